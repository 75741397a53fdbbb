import PyProof.Rows.All
import Wide.All
import OpenK.AllK
import Wide.FinOn
import HandS.ForMost
import HandS.OwnEq
import HandS.Property
import HandS.Defaults
import HandS.IsInst
import HandS.Codes
import HandS.Wide
import HandS.Flow
import HandS.SetFor
import HandS.Style
import PyProof.InstNe
import HandS.FStr
import HandS.Star
import HandS.Deep
import HandS.Zip
import HandS.Walk
import HandS.ClsMeth
import KE.GoesMore
import KE.GoesEnum
import HandS.Iter
import KE.KRevSl
import HandS.Records
import HandS.WideBits
import HandS.TupAny
import HandS.Rev
import PyProof.FString3
import PyProof.Rows.StrIntSpec
import HandS.DictComp
import HandS.TupSets
import HandS.ListItems
import KE.KSortedM
import PySem.Challenge.RW_underwords_k02_whole_polys_reckoned
set_option Elab.async false
set_option maxRecDepth 100000
set_option maxHeartbeats 8000000
namespace Ow
open PySem PySem.Spec PyProof.Rows
open PySem.W (findIn isFn InstAt looks_findIn special_fn ifBound_K truthy_K CmpBack BoolBack)
section
variable {prog : Program} {w : World} {A : Around} {E : Value → Shared → Prop} {s : Shared} {K : PySem.W.Frag} {x y C f : Addr} {ox : Obj} {od : Option Obj}
/-- object's own unequal, over the text's equal -/
theorem objNe (X : K.In s.heap) (I : InstAt s.heap x ox C od) (hs : findIn K (.ref C) "__eq__" = some (some (.ref f))) (hf : isFn K (.ref f) = true) (hu : A.units < cLine) {Q : Fin → Shared → Prop}
    (hc : wpAny (model prog w) A (call (.ref f) [.ref x, .ref y]) (fun v s' => ∃ b, v = .bool b ∧ Q (.done (.ret (.bool (!b)))) s') E s) :
    wpAny (model prog w) A (Builtin.«object.__ne__» ⟨[.ref x, .ref y], []⟩) Q E s := by
  obtain ⟨hp, g, d, tk, os⟩ := s
  unfold Builtin.«object.__ne__»
  repeat (first
    | with_reducible refine wpAny_cRoomFor hu ?_
    | (refine wpAny_bind (m := callSpecialIfBound? (.ref x) (Str.ofString "__eq__") [.ref y])
        (ifBound_K X I hs hf (wpAny_mono hc (fun r s' hr => by
          obtain ⟨b, rfl, hq⟩ := hr
          repeat (first | exact hq | exact wpAny_pure hq | exact wpAny_truthy_bool hq | (refine wpAny_bind (m := truthy (.bool _)) (wpAny_truthy_bool ?_)) | wp_step)) fun _ _ e => e)))
    | wp_step)
theorem tryNe (X : K.In s.heap) (I : InstAt s.heap x ox C od) (hn : findIn K (.ref C) "__ne__" = some (some (.builtin "object.__ne__"))) (hs : findIn K (.ref C) "__eq__" = some (some (.ref f))) (hf : isFn K (.ref f) = true)
    (hb : PySem.W.mroIn K C (.type "object") = some true) (hu : A.units + 1 < cLine) {Q : Option Value → Shared → Prop}
    (hc : wpAny (model prog w) A.in1 (call (.ref f) [.ref x, .ref y]) (fun v s' => ∃ b, v = .bool b ∧ Q (some (.bool (!b))) s') E s) :
    wpAny (model prog w) A (tryCompare (.ref x) "__ne__" (.ref y)) Q E s := by
  simp only [tryCompare]
  have hcall : wpAny (model prog w) A (call (.builtin "object.__ne__") (.ref x :: [.ref y])) (fun v s' => ∃ b, v = .bool b ∧ Q (some (.bool b)) s') E s := by
    refine wpAny_call (codeAny_call_builtin PySem.F.cmp_object.ne.plain PySem.F.cmpEntry_ne ?_)
    refine PySem.W.check_slot PySem.F.cmpKind_ne PySem.F.cmpSplit_ne ?_ (PySem.F.cmpArgs_ne _ _) ?_
    · exact I.type.andThen (PySem.W.looks_mroIn X hb)
    · refine objNe (A := A.in1) X I hs hf hu (wpAny_mono hc (fun v s' hv => ?_) fun _ _ e => e)
      obtain ⟨b, rfl, hq⟩ := hv
      exact ⟨b, rfl, ⟨_, rfl, hq⟩⟩
  refine wpAny_bind ?_
  simp only [callSpecialIfBound?, bindSpecialIfBound?]
  refine wpAny_holding (wpAny_bind (wpAny_bind (wpAny_bind (I.type.here ((looks_findIn X hn).here ?_)))))
  simp only [PySem.F.cmp_object.ne.bind]
  refine wpAny_bind (wpAny_askSetting (wpAny_ite ?_))
  have fin : wpAny (model prog w) A (call (.builtin "object.__ne__") ([.ref x] ++ [.ref y]) >>= fun v => pure (some v)) (fun r s' => ∃ b, r = some (.bool b) ∧ Q (some (.bool b)) s') E s :=
    wpAny_bind (wpAny_mono hcall (fun v s' ⟨b, e, q⟩ => wpAny_pure ⟨b, by rw [e], q⟩) fun _ _ h' => h')
  have fin2 : wpAny (model prog w) A (call (.builtin "object.__ne__") ([.ref x] ++ [.ref y]) >>= fun v => pure (some v)) (fun a s' => wpAny (model prog w) A (match a with | some Value.notImplemented => pure none | none => pure none | some r => pure (some r)) Q E s') E s :=
    wpAny_mono fin (fun r s' ⟨b, e, q⟩ => by rw [e]; exact wpAny_pure q) fun _ _ h' => h'
  split
  · exact wpAny_bind (wpAny_pure (wpAny_pure fin2))
  · exact wpAny_tryCatch (wpAny_bind (wpAny_pure (wpAny_pure fin2)))
theorem neq_own (X : K.In s.heap) (I : InstAt s.heap x ox C od) {oy : Obj} {ody : Option Obj} (J : InstAt s.heap y oy C ody) (hn : findIn K (.ref C) "__ne__" = some (some (.builtin "object.__ne__"))) (hs : findIn K (.ref C) "__eq__" = some (some (.ref f))) (hf : isFn K (.ref f) = true)
    (hb : PySem.W.mroIn K C (.type "object") = some true) (hu : A.units + 1 < cLine) {Q : Value → Shared → Prop}
    (hc : wpAny (model prog w) A.in1 (call (.ref f) [.ref x, .ref y]) (fun v s' => ∃ b, v = .bool b ∧ Q (.bool (!b)) s') E s) :
    wpAny (model prog w) A (compareOp .NotEq (.ref x) (.ref y)) Q E s := by
  unfold compareOp richCompare
  simp only [oneThing_ref]
  refine wpAny_holding ?_
  refine wpAny_bind (wpAny_cRoomFor (Nat.lt_of_succ_lt hu) ?_)
  rw [cmpInfo_NotEq]
  dsimp only
  refine wpAny_bind (I.type.here (wpAny_bind (J.type.here ?_)))
  rw [show (Value.ref C != Value.ref C) = false from by simp]
  simp only [Bool.false_eq_true, if_false]
  refine wpAny_bind (wpAny_pure ?_)
  simp only [Bool.false_eq_true, if_false]
  refine wpAny_bind (tryNe X I hn hs hf hb hu (wpAny_mono hc (fun v s' hv => ?_) fun _ _ e => e))
  obtain ⟨b, rfl, hq⟩ := hv
  exact ⟨b, rfl, wpAny_pure hq⟩
/-- bool(x) by an own __bool__ -/
theorem bool_own (X : K.In s.heap) (I : InstAt s.heap x ox C od) (hs : findIn K (.ref C) "__bool__" = some (some (.ref f))) (hf : isFn K (.ref f) = true) {Q : Value → Shared → Prop}
    (h : wpAny (model prog w) A.in1.in1 (call (.ref f) [.ref x]) (fun v s' => ∃ b, v = .bool b ∧ Q (.bool b) s') E s) : wpAny (model prog w) A (call (.type "bool") [.ref x]) Q E s := by
  refine callType_codes (T := "bool") (Bi := Builtin.«object.__init__») (Q₁ := fun r s₁ => ∃ b, r = Value.bool b ∧ Q r s₁) PySem.F.called_bool (PySem.F.typeCall_bool_1 _) PySem.F.entry_object_init ?_ ?_
  · refine codeAny_of_tree ?_
    show wpAny _ A.in1.in1 (do checkBuiltinCall "bool.__new__" ⟨[.type "bool", .ref x], []⟩; again (.builtin "bool.__new__" ⟨[.type "bool", .ref x], []⟩)) _ _ s
    refine wpAny_bind (wpAny_of_eq (PySem.F.newCall_bool_1 _) (wpAny_pure ⟨plainId_quiet (by decide +kernel) _, codeAny_builtin PySem.F.entry_bool_new ?_⟩))
    rw [Around.under_plainId (by decide +kernel) _]
    unfold Builtin.«bool.__new__»
    refine wpAny_bind (wpAny_of_eq (a := true) (by kernel_rfl) ?_)
    refine PySem.W.KFB.if_not rfl ?_
    refine wpAny_bind (wpAny_of_eq (a := true) PySem.F.conv_sub_bool ?_)
    refine PySem.W.KFB.if_not rfl ?_
    refine wpAny_bind (wpAny_of_eq (a := [.ref x]) rfl ?_)
    refine wpAny_bind ?_
    unfold truthy
    refine wpAny_bind (m := callSpecial? (.ref x) (Str.ofString "__bool__")) (special_fn X I hs (beq_iff_eq.mp hf) (wpAny_mono h (fun r s' hr => ?_) fun _ _ y => y))
    obtain ⟨b, rfl, hq⟩ := hr
    exact wpAny_pure (wpAny_pure ⟨b, rfl, hq⟩)
  · rintro obj s₁ ⟨b, rfl, hq⟩
    exact ⟨PySem.typeIs_bool _ _, PySem.F.args_object_init_2 _ _, object_init_meets PySem.F.called_bool.init.lookup PySem.F.called_bool.made (by decide) prog w A.in1 _ s₁ ⟨PySem.typeIs_bool _ _, rfl, hq⟩⟩
end
end Ow

namespace Ow
open PySem PySem.Spec PyProof.Rows L2
/-- the class at C as these rules want it -/
structure OCls (K : PySem.W.Frag) (C : Addr) : Prop where
  first : PySem.W.selfFirst K C = true
  ob : PySem.W.mroIn K C (.type "object") = some true
  ne : PySem.W.findIn K (.ref C) "__ne__" = some (some (.builtin "object.__ne__"))
  nf : PySem.W.notFirst K C (.ref C) = true
/-- a method at f under the name m -/
structure OM (K : PySem.W.Frag) (C : Addr) (m : Str) (f : Addr) : Prop where
  at_ : PySem.W.findIn K (.ref C) m = some (some (.ref f))
  fn : PySem.W.isFn K (.ref f) = true
section
variable {X : Cx} {CX : CXT} {C f : Addr} {n : Nat} {fd : FuncData} {ps : List Str} {sp : Sp} {E : XK}
theorem cback {P : Value → Shared → Prop} {z : V} {v : Value} {s' : Shared} (r : RelV z v) (h : P v s') : PySem.W.CmpBack P v s' := by
  cases z <;> first | (obtain ⟨t, e⟩ := r; subst e; exact h) | (have e := r; simp only [L2.RelV] at e; subst e; exact h)
/-- the called def, some level below -/
theorem run_in {pins : List (Addr × Obj)} {σ : L2.St} {H : Hp} {s : Shared} {A : Around} {Q : VK} {us : List Value} {ws : List V} (F : FnOk X.prog X.w X.K X.mg X.base CX n f fd ps sp) (hr : Room n A) (e0 : Env0 X.prog X.w X.K X.mg X.base A X.stack s H)
    (hb : Binds X.K fd ps []) (hx : Passes CX X E) (I : Inv X pins σ H s) (r : Vals ws us) (h : sp ws H Q E) : wpAny (model X.prog X.w) A (call (.ref f) us) (EP X pins σ Q) X.xe s := by
  have hl : us.length = ps.length := by rw [← r.length]; exact F.len _ _ _ _ h
  have hb2 := hb s us I.kIn (by simpa using hl)
  simp only [List.append_nil] at hb2
  refine wpAny_call (codeAny_mono (F.run A X.stack s H ⟨us, []⟩ us ws Q E hr e0 hb2 r h) fun r s' hq => ?_)
  cases r with
  | error e => exact hx pins σ H s e s' I hq
  | ok fl =>
    cases fl with
    | ret u => exact I.after hq
    | next => exact False.elim hq
    | brk => exact False.elim hq
    | cont => exact False.elim hq
/-- x op y of two instances of one class -/
def rBin (C : Addr) (sp : Sp) (E : XK) : R2 := fun x y H Q => ∃ a b dx fs dy gs, x = .ref a ∧ y = .ref b ∧ H a = some (.ins C dx fs) ∧ H b = some (.ins C dy gs) ∧ sp [.ref a, .ref b] H Q E
theorem op_bin {op : Operator} (oc : OCls X.K C) (om : OM X.K C (PySem.dunder op.info.2) f) (F : FnOk X.prog X.w X.K X.mg X.base CX n f fd ps sp) (hr : Room n X.A) (hb : Binds X.K fd ps []) (hx : Passes CX X E) :
    OpR X (binaryOp op) (rBin C sp E) := by
  intro pins s σ H x y v u Q I rx ry h
  obtain ⟨a, b, dx, fs, dy, gs, rfl, rfl, ha, hb', q⟩ := h
  cases rx
  cases ry
  obtain ⟨mA, J, _⟩ := ins_get I.hok ha
  obtain ⟨mB, J', _⟩ := ins_get I.hok hb'
  obtain ⟨od, J, _⟩ := J.look
  obtain ⟨od', J', _⟩ := J'.look
  obtain ⟨m, hF⟩ := I.fr
  refine PySem.W.binop_K hF I.ok.mod.kin J J'.type oc.first om.at_ om.fn ?_
  refine wpAny_mono (run_in (us := [.ref a, .ref b]) (ws := [.ref a, .ref b]) F hr I.env0 hb hx I (.cons rfl (.cons rfl .nil)) q) (fun w s' ⟨z, H', I', rz, qz⟩ => cback rz ⟨z, H', I', rz, qz⟩) fun _ _ e => e
/-- x == y -/
theorem op_eqO (oc : OCls X.K C) (om : OM X.K C "__eq__" f) (F : FnOk X.prog X.w X.K X.mg X.base CX n f fd ps sp) (hr : Room n X.A) (hb : Binds X.K fd ps []) (hx : Passes CX X E) : OpR X (compareOp .Eq) (rBin C sp E) := by
  intro pins s σ H x y v u Q I rx ry h
  obtain ⟨a, b, dx, fs, dy, gs, rfl, rfl, ha, hb', q⟩ := h
  cases rx
  cases ry
  obtain ⟨mA, J, _⟩ := ins_get I.hok ha
  obtain ⟨mB, J', _⟩ := ins_get I.hok hb'
  obtain ⟨od, J, _⟩ := J.look
  obtain ⟨od', J', _⟩ := J'.look
  obtain ⟨m, hF⟩ := I.fr
  show wpAny _ _ (richCompare .Eq _ _) _ _ _
  refine PySem.W.cmp_K (op := .Eq) (tb := .ref C) hr.units0 hF I.ok.mod.kin J J'.type oc.nf om.at_ om.fn ?_
  refine wpAny_mono (run_in (us := [.ref a, .ref b]) (ws := [.ref a, .ref b]) F hr I.env0 hb hx I (.cons rfl (.cons rfl .nil)) q) (fun w s' ⟨z, H', I', rz, qz⟩ => cback rz ⟨z, H', I', rz, qz⟩) fun _ _ e => e
/-- x != y, by an own equal that answers a bool -/
def rBinN (C : Addr) (sp : Sp) (E : XK) : R2 := fun x y H Q => ∃ a b dx fs dy gs, x = .ref a ∧ y = .ref b ∧ H a = some (.ins C dx fs) ∧ H b = some (.ins C dy gs) ∧ sp [.ref a, .ref b] H (fun z H' => ∃ k, z = .bl k ∧ Q (.bl (!k)) H') E
theorem op_neO (oc : OCls X.K C) (om : OM X.K C "__eq__" f) (F : FnOk X.prog X.w X.K X.mg X.base CX n f fd ps sp) (hr : Room (n + 1) X.A) (hb : Binds X.K fd ps []) (hx : Passes CX X E) : OpR X (compareOp .NotEq) (rBinN C sp E) := by
  intro pins s σ H x y v u Q I rx ry h
  obtain ⟨a, b, dx, fs, dy, gs, rfl, rfl, ha, hb', q⟩ := h
  cases rx
  cases ry
  obtain ⟨mA, J, _⟩ := ins_get I.hok ha
  obtain ⟨mB, J', _⟩ := ins_get I.hok hb'
  obtain ⟨od, J, _⟩ := J.look
  obtain ⟨od', J', _⟩ := J'.look
  refine neq_own I.kIn J J' oc.ne om.at_ om.fn oc.ob (hu_of hr) ?_
  refine wpAny_mono (run_in (us := [.ref a, .ref b]) (ws := [.ref a, .ref b]) F hr.in1 I.env0.in1 hb hx I (.cons rfl (.cons rfl .nil)) q) (fun w s' ⟨z, H', I', rz, k, ez, qz⟩ => ?_) fun _ _ e => e
  subst ez
  exact ⟨k, rz, .bl (!k), H', I', rfl, qz⟩
/-- -x -/
def rNegO (C : Addr) (sp : Sp) (E : XK) : V → Hp → VK → Prop := fun x H Q => ∃ a dx fs, x = .ref a ∧ H a = some (.ins C dx fs) ∧ sp [.ref a] H Q E
theorem un_negO (om : OM X.K C "__neg__" f) (F : FnOk X.prog X.w X.K X.mg X.base CX n f fd ps sp) (hr : Room n X.A) (hb : Binds X.K fd ps []) (hx : Passes CX X E) : UnR X (unaryOp .USub) (rNegO C sp E) := by
  intro pins s σ H x v Q I rx h
  obtain ⟨a, dx, fs, rfl, ha, q⟩ := h
  cases rx
  obtain ⟨mA, J, _⟩ := ins_get I.hok ha
  obtain ⟨od, J, _⟩ := J.look
  obtain ⟨m, hF⟩ := I.fr
  refine PySem.W.ksp_neg hF I.ok.mod.kin J om.at_ om.fn ?_
  exact run_in (us := [.ref a]) (ws := [.ref a]) F hr I.env0 hb hx I (.cons rfl .nil) q
/-- bool(x) by an own __bool__ -/
def rBoolO (C : Addr) (sp : Sp) (E : XK) : List V → Hp → VK → Prop := fun xs H Q => ∃ a dx fs, xs = [.ref a] ∧ H a = some (.ins C dx fs) ∧ sp [.ref a] H (fun z H' => ∃ k, z = .bl k ∧ Q (.bl k) H') E
theorem call_boolO (om : OM X.K C "__bool__" f) (F : FnOk X.prog X.w X.K X.mg X.base CX n f fd ps sp) (hr : Room (n + 2) X.A) (hb : Binds X.K fd ps []) (hx : Passes CX X E) : CallR X (.type "bool") (rBoolO C sp E) := by
  intro pins s σ H xs us Q I r h
  obtain ⟨a, dx, fs, rfl, ha, q⟩ := h
  obtain ⟨u, rfl, ru⟩ := vals1 r
  cases ru
  obtain ⟨mA, J, _⟩ := ins_get I.hok ha
  obtain ⟨od, J, _⟩ := J.look
  have hr2 : Room n X.A.in1.in1 := (show Room (n + 1) X.A.in1 from Room.in1 hr).in1
  refine bool_own I.kIn J om.at_ om.fn ?_
  refine wpAny_mono (run_in (us := [.ref a]) (ws := [.ref a]) F hr2 I.env0.in1.in1 hb hx I (.cons rfl .nil) q) (fun w s' ⟨z, H', I', rz, k, ez, qz⟩ => ?_) fun _ _ e => e
  subst ez
  exact ⟨k, rz, .bl k, H', I', rfl, qz⟩
/-- powers with a large base -/
def CPowW (i j : Int) : Prop := 0 ≤ j ∧ (Builtin.Int.intBits i : Int) * j ≤ 2 ^ 27
theorem op_powW : OpR X (binaryOp .Pow) (rI CPowW fun i j => .int (i ^ j.toNat)) := by
  intro pins s σ H x y v u Q I rx ry h
  obtain ⟨i, j, rfl, rfl, hc, q⟩ := h
  obtain ⟨t, rfl⟩ := rx
  obtain ⟨t', rfl⟩ := ry
  exact pow_int hc.1 hc.2 ⟨.int _, H, I.tok _, ⟨_, rfl⟩, q⟩
end
/-! ### a def of the module by its promise -/
/-- the def under the name x keeps the promise sp, by at most level k -/
structure Cal (P : Program) (w : World) (K : PySem.W.Frag) (mg : Str → Option Value) (base : Heap) (x : Str) (k : Nat) (sp : Sp) : Prop where
  ex : ∃ f fd ps, FnOk P w K mg base CX0 k f fd ps sp ∧ mg x = some (.ref f) ∧ PySem.W.keepIn K (.ref f) = true ∧ Binds K fd ps []
section
variable {X : Cx} {x : Str} {k : Nat} {sp : Sp} {e : Expr} {es : List Expr} {t : TA} {p pos : Pos}
theorem pe_cal (C : Cal X.prog X.w X.K X.mg X.base x k sp) (hr : Room k X.A) (hg : Gl X x) (ha : PA X (e :: es) t) (hdb : (x == ("__debug__" : Str)) = false := by decide)
    (he : starEach (e :: es) X.env = (false, eval e X.env) :: starEach es X.env := by rfl) (hpl : (backTo pos (starEach es X.env)).any (·.1) = false := by rfl) : PE X (.Call (.Name x p) (e :: es) [] pos) (tCall sp [] E0 t) := by
  obtain ⟨f, fd, ps, F, hm, hk, hb⟩ := C.ex
  exact pe_call F hr hg hm hk hb .nil pass0 ha hdb he hpl
theorem pe_cal0 (C : Cal X.prog X.w X.K X.mg X.base x k sp) (hr : Room k X.A) (hg : Gl X x) (hdb : (x == ("__debug__" : Str)) = false := by decide) : PE X (.Call (.Name x p) [] [] pos) (tCall sp [] E0 tNil) := by
  obtain ⟨f, fd, ps, F, hm, hk, hb⟩ := C.ex
  exact pe_call0 F hr hg hm hk hb .nil pass0 hdb
end
end Ow

namespace Ow
open PySem PySem.Spec PyProof.Rows L2
section
variable {X : Cx} {CX : CXT} {C f : Addr} {n : Nat} {fd : FuncData} {ps : List Str} {sp : Sp} {E : XK}
/-- str(x) by an own __str__ -/
def rStrO (C : Addr) (sp : Sp) (E : XK) : List V → Hp → VK → Prop := fun xs H Q => ∃ a dx fs, xs = [.ref a] ∧ H a = some (.ins C dx fs) ∧ sp [.ref a] H (fun z H' => ∃ y, z = .str y ∧ Q (.str y) H') E
theorem call_strO (om : OM X.K C "__str__" f) (F : FnOk X.prog X.w X.K X.mg X.base CX n f fd ps sp) (hr : Room (n + 2) X.A) (hb : Binds X.K fd ps []) (hx : Passes CX X E) : CallR X (.type "str") (rStrO C sp E) := by
  intro pins s σ H xs us Q I r h
  obtain ⟨a, dx, fs, rfl, ha, q⟩ := h
  obtain ⟨u, rfl, ru⟩ := vals1 r
  cases ru
  obtain ⟨mA, J, _⟩ := ins_get I.hok ha
  obtain ⟨od, J, _⟩ := J.look
  have hr2 : Room n X.A.in1.in1 := (show Room (n + 1) X.A.in1 from Room.in1 hr).in1
  refine PySem.W.kso_call hr2.units0 I.kIn J om.at_ om.fn ?_
  refine wpAny_mono (run_in (us := [.ref a]) (ws := [.ref a]) F hr2 I.env0.in1.in1 hb hx I (.cons rfl .nil) q) (fun w s' ⟨z, H', I', rz, y, ez, qz⟩ => ?_) fun _ _ e => e
  subst ez
  obtain ⟨t, rfl⟩ := rz
  exact ⟨.str y, H', I', ⟨t, rfl⟩, qz⟩
/-- a text of parts, by a name -/
def tJn (ts : List TE) : TE := fun σ H Q => tJs ts Str.empty σ H fun out H1 => Q (.str out) H1
theorem pe_fstr {v1 v2 : Expr} {rest : List Expr} {ts : List TE} {pos : Pos} (h : PJ X (v1 :: v2 :: rest) ts) : PE X (.JoinedStr (v1 :: v2 :: rest) pos) (tJn ts) := pe_joined h
theorem u65 {A : Around} {k : Nat} (hr : Room k A) : A.units + 65 < cLine := by
  have := hr.un
  omega
def rInT (K : PySem.W.Frag) : R2 := fun x y H Q => ∃ d ds, Dp K H x d ∧ Dp K H y (.tuple ds) ∧ SeqAt.shaped d = true ∧ SeqAt.shaped (.tuple ds) = true ∧ Q (.bl (ds.any fun z => PyData.eqv z d)) H
theorem op_inT (hu : X.A.units + 65 < cLine) : OpR X (compareOp .In) (rInT X.K) := by
  intro pins s σ H x y v u Q I rx ry h
  obtain ⟨d, ds, hd, he, sd, se, q⟩ := h
  obtain ⟨as, r1⟩ := Dp.reads I d x v hd rx
  obtain ⟨bs, r2⟩ := Dp.reads I (.tuple ds) y u he ry
  exact SeqAt.in_tuple_reads r2 r1 (SeqAt.canLay_of_shaped se) (SeqAt.canLay_of_shaped sd) (room_in_shaped (xs := ds) sd hu) ⟨.bl _, H, I, rfl, q⟩
end
end Ow

namespace Ow
open PySem PySem.Spec PyProof.Rows
open PySem.W (findIn isFn InstAt looks_findIn special_fn ifBound_K)
section
variable {prog : Program} {w : World} {A : Around} {E : Value → Shared → Prop} {s : Shared} {K : PySem.W.Frag} {x C f : Addr} {y tb : Value} {ox : Obj} {od : Option Obj}
theorem objNeV (X : K.In s.heap) (I : InstAt s.heap x ox C od) (hs : findIn K (.ref C) "__eq__" = some (some (.ref f))) (hf : isFn K (.ref f) = true) (hu : A.units < cLine) {Q : Fin → Shared → Prop}
    (hc : wpAny (model prog w) A (call (.ref f) [.ref x, y]) (fun v s' => ∃ b, v = .bool b ∧ Q (.done (.ret (.bool (!b)))) s') E s) :
    wpAny (model prog w) A (Builtin.«object.__ne__» ⟨[.ref x, y], []⟩) Q E s := by
  obtain ⟨hp, g, d, tk, os⟩ := s
  unfold Builtin.«object.__ne__»
  repeat (first
    | with_reducible refine wpAny_cRoomFor hu ?_
    | (refine wpAny_bind (m := callSpecialIfBound? (.ref x) (Str.ofString "__eq__") [y])
        (ifBound_K X I hs hf (wpAny_mono hc (fun r s' hr => by
          obtain ⟨b, rfl, hq⟩ := hr
          repeat (first | exact hq | exact wpAny_pure hq | exact wpAny_truthy_bool hq | (refine wpAny_bind (m := truthy (.bool _)) (wpAny_truthy_bool ?_)) | wp_step)) fun _ _ e => e)))
    | wp_step)
theorem tryNeV (X : K.In s.heap) (I : InstAt s.heap x ox C od) (hn : findIn K (.ref C) "__ne__" = some (some (.builtin "object.__ne__"))) (hs : findIn K (.ref C) "__eq__" = some (some (.ref f))) (hf : isFn K (.ref f) = true)
    (hb : PySem.W.mroIn K C (.type "object") = some true) (hu : A.units + 1 < cLine) {Q : Option Value → Shared → Prop}
    (hc : wpAny (model prog w) A.in1 (call (.ref f) [.ref x, y]) (fun v s' => ∃ b, v = .bool b ∧ Q (some (.bool (!b))) s') E s) :
    wpAny (model prog w) A (tryCompare (.ref x) "__ne__" y) Q E s := by
  simp only [tryCompare]
  have hcall : wpAny (model prog w) A (call (.builtin "object.__ne__") (.ref x :: [y])) (fun v s' => ∃ b, v = .bool b ∧ Q (some (.bool b)) s') E s := by
    refine wpAny_call (codeAny_call_builtin PySem.F.cmp_object.ne.plain PySem.F.cmpEntry_ne ?_)
    refine PySem.W.check_slot PySem.F.cmpKind_ne PySem.F.cmpSplit_ne ?_ (PySem.F.cmpArgs_ne _ _) ?_
    · exact I.type.andThen (PySem.W.looks_mroIn X hb)
    · refine objNeV (A := A.in1) X I hs hf hu (wpAny_mono hc (fun v s' hv => ?_) fun _ _ e => e)
      obtain ⟨b, rfl, hq⟩ := hv
      exact ⟨b, rfl, ⟨_, rfl, hq⟩⟩
  refine wpAny_bind ?_
  simp only [callSpecialIfBound?, bindSpecialIfBound?]
  refine wpAny_holding (wpAny_bind (wpAny_bind (wpAny_bind (I.type.here ((looks_findIn X hn).here ?_)))))
  simp only [PySem.F.cmp_object.ne.bind]
  refine wpAny_bind (wpAny_askSetting (wpAny_ite ?_))
  have fin : wpAny (model prog w) A (call (.builtin "object.__ne__") ([.ref x] ++ [y]) >>= fun v => pure (some v)) (fun r s' => ∃ b, r = some (.bool b) ∧ Q (some (.bool b)) s') E s :=
    wpAny_bind (wpAny_mono hcall (fun v s' ⟨b, e, q⟩ => wpAny_pure ⟨b, by rw [e], q⟩) fun _ _ h' => h')
  have fin2 : wpAny (model prog w) A (call (.builtin "object.__ne__") ([.ref x] ++ [y]) >>= fun v => pure (some v)) (fun a s' => wpAny (model prog w) A (match a with | some Value.notImplemented => pure none | none => pure none | some r => pure (some r)) Q E s') E s :=
    wpAny_mono fin (fun r s' ⟨b, e, q⟩ => by rw [e]; exact wpAny_pure q) fun _ _ h' => h'
  split
  · exact wpAny_bind (wpAny_pure (wpAny_pure fin2))
  · exact wpAny_tryCatch (wpAny_bind (wpAny_pure (wpAny_pure fin2)))
theorem neq_other {T : String} (X : K.In s.heap) (I : InstAt s.heap x ox C od) (J : PySem.W.Looks (model prog w) s.heap (typeOf y) (.type T)) (nf : PySem.W.subIn K (.type T) (.ref C) = some false) (hn : findIn K (.ref C) "__ne__" = some (some (.builtin "object.__ne__"))) (hs : findIn K (.ref C) "__eq__" = some (some (.ref f))) (hf : isFn K (.ref f) = true)
    (hb : PySem.W.mroIn K C (.type "object") = some true) (hu : A.units + 1 < cLine) {Q : Value → Shared → Prop}
    (hc : wpAny (model prog w) A.in1 (call (.ref f) [.ref x, y]) (fun v s' => ∃ b, v = .bool b ∧ Q (.bool (!b)) s') E s) :
    wpAny (model prog w) A (compareOp .NotEq (.ref x) y) Q E s := by
  unfold compareOp richCompare
  simp only [oneThing_ref]
  refine wpAny_holding ?_
  refine wpAny_bind (wpAny_cRoomFor (Nat.lt_of_succ_lt hu) ?_)
  rw [cmpInfo_NotEq]
  dsimp only
  refine wpAny_bind (I.type.here (wpAny_bind (J.here ?_)))
  rw [show (Value.ref C != Value.type T) = true from by simp]
  simp only [if_true]
  refine wpAny_bind ((PySem.W.looks_subIn X nf).here ?_)
  simp only [Bool.false_eq_true, if_false]
  refine wpAny_bind (tryNeV X I hn hs hf hb hu (wpAny_mono hc (fun v s' hv => ?_) fun _ _ e => e))
  obtain ⟨b, rfl, hq⟩ := hv
  exact ⟨b, rfl, wpAny_pure hq⟩
end
end Ow
namespace Ow
open PySem PySem.Spec PyProof.Rows L2
section
variable {X : Cx} {CX : CXT} {C f : Addr} {n : Nat} {fd : FuncData} {ps : List Str} {sp : Sp} {E : XK}
/-- x == y, y of a built-in class -/
def rBinX (K : PySem.W.Frag) (C : Addr) (sp : Sp) (E : XK) : R2 := fun x y H Q => ∃ a dx fs T, x = .ref a ∧ H a = some (.ins C dx fs) ∧ TyX K H y (.type T) ∧ PySem.W.subIn K (.type T) (.ref C) = some false ∧ sp [.ref a, y] H Q E
theorem nf_of {K : PySem.W.Frag} {T : String} (h : PySem.W.subIn K (.type T) (.ref C) = some false) : PySem.W.notFirst K C (.type T) = true := by
  unfold PySem.W.notFirst
  rw [h]
  simp
theorem op_eqX (om : OM X.K C "__eq__" f) (F : FnOk X.prog X.w X.K X.mg X.base CX n f fd ps sp) (hr : Room n X.A) (hb : Binds X.K fd ps []) (hx : Passes CX X E) : OpR X (compareOp .Eq) (rBinX X.K C sp E) := by
  intro pins s σ H x y v u Q I rx ry h
  obtain ⟨a, dx, fs, T, rfl, ha, ty, nf, q⟩ := h
  cases rx
  obtain ⟨mA, J, _⟩ := ins_get I.hok ha
  obtain ⟨od, J, _⟩ := J.look
  obtain ⟨m, hF⟩ := I.fr
  obtain ⟨Pu, Z, pu, _⟩ := kit_of I ry ty
  show wpAny _ _ (richCompare .Eq _ _) _ _ _
  refine PySem.W.cmp_K (op := .Eq) (tb := .type T) hr.units0 hF I.ok.mod.kin J (Z.ty _ _ I.kIn pu) (nf_of nf) om.at_ om.fn ?_
  refine wpAny_mono (run_in (us := [.ref a, u]) (ws := [.ref a, y]) F hr I.env0 hb hx I (.cons rfl (.cons ry .nil)) q) (fun w s' ⟨z, H', I', rz, qz⟩ => cback rz ⟨z, H', I', rz, qz⟩) fun _ _ e => e
def rBinNX (K : PySem.W.Frag) (C : Addr) (sp : Sp) (E : XK) : R2 := fun x y H Q => ∃ a dx fs T, x = .ref a ∧ H a = some (.ins C dx fs) ∧ TyX K H y (.type T) ∧ PySem.W.subIn K (.type T) (.ref C) = some false ∧ sp [.ref a, y] H (fun z H' => ∃ k, z = .bl k ∧ Q (.bl (!k)) H') E
theorem op_neX (oc : OCls X.K C) (om : OM X.K C "__eq__" f) (F : FnOk X.prog X.w X.K X.mg X.base CX n f fd ps sp) (hr : Room (n + 1) X.A) (hb : Binds X.K fd ps []) (hx : Passes CX X E) : OpR X (compareOp .NotEq) (rBinNX X.K C sp E) := by
  intro pins s σ H x y v u Q I rx ry h
  obtain ⟨a, dx, fs, T, rfl, ha, ty, nf, q⟩ := h
  cases rx
  obtain ⟨mA, J, _⟩ := ins_get I.hok ha
  obtain ⟨od, J, _⟩ := J.look
  obtain ⟨Pu, Z, pu, _⟩ := kit_of I ry ty
  refine neq_other I.kIn J (Z.ty _ _ I.kIn pu) nf oc.ne om.at_ om.fn oc.ob (hu_of hr) ?_
  refine wpAny_mono (run_in (us := [.ref a, u]) (ws := [.ref a, y]) F hr.in1 I.env0.in1 hb hx I (.cons rfl (.cons ry .nil)) q) (fun w s' ⟨z, H', I', rz, k, ez, qz⟩ => ?_) fun _ _ e => e
  subst ez
  exact ⟨k, rz, .bl (!k), H', I', rfl, qz⟩
end
end Ow

namespace Pk
/-- the value of a row of integers at B -/
def ev (B : Int) : List Int → Int
  | [] => 0
  | c :: cs => c + B * ev B cs
theorem ev_append (B : Int) : ∀ a b : List Int, ev B (a ++ b) = ev B a + B ^ a.length * ev B b
  | [], b => by simp [ev]
  | c :: cs, b => by
    rw [List.cons_append, ev, ev, ev_append B cs b, List.length_cons, Int.pow_succ, Int.mul_add, Int.mul_comm (B ^ cs.length) B, Int.mul_assoc, Int.add_assoc]
theorem ev_split (B : Int) (n : Nat) (a : List Int) (h : n ≤ a.length) : ev B a = ev B (a.take n) + B ^ n * ev B (a.drop n) := by
  have := ev_append B (a.take n) (a.drop n)
  rw [List.take_append_drop, List.length_take, Nat.min_eq_left h] at this
  exact this
/-- all integers of the row are small for B: twice each lies inside B -/
def Sm (B : Int) (d : List Int) : Prop := ∀ c ∈ d, -B < 2 * c ∧ 2 * c < B
theorem ev_small {B : Int} (hB : 2 ≤ B) : ∀ {d : List Int}, Sm B d → -(B ^ d.length) < 2 * ev B d ∧ 2 * ev B d < B ^ d.length
  | [], _ => by simp [ev]
  | c :: cs, h => by
    obtain ⟨l, u⟩ := ev_small hB (d := cs) fun x m => h x (List.mem_cons_of_mem _ m)
    obtain ⟨cl, cu⟩ := h c List.mem_cons_self
    rw [ev, List.length_cons, Int.pow_succ]
    have e : 2 * (c + B * ev B cs) = 2 * c + B * (2 * ev B cs) := by
      rw [Int.mul_add, ← Int.mul_assoc, Int.mul_comm 2 B, Int.mul_assoc]
    rw [e, Int.mul_comm (B ^ cs.length) B]
    have h1 : B * (2 * ev B cs) ≤ B * (B ^ cs.length - 1) := Int.mul_le_mul_of_nonneg_left (by omega) (by omega)
    have h2 : B * (-(B ^ cs.length) + 1) ≤ B * (2 * ev B cs) := Int.mul_le_mul_of_nonneg_left (by omega) (by omega)
    rw [Int.mul_sub] at h1
    rw [Int.mul_add, Int.mul_neg] at h2
    constructor <;> omega
/-- the low part of a number, signed, as the program gets it -/
def lowS (N H : Int) : Int := if H ≤ 2 * (N % H) then N % H - H else N % H
theorem lowS_eq {N H l r : Int} (hH : 0 < H) (e : N = l + H * r) (l1 : -H < 2 * l) (l2 : 2 * l < H) : lowS N H = l := by
  unfold lowS
  have hm : N % H = l % H := by rw [e, Int.add_mul_emod_self_left]
  rw [hm]
  by_cases hl : 0 ≤ l
  · rw [Int.emod_eq_of_lt hl (by omega), if_neg (by omega)]
  · have : l % H = l + H := by
      have h1 : (l + H * 1) % H = l % H := Int.add_mul_emod_self_left l H 1
      rw [Int.mul_one] at h1
      rw [← h1]
      exact Int.emod_eq_of_lt (by omega) (by omega)
    rw [this, if_pos (by omega)]
    omega
theorem high_eq {N H l r : Int} (hH : 0 < H) (e : N = l + H * r) : (N - l) / H = r := by
  rw [e, show l + H * r - l = H * r by omega]
  exact Int.mul_ediv_cancel_left r (by omega)
/-! rows added and multiplied -/
def addL : List Int → List Int → List Int
  | [], b => b
  | a, [] => a
  | x :: a, y :: b => (x + y) :: addL a b
theorem addL_nil (a : List Int) : addL a [] = a := by cases a <;> rfl
theorem ev_addL (B : Int) : ∀ a b : List Int, ev B (addL a b) = ev B a + ev B b
  | [], b => by simp [addL, ev]
  | x :: a, [] => by simp [addL, ev]
  | x :: a, y :: b => by
    rw [addL, ev, ev, ev, ev_addL B a b, Int.mul_add]
    omega
def scL (x : Int) (b : List Int) : List Int := b.map (x * ·)
theorem ev_scL (B x : Int) : ∀ b : List Int, ev B (scL x b) = x * ev B b
  | [] => by simp [scL, ev]
  | y :: b => by
    have := ev_scL B x b
    unfold scL at *
    rw [List.map_cons, ev, ev, this, Int.mul_add, ← Int.mul_assoc, ← Int.mul_assoc, Int.mul_comm B x]
def mulL : List Int → List Int → List Int
  | [], _ => []
  | x :: a, b => addL (scL x b) (0 :: mulL a b)
theorem ev_mulL (B : Int) : ∀ a b : List Int, ev B (mulL a b) = ev B a * ev B b
  | [], b => by simp [mulL, ev]
  | x :: a, b => by
    rw [mulL, ev_addL, ev_scL, ev, ev, ev_mulL B a b, Int.add_mul, Int.mul_assoc]
    omega
theorem len_addL : ∀ a b : List Int, (addL a b).length = max a.length b.length
  | [], b => by simp [addL]
  | x :: a, [] => by simp [addL]
  | x :: a, y :: b => by
    rw [addL, List.length_cons, List.length_cons, List.length_cons, len_addL a b]
    omega
theorem len_mulL : ∀ {a b : List Int}, a ≠ [] → b ≠ [] → (mulL a b).length = a.length + b.length - 1
  | [x], b, _, hb => by
    have : 0 < b.length := List.length_pos_iff.mpr hb
    rw [mulL, len_addL]
    simp [scL, mulL]
    omega
  | x :: y :: a, b, _, hb => by
    have ih := len_mulL (a := y :: a) (b := b) (by simp) hb
    have : 0 < b.length := List.length_pos_iff.mpr hb
    rw [mulL, len_addL, List.length_cons, ih]
    simp [scL]
    omega
/-! integers at places -/
def cf (a : List Int) (i : Int) : Int := if 0 ≤ i then a.getD i.toNat 0 else 0
theorem cf_neg {a : List Int} {i : Int} (h : i < 0) : cf a i = 0 := if_neg (by omega)
theorem cf_nil (i : Int) : cf [] i = 0 := by unfold cf; split <;> simp
theorem cf_zero (x : Int) (a : List Int) : cf (x :: a) 0 = x := by simp [cf]
theorem cf_cons {x : Int} {a : List Int} {i : Int} (h : i ≠ 0) : cf (x :: a) i = cf a (i - 1) := by
  unfold cf
  by_cases h0 : 0 ≤ i
  · rw [if_pos h0, if_pos (by omega)]
    obtain ⟨k, rfl⟩ : ∃ k : Nat, i = (k : Int) + 1 := ⟨(i - 1).toNat, by omega⟩
    rw [show ((k : Int) + 1).toNat = k + 1 by omega, show ((k : Int) + 1 - 1).toNat = k by omega]
    rfl
  · rw [if_neg h0, if_neg (by omega)]
theorem cf_addL : ∀ (a b : List Int) (i : Int), cf (addL a b) i = cf a i + cf b i
  | [], b, i => by rw [addL, cf_nil]; omega
  | x :: a, [], i => by rw [addL_nil, cf_nil]; omega
  | x :: a, y :: b, i => by
    by_cases h : i = 0
    · subst h
      rw [addL, cf_zero, cf_zero, cf_zero]
    · rw [addL, cf_cons h, cf_cons h, cf_cons h, cf_addL a b]
theorem cf_scL (x : Int) : ∀ (b : List Int) (i : Int), cf (scL x b) i = x * cf b i
  | [], i => by rw [show scL x [] = [] from rfl, cf_nil, Int.mul_zero]
  | y :: b, i => by
    by_cases h : i = 0
    · subst h
      rw [show scL x (y :: b) = x * y :: scL x b from rfl, cf_zero, cf_zero]
    · rw [show scL x (y :: b) = x * y :: scL x b from rfl, cf_cons h, cf_cons h, cf_scL x b]
theorem cf_mulL_cons (x : Int) (a b : List Int) (i : Int) : cf (mulL (x :: a) b) i = x * cf b i + cf (mulL a b) (i - 1) := by
  rw [mulL, cf_addL, cf_scL]
  by_cases h : i = 0
  · subst h
    rw [cf_zero, cf_neg (show (0 : Int) - 1 < 0 by omega)]
  · rw [cf_cons h]
/-- the other way round -/
theorem cf_mulL_nil : ∀ (a : List Int) (i : Int), cf (mulL a []) i = 0
  | [], i => cf_nil i
  | x :: a, i => by rw [cf_mulL_cons, cf_nil, cf_mulL_nil a, Int.mul_zero]; rfl
theorem cf_mulL_consR (y : Int) (b : List Int) : ∀ (a : List Int) (i : Int), cf (mulL a (y :: b)) i = y * cf a i + cf (mulL a b) (i - 1)
  | [], i => by rw [mulL, mulL, cf_nil, cf_nil, Int.mul_zero]; rfl
  | x :: a, i => by
    rw [cf_mulL_cons, cf_mulL_consR y b a, cf_mulL_cons]
    by_cases h : i = 0
    · subst h
      rw [cf_zero, cf_zero, cf_neg (show (0 : Int) - 1 < 0 by omega), cf_neg (show (0 : Int) - 1 < 0 by omega), Int.mul_comm x y]
      omega
    · rw [cf_cons h, cf_cons h]
      omega
theorem cf_mulL_comm : ∀ (a b : List Int) (i : Int), cf (mulL a b) i = cf (mulL b a) i
  | [], b, i => by rw [cf_mulL_nil, mulL, cf_nil]
  | x :: a, b, i => by rw [cf_mulL_cons, cf_mulL_consR, cf_mulL_comm a b]
theorem cf_mem {a : List Int} {M : Int} (hM : 0 ≤ M) (h : ∀ c ∈ a, -M ≤ c ∧ c ≤ M) (i : Int) : -M ≤ cf a i ∧ cf a i ≤ M := by
  unfold cf
  split
  · by_cases hl : i.toNat < a.length
    · rw [List.getD_eq_getElem?_getD, List.getElem?_eq_getElem hl]
      exact h _ (List.getElem_mem hl)
    · rw [List.getD_eq_getElem?_getD, List.getElem?_eq_none (by omega)]
      exact ⟨by simp; omega, by simpa using hM⟩
  · omega
theorem mul_bound {x y M N : Int} (hx : -M ≤ x ∧ x ≤ M) (hy : -N ≤ y ∧ y ≤ N) : -(M * N) ≤ x * y ∧ x * y ≤ M * N := by
  have hM : 0 ≤ M := by omega
  have hN : 0 ≤ N := by omega
  have a1 : x.natAbs ≤ M.natAbs := by omega
  have a2 : y.natAbs ≤ N.natAbs := by omega
  have a3 : (x * y).natAbs ≤ (M * N).natAbs := by
    rw [Int.natAbs_mul, Int.natAbs_mul]
    exact Nat.mul_le_mul a1 a2
  have a4 : 0 ≤ M * N := Int.mul_nonneg hM hN
  omega
theorem mul_cf_bound {M N : Int} (hM : 0 ≤ M) (hN : 0 ≤ N) {b : List Int} (hb : ∀ c ∈ b, -N ≤ c ∧ c ≤ N) : ∀ {a : List Int} (_ : ∀ c ∈ a, -M ≤ c ∧ c ≤ M) (i : Int), -((a.length : Int) * (M * N)) ≤ cf (mulL a b) i ∧ cf (mulL a b) i ≤ (a.length : Int) * (M * N)
  | [], _, i => by rw [mulL, cf_nil]; simp
  | x :: a, h, i => by
    have ih := mul_cf_bound hM hN hb (a := a) (fun c m => h c (List.mem_cons_of_mem _ m)) (i - 1)
    have h1 := mul_bound (h x List.mem_cons_self) (cf_mem hN hb i)
    rw [cf_mulL_cons, List.length_cons, show ((a.length + 1 : Nat) : Int) * (M * N) = (a.length : Int) * (M * N) + M * N by rw [Int.natCast_add, Int.add_mul]; simp]
    omega
theorem mul_cf_boundR {M N : Int} (hM : 0 ≤ M) (hN : 0 ≤ N) {a b : List Int} (ha : ∀ c ∈ a, -M ≤ c ∧ c ≤ M) (hb : ∀ c ∈ b, -N ≤ c ∧ c ≤ N) (i : Int) : -((min a.length b.length : Nat) * (M * N)) ≤ cf (mulL a b) i ∧ cf (mulL a b) i ≤ (min a.length b.length : Nat) * (M * N) := by
  rcases Nat.le_total a.length b.length with h | h
  · rw [Nat.min_eq_left h]
    exact mul_cf_bound hM hN hb ha i
  · rw [Nat.min_eq_right h, cf_mulL_comm, Int.mul_comm M N]
    exact mul_cf_bound hN hM ha hb i
theorem cf_get {a : List Int} {c : Int} (h : c ∈ a) : ∃ i : Int, cf a i = c := by
  obtain ⟨k, hk, e⟩ := List.mem_iff_getElem.mp h
  refine ⟨(k : Int), ?_⟩
  unfold cf
  rw [if_pos (by omega), Int.toNat_natCast, List.getD_eq_getElem?_getD, List.getElem?_eq_getElem hk]
  simpa using e
/-- the product's integers are small for the base that the program takes -/
theorem mul_sm {a b : List Int} {wa wb wm : Nat} (ha : ∀ c ∈ a, -(2 ^ wa - 1) ≤ c ∧ c ≤ 2 ^ wa - 1) (hb : ∀ c ∈ b, -(2 ^ wb - 1) ≤ c ∧ c ≤ 2 ^ wb - 1) (hm : ((min a.length b.length : Nat) : Int) ≤ 2 ^ wm - 1) : Sm (2 ^ (wa + wb + wm + 1)) (mulL a b) := by
  intro c hc
  obtain ⟨i, rfl⟩ := cf_get hc
  have pa : (0 : Int) < 2 ^ wa := Int.pow_pos (by omega)
  have pb : (0 : Int) < 2 ^ wb := Int.pow_pos (by omega)
  have pm : (0 : Int) < 2 ^ wm := Int.pow_pos (by omega)
  obtain ⟨l, u⟩ := mul_cf_boundR (by omega) (by omega) ha hb i
  have h1 : (2 ^ wa - 1) * (2 ^ wb - 1) ≤ (2 : Int) ^ wa * 2 ^ wb - 1 := by
    have : (2 ^ wa - 1) * (2 ^ wb - 1) = (2 : Int) ^ wa * 2 ^ wb - 2 ^ wa - 2 ^ wb + 1 := by
      rw [Int.sub_mul, Int.mul_sub]
      omega
    omega
  have h0 : (0 : Int) ≤ (2 ^ wa - 1) * (2 ^ wb - 1) := Int.mul_nonneg (by omega) (by omega)
  have h2 : ((min a.length b.length : Nat) : Int) * ((2 ^ wa - 1) * (2 ^ wb - 1)) ≤ (2 ^ wm - 1) * (2 ^ wa * 2 ^ wb - 1) := Int.mul_le_mul hm h1 h0 (by omega)
  have pp : (0 : Int) < 2 ^ wa * 2 ^ wb := Int.mul_pos pa pb
  have h3 : ((2 : Int) ^ wm - 1) * (2 ^ wa * 2 ^ wb - 1) < 2 ^ wm * (2 ^ wa * 2 ^ wb) := by
    have : ((2 : Int) ^ wm - 1) * (2 ^ wa * 2 ^ wb - 1) = 2 ^ wm * (2 ^ wa * 2 ^ wb) - 2 ^ wm - 2 ^ wa * 2 ^ wb + 1 := by
      rw [Int.sub_mul, Int.mul_sub]
      omega
    omega
  have e : (2 : Int) ^ (wa + wb + wm + 1) = 2 * (2 ^ wm * (2 ^ wa * 2 ^ wb)) := by
    rw [Int.pow_succ, Int.pow_add, Int.pow_add, Int.mul_comm _ 2, Int.mul_comm ((2 : Int) ^ wa * 2 ^ wb) (2 ^ wm)]
  rw [e]
  omega
/-! the program's own recursions -/
def packN (bits : Nat) : Nat → List Int → Int
  | 0, _ => 0
  | k + 1, c => if c.length = 1 then c.getD 0 0 else packN bits k (c.take (c.length / 2)) + packN bits k (c.drop (c.length / 2)) * 2 ^ (bits * (c.length / 2))
theorem packN_ev (bits : Nat) : ∀ (k : Nat) (c : List Int), 0 < c.length → c.length ≤ k → packN bits k c = ev (2 ^ bits) c
  | 0, c, h, hk => by omega
  | k + 1, c, h, hk => by
    unfold packN
    by_cases h1 : c.length = 1
    · rw [if_pos h1]
      match c, h1 with
      | [x], _ => simp [ev]
    · rw [if_neg h1, packN_ev bits k _ (by rw [List.length_take]; omega) (by rw [List.length_take]; omega), packN_ev bits k _ (by rw [List.length_drop]; omega) (by rw [List.length_drop]; omega), ev_split (2 ^ bits) (c.length / 2) c (by omega), Int.mul_comm (ev _ (c.drop _)), Int.pow_mul]
def unpackN (bits : Nat) : Nat → Int → Nat → List Int
  | 0, _, _ => []
  | k + 1, N, n => if n = 1 then [N] else
    unpackN bits k (lowS N (2 ^ (bits * (n / 2)))) (n / 2) ++ unpackN bits k ((N - lowS N (2 ^ (bits * (n / 2)))) / 2 ^ (bits * (n / 2))) (n - n / 2)
theorem unpackN_ev (bits : Nat) (hb : 0 < bits) : ∀ (k : Nat) (d : List Int), 0 < d.length → d.length ≤ k → Sm (2 ^ bits) d → unpackN bits k (ev (2 ^ bits) d) d.length = d
  | 0, d, h, hk, _ => by omega
  | k + 1, d, h, hk, hs => by
    unfold unpackN
    by_cases h1 : d.length = 1
    · rw [if_pos h1]
      match d, h1 with
      | [x], _ => simp [ev]
    · have hB : (2 : Int) ≤ 2 ^ bits := by
        obtain ⟨j, rfl⟩ : ∃ j, bits = j + 1 := ⟨bits - 1, by omega⟩
        have : (0 : Int) < 2 ^ j := Int.pow_pos (by omega)
        rw [Int.pow_succ]
        omega
      have e := ev_split (2 ^ bits) (d.length / 2) d (by omega)
      rw [← Int.pow_mul] at e
      have st : Sm (2 ^ bits) (d.take (d.length / 2)) := fun c m => hs c (List.mem_of_mem_take m)
      have sd : Sm (2 ^ bits) (d.drop (d.length / 2)) := fun c m => hs c (List.mem_of_mem_drop m)
      have lt : (d.take (d.length / 2)).length = d.length / 2 := by rw [List.length_take]; omega
      have ld : (d.drop (d.length / 2)).length = d.length - d.length / 2 := List.length_drop
      have sm := ev_small hB st
      rw [lt, ← Int.pow_mul] at sm
      have pH : (0 : Int) < 2 ^ (bits * (d.length / 2)) := Int.pow_pos (by omega)
      have hl := lowS_eq pH e sm.1 sm.2
      rw [if_neg h1, hl, high_eq pH e]
      have u1 := unpackN_ev bits hb k (d.take (d.length / 2)) (by omega) (by omega) st
      have u2 := unpackN_ev bits hb k (d.drop (d.length / 2)) (by omega) (by omega) sd
      rw [lt] at u1
      rw [ld] at u2
      rw [u1, u2, List.take_append_drop]
end Pk

namespace Pk
/-! dicts with integer keys, as lists of pairs -/
abbrev KV := List (Int × Int)
def dv (l : KV) (e : Int) : Int := match l.find? (fun p => p.1 == e) with
  | some p => p.2
  | none => 0
theorem dv_nil (e : Int) : dv [] e = 0 := rfl
theorem dv_cons (k v : Int) (l : KV) (e : Int) : dv ((k, v) :: l) e = if k = e then v else dv l e := by
  unfold dv
  rw [List.find?_cons]
  by_cases h : k = e
  · subst h
    simp
  · have : ((k, v).1 == e) = false := by simpa using h
    rw [this, if_neg h]
/-- ascending keys, no zero -/
def Asc (l : KV) : Prop := l.Pairwise (fun p q => p.1 < q.1) ∧ ∀ p ∈ l, p.2 ≠ 0
theorem Asc.tail {p : Int × Int} {l : KV} (h : Asc (p :: l)) : Asc l := ⟨(List.pairwise_cons.mp h.1).2, fun q m => h.2 q (List.mem_cons_of_mem _ m)⟩
theorem dv_low {l : KV} {e : Int} (h : ∀ p ∈ l, e < p.1) : dv l e = 0 := by
  unfold dv
  rw [List.find?_eq_none.mpr fun p m => ?_]
  have := h p m
  simp
  omega
theorem Asc.head {k v : Int} {l : KV} (h : Asc ((k, v) :: l)) : ∀ p ∈ l, k < p.1 := fun p m => (List.pairwise_cons.mp h.1).1 p m
/-- one list for each function -/
theorem asc_eq : ∀ {l m : KV}, Asc l → Asc m → (∀ e, dv l e = dv m e) → l = m
  | [], [], _, _, _ => rfl
  | [], (k, v) :: m, _, hm, h => by
    have := h k
    rw [dv_nil, dv_cons, if_pos rfl] at this
    exact absurd this.symm (hm.2 _ List.mem_cons_self)
  | (k, v) :: l, [], hl, _, h => by
    have := h k
    rw [dv_nil, dv_cons, if_pos rfl] at this
    exact absurd this (hl.2 _ List.mem_cons_self)
  | (k, v) :: l, (j, w) :: m, hl, hm, h => by
    have hv : v ≠ 0 := hl.2 _ List.mem_cons_self
    have hw : w ≠ 0 := hm.2 _ List.mem_cons_self
    have kj : k = j := by
      rcases Int.lt_trichotomy k j with c | c | c
      · have := h k
        rw [dv_cons, if_pos rfl, dv_cons, if_neg (by omega), dv_low fun p m' => Int.lt_trans c (hm.head p m')] at this
        exact absurd this hv
      · exact c
      · have := h j
        rw [dv_cons, if_neg (by omega), dv_cons, if_pos rfl, dv_low fun p m' => Int.lt_trans c (hl.head p m')] at this
        exact absurd this.symm hw
    subst kj
    have e1 : v = w := by
      have := h k
      rw [dv_cons, dv_cons, if_pos rfl, if_pos rfl] at this
      exact this
    subst e1
    rw [asc_eq hl.tail hm.tail fun e => ?_]
    by_cases c : k = e
    · subst c
      rw [dv_low hl.head, dv_low hm.head]
    · have := h e
      rw [dv_cons, dv_cons, if_neg c, if_neg c] at this
      exact this
/-! rows with a lowest exponent -/
def rval (a : List Int) (lo e : Int) : Int := cf a (e - lo)
theorem rval_nil (lo e : Int) : rval [] lo e = 0 := cf_nil _
theorem rval_cons (x : Int) (a : List Int) (lo e : Int) : rval (x :: a) lo e = if e = lo then x else rval a (lo + 1) e := by
  unfold rval
  by_cases h : e = lo
  · subst h
    rw [if_pos rfl, Int.sub_self, cf_zero]
  · rw [if_neg h, cf_cons (by omega), show e - lo - 1 = e - (lo + 1) by omega]
theorem rval_low {a : List Int} {lo e : Int} (h : e < lo) : rval a lo e = 0 := cf_neg (by omega)
/-- the pairs of a row -/
def kvR : List Int → Int → KV
  | [], _ => []
  | x :: a, lo => if x = 0 then kvR a (lo + 1) else (lo, x) :: kvR a (lo + 1)
theorem kvR_ge : ∀ {a : List Int} {lo : Int}, ∀ p ∈ kvR a lo, lo ≤ p.1
  | [], lo, p, m => by cases m
  | x :: a, lo, p, m => by
    unfold kvR at m
    split at m
    · have := kvR_ge p m
      omega
    · rcases List.mem_cons.mp m with rfl | m
      · exact Int.le_refl _
      · have := kvR_ge p m
        omega
theorem kvR_asc : ∀ (a : List Int) (lo : Int), Asc (kvR a lo)
  | [], lo => ⟨.nil, fun p m => by cases m⟩
  | x :: a, lo => by
    have ih := kvR_asc a (lo + 1)
    unfold kvR
    split
    · exact ih
    · rename_i hx
      refine ⟨List.pairwise_cons.mpr ⟨fun p m => ?_, ih.1⟩, fun p m => ?_⟩
      · have := kvR_ge p m
        show lo < p.1
        omega
      · rcases List.mem_cons.mp m with rfl | m
        · exact hx
        · exact ih.2 p m
theorem dv_kvR : ∀ (a : List Int) (lo e : Int), dv (kvR a lo) e = rval a lo e
  | [], lo, e => by rw [kvR, dv_nil, rval_nil]
  | x :: a, lo, e => by
    rw [rval_cons]
    unfold kvR
    by_cases hx : x = 0
    · rw [if_pos hx, dv_kvR a]
      by_cases h : e = lo
      · rw [if_pos h, rval_low (by omega), hx]
      · rw [if_neg h]
    · rw [if_neg hx, dv_cons]
      by_cases h : e = lo
      · rw [if_pos h.symm, if_pos h]
      · rw [if_neg (fun z => h z.symm), if_neg h, dv_kvR a]
/-- a row without zeros at its ends; 0 at 0 -/
def Trim (a : List Int) (lo : Int) : Prop := (a = [] ∧ lo = 0) ∨ (a ≠ [] ∧ a.head? ≠ some 0 ∧ a.getLast? ≠ some 0)
theorem cf_last {a : List Int} {x : Int} (h : a.getLast? = some x) : cf a (a.length - 1) = x ∧ a ≠ [] := by
  cases a with
  | nil => cases h
  | cons y b =>
    refine ⟨?_, by simp⟩
    unfold cf
    rw [List.getLast?_eq_getElem?] at h
    rw [if_pos (by rw [List.length_cons]; omega), List.getD_eq_getElem?_getD, show ((y :: b).length - 1 : Int).toNat = (y :: b).length - 1 by rw [List.length_cons]; omega, h]
    rfl
theorem cf_far {a : List Int} {i : Int} (h : (a.length : Int) ≤ i) : cf a i = 0 := by
  unfold cf
  rw [if_pos (by omega), List.getD_eq_getElem?_getD, List.getElem?_eq_none (by omega)]
  rfl
theorem cf_ext {a b : List Int} (hl : a.length = b.length) (h : ∀ i : Int, cf a i = cf b i) : a = b := by
  refine List.ext_getElem? fun n => ?_
  have := h n
  unfold cf at this
  rw [if_pos (by omega), if_pos (by omega), Int.toNat_natCast, List.getD_eq_getElem?_getD, List.getD_eq_getElem?_getD] at this
  by_cases hn : n < a.length
  · rw [List.getElem?_eq_getElem hn, List.getElem?_eq_getElem (by omega)] at this ⊢
    exact congrArg some this
  · rw [List.getElem?_eq_none (by omega), List.getElem?_eq_none (by omega)]
/-- one trimmed row for each function -/
theorem trim_eq {a b : List Int} {lo hi : Int} (ha : Trim a lo) (hb : Trim b hi) (h : ∀ e, rval a lo e = rval b hi e) : a = b ∧ lo = hi := by
  rcases ha with ⟨rfl, rfl⟩ | ⟨na, ha, la⟩
  · rcases hb with ⟨rfl, rfl⟩ | ⟨nb, hb, lb⟩
    · exact ⟨rfl, rfl⟩
    · match b, nb with
      | y :: b, _ =>
        have := h hi
        rw [rval_nil, rval_cons, if_pos rfl] at this
        rw [← this] at hb
        exact absurd rfl hb
  · rcases hb with ⟨rfl, rfl⟩ | ⟨nb, hb, lb⟩
    · match a, na with
      | y :: a, _ =>
        have := h lo
        rw [rval_nil, rval_cons, if_pos rfl] at this
        rw [this] at ha
        exact absurd rfl ha
    · have el : lo = hi := by
        match a, b, na, nb with
        | x :: a, y :: b, _, _ =>
          rcases Int.lt_trichotomy lo hi with c | c | c
          · have := h lo
            rw [rval_cons, if_pos rfl, rval_low c] at this
            rw [this] at ha
            exact absurd rfl ha
          · exact c
          · have := h hi
            rw [rval_low c, rval_cons, if_pos rfl] at this
            rw [← this] at hb
            exact absurd rfl hb
      subst el
      have hc : ∀ i, cf a i = cf b i := fun i => by
        have := h (lo + i)
        unfold rval at this
        rw [show lo + i - lo = i by omega] at this
        exact this
      refine ⟨cf_ext ?_ hc, rfl⟩
      obtain ⟨x, hx⟩ : ∃ x, a.getLast? = some x := by
        cases e : a.getLast? with
        | none => rw [List.getLast?_eq_none_iff] at e; exact absurd e na
        | some x => exact ⟨x, rfl⟩
      obtain ⟨y, hy⟩ : ∃ y, b.getLast? = some y := by
        cases e : b.getLast? with
        | none => rw [List.getLast?_eq_none_iff] at e; exact absurd e nb
        | some y => exact ⟨y, rfl⟩
      have h1 := (cf_last hx).1
      have h2 := (cf_last hy).1
      rcases Nat.lt_trichotomy a.length b.length with c | c | c
      · rw [← hc, cf_far (by omega)] at h2
        rw [← h2] at hy
        exact absurd hy lb
      · exact c
      · rw [hc, cf_far (by omega)] at h1
        rw [← h1] at hx
        exact absurd hx la
/-! products, told at an exponent -/
def cvK (l : KV) (g : Int → Int) (x : Int) : Int := (l.map fun p => p.2 * g (x - p.1)).sum
def cvR : List Int → Int → (Int → Int) → Int → Int
  | [], _, _, _ => 0
  | c :: a, lo, g, x => c * g (x - lo) + cvR a (lo + 1) g x
theorem cvK_kvR (g : Int → Int) (x : Int) : ∀ (a : List Int) (lo : Int), cvK (kvR a lo) g x = cvR a lo g x
  | [], lo => rfl
  | c :: a, lo => by
    have ih := cvK_kvR g x a (lo + 1)
    unfold cvK at ih ⊢
    rw [kvR, cvR]
    by_cases h : c = 0
    · rw [if_pos h, ih, h, Int.zero_mul, Int.zero_add]
    · rw [if_neg h, List.map_cons, List.sum_cons, ih]
theorem cf_cvR : ∀ (a b : List Int) (lo hi x : Int), rval (mulL a b) (lo + hi) x = cvR a lo (rval b hi) x
  | [], b, lo, hi, x => by rw [mulL, rval_nil]; rfl
  | c :: a, b, lo, hi, x => by
    rw [cvR, ← cf_cvR a b]
    unfold rval
    rw [cf_mulL_cons, show x - (lo + hi) - 1 = x - (lo + 1 + hi) by omega, show x - lo - hi = x - (lo + hi) by omega]
theorem cvR_add (g h : Int → Int) (x : Int) : ∀ (a : List Int) (lo : Int), cvR a lo (fun e => g e + h e) x = cvR a lo g x + cvR a lo h x
  | [], lo => rfl
  | c :: a, lo => by
    unfold cvR
    rw [cvR_add g h x a, Int.mul_add]
    omega
theorem cvR_congr {g h : Int → Int} (e : ∀ x, g x = h x) (a : List Int) (lo x : Int) : cvR a lo g x = cvR a lo h x := by rw [funext e]
/-- the product row reversed -/
theorem cf_mulL_snoc (x : Int) (b : List Int) : ∀ (a : List Int) (i : Int), cf (mulL (a ++ [x]) b) i = cf (mulL a b) i + x * cf b (i - a.length)
  | [], i => by
    rw [List.nil_append, cf_mulL_cons, mulL, cf_nil, cf_nil]
    simp
  | y :: a, i => by
    rw [List.cons_append, cf_mulL_cons, cf_mulL_snoc x b a, cf_mulL_cons, List.length_cons, show i - 1 - (a.length : Int) = i - ((a.length + 1 : Nat) : Int) by omega]
    omega
theorem cf_rev (a : List Int) (i : Int) : cf a.reverse i = cf a (a.length - 1 - i) := by
  induction a generalizing i with
  | nil => rw [List.reverse_nil, cf_nil, cf_nil]
  | cons x a ih =>
    have hs : ∀ (b : List Int) (j : Int), cf (b ++ [x]) j = if j = b.length then x else cf b j := fun b => by
      induction b with
      | nil => intro j; rw [List.nil_append]; by_cases h : j = 0
               · subst h; rw [cf_zero]; rfl
               · rw [cf_cons h, cf_nil, if_neg (by simpa using h), cf_nil]
      | cons y b ihb =>
        intro j
        rw [List.cons_append]
        by_cases h : j = 0
        · subst h
          rw [cf_zero, cf_zero, if_neg (by rw [List.length_cons]; omega)]
        · rw [cf_cons h, cf_cons h, ihb, List.length_cons]
          by_cases c : j - 1 = b.length
          · rw [if_pos c, if_pos (by omega)]
          · rw [if_neg c, if_neg (by omega)]
    rw [List.reverse_cons, hs, List.length_reverse, List.length_cons]
    by_cases h : i = a.length
    · subst h
      rw [if_pos rfl, show ((a.length + 1 : Nat) : Int) - 1 - a.length = 0 by omega, cf_zero]
    · rw [if_neg h, ih, cf_cons (by omega), show ((a.length + 1 : Nat) : Int) - 1 - i - 1 = a.length - 1 - i by omega]
theorem cf_mulL_rev (b : List Int) : ∀ (a : List Int) (i : Int), cf (mulL a.reverse b.reverse) i = cf (mulL a b) (a.length + b.length - 2 - i)
  | [], i => by rw [List.reverse_nil, mulL, mulL, cf_nil, cf_nil]
  | x :: a, i => by
    rw [List.reverse_cons, cf_mulL_snoc, cf_mulL_rev b a, cf_mulL_cons, cf_rev, List.length_reverse, List.length_cons]
    rw [show ((a.length + 1 : Nat) : Int) + b.length - 2 - i - 1 = a.length + b.length - 2 - i by omega, show (b.length : Int) - 1 - (i - a.length) = ((a.length + 1 : Nat) : Int) + b.length - 2 - i by omega]
    omega
end Pk

namespace Pk
/-- the value of a list of pairs at a key, if it is there -/
def dvo (l : KV) (e : Int) : Option Int := (l.find? (fun p => p.1 == e)).map (·.2)
theorem dvo_nil (e : Int) : dvo [] e = none := rfl
theorem dvo_cons (k v : Int) (l : KV) (e : Int) : dvo ((k, v) :: l) e = if k = e then some v else dvo l e := by
  unfold dvo
  by_cases h : k = e
  · simp [List.find?, h]
  · have : (k == e) = false := by simpa using h
    simp [List.find?, h, this]
theorem dv_dvo (l : KV) (e : Int) : dv l e = (dvo l e).getD 0 := by
  induction l with
  | nil => rfl
  | cons p l ih =>
    obtain ⟨k, v⟩ := p
    rw [dv_cons, dvo_cons]
    split
    · rfl
    · exact ih
def NoD (l : KV) : Prop := (l.map (·.1)).Nodup
theorem NoD.nil : NoD [] := List.nodup_nil
theorem NoD.tail {p : Int × Int} {l : KV} (h : NoD (p :: l)) : NoD l := (List.nodup_cons.mp h).2
theorem NoD.head {p : Int × Int} {l : KV} (h : NoD (p :: l)) : ∀ q ∈ l, q.1 ≠ p.1 := fun q m e => (List.nodup_cons.mp h).1 (by show p.1 ∈ l.map (·.1); rw [← e]; exact List.mem_map.mpr ⟨q, m, rfl⟩)
theorem dvo_none {l : KV} {e : Int} : dvo l e = none ↔ ∀ p ∈ l, p.1 ≠ e := by
  induction l with
  | nil => simp [dvo_nil]
  | cons p l ih =>
    obtain ⟨k, v⟩ := p
    rw [dvo_cons]
    by_cases h : k = e
    · simp [h]
    · simp [h, ih]
theorem dvo_mem {l : KV} (n : NoD l) {p : Int × Int} (m : p ∈ l) : dvo l p.1 = some p.2 := by
  induction l with
  | nil => cases m
  | cons q l ih =>
    obtain ⟨k, v⟩ := q
    rw [dvo_cons]
    rcases List.mem_cons.mp m with e | m
    · subst e
      exact if_pos rfl
    · rw [if_neg fun e => n.head p m e.symm]
      exact ih n.tail m
theorem mem_dvo {l : KV} {e v : Int} (h : dvo l e = some v) : (e, v) ∈ l := by
  induction l with
  | nil => cases h
  | cons q l ih =>
    obtain ⟨k, x⟩ := q
    rw [dvo_cons] at h
    by_cases c : k = e
    · rw [if_pos c] at h
      cases h
      subst c
      exact List.mem_cons_self
    · rw [if_neg c] at h
      exact List.mem_cons_of_mem _ (ih h)
theorem dv_mem {l : KV} (n : NoD l) {p : Int × Int} (m : p ∈ l) : dv l p.1 = p.2 := by rw [dv_dvo, dvo_mem n m]; rfl
/-- sum of the values at a key -/
def sm (l : KV) (e : Int) : Int := (l.map fun p => if p.1 = e then p.2 else 0).sum
theorem sm_snoc (l : KV) (p : Int × Int) (e : Int) : sm (l ++ [p]) e = sm l e + if p.1 = e then p.2 else 0 := by
  unfold sm
  rw [List.map_append, List.sum_append]
  simp
theorem sm_zero {l : KV} {e : Int} (h : ∀ p ∈ l, p.1 ≠ e) : sm l e = 0 := by
  induction l with
  | nil => rfl
  | cons p l ih =>
    have := ih fun q m => h q (List.mem_cons_of_mem _ m)
    unfold sm at *
    rw [List.map_cons, List.sum_cons, if_neg (h p List.mem_cons_self), this]
    rfl
theorem sm_dv {l : KV} (n : NoD l) (e : Int) : sm l e = dv l e := by
  induction l with
  | nil => rfl
  | cons p l ih =>
    obtain ⟨k, v⟩ := p
    have h := ih n.tail
    rw [dv_cons]
    by_cases c : k = e
    · rw [if_pos c]
      have z : sm l e = 0 := sm_zero fun q m => by rw [← c]; exact n.head q m
      unfold sm at *
      rw [List.map_cons, List.sum_cons, if_pos c, z]
      omega
    · rw [if_neg c, ← h]
      unfold sm
      rw [List.map_cons, List.sum_cons, if_neg c]
      omega
/-- a store -/
def putI (l : KV) (k v : Int) : KV := if (l.any fun p => decide (p.1 = k)) then l.map (fun p => if p.1 = k then (p.1, v) else p) else l ++ [(k, v)]
theorem any_dvo (l : KV) (k : Int) : (l.any fun p => decide (p.1 = k)) = (dvo l k).isSome := by
  induction l with
  | nil => rfl
  | cons p l ih =>
    obtain ⟨j, v⟩ := p
    rw [List.any_cons, dvo_cons, ih]
    by_cases c : j = k
    · simp [c]
    · simp [c]
theorem dvo_snoc (l : KV) (k v e : Int) : dvo (l ++ [(k, v)]) e = match dvo l e with
  | some x => some x
  | none => if k = e then some v else none := by
  induction l with
  | nil => rw [List.nil_append, dvo_cons]; rfl
  | cons p l ih =>
    obtain ⟨j, x⟩ := p
    rw [List.cons_append, dvo_cons, dvo_cons, ih]
    by_cases c : j = e
    · simp [c]
    · simp [c]
theorem dvo_map (l : KV) (k v e : Int) : dvo (l.map fun p => if p.1 = k then (p.1, v) else p) e = if k = e then (dvo l e).map (fun _ => v) else dvo l e := by
  induction l with
  | nil => simp [dvo_nil]
  | cons p l ih =>
    obtain ⟨j, x⟩ := p
    rw [List.map_cons]
    by_cases c : j = k
    · rw [if_pos c, dvo_cons, dvo_cons, ih]
      by_cases d : j = e
      · have : k = e := c.symm.trans d
        simp [d, this]
      · have : ¬ k = e := fun z => d (c.trans z)
        simp [d, this]
    · rw [if_neg c, dvo_cons, dvo_cons, ih]
      by_cases d : j = e
      · have : ¬ k = e := fun z => c (d.trans z.symm)
        simp [d, this]
      · simp [d]
theorem dvo_put (l : KV) (k v e : Int) : dvo (putI l k v) e = if k = e then some v else dvo l e := by
  unfold putI
  rw [any_dvo]
  split
  · rename_i h
    rw [dvo_map]
    by_cases c : k = e
    · subst c
      obtain ⟨x, hx⟩ := Option.isSome_iff_exists.mp h
      simp [hx]
    · simp [c]
  · rename_i h
    rw [dvo_snoc]
    by_cases c : k = e
    · subst c
      have : dvo l k = none := by
        cases hx : dvo l k with
        | none => rfl
        | some x => rw [hx] at h; exact absurd rfl h
      simp [this]
    · simp [c]
      cases dvo l e <;> rfl
theorem dv_put (l : KV) (k v e : Int) : dv (putI l k v) e = if k = e then v else dv l e := by
  rw [dv_dvo, dvo_put, dv_dvo]
  split <;> rfl
theorem put_len (l : KV) (k v : Int) : (putI l k v).length ≤ l.length + 1 := by
  unfold putI
  split
  · rw [List.length_map]; omega
  · rw [List.length_append]; simp
theorem put_nod {l : KV} (n : NoD l) (k v : Int) : NoD (putI l k v) := by
  unfold putI
  rw [any_dvo]
  split
  · unfold NoD
    rw [List.map_map]
    have : ((fun p : Int × Int => p.1) ∘ fun p => if p.1 = k then (p.1, v) else p) = fun p => p.1 := by
      funext p
      show (if p.1 = k then (p.1, v) else p).1 = p.1
      split <;> rfl
    rw [show l.map ((·.1) ∘ fun p => if p.1 = k then (p.1, v) else p) = l.map (·.1) from congrArg (fun f => l.map f) this]
    exact n
  · rename_i h
    have hn : dvo l k = none := by
      cases hx : dvo l k with
      | none => rfl
      | some x => rw [hx] at h; exact absurd rfl h
    unfold NoD
    rw [List.map_append]
    refine List.nodup_append.mpr ⟨n, by simp, fun a ha b hb => ?_⟩
    obtain ⟨p, m, rfl⟩ := List.mem_map.mp ha
    simp at hb
    subst hb
    exact dvo_none.mp hn p m
/-- the pairs of the keys in sequence, without zeros -/
def canon (l : KV) (ks : List Int) : KV := (ks.filter fun k => dv l k != 0).map fun k => (k, dv l k)
theorem canon_asc {l : KV} {ks : List Int} (n : NoD l) (p : ks.Perm (l.map (·.1))) (s : ks.Pairwise (· ≤ ·)) : Asc (canon l ks) := by
  have nd : ks.Nodup := p.nodup_iff.mpr n
  refine ⟨?_, fun q m => ?_⟩
  · unfold canon
    rw [List.pairwise_map]
    refine List.Pairwise.filter _ ?_
    have hh := s.and nd
    exact hh.imp fun h => by
      obtain ⟨h1, h2⟩ := h
      show _ < _
      have : _ ≠ _ := h2
      omega
  · obtain ⟨k, hk, rfl⟩ := List.mem_map.mp m
    have := (List.mem_filter.mp hk).2
    exact bne_iff_ne.mp this
theorem dvo_tab (f : Int → Int) (ks : List Int) (e : Int) : dvo (ks.map fun k => (k, f k)) e = if e ∈ ks then some (f e) else none := by
  induction ks with
  | nil => rfl
  | cons k ks ih =>
    rw [List.map_cons, dvo_cons, ih]
    by_cases c : k = e
    · subst c
      simp
    · have : ¬ e = k := fun z => c z.symm
      simp [c, this]
theorem canon_dv {l : KV} {ks : List Int} (p : ks.Perm (l.map (·.1))) (e : Int) : dv (canon l ks) e = dv l e := by
  unfold canon
  rw [dv_dvo, dvo_tab]
  by_cases c : e ∈ ks.filter fun k => dv l k != 0
  · rw [if_pos c]
    rfl
  · rw [if_neg c]
    show 0 = _
    by_cases z : dv l e = 0
    · exact z.symm
    · exfalso
      refine c (List.mem_filter.mpr ⟨?_, bne_iff_ne.mpr z⟩)
      rw [dv_dvo] at z
      cases h : dvo l e with
      | none => rw [h] at z; exact absurd rfl z
      | some v => exact p.mem_iff.mpr (List.mem_map.mpr ⟨_, mem_dvo h, rfl⟩)
theorem canon_len {l : KV} {ks : List Int} (p : ks.Perm (l.map (·.1))) : (canon l ks).length ≤ l.length := by
  unfold canon
  rw [List.length_map]
  have h1 := List.length_filter_le (fun k => dv l k != 0) ks
  have h2 := p.length_eq
  rw [List.length_map] at h2
  omega
theorem Asc.nod {l : KV} (h : Asc l) : NoD l := by
  unfold NoD
  rw [List.Nodup, List.pairwise_map]
  exact h.1.imp fun h => by omega
theorem cvK_snoc (l : KV) (p : Int × Int) (g : Int → Int) (x : Int) : cvK (l ++ [p]) g x = cvK l g x + p.2 * g (x - p.1) := by
  unfold cvK
  rw [List.map_append, List.sum_append]
  simp
end Pk

namespace Pk
theorem mul_comm_val (a b : List Int) (lo hi x : Int) : rval (mulL a b) (lo + hi) x = rval (mulL b a) (hi + lo) x := by
  unfold rval
  rw [cf_mulL_comm, Int.add_comm lo hi]
theorem mul_congrR {a b b' : List Int} {lo hi hi' : Int} (h : ∀ e, rval b hi e = rval b' hi' e) (x : Int) : rval (mulL a b) (lo + hi) x = rval (mulL a b') (lo + hi') x := by
  rw [cf_cvR, cf_cvR, cvR_congr h]
theorem mul_congr {a a' b b' : List Int} {lo lo' hi hi' : Int} (h : ∀ e, rval a lo e = rval a' lo' e) (k : ∀ e, rval b hi e = rval b' hi' e) (x : Int) : rval (mulL a b) (lo + hi) x = rval (mulL a' b') (lo' + hi') x := by
  rw [mul_congrR k, mul_comm_val, mul_congrR h, mul_comm_val]
theorem one_mul_val (b : List Int) (hi x : Int) : rval (mulL [1] b) (0 + hi) x = rval b hi x := by
  rw [cf_cvR, cvR, cvR, Int.one_mul, Int.sub_zero, Int.add_zero]
/-- the row's powers -/
def powL (a : List Int) : Nat → List Int
  | 0 => [1]
  | n + 1 => mulL (powL a n) a
def powF (a : List Int) (lo : Int) (n : Nat) (x : Int) : Int := rval (powL a n) (n * lo) x
theorem powF_one (a : List Int) (lo x : Int) : powF a lo 1 x = rval a lo x := by
  have := one_mul_val a lo x
  unfold powF powL powL
  rw [show ((1 : Nat) : Int) * lo = 0 + lo by simp]
  exact this
theorem powF_zero (a : List Int) (lo x : Int) : powF a lo 0 x = rval [1] 0 x := by
  unfold powF powL
  rw [show ((0 : Nat) : Int) * lo = 0 by simp]
theorem powF_succ {c a : List Int} {l lo : Int} {n : Nat} (h : ∀ e, rval c l e = powF a lo n e) (x : Int) : rval (mulL c a) (l + lo) x = powF a lo (n + 1) x := by
  have h' : ∀ e, rval c l e = rval (powL a n) (n * lo) e := h
  show _ = rval (mulL (powL a n) a) (((n + 1 : Nat) : Int) * lo) x
  rw [mul_congr h' (fun _ => rfl), show ((n + 1 : Nat) : Int) * lo = n * lo + lo by rw [Int.natCast_add, Int.add_mul]; simp]
theorem powF_two {c a : List Int} {l lo : Int} (h : ∀ e, rval c l e = rval a lo e) (x : Int) : rval (mulL c c) (l + l) x = powF a lo 2 x := by
  have h1 : ∀ e, rval c l e = powF a lo 1 e := fun e => (h e).trans (powF_one a lo e).symm
  rw [← powF_succ h1, mul_congrR h]
/-- where a trimmed row lies -/
theorem trim_span {c : List Int} {l A B : Int} (h : Trim c l) (s : ∀ e, rval c l e ≠ 0 → A ≤ e ∧ e ≤ B) : c = [] ∨ (A ≤ l ∧ l + c.length - 1 ≤ B) := by
  rcases h with ⟨rfl, _⟩ | ⟨ne, hf, hl⟩
  · exact .inl rfl
  · refine .inr ⟨?_, ?_⟩
    · match c, ne with
      | x :: c, _ =>
        refine (s l ?_).1
        rw [rval_cons, if_pos rfl]
        exact fun e => hf (by rw [e]; rfl)
    · cases e : c.getLast? with
      | none => exact absurd (List.getLast?_eq_none_iff.mp e) ne
      | some x =>
        have := cf_last e
        have q := s (l + c.length - 1) (by
          unfold rval
          rw [show l + c.length - 1 - l = (c.length : Int) - 1 by omega, this.1]
          exact fun z => hl (by rw [e, z]))
        exact q.2
theorem row_bd {c : List Int} {l : Int} {w : Nat} (h : ∀ e, (rval c l e).natAbs < 2 ^ w) : ∀ x ∈ c, x.natAbs < 2 ^ w := fun x m => by
  obtain ⟨i, e⟩ := cf_get m
  have := h (l + i)
  unfold rval at this
  rw [show l + i - l = i by omega, e] at this
  exact this
theorem rval_out {a : List Int} {lo e : Int} (h : rval a lo e ≠ 0) : lo ≤ e ∧ e ≤ lo + a.length - 1 := by
  unfold rval at h
  constructor
  · by_cases c : lo ≤ e
    · exact c
    · exact absurd (cf_neg (by omega)) h
  · by_cases c : e ≤ lo + a.length - 1
    · exact c
    · exact absurd (cf_far (by omega)) h
theorem len_mulL_le (a b : List Int) : (mulL a b).length ≤ a.length + b.length := by
  by_cases ha : a = []
  · subst ha; rw [mulL]; exact Nat.zero_le _
  · by_cases hb : b = []
    · subst hb
      clear ha
      induction a with
      | nil => rw [mulL]; exact Nat.zero_le _
      | cons x a ih =>
        rw [mulL, len_addL, List.length_cons]
        simp [scL] at *
        omega
    · rw [len_mulL ha hb]; omega
theorem mulL_bd {a b : List Int} {wa wb k : Nat} (ha : ∀ c ∈ a, c.natAbs < 2 ^ wa) (hb : ∀ c ∈ b, c.natAbs < 2 ^ wb) (hk : min a.length b.length ≤ 2 ^ k) (i : Int) : (cf (mulL a b) i).natAbs < 2 ^ (wa + wb + k) := by
  have pa : (0 : Int) < 2 ^ wa := Int.pow_pos (by omega)
  have pb : (0 : Int) < 2 ^ wb := Int.pow_pos (by omega)
  have pk : (0 : Int) < 2 ^ k := Int.pow_pos (by omega)
  have na : ((2 ^ wa : Nat) : Int) = (2 : Int) ^ wa := by rw [Int.natCast_pow]; rfl
  have nb : ((2 ^ wb : Nat) : Int) = (2 : Int) ^ wb := by rw [Int.natCast_pow]; rfl
  have nk : ((2 ^ k : Nat) : Int) = (2 : Int) ^ k := by rw [Int.natCast_pow]; rfl
  have h := mul_cf_boundR (M := 2 ^ wa - 1) (N := 2 ^ wb - 1) (by omega) (by omega) (fun c m => by have := ha c m; omega) (fun c m => by have := hb c m; omega) i
  have h0 : (0 : Int) ≤ (2 ^ wa - 1) * (2 ^ wb - 1) := Int.mul_nonneg (by omega) (by omega)
  have h1 : (2 ^ wa - 1) * (2 ^ wb - 1) ≤ (2 : Int) ^ wa * 2 ^ wb - 1 := by
    have : (2 ^ wa - 1) * (2 ^ wb - 1) = (2 : Int) ^ wa * 2 ^ wb - 2 ^ wa - 2 ^ wb + 1 := by rw [Int.sub_mul, Int.mul_sub]; omega
    omega
  have pp : (0 : Int) < 2 ^ wa * 2 ^ wb := Int.mul_pos pa pb
  have h2 : ((min a.length b.length : Nat) : Int) * ((2 ^ wa - 1) * (2 ^ wb - 1)) ≤ 2 ^ k * (2 ^ wa * 2 ^ wb - 1) := Int.mul_le_mul (by omega) h1 h0 (by omega)
  have h3 : (2 : Int) ^ k * (2 ^ wa * 2 ^ wb - 1) = 2 ^ wa * 2 ^ wb * 2 ^ k - 2 ^ k := by rw [Int.mul_sub, Int.mul_comm]; omega
  have h4 : ((2 ^ (wa + wb + k) : Nat) : Int) = 2 ^ wa * 2 ^ wb * 2 ^ k := by rw [Int.natCast_pow, Int.pow_add, Int.pow_add]; rfl
  omega
/-- turned rows -/
theorem turn_val (a : List Int) (lo x : Int) : rval a.reverse (1 - lo - a.length) x = rval a lo (-x) := by
  unfold rval
  rw [cf_rev]
  congr 1
  omega
theorem turn_mul (a b : List Int) (lo hi x : Int) : rval (mulL a.reverse b.reverse) ((1 - lo - a.length) + (1 - hi - b.length)) x = rval (mulL a b) (lo + hi) (-x) := by
  unfold rval
  rw [cf_mulL_rev]
  congr 1
  omega
/-- distribution -/
theorem mul_addR {a b c s : List Int} {lo l1 l2 l3 : Int} (h : ∀ e, rval s l3 e = rval b l1 e + rval c l2 e) (x : Int) : rval (mulL a s) (lo + l3) x = rval (mulL a b) (lo + l1) x + rval (mulL a c) (lo + l2) x := by
  rw [cf_cvR, cf_cvR, cf_cvR, cvR_congr h, cvR_add]
/-- ints and reversed ones as values: the row is its own reverse -/
theorem rev_val {a : List Int} {lo : Int} : a = a.reverse ↔ ∀ i : Int, cf a i = cf a (a.length - 1 - i) := by
  constructor
  · intro h i
    rw [← cf_rev, ← h]
  · intro h
    refine cf_ext (by rw [List.length_reverse]) fun i => ?_
    rw [cf_rev]
    exact h i
/-- the dict's value at a number -/
def valK (l : KV) (n : Int) : Int := (l.map fun p => p.2 * n ^ p.1.toNat).sum
theorem valK_kvR (n : Int) : ∀ (a : List Int) (k : Nat), valK (kvR a (k : Int)) n = n ^ k * ev n a
  | [], k => by rw [kvR, ev, Int.mul_zero]; rfl
  | c :: a, k => by
    have ih := valK_kvR n a (k + 1)
    rw [show (((k + 1 : Nat)) : Int) = (k : Int) + 1 by omega] at ih
    unfold valK at ih ⊢
    rw [kvR, ev]
    have e : n ^ k * (c + n * ev n a) = c * n ^ k + n ^ (k + 1) * ev n a := by
      rw [Int.mul_add, Int.pow_succ, Int.mul_comm (n ^ k) c, Int.mul_assoc]
    by_cases h : c = 0
    · rw [if_pos h, ih, e, h, Int.zero_mul, Int.zero_add]
    · rw [if_neg h, List.map_cons, List.sum_cons, ih, e, Int.toNat_natCast]
end Pk

/-! enumerate of a tuple -/
namespace Ow
open PySem PySem.Spec PyProof.Rows L2
set_option maxHeartbeats 8000000 in
theorem enum1_new {v : Value} {o : Obj} {Hy : Heap → Prop} (B : Begins v o Hy) : Meets (Builtin.«enumerate.__new__» ⟨[.type "enumerate", v], []⟩) (fun _ R s => Hy s.heap ∧
    R (.ok (.ret (.ref (s.heap.push o).objs.size))) { s with heap := (s.heap.push o).push { cls := .type "enumerate", data := .fields #[.none, .bool false, .ref s.heap.objs.size, rawInt 0, .none, .none] } }) := .of_wp fun prog w A R s h => by
  obtain ⟨hp, g, d, tk, os⟩ := s
  obtain ⟨h1, h⟩ := h
  have sb := sub_enumerate
  have q1 {A' : Around} {E Q : Value → Shared → Prop} (q : Q (.ref hp.objs.size) ⟨hp.push o, g, d, tk, os⟩) : wpAny (model prog w) A' (pyIter v) Q E ⟨hp, g, d, tk, os⟩ := B.iter prog w _ _ ⟨hp, g, d, tk, os⟩ _ h1 q
  wp_walk using q1
  apply wpAny_stack_any; intro st; apply wpAny_pure
  split
  · rename_i c _ _ _ _ _; cases (c == Value.type "enumerate") <;> (wp_walk using q1; exact ⟨_, rfl, h⟩)
  · wp_walk using q1; exact ⟨_, rfl, h⟩
section
variable {prog : Program} {w : World} {A : Around} {E : Value → Shared → Prop} {s : Shared}
theorem enum1_call {v : Value} {o : Obj} {Hy : Heap → Prop} {Q : Value → Shared → Prop} (B : Begins v o Hy) (h1 : Hy s.heap)
    (h : ∀ h', IsEnum h' (s.heap.objs.size + 1) s.heap.objs.size 0 .none → h'.get? s.heap.objs.size = some o → (∀ b u, s.heap.get? b = some u → h'.get? b = some u) → Q (.ref (s.heap.objs.size + 1)) { s with heap := h' }) :
    wpAny (model prog w) A (call (.type "enumerate") [v]) Q E s := by
  refine callType_new F.called_enumerate (by decide) (F.typeCall_enumerate_1 _) (F.newCall_enumerate_1 _) (fun ob => F.args_object_init_2 ob _) F.entry_enumerate_new (enum1_new B) ⟨h1, ?_⟩
  have z1 : (s.heap.push o).objs.size = s.heap.objs.size + 1 := Heap.size_push ..
  have he : IsEnum ((s.heap.push o).push { cls := .type "enumerate", data := .fields #[.none, .bool false, .ref s.heap.objs.size, rawInt 0, .none, .none] }) (s.heap.objs.size + 1) s.heap.objs.size 0 .none := by
    have q := Heap.get?_push_size (s.heap.push o) (o := { cls := .type "enumerate", data := .fields #[.none, .bool false, .ref s.heap.objs.size, rawInt 0, .none, .none] }) rfl
    rwa [z1] at q
  show _ ∧ _
  rw [z1]
  exact ⟨⟨_, he, rfl⟩, h _ he (Heap.get?_push_of_some _ (Heap.get?_push_size _ B.free)) fun b u x => Heap.get?_push_of_some _ (Heap.get?_push_of_some _ x)⟩
end
/-- the tuple at a, each item in a new pair with its place -/
def IteT (K : PySem.W.Frag) (a : Addr) : It where
  go i H := ∃ (xs : List V) (x : V), SqT K H a xs ∧ xs[i]? = some x
  yld i H v H' := ∃ T x, v = .ref T ∧ H T = none ∧ H' = upd H T (.tup [.int (i : Nat), x]) ∧ ∀ xs, SqT K H a xs → xs[i]? = some x
  stop i H := ∃ xs : List V, SqT K H a xs ∧ xs.length ≤ i
theorem turn_enumT {P : Program} {w : World} {K : PySem.W.Frag} {elts : List Expr} {kk : Nat} {tpos : Pos} (a e it : Addr) :
    Turn P w K (.Tuple elts kk tpos) (IteT K a) [e, it] e (fun i h => (∃ old, IsEnum h e it ((i : Nat) : Int) old) ∧ h.IsTupleIter it a i ∧ e ≠ it ∧ a ≠ it ∧ a ≠ e) where
  mem := by simp
  obj := fun i h st b hb => by
    obtain ⟨⟨old, he⟩, ⟨o, ho, hc, hd⟩, _⟩ := st
    rcases (show b = e ∨ b = it by simpa using hb) with rfl | rfl
    · exact ⟨_, he, fun v q => nomatch q⟩
    · exact ⟨o, ho, fun v q => by rw [hd] at q; cases q⟩
  keep := fun i h h' st k => by
    obtain ⟨⟨old, he⟩, hi, ne⟩ := st
    exact ⟨⟨old, k e (by simp) _ he⟩, hi.at fun o q => k it (by simp) o q, ne⟩
  item := by
    intro X hP hw hK hc i pins s σ H E I hf st hg
    subst hP hw hK
    obtain ⟨⟨old, he⟩, hit, hne, nai, nae⟩ := st
    obtain ⟨xs, x, hq, hx⟩ := hg
    obtain ⟨its, rv, p, hz⟩ := I.tuple hq
    obtain ⟨u, hu, ru⟩ := rv.get hx
    have hel := Heap.lt_size he
    have hil : it < s.heap.objs.size := by
      obtain ⟨_, q, _⟩ := hit
      exact Heap.lt_size q
    have pt : s.heap.IsTuple a its.toArray := p
    have ilt : i < its.toArray.size := by
      have := (List.getElem?_eq_some_iff.mp hu).1
      simpa using this
    refine wpAny_pyNext_enum_itemD (Draws.tuple (A := X.A.in1) (show X.A.in1.handled = none from I.ok.hd hc) it a nai its.toArray) he ⟨hit, pt⟩ ilt hne (by simp [hne, Ne.symm nae]) fun y h' tk hy ho st' hT hsz hk => ?_
    obtain rfl : u = y := by
      have : its.toArray[i]? = some y := hy
      rw [show its.toArray[i]? = some u by simpa using hu] at this
      exact Option.some.inj this
    refine ⟨_, rfl, wpAny_letOwnedTupleGo_enum (s := { s with heap := h', toks := tk + 1 }) ho fun h2 he' sb => ?_⟩
    have hT2 : h2.get? s.heap.objs.size = some { cls := .type "tuple", data := .seq #[.int i tk, u] } := (sb.2 _ (Nat.ne_of_gt hel)).trans hT
    have ok : ObjOk X.prog X.w (upd H s.heap.objs.size (.tup [.int (i : Nat), x])) h2 s.heap.objs.size (.tup [.int (i : Nat), x]) := ⟨show 2 ≤ sizeLine by decide, [.int i tk, u], .cons ⟨_, rfl⟩ (.cons ru .nil), ⟨_, hT2, rfl, _, rfl⟩⟩
    have I1 : Inv X pins σ (upd H s.heap.objs.size (.tup [.int (i : Nat), x])) { s with heap := h2, toks := tk + 1 } :=
      I.turnedNew (ch := [e, it]) (fun b ob hb q => (sb.2 b fun z => hb (by simp [z])).trans (hk b ob (fun z => hb (by simp [z])) (fun z => hb (by simp [z])) q)) hf (Nat.le_refl _) ok
    refine ⟨.ref s.heap.objs.size, _, I1, rfl, ⟨_, x, rfl, I.hok.fresh (Nat.le_refl _), rfl, fun ys hy => I.tuple_inj hq hy ▸ hx⟩, ⟨⟨u, ?_⟩, st'.1.at fun o q => (sb.2 it (Ne.symm hne)).trans q, hne, nai, nae⟩, fun b hb => ?_⟩
    · rw [show ((i + 1 : Nat) : Int) = (i : Int) + 1 by omega]
      exact he'
    · have hb' : b < s.heap.objs.size := by rcases (show b = e ∨ b = it by simpa using hb) with rfl | rfl <;> assumption
      rw [upd_ne (Nat.ne_of_lt hb')]
      exact (hf b hb).1
  done := by
    intro X hP hw hK hc i pins s σ H E I hf st hg
    subst hP hw hK
    obtain ⟨⟨old, he⟩, hit, hne, nai, nae⟩ := st
    obtain ⟨xs, hq, hx⟩ := hg
    obtain ⟨its, rv, p, hz⟩ := I.tuple hq
    have fi := hf it (by simp)
    obtain ⟨f0, f1, f2, f3, f4, f5⟩ := fi
    have pt : s.heap.IsTuple a its.toArray := p
    have hl := rv.length
    have D : Draws X.prog X.w X.A.in1 it [it, a] i (fun _ _ => False) (fun j h => j = i ∧ h.IsTupleIter it a i ∧ h.IsTuple a its.toArray) :=
      { live := fun _ _ st => let ⟨o, ho, _⟩ := st.2.1; ⟨o, ho⟩
        frame := fun _ _ _ st hk => ⟨st.1, st.2.1.at fun o e => hk it (by simp) o e, st.2.2.at fun o e => hk a (by simp) o e⟩
        item := fun j s Q E hj st _ => absurd st.1 (Nat.ne_of_lt hj)
        done := fun s Q E st hE => wpAny_nextOf_tuple_end (show X.A.in1.handled = none from I.ok.hd hc) st.2.1 st.2.2 (by simp; omega) hE }
    exact wpAny_pyNext_enum_endD D he ⟨rfl, hit, pt⟩ fun h' eb => ⟨rfl, I.turned (t' := s.toks) (fun b o hb q => eb b o hb q) f0 f1 f3 f4 f5⟩
  self := fun _ _ _ _ _ st h => by
    obtain ⟨⟨_, he⟩, _⟩ := st
    exact wpAny_pyIter_enum he h
def iEnumT (K : PySem.W.Frag) (ta : TA) : TI := fun σ H R => ta σ H fun vs H1 => ∃ a xs, vs = [.ref a] ∧ SqT K H1 a xs ∧ R (IteT K a) H1
theorem pi_enumT {X : Cx} {e : Expr} {ta : TA} {p pos tpos : Pos} {elts : List Expr} {kk : Nat} (hg : Gl X "enumerate") (hm : X.mg "enumerate" = none) (ha : PA X [e] ta) (hs : starEach [e] X.env = [(false, eval e X.env)] := by rfl) :
    PI X (.Tuple elts kk tpos) (.Call (.Name "enumerate" p) [e] [] pos) (iEnumT X.K ta) := by
  refine ⟨fun pins s σ H R I h => Call_ (ld_blt I hg hm boot_enumerate (PyProof.Rows.callWith_type1 (thn (ha.run pos pins s σ H _ I h) fun us s1 ⟨vs, H1, I1, r1, a, xs, ex, hq, q⟩ => ?_) hs rfl))⟩
  subst ex
  obtain ⟨u, rfl, ru⟩ := r1.one
  cases ru
  obtain ⟨its, rv, p', hz⟩ := I1.tuple hq
  have pt : s1.heap.IsTuple a its.toArray := p'
  have al : a < s1.heap.objs.size := by
    obtain ⟨o, ho, _⟩ := pt
    exact Heap.lt_size ho
  refine enum1_call (begins_tuple a its.toArray) pt fun h' he hit hk => wpAny_pyIter_enum he ?_
  have J2 : Inv X pins σ H1 { s1 with heap := h' } := I1.kept (t' := s1.toks) hk
  refine ⟨s1.heap.objs.size + 1, [s1.heap.objs.size + 1, s1.heap.objs.size], _, _, H1, rfl, J2, turn_enumT a (s1.heap.objs.size + 1) s1.heap.objs.size, ⟨⟨.none, he⟩, ⟨_, hit, rfl, rfl⟩, Nat.succ_ne_self _, Nat.ne_of_lt al, Nat.ne_of_lt (Nat.lt_succ_of_lt al)⟩, fun b hb => ?_, q⟩
  have hle : s1.heap.objs.size ≤ b := by rcases (show b = s1.heap.objs.size + 1 ∨ b = s1.heap.objs.size by simpa using hb) with rfl | rfl <;> omega
  exact I1.fpOk hle (I1.hok.fresh hle)
end Ow

/-! t[::-1], t a tuple -/
namespace Ow
open PySem PySem.Spec PyProof.Rows L2
theorem rev_adj (n : Nat) : Builtin.Slice.sliceAdjust none none (-1) (n : Int) = ((n : Int) - 1, -1) := rfl
theorem rev_places (n : Nat) : Builtin.Slice.slicePlaces ((n : Int) - 1) (-1) (-1) = n := by
  unfold Builtin.Slice.slicePlaces
  rw [if_neg (by decide)]
  split
  · rw [show (- -1 : Int) = 1 by decide, Int.ediv_one]
    omega
  · omega
theorem rev_pick (xs : Array Value) : ((List.range xs.size).filterMap fun (k : Nat) => xs[((xs.size : Int) - 1 + (k : Int) * -1).toNat]?).toArray = xs.toList.reverse.toArray := by
  have e : ((List.range xs.size).filterMap fun (k : Nat) => xs[((xs.size : Int) - 1 + (k : Int) * -1).toNat]?) = ((List.range xs.size).map fun k => xs.size - 1 - k).filterMap (xs[·]?) := by
    rw [List.filterMap_map]
    have : ∀ l : List Nat, (∀ k ∈ l, k < xs.size) → (l.filterMap fun (k : Nat) => xs[((xs.size : Int) - 1 + (k : Int) * -1).toNat]?) = l.filterMap ((xs[·]?) ∘ fun k => xs.size - 1 - k) := by
      intro l
      induction l with
      | nil => intro _; rfl
      | cons k l ih =>
        intro h
        have hk := h k List.mem_cons_self
        rw [List.filterMap_cons, List.filterMap_cons, ih fun j m => h j (List.mem_cons_of_mem _ m)]
        have : ((xs.size : Int) - 1 + (k : Int) * -1).toNat = xs.size - 1 - k := by omega
        rw [this]
        rfl
    exact this _ fun k m => List.mem_range.mp m
  rw [e, PySem.W.krv_range, List.filterMap_reverse, PySem.W.krv_all]
section
variable {prog : Program} {w : World} {A : Around} {E : Value → Shared → Prop} {s : Shared}
theorem rev_applied {sl : Addr} {vs : Value} {n : Nat} {Q : Int × Int × Nat → Shared → Prop} (hs : s.heap.IsSliceOf sl .none .none vs) (ps : IsPart vs (some (-1))) (h : Q ((n : Int) - 1, -1, n) s) : wpAny (model prog w) A (Builtin.Slice.sliceApplied (.ref sl) (pure (n : Int))) Q E s := by
  obtain ⟨os, hos, _, hds⟩ := id hs
  unfold Builtin.Slice.sliceApplied Builtin.Slice.sliceFields
  have f0 {Q' : Value → Shared → Prop} (q : Q' .none s) : wpAny (model prog w) A (field (.ref sl) 0) Q' E s := wpAny_field hos hds (x := .none) rfl q
  have f1 {Q' : Value → Shared → Prop} (q : Q' .none s) : wpAny (model prog w) A (field (.ref sl) 1) Q' E s := wpAny_field hos hds (x := .none) rfl q
  have f2 {Q' : Value → Shared → Prop} (q : Q' vs s) : wpAny (model prog w) A (field (.ref sl) 2) Q' E s := wpAny_field hos hds (x := vs) rfl q
  refine wpAny_bind (wpAny_bind (f0 (wpAny_bind (f1 (wpAny_bind (f2 (wpAny_pure ?_)))))))
  refine wpAny_bind (HT.slicePart_ ps ?_)
  show wpAny _ _ (if ((-1 : Int) == 0) = true then _ else _) _ _ s
  rw [if_neg (show ¬ ((-1 : Int) == 0) = true by decide)]
  refine wpAny_bind (slicePart_none (wpAny_bind (slicePart_none (wpAny_bind (wpAny_pure ?_)))))
  show wpAny _ _ (match Builtin.Slice.sliceAdjust none none (-1) (n : Int) with | (lo, hi) => pure (lo, (-1 : Int), Builtin.Slice.slicePlaces lo hi (-1))) _ _ s
  rw [rev_adj]
  show wpAny _ _ (pure ((n : Int) - 1, (-1 : Int), Builtin.Slice.slicePlaces ((n : Int) - 1) (-1) (-1))) _ _ s
  rw [rev_places]
  exact wpAny_pure h
theorem get_rev {t sl : Addr} {items : Array Value} {vs : Value} {Q : Value → Shared → Prop} (ht : IsTup s.heap t items) (hs : s.heap.IsSliceOf sl .none .none vs) (ps : IsPart vs (some (-1)))
    (h : Q (.ref s.heap.objs.size) { s with heap := s.heap.push { cls := .type "tuple", data := .seq items.toList.reverse.toArray } }) (hsz : items.size ≤ sizeLine) : wpAny (model prog w) A (getItem (.ref t) (.ref sl)) Q E s := by
  have fit : sizeOk (.seq items.toList.reverse.toArray) := show items.toList.reverse.toArray.size ≤ sizeLine by simpa using hsz
  have ty : s.TypeIs (.ref sl) "slice" := hs.elim fun os q => ⟨os, q.1, q.2.1⟩
  unfold getItem
  try with_reducible refine wpAny_holding ?_
  first | refine wpAny_bind (wpAny_pure ?_) | skip
  refine wpAny_bind (wpAny_sequenceKey ht.typeIs (by decide) (wpAny_bind (wpAny_callSpecial?_slot (name := Str.ofString "__getitem__") ht.typeIs PyProof.Rows.slot_tuple_getitem (wpAny_call_entry PyProof.Rows.slot_tuple_getitem ht.typeIs entry_tuple_getitem ?_ (args_tuple_getitem _ _)))))
  show wpAny _ _ (Builtin.Tuple.tupleItemsOf (.ref t) >>= _) _ _ s
  refine wpAny_bind (tupleItemsOf_ ht (wpAny_bind (wpAny_typeOf ty ?_)))
  rw [if_pos (show (Value.type "slice" == Value.type "slice") = true by decide)]
  refine wpAny_bind (rev_applied hs ps ?_)
  have no : ¬ ((((items.size : Int) - 1) == 0 && (-1 : Int) == 1 && items.size == items.size) = true) := by
    rw [show ((-1 : Int) == 1) = false by decide, Bool.and_false, Bool.false_and]
    exact Bool.false_ne_true
  show wpAny _ _ (if ((((items.size : Int) - 1) == 0 && (-1 : Int) == 1 && items.size == items.size) = true) then _ else _) _ _ s
  rw [if_neg no, rev_pick]
  first
    | exact wpAny_bind (m := Builtin.Tuple.tupleExact _) (wpAny_newObj_type (wpAny_pure ⟨_, rfl, wpAny_pure h⟩) fit)
    | exact wpAny_bind (m := Builtin.Tuple.tupleExact _) (wpAny_newObj_type (wpAny_bind (wpAny_pure (wpAny_pure ⟨_, rfl, wpAny_pure h⟩))) fit)
end
def tRevT (K : PySem.W.Frag) (te : TE) : TE := fun σ H Q => te σ H fun x H1 => ∃ a xs, x = .ref a ∧ SqT K H1 a xs ∧ ∀ p, H1 p = none → Q (.ref p) (upd H1 p (.tup xs.reverse))
theorem pe_revT {X : Cx} {e : Expr} {te : TE} {k : Nat} {p1 p2 p3 pos : Pos} (he : PE X e te) : PE X (.Subscript e (.Slice none none (some (.UnaryOp .USub (.Constant (.int 1) k p1) p2)) p3) pos) (tRevT X.K te) := by
  refine ⟨fun pins s σ H Q I h => Subscript_ (thn (he.run pins s σ H _ I h) fun v s1 ⟨x, H1, I1, r1, a, xs, ex, hx, q⟩ => ?_)⟩
  subst ex
  cases r1
  have st : PO X (some (.UnaryOp .USub (.Constant (.int 1) k p1) p2)) (tPart (tUn (rU fun i => .int (-i)) (tC (.int 1)))) := po_some (pe_un un_neg pe_int)
  refine wpAny_Slice (thn (po_none.run pins s1 σ H1 (fun o H2 => o = none ∧ H2 = H1) I1 ⟨rfl, rfl⟩) fun vl s2 ⟨l, H2, I2, pl, z1, z2⟩ => ?_)
  subst z1 z2
  refine thn (po_none.run pins s2 σ H2 (fun o H3 => o = none ∧ H3 = H2) I2 ⟨rfl, rfl⟩) fun vu s3 ⟨u, H3, I3, pu, z3, z4⟩ => ?_
  subst z3 z4
  refine thn (st.run pins s3 σ H3 (fun o H4 => o = some (-1) ∧ H4 = H3) I3 ⟨1, rfl, -1, rfl, rfl, rfl⟩) fun vs s4 ⟨o, H4, I4, ps, z5, z6⟩ => ?_
  subst z5 z6
  have nl : vl = .none := by cases pl; rfl
  have nu : vu = .none := by cases pu; rfl
  subst nl nu
  have I5 : Inv X pins σ H4 { s4 with heap := s4.heap.push { cls := .type "slice", data := .fields #[.none, .none, vs] } } := I4.kept (t' := s4.toks) fun b ob q => Heap.get?_push_of_some _ q
  obtain ⟨its, r, ht, hz⟩ := I5.tuple hx
  have hlen := r.length
  show wpAny _ _ (subscriptTail e (.Slice none none (some (.UnaryOp .USub (.Constant (.int 1) k p1) p2)) p3) (.ref a) (.ref s4.heap.objs.size)) _ _ _
  refine tail_any (ops := [.ref a, .ref s4.heap.objs.size]) ht.typeIs (PyProof.Rows.slot_tuple_getitem.lookup) ?_ (by with_unfolding_all rfl)
  refine get_rev ht (Heap.IsSliceOf.new _ .none .none vs) ps ?_ (by rw [List.size_toArray]; omega)
  refine ⟨.ref _, _, I5.laid (t' := s4.toks) (o := .tup xs.reverse) (fun b ob q => Heap.get?_push_of_some _ q) (Nat.le_refl _) ?_, rfl, q _ (I5.hok.fresh (Nat.le_refl _))⟩
  exact ⟨by rw [List.length_reverse]; exact hz, its.reverse, r.reverse, IsTup.new _ _⟩
end Ow

namespace Ow
open PySem PySem.Spec PyProof.Rows L2
section
variable {X : Cx} {CX : CXT} {C f : Addr} {n : Nat} {fd : FuncData} {ps : List Str} {sp : Sp} {E : XK}
/-- the truth of an instance, by its own __bool__ -/
def rTruO (C : Addr) (sp : Sp) (E : XK) : V → Hp → (Bool → Hp → Prop) → Prop := fun x H Q => ∃ a dx fs, x = .ref a ∧ H a = some (.ins C dx fs) ∧ sp [.ref a] H (fun z H' => ∃ k, z = .bl k ∧ Q k H') E
theorem tru_own (om : OM X.K C "__bool__" f) (F : FnOk X.prog X.w X.K X.mg X.base CX n f fd ps sp) (hr : Room n X.A) (hb : Binds X.K fd ps []) (hx : Passes CX X E) : TruR X (rTruO C sp E) := by
  intro pins s σ H x v Q I r h
  obtain ⟨a, dx, fs, rfl, ha, q⟩ := h
  cases r
  obtain ⟨mA, J, _⟩ := ins_get I.hok ha
  obtain ⟨od, J, _⟩ := J.look
  obtain ⟨m, hF⟩ := I.fr
  refine PySem.W.truthy_K hF I.ok.mod.kin J om.at_ om.fn (wpAny_mono (run_in (us := [.ref a]) (ws := [.ref a]) F hr I.env0 hb hx I (.cons rfl .nil) q) (fun w s' ⟨z, H', I', rz, k, ez, qz⟩ => ?_) fun _ _ e => e)
  subst ez
  obtain rfl : w = .bool k := rz
  exact ⟨H', I', qz⟩
/-- len(x) by an own __len__ -/
def rLenO (C : Addr) (sp : Sp) (E : XK) : List V → Hp → VK → Prop := fun xs H Q => ∃ a dx fs, xs = [.ref a] ∧ H a = some (.ins C dx fs) ∧ sp [.ref a] H (fun z H' => ∃ k : Int, z = .int k ∧ 0 ≤ k ∧ k < 2 ^ 63 ∧ Q (.int k) H') E
theorem call_lenO (om : OM X.K C "__len__" f) (F : FnOk X.prog X.w X.K X.mg X.base CX n f fd ps sp) (hr : Room (n + 1) X.A) (hb : Binds X.K fd ps []) (hx : Passes CX X E) : CallR X (.builtin "len") (rLenO C sp E) := by
  intro pins s σ H xs us Q I r h
  obtain ⟨a, dx, fs, rfl, ha, q⟩ := h
  obtain ⟨u, rfl, ru⟩ := vals1 r
  cases ru
  obtain ⟨mA, J, _⟩ := ins_get I.hok ha
  obtain ⟨od, J, _⟩ := J.look
  obtain ⟨m, hF⟩ := I.fr
  refine PySem.W.len_K hF I.ok.mod.kin J om.at_ om.fn (wpAny_mono (run_in (us := [.ref a]) (ws := [.ref a]) F hr.in1 I.env0.in1 hb hx I (.cons rfl .nil) q) (fun w s' ⟨z, H', I', rz, k, ez, k0, k1, qz⟩ => ?_) fun _ _ e => e)
  subst ez
  obtain ⟨t, rfl⟩ := rz
  exact ⟨⟨k0, k1⟩, .int k, H', I'.tok _, ⟨_, rfl⟩, qz⟩
end
/-- enumerate of a tuple as a walk -/
theorem walk_enumT {K : PySem.W.Frag} {a : Addr} {xs : List V} : Walk (IteT K a) xs.length (fun H => SqT K H a xs) (YPair (fun i => some (.int (i : Nat))) (fun i => xs[i]?)) :=
  ⟨fun i _ hi q => ⟨xs, xs[i], q, by simp [hi]⟩, fun _ q => ⟨xs, q, Nat.le_refl _⟩, fun i _ _ _ _ q ⟨T, x, e1, e2, e3, e4⟩ => ⟨T, _, x, e1, e2, e3, rfl, e4 xs q⟩⟩
end Ow
namespace Ow
open PySem PySem.Spec PyProof.Rows L2
/-- o.f as one of several targets -/
def gFld (K : PySem.W.Frag) (to : TE) (f : Str) : TG := fun y σ H Q => to σ H fun x H1 => ∃ a C dx fs, x = .ref a ∧ H1 a = some (.ins C dx fs) ∧ Cls K C ∧ NoAttr K C f ∧ fs.length < 1000 ∧ Q σ (upd H1 a (.ins C dx (putF f y fs)))
theorem pg_fld {X : Cx} {o : Expr} {to : TE} {f : Str} {pos : Pos} (ho : PE X o to) : PG X (.Attribute o f pos) (gFld X.K to f) := by
  refine ⟨fun pins s σ H v u Q I ru h => ?_⟩
  rw [assign_Attribute]
  refine wpAny_bind (wpAny_holding (thn (ho.run pins s σ H _ I h) fun w s1 ⟨x, H1, I1, rx, a, C, dx, fs, ex, ea, c, nn, l, q⟩ => ?_))
  subst ex
  obtain rfl : w = Value.ref a := rx
  refine wpAny_bind (wpAny_standAt (wpAny_bind (wpAny_holding (setattr_ok I1 ea c nn l ru fun s3 I3 => ?_))))
  exact wpAny_release ⟨σ, _, I3, q⟩
end Ow
namespace Ow
open PySem L2
/-- the truth of the i-th slot's value, by a name -/
def tTru (K : PySem.W.Frag) (i : Nat) : TT := fun σ H Q => tVar i σ H fun x H1 => ∃ k, TruV K x H1 k ∧ Q k H1
end Ow
namespace Ow
open PySem PySem.Spec PyProof.Rows L2
/-- bool(a tuple) -/
theorem boolT_new (l : Addr) (its : Array Value) (hz : (its.size : Int) < 2 ^ 63) : Meets (Builtin.«bool.__new__» ⟨[.type "bool", .ref l], []⟩) (fun _ R s => IsTup s.heap l its ∧ R (.ok (.ret (.bool (!its.isEmpty)))) { s with toks := s.toks + 1 + 1 }) := .of_wp fun prog w A R s hs => by
  obtain ⟨ht, hs⟩ := hs
  obtain ⟨hp, g, d, tk, os⟩ := s
  have sb := PySem.F.conv_sub_bool
  repeat (any_goals (first | assumption | with_reducible refine truthy_tuple ht hz ?_ | wp_step))
  all_goals first | exact ⟨_, rfl, hs⟩ | exact hs
theorem call_boolT {X : Cx} : CallR X (.type "bool") (fun xs H Q => ∃ (a : Addr) (zs : List V), xs = [.ref a] ∧ SqT X.K H a zs ∧ Q (.bl (!zs.isEmpty)) H) := by
  intro pins s σ H xs us Q I r h
  obtain ⟨a, zs, rfl, hq, q⟩ := h
  obtain ⟨u, rfl, ru⟩ := vals1 r
  cases ru
  obtain ⟨its, rv, pt, hz⟩ := I.tuple hq
  have hl := rv.length
  have h63 := line63
  refine call_bool_1 (boolT_new a its.toArray (by simp only [List.size_toArray]; omega)) ⟨pt, rfl, .bl (!zs.isEmpty), H, I.tok _, ?_, q⟩
  rw [isEmpty_of rv]
  rfl
end Ow

namespace Ow
open PySem PySem.Spec PyProof.Rows L2
theorem wpAny_eq {α : Type} {M : Model} {A : Around} {Q : α → Shared → Prop} {E : Value → Shared → Prop} {s : Shared} {a b : Sem α} (e : a = b) (h : wpAny M A b Q E s) : wpAny M A a Q E s := e ▸ h
theorem gives_b0 (t u : Tok) : Gives (Builtin.«int.__format__» ⟨[.int 0 t, .str "b" u], []⟩) (.str "0") := fun prog w A R s hq => by
  unfold Builtin.«int.__format__»
  simp only [selfAndOne, noKeywords, Builtin.Int.intOfSelf, asInt?, asStr?, List.isEmpty_nil, if_true, pure_bind, bind_pure, bind_assoc,
    show (Value.str "b" u == Value.none) = false from rfl, Bool.false_eq_true, if_false, show ((("b" : Str).length == 0) = true) = False from by decide +kernel]
  refine wpAny_bind (wpAny_typeNameOf (T := "str") (typeIs_str _ _ _) (by decide) fun _ => ?_)
  rw [if_neg (by decide +kernel)]
  refine wpAny_bind (wpAny_typeNameOfCut_int ?_)
  refine wpAny_eq (b := retStr ("0" : Str)) (by kernel_rfl) ?_
  exact wpAny_bind (wpAny_mkStr (wpAny_pure hq.2) hq.1)
theorem gives_b1 (t u : Tok) : Gives (Builtin.«int.__format__» ⟨[.int 1 t, .str "b" u], []⟩) (.str "1") := fun prog w A R s hq => by
  unfold Builtin.«int.__format__»
  simp only [selfAndOne, noKeywords, Builtin.Int.intOfSelf, asInt?, asStr?, List.isEmpty_nil, if_true, pure_bind, bind_pure, bind_assoc,
    show (Value.str "b" u == Value.none) = false from rfl, Bool.false_eq_true, if_false, show ((("b" : Str).length == 0) = true) = False from by decide +kernel]
  refine wpAny_bind (wpAny_typeNameOf (T := "str") (typeIs_str _ _ _) (by decide) fun _ => ?_)
  rw [if_neg (by decide +kernel)]
  refine wpAny_bind (wpAny_typeNameOfCut_int ?_)
  refine wpAny_eq (b := retStr ("1" : Str)) (by kernel_rfl) ?_
  exact wpAny_bind (wpAny_mkStr (wpAny_pure hq.2) hq.1)
theorem gives_b2 (t u : Tok) : Gives (Builtin.«int.__format__» ⟨[.int 2 t, .str "b" u], []⟩) (.str "10") := fun prog w A R s hq => by
  unfold Builtin.«int.__format__»
  simp only [selfAndOne, noKeywords, Builtin.Int.intOfSelf, asInt?, asStr?, List.isEmpty_nil, if_true, pure_bind, bind_pure, bind_assoc,
    show (Value.str "b" u == Value.none) = false from rfl, Bool.false_eq_true, if_false, show ((("b" : Str).length == 0) = true) = False from by decide +kernel]
  refine wpAny_bind (wpAny_typeNameOf (T := "str") (typeIs_str _ _ _) (by decide) fun _ => ?_)
  rw [if_neg (by decide +kernel)]
  refine wpAny_bind (wpAny_typeNameOfCut_int ?_)
  refine wpAny_eq (b := retStr ("10" : Str)) (by kernel_rfl) ?_
  exact wpAny_bind (wpAny_mkStr (wpAny_pure hq.2) hq.1)
theorem gives_b3 (t u : Tok) : Gives (Builtin.«int.__format__» ⟨[.int 3 t, .str "b" u], []⟩) (.str "11") := fun prog w A R s hq => by
  unfold Builtin.«int.__format__»
  simp only [selfAndOne, noKeywords, Builtin.Int.intOfSelf, asInt?, asStr?, List.isEmpty_nil, if_true, pure_bind, bind_pure, bind_assoc,
    show (Value.str "b" u == Value.none) = false from rfl, Bool.false_eq_true, if_false, show ((("b" : Str).length == 0) = true) = False from by decide +kernel]
  refine wpAny_bind (wpAny_typeNameOf (T := "str") (typeIs_str _ _ _) (by decide) fun _ => ?_)
  rw [if_neg (by decide +kernel)]
  refine wpAny_bind (wpAny_typeNameOfCut_int ?_)
  refine wpAny_eq (b := retStr ("11" : Str)) (by kernel_rfl) ?_
  exact wpAny_bind (wpAny_mkStr (wpAny_pure hq.2) hq.1)
/-- the binary digits of 0 to 3 -/
def binS (n : Nat) : Str := match n with
  | 0 => "0"
  | 1 => "1"
  | 2 => "10"
  | _ => "11"
theorem gives_b {n : Nat} (h : n ≤ 3) (t u : Tok) : Gives (Builtin.«int.__format__» ⟨[.int n t, .str "b" u], []⟩) (.str (binS n)) := by
  match n, h with
  | 0, _ => exact gives_b0 t u
  | 1, _ => exact gives_b1 t u
  | 2, _ => exact gives_b2 t u
  | 3, _ => exact gives_b3 t u
  | n + 4, h => omega
theorem binS_len {n : Nat} (h : n ≤ 3) : (binS n).length ≤ sizeLine := by
  match n, h with
  | 0, _ => decide +kernel
  | 1, _ => decide +kernel
  | 2, _ => decide +kernel
  | 3, _ => decide +kernel
  | n + 4, h => omega
section
variable {X : Cx}
/-- {n:b} for n from 0 to 3 -/
def tFmtB (te : TE) : TE := fun σ H Q => te σ H fun x H1 => ∃ n : Nat, n ≤ 3 ∧ x = .int (n : Int) ∧ Q (.str (binS n)) H1
theorem pe_fmtB {e : Expr} {te : TE} {k : Nat} {p pos pos2 : Pos} (he : PE X e te) : PE X (.FormattedValue e (-1) (some (.JoinedStr [.Constant (.str "b") k p] pos2)) pos) (tFmtB te) := by
  refine ⟨fun pins s σ H Q I h => ?_⟩
  refine wpAny_FormattedValue_spec (thn (he.run pins s σ H _ I h) fun v s1 hv => ?_)
  obtain ⟨x, H1, I1, r1, n, hn, rfl, q⟩ := hv
  obtain ⟨t, rfl⟩ := r1
  refine wpAny_JoinedStr_one (wpAny_Constant_str ⟨"b", _, rfl, ?_⟩)
  refine wpAny_formatField_spec (T := "int") (idf := "int.__format__") (by decide +kernel) (fun s' => typeIs_int s' _ _) slot_int_format entry_int_format args_int_format (fun u => gives_b hn _ u) ?_ (by decide +kernel) (binS_len hn)
  exact ⟨.str (binS n), H1, (I1.tok _).tok _, ⟨_, rfl⟩, q⟩
end
end Ow

namespace Pk
open PySem L2 Ow PySem.Spec PyProof.Rows
/-! dicts from ints to ints -/
def kvV (l : KV) : List (Key × V) := l.map fun p => (Sum.inl p.1, V.int p.2)
theorem kvV_val (l : KV) (k : Int) : valV (kvV l) (Sum.inl k) = (dvo l k).map V.int := by
  induction l with
  | nil => rfl
  | cons p l ih =>
    obtain ⟨j, v⟩ := p
    show valV ((Sum.inl j, V.int v) :: kvV l) _ = _
    rw [dvo_cons]
    by_cases c : j = k
    · rw [if_pos c, valV_pos (by rw [c])]
      rfl
    · rw [if_neg c, valV_neg (fun e => c (Sum.inl.inj e)), ih]
theorem kvV_put (l : KV) (k v : Int) : putK (kvV l) (Sum.inl k) (.int v) = kvV (putI l k v) := by
  unfold putK putI
  rw [valV_any, kvV_val, any_dvo, Option.isSome_map]
  split
  · unfold kvV
    rw [List.map_map, List.map_map]
    congr 1
    funext p
    show (if (Sum.inl p.1 : Key) = Sum.inl k then _ else _) = (_ : Key × V)
    by_cases c : p.1 = k
    · rw [if_pos (by rw [c]), Function.comp, if_pos c]
    · rw [if_neg (fun e => c (Sum.inl.inj e)), Function.comp, if_neg c]
  · unfold kvV
    rw [List.map_append]
    rfl
theorem kvV_len (l : KV) : (kvV l).length = l.length := List.length_map ..
theorem kvV_keys (l : KV) : (kvV l).map (·.1) = (l.map (·.1)).map Sum.inl := by unfold kvV; rw [List.map_map, List.map_map]; rfl
theorem put_snoc {l : KV} {k v : Int} (h : dvo l k = none) : putI l k v = l ++ [(k, v)] := by
  unfold putI
  rw [any_dvo, h]
  rfl
theorem mergeK_kv : ∀ (m acc : KV), NoD (acc ++ m) → mergeK (kvV acc) (kvV m) = kvV (acc ++ m)
  | [], acc, _ => by rw [List.append_nil]; rfl
  | p :: m, acc, n => by
    obtain ⟨k, v⟩ := p
    show mergeK (putK (kvV acc) (Sum.inl k) (.int v)) (kvV m) = _
    have hn : dvo acc k = none := dvo_none.mpr fun q hq e => by
      unfold NoD at n
      rw [List.map_append, List.map_cons] at n
      exact (List.nodup_append.mp n).2.2 q.1 (List.mem_map.mpr ⟨q, hq, rfl⟩) k List.mem_cons_self e
    rw [kvV_put, put_snoc hn, mergeK_kv m (acc ++ [(k, v)]) (by rw [List.append_assoc]; exact n), List.append_assoc]
    rfl
theorem merge0 {m : KV} (n : NoD m) : mergeK [] (kvV m) = kvV m := mergeK_kv m [] n
/-- a dict from ints to ints, told by its pairs -/
def DA (H : Hp) (a : Addr) (l : KV) : Prop := H a = some (.dK (kvV l))
/-- .. perhaps locked -/
def DR (H : Hp) (a : Addr) (l : KV) : Prop := Rd H a (.dK (kvV l))
theorem DA.r {H : Hp} {a : Addr} {l : KV} (h : DA H a l) : DR H a l := .inl h
theorem DA.same {H H' : Hp} {a : Addr} {l : KV} (h : DA H a l) (s : Same H H') : DA H' a l := s _ _ h
theorem DR.isD {H : Hp} {a : Addr} {l : KV} (h : DR H a l) : IsD H a := .inl ⟨_, h⟩
theorem DR.get {H : Hp} {a : Addr} {l : KV} (h : DR H a l) (k : Int) : DGet H a (.int k) ((dvo l k).map V.int) := .inl ⟨kvV l, Sum.inl k, h, rfl, (kvV_val l k).symm⟩
theorem DR.at {H : Hp} {a : Addr} {l : KV} (h : DR H a l) (n : NoD l) {p : Int × Int} (m : p ∈ l) : DGet H a (.int p.1) (some (.int p.2)) := by
  have := h.get p.1
  rw [dvo_mem n m] at this
  exact this
theorem getD_int (l : KV) (k : Int) : (((dvo l k).map V.int).getD (.int 0)) = .int (dv l k) := by
  rw [dv_dvo]
  cases dvo l k <;> rfl
theorem DA.put {H : Hp} {a : Addr} {l : KV} (h : DA H a l) (k v : Int) (hl : l.length < sizeLine) : DPut H a (.int k) (.int v) (upd H a (.dK (kvV (putI l k v)))) :=
  .inl ⟨kvV l, Sum.inl k, h, rfl, by rw [kvV_len]; exact hl, by rw [kvV_put]⟩
/-- which dicts are equal -/
def eqKV (l m : KV) : Bool := l.all fun p => dvo m p.1 == some p.2
theorem hits_kv {A : Around} {s : Shared} {m : KV} {vb : List (Key × Value)} (rb : L2.KV (kvV m) vb) : ∀ {l : KV} {va : List (Key × Value)}, L2.KV (kvV l) va → PySem.W.KeqHits A s vb va (eqKV l m)
  | [], _, ra => by
    cases ra
    exact .nil
  | p :: l, va, ra => by
    obtain ⟨j, x⟩ := p
    cases ra with
    | @cons _ q _ qs hd tl =>
      obtain ⟨k, v⟩ := q
      obtain ⟨e1, e2⟩ := hd
      cases e1
      obtain ⟨t, rfl⟩ := e2
      have rr := L2.KV.val rb (Sum.inl j)
      rw [kvV_val] at rr
      show PySem.W.KeqHits A s vb _ ((dvo m j == some x) && eqKV l m)
      cases hd : dvo m j with
      | none =>
        rw [hd] at rr
        refine .miss ?_
        cases hz : valueAt vb (Sum.inl j) with
        | none => rfl
        | some z => rw [hz] at rr; exact rr.elim
      | some y =>
        rw [hd] at rr
        obtain ⟨z, hz, rz⟩ := rr.some_of
        obtain ⟨u, rfl⟩ := rz
        have e3 : (some y == some x) = (x == y) := by
          show (y == x) = (x == y)
          rw [Bool.eq_iff_iff, beq_iff_eq, beq_iff_eq]
          exact eq_comm
        rw [e3]
        exact .hit hz (SeqAt.EqAt.int_int x t y u) (hits_kv rb tl)
section
variable {X : Cx}
def rEqI : R2 := fun x y H Q => ∃ a b l m, x = .ref a ∧ y = .ref b ∧ DR H a l ∧ DR H b m ∧ Q (.bl (decide (l.length = m.length) && eqKV l m)) H
def rNeI : R2 := fun x y H Q => ∃ a b l m, x = .ref a ∧ y = .ref b ∧ DR H a l ∧ DR H b m ∧ Q (.bl (!(decide (l.length = m.length) && eqKV l m))) H
theorem len_eq {l m : KV} {va vb : List (Key × Value)} (ra : L2.KV (kvV l) va) (rb : L2.KV (kvV m) vb) : (va.length == vb.length) = decide (l.length = m.length) := by
  have h1 := Paired.length ra
  have h2 := Paired.length rb
  rw [kvV_len] at h1 h2
  rw [← h1, ← h2]
  by_cases c : l.length = m.length <;> simp [c]
theorem op_eqI (hu : X.A.units < cLine) : OpR X (compareOp .Eq) rEqI := by
  intro pins s σ H x y v u Q I rx ry ⟨a, b, l, m, ex, ey, ha, hb, q⟩
  subst ex
  subst ey
  cases rx
  cases ry
  obtain ⟨_, z1, va, ra, da⟩ := dk_rd I.hok ha
  obtain ⟨_, z2, vb, rb, db⟩ := dk_rd I.hok hb
  exact PySem.W.keq_eq z1 z2 da db hu (fun _ => hits_kv rb ra) (fin_bl I q (by rw [len_eq ra rb]))
theorem op_neI (hu : X.A.units < cLine) : OpR X (compareOp .NotEq) rNeI := by
  intro pins s σ H x y v u Q I rx ry ⟨a, b, l, m, ex, ey, ha, hb, q⟩
  subst ex
  subst ey
  cases rx
  cases ry
  obtain ⟨_, z1, va, ra, da⟩ := dk_rd I.hok ha
  obtain ⟨_, z2, vb, rb, db⟩ := dk_rd I.hok hb
  exact PySem.W.keq_ne z1 z2 da db hu (fun _ => hits_kv rb ra) (fin_bl I q (by rw [len_eq ra rb]))
/-- the keys as a walk of ints -/
theorem key_int {P : Program} {w : World} {l : KV} {vs : List (Key × Value)} (ra : L2.KV (kvV l) vs) (i : Nat) (v : Value) : (∃ k x, vs[i]? = some (k, x) ∧ (mixKind P w).is k v = true) → ∃ t, v = Value.int ((l.map (·.1)).getD i 0) t := by
  rintro ⟨k, x, hk, is⟩
  have e := congrArg (fun z => z[i]?) ((L2.KV.keys ra).symm.trans (kvV_keys l))
  simp only [List.getElem?_map] at e
  rw [hk] at e
  cases hl : l[i]? with
  | none => rw [hl] at e; cases e
  | some p =>
    rw [hl] at e
    cases e
    obtain ⟨t, hv⟩ := Value.isInt_shape (k := p.1) (v := v) is
    refine ⟨t, ?_⟩
    rw [hv, List.getD_eq_getElem?_getD, List.getElem?_map, hl]
    rfl
def rBestI (r : Int → Int → Prop) : List V → Hp → VK → Prop := fun xs H Q => ∃ a l, xs = [V.ref a] ∧ DR H a l ∧ l ≠ [] ∧ ∀ m, (∃ p ∈ l, m = p.1) → (∀ p ∈ l, r m p.1) → Q (.int m) H
theorem best_end {pins : List (Addr × Obj)} {σ : L2.St} {H : Hp} {s : Shared} {Q : VK} {r : Int → Int → Prop} {l : KV} {i : Nat} {t : Tok} {h' : Heap} {tk : Nat} (I : Inv X pins σ H s) (hi : i < l.length) (hb : ∀ j, j < l.length → r ((l.map (·.1)).getD i 0) ((l.map (·.1)).getD j 0))
    (k : ∀ b o, s.heap.get? b = some o → h'.get? b = some o) (q : ∀ m, (∃ p ∈ l, m = p.1) → (∀ p ∈ l, r m p.1) → Q (.int m) H) : EP X pins σ Q (.int ((l.map (·.1)).getD i 0) t) { s with heap := h', toks := tk } := by
  have at_ : ∀ j, ∀ h : j < l.length, (l.map (·.1)).getD j 0 = (l[j]).1 := fun j h => by
    rw [List.getD_eq_getElem?_getD, List.getElem?_map, List.getElem?_eq_getElem h]
    rfl
  refine ⟨.int _, H, I.kept (t' := tk) k, ⟨t, rfl⟩, q _ ⟨_, List.getElem_mem hi, at_ i hi⟩ fun p hp => ?_⟩
  obtain ⟨j, hj, e⟩ := List.mem_iff_getElem.mp hp
  have z := hb j hj
  rw [at_ j hj, e] at z
  exact z
theorem cr_minI (hc : X.calm = true) : CallR X (.builtin "min") (rBestI fun m k => m ≤ k) := by
  intro pins s σ H vs us Q I r ⟨a, l, e, ha, ne, q⟩
  subst e
  rw [Vals.ref1 r]
  obtain ⟨_, z1, va, ra, da⟩ := dk_rd I.hok ha
  obtain ⟨ep, dat⟩ := da.dictAt
  have alt : a < s.heap.objs.size := let ⟨_, _, o, _⟩ := dat; Heap.lt_size o
  have lv := Paired.length ra
  rw [kvV_len] at lv
  have l0 := List.length_pos_iff.mpr ne
  refine call_min_walk (wpAny_pyIter_dict (knd := mixKind X.prog X.w) z1 dat ⟨_, _, _, _, _, _, _, rfl, Walks.dictKeys (A := X.A.in1) (knd := mixKind X.prog X.w) (I.ok.hd hc) _ a (Nat.ne_of_lt alt) va ep,
    ⟨⟨_, Heap.get?_push_size _ rfl, rfl, rfl⟩, dat.keep fun b u e => Heap.get?_push_of_some _ e⟩, ?_, lv ▸ l0, CmpOf.ints_lt _ (key_int ra), fun v h' tk hP hk => ?_⟩)
  · intro b hb
    rw [show (s.heap.push _).objs.size = s.heap.objs.size + 1 from Heap.size_push ..]
    simp only [List.mem_cons, List.not_mem_nil, or_false] at hb
    rcases hb with rfl | rfl
    · exact Nat.lt_succ_self _
    · exact Nat.lt_succ_of_lt alt
  · obtain ⟨t, rfl⟩ := key_int ra _ v hP
    have g := argBest_lt (fun i => (l.map (·.1)).getD i 0) (va.length - 1)
    refine best_end (s := s) (r := fun m k => m ≤ k) I (by have := g.1; omega) (fun j hj => g.2 j (by omega)) (fun b u e => hk b u (fun z => ?_) (Heap.get?_push_of_some _ e)) q
    rw [List.mem_singleton.mp z] at e
    exact Nat.lt_irrefl _ (Heap.lt_size e)
theorem cr_maxI (hc : X.calm = true) : CallR X (.builtin "max") (rBestI fun m k => k ≤ m) := by
  intro pins s σ H vs us Q I r ⟨a, l, e, ha, ne, q⟩
  subst e
  rw [Vals.ref1 r]
  obtain ⟨_, z1, va, ra, da⟩ := dk_rd I.hok ha
  obtain ⟨ep, dat⟩ := da.dictAt
  have alt : a < s.heap.objs.size := let ⟨_, _, o, _⟩ := dat; Heap.lt_size o
  have lv := Paired.length ra
  rw [kvV_len] at lv
  have l0 := List.length_pos_iff.mpr ne
  refine call_max_walk (wpAny_pyIter_dict (knd := mixKind X.prog X.w) z1 dat ⟨_, _, _, _, _, _, _, rfl, Walks.dictKeys (A := X.A.in1) (knd := mixKind X.prog X.w) (I.ok.hd hc) _ a (Nat.ne_of_lt alt) va ep,
    ⟨⟨_, Heap.get?_push_size _ rfl, rfl, rfl⟩, dat.keep fun b u e => Heap.get?_push_of_some _ e⟩, ?_, lv ▸ l0, CmpOf.ints_gt _ (key_int ra), fun v h' tk hP hk => ?_⟩)
  · intro b hb
    rw [show (s.heap.push _).objs.size = s.heap.objs.size + 1 from Heap.size_push ..]
    simp only [List.mem_cons, List.not_mem_nil, or_false] at hb
    rcases hb with rfl | rfl
    · exact Nat.lt_succ_self _
    · exact Nat.lt_succ_of_lt alt
  · obtain ⟨t, rfl⟩ := key_int ra _ v hP
    have g := argBest_gt (fun i => (l.map (·.1)).getD i 0) (va.length - 1)
    refine best_end (s := s) (r := fun m k => k ≤ m) I (by have := g.1; omega) (fun j hj => g.2 j (by omega)) (fun b u e => hk b u (fun z => ?_) (Heap.get?_push_of_some _ e)) q
    rw [List.mem_singleton.mp z] at e
    exact Nat.lt_irrefl _ (Heap.lt_size e)
end
end Pk

namespace Pk
open PySem L2 Ow
def top (i : Nat) : Stmt := PySem.Challenge.pw_underwords_k02_whole_polys_reckoned.main.body.getD i (.Pass ⟨0, 0, 0, 0⟩)
abbrev s_is_integer : Stmt := top 1
theorem sc_is_integer : FnScope ["value"] ["value"] (defScope s_is_integer) := ⟨rfl, rfl, rfl, by decide +kernel, rfl, by decide +kernel, by decide +kernel⟩
abbrev s_is_within : Stmt := top 2
theorem sc_is_within : FnScope ["value", "least", "most"] ["value", "least", "most"] (defScope s_is_within) := ⟨rfl, rfl, rfl, by decide +kernel, rfl, by decide +kernel, by decide +kernel⟩
abbrev s_init : Stmt := inClass (top 22) 0
theorem sc_init : FnScope ["self", "coefficients", "lowest"] ["self", "coefficients", "lowest"] (defScope s_init) := ⟨rfl, rfl, rfl, by decide +kernel, rfl, by decide +kernel, by decide +kernel⟩
abbrev s_coefficients : Stmt := inClass (top 22) 2
theorem sc_coefficients : FnScope ["self"] ["self"] (defScope s_coefficients) := ⟨rfl, rfl, rfl, by decide +kernel, rfl, by decide +kernel, by decide +kernel⟩
abbrev s_lowest : Stmt := inClass (top 22) 3
theorem sc_lowest : FnScope ["self"] ["self"] (defScope s_lowest) := ⟨rfl, rfl, rfl, by decide +kernel, rfl, by decide +kernel, by decide +kernel⟩
abbrev s_degree : Stmt := inClass (top 22) 4
theorem sc_degree : FnScope ["self"] ["self"] (defScope s_degree) := ⟨rfl, rfl, rfl, by decide +kernel, rfl, by decide +kernel, by decide +kernel⟩
abbrev s_is_alike_turned : Stmt := inClass (top 22) 5
theorem sc_is_alike_turned : FnScope ["self"] ["self"] (defScope s_is_alike_turned) := ⟨rfl, rfl, rfl, by decide +kernel, rfl, by decide +kernel, by decide +kernel⟩
abbrev s_at : Stmt := inClass (top 22) 6
theorem sc_at : FnScope ["self", "exponent"] ["self", "exponent"] (defScope s_at) := ⟨rfl, rfl, rfl, by decide +kernel, rfl, by decide +kernel, by decide +kernel⟩
abbrev s_raised : Stmt := inClass (top 22) 7
theorem sc_raised : FnScope ["self", "many", "made", "digit"] ["self", "many"] (defScope s_raised) := ⟨rfl, rfl, rfl, by decide +kernel, rfl, by decide +kernel, by decide +kernel⟩
abbrev s_turned : Stmt := inClass (top 22) 8
theorem sc_turned : FnScope ["self"] ["self"] (defScope s_turned) := ⟨rfl, rfl, rfl, by decide +kernel, rfl, by decide +kernel, by decide +kernel⟩
abbrev s_moved : Stmt := inClass (top 22) 9
theorem sc_moved : FnScope ["self", "by"] ["self", "by"] (defScope s_moved) := ⟨rfl, rfl, rfl, by decide +kernel, rfl, by decide +kernel, by decide +kernel⟩
abbrev s_value_at : Stmt := inClass (top 22) 10
theorem sc_value_at : FnScope ["self", "number", "value", "coefficient"] ["self", "number"] (defScope s_value_at) := ⟨rfl, rfl, rfl, by decide +kernel, rfl, by decide +kernel, by decide +kernel⟩
abbrev s_add : Stmt := inClass (top 22) 11
theorem sc_add : FnScope ["self", "other"] ["self", "other"] (defScope s_add) := ⟨rfl, rfl, rfl, by decide +kernel, rfl, by decide +kernel, by decide +kernel⟩
abbrev s_sub : Stmt := inClass (top 22) 12
theorem sc_sub : FnScope ["self", "other"] ["self", "other"] (defScope s_sub) := ⟨rfl, rfl, rfl, by decide +kernel, rfl, by decide +kernel, by decide +kernel⟩
abbrev s_mul : Stmt := inClass (top 22) 13
theorem sc_mul : FnScope ["self", "other"] ["self", "other"] (defScope s_mul) := ⟨rfl, rfl, rfl, by decide +kernel, rfl, by decide +kernel, by decide +kernel⟩
abbrev s_neg : Stmt := inClass (top 22) 14
theorem sc_neg : FnScope ["self", "number"] ["self"] (defScope s_neg) := ⟨rfl, rfl, rfl, by decide +kernel, rfl, by decide +kernel, by decide +kernel⟩
abbrev s_eq : Stmt := inClass (top 22) 15
theorem sc_eq : FnScope ["self", "other"] ["self", "other"] (defScope s_eq) := ⟨rfl, rfl, rfl, by decide +kernel, rfl, by decide +kernel, by decide +kernel⟩
abbrev s_bool : Stmt := inClass (top 22) 16
theorem sc_bool : FnScope ["self"] ["self"] (defScope s_bool) := ⟨rfl, rfl, rfl, by decide +kernel, rfl, by decide +kernel, by decide +kernel⟩
abbrev s_len : Stmt := inClass (top 22) 17
theorem sc_len : FnScope ["self"] ["self"] (defScope s_len) := ⟨rfl, rfl, rfl, by decide +kernel, rfl, by decide +kernel, by decide +kernel⟩
abbrev s_are_coefficients : Stmt := top 23
theorem sc_are_coefficients : FnScope ["value", "number"] ["value"] (defScope s_are_coefficients) := ⟨rfl, rfl, rfl, by decide +kernel, rfl, by decide +kernel, by decide +kernel⟩
abbrev s_is_exponent : Stmt := top 24
theorem sc_is_exponent : FnScope ["value"] ["value"] (defScope s_is_exponent) := ⟨rfl, rfl, rfl, by decide +kernel, rfl, by decide +kernel, by decide +kernel⟩
abbrev s_trimmed : Stmt := top 26
theorem sc_trimmed : FnScope ["coefficients", "lowest", "spots", "at", "number"] ["coefficients", "lowest"] (defScope s_trimmed) := ⟨rfl, rfl, rfl, by decide +kernel, rfl, by decide +kernel, by decide +kernel⟩
abbrev s_poly_of : Stmt := top 27
theorem sc_poly_of : FnScope ["coefficients", "lowest", "kept", "low", "made"] ["coefficients", "lowest"] (defScope s_poly_of) := ⟨rfl, rfl, rfl, by decide +kernel, rfl, by decide +kernel, by decide +kernel⟩
abbrev s_integer_at : Stmt := top 28
theorem sc_integer_at : FnScope ["coefficients", "at"] ["coefficients", "at"] (defScope s_integer_at) := ⟨rfl, rfl, rfl, by decide +kernel, rfl, by decide +kernel, by decide +kernel⟩
abbrev s_sum_of : Stmt := top 29
theorem sc_sum_of : FnScope ["one", "other", "sign", "number", "low", "high", "at"] ["one", "other", "sign"] (defScope s_sum_of) := ⟨rfl, rfl, rfl, by decide +kernel, rfl, by decide +kernel, by decide +kernel⟩
abbrev s_folded : Stmt := top 30
theorem sc_folded : FnScope ["one", "other", "widest"] ["one", "other"] (defScope s_folded) := ⟨rfl, rfl, rfl, by decide +kernel, rfl, by decide +kernel, by decide +kernel⟩
abbrev s_widest_of : Stmt := top 31
theorem sc_widest_of : FnScope ["coefficients", "number"] ["coefficients"] (defScope s_widest_of) := ⟨rfl, rfl, rfl, by decide +kernel, rfl, by decide +kernel, by decide +kernel⟩
abbrev s_packed : Stmt := top 32
theorem sc_packed : FnScope ["coefficients", "bits", "half"] ["coefficients", "bits"] (defScope s_packed) := ⟨rfl, rfl, rfl, by decide +kernel, rfl, by decide +kernel, by decide +kernel⟩
abbrev s_unpacked : Stmt := top 33
theorem sc_unpacked : FnScope ["number", "many", "bits", "half", "low", "high"] ["number", "many", "bits"] (defScope s_unpacked) := ⟨rfl, rfl, rfl, by decide +kernel, rfl, by decide +kernel, by decide +kernel⟩
abbrev s_power : Stmt := top 34
theorem sc_power : FnScope ["number", "many", "made", "digit"] ["number", "many"] (defScope s_power) := ⟨rfl, rfl, rfl, by decide +kernel, rfl, by decide +kernel, by decide +kernel⟩
abbrev s_l_basin : Stmt := top 36
theorem sc_l_basin : FnScope ["_law_script", "_law_at", "_law_cell", "_law_great", "_law_mixed"] ["_law_script", "_law_at"] (defScope s_l_basin) := ⟨rfl, rfl, rfl, by decide +kernel, rfl, by decide +kernel, by decide +kernel⟩
abbrev s_l_scoop : Stmt := top 37
theorem sc_l_scoop : FnScope ["_law_basin_here", "_law_total", "_law_found", "_law_one", "_law_two"] ["_law_basin_here", "_law_total"] (defScope s_l_scoop) := ⟨rfl, rfl, rfl, by decide +kernel, rfl, by decide +kernel, by decide +kernel⟩
abbrev s_l_one_of : Stmt := top 38
theorem sc_l_one_of : FnScope ["_law_basin_here", "_law_items"] ["_law_basin_here", "_law_items"] (defScope s_l_one_of) := ⟨rfl, rfl, rfl, by decide +kernel, rfl, by decide +kernel, by decide +kernel⟩
abbrev s_l_number : Stmt := top 39
theorem sc_l_number : FnScope ["_law_basin_here", "_law_most"] ["_law_basin_here"] (defScope s_l_number) := ⟨rfl, rfl, rfl, by decide +kernel, rfl, by decide +kernel, by decide +kernel⟩
abbrev s_l_plus : Stmt := top 40
theorem sc_l_plus : FnScope ["_law_one", "_law_other", "_law_factor", "_law_found", "_law_exponent"] ["_law_one", "_law_other", "_law_factor"] (defScope s_l_plus) := ⟨rfl, rfl, rfl, by decide +kernel, rfl, by decide +kernel, by decide +kernel⟩
abbrev s_l_times : Stmt := top 41
theorem sc_l_times : FnScope ["_law_one", "_law_other", "_law_found", "_law_exponent", "_law_more"] ["_law_one", "_law_other"] (defScope s_l_times) := ⟨rfl, rfl, rfl, by decide +kernel, rfl, by decide +kernel, by decide +kernel⟩
abbrev s_l_moved : Stmt := top 42
theorem sc_l_moved : FnScope ["_law_one", "_law_by", "_law_exponent"] ["_law_one", "_law_by"] (defScope s_l_moved) := ⟨rfl, rfl, rfl, by decide +kernel, rfl, by decide +kernel, by decide +kernel⟩
abbrev s_l_in_row : Stmt := top 43
theorem sc_l_in_row : FnScope ["_law_one", "_law_low", "_law_high", "_law_exponent"] ["_law_one"] (defScope s_l_in_row) := ⟨rfl, rfl, rfl, by decide +kernel, rfl, by decide +kernel, by decide +kernel⟩
abbrev s_l_of_row : Stmt := top 44
theorem sc_l_of_row : FnScope ["_law_coefficients", "_law_lowest", "_law_at", "_law_number_here"] ["_law_coefficients", "_law_lowest"] (defScope s_l_of_row) := ⟨rfl, rfl, rfl, by decide +kernel, rfl, by decide +kernel, by decide +kernel⟩
abbrev s_l_drawn_poly : Stmt := top 45
theorem sc_l_drawn_poly : FnScope ["_law_basin_here", "_law_found", "_law_turn"] ["_law_basin_here"] (defScope s_l_drawn_poly) := ⟨rfl, rfl, rfl, by decide +kernel, rfl, by decide +kernel, by decide +kernel⟩
abbrev s_l_is_told : Stmt := top 46
theorem sc_l_is_told : FnScope ["_law_poly", "_law_due", "_law_coefficients", "_law_lowest", "_law_exponent"] ["_law_poly", "_law_due"] (defScope s_l_is_told) := ⟨rfl, rfl, rfl, by decide +kernel, rfl, by decide +kernel, by decide +kernel⟩
abbrev s_l_power : Stmt := top 47
theorem sc_l_power : FnScope ["_law_due", "_law_many", "_law_found", "_law_turn"] ["_law_due", "_law_many"] (defScope s_l_power) := ⟨rfl, rfl, rfl, by decide +kernel, rfl, by decide +kernel, by decide +kernel⟩
abbrev s_l_value : Stmt := top 48
theorem sc_l_value : FnScope ["_law_due", "_law_number_here", "_law_found", "_law_exponent", "_law_part", "_law_turn"] ["_law_due", "_law_number_here"] (defScope s_l_value) := ⟨rfl, rfl, rfl, by decide +kernel, rfl, by decide +kernel, by decide +kernel⟩
abbrev s_l_right : Stmt := top 49
theorem sc_l_right : FnScope ["_law_basin_here", "_law_first", "_law_second", "_law_one", "_law_other", "_law_left", "_law_right_here", "_law_turned", "_law_exponent", "_law_by", "_law_many", "_law_number_here", "_law_low", "_law_alike"] ["_law_basin_here"] (defScope s_l_right) := ⟨rfl, rfl, rfl, by decide +kernel, rfl, by decide +kernel, by decide +kernel⟩
abbrev s_law : Stmt := top 50
theorem sc_law : FnScope ["_law_script", "_law_at", "_law_basin_here", "_law_poly", "_law_told"] ["_law_script"] (defScope s_law) := ⟨rfl, rfl, rfl, by decide +kernel, rfl, by decide +kernel, by decide +kernel⟩
def MDef (K : PySem.W.Frag) (mg : Str → Option Value) (x : Str) (st : Stmt) : Prop := ∃ f fd, Fun K x x st f fd ∧ mg x = some (.ref f)
def GM (K : PySem.W.Frag) (C : Addr) (m qual : Str) (st : Stmt) : Prop := ∃ f fd, Fun K m qual st f fd ∧ OM K C m f
def GP (K : PySem.W.Frag) (C : Addr) (m qual : Str) (st : Stmt) : Prop := ∃ p g fd, PropOf K C m p g ∧ Fun K m qual st g fd
structure TyO (K : PySem.W.Frag) (C : Addr) (T : String) : Prop where
  sub : PySem.W.subIn K (.type T) (.ref C) = some false
  kit : PySem.W.kitOne K (.type T) (.ref C) = some false
structure Txt (K : PySem.W.Frag) (mg : Str → Option Value) (C : Addr) : Prop where
  cl : Cls K C
  oc : OCls K C
  ic : C8.InsC K C
  mgPoly : mg "Poly" = some (.ref C)
  yTup : TyO K C "tuple"
  yDict : TyO K C "dict"
  nC : NoAttr K C "_coefficients"
  nL : NoAttr K C "_lowest"
  mkP : ∃ f fd, Mk K C f ∧ FunD K "__init__" "Poly.__init__" (defArgs s_init) (defBody s_init) (defScope s_init) [.int 0] [] f fd
  gMC : ∃ u, mg "MAX_COEFFICIENTS" = some u ∧ RelV (.int 200) u
  gME : ∃ u, mg "MAX_EXPONENT" = some u ∧ RelV (.int 400) u
  gMR : ∃ u, mg "MAX_RAISED" = some u ∧ RelV (.int 40) u
  pC : GP K C "coefficients" "Poly.coefficients" s_coefficients
  pL : GP K C "lowest" "Poly.lowest" s_lowest
  pD : GP K C "degree" "Poly.degree" s_degree
  pT : GP K C "is_alike_turned" "Poly.is_alike_turned" s_is_alike_turned
  mAt : GM K C "at" "Poly.at" s_at
  mRaised : GM K C "raised" "Poly.raised" s_raised
  mTurned : GM K C "turned" "Poly.turned" s_turned
  mMoved : GM K C "moved" "Poly.moved" s_moved
  mVal : GM K C "value_at" "Poly.value_at" s_value_at
  mAdd : GM K C "__add__" "Poly.__add__" s_add
  mSub : GM K C "__sub__" "Poly.__sub__" s_sub
  mMul : GM K C "__mul__" "Poly.__mul__" s_mul
  mNeg : GM K C "__neg__" "Poly.__neg__" s_neg
  mEq : GM K C "__eq__" "Poly.__eq__" s_eq
  mBool : GM K C "__bool__" "Poly.__bool__" s_bool
  mLen : GM K C "__len__" "Poly.__len__" s_len
  d_is_integer : MDef K mg "is_integer" s_is_integer
  d_is_within : MDef K mg "is_within" s_is_within
  d_are_coefficients : MDef K mg "are_coefficients" s_are_coefficients
  d_is_exponent : MDef K mg "is_exponent" s_is_exponent
  d_trimmed : MDef K mg "trimmed" s_trimmed
  d_poly_of : MDef K mg "poly_of" s_poly_of
  d_integer_at : MDef K mg "integer_at" s_integer_at
  d_sum_of : MDef K mg "sum_of" s_sum_of
  d_folded : MDef K mg "folded" s_folded
  d_widest_of : MDef K mg "widest_of" s_widest_of
  d_packed : MDef K mg "packed" s_packed
  d_unpacked : MDef K mg "unpacked" s_unpacked
  d_power : MDef K mg "power" s_power
  d_l_basin : MDef K mg "_law_basin" s_l_basin
  d_l_scoop : MDef K mg "_law_scoop" s_l_scoop
  d_l_one_of : MDef K mg "_law_one_of" s_l_one_of
  d_l_number : MDef K mg "_law_number" s_l_number
  d_l_plus : MDef K mg "_law_plus" s_l_plus
  d_l_times : MDef K mg "_law_times" s_l_times
  d_l_moved : MDef K mg "_law_moved" s_l_moved
  d_l_in_row : MDef K mg "_law_in_row" s_l_in_row
  d_l_of_row : MDef K mg "_law_of_row" s_l_of_row
  d_l_drawn_poly : MDef K mg "_law_drawn_poly" s_l_drawn_poly
  d_l_is_told : MDef K mg "_law_is_told" s_l_is_told
  d_l_power : MDef K mg "_law_power" s_l_power
  d_l_value : MDef K mg "_law_value" s_l_value
  d_l_right : MDef K mg "_law_right" s_l_right
  b_dict : mg "dict" = none
  b_list : mg "list" = none
  b_sorted : mg "sorted" = none
  b_isinstance : mg "isinstance" = none
  b_int : mg "int" = none
  b_bool : mg "bool" = none
  b_tuple : mg "tuple" = none
  b_len : mg "len" = none
  b_abs : mg "abs" = none
  b_max : mg "max" = none
  b_min : mg "min" = none
  b_all : mg "all" = none
  b_range : mg "range" = none
  b_enumerate : mg "enumerate" = none
  b_reversed : mg "reversed" = none
theorem MDef.cal {P : Program} {w : World} {K : PySem.W.Frag} {mg : Str → Option Value} {base : Heap} {x : Str} {st : Stmt} {k : Nat} {ps : List Str} {sp : Sp} (D : MDef K mg x st)
    (F : ∀ f fd, Fun K x x st f fd → FnOk P w K mg base CX0 k f fd ps sp)
    (h : ∀ (kV doc pm : Value) (an : Option Addr) (cdv ct : Value) (us : List Value), us.length = ps.length → bindArgs (PySem.W.fnOf x x (defArgs st) (defBody st) (defScope st) .none kV doc pm an cdv ct) ⟨us, []⟩ = pure (ps.zip us)) : Cal P w K mg base x k sp := by
  obtain ⟨f, fd, D, m⟩ := D
  exact ⟨⟨f, fd, ps, F f fd D, m, D.kp, D.binds h⟩⟩
theorem same_new {H : Hp} {p : Addr} {o : HO} (n : H p = none) : Same H (upd H p o) := fun q u e => by rw [upd_ne (ne_of_none e n)]; exact e
theorem sqT_same {K : PySem.W.Frag} {H H' : Hp} {a : Addr} {xs : List V} (s : Same H H') (h : SqT K H a xs) : SqT K H' a xs := SqT.ext h s
/-- a tuple of ints -/
def TI (K : PySem.W.Frag) (H : Hp) (v : V) (ns : List Int) : Prop := ∃ a, v = .ref a ∧ SqT K H a (ns.map V.int)
theorem TI.same {K : PySem.W.Frag} {H H' : Hp} {v : V} {ns : List Int} (h : TI K H v ns) (s : Same H H') : TI K H' v ns := h.elim fun a ⟨e, q⟩ => ⟨a, e, sqT_same s q⟩
theorem iteNT' {A B : Prop} {c : Bool} (e : c = true) (h : B) : if (!c) = true then A else B := by rw [e]; exact iteF h
theorem tup_ty {K : PySem.W.Frag} {H : Hp} {a : Addr} {xs : List V} (h : SqT K H a xs) : TyX K H (.ref a) (.type "tuple") := by
  rcases h with (h | ⟨o, h⟩) | ⟨o, its, n, hk, hc, _⟩
  · exact .base (.tup h)
  · exact .fTuple h
  · exact .kTuple hk hc
theorem szl {n : Nat} (h : n ≤ 1000) : n ≤ sizeLine := Nat.le_trans h (by decide)
/-- a row of at most n ints of at most w bits -/
structure Rw (n w : Nat) (a : List Int) : Prop where
  len : a.length ≤ n
  bd : ∀ c ∈ a, c.natAbs < 2 ^ w
theorem Rw.mono {n w m v : Nat} {a : List Int} (h : Rw n w a) (hn : n ≤ m) (hw : w ≤ v) : Rw m v a := ⟨Nat.le_trans h.len hn, fun c m => Nat.lt_of_lt_of_le (h.bd c m) (Nat.pow_le_pow_right (by decide) hw)⟩
def spWithin : Sp := fun vs H Q _ => ∃ i lo hi : Int, vs = [.int i, .int lo, .int hi] ∧ Q (.bl (decide (lo ≤ i) && decide (i ≤ hi))) H
def spInteger : Sp := fun vs H Q _ => ∃ i : Int, vs = [.int i] ∧ Q (.bl (decide (1 - 10 ^ 60 ≤ i) && decide (i ≤ 10 ^ 60 - 1))) H
def spExponent : Sp := fun vs H Q _ => ∃ i : Int, vs = [.int i] ∧ Q (.bl (decide (-400 ≤ i) && decide (i ≤ 400))) H
section
variable {P : Program} {w : World} {K : PySem.W.Frag} {mg : Str → Option Value} {base : Heap} {C : Addr}
theorem cal_is_within (T : Txt K mg C) : Cal P w K mg base "is_within" 1 spWithin := by
  refine T.d_is_within.cal (ps := ["value", "least", "most"]) (fun f fd D => ?_) (fun _ _ _ _ _ _ us hl => match us, hl with | [_, _, _], _ => rfl)
  refine D.ok sc_is_within (fun vs H Q E h => ?_) (fun cdv A outer s H vs Q E hr h => ?_)
  · obtain ⟨i, lo, hi, rfl, _⟩ := h
    rfl
  · obtain ⟨i, lo, hi, rfl, q⟩ := h
    refine ⟨_, (pss_one (ps_ret (pe_and (pe_callB call_isi (by rfl) T.b_isinstance (by decide +kernel) (pa_cons (pv 0) (pa_cons (pe_bltn (v := .ty "int") (by rfl) T.b_int (by decide +kernel) rfl) pa_nil))) (pe_and (pe_not (pe_callB call_isi (by rfl) T.b_isinstance (by decide +kernel) (pa_cons (pv 0) (pa_cons (pe_bltn (v := .ty "bool") (by rfl) T.b_bool (by decide +kernel) rfl) pa_nil)))) (pe_one (pe_chain op_le op_le (pv 1) (pv 0) (pv 2))))))), ?_⟩
    refine ⟨_, rfl, _, _, _, _, true, rfl, .ty "int", .base (.int i), kit_ty (by decide +kernel), _, rfl, iteT ?_⟩
    refine ⟨_, rfl, _, _, _, _, false, rfl, .ty "bool", .base (.int i), kit_ty (by decide +kernel), _, rfl, _, rfl, iteT ?_⟩
    refine ⟨_, rfl, _, rfl, _, _, rfl, rfl, _, rfl, ?_⟩
    by_cases h1 : lo ≤ i
    · rw [decide_eq_true h1] at *
      refine iteT ?_
      exact ⟨_, rfl, _, _, rfl, rfl, q⟩
    · rw [decide_eq_false h1] at *
      exact iteF q
theorem cal_is_integer (T : Txt K mg C) : Cal P w K mg base "is_integer" 2 spInteger := by
  refine T.d_is_integer.cal (ps := ["value"]) (fun f fd D => ?_) (fun _ _ _ _ _ _ us hl => match us, hl with | [_], _ => rfl)
  refine D.ok sc_is_integer (fun vs H Q E h => ?_) (fun cdv A outer s H vs Q E hr h => ?_)
  · obtain ⟨i, rfl, _⟩ := h
    rfl
  · obtain ⟨i, rfl, q⟩ := h
    refine ⟨_, (pss_one (ps_ret (pe_cal (cal_is_within T) (hr.mono (by decide)) (by rfl) (pa_cons (pv 0) (pa_cons (pe_op op_sub pe_int (pe_op op_pow pe_int pe_int)) (pa_cons (pe_op op_sub (pe_op op_pow pe_int pe_int) pe_int) pa_nil)))))), ?_⟩
    exact ⟨_, rfl, _, _, rfl, rfl, ⟨by decide, by decide, by decide⟩, _, _, rfl, rfl, _, _, rfl, rfl, ⟨by decide, by decide, by decide⟩, _, _, rfl, rfl, _, _, _, rfl, q⟩
theorem cal_is_exponent (T : Txt K mg C) : Cal P w K mg base "is_exponent" 2 spExponent := by
  refine T.d_is_exponent.cal (ps := ["value"]) (fun f fd D => ?_) (fun _ _ _ _ _ _ us hl => match us, hl with | [_], _ => rfl)
  refine D.ok sc_is_exponent (fun vs H Q E h => ?_) (fun cdv A outer s H vs Q E hr h => ?_)
  · obtain ⟨i, rfl, _⟩ := h
    rfl
  · obtain ⟨i, rfl, q⟩ := h
    refine ⟨_, (pss_one (ps_ret (pe_cal (cal_is_within T) (hr.mono (by decide)) (by rfl) (pa_cons (pv 0) (pa_cons (pe_un un_neg (C8.pe_gc (v := .int 400) (by rfl) T.gME)) (pa_cons (C8.pe_gc (v := .int 400) (by rfl) T.gME) pa_nil)))))), ?_⟩
    exact ⟨_, rfl, _, rfl, _, _, _, rfl, q⟩
end
end Pk

namespace Pk
open PySem L2 Ow
theorem bits_le {x : Int} {k : Nat} (h : x.natAbs < 2 ^ k) (h0 : 0 < k) : Builtin.Int.intBits x ≤ k := by
  have := PySem.Flt.log2_lt_of h0 h
  unfold Builtin.Int.intBits
  split <;> omega
theorem ev_bd (bits W : Nat) : ∀ {cs : List Int}, (∀ c ∈ cs, c.natAbs < 2 ^ W) → (ev (2 ^ bits) cs).natAbs < 2 ^ (W + (bits + 1) * cs.length)
  | [], _ => by
    show (0 : Int).natAbs < _
    exact Nat.pow_pos (by decide)
  | c :: cs, h => by
    have ih := ev_bd bits W (cs := cs) fun x m => h x (List.mem_cons_of_mem _ m)
    have hc := h c List.mem_cons_self
    rw [ev]
    have e1 : ((2 : Int) ^ bits * ev (2 ^ bits) cs).natAbs = 2 ^ bits * (ev (2 ^ bits) cs).natAbs := by
      rw [Int.natAbs_mul, Int.natAbs_pow]
      rfl
    have t := Int.natAbs_add_le c ((2 : Int) ^ bits * ev (2 ^ bits) cs)
    rw [e1] at t
    have p1 : 2 ^ bits * (ev (2 ^ bits) cs).natAbs + 1 ≤ 2 ^ bits * 2 ^ (W + (bits + 1) * cs.length) := by
      have : 0 < 2 ^ bits := Nat.pow_pos (by decide)
      have := Nat.mul_le_mul_left (2 ^ bits) (Nat.succ_le_of_lt ih)
      rw [Nat.mul_succ] at this
      omega
    have e2 : 2 ^ bits * 2 ^ (W + (bits + 1) * cs.length) = 2 ^ (W + ((bits + 1) * cs.length + bits)) := by
      rw [← Nat.pow_add]
      congr 1
      omega
    have e3 : 2 ^ (W + (bits + 1) * (c :: cs).length) = 2 * 2 ^ (W + ((bits + 1) * cs.length + bits)) := by
      rw [List.length_cons, Nat.mul_succ, show W + ((bits + 1) * cs.length + (bits + 1)) = (W + ((bits + 1) * cs.length + bits)) + 1 by omega, Nat.pow_succ, Nat.mul_comm]
    have p2 : 2 ^ W ≤ 2 ^ (W + ((bits + 1) * cs.length + bits)) := Nat.pow_le_pow_right (by decide) (by omega)
    rw [e3]
    omega
def spPacked (K : PySem.W.Frag) : Nat → Sp
  | 0 => fun _ _ _ _ => False
  | d + 1 => fun vs H Q _ => ∃ (v : V) (cs : List Int) (bits W : Nat), vs = [v, .int bits] ∧ TI K H v cs ∧ 0 < cs.length ∧ cs.length ≤ 2 ^ d ∧ cs.length ≤ 900 ∧ bits ≤ 3000 ∧ W ≤ 3000 ∧ (∀ c ∈ cs, c.natAbs < 2 ^ W) ∧ ∀ H' : Hp, Same H H' → Q (.int (ev (2 ^ bits) cs)) H'
theorem cut_lo (cs : List Int) (h : Nat) (hh : h ≤ cs.length) : cutV (cs.map V.int) none (some (h : Int)) = (cs.take h).map V.int := by
  show ((cs.map V.int).drop 0).take (HT.sIx (cs.map V.int).length (cs.map V.int).length (some (h : Int)) - 0) = _
  rw [HT.sIx_nat, List.length_map, Nat.min_eq_left hh, List.drop_zero, Nat.sub_zero, List.map_take]
theorem cut_hi (cs : List Int) (h : Nat) (hh : h ≤ cs.length) : cutV (cs.map V.int) (some (h : Int)) none = (cs.drop h).map V.int := by
  show ((cs.map V.int).drop (HT.sIx (cs.map V.int).length 0 (some (h : Int)))).take ((cs.map V.int).length - HT.sIx (cs.map V.int).length 0 (some (h : Int))) = _
  rw [HT.sIx_nat, List.length_map, Nat.min_eq_left hh, List.map_drop]
  exact List.take_of_length_le (by rw [List.length_drop, List.length_map]; exact Nat.le_refl _)
section
variable {P : Program} {w : World} {K : PySem.W.Frag} {mg : Str → Option Value} {base : Heap} {C : Addr}
theorem cal_packed (T : Txt K mg C) : ∀ d, Cal P w K mg base "packed" d (spPacked K d)
  | 0 => by
    refine T.d_packed.cal (ps := ["coefficients", "bits"]) (fun f fd D => ?_) (fun _ _ _ _ _ _ us hl => match us, hl with | [_, _], _ => rfl)
    exact ⟨fun vs H Q E h => h.elim, fun _ _ _ _ _ _ _ _ _ _ _ _ _ h => h.elim⟩
  | d + 1 => by
    have ih := cal_packed T d
    refine T.d_packed.cal (ps := ["coefficients", "bits"]) (fun f fd D => ?_) (fun _ _ _ _ _ _ us hl => match us, hl with | [_, _], _ => rfl)
    refine D.ok sc_packed (fun vs H Q E h => ?_) (fun cdv A outer s H vs Q E hr h => ?_)
    · obtain ⟨v, cs, bits, W, rfl, _⟩ := h
      rfl
    · obtain ⟨v, cs, bits, W, rfl, ⟨a, rfl, ha⟩, l0, ld, l64, hb, hW, bd, k⟩ := h
      refine ⟨_, (pss_cons (ps_if (pt_cmpR op_eq (pe_callB call_len_seq (by rfl) T.b_len (by decide +kernel) (pa_cons (pv 0) pa_nil)) pe_int (nomark _)) (pss_one (ps_ret (pe_ix ix_tup (pv 0) pe_int (fun _ _ => rfl)))) pss_nil)
      (pss_cons (ps_set (i := 2) sc_packed.nd rfl (Or.inl rfl) (pe_op op_fdiv (pe_callB call_len_seq (by rfl) T.b_len (by decide +kernel) (pa_cons (pv 0) pa_nil)) pe_int))
      (pss_one (ps_ret (pe_op op_add (pe_cal ih hr (by rfl) (pa_cons (pe_slice sl_tup (pv 0) po_none (po_some (pv 2))) (pa_cons (pv 1) pa_nil))) (pe_op op_shlN (pe_cal ih hr (by rfl) (pa_cons (pe_slice sl_tup (pv 0) (po_some (pv 2)) po_none) (pa_cons (pv 1) pa_nil))) (pe_op op_mulW (pv 1) (pv 2)))))))), ?_⟩
      refine ⟨_, rfl, _, _, rfl, .inr ha, rfl, _, rfl, ite2 (fun h1 => ?_) (fun h1 => ?_)⟩
      · have e1 : cs.length = 1 := by
          have := V.int.inj (of_decide_eq_true h1)
          rw [List.length_map] at this
          omega
        match cs, e1 with
        | [c], _ =>
          refine ⟨_, rfl, _, _, _, _, rfl, rfl, ha, rfl, ?_⟩
          have := k H (.refl H)
          rw [show ev (2 ^ bits) [c] = c by simp [ev]] at this
          exact this
      · have ne1 : cs.length ≠ 1 := fun e => h1 (by rw [List.length_map, e]; rfl)
        have h2 : 2 ≤ cs.length := by omega
        have eh : (((cs.map V.int).length : Int)) / 2 = ((cs.length / 2 : Nat) : Int) := by
          rw [List.length_map]
          rfl
        obtain ⟨d', rfl⟩ : ∃ d', d = d' + 1 := ⟨d - 1, by
          cases d with
          | zero => rw [Nat.pow_zero] at ld; omega
          | succ d => rfl⟩
        rw [Nat.pow_succ] at ld
        refine ⟨_, rfl, _, _, rfl, .inr ha, _, _, rfl, rfl, ⟨by decide, by decide⟩, ?_⟩
        rw [show (fun i j : Int => V.int (i / j)) (((cs.map V.int).length : Nat) : Int) 2 = V.int ((cs.length / 2 : Nat) : Int) from congrArg V.int eh]
        have hle : cs.length / 2 ≤ cs.length := by omega
        refine ⟨_, rfl, _, rfl, _, rfl, a, _, rfl, ha, ?_, fun p1 n1 => ?_⟩
        · rw [show HT.sIx (cs.map V.int).length (cs.map V.int).length (some ((cs.length / 2 : Nat) : Int)) = cs.length / 2 by rw [HT.sIx_nat, List.length_map, Nat.min_eq_left hle], List.length_map]
          omega
        rw [cut_lo cs _ hle]
        refine ⟨_, rfl, _, cs.take (cs.length / 2), bits, W, rfl, ⟨p1, rfl, .of upd_same⟩, by rw [List.length_take]; omega, by rw [List.length_take]; omega, by rw [List.length_take]; omega, hb, hW, fun c m => bd c (List.mem_of_mem_take m), fun H1 s1 => ?_⟩
        have S1 := (same_new (o := .tup ((cs.take (cs.length / 2)).map V.int)) n1).trans s1
        refine ⟨_, rfl, _, rfl, _, rfl, a, _, rfl, sqT_same S1 ha, ?_, fun p2 n2 => ?_⟩
        · rw [show HT.sIx (cs.map V.int).length 0 (some ((cs.length / 2 : Nat) : Int)) = cs.length / 2 by rw [HT.sIx_nat, List.length_map, Nat.min_eq_left hle]]
          omega
        rw [cut_hi cs _ hle]
        have dl : (cs.drop (cs.length / 2)).length = cs.length - cs.length / 2 := List.length_drop
        have bdd : ∀ c ∈ cs.drop (cs.length / 2), c.natAbs < 2 ^ W := fun c m => bd c (List.mem_of_mem_drop m)
        refine ⟨_, rfl, _, cs.drop (cs.length / 2), bits, W, rfl, ⟨p2, rfl, .of upd_same⟩, by omega, by omega, by omega, hb, hW, bdd, fun H2 s2 => ?_⟩
        have S2 := (S1.trans (same_new (o := .tup ((cs.drop (cs.length / 2)).map V.int)) n2)).trans s2
        refine ⟨_, rfl, _, rfl, _, _, rfl, rfl, wide_mul (a := 12) (b := 10) (by omega) (by omega) (by decide) (by decide) (by decide), ?_⟩
        have bh : (bits + 1) * (cs.length - cs.length / 2) ≤ 3001 * 900 := Nat.mul_le_mul (by omega) (by omega)
        have bh2 : bits * (cs.length / 2) ≤ 3000 * 900 := Nat.mul_le_mul hb (by omega)
        refine ⟨_, bits * (cs.length / 2), rfl, by rw [Int.natCast_mul], shl_ok (ev_bd bits W bdd) (by rw [dl]; omega), ?_⟩
        have kk := k _ S2
        rw [ev_split (2 ^ bits) (cs.length / 2) cs hle] at kk
        refine ⟨_, _, rfl, rfl, ?_⟩
        rw [show ev ((2 : Int) ^ bits) (cs.drop (cs.length / 2)) * 2 ^ (bits * (cs.length / 2)) = (2 ^ bits) ^ (cs.length / 2) * ev (2 ^ bits) (cs.drop (cs.length / 2)) by rw [Int.pow_mul, Int.mul_comm]]
        exact kk
end
end Pk

namespace Pk
open PySem L2 Ow
def spUnpacked (K : PySem.W.Frag) : Nat → Sp
  | 0 => fun _ _ _ _ => False
  | d + 1 => fun vs H Q _ => ∃ (ds : List Int) (bits : Nat), vs = [.int (ev (2 ^ bits) ds), .int (ds.length : Nat), .int bits] ∧ 0 < ds.length ∧ ds.length ≤ 2 ^ d ∧ ds.length ≤ 1800 ∧ 0 < bits ∧ bits ≤ 3000 ∧ Sm (2 ^ bits) ds ∧
    ∀ (v : V) (H' : Hp), Same H H' → TI K H' v ds → Q v H'
theorem top_bit {l : Int} {k : Nat} (h0 : 0 ≤ l) (hk : 0 < k) (hl : l < 2 ^ k) : (l / 2 ^ (k - 1) ≠ 0) ↔ 2 ^ k ≤ 2 * l := by
  obtain ⟨j, rfl⟩ : ∃ j, k = j + 1 := ⟨k - 1, by omega⟩
  rw [Nat.add_sub_cancel, Int.pow_succ] at *
  have pj : (0 : Int) < 2 ^ j := Int.pow_pos (by omega)
  constructor
  · intro h
    have : 0 ≤ l / 2 ^ j := Int.ediv_nonneg h0 (by omega)
    have h1 : 1 ≤ l / 2 ^ j := by omega
    have := (Int.le_ediv_iff_mul_le pj).mp h1
    omega
  · intro h e
    have h1 : 1 ≤ l / 2 ^ j := (Int.le_ediv_iff_mul_le pj).mpr (by omega)
    omega
section
variable {P : Program} {w : World} {K : PySem.W.Frag} {mg : Str → Option Value} {base : Heap} {C : Addr}
theorem cal_unpacked (T : Txt K mg C) : ∀ d, Cal P w K mg base "unpacked" d (spUnpacked K d)
  | 0 => by
    refine T.d_unpacked.cal (ps := ["number", "many", "bits"]) (fun f fd D => ?_) (fun _ _ _ _ _ _ us hl => match us, hl with | [_, _, _], _ => rfl)
    exact ⟨fun vs H Q E h => h.elim, fun _ _ _ _ _ _ _ _ _ _ _ _ _ h => h.elim⟩
  | d + 1 => by
    have ih := cal_unpacked T d
    refine T.d_unpacked.cal (ps := ["number", "many", "bits"]) (fun f fd D => ?_) (fun _ _ _ _ _ _ us hl => match us, hl with | [_, _, _], _ => rfl)
    refine D.ok sc_unpacked (fun vs H Q E h => ?_) (fun cdv A outer s H vs Q E hr h => ?_)
    · obtain ⟨ds, bits, rfl, _⟩ := h
      rfl
    · obtain ⟨ds, bits, rfl, l0, ld, l64, b0, hb, sm, k⟩ := h
      refine ⟨_, (pss_cons (ps_if (pt_cmpR op_eq (pv 1) pe_int (nomark _)) (pss_one (ps_ret (pe_tup (pa_cons (pv 0) pa_nil)))) pss_nil)
      (pss_cons (ps_set (i := 3) sc_unpacked.nd rfl (Or.inl rfl) (pe_op op_fdiv (pv 1) pe_int))
      (pss_cons (ps_set (i := 4) sc_unpacked.nd rfl (Or.inl rfl) (pe_op op_andM (pv 0) (pe_op op_sub (pe_op op_oneShl pe_int (pe_op op_mulW (pv 2) (pv 3))) pe_int)))
      (pss_cons (ps_if (pt_truth (pe_op op_shrN (pv 4) (pe_op op_sub (pe_op op_mulW (pv 2) (pv 3)) pe_int)) (by intro _; rfl)) (pss_one (ps_set (i := 4) sc_unpacked.nd rfl (Or.inl rfl) (pe_op op_sub (pv 4) (pe_op op_oneShl pe_int (pe_op op_mulW (pv 2) (pv 3)))))) pss_nil)
      (pss_cons (ps_set (i := 5) sc_unpacked.nd rfl (Or.inl rfl) (pe_op op_shrN (pe_op op_sub (pv 0) (pv 4)) (pe_op op_mulW (pv 2) (pv 3))))
      (pss_one (ps_ret (pe_op op_catT (pe_cal ih hr (by rfl) (pa_cons (pv 4) (pa_cons (pv 3) (pa_cons (pv 2) pa_nil)))) (pe_cal ih hr (by rfl) (pa_cons (pv 5) (pa_cons (pe_op op_sub (pv 1) (pv 3)) (pa_cons (pv 2) pa_nil)))))))))))), ?_⟩
      refine ⟨_, rfl, rfl, _, rfl, ite2 (fun h1 => ?_) (fun h1 => ?_)⟩
      · have e1 : ds.length = 1 := by
          have := V.int.inj (of_decide_eq_true h1)
          omega
        match ds, e1 with
        | [c], _ =>
          refine ⟨_, rfl, show 1 ≤ sizeLine by decide, fun p np => ?_⟩
          refine k _ _ (same_new np) ⟨p, rfl, ?_⟩
          rw [show ev ((2 : Int) ^ bits) [c] = c by simp [ev]]
          exact .of upd_same
      · have ne1 : ds.length ≠ 1 := fun e => h1 (by rw [e]; rfl)
        have h2 : 2 ≤ ds.length := by omega
        obtain ⟨d', rfl⟩ : ∃ d', d = d' + 1 := ⟨d - 1, by
          cases d with
          | zero => rw [Nat.pow_zero] at ld; omega
          | succ d => rfl⟩
        rw [Nat.pow_succ] at ld
        have hle : ds.length / 2 ≤ ds.length := by omega
        have lt : (ds.take (ds.length / 2)).length = ds.length / 2 := by rw [List.length_take]; omega
        have dl : (ds.drop (ds.length / 2)).length = ds.length - ds.length / 2 := List.length_drop
        have st : Sm (2 ^ bits) (ds.take (ds.length / 2)) := fun c m => sm c (List.mem_of_mem_take m)
        have sd : Sm (2 ^ bits) (ds.drop (ds.length / 2)) := fun c m => sm c (List.mem_of_mem_drop m)
        have bh2 : bits * (ds.length / 2) ≤ 3000 * 1800 := Nat.mul_le_mul hb (by omega)
        have bh1 : 0 < bits * (ds.length / 2) := Nat.mul_pos b0 (by omega)
        have eb : ((bits : Int) * ((ds.length / 2 : Nat) : Int)) = ((bits * (ds.length / 2) : Nat) : Int) := by rw [Int.natCast_mul]
        have hB : (2 : Int) ≤ 2 ^ bits := by
          obtain ⟨j, rfl⟩ : ∃ j, bits = j + 1 := ⟨bits - 1, by omega⟩
          have : (0 : Int) < 2 ^ j := Int.pow_pos (by omega)
          rw [Int.pow_succ]
          omega
        have es := ev_split (2 ^ bits) (ds.length / 2) ds hle
        rw [← Int.pow_mul] at es
        have sm2 := ev_small hB st
        rw [lt, ← Int.pow_mul] at sm2
        have pH : (0 : Int) < 2 ^ (bits * (ds.length / 2)) := Int.pow_pos (by omega)
        have hl := lowS_eq pH es sm2.1 sm2.2
        have hh := high_eq pH es
        have m0 : 0 ≤ ev (2 ^ bits) ds % 2 ^ (bits * (ds.length / 2)) := Int.emod_nonneg _ (by omega)
        have m1 : ev (2 ^ bits) ds % 2 ^ (bits * (ds.length / 2)) < 2 ^ (bits * (ds.length / 2)) := Int.emod_lt_of_pos _ pH
        have tb := top_bit m0 bh1 m1
        unfold lowS at hl
        refine ⟨_, rfl, _, _, rfl, rfl, ⟨by decide, by decide⟩, ?_⟩
        rw [show (fun i j : Int => V.int (i / j)) ((ds.length : Nat) : Int) 2 = V.int ((ds.length / 2 : Nat) : Int) from rfl]
        refine ⟨_, rfl, _, rfl, _, rfl, _, _, rfl, rfl, wide_mul (a := 12) (b := 11) (by omega) (by omega) (by decide) (by decide) (by decide), ?_⟩
        refine ⟨bits * (ds.length / 2), rfl, congrArg V.int eb, by omega, _, _, rfl, rfl, _, bits * (ds.length / 2), rfl, rfl, ?_⟩
        refine ⟨_, rfl, _, rfl, _, rfl, _, _, rfl, rfl, wide_mul (a := 12) (b := 11) (by omega) (by omega) (by decide) (by decide) (by decide), _, _, rfl, rfl, ?_⟩
        refine ⟨_, bits * (ds.length / 2) - 1, rfl, congrArg V.int (by rw [eb]; omega), _, rfl, ite2 (fun ht => ?yesC) (fun ht => ?noC)⟩
        case' yesC =>
          have c1 := tb.mp (bne_iff_ne.mp ht)
          rw [if_pos c1] at hl
          refine ⟨_, rfl, _, rfl, _, rfl, _, _, rfl, rfl, wide_mul (a := 12) (b := 11) (by omega) (by omega) (by decide) (by decide) (by decide), bits * (ds.length / 2), rfl, congrArg V.int eb, by omega, _, _, rfl, rfl, ?_⟩
          rw [show (fun i j : Int => V.int (i - j)) (ev (2 ^ bits) ds % 2 ^ (bits * (ds.length / 2))) (2 ^ (bits * (ds.length / 2))) = V.int (ev (2 ^ bits) (ds.take (ds.length / 2))) from congrArg V.int hl]
        case' noC =>
          have c1 : ¬ 2 ^ (bits * (ds.length / 2)) ≤ 2 * (ev (2 ^ bits) ds % 2 ^ (bits * (ds.length / 2))) := fun c => ht (bne_iff_ne.mpr (tb.mpr c))
          rw [if_neg c1] at hl
          rw [hl]
        all_goals
          refine ⟨_, rfl, _, rfl, _, _, rfl, rfl, _, rfl, _, rfl, _, _, rfl, rfl, wide_mul (a := 12) (b := 11) (by omega) (by omega) (by decide) (by decide) (by decide), _, bits * (ds.length / 2), rfl, congrArg V.int eb, ?_⟩
          refine ⟨_, rfl, _, rfl, _, rfl, ds.take (ds.length / 2), bits, (by rw [lt]; rfl), by omega, by omega, by omega, b0, hb, st, fun v1 H1 s1 t1 => ?_⟩
          refine ⟨_, rfl, _, rfl, _, rfl, _, _, rfl, rfl, _, rfl, ds.drop (ds.length / 2), bits, ?_, by omega, by omega, by omega, b0, hb, sd, fun v2 H2 s2 t2 => ?_⟩
          · have e9 : ((ds.drop (ds.length / 2)).length : Int) = (ds.length : Int) - ((ds.length / 2 : Nat) : Int) := by omega
            show [V.int ((ev (2 ^ bits) ds - ev (2 ^ bits) (ds.take (ds.length / 2))) / 2 ^ (bits * (ds.length / 2))), V.int ((ds.length : Int) - ((ds.length / 2 : Nat) : Int)), V.int (bits : Int)] = _
            rw [hh, e9]
          obtain ⟨q1, rfl, g1⟩ := t1
          obtain ⟨q2, rfl, g2⟩ := t2
          refine ⟨q1, q2, _, _, rfl, rfl, sqT_same s2 g1, g2, ?_, (Nat.le_trans (by rw [List.length_map, List.length_map, lt, dl]; omega : _ ≤ 1800) (by decide)), fun e => ?_, fun _ p3 n3 => ?_⟩
          · intro e
            have := congrArg List.length e
            rw [List.length_map, lt] at this
            simp at this
            omega
          · have := congrArg List.length e
            rw [List.length_map, dl] at this
            simp at this
            omega
          · refine k _ _ ((s1.trans s2).trans (same_new n3)) ⟨p3, rfl, ?_⟩
            rw [← List.map_append, List.take_append_drop]
            exact .of upd_same
end
end Pk

namespace Pk
open PySem L2 Ow
/-- all but the list at D as it was -/
def Off (D : Addr) (H H' : Hp) : Prop := ∀ q o, q ≠ D → H q = some o → H' q = some o
theorem off_upd {D : Addr} {H : Hp} {u : HO} : Off D H (upd H D u) := fun q o n e => by rw [upd_ne n]; exact e
theorem same_off {H0 H H' : Hp} {D : Addr} (n : H0 D = none) (s : Same H0 H) (o : Off D H H') : Same H0 H' := fun q u e => o q u (ne_of_none e n) (s q u e)
theorem take_snoc {α : Type} {xs : List α} {i : Nat} {x : α} (h : xs[i]? = some x) : xs.take (i + 1) = xs.take i ++ [x] := by
  rw [List.take_add_one, h]
  rfl
theorem int_at {cs : List Int} {i : Nat} {x : V} (h : (cs.map V.int)[i]? = some x) : ∃ c, cs[i]? = some c ∧ x = .int c := by
  rw [List.getElem?_map] at h
  cases e : cs[i]? with
  | none => rw [e] at h; cases h
  | some c => rw [e] at h; exact ⟨c, rfl, (Option.some.inj h).symm⟩
def spWidest (K : PySem.W.Frag) : Sp := fun vs H Q _ => ∃ (v : V) (cs : List Int), vs = [v] ∧ TI K H v cs ∧ 0 < cs.length ∧ cs.length ≤ 900 ∧ ∀ (m : Nat) (H' : Hp), Same H H' → (∀ c ∈ cs, Builtin.Int.intBits c ≤ m) → (∃ c ∈ cs, m = Builtin.Int.intBits c) → Q (.int m) H'
def spAt (K : PySem.W.Frag) : Sp := fun vs H Q _ => ∃ (v : V) (cs : List Int) (i : Int), vs = [v, .int i] ∧ TI K H v cs ∧ Q (.int (cf cs i)) H
section
variable {P : Program} {w : World} {K : PySem.W.Frag} {mg : Str → Option Value} {base : Heap} {C : Addr}
theorem cal_widest_of (T : Txt K mg C) : Cal P w K mg base "widest_of" 1 (spWidest K) := by
  refine T.d_widest_of.cal (ps := ["coefficients"]) (fun f fd D => ?_) (fun _ _ _ _ _ _ us hl => match us, hl with | [_], _ => rfl)
  refine D.ok sc_widest_of (fun vs H Q E h => ?_) (fun cdv A outer s H vs Q E hr h => ?_)
  · obtain ⟨v, cs, rfl, _⟩ := h
    rfl
  · obtain ⟨v, cs, rfl, ⟨a, rfl, ha⟩, l0, l9, k⟩ := h
    refine ⟨_, (pss_one (ps_ret (pe_callB (cr_max rfl) (by rfl) T.b_max (by decide +kernel) (pa_cons (pe_lc (own := [("number", 1)]) (g := gName 1) (tt := tYes) rfl sc_widest_of.nd (pi_tup (pv 0)) (blkOk_by (own := [("number", 1)]) (N := ["coefficients", "number"]) (sc := defScope s_widest_of) (by decide +kernel)) (fun _ _ _ _ _ => (pg_name (i := 1) sc_widest_of.nd rfl (Or.inl rfl))) (fun _ _ _ _ _ => pts_nil) (fun _ _ _ _ _ => (pe_bits (pv 1)))) pa_nil)))), ?_⟩
    refine ⟨_, rfl, a, rfl, ⟨_, ha⟩, fun D nD => lc_tup (K := K) (a := a) (xs := cs.map V.int) (fun i H' => Same H H' ∧ H' D = some (.lst (((cs.take i).map fun c => ((Builtin.Int.intBits c : Nat) : Int)).map V.int))) ⟨same_new nD, upd_same⟩ (fun i H' _ h => sqT_same h.1 ha) ?_ ?_⟩
    · rintro i x H2 hm ⟨s2, hD⟩
      obtain ⟨c, hc, rfl⟩ := int_at hm
      have ilt := (List.getElem?_eq_some_iff.mp hc).1
      refine ⟨rfl, _, rfl, c, rfl, _, hD, ?_, same_off nD s2 off_upd, ?_⟩
      · rw [List.length_map, List.length_map, List.length_take]
        exact small1000 (by omega)
      · rw [upd_same, take_snoc hc, List.map_append, List.map_append]
        rfl
    · rintro H2 ⟨s2, hD⟩
      rw [List.length_map, List.take_length] at hD
      refine ⟨_, _, rfl, .of hD, by rw [List.length_map]; exact l0, fun m hm hb => ?_⟩
      obtain ⟨c, hc, e⟩ := List.mem_map.mp hm
      subst e
      exact k _ _ s2 (fun c' h' => by have := hb _ (List.mem_map.mpr ⟨c', h', rfl⟩); omega) ⟨c, hc, rfl⟩
theorem cal_integer_at (T : Txt K mg C) : Cal P w K mg base "integer_at" 1 (spAt K) := by
  refine T.d_integer_at.cal (ps := ["coefficients", "at"]) (fun f fd D => ?_) (fun _ _ _ _ _ _ us hl => match us, hl with | [_, _], _ => rfl)
  refine D.ok sc_integer_at (fun vs H Q E h => ?_) (fun cdv A outer s H vs Q E hr h => ?_)
  · obtain ⟨v, cs, i, rfl, _⟩ := h
    rfl
  · obtain ⟨v, cs, i, rfl, ⟨a, rfl, ha⟩, q⟩ := h
    refine ⟨_, (pss_one (ps_ret (pe_ifExp (pt_chain op_le op_lt pe_int (pv 1) (pe_callB call_len_seq (by rfl) T.b_len (by decide +kernel) (pa_cons (pv 0) pa_nil))) (pe_ix ix_tup (pv 0) (pv 1) (fun _ _ => rfl)) pe_int))), ?_⟩
    refine ⟨_, rfl, _, _, rfl, rfl, _, rfl, ?_⟩
    by_cases h1 : 0 ≤ i
    · rw [decide_eq_true h1] at *
      refine iteT ⟨_, rfl, _, _, rfl, .inr ha, _, _, rfl, rfl, _, rfl, ite2 (fun h2 => ?_) (fun h2 => ?_)⟩
      · have h2 := of_decide_eq_true h2
        rw [List.length_map] at h2
        have hi : i.toNat < cs.length := by omega
        refine ⟨_, rfl, _, rfl, _, _, _, _, rfl, rfl, ha, at_of (j := i.toNat) (by omega) (by rw [List.getElem?_map, List.getElem?_eq_getElem hi]; rfl), ?_⟩
        rw [show cf cs i = cs[i.toNat] by unfold cf; rw [if_pos h1, List.getD_eq_getElem?_getD, List.getElem?_eq_getElem hi]; rfl] at q
        exact q
      · have h2 : ¬ i < (cs.length : Int) := fun c => h2 (by rw [List.length_map]; exact decide_eq_true c)
        rw [cf_far (by omega)] at q
        exact q
    · rw [decide_eq_false h1] at *
      rw [cf_neg (by omega)] at q
      exact iteF ⟨_, rfl, iteF q⟩
end
end Pk

namespace Pk
open PySem L2 Ow
theorem lt_bits (x : Int) : x.natAbs < 2 ^ Builtin.Int.intBits x := by
  unfold Builtin.Int.intBits
  split
  · rename_i h
    simp at h
    simp [h]
  · exact Nat.lt_log2_self
theorem bits_rng {x : Int} {m : Nat} (h : Builtin.Int.intBits x ≤ m) : -((2 : Int) ^ m - 1) ≤ x ∧ x ≤ (2 : Int) ^ m - 1 := by
  have h1 := lt_bits x
  have h2 : 2 ^ Builtin.Int.intBits x ≤ 2 ^ m := Nat.pow_le_pow_right (by decide) h
  have h3 : ((2 ^ m : Nat) : Int) = (2 : Int) ^ m := by rw [Int.natCast_pow]; rfl
  omega
def prodL (a b : List Int) : List Int := if a = [] ∨ b = [] then [] else mulL a b
/-- rows whose packed product has a place -/
def ProdOk (a b : List Int) : Prop := ∃ na nb wa wb : Nat, Rw na wa a ∧ Rw nb wb b ∧ na ≤ 900 ∧ nb ≤ 900 ∧ 0 < wa ∧ 0 < wb ∧ wa + wb ≤ 2800 ∧ (wa + wb + 13) * (na + nb) ≤ 990000
def spFolded (K : PySem.W.Frag) : Sp := fun vs H Q _ => ∃ (v u : V) (a b : List Int), vs = [v, u] ∧ TI K H v a ∧ TI K H u b ∧ ProdOk a b ∧ ∀ (z : V) (H' : Hp), Same H H' → TI K H' z (prodL a b) → Q z H'
section
variable {P : Program} {w : World} {K : PySem.W.Frag} {mg : Str → Option Value} {base : Heap} {C : Addr}
theorem cal_folded (T : Txt K mg C) : Cal P w K mg base "folded" 13 (spFolded K) := by
  refine T.d_folded.cal (ps := ["one", "other"]) (fun f fd D => ?_) (fun _ _ _ _ _ _ us hl => match us, hl with | [_, _], _ => rfl)
  refine D.ok sc_folded (fun vs H Q E h => ?_) (fun cdv A outer s H vs Q E hr h => ?_)
  · obtain ⟨v, u, a, b, rfl, _⟩ := h
    rfl
  · obtain ⟨v, u, a, b, rfl, ⟨p, rfl, hp⟩, ⟨q, rfl, hq⟩, ⟨na, nb, wa, wb, ra, rb, na9, nb9, wa0, wb0, w28, hw⟩, k⟩ := h
    refine ⟨_, (pss_cons (ps_if (PW.pt (pw_or (pt_not (pt_truth (pv 0) (by intro _; rfl))) (pw_or1 (pt_not (pt_truth (pv 1) (by intro _; rfl)))))) (pss_one (ps_ret (pe_tup pa_nil))) pss_nil)
      (pss_cons (ps_set (i := 2) sc_folded.nd rfl (Or.inl rfl) (pe_op op_add (pe_op op_add (pe_op op_add (pe_cal (cal_widest_of T) (hr.mono (by decide)) (by rfl) (pa_cons (pv 0) pa_nil)) (pe_cal (cal_widest_of T) (hr.mono (by decide)) (by rfl) (pa_cons (pv 1) pa_nil))) (pe_bits (pe_callB (call_min2 rfl) (by rfl) T.b_min (by decide +kernel) (pa_cons (pe_callB call_len_seq (by rfl) T.b_len (by decide +kernel) (pa_cons (pv 0) pa_nil)) (pa_cons (pe_callB call_len_seq (by rfl) T.b_len (by decide +kernel) (pa_cons (pv 1) pa_nil)) pa_nil))))) pe_int))
      (pss_one (ps_ret (pe_cal (cal_unpacked T 12) (hr.mono (by decide)) (by rfl) (pa_cons (pe_op op_mulW (pe_cal (cal_packed T 11) (hr.mono (by decide)) (by rfl) (pa_cons (pv 0) (pa_cons (pv 2) pa_nil))) (pe_cal (cal_packed T 11) (hr.mono (by decide)) (by rfl) (pa_cons (pv 1) (pa_cons (pv 2) pa_nil)))) (pa_cons (pe_op op_sub (pe_op op_add (pe_callB call_len_seq (by rfl) T.b_len (by decide +kernel) (pa_cons (pv 0) pa_nil)) (pe_callB call_len_seq (by rfl) T.b_len (by decide +kernel) (pa_cons (pv 1) pa_nil))) pe_int) (pa_cons (pv 2) pa_nil)))))))), ?_⟩
    by_cases ea : a = []
    · subst ea
      refine ⟨_, rfl, false, .inr (.inl ⟨_, hp, rfl⟩), iteT ?_⟩
      exact ⟨show 0 ≤ sizeLine by decide, fun z nz => k _ _ (same_new nz) ⟨z, rfl, by rw [prodL, if_pos (.inl rfl)]; exact .of upd_same⟩⟩
    refine ⟨_, rfl, true, .inr (.inl ⟨_, hp, by cases a with | nil => exact absurd rfl ea | cons x a => rfl⟩), iteF ?_⟩
    by_cases eb : b = []
    · subst eb
      refine ⟨_, rfl, false, .inr (.inl ⟨_, hq, rfl⟩), iteT ?_⟩
      exact ⟨show 0 ≤ sizeLine by decide, fun z nz => k _ _ (same_new nz) ⟨z, rfl, by rw [prodL, if_pos (.inr rfl)]; exact .of upd_same⟩⟩
    refine ⟨_, rfl, true, .inr (.inl ⟨_, hq, by cases b with | nil => exact absurd rfl eb | cons x b => rfl⟩), iteF ?_⟩
    rw [prodL, if_neg (by simp [ea, eb])] at k
    have la : 0 < a.length := List.length_pos_iff.mpr ea
    have lb : 0 < b.length := List.length_pos_iff.mpr eb
    have ha64 : a.length ≤ 900 := Nat.le_trans ra.len na9
    have hb64 : b.length ≤ 900 := Nat.le_trans rb.len nb9
    refine ⟨_, rfl, _, a, rfl, ⟨p, rfl, hp⟩, la, by omega, fun m1 H1 s1 u1 e1 => ?_⟩
    refine ⟨_, rfl, _, b, rfl, ⟨q, rfl, sqT_same s1 hq⟩, lb, by omega, fun m2 H2 s2 u2 e2 => ⟨_, _, rfl, rfl, ?_⟩⟩
    have S2 := s1.trans s2
    have b1 : m1 ≤ wa := by
      obtain ⟨c, hc, rfl⟩ := e1
      exact bits_le (ra.bd c hc) wa0
    have b2 : m2 ≤ wb := by
      obtain ⟨c, hc, rfl⟩ := e2
      exact bits_le (rb.bd c hc) wb0
    refine ⟨_, rfl, _, _, rfl, .inr (sqT_same S2 hp), _, rfl, _, _, rfl, .inr (sqT_same S2 hq), _, _, rfl, _, rfl, _, _, rfl, rfl, _, _, rfl, rfl, ?_⟩
    rw [List.length_map, List.length_map]
    have em : (if (b.length : Int) < (a.length : Int) then (b.length : Int) else (a.length : Int)) = ((min a.length b.length : Nat) : Int) := by
      split <;> omega
    rw [em]
    have b3 : Builtin.Int.intBits ((min a.length b.length : Nat) : Int) ≤ 10 := bits_le (by show _ < 1024; omega) (by decide)
    have r3 := bits_rng (Nat.le_refl (Builtin.Int.intBits ((min a.length b.length : Nat) : Int)))
    generalize Builtin.Int.intBits ((min a.length b.length : Nat) : Int) = m3 at b3 r3
    have hsm : Sm (2 ^ (m1 + m2 + m3 + 1)) (mulL a b) := mul_sm (fun c h => bits_rng (u1 c h)) (fun c h => bits_rng (u2 c h)) r3.2
    have hlen := len_mulL ea eb
    have hev := ev_mulL (2 ^ (m1 + m2 + m3 + 1)) a b
    refine ⟨_, rfl, _, rfl, _, a, m1 + m2 + m3 + 1, wa, rfl, ⟨p, rfl, sqT_same S2 hp⟩, la, (by show a.length ≤ 1024; omega), ha64, by omega, by omega, ra.bd, fun H3 s3 => ?_⟩
    have S3 := S2.trans s3
    refine ⟨_, rfl, _, rfl, _, b, m1 + m2 + m3 + 1, wb, rfl, ⟨q, rfl, sqT_same S3 hq⟩, lb, (by show b.length ≤ 1024; omega), hb64, by omega, by omega, rb.bd, fun H4 s4 => ?_⟩
    have S4 := S3.trans s4
    have w1 : (m1 + m2 + m3 + 1 + 1) * a.length ≤ (wa + wb + 13) * na := Nat.mul_le_mul (by omega) ra.len
    have w2 : (m1 + m2 + m3 + 1 + 1) * b.length ≤ (wa + wb + 13) * nb := Nat.mul_le_mul (by omega) rb.len
    rw [Nat.mul_add] at hw
    refine ⟨_, _, rfl, rfl, wide_mul (ev_bd (m1 + m2 + m3 + 1) wa ra.bd) (ev_bd (m1 + m2 + m3 + 1) wb rb.bd) (by omega) (by omega) (by omega), ?_⟩
    refine ⟨_, rfl, _, _, rfl, .inr (sqT_same S4 hp), _, rfl, _, _, rfl, .inr (sqT_same S4 hq), _, _, rfl, rfl, _, _, rfl, rfl, _, rfl, ?_⟩
    rw [List.length_map, List.length_map]
    refine ⟨mulL a b, m1 + m2 + m3 + 1, ?_, by omega, (by rw [hlen]; show a.length + b.length - 1 ≤ 2048; omega), by omega, by omega, by omega, hsm, fun z H5 s5 t5 => k z H5 (S4.trans s5) t5⟩
    rw [hev, hlen, show (((a.length + b.length - 1 : Nat)) : Int) = (a.length : Int) + (b.length : Int) - 1 by omega]
    rfl
end
end Pk

namespace Pk
open PySem L2 Ow
theorem cf_drop (a : List Int) (f : Nat) {j : Int} (h : 0 ≤ j) : cf (a.drop f) j = cf a (f + j) := by
  unfold cf
  rw [if_pos h, if_pos (by omega), List.getD_eq_getElem?_getD, List.getD_eq_getElem?_getD, List.getElem?_drop, show f + j.toNat = ((f : Int) + j).toNat by omega]
theorem cf_take (a : List Int) (m : Nat) (j : Int) : cf (a.take m) j = if j < m then cf a j else 0 := by
  unfold cf
  by_cases h : 0 ≤ j
  · rw [if_pos h, if_pos h, List.getD_eq_getElem?_getD, List.getElem?_take]
    by_cases c : j < m
    · rw [if_pos c, if_pos (by omega), List.getD_eq_getElem?_getD]
    · rw [if_neg c, if_neg (by omega)]
      rfl
  · rw [if_neg h, if_neg h]
    split <;> rfl
def spots (cs : List Int) (n : Nat) : List Nat := (List.range n).filter fun i => cf cs (i : Nat) != 0
theorem spots_mem {cs : List Int} {n i : Nat} : i ∈ spots cs n ↔ i < n ∧ cf cs (i : Nat) ≠ 0 := by
  unfold spots
  rw [List.mem_filter, List.mem_range, bne_iff_ne]
theorem spots_asc (cs : List Int) (n : Nat) : (spots cs n).Pairwise (· < ·) := (List.pairwise_lt_range).filter _
theorem trim_cut {cs : List Int} {f l : Nat} {lo : Int} (fl : f ≤ l) (ln : l < cs.length) (cF : cf cs (f : Nat) ≠ 0) (cL : cf cs (l : Nat) ≠ 0) (lowz : ∀ i : Int, i < f → cf cs i = 0) (highz : ∀ i : Int, l < i → cf cs i = 0) :
    Trim ((cs.drop f).take (l + 1 - f)) (lo + f) ∧ ∀ e, rval ((cs.drop f).take (l + 1 - f)) (lo + f) e = rval cs lo e := by
  have hc : ∀ j : Int, cf ((cs.drop f).take (l + 1 - f)) j = if 0 ≤ j ∧ j < ((l + 1 - f : Nat) : Int) then cf cs (f + j) else 0 := fun j => by
    rw [cf_take]
    by_cases h : 0 ≤ j
    · rw [cf_drop cs f h]
      by_cases c : j < ((l + 1 - f : Nat) : Int)
      · rw [if_pos c, if_pos ⟨h, c⟩]
      · rw [if_neg c, if_neg (fun z : 0 ≤ j ∧ j < ((l + 1 - f : Nat) : Int) => c z.2)]
    · rw [show cf (cs.drop f) j = 0 from cf_neg (by omega), if_neg (fun z : 0 ≤ j ∧ j < ((l + 1 - f : Nat) : Int) => h z.1)]
      split <;> rfl
  have hlen : ((cs.drop f).take (l + 1 - f)).length = l + 1 - f := by
    rw [List.length_take, List.length_drop]
    omega
  refine ⟨.inr ⟨fun e => ?_, fun e => ?_, fun e => ?_⟩, fun e => ?_⟩
  · rw [e] at hlen
    simp at hlen
    omega
  · have h0 := hc 0
    rw [if_pos ⟨by omega, by omega⟩, Int.add_zero] at h0
    cases hk : (cs.drop f).take (l + 1 - f) with
    | nil => rw [hk] at e; cases e
    | cons x a =>
      rw [hk] at e h0
      rw [cf_zero] at h0
      exact cF (h0.symm.trans (Option.some.inj e))
  · have h1 := (cf_last e).1
    rw [hlen, hc, if_pos ⟨by omega, by omega⟩, show (f : Int) + (((l + 1 - f : Nat) : Int) - 1) = l by omega] at h1
    exact cL h1
  · unfold rval
    rw [hc]
    by_cases c : 0 ≤ e - (lo + f) ∧ e - (lo + f) < ((l + 1 - f : Nat) : Int)
    · rw [if_pos c, show (f : Int) + (e - (lo + f)) = e - lo by omega]
    · rw [if_neg c]
      by_cases c2 : e - lo < f
      · rw [lowz _ c2]
      · rw [highz _ (by omega)]
/-- a pair of a row and its lowest exponent -/
def PairAt (K : PySem.W.Frag) (H : Hp) (z : V) (a : List Int) (lo : Int) : Prop := ∃ p v, z = .ref p ∧ SqT K H p [v, .int lo] ∧ TI K H v a
def spTrimmed (K : PySem.W.Frag) : Sp := fun vs H Q _ => ∃ (v : V) (cs : List Int) (lo : Int), vs = [v, .int lo] ∧ TI K H v cs ∧ cs.length ≤ 900 ∧
  ∀ (z : V) (a : List Int) (lo' : Int) (H' : Hp), Same H H' → PairAt K H' z a lo' → Trim a lo' → (∀ e, rval a lo' e = rval cs lo e) → a.length ≤ cs.length → (∀ c ∈ a, c ∈ cs) → Q z H'
section
variable {P : Program} {w : World} {K : PySem.W.Frag} {mg : Str → Option Value} {base : Heap} {C : Addr}
theorem cal_trimmed (T : Txt K mg C) : Cal P w K mg base "trimmed" 1 (spTrimmed K) := by
  refine T.d_trimmed.cal (ps := ["coefficients", "lowest"]) (fun f fd D => ?_) (fun _ _ _ _ _ _ us hl => match us, hl with | [_, _], _ => rfl)
  refine D.ok sc_trimmed (fun vs H Q E h => ?_) (fun cdv A outer s H vs Q E hr h => ?_)
  · obtain ⟨v, cs, lo, rfl, _⟩ := h
    rfl
  · obtain ⟨v, cs, lo, rfl, ⟨a, rfl, ha⟩, l9, k⟩ := h
    refine ⟨_, (pss_cons (ps_setLc (i := 2) (own := [("at", 3), ("number", 4)]) (g := gTup K 2 (gCons (gName 3) (gCons (gName 4) (gNil)))) rfl sc_trimmed.nd rfl rfl (sw_true rfl rfl rfl (by decide +kernel)) (pi_enumT (by rfl) T.b_enumerate (pa_cons (pv 0) pa_nil)) (blkOk_by (own := [("at", 3), ("number", 4)]) (N := ["coefficients", "lowest", "spots", "at", "number"]) (sc := defScope s_trimmed) (by decide +kernel)) (fun _ _ _ _ _ => (pg_tup (by rfl) (pgs_cons (pg_name (i := 3) sc_trimmed.nd rfl (Or.inl rfl)) (pgs_cons (pg_name (i := 4) sc_trimmed.nd rfl (Or.inl rfl)) pgs_nil)))) (fun _ _ _ _ _ => (pts_one (show PT _ _ (tTru K 4) from pt_truth (pv 4) (by intro _; rfl)))) (fun _ _ _ _ _ => (pv 3)))
      (pss_cons (ps_if (pt_not (pt_truth (pv 2) (by intro _; rfl))) (pss_one (ps_ret (pe_tup (pa_cons (pe_tup pa_nil) (pa_cons pe_int pa_nil))))) pss_nil)
      (pss_one (ps_ret (pe_tup (pa_cons (pe_slice sl_tupA (pv 0) (po_some (pe_ix ix_list (pv 2) pe_int (fun _ _ => rfl))) (po_some (pe_op op_add (pe_ix ix_list (pv 2) (pe_un un_neg pe_int) (fun _ _ => rfl)) pe_int))) (pa_cons (pe_op op_add (pv 1) (pe_ix ix_list (pv 2) pe_int (fun _ _ => rfl))) pa_nil))))))), ?_⟩
    refine ⟨_, rfl, a, _, rfl, ha, fun D nD => lc_it (walk_enumT (K := K) (a := a) (xs := cs.map V.int)) (fun i H' => Same H H' ∧ H' D = some (.lst (((spots cs i).map fun j => ((j : Nat) : Int)).map V.int))) ⟨same_new nD, upd_same⟩ (fun i H' _ h => sqT_same h.1 ha) ?_ ?_⟩
    · rintro i x H1 H2 hi ⟨s1, hD⟩ ⟨t, x1, y1, rfl, nt, rfl, e1, e2⟩
      cases e1
      obtain ⟨c, hc, rfl⟩ := int_at e2
      have ilt := (List.getElem?_eq_some_iff.mp hc).1
      have ec : cf cs (i : Nat) = c := by
        unfold cf
        rw [if_pos (by omega), Int.toNat_natCast, List.getD_eq_getElem?_getD, hc]
        rfl
      have s2 := s1.trans (same_new (o := .tup [.int (i : Nat), .int c]) nt)
      have hD2 := same_new (o := .tup [.int (i : Nat), .int c]) nt _ _ hD
      refine ⟨_, _, rfl, .of upd_same, rfl, _, _, rfl, _, _, rfl, rfl, rfl, _, rfl, _, rfl, ite2 (fun h => ?_) (fun h => ?_)⟩
      · refine ⟨_, rfl, _, hD2, ?_, same_off nD s2 off_upd, ?_⟩
        · rw [List.length_map, List.length_map]
          have := List.length_filter_le (fun i : Nat => cf cs (i : Nat) != 0) (List.range i)
          rw [List.length_range] at this
          exact small1000 (show (spots cs i).length ≤ 1000 by unfold spots; rw [List.length_map] at hi; omega)
        · rw [upd_same]
          unfold spots
          rw [List.range_succ, List.filter_append, List.map_append, List.map_append, List.filter_cons_of_pos (by rw [ec]; exact h)]
          rfl
      · refine ⟨s2, ?_⟩
        unfold spots
        rw [List.range_succ, List.filter_append, List.filter_cons_of_neg (by rw [ec]; exact h), List.filter_nil, List.append_nil]
        exact hD2
    · rintro H2 ⟨s2, hD⟩
      rw [List.length_map] at hD
      rcases List.eq_nil_or_concat (spots cs cs.length) with e | ⟨s', l, e⟩
      · rw [e] at hD
        refine ⟨_, rfl, _, .inl ⟨_, .of hD, rfl⟩, iteT ?_⟩
        refine ⟨show 0 ≤ sizeLine by decide, fun p1 n1 => ⟨show 2 ≤ sizeLine by decide, fun p2 n2 => ?_⟩⟩
        refine k _ [] 0 _ (s2.trans ((same_new n1).trans (same_new n2))) ⟨p2, .ref p1, rfl, .of upd_same, p1, rfl, .of (same_new n2 _ _ upd_same)⟩ (.inl ⟨rfl, rfl⟩) (fun e' => ?_) (Nat.zero_le _) (fun c m => nomatch m)
        rw [rval_nil]
        unfold rval
        by_cases c : 0 ≤ e' - lo ∧ e' - lo < cs.length
        · have : ¬ (e' - lo).toNat ∈ spots cs cs.length := by rw [e]; exact List.not_mem_nil
          rw [spots_mem] at this
          have h9 : cf cs (((e' - lo).toNat : Nat) : Int) = 0 := by
            refine Decidable.byContradiction fun z => this ⟨by omega, z⟩
          rw [show (((e' - lo).toNat : Nat) : Int) = e' - lo by omega] at h9
          exact h9.symm
        · by_cases c2 : e' - lo < 0
          · exact (cf_neg c2).symm
          · exact (cf_far (by omega)).symm
      · rw [List.concat_eq_append] at e
        have asc := spots_asc cs cs.length
        rw [e] at asc
        have hlast : ∀ i ∈ s' ++ [l], i ≤ l := fun i m => by
          rcases List.mem_append.mp m with m | m
          · have := (List.pairwise_append.mp asc).2.2 i m l (List.mem_singleton.mpr rfl)
            omega
          · exact Nat.le_of_eq (List.mem_singleton.mp m)
        obtain ⟨f, r, ef⟩ : ∃ f r, s' ++ [l] = f :: r := by
          cases s' with
          | nil => exact ⟨l, [], rfl⟩
          | cons x t => exact ⟨x, t ++ [l], rfl⟩
        have hfirst : ∀ i ∈ s' ++ [l], f ≤ i := fun i m => by
          rw [ef] at asc m
          rcases List.mem_cons.mp m with rfl | m
          · exact Nat.le_refl _
          · have := (List.pairwise_cons.mp asc).1 i m
            omega
        have ml : l ∈ spots cs cs.length := by rw [e]; exact List.mem_append_right _ (List.mem_singleton.mpr rfl)
        have mf : f ∈ spots cs cs.length := by rw [e, ef]; exact List.mem_cons_self
        have fl := hlast f (by rw [ef]; exact List.mem_cons_self)
        obtain ⟨ln, cL⟩ := spots_mem.mp ml
        obtain ⟨fn, cF⟩ := spots_mem.mp mf
        have inS : ∀ i : Int, cf cs i ≠ 0 → i.toNat ∈ s' ++ [l] ∧ 0 ≤ i := fun i h => by
          have i0 : 0 ≤ i := Decidable.byContradiction fun z => h (cf_neg (by omega))
          have i1 : i < cs.length := Decidable.byContradiction fun z => h (cf_far (by omega))
          rw [← e, spots_mem]
          exact ⟨⟨by omega, by rw [show ((i.toNat : Nat) : Int) = i by omega]; exact h⟩, i0⟩
        have lowz : ∀ i : Int, i < f → cf cs i = 0 := fun i h => Decidable.byContradiction fun z => by
          have := hfirst _ (inS i z).1
          have := (inS i z).2
          omega
        have highz : ∀ i : Int, l < i → cf cs i = 0 := fun i h => Decidable.byContradiction fun z => by
          have := hlast _ (inS i z).1
          omega
        obtain ⟨tr, vals⟩ := trim_cut (lo := lo) fl ln cF cL lowz highz
        rw [e] at hD
        have a0 : atI (((s' ++ [l]).map fun j => ((j : Nat) : Int)).map V.int) 0 = some (.int (f : Nat)) := at_of (j := 0) rfl (by rw [ef]; rfl)
        have a1 : atI (((s' ++ [l]).map fun j => ((j : Nat) : Int)).map V.int) (-1) = some (.int (l : Nat)) := by
          rw [List.map_append, List.map_append]
          exact atI_last _ _
        have i1 : HT.sIx (cs.map V.int).length 0 (some ((f : Nat) : Int)) = f := by rw [HT.sIx_nat, List.length_map]; omega
        have i2 : HT.sIx (cs.map V.int).length (cs.map V.int).length (some (((l : Nat) : Int) + 1)) = l + 1 := by
          rw [show ((l : Nat) : Int) + 1 = ((l + 1 : Nat) : Int) from rfl, HT.sIx_nat, List.length_map]
          omega
        refine ⟨_, rfl, true, .inl ⟨_, .of hD, by rw [ef]; rfl⟩, iteF ?_⟩
        refine ⟨_, rfl, _, rfl, _, _, _, _, rfl, rfl, .of hD, a0, _, rfl, _, rfl, _, rfl, _, _, _, _, rfl, rfl, .of hD, a1, _, _, rfl, rfl, _, rfl, a, _, rfl, sqT_same s2 ha, fun wh => ?_, fun _ p1 n1 => ?_⟩
        · rw [i1, i2, List.length_map] at wh
          refine ⟨_, rfl, _, rfl, _, _, _, _, rfl, rfl, .of hD, a0, _, _, rfl, rfl, show 2 ≤ sizeLine by decide, fun p2 n2 => ?_⟩
          have ec : (cs.drop f).take (l + 1 - f) = cs := by
            rw [wh.1, List.drop_zero, Nat.sub_zero, wh.2, List.take_length]
          rw [ec] at tr vals
          exact k _ cs _ _ (s2.trans (same_new n2)) ⟨p2, .ref a, rfl, .of upd_same, a, rfl, sqT_same (s2.trans (same_new n2)) ha⟩ tr vals (Nat.le_refl _) (fun c m => m)
        · have hD3 := same_new (o := .tup (cutV (cs.map V.int) (some ((f : Nat) : Int)) (some (((l : Nat) : Int) + 1)))) n1 _ _ hD
          refine ⟨_, rfl, _, rfl, _, _, _, _, rfl, rfl, .of hD3, a0, _, _, rfl, rfl, show 2 ≤ sizeLine by decide, fun p2 n2 => ?_⟩
          have ec : cutV (cs.map V.int) (some ((f : Nat) : Int)) (some (((l : Nat) : Int) + 1)) = ((cs.drop f).take (l + 1 - f)).map V.int := by
            unfold cutV
            rw [i1, i2, List.map_take, List.map_drop]
          refine k _ _ _ _ (s2.trans ((same_new n1).trans (same_new n2))) ⟨p2, .ref p1, rfl, .of upd_same, p1, rfl, .of (same_new n2 _ _ (by rw [← ec]; exact upd_same))⟩ tr vals ?_ (fun c m => List.mem_of_mem_drop (List.mem_of_mem_take m))
          rw [List.length_take, List.length_drop]
          omega
end
end Pk

namespace Pk
open PySem L2 Ow
theorem upd_upd {H : Hp} {p : Addr} {a b : HO} : upd (upd H p a) p b = upd H p b := by
  funext q
  unfold upd
  by_cases h : q = p
  · rw [if_pos h, if_pos h]
  · rw [if_neg h, if_neg h, if_neg h]
/-! a poly's record -/
def pf (kv : V) (lo : Int) : List (Str × V) := putF "_lowest" (.int lo) (putF "_coefficients" kv [])
theorem cl_ : ¬ (("_coefficients" : Str) = "_lowest") := by decide +kernel
theorem lc_ : ¬ (("_lowest" : Str) = "_coefficients") := by decide +kernel
theorem pf_eq (kv : V) (lo : Int) : pf kv lo = ([("_coefficients", kv), ("_lowest", V.int lo)] : List (Str × V)) := by
  show (if ("_coefficients" : Str) = "_lowest" then [(("_coefficients" : Str), V.int lo)] else (("_coefficients" : Str), kv) :: putF "_lowest" (V.int lo) []) = _
  rw [if_neg cl_]
  rfl
theorem pf_len (kv : V) (lo : Int) : (pf kv lo).length = 2 := by rw [pf_eq]; rfl
theorem pf_c (kv : V) (lo : Int) : (pf kv lo).lookup ("_coefficients" : Str) = some kv := by
  unfold pf
  rw [lookup_putF, if_neg cl_, lookup_putF, if_pos rfl]
theorem pf_l (kv : V) (lo : Int) : (pf kv lo).lookup ("_lowest" : Str) = some (.int lo) := by
  unfold pf
  rw [lookup_putF, if_pos rfl]
theorem pf_no (kv : V) (lo : Int) {m : Str} (h1 : ¬ m = "_lowest") (h2 : ¬ m = "_coefficients") : (pf kv lo).lookup m = none := by
  unfold pf
  rw [lookup_putF, if_neg h1, lookup_putF, if_neg h2]
  rfl
theorem pf_setc (kv ku : V) (lo : Int) : putF "_coefficients" ku (pf kv lo) = pf ku lo := by
  rw [pf_eq, pf_eq]
  show (if ("_coefficients" : Str) = "_coefficients" then _ else _) = _
  rw [if_pos rfl]
theorem pf_setl (kv : V) (lo hi : Int) : putF "_lowest" (.int hi) (pf kv lo) = pf kv hi := by
  rw [pf_eq, pf_eq]
  show (if ("_coefficients" : Str) = "_lowest" then _ else (("_coefficients" : Str), kv) :: putF "_lowest" (V.int hi) [(("_lowest" : Str), V.int lo)]) = _
  rw [if_neg cl_]
  show (("_coefficients" : Str), kv) :: (if ("_lowest" : Str) = "_lowest" then _ else _) = _
  rw [if_pos rfl]
def PolyAt (K : PySem.W.Frag) (C : Addr) (H : Hp) (r : Addr) (a : List Int) (lo : Int) : Prop := ∃ dx kv, H r = some (.ins C dx (pf kv lo)) ∧ TI K H kv a
theorem PolyAt.same {K : PySem.W.Frag} {C r : Addr} {H H' : Hp} {a : List Int} {lo : Int} (h : PolyAt K C H r a lo) (s : Same H H') : PolyAt K C H' r a lo := h.elim fun dx ⟨kv, e, t⟩ => ⟨dx, kv, s _ _ e, t.same s⟩
def NewP (K : PySem.W.Frag) (C : Addr) (H : Hp) (Q : VK) (a : List Int) (lo : Int) : Prop := ∀ (r : Addr) (H' : Hp), Same H H' → H r = none → PolyAt K C H' r a lo → Q (.ref r) H'
/-- the trimmed row of a row -/
def Tr (cs : List Int) (lo : Int) (a : List Int) (lo' : Int) : Prop := Trim a lo' ∧ (∀ e, rval a lo' e = rval cs lo e) ∧ a.length ≤ cs.length ∧ ∀ c ∈ a, c ∈ cs
def spCoefs (K : PySem.W.Frag) : Sp := fun vs H Q _ => ∃ (v : V) (cs : List Int), vs = [v] ∧ TI K H v cs ∧ cs.length ≤ 200 ∧ (∀ c ∈ cs, 1 - 10 ^ 60 ≤ c ∧ c ≤ 10 ^ 60 - 1) ∧ ∀ H' : Hp, Same H H' → Q (.bl true) H'
def spInit (K : PySem.W.Frag) (C : Addr) : Sp := fun vs H Q _ => ∃ (p dx : Addr) (v : V) (cs : List Int) (lo : Int), vs = [.ref p, v, .int lo] ∧ TI K H v cs ∧ cs.length ≤ 200 ∧ (∀ c ∈ cs, 1 - 10 ^ 60 ≤ c ∧ c ≤ 10 ^ 60 - 1) ∧ -400 ≤ lo ∧ lo ≤ 400 ∧ H p = some (.ins C dx []) ∧
  ∀ (kv : V) (a : List Int) (lo' : Int) (H' : Hp), Same H H' → TI K H' kv a → Tr cs lo a lo' → Q .non (upd H' p (.ins C dx (pf kv lo')))
section
variable {P : Program} {w : World} {K : PySem.W.Frag} {mg : Str → Option Value} {base : Heap} {C : Addr}
theorem cal_are_coefficients (T : Txt K mg C) : Cal P w K mg base "are_coefficients" 3 (spCoefs K) := by
  refine T.d_are_coefficients.cal (ps := ["value"]) (fun f fd D => ?_) (fun _ _ _ _ _ _ us hl => match us, hl with | [_], _ => rfl)
  refine D.ok sc_are_coefficients (fun vs H Q E h => ?_) (fun cdv A outer s H vs Q E hr h => ?_)
  · obtain ⟨v, cs, rfl, _⟩ := h
    rfl
  · obtain ⟨v, cs, rfl, ⟨a, rfl, ha⟩, l2, bd, k⟩ := h
    refine ⟨_, (pss_cons (ps_if (PW.pt (pw_or (pt_not (pt_val (pe_callB call_isi (by rfl) T.b_isinstance (by decide +kernel) (pa_cons (pv 0) (pa_cons (pe_bltn (v := .ty "tuple") (by rfl) T.b_tuple (by decide +kernel) rfl) pa_nil))))) (pw_or1 (pt_cmpR op_gt (pe_callB call_len_seq (by rfl) T.b_len (by decide +kernel) (pa_cons (pv 0) pa_nil)) (C8.pe_gc (v := .int 200) (by rfl) T.gMC) (nomark _))))) (pss_one (ps_ret pe_bl)) pss_nil)
      (pss_one (ps_ret (pe_callB (cr_all rfl) (by rfl) T.b_all (by decide +kernel) (pa_cons (pe_lc (own := [("number", 1)]) (g := gName 1) (tt := tYes) rfl sc_are_coefficients.nd (pi_tup (pv 0)) (blkOk_by (own := [("number", 1)]) (N := ["value", "number"]) (sc := defScope s_are_coefficients) (by decide +kernel)) (fun _ _ _ _ _ => (pg_name (i := 1) sc_are_coefficients.nd rfl (Or.inl rfl))) (fun _ _ _ _ _ => pts_nil) (fun _ _ _ _ _ => (pe_cal (cal_is_integer T) (hr.mono (by decide)) (by rfl) (pa_cons (pv 1) pa_nil)))) pa_nil))))), ?_⟩
    refine ⟨_, rfl, _, _, .type "tuple", _, true, rfl, .ty "tuple", tup_ty ha, kit_ty (by decide +kernel), _, rfl, iteF ?_⟩
    refine ⟨_, rfl, _, _, rfl, .inr ha, _, _, rfl, rfl, _, rfl, ite2 (fun h => absurd (of_decide_eq_true h) (by rw [List.length_map]; omega)) (fun _ => ?_)⟩
    refine ⟨_, rfl, a, rfl, ⟨_, ha⟩, fun D nD => lc_tup (K := K) (a := a) (xs := cs.map V.int) (fun i H' => Same H H' ∧ H' D = some (.lst ((List.replicate i true).map V.bl))) ⟨same_new nD, upd_same⟩ (fun i H' _ h => sqT_same h.1 ha) ?_ ?_⟩
    · rintro i x H2 hm ⟨s2, hD⟩
      obtain ⟨c, hc, rfl⟩ := int_at hm
      have ilt := (List.getElem?_eq_some_iff.mp hc).1
      have b := bd c (List.mem_of_getElem? hc)
      refine ⟨rfl, _, rfl, c, rfl, ?_⟩
      rw [decide_eq_true b.1, decide_eq_true b.2]
      refine ⟨_, hD, ?_, same_off nD s2 off_upd, ?_⟩
      · rw [List.length_map, List.length_replicate]
        exact small1000 (by omega)
      · rw [upd_same, List.replicate_succ', List.map_append]
        rfl
    · rintro H2 ⟨s2, hD⟩
      refine ⟨_, _, rfl, .of hD, ?_⟩
      rw [show ((List.replicate (cs.map V.int).length true).all id) = true by simp]
      exact k H2 s2
theorem ok_init (T : Txt K mg C) {f : Addr} {fd : FuncData} (D : FunD K "__init__" "Poly.__init__" (defArgs s_init) (defBody s_init) (defScope s_init) [.int 0] [] f fd) : FnOk P w K mg base CX0 4 f fd ["self", "coefficients", "lowest"] (spInit K C) := by
  refine D.ok sc_init (fun vs H Q E h => ?_) (fun cdv A outer s H vs Q E hr h => ?_)
  · obtain ⟨p, dx, v, cs, lo, rfl, _⟩ := h
    rfl
  · obtain ⟨p, dx, v, cs, lo, rfl, hv, l2, bd, lo1, lo2, hp, q⟩ := h
    refine ⟨_, (pss_cons (ps_if (pt_not (pt_val (pe_cal (cal_are_coefficients T) (hr.mono (by decide)) (by rfl) (pa_cons (pv 1) pa_nil)))) (pss_one ps_never) pss_nil)
      (pss_cons (ps_if (pt_not (pt_val (pe_cal (cal_is_exponent T) (hr.mono (by decide)) (by rfl) (pa_cons (pv 2) pa_nil)))) (pss_one ps_never) pss_nil)
      (pss_one (ps_asg (pe_cal (cal_trimmed T) (hr.mono (by decide)) (by rfl) (pa_cons (pv 1) (pa_cons (pv 2) pa_nil))) (pg_tup (by rfl) (pgs_cons (pg_fld (pv 0)) (pgs_cons (pg_fld (pv 0)) pgs_nil))))))), ?_⟩
    refine ⟨_, rfl, v, cs, rfl, hv, l2, bd, fun H1 s1 => ⟨_, rfl, iteF ?_⟩⟩
    refine ⟨_, rfl, lo, rfl, _, rfl, iteNT' (by rw [decide_eq_true lo1, decide_eq_true lo2]; rfl) ?_⟩
    refine ⟨_, rfl, _, rfl, v, cs, lo, rfl, hv.same s1, by omega, fun z a lo' H2 s2 ⟨z', kv, ez, hz, ht⟩ tr vals ln sub => ?_⟩
    subst ez
    refine ⟨_, _, rfl, hz, rfl, _, _, rfl, _, rfl, p, C, dx, [], rfl, s2 _ _ (s1 _ _ hp), T.cl, T.nC, (by decide), _, _, rfl, _, rfl, p, C, dx, _, rfl, upd_same, T.cl, T.nL, (show 1 < 1000 by decide), rfl, ?_⟩
    show Q .non (upd (upd H2 p _) p _)
    rw [upd_upd]
    exact q kv a lo' H2 (s1.trans s2) ht ⟨tr, vals, ln, sub⟩
end
end Pk

namespace Pk
open PySem L2 Ow
def tPoly (K : PySem.W.Frag) (C : Addr) (t : TA) : TE := fun σ H Q => t σ H fun vs H1 => ∃ (v : V) (cs : List Int) (lo : Int), (vs = [v, .int lo] ∨ (vs = [v] ∧ lo = 0)) ∧ TI K H1 v cs ∧ cs.length ≤ 200 ∧ (∀ c ∈ cs, 1 - 10 ^ 60 ≤ c ∧ c ≤ 10 ^ 60 - 1) ∧ -400 ≤ lo ∧ lo ≤ 400 ∧
  ∀ (a : List Int) (lo' : Int), Tr cs lo a lo' → NewP K C H1 Q a lo'
section
variable {X : Cx} {k : Nat} {C : Addr} {e : Expr} {es : List Expr} {ta : TE} {t : TA} {p pos apos : Pos}
theorem run_poly {pins : List (Addr × Obj)} {σ : L2.St} {H1 : Hp} {s1 : Shared} {Q : VK} {us : List Value} {vs : List V} (T : Txt X.K X.mg C) (hr : Room 5 X.A) (I1 : Inv X pins σ H1 s1) (r : Vals vs us) {f fd} (M : Mk X.K C f) (D : FunD X.K "__init__" "Poly.__init__" (defArgs s_init) (defBody s_init) (defScope s_init) [.int 0] [] f fd)
    (h : ∃ (v : V) (cs : List Int) (lo : Int), (vs = [v, .int lo] ∨ (vs = [v] ∧ lo = 0)) ∧ TI X.K H1 v cs ∧ cs.length ≤ 200 ∧ (∀ c ∈ cs, 1 - 10 ^ 60 ≤ c ∧ c ≤ 10 ^ 60 - 1) ∧ -400 ≤ lo ∧ lo ≤ 400 ∧ ∀ (a : List Int) (lo' : Int), Tr cs lo a lo' → NewP X.K C H1 Q a lo') :
    wpAny (model X.prog X.w) X.A (call (.ref C) us) (EP X pins σ Q) X.xe s1 := by
  obtain ⟨v, cs, lo, hvs, hv, l2, bd, lo1, lo2, q⟩ := h
  have b2 : ∃ ds, Vals (([.int 0] : List V).drop 1) ds ∧ Binds X.K fd ["self", "coefficients", "lowest"] ds := by
    refine D.binds1 3 1 (by simp) rfl fun T kV doc pm an cdv ct us its hl hi => ?_
    match us, hl, its, hi with
    | [_, _, _], _, [_], _ => exact ⟨_, rfl, rfl⟩
  have b1 : ∃ ds, Vals (([.int 0] : List V).drop 0) ds ∧ Binds X.K fd ["self", "coefficients", "lowest"] ds := by
    refine D.binds1 2 0 (by simp) rfl fun T kV doc pm an cdv ct us its hl hi => ?_
    match us, hl, its, hi with
    | [_, _], _, [_], _ => exact ⟨_, rfl, rfl⟩
  obtain ⟨d2, v2, b2⟩ := b2
  obtain ⟨d1, v1, b1⟩ := b1
  have fin : ∀ x dx, H1 x = none → H1 dx = none → dx ≠ x → spInit X.K C [.ref x, v, .int lo] (upd (upd H1 dx (.own x)) x (.ins C dx [])) (fun z H2 => z = .non ∧ Q (.ref x) H2) E0 := fun x dx nx ndx ne => by
    have s0 : Same H1 (upd (upd H1 dx (.own x)) x (.ins C dx [])) := fun c o e => by
      rw [upd_ne (ne_of_none e nx), upd_ne (ne_of_none e ndx)]
      exact e
    refine ⟨x, dx, v, cs, lo, rfl, hv.same s0, l2, bd, lo1, lo2, upd_same, fun kv a lo' H' s' ht tr => ⟨rfl, ?_⟩⟩
    have sx : Same H1 (upd H' x (.ins C dx (pf kv lo'))) := fun c o e => by
      rw [upd_ne (ne_of_none e nx)]
      exact s' _ _ (s0 _ _ e)
    refine q a lo' tr x _ sx nx ⟨dx, kv, upd_same, ?_⟩
    obtain ⟨b, rfl, hb⟩ := ht
    refine ⟨b, rfl, ?_⟩
    have nb : ∀ o, H' b = some o → o ≠ .ins C dx [] → b ≠ x := fun o e nq z => nq (by rw [z, s' _ _ upd_same] at e; exact (Option.some.inj e).symm)
    rcases hb with (hb | ⟨o, hb⟩) | hb
    · exact .inl (.inl (by rw [upd_ne (nb _ hb (fun z => nomatch z))]; exact hb))
    · exact .inl (.inr ⟨o, by rw [upd_ne (nb _ hb (fun z => nomatch z))]; exact hb⟩)
    · exact .inr hb
  rcases hvs with rfl | ⟨rfl, rfl⟩
  · exact run_make M (ok_init T D) hr b2 v2 pass0 I1 r fin
  · exact run_make M (ok_init T D) hr b1 v1 pass0 I1 r fin
theorem pe_poly (T : Txt X.K X.mg C) (hr : Room 5 X.A) (hg : Gl X "Poly") (ha : PA X (e :: es) t)
    (he : starEach (e :: es) X.env = (false, eval e X.env) :: starEach es X.env := by rfl) (hpl : (backTo pos (starEach es X.env)).any (·.1) = false := by rfl) : PE X (.Call (.Name "Poly" p) (e :: es) [] pos) (tPoly X.K C t) := by
  obtain ⟨f, fd, M, D⟩ := T.mkP
  refine ⟨fun pins s σ H Q I h => ?_⟩
  refine wpAny_Call_Name_kw (ld_glob I hg T.mgPoly ?_ (by decide))
  refine PySem.W.callWith_K (h₀ := X.base) I.ok.mod.kin M.kp (thn (ha.run pos pins s σ H _ I h) fun us s1 ⟨vs, H1, I1, r, q⟩ => ⟨I1.kIn, run_poly T hr I1 r M D q⟩) he hpl
end
theorem tr_nil {a : List Int} {lo lo' : Int} (h : Tr [] lo a lo') : a = [] ∧ lo' = 0 := by
  have := trim_eq h.1 (b := []) (hi := 0) (.inl ⟨rfl, rfl⟩) fun e => by rw [h.2.1 e, rval_nil, rval_nil]
  exact this
def spPolyOf (K : PySem.W.Frag) (C : Addr) : Sp := fun vs H Q _ => ∃ (v : V) (cs : List Int) (lo : Int), vs = [v, .int lo] ∧ TI K H v cs ∧ cs.length ≤ 900 ∧ ∀ (a : List Int) (lo' : Int), Tr cs lo a lo' → NewP K C H Q a lo'
def spC (K : PySem.W.Frag) (C : Addr) : Sp := fun vs H Q _ => ∃ (r : Addr) (a : List Int) (lo : Int), vs = [.ref r] ∧ PolyAt K C H r a lo ∧ ∀ v, TI K H v a → Q v H
def spL (K : PySem.W.Frag) (C : Addr) : Sp := fun vs H Q _ => ∃ (r : Addr) (a : List Int) (lo : Int), vs = [.ref r] ∧ PolyAt K C H r a lo ∧ Q (.int lo) H
def spD (K : PySem.W.Frag) (C : Addr) : Sp := fun vs H Q _ => ∃ (r : Addr) (a : List Int) (lo : Int), vs = [.ref r] ∧ PolyAt K C H r a lo ∧ Q (if a = [] then .non else .int (lo + a.length - 1)) H
def spB (K : PySem.W.Frag) (C : Addr) : Sp := fun vs H Q _ => ∃ (r : Addr) (a : List Int) (lo : Int), vs = [.ref r] ∧ PolyAt K C H r a lo ∧ Q (.bl (!a.isEmpty)) H
def spN (K : PySem.W.Frag) (C : Addr) : Sp := fun vs H Q _ => ∃ (r : Addr) (a : List Int) (lo : Int), vs = [.ref r] ∧ PolyAt K C H r a lo ∧ Q (.int (a.length : Nat)) H
section
variable {P : Program} {w : World} {K : PySem.W.Frag} {mg : Str → Option Value} {base : Heap} {C : Addr}
theorem cal_poly_of (T : Txt K mg C) : Cal P w K mg base "poly_of" 6 (spPolyOf K C) := by
  refine T.d_poly_of.cal (ps := ["coefficients", "lowest"]) (fun f fd D => ?_) (fun _ _ _ _ _ _ us hl => match us, hl with | [_, _], _ => rfl)
  refine D.ok sc_poly_of (fun vs H Q E h => ?_) (fun cdv A outer s H vs Q E hr h => ?_)
  · obtain ⟨v, cs, lo, rfl, _⟩ := h
    rfl
  · obtain ⟨v, cs, lo, rfl, hv, l9, k⟩ := h
    refine ⟨_, (pss_cons (ps_asg (pe_cal (cal_trimmed T) (hr.mono (by decide)) (by rfl) (pa_cons (pv 0) (pa_cons (pv 1) pa_nil))) (pg_tup (by rfl) (pgs_cons (pg_name (i := 2) sc_poly_of.nd rfl (Or.inl rfl)) (pgs_cons (pg_name (i := 3) sc_poly_of.nd rfl (Or.inl rfl)) pgs_nil))))
      (pss_cons (ps_set (i := 4) sc_poly_of.nd rfl (Or.inl rfl) (pe_poly T (hr.mono (by decide)) (by rfl) (pa_cons (pe_tup pa_nil) pa_nil)))
      (pss_cons (ps_fld (pv 4) (pv 2) rfl)
      (pss_cons (ps_fld (pv 4) (pv 3) rfl)
      (pss_one (ps_ret (pv 4))))))), ?_⟩
    refine ⟨_, rfl, _, rfl, v, cs, lo, rfl, hv, l9, fun z a lo' H1 s1 ⟨z', kv, ez, hz, ht⟩ tr vals ln sub => ?_⟩
    subst ez
    refine ⟨_, _, rfl, hz, rfl, _, _, rfl, _, _, rfl, rfl, ?_⟩
    refine ⟨show 0 ≤ sizeLine by decide, fun t nt => ?_⟩
    have st := same_new (o := .tup []) nt
    refine ⟨.ref t, [], 0, .inr ⟨rfl, rfl⟩, ⟨t, rfl, .of upd_same⟩, by decide, (fun c m => nomatch m), by decide, by decide, fun a0 lo0 tr0 r H2 s2 nr ⟨dx, kv0, g, _⟩ => ?_⟩
    have ht2 := (ht.same st).same s2
    refine ⟨_, rfl, _, rfl, r, C, dx, _, rfl, g, T.cl, T.nC, (by rw [pf_len]; decide), ?_⟩
    rw [pf_setc]
    refine ⟨_, rfl, _, rfl, r, C, dx, _, rfl, upd_same, T.cl, T.nL, (by rw [pf_len]; decide), ?_⟩
    rw [pf_setl, upd_upd]
    have n0 : H r = none := (s1.trans st).free nr
    refine ⟨_, rfl, k a lo' ⟨tr, vals, ln, sub⟩ r _ (fun c o e => ?_) n0 ⟨dx, kv, upd_same, ?_⟩⟩
    · rw [upd_ne (ne_of_none e n0)]
      exact s2 _ _ (st _ _ (s1 _ _ e))
    · obtain ⟨b, rfl, hb⟩ := ht2
      refine ⟨b, rfl, ?_⟩
      have nb : ∀ o, H2 b = some o → o ≠ .ins C dx (pf kv0 lo0) → b ≠ r := fun o e nq z => nq (by rw [z, g] at e; exact (Option.some.inj e).symm)
      rcases hb with (hb | ⟨o, hb⟩) | hb
      · exact .inl (.inl (by rw [upd_ne (nb _ hb (fun z => nomatch z))]; exact hb))
      · exact .inl (.inr ⟨o, by rw [upd_ne (nb _ hb (fun z => nomatch z))]; exact hb⟩)
      · exact .inr hb
end
end Pk

namespace Pk
open PySem L2 Ow
theorem NewP.same {K : PySem.W.Frag} {C : Addr} {H H1 : Hp} {Q : VK} {a : List Int} {lo : Int} (q : NewP K C H Q a lo) (s : Same H H1) : NewP K C H1 Q a lo := fun r H' s' n p => q r H' (s.trans s') (s.free n) p
theorem tru_tup {K : PySem.W.Frag} {H : Hp} {p : Addr} {a : List Int} (h : SqT K H p (a.map V.int)) : TruV K (.ref p) H (!a.isEmpty) := .inr (.inl ⟨_, h, by cases a <;> rfl⟩)
def spNeg (K : PySem.W.Frag) (C : Addr) : Sp := fun vs H Q _ => ∃ (r : Addr) (a : List Int) (lo : Int), vs = [.ref r] ∧ PolyAt K C H r a lo ∧ a.length ≤ 900 ∧ ∀ (c : List Int) (l : Int), Tr (a.map fun x => -x) lo c l → NewP K C H Q c l
def spMul (K : PySem.W.Frag) (C : Addr) : Sp := fun vs H Q _ => ∃ (r s : Addr) (a b : List Int) (lo hi : Int), vs = [.ref r, .ref s] ∧ PolyAt K C H r a lo ∧ PolyAt K C H s b hi ∧ ProdOk a b ∧ a.length + b.length ≤ 901 ∧ ∀ (c : List Int) (l : Int), Tr (prodL a b) (lo + hi) c l → NewP K C H Q c l
def spTurn (K : PySem.W.Frag) (C : Addr) : Sp := fun vs H Q _ => ∃ (r : Addr) (a : List Int) (lo : Int), vs = [.ref r] ∧ PolyAt K C H r a lo ∧ a.length ≤ 900 ∧ ∀ (c : List Int) (l : Int), Tr a.reverse (1 - lo - a.length) c l → NewP K C H Q c l
def spMove (K : PySem.W.Frag) (C : Addr) : Sp := fun vs H Q _ => ∃ (r : Addr) (a : List Int) (lo b : Int), vs = [.ref r, .int b] ∧ -400 ≤ b ∧ b ≤ 400 ∧ PolyAt K C H r a lo ∧ a.length ≤ 900 ∧ ∀ (c : List Int) (l : Int), Tr a (lo + b) c l → NewP K C H Q c l
def spAtM (K : PySem.W.Frag) (C : Addr) : Sp := fun vs H Q _ => ∃ (r : Addr) (a : List Int) (lo e : Int), vs = [.ref r, .int e] ∧ 1 - 10 ^ 60 ≤ e ∧ e ≤ 10 ^ 60 - 1 ∧ PolyAt K C H r a lo ∧ Q (.int (rval a lo e)) H
section
variable {P : Program} {w : World} {K : PySem.W.Frag} {mg : Str → Option Value} {base : Heap} {C : Addr}
theorem ok_coefficients (T : Txt K mg C) {f : Addr} {fd : FuncData} (D : Fun K "coefficients" "Poly.coefficients" s_coefficients f fd) : FnOk P w K mg base CX0 1 f fd ["self"] (spC K C) := by
  refine D.ok sc_coefficients (fun vs H Q E h => ?_) (fun cdv A outer s H vs Q E hr h => ?_)
  · obtain ⟨r, a, lo, rfl, _⟩ := h
    rfl
  · obtain ⟨r, a, lo, rfl, ⟨dx, kv, g, ht⟩, q⟩ := h
    exact ⟨_, (pss_one (ps_ret (pe_fld (pv 0) rfl))), _, rfl, _, _, _, _, _, rfl, g, T.cl, T.nC, pf_c _ _, q kv ht⟩
theorem ok_lowest (T : Txt K mg C) {f : Addr} {fd : FuncData} (D : Fun K "lowest" "Poly.lowest" s_lowest f fd) : FnOk P w K mg base CX0 1 f fd ["self"] (spL K C) := by
  refine D.ok sc_lowest (fun vs H Q E h => ?_) (fun cdv A outer s H vs Q E hr h => ?_)
  · obtain ⟨r, a, lo, rfl, _⟩ := h
    rfl
  · obtain ⟨r, a, lo, rfl, ⟨dx, kv, g, ht⟩, q⟩ := h
    exact ⟨_, (pss_one (ps_ret (pe_fld (pv 0) rfl))), _, rfl, _, _, _, _, _, rfl, g, T.cl, T.nL, pf_l _ _, q⟩
theorem ok_degree (T : Txt K mg C) {f : Addr} {fd : FuncData} (D : Fun K "degree" "Poly.degree" s_degree f fd) : FnOk P w K mg base CX0 1 f fd ["self"] (spD K C) := by
  refine D.ok sc_degree (fun vs H Q E h => ?_) (fun cdv A outer s H vs Q E hr h => ?_)
  · obtain ⟨r, a, lo, rfl, _⟩ := h
    rfl
  · obtain ⟨r, a, lo, rfl, ⟨dx, kv, g, ⟨p, rfl, hp⟩⟩, q⟩ := h
    refine ⟨_, (pss_one (ps_ret (pe_ifExp (pt_truth (pe_fld (pv 0) rfl) (by intro _; rfl)) (pe_op op_sub (pe_op op_add (pe_fld (pv 0) rfl) (pe_callB call_len_seq (by rfl) T.b_len (by decide +kernel) (pa_cons (pe_fld (pv 0) rfl) pa_nil))) pe_int) pe_non))), _, rfl, _, _, _, _, _, rfl, g, T.cl, T.nC, pf_c _ _, _, tru_tup hp, ?_⟩
    cases a with
    | nil => exact iteF q
    | cons x a =>
      rw [if_neg (by simp)] at q
      refine iteT ⟨_, rfl, _, _, _, _, _, rfl, g, T.cl, T.nL, pf_l _ _, _, rfl, _, _, _, _, _, rfl, g, T.cl, T.nC, pf_c _ _, _, _, rfl, .inr hp, _, _, rfl, rfl, _, _, rfl, rfl, ?_⟩
      rw [List.length_map]
      exact q
theorem ok_bool (T : Txt K mg C) {f : Addr} {fd : FuncData} (D : Fun K "__bool__" "Poly.__bool__" s_bool f fd) : FnOk P w K mg base CX0 1 f fd ["self"] (spB K C) := by
  refine D.ok sc_bool (fun vs H Q E h => ?_) (fun cdv A outer s H vs Q E hr h => ?_)
  · obtain ⟨r, a, lo, rfl, _⟩ := h
    rfl
  · obtain ⟨r, a, lo, rfl, ⟨dx, kv, g, ⟨p, rfl, hp⟩⟩, q⟩ := h
    refine ⟨_, (pss_one (ps_ret (pe_callTy call_boolT (by rfl) T.b_bool (by decide +kernel) (pa_cons (pe_fld (pv 0) rfl) pa_nil)))), _, rfl, _, _, _, _, _, rfl, g, T.cl, T.nC, pf_c _ _, _, _, rfl, hp, ?_⟩
    rw [show (a.map V.int).isEmpty = a.isEmpty by cases a <;> rfl]
    exact q
theorem ok_len (T : Txt K mg C) {f : Addr} {fd : FuncData} (D : Fun K "__len__" "Poly.__len__" s_len f fd) : FnOk P w K mg base CX0 1 f fd ["self"] (spN K C) := by
  refine D.ok sc_len (fun vs H Q E h => ?_) (fun cdv A outer s H vs Q E hr h => ?_)
  · obtain ⟨r, a, lo, rfl, _⟩ := h
    rfl
  · obtain ⟨r, a, lo, rfl, ⟨dx, kv, g, ⟨p, rfl, hp⟩⟩, q⟩ := h
    refine ⟨_, (pss_one (ps_ret (pe_callB call_len_seq (by rfl) T.b_len (by decide +kernel) (pa_cons (pe_fld (pv 0) rfl) pa_nil)))), _, rfl, _, _, _, _, _, rfl, g, T.cl, T.nC, pf_c _ _, _, _, rfl, .inr hp, ?_⟩
    rw [List.length_map]
    exact q
theorem ok_at (T : Txt K mg C) {f : Addr} {fd : FuncData} (D : Fun K "at" "Poly.at" s_at f fd) : FnOk P w K mg base CX0 3 f fd ["self", "exponent"] (spAtM K C) := by
  refine D.ok sc_at (fun vs H Q E h => ?_) (fun cdv A outer s H vs Q E hr h => ?_)
  · obtain ⟨r, a, lo, e, rfl, _⟩ := h
    rfl
  · obtain ⟨r, a, lo, e, rfl, e1, e2, ⟨dx, kv, g, ht⟩, q⟩ := h
    refine ⟨_, (pss_cons (ps_if (pt_not (pt_val (pe_cal (cal_is_integer T) (hr.mono (by decide)) (by rfl) (pa_cons (pv 1) pa_nil)))) (pss_one ps_never) pss_nil)
      (pss_one (ps_ret (pe_cal (cal_integer_at T) (hr.mono (by decide)) (by rfl) (pa_cons (pe_fld (pv 0) rfl) (pa_cons (pe_op op_sub (pv 1) (pe_fld (pv 0) rfl)) pa_nil)))))), ?_⟩
    refine ⟨_, rfl, e, rfl, _, rfl, iteNT' (by rw [decide_eq_true e1, decide_eq_true e2]; rfl) ?_⟩
    exact ⟨_, rfl, _, _, _, _, _, rfl, g, T.cl, T.nC, pf_c _ _, _, rfl, _, rfl, _, _, _, _, _, rfl, g, T.cl, T.nL, pf_l _ _, _, _, rfl, rfl, kv, a, _, rfl, ht, q⟩
theorem ok_moved (T : Txt K mg C) {f : Addr} {fd : FuncData} (D : Fun K "moved" "Poly.moved" s_moved f fd) : FnOk P w K mg base CX0 7 f fd ["self", "by"] (spMove K C) := by
  refine D.ok sc_moved (fun vs H Q E h => ?_) (fun cdv A outer s H vs Q E hr h => ?_)
  · obtain ⟨r, a, lo, b, rfl, _⟩ := h
    rfl
  · obtain ⟨r, a, lo, b, rfl, e1, e2, ⟨dx, kv, g, ht⟩, l9, q⟩ := h
    refine ⟨_, (pss_cons (ps_if (pt_not (pt_val (pe_cal (cal_is_exponent T) (hr.mono (by decide)) (by rfl) (pa_cons (pv 1) pa_nil)))) (pss_one ps_never) pss_nil)
      (pss_one (ps_ret (pe_cal (cal_poly_of T) (hr.mono (by decide)) (by rfl) (pa_cons (pe_fld (pv 0) rfl) (pa_cons (pe_op op_add (pe_fld (pv 0) rfl) (pv 1)) pa_nil)))))), ?_⟩
    refine ⟨_, rfl, b, rfl, _, rfl, iteNT' (by rw [decide_eq_true e1, decide_eq_true e2]; rfl) ?_⟩
    exact ⟨_, rfl, _, _, _, _, _, rfl, g, T.cl, T.nC, pf_c _ _, _, rfl, _, _, _, _, _, rfl, g, T.cl, T.nL, pf_l _ _, _, rfl, _, _, rfl, rfl, kv, a, _, rfl, ht, l9, q⟩
theorem ok_turned (T : Txt K mg C) {f : Addr} {fd : FuncData} (D : Fun K "turned" "Poly.turned" s_turned f fd) : FnOk P w K mg base CX0 7 f fd ["self"] (spTurn K C) := by
  refine D.ok sc_turned (fun vs H Q E h => ?_) (fun cdv A outer s H vs Q E hr h => ?_)
  · obtain ⟨r, a, lo, rfl, _⟩ := h
    rfl
  · obtain ⟨r, a, lo, rfl, ⟨dx, kv, g, ⟨p, rfl, hp⟩⟩, l9, q⟩ := h
    refine ⟨_, (pss_one (ps_ret (pe_cal (cal_poly_of T) (hr.mono (by decide)) (by rfl) (pa_cons (pe_revT (pe_fld (pv 0) rfl)) (pa_cons (pe_op op_sub (pe_op op_sub pe_int (pe_fld (pv 0) rfl)) (pe_callB call_len_seq (by rfl) T.b_len (by decide +kernel) (pa_cons (pe_fld (pv 0) rfl) pa_nil))) pa_nil))))), ?_⟩
    refine ⟨_, rfl, _, _, _, _, _, rfl, g, T.cl, T.nC, pf_c _ _, p, _, rfl, hp, fun z nz => ?_⟩
    have s1 := same_new (o := .tup (a.map V.int).reverse) nz
    have g1 := s1 _ _ g
    refine ⟨_, rfl, _, _, _, _, _, rfl, g1, T.cl, T.nL, pf_l _ _, _, _, rfl, rfl, _, rfl, _, _, _, _, _, rfl, g1, T.cl, T.nC, pf_c _ _, _, _, rfl, .inr (sqT_same s1 hp), _, _, rfl, rfl, .ref z, a.reverse, _, rfl, ⟨z, rfl, by rw [List.map_reverse]; exact .of upd_same⟩, by rw [List.length_reverse]; exact l9, fun c l tr => ?_⟩
    rw [List.length_map] at tr
    exact (q c l tr).same s1
theorem ok_neg (T : Txt K mg C) {f : Addr} {fd : FuncData} (D : Fun K "__neg__" "Poly.__neg__" s_neg f fd) : FnOk P w K mg base CX0 7 f fd ["self"] (spNeg K C) := by
  refine D.ok sc_neg (fun vs H Q E h => ?_) (fun cdv A outer s H vs Q E hr h => ?_)
  · obtain ⟨r, a, lo, rfl, _⟩ := h
    rfl
  · obtain ⟨r, a, lo, rfl, ⟨dx, kv, g, ⟨p, rfl, hp⟩⟩, l9, q⟩ := h
    refine ⟨_, (pss_one (ps_ret (pe_cal (cal_poly_of T) (hr.mono (by decide)) (by rfl) (pa_cons (pe_callTy call_tuple_of (by rfl) T.b_tuple (by decide +kernel) (pa_cons (pe_lc (own := [("number", 1)]) (g := gName 1) (tt := tYes) rfl sc_neg.nd (pi_tup (pe_fld (pv 0) rfl)) (blkOk_by (own := [("number", 1)]) (N := ["self", "number"]) (sc := defScope s_neg) (by decide +kernel)) (fun _ _ _ _ _ => (pg_name (i := 1) sc_neg.nd rfl (Or.inl rfl))) (fun _ _ _ _ _ => pts_nil) (fun _ _ _ _ _ => (pe_un un_neg (pv 1)))) pa_nil)) (pa_cons (pe_fld (pv 0) rfl) pa_nil))))), ?_⟩
    refine ⟨_, rfl, _, _, _, _, _, rfl, g, T.cl, T.nC, pf_c _ _, p, rfl, ⟨_, hp⟩, fun D nD => lc_tup (K := K) (a := p) (xs := a.map V.int) (fun i H' => Same H H' ∧ H' D = some (.lst (((a.take i).map fun x => -x).map V.int))) ⟨same_new nD, upd_same⟩ (fun i H' _ h => sqT_same h.1 hp) ?_ ?_⟩
    · rintro i x H2 hm ⟨s2, hD⟩
      obtain ⟨c, hc, rfl⟩ := int_at hm
      have ilt := (List.getElem?_eq_some_iff.mp hc).1
      refine ⟨rfl, _, rfl, _, rfl, _, hD, ?_, same_off nD s2 off_upd, ?_⟩
      · rw [List.length_map, List.length_map, List.length_take]
        exact small1000 (by omega)
      · rw [upd_same, take_snoc hc, List.map_append, List.map_append]
        rfl
    · rintro H2 ⟨s2, hD⟩
      rw [List.length_map, List.take_length] at hD
      refine ⟨_, _, rfl, .inl ⟨.of hD, fun z nz => ?_⟩⟩
      have s3 := s2.trans (same_new (o := .tup ((a.map fun x => -x).map V.int)) nz)
      have g3 := s3 _ _ g
      refine ⟨_, rfl, _, _, _, _, _, rfl, g3, T.cl, T.nL, pf_l _ _, .ref z, a.map fun x => -x, lo, rfl, ⟨z, rfl, .of upd_same⟩, by rw [List.length_map]; exact l9, fun c l tr => (q c l tr).same s3⟩
theorem ok_mul (T : Txt K mg C) {f : Addr} {fd : FuncData} (D : Fun K "__mul__" "Poly.__mul__" s_mul f fd) : FnOk P w K mg base CX0 14 f fd ["self", "other"] (spMul K C) := by
  refine D.ok sc_mul (fun vs H Q E h => ?_) (fun cdv A outer s H vs Q E hr h => ?_)
  · obtain ⟨r, s, a, b, lo, hi, rfl, _⟩ := h
    rfl
  · obtain ⟨r, s, a, b, lo, hi, rfl, ⟨dx, kv, g, ht⟩, ⟨dy, ku, g', ht'⟩, rp, hab, q⟩ := h
    refine ⟨_, (pss_cons (ps_if (pt_not (pt_val (pe_callB call_isi (by rfl) T.b_isinstance (by decide +kernel) (pa_cons (pv 1) (pa_cons (pe_glob (v := .ref C) (by rfl) T.mgPoly rfl) pa_nil))))) (pss_one ps_never) pss_nil)
      (pss_one (ps_ret (pe_cal (cal_poly_of T) (hr.mono (by decide)) (by rfl) (pa_cons (pe_cal (cal_folded T) (hr.mono (by decide)) (by rfl) (pa_cons (pe_fld (pv 0) rfl) (pa_cons (pe_fld (pv 1) rfl) pa_nil))) (pa_cons (pe_op op_add (pe_fld (pv 0) rfl) (pe_fld (pv 1) rfl)) pa_nil)))))), ?_⟩
    refine ⟨_, rfl, _, _, _, _, true, rfl, .own C, .base (.ins g' T.cl T.ic.ha T.ic.hn T.ic.htk T.ic.hm), T.ic.me, _, rfl, iteF ?_⟩
    refine ⟨_, rfl, _, _, _, _, _, rfl, g, T.cl, T.nC, pf_c _ _, _, rfl, _, _, _, _, _, rfl, g', T.cl, T.nC, pf_c _ _, kv, ku, a, b, rfl, ht, ht', rp, fun z H1 s1 tz => ?_⟩
    have g1 := s1 _ _ g
    have g1' := s1 _ _ g'
    refine ⟨_, rfl, _, _, _, _, _, rfl, g1, T.cl, T.nL, pf_l _ _, _, rfl, _, _, _, _, _, rfl, g1', T.cl, T.nL, pf_l _ _, _, _, rfl, rfl, z, prodL a b, _, rfl, tz, ?_, fun c l tr => (q c l tr).same s1⟩
    unfold prodL
    split
    · exact Nat.zero_le _
    · rename_i h
      rw [len_mulL (fun e => h (.inl e)) (fun e => h (.inr e))]
      omega
end
end Pk

namespace Pk
open PySem L2 Ow
theorem eqv_ints : ∀ a b : List Int, PyData.eqvAll (a.map PyData.int) (b.map PyData.int) = decide (a = b)
  | [], [] => by simp [PyData.eqvAll]
  | [], _ :: _ => by simp [PyData.eqvAll]
  | _ :: _, [] => by simp [PyData.eqvAll]
  | x :: a, y :: b => by
    have h := eqv_ints a b
    by_cases e : x = y
    · subst e
      simp [PyData.eqvAll, PyData.eqv, h]
    · simp [PyData.eqvAll, PyData.eqv, h, e]
def dT (ns : List Int) : PyData := .tuple (ns.map PyData.int)
theorem eqv_dT (a b : List Int) : PyData.eqv (dT a) (dT b) = decide (a = b) := by
  unfold dT
  rw [show PyData.eqv (.tuple (a.map PyData.int)) (.tuple (b.map PyData.int)) = PyData.eqvAll (a.map PyData.int) (b.map PyData.int) from by simp [PyData.eqv]]
  exact eqv_ints a b
theorem dInts {K : PySem.W.Frag} {H : Hp} : ∀ ns : List Int, DpAll K H (ns.map V.int) (ns.map PyData.int)
  | [] => .nil
  | n :: ns => .cons (.int n) (dInts ns)
theorem TI.dp {K : PySem.W.Frag} {H : Hp} {v : V} {ns : List Int} (h : TI K H v ns) : Dp K H v (dT ns) := by
  obtain ⟨a, rfl, q⟩ := h
  exact .tup q (dInts ns)
theorem lay_ints : ∀ ns : List Int, PyData.canLayAll0 (ns.map PyData.int) = true
  | [] => by simp [PyData.canLayAll0]
  | n :: ns => by simp [PyData.canLayAll0, PyData.canLay0, lay_ints ns]
theorem dep_ints : ∀ ns : List Int, PyData.depthAll (ns.map PyData.int) ≤ 1
  | [] => by simp [PyData.depthAll]
  | n :: ns => by have := dep_ints ns; simp [PyData.depthAll, PyData.depth]; omega
theorem sh_dT (ns : List Int) : SeqAt.shaped (dT ns) = true := by
  unfold SeqAt.shaped
  have h1 : (dT ns).canLay0 = true := by simp [dT, PyData.canLay0, lay_ints]
  have h2 : (dT ns).depth ≤ 64 := by have := dep_ints ns; simp [dT, PyData.depth]; omega
  rw [h1, decide_eq_true h2]
  rfl
def spEq (K : PySem.W.Frag) (C : Addr) : Sp := fun vs H Q _ => ∃ (r : Addr) (x : V) (a : List Int) (lo : Int), vs = [.ref r, x] ∧ PolyAt K C H r a lo ∧
  ((∃ s b hi, x = .ref s ∧ PolyAt K C H s b hi ∧ Q (.bl (decide (lo = hi) && decide (a = b))) H) ∨ (∃ t, TyX K H x t ∧ PySem.W.kitOne K t (.ref C) = some false ∧ Q (.bl false) H))
def spAlike (K : PySem.W.Frag) (C : Addr) : Sp := fun vs H Q _ => ∃ (r : Addr) (a : List Int) (lo : Int), vs = [.ref r] ∧ PolyAt K C H r a lo ∧ ∀ H' : Hp, Same H H' → Q (.bl (decide (a = a.reverse))) H'
section
variable {P : Program} {w : World} {K : PySem.W.Frag} {mg : Str → Option Value} {base : Heap} {C : Addr}
theorem ok_eq (T : Txt K mg C) {f : Addr} {fd : FuncData} (D : Fun K "__eq__" "Poly.__eq__" s_eq f fd) : FnOk P w K mg base CX0 1 f fd ["self", "other"] (spEq K C) := by
  refine D.ok sc_eq (fun vs H Q E h => ?_) (fun cdv A outer s H vs Q E hr h => ?_)
  · obtain ⟨r, x, a, lo, rfl, _⟩ := h
    rfl
  · obtain ⟨r, x, a, lo, rfl, ⟨dx, kv, g, ht⟩, k⟩ := h
    refine ⟨_, (pss_one (ps_ret (pe_and (pe_callB call_isi (by rfl) T.b_isinstance (by decide +kernel) (pa_cons (pv 1) (pa_cons (pe_glob (v := .ref C) (by rfl) T.mgPoly rfl) pa_nil))) (pe_and (pe_cmpR op_eq (pe_fld (pv 0) rfl) (pe_fld (pv 1) rfl) (nomark _)) (pe_one (pe_cmpR (op_eqD hr.units) (pe_fld (pv 0) rfl) (pe_fld (pv 1) rfl) (nomark _))))))), ?_⟩
    rcases k with ⟨s', b, hi, rfl, ⟨dy, ku, g', ht'⟩, k⟩ | ⟨t, ty, kt, k⟩
    · refine ⟨_, rfl, _, _, _, _, true, rfl, .own C, .base (.ins g' T.cl T.ic.ha T.ic.hn T.ic.htk T.ic.hm), T.ic.me, _, rfl, iteT ?_⟩
      refine ⟨_, rfl, _, _, _, _, _, rfl, g, T.cl, T.nL, pf_l _ _, _, rfl, _, _, _, _, _, rfl, g', T.cl, T.nL, pf_l _ _, rfl, _, rfl, ?_⟩
      rw [show decide (lo = hi) = decide (V.int lo = V.int hi) from decide_eq_decide.mpr ⟨fun h => by rw [h], V.int.inj⟩] at k
      refine ite2 (fun h => ?_) (fun h => ?_)
      · rw [h, Bool.true_and, ← eqv_dT] at k
        exact ⟨_, rfl, _, _, _, _, _, rfl, g, T.cl, T.nC, pf_c _ _, _, rfl, _, _, _, _, _, rfl, g', T.cl, T.nC, pf_c _ _, _, _, ht.dp, ht'.dp, sh_dT _, sh_dT _, k⟩
      · rw [Bool.eq_false_iff.mpr h] at k
        exact k
    · exact ⟨_, rfl, _, _, _, _, false, rfl, .own C, ty, kt, _, rfl, iteF k⟩
theorem ok_alike (T : Txt K mg C) {f : Addr} {fd : FuncData} (D : Fun K "is_alike_turned" "Poly.is_alike_turned" s_is_alike_turned f fd) : FnOk P w K mg base CX0 1 f fd ["self"] (spAlike K C) := by
  refine D.ok sc_is_alike_turned (fun vs H Q E h => ?_) (fun cdv A outer s H vs Q E hr h => ?_)
  · obtain ⟨r, a, lo, rfl, _⟩ := h
    rfl
  · obtain ⟨r, a, lo, rfl, ⟨dx, kv, g, ht⟩, k⟩ := h
    obtain ⟨p, rfl, hp⟩ := ht
    refine ⟨_, (pss_one (ps_ret (pe_cmpR (op_eqD hr.units) (pe_fld (pv 0) rfl) (pe_revT (pe_fld (pv 0) rfl)) (nomark _)))), ?_⟩
    refine ⟨_, rfl, _, _, _, _, _, rfl, g, T.cl, T.nC, pf_c _ _, _, rfl, _, _, _, _, _, rfl, g, T.cl, T.nC, pf_c _ _, p, _, rfl, hp, fun z nz => ?_⟩
    have s1 := same_new (o := .tup (a.map V.int).reverse) nz
    have kk := k _ s1
    rw [← eqv_dT] at kk
    exact ⟨_, _, TI.dp (ns := a) ⟨p, rfl, sqT_same s1 hp⟩, TI.dp (ns := a.reverse) ⟨z, rfl, by rw [List.map_reverse]; exact .of upd_same⟩, sh_dT _, sh_dT _, kk⟩
section
variable {X : Cx} {e : Expr} {ta : TE} {pos : Pos}
theorem pe_pC (T : Txt X.K X.mg C) (hr : Room 2 X.A) (he : PE X e ta) (hab : attributeBase e "coefficients" X.env (eval e X.env) = eval e X.env := by rfl) : PE X (.Attribute e "coefficients" pos) (tProp C (spC X.K C) [] E0 ta) := by
  obtain ⟨_, _, _, hp, D⟩ := T.pC
  exact pe_prop he T.cl hp (ok_coefficients T D) hr (D.binds fun _ _ _ _ _ _ us hl => match us, hl with | [_], _ => rfl) .nil pass0 hab
theorem pe_pL (T : Txt X.K X.mg C) (hr : Room 2 X.A) (he : PE X e ta) (hab : attributeBase e "lowest" X.env (eval e X.env) = eval e X.env := by rfl) : PE X (.Attribute e "lowest" pos) (tProp C (spL X.K C) [] E0 ta) := by
  obtain ⟨_, _, _, hp, D⟩ := T.pL
  exact pe_prop he T.cl hp (ok_lowest T D) hr (D.binds fun _ _ _ _ _ _ us hl => match us, hl with | [_], _ => rfl) .nil pass0 hab
theorem pe_pD (T : Txt X.K X.mg C) (hr : Room 2 X.A) (he : PE X e ta) (hab : attributeBase e "degree" X.env (eval e X.env) = eval e X.env := by rfl) : PE X (.Attribute e "degree" pos) (tProp C (spD X.K C) [] E0 ta) := by
  obtain ⟨_, _, _, hp, D⟩ := T.pD
  exact pe_prop he T.cl hp (ok_degree T D) hr (D.binds fun _ _ _ _ _ _ us hl => match us, hl with | [_], _ => rfl) .nil pass0 hab
theorem tru_gBool (T : Txt X.K X.mg C) (hr : Room 1 X.A) : TruR X (rTruO C (spB X.K C) E0) := by
  obtain ⟨_, _, D, m⟩ := T.mBool
  exact tru_own m (ok_bool T D) hr (D.binds fun _ _ _ _ _ _ us hl => match us, hl with | [_], _ => rfl) pass0
end
end
end Pk

namespace Pk
open PySem L2 Ow
/-- a poly with this row, new or not -/
def ResP (K : PySem.W.Frag) (C : Addr) (H : Hp) (Q : VK) (a : List Int) (lo : Int) : Prop := ∀ (r : Addr) (H' : Hp), Same H H' → PolyAt K C H' r a lo → Q (.ref r) H'
/-- the row of one + s other, from lo on, n integers -/
def sumR (a b : List Int) (l1 l2 s lo : Int) (n : Nat) : List Int := (List.range n).map fun i => cf a (lo + (i : Nat) - l1) + s * cf b (lo + (i : Nat) - l2)
def lowS2 (x y : Int) : Int := if y < x then y else x
def highS (a b : List Int) (l1 l2 : Int) : Int := if l2 + b.length - 1 > l1 + a.length - 1 then l2 + b.length - 1 else l1 + a.length - 1
theorem cf_tab (f : Nat → Int) (n : Nat) (j : Int) : cf ((List.range n).map f) j = if 0 ≤ j ∧ j < n then f j.toNat else 0 := by
  by_cases h0 : 0 ≤ j
  · by_cases h1 : j < n
    · rw [if_pos ⟨h0, h1⟩]
      unfold cf
      rw [if_pos h0, List.getD_eq_getElem?_getD, List.getElem?_map, List.getElem?_range (by omega)]
      rfl
    · rw [if_neg fun z => h1 z.2, cf_far (by rw [List.length_map, List.length_range]; omega)]
  · rw [if_neg fun z => h0 z.1, cf_neg (by omega)]
theorem sum_val {a b : List Int} {l1 l2 s : Int} (e : Int) : rval (sumR a b l1 l2 s (lowS2 l1 l2) (highS a b l1 l2 + 1 - lowS2 l1 l2).toNat) (lowS2 l1 l2) e = rval a l1 e + s * rval b l2 e := by
  unfold rval sumR
  rw [cf_tab]
  have h1 : lowS2 l1 l2 ≤ l1 ∧ lowS2 l1 l2 ≤ l2 := by unfold lowS2; split <;> omega
  have h2 : l1 + a.length - 1 ≤ highS a b l1 l2 ∧ l2 + b.length - 1 ≤ highS a b l1 l2 := by unfold highS; split <;> omega
  generalize lowS2 l1 l2 = lo at *
  generalize highS a b l1 l2 = hi at *
  by_cases c : 0 ≤ e - lo ∧ e - lo < ((hi + 1 - lo).toNat : Nat)
  · rw [if_pos c, show lo + (((e - lo).toNat : Nat) : Int) = e by omega]
  · rw [if_neg c]
    by_cases c1 : e - lo < 0
    · rw [cf_neg (show e - l1 < 0 by omega), cf_neg (show e - l2 < 0 by omega), Int.mul_zero]
      rfl
    · rw [cf_far (show (a.length : Int) ≤ e - l1 by omega), cf_far (show (b.length : Int) ≤ e - l2 by omega), Int.mul_zero]
      rfl
theorem scale_val (s : Int) (b : List Int) (l e : Int) : rval (b.map fun x => s * x) l e = s * rval b l e := cf_scL s b (e - l)
theorem cf_bd {a : List Int} {w : Nat} (h : ∀ c ∈ a, c.natAbs < 2 ^ w) (i : Int) : (cf a i).natAbs < 2 ^ w := by
  unfold cf
  split
  · rw [List.getD_eq_getElem?_getD]
    cases e : a[i.toNat]? with
    | none => exact Nat.pow_pos (by decide)
    | some c => exact h c (List.mem_of_getElem? e)
  · exact Nat.pow_pos (by decide)
def spSum (K : PySem.W.Frag) (C : Addr) : Sp := fun vs H Q _ => ∃ (r t : Addr) (a b : List Int) (l1 l2 s : Int), vs = [.ref r, .ref t, .int s] ∧ PolyAt K C H r a l1 ∧ PolyAt K C H t b l2 ∧ Trim a l1 ∧ (s = 1 ∨ s = -1) ∧ (∀ c ∈ a, c.natAbs < 2 ^ 2500) ∧ (∀ c ∈ b, c.natAbs < 2 ^ 2500) ∧ a.length ≤ 130 ∧ b.length ≤ 130 ∧ -5000 ≤ l1 ∧ l1 ≤ 5000 ∧ -5000 ≤ l2 ∧ l2 ≤ 5000 ∧ (highS a b l1 l2 + 1 - lowS2 l1 l2).toNat ≤ 900 ∧
  ∀ (c : List Int) (l : Int), Trim c l → (∀ e, rval c l e = rval a l1 e + s * rval b l2 e) → ResP K C H Q c l
section
variable {P : Program} {w : World} {K : PySem.W.Frag} {mg : Str → Option Value} {base : Heap} {C : Addr}
theorem cal_sum_of (T : Txt K mg C) : Cal P w K mg base "sum_of" 7 (spSum K C) := by
  refine T.d_sum_of.cal (ps := ["one", "other", "sign"]) (fun f fd D => ?_) (fun _ _ _ _ _ _ us hl => match us, hl with | [_, _, _], _ => rfl)
  refine D.ok sc_sum_of (fun vs H Q E h => ?_) (fun cdv A outer s H vs Q E hr h => ?_)
  · obtain ⟨r, t, a, b, l1, l2, s, rfl, _⟩ := h
    rfl
  · obtain ⟨r, t, a, b, l1, l2, sg, rfl, pa, pb, tra, hs, ba, bb, la, lb, x1, x2, y1, y2, sp, q⟩ := h
    refine ⟨_, (pss_cons (ps_if (PW.pt (pw_or (pt_not (pt_truthR (pv 0) (tru_gBool T (hr.mono (by decide))) (by intro _; rfl))) (pw_or1 (pt_not (pt_truthR (pv 1) (tru_gBool T (hr.mono (by decide))) (by intro _; rfl)))))) (pss_one (ps_ret (pe_ifExp (pt_not (pt_truthR (pv 1) (tru_gBool T (hr.mono (by decide))) (by intro _; rfl))) (pv 0) (pe_cal (cal_poly_of T) (hr.mono (by decide)) (by rfl) (pa_cons (pe_callTy call_tuple_of (by rfl) T.b_tuple (by decide +kernel) (pa_cons (pe_lc (own := [("number", 3)]) (g := gName 3) (tt := tYes) rfl sc_sum_of.nd (pi_tup (pe_pC T (hr.mono (by decide)) (pv 1))) (blkOk_by (own := [("number", 3)]) (N := ["one", "other", "sign", "number", "low", "high", "at"]) (sc := defScope s_sum_of) (by decide +kernel)) (fun _ _ _ _ _ => (pg_name (i := 3) sc_sum_of.nd rfl (Or.inl rfl))) (fun _ _ _ _ _ => pts_nil) (fun _ _ _ _ _ => (pe_op op_mulW (pv 2) (pv 3)))) pa_nil)) (pa_cons (pe_pL T (hr.mono (by decide)) (pv 1)) pa_nil)))))) pss_nil)
      (pss_cons (ps_set (i := 4) sc_sum_of.nd rfl (Or.inl rfl) (pe_callB (call_min2 rfl) (by rfl) T.b_min (by decide +kernel) (pa_cons (pe_pL T (hr.mono (by decide)) (pv 0)) (pa_cons (pe_pL T (hr.mono (by decide)) (pv 1)) pa_nil))))
      (pss_cons (ps_set (i := 5) sc_sum_of.nd rfl (Or.inl rfl) (pe_callB (call_max2 rfl) (by rfl) T.b_max (by decide +kernel) (pa_cons (pe_pD T (hr.mono (by decide)) (pv 0)) (pa_cons (pe_pD T (hr.mono (by decide)) (pv 1)) pa_nil))))
      (pss_one (ps_ret (pe_cal (cal_poly_of T) (hr.mono (by decide)) (by rfl) (pa_cons (pe_callTy call_tuple_of (by rfl) T.b_tuple (by decide +kernel) (pa_cons (pe_lc (own := [("at", 6)]) (g := gName 6) (tt := tYes) rfl sc_sum_of.nd (pi_range2 (by rfl) T.b_range (pa_cons (pv 4) (pa_cons (pe_op op_add (pv 5) pe_int) pa_nil))) (blkOk_by (own := [("at", 6)]) (N := ["one", "other", "sign", "number", "low", "high", "at"]) (sc := defScope s_sum_of) (by decide +kernel)) (fun _ _ _ _ _ => (pg_name (i := 6) sc_sum_of.nd rfl (Or.inl rfl))) (fun _ _ _ _ _ => pts_nil) (fun _ _ _ _ _ => (pe_op op_add (pe_cal (cal_integer_at T) (hr.mono (by decide)) (by rfl) (pa_cons (show PE _ _ (tProp C (spC K C) [] E0 (tVar 0)) from (pe_pC T (hr.mono (by decide)) (pv 0))) (pa_cons (pe_op op_sub (pv 6) (show PE _ _ (tProp C (spL K C) [] E0 (tVar 0)) from (pe_pL T (hr.mono (by decide)) (pv 0)))) pa_nil))) (pe_op op_mulW (pv 2) (pe_cal (cal_integer_at T) (hr.mono (by decide)) (by rfl) (pa_cons (show PE _ _ (tProp C (spC K C) [] E0 (tVar 1)) from (pe_pC T (hr.mono (by decide)) (pv 1))) (pa_cons (pe_op op_sub (pv 6) (show PE _ _ (tProp C (spL K C) [] E0 (tVar 1)) from (pe_pL T (hr.mono (by decide)) (pv 1)))) pa_nil))))))) pa_nil)) (pa_cons (pv 4) pa_nil)))))))), ?_⟩
    have pa' := pa
    have pb' := pb
    obtain ⟨dx, kv, g, ht⟩ := pa
    obtain ⟨dy, ku, g', ht'⟩ := pb
    obtain ⟨p, rfl, hp⟩ := ht
    obtain ⟨p2, rfl, hp2⟩ := ht'
    have sgn : sg.natAbs < 2 ^ 1 := by rcases hs with rfl | rfl <;> decide
    by_cases eb : b = []
    · subst eb
      have vals : ∀ e, rval a l1 e = rval a l1 e + sg * rval [] l2 e := fun e => by rw [rval_nil, Int.mul_zero, Int.add_zero]
      refine ⟨_, rfl, r, dx, _, rfl, g, r, a, l1, rfl, pa', _, rfl, ite2 (fun h => ?_) (fun h => ?_)⟩
      · exact ⟨_, rfl, t, dy, _, rfl, g', t, [], l2, rfl, pb', _, rfl, iteT ⟨_, rfl, q a l1 tra vals r H (.refl H) pa'⟩⟩
      · exact ⟨_, rfl, t, dy, _, rfl, g', t, [], l2, rfl, pb', _, rfl, iteT ⟨_, rfl, t, dy, _, rfl, g', t, [], l2, rfl, pb', _, rfl, iteT ⟨_, rfl, q a l1 tra vals r H (.refl H) pa'⟩⟩⟩
    have tb : (!b.isEmpty) = true := by cases b with | nil => exact absurd rfl eb | cons x b => rfl
    by_cases ea : a = []
    · subst ea
      refine ⟨_, rfl, r, dx, _, rfl, g, r, [], l1, rfl, pa', _, rfl, iteT ?_⟩
      refine ⟨_, rfl, t, dy, _, rfl, g', t, b, l2, rfl, pb', _, rfl, ?_⟩
      rw [tb]
      refine iteF ?_
      refine ⟨_, rfl, t, dy, _, rfl, g', t, b, l2, rfl, pb', fun v tv => ?_⟩
      obtain ⟨pv1, rfl, hv⟩ := tv
      refine ⟨pv1, rfl, ⟨_, hv⟩, fun D nD => lc_tup (K := K) (a := pv1) (xs := b.map V.int) (fun i H' => Same H H' ∧ H' D = some (.lst (((b.take i).map fun x => sg * x).map V.int))) ⟨same_new nD, upd_same⟩ (fun i H' _ h => sqT_same h.1 hv) ?_ ?_⟩
      · rintro i x H2 hm ⟨s2, hD⟩
        obtain ⟨c, hc, rfl⟩ := int_at hm
        have ilt := (List.getElem?_eq_some_iff.mp hc).1
        refine ⟨rfl, _, rfl, _, rfl, _, _, rfl, rfl, wide_mul sgn (bb c (List.mem_of_getElem? hc)) (by decide) (by decide) (by decide), _, hD, ?_, same_off nD s2 off_upd, ?_⟩
        · rw [List.length_map, List.length_map, List.length_take]
          exact small1000 (by omega)
        · rw [upd_same, take_snoc hc, List.map_append, List.map_append]
          rfl
      · rintro H2 ⟨s2, hD⟩
        rw [List.length_map, List.take_length] at hD
        refine ⟨_, _, rfl, .inl ⟨.of hD, fun z nz => ?_⟩⟩
        have s3 := s2.trans (same_new (o := .tup ((b.map fun x => sg * x).map V.int)) nz)
        refine ⟨_, rfl, t, dy, _, rfl, s3 _ _ g', t, b, l2, rfl, pb'.same s3, .ref z, b.map fun x => sg * x, l2, rfl, ⟨z, rfl, .of upd_same⟩, by rw [List.length_map]; omega, fun c l tr => ?_⟩
        exact fun r' H' s' n' p' => q c l tr.1 (fun e => by rw [tr.2.1 e, scale_val, rval_nil, Int.zero_add]) r' H' (s3.trans s') p'
    have ta : (!a.isEmpty) = true := by cases a with | nil => exact absurd rfl ea | cons x a => rfl
    refine ⟨_, rfl, r, dx, _, rfl, g, r, a, l1, rfl, pa', _, rfl, ?_⟩
    rw [ta]
    refine iteF ⟨_, rfl, t, dy, _, rfl, g', t, b, l2, rfl, pb', _, rfl, ?_⟩
    rw [tb]
    refine iteF ?_
    refine ⟨_, rfl, r, dx, _, rfl, g, r, a, l1, rfl, pa', _, rfl, t, dy, _, rfl, g', t, b, l2, rfl, pb', _, _, rfl, ?_⟩
    refine ⟨_, rfl, r, dx, _, rfl, g, r, a, l1, rfl, pa', _, rfl, t, dy, _, rfl, g', t, b, l2, rfl, pb', l1 + a.length - 1, l2 + b.length - 1, (by rw [if_neg ea, if_neg eb]), ?_⟩
    have bl : -5000 ≤ lowS2 l1 l2 ∧ lowS2 l1 l2 ≤ 5000 := by unfold lowS2; split <;> omega
    have bh : -5001 ≤ highS a b l1 l2 ∧ highS a b l1 l2 ≤ 6000 := by unfold highS; split <;> omega
    refine ⟨_, rfl, _, rfl, _, _, rfl, rfl, lowS2 l1 l2, highS a b l1 l2 + 1, rfl, ⟨by omega, by omega, by omega, by omega⟩, fun D nD => lc_range (lo := lowS2 l1 l2) (n := (highS a b l1 l2 + 1 - lowS2 l1 l2).toNat) (fun i H' => Same H H' ∧ H' D = some (.lst ((sumR a b l1 l2 sg (lowS2 l1 l2) i).map V.int))) ⟨same_new nD, upd_same⟩ ?_ ?_⟩
    · rintro i H2 hi ⟨s2, hD⟩
      have pa2 := pa'.same s2
      have pb2 := pb'.same s2
      refine ⟨rfl, _, rfl, r, dx, _, rfl, s2 _ _ g, r, a, l1, rfl, pa2, fun v tv => ?_⟩
      refine ⟨_, rfl, _, rfl, r, dx, _, rfl, s2 _ _ g, r, a, l1, rfl, pa2, _, _, rfl, rfl, v, a, _, rfl, tv, ?_⟩
      refine ⟨_, rfl, _, rfl, t, dy, _, rfl, s2 _ _ g', t, b, l2, rfl, pb2, fun u tu => ?_⟩
      refine ⟨_, rfl, _, rfl, t, dy, _, rfl, s2 _ _ g', t, b, l2, rfl, pb2, _, _, rfl, rfl, u, b, _, rfl, tu, ?_⟩
      refine ⟨_, _, rfl, rfl, wide_mul sgn (cf_bd bb _) (by decide) (by decide) (by decide), _, _, rfl, rfl, _, hD, ?_, same_off nD s2 off_upd, ?_⟩
      · unfold sumR
        rw [List.length_map, List.length_map, List.length_range]
        exact small1000 (by omega)
      · rw [upd_same]
        unfold sumR
        rw [List.range_succ, List.map_append, List.map_append]
        rfl
    · rintro H2 ⟨s2, hD⟩
      refine ⟨_, _, rfl, .inl ⟨.of hD, fun z nz => ?_⟩⟩
      have s3 := s2.trans (same_new (o := .tup ((sumR a b l1 l2 sg (lowS2 l1 l2) (highS a b l1 l2 + 1 - lowS2 l1 l2).toNat).map V.int)) nz)
      refine ⟨_, rfl, .ref z, _, _, rfl, ⟨z, rfl, .of upd_same⟩, ?_, fun c l tr => ?_⟩
      · unfold sumR
        rw [List.length_map, List.length_range]
        exact sp
      · exact fun r' H' s' n' p' => q c l tr.1 (fun e => by rw [tr.2.1 e]; exact sum_val e) r' H' (s3.trans s') p'
end
end Pk

namespace Pk
open PySem L2 Ow
/-- sum or difference, by the sign -/
def spAdd (K : PySem.W.Frag) (C : Addr) (s : Int) : Sp := fun vs H Q _ => ∃ (r t : Addr) (a b : List Int) (l1 l2 : Int), vs = [.ref r, .ref t] ∧ PolyAt K C H r a l1 ∧ PolyAt K C H t b l2 ∧ Trim a l1 ∧ (∀ c ∈ a, c.natAbs < 2 ^ 2500) ∧ (∀ c ∈ b, c.natAbs < 2 ^ 2500) ∧ a.length ≤ 130 ∧ b.length ≤ 130 ∧ -5000 ≤ l1 ∧ l1 ≤ 5000 ∧ -5000 ≤ l2 ∧ l2 ≤ 5000 ∧ (highS a b l1 l2 + 1 - lowS2 l1 l2).toNat ≤ 900 ∧
  ∀ (c : List Int) (l : Int), Trim c l → (∀ e, rval c l e = rval a l1 e + s * rval b l2 e) → ResP K C H Q c l
section
variable {P : Program} {w : World} {K : PySem.W.Frag} {mg : Str → Option Value} {base : Heap} {C : Addr}
theorem ok_add (T : Txt K mg C) {f : Addr} {fd : FuncData} (D : Fun K "__add__" "Poly.__add__" s_add f fd) : FnOk P w K mg base CX0 8 f fd ["self", "other"] (spAdd K C 1) := by
  refine D.ok sc_add (fun vs H Q E h => ?_) (fun cdv A outer s H vs Q E hr h => ?_)
  · obtain ⟨r, t, a, b, l1, l2, rfl, _⟩ := h
    rfl
  · obtain ⟨r, t, a, b, l1, l2, rfl, pa, pb, tra, ba, bb, la, lb, x1, x2, y1, y2, sp, q⟩ := h
    refine ⟨_, (pss_cons (ps_if (pt_not (pt_val (pe_callB call_isi (by rfl) T.b_isinstance (by decide +kernel) (pa_cons (pv 1) (pa_cons (pe_glob (v := .ref C) (by rfl) T.mgPoly rfl) pa_nil))))) (pss_one ps_never) pss_nil)
      (pss_one (ps_ret (pe_cal (cal_sum_of T) (hr.mono (by decide)) (by rfl) (pa_cons (pv 0) (pa_cons (pv 1) (pa_cons pe_int pa_nil))))))), ?_⟩
    obtain ⟨dy, ku, g', ht'⟩ := id pb
    refine ⟨_, rfl, _, _, _, _, true, rfl, .own C, .base (.ins g' T.cl T.ic.ha T.ic.hn T.ic.htk T.ic.hm), T.ic.me, _, rfl, iteF ?_⟩
    exact ⟨_, rfl, _, rfl, r, t, a, b, l1, l2, 1, rfl, pa, pb, tra, .inl rfl, ba, bb, la, lb, x1, x2, y1, y2, sp, q⟩
theorem ok_sub (T : Txt K mg C) {f : Addr} {fd : FuncData} (D : Fun K "__sub__" "Poly.__sub__" s_sub f fd) : FnOk P w K mg base CX0 8 f fd ["self", "other"] (spAdd K C (-1)) := by
  refine D.ok sc_sub (fun vs H Q E h => ?_) (fun cdv A outer s H vs Q E hr h => ?_)
  · obtain ⟨r, t, a, b, l1, l2, rfl, _⟩ := h
    rfl
  · obtain ⟨r, t, a, b, l1, l2, rfl, pa, pb, tra, ba, bb, la, lb, x1, x2, y1, y2, sp, q⟩ := h
    refine ⟨_, (pss_cons (ps_if (pt_not (pt_val (pe_callB call_isi (by rfl) T.b_isinstance (by decide +kernel) (pa_cons (pv 1) (pa_cons (pe_glob (v := .ref C) (by rfl) T.mgPoly rfl) pa_nil))))) (pss_one ps_never) pss_nil)
      (pss_one (ps_ret (pe_cal (cal_sum_of T) (hr.mono (by decide)) (by rfl) (pa_cons (pv 0) (pa_cons (pv 1) (pa_cons (pe_un un_neg pe_int) pa_nil))))))), ?_⟩
    obtain ⟨dy, ku, g', ht'⟩ := id pb
    refine ⟨_, rfl, _, _, _, _, true, rfl, .own C, .base (.ins g' T.cl T.ic.ha T.ic.hn T.ic.htk T.ic.hm), T.ic.me, _, rfl, iteF ?_⟩
    exact ⟨_, rfl, _, rfl, _, rfl, r, t, a, b, l1, l2, -1, rfl, pa, pb, tra, .inr rfl, ba, bb, la, lb, x1, x2, y1, y2, sp, q⟩
section
variable {X : Cx}
theorem op_gAdd (T : Txt X.K X.mg C) (hr : Room 8 X.A) : OpR X (binaryOp .Add) (rBin C (spAdd X.K C 1) E0) := by
  obtain ⟨_, _, D, m⟩ := T.mAdd
  exact op_bin T.oc m (ok_add T D) hr (D.binds fun _ _ _ _ _ _ us hl => match us, hl with | [_, _], _ => rfl) pass0
theorem op_gSub (T : Txt X.K X.mg C) (hr : Room 8 X.A) : OpR X (binaryOp .Sub) (rBin C (spAdd X.K C (-1)) E0) := by
  obtain ⟨_, _, D, m⟩ := T.mSub
  exact op_bin T.oc m (ok_sub T D) hr (D.binds fun _ _ _ _ _ _ us hl => match us, hl with | [_, _], _ => rfl) pass0
theorem op_gMult (T : Txt X.K X.mg C) (hr : Room 14 X.A) : OpR X (binaryOp .Mult) (rBin C (spMul X.K C) E0) := by
  obtain ⟨_, _, D, m⟩ := T.mMul
  exact op_bin T.oc m (ok_mul T D) hr (D.binds fun _ _ _ _ _ _ us hl => match us, hl with | [_, _], _ => rfl) pass0
theorem un_gNeg (T : Txt X.K X.mg C) (hr : Room 7 X.A) : UnR X (unaryOp .USub) (rNegO C (spNeg X.K C) E0) := by
  obtain ⟨_, _, D, m⟩ := T.mNeg
  exact un_negO m (ok_neg T D) hr (D.binds fun _ _ _ _ _ _ us hl => match us, hl with | [_], _ => rfl) pass0
theorem op_gEq (T : Txt X.K X.mg C) (hr : Room 1 X.A) : OpR X (compareOp .Eq) (rBin C (spEq X.K C) E0) := by
  obtain ⟨_, _, D, m⟩ := T.mEq
  exact op_eqO T.oc m (ok_eq T D) hr (D.binds fun _ _ _ _ _ _ us hl => match us, hl with | [_, _], _ => rfl) pass0
theorem op_gNotEq (T : Txt X.K X.mg C) (hr : Room 2 X.A) : OpR X (compareOp .NotEq) (rBinN C (spEq X.K C) E0) := by
  obtain ⟨_, _, D, m⟩ := T.mEq
  exact op_neO T.oc m (ok_eq T D) hr (D.binds fun _ _ _ _ _ _ us hl => match us, hl with | [_, _], _ => rfl) pass0
theorem op_gEqX (T : Txt X.K X.mg C) (hr : Room 1 X.A) : OpR X (compareOp .Eq) (rBinX X.K C (spEq X.K C) E0) := by
  obtain ⟨_, _, D, m⟩ := T.mEq
  exact op_eqX m (ok_eq T D) hr (D.binds fun _ _ _ _ _ _ us hl => match us, hl with | [_, _], _ => rfl) pass0
theorem call_gBool (T : Txt X.K X.mg C) (hr : Room 3 X.A) : CallR X (.type "bool") (rBoolO C (spB X.K C) E0) := by
  obtain ⟨_, _, D, m⟩ := T.mBool
  exact call_boolO m (ok_bool T D) hr (D.binds fun _ _ _ _ _ _ us hl => match us, hl with | [_], _ => rfl) pass0
theorem call_gLen (T : Txt X.K X.mg C) (hr : Room 2 X.A) : CallR X (.builtin "len") (rLenO C (spN X.K C) E0) := by
  obtain ⟨_, _, D, m⟩ := T.mLen
  exact call_lenO m (ok_len T D) hr (D.binds fun _ _ _ _ _ _ us hl => match us, hl with | [_], _ => rfl) pass0
end
end
end Pk

namespace Pk
open PySem L2 Ow
def B (n : Nat) (i : Int) : Prop := i.natAbs < 2 ^ n
theorem B.mono {n m : Nat} {i : Int} (h : B n i) (k : n ≤ m) : B m i := Nat.lt_of_lt_of_le h (Nat.pow_le_pow_right (by decide) k)
theorem B.mul {n m : Nat} {i j : Int} (h : B n i) (k : B m j) : B (n + m) (i * j) := wide_lt h k
theorem B.add {n : Nat} {i j : Int} (h : B n i) (k : B n j) : B (n + 1) (i + j) := by
  unfold B at *
  rw [Nat.pow_succ]
  omega
theorem B.sub {n : Nat} {i j : Int} (h : B n i) (k : B n j) : B (n + 1) (i - j) := by
  unfold B at *
  rw [Nat.pow_succ]
  omega
theorem B.neg {n : Nat} {i : Int} (h : B n i) : B n (-i) := by
  unfold B at *
  omega
theorem B.ok {n m : Nat} {i j : Int} (h : B n i) (k : B m j) (hn : 0 < n := by decide) (hm : 0 < m := by decide) (hs : n + m ≤ 1000000 := by decide) : CMulW i j := wide_mul h k hn hm hs
theorem B.lit {n : Nat} (i : Int) (h : i.natAbs < 2 ^ n := by decide) : B n i := h
/-- the draws' list -/
def BasAt (H : Hp) (p : Addr) : Prop := ∃ b0 b1 b2 : Int, H p = some (.lst [.int b0, .int b1, .int b2])
/-- all but p as it was -/
def But (p : Addr) (H H' : Hp) : Prop := ∀ q o, q ≠ p → H q = some o → H' q = some o
theorem But.refl {p : Addr} {H : Hp} : But p H H := fun _ _ _ h => h
theorem But.trans {p : Addr} {H H1 H2 : Hp} (a : But p H H1) (b : But p H1 H2) : But p H H2 := fun q o n h => b q o n (a q o n h)
theorem But.of_same {p : Addr} {H H1 : Hp} (a : Same H H1) : But p H H1 := fun q o _ h => a q o h
theorem But.seqT {K : PySem.W.Frag} {p t : Addr} {H H1 : Hp} {xs : List V} (a : But p H H1) (h : H t = some (.tup xs)) (n : t ≠ p) : H1 t = some (.tup xs) := a t _ n h
theorem fm {i n : Int} (h : 0 < n) : 0 ≤ i.fmod n ∧ i.fmod n < n := by
  rw [Int.fmod_eq_emod_of_nonneg i (Int.le_of_lt h)]
  exact ⟨Int.emod_nonneg i (by omega), Int.emod_lt_of_pos i h⟩
theorem em {i n : Int} (h : 0 < n) : 0 ≤ i % n ∧ i % n < n := ⟨Int.emod_nonneg i (by omega), Int.emod_lt_of_pos i h⟩
/-- the int at a slot -/
def mi (i : Nat) (σ : L2.St) : Int := match σ[i]? with
  | some (some (V.int f)) => f
  | _ => 0
/-- promises -/
def spBasin (K : PySem.W.Frag) : Sp := fun vs H Q _ => ∃ (sa : Addr) (at_ : Int) (ns : List Int), vs = [.ref sa, .int at_] ∧ SqL K H sa (ns.map V.int) ∧ 0 ≤ at_ ∧
  ∀ (p : Addr) (H' : Hp), Same H H' → H p = none → BasAt H' p → Q (.ref p) H'
def spScoop : Sp := fun vs H Q _ => ∃ (p : Addr) (n : Int), vs = [.ref p, .int n] ∧ 0 < n ∧ B 8000 n ∧ BasAt H p ∧ ∀ (r : Int) (H' : Hp), 0 ≤ r → r < n → But p H H' → BasAt H' p → Q (.int r) H'
def spOneOf : Sp := fun vs H Q _ => ∃ (p l : Addr) (xs : List V), vs = [.ref p, .ref l] ∧ BasAt H p ∧ H l = some (.lst xs) ∧ l ≠ p ∧ 0 < xs.length ∧ xs.length ≤ 1000 ∧
  ∀ (v : V) (H' : Hp), v ∈ xs → But p H H' → BasAt H' p → Q v H'
def spNumber : Sp := fun vs H Q _ => ∃ p : Addr, vs = [.ref p] ∧ BasAt H p ∧ ∀ (z : Int) (H' : Hp), B 197 z → But p H H' → BasAt H' p → Q (.int z) H'
section
variable {P : Program} {w : World} {K : PySem.W.Frag} {mg : Str → Option Value} {base : Heap} {C : Addr}
theorem cal_scoop (T : Txt K mg C) : Cal P w K mg base "_law_scoop" 1 spScoop := by
  refine T.d_l_scoop.cal (ps := ["_law_basin_here", "_law_total"]) (fun f fd D => ?_) (fun _ _ _ _ _ _ us hl => match us, hl with | [_, _], _ => rfl)
  refine D.ok sc_l_scoop (fun vs H Q E h => ?_) (fun cdv A outer s H vs Q E hr h => ?_)
  · obtain ⟨p, n, rfl, _⟩ := h
    rfl
  · obtain ⟨p, n, rfl, hn, bn, ⟨b0, b1, b2, hp⟩, k⟩ := h
    refine ⟨_, (pss_cons (ps_if (pt_cmpR op_gt (pe_ix ix_list (pv 0) pe_int (fun _ _ => rfl)) pe_int (nomark _)) (pss_cons (ps_set (i := 2) sc_l_scoop.nd rfl (Or.inl rfl) (pe_op op_modN (pe_callTy call_int1 (by rfl) T.b_int (by decide +kernel) (pa_cons (pe_ix ix_list (pv 0) pe_int (fun _ _ => rfl)) pa_nil)) (pv 1)))
      (pss_cons (ps_asg (pe_op op_fdivW (pe_ix ix_list (pv 0) pe_int (fun _ _ => rfl)) (pv 1)) (pg_sub (pv 0) pe_int set_list))
      (pss_one (ps_ret (pv 2))))) pss_nil)
      (pss_cons (ps_asg (pe_op op_add (pe_ix ix_list (pv 0) pe_int (fun _ _ => rfl)) pe_int) (pg_sub (pv 0) pe_int set_list))
      (pss_cons (ps_set (i := 3) sc_l_scoop.nd rfl (Or.inl rfl) (pe_op op_mod (pe_callTy call_int1 (by rfl) T.b_int (by decide +kernel) (pa_cons (pe_op op_add (pe_ix ix_list (pv 0) pe_int (fun _ _ => rfl)) (pe_op op_mul pe_int (pe_ix ix_list (pv 0) pe_int (fun _ _ => rfl)))) pa_nil)) pe_int))
      (pss_cons (ps_set (i := 4) sc_l_scoop.nd rfl (Or.inl rfl) (pe_op op_add (pe_op op_mulW (pe_op op_mod (pe_callTy call_int1 (by rfl) T.b_int (by decide +kernel) (pa_cons (pe_op op_mulW (pv 3) (pv 3)) pa_nil)) pe_int) (pv 3)) (pe_op op_mul pe_int (pe_ix ix_list (pv 0) pe_int (fun _ _ => rfl)))))
      (pss_one (ps_ret (pe_op op_modN (pe_callTy call_int1 (by rfl) T.b_int (by decide +kernel) (pa_cons (pe_op op_fdiv (pe_op op_mod (pe_callTy call_int1 (by rfl) T.b_int (by decide +kernel) (pa_cons (pv 4) pa_nil)) pe_int) pe_int) pa_nil)) (pv 1)))))))), ?_⟩
    refine ⟨_, rfl, _, _, _, _, rfl, rfl, .of hp, rfl, _, _, rfl, rfl, _, rfl, ite2 (fun hpos => ?_) (fun _ => ?_)⟩
    · refine ⟨_, rfl, _, _, _, _, rfl, rfl, .of hp, rfl, .inl ⟨_, rfl, _, rfl, _, _, rfl, rfl, (by omega), ?_⟩⟩
      refine ⟨_, rfl, _, _, _, _, rfl, rfl, .of hp, rfl, _, rfl, _, _, rfl, rfl, wide_div hn bn (by decide) (by decide), _, rfl, _, _, _, _, rfl, rfl, hp, rfl, ?_⟩
      refine ⟨_, rfl, k _ _ (fm hn).1 (fm hn).2 (fun q o hq e => ?_) ⟨_, _, _, upd_same⟩⟩
      rw [upd_ne hq]
      exact e
    · refine ⟨_, rfl, _, _, _, _, rfl, rfl, .of hp, rfl, _, _, rfl, rfl, _, rfl, _, _, _, _, rfl, rfl, hp, rfl, ?_⟩
      have hq : upd H p (.lst [.int b0, .int b1, .int (b2 + 1)]) p = some (.lst [.int b0, .int b1, .int (b2 + 1)]) := upd_same
      refine ⟨_, rfl, _, _, _, _, rfl, rfl, .of hq, rfl, _, rfl, _, _, _, _, rfl, rfl, .of hq, rfl, _, _, rfl, rfl, .inl ⟨by decide, by decide⟩, _, _, rfl, rfl, .inl ⟨_, rfl, _, _, rfl, rfl, show (0 : Int) < 2305843009213693951 by decide, ?_⟩⟩
      have b61 : ∀ i m : Int, 0 < m → m ≤ 2305843009213693951 → B 61 (i % m) := fun i m h0 h1 => by
        have := em (i := i) h0
        show (i % m).natAbs < 2 ^ 61
        omega
      have bo := b61 (b1 + 1000171 * (b2 + 1)) 2305843009213693951 (by decide) (by decide)
      refine ⟨_, rfl, _, rfl, _, _, rfl, rfl, bo.ok bo, .inl ⟨_, rfl, _, _, rfl, rfl, show (0 : Int) < 2305843009213693907 by decide, ?_⟩⟩
      refine ⟨_, rfl, _, _, rfl, rfl, (b61 _ _ (by decide) (by decide)).ok bo, _, rfl, _, _, _, _, rfl, rfl, .of hq, rfl, _, _, rfl, rfl, .inl ⟨by decide, by decide⟩, _, _, rfl, rfl, ?_⟩
      refine ⟨_, rfl, .inl ⟨_, rfl, _, _, rfl, rfl, show (0 : Int) < 2305843009213693921 by decide, _, _, rfl, rfl, ⟨by decide, by decide⟩, .inl ⟨_, rfl, _, rfl, _, _, rfl, rfl, (by omega), ?_⟩⟩⟩
      refine k _ _ (fm hn).1 (fm hn).2 (fun q o hq e => ?_) ⟨_, _, _, upd_same⟩
      rw [upd_ne hq]
      exact e
theorem cal_one_of (T : Txt K mg C) : Cal P w K mg base "_law_one_of" 2 spOneOf := by
  refine T.d_l_one_of.cal (ps := ["_law_basin_here", "_law_items"]) (fun f fd D => ?_) (fun _ _ _ _ _ _ us hl => match us, hl with | [_, _], _ => rfl)
  refine D.ok sc_l_one_of (fun vs H Q E h => ?_) (fun cdv A outer s H vs Q E hr h => ?_)
  · obtain ⟨p, l, xs, rfl, _⟩ := h
    rfl
  · obtain ⟨p, l, xs, rfl, hb, hl, ne, h0, h1, k⟩ := h
    refine ⟨_, (pss_one (ps_ret (pe_ix ix_list (pv 1) (pe_cal (cal_scoop T) (hr.mono (by decide)) (by rfl) (pa_cons (pv 0) (pa_cons (pe_callB call_len_seq (by rfl) T.b_len (by decide +kernel) (pa_cons (pv 1) pa_nil)) pa_nil))) (fun _ _ => rfl)))), ?_⟩
    refine ⟨_, rfl, _, rfl, _, rfl, _, _, rfl, .inl (.of hl), p, _, rfl, by omega, ?_, hb, fun r H1 r0 r1 same b1 => ?_⟩
    · show ((xs.length : Int)).natAbs < 2 ^ 8000
      exact Nat.lt_of_le_of_lt (show ((xs.length : Int)).natAbs ≤ 1000 by omega) (by decide)
    · have hi : r.toNat < xs.length := by omega
      refine ⟨_, _, _, _, rfl, rfl, .of (same _ _ ne hl), at_of (j := r.toNat) (by omega) (List.getElem?_eq_getElem hi), k _ _ (List.getElem_mem hi) same b1⟩
theorem cal_number (T : Txt K mg C) : Cal P w K mg base "_law_number" 3 spNumber := by
  refine T.d_l_number.cal (ps := ["_law_basin_here"]) (fun f fd D => ?_) (fun _ _ _ _ _ _ us hl => match us, hl with | [_], _ => rfl)
  refine D.ok sc_l_number (fun vs H Q E h => ?_) (fun cdv A outer s H vs Q E hr h => ?_)
  · obtain ⟨p, rfl, _⟩ := h
    rfl
  · obtain ⟨p, rfl, hb, k⟩ := h
    refine ⟨_, (pss_cons (ps_set (i := 1) sc_l_number.nd rfl (Or.inl rfl) (pe_cal (cal_one_of T) (hr.mono (by decide)) (by rfl) (pa_cons (pv 0) (pa_cons (pe_lst (pa_cons pe_int (pa_cons pe_int (pa_cons pe_int (pa_cons pe_int (pa_cons (pe_op op_pow pe_int pe_int) (pa_cons (pe_op op_pow pe_int pe_int) pa_nil))))))) pa_nil))))
      (pss_one (ps_ret (pe_op op_sub (pe_cal (cal_scoop T) (hr.mono (by decide)) (by rfl) (pa_cons (pv 0) (pa_cons (pe_op op_add (pe_op op_mul pe_int (pv 1)) pe_int) pa_nil))) (pv 1))))), ?_⟩
    refine ⟨_, rfl, _, _, rfl, rfl, ⟨by decide, by decide, by decide⟩, _, _, rfl, rfl, ⟨by decide, by decide, by decide⟩, show 6 ≤ sizeLine by decide, fun l nl => ?_⟩
    obtain ⟨b0, b1, b2, hp⟩ := id hb
    have ne : l ≠ p := fun q => by rw [q, hp] at nl; cases nl
    refine ⟨p, l, _, rfl, ⟨_, _, _, (upd_ne ne.symm).trans hp⟩, upd_same, ne, (by show 0 < 6; decide), (by show 6 ≤ 1000; decide), fun v H1 hv same bb => ?_⟩
    have hm : ∃ m : Int, v = .int m ∧ 1 ≤ m ∧ m ≤ 10 ^ 59 := by
      simp only [List.mem_cons, List.not_mem_nil, or_false] at hv
      rcases hv with rfl | rfl | rfl | rfl | rfl | rfl
      all_goals exact ⟨_, rfl, by decide, by decide⟩
    obtain ⟨m, rfl, m1, m2⟩ := hm
    refine ⟨_, rfl, _, rfl, _, _, rfl, rfl, .inl ⟨by decide, by decide⟩, _, _, rfl, rfl, p, _, rfl, by omega, ?_, bb, fun r H2 r0 r1 same2 bb2 => ?_⟩
    · show (2 * m + 1).natAbs < 2 ^ 8000
      exact Nat.lt_of_le_of_lt (show (2 * m + 1).natAbs ≤ 2 * 10 ^ 59 + 1 by omega) (by decide)
    · refine ⟨_, rfl, _, _, rfl, rfl, k _ _ ?_ (fun q o hq e => same2 q o hq (same q o hq ?_)) bb2⟩
      · show (r - m).natAbs < 2 ^ 197
        have : (10 : Nat) ^ 59 < 2 ^ 197 := by decide
        omega
      · rw [upd_ne (ne_of_none e nl)]
        exact e
theorem cal_basin (T : Txt K mg C) : Cal P w K mg base "_law_basin" 1 (spBasin K) := by
  refine T.d_l_basin.cal (ps := ["_law_script", "_law_at"]) (fun f fd D => ?_) (fun _ _ _ _ _ _ us hl => match us, hl with | [_, _], _ => rfl)
  refine D.ok sc_l_basin (fun vs H Q E h => ?_) (fun cdv A outer s H vs Q E hr h => ?_)
  · obtain ⟨p, n, ns, rfl, _⟩ := h
    rfl
  · obtain ⟨sa, z, ns, rfl, hs, hz, k⟩ := h
    refine ⟨_, (pss_cons (ps_set (i := 2) sc_l_basin.nd rfl (Or.inl rfl) (pe_ifExp (pt_cmpR op_lt (pv 1) (pe_callB call_len_seq (by rfl) T.b_len (by decide +kernel) (pa_cons (pv 0) pa_nil)) (nomark _)) (pe_callTy call_int1 (by rfl) T.b_int (by decide +kernel) (pa_cons (pe_ix ix_list (pv 0) (pv 1) (fun _ _ => rfl)) pa_nil)) (pe_op op_add (pe_op op_mul pe_int (pv 1)) pe_int)))
      (pss_cons (ps_set (i := 3) sc_l_basin.nd rfl (Or.inl rfl) (pe_op op_modN (pe_callTy call_int1 (by rfl) T.b_int (by decide +kernel) (pa_cons (pe_callB call_abs (by rfl) T.b_abs (by decide +kernel) (pa_cons (pv 2) pa_nil)) pa_nil)) (pe_op op_powW (pe_op op_pow pe_int pe_int) pe_int)))
      (pss_cons (ps_set (i := 4) sc_l_basin.nd rfl (Or.inl rfl) (pe_op op_add (pe_op op_add (pe_op op_add (pe_op op_mul (pe_op op_mod (pe_callTy call_int1 (by rfl) T.b_int (by decide +kernel) (pa_cons (pv 3) pa_nil)) pe_int) pe_int) (pe_op op_mul pe_int (pv 1))) (pe_op op_mul pe_int (pe_callTy call_int1 (by rfl) T.b_int (by decide +kernel) (pa_cons (pe_cmpR op_lt (pv 2) pe_int (nomark _)) pa_nil)))) pe_int))
      (pss_one (ps_ret (pe_lst (pa_cons (pe_callB (call_max2 rfl) (by rfl) T.b_max (by decide +kernel) (pa_cons pe_int (pa_cons (pe_op op_add (pe_op op_sub (pv 3) (pe_op op_pow pe_int pe_int)) pe_int) pa_nil))) (pa_cons (pe_op op_mod (pe_callTy call_int1 (by rfl) T.b_int (by decide +kernel) (pa_cons (pv 4) pa_nil)) pe_int) (pa_cons pe_int pa_nil))))))))), ?_⟩
    have hP : CPowW ((10 : Int) ^ (57 : Int).toNat) 8 := ⟨by decide, by decide +kernel⟩
    have hQ : ((10 : Int) ^ (57 : Int).toNat) ^ (8 : Int).toNat ≠ 0 := by decide +kernel
    refine ⟨_, rfl, _, rfl, _, _, rfl, .inl hs, _, _, rfl, rfl, _, rfl, ite2 (fun h => ?_) (fun h => ?_)⟩
    · have hlt : z < ((ns.map V.int).length : Int) := of_decide_eq_true h
      rw [List.length_map] at hlt
      have hi : z.toNat < ns.length := by omega
      have hget : atI (ns.map V.int) z = some (.int ns[z.toNat]) := at_of (j := z.toNat) (by omega) (by rw [List.getElem?_map, List.getElem?_eq_getElem hi]; rfl)
      refine ⟨_, rfl, _, rfl, _, _, _, _, rfl, rfl, hs, hget, .inl ⟨_, rfl, ?_⟩⟩
      refine ⟨_, rfl, _, rfl, .inl ⟨_, rfl, _, _, rfl, rfl, ⟨by decide, by decide, by decide⟩, _, _, rfl, rfl, hP, _, _, rfl, rfl, hQ, ?_⟩⟩
      refine ⟨_, rfl, .inl ⟨_, rfl, _, _, rfl, rfl, show (0 : Int) < 1152921504606846869 by decide, _, _, rfl, rfl, .inr ⟨by decide, by decide⟩, _, rfl, _, _, rfl, rfl, .inl ⟨by decide, by decide⟩, _, _, rfl, rfl, _, rfl, _, _, rfl, rfl, .inr ⟨_, rfl, _, _, rfl, rfl, .inl ⟨by decide, by decide⟩, _, _, rfl, rfl, _, _, rfl, rfl, ?_⟩⟩⟩
      refine ⟨_, rfl, _, _, rfl, rfl, ⟨by decide, by decide, by decide⟩, _, _, rfl, rfl, _, _, rfl, rfl, _, _, rfl, _, rfl, .inl ⟨_, rfl, _, _, rfl, rfl, show (0 : Int) < 2305843009213693951 by decide, show 3 ≤ sizeLine by decide, fun p np => ?_⟩⟩
      exact k p _ (fun q o e => by rw [upd_ne (ne_of_none e np)]; exact e) np ⟨_, _, _, upd_same⟩
    · refine ⟨_, rfl, _, _, rfl, rfl, .inl ⟨by decide, by decide⟩, _, _, rfl, rfl, ?_⟩
      refine ⟨_, rfl, _, rfl, .inl ⟨_, rfl, _, _, rfl, rfl, ⟨by decide, by decide, by decide⟩, _, _, rfl, rfl, hP, _, _, rfl, rfl, hQ, ?_⟩⟩
      refine ⟨_, rfl, .inl ⟨_, rfl, _, _, rfl, rfl, show (0 : Int) < 1152921504606846869 by decide, _, _, rfl, rfl, .inr ⟨by decide, by decide⟩, _, rfl, _, _, rfl, rfl, .inl ⟨by decide, by decide⟩, _, _, rfl, rfl, _, rfl, _, _, rfl, rfl, .inr ⟨_, rfl, _, _, rfl, rfl, .inl ⟨by decide, by decide⟩, _, _, rfl, rfl, _, _, rfl, rfl, ?_⟩⟩⟩
      refine ⟨_, rfl, _, _, rfl, rfl, ⟨by decide, by decide, by decide⟩, _, _, rfl, rfl, _, _, rfl, rfl, _, _, rfl, _, rfl, .inl ⟨_, rfl, _, _, rfl, rfl, show (0 : Int) < 2305843009213693951 by decide, show 3 ≤ sizeLine by decide, fun p np => ?_⟩⟩
      exact k p _ (fun q o e => by rw [upd_ne (ne_of_none e np)]; exact e) np ⟨_, _, _, upd_same⟩
end
end Pk

namespace Pk
open PySem L2 Ow
theorem But.sqT {K : PySem.W.Frag} {p a : Addr} {H H' : Hp} {xs acc : List V} (o : But p H H') (hp : H p = some (.lst acc)) (h : SqT K H a xs) : SqT K H' a xs := by
  have ne : ∀ u, H a = some u → u ≠ .lst acc → a ≠ p := fun u e d z => d (by rw [z, hp] at e; exact (Option.some.inj e).symm)
  rcases h with (h | ⟨u, h⟩) | h
  · exact .inl (.inl (o a _ (ne _ h (fun z => nomatch z)) h))
  · exact .inl (.inr ⟨u, o a _ (ne _ h (fun z => nomatch z)) h⟩)
  · exact .inr h
theorem BasAt.same {H H' : Hp} {p : Addr} (b : BasAt H p) (s : Same H H') : BasAt H' p := b.elim fun b0 ⟨b1, b2, e⟩ => ⟨b0, b1, b2, s _ _ e⟩
theorem bas_ne {H : Hp} {p q : Addr} (b : BasAt H p) (n : H q = none) : q ≠ p := fun e => by
  obtain ⟨_, _, _, h⟩ := b
  rw [e, h] at n
  cases n
theorem BasAt.but {H H' : Hp} {p D : Addr} (b : BasAt H p) (o : But D H H') (n : p ≠ D) : BasAt H' p := b.elim fun b0 ⟨b1, b2, e⟩ => ⟨b0, b1, b2, o _ _ n e⟩
def okC (c : Int) : Prop := c.natAbs < 2 ^ 197
theorem okC.rng {c : Int} (h : okC c) : 1 - 10 ^ 60 ≤ c ∧ c ≤ 10 ^ 60 - 1 := by
  unfold okC at h
  have : (2 : Nat) ^ 197 ≤ 10 ^ 60 - 1 := by decide
  omega
def spDrawn (K : PySem.W.Frag) : Sp := fun vs H Q _ => ∃ p : Addr, vs = [.ref p] ∧ BasAt H p ∧ ∀ (z : V) (cs : List Int) (lo : Int) (H' : Hp), But p H H' → BasAt H' p → PairAt K H' z cs lo → cs.length ≤ 9 → (∀ c ∈ cs, okC c) → -400 ≤ lo → lo ≤ 391 → Q z H'
section
variable {P : Program} {w : World} {K : PySem.W.Frag} {mg : Str → Option Value} {base : Heap} {C : Addr}
theorem cal_drawn_poly (T : Txt K mg C) : Cal P w K mg base "_law_drawn_poly" 4 (spDrawn K) := by
  refine T.d_l_drawn_poly.cal (ps := ["_law_basin_here"]) (fun f fd D => ?_) (fun _ _ _ _ _ _ us hl => match us, hl with | [_], _ => rfl)
  refine D.ok sc_l_drawn_poly (fun vs H Q E h => ?_) (fun cdv A outer s H vs Q E hr h => ?_)
  · obtain ⟨p, rfl, _⟩ := h
    rfl
  · obtain ⟨p, rfl, hb, k⟩ := h
    refine ⟨_, (pss_cons (ps_set (i := 1) sc_l_drawn_poly.nd rfl (Or.inl rfl) (pe_lst pa_nil))
      (pss_cons (ps_for PassesOwn.never rfl (pi_range1 (by rfl) T.b_range (pa_cons (pe_cal (cal_one_of T) (hr.mono (by decide)) (by rfl) (pa_cons (pv 0) (pa_cons (pe_lst (pa_cons pe_int (pa_cons pe_int (pa_cons pe_int (pa_cons pe_int (pa_cons pe_int (pa_cons pe_int pa_nil))))))) pa_nil))) pa_nil)) (pg_name (i := 2) sc_l_drawn_poly.nd rfl (Or.inl rfl)) (pss_one (ps_expr (pe_bm PySem.F.plainAttrs_list PySem.F.slot_list_append PySem.F.type_list_append mt_append (pv 1) (pa_cons (pe_ifExp (pt_cmpR op_gt (pe_cal (cal_scoop T) (hr.mono (by decide)) (by rfl) (pa_cons (pv 0) (pa_cons pe_int pa_nil))) pe_int (nomark _)) (pe_cal (cal_number T) (hr.mono (by decide)) (by rfl) (pa_cons (pv 0) pa_nil)) pe_int) pa_nil)))))
      (pss_one (ps_ret (pe_tup (pa_cons (pe_callTy call_tuple_of (by rfl) T.b_tuple (by decide +kernel) (pa_cons (pv 1) pa_nil)) (pa_cons (pe_cal (cal_one_of T) (hr.mono (by decide)) (by rfl) (pa_cons (pv 0) (pa_cons (pe_lst (pa_cons pe_int (pa_cons pe_int (pa_cons pe_int (pa_cons pe_int (pa_cons (pe_un un_neg pe_int) (pa_cons (pe_un un_neg pe_int) (pa_cons pe_int (pa_cons (pe_un un_neg pe_int) (pa_cons pe_int pa_nil)))))))))) pa_nil))) pa_nil))))))), ?_⟩
    refine ⟨Nat.zero_le _, fun l nl => ?_⟩
    have b1 := hb.same (same_new (o := .lst []) nl)
    have nlp := bas_ne hb nl
    have hl1 : (upd H l (.lst [])) l = some (.lst []) := upd_same
    refine ⟨_, rfl, show 6 ≤ sizeLine by decide, fun m nm => ?_⟩
    have b2 := b1.same (same_new (o := .lst [.int 0, .int 1, .int 2, .int 3, .int 5, .int 9]) nm)
    refine ⟨p, m, _, rfl, b2, upd_same, bas_ne b1 nm, (by show 0 < 6; decide), (by show 6 ≤ 1000; decide), fun v H1 hv o1 b3 => ?_⟩
    obtain ⟨n, rfl, n0, n9⟩ : ∃ n : Int, v = .int n ∧ 0 ≤ n ∧ n ≤ 9 := by
      simp only [List.mem_cons, List.not_mem_nil, or_false] at hv
      rcases hv with rfl | rfl | rfl | rfl | rfl | rfl
      all_goals exact ⟨_, rfl, by decide, by decide⟩
    have hl2 := same_new (o := .lst [.int 0, .int 1, .int 2, .int 3, .int 5, .int 9]) nm _ _ hl1
    have hl3 := o1 _ _ nlp hl2
    have B1 : But p H H1 := (But.of_same ((same_new nl).trans (same_new nm))).trans o1
    have nlH : ∀ z, H l ≠ some z := fun z e => by rw [nl] at e; cases e
    refine ⟨_, rfl, by omega, by omega, for_range (lo := 0) (n := n.toNat) (fun i σ H' => ∃ (cs : List Int) (v2 : Option V), σ = [some (.ref p), some (.ref l), v2] ∧ But p H H' ∧ BasAt H' p ∧ H' l = some (.lst (cs.map V.int)) ∧ cs.length = i ∧ ∀ c ∈ cs, okC c) ?_ ?_ ?_⟩
    · exact ⟨[], none, rfl, B1, b3, hl3, rfl, fun c m => nomatch m⟩
    · rintro i σ H2 hi ⟨cs, v2, rfl, o2, b4, hl4, hlen, hok⟩
      refine ⟨_, rfl, .inl ⟨rfl, _, .of hl4⟩, ?_⟩
      refine ⟨_, rfl, p, 3, rfl, by decide, B.lit 3, b4, fun r H3 r0 r1 o3 b5 => ⟨_, _, rfl, rfl, _, rfl, ?_⟩⟩
      have hl5 := o3 _ _ nlp hl4
      have push : ∀ (z : Int) (H4 : Hp), okC z → But p H3 H4 → BasAt H4 p → ∃ (cs' : List Int) (v2 : Option V), [some (V.ref p), some (V.ref l), some (V.int (0 + (i : Int)))] = [some (.ref p), some (.ref l), v2] ∧ But p H (upd H4 l (.lst (cs.map V.int ++ [.int z]))) ∧ BasAt (upd H4 l (.lst (cs.map V.int ++ [.int z]))) p ∧ (upd H4 l (.lst (cs.map V.int ++ [.int z]))) l = some (.lst (cs'.map V.int)) ∧ cs'.length = i + 1 ∧ ∀ c ∈ cs', okC c := fun z H4 hz o4 b6 => by
        refine ⟨cs ++ [z], _, rfl, fun u w hu hw => ?_, b6.but (D := l) (fun u w hu hw => by rw [upd_ne hu]; exact hw) nlp.symm, by rw [upd_same, List.map_append]; rfl, by rw [List.length_append, hlen]; rfl, fun c m => ?_⟩
        · rw [upd_ne (fun e => nlH w (by rw [← e]; exact hw))]
          exact o4 _ _ hu (o3 _ _ hu (o2 _ _ hu hw))
        · rcases List.mem_append.mp m with m | m
          · exact hok c m
          · obtain rfl := List.mem_singleton.mp m
            exact hz
      refine ite2 (fun _ => ?_) (fun _ => ?_)
      · refine ⟨_, rfl, p, rfl, b5, fun z H4 hz o4 b6 => ?_⟩
        refine ⟨l, _, _, rfl, rfl, o4 _ _ nlp hl5, small1000 (by rw [List.length_map]; omega), push z H4 hz o4 b6⟩
      · exact ⟨l, _, _, rfl, rfl, hl5, small1000 (by rw [List.length_map]; omega), push 0 H3 (by unfold okC; decide) .refl b5⟩
    · rintro σ H2 ⟨cs, v2, rfl, o2, b4, hl4, hlen, hok⟩
      refine ⟨_, rfl, _, _, rfl, .inl ⟨.of hl4, fun t nt => ?_⟩⟩
      have b5 := b4.same (same_new (o := .tup (cs.map V.int)) nt)
      refine ⟨_, rfl, _, rfl, _, rfl, _, rfl, show 9 ≤ sizeLine by decide, fun m2 nm2 => ?_⟩
      have s6 := same_new (o := .lst [.int 0, .int 0, .int 0, .int 1, .int (-1), .int (-3), .int 7, .int (-400), .int 391]) nm2
      have b6 := b5.same s6
      refine ⟨p, m2, _, rfl, b6, upd_same, bas_ne b5 nm2, (by show 0 < 9; decide), (by show 9 ≤ 1000; decide), fun v H3 hv o3 b7 => ⟨show 2 ≤ sizeLine by decide, fun u nu => ?_⟩⟩
      obtain ⟨lo, rfl, l0, l1⟩ : ∃ lo : Int, v = .int lo ∧ -400 ≤ lo ∧ lo ≤ 391 := by
        simp only [List.mem_cons, List.not_mem_nil, or_false] at hv
        rcases hv with rfl | rfl | rfl | rfl | rfl | rfl | rfl | rfl | rfl
        all_goals exact ⟨_, rfl, by decide, by decide⟩
      obtain ⟨c0, c1, c2, ep⟩ := b6
      have st : SqT K H3 t (cs.map V.int) := o3.sqT ep (sqT_same s6 (.of upd_same))
      have su := same_new (o := .tup [.ref t, .int lo]) nu
      refine k _ cs lo _ (((o2.trans (.of_same ((same_new nt).trans s6))).trans o3).trans (.of_same su)) (b7.same su) ⟨u, .ref t, rfl, .of upd_same, t, rfl, sqT_same su st⟩ (by omega) hok l0 l1
end
end Pk

namespace Pk
open PySem L2 Ow RT
theorem prod_val (a b : List Int) (s x : Int) : rval (prodL a b) s x = rval (mulL a b) s x := by
  unfold prodL
  split
  · rename_i h
    unfold rval
    rw [cf_nil]
    rcases h with rfl | rfl
    · rw [mulL, cf_nil]
    · rw [cf_mulL_nil]
  · rfl
theorem prod_len (a b : List Int) : (prodL a b).length ≤ a.length + b.length := by
  unfold prodL
  split
  · exact Nat.zero_le _
  · exact len_mulL_le a b
theorem prod_bd {a b : List Int} {wa wb k : Nat} (ha : ∀ c ∈ a, c.natAbs < 2 ^ wa) (hb : ∀ c ∈ b, c.natAbs < 2 ^ wb) (hk : min a.length b.length ≤ 2 ^ k) : ∀ c ∈ prodL a b, c.natAbs < 2 ^ (wa + wb + k) := fun c m => by
  unfold prodL at m
  split at m
  · cases m
  · obtain ⟨i, e⟩ := cf_get m
    rw [← e]
    exact mulL_bd ha hb hk i
theorem Tr.rw {cs c : List Int} {lo l : Int} {n w : Nat} (t : Tr cs lo c l) (h : Rw n w cs) : Rw n w c := ⟨Nat.le_trans t.2.2.1 h.len, fun x m => h.bd x (t.2.2.2 x m)⟩
theorem ev_bdx {x : Int} {B W : Nat} (hx : x.natAbs < 2 ^ B) : ∀ {cs : List Int}, (∀ c ∈ cs, c.natAbs < 2 ^ W) → (ev x cs).natAbs < 2 ^ (W + (B + 1) * cs.length)
  | [], _ => Nat.pow_pos (by decide)
  | c :: cs, h => by
    have ih := ev_bdx hx (cs := cs) fun y m => h y (List.mem_cons_of_mem _ m)
    have hc := h c List.mem_cons_self
    have e1 : (x * ev x cs).natAbs < 2 ^ (B + (W + (B + 1) * cs.length)) := wide_lt hx ih
    have e2 : 2 ^ (W + (B + 1) * (c :: cs).length) = 2 * 2 ^ (B + (W + (B + 1) * cs.length)) := by
      rw [List.length_cons, Nat.mul_succ, show W + ((B + 1) * cs.length + (B + 1)) = (B + (W + (B + 1) * cs.length)) + 1 by omega, Nat.pow_succ, Nat.mul_comm]
    have e3 : 2 ^ W ≤ 2 ^ (B + (W + (B + 1) * cs.length)) := Nat.pow_le_pow_right (by decide) (by omega)
    have e4 := Int.natAbs_add_le c (x * ev x cs)
    rw [e2, ev]
    omega
/-- a number's binary digits so far -/
def stB (n i : Nat) : Nat := if i = 0 then 0 else if n ≤ 1 then n else if i = 1 then 1 else n
theorem trim_one : Trim [1] 0 := .inr ⟨by simp, by simp, by simp⟩
theorem binS_size {n : Nat} (h : n ≤ 3) : stB n (binS n).cps.size = n ∧ (binS n).cps.size ≤ 2 := by
  match n, h with
  | 0, _ => decide +kernel
  | 1, _ => decide +kernel
  | 2, _ => decide +kernel
  | 3, _ => decide +kernel
  | n + 4, h => omega
theorem binS_step {n j c : Nat} (h : n ≤ 3) (hc : (binS n).cps[j]? = some c) : stB n j ≤ 1 ∧ ((c = 49 ∧ stB n (j + 1) = 2 * stB n j + 1) ∨ (c = 48 ∧ stB n (j + 1) = 2 * stB n j)) := by
  have hs := (binS_size h).2
  have hj : j < (binS n).cps.size := (Array.getElem?_eq_some_iff.mp hc).1
  match n, h, j, hj, hc with
  | 0, _, 0, _, hc => exact ⟨by decide, .inr ⟨(Option.some.inj hc).symm, by decide⟩⟩
  | 0, _, j + 1, hj, _ => exact absurd hj (by show ¬ j + 1 < 1; omega)
  | 1, _, 0, _, hc => exact ⟨by decide, .inl ⟨(Option.some.inj hc).symm, by decide⟩⟩
  | 1, _, j + 1, hj, _ => exact absurd hj (by show ¬ j + 1 < 1; omega)
  | 2, _, 0, _, hc => exact ⟨by decide, .inl ⟨(Option.some.inj hc).symm, by decide⟩⟩
  | 2, _, 1, _, hc => exact ⟨by decide, .inr ⟨(Option.some.inj hc).symm, by decide⟩⟩
  | 2, _, j + 2, hj, _ => exact absurd hj (by show ¬ j + 2 < 2; omega)
  | 3, _, 0, _, hc => exact ⟨by decide, .inl ⟨(Option.some.inj hc).symm, by decide⟩⟩
  | 3, _, 1, _, hc => exact ⟨by decide, .inl ⟨(Option.some.inj hc).symm, by decide⟩⟩
  | 3, _, j + 2, hj, _ => exact absurd hj (by show ¬ j + 2 < 2; omega)
  | n + 4, h, _, _, _ => omega
theorem stB_zero (n : Nat) : stB n 0 = 0 := rfl
/-- the row of a power below 2 -/
theorem pow_small {c a : List Int} {l lo : Int} {e : Nat} (he : e ≤ 1) (tc : Trim c l) (ta : Trim a lo) (ra : Rw 9 197 a) (h : ∀ x, rval c l x = powF a lo e x) : Rw 9 197 c ∧ ∀ x, rval (mulL c c) (l + l) x = powF a lo (2 * e) x := by
  match e, he with
  | 0, _ =>
    have h0 : ∀ x, rval c l x = rval [1] 0 x := fun x => (h x).trans (powF_zero a lo x)
    obtain ⟨rfl, rfl⟩ := trim_eq tc trim_one h0
    refine ⟨⟨by decide, fun c m => by rw [List.mem_singleton.mp m]; decide⟩, fun x => ?_⟩
    rw [one_mul_val, powF_zero]
  | 1, _ =>
    have h0 : ∀ x, rval c l x = rval a lo x := fun x => (h x).trans (powF_one a lo x)
    obtain ⟨rfl, rfl⟩ := trim_eq tc ta h0
    exact ⟨ra, fun x => powF_two (fun _ => rfl) x⟩
def spPower : Sp := fun vs H Q _ => ∃ i : Int, vs = [.int i, .int 0] ∧ Q (.int 1) H
def spRaised (K : PySem.W.Frag) (C : Addr) : Sp := fun vs H Q _ => ∃ (r : Addr) (a : List Int) (lo : Int) (n : Nat), vs = [.ref r, .int n] ∧ n ≤ 3 ∧ PolyAt K C H r a lo ∧ Trim a lo ∧ Rw 9 197 a ∧ ∀ (c : List Int) (l : Int), Trim c l → (∀ x, rval c l x = powF a lo n x) → ∀ (m : Addr) (H' : Hp), Same H H' → PolyAt K C H' m c l → Q (.ref m) H'
def spValue (K : PySem.W.Frag) (C : Addr) : Sp := fun vs H Q _ => ∃ (r : Addr) (a : List Int) (x : Int), vs = [.ref r, .int x] ∧ x.natAbs < 2 ^ 70 ∧ PolyAt K C H r a 0 ∧ Rw 9 197 a ∧ ∀ H', Same H H' → Q (.int (ev x a)) H'
section
variable {P : Program} {w : World} {K : PySem.W.Frag} {mg : Str → Option Value} {base : Heap} {C : Addr}
theorem cal_power (T : Txt K mg C) : Cal P w K mg base "power" 1 spPower := by
  refine T.d_power.cal (ps := ["number", "many"]) (fun f fd D => ?_) (fun _ _ _ _ _ _ us hl => match us, hl with | [_, _], _ => rfl)
  refine D.ok sc_power (fun vs H Q E h => ?_) (fun cdv A outer s H vs Q E hr h => ?_)
  · obtain ⟨i, rfl, _⟩ := h
    rfl
  · obtain ⟨i, rfl, q⟩ := h
    refine ⟨_, (pss_cons (ps_set (i := 2) sc_power.nd rfl (Or.inl rfl) pe_int)
      (pss_cons (ps_for PassesOwn.never rfl (pi_str (pe_joined1 (pe_fmtB (pv 1)))) (pg_name (i := 3) sc_power.nd rfl (Or.inl rfl)) (pss_cons (ps_set (i := 2) sc_power.nd rfl (Or.inl rfl) (pe_op op_mulW (pv 2) (pv 2)))
      (pss_one (ps_if (pt_cmpR op_eq (pv 3) pe_str (nomark _)) (pss_one (ps_set (i := 2) sc_power.nd rfl (Or.inl rfl) (pe_op op_mulW (pv 2) (pv 0)))) pss_nil))))
      (pss_one (ps_ret (pv 2))))), ?_⟩
    refine ⟨_, rfl, 0, by decide, rfl, _, rfl, for_it walk_str (fun j σ H' => H' = H ∧ ∃ v3, σ = [some (.int i), some (.int 0), some (.int 1), v3]) ⟨rfl, none, rfl⟩ (fun _ _ _ _ _ => True.intro) ?_ ?_⟩
    · rintro j x σ H2 H3 hj ⟨rfl, v3, rfl⟩ ⟨rfl, c, hc, rfl⟩
      have hj1 : j < 1 := hj
      obtain rfl : j = 0 := by omega
      have e : c = 48 := (Option.some.inj hc).symm
      subst e
      refine ⟨_, rfl, _, rfl, _, _, rfl, rfl, wide_mul (a := 2) (b := 2) (by decide) (by decide) (by decide) (by decide) (by decide), ?_⟩
      refine ⟨_, rfl, rfl, _, rfl, ite2 (fun h => ?_) (fun _ => ⟨rfl, _, rfl⟩)⟩
      exact absurd h (by decide +kernel)
    · rintro σ H2 ⟨rfl, v3, rfl⟩
      exact ⟨_, rfl, q⟩
theorem ok_raised (T : Txt K mg C) {f : Addr} {fd : FuncData} (D : Fun K "raised" "Poly.raised" s_raised f fd) : FnOk P w K mg base CX0 15 f fd ["self", "many"] (spRaised K C) := by
  refine D.ok sc_raised (fun vs H Q E h => ?_) (fun cdv A outer s H vs Q E hr h => ?_)
  · obtain ⟨r, a, lo, n, rfl, _⟩ := h
    rfl
  · obtain ⟨r, a, lo, n, rfl, hn, pr, tra, ra, q⟩ := h
    refine ⟨_, (pss_cons (ps_if (pt_not (pt_val (pe_cal (cal_is_within T) (hr.mono (by decide)) (by rfl) (pa_cons (pv 1) (pa_cons pe_int (pa_cons (C8.pe_gc (v := .int 40) (by rfl) T.gMR) pa_nil)))))) (pss_one ps_never) pss_nil)
      (pss_cons (ps_set (i := 2) sc_raised.nd rfl (Or.inl rfl) (pe_poly T (hr.mono (by decide)) (by rfl) (pa_cons (pe_tup (pa_cons pe_int pa_nil)) pa_nil)))
      (pss_cons (ps_for PassesOwn.never rfl (pi_str (pe_joined1 (pe_fmtB (pv 1)))) (pg_name (i := 3) sc_raised.nd rfl (Or.inl rfl)) (pss_cons (ps_set (i := 2) sc_raised.nd rfl (Or.inl rfl) (pe_op (op_gMult T (hr.mono (by decide))) (pv 2) (pv 2)))
      (pss_one (ps_if (pt_cmpR op_eq (pv 3) pe_str (nomark _)) (pss_one (ps_set (i := 2) sc_raised.nd rfl (Or.inl rfl) (pe_op (op_gMult T (hr.mono (by decide))) (pv 2) (pv 0)))) pss_nil))))
      (pss_one (ps_ret (pv 2)))))), ?_⟩
    refine ⟨_, rfl, _, _, _, rfl, _, rfl, iteNT' (by rw [decide_eq_true (show (0 : Int) ≤ (n : Int) by omega), decide_eq_true (show (n : Int) ≤ 40 by omega)]; rfl) ?_⟩
    refine ⟨show 1 ≤ sizeLine by decide, fun t nt => ⟨.ref t, [1], 0, .inr ⟨rfl, rfl⟩, ⟨t, rfl, .of upd_same⟩, by decide, fun c m => by rw [List.mem_singleton.mp m]; decide, by decide, by decide, fun a1 l1 t1 m H1 s1 n1 p1 => ?_⟩⟩
    have S1 := (same_new (o := .tup [V.int 1]) nt).trans s1
    refine ⟨_, rfl, n, hn, rfl, _, rfl, for_it walk_str (fun j σ H' => ∃ (m : Addr) (c : List Int) (l : Int) (v3 : Option V), σ = [some (.ref r), some (.int n), some (.ref m), v3] ∧ Same H H' ∧ PolyAt K C H' m c l ∧ Trim c l ∧ ∀ x, rval c l x = powF a lo (stB n j) x) ⟨m, a1, l1, none, rfl, S1, p1, t1.1, fun x => (t1.2.1 x).trans (powF_zero a lo x).symm⟩ (fun _ _ _ _ _ => True.intro) ?_ ?_⟩
    · rintro j x σ H2 H3 hj ⟨m, c, l, v3, rfl, S2, pm, tc, hF⟩ ⟨rfl, d, hd, rfl⟩
      obtain ⟨e1, st⟩ := binS_step hn hd
      obtain ⟨rc, sq⟩ := pow_small e1 tc tra ra hF
      obtain ⟨dx, kv, g, ht⟩ := id pm
      refine ⟨_, rfl, _, rfl, m, m, dx, _, dx, _, rfl, rfl, g, g, m, m, c, c, l, l, rfl, pm, pm, ⟨9, 9, 197, 197, rc, rc, by decide, by decide, by decide, by decide, by decide, by decide⟩, by have := rc.len; omega, fun c2 l2 t2 m2 H4 s4 n4 p4 => ?_⟩
      have h2 : ∀ x, rval c2 l2 x = powF a lo (2 * stB n j) x := fun x => (t2.2.1 x).trans ((prod_val c c _ x).trans (sq x))
      have r2 : Rw 18 398 c2 := t2.rw ⟨by have := prod_len c c; have := rc.len; omega, prod_bd rc.bd rc.bd (k := 4) (by have := rc.len; omega)⟩
      have S4 := S2.trans s4
      rcases st with ⟨rfl, st⟩ | ⟨rfl, st⟩
      · refine ⟨_, rfl, rfl, _, rfl, ite2 (fun _ => ?_) (fun z => absurd (by decide +kernel) z)⟩
        obtain ⟨dy, ku, g2, ht2⟩ := id p4
        have pr4 := pr.same S4
        obtain ⟨dz, kw, g3, ht3⟩ := id pr4
        refine ⟨_, rfl, _, rfl, m2, r, dy, _, dz, _, rfl, rfl, g2, g3, m2, r, c2, a, l2, lo, rfl, p4, pr4, ⟨18, 9, 398, 197, r2, ra, by decide, by decide, by decide, by decide, by decide, by decide⟩, by have := r2.len; have := ra.len; omega, fun c3 l3 t3 m3 H5 s5 n5 p5 => ?_⟩
        refine ⟨m3, c3, l3, _, rfl, S4.trans s5, p5, t3.1, fun x => ?_⟩
        rw [st, ← powF_succ h2, t3.2.1, prod_val]
      · refine ⟨_, rfl, rfl, _, rfl, ite2 (fun z => absurd z (by decide +kernel)) (fun _ => ?_)⟩
        exact ⟨m2, c2, l2, _, rfl, S4, p4, t2.1, fun x => by rw [st]; exact h2 x⟩
    · rintro σ H2 ⟨m, c, l, v3, rfl, S2, pm, tc, hF⟩
      rw [(binS_size hn).1] at hF
      exact ⟨_, rfl, q c l tc hF m H2 S2 pm⟩
theorem ok_value_at (T : Txt K mg C) {f : Addr} {fd : FuncData} (D : Fun K "value_at" "Poly.value_at" s_value_at f fd) : FnOk P w K mg base CX0 3 f fd ["self", "number"] (spValue K C) := by
  refine D.ok sc_value_at (fun vs H Q E h => ?_) (fun cdv A outer s H vs Q E hr h => ?_)
  · obtain ⟨r, a, x, rfl, _⟩ := h
    rfl
  · obtain ⟨r, a, x, rfl, hx, ⟨dx, kv, g, ⟨p, rfl, hp⟩⟩, ra, q⟩ := h
    refine ⟨_, (pss_cons (ps_if (pt_not (pt_val (pe_cal (cal_is_integer T) (hr.mono (by decide)) (by rfl) (pa_cons (pv 1) pa_nil)))) (pss_one ps_never) pss_nil)
      (pss_cons (ps_if (pt_cmpR op_lt (pe_fld (pv 0) rfl) pe_int (nomark _)) (pss_one ps_never) pss_nil)
      (pss_cons (ps_set (i := 2) sc_value_at.nd rfl (Or.inl rfl) pe_int)
      (pss_cons (ps_for PassesOwn.never rfl (pi_tup (pe_revT (pe_fld (pv 0) rfl))) (pg_name (i := 3) sc_value_at.nd rfl (Or.inl rfl)) (pss_one (ps_set (i := 2) sc_value_at.nd rfl (Or.inl rfl) (pe_op op_add (pe_op op_mulW (pv 2) (pv 1)) (pv 3)))))
      (pss_one (ps_ret (pe_op op_mulW (pv 2) (pe_cal (cal_power T) (hr.mono (by decide)) (by rfl) (pa_cons (pv 1) (pa_cons (pe_fld (pv 0) rfl) pa_nil)))))))))), ?_⟩
    have x60 : 1 - 10 ^ 60 ≤ x ∧ x ≤ 10 ^ 60 - 1 := by
      have : (2 : Nat) ^ 70 < 10 ^ 60 - 1 := by decide
      omega
    refine ⟨_, rfl, x, rfl, _, rfl, iteNT' (by rw [decide_eq_true x60.1, decide_eq_true x60.2]; rfl) ?_⟩
    refine ⟨_, rfl, _, _, _, _, _, rfl, g, T.cl, T.nL, pf_l _ _, _, _, rfl, rfl, _, rfl, iteF ?_⟩
    have hl := ra.len
    refine ⟨_, rfl, _, _, _, _, _, rfl, g, T.cl, T.nC, pf_c _ _, p, _, rfl, hp, fun rv nrv => ?_⟩
    have s1 := same_new (o := .tup (a.map V.int).reverse) nrv
    generalize hH1 : upd H rv (.tup (a.map V.int).reverse) = H1
    have hrv : SqT K H1 rv (a.map V.int).reverse := .of (by rw [← hH1, upd_same])
    rw [hH1] at s1
    refine ⟨rv, rfl, ⟨_, hrv⟩, for_tup (K := K) (a := rv) (xs := (a.map V.int).reverse) (fun i σ H' => H' = H1 ∧ ∃ v3, σ = [some (.ref r), some (.int x), some (.int (ev x (a.drop (a.length - i)))), v3]) ⟨rfl, none, by rw [Nat.sub_zero, List.drop_length]; rfl⟩ (fun i σ H' _ h => by rw [h.1]; exact hrv) ?_ ?_⟩
    · rintro i y σ H' hy ⟨rfl, v3, rfl⟩
      have hi := (List.getElem?_eq_some_iff.mp hy).1
      rw [List.length_reverse, List.length_map] at hi
      rw [List.getElem?_reverse (by rw [List.length_map]; exact hi), List.length_map] at hy
      obtain ⟨c, hc, rfl⟩ := int_at hy
      obtain ⟨hlt, ec⟩ := List.getElem?_eq_some_iff.mp hc
      have bd : (ev x (a.drop (a.length - i))).natAbs < 2 ^ (197 + (70 + 1) * (a.drop (a.length - i)).length) := ev_bdx hx fun z m => ra.bd z (List.mem_of_mem_drop m)
      have bd2 : (ev x (a.drop (a.length - i))).natAbs < 2 ^ 900 := Nat.lt_of_lt_of_le bd (Nat.pow_le_pow_right (by decide) (by rw [List.length_drop]; omega))
      refine ⟨_, rfl, _, rfl, _, _, rfl, rfl, wide_mul bd2 hx (by decide) (by decide) (by decide), _, rfl, _, _, rfl, rfl, rfl, some (.int c), ?_⟩
      have e : a.drop (a.length - (i + 1)) = c :: a.drop (a.length - i) := by
        rw [show a.length - (i + 1) = a.length - 1 - i by omega, List.drop_eq_getElem_cons hlt, ec, show a.length - 1 - i + 1 = a.length - i by omega]
      rw [e, ev, Int.add_comm, Int.mul_comm x]
      rfl
    · rintro σ H' ⟨rfl, v3, rfl⟩
      rw [List.length_reverse, List.length_map, Nat.sub_self, List.drop_zero]
      have g1 := s1 _ _ g
      have bd : (ev x a).natAbs < 2 ^ (197 + (70 + 1) * a.length) := ev_bdx hx fun z m => ra.bd z m
      have bd2 : (ev x a).natAbs < 2 ^ 900 := Nat.lt_of_lt_of_le bd (Nat.pow_le_pow_right (by decide) (by omega))
      refine ⟨_, rfl, _, rfl, _, rfl, _, _, _, _, _, rfl, g1, T.cl, T.nL, pf_l _ _, x, rfl, _, _, rfl, rfl, wide_mul (a := 900) (b := 2) bd2 (by decide) (by decide) (by decide) (by decide), ?_⟩
      show Q (V.int (ev x a * 1)) H'
      rw [Int.mul_one]
      exact q _ s1
end
end Pk

namespace Pk
open PySem L2 Ow RT PyProof.Rows
/-- at D a list of pairs of ints -/
structure PL (H : Hp) (D : Addr) (ps : List Addr) (l : KV) : Prop where
  li : H D = some (.lst (ps.map V.ref))
  pr : Paired (fun (p : Addr) (kv : Int × Int) => H p = some (.tup [.int kv.1, .int kv.2])) ps l
theorem PL.mono {H H' : Hp} {D : Addr} {ps : List Addr} {l : KV} (h : PL H D ps l) (s : Same H H') : PL H' D ps l := ⟨s _ _ h.li, Paired.mapP h.pr fun _ _ e => s _ _ e⟩
theorem PL.add {H : Hp} {D t : Addr} {ps : List Addr} {l : KV} {k v : Int} (h : PL H D ps l) (nt : H t = none) : (upd H t (.tup [.int k, .int v])) D = some (.lst (ps.map V.ref)) ∧ PL (upd (upd H t (.tup [.int k, .int v])) D (.lst (ps.map V.ref ++ [V.ref t]))) D (ps ++ [t]) (l ++ [(k, v)]) := by
  have nD : D ≠ t := fun e => by rw [← e, h.li] at nt; cases nt
  have s1 := same_new (o := .tup [.int k, .int v]) nt
  refine ⟨s1 _ _ h.li, ?_, ?_⟩
  · rw [upd_same, List.map_append]
    rfl
  · have off : ∀ (p : Addr) (xs : List V), (upd H t (.tup [.int k, .int v])) p = some (.tup xs) → (upd (upd H t (.tup [.int k, .int v])) D (.lst (ps.map V.ref ++ [V.ref t]))) p = some (.tup xs) := fun p xs e => by
      rw [upd_ne (fun z => by rw [z, s1 _ _ h.li] at e; cases e)]
      exact e
    exact Paired.snoc (Paired.mapP h.pr fun p kv e => off p _ (s1 _ _ e)) (off t _ upd_same)
theorem PL.new {H : Hp} {D : Addr} : PL (upd H D (.lst [])) D [] [] := ⟨upd_same, .nil⟩
theorem paired_kv {K : PySem.W.Frag} {H : Hp} : ∀ {ps : List Addr} {l : KV}, Paired (fun (p : Addr) (kv : Int × Int) => H p = some (.tup [.int kv.1, .int kv.2])) ps l → Paired (fun (p : Addr) (kv : L2.Key × V) => SqT K H p [kV kv.1, kv.2]) ps (kvV l)
  | _, _, .nil => .nil
  | _, _, .cons h t => .cons (SqT.of h) (paired_kv t)
theorem PL.dict {K : PySem.W.Frag} {H : Hp} {D : Addr} {ps : List Addr} {l : KV} {Q : VK} (h : PL H D ps l) (n : NoD l) (q : ∀ p, H p = none → Q (.ref p) (upd H p (.dK (kvV l)))) :
    ∃ (a : Addr) (ps : List Addr) (kvs : List (L2.Key × V)), [V.ref D] = [.ref a] ∧ SqL K H a (ps.map V.ref) ∧ Paired (fun p kv => SqT K H p [kV kv.1, kv.2]) ps kvs ∧ ∀ p, H p = none → Q (.ref p) (upd H p (.dK (mergeK [] kvs))) :=
  ⟨D, ps, kvV l, rfl, .of h.li, paired_kv h.pr, fun p np => by rw [merge0 n]; exact q p np⟩
theorem DR.get2 {H : Hp} {a : Addr} {l : KV} {Q : VK} (h : DR H a l) (k : Int) (q : Q (.int (dv l k)) H) : ∃ o, DGet H a (.int k) o ∧ Q (o.getD (.int 0)) H := ⟨_, h.get k, by rw [getD_int]; exact q⟩
theorem szl2 {n : Nat} (h : n ≤ 5000) : n ≤ sizeLine := Nat.le_trans h (by decide)
theorem szl3 {n : Nat} (h : n ≤ 5000) : n < sizeLine := Nat.lt_of_le_of_lt h (by decide)
theorem PL.len {H : Hp} {D : Addr} {ps : List Addr} {l : KV} (h : PL H D ps l) : ps.length = l.length := Paired.length h.pr
theorem kv_at {l : KV} {i : Nat} {k : L2.Key} {v : V} (h : (kvV l)[i]? = some (k, v)) : ∃ p, l[i]? = some p ∧ k = Sum.inl p.1 ∧ v = .int p.2 := by
  unfold kvV at h
  rw [List.getElem?_map] at h
  cases e : l[i]? with
  | none => rw [e] at h; cases h
  | some p => rw [e] at h; cases h; exact ⟨p, rfl, rfl, rfl⟩
/-- small enough -/
structure KvB (l : KV) (n w : Nat) : Prop where
  len : l.length ≤ n
  bd : ∀ p ∈ l, p.2.natAbs < 2 ^ w
def spOfRow (K : PySem.W.Frag) : Sp := fun vs H Q _ => ∃ (v : V) (cs : List Int) (lo : Int), vs = [v, .int lo] ∧ TI K H v cs ∧ cs.length ≤ 900 ∧ ∀ (r : Addr) (H' : Hp), Same H H' → H r = none → DA H' r (kvR cs lo) → Q (.ref r) H'
def spMoved (K : PySem.W.Frag) : Sp := fun vs H Q _ => ∃ (a : Addr) (l : KV) (b : Int), vs = [.ref a, .int b] ∧ DA H a l ∧ NoD l ∧ l.length ≤ 60 ∧ ∀ (r : Addr) (H' : Hp), Same H H' → H r = none → DA H' r (l.map fun p => (p.1 + b, p.2)) → Q (.ref r) H'
theorem NoD.map {l : KV} (n : NoD l) {f : Int → Int} (hf : ∀ x y, f x = f y → x = y) : NoD (l.map fun p => (f p.1, p.2)) := by
  unfold NoD at *
  rw [List.map_map]
  have : (l.map ((·.1) ∘ fun p : Int × Int => (f p.1, p.2))) = (l.map (·.1)).map f := by rw [List.map_map]; rfl
  rw [this]
  unfold List.Nodup at *
  rw [List.pairwise_map]
  exact n.imp fun h e => h (hf _ _ e)
theorem kvR_app : ∀ (a b : List Int) (lo : Int), kvR (a ++ b) lo = kvR a lo ++ kvR b (lo + a.length)
  | [], b, lo => by rw [List.nil_append, kvR, List.nil_append]; congr 1; simp
  | x :: a, b, lo => by
    rw [List.cons_append, kvR, kvR, kvR_app a b, List.length_cons, show lo + 1 + (a.length : Int) = lo + ((a.length + 1 : Nat) : Int) by omega]
    split <;> rfl
theorem kvR_len : ∀ (a : List Int) (lo : Int), (kvR a lo).length ≤ a.length
  | [], _ => Nat.le_refl _
  | x :: a, lo => by
    have := kvR_len a (lo + 1)
    rw [kvR]
    split <;> simp <;> omega
section
variable {P : Program} {w : World} {K : PySem.W.Frag} {mg : Str → Option Value} {base : Heap} {C : Addr}
theorem cal_of_row (T : Txt K mg C) : Cal P w K mg base "_law_of_row" 1 (spOfRow K) := by
  refine T.d_l_of_row.cal (ps := ["_law_coefficients", "_law_lowest"]) (fun f fd D => ?_) (fun _ _ _ _ _ _ us hl => match us, hl with | [_, _], _ => rfl)
  refine D.ok sc_l_of_row (fun vs H Q E h => ?_) (fun cdv A outer s H vs Q E hr h => ?_)
  · obtain ⟨v, cs, lo, rfl, _⟩ := h
    rfl
  · obtain ⟨v, cs, lo, rfl, ⟨a, rfl, ha⟩, h9, q⟩ := h
    refine ⟨_, (pss_one (ps_ret (pe_callTy (call_dictP rfl) (by rfl) T.b_dict (by decide +kernel) (pa_cons (pe_lc (own := [("_law_at", 2), ("_law_number_here", 3)]) (g := gTup K 2 (gCons (gName 2) (gCons (gName 3) (gNil)))) rfl sc_l_of_row.nd (pi_enumT (by rfl) T.b_enumerate (pa_cons (pv 0) pa_nil)) (blkOk_by (own := [("_law_at", 2), ("_law_number_here", 3)]) (N := ["_law_coefficients", "_law_lowest", "_law_at", "_law_number_here"]) (sc := defScope s_l_of_row) (by decide +kernel)) (fun _ _ _ _ _ => (pg_tup (by rfl) (pgs_cons (pg_name (i := 2) sc_l_of_row.nd rfl (Or.inl rfl)) (pgs_cons (pg_name (i := 3) sc_l_of_row.nd rfl (Or.inl rfl)) pgs_nil)))) (fun _ _ _ _ _ => (pts_one (pt_cmpR op_ne (pv 3) pe_int (nomark _)))) (fun _ _ _ _ _ => (pe_tup (pa_cons (pe_op op_add (pv 1) (pv 2)) (pa_cons (pv 3) pa_nil))))) pa_nil)))), ?_⟩
    refine ⟨_, rfl, a, _, rfl, ha, fun D nD => lc_it (walk_enumT (K := K) (a := a) (xs := cs.map V.int)) (fun i H' => Same H H' ∧ ∃ ps, PL H' D ps (kvR (cs.take i) lo)) ⟨same_new nD, [], PL.new⟩ (fun i H' _ h => sqT_same h.1 ha) ?_ ?_⟩
    · rintro i x H1 H2 hi ⟨s1, ps, pl⟩ ⟨t, x1, y1, rfl, nt, rfl, e1, e2⟩
      cases e1
      obtain ⟨c, hc, rfl⟩ := int_at e2
      have ilt := (List.getElem?_eq_some_iff.mp hc).1
      have s2 := s1.trans (same_new (o := .tup [.int (i : Nat), .int c]) nt)
      have pl2 := pl.mono (same_new (o := .tup [.int (i : Nat), .int c]) nt)
      have et : kvR (cs.take (i + 1)) lo = kvR (cs.take i) lo ++ (if c = 0 then [] else [(lo + i, c)]) := by
        rw [take_snoc hc, kvR_app, List.length_take, Nat.min_eq_left (by omega)]
        congr 1
      have hlen : ps.length ≤ 900 := by
        have h1 := pl.len
        have h2 := kvR_len (cs.take i) lo
        rw [List.length_take] at h2
        omega
      refine ⟨_, _, rfl, .of upd_same, rfl, _, _, rfl, _, _, rfl, rfl, rfl, _, rfl, rfl, _, rfl, ite2 (fun h => ?_) (fun h => ?_)⟩
      · have hz : c ≠ 0 := fun e => by rw [e] at h; exact absurd h (by decide)
        refine ⟨_, rfl, _, rfl, _, _, rfl, rfl, _, rfl, show 2 ≤ sizeLine by decide, fun t2 nt2 => ?_⟩
        obtain ⟨hd, pl3⟩ := pl2.add (k := lo + i) (v := c) nt2
        refine ⟨_, hd, by rw [List.length_map]; exact szl3 (by omega), same_off nD (s2.trans (same_new nt2)) off_upd, ps ++ [t2], ?_⟩
        rw [et, if_neg hz]
        exact pl3
      · have hz : c = 0 := by
          by_cases e : c = 0
          · exact e
          · exact absurd (by simpa using e) h
        refine ⟨s2, ps, ?_⟩
        rw [et, if_pos hz, List.append_nil]
        exact pl2
    · rintro H2 ⟨s2, ps, pl⟩
      rw [List.length_map, List.take_length] at pl
      exact pl.dict (kvR_asc cs lo).nod fun p np => q p _ (s2.trans (same_new np)) (s2.free np) upd_same
theorem cal_moved (T : Txt K mg C) : Cal P w K mg base "_law_moved" 1 (spMoved K) := by
  refine T.d_l_moved.cal (ps := ["_law_one", "_law_by"]) (fun f fd D => ?_) (fun _ _ _ _ _ _ us hl => match us, hl with | [_, _], _ => rfl)
  refine D.ok sc_l_moved (fun vs H Q E h => ?_) (fun cdv A outer s H vs Q E hr h => ?_)
  · obtain ⟨a, l, b, rfl, _⟩ := h
    rfl
  · obtain ⟨a, l, b, rfl, ha, nd, hl, q⟩ := h
    refine ⟨_, (pss_one (ps_ret (pe_callTy (call_dictP rfl) (by rfl) T.b_dict (by decide +kernel) (pa_cons (pe_lock (pe_lc (own := [("_law_exponent", 2)]) (g := gName 2) (tt := tYes) rfl sc_l_moved.nd (pi_keys (pv 0)) (blkOk_by (own := [("_law_exponent", 2)]) (N := ["_law_one", "_law_by", "_law_exponent"]) (sc := defScope s_l_moved) (by decide +kernel)) (fun _ _ _ _ _ => (pg_name (i := 2) sc_l_moved.nd rfl (Or.inl rfl))) (fun _ _ _ _ _ => pts_nil) (fun _ _ _ _ _ => (pe_tup (pa_cons (pe_op op_add (pv 2) (pv 1)) (pa_cons (pe_dget (hu_of hr) (pv 0) (pv 2) (fun _ _ => rfl)) pa_nil)))))) pa_nil)))), ?_⟩
    refine ⟨a, _, ha, True.intro, fun od => ⟨_, rfl, a, od, rfl, .inl ⟨_, upd_same, fun D nD => lc_it (walk_keys (kvs := kvV l)) (fun i H' => Same (upd H a (.frz od (.dK (kvV l)))) H' ∧ ∃ ps, PL H' D ps ((l.take i).map fun p => (p.1 + b, p.2))) ⟨same_new nD, [], PL.new⟩ (fun i H' _ h => h.1 _ _ upd_same) ?_ ?_⟩⟩⟩
    · rintro i x H1 H2 hi ⟨s1, ps, pl⟩ ⟨rfl, k, v, hk, rfl⟩
      obtain ⟨p, hp, rfl, rfl⟩ := kv_at hk
      have hm := List.mem_of_getElem? hp
      have hf : H2 a = some (.frz od (.dK (kvV l))) := s1 _ _ upd_same
      refine ⟨rfl, _, rfl, _, rfl, _, _, rfl, rfl, _, rfl, _, rfl, a, _, rfl, DR.at (.inr ⟨od, hf⟩) nd hm, show 2 ≤ sizeLine by decide, fun t nt => ?_⟩
      obtain ⟨hd, pl3⟩ := pl.add (k := p.1 + b) (v := p.2) nt
      have hlen := pl.len
      rw [List.length_map, List.length_take] at hlen
      refine ⟨_, hd, by rw [List.length_map]; exact szl3 (by omega), same_off nD (s1.trans (same_new nt)) off_upd, ps ++ [t], ?_⟩
      rw [take_snoc hp, List.map_append]
      exact pl3
    · rintro H2 ⟨s2, ps, pl⟩
      rw [kvV_len, List.take_length] at pl
      have hf : H2 a = some (.frz od (.dK (kvV l))) := s2 _ _ upd_same
      refine ⟨hf, ?_⟩
      have s3 : Same H (upd H2 a (.dK (kvV l))) := fun z u e => by
        by_cases c : z = a
        · subst c
          rw [upd_same, ← e]
          exact ha.symm ▸ rfl
        · rw [upd_ne c]
          exact s2 _ _ (by rw [upd_ne c]; exact e)
      have pl2 : PL (upd H2 a (.dK (kvV l))) D ps (l.map fun p => (p.1 + b, p.2)) := by
        refine ⟨?_, Paired.mapP pl.pr fun p kv e => ?_⟩
        · rw [upd_ne (fun z => by have w := pl.li; rw [z, hf] at w; cases w)]
          exact pl.li
        · rw [upd_ne (fun z => by rw [z, hf] at e; cases e)]
          exact e
      exact pl2.dict (nd.map (f := fun x => x + b) fun x y e => by omega) fun p np => q p _ (s3.trans (same_new np)) (s3.free np) upd_same
end
end Pk

namespace Pk
open PySem L2 Ow RT PyProof.Rows
theorem canon_snoc (l : KV) (ks : List Int) (k : Int) : canon l (ks ++ [k]) = canon l ks ++ (if dv l k = 0 then [] else [(k, dv l k)]) := by
  unfold canon
  rw [List.filter_append, List.map_append]
  congr 1
  by_cases h : dv l k = 0
  · rw [if_pos h, List.filter_cons_of_neg (by simpa using h)]
    rfl
  · rw [if_neg h, List.filter_cons_of_pos (by simpa using h)]
    rfl
theorem DR.atk {H : Hp} {a : Addr} {l : KV} (h : DR H a l) (n : NoD l) {k : Int} (m : k ∈ l.map (·.1)) : DGet H a (.int k) (some (.int (dv l k))) := by
  obtain ⟨p, hp, rfl⟩ := List.mem_map.mp m
  rw [dv_mem n hp]
  exact h.at n hp
/-- a locked dict set free -/
theorem unlock {H0 H : Hp} {b : Addr} {u : HO} (h0 : H0 b = some u) (o : ∀ q v, q ≠ b → H0 q = some v → H q = some v) : Same H0 (upd H b u) := fun q v e => by
  by_cases c : q = b
  · subst c
    rw [upd_same, ← e, h0]
  · rw [upd_ne c]
    exact o q v c e
def spPlus (K : PySem.W.Frag) : Sp := fun vs H Q _ => ∃ (a b : Addr) (l m : KV) (f : Int), vs = [.ref a, .ref b, .int f] ∧ DA H a l ∧ DA H b m ∧ NoD l ∧ NoD m ∧ l.length ≤ 30 ∧ m.length ≤ 30 ∧ (f = 1 ∨ f = -1) ∧ (∀ p ∈ m, p.2.natAbs < 2 ^ 1000) ∧
  ∀ (r : Addr) (H' : Hp) (n : KV), Same H H' → H r = none → DA H' r n → Asc n → n.length ≤ 63 → (∀ e, dv n e = dv l e + f * dv m e) → Q (.ref r) H'
def spTimes (K : PySem.W.Frag) : Sp := fun vs H Q _ => ∃ (a b : Addr) (l m : KV), vs = [.ref a, .ref b] ∧ a ≠ b ∧ DA H a l ∧ DA H b m ∧ NoD l ∧ NoD m ∧ l.length ≤ 30 ∧ m.length ≤ 30 ∧ (∀ p ∈ l, p.2.natAbs < 2 ^ 1000) ∧ (∀ p ∈ m, p.2.natAbs < 2 ^ 1000) ∧
  (∃ A B : Int, B - A ≤ 50 ∧ ∀ p ∈ l, ∀ q ∈ m, A ≤ p.1 + q.1 ∧ p.1 + q.1 ≤ B) ∧
  ∀ (r : Addr) (H' : Hp) (n : KV), Same H H' → H r = none → DA H' r n → Asc n → n.length ≤ 63 → (∀ e, dv n e = cvK l (dv m) e) → Q (.ref r) H'
/-- distinct keys between two bounds -/
theorem nodup_span : ∀ (n : Nat) (ks : List Int) (A : Int), ks.Nodup → (∀ k ∈ ks, A ≤ k ∧ k < A + n) → ks.length ≤ n
  | 0, ks, A, _, h => by
    cases ks with
    | nil => exact Nat.le_refl _
    | cons k ks => have := h k List.mem_cons_self; omega
  | n + 1, ks, A, nd, h => by
    have h1 := nodup_span n (ks.filter (· != A)) (A + 1) (nd.filter _) fun k m => by
      obtain ⟨m1, m2⟩ := List.mem_filter.mp m
      have := h k m1
      have ne : k ≠ A := bne_iff_ne.mp m2
      omega
    have h2 : ks.length ≤ (ks.filter (· != A)).length + 1 := by
      clear h1 h
      induction ks with
      | nil => exact Nat.zero_le _
      | cons k ks ih =>
        have ih := ih (List.nodup_cons.mp nd).2
        by_cases c : k = A
        · rw [List.filter_cons_of_neg (by simpa using c)]
          have e : ks.filter (· != A) = ks := List.filter_eq_self.mpr fun x m => bne_iff_ne.mpr fun z => (List.nodup_cons.mp nd).1 (by rw [c, ← z]; exact m)
          rw [e, List.length_cons]
          exact Nat.le_refl _
        · rw [List.filter_cons_of_pos (by simpa using c), List.length_cons, List.length_cons]
          omega
    omega
theorem put_keys {l : KV} {k v : Int} {p : Int × Int} (m : p ∈ putI l k v) : p.1 = k ∨ ∃ q ∈ l, q.1 = p.1 := by
  unfold putI at m
  split at m
  · obtain ⟨q, hq, e⟩ := List.mem_map.mp m
    refine .inr ⟨q, hq, ?_⟩
    rw [← e]
    split <;> rfl
  · rcases List.mem_append.mp m with m | m
    · exact .inr ⟨p, m, rfl⟩
    · exact .inl (by rw [List.mem_singleton.mp m])
section
variable {P : Program} {w : World} {K : PySem.W.Frag} {mg : Str → Option Value} {base : Heap} {C : Addr}
theorem cal_plus (T : Txt K mg C) : Cal P w K mg base "_law_plus" 1 (spPlus K) := by
  refine T.d_l_plus.cal (ps := ["_law_one", "_law_other", "_law_factor"]) (fun f fd D => ?_) (fun _ _ _ _ _ _ us hl => match us, hl with | [_, _, _], _ => rfl)
  refine D.ok sc_l_plus (fun vs H Q E h => ?_) (fun cdv A outer s H vs Q E hr h => ?_)
  · obtain ⟨a, b, l, m, f, rfl, _⟩ := h
    rfl
  · obtain ⟨a, b, l, m, f, rfl, ha, hb, nl, nm, ll, lm, hf, bm, q⟩ := h
    refine ⟨_, (pss_cons (ps_set (i := 3) sc_l_plus.nd rfl (Or.inr rfl) (pe_callTy (call_dictP rfl) (by rfl) T.b_dict (by decide +kernel) (pa_cons (LiI.pe_listItems rfl (pv 0) (by rfl) T.b_list (by decide +kernel)) pa_nil)))
      (pss_cons (ps_lock (ps_for PassesOwn.never rfl (pi_keys (pv 1)) (pg_name (i := 4) sc_l_plus.nd rfl (Or.inl rfl)) (pss_one (ps_dput (hu_of hr) (pv 3) (pv 4) (pe_op op_add (pe_dget2 (hu_of hr) (pv 3) (pv 4) pe_int ⟨rfl, rfl, rfl, rfl⟩) (pe_op op_mulW (pv 2) (pe_dget (hu_of hr) (pv 1) (pv 4) (fun _ _ => rfl)))) rfl))))
      (pss_one (ps_ret (pe_callTy (call_dictP rfl) (by rfl) T.b_dict (by decide +kernel) (pa_cons (pe_lc (own := [("_law_exponent", 4)]) (g := gName 4) rfl sc_l_plus.nd (pi_list (pe_callB (call_sortedDI rfl) (by rfl) T.b_sorted (by decide +kernel) (pa_cons (pv 3) pa_nil))) (blkOk_by (own := [("_law_exponent", 4)]) (N := ["_law_one", "_law_other", "_law_factor", "_law_found", "_law_exponent"]) (sc := defScope s_l_plus) (by decide +kernel)) (fun _ _ _ _ _ => (pg_name (i := 4) sc_l_plus.nd rfl (Or.inl rfl))) (fun _ _ _ _ _ => (pts_one (pt_cmpR op_ne (pe_dget (hu_of hr) (pv 3) (pv 4) (fun _ _ => rfl)) pe_int (nomark _)))) (fun _ _ _ _ _ => (pe_tup (pa_cons (pv 4) (pa_cons (pe_dget (hu_of hr) (pv 3) (pv 4) (fun _ _ => rfl)) pa_nil))))) pa_nil)))))), ?_⟩
    have bf : f.natAbs < 2 ^ 1 := by rcases hf with rfl | rfl <;> decide
    refine ⟨_, rfl, a, kvV l, rfl, ha, fun H1 S ts k1 n1 n2 n3 e1 pr1 => ⟨S, ts, kvV l, rfl, .of e1, Paired.mapP pr1 fun _ _ e => .of e, fun fd nfd => ?_⟩⟩
    rw [merge0 nl]
    have S1 : Same H (upd H1 fd (.dK (kvV l))) := fun z u e => same_new nfd _ _ (k1 _ _ e)
    have hb1 : DA (upd H1 fd (.dK (kvV l))) b m := S1 _ _ hb
    have nbf : fd ≠ b := fun e => by have := k1 _ _ hb; rw [← e, nfd] at this; cases this
    refine ⟨b, _, hb1, True.intro, fun od => ⟨_, rfl, b, od, rfl, .inl ⟨_, upd_same, for_it walk_keys (fun i σ H' => ∃ (n : KV) (v5 : Option V), σ = [some (.ref a), some (.ref b), some (.int f), some (.ref fd), v5] ∧ DA H' fd n ∧ H' b = some (.frz od (.dK (kvV m))) ∧ (∀ z u, z ≠ b → H z = some u → H' z = some u) ∧ NoD n ∧ n.length ≤ 30 + i ∧ ∀ e, dv n e = dv l e + f * sm (m.take i) e) ?_ (fun i σ H' _ h => ?_) ?_ ?_⟩⟩⟩
    · refine ⟨l, none, rfl, (upd_ne nbf).trans upd_same, upd_same, fun z u zb e => (upd_ne zb).trans (S1 _ _ e), nl, by omega, fun e => ?_⟩
      rw [show sm (m.take 0) e = 0 from rfl, Int.mul_zero, Int.add_zero]
    · obtain ⟨n, v5, _, _, h, _⟩ := h
      exact h
    · rintro i x σ H2 H3 hi ⟨n, v5, rfl, hn, hk, off, nn, len, hdv⟩ ⟨rfl, k, v, hkv, rfl⟩
      obtain ⟨p, hp, rfl, rfl⟩ := kv_at hkv
      have hm := List.mem_of_getElem? hp
      rw [kvV_len] at hi
      refine ⟨_, rfl, fd, rfl, hn.r.isD, _, rfl, _, hn.r.get p.1, ?_⟩
      rw [getD_int]
      refine ⟨_, rfl, _, rfl, _, rfl, b, _, rfl, DR.at (.inr ⟨od, hk⟩) nm hm, _, _, rfl, rfl, wide_mul bf (bm p hm) (by decide) (by decide) (by decide), _, _, rfl, rfl, _, rfl, _, rfl, fd, _, rfl, hn.put _ _ (szl3 (by omega)), ?_⟩
      refine ⟨_, _, rfl, upd_same, (upd_ne nbf.symm).trans hk, fun z u zb e => ?_, put_nod nn _ _, ?_, fun e => ?_⟩
      · rw [upd_ne (fun c => by rw [c] at e; have := k1 _ _ e; rw [nfd] at this; cases this)]
        exact off z u zb e
      · have := put_len n p.1 (dv n p.1 + f * p.2)
        omega
      · rw [dv_put, take_snoc hp, sm_snoc]
        by_cases c : p.1 = e
        · rw [if_pos c, if_pos c, ← c, hdv, Int.mul_add]
          omega
        · rw [if_neg c, if_neg c, hdv, Int.add_zero]
    · rintro σ H2 ⟨n, v5, rfl, hn, hk, off, nn, len, hdv⟩
      rw [kvV_len] at len hdv
      rw [List.take_length] at hdv
      refine ⟨hk, ?_⟩
      have S3 : Same H (upd H2 b (.dK (kvV m))) := unlock hb off
      have hfd : DA (upd H2 b (.dK (kvV m))) fd n := (upd_ne nbf).trans hn
      replace hdv : ∀ e, dv n e = dv l e + f * dv m e := fun e => by rw [hdv, sm_dv nm]
      generalize upd H2 b (.dK (kvV m)) = H3 at *
      refine ⟨_, rfl, fd, kvV n, n.map (·.1), rfl, .inl hfd, kvV_keys n, by rw [List.length_map]; omega, fun ys p hp hs np => ⟨p, rfl, ⟨_, .of upd_same⟩, fun D nD => lc_list (xs := ys.map V.int) (fun i H' => Same (upd H3 p (.lst (ys.map V.int))) H' ∧ ∃ ps, PL H' D ps (canon n (ys.take i))) ⟨same_new nD, [], PL.new⟩ (fun i H' _ h => .of (h.1 _ _ upd_same)) ?_ ?_⟩⟩
      · rintro i x H4 hx ⟨s1, ps, pl⟩
        obtain ⟨k, hk, rfl⟩ := int_at hx
        have hf : DA H4 fd n := s1 _ _ (same_new np _ _ hfd)
        have hkm : k ∈ n.map (·.1) := hp.mem_iff.mp (List.mem_of_getElem? hk)
        have hlen : ps.length ≤ 63 := by
          have h1 := pl.len
          have h2 := List.length_filter_le (fun k => dv n k != 0) (ys.take i)
          have h3 := hp.length_eq
          unfold canon at h1
          rw [List.length_map] at h1
          rw [List.length_take] at h2
          rw [List.length_map] at h3
          omega
        refine ⟨rfl, _, rfl, _, rfl, fd, _, rfl, hf.r.atk nn hkm, rfl, _, rfl, ite2 (fun h => ?_) (fun h => ?_)⟩
        · have hz : dv n k ≠ 0 := fun e => by rw [e] at h; exact absurd h (by decide)
          refine ⟨_, rfl, _, rfl, _, rfl, fd, _, rfl, hf.r.atk nn hkm, show 2 ≤ sizeLine by decide, fun t nt => ?_⟩
          obtain ⟨hd, pl3⟩ := pl.add (k := k) (v := dv n k) nt
          refine ⟨_, hd, by rw [List.length_map]; exact szl3 (by omega), same_off nD (s1.trans (same_new nt)) off_upd, ps ++ [t], ?_⟩
          rw [take_snoc hk, canon_snoc, if_neg hz]
          exact pl3
        · have hz : dv n k = 0 := by
            by_cases e : dv n k = 0
            · exact e
            · exact absurd (by simpa using e) h
          refine ⟨s1, ps, ?_⟩
          rw [take_snoc hk, canon_snoc, if_pos hz, List.append_nil]
          exact pl
      · rintro H4 ⟨s2, ps, pl⟩
        rw [List.length_map, List.take_length] at pl
        exact pl.dict (canon_asc nn hp hs).nod fun z nz => q z _ _ (S3.trans ((same_new np).trans (s2.trans (same_new nz)))) ((S3.trans ((same_new np).trans s2)).free nz) upd_same (canon_asc nn hp hs) (by have := canon_len hp; omega) fun e => (canon_dv hp e).trans (hdv e)
theorem cal_times (T : Txt K mg C) : Cal P w K mg base "_law_times" 1 (spTimes K) := by
  refine T.d_l_times.cal (ps := ["_law_one", "_law_other"]) (fun f fd D => ?_) (fun _ _ _ _ _ _ us hl => match us, hl with | [_, _], _ => rfl)
  refine D.ok sc_l_times (fun vs H Q E h => ?_) (fun cdv A outer s H vs Q E hr h => ?_)
  · obtain ⟨a, b, l, m, rfl, _⟩ := h
    rfl
  · obtain ⟨a, b, l, m, rfl, nab, ha, hb, nl, nm, ll, lm, bl, bm, ⟨A0, B0, hAB, span⟩, q⟩ := h
    refine ⟨_, (pss_cons (ps_set (i := 2) sc_l_times.nd rfl (Or.inr rfl) pe_dnewK)
      (pss_cons (ps_lock (ps_for PassesOwn.never rfl (pi_keys (pv 0)) (pg_name (i := 3) sc_l_times.nd rfl (Or.inl rfl)) (pss_one (ps_lock (ps_for PassesOwn.never rfl (pi_keys (pv 1)) (pg_name (i := 4) sc_l_times.nd rfl (Or.inl rfl)) (pss_one (ps_dput (hu_of hr) (pv 2) (pe_op op_add (pv 3) (pv 4)) (pe_op op_add (pe_dget2 (hu_of hr) (pv 2) (pe_op op_add (pv 3) (pv 4)) pe_int ⟨rfl, rfl, rfl, rfl⟩) (pe_op op_mulW (pe_dget (hu_of hr) (pv 0) (pv 3) (fun _ _ => rfl)) (pe_dget (hu_of hr) (pv 1) (pv 4) (fun _ _ => rfl)))) rfl)))))))
      (pss_one (ps_ret (pe_callTy (call_dictP rfl) (by rfl) T.b_dict (by decide +kernel) (pa_cons (pe_lc (own := [("_law_exponent", 3)]) (g := gName 3) rfl sc_l_times.nd (pi_list (pe_callB (call_sortedDI rfl) (by rfl) T.b_sorted (by decide +kernel) (pa_cons (pv 2) pa_nil))) (blkOk_by (own := [("_law_exponent", 3)]) (N := ["_law_one", "_law_other", "_law_found", "_law_exponent", "_law_more"]) (sc := defScope s_l_times) (by decide +kernel)) (fun _ _ _ _ _ => (pg_name (i := 3) sc_l_times.nd rfl (Or.inl rfl))) (fun _ _ _ _ _ => (pts_one (pt_cmpR op_ne (pe_dget (hu_of hr) (pv 2) (pv 3) (fun _ _ => rfl)) pe_int (nomark _)))) (fun _ _ _ _ _ => (pe_tup (pa_cons (pv 3) (pa_cons (pe_dget (hu_of hr) (pv 2) (pv 3) (fun _ _ => rfl)) pa_nil))))) pa_nil)))))), ?_⟩
    refine fun fd nfd => ?_
    have S1 : Same H (upd H fd (.dK [])) := same_new nfd
    have nfa : fd ≠ a := fun e => by rw [e] at nfd; rw [show H a = _ from ha] at nfd; cases nfd
    have nfb : fd ≠ b := fun e => by rw [e] at nfd; rw [show H b = _ from hb] at nfd; cases nfd
    refine ⟨a, _, S1 _ _ ha, True.intro, fun od => ⟨_, rfl, a, od, rfl, .inl ⟨_, upd_same, for_it walk_keys (fun i σ H' => ∃ (n : KV) (v4 v5 : Option V), σ = [some (.ref a), some (.ref b), some (.ref fd), v4, v5] ∧ DA H' fd n ∧ H' a = some (.frz od (.dK (kvV l))) ∧ DA H' b m ∧ (∀ z u, z ≠ a → H z = some u → H' z = some u) ∧ NoD n ∧ (∀ p ∈ n, A0 ≤ p.1 ∧ p.1 ≤ B0) ∧ ∀ e, dv n e = cvK (l.take i) (dv m) e) ?_ (fun i σ H' _ h => ?_) ?_ ?_⟩⟩⟩
    · refine ⟨[], none, none, rfl, (upd_ne nfa).trans upd_same, upd_same, (upd_ne nab.symm).trans (S1 _ _ hb), fun z u zb e => (upd_ne zb).trans (S1 _ _ e), NoD.nil, fun p h => (List.not_mem_nil h).elim, fun e => rfl⟩
    · obtain ⟨n, v4, v5, _, _, h, _⟩ := h
      exact h
    · rintro i x σ H2 H3 hi ⟨n0, v4, v5, rfl, hn0, hk, hb2, off, nn0, ks0, hdv0⟩ ⟨rfl, k, v, hkv, rfl⟩
      obtain ⟨p, hp, rfl, rfl⟩ := kv_at hkv
      have hm := List.mem_of_getElem? hp
      refine ⟨b, _, hb2, True.intro, fun oe => ⟨_, rfl, b, oe, rfl, .inl ⟨_, upd_same, for_it walk_keys (fun j σ H' => ∃ (n : KV) (v5 : Option V), σ = [some (.ref a), some (.ref b), some (.ref fd), some (.int p.1), v5] ∧ DA H' fd n ∧ H' a = some (.frz od (.dK (kvV l))) ∧ H' b = some (.frz oe (.dK (kvV m))) ∧ (∀ z u, z ≠ a → z ≠ b → H z = some u → H' z = some u) ∧ NoD n ∧ (∀ p ∈ n, A0 ≤ p.1 ∧ p.1 ≤ B0) ∧ ∀ e, dv n e = cvK (l.take i) (dv m) e + p.2 * sm (m.take j) (e - p.1)) ?_ (fun j σ H' _ h => ?_) ?_ ?_⟩⟩⟩
      · refine ⟨n0, v5, rfl, (upd_ne nfb).trans hn0, (upd_ne nab).trans hk, upd_same, fun z u za zb e => (upd_ne zb).trans (off z u za e), nn0, ks0, fun e => ?_⟩
        rw [show sm (m.take 0) (e - p.1) = 0 from rfl, Int.mul_zero, Int.add_zero]
        exact hdv0 e
      · obtain ⟨n, v5, _, _, _, h, _⟩ := h
        exact h
      · rintro j x σ H3 H4 hj ⟨n, v5, rfl, hn, hk, hkb, off2, nn, ks, hdv⟩ ⟨rfl, k, v, hkv, rfl⟩
        obtain ⟨r, hr2, rfl, rfl⟩ := kv_at hkv
        have hm2 := List.mem_of_getElem? hr2
        have sp := span p hm r hm2
        have nlen : n.length ≤ 51 := by
          have := nodup_span 51 (n.map fun x : Int × Int => x.1) A0 nn fun k hk => by
            obtain ⟨z, hz, rfl⟩ := List.mem_map.mp hk
            have := ks z hz
            omega
          rw [List.length_map] at this
          exact this
        refine ⟨_, rfl, fd, rfl, hn.r.isD, _, rfl, _, rfl, _, _, rfl, rfl, _, hn.r.get (p.1 + r.1), ?_⟩
        rw [getD_int]
        refine ⟨_, rfl, _, rfl, a, _, rfl, DR.at (.inr ⟨od, hk⟩) nl hm, _, rfl, _, rfl, b, _, rfl, DR.at (.inr ⟨oe, hkb⟩) nm hm2, _, _, rfl, rfl, wide_mul (bl p hm) (bm r hm2) (by decide) (by decide) (by decide), _, _, rfl, rfl, _, rfl, _, rfl, _, rfl, _, _, rfl, rfl, fd, _, rfl, hn.put _ _ (szl3 (by omega)), ?_⟩
        refine ⟨_, _, rfl, upd_same, (upd_ne nfa.symm).trans hk, (upd_ne nfb.symm).trans hkb, fun z u za zb e => ?_, put_nod nn _ _, fun z hz => ?_, fun e => ?_⟩
        · rw [upd_ne (fun c => by rw [c] at e; rw [nfd] at e; cases e)]
          exact off2 z u za zb e
        · rcases put_keys hz with c | ⟨y, hy, c⟩
          · rw [c]; exact sp
          · rw [← c]; exact ks y hy
        · rw [dv_put, take_snoc hr2, sm_snoc]
          by_cases c : p.1 + r.1 = e
          · rw [if_pos c, if_pos (show r.1 = e - p.1 by omega), ← c, hdv, Int.mul_add]
            omega
          · rw [if_neg c, if_neg (show ¬ r.1 = e - p.1 by omega), hdv, Int.add_zero]
      · rintro σ H3 ⟨n, v5, rfl, hn, hk, hkb, off2, nn, ks, hdv⟩
        rw [kvV_len, List.take_length] at hdv
        refine ⟨hkb, n, _, _, rfl, (upd_ne nfb).trans hn, (upd_ne nab).trans hk, upd_same, fun z u za e => ?_, nn, ks, fun e => ?_⟩
        · by_cases c : z = b
          · subst c
            rw [upd_same, ← e]
            exact (show H z = _ from hb).symm
          · rw [upd_ne c]
            exact off2 z u za c e
        · rw [hdv, take_snoc hp, cvK_snoc, sm_dv nm]
    · rintro σ H2 ⟨n, v4, v5, rfl, hn, hk, hb2, off, nn, ks, hdv⟩
      rw [kvV_len, List.take_length] at hdv
      refine ⟨hk, ?_⟩
      have len : n.length ≤ 51 := by
        have := nodup_span 51 (n.map fun x : Int × Int => x.1) A0 nn fun k hk => by
          obtain ⟨z, hz, rfl⟩ := List.mem_map.mp hk
          have := ks z hz
          omega
        rw [List.length_map] at this
        exact this
      have S3 : Same H (upd H2 a (.dK (kvV l))) := unlock ha off
      have hfd : DA (upd H2 a (.dK (kvV l))) fd n := (upd_ne nfa).trans hn
      generalize upd H2 a (.dK (kvV l)) = H3 at *
      refine ⟨_, rfl, fd, kvV n, n.map (·.1), rfl, .inl hfd, kvV_keys n, by rw [List.length_map]; omega, fun ys p hp hs np => ⟨p, rfl, ⟨_, .of upd_same⟩, fun D nD => lc_list (xs := ys.map V.int) (fun i H' => Same (upd H3 p (.lst (ys.map V.int))) H' ∧ ∃ ps, PL H' D ps (canon n (ys.take i))) ⟨same_new nD, [], PL.new⟩ (fun i H' _ h => .of (h.1 _ _ upd_same)) ?_ ?_⟩⟩
      · rintro i x H4 hx ⟨s1, ps, pl⟩
        obtain ⟨k, hk, rfl⟩ := int_at hx
        have hf : DA H4 fd n := s1 _ _ (same_new np _ _ hfd)
        have hkm : k ∈ n.map (·.1) := hp.mem_iff.mp (List.mem_of_getElem? hk)
        have hlen : ps.length ≤ 63 := by
          have h1 := pl.len
          have h2 := List.length_filter_le (fun k => dv n k != 0) (ys.take i)
          have h3 := hp.length_eq
          unfold canon at h1
          rw [List.length_map] at h1
          rw [List.length_take] at h2
          rw [List.length_map] at h3
          omega
        refine ⟨rfl, _, rfl, _, rfl, fd, _, rfl, hf.r.atk nn hkm, rfl, _, rfl, ite2 (fun h => ?_) (fun h => ?_)⟩
        · have hz : dv n k ≠ 0 := fun e => by rw [e] at h; exact absurd h (by decide)
          refine ⟨_, rfl, _, rfl, _, rfl, fd, _, rfl, hf.r.atk nn hkm, show 2 ≤ sizeLine by decide, fun t nt => ?_⟩
          obtain ⟨hd, pl3⟩ := pl.add (k := k) (v := dv n k) nt
          refine ⟨_, hd, by rw [List.length_map]; exact szl3 (by omega), same_off nD (s1.trans (same_new nt)) off_upd, ps ++ [t], ?_⟩
          rw [take_snoc hk, canon_snoc, if_neg hz]
          exact pl3
        · have hz : dv n k = 0 := by
            by_cases e : dv n k = 0
            · exact e
            · exact absurd (by simpa using e) h
          refine ⟨s1, ps, ?_⟩
          rw [take_snoc hk, canon_snoc, if_pos hz, List.append_nil]
          exact pl
      · rintro H4 ⟨s2, ps, pl⟩
        rw [List.length_map, List.take_length] at pl
        exact pl.dict (canon_asc nn hp hs).nod fun z nz => q z _ _ (S3.trans ((same_new np).trans (s2.trans (same_new nz)))) ((S3.trans ((same_new np).trans s2)).free nz) upd_same (canon_asc nn hp hs) (by have := canon_len hp; omega) fun e => (canon_dv hp e).trans (hdv e)
end
end Pk

namespace Pk
open PySem L2 Ow RT PyProof.Rows
section
variable {X : Cx} {C : Addr} {o e : Expr} {es : List Expr} {ta : TE} {t : TA} {pos apos : Pos}
theorem pe_m_at {pl : Sem Bool} (T : Txt X.K X.mg C) (hr : Room 3 X.A) (he : PE X o ta) (ha : PA X (e :: es) t)
    (hst : starEach (e :: es) X.env = (false, eval e X.env) :: starEach es X.env := by rfl) (hpl : (backTo pos (starEach es X.env)).any (·.1) = false := by rfl)
    (ht : eval (.Call (.Attribute o "at" apos) (e :: es) [] pos) X.env = (do
      let ov ← eval o X.env
      standAt apos.atName
      let (f, first) ← holding [ov] (getMethod ov "at" pl)
      callWith pos f first (backTo pos (starEach (e :: es) X.env)) (backToKw pos (keywordEach [] X.env))) := by rfl) :
    PE X (.Call (.Attribute o "at" apos) (e :: es) [] pos) (tMeth C "at" (spAtM X.K C) [] E0 ta t) := by
  obtain ⟨_, _, D, m⟩ := T.mAt
  exact pe_meth he T.cl ⟨m.at_, m.fn, D.kp⟩ (ok_at T D) hr (D.binds fun _ _ _ _ _ _ us hl => match us, hl with | [_, _], _ => rfl) .nil pass0 ha hst hpl ht
theorem pe_m_raised {pl : Sem Bool} (T : Txt X.K X.mg C) (hr : Room 15 X.A) (he : PE X o ta) (ha : PA X (e :: es) t)
    (hst : starEach (e :: es) X.env = (false, eval e X.env) :: starEach es X.env := by rfl) (hpl : (backTo pos (starEach es X.env)).any (·.1) = false := by rfl)
    (ht : eval (.Call (.Attribute o "raised" apos) (e :: es) [] pos) X.env = (do
      let ov ← eval o X.env
      standAt apos.atName
      let (f, first) ← holding [ov] (getMethod ov "raised" pl)
      callWith pos f first (backTo pos (starEach (e :: es) X.env)) (backToKw pos (keywordEach [] X.env))) := by rfl) :
    PE X (.Call (.Attribute o "raised" apos) (e :: es) [] pos) (tMeth C "raised" (spRaised X.K C) [] E0 ta t) := by
  obtain ⟨_, _, D, m⟩ := T.mRaised
  exact pe_meth he T.cl ⟨m.at_, m.fn, D.kp⟩ (ok_raised T D) hr (D.binds fun _ _ _ _ _ _ us hl => match us, hl with | [_, _], _ => rfl) .nil pass0 ha hst hpl ht
theorem pe_m_moved {pl : Sem Bool} (T : Txt X.K X.mg C) (hr : Room 7 X.A) (he : PE X o ta) (ha : PA X (e :: es) t)
    (hst : starEach (e :: es) X.env = (false, eval e X.env) :: starEach es X.env := by rfl) (hpl : (backTo pos (starEach es X.env)).any (·.1) = false := by rfl)
    (ht : eval (.Call (.Attribute o "moved" apos) (e :: es) [] pos) X.env = (do
      let ov ← eval o X.env
      standAt apos.atName
      let (f, first) ← holding [ov] (getMethod ov "moved" pl)
      callWith pos f first (backTo pos (starEach (e :: es) X.env)) (backToKw pos (keywordEach [] X.env))) := by rfl) :
    PE X (.Call (.Attribute o "moved" apos) (e :: es) [] pos) (tMeth C "moved" (spMove X.K C) [] E0 ta t) := by
  obtain ⟨_, _, D, m⟩ := T.mMoved
  exact pe_meth he T.cl ⟨m.at_, m.fn, D.kp⟩ (ok_moved T D) hr (D.binds fun _ _ _ _ _ _ us hl => match us, hl with | [_, _], _ => rfl) .nil pass0 ha hst hpl ht
theorem pe_m_value_at {pl : Sem Bool} (T : Txt X.K X.mg C) (hr : Room 3 X.A) (he : PE X o ta) (ha : PA X (e :: es) t)
    (hst : starEach (e :: es) X.env = (false, eval e X.env) :: starEach es X.env := by rfl) (hpl : (backTo pos (starEach es X.env)).any (·.1) = false := by rfl)
    (ht : eval (.Call (.Attribute o "value_at" apos) (e :: es) [] pos) X.env = (do
      let ov ← eval o X.env
      standAt apos.atName
      let (f, first) ← holding [ov] (getMethod ov "value_at" pl)
      callWith pos f first (backTo pos (starEach (e :: es) X.env)) (backToKw pos (keywordEach [] X.env))) := by rfl) :
    PE X (.Call (.Attribute o "value_at" apos) (e :: es) [] pos) (tMeth C "value_at" (spValue X.K C) [] E0 ta t) := by
  obtain ⟨_, _, D, m⟩ := T.mVal
  exact pe_meth he T.cl ⟨m.at_, m.fn, D.kp⟩ (ok_value_at T D) hr (D.binds fun _ _ _ _ _ _ us hl => match us, hl with | [_, _], _ => rfl) .nil pass0 ha hst hpl ht
theorem pe_m_turned {pl : Sem Bool} (T : Txt X.K X.mg C) (hr : Room 7 X.A) (he : PE X o ta)
    (ht : eval (.Call (.Attribute o "turned" apos) [] [] pos) X.env = (do
      let ov ← eval o X.env
      standAt apos.atName
      let (f, first) ← holding [ov] (getMethod ov "turned" pl)
      callWith pos f first (backTo pos (starEach [] X.env)) (backToKw pos (keywordEach [] X.env))) := by rfl) :
    PE X (.Call (.Attribute o "turned" apos) [] [] pos) (tMeth C "turned" (spTurn X.K C) [] E0 ta tNil) := by
  obtain ⟨_, _, D, m⟩ := T.mTurned
  exact pe_meth0 he T.cl ⟨m.at_, m.fn, D.kp⟩ (ok_turned T D) hr (D.binds fun _ _ _ _ _ _ us hl => match us, hl with | [_], _ => rfl) .nil pass0 ht
theorem pe_pT (T : Txt X.K X.mg C) (hr : Room 2 X.A) (he : PE X e ta) (hab : attributeBase e "is_alike_turned" X.env (eval e X.env) = eval e X.env := by rfl) : PE X (.Attribute e "is_alike_turned" pos) (tProp C (spAlike X.K C) [] E0 ta) := by
  obtain ⟨_, _, _, hp, D⟩ := T.pT
  exact pe_prop he T.cl hp (ok_alike T D) hr (D.binds fun _ _ _ _ _ _ us hl => match us, hl with | [_], _ => rfl) .nil pass0 hab
end
/-- all dict facts that callers need -/
structure KvT (l : KV) : Prop where
  nd : NoD l
  nz : ∀ p ∈ l, p.2 ≠ 0
  rg : ∀ p ∈ l, -2000 ≤ p.1 ∧ p.1 ≤ 2000
theorem KvT.dv0 {l : KV} (h : KvT l) {k : Int} (m : ∃ p ∈ l, k = p.1) : dv l k ≠ 0 := by
  obtain ⟨p, hp, rfl⟩ := m
  rw [dv_mem h.nd hp]
  exact h.nz p hp
theorem dv_out {l : KV} {e : Int} (h : dv l e ≠ 0) : ∃ p ∈ l, e = p.1 := by
  rw [dv_dvo] at h
  cases c : dvo l e with
  | none => rw [c] at h; exact absurd rfl h
  | some v => exact ⟨_, mem_dvo c, rfl⟩
def rowD (l : KV) (lo : Int) (n : Nat) : List Int := (List.range n).map fun i => dv l (lo + (i : Nat))
theorem rowD_val {l : KV} {lo hi : Int} (hl : ∀ p ∈ l, lo ≤ p.1) (hh : ∀ p ∈ l, p.1 ≤ hi) (e : Int) : rval (rowD l lo (hi + 1 - lo).toNat) lo e = dv l e := by
  unfold rval rowD
  rw [cf_tab]
  by_cases c : 0 ≤ e - lo ∧ e - lo < ((hi + 1 - lo).toNat : Nat)
  · rw [if_pos c, show lo + (((e - lo).toNat : Nat) : Int) = e by omega]
  · rw [if_neg c]
    by_cases z : dv l e = 0
    · exact z.symm
    · obtain ⟨p, hp, rfl⟩ := dv_out z
      have := hl p hp
      have := hh p hp
      exact absurd ⟨by omega, by omega⟩ c
theorem rowD_trim {l : KV} {lo hi : Int} (h : lo ≤ hi) (l0 : dv l lo ≠ 0) (l1 : dv l hi ≠ 0) : Trim (rowD l lo (hi + 1 - lo).toNat) lo := by
  obtain ⟨n, hn⟩ : ∃ n : Nat, (hi + 1 - lo).toNat = n + 1 := ⟨(hi - lo).toNat, by omega⟩
  rw [hn]
  unfold rowD
  refine .inr ⟨?_, ?_, ?_⟩
  · rw [List.range_succ_eq_map]
    simp
  · rw [List.range_succ_eq_map]
    simp
    exact l0
  · rw [List.range_succ, List.map_append]
    simp
    rw [show lo + (n : Int) = hi by omega]
    exact l1
def spInRow (K : PySem.W.Frag) : Sp := fun vs H Q _ => ∃ (a : Addr) (l : KV), vs = [.ref a] ∧ DA H a l ∧ KvT l ∧ ∀ (z : V) (cs : List Int) (lo : Int) (H' : Hp), Same H H' → PairAt K H' z cs lo → Trim cs lo → (∀ e, rval cs lo e = dv l e) → cs.length ≤ 4001 → Q z H'
def spTold (K : PySem.W.Frag) (C : Addr) : Sp := fun vs H Q _ => ∃ (r d : Addr) (a : List Int) (lo : Int) (l : KV), vs = [.ref r, .ref d] ∧ PolyAt K C H r a lo ∧ Trim a lo ∧ DA H d l ∧ KvT l ∧ (∀ e, rval a lo e = dv l e) ∧ ∀ H', Same H H' → Q (.bl true) H'
section
variable {P : Program} {w : World} {K : PySem.W.Frag} {mg : Str → Option Value} {base : Heap} {C : Addr}
theorem cal_in_row (T : Txt K mg C) : Cal P w K mg base "_law_in_row" 1 (spInRow K) := by
  refine T.d_l_in_row.cal (ps := ["_law_one"]) (fun f fd D => ?_) (fun _ _ _ _ _ _ us hl => match us, hl with | [_], _ => rfl)
  refine D.ok sc_l_in_row (fun vs H Q E h => ?_) (fun cdv A outer s H vs Q E hr h => ?_)
  · obtain ⟨a, l, rfl, _⟩ := h
    rfl
  · obtain ⟨a, l, rfl, ha, hl, q⟩ := h
    refine ⟨_, (pss_cons (ps_if (pt_cmpR (op_eqI hr.units0) (pv 0) pe_dnewK (nomark _)) (pss_one (ps_ret (pe_tup (pa_cons (pe_tup pa_nil) (pa_cons pe_int pa_nil))))) pss_nil)
      (pss_cons (ps_par (i := 1) (j := 2) rfl sc_l_in_row.nd rfl rfl (by decide) rfl rfl (pa_cons (pe_callB (cr_minI rfl) (by rfl) T.b_min (by decide +kernel) (pa_cons (pv 0) pa_nil)) (pa_cons (pe_callB (cr_maxI rfl) (by rfl) T.b_max (by decide +kernel) (pa_cons (pv 0) pa_nil)) pa_nil)) rfl)
      (pss_one (ps_ret (pe_tup (pa_cons (pe_callTy call_tuple_of (by rfl) T.b_tuple (by decide +kernel) (pa_cons (pe_lc (own := [("_law_exponent", 3)]) (g := gName 3) (tt := tYes) rfl sc_l_in_row.nd (pi_range2 (by rfl) T.b_range (pa_cons (pv 1) (pa_cons (pe_op op_add (pv 2) pe_int) pa_nil))) (blkOk_by (own := [("_law_exponent", 3)]) (N := ["_law_one", "_law_low", "_law_high", "_law_exponent"]) (sc := defScope s_l_in_row) (by decide +kernel)) (fun _ _ _ _ _ => (pg_name (i := 3) sc_l_in_row.nd rfl (Or.inl rfl))) (fun _ _ _ _ _ => pts_nil) (fun _ _ _ _ _ => (pe_dget2 (hu_of hr) (pv 0) (pv 3) pe_int ⟨rfl, rfl, rfl, rfl⟩))) pa_nil)) (pa_cons (pv 1) pa_nil))))))), ?_⟩
    refine ⟨_, rfl, fun d nd => ?_⟩
    have s1 := same_new (o := .dK []) nd
    refine ⟨a, d, l, [], rfl, rfl, (ha.same s1).r, .inl upd_same, _, rfl, ?_⟩
    cases l with
    | nil =>
      refine iteT ⟨show 0 ≤ sizeLine by decide, fun t nt => ⟨show 2 ≤ sizeLine by decide, fun u nu => ?_⟩⟩
      exact q _ [] 0 _ (s1.trans ((same_new nt).trans (same_new nu))) ⟨u, .ref t, rfl, .of upd_same, t, rfl, .of (same_new nu _ _ upd_same)⟩ (.inl ⟨rfl, rfl⟩) (fun e => rval_nil 0 e) (Nat.zero_le _)
    | cons p0 l0 =>
      refine iteF ?_
      generalize hL : p0 :: l0 = l at *
      have ne : l ≠ [] := by rw [← hL]; exact List.cons_ne_nil _ _
      have ha1 := ha.same s1
      refine ⟨_, rfl, a, l, rfl, ha1.r, ne, fun lo mlo blo => ⟨_, rfl, a, l, rfl, ha1.r, ne, fun hi mhi bhi => ⟨_, _, rfl, ?_⟩⟩⟩
      have r0 : -2000 ≤ lo := by obtain ⟨p, hp, rfl⟩ := mlo; exact (hl.rg p hp).1
      have r1 : hi ≤ 2000 := by obtain ⟨p, hp, rfl⟩ := mhi; exact (hl.rg p hp).2
      have lohi : lo ≤ hi := by obtain ⟨p, hp, rfl⟩ := mlo; exact bhi p hp
      refine ⟨_, rfl, _, rfl, _, _, rfl, rfl, lo, hi + 1, rfl, ⟨by omega, by omega, by omega, by omega⟩, fun D nD => lc_range (lo := lo) (n := (hi + 1 - lo).toNat) (fun i H' => Same (upd H d (.dK [])) H' ∧ H' D = some (.lst ((rowD l lo i).map V.int))) ⟨same_new nD, upd_same⟩ ?_ ?_⟩
      · rintro i H2 hi2 ⟨s2, hD⟩
        have ha2 := ha1.same s2
        refine ⟨rfl, _, rfl, a, rfl, ha2.r.isD, _, rfl, _, ha2.r.get (lo + (i : Nat)), ?_⟩
        rw [getD_int]
        refine ⟨_, hD, by unfold rowD; rw [List.length_map, List.length_map, List.length_range]; exact szl3 (by omega), same_off nD s2 off_upd, ?_⟩
        rw [upd_same]
        unfold rowD
        rw [List.range_succ, List.map_append, List.map_append]
        rfl
      · rintro H2 ⟨s2, hD⟩
        refine ⟨_, _, rfl, .inl ⟨.of hD, fun z nz => ⟨_, rfl, show 2 ≤ sizeLine by decide, fun u nu => ?_⟩⟩⟩
        exact q _ _ lo _ (s1.trans (s2.trans ((same_new nz).trans (same_new nu)))) ⟨u, .ref z, rfl, .of upd_same, z, rfl, .of (same_new nu _ _ upd_same)⟩ (rowD_trim lohi (hl.dv0 mlo) (hl.dv0 mhi)) (rowD_val blo bhi) (by unfold rowD; rw [List.length_map, List.length_range]; omega)
end
end Pk

namespace Pk
open PySem L2 Ow RT PyProof.Rows
def dL (ns : List Int) : PyData := .list (ns.map PyData.int)
theorem eqv_dL (a b : List Int) : PyData.eqv (dL a) (dL b) = decide (a = b) := by
  unfold dL
  rw [show PyData.eqv (.list (a.map PyData.int)) (.list (b.map PyData.int)) = PyData.eqvAll (a.map PyData.int) (b.map PyData.int) from by simp [PyData.eqv]]
  exact eqv_ints a b
theorem sh_dL (ns : List Int) : SeqAt.shaped (dL ns) = true := by
  unfold SeqAt.shaped
  have h1 : (dL ns).canLay0 = true := by simp [dL, PyData.canLay0, lay_ints]
  have h2 : (dL ns).depth ≤ 64 := by have := dep_ints ns; simp [dL, PyData.depth]; omega
  rw [h1, decide_eq_true h2]
  rfl
theorem dpL {K : PySem.W.Frag} {H : Hp} {a : Addr} {ns : List Int} (h : SqL K H a (ns.map V.int)) : Dp K H (.ref a) (dL ns) := .lst h (dInts ns)
theorem at_no : ¬ (("at" : Str) = "_lowest") ∧ ¬ (("at" : Str) = "_coefficients") := ⟨by decide +kernel, by decide +kernel⟩
theorem KvT.nil_iff {l : KV} (h : KvT l) {a : List Int} {lo : Int} (t : Trim a lo) (v : ∀ e, rval a lo e = dv l e) : a = [] ↔ l = [] := by
  constructor
  · intro e
    subst e
    cases l with
    | nil => rfl
    | cons p l =>
      have := v p.1
      rw [rval_nil] at this
      exact absurd this.symm (h.dv0 ⟨p, List.mem_cons_self, rfl⟩)
  · intro e
    subst e
    exact (trim_eq t (.inl ⟨rfl, rfl⟩) (hi := 0) (b := []) fun e => by rw [v, rval_nil]; rfl).1
theorem last_val {a : List Int} {lo : Int} (t : Trim a lo) (ne : a ≠ []) : rval a lo (lo + a.length - 1) ≠ 0 := by
  rcases t with ⟨e, _⟩ | ⟨_, _, hl⟩
  · exact absurd e ne
  · cases e : a.getLast? with
    | none => exact absurd (List.getLast?_eq_none_iff.mp e) ne
    | some x =>
      have := cf_last e
      unfold rval
      rw [show lo + a.length - 1 - lo = (a.length : Int) - 1 by omega, this.1]
      exact fun z => hl (by rw [e, z])
theorem first_val {a : List Int} {lo : Int} (t : Trim a lo) (ne : a ≠ []) : rval a lo lo ≠ 0 := by
  rcases t with ⟨e, _⟩ | ⟨_, hf, _⟩
  · exact absurd e ne
  · match a, ne with
    | x :: a, _ =>
      rw [rval_cons, if_pos rfl]
      exact fun e => hf (by rw [e]; rfl)
theorem KvT.max_is {l : KV} (h : KvT l) {a : List Int} {lo hi : Int} (t : Trim a lo) (v : ∀ e, rval a lo e = dv l e) (ne : a ≠ []) (m : ∃ p ∈ l, hi = p.1) (b : ∀ p ∈ l, p.1 ≤ hi) : hi = lo + a.length - 1 := by
  have h1 : rval a lo hi ≠ 0 := by rw [v]; exact h.dv0 m
  have h2 := (rval_out h1).2
  have h3 := last_val t ne
  rw [v] at h3
  obtain ⟨p, hp, e⟩ := dv_out h3
  have := b p hp
  omega
theorem KvT.min_is {l : KV} (h : KvT l) {a : List Int} {lo m : Int} (t : Trim a lo) (v : ∀ e, rval a lo e = dv l e) (ne : a ≠ []) (k : ∃ p ∈ l, m = p.1) (b : ∀ p ∈ l, m ≤ p.1) : m = lo := by
  have h1 : rval a lo m ≠ 0 := by rw [v]; exact h.dv0 k
  have h2 := (rval_out h1).1
  have h3 := first_val t ne
  rw [v] at h3
  obtain ⟨p, hp, e⟩ := dv_out h3
  have := b p hp
  omega
theorem KvT.lo_rg {l : KV} (h : KvT l) {a : List Int} {lo : Int} (t : Trim a lo) (v : ∀ e, rval a lo e = dv l e) : -2000 ≤ lo ∧ lo ≤ 2000 := by
  by_cases ne : a = []
  · rcases t with ⟨_, e⟩ | ⟨z, _⟩
    · subst e; decide
    · exact absurd ne z
  · have h3 := first_val t ne
    rw [v] at h3
    obtain ⟨p, hp, e⟩ := dv_out h3
    have := h.rg p hp
    omega
section
variable {P : Program} {w : World} {K : PySem.W.Frag} {mg : Str → Option Value} {base : Heap} {C : Addr}
theorem cal_is_told (T : Txt K mg C) : Cal P w K mg base "_law_is_told" 4 (spTold K C) := by
  refine T.d_l_is_told.cal (ps := ["_law_poly", "_law_due"]) (fun f fd D => ?_) (fun _ _ _ _ _ _ us hl => match us, hl with | [_, _], _ => rfl)
  refine D.ok sc_l_is_told (fun vs H Q E h => ?_) (fun cdv A outer s H vs Q E hr h => ?_)
  · obtain ⟨r, d, a, lo, l, rfl, _⟩ := h
    rfl
  · obtain ⟨r, d, a, lo, l, rfl, pa, ta, hd, hl, hv, q⟩ := h
    refine ⟨_, (pss_cons (ps_asg (pe_cal (cal_in_row T) (hr.mono (by decide)) (by rfl) (pa_cons (pv 1) pa_nil)) (pg_tup (by rfl) (pgs_cons (pg_name (i := 2) sc_l_is_told.nd rfl (Or.inl rfl)) (pgs_cons (pg_name (i := 3) sc_l_is_told.nd rfl (Or.inl rfl)) pgs_nil))))
      (pss_cons (ps_if (PW.pt (pw_or (pt_cmpR (op_neD hr.units) (pe_pC T (hr.mono (by decide)) (pv 0)) (pv 2) (nomark _)) (pw_or (pt_cmpR op_ne (pe_pL T (hr.mono (by decide)) (pv 0)) (pv 3) (nomark _)) (pw_or1 (pt_cmpR op_ne (pe_callB (call_gLen T (hr.mono (by decide))) (by rfl) T.b_len (by decide +kernel) (pa_cons (pv 0) pa_nil)) (pe_callB call_len_seq (by rfl) T.b_len (by decide +kernel) (pa_cons (pv 2) pa_nil)) (nomark _)))))) (pss_one (ps_ret pe_bl)) pss_nil)
      (pss_cons (ps_if (PW.pt (pw_or (pt_cmpR op_ne (pe_callTy (call_gBool T (hr.mono (by decide))) (by rfl) T.b_bool (by decide +kernel) (pa_cons (pv 0) pa_nil)) (pe_cmpR (op_neI hr.units0) (pv 1) pe_dnewK (nomark _)) (nomark _)) (pw_or1 (pt_cmpR op_ne (pe_pD T (hr.mono (by decide)) (pv 0)) (pe_ifExp (pt_cmpR (op_neI hr.units0) (pv 1) pe_dnewK (nomark _)) (pe_callB (cr_maxI rfl) (by rfl) T.b_max (by decide +kernel) (pa_cons (pv 1) pa_nil)) pe_non) (nomark _))))) (pss_one (ps_ret pe_bl)) pss_nil)
      (pss_one (ps_ret (pe_cmpR (op_eqD hr.units) (pe_lc (own := [("_law_exponent", 4)]) (g := gName 4) (tt := tYes) rfl sc_l_is_told.nd (pi_tup (pe_tup (pa_cons (pe_op op_sub (pv 3) pe_int) (pa_cons (pv 3) (pa_cons (pe_op op_add (pv 3) pe_int) (pa_cons pe_int (pa_cons (pe_op op_pow pe_int pe_int) pa_nil))))))) (blkOk_by (own := [("_law_exponent", 4)]) (N := ["_law_poly", "_law_due", "_law_coefficients", "_law_lowest", "_law_exponent"]) (sc := defScope s_l_is_told) (by decide +kernel)) (fun _ _ _ _ _ => (pg_name (i := 4) sc_l_is_told.nd rfl (Or.inl rfl))) (fun _ _ _ _ _ => pts_nil) (fun _ _ _ _ _ => (show PE _ _ (tMeth C "at" (spAtM K C) [] E0 (tVar 0) (tCons (tVar 4) tNil)) from (pe_m_at T (hr.mono (by decide)) (pv 0) (pa_cons (pv 4) pa_nil))))) (pe_lc (own := [("_law_exponent", 4)]) (g := gName 4) (tt := tYes) rfl sc_l_is_told.nd (pi_tup (pe_tup (pa_cons (pe_op op_sub (pv 3) pe_int) (pa_cons (pv 3) (pa_cons (pe_op op_add (pv 3) pe_int) (pa_cons pe_int (pa_cons (pe_op op_pow pe_int pe_int) pa_nil))))))) (blkOk_by (own := [("_law_exponent", 4)]) (N := ["_law_poly", "_law_due", "_law_coefficients", "_law_lowest", "_law_exponent"]) (sc := defScope s_l_is_told) (by decide +kernel)) (fun _ _ _ _ _ => (pg_name (i := 4) sc_l_is_told.nd rfl (Or.inl rfl))) (fun _ _ _ _ _ => pts_nil) (fun _ _ _ _ _ => (pe_dget2 (hu_of hr) (pv 1) (pv 4) pe_int ⟨rfl, rfl, rfl, rfl⟩))) (nomark _))))))), ?_⟩
    refine ⟨_, rfl, d, l, rfl, hd, hl, fun z cs lo2 H1 s1 ⟨zp, kv, ez, hz, ht⟩ tz vz lz => ?_⟩
    subst ez
    obtain ⟨rfl, rfl⟩ := trim_eq tz ta fun e => (vz e).trans (hv e).symm
    refine ⟨_, _, rfl, hz, rfl, _, _, rfl, _, _, rfl, rfl, ?_⟩
    have pa1 := pa.same s1
    have hd1 := hd.same s1
    obtain ⟨dx, kp, g, htp⟩ := id pa1
    have hnil := hl.nil_iff ta hv
    have lor := hl.lo_rg ta hv
    refine ⟨_, rfl, r, dx, _, rfl, g, r, cs, lo2, rfl, pa1, fun v tv => ⟨_, rfl, _, _, tv.dp, ht.dp, sh_dT _, sh_dT _, _, rfl, ?_⟩⟩
    rw [eqv_dT, decide_eq_true rfl]
    refine iteF ?_
    refine ⟨_, rfl, r, dx, _, rfl, g, r, cs, lo2, rfl, pa1, _, rfl, rfl, _, rfl, ite2 (fun h => absurd h (by simp)) (fun _ => ?_)⟩
    obtain ⟨tk, rfl, htk⟩ := id ht
    refine ⟨_, rfl, r, dx, _, rfl, g, r, cs, lo2, rfl, pa1, _, rfl, by omega, by omega, _, rfl, tk, _, rfl, .inr htk, rfl, _, rfl, ite2 (fun h => absurd h (by rw [List.length_map]; simp)) (fun _ => ?_)⟩
    refine ⟨_, rfl, r, dx, _, rfl, g, r, cs, lo2, rfl, pa1, _, rfl, _, rfl, fun d2 nd2 => ?_⟩
    have s2 := same_new (o := .dK []) nd2
    have pa2 := pa1.same s2
    have hd2 := hd1.same s2
    have eq2 : (!cs.isEmpty) = !(decide (l.length = ([] : KV).length) && eqKV l []) := by
      by_cases c : cs = []
      · have := hnil.mp c
        subst c
        subst this
        rfl
      · have c2 : l ≠ [] := fun z => c (hnil.mpr z)
        cases cs with
        | nil => exact absurd rfl c
        | cons x cs =>
          cases l with
          | nil => exact absurd rfl c2
          | cons p l => rfl
    refine ⟨d, d2, l, [], rfl, rfl, hd2.r, .inl upd_same, rfl, _, rfl, ite2 (fun h => absurd h (by rw [eq2]; simp)) (fun _ => ?_)⟩
    obtain ⟨dy, kp2, g2, _⟩ := id pa2
    refine ⟨_, rfl, r, dy, _, rfl, g2, r, cs, lo2, rfl, pa2, _, rfl, fun d3 nd3 => ?_⟩
    have s3 := same_new (o := .dK []) nd3
    have pa3 := pa2.same s3
    have hd3 := hd2.same s3
    refine ⟨d, d3, l, [], rfl, rfl, hd3.r, .inl upd_same, _, rfl, ?_⟩
    rw [← eq2]
    have S3 := s1.trans (s2.trans s3)
    generalize upd (upd H1 d2 (.dK [])) d3 (.dK []) = H3 at *
    suffices fin : _ by
      by_cases c : cs = []
      · rw [c]
        refine iteF ?_
        rw [if_pos rfl]
        exact ⟨rfl, _, rfl, iteF fin⟩
      · have c2 : l ≠ [] := fun z => c (hnil.mpr z)
        rw [show (!cs.isEmpty) = true by cases cs with | nil => exact absurd rfl c | cons x cs => rfl, if_neg c]
        refine iteT ⟨_, rfl, d, l, rfl, hd3.r, c2, fun hi mh bh => ?_⟩
        rw [hl.max_is ta hv c mh bh]
        exact ⟨rfl, _, rfl, ite2 (fun h => absurd h (by simp)) (fun _ => fin)⟩
    generalize hes : [lo2 - 1, lo2, lo2 + 1, 0, (10 : Int) ^ (50 : Int).toNat] = es
    have hev : es.map V.int = [V.int (lo2 - 1), V.int lo2, V.int (lo2 + 1), V.int 0, V.int ((10 : Int) ^ (50 : Int).toNat)] := by rw [← hes]; rfl
    have l5 : es.length = 5 := by rw [← hes]; rfl
    have hb : ∀ e ∈ es, 1 - 10 ^ 60 ≤ e ∧ e ≤ 10 ^ 60 - 1 := fun e m => by
      have p50 : (10 : Int) ^ (50 : Int).toNat ≤ 10 ^ 60 - 1 := by decide +kernel
      have p0 : (0 : Int) ≤ (10 : Int) ^ (50 : Int).toNat := by decide +kernel
      rw [← hes] at m
      simp only [List.mem_cons, List.not_mem_nil, or_false] at m
      rcases m with rfl | rfl | rfl | rfl | rfl <;> omega
    refine ⟨_, rfl, _, _, rfl, rfl, _, rfl, _, rfl, _, _, rfl, rfl, _, _, rfl, rfl, ⟨by decide, by decide, by decide⟩, show 5 ≤ sizeLine by decide, fun t nt => ⟨t, rfl, ⟨_, .of upd_same⟩, fun D nD => ?_⟩⟩
    have s4 := same_new (o := .tup (es.map V.int)) nt
    rw [← hev] at nD ⊢
    refine lc_tup (K := K) (a := t) (xs := es.map V.int) (fun i H' => Same (upd H3 t (.tup (es.map V.int))) H' ∧ H' D = some (.lst (((es.take i).map fun e => dv l e).map V.int))) ⟨same_new nD, upd_same⟩ (fun i H' _ h => .of (h.1 _ _ upd_same)) ?_ ?_
    · rintro i x H4 hx ⟨s5, hD⟩
      obtain ⟨e, he, rfl⟩ := int_at hx
      have hm := List.mem_of_getElem? he
      have pa4 := pa3.same (s4.trans s5)
      obtain ⟨dz, kp3, g3, _⟩ := id pa4
      refine ⟨rfl, _, rfl, r, dz, _, rfl, g3, pf_no _ _ at_no.1 at_no.2, _, rfl, r, cs, lo2, e, rfl, (hb e hm).1, (hb e hm).2, pa4, _, hD, ?_, same_off nD s5 off_upd, ?_⟩
      · rw [List.length_map, List.length_map, List.length_take]
        exact szl3 (by omega)
      · rw [upd_same, take_snoc he, List.map_append, List.map_append, hv]
        rfl
    · rintro H4 ⟨s5, hD⟩
      rw [List.length_map, List.take_length] at hD
      have S4 := s4.trans s5
      refine ⟨_, rfl, _, _, rfl, rfl, _, rfl, _, rfl, _, _, rfl, rfl, _, _, rfl, rfl, ⟨by decide, by decide, by decide⟩, show 5 ≤ sizeLine by decide, fun t2 nt2 => ⟨t2, rfl, ⟨_, .of upd_same⟩, fun D2 nD2 => ?_⟩⟩
      have s6 := same_new (o := .tup (es.map V.int)) nt2
      rw [← hev] at nD2 ⊢
      refine lc_tup (K := K) (a := t2) (xs := es.map V.int) (fun i H' => Same (upd H4 t2 (.tup (es.map V.int))) H' ∧ H' D2 = some (.lst (((es.take i).map fun e => dv l e).map V.int))) ⟨same_new nD2, upd_same⟩ (fun i H' _ h => .of (h.1 _ _ upd_same)) ?_ ?_
      · rintro i x H5 hx ⟨s7, hD2⟩
        obtain ⟨e, he, rfl⟩ := int_at hx
        have hd5 := hd3.same (S4.trans (s6.trans s7))
        refine ⟨rfl, _, rfl, d, rfl, hd5.r.isD, _, rfl, _, hd5.r.get e, ?_⟩
        rw [getD_int]
        refine ⟨_, hD2, ?_, same_off nD2 s7 off_upd, ?_⟩
        · rw [List.length_map, List.length_map, List.length_take]
          exact szl3 (by omega)
        · rw [upd_same, take_snoc he, List.map_append, List.map_append]
          rfl
      · rintro H5 ⟨s7, hD2⟩
        rw [List.length_map, List.take_length] at hD2
        refine ⟨_, _, dpL (.of (s7 _ _ (s6 _ _ hD))), dpL (.of hD2), sh_dL _, sh_dL _, ?_⟩
        rw [eqv_dL, decide_eq_true rfl]
        exact q _ (S3.trans (S4.trans (s6.trans s7)))
end
end Pk

namespace Pk
open PySem L2 Ow RT PyProof.Rows
theorem kvR_mem {a : List Int} {lo : Int} {p : Int × Int} (m : p ∈ kvR a lo) : lo ≤ p.1 ∧ p.1 ≤ lo + a.length - 1 ∧ p.2 ∈ a := by
  induction a generalizing lo with
  | nil => cases m
  | cons x a ih =>
    rw [kvR] at m
    by_cases c : x = 0
    · rw [if_pos c] at m
      have := ih m
      rw [List.length_cons]
      exact ⟨by omega, by omega, List.mem_cons_of_mem _ this.2.2⟩
    · rw [if_neg c] at m
      rw [List.length_cons]
      rcases List.mem_cons.mp m with rfl | m
      · exact ⟨Int.le_refl _, by show lo ≤ _; omega, List.mem_cons_self⟩
      · have := ih m
        exact ⟨by omega, by omega, List.mem_cons_of_mem _ this.2.2⟩
theorem powL_len {a : List Int} (h : a.length ≤ 9) : ∀ n, (powL a n).length ≤ 1 + 9 * n
  | 0 => by show ([1] : List Int).length ≤ _; decide
  | n + 1 => by
    have h1 := powL_len h n
    have h2 := len_mulL_le (powL a n) a
    show (mulL (powL a n) a).length ≤ _
    omega
theorem mem_mulL_bd {a b : List Int} {wa wb k : Nat} (ha : ∀ c ∈ a, c.natAbs < 2 ^ wa) (hb : ∀ c ∈ b, c.natAbs < 2 ^ wb) (hk : min a.length b.length ≤ 2 ^ k) : ∀ c ∈ mulL a b, c.natAbs < 2 ^ (wa + wb + k) := fun c m => by
  obtain ⟨i, e⟩ := cf_get m
  rw [← e]
  exact mulL_bd ha hb hk i
theorem powL_bd {a : List Int} (h : Rw 9 197 a) : ∀ n, ∀ c ∈ powL a n, c.natAbs < 2 ^ (1 + 201 * n)
  | 0 => fun c m => by rw [List.mem_singleton.mp m]; decide
  | n + 1 => fun c m => by
    have := mem_mulL_bd (powL_bd h n) h.bd (k := 4) (by have := h.len; show _ ≤ 16; omega) c m
    rw [show 1 + 201 * n + 197 + 4 = 1 + 201 * (n + 1) by omega] at this
    exact this
theorem valK_snoc (l : KV) (p : Int × Int) (n : Int) : valK (l ++ [p]) n = valK l n + p.2 * n ^ p.1.toNat := by
  unfold valK
  rw [List.map_append, List.sum_append]
  simp
theorem b_pow {x : Int} {B : Nat} (h : x.natAbs < 2 ^ B) : ∀ j : Nat, (x ^ j).natAbs < 2 ^ (B * j + 1)
  | 0 => by rw [Int.pow_zero]; show 1 < 2 ^ (0 + 1); decide
  | j + 1 => by
    rw [Int.pow_succ]
    have := wide_lt (b_pow h j) h
    rw [show B * j + 1 + B = B * (j + 1) + 1 by rw [Nat.mul_succ]; omega] at this
    exact this
def spPow (K : PySem.W.Frag) : Sp := fun vs H Q _ => ∃ (d : Addr) (a : List Int) (lo : Int) (n : Nat), vs = [.ref d, .int n] ∧ n ≤ 3 ∧ DA H d (kvR a lo) ∧ Rw 9 197 a ∧ ∀ (r : Addr) (H' : Hp), Same H H' → DA H' r (kvR (powL a n) (n * lo)) → Q (.ref r) H'
def spVal (K : PySem.W.Frag) : Sp := fun vs H Q _ => ∃ (d : Addr) (a : List Int) (x : Int), vs = [.ref d, .int x] ∧ DA H d (kvR a 0) ∧ Rw 9 197 a ∧ x.natAbs < 2 ^ 70 ∧ Q (.int (ev x a)) H
section
variable {P : Program} {w : World} {K : PySem.W.Frag} {mg : Str → Option Value} {base : Heap} {C : Addr}
theorem cal_l_power (T : Txt K mg C) : Cal P w K mg base "_law_power" 2 (spPow K) := by
  refine T.d_l_power.cal (ps := ["_law_due", "_law_many"]) (fun f fd D => ?_) (fun _ _ _ _ _ _ us hl => match us, hl with | [_, _], _ => rfl)
  refine D.ok sc_l_power (fun vs H Q E h => ?_) (fun cdv A outer s H vs Q E hr h => ?_)
  · obtain ⟨d, a, lo, n, rfl, _⟩ := h
    rfl
  · obtain ⟨d, a, lo, n, rfl, hn, hd, ra, q⟩ := h
    refine ⟨_, (pss_cons (ps_set (i := 2) sc_l_power.nd rfl (Or.inl rfl) (pe_disp (pps_cons pe_int pe_int pps_nil) rfl rfl (by simp) (by decide)))
      (pss_cons (ps_for PassesOwn.never rfl (pi_range1 (by rfl) T.b_range (pa_cons (pv 1) pa_nil)) (pg_name (i := 3) sc_l_power.nd rfl (Or.inl rfl)) (pss_one (ps_set (i := 2) sc_l_power.nd rfl (Or.inl rfl) (pe_cal (cal_times T) (hr.mono (by decide)) (by rfl) (pa_cons (pv 2) (pa_cons (pv 0) pa_nil))))))
      (pss_one (ps_ret (pv 2))))), ?_⟩
    refine fun f0 nf0 => ⟨upd_same, [(Sum.inl 0, .int 1)], rfl, by decide, ?_⟩
    rw [upd_upd]
    have s0 := same_new (o := .dK (mergeK [] [(Sum.inl 0, .int 1)])) nf0
    refine ⟨_, rfl, _, rfl, by omega, by omega, for_range (lo := 0) (n := n) (fun i σ H' => ∃ (fd : Addr) (v3 : Option V), σ = [some (.ref d), some (.int n), some (.ref fd), v3] ∧ fd ≠ d ∧ Same H H' ∧ DA H' fd (kvR (powL a i) (i * lo))) ?_ ?_ ?_⟩
    · refine ⟨f0, none, rfl, fun e => ?_, s0, ?_⟩
      · rw [e] at nf0
        rw [show H d = _ from hd] at nf0
        cases nf0
      · rw [show ((0 : Nat) : Int) * lo = 0 by simp]
        exact upd_same
    · rintro i σ H2 hi ⟨fd, v3, rfl, ne, s2, hf⟩
      have hd2 := hd.same s2
      have l9 := ra.len
      have lp := powL_len l9 i
      have kl := kvR_len (powL a i) (i * lo)
      have kl2 := kvR_len a lo
      refine ⟨_, rfl, _, rfl, fd, d, _, _, rfl, ne, hf, hd2, (kvR_asc _ _).nod, (kvR_asc _ _).nod, by omega, by omega, fun p m => ?_, fun p m => ?_, ⟨i * lo + lo, i * lo + lo + 40, by omega, fun p mp r mr => ?_⟩, fun r H3 m s3 nr hm am lm hv => ?_⟩
      · exact Nat.lt_of_lt_of_le (powL_bd ra i _ (kvR_mem m).2.2) (Nat.pow_le_pow_right (by decide) (by omega))
      · exact Nat.lt_of_lt_of_le (ra.bd _ (kvR_mem m).2.2) (Nat.pow_le_pow_right (by decide) (by omega))
      · have h1 := kvR_mem mp
        have h2 := kvR_mem mr
        omega
      · have e : m = kvR (powL a (i + 1)) (((i + 1 : Nat) : Int) * lo) := by
          refine asc_eq am (kvR_asc _ _) fun x => ?_
          rw [hv, dv_kvR, cvK_kvR, cvR_congr (dv_kvR a lo), ← cf_cvR]
          rw [show ((i + 1 : Nat) : Int) * lo = i * lo + lo by rw [Int.natCast_add, Int.add_mul]; simp]
          rfl
        refine ⟨r, _, rfl, fun c => ?_, s2.trans s3, e ▸ hm⟩
        rw [c] at nr
        rw [show H2 d = _ from hd2] at nr
        cases nr
    · rintro σ H2 ⟨fd, v3, rfl, ne, s2, hf⟩
      exact ⟨_, rfl, q _ _ s2 hf⟩
theorem cal_l_value (T : Txt K mg C) : Cal P w K mg base "_law_value" 1 (spVal K) := by
  refine T.d_l_value.cal (ps := ["_law_due", "_law_number_here"]) (fun f fd D => ?_) (fun _ _ _ _ _ _ us hl => match us, hl with | [_, _], _ => rfl)
  refine D.ok sc_l_value (fun vs H Q E h => ?_) (fun cdv A outer s H vs Q E hr h => ?_)
  · obtain ⟨d, a, x, rfl, _⟩ := h
    rfl
  · obtain ⟨d, a, x, rfl, hd, ra, hx, q⟩ := h
    refine ⟨_, (pss_cons (ps_set (i := 2) sc_l_value.nd rfl (Or.inl rfl) pe_int)
      (pss_cons (ps_lock (ps_for PassesOwn.never rfl (pi_keys (pv 0)) (pg_name (i := 3) sc_l_value.nd rfl (Or.inl rfl)) (pss_cons (ps_set (i := 4) sc_l_value.nd rfl (Or.inl rfl) (pe_dget (hu_of hr) (pv 0) (pv 3) (fun _ _ => rfl)))
      (pss_cons (ps_for PassesOwn.never rfl (pi_range1 (by rfl) T.b_range (pa_cons (pv 3) pa_nil)) (pg_name (i := 5) sc_l_value.nd rfl (Or.inl rfl)) (pss_one (ps_set (i := 4) sc_l_value.nd rfl (Or.inl rfl) (pe_op op_mulW (pv 4) (pv 1)))))
      (pss_one (ps_set (i := 2) sc_l_value.nd rfl (Or.inl rfl) (pe_op op_add (pv 2) (pv 4))))))))
      (pss_one (ps_ret (pv 2))))), ?_⟩
    refine ⟨d, _, hd, True.intro, fun od => ⟨_, rfl, d, od, rfl, .inl ⟨_, upd_same, for_it walk_keys (fun i σ H' => H' = upd H d (.frz od (.dK (kvV (kvR a 0)))) ∧ ∃ v3 v4 v5, σ = [some (.ref d), some (.int x), some (.int (valK ((kvR a 0).take i) x)), v3, v4, v5]) ⟨rfl, none, none, none, rfl⟩ (fun i σ H' _ h => by rw [h.1]; exact upd_same) ?_ ?_⟩⟩⟩
    · rintro i y σ H2 H3 hi ⟨rfl, v3, v4, v5, rfl⟩ ⟨rfl, k, v, hkv, rfl⟩
      obtain ⟨p, hp, rfl, rfl⟩ := kv_at hkv
      have hm := List.mem_of_getElem? hp
      have hk := kvR_mem hm
      have l9 := ra.len
      have bp := ra.bd p.2 hk.2.2
      obtain ⟨e, he⟩ : ∃ e : Nat, p.1 = (e : Int) := ⟨p.1.toNat, by omega⟩
      have e8 : e ≤ 8 := by omega
      refine ⟨_, rfl, _, rfl, d, _, rfl, DR.at (.inr ⟨od, upd_same⟩) (kvR_asc _ _).nod hm, ?_⟩
      have hx8 : ∀ j : Nat, j ≤ 8 → (p.2 * x ^ j).natAbs < 2 ^ 800 := fun j hj => Nat.lt_of_lt_of_le (wide_lt bp (b_pow hx j)) (Nat.pow_le_pow_right (by decide) (by omega))
      refine ⟨_, rfl, p.1, rfl, by omega, by omega, for_range (lo := 0) (n := p.1.toNat) (fun j σ H' => H' = upd H d (.frz od (.dK (kvV (kvR a 0)))) ∧ ∃ v5, σ = [some (.ref d), some (.int x), some (.int (valK ((kvR a 0).take i) x)), some (.int p.1), some (.int (p.2 * x ^ j)), v5]) ⟨rfl, v5, by rw [Int.pow_zero, Int.mul_one]; rfl⟩ ?_ ?_⟩
      · rintro j σ H4 hj ⟨rfl, v5, rfl⟩
        refine ⟨_, rfl, _, rfl, _, _, rfl, rfl, wide_mul (hx8 j (by omega)) hx (by decide) (by decide) (by decide), rfl, some (V.int (0 + (j : Int))), ?_⟩
        rw [Int.pow_succ, ← Int.mul_assoc]
        rfl
      · rintro σ H4 ⟨rfl, v5, rfl⟩
        refine ⟨_, rfl, _, rfl, _, _, rfl, rfl, rfl, some (V.int p.1), some (V.int (p.2 * x ^ p.1.toNat)), v5, ?_⟩
        rw [take_snoc hp, valK_snoc]
        rfl
    · rintro σ H2 ⟨rfl, v3, v4, v5, rfl⟩
      refine ⟨upd_same, _, rfl, ?_⟩
      rw [kvV_len, List.take_length, upd_upd, show upd H d (.dK (kvV (kvR a 0))) = H from ?_, show valK (kvR a 0) x = ev x a from ?_]
      · exact q
      · have := valK_kvR x a 0
        rw [Int.pow_zero, Int.one_mul] at this
        exact this
      · funext z
        by_cases c : z = d
        · subst c
          rw [upd_same]
          exact (show H z = _ from hd).symm
        · rw [upd_ne c]
end
end Pk

namespace Pk
open PySem L2 Ow RT PyProof.Rows
/-- a drawn poly's row -/
structure RowF (a : List Int) (la : Int) : Prop where
  t : Trim a la
  r : Rw 9 197 a
  l0 : -400 ≤ la
  l1 : la + a.length ≤ 401
theorem RowF.len {a : List Int} {la : Int} (h : RowF a la) : a.length ≤ 9 := h.r.len
theorem RowF.of {cs a : List Int} {lo la : Int} (t : Tr cs lo a la) (h9 : cs.length ≤ 9) (ok : ∀ c ∈ cs, okC c) (l0 : -400 ≤ lo) (l1 : lo ≤ 391) : RowF a la := by
  have rr : Rw 9 197 a := t.rw ⟨h9, ok⟩
  rcases trim_span (A := lo) (B := lo + 8) t.1 (fun e h => by
    rw [t.2.1] at h
    have := rval_out h
    omega) with e | ⟨e1, e2⟩
  · refine ⟨t.1, rr, ?_, ?_⟩
    · rcases t.1 with ⟨_, z⟩ | ⟨z, _⟩
      · omega
      · exact absurd e z
    · rcases t.1 with ⟨_, z⟩ | ⟨z, _⟩
      · rw [e, z]; decide
      · exact absurd e z
  · exact ⟨t.1, rr, by omega, by omega⟩
theorem RowF.le {a : List Int} {la : Int} (h : RowF a la) : la ≤ 400 := by
  have := h.l1
  rcases h.t with ⟨_, z⟩ | ⟨z, _⟩
  · omega
  · have := List.length_pos_iff.mpr z
    omega
theorem RowF.out {a : List Int} {la e : Int} (h : RowF a la) (z : rval a la e ≠ 0) : -400 ≤ e ∧ e ≤ 400 := by
  have := rval_out z
  have := h.l0
  have := h.l1
  omega
theorem RowF.bits {a : List Int} {la : Int} (h : RowF a la) {n : Nat} (hn : 197 ≤ n) : ∀ c ∈ a, c.natAbs < 2 ^ n := fun c m => Nat.lt_of_lt_of_le (h.r.bd c m) (Nat.pow_le_pow_right (by decide) hn)
theorem RowF.vbd {a : List Int} {la : Int} (h : RowF a la) (e : Int) : (rval a la e).natAbs < 2 ^ 197 := cf_bd h.r.bd _
theorem RowF.kbits {a : List Int} {la : Int} (h : RowF a la) : ∀ p ∈ kvR a la, p.2.natAbs < 2 ^ 1000 := fun p m => h.bits (by decide) _ (kvR_mem m).2.2
theorem RowF.klen {a : List Int} {la : Int} (h : RowF a la) : (kvR a la).length ≤ 9 := Nat.le_trans (kvR_len a la) h.len
theorem RowF.prod {a b : List Int} {la lb : Int} (h : RowF a la) (k : RowF b lb) : ProdOk a b := ⟨9, 9, 197, 197, h.r, k.r, by decide, by decide, by decide, by decide, by decide, by decide⟩
theorem kvt_of {n : KV} (h : Asc n) (k : ∀ e, dv n e ≠ 0 → -2000 ≤ e ∧ e ≤ 2000) : KvT n := ⟨h.nod, h.2, fun p m => k p.1 (by rw [dv_mem h.nod m]; exact h.2 p m)⟩
theorem RowF.kvt {a : List Int} {la : Int} (h : RowF a la) : KvT (kvR a la) := kvt_of (kvR_asc a la) fun e z => by
  rw [dv_kvR] at z
  have := h.out z
  omega
theorem RowF.kvt_sum {a b : List Int} {la lb f : Int} (h : RowF a la) (k : RowF b lb) {n : KV} (an : Asc n) (hv : ∀ e, dv n e = rval a la e + f * rval b lb e) : KvT n := kvt_of an fun e z => by
  rw [hv] at z
  by_cases c : rval a la e = 0
  · have : rval b lb e ≠ 0 := fun y => z (by rw [c, y, Int.mul_zero]; rfl)
    have := k.out this
    omega
  · have := h.out c
    omega
theorem mul_out {a b : List Int} {la lb e : Int} (h : RowF a la) (k : RowF b lb) (z : rval (mulL a b) (la + lb) e ≠ 0) : la + lb ≤ e ∧ e ≤ la + lb + 17 := by
  have := rval_out z
  have := len_mulL_le a b
  have := h.len
  have := k.len
  omega
theorem RowF.kvt_mul {a b : List Int} {la lb : Int} (h : RowF a la) (k : RowF b lb) {n : KV} (an : Asc n) (hv : ∀ e, dv n e = rval (mulL a b) (la + lb) e) : KvT n := kvt_of an fun e z => by
  rw [hv] at z
  have := mul_out h k z
  have := h.l0
  have := k.l0
  have := h.l1
  have := k.l1
  omega
theorem neg_val (a : List Int) (l e : Int) : rval (a.map fun x => -x) l e = -(rval a l e) := by
  have h := scale_val (-1) a l e
  rw [show (a.map fun x => -1 * x) = a.map fun x => -x from by congr 1; funext x; omega] at h
  rw [h]
  omega
theorem eqt {a b : List Int} {lo hi : Int} (h : a = b ∧ lo = hi) : (decide (lo = hi) && decide (a = b)) = true := by
  obtain ⟨rfl, rfl⟩ := h
  simp
theorem span_ok {a b : List Int} {la lb : Int} (h : RowF a la) (k : RowF b lb) : (highS a b la lb + 1 - lowS2 la lb).toNat ≤ 900 := by
  have := h.len
  have := k.len
  have := h.l0
  have := h.l1
  have := k.l0
  have := k.l1
  unfold highS lowS2
  split <;> split <;> omega
/-- what stands while the case runs -/
structure RS (K : PySem.W.Frag) (C : Addr) (H : Hp) (p r1 r2 d1 d2 : Addr) (a b : List Int) (la lb : Int) : Prop where
  bas : BasAt H p
  one : PolyAt K C H r1 a la
  oth : PolyAt K C H r2 b lb
  dl : DA H d1 (kvR a la)
  dr : DA H d2 (kvR b lb)
theorem RS.same {K : PySem.W.Frag} {C : Addr} {H H' : Hp} {p r1 r2 d1 d2 : Addr} {a b : List Int} {la lb : Int} (h : RS K C H p r1 r2 d1 d2 a b la lb) (s : Same H H') : RS K C H' p r1 r2 d1 d2 a b la lb := ⟨h.bas.same s, h.one.same s, h.oth.same s, h.dl.same s, h.dr.same s⟩
theorem TI.but {K : PySem.W.Frag} {H H' : Hp} {p : Addr} {v : V} {ns : List Int} (h : TI K H v ns) (o : But p H H') (b : BasAt H p) : TI K H' v ns := by
  obtain ⟨b0, b1, b2, e⟩ := b
  obtain ⟨a, rfl, q⟩ := h
  exact ⟨a, rfl, o.sqT e q⟩
theorem PolyAt.but {K : PySem.W.Frag} {C r : Addr} {H H' : Hp} {p : Addr} {a : List Int} {la : Int} (h : PolyAt K C H r a la) (o : But p H H') (b : BasAt H p) : PolyAt K C H' r a la := by
  obtain ⟨dx, kv, g, t⟩ := h
  refine ⟨dx, kv, o _ _ (fun e => ?_) g, t.but o b⟩
  obtain ⟨b0, b1, b2, eb⟩ := b
  rw [e, eb] at g
  cases g
theorem DA.but {d : Addr} {H H' : Hp} {p : Addr} {l : KV} (h : DA H d l) (o : But p H H') (b : BasAt H p) : DA H' d l := by
  refine o _ _ (fun e => ?_) h
  obtain ⟨b0, b1, b2, eb⟩ := b
  rw [e] at h
  have : H p = _ := h
  rw [eb] at this
  cases this
theorem PairAt.but {K : PySem.W.Frag} {H H' : Hp} {p : Addr} {z : V} {a : List Int} {la : Int} (h : PairAt K H z a la) (o : But p H H') (b : BasAt H p) : PairAt K H' z a la := by
  obtain ⟨q, v, rfl, hq, t⟩ := h
  refine ⟨q, v, rfl, ?_, t.but o b⟩
  obtain ⟨b0, b1, b2, e⟩ := b
  exact o.sqT e hq
theorem PairAt.same {K : PySem.W.Frag} {H H' : Hp} {z : V} {a : List Int} {la : Int} (h : PairAt K H z a la) (s : Same H H') : PairAt K H' z a la := by
  obtain ⟨q, v, rfl, hq, t⟩ := h
  exact ⟨q, v, rfl, sqT_same s hq, t.same s⟩
theorem RS.but {K : PySem.W.Frag} {C : Addr} {H H' : Hp} {p r1 r2 d1 d2 : Addr} {a b : List Int} {la lb : Int} (h : RS K C H p r1 r2 d1 d2 a b la lb) (o : But p H H') (b' : BasAt H' p) : RS K C H' p r1 r2 d1 d2 a b la lb := ⟨b', h.one.but o h.bas, h.oth.but o h.bas, h.dl.but o h.bas, h.dr.but o h.bas⟩
theorem But.mono {p : Addr} {H H1 H2 : Hp} (a : But p H H1) (s : Same H1 H2) : But p H H2 := fun q o n h => s _ _ (a q o n h)
end Pk

namespace Pk
open PySem L2 Ow RT PyProof.Rows
theorem iteB {k : Bool} {A B : Prop} (e : k = true) (h : A) : if k = true then A else B := by rw [if_pos e]; exact h
theorem prod_place {a b c : List Int} {la lb l : Int} (h : RowF a la) (k : RowF b lb) (t : Tr (prodL a b) (la + lb) c l) : Rw 18 398 c ∧ (c = [] ∧ l = 0 ∨ la + lb ≤ l ∧ l + c.length - 1 ≤ la + lb + 17) := by
  have h9 := h.len
  have k9 := k.len
  refine ⟨t.rw ⟨by have := prod_len a b; omega, prod_bd h.r.bd k.r.bd (k := 4) (by show _ ≤ 16; omega)⟩, ?_⟩
  rcases trim_span (A := la + lb) (B := la + lb + 17) t.1 (fun e z => by rw [t.2.1, prod_val] at z; exact mul_out h k z) with e | e
  · left
    rcases t.1 with ⟨_, z⟩ | ⟨z, _⟩
    · exact ⟨e, z⟩
    · exact absurd e z
  · exact .inr e
def spRight (K : PySem.W.Frag) : Sp := fun vs H Q _ => ∃ p : Addr, vs = [.ref p] ∧ BasAt H p ∧ ∀ H', But p H H' → BasAt H' p → Q (.bl true) H'
theorem dv_map (f g : Int → Int) (h : ∀ x y, f x = y ↔ x = g y) (l : KV) (e : Int) : dv (l.map fun p => (f p.1, p.2)) e = dv l (g e) := by
  induction l with
  | nil => rfl
  | cons p l ih =>
    obtain ⟨k, v⟩ := p
    rw [List.map_cons, dv_cons, dv_cons, ih]
    by_cases c : f k = e
    · rw [if_pos c, if_pos ((h k e).mp c)]
    · rw [if_neg c, if_neg fun z => c ((h k e).mpr z)]
theorem KvT.mapped {l : KV} (h : KvT l) {f : Int → Int} (inj : ∀ x y, f x = f y → x = y) (r : ∀ p ∈ l, -2000 ≤ f p.1 ∧ f p.1 ≤ 2000) : KvT (l.map fun p => (f p.1, p.2)) :=
  ⟨h.nd.map inj, fun p m => by obtain ⟨q, hq, rfl⟩ := List.mem_map.mp m; exact h.nz q hq, fun p m => by obtain ⟨q, hq, rfl⟩ := List.mem_map.mp m; exact r q hq⟩
theorem RowF.krg {a : List Int} {la : Int} (h : RowF a la) : ∀ p ∈ kvR a la, -400 ≤ p.1 ∧ p.1 ≤ 400 := fun p m => by
  have := kvR_mem m
  have := h.l0
  have := h.l1
  omega
theorem m_no {m : Str} (h : (!(m == "_lowest")) && (!(m == "_coefficients")) = true) : ¬ m = "_lowest" ∧ ¬ m = "_coefficients" := by
  simp at h
  exact h
theorem kvR_shift (d : Int) : ∀ (a : List Int) (lo : Int), (kvR a lo).map (fun p => (p.1 + d, p.2)) = kvR a (lo + d)
  | [], _ => rfl
  | x :: a, lo => by
    have ih := kvR_shift d a (lo + 1)
    rw [show lo + 1 + d = lo + d + 1 by omega] at ih
    rw [kvR, kvR]
    split
    · exact ih
    · rw [List.map_cons, ih]
theorem Trim.zero {a : List Int} {la : Int} (h : Trim a la) : Trim a 0 := by
  rcases h with ⟨e, _⟩ | h
  · exact .inl ⟨e, rfl⟩
  · exact .inr h
/-- the dict read from its other end -/
def revK (l : KV) (M : Int) : KV := (l.map fun p => (M - p.1, p.2)).reverse
theorem find_rev_none {l : KV} {e : Int} : dvo l.reverse e = none ↔ dvo l e = none := by
  rw [dvo_none, dvo_none]
  simp
theorem dv_revK {l : KV} (h : NoD l) (M e : Int) : dv (revK l M) e = dv l (M - e) := by
  have nd : NoD (l.map fun p => (M - p.1, p.2)) := h.map (f := fun x => M - x) fun x y e => by omega
  have nr : NoD (revK l M) := by
    unfold revK NoD
    rw [List.map_reverse]
    exact List.pairwise_reverse.mpr (nd.imp fun h => h.symm)
  have key : dv (revK l M) e = dv (l.map fun p => (M - p.1, p.2)) e := by
    rw [dv_dvo, dv_dvo]
    cases c : dvo (revK l M) e with
    | none =>
      unfold revK at c
      rw [find_rev_none] at c
      rw [c]
    | some v =>
      have := mem_dvo c
      unfold revK at this
      have q := dvo_mem nd (List.mem_reverse.mp this)
      rw [q]
  rw [key, dv_map (fun x => M - x) (fun x => M - x) (fun x y => ⟨fun h => by omega, fun h => by omega⟩)]
theorem revK_asc {l : KV} (h : Asc l) (M : Int) : Asc (revK l M) := by
  refine ⟨?_, fun p m => ?_⟩
  · unfold revK
    rw [List.pairwise_reverse, List.pairwise_map]
    exact h.1.imp fun h => by show _ < _; omega
  · unfold revK at m
    obtain ⟨q, hq, rfl⟩ := List.mem_map.mp (List.mem_reverse.mp m)
    exact h.2 q hq
theorem revK_keys (l : KV) (M : Int) : (revK l M).map (·.1) = ((l.map (·.1)).map fun k => M - k).reverse := by
  unfold revK
  rw [List.map_reverse, List.map_map, List.map_map]
  rfl
theorem revK_vals (l : KV) (M : Int) : (revK l M).map (·.2) = (l.map (·.2)).reverse := by
  unfold revK
  rw [List.map_reverse, List.map_map]
  rfl
theorem kv_ext : ∀ {l m : KV}, l.map (·.1) = m.map (·.1) → l.map (·.2) = m.map (·.2) → l = m
  | [], [], _, _ => rfl
  | [], _ :: _, h, _ => by cases h
  | _ :: _, [], h, _ => by cases h
  | (k, v) :: l, (j, u) :: m, h1, h2 => by
    rw [List.map_cons, List.map_cons] at h1 h2
    obtain ⟨e1, t1⟩ := List.cons.inj h1
    obtain ⟨e2, t2⟩ := List.cons.inj h2
    rw [show k = j from e1, show v = u from e2, kv_ext t1 t2]
/-- alike from both ends, by the dict -/
theorem alike_iff {a : List Int} : a = a.reverse ↔ ((kvR a 0).map (·.2) = ((kvR a 0).map (·.2)).reverse ∧ (kvR a 0).map (·.1) = (((kvR a 0).map (·.1)).map fun k => ((a.length : Int) - 1) - k).reverse) := by
  have h1 : a = a.reverse ↔ ∀ e, dv (kvR a 0) e = dv (kvR a 0) (((a.length : Int) - 1) - e) := by
    rw [rev_val (lo := 0)]
    constructor
    · intro h e
      rw [dv_kvR, dv_kvR]
      unfold rval
      rw [Int.sub_zero, Int.sub_zero]
      exact h e
    · intro h e
      have := h e
      rw [dv_kvR, dv_kvR] at this
      unfold rval at this
      rw [Int.sub_zero, Int.sub_zero] at this
      exact this
  have h2 : (∀ e, dv (kvR a 0) e = dv (kvR a 0) (((a.length : Int) - 1) - e)) ↔ kvR a 0 = revK (kvR a 0) ((a.length : Int) - 1) := by
    constructor
    · intro h
      exact asc_eq (kvR_asc a 0) (revK_asc (kvR_asc a 0) _) fun e => by rw [h, dv_revK (kvR_asc a 0).nod]
    · intro h e
      rw [← dv_revK (kvR_asc a 0).nod, ← h]
  rw [h1, h2]
  constructor
  · intro h
    rw [← revK_vals _ ((a.length : Int) - 1), ← revK_keys, ← h]
    exact ⟨rfl, rfl⟩
  · intro ⟨h3, h4⟩
    exact kv_ext (by rw [revK_keys]; exact h4) (by rw [revK_vals]; exact h3)
theorem sub_asc : ∀ {l m : KV}, l.Pairwise (fun p q => p.1 < q.1) → m.Pairwise (fun p q => p.1 < q.1) → (∀ p ∈ l, p ∈ m) → l.Sublist m
  | [], m, _, _, _ => List.nil_sublist m
  | p :: l, [], _, _, h => by cases h p List.mem_cons_self
  | p :: l, q :: m, hl, hm, h => by
    have hl' := List.pairwise_cons.mp hl
    have hm' := List.pairwise_cons.mp hm
    rcases List.mem_cons.mp (h p List.mem_cons_self) with e | e
    · subst e
      refine List.Sublist.cons_cons _ (sub_asc hl'.2 hm'.2 fun r mr => ?_)
      rcases List.mem_cons.mp (h r (List.mem_cons_of_mem _ mr)) with c | c
      · have := hl'.1 r mr
        rw [c] at this
        omega
      · exact c
    · have pq := hm'.1 p e
      refine List.Sublist.cons _ (sub_asc hl hm'.2 fun r mr => ?_)
      rcases List.mem_cons.mp (h r mr) with c | c
      · rcases List.mem_cons.mp mr with d | d
        · rw [d]; exact e
        · have := hl'.1 r d
          rw [c] at this
          omega
      · exact c
/-- equal dicts, by the rows -/
theorem eqKV_iff {l m : KV} (hl : Asc l) (hm : Asc m) : (decide (l.length = m.length) && eqKV l m) = decide (l = m) := by
  by_cases c : l = m
  · subst c
    rw [decide_eq_true rfl, decide_eq_true rfl, Bool.true_and]
    unfold eqKV
    rw [List.all_eq_true]
    intro p hp
    rw [dvo_mem hl.nod hp]
    exact beq_self_eq_true _
  · rw [decide_eq_false c, Bool.and_eq_false_iff]
    by_cases d : l.length = m.length
    · right
      rw [Bool.eq_false_iff]
      intro z
      unfold eqKV at z
      rw [List.all_eq_true] at z
      refine c ((sub_asc hl.1 hm.1 fun p hp => ?_).eq_of_length d)
      have := z p hp
      exact mem_dvo (beq_iff_eq.mp this)
    · left
      exact decide_eq_false d
theorem row_iff {a b : List Int} {la lb : Int} (ha : Trim a la) (hb : Trim b lb) : (decide (la = lb) && decide (a = b)) = decide (kvR a la = kvR b lb) := by
  by_cases c : kvR a la = kvR b lb
  · rw [decide_eq_true c]
    exact eqt (trim_eq ha hb fun e => by rw [← dv_kvR, ← dv_kvR, c])
  · rw [decide_eq_false c, Bool.and_eq_false_iff]
    by_cases d : la = lb
    · right
      refine decide_eq_false fun e => c ?_
      rw [e, d]
    · left
      exact decide_eq_false d
section
variable {P : Program} {w : World} {K : PySem.W.Frag} {mg : Str → Option Value} {base : Heap} {C : Addr}
theorem cal_right (T : Txt K mg C) : Cal P w K mg base "_law_right" 16 (spRight K) := by
  refine T.d_l_right.cal (ps := ["_law_basin_here"]) (fun f fd D => ?_) (fun _ _ _ _ _ _ us hl => match us, hl with | [_], _ => rfl)
  refine D.ok sc_l_right (fun vs H Q E h => ?_) (fun cdv A outer s H0 vs Q E hr h => ?_)
  · obtain ⟨p, rfl, _⟩ := h
    rfl
  · obtain ⟨p, rfl, hb, q⟩ := h
    refine ⟨_, (pss_cons (ps_par (i := 1) (j := 2) rfl sc_l_right.nd rfl rfl (by decide) rfl rfl (pa_cons (pe_cal (cal_drawn_poly T) (hr.mono (by decide)) (by rfl) (pa_cons (pv 0) pa_nil)) (pa_cons (pe_cal (cal_drawn_poly T) (hr.mono (by decide)) (by rfl) (pa_cons (pv 0) pa_nil)) pa_nil)) rfl)
      (pss_cons (ps_par (i := 3) (j := 4) rfl sc_l_right.nd rfl rfl (by decide) rfl rfl (pa_cons (pe_poly T (hr.mono (by decide)) (by rfl) (pa_cons (pe_ix ix_tup (pv 1) pe_int (fun _ _ => rfl)) (pa_cons (pe_ix ix_tup (pv 1) pe_int (fun _ _ => rfl)) pa_nil))) (pa_cons (pe_poly T (hr.mono (by decide)) (by rfl) (pa_cons (pe_ix ix_tup (pv 2) pe_int (fun _ _ => rfl)) (pa_cons (pe_ix ix_tup (pv 2) pe_int (fun _ _ => rfl)) pa_nil))) pa_nil)) rfl)
      (pss_cons (ps_asg (pe_tup (pa_cons (pe_cal (cal_of_row T) (hr.mono (by decide)) (by rfl) (pa_cons (pe_ix ix_tup (pv 1) pe_int (fun _ _ => rfl)) (pa_cons (pe_ix ix_tup (pv 1) pe_int (fun _ _ => rfl)) pa_nil))) (pa_cons (pe_cal (cal_of_row T) (hr.mono (by decide)) (by rfl) (pa_cons (pe_ix ix_tup (pv 2) pe_int (fun _ _ => rfl)) (pa_cons (pe_ix ix_tup (pv 2) pe_int (fun _ _ => rfl)) pa_nil))) pa_nil))) (pg_tup (by rfl) (pgs_cons (pg_name (i := 5) sc_l_right.nd rfl (Or.inr rfl)) (pgs_cons (pg_name (i := 6) sc_l_right.nd rfl (Or.inl rfl)) pgs_nil))))
      (pss_cons (ps_if (PW.pt (pw_or (pt_not (pt_val (pe_cal (cal_is_told T) (hr.mono (by decide)) (by rfl) (pa_cons (pv 3) (pa_cons (pv 5) pa_nil))))) (pw_or1 (pt_not (pt_val (pe_cal (cal_is_told T) (hr.mono (by decide)) (by rfl) (pa_cons (pe_op (op_gAdd T (hr.mono (by decide))) (pv 3) (pv 4)) (pa_cons (pe_cal (cal_plus T) (hr.mono (by decide)) (by rfl) (pa_cons (pv 5) (pa_cons (pv 6) (pa_cons pe_int pa_nil)))) pa_nil)))))))) (pss_one (ps_ret pe_bl)) pss_nil)
      (pss_cons (ps_if (PW.pt (pw_or (pt_not (pt_val (pe_cal (cal_is_told T) (hr.mono (by decide)) (by rfl) (pa_cons (pe_op (op_gSub T (hr.mono (by decide))) (pv 3) (pv 4)) (pa_cons (pe_cal (cal_plus T) (hr.mono (by decide)) (by rfl) (pa_cons (pv 5) (pa_cons (pv 6) (pa_cons (pe_un un_neg pe_int) pa_nil)))) pa_nil))))) (pw_or1 (pt_not (pt_val (pe_cal (cal_is_told T) (hr.mono (by decide)) (by rfl) (pa_cons (pe_un (un_gNeg T (hr.mono (by decide))) (pv 3)) (pa_cons (pe_cal (cal_plus T) (hr.mono (by decide)) (by rfl) (pa_cons pe_dnewK (pa_cons (pv 5) (pa_cons (pe_un un_neg pe_int) pa_nil)))) pa_nil)))))))) (pss_one (ps_ret pe_bl)) pss_nil)
      (pss_cons (ps_if (PW.pt (pw_or (pt_not (pt_val (pe_cal (cal_is_told T) (hr.mono (by decide)) (by rfl) (pa_cons (pe_op (op_gMult T (hr.mono (by decide))) (pv 3) (pv 4)) (pa_cons (pe_cal (cal_times T) (hr.mono (by decide)) (by rfl) (pa_cons (pv 5) (pa_cons (pv 6) pa_nil))) pa_nil))))) (pw_or1 (pt_cmpR (op_gNotEq T (hr.mono (by decide))) (pe_op (op_gMult T (hr.mono (by decide))) (pv 3) (pv 4)) (pe_op (op_gMult T (hr.mono (by decide))) (pv 4) (pv 3)) (nomark _))))) (pss_one (ps_ret pe_bl)) pss_nil)
      (pss_cons (ps_set (i := 7) sc_l_right.nd rfl (Or.inl rfl) (pe_callTy (call_dictP rfl) (by rfl) T.b_dict (by decide +kernel) (pa_cons (pe_lock (pe_lc (own := [("_law_exponent", 8)]) (g := gName 8) (tt := tYes) rfl sc_l_right.nd (pi_keys (pv 5)) (blkOk_by (own := [("_law_exponent", 8)]) (N := ["_law_basin_here", "_law_first", "_law_second", "_law_one", "_law_other", "_law_left", "_law_right_here", "_law_turned", "_law_exponent", "_law_by", "_law_many", "_law_number_here", "_law_low", "_law_alike"]) (sc := defScope s_l_right) (by decide +kernel)) (fun _ _ _ _ _ => (pg_name (i := 8) sc_l_right.nd rfl (Or.inl rfl))) (fun _ _ _ _ _ => pts_nil) (fun _ _ _ _ _ => (pe_tup (pa_cons (pe_op op_sub pe_int (pv 8)) (pa_cons (pe_dget (hu_of hr) (pv 5) (pv 8) (fun _ _ => rfl)) pa_nil)))))) pa_nil)))
      (pss_cons (ps_par (i := 9) (j := 10) rfl sc_l_right.nd rfl rfl (by decide) rfl rfl (pa_cons (pe_cal (cal_one_of T) (hr.mono (by decide)) (by rfl) (pa_cons (pv 0) (pa_cons (pe_lst (pa_cons pe_int (pa_cons pe_int (pa_cons (pe_un un_neg pe_int) (pa_cons pe_int (pa_cons (pe_un un_neg pe_int) (pa_cons pe_int pa_nil))))))) pa_nil))) (pa_cons (pe_cal (cal_scoop T) (hr.mono (by decide)) (by rfl) (pa_cons (pv 0) (pa_cons pe_int pa_nil))) pa_nil)) rfl)
      (pss_cons (ps_if (PW.pt (pw_or (pt_not (pt_val (pe_cal (cal_is_told T) (hr.mono (by decide)) (by rfl) (pa_cons (pe_m_turned T (hr.mono (by decide)) (pv 3)) (pa_cons (pv 7) pa_nil))))) (pw_or1 (pt_not (pt_val (pe_cal (cal_is_told T) (hr.mono (by decide)) (by rfl) (pa_cons (pe_m_moved T (hr.mono (by decide)) (pv 3) (pa_cons (pv 9) pa_nil)) (pa_cons (pe_cal (cal_moved T) (hr.mono (by decide)) (by rfl) (pa_cons (pv 5) (pa_cons (pv 9) pa_nil))) pa_nil)))))))) (pss_one (ps_ret pe_bl)) pss_nil)
      (pss_cons (ps_if (PW.pt (pw_or (pt_not (pt_val (pe_cal (cal_is_told T) (hr.mono (by decide)) (by rfl) (pa_cons (pe_m_raised T (hr.mono (by decide)) (pv 3) (pa_cons (pv 10) pa_nil)) (pa_cons (pe_cal (cal_l_power T) (hr.mono (by decide)) (by rfl) (pa_cons (pv 5) (pa_cons (pv 10) pa_nil))) pa_nil))))) (pw_or1 (pt_cmpR (op_gNotEq T (hr.mono (by decide))) (pe_m_turned T (hr.mono (by decide)) (pe_m_turned T (hr.mono (by decide)) (pv 3))) (pv 3) (nomark _))))) (pss_one (ps_ret pe_bl)) pss_nil)
      (pss_cons (ps_if (PW.pt (pw_or (pt_cmpR (op_gNotEq T (hr.mono (by decide))) (pe_m_turned T (hr.mono (by decide)) (pe_op (op_gMult T (hr.mono (by decide))) (pv 3) (pv 4))) (pe_op (op_gMult T (hr.mono (by decide))) (pe_m_turned T (hr.mono (by decide)) (pv 3)) (pe_m_turned T (hr.mono (by decide)) (pv 4))) (nomark _)) (pw_or1 (pt_cmpR (op_gNotEq T (hr.mono (by decide))) (pe_op (op_gMult T (hr.mono (by decide))) (pe_m_moved T (hr.mono (by decide)) (pv 3) (pa_cons (pv 9) pa_nil)) (pv 4)) (pe_m_moved T (hr.mono (by decide)) (pe_op (op_gMult T (hr.mono (by decide))) (pv 3) (pv 4)) (pa_cons (pv 9) pa_nil)) (nomark _))))) (pss_one (ps_ret pe_bl)) pss_nil)
      (pss_cons (ps_set (i := 11) sc_l_right.nd rfl (Or.inl rfl) (pe_cal (cal_one_of T) (hr.mono (by decide)) (by rfl) (pa_cons (pv 0) (pa_cons (pe_lst (pa_cons pe_int (pa_cons pe_int (pa_cons (pe_un un_neg pe_int) (pa_cons pe_int (pa_cons (pe_un un_neg pe_int) (pa_cons (pe_op op_pow pe_int pe_int) pa_nil))))))) pa_nil))))
      (C8.pss_cut (ps_set (i := 12) sc_l_right.nd rfl (Or.inr rfl) (pe_ifExp (pt_cmpR (op_neI hr.units0) (pv 5) pe_dnewK (nomark _)) (pe_cal (cal_moved T) (hr.mono (by decide)) (by rfl) (pa_cons (pv 5) (pa_cons (pe_op op_sub pe_int (pe_callB (cr_minI rfl) (by rfl) T.b_min (by decide +kernel) (pa_cons (pv 5) pa_nil))) pa_nil))) pe_dnewK))
      (pss_cons (ps_if (PW.pt (pw_or (pt_cmpR op_ne (pe_m_value_at T (hr.mono (by decide)) (pe_m_moved T (hr.mono (by decide)) (pv 3) (pa_cons (pe_op op_sub pe_int (pe_pL T (hr.mono (by decide)) (pv 3))) pa_nil)) (pa_cons (pv 11) pa_nil)) (pe_cal (cal_l_value T) (hr.mono (by decide)) (by rfl) (pa_cons (pv 12) (pa_cons (pv 11) pa_nil))) (nomark _)) (pw_or1 (pt_cmpR op_ne (pe_m_value_at T (hr.mono (by decide)) (pe_poly T (hr.mono (by decide)) (by rfl) (pa_cons (pe_tup pa_nil) pa_nil)) (pa_cons (pv 11) pa_nil)) pe_int (nomark _))))) (pss_one (ps_ret pe_bl)) pss_nil)
      (C8.pss_cut (ps_set (i := 13) sc_l_right.nd rfl (Or.inl rfl) (pe_cmpR (op_eqD hr.units) (pe_lock (pe_lc (own := [("_law_exponent", 8)]) (g := gName 8) (tt := tYes) rfl sc_l_right.nd (pi_keys (pv 12)) (blkOk_by (own := [("_law_exponent", 8)]) (N := ["_law_basin_here", "_law_first", "_law_second", "_law_one", "_law_other", "_law_left", "_law_right_here", "_law_turned", "_law_exponent", "_law_by", "_law_many", "_law_number_here", "_law_low", "_law_alike"]) (sc := defScope s_l_right) (by decide +kernel)) (fun _ _ _ _ _ => (pg_name (i := 8) sc_l_right.nd rfl (Or.inl rfl))) (fun _ _ _ _ _ => pts_nil) (fun _ _ _ _ _ => (pe_dget (hu_of hr) (pv 12) (pv 8) (fun _ _ => rfl))))) (pe_revL (pe_lock (pe_lc (own := [("_law_exponent", 8)]) (g := gName 8) (tt := tYes) rfl sc_l_right.nd (pi_keys (pv 12)) (blkOk_by (own := [("_law_exponent", 8)]) (N := ["_law_basin_here", "_law_first", "_law_second", "_law_one", "_law_other", "_law_left", "_law_right_here", "_law_turned", "_law_exponent", "_law_by", "_law_many", "_law_number_here", "_law_low", "_law_alike"]) (sc := defScope s_l_right) (by decide +kernel)) (fun _ _ _ _ _ => (pg_name (i := 8) sc_l_right.nd rfl (Or.inl rfl))) (fun _ _ _ _ _ => pts_nil) (fun _ _ _ _ _ => (pe_dget (hu_of hr) (pv 12) (pv 8) (fun _ _ => rfl)))))) (nomark _)))
      (C8.pss_cut (ps_set (i := 13) sc_l_right.nd rfl (Or.inl rfl) (pe_ifExp (pt_cmpR (op_neI hr.units0) (pv 12) pe_dnewK (nomark _)) (pe_and (pv 13) (pe_one (pe_cmpR (op_eqD hr.units) (pe_callB (call_sortedDI rfl) (by rfl) T.b_sorted (by decide +kernel) (pa_cons (pv 12) pa_nil)) (pe_callB cr_sorted (by rfl) T.b_sorted (by decide +kernel) (pa_cons (pe_lock (pe_lc (own := [("_law_exponent", 8)]) (g := gName 8) (tt := tYes) rfl sc_l_right.nd (pi_keys (pv 12)) (blkOk_by (own := [("_law_exponent", 8)]) (N := ["_law_basin_here", "_law_first", "_law_second", "_law_one", "_law_other", "_law_left", "_law_right_here", "_law_turned", "_law_exponent", "_law_by", "_law_many", "_law_number_here", "_law_low", "_law_alike"]) (sc := defScope s_l_right) (by decide +kernel)) (fun _ _ _ _ _ => (pg_name (i := 8) sc_l_right.nd rfl (Or.inl rfl))) (fun _ _ _ _ _ => pts_nil) (fun _ _ _ _ _ => (pe_op op_sub (pe_callB (cr_maxI rfl) (by rfl) T.b_max (by decide +kernel) (pa_cons (pv 12) pa_nil)) (pv 8))))) pa_nil)) (nomark _)))) pe_bl))
      (pss_cons (ps_if (PW.pt (pw_or (pt_cmpR op_ne (pe_pT T (hr.mono (by decide)) (pv 3)) (pv 13) (nomark _)) (pw_or (pt_cmpR op_ne (pe_cmpR (op_gEq T (hr.mono (by decide))) (pv 3) (pv 4) (nomark _)) (pe_cmpR (op_eqI hr.units0) (pv 5) (pv 6) (nomark _)) (nomark _)) (pw_or (pt_cmpR (op_gEqX T (hr.mono (by decide))) (pv 3) (pv 5) (nomark _)) (pw_or1 (pt_cmpR (op_gEqX T (hr.mono (by decide))) (pv 3) (pe_ix ix_tup (pv 1) pe_int (fun _ _ => rfl)) (nomark _))))))) (pss_one (ps_ret pe_bl)) pss_nil)
      (pss_one (ps_ret (pe_and (pe_cmpR (op_gEq T (hr.mono (by decide))) (pe_op (op_gMult T (hr.mono (by decide))) (pv 3) (pe_op (op_gAdd T (hr.mono (by decide))) (pv 4) (pv 3))) (pe_op (op_gAdd T (hr.mono (by decide))) (pe_op (op_gMult T (hr.mono (by decide))) (pv 3) (pv 4)) (pe_op (op_gMult T (hr.mono (by decide))) (pv 3) (pv 3))) (nomark _)) (pe_and (pe_cmpR (op_gEq T (hr.mono (by decide))) (pe_op (op_gSub T (hr.mono (by decide))) (pv 3) (pv 3)) (pe_poly T (hr.mono (by decide)) (by rfl) (pa_cons (pe_tup pa_nil) pa_nil)) (nomark _)) (pe_one (pe_cmpR (op_gEq T (hr.mono (by decide))) (pe_op (op_gAdd T (hr.mono (by decide))) (pv 3) (pe_poly T (hr.mono (by decide)) (by rfl) (pa_cons (pe_tup pa_nil) (pa_cons pe_int pa_nil)))) (pv 3) (nomark _)))))))))))))))))))))))), ?_⟩
    refine ⟨_, rfl, p, rfl, hb, fun z1 cs1 lo1 H1 o1 b1 pr1 l1 ok1 a1 c1 => ⟨_, rfl, p, rfl, b1, fun z2 cs2 lo2 H2 o2 b2 pr2 l2 ok2 a2 c2 => ⟨_, _, rfl, ?_⟩⟩⟩
    replace pr1 := pr1.but o2 b1
    have B2 := o1.trans o2
    obtain ⟨q1, v1, rfl, hq1, ht1⟩ := id pr1
    obtain ⟨q2, v2, rfl, hq2, ht2⟩ := id pr2
    refine ⟨_, rfl, q1, _, _, _, rfl, rfl, hq1, rfl, _, rfl, q1, _, _, _, rfl, rfl, hq1, rfl, v1, cs1, lo1, .inl rfl, ht1, by omega, fun c m => (ok1 c m).rng, by omega, by omega, fun a la tr1 r1 H3 s3 n3 p3 => ?_⟩
    refine ⟨_, rfl, q2, _, _, _, rfl, rfl, sqT_same s3 hq2, rfl, _, rfl, q2, _, _, _, rfl, rfl, sqT_same s3 hq2, rfl, v2, cs2, lo2, .inl rfl, ht2.same s3, by omega, fun c m => (ok2 c m).rng, by omega, by omega, fun b lb tr2 r2 H4 s4 n4 p4 => ⟨_, _, rfl, ?_⟩⟩
    have fa := RowF.of tr1 l1 ok1 a1 c1
    have fb := RowF.of tr2 l2 ok2 a2 c2
    have s34 := s3.trans s4
    have ka : kvR cs1 lo1 = kvR a la := asc_eq (kvR_asc _ _) (kvR_asc _ _) fun e => by rw [dv_kvR, dv_kvR, tr1.2.1]
    have kb : kvR cs2 lo2 = kvR b lb := asc_eq (kvR_asc _ _) (kvR_asc _ _) fun e => by rw [dv_kvR, dv_kvR, tr2.2.1]
    refine ⟨_, rfl, q1, _, _, _, rfl, rfl, sqT_same s34 hq1, rfl, _, rfl, q1, _, _, _, rfl, rfl, sqT_same s34 hq1, rfl, v1, cs1, lo1, rfl, ht1.same s34, by omega, fun d1 H5 s5 n5 hd1 => ?_⟩
    refine ⟨_, rfl, q2, _, _, _, rfl, rfl, sqT_same (s34.trans s5) hq2, rfl, _, rfl, q2, _, _, _, rfl, rfl, sqT_same (s34.trans s5) hq2, rfl, v2, cs2, lo2, rfl, ht2.same (s34.trans s5), by omega, fun d2 H6 s6 n6 hd2 => ?_⟩
    refine ⟨show 2 ≤ sizeLine by decide, fun t nt => ⟨t, _, rfl, .of upd_same, rfl, _, _, rfl, _, _, rfl, rfl, ?_⟩⟩
    rw [ka] at hd1
    rw [kb] at hd2
    have nd12 : d1 ≠ d2 := fun e => by
      rw [← e] at n6
      rw [show H5 d1 = _ from hd1] at n6
      cases n6
    have s7 := same_new (o := .tup [.ref d1, .ref d2]) nt
    have s37 := s34.trans (s5.trans (s6.trans s7))
    have R : RS K C (upd H6 t (.tup [.ref d1, .ref d2])) p r1 r2 d1 d2 a b la lb := ⟨b2.same s37, p3.same (s4.trans (s5.trans (s6.trans s7))), p4.same (s5.trans (s6.trans s7)), hd1.same (s6.trans s7), hd2.same s7⟩
    have F1 : PairAt K (upd H6 t (.tup [.ref d1, .ref d2])) (.ref q1) cs1 lo1 := pr1.same s37
    have B7 : But p H0 (upd H6 t (.tup [.ref d1, .ref d2])) := B2.mono s37
    generalize upd H6 t (.tup [.ref d1, .ref d2]) = H at *
    clear s3 s4 s5 s6 s7 s37 s34 hd1 hd2 n3 n4 n5 n6 p3 p4 hq1 hq2 ht1 ht2 pr1 pr2 B2 o1 o2 b1 b2 nt
    -- one, one + other
    refine ⟨_, rfl, _, rfl, r1, d1, a, la, _, rfl, R.one, fa.t, R.dl, fa.kvt, fun e => (dv_kvR a la e).symm, fun H1 s1 => ⟨_, rfl, iteNT' rfl ?_⟩⟩
    replace R := R.same s1
    replace F1 := F1.same s1
    replace B7 := B7.mono s1
    clear s1
    obtain ⟨dx, kx, g1, _⟩ := id R.one
    obtain ⟨dy, ky, g2, _⟩ := id R.oth
    have xa := fa.l0
    have ya := fa.l1
    have xb := fb.l0
    have yb := fb.l1
    have na := fa.len
    have nb := fb.len
    refine ⟨_, rfl, _, rfl, r1, r2, dx, _, dy, _, rfl, rfl, g1, g2, r1, r2, a, b, la, lb, rfl, R.one, R.oth, fa.t, fa.bits (by decide), fb.bits (by decide), by omega, by omega, by omega, by omega, by omega, by omega, span_ok fa fb, fun c l tc vc r3 H2 s2 pc => ?_⟩
    refine ⟨_, rfl, _, rfl, d1, d2, _, _, 1, rfl, R.dl.same s2, R.dr.same s2, fa.kvt.nd, fb.kvt.nd, Nat.le_trans fa.klen (by decide), Nat.le_trans fb.klen (by decide), .inl rfl, fb.kbits, fun d3 H3 n s3 _ hn an _ hv => ?_⟩
    simp only [dv_kvR] at hv
    refine ⟨r3, d3, c, l, n, rfl, pc.same s3, tc, hn, fa.kvt_sum fb an hv, fun e => (vc e).trans (hv e).symm, fun H4 s4 => ⟨_, rfl, iteNT' rfl ?_⟩⟩
    have s14 := s2.trans (s3.trans s4)
    replace R := R.same s14
    replace F1 := F1.same s14
    replace B7 := B7.mono s14
    clear s14 s2 s3 s4 hn an hv tc vc pc g1 g2
    -- one - other, - one
    obtain ⟨dx, kx, g1, _⟩ := id R.one
    obtain ⟨dy, ky, g2, _⟩ := id R.oth
    refine ⟨_, rfl, _, rfl, r1, r2, dx, _, dy, _, rfl, rfl, g1, g2, r1, r2, a, b, la, lb, rfl, R.one, R.oth, fa.t, fa.bits (by decide), fb.bits (by decide), by omega, by omega, by omega, by omega, by omega, by omega, span_ok fa fb, fun c l tc vc r3 H2 s2 pc => ?_⟩
    refine ⟨_, rfl, _, rfl, _, rfl, d1, d2, _, _, -1, rfl, R.dl.same s2, R.dr.same s2, fa.kvt.nd, fb.kvt.nd, Nat.le_trans fa.klen (by decide), Nat.le_trans fb.klen (by decide), .inr rfl, fb.kbits, fun d3 H3 n s3 _ hn an _ hv => ?_⟩
    simp only [dv_kvR] at hv
    refine ⟨r3, d3, c, l, n, rfl, pc.same s3, tc, hn, fa.kvt_sum fb an hv, fun e => (vc e).trans (hv e).symm, fun H5 s4 => ⟨_, rfl, iteNT' rfl ?_⟩⟩
    have s14 := s2.trans (s3.trans s4)
    replace R := R.same s14
    replace F1 := F1.same s14
    replace B7 := B7.mono s14
    clear s14 s2 s3 s4 hn an hv tc vc pc g1 g2
    obtain ⟨dx, kx, g1, _⟩ := id R.one
    refine ⟨_, rfl, r1, dx, _, rfl, g1, r1, a, la, rfl, R.one, by omega, fun c l tr r3 H2 s2 n2 pc => ?_⟩
    refine fun d3 nd3 => ⟨_, rfl, _, rfl, d3, d1, [], kvR a la, -1, rfl, upd_same, (R.dl.same s2).same (same_new nd3), NoD.nil, fa.kvt.nd, by decide, Nat.le_trans fa.klen (by decide), .inr rfl, fa.kbits, fun d4 H3 n s3 _ hn an _ hv => ?_⟩
    have hv' : ∀ e, dv n e = -(rval a la e) := fun e => by rw [hv, dv_kvR, dv_nil]; omega
    refine ⟨r3, d4, c, l, n, rfl, (pc.same (same_new nd3)).same s3, tr.1, hn, kvt_of an fun e z => ?_, fun e => by rw [tr.2.1, neg_val, hv'], fun H6 s4 => ⟨_, rfl, iteNT' rfl ?_⟩⟩
    · rw [hv'] at z
      have := fa.out (e := e) fun y => z (by rw [y]; rfl)
      omega
    have s14 := s2.trans ((same_new nd3).trans (s3.trans s4))
    replace R := R.same s14
    replace F1 := F1.same s14
    replace B7 := B7.mono s14
    clear s14 s2 s3 s4 hn an hv hv' tr pc g1 nd3 n2
    -- one * other
    obtain ⟨dx, kx, g1, _⟩ := id R.one
    obtain ⟨dy, ky, g2, _⟩ := id R.oth
    refine ⟨_, rfl, _, rfl, r1, r2, dx, _, dy, _, rfl, rfl, g1, g2, r1, r2, a, b, la, lb, rfl, R.one, R.oth, fa.prod fb, by omega, fun c l tc r3 H2 s2 n2 pc => ?_⟩
    refine ⟨_, rfl, _, rfl, d1, d2, _, _, rfl, nd12, R.dl.same s2, R.dr.same s2, fa.kvt.nd, fb.kvt.nd, Nat.le_trans fa.klen (by decide), Nat.le_trans fb.klen (by decide), fa.kbits, fb.kbits, ⟨la + lb, la + lb + 16, by omega, fun p mp r mr => ?_⟩, fun d3 H3 n s3 _ hn an _ hv => ?_⟩
    · have h1 := kvR_mem mp
      have h2 := kvR_mem mr
      omega
    have hv' : ∀ e, dv n e = rval (mulL a b) (la + lb) e := fun e => by rw [hv, cvK_kvR, cvR_congr (dv_kvR b lb), ← cf_cvR]
    refine ⟨r3, d3, c, l, n, rfl, pc.same s3, tc.1, hn, fa.kvt_mul fb an hv', fun e => by rw [tc.2.1, prod_val, hv'], fun H7 s4 => ⟨_, rfl, iteNT' rfl ?_⟩⟩
    have s14 := s2.trans (s3.trans s4)
    replace R := R.same s14
    replace F1 := F1.same s14
    replace B7 := B7.mono s14
    clear s14 s2 s3 s4 hn an hv hv' tc pc g1 g2 n2
    obtain ⟨dx, kx, g1, _⟩ := id R.one
    obtain ⟨dy, ky, g2, _⟩ := id R.oth
    refine ⟨_, rfl, _, rfl, r1, r2, dx, _, dy, _, rfl, rfl, g1, g2, r1, r2, a, b, la, lb, rfl, R.one, R.oth, fa.prod fb, by omega, fun c l tc r3 H2 s2 n2 pc => ?_⟩
    refine ⟨_, rfl, _, rfl, r2, r1, dy, _, dx, _, rfl, rfl, s2 _ _ g2, s2 _ _ g1, r2, r1, b, a, lb, la, rfl, R.oth.same s2, R.one.same s2, fb.prod fa, by omega, fun c' l' tc' r4 H8 s3 n3 pc' => ?_⟩
    have pc3 := pc.same s3
    obtain ⟨du, ku, gu, _⟩ := id pc3
    obtain ⟨dw, kw, gw, _⟩ := id pc'
    refine ⟨r3, r4, du, _, dw, _, rfl, rfl, gu, gw, r3, .ref r4, c, l, rfl, pc3, .inl ⟨r4, c', l', rfl, pc', _, rfl, _, rfl, iteNT' (eqt (trim_eq tc.1 tc'.1 fun e => ?_)) ?_⟩⟩
    · rw [tc.2.1, tc'.2.1, prod_val, prod_val, mul_comm_val]
    have s14 := s2.trans s3
    replace R := R.same s14
    replace F1 := F1.same s14
    replace B7 := B7.mono s14
    clear s14 s2 s3 tc tc' pc pc' pc3 g1 g2 gu gw n2 n3
    -- turned
    refine ⟨d1, _, R.dl, True.intro, fun od => ⟨_, rfl, d1, od, rfl, .inl ⟨_, upd_same, fun D nD => lc_it (walk_keys (kvs := kvV (kvR a la))) (fun i H' => Same (upd H8 d1 (.frz od (.dK (kvV (kvR a la))))) H' ∧ ∃ ps, PL H' D ps (((kvR a la).take i).map fun p => (0 - p.1, p.2))) ⟨same_new nD, [], PL.new⟩ (fun i H' _ h => h.1 _ _ upd_same) ?_ ?_⟩⟩⟩
    · rintro i x H1 H2 hi ⟨s1, ps, pl⟩ ⟨rfl, k, v, hk, rfl⟩
      obtain ⟨p, hp, rfl, rfl⟩ := kv_at hk
      have hm := List.mem_of_getElem? hp
      have hf : H2 d1 = some (.frz od (.dK (kvV (kvR a la)))) := s1 _ _ upd_same
      refine ⟨rfl, _, rfl, _, _, rfl, rfl, _, rfl, _, rfl, d1, _, rfl, DR.at (.inr ⟨od, hf⟩) fa.kvt.nd hm, show 2 ≤ sizeLine by decide, fun t nt => ?_⟩
      obtain ⟨hd, pl3⟩ := pl.add (k := 0 - p.1) (v := p.2) nt
      have hlen := pl.len
      have kl := fa.klen
      rw [List.length_map, List.length_take] at hlen
      refine ⟨_, hd, by rw [List.length_map]; exact szl3 (by omega), same_off nD (s1.trans (same_new nt)) off_upd, ps ++ [t], ?_⟩
      rw [take_snoc hp, List.map_append]
      exact pl3
    · rintro H2 ⟨s2, ps, pl⟩
      rw [kvV_len, List.take_length] at pl
      have hf : H2 d1 = some (.frz od (.dK (kvV (kvR a la)))) := s2 _ _ upd_same
      refine ⟨hf, ?_⟩
      have s3 : Same H8 (upd H2 d1 (.dK (kvV (kvR a la)))) := unlock R.dl fun z u c e => s2 _ _ (by rw [upd_ne c]; exact e)
      have pl2 : PL (upd H2 d1 (.dK (kvV (kvR a la)))) D ps ((kvR a la).map fun p => (0 - p.1, p.2)) := by
        refine ⟨?_, Paired.mapP pl.pr fun p kv e => ?_⟩
        · rw [upd_ne (fun z => by have w := pl.li; rw [z, hf] at w; cases w)]
          exact pl.li
        · rw [upd_ne (fun z => by rw [z, hf] at e; cases e)]
          exact e
      refine ⟨D, ps, kvV _, rfl, .of pl2.li, paired_kv pl2.pr, fun d7 nd7 => ?_⟩
      rw [merge0 (fa.kvt.nd.map (f := fun x => 0 - x) fun x y e => by omega)]
      have s4 := s3.trans (same_new (o := .dK (kvV ((kvR a la).map fun p => (0 - p.1, p.2)))) nd7)
      have D7 : DA (upd (upd H2 d1 (.dK (kvV (kvR a la)))) d7 (.dK (kvV ((kvR a la).map fun p => (0 - p.1, p.2))))) d7 ((kvR a la).map fun p => (0 - p.1, p.2)) := upd_same
      replace R := R.same s4
      replace F1 := F1.same s4
      replace B7 := B7.mono s4
      generalize upd (upd H2 d1 (.dK (kvV (kvR a la)))) d7 (.dK (kvV ((kvR a la).map fun p => (0 - p.1, p.2)))) = H9 at *
      clear s2 s3 s4 pl pl2 hf nd7 nD
      have kt : KvT ((kvR a la).map fun p => (0 - p.1, p.2)) := fa.kvt.mapped (f := fun x => 0 - x) (fun x y e => by omega) fun p m => by have := fa.krg p m; omega
      -- by, many
      refine ⟨_, rfl, _, rfl, _, rfl, show 6 ≤ sizeLine by decide, fun m nm => ?_⟩
      have s1 := same_new (o := .lst [.int 0, .int 1, .int (-1), .int 6, .int (-400), .int 400]) nm
      refine ⟨p, m, _, rfl, R.bas.same s1, upd_same, bas_ne R.bas nm, (by show 0 < 6; decide), (by show 6 ≤ 1000; decide), fun v H10 hv o1 b1 => ?_⟩
      obtain ⟨mv, rfl, y0, y1⟩ : ∃ y : Int, v = .int y ∧ -400 ≤ y ∧ y ≤ 400 := by
        simp only [List.mem_cons, List.not_mem_nil, or_false] at hv
        rcases hv with rfl | rfl | rfl | rfl | rfl | rfl
        all_goals exact ⟨_, rfl, by decide, by decide⟩
      refine ⟨_, rfl, p, 4, rfl, by decide, B.lit 4, b1, fun mi H11 m0 m4 o2 b2 => ⟨_, _, rfl, ?_⟩⟩
      replace F1 := ((F1.same s1).but o1 (R.bas.same s1)).but o2 b1
      replace D7 := ((D7.same s1).but o1 (R.bas.same s1)).but o2 b1
      replace R := ((R.same s1).but o1 b1).but o2 b2
      replace B7 := ((B7.mono s1).trans o1).trans o2
      obtain ⟨n, rfl⟩ : ∃ n : Nat, mi = n := ⟨mi.toNat, by omega⟩
      have n3 : n ≤ 3 := by omega
      clear s1 o1 o2 b1 b2 hv nm
      -- turned
      obtain ⟨dx, kx, g1, _⟩ := id R.one
      refine ⟨_, rfl, r1, dx, _, rfl, g1, (pf_no _ _ (m_no (m := "turned") (by decide +kernel)).1 (m_no (m := "turned") (by decide +kernel)).2), r1, a, la, rfl, R.one, by omega, fun c l tr r3 H2 s2 n2 pc => ?_⟩
      refine ⟨_, rfl, r3, d7, c, l, _, rfl, pc, tr.1, D7.same s2, kt, fun e => ?_, fun H12 s3 => ⟨_, rfl, iteNT' rfl ?_⟩⟩
      · rw [tr.2.1, turn_val, dv_map (fun x => 0 - x) (fun x => 0 - x) (fun x y => ⟨fun h => by omega, fun h => by omega⟩), dv_kvR, show -e = 0 - e by omega]
      have sR := s2.trans s3
      replace R := R.same sR
      replace F1 := F1.same sR
      replace B7 := B7.mono sR
      clear sR
      clear D7 kt s2 s3 tr pc n2 g1
      -- moved
      obtain ⟨dx, kx, g1, _⟩ := id R.one
      refine ⟨_, rfl, r1, dx, _, rfl, g1, (pf_no _ _ (m_no (m := "moved") (by decide +kernel)).1 (m_no (m := "moved") (by decide +kernel)).2), _, rfl, r1, a, la, mv, rfl, y0, y1, R.one, by omega, fun c l tr r3 H2 s2 n2 pc => ?_⟩
      refine ⟨_, rfl, _, rfl, d1, kvR a la, mv, rfl, R.dl.same s2, fa.kvt.nd, Nat.le_trans fa.klen (by decide), fun d8 H3 s3 _ hd8 => ?_⟩
      refine ⟨r3, d8, c, l, _, rfl, pc.same s3, tr.1, hd8, fa.kvt.mapped (f := fun x => x + mv) (fun x y e => by omega) (fun p m => by have := fa.krg p m; omega), fun e => ?_, fun H13 s4 => ⟨_, rfl, iteNT' rfl ?_⟩⟩
      · rw [tr.2.1, dv_map (fun x => x + mv) (fun x => x - mv) (fun x y => ⟨fun h => by omega, fun h => by omega⟩), dv_kvR]
        unfold rval
        rw [show e - (la + mv) = e - mv - la by omega]
      have sR := s2.trans (s3.trans s4)
      replace R := R.same sR
      replace F1 := F1.same sR
      replace B7 := B7.mono sR
      clear sR
      clear s2 s3 s4 tr pc n2 g1 hd8
      -- raised
      obtain ⟨dx, kx, g1, _⟩ := id R.one
      refine ⟨_, rfl, r1, dx, _, rfl, g1, (pf_no _ _ (m_no (m := "raised") (by decide +kernel)).1 (m_no (m := "raised") (by decide +kernel)).2), _, rfl, r1, a, la, n, rfl, n3, R.one, fa.t, fa.r, fun c l tc hc r3 H2 s2 pc => ?_⟩
      refine ⟨_, rfl, _, rfl, d1, a, la, n, rfl, n3, R.dl.same s2, fa.r, fun d8 H3 s3 hd8 => ?_⟩
      refine ⟨r3, d8, c, l, _, rfl, pc.same s3, tc, hd8, kvt_of (kvR_asc _ _) (fun e z => ?_), fun e => (hc e).trans (dv_kvR _ _ e).symm, fun H14 s4 => ⟨_, rfl, iteNT' rfl ?_⟩⟩
      · rw [dv_kvR] at z
        have h1 := rval_out z
        have h2 := powL_len na n
        have h3 : n = 0 ∨ n = 1 ∨ n = 2 ∨ n = 3 := by omega
        rcases h3 with rfl | rfl | rfl | rfl <;> omega
      have sR := s2.trans (s3.trans s4)
      replace R := R.same sR
      replace F1 := F1.same sR
      replace B7 := B7.mono sR
      clear sR
      clear s2 s3 s4 tc hc pc g1 hd8
      -- turned twice
      obtain ⟨dx, kx, g1, _⟩ := id R.one
      refine ⟨_, rfl, r1, dx, _, rfl, g1, (pf_no _ _ (m_no (m := "turned") (by decide +kernel)).1 (m_no (m := "turned") (by decide +kernel)).2), r1, a, la, rfl, R.one, by omega, fun c l tr r3 H2 s2 n2 pc => ?_⟩
      have cl := tr.2.2.1
      rw [List.length_reverse] at cl
      obtain ⟨dz, kz, g3, _⟩ := id pc
      refine ⟨r3, dz, _, rfl, g3, (pf_no _ _ (m_no (m := "turned") (by decide +kernel)).1 (m_no (m := "turned") (by decide +kernel)).2), r3, c, l, rfl, pc, by omega, fun c2 l2 tr2 r4 H15 s3 n4 pc2 => ?_⟩
      have po := (R.one.same s2).same s3
      obtain ⟨du, ku, gu, _⟩ := id pc2
      obtain ⟨dw, kw, gw, _⟩ := id po
      refine ⟨_, rfl, ?_⟩
      refine ⟨r4, r1, du, _, dw, _, rfl, rfl, gu, gw, r4, .ref r1, c2, l2, rfl, pc2, .inl ⟨r1, a, la, rfl, po, _, rfl, _, rfl, iteNT' (eqt (trim_eq tr2.1 fa.t fun e => ?_)) ?_⟩⟩
      · rw [tr2.2.1, turn_val, tr.2.1, turn_val, Int.neg_neg]
      have sR := s2.trans s3
      replace R := R.same sR
      replace F1 := F1.same sR
      replace B7 := B7.mono sR
      clear sR
      clear s2 s3 tr tr2 pc pc2 po g1 g3 gu gw n2 n4 cl
      -- products turned
      obtain ⟨dx, kx, g1, _⟩ := id R.one
      obtain ⟨dy, ky, g2, _⟩ := id R.oth
      refine ⟨_, rfl, _, rfl, r1, r2, dx, _, dy, _, rfl, rfl, g1, g2, r1, r2, a, b, la, lb, rfl, R.one, R.oth, fa.prod fb, by omega, fun c l tc r3 H2 s2 n2 pc => ?_⟩
      have cl := Nat.le_trans tc.2.2.1 (prod_len a b)
      obtain ⟨dz, kz, g3, _⟩ := id pc
      refine ⟨r3, dz, _, rfl, g3, (pf_no _ _ (m_no (m := "turned") (by decide +kernel)).1 (m_no (m := "turned") (by decide +kernel)).2), r3, c, l, rfl, pc, by omega, fun c1 l1 t1 r4 H3 s3 n4 pc1 => ?_⟩
      have S3 := s2.trans s3
      refine ⟨_, rfl, r1, dx, _, rfl, S3 _ _ g1, (pf_no _ _ (m_no (m := "turned") (by decide +kernel)).1 (m_no (m := "turned") (by decide +kernel)).2), r1, a, la, rfl, R.one.same S3, by omega, fun a' la' ta r5 H4 s4 n5 pa' => ?_⟩
      have S4 := S3.trans s4
      refine ⟨_, rfl, r2, dy, _, rfl, S4 _ _ g2, (pf_no _ _ (m_no (m := "turned") (by decide +kernel)).1 (m_no (m := "turned") (by decide +kernel)).2), r2, b, lb, rfl, R.oth.same S4, by omega, fun b' lb' tb r6 H5 s5 n6 pb' => ?_⟩
      have ra' : Rw 9 197 a' := ta.rw ⟨by rw [List.length_reverse]; exact na, fun x m => fa.r.bd x (List.mem_reverse.mp m)⟩
      have rb' : Rw 9 197 b' := tb.rw ⟨by rw [List.length_reverse]; exact nb, fun x m => fb.r.bd x (List.mem_reverse.mp m)⟩
      have pa5 := pa'.same s5
      obtain ⟨d5, k5, g5, _⟩ := id pa5
      obtain ⟨d6, k6, g6, _⟩ := id pb'
      refine ⟨r5, r6, d5, _, d6, _, rfl, rfl, g5, g6, r5, r6, a', b', la', lb', rfl, pa5, pb', ⟨9, 9, 197, 197, ra', rb', by decide, by decide, by decide, by decide, by decide, by decide⟩, by have := ra'.len; have := rb'.len; omega, fun c2 l2 t2 r7 H16 s6 n7 pc2 => ?_⟩
      have pc6 := pc1.same (s4.trans (s5.trans s6))
      obtain ⟨du, ku, gu, _⟩ := id pc6
      obtain ⟨dw, kw, gw, _⟩ := id pc2
      refine ⟨r4, r7, du, _, dw, _, rfl, rfl, gu, gw, r4, .ref r7, c1, l1, rfl, pc6, .inl ⟨r7, c2, l2, rfl, pc2, _, rfl, _, rfl, iteNT' (eqt (trim_eq t1.1 t2.1 fun e => ?_)) ?_⟩⟩
      · rw [t1.2.1, turn_val, tc.2.1, prod_val, t2.2.1, prod_val, mul_congr ta.2.1 tb.2.1, turn_mul]
      have sR := S4.trans (s5.trans s6)
      replace R := R.same sR
      replace F1 := F1.same sR
      replace B7 := B7.mono sR
      clear sR
      clear s2 s3 s4 s5 s6 S3 S4 tc t1 ta tb t2 pc pc1 pa' pb' pa5 pc2 pc6 g1 g2 g3 g5 g6 gu gw n2 n4 n5 n6 n7 cl ra' rb'
      -- products moved
      obtain ⟨dx, kx, g1, _⟩ := id R.one
      obtain ⟨dy, ky, g2, _⟩ := id R.oth
      refine ⟨_, rfl, r1, dx, _, rfl, g1, (pf_no _ _ (m_no (m := "moved") (by decide +kernel)).1 (m_no (m := "moved") (by decide +kernel)).2), _, rfl, r1, a, la, mv, rfl, y0, y1, R.one, by omega, fun a' la' ta r3 H2 s2 n2 pa' => ?_⟩
      have ra' : Rw 9 197 a' := ta.rw fa.r
      obtain ⟨d5, k5, g5, _⟩ := id pa'
      refine ⟨_, rfl, r3, r2, d5, _, dy, _, rfl, rfl, g5, s2 _ _ g2, r3, r2, a', b, la', lb, rfl, pa', R.oth.same s2, ⟨9, 9, 197, 197, ra', fb.r, by decide, by decide, by decide, by decide, by decide, by decide⟩, by have := ra'.len; omega, fun c1 l1 t1 r4 H3 s3 n4 pc1 => ?_⟩
      have S3 := s2.trans s3
      refine ⟨_, rfl, _, rfl, r1, r2, dx, _, dy, _, rfl, rfl, S3 _ _ g1, S3 _ _ g2, r1, r2, a, b, la, lb, rfl, R.one.same S3, R.oth.same S3, fa.prod fb, by omega, fun c l tc r5 H4 s4 n5 pc => ?_⟩
      have cl := Nat.le_trans tc.2.2.1 (prod_len a b)
      obtain ⟨dz, kz, g3, _⟩ := id pc
      refine ⟨r5, dz, _, rfl, g3, (pf_no _ _ (m_no (m := "moved") (by decide +kernel)).1 (m_no (m := "moved") (by decide +kernel)).2), _, rfl, r5, c, l, mv, rfl, y0, y1, pc, by omega, fun c2 l2 t2 r6 H17 s5 n6 pc2 => ?_⟩
      have pc6 := pc1.same (s4.trans s5)
      obtain ⟨du, ku, gu, _⟩ := id pc6
      obtain ⟨dw, kw, gw, _⟩ := id pc2
      refine ⟨r4, r6, du, _, dw, _, rfl, rfl, gu, gw, r4, .ref r6, c1, l1, rfl, pc6, .inl ⟨r6, c2, l2, rfl, pc2, _, rfl, _, rfl, iteNT' (eqt (trim_eq t1.1 t2.1 fun e => ?_)) ?_⟩⟩
      · have h1 : rval c (l + mv) e = rval c l (e - mv) := by unfold rval; rw [show e - (l + mv) = e - mv - l by omega]
        have h2 : rval (mulL a b) (la + mv + lb) e = rval (mulL a b) (la + lb) (e - mv) := by unfold rval; rw [show e - (la + mv + lb) = e - mv - (la + lb) by omega]
        rw [t1.2.1, prod_val, mul_congr ta.2.1 (fun _ => rfl), t2.2.1, h1, tc.2.1, prod_val, h2]
      have sR := S3.trans (s4.trans s5)
      replace R := R.same sR
      replace F1 := F1.same sR
      replace B7 := B7.mono sR
      clear sR
      clear s2 s3 s4 s5 S3 tc t1 ta t2 pc pc1 pa' pc2 pc6 g1 g2 g3 g5 gu gw n2 n4 n5 n6 cl ra'
      -- the number
      refine ⟨_, rfl, _, rfl, _, rfl, _, _, rfl, rfl, ⟨by decide, by decide, by decide⟩, show 6 ≤ sizeLine by decide, fun m nm => ?_⟩
      have s1 := same_new (o := .lst [.int 0, .int 1, .int (-1), .int 2, .int (-3), .int (10 ^ (20 : Int).toNat)]) nm
      refine ⟨p, m, _, rfl, R.bas.same s1, upd_same, bas_ne R.bas nm, (by show 0 < 6; decide), (by show 6 ≤ 1000; decide), fun v H18 hv o1 b1 => ?_⟩
      obtain ⟨x, rfl, hx⟩ : ∃ x : Int, v = .int x ∧ x.natAbs < 2 ^ 70 := by
        simp only [List.mem_cons, List.not_mem_nil, or_false] at hv
        rcases hv with rfl | rfl | rfl | rfl | rfl | rfl
        all_goals exact ⟨_, rfl, by decide +kernel⟩
      replace F1 := (F1.same s1).but o1 (R.bas.same s1)
      replace R := (R.same s1).but o1 b1
      replace B7 := (B7.mono s1).trans o1
      clear s1 o1 b1 hv nm
      -- low
      have ne_iff : kvR a la = [] ↔ a = [] := (fa.kvt.nil_iff fa.t fun e => (dv_kvR a la e).symm).symm
      refine ⟨fun σ H => ∃ (d4 : Addr) (v7 v8 v10 v13 : Option V), σ = [some (.ref p), some (.ref q1), some (.ref q2), some (.ref r1), some (.ref r2), some (.ref d1), some (.ref d2), v7, v8, some (.int mv), v10, some (.int x), some (.ref d4), v13] ∧ DA H d4 (kvR a 0) ∧ RS K C H p r1 r2 d1 d2 a b la lb ∧ PairAt K H (.ref q1) cs1 lo1 ∧ But p H0 H, ?_, ?_⟩
      · refine ⟨_, rfl, fun d3 nd3 => ?_⟩
        have s1 := same_new (o := .dK []) nd3
        refine ⟨d1, d3, kvR a la, [], rfl, rfl, (R.dl.same s1).r, .inl upd_same, _, rfl, ?_⟩
        replace F1 := F1.same s1
        replace R := R.same s1
        replace B7 := B7.mono s1
        generalize upd H18 d3 (.dK []) = H19 at *
        clear s1 nd3
        by_cases ea : a = []
        · rw [ne_iff.mpr ea]
          refine iteF fun d4 nd4 => ?_
          have s1 := same_new (o := .dK []) nd4
          exact ⟨d4, _, _, _, _, rfl, by rw [ea]; exact upd_same, R.same s1, F1.same s1, B7.mono s1⟩
        · have nk : kvR a la ≠ [] := fun z => ea (ne_iff.mp z)
          rw [show (!(decide ((kvR a la).length = ([] : KV).length) && eqKV (kvR a la) [])) = true by
            cases h : kvR a la with
            | nil => exact absurd h nk
            | cons p l => rfl]
          refine iteT ⟨_, rfl, _, rfl, d1, kvR a la, rfl, R.dl.r, nk, fun mn hmn bmn => ?_⟩
          have em := fa.kvt.min_is fa.t (fun e => (dv_kvR a la e).symm) ea hmn bmn
          rw [em]
          clear hmn bmn em
          refine ⟨_, _, rfl, rfl, d1, kvR a la, 0 - la, rfl, R.dl, fa.kvt.nd, Nat.le_trans fa.klen (by decide), fun d4 H20 s1 _ D4 => ?_⟩
          rw [kvR_shift, show la + (0 - la) = 0 by omega] at D4
          exact ⟨d4, _, _, _, _, rfl, D4, R.same s1, F1.same s1, B7.mono s1⟩
      clear R F1 B7
      rintro σ H18 ⟨d4, v7, v8, v10, v13, rfl, D4, R, F1, B7⟩
      -- value
      obtain ⟨dx, kx, g1, _⟩ := id R.one
      have fle := fa.le
      refine ⟨_, rfl, r1, dx, _, rfl, g1, (pf_no _ _ (m_no (m := "moved") (by decide +kernel)).1 (m_no (m := "moved") (by decide +kernel)).2), _, rfl, r1, dx, _, rfl, g1, r1, a, la, rfl, R.one, _, _, rfl, rfl, r1, a, la, 0 - la, rfl, by omega, by omega, R.one, by omega, fun c l tr r3 H2 s2 n2 pc => ?_⟩
      have ez := trim_eq tr.1 fa.t.zero fun e => by rw [tr.2.1, show la + (0 - la) = 0 by omega]
      rw [ez.1, ez.2] at pc
      obtain ⟨dz, kz, gz, _⟩ := id pc
      refine ⟨r3, dz, _, rfl, gz, (pf_no _ _ (m_no (m := "value_at") (by decide +kernel)).1 (m_no (m := "value_at") (by decide +kernel)).2), _, rfl, r3, a, x, rfl, hx, pc, fa.r, fun H2v s2v => ?_⟩
      replace s2 := s2.trans s2v
      refine ⟨_, rfl, _, rfl, d4, a, x, rfl, D4.same s2, fa.r, hx, rfl, _, rfl, ite2 (fun h => absurd h (by simp)) (fun _ => ?_)⟩
      refine ⟨show 0 ≤ sizeLine by decide, fun t nt => ⟨.ref t, [], 0, .inr ⟨rfl, rfl⟩, ⟨t, rfl, .of upd_same⟩, by decide, (fun c m => nomatch m), by decide, by decide, fun a0 l0 t0 r4 H21a s3 n4 p4 => ?_⟩⟩
      obtain ⟨ez1, ez2⟩ := tr_nil t0
      rw [ez1, ez2] at p4
      obtain ⟨dv0, kv0, gv0, _⟩ := id p4
      refine ⟨r4, dv0, _, rfl, gv0, (pf_no _ _ (m_no (m := "value_at") (by decide +kernel)).1 (m_no (m := "value_at") (by decide +kernel)).2), _, rfl, r4, [], x, rfl, hx, p4, ⟨by decide, fun c m => nomatch m⟩, fun H21 s21v => ⟨rfl, _, rfl, ite2 (fun h => absurd h (by simp [ev])) (fun _ => ?_)⟩⟩
      have sR := s2.trans ((same_new nt).trans (s3.trans s21v))
      replace R := R.same sR
      replace F1 := F1.same sR
      replace B7 := B7.mono sR
      replace D4 := D4.same sR
      clear sR
      clear s2 s3 s2v s21v nt tr t0 pc p4 g1 gz gv0 n2 n4 ez ez1 ez2
      refine ⟨fun σ H => ∃ (v7 v8 v10 : Option V), σ = [some (.ref p), some (.ref q1), some (.ref q2), some (.ref r1), some (.ref r2), some (.ref d1), some (.ref d2), v7, v8, some (.int mv), v10, some (.int x), some (.ref d4), some (.bl (decide (((kvR a 0).map fun z => z.2) = ((kvR a 0).map fun z => z.2).reverse)))] ∧ DA H d4 (kvR a 0) ∧ RS K C H p r1 r2 d1 d2 a b la lb ∧ PairAt K H (.ref q1) cs1 lo1 ∧ But p H0 H, ?_, ?_⟩
      · refine ⟨d4, _, D4, True.intro, fun od => ⟨_, rfl, d4, od, rfl, .inl ⟨_, upd_same, fun D nD => lc_it (walk_keys (kvs := kvV (kvR a 0))) (fun i H' => Same (upd H21 d4 (.frz od (.dK (kvV (kvR a 0))))) H' ∧ H' D = some (.lst ((((kvR a 0).take i).map (fun z => z.2)).map V.int))) ⟨same_new nD, upd_same⟩ (fun i H' _ h => h.1 _ _ upd_same) ?_ ?_⟩⟩⟩
        · rintro i y H1 H2 hi ⟨s1, hD⟩ ⟨rfl, k, v, hk, rfl⟩
          obtain ⟨z, hz, rfl, rfl⟩ := kv_at hk
          have hm := List.mem_of_getElem? hz
          have hf : H2 d4 = some (.frz od (.dK (kvV (kvR a 0)))) := s1 _ _ upd_same
          refine ⟨rfl, _, rfl, _, rfl, d4, _, rfl, DR.at (.inr ⟨od, hf⟩) (kvR_asc a 0).nod hm, ?_⟩
          refine ⟨_, hD, by rw [List.length_map, List.length_map, List.length_take]; have := kvR_len a 0; exact szl3 (by omega), same_off nD s1 off_upd, ?_⟩
          rw [upd_same, take_snoc hz, List.map_append, List.map_append]
          rfl
        rintro H2 ⟨s2, hD⟩
        rw [kvV_len, List.take_length] at hD
        have hf : H2 d4 = some (.frz od (.dK (kvV (kvR a 0)))) := s2 _ _ upd_same
        refine ⟨hf, ?_⟩
        have s3 : Same H21 (upd H2 d4 (.dK (kvV (kvR a 0)))) := unlock D4 fun z u c e => s2 _ _ (by rw [upd_ne c]; exact e)
        have Dl : (upd H2 d4 (.dK (kvV (kvR a 0)))) D = some (.lst (((kvR a 0).map (fun z => z.2)).map V.int)) := by
          rw [upd_ne (fun z => by rw [z, hf] at hD; cases hD)]
          exact hD
        generalize upd H2 d4 (.dK (kvV (kvR a 0))) = H22 at *
        clear s2 hD hf
        have sR := s3
        replace R := R.same sR
        replace F1 := F1.same sR
        replace B7 := B7.mono sR
        replace D4 := D4.same sR
        clear sR
        clear s3 nD
        refine ⟨d4, _, D4, True.intro, fun od => ⟨_, rfl, d4, od, rfl, .inl ⟨_, upd_same, fun G nG => lc_it (walk_keys (kvs := kvV (kvR a 0))) (fun i H' => Same (upd H22 d4 (.frz od (.dK (kvV (kvR a 0))))) H' ∧ H' G = some (.lst ((((kvR a 0).take i).map (fun z => z.2)).map V.int))) ⟨same_new nG, upd_same⟩ (fun i H' _ h => h.1 _ _ upd_same) ?_ ?_⟩⟩⟩
        · rintro i y H1 H2 hi ⟨s1, hD⟩ ⟨rfl, k, v, hk, rfl⟩
          obtain ⟨z, hz, rfl, rfl⟩ := kv_at hk
          have hm := List.mem_of_getElem? hz
          have hf : H2 d4 = some (.frz od (.dK (kvV (kvR a 0)))) := s1 _ _ upd_same
          refine ⟨rfl, _, rfl, _, rfl, d4, _, rfl, DR.at (.inr ⟨od, hf⟩) (kvR_asc a 0).nod hm, ?_⟩
          refine ⟨_, hD, by rw [List.length_map, List.length_map, List.length_take]; have := kvR_len a 0; exact szl3 (by omega), same_off nG s1 off_upd, ?_⟩
          rw [upd_same, take_snoc hz, List.map_append, List.map_append]
          rfl
        rintro H2 ⟨s2, hD⟩
        rw [kvV_len, List.take_length] at hD
        have hf : H2 d4 = some (.frz od (.dK (kvV (kvR a 0)))) := s2 _ _ upd_same
        refine ⟨hf, ?_⟩
        have s3 : Same H22 (upd H2 d4 (.dK (kvV (kvR a 0)))) := unlock D4 fun z u c e => s2 _ _ (by rw [upd_ne c]; exact e)
        have Gl : (upd H2 d4 (.dK (kvV (kvR a 0)))) G = some (.lst (((kvR a 0).map (fun z => z.2)).map V.int)) := by
          rw [upd_ne (fun z => by rw [z, hf] at hD; cases hD)]
          exact hD
        generalize upd H2 d4 (.dK (kvV (kvR a 0))) = H23 at *
        clear s2 hD hf
        have sR := s3
        replace R := R.same sR
        replace F1 := F1.same sR
        replace B7 := B7.mono sR
        replace D4 := D4.same sR
        clear sR
        replace Dl := s3 _ _ Dl
        clear s3 nG
        refine ⟨G, _, rfl, .of Gl, fun z nz => ⟨_, _, dpL (.of (same_new nz _ _ Dl)), dpL (ns := ((kvR a 0).map fun z => z.2).reverse) (.of (by rw [List.map_reverse]; exact upd_same)), sh_dL _, sh_dL _, ?_⟩⟩
        rw [eqv_dL]
        have sZ := same_new (o := .lst ((((kvR a 0).map fun z => z.2).map V.int)).reverse) nz
        exact ⟨_, _, _, rfl, D4.same sZ, R.same sZ, F1.same sZ, B7.mono sZ⟩
      clear R F1 B7 D4
      rintro σ H24 ⟨v7, v8, v10, rfl, D4, R, F1, B7⟩
      refine ⟨fun σ H => ∃ (v7 v8 v10 : Option V) (β : Bool), σ = [some (.ref p), some (.ref q1), some (.ref q2), some (.ref r1), some (.ref r2), some (.ref d1), some (.ref d2), v7, v8, some (.int mv), v10, some (.int x), some (.ref d4), some (.bl β)] ∧ decide (a = a.reverse) = β ∧ RS K C H p r1 r2 d1 d2 a b la lb ∧ PairAt K H (.ref q1) cs1 lo1 ∧ But p H0 H, ?_, ?_⟩
      · have f0 : RowF a 0 := ⟨fa.t.zero, fa.r, by decide, by omega⟩
        have ne0 : kvR a 0 = [] ↔ a = [] := (f0.kvt.nil_iff f0.t fun e => (dv_kvR a 0 e).symm).symm
        refine ⟨_, rfl, fun d5 nd5 => ?_⟩
        have s1 := same_new (o := .dK []) nd5
        refine ⟨d4, d5, kvR a 0, [], rfl, rfl, (D4.same s1).r, .inl upd_same, _, rfl, ?_⟩
        replace F1 := F1.same s1
        replace R := R.same s1
        replace B7 := B7.mono s1
        replace D4 := D4.same s1
        generalize upd H24 d5 (.dK []) = H25 at *
        clear s1 nd5
        by_cases ea : a = []
        · rw [ne0.mpr ea]
          refine iteF ⟨_, _, _, true, rfl, ?_, R, F1, B7⟩
          rw [ea]
          rfl
        have nk : kvR a 0 ≠ [] := fun z => ea (ne0.mp z)
        rw [show (!(decide ((kvR a 0).length = ([] : KV).length) && eqKV (kvR a 0) [])) = true by
          cases h : kvR a 0 with
          | nil => exact absurd h nk
          | cons p l => rfl]
        refine iteT ⟨_, rfl, _, rfl, ?_⟩
        by_cases c1 : ((kvR a 0).map fun z => z.2) = ((kvR a 0).map fun z => z.2).reverse
        case neg =>
          rw [if_neg (by simpa using c1)]
          exact ⟨_, _, _, _, rfl, decide_eq_false fun z => c1 (alike_iff.mp z).1, R, F1, B7⟩
        rw [if_pos (decide_eq_true c1)]
        have kl0 : (kvR a 0).length ≤ 9 := Nat.le_trans (kvR_len a 0) na
        refine ⟨_, rfl, d4, kvV (kvR a 0), (kvR a 0).map (·.1), rfl, .inl D4, kvV_keys _, by rw [List.length_map]; omega, fun ys y1 hp hs ny => ?_⟩
        have eys : ys = (kvR a 0).map (·.1) := PySem.W.ksm_same hp hs (by rw [List.pairwise_map]; exact (kvR_asc a 0).1.imp fun h => Int.le_of_lt h)
        have sY := same_new (o := .lst (ys.map V.int)) ny
        have hY : (upd H25 y1 (.lst (ys.map V.int))) y1 = some (.lst (ys.map V.int)) := upd_same
        replace F1 := F1.same sY
        replace R := R.same sY
        replace B7 := B7.mono sY
        replace D4 := D4.same sY
        generalize upd H25 y1 (.lst (ys.map V.int)) = H26 at *
        clear sY ny
        refine ⟨d4, _, D4, True.intro, fun od => ⟨_, rfl, d4, od, rfl, .inl ⟨_, upd_same, fun G nG => lc_it (walk_keys (kvs := kvV (kvR a 0))) (fun i H' => Same (upd H26 d4 (.frz od (.dK (kvV (kvR a 0))))) H' ∧ H' G = some (.lst ((((kvR a 0).take i).map (fun z => (a.length : Int) - 1 - z.1)).map V.int))) ⟨same_new nG, upd_same⟩ (fun i H' _ h => h.1 _ _ upd_same) ?_ ?_⟩⟩⟩
        · rintro i y H1 H2 hi ⟨s1, hD⟩ ⟨rfl, k, v, hk, rfl⟩
          obtain ⟨z, hz, rfl, rfl⟩ := kv_at hk
          have hm := List.mem_of_getElem? hz
          have hf : H2 d4 = some (.frz od (.dK (kvV (kvR a 0)))) := s1 _ _ upd_same
          refine ⟨rfl, _, rfl, d4, kvR a 0, rfl, .inr ⟨od, hf⟩, nk, fun hi2 hmx bmx => ?_⟩
          have em := f0.kvt.max_is f0.t (fun e => (dv_kvR a 0 e).symm) ea hmx bmx
          rw [em, show (0 : Int) + (a.length : Int) - 1 = (a.length : Int) - 1 by omega]
          refine ⟨_, rfl, _, _, rfl, rfl, ?_⟩
          refine ⟨_, hD, by rw [List.length_map, List.length_map, List.length_take]; have := kvR_len a 0; exact szl3 (by omega), same_off nG s1 off_upd, ?_⟩
          rw [upd_same, take_snoc hz, List.map_append, List.map_append]
          rfl
        rintro H2 ⟨s2, hD⟩
        rw [kvV_len, List.take_length] at hD
        have hf : H2 d4 = some (.frz od (.dK (kvV (kvR a 0)))) := s2 _ _ upd_same
        refine ⟨hf, ?_⟩
        have s3 : Same H26 (upd H2 d4 (.dK (kvV (kvR a 0)))) := unlock D4 fun z u c e => s2 _ _ (by rw [upd_ne c]; exact e)
        have Gl : (upd H2 d4 (.dK (kvV (kvR a 0)))) G = some (.lst (((kvR a 0).map (fun z => (a.length : Int) - 1 - z.1)).map V.int)) := by
          rw [upd_ne (fun z => by rw [z, hf] at hD; cases hD)]
          exact hD
        generalize upd H2 d4 (.dK (kvV (kvR a 0))) = H27 at *
        clear s2 hD hf
        have sR := s3
        replace R := R.same sR
        replace F1 := F1.same sR
        replace B7 := B7.mono sR
        replace D4 := D4.same sR
        clear sR
        replace hY := s3 _ _ hY
        clear s3 nG
        refine ⟨G, _, rfl, .of Gl, by rw [List.length_map]; omega, fun zs z1 hpz hsz nz => ?_⟩
        have ezs : zs = (((kvR a 0).map (·.1)).map fun k => ((a.length : Int) - 1) - k).reverse := by
          refine PySem.W.ksm_same (hpz.trans ?_) hsz ?_
          · rw [List.map_map]
            exact (List.reverse_perm _).symm
          · rw [List.pairwise_reverse, List.pairwise_map, List.pairwise_map]
            exact (kvR_asc a 0).1.imp fun h => by show _ ≤ _; omega
        have sZ := same_new (o := .lst (zs.map V.int)) nz
        refine ⟨_, _, dpL (.of (sZ _ _ hY)), dpL (ns := zs) (.of upd_same), sh_dL _, sh_dL _, ?_⟩
        rw [eqv_dL]
        refine ⟨_, _, _, _, rfl, ?_, R.same sZ, F1.same sZ, B7.mono sZ⟩
        rw [eys, ezs]
        exact decide_eq_decide.mpr ⟨fun z => (alike_iff.mp z).2, fun z => alike_iff.mpr ⟨c1, z⟩⟩
      clear R F1 B7 D4
      rintro σ H30 ⟨v7, v8, v10, β, rfl, hal, R, F1, B7⟩
      obtain ⟨dx, kx, g1, _⟩ := id R.one
      refine ⟨_, rfl, r1, dx, _, rfl, g1, r1, a, la, rfl, R.one, fun H31 s1 => ⟨_, rfl, rfl, _, rfl, ite2 (fun h => absurd h (by rw [hal]; simp)) (fun _ => ?_)⟩⟩
      replace F1 := F1.same s1
      replace R := R.same s1
      replace B7 := B7.mono s1
      clear s1 g1
      obtain ⟨dx, kx, g1, _⟩ := id R.one
      obtain ⟨dy, ky, g2, _⟩ := id R.oth
      refine ⟨_, rfl, _, rfl, r1, r2, dx, _, dy, _, rfl, rfl, g1, g2, r1, .ref r2, a, la, rfl, R.one, .inl ⟨r2, b, lb, rfl, R.oth, ?_⟩⟩
      refine ⟨_, rfl, _, rfl, d1, d2, kvR a la, kvR b lb, rfl, rfl, R.dl.r, R.dr.r, rfl, _, rfl, ite2 (fun h => absurd h (by rw [row_iff fa.t fb.t, eqKV_iff (kvR_asc _ _) (kvR_asc _ _)]; simp)) (fun _ => ?_)⟩
      refine ⟨_, rfl, _, rfl, r1, dx, _, "dict", rfl, g1, .base (.dK R.dl), T.yDict.sub, r1, .ref d1, a, la, rfl, R.one, .inr ⟨_, .base (.dK R.dl), T.yDict.kit, _, rfl, iteF ?_⟩⟩
      obtain ⟨q1', v1', eq1, hq1, ⟨tv, ev1, htv⟩⟩ := id F1
      cases eq1
      subst ev1
      refine ⟨_, rfl, _, rfl, q1, _, _, _, rfl, rfl, hq1, rfl, r1, dx, _, "tuple", rfl, g1, tup_ty htv, T.yTup.sub, r1, .ref tv, a, la, rfl, R.one, .inr ⟨_, tup_ty htv, T.yTup.kit, _, rfl, iteF ?_⟩⟩
      clear hq1 htv F1 g1 g2
      -- one * (other + one)
      obtain ⟨dx, kx, g1, _⟩ := id R.one
      obtain ⟨dy, ky, g2, _⟩ := id R.oth
      have sp2 : (highS b a lb la + 1 - lowS2 lb la).toNat ≤ 900 := span_ok fb fa
      refine ⟨_, rfl, _, rfl, _, rfl, r2, r1, dy, _, dx, _, rfl, rfl, g2, g1, r2, r1, b, a, lb, la, rfl, R.oth, R.one, fb.t, fb.bits (by decide), fa.bits (by decide), by omega, by omega, by omega, by omega, by omega, by omega, sp2, fun c l tc vc r3 H2 s2 pc => ?_⟩
      have hc8 : c.length ≤ 810 := by
        rcases trim_span (A := -400) (B := 400) tc (fun e h => by
          rw [vc] at h
          by_cases z : rval b lb e = 0
          · exact fa.out fun y => h (by rw [z, y]; rfl)
          · exact fb.out z) with z | z
        · rw [z]; decide
        · omega
      have cbits : ∀ x ∈ c, x.natAbs < 2 ^ 198 := row_bd (l := l) fun e => by
        have h1 := fa.vbd e
        have h2 := fb.vbd e
        rw [vc, Nat.pow_succ]
        omega
      obtain ⟨dz, kz, g3, _⟩ := id pc
      refine ⟨r1, r3, dx, _, dz, _, rfl, rfl, s2 _ _ g1, g3, r1, r3, a, c, la, l, rfl, R.one.same s2, pc, ⟨9, 810, 197, 198, fa.r, ⟨hc8, cbits⟩, by decide, by decide, by decide, by decide, by decide, by decide⟩, by omega, fun c1 l1 t1 r4 H3 s3 n3 pc1 => ?_⟩
      have S3 := s2.trans s3
      refine ⟨_, rfl, _, rfl, r1, r2, dx, _, dy, _, rfl, rfl, S3 _ _ g1, S3 _ _ g2, r1, r2, a, b, la, lb, rfl, R.one.same S3, R.oth.same S3, fa.prod fb, by omega, fun c2 l2 t2 r5 H4 s4 n4 pc2 => ?_⟩
      have S4 := S3.trans s4
      refine ⟨_, rfl, _, rfl, r1, r1, dx, _, dx, _, rfl, rfl, S4 _ _ g1, S4 _ _ g1, r1, r1, a, a, la, la, rfl, R.one.same S4, R.one.same S4, fa.prod fa, by omega, fun c3 l3 t3 r6 H5 s5 n5 pc3 => ?_⟩
      obtain ⟨rw2, pl2⟩ := prod_place fa fb t2
      obtain ⟨rw3, pl3⟩ := prod_place fa fa t3
      have len2 := rw2.len
      have len3 := rw3.len
      have pc25 := pc2.same s5
      obtain ⟨d5, k5, g5, _⟩ := id pc25
      obtain ⟨d6, k6, g6, _⟩ := id pc3
      have fla := fa.le
      have flb := fb.le
      have b2 : -5000 ≤ l2 ∧ l2 ≤ 5000 := by rcases pl2 with ⟨_, z⟩ | z <;> omega
      have b3 : -5000 ≤ l3 ∧ l3 ≤ 5000 := by rcases pl3 with ⟨_, z⟩ | z <;> omega
      have sp3 : (highS c2 c3 l2 l3 + 1 - lowS2 l2 l3).toNat ≤ 900 := by
        unfold highS lowS2
        rcases pl2 with ⟨z1, z2⟩ | z <;> rcases pl3 with ⟨y1, y2⟩ | y
        · rw [z1, y1, z2, y2]; decide
        · rw [z1, z2, List.length_nil]; split <;> split <;> omega
        · rw [y1, y2, List.length_nil]; split <;> split <;> omega
        · split <;> split <;> omega
      refine ⟨r5, r6, d5, _, d6, _, rfl, rfl, g5, g6, r5, r6, c2, c3, l2, l3, rfl, pc25, pc3, t2.1, fun x m => Nat.lt_of_lt_of_le (rw2.bd x m) (Nat.pow_le_pow_right (by decide) (by decide)), fun x m => Nat.lt_of_lt_of_le (rw3.bd x m) (Nat.pow_le_pow_right (by decide) (by decide)), by omega, by omega, b2.1, b2.2, b3.1, b3.2, sp3, fun c4 l4 t4 v4 r7 H6 s6 pc4 => ?_⟩
      have pc16 := pc1.same (s4.trans (s5.trans s6))
      obtain ⟨du, ku, gu, _⟩ := id pc16
      obtain ⟨dw, kw, gw, _⟩ := id pc4
      refine ⟨r4, r7, du, _, dw, _, rfl, rfl, gu, gw, r4, .ref r7, c1, l1, rfl, pc16, .inl ⟨r7, c4, l4, rfl, pc4, _, rfl, iteB (eqt (trim_eq t1.1 t4 fun e => ?_)) ?_⟩⟩
      · rw [t1.2.1, prod_val, mul_addR (b := b) (c := a) (l1 := lb) (l2 := la) fun e => by rw [vc, Int.one_mul], v4, t2.2.1, t3.2.1, prod_val, prod_val, Int.one_mul]
      have sR := S4.trans (s5.trans s6)
      replace R := R.same sR
      replace B7 := B7.mono sR
      clear sR s2 s3 s4 s5 s6 S3 S4 tc vc pc hc8 cbits g1 g2 g3 t1 pc1 t2 pc2 t3 pc3 rw2 rw3 pl2 pl3 len2 len3 pc25 g5 g6 b2 b3 sp3 t4 v4 pc4 pc16 gu gw sp2 n3 n4 n5
      -- one - one
      obtain ⟨dx, kx, g1, _⟩ := id R.one
      refine ⟨_, rfl, _, rfl, r1, r1, dx, _, dx, _, rfl, rfl, g1, g1, r1, r1, a, a, la, la, rfl, R.one, R.one, fa.t, fa.bits (by decide), fa.bits (by decide), by omega, by omega, by omega, by omega, by omega, by omega, span_ok fa fa, fun c l tc vc r3 H2 s2 pc => ?_⟩
      refine ⟨show 0 ≤ sizeLine by decide, fun t nt => ⟨.ref t, [], 0, .inr ⟨rfl, rfl⟩, ⟨t, rfl, .of upd_same⟩, by decide, (fun c m => nomatch m), by decide, by decide, fun a0 l0 t0 r4 H3 s3 n4 p4 => ?_⟩⟩
      obtain ⟨ez1, ez2⟩ := tr_nil t0
      rw [ez1, ez2] at p4
      have pc2 := (pc.same (same_new nt)).same s3
      obtain ⟨du, ku, gu, _⟩ := id pc2
      obtain ⟨dw, kw, gw, _⟩ := id p4
      refine ⟨r3, r4, du, _, dw, _, rfl, rfl, gu, gw, r3, .ref r4, c, l, rfl, pc2, .inl ⟨r4, [], 0, rfl, p4, _, rfl, iteB (eqt (trim_eq tc (.inl ⟨rfl, rfl⟩) fun e => ?_)) ?_⟩⟩
      · rw [vc, rval_nil]; omega
      have sR := s2.trans ((same_new nt).trans s3)
      replace R := R.same sR
      replace B7 := B7.mono sR
      clear sR s2 s3 tc vc pc pc2 p4 gu gw g1 nt t0 ez1 ez2 n4
      -- one + 0
      obtain ⟨dx, kx, g1, _⟩ := id R.one
      refine ⟨_, rfl, show 0 ≤ sizeLine by decide, fun t nt => ⟨.ref t, [], 5, .inl rfl, ⟨t, rfl, .of upd_same⟩, by decide, (fun c m => nomatch m), by decide, by decide, fun a0 l0 t0 r4 H3 s3 n4 p4 => ?_⟩⟩
      obtain ⟨ez1, ez2⟩ := tr_nil t0
      rw [ez1, ez2] at p4
      have sR := (same_new nt).trans s3
      obtain ⟨dw, kw, gw, _⟩ := id p4
      have sp4 : (highS a [] la 0 + 1 - lowS2 la 0).toNat ≤ 900 := by
        unfold highS lowS2
        rw [List.length_nil]
        split <;> split <;> omega
      refine ⟨r1, r4, dx, _, dw, _, rfl, rfl, sR _ _ g1, gw, r1, r4, a, [], la, 0, rfl, R.one.same sR, p4, fa.t, fa.bits (by decide), (fun c m => nomatch m), by omega, by decide, by omega, by omega, by decide, by decide, sp4, fun c l tc vc r3 H2 s2 pc => ?_⟩
      have po := R.one.same (sR.trans s2)
      obtain ⟨du, ku, gu, _⟩ := id pc
      obtain ⟨dv2, kv2, gv2, _⟩ := id po
      refine ⟨_, rfl, r3, r1, du, _, dv2, _, rfl, rfl, gu, gv2, r3, .ref r1, c, l, rfl, pc, .inl ⟨r1, a, la, rfl, po, ?_⟩⟩
      rw [eqt (trim_eq tc fa.t fun e => by rw [vc, rval_nil]; omega)]
      exact q _ (B7.mono (sR.trans s2)) (R.bas.same (sR.trans s2))
end
end Pk

namespace Pk
open PySem L2 Ow RT PyProof.Rows
def spLaw (K : PySem.W.Frag) : Sp := fun vs H Q _ => ∃ (a : Addr) (ns : List Int), vs = [.ref a] ∧ SqL K H a (ns.map V.int) ∧ ns.length ≤ 63 ∧ ∀ H', Q (.bl true) H'
theorem lit_ok {cs : List Int} (h : (cs.all fun c => decide (-1000 ≤ c) && decide (c ≤ 1000)) = true) : ∀ c ∈ cs, 1 - 10 ^ 60 ≤ c ∧ c ≤ 10 ^ 60 - 1 := fun c m => by
  have := List.all_eq_true.mp h c m
  simp at this
  omega
theorem lit_rw {cs : List Int} (h : (cs.all fun c => decide (-1000 ≤ c) && decide (c ≤ 1000)) = true) (l : cs.length ≤ 9) : Rw 9 197 cs := ⟨l, fun c m => by
  have := List.all_eq_true.mp h c m
  simp at this
  have : c.natAbs < 2 ^ 10 := by omega
  exact Nat.lt_of_lt_of_le this (Nat.pow_le_pow_right (by decide) (by decide))⟩
/-- a row that is trimmed as it stands -/
def isTrim (cs : List Int) : Bool := match cs with
  | [] => false
  | x :: r => x != 0 && (x :: r).getLast? != some 0
theorem lit_trim {cs : List Int} (lo : Int) (h : isTrim cs = true) : Trim cs lo := by
  cases cs with
  | nil => cases h
  | cons x r =>
    obtain ⟨h1, h2⟩ := Bool.and_eq_true_iff.mp h
    refine .inr ⟨by simp, ?_, bne_iff_ne.mp h2⟩
    intro e
    exact bne_iff_ne.mp h1 (Option.some.inj e)
theorem lit_tr {cs a : List Int} {lo la : Int} (t : Tr cs lo a la) (h : isTrim cs = true) : a = cs ∧ la = lo := trim_eq t.1 (lit_trim lo h) t.2.1
section
variable {P : Program} {w : World} {K : PySem.W.Frag} {mg : Str → Option Value} {base : Heap} {C : Addr}
theorem ok_law (T : Txt K mg C) {f : Addr} {fd : FuncData} (D : Fun K "law" "law" s_law f fd) : FnOk P w K mg base CX0 17 f fd ["_law_script"] (spLaw K) := by
  refine D.ok sc_law (fun vs H Q E h => ?_) (fun cdv A outer s H vs Q E hr h => ?_)
  · obtain ⟨a, ns, rfl, _⟩ := h
    rfl
  · obtain ⟨sa, ns, rfl, hs, hlen, k⟩ := h
    refine ⟨_, (pss_cons (ps_for PassesOwn.never rfl (pi_range1 (by rfl) T.b_range (pa_cons (pe_callB (call_max2 rfl) (by rfl) T.b_max (by decide +kernel) (pa_cons pe_int (pa_cons (pe_callB (call_min2 rfl) (by rfl) T.b_min (by decide +kernel) (pa_cons pe_int (pa_cons (pe_callB call_len_seq (by rfl) T.b_len (by decide +kernel) (pa_cons (pv 0) pa_nil)) pa_nil))) pa_nil))) pa_nil)) (pg_name (i := 1) sc_law.nd rfl (Or.inl rfl)) (pss_cons (ps_set (i := 2) sc_law.nd rfl (Or.inl rfl) (pe_cal (cal_basin T) (hr.mono (by decide)) (by rfl) (pa_cons (pv 0) (pa_cons (pv 1) pa_nil))))
      (pss_one (ps_if (PW.pt (pw_or (pt_not (pt_val (pe_cal (cal_right T) (hr.mono (by decide)) (by rfl) (pa_cons (pv 2) pa_nil)))) (pw_or1 (pt_not (pt_val (pe_cal (cal_right T) (hr.mono (by decide)) (by rfl) (pa_cons (pv 2) pa_nil))))))) (pss_one (ps_ret pe_bl)) pss_nil))))
      (pss_cons (ps_set (i := 3) sc_law.nd rfl (Or.inl rfl) (pe_poly T (hr.mono (by decide)) (by rfl) (pa_cons (pe_tup (pa_cons pe_int (pa_cons pe_int (pa_cons pe_int (pa_cons (pe_un un_neg pe_int) (pa_cons pe_int pa_nil)))))) (pa_cons (pe_un un_neg pe_int) pa_nil))))
      (pss_cons (ps_if (pt_cmpR (op_neD hr.units) (pe_tup (pa_cons (pe_pC T (hr.mono (by decide)) (pv 3)) (pa_cons (pe_pL T (hr.mono (by decide)) (pv 3)) (pa_cons (pe_pD T (hr.mono (by decide)) (pv 3)) (pa_cons (pe_m_at T (hr.mono (by decide)) (pv 3) (pa_cons pe_int pa_nil)) (pa_cons (pe_callB (call_gLen T (hr.mono (by decide))) (by rfl) T.b_len (by decide +kernel) (pa_cons (pv 3) pa_nil)) pa_nil)))))) (pe_tup (pa_cons (pe_tup (pa_cons pe_int (pa_cons pe_int (pa_cons (pe_un un_neg pe_int) pa_nil)))) (pa_cons (pe_un un_neg pe_int) (pa_cons pe_int (pa_cons pe_int (pa_cons pe_int pa_nil)))))) (nomark _)) (pss_one (ps_ret pe_bl)) pss_nil)
      (pss_cons (ps_if (PW.pt (pw_or (pt_cmpR (op_gNotEq T (hr.mono (by decide))) (pe_m_raised T (hr.mono (by decide)) (pe_poly T (hr.mono (by decide)) (by rfl) (pa_cons (pe_tup (pa_cons pe_int (pa_cons pe_int pa_nil))) pa_nil)) (pa_cons pe_int pa_nil)) (pe_poly T (hr.mono (by decide)) (by rfl) (pa_cons (pe_tup (pa_cons pe_int (pa_cons pe_int (pa_cons pe_int (pa_cons pe_int pa_nil))))) pa_nil)) (nomark _)) (pw_or (pt_cmpR (op_gNotEq T (hr.mono (by decide))) (pe_m_raised T (hr.mono (by decide)) (pe_poly T (hr.mono (by decide)) (by rfl) (pa_cons (pe_tup (pa_cons pe_int (pa_cons pe_int pa_nil))) pa_nil)) (pa_cons pe_int pa_nil)) (pe_poly T (hr.mono (by decide)) (by rfl) (pa_cons (pe_tup (pa_cons pe_int pa_nil)) pa_nil)) (nomark _)) (pw_or1 (pt_cmpR (op_gNotEq T (hr.mono (by decide))) (pe_m_raised T (hr.mono (by decide)) (pe_poly T (hr.mono (by decide)) (by rfl) (pa_cons (pe_tup pa_nil) pa_nil)) (pa_cons pe_int pa_nil)) (pe_poly T (hr.mono (by decide)) (by rfl) (pa_cons (pe_tup (pa_cons pe_int pa_nil)) pa_nil)) (nomark _)))))) (pss_one (ps_ret pe_bl)) pss_nil)
      (pss_cons (ps_set (i := 4) sc_law.nd rfl (Or.inl rfl) (pe_lst (pa_cons (pe_pT T (hr.mono (by decide)) (pe_poly T (hr.mono (by decide)) (by rfl) (pa_cons (pe_tup (pa_cons pe_int (pa_cons pe_int (pa_cons pe_int pa_nil)))) pa_nil))) (pa_cons (pe_pT T (hr.mono (by decide)) (pe_poly T (hr.mono (by decide)) (by rfl) (pa_cons (pe_tup (pa_cons pe_int (pa_cons pe_int pa_nil))) pa_nil))) (pa_cons (pe_pT T (hr.mono (by decide)) (pe_poly T (hr.mono (by decide)) (by rfl) (pa_cons (pe_tup pa_nil) pa_nil))) (pa_cons (pe_m_value_at T (hr.mono (by decide)) (pe_poly T (hr.mono (by decide)) (by rfl) (pa_cons (pe_tup (pa_cons pe_int (pa_cons pe_int (pa_cons pe_int (pa_cons pe_int pa_nil))))) pa_nil)) (pa_cons pe_int pa_nil)) pa_nil))))))
      (pss_one (ps_ret (pe_and (pe_cmpR (op_eqD hr.units) (pv 4) (pe_lst (pa_cons pe_bl (pa_cons pe_bl (pa_cons pe_bl (pa_cons pe_int pa_nil))))) (nomark _)) (pe_and (pe_cmpR op_eq (pe_pL T (hr.mono (by decide)) (pe_poly T (hr.mono (by decide)) (by rfl) (pa_cons (pe_tup pa_nil) (pa_cons pe_int pa_nil)))) pe_int (nomark _)) (pe_one (pe_cmpR op_isN (pe_pD T (hr.mono (by decide)) (pe_poly T (hr.mono (by decide)) (by rfl) (pa_cons (pe_tup pa_nil) pa_nil))) pe_non (nomark _)))))))))))), ?_⟩
    have hj : ∀ j : Int, -(2 ^ 62) ≤ (if (if (j : Int) < 4 then (j : Int) else 4) > 1 then (if (j : Int) < 4 then (j : Int) else 4) else 1) ∧ (if (if (j : Int) < 4 then (j : Int) else 4) > 1 then (if (j : Int) < 4 then (j : Int) else 4) else 1) < 2 ^ 62 := fun j => by
      split <;> split <;> omega
    refine ⟨_, rfl, _, _, rfl, .inl hs, _, _, rfl, _, _, rfl, _, rfl, (hj _).1, (hj _).2, for_range (lo := 0) (fun _ σ H' => SqL K H' sa (ns.map V.int) ∧ ∃ v1 v2 : Option V, σ = [some (.ref sa), v1, v2, none, none]) ⟨hs, none, none, rfl⟩ ?_ ?_⟩
    · rintro i σ H0 hi ⟨hs, v1, v2, rfl⟩
      refine ⟨_, rfl, _, rfl, sa, _, ns, rfl, hs, by omega, fun p H1 s1 np bb => ?_⟩
      refine ⟨_, rfl, p, rfl, bb, fun H2 o2 b2 => ⟨_, rfl, iteNT' rfl ?_⟩⟩
      refine ⟨_, rfl, p, rfl, b2, fun H3 o3 b3 => ⟨_, rfl, iteNT' rfl ?_⟩⟩
      have o := o2.trans o3
      refine ⟨?_, _, _, rfl⟩
      exact SqL.ext hs fun q u e => o q u (fun z => by rw [z] at e; rw [np] at e; cases e) (s1 _ _ e)
    · rintro σ H0 ⟨hs, v1, v2, rfl⟩
      refine ⟨_, rfl, show 5 ≤ sizeLine by decide, fun t1 nt1 => ⟨_, rfl, .ref t1, [0, 3, 0, -1, 0], -2, .inl rfl, ⟨t1, rfl, .of upd_same⟩, by decide, lit_ok (by decide), by decide, by decide, fun a1 l1 tr1 r1 H1 s1 n1 p1 => ?_⟩⟩
      have hval : ∀ e, rval [0, 3, 0, -1, 0] (-2) e = rval [3, 0, -1] (-1) e := fun e => by
        simp only [rval_cons, rval_nil]
        (repeat' split) <;> omega
      have ez1 := trim_eq tr1.1 (lit_trim (-1) rfl : Trim [3, 0, -1] (-1)) fun e => (tr1.2.1 e).trans (hval e)
      rw [ez1.1, ez1.2] at p1
      obtain ⟨dx1, kx1, g1, _⟩ := id p1
      refine ⟨_, rfl, r1, dx1, _, rfl, g1, r1, [3, 0, -1], -1, rfl, p1, fun v tv => ⟨_, rfl, r1, dx1, _, rfl, g1, r1, [3, 0, -1], -1, rfl, p1, _, rfl, r1, dx1, _, rfl, g1, r1, [3, 0, -1], -1, rfl, p1, _, rfl, r1, dx1, _, rfl, g1, (pf_no _ _ (m_no (m := "at") (by decide +kernel)).1 (m_no (m := "at") (by decide +kernel)).2), r1, [3, 0, -1], -1, 0, rfl, by decide, by decide, p1, _, rfl, r1, dx1, _, rfl, g1, r1, [3, 0, -1], -1, rfl, p1, _, rfl, by decide, by decide, show 5 ≤ sizeLine by decide, fun ta nta => ⟨_, rfl, show 3 ≤ sizeLine by decide, fun tb ntb => ⟨_, rfl, show 5 ≤ sizeLine by decide, fun tc ntc => ?_⟩⟩⟩⟩
      have sb := same_new (o := .tup [V.int 3, V.int 0, V.int (-1)]) ntb
      have sc := same_new (o := .tup [V.ref tb, V.int (-1), V.int 1, V.int 0, V.int 3]) ntc
      have sa3 := (same_new nta).trans (sb.trans sc)
      refine ⟨.tuple [dT [3, 0, -1], .int (-1), .int 1, .int 0, .int 3], .tuple [dT [3, 0, -1], .int (-1), .int 1, .int 0, .int 3], .tup (.of (sc _ _ (sb _ _ upd_same))) (.cons (tv.same sa3).dp (.cons (.int _) (.cons (.int 1) (.cons (.int 0) (.cons (.int 3) .nil))))), .tup (.of upd_same) (.cons (TI.dp (ns := [3, 0, -1]) ⟨tb, rfl, .of (sc _ _ upd_same)⟩) (.cons (.int _) (.cons (.int 1) (.cons (.int 0) (.cons (.int 3) .nil))))), by decide +kernel, by decide +kernel, _, rfl, ite2 (fun h => absurd h (by simp [PyData.eqv, PyData.eqvAll, dT])) (fun _ => ?_)⟩
      refine ⟨show 2 ≤ sizeLine by decide, fun t2 nt2 => ⟨.ref t2, [1, 1], 0, .inr ⟨rfl, rfl⟩, ⟨t2, rfl, .of upd_same⟩, by decide, lit_ok (by decide), by decide, by decide, fun a2 l2 tr2 r2 H2 s2 n2 p2 => ?_⟩⟩
      have ez2 := lit_tr tr2 rfl
      rw [ez2.1, ez2.2] at p2
      obtain ⟨dx2, kx2, g2, _⟩ := id p2
      refine ⟨r2, dx2, _, rfl, g2, (pf_no _ _ (m_no (m := "raised") (by decide +kernel)).1 (m_no (m := "raised") (by decide +kernel)).2), r2, [1, 1], 0, 3, rfl, by decide, p2, lit_trim 0 rfl, lit_rw (by decide) (by decide), fun c2 q2 tc2 hc2 m2 K2 u2 y2 => ?_⟩
      refine ⟨show 4 ≤ sizeLine by decide, fun t3 nt3 => ⟨.ref t3, [1, 3, 3, 1], 0, .inr ⟨rfl, rfl⟩, ⟨t3, rfl, .of upd_same⟩, by decide, lit_ok (by decide), by decide, by decide, fun a3 l3 tr3 r3 H3 s3 n3 p3 => ?_⟩⟩
      have ez3 := lit_tr tr3 rfl
      rw [ez3.1, ez3.2] at p3
      obtain ⟨dx3, kx3, g3, _⟩ := id p3
      have w2 := (y2.same (same_new nt3)).same s3
      obtain ⟨du2, ku2, gu2, _⟩ := id w2
      refine ⟨m2, r3, du2, _, dx3, _, rfl, rfl, gu2, g3, m2, .ref r3, c2, q2, rfl, w2, .inl ⟨r3, [1, 3, 3, 1], 0, rfl, p3, _, rfl, _, rfl, iteNT' (eqt (trim_eq tc2 (lit_trim 0 rfl) fun e => ?_)) ?_⟩⟩
      · rw [hc2]
        show rval (powL [1, 1] 3) (_ * 0) e = _
        rw [show powL [1, 1] 3 = [1, 3, 3, 1] by decide, Int.mul_zero]
      refine ⟨show 2 ≤ sizeLine by decide, fun t4 nt4 => ⟨.ref t4, [1, 1], 0, .inr ⟨rfl, rfl⟩, ⟨t4, rfl, .of upd_same⟩, by decide, lit_ok (by decide), by decide, by decide, fun a4 l4 tr4 r4 H4 s4 n4 p4 => ?_⟩⟩
      have ez4 := lit_tr tr4 rfl
      rw [ez4.1, ez4.2] at p4
      obtain ⟨dx4, kx4, g4, _⟩ := id p4
      refine ⟨r4, dx4, _, rfl, g4, (pf_no _ _ (m_no (m := "raised") (by decide +kernel)).1 (m_no (m := "raised") (by decide +kernel)).2), r4, [1, 1], 0, 0, rfl, by decide, p4, lit_trim 0 rfl, lit_rw (by decide) (by decide), fun c4 q4 tc4 hc4 m4 K4 u4 y4 => ?_⟩
      refine ⟨show 1 ≤ sizeLine by decide, fun t5 nt5 => ⟨.ref t5, [1], 0, .inr ⟨rfl, rfl⟩, ⟨t5, rfl, .of upd_same⟩, by decide, lit_ok (by decide), by decide, by decide, fun a5 l5 tr5 r5 H5 s5 n5 p5 => ?_⟩⟩
      have ez5 := lit_tr tr5 rfl
      rw [ez5.1, ez5.2] at p5
      obtain ⟨dx5, kx5, g5, _⟩ := id p5
      have w4 := (y4.same (same_new nt5)).same s5
      obtain ⟨du4, ku4, gu4, _⟩ := id w4
      refine ⟨m4, r5, du4, _, dx5, _, rfl, rfl, gu4, g5, m4, .ref r5, c4, q4, rfl, w4, .inl ⟨r5, [1], 0, rfl, p5, _, rfl, _, rfl, iteNT' (eqt (trim_eq tc4 (lit_trim 0 rfl) fun e => ?_)) ?_⟩⟩
      · rw [hc4]
        show rval (powL [1, 1] 0) (_ * 0) e = _
        rw [show powL [1, 1] 0 = [1] by decide, Int.mul_zero]
      refine ⟨show 0 ≤ sizeLine by decide, fun t6 nt6 => ⟨.ref t6, [], 0, .inr ⟨rfl, rfl⟩, ⟨t6, rfl, .of upd_same⟩, by decide, lit_ok (by decide), by decide, by decide, fun a6 l6 tr6 r6 H6 s6 n6 p6 => ?_⟩⟩
      have ez6 := tr_nil tr6
      rw [ez6.1, ez6.2] at p6
      obtain ⟨dx6, kx6, g6, _⟩ := id p6
      refine ⟨r6, dx6, _, rfl, g6, (pf_no _ _ (m_no (m := "raised") (by decide +kernel)).1 (m_no (m := "raised") (by decide +kernel)).2), r6, [], 0, 0, rfl, by decide, p6, .inl ⟨rfl, rfl⟩, lit_rw (by decide) (by decide), fun c6 q6 tc6 hc6 m6 K6 u6 y6 => ?_⟩
      refine ⟨show 1 ≤ sizeLine by decide, fun t7 nt7 => ⟨.ref t7, [1], 0, .inr ⟨rfl, rfl⟩, ⟨t7, rfl, .of upd_same⟩, by decide, lit_ok (by decide), by decide, by decide, fun a7 l7 tr7 r7 H7 s7 n7 p7 => ?_⟩⟩
      have ez7 := lit_tr tr7 rfl
      rw [ez7.1, ez7.2] at p7
      obtain ⟨dx7, kx7, g7, _⟩ := id p7
      have w6 := (y6.same (same_new nt7)).same s7
      obtain ⟨du6, ku6, gu6, _⟩ := id w6
      refine ⟨m6, r7, du6, _, dx7, _, rfl, rfl, gu6, g7, m6, .ref r7, c6, q6, rfl, w6, .inl ⟨r7, [1], 0, rfl, p7, _, rfl, _, rfl, iteNT' (eqt (trim_eq tc6 (lit_trim 0 rfl) fun e => ?_)) ?_⟩⟩
      · rw [hc6]
        show rval (powL [] 0) (_ * 0) e = _
        rw [show powL [] 0 = [1] by decide, Int.mul_zero]
      refine ⟨show 3 ≤ sizeLine by decide, fun t8 nt8 => ⟨.ref t8, [1, 2, 1], 0, .inr ⟨rfl, rfl⟩, ⟨t8, rfl, .of upd_same⟩, by decide, lit_ok (by decide), by decide, by decide, fun a8 l8 tr8 r8 H8 s8 n8 p8 => ?_⟩⟩
      have ez8 := lit_tr tr8 rfl
      rw [ez8.1, ez8.2] at p8
      obtain ⟨dx8, kx8, g8, _⟩ := id p8
      refine ⟨r8, dx8, _, rfl, g8, r8, [1, 2, 1], 0, rfl, p8, fun A8 sA8 => ?_⟩
      refine ⟨show 2 ≤ sizeLine by decide, fun t9 nt9 => ⟨.ref t9, [1, 2], 0, .inr ⟨rfl, rfl⟩, ⟨t9, rfl, .of upd_same⟩, by decide, lit_ok (by decide), by decide, by decide, fun a9 l9 tr9 r9 H9 s9 n9 p9 => ?_⟩⟩
      have ez9 := lit_tr tr9 rfl
      rw [ez9.1, ez9.2] at p9
      obtain ⟨dx9, kx9, g9, _⟩ := id p9
      refine ⟨r9, dx9, _, rfl, g9, r9, [1, 2], 0, rfl, p9, fun A9 sA9 => ?_⟩
      refine ⟨show 0 ≤ sizeLine by decide, fun t10 nt10 => ⟨.ref t10, [], 0, .inr ⟨rfl, rfl⟩, ⟨t10, rfl, .of upd_same⟩, by decide, lit_ok (by decide), by decide, by decide, fun a10 l10 tr10 r10 H10 s10 n10 p10 => ?_⟩⟩
      have ez10 := tr_nil tr10
      rw [ez10.1, ez10.2] at p10
      obtain ⟨dx10, kx10, g10, _⟩ := id p10
      refine ⟨r10, dx10, _, rfl, g10, r10, [], 0, rfl, p10, fun A10 sA10 => ?_⟩
      refine ⟨show 4 ≤ sizeLine by decide, fun t11 nt11 => ⟨.ref t11, [1, 3, 3, 1], 0, .inr ⟨rfl, rfl⟩, ⟨t11, rfl, .of upd_same⟩, by decide, lit_ok (by decide), by decide, by decide, fun a11 l11 tr11 r11 H11 s11 n11 p11 => ?_⟩⟩
      have ez11 := lit_tr tr11 rfl
      rw [ez11.1, ez11.2] at p11
      obtain ⟨dx11, kx11, g11, _⟩ := id p11
      refine ⟨r11, dx11, _, rfl, g11, (pf_no _ _ (m_no (m := "value_at") (by decide +kernel)).1 (m_no (m := "value_at") (by decide +kernel)).2), r11, [1, 3, 3, 1], 2, rfl, by decide, p11, lit_rw (by decide) (by decide), fun H11v s11v => ⟨show 4 ≤ sizeLine by decide, fun td ntd => ?_⟩⟩
      refine ⟨_, rfl, show 4 ≤ sizeLine by decide, fun te nte => ?_⟩
      refine ⟨.list [.bool true, .bool false, .bool true, .int 27], .list [.bool true, .bool false, .bool true, .int 27], .lst (.of (same_new nte _ _ upd_same)) (.cons (.bl true) (.cons (.bl false) (.cons (.bl true) (.cons (.int 27) .nil)))), .lst (.of upd_same) (.cons (.bl true) (.cons (.bl false) (.cons (.bl true) (.cons (.int 27) .nil)))), by decide +kernel, by decide +kernel, _, rfl, iteB (by simp [PyData.eqv, PyData.eqvAll]) ?_⟩
      refine ⟨show 0 ≤ sizeLine by decide, fun t12 nt12 => ⟨.ref t12, [], 9, .inl rfl, ⟨t12, rfl, .of upd_same⟩, by decide, lit_ok (by decide), by decide, by decide, fun a12 l12 tr12 r12 H12 s12 n12 p12 => ?_⟩⟩
      have ez12 := tr_nil tr12
      rw [ez12.1, ez12.2] at p12
      obtain ⟨dx12, kx12, g12, _⟩ := id p12
      refine ⟨r12, dx12, _, rfl, g12, r12, [], 0, rfl, p12, rfl, _, rfl, iteB rfl ?_⟩
      refine ⟨show 0 ≤ sizeLine by decide, fun t13 nt13 => ⟨.ref t13, [], 0, .inr ⟨rfl, rfl⟩, ⟨t13, rfl, .of upd_same⟩, by decide, lit_ok (by decide), by decide, by decide, fun a13 l13 tr13 r13 H13 s13 n13 p13 => ?_⟩⟩
      have ez13 := tr_nil tr13
      rw [ez13.1, ez13.2] at p13
      obtain ⟨dx13, kx13, g13, _⟩ := id p13
      exact ⟨r13, dx13, _, rfl, g13, r13, [], 0, rfl, p13, rfl, k _⟩
end
end Pk

namespace Pk
open PySem L2 Ow RT
section
variable {K : PySem.W.Frag} {h : Heap} {mg : Str → Option Value} {x qual : Str} {st : Stmt} {f p C T0 : Addr} {oc kV doc pm cdv ct oc2 : Value} {od an od2 : Option Addr} {sl sl2 : Array (Option Value)} {tk n : Nat} {rest : List Value}
theorem mdef_mk (X : K.In h) (G : h.Ns mainGlobals mg) (a : PySem.W.nsIn K mainGlobals x = some (some (.ref f)))
    (l : K.lookup f = some ⟨oc, od, .func (PySem.W.fnOf x x (defArgs st) (defBody st) (defScope st) .none kV doc pm an cdv ct), sl⟩) (c : PySem.W.codeIn K cdv x = true) (k : PySem.W.keepIn K (.ref f) = true) : MDef K mg x st :=
  ⟨f, _, fun_mk l c k, PySem.W.mg_of X G a⟩
theorem gm_mk (a : PySem.W.findIn K (.ref C) x = some (some (.ref f))) (i : PySem.W.isFn K (.ref f) = true)
    (l : K.lookup f = some ⟨oc, od, .func (PySem.W.fnOf x qual (defArgs st) (defBody st) (defScope st) .none kV doc pm an cdv ct), sl⟩) (c : PySem.W.codeIn K cdv qual = true) (k : PySem.W.keepIn K (.ref f) = true) : GM K C x qual st :=
  ⟨f, _, fun_mk l c k, ⟨a, i⟩⟩
theorem gp_mk (a : PySem.W.findIn K (.ref C) x = some (some (.ref p))) (g : PySem.W.specialIn K (.ref p) "__get__" = some (some (.builtin "property.__get__"))) (t : PySem.W.takesIn K (.ref p) = some true) (r : PySem.W.recIn K p "property" = some (.ref f :: rest))
    (l : K.lookup f = some ⟨oc, od, .func (PySem.W.fnOf x qual (defArgs st) (defBody st) (defScope st) .none kV doc pm an cdv ct), sl⟩) (c : PySem.W.codeIn K cdv qual = true) (k : PySem.W.keepIn K (.ref f) = true) : GP K C x qual st :=
  ⟨p, f, _, ⟨a, g, t, rest, r⟩, fun_mk l c k⟩
theorem init_mk (mk : PySem.W.makesIn K C = true) (kc : PySem.W.keepIn K (.ref C) = true) (a : PySem.W.findIn K (.ref C) "__init__" = some (some (.ref f))) (i : PySem.W.isFn K (.ref f) = true)
    (l : K.lookup f = some ⟨oc, od, .func (PySem.W.fnOf "__init__" "Poly.__init__" (defArgs s_init) (defBody s_init) (defScope s_init) (.ref T0) kV doc pm an cdv ct), sl⟩) (c : PySem.W.codeIn K cdv "Poly.__init__" = true) (k : PySem.W.keepIn K (.ref f) = true)
    (lT : K.lookup T0 = some ⟨oc2, od2, .seq #[.int 0 tk] n, sl2⟩) : ∃ f fd, Mk K C f ∧ FunD K "__init__" "Poly.__init__" (defArgs s_init) (defBody s_init) (defScope s_init) [.int 0] [] f fd :=
  ⟨f, _, ⟨mk, a, i, kc⟩, ⟨⟨oc, od, .ref T0, kV, doc, pm, an, cdv, ct, sl, rfl, l, c, .inr ⟨by simp, T0, _, [.int 0 tk], n, rfl, lT, rfl, .cons ⟨tk, rfl⟩ .nil⟩, .inl rfl⟩, k⟩⟩
theorem gi_mk {t : Nat} {i : Int} {x : Str} (X : K.In h) (G : h.Ns mainGlobals mg) (a : PySem.W.nsIn K mainGlobals x = some (some (.int i t))) : ∃ u, mg x = some u ∧ RelV (.int i) u := ⟨_, PySem.W.mg_of X G a, ⟨t, rfl⟩⟩
theorem end_mk {l : PySem.W.OpenLaw} {w : World} {fa : Addr} (X : K.In h) (G : h.Ns mainGlobals mg) (hfa : mg "law" = some (.ref fa)) (T : Txt K mg C) (a : PySem.W.nsIn K mainGlobals "law" = some (some (.ref f)))
    (l1 : K.lookup f = some ⟨oc, od, .func (PySem.W.fnOf "law" "law" (defArgs s_law) (defBody s_law) (defScope s_law) .none kV doc pm an cdv ct), sl⟩) (c : PySem.W.codeIn K cdv "law" = true) (k : PySem.W.keepIn K (.ref f) = true) :
    ∃ fd : FuncData, (∀ (s : Shared) (v : Value), BindsTo s fd ⟨[v], []⟩ [("_law_script", v)]) ∧ ∀ base : Heap, K.In base → base.Ns mainGlobals mg → FnOk l.prog w K mg base CX0 17 fa fd ["_law_script"] (spLaw K) := by
  have e := hfa.symm.trans (PySem.W.mg_of X G a)
  cases e
  exact ⟨PySem.W.fnOf "law" "law" (defArgs s_law) (defBody s_law) (defScope s_law) .none kV doc pm an cdv ct, fun s v => .of_eq rfl, fun base _ _ => ok_law T (fun_mk (st := s_law) l1 c k)⟩
end
theorem walk {l : PySem.W.OpenLaw} {q : Program} {loose : List Str} {XP : (Str → Option Value) → Heap → Prop} {YP : World → Heap → Prop} {d : DefRec} {K : Params → PySem.W.Frag} (hn : l.most = some 63) (hdf : d.params.defaults = [])
    (hY : ∀ (w : World) (h : Heap), YP w h → (K w.params).In h)
    (F : ∀ (w : World) (mg : Str → Option Value) (fa : Addr) (h : Heap), (K w.params).In h → h.Ns mainGlobals mg → mg d.name = some (.ref fa) →
      ∃ fd : FuncData, (∀ (s : Shared) (u : Value), BindsTo s fd ⟨[u], []⟩ [("_law_script", u)]) ∧ ∀ base : Heap, (K w.params).In base → base.Ns mainGlobals mg → FnOk l.prog w (K w.params) mg base CX0 17 fa fd ["_law_script"] (spLaw (K w.params))) :
    PySem.W.WalkO q loose XP YP l.row.toRowW d [] (fun f vs => PySem.call f vs) :=
  L2.walk_of (n := 63) (k := 17) (x := "_law_script") (CX := fun _ => CX0) (sp := fun w => spLaw (K w.params)) hn (by decide) hdf ⟨rfl, by decide, by decide⟩ hY F (fun _ _ a ns hl _ hS => ⟨a, ns, rfl, hS, hl, fun _ => rfl⟩) fun _ _ _ _ _ z => z
end Pk

open PySem PySem.W PyProof.Rows in
set_option maxRecDepth 100000 in
set_option maxHeartbeats 0 in
theorem PySem.Challenge.cw_underwords_k02_whole_polys_reckoned_holds : PySem.Challenge.rw_underwords_k02_whole_polys_reckoned.Holds := by
  w_on; o_law; k_head; (case hw => w_witness2)
  k_fill
  refine Pk.walk (l := PySem.Challenge.rw_underwords_k02_whole_polys_reckoned) rfl rfl (fun w h Y => PySem.W.kIn_of Y) ?F
  case F =>
    intro w mg fa h KX G hmg
    refine' Pk.end_mk KX G hmg (C := _) ?T ?a ?l ?c ?k
    (case a => k_is)
    (case l => k_is)
    (case c => k_is)
    (case k => k_is)
    case T =>
      refine' { cl := ⟨?pg, ?hd, ?po, ?sa⟩, oc := ⟨?fi, ?ob, ?ne, ?nf⟩, ic := ⟨⟨?pg2, ?hd2, ?po2, ?sa2⟩, ?ha, ?hn, ?htk, ?hm, if_pos (beq_self_eq_true _)⟩, mgPoly := PySem.W.mg_of KX G ?gG, nC := ?nC, nL := ?nL, mkP := ?mkP, gMC := ?gMC, gME := ?gME, gMR := ?gMR, yTup := ⟨?yTupS, ?yTupK⟩, yDict := ⟨?yDictS, ?yDictK⟩, pC := ?pC, pL := ?pL, pD := ?pD, pT := ?pT, mAt := ?mAt, mRaised := ?mRaised, mTurned := ?mTurned, mMoved := ?mMoved, mVal := ?mVal, mAdd := ?mAdd, mSub := ?mSub, mMul := ?mMul, mNeg := ?mNeg, mEq := ?mEq, mBool := ?mBool, mLen := ?mLen, d_is_integer := ?d_is_integer, d_is_within := ?d_is_within, d_are_coefficients := ?d_are_coefficients, d_is_exponent := ?d_is_exponent, d_trimmed := ?d_trimmed, d_poly_of := ?d_poly_of, d_integer_at := ?d_integer_at, d_sum_of := ?d_sum_of, d_folded := ?d_folded, d_widest_of := ?d_widest_of, d_packed := ?d_packed, d_unpacked := ?d_unpacked, d_power := ?d_power, d_l_basin := ?d_l_basin, d_l_scoop := ?d_l_scoop, d_l_one_of := ?d_l_one_of, d_l_number := ?d_l_number, d_l_plus := ?d_l_plus, d_l_times := ?d_l_times, d_l_moved := ?d_l_moved, d_l_in_row := ?d_l_in_row, d_l_of_row := ?d_l_of_row, d_l_drawn_poly := ?d_l_drawn_poly, d_l_is_told := ?d_l_is_told, d_l_power := ?d_l_power, d_l_value := ?d_l_value, d_l_right := ?d_l_right, b_dict := ?b_dict, b_list := ?b_list, b_sorted := ?b_sorted, b_isinstance := ?b_isinstance, b_int := ?b_int, b_bool := ?b_bool, b_tuple := ?b_tuple, b_len := ?b_len, b_abs := ?b_abs, b_max := ?b_max, b_min := ?b_min, b_all := ?b_all, b_range := ?b_range, b_enumerate := ?b_enumerate, b_reversed := ?b_reversed }
      (case gG => k_is)
      (case pg => k_is)
      (case hd => k_is)
      (case po => k_is)
      (case sa => k_is)
      (case fi => k_is)
      (case ob => k_is)
      (case ne => k_is)
      (case nf => k_is)
      (case pg2 => k_is)
      (case hd2 => k_is)
      (case po2 => k_is)
      (case sa2 => k_is)
      (case ha => k_is)
      (case hn => k_is)
      (case htk => k_is)
      (case hm => k_is)
      (case nC => ((show PySem.W.findIn _ _ "_coefficients" = some none); k_is))
      (case nL => ((show PySem.W.findIn _ _ "_lowest" = some none); k_is))
      (case mkP => (refine' Pk.init_mk ?q1 ?q2 ?q3 ?q4 ?q5 ?q6 ?q7 ?q8; (case q1 => k_is); (case q2 => k_is); (case q3 => k_is); (case q4 => k_is); (case q5 => k_is); (case q6 => k_is); (case q7 => k_is); (case q8 => k_is)))
      (case gMC => (refine' Pk.gi_mk KX G ?q1; (case q1 => k_is)))
      (case gME => (refine' Pk.gi_mk KX G ?q1; (case q1 => k_is)))
      (case gMR => (refine' Pk.gi_mk KX G ?q1; (case q1 => k_is)))
      (case yTupS => k_is)
      (case yTupK => first | kit_is | k_is)
      (case yDictS => k_is)
      (case yDictK => first | kit_is | k_is)
      (case pC => (refine' Pk.gp_mk ?q1 ?q2 ?q3 ?q4 ?q5 ?q6 ?q7; (case q1 => k_is); (case q2 => k_is); (case q3 => k_is); (case q4 => k_is); (case q5 => k_is); (case q6 => k_is); (case q7 => k_is)))
      (case pL => (refine' Pk.gp_mk ?q1 ?q2 ?q3 ?q4 ?q5 ?q6 ?q7; (case q1 => k_is); (case q2 => k_is); (case q3 => k_is); (case q4 => k_is); (case q5 => k_is); (case q6 => k_is); (case q7 => k_is)))
      (case pD => (refine' Pk.gp_mk ?q1 ?q2 ?q3 ?q4 ?q5 ?q6 ?q7; (case q1 => k_is); (case q2 => k_is); (case q3 => k_is); (case q4 => k_is); (case q5 => k_is); (case q6 => k_is); (case q7 => k_is)))
      (case pT => (refine' Pk.gp_mk ?q1 ?q2 ?q3 ?q4 ?q5 ?q6 ?q7; (case q1 => k_is); (case q2 => k_is); (case q3 => k_is); (case q4 => k_is); (case q5 => k_is); (case q6 => k_is); (case q7 => k_is)))
      (case mAt => (refine' Pk.gm_mk ?q1 ?q2 ?q3 ?q4 ?q5; (case q1 => k_is); (case q2 => k_is); (case q3 => k_is); (case q4 => k_is); (case q5 => k_is)))
      (case mRaised => (refine' Pk.gm_mk ?q1 ?q2 ?q3 ?q4 ?q5; (case q1 => k_is); (case q2 => k_is); (case q3 => k_is); (case q4 => k_is); (case q5 => k_is)))
      (case mTurned => (refine' Pk.gm_mk ?q1 ?q2 ?q3 ?q4 ?q5; (case q1 => k_is); (case q2 => k_is); (case q3 => k_is); (case q4 => k_is); (case q5 => k_is)))
      (case mMoved => (refine' Pk.gm_mk ?q1 ?q2 ?q3 ?q4 ?q5; (case q1 => k_is); (case q2 => k_is); (case q3 => k_is); (case q4 => k_is); (case q5 => k_is)))
      (case mVal => (refine' Pk.gm_mk ?q1 ?q2 ?q3 ?q4 ?q5; (case q1 => k_is); (case q2 => k_is); (case q3 => k_is); (case q4 => k_is); (case q5 => k_is)))
      (case mAdd => (refine' Pk.gm_mk ?q1 ?q2 ?q3 ?q4 ?q5; (case q1 => k_is); (case q2 => k_is); (case q3 => k_is); (case q4 => k_is); (case q5 => k_is)))
      (case mSub => (refine' Pk.gm_mk ?q1 ?q2 ?q3 ?q4 ?q5; (case q1 => k_is); (case q2 => k_is); (case q3 => k_is); (case q4 => k_is); (case q5 => k_is)))
      (case mMul => (refine' Pk.gm_mk ?q1 ?q2 ?q3 ?q4 ?q5; (case q1 => k_is); (case q2 => k_is); (case q3 => k_is); (case q4 => k_is); (case q5 => k_is)))
      (case mNeg => (refine' Pk.gm_mk ?q1 ?q2 ?q3 ?q4 ?q5; (case q1 => k_is); (case q2 => k_is); (case q3 => k_is); (case q4 => k_is); (case q5 => k_is)))
      (case mEq => (refine' Pk.gm_mk ?q1 ?q2 ?q3 ?q4 ?q5; (case q1 => k_is); (case q2 => k_is); (case q3 => k_is); (case q4 => k_is); (case q5 => k_is)))
      (case mBool => (refine' Pk.gm_mk ?q1 ?q2 ?q3 ?q4 ?q5; (case q1 => k_is); (case q2 => k_is); (case q3 => k_is); (case q4 => k_is); (case q5 => k_is)))
      (case mLen => (refine' Pk.gm_mk ?q1 ?q2 ?q3 ?q4 ?q5; (case q1 => k_is); (case q2 => k_is); (case q3 => k_is); (case q4 => k_is); (case q5 => k_is)))
      (case d_is_integer => (refine' Pk.mdef_mk KX G ?q1 ?q2 ?q3 ?q4; (case q1 => k_is); (case q2 => k_is); (case q3 => k_is); (case q4 => k_is)))
      (case d_is_within => (refine' Pk.mdef_mk KX G ?q1 ?q2 ?q3 ?q4; (case q1 => k_is); (case q2 => k_is); (case q3 => k_is); (case q4 => k_is)))
      (case d_are_coefficients => (refine' Pk.mdef_mk KX G ?q1 ?q2 ?q3 ?q4; (case q1 => k_is); (case q2 => k_is); (case q3 => k_is); (case q4 => k_is)))
      (case d_is_exponent => (refine' Pk.mdef_mk KX G ?q1 ?q2 ?q3 ?q4; (case q1 => k_is); (case q2 => k_is); (case q3 => k_is); (case q4 => k_is)))
      (case d_trimmed => (refine' Pk.mdef_mk KX G ?q1 ?q2 ?q3 ?q4; (case q1 => k_is); (case q2 => k_is); (case q3 => k_is); (case q4 => k_is)))
      (case d_poly_of => (refine' Pk.mdef_mk KX G ?q1 ?q2 ?q3 ?q4; (case q1 => k_is); (case q2 => k_is); (case q3 => k_is); (case q4 => k_is)))
      (case d_integer_at => (refine' Pk.mdef_mk KX G ?q1 ?q2 ?q3 ?q4; (case q1 => k_is); (case q2 => k_is); (case q3 => k_is); (case q4 => k_is)))
      (case d_sum_of => (refine' Pk.mdef_mk KX G ?q1 ?q2 ?q3 ?q4; (case q1 => k_is); (case q2 => k_is); (case q3 => k_is); (case q4 => k_is)))
      (case d_folded => (refine' Pk.mdef_mk KX G ?q1 ?q2 ?q3 ?q4; (case q1 => k_is); (case q2 => k_is); (case q3 => k_is); (case q4 => k_is)))
      (case d_widest_of => (refine' Pk.mdef_mk KX G ?q1 ?q2 ?q3 ?q4; (case q1 => k_is); (case q2 => k_is); (case q3 => k_is); (case q4 => k_is)))
      (case d_packed => (refine' Pk.mdef_mk KX G ?q1 ?q2 ?q3 ?q4; (case q1 => k_is); (case q2 => k_is); (case q3 => k_is); (case q4 => k_is)))
      (case d_unpacked => (refine' Pk.mdef_mk KX G ?q1 ?q2 ?q3 ?q4; (case q1 => k_is); (case q2 => k_is); (case q3 => k_is); (case q4 => k_is)))
      (case d_power => (refine' Pk.mdef_mk KX G ?q1 ?q2 ?q3 ?q4; (case q1 => k_is); (case q2 => k_is); (case q3 => k_is); (case q4 => k_is)))
      (case d_l_basin => (refine' Pk.mdef_mk KX G ?q1 ?q2 ?q3 ?q4; (case q1 => k_is); (case q2 => k_is); (case q3 => k_is); (case q4 => k_is)))
      (case d_l_scoop => (refine' Pk.mdef_mk KX G ?q1 ?q2 ?q3 ?q4; (case q1 => k_is); (case q2 => k_is); (case q3 => k_is); (case q4 => k_is)))
      (case d_l_one_of => (refine' Pk.mdef_mk KX G ?q1 ?q2 ?q3 ?q4; (case q1 => k_is); (case q2 => k_is); (case q3 => k_is); (case q4 => k_is)))
      (case d_l_number => (refine' Pk.mdef_mk KX G ?q1 ?q2 ?q3 ?q4; (case q1 => k_is); (case q2 => k_is); (case q3 => k_is); (case q4 => k_is)))
      (case d_l_plus => (refine' Pk.mdef_mk KX G ?q1 ?q2 ?q3 ?q4; (case q1 => k_is); (case q2 => k_is); (case q3 => k_is); (case q4 => k_is)))
      (case d_l_times => (refine' Pk.mdef_mk KX G ?q1 ?q2 ?q3 ?q4; (case q1 => k_is); (case q2 => k_is); (case q3 => k_is); (case q4 => k_is)))
      (case d_l_moved => (refine' Pk.mdef_mk KX G ?q1 ?q2 ?q3 ?q4; (case q1 => k_is); (case q2 => k_is); (case q3 => k_is); (case q4 => k_is)))
      (case d_l_in_row => (refine' Pk.mdef_mk KX G ?q1 ?q2 ?q3 ?q4; (case q1 => k_is); (case q2 => k_is); (case q3 => k_is); (case q4 => k_is)))
      (case d_l_of_row => (refine' Pk.mdef_mk KX G ?q1 ?q2 ?q3 ?q4; (case q1 => k_is); (case q2 => k_is); (case q3 => k_is); (case q4 => k_is)))
      (case d_l_drawn_poly => (refine' Pk.mdef_mk KX G ?q1 ?q2 ?q3 ?q4; (case q1 => k_is); (case q2 => k_is); (case q3 => k_is); (case q4 => k_is)))
      (case d_l_is_told => (refine' Pk.mdef_mk KX G ?q1 ?q2 ?q3 ?q4; (case q1 => k_is); (case q2 => k_is); (case q3 => k_is); (case q4 => k_is)))
      (case d_l_power => (refine' Pk.mdef_mk KX G ?q1 ?q2 ?q3 ?q4; (case q1 => k_is); (case q2 => k_is); (case q3 => k_is); (case q4 => k_is)))
      (case d_l_value => (refine' Pk.mdef_mk KX G ?q1 ?q2 ?q3 ?q4; (case q1 => k_is); (case q2 => k_is); (case q3 => k_is); (case q4 => k_is)))
      (case d_l_right => (refine' Pk.mdef_mk KX G ?q1 ?q2 ?q3 ?q4; (case q1 => k_is); (case q2 => k_is); (case q3 => k_is); (case q4 => k_is)))
      (case b_dict => exact PySem.W.mg_none_of KX G (by k_is))
      (case b_list => exact PySem.W.mg_none_of KX G (by k_is))
      (case b_sorted => exact PySem.W.mg_none_of KX G (by k_is))
      (case b_isinstance => exact PySem.W.mg_none_of KX G (by k_is))
      (case b_int => exact PySem.W.mg_none_of KX G (by k_is))
      (case b_bool => exact PySem.W.mg_none_of KX G (by k_is))
      (case b_tuple => exact PySem.W.mg_none_of KX G (by k_is))
      (case b_len => exact PySem.W.mg_none_of KX G (by k_is))
      (case b_abs => exact PySem.W.mg_none_of KX G (by k_is))
      (case b_max => exact PySem.W.mg_none_of KX G (by k_is))
      (case b_min => exact PySem.W.mg_none_of KX G (by k_is))
      (case b_all => exact PySem.W.mg_none_of KX G (by k_is))
      (case b_range => exact PySem.W.mg_none_of KX G (by k_is))
      (case b_enumerate => exact PySem.W.mg_none_of KX G (by k_is))
      (case b_reversed => exact PySem.W.mg_none_of KX G (by k_is))
