import PyProof.Rows.All
import Wide.All
import OpenK.AllK
import Wide.FinOn
import HandS.ForMost
import HandS.OwnEq
import HandS.Property
import HandS.Defaults
import HandS.IsInst
import HandS.Codes
import HandS.Wide
import HandS.Flow
import HandS.SetFor
import HandS.Style
import PyProof.InstNe
import HandS.FStr
import HandS.Star
import HandS.Deep
import HandS.Zip
import HandS.Walk
import HandS.ClsMeth
import KE.GoesMore
import KE.GoesEnum
import HandS.Iter
import KE.KRevSl
import HandS.Records
import HandS.WideBits
import HandS.TupAny
import HandS.Rev
import HandS.Conv
import HandS.TupSets
import HandS.TupMul
import HandS.Small
import HandS.DictTup
import KE.KDictKeyed
import KE.KDictWalk
import KE.KDictList
import KE.KDictDisplayH
import HandS.More
import HandS.TupLen
import HandS.SortRule
import PyProof.P3Eq
import HandS.Sort
import KE.KDictPairs
import HandS.GenBody
import KE.KDictZip
import PyProof.ListNew
import HandS.SortKw
import KE.SortKeyHeap
import KE.SortData
import PySem.Challenge.RW_underwords_k85_whole_least_members_of_co
set_option Elab.async false
set_option maxRecDepth 100000
set_option maxHeartbeats 8000000
namespace Ow
open PySem PySem.Spec PyProof.Rows
open PySem.W (findIn isFn InstAt looks_findIn special_fn ifBound_K truthy_K CmpBack BoolBack)
section
variable {prog : Program} {w : World} {A : Around} {E : Value → Shared → Prop} {s : Shared} {K : PySem.W.Frag} {x y C f : Addr} {ox : Obj} {od : Option Obj}
/-- object's own unequal, over the text's equal -/
theorem objNe (X : K.In s.heap) (I : InstAt s.heap x ox C od) (hs : findIn K (.ref C) "__eq__" = some (some (.ref f))) (hf : isFn K (.ref f) = true) (hu : A.units < cLine) {Q : Fin → Shared → Prop}
    (hc : wpAny (model prog w) A (call (.ref f) [.ref x, .ref y]) (fun v s' => ∃ b, v = .bool b ∧ Q (.done (.ret (.bool (!b)))) s') E s) :
    wpAny (model prog w) A (Builtin.«object.__ne__» ⟨[.ref x, .ref y], []⟩) Q E s := by
  obtain ⟨hp, g, d, tk, os⟩ := s
  unfold Builtin.«object.__ne__»
  repeat (first
    | with_reducible refine wpAny_cRoomFor hu ?_
    | (refine wpAny_bind (m := callSpecialIfBound? (.ref x) (Str.ofString "__eq__") [.ref y])
        (ifBound_K X I hs hf (wpAny_mono hc (fun r s' hr => by
          obtain ⟨b, rfl, hq⟩ := hr
          repeat (first | exact hq | exact wpAny_pure hq | exact wpAny_truthy_bool hq | (refine wpAny_bind (m := truthy (.bool _)) (wpAny_truthy_bool ?_)) | wp_step)) fun _ _ e => e)))
    | wp_step)
theorem tryNe (X : K.In s.heap) (I : InstAt s.heap x ox C od) (hn : findIn K (.ref C) "__ne__" = some (some (.builtin "object.__ne__"))) (hs : findIn K (.ref C) "__eq__" = some (some (.ref f))) (hf : isFn K (.ref f) = true)
    (hb : PySem.W.mroIn K C (.type "object") = some true) (hu : A.units + 1 < cLine) {Q : Option Value → Shared → Prop}
    (hc : wpAny (model prog w) A.in1 (call (.ref f) [.ref x, .ref y]) (fun v s' => ∃ b, v = .bool b ∧ Q (some (.bool (!b))) s') E s) :
    wpAny (model prog w) A (tryCompare (.ref x) "__ne__" (.ref y)) Q E s := by
  simp only [tryCompare]
  have hcall : wpAny (model prog w) A (call (.builtin "object.__ne__") (.ref x :: [.ref y])) (fun v s' => ∃ b, v = .bool b ∧ Q (some (.bool b)) s') E s := by
    refine wpAny_call (codeAny_call_builtin PySem.F.cmp_object.ne.plain PySem.F.cmpEntry_ne ?_)
    refine PySem.W.check_slot PySem.F.cmpKind_ne PySem.F.cmpSplit_ne ?_ (PySem.F.cmpArgs_ne _ _) ?_
    · exact I.type.andThen (PySem.W.looks_mroIn X hb)
    · refine objNe (A := A.in1) X I hs hf hu (wpAny_mono hc (fun v s' hv => ?_) fun _ _ e => e)
      obtain ⟨b, rfl, hq⟩ := hv
      exact ⟨b, rfl, ⟨_, rfl, hq⟩⟩
  refine wpAny_bind ?_
  simp only [callSpecialIfBound?, bindSpecialIfBound?]
  refine wpAny_holding (wpAny_bind (wpAny_bind (wpAny_bind (I.type.here ((looks_findIn X hn).here ?_)))))
  simp only [PySem.F.cmp_object.ne.bind]
  refine wpAny_bind (wpAny_askSetting (wpAny_ite ?_))
  have fin : wpAny (model prog w) A (call (.builtin "object.__ne__") ([.ref x] ++ [.ref y]) >>= fun v => pure (some v)) (fun r s' => ∃ b, r = some (.bool b) ∧ Q (some (.bool b)) s') E s :=
    wpAny_bind (wpAny_mono hcall (fun v s' ⟨b, e, q⟩ => wpAny_pure ⟨b, by rw [e], q⟩) fun _ _ h' => h')
  have fin2 : wpAny (model prog w) A (call (.builtin "object.__ne__") ([.ref x] ++ [.ref y]) >>= fun v => pure (some v)) (fun a s' => wpAny (model prog w) A (match a with | some Value.notImplemented => pure none | none => pure none | some r => pure (some r)) Q E s') E s :=
    wpAny_mono fin (fun r s' ⟨b, e, q⟩ => by rw [e]; exact wpAny_pure q) fun _ _ h' => h'
  split
  · exact wpAny_bind (wpAny_pure (wpAny_pure fin2))
  · exact wpAny_tryCatch (wpAny_bind (wpAny_pure (wpAny_pure fin2)))
theorem neq_own (X : K.In s.heap) (I : InstAt s.heap x ox C od) {oy : Obj} {ody : Option Obj} (J : InstAt s.heap y oy C ody) (hn : findIn K (.ref C) "__ne__" = some (some (.builtin "object.__ne__"))) (hs : findIn K (.ref C) "__eq__" = some (some (.ref f))) (hf : isFn K (.ref f) = true)
    (hb : PySem.W.mroIn K C (.type "object") = some true) (hu : A.units + 1 < cLine) {Q : Value → Shared → Prop}
    (hc : wpAny (model prog w) A.in1 (call (.ref f) [.ref x, .ref y]) (fun v s' => ∃ b, v = .bool b ∧ Q (.bool (!b)) s') E s) :
    wpAny (model prog w) A (compareOp .NotEq (.ref x) (.ref y)) Q E s := by
  unfold compareOp richCompare
  simp only [oneThing_ref]
  refine wpAny_holding ?_
  refine wpAny_bind (wpAny_cRoomFor (Nat.lt_of_succ_lt hu) ?_)
  rw [cmpInfo_NotEq]
  dsimp only
  refine wpAny_bind (I.type.here (wpAny_bind (J.type.here ?_)))
  rw [show (Value.ref C != Value.ref C) = false from by simp]
  simp only [Bool.false_eq_true, if_false]
  refine wpAny_bind (wpAny_pure ?_)
  simp only [Bool.false_eq_true, if_false]
  refine wpAny_bind (tryNe X I hn hs hf hb hu (wpAny_mono hc (fun v s' hv => ?_) fun _ _ e => e))
  obtain ⟨b, rfl, hq⟩ := hv
  exact ⟨b, rfl, wpAny_pure hq⟩
/-- bool(x) by an own __bool__ -/
theorem bool_own (X : K.In s.heap) (I : InstAt s.heap x ox C od) (hs : findIn K (.ref C) "__bool__" = some (some (.ref f))) (hf : isFn K (.ref f) = true) {Q : Value → Shared → Prop}
    (h : wpAny (model prog w) A.in1.in1 (call (.ref f) [.ref x]) (fun v s' => ∃ b, v = .bool b ∧ Q (.bool b) s') E s) : wpAny (model prog w) A (call (.type "bool") [.ref x]) Q E s := by
  refine callType_codes (T := "bool") (Bi := Builtin.«object.__init__») (Q₁ := fun r s₁ => ∃ b, r = Value.bool b ∧ Q r s₁) PySem.F.called_bool (PySem.F.typeCall_bool_1 _) PySem.F.entry_object_init ?_ ?_
  · refine codeAny_of_tree ?_
    show wpAny _ A.in1.in1 (do checkBuiltinCall "bool.__new__" ⟨[.type "bool", .ref x], []⟩; again (.builtin "bool.__new__" ⟨[.type "bool", .ref x], []⟩)) _ _ s
    refine wpAny_bind (wpAny_of_eq (PySem.F.newCall_bool_1 _) (wpAny_pure ⟨plainId_quiet (by decide +kernel) _, codeAny_builtin PySem.F.entry_bool_new ?_⟩))
    rw [Around.under_plainId (by decide +kernel) _]
    unfold Builtin.«bool.__new__»
    refine wpAny_bind (wpAny_of_eq (a := true) (by kernel_rfl) ?_)
    refine PySem.W.KFB.if_not rfl ?_
    refine wpAny_bind (wpAny_of_eq (a := true) PySem.F.conv_sub_bool ?_)
    refine PySem.W.KFB.if_not rfl ?_
    refine wpAny_bind (wpAny_of_eq (a := [.ref x]) rfl ?_)
    refine wpAny_bind ?_
    unfold truthy
    refine wpAny_bind (m := callSpecial? (.ref x) (Str.ofString "__bool__")) (special_fn X I hs (beq_iff_eq.mp hf) (wpAny_mono h (fun r s' hr => ?_) fun _ _ y => y))
    obtain ⟨b, rfl, hq⟩ := hr
    exact wpAny_pure (wpAny_pure ⟨b, rfl, hq⟩)
  · rintro obj s₁ ⟨b, rfl, hq⟩
    exact ⟨PySem.typeIs_bool _ _, PySem.F.args_object_init_2 _ _, object_init_meets PySem.F.called_bool.init.lookup PySem.F.called_bool.made (by decide) prog w A.in1 _ s₁ ⟨PySem.typeIs_bool _ _, rfl, hq⟩⟩
end
end Ow

namespace Ow
open PySem PySem.Spec PyProof.Rows L2
/-- the class at C as these rules want it -/
structure OCls (K : PySem.W.Frag) (C : Addr) : Prop where
  first : PySem.W.selfFirst K C = true
  ob : PySem.W.mroIn K C (.type "object") = some true
  ne : PySem.W.findIn K (.ref C) "__ne__" = some (some (.builtin "object.__ne__"))
  nf : PySem.W.notFirst K C (.ref C) = true
/-- a method at f under the name m -/
structure OM (K : PySem.W.Frag) (C : Addr) (m : Str) (f : Addr) : Prop where
  at_ : PySem.W.findIn K (.ref C) m = some (some (.ref f))
  fn : PySem.W.isFn K (.ref f) = true
section
variable {X : Cx} {CX : CXT} {C f : Addr} {n : Nat} {fd : FuncData} {ps : List Str} {sp : Sp} {E : XK}
theorem cback {P : Value → Shared → Prop} {z : V} {v : Value} {s' : Shared} (r : RelV z v) (h : P v s') : PySem.W.CmpBack P v s' := by
  cases z <;> first | (obtain ⟨t, e⟩ := r; subst e; exact h) | (have e := r; simp only [L2.RelV] at e; subst e; exact h)
/-- the called def, some level below -/
theorem run_in {pins : List (Addr × Obj)} {σ : L2.St} {H : Hp} {s : Shared} {A : Around} {Q : VK} {us : List Value} {ws : List V} (F : FnOk X.prog X.w X.K X.mg X.base CX n f fd ps sp) (hr : Room n A) (e0 : Env0 X.prog X.w X.K X.mg X.base A X.stack s H)
    (hb : Binds X.K fd ps []) (hx : Passes CX X E) (I : Inv X pins σ H s) (r : Vals ws us) (h : sp ws H Q E) : wpAny (model X.prog X.w) A (call (.ref f) us) (EP X pins σ Q) X.xe s := by
  have hl : us.length = ps.length := by rw [← r.length]; exact F.len _ _ _ _ h
  have hb2 := hb s us I.kIn (by simpa using hl)
  simp only [List.append_nil] at hb2
  refine wpAny_call (codeAny_mono (F.run A X.stack s H ⟨us, []⟩ us ws Q E hr e0 hb2 r h) fun r s' hq => ?_)
  cases r with
  | error e => exact hx pins σ H s e s' I hq
  | ok fl =>
    cases fl with
    | ret u => exact I.after hq
    | next => exact False.elim hq
    | brk => exact False.elim hq
    | cont => exact False.elim hq
/-- x op y of two instances of one class -/
def rBin (C : Addr) (sp : Sp) (E : XK) : R2 := fun x y H Q => ∃ a b dx fs dy gs, x = .ref a ∧ y = .ref b ∧ H a = some (.ins C dx fs) ∧ H b = some (.ins C dy gs) ∧ sp [.ref a, .ref b] H Q E
theorem op_bin {op : Operator} (oc : OCls X.K C) (om : OM X.K C (PySem.dunder op.info.2) f) (F : FnOk X.prog X.w X.K X.mg X.base CX n f fd ps sp) (hr : Room n X.A) (hb : Binds X.K fd ps []) (hx : Passes CX X E) :
    OpR X (binaryOp op) (rBin C sp E) := by
  intro pins s σ H x y v u Q I rx ry h
  obtain ⟨a, b, dx, fs, dy, gs, rfl, rfl, ha, hb', q⟩ := h
  cases rx
  cases ry
  obtain ⟨mA, J, _⟩ := ins_get I.hok ha
  obtain ⟨mB, J', _⟩ := ins_get I.hok hb'
  obtain ⟨od, J, _⟩ := J.look
  obtain ⟨od', J', _⟩ := J'.look
  obtain ⟨m, hF⟩ := I.fr
  refine PySem.W.binop_K hF I.ok.mod.kin J J'.type oc.first om.at_ om.fn ?_
  refine wpAny_mono (run_in (us := [.ref a, .ref b]) (ws := [.ref a, .ref b]) F hr I.env0 hb hx I (.cons rfl (.cons rfl .nil)) q) (fun w s' ⟨z, H', I', rz, qz⟩ => cback rz ⟨z, H', I', rz, qz⟩) fun _ _ e => e
/-- x == y -/
theorem op_eqO (oc : OCls X.K C) (om : OM X.K C "__eq__" f) (F : FnOk X.prog X.w X.K X.mg X.base CX n f fd ps sp) (hr : Room n X.A) (hb : Binds X.K fd ps []) (hx : Passes CX X E) : OpR X (compareOp .Eq) (rBin C sp E) := by
  intro pins s σ H x y v u Q I rx ry h
  obtain ⟨a, b, dx, fs, dy, gs, rfl, rfl, ha, hb', q⟩ := h
  cases rx
  cases ry
  obtain ⟨mA, J, _⟩ := ins_get I.hok ha
  obtain ⟨mB, J', _⟩ := ins_get I.hok hb'
  obtain ⟨od, J, _⟩ := J.look
  obtain ⟨od', J', _⟩ := J'.look
  obtain ⟨m, hF⟩ := I.fr
  show wpAny _ _ (richCompare .Eq _ _) _ _ _
  refine PySem.W.cmp_K (op := .Eq) (tb := .ref C) hr.units0 hF I.ok.mod.kin J J'.type oc.nf om.at_ om.fn ?_
  refine wpAny_mono (run_in (us := [.ref a, .ref b]) (ws := [.ref a, .ref b]) F hr I.env0 hb hx I (.cons rfl (.cons rfl .nil)) q) (fun w s' ⟨z, H', I', rz, qz⟩ => cback rz ⟨z, H', I', rz, qz⟩) fun _ _ e => e
/-- x != y, by an own equal that answers a bool -/
def rBinN (C : Addr) (sp : Sp) (E : XK) : R2 := fun x y H Q => ∃ a b dx fs dy gs, x = .ref a ∧ y = .ref b ∧ H a = some (.ins C dx fs) ∧ H b = some (.ins C dy gs) ∧ sp [.ref a, .ref b] H (fun z H' => ∃ k, z = .bl k ∧ Q (.bl (!k)) H') E
theorem op_neO (oc : OCls X.K C) (om : OM X.K C "__eq__" f) (F : FnOk X.prog X.w X.K X.mg X.base CX n f fd ps sp) (hr : Room (n + 1) X.A) (hb : Binds X.K fd ps []) (hx : Passes CX X E) : OpR X (compareOp .NotEq) (rBinN C sp E) := by
  intro pins s σ H x y v u Q I rx ry h
  obtain ⟨a, b, dx, fs, dy, gs, rfl, rfl, ha, hb', q⟩ := h
  cases rx
  cases ry
  obtain ⟨mA, J, _⟩ := ins_get I.hok ha
  obtain ⟨mB, J', _⟩ := ins_get I.hok hb'
  obtain ⟨od, J, _⟩ := J.look
  obtain ⟨od', J', _⟩ := J'.look
  refine neq_own I.kIn J J' oc.ne om.at_ om.fn oc.ob (hu_of hr) ?_
  refine wpAny_mono (run_in (us := [.ref a, .ref b]) (ws := [.ref a, .ref b]) F hr.in1 I.env0.in1 hb hx I (.cons rfl (.cons rfl .nil)) q) (fun w s' ⟨z, H', I', rz, k, ez, qz⟩ => ?_) fun _ _ e => e
  subst ez
  exact ⟨k, rz, .bl (!k), H', I', rfl, qz⟩
/-- -x -/
def rNegO (C : Addr) (sp : Sp) (E : XK) : V → Hp → VK → Prop := fun x H Q => ∃ a dx fs, x = .ref a ∧ H a = some (.ins C dx fs) ∧ sp [.ref a] H Q E
theorem un_negO (om : OM X.K C "__neg__" f) (F : FnOk X.prog X.w X.K X.mg X.base CX n f fd ps sp) (hr : Room n X.A) (hb : Binds X.K fd ps []) (hx : Passes CX X E) : UnR X (unaryOp .USub) (rNegO C sp E) := by
  intro pins s σ H x v Q I rx h
  obtain ⟨a, dx, fs, rfl, ha, q⟩ := h
  cases rx
  obtain ⟨mA, J, _⟩ := ins_get I.hok ha
  obtain ⟨od, J, _⟩ := J.look
  obtain ⟨m, hF⟩ := I.fr
  refine PySem.W.ksp_neg hF I.ok.mod.kin J om.at_ om.fn ?_
  exact run_in (us := [.ref a]) (ws := [.ref a]) F hr I.env0 hb hx I (.cons rfl .nil) q
/-- bool(x) by an own __bool__ -/
def rBoolO (C : Addr) (sp : Sp) (E : XK) : List V → Hp → VK → Prop := fun xs H Q => ∃ a dx fs, xs = [.ref a] ∧ H a = some (.ins C dx fs) ∧ sp [.ref a] H (fun z H' => ∃ k, z = .bl k ∧ Q (.bl k) H') E
theorem call_boolO (om : OM X.K C "__bool__" f) (F : FnOk X.prog X.w X.K X.mg X.base CX n f fd ps sp) (hr : Room (n + 2) X.A) (hb : Binds X.K fd ps []) (hx : Passes CX X E) : CallR X (.type "bool") (rBoolO C sp E) := by
  intro pins s σ H xs us Q I r h
  obtain ⟨a, dx, fs, rfl, ha, q⟩ := h
  obtain ⟨u, rfl, ru⟩ := vals1 r
  cases ru
  obtain ⟨mA, J, _⟩ := ins_get I.hok ha
  obtain ⟨od, J, _⟩ := J.look
  have hr2 : Room n X.A.in1.in1 := (show Room (n + 1) X.A.in1 from Room.in1 hr).in1
  refine bool_own I.kIn J om.at_ om.fn ?_
  refine wpAny_mono (run_in (us := [.ref a]) (ws := [.ref a]) F hr2 I.env0.in1.in1 hb hx I (.cons rfl .nil) q) (fun w s' ⟨z, H', I', rz, k, ez, qz⟩ => ?_) fun _ _ e => e
  subst ez
  exact ⟨k, rz, .bl k, H', I', rfl, qz⟩
/-- powers with a large base -/
def CPowW (i j : Int) : Prop := 0 ≤ j ∧ (Builtin.Int.intBits i : Int) * j ≤ 2 ^ 27
theorem op_powW : OpR X (binaryOp .Pow) (rI CPowW fun i j => .int (i ^ j.toNat)) := by
  intro pins s σ H x y v u Q I rx ry h
  obtain ⟨i, j, rfl, rfl, hc, q⟩ := h
  obtain ⟨t, rfl⟩ := rx
  obtain ⟨t', rfl⟩ := ry
  exact pow_int hc.1 hc.2 ⟨.int _, H, I.tok _, ⟨_, rfl⟩, q⟩
end
/-! ### a def of the module by its promise -/
/-- the def under the name x keeps the promise sp, by at most level k -/
structure Cal (P : Program) (w : World) (K : PySem.W.Frag) (mg : Str → Option Value) (base : Heap) (x : Str) (k : Nat) (sp : Sp) : Prop where
  ex : ∃ f fd ps, FnOk P w K mg base CX0 k f fd ps sp ∧ mg x = some (.ref f) ∧ PySem.W.keepIn K (.ref f) = true ∧ Binds K fd ps []
section
variable {X : Cx} {x : Str} {k : Nat} {sp : Sp} {e : Expr} {es : List Expr} {t : TA} {p pos : Pos}
theorem pe_cal (C : Cal X.prog X.w X.K X.mg X.base x k sp) (hr : Room k X.A) (hg : Gl X x) (ha : PA X (e :: es) t) (hdb : (x == ("__debug__" : Str)) = false := by decide)
    (he : starEach (e :: es) X.env = (false, eval e X.env) :: starEach es X.env := by rfl) (hpl : (backTo pos (starEach es X.env)).any (·.1) = false := by rfl) : PE X (.Call (.Name x p) (e :: es) [] pos) (tCall sp [] E0 t) := by
  obtain ⟨f, fd, ps, F, hm, hk, hb⟩ := C.ex
  exact pe_call F hr hg hm hk hb .nil pass0 ha hdb he hpl
theorem pe_cal0 (C : Cal X.prog X.w X.K X.mg X.base x k sp) (hr : Room k X.A) (hg : Gl X x) (hdb : (x == ("__debug__" : Str)) = false := by decide) : PE X (.Call (.Name x p) [] [] pos) (tCall sp [] E0 tNil) := by
  obtain ⟨f, fd, ps, F, hm, hk, hb⟩ := C.ex
  exact pe_call0 F hr hg hm hk hb .nil pass0 hdb
end
end Ow

namespace Ow
open PySem PySem.Spec PyProof.Rows L2
section
variable {X : Cx} {CX : CXT} {C f : Addr} {n : Nat} {fd : FuncData} {ps : List Str} {sp : Sp} {E : XK}
/-- str(x) by an own __str__ -/
def rStrO (C : Addr) (sp : Sp) (E : XK) : List V → Hp → VK → Prop := fun xs H Q => ∃ a dx fs, xs = [.ref a] ∧ H a = some (.ins C dx fs) ∧ sp [.ref a] H (fun z H' => ∃ y, z = .str y ∧ Q (.str y) H') E
theorem call_strO (om : OM X.K C "__str__" f) (F : FnOk X.prog X.w X.K X.mg X.base CX n f fd ps sp) (hr : Room (n + 2) X.A) (hb : Binds X.K fd ps []) (hx : Passes CX X E) : CallR X (.type "str") (rStrO C sp E) := by
  intro pins s σ H xs us Q I r h
  obtain ⟨a, dx, fs, rfl, ha, q⟩ := h
  obtain ⟨u, rfl, ru⟩ := vals1 r
  cases ru
  obtain ⟨mA, J, _⟩ := ins_get I.hok ha
  obtain ⟨od, J, _⟩ := J.look
  have hr2 : Room n X.A.in1.in1 := (show Room (n + 1) X.A.in1 from Room.in1 hr).in1
  refine PySem.W.kso_call hr2.units0 I.kIn J om.at_ om.fn ?_
  refine wpAny_mono (run_in (us := [.ref a]) (ws := [.ref a]) F hr2 I.env0.in1.in1 hb hx I (.cons rfl .nil) q) (fun w s' ⟨z, H', I', rz, y, ez, qz⟩ => ?_) fun _ _ e => e
  subst ez
  obtain ⟨t, rfl⟩ := rz
  exact ⟨.str y, H', I', ⟨t, rfl⟩, qz⟩
/-- a text of parts, by a name -/
def tJn (ts : List TE) : TE := fun σ H Q => tJs ts Str.empty σ H fun out H1 => Q (.str out) H1
theorem pe_fstr {v1 v2 : Expr} {rest : List Expr} {ts : List TE} {pos : Pos} (h : PJ X (v1 :: v2 :: rest) ts) : PE X (.JoinedStr (v1 :: v2 :: rest) pos) (tJn ts) := pe_joined h
theorem u65 {A : Around} {k : Nat} (hr : Room k A) : A.units + 65 < cLine := by
  have := hr.un
  omega
def rInT (K : PySem.W.Frag) : R2 := fun x y H Q => ∃ d ds, Dp K H x d ∧ Dp K H y (.tuple ds) ∧ SeqAt.shaped d = true ∧ SeqAt.shaped (.tuple ds) = true ∧ Q (.bl (ds.any fun z => PyData.eqv z d)) H
theorem op_inT (hu : X.A.units + 65 < cLine) : OpR X (compareOp .In) (rInT X.K) := by
  intro pins s σ H x y v u Q I rx ry h
  obtain ⟨d, ds, hd, he, sd, se, q⟩ := h
  obtain ⟨as, r1⟩ := Dp.reads I d x v hd rx
  obtain ⟨bs, r2⟩ := Dp.reads I (.tuple ds) y u he ry
  exact SeqAt.in_tuple_reads r2 r1 (SeqAt.canLay_of_shaped se) (SeqAt.canLay_of_shaped sd) (room_in_shaped (xs := ds) sd hu) ⟨.bl _, H, I, rfl, q⟩
end
end Ow

namespace Ow
open PySem PySem.Spec PyProof.Rows
open PySem.W (findIn isFn InstAt looks_findIn special_fn ifBound_K)
section
variable {prog : Program} {w : World} {A : Around} {E : Value → Shared → Prop} {s : Shared} {K : PySem.W.Frag} {x C f : Addr} {y tb : Value} {ox : Obj} {od : Option Obj}
theorem objNeV (X : K.In s.heap) (I : InstAt s.heap x ox C od) (hs : findIn K (.ref C) "__eq__" = some (some (.ref f))) (hf : isFn K (.ref f) = true) (hu : A.units < cLine) {Q : Fin → Shared → Prop}
    (hc : wpAny (model prog w) A (call (.ref f) [.ref x, y]) (fun v s' => ∃ b, v = .bool b ∧ Q (.done (.ret (.bool (!b)))) s') E s) :
    wpAny (model prog w) A (Builtin.«object.__ne__» ⟨[.ref x, y], []⟩) Q E s := by
  obtain ⟨hp, g, d, tk, os⟩ := s
  unfold Builtin.«object.__ne__»
  repeat (first
    | with_reducible refine wpAny_cRoomFor hu ?_
    | (refine wpAny_bind (m := callSpecialIfBound? (.ref x) (Str.ofString "__eq__") [y])
        (ifBound_K X I hs hf (wpAny_mono hc (fun r s' hr => by
          obtain ⟨b, rfl, hq⟩ := hr
          repeat (first | exact hq | exact wpAny_pure hq | exact wpAny_truthy_bool hq | (refine wpAny_bind (m := truthy (.bool _)) (wpAny_truthy_bool ?_)) | wp_step)) fun _ _ e => e)))
    | wp_step)
theorem tryNeV (X : K.In s.heap) (I : InstAt s.heap x ox C od) (hn : findIn K (.ref C) "__ne__" = some (some (.builtin "object.__ne__"))) (hs : findIn K (.ref C) "__eq__" = some (some (.ref f))) (hf : isFn K (.ref f) = true)
    (hb : PySem.W.mroIn K C (.type "object") = some true) (hu : A.units + 1 < cLine) {Q : Option Value → Shared → Prop}
    (hc : wpAny (model prog w) A.in1 (call (.ref f) [.ref x, y]) (fun v s' => ∃ b, v = .bool b ∧ Q (some (.bool (!b))) s') E s) :
    wpAny (model prog w) A (tryCompare (.ref x) "__ne__" y) Q E s := by
  simp only [tryCompare]
  have hcall : wpAny (model prog w) A (call (.builtin "object.__ne__") (.ref x :: [y])) (fun v s' => ∃ b, v = .bool b ∧ Q (some (.bool b)) s') E s := by
    refine wpAny_call (codeAny_call_builtin PySem.F.cmp_object.ne.plain PySem.F.cmpEntry_ne ?_)
    refine PySem.W.check_slot PySem.F.cmpKind_ne PySem.F.cmpSplit_ne ?_ (PySem.F.cmpArgs_ne _ _) ?_
    · exact I.type.andThen (PySem.W.looks_mroIn X hb)
    · refine objNeV (A := A.in1) X I hs hf hu (wpAny_mono hc (fun v s' hv => ?_) fun _ _ e => e)
      obtain ⟨b, rfl, hq⟩ := hv
      exact ⟨b, rfl, ⟨_, rfl, hq⟩⟩
  refine wpAny_bind ?_
  simp only [callSpecialIfBound?, bindSpecialIfBound?]
  refine wpAny_holding (wpAny_bind (wpAny_bind (wpAny_bind (I.type.here ((looks_findIn X hn).here ?_)))))
  simp only [PySem.F.cmp_object.ne.bind]
  refine wpAny_bind (wpAny_askSetting (wpAny_ite ?_))
  have fin : wpAny (model prog w) A (call (.builtin "object.__ne__") ([.ref x] ++ [y]) >>= fun v => pure (some v)) (fun r s' => ∃ b, r = some (.bool b) ∧ Q (some (.bool b)) s') E s :=
    wpAny_bind (wpAny_mono hcall (fun v s' ⟨b, e, q⟩ => wpAny_pure ⟨b, by rw [e], q⟩) fun _ _ h' => h')
  have fin2 : wpAny (model prog w) A (call (.builtin "object.__ne__") ([.ref x] ++ [y]) >>= fun v => pure (some v)) (fun a s' => wpAny (model prog w) A (match a with | some Value.notImplemented => pure none | none => pure none | some r => pure (some r)) Q E s') E s :=
    wpAny_mono fin (fun r s' ⟨b, e, q⟩ => by rw [e]; exact wpAny_pure q) fun _ _ h' => h'
  split
  · exact wpAny_bind (wpAny_pure (wpAny_pure fin2))
  · exact wpAny_tryCatch (wpAny_bind (wpAny_pure (wpAny_pure fin2)))
theorem neq_other {T : String} (X : K.In s.heap) (I : InstAt s.heap x ox C od) (J : PySem.W.Looks (model prog w) s.heap (typeOf y) (.type T)) (nf : PySem.W.subIn K (.type T) (.ref C) = some false) (hn : findIn K (.ref C) "__ne__" = some (some (.builtin "object.__ne__"))) (hs : findIn K (.ref C) "__eq__" = some (some (.ref f))) (hf : isFn K (.ref f) = true)
    (hb : PySem.W.mroIn K C (.type "object") = some true) (hu : A.units + 1 < cLine) {Q : Value → Shared → Prop}
    (hc : wpAny (model prog w) A.in1 (call (.ref f) [.ref x, y]) (fun v s' => ∃ b, v = .bool b ∧ Q (.bool (!b)) s') E s) :
    wpAny (model prog w) A (compareOp .NotEq (.ref x) y) Q E s := by
  unfold compareOp richCompare
  simp only [oneThing_ref]
  refine wpAny_holding ?_
  refine wpAny_bind (wpAny_cRoomFor (Nat.lt_of_succ_lt hu) ?_)
  rw [cmpInfo_NotEq]
  dsimp only
  refine wpAny_bind (I.type.here (wpAny_bind (J.here ?_)))
  rw [show (Value.ref C != Value.type T) = true from by simp]
  simp only [if_true]
  refine wpAny_bind ((PySem.W.looks_subIn X nf).here ?_)
  simp only [Bool.false_eq_true, if_false]
  refine wpAny_bind (tryNeV X I hn hs hf hb hu (wpAny_mono hc (fun v s' hv => ?_) fun _ _ e => e))
  obtain ⟨b, rfl, hq⟩ := hv
  exact ⟨b, rfl, wpAny_pure hq⟩
end
end Ow
namespace Ow
open PySem PySem.Spec PyProof.Rows L2
section
variable {X : Cx} {CX : CXT} {C f : Addr} {n : Nat} {fd : FuncData} {ps : List Str} {sp : Sp} {E : XK}
/-- x == y, y of a built-in class -/
def rBinX (K : PySem.W.Frag) (C : Addr) (sp : Sp) (E : XK) : R2 := fun x y H Q => ∃ a dx fs T, x = .ref a ∧ H a = some (.ins C dx fs) ∧ TyX K H y (.type T) ∧ PySem.W.subIn K (.type T) (.ref C) = some false ∧ sp [.ref a, y] H Q E
theorem nf_of {K : PySem.W.Frag} {T : String} (h : PySem.W.subIn K (.type T) (.ref C) = some false) : PySem.W.notFirst K C (.type T) = true := by
  unfold PySem.W.notFirst
  rw [h]
  simp
theorem op_eqX (om : OM X.K C "__eq__" f) (F : FnOk X.prog X.w X.K X.mg X.base CX n f fd ps sp) (hr : Room n X.A) (hb : Binds X.K fd ps []) (hx : Passes CX X E) : OpR X (compareOp .Eq) (rBinX X.K C sp E) := by
  intro pins s σ H x y v u Q I rx ry h
  obtain ⟨a, dx, fs, T, rfl, ha, ty, nf, q⟩ := h
  cases rx
  obtain ⟨mA, J, _⟩ := ins_get I.hok ha
  obtain ⟨od, J, _⟩ := J.look
  obtain ⟨m, hF⟩ := I.fr
  obtain ⟨Pu, Z, pu, _⟩ := kit_of I ry ty
  show wpAny _ _ (richCompare .Eq _ _) _ _ _
  refine PySem.W.cmp_K (op := .Eq) (tb := .type T) hr.units0 hF I.ok.mod.kin J (Z.ty _ _ I.kIn pu) (nf_of nf) om.at_ om.fn ?_
  refine wpAny_mono (run_in (us := [.ref a, u]) (ws := [.ref a, y]) F hr I.env0 hb hx I (.cons rfl (.cons ry .nil)) q) (fun w s' ⟨z, H', I', rz, qz⟩ => cback rz ⟨z, H', I', rz, qz⟩) fun _ _ e => e
def rBinNX (K : PySem.W.Frag) (C : Addr) (sp : Sp) (E : XK) : R2 := fun x y H Q => ∃ a dx fs T, x = .ref a ∧ H a = some (.ins C dx fs) ∧ TyX K H y (.type T) ∧ PySem.W.subIn K (.type T) (.ref C) = some false ∧ sp [.ref a, y] H (fun z H' => ∃ k, z = .bl k ∧ Q (.bl (!k)) H') E
theorem op_neX (oc : OCls X.K C) (om : OM X.K C "__eq__" f) (F : FnOk X.prog X.w X.K X.mg X.base CX n f fd ps sp) (hr : Room (n + 1) X.A) (hb : Binds X.K fd ps []) (hx : Passes CX X E) : OpR X (compareOp .NotEq) (rBinNX X.K C sp E) := by
  intro pins s σ H x y v u Q I rx ry h
  obtain ⟨a, dx, fs, T, rfl, ha, ty, nf, q⟩ := h
  cases rx
  obtain ⟨mA, J, _⟩ := ins_get I.hok ha
  obtain ⟨od, J, _⟩ := J.look
  obtain ⟨Pu, Z, pu, _⟩ := kit_of I ry ty
  refine neq_other I.kIn J (Z.ty _ _ I.kIn pu) nf oc.ne om.at_ om.fn oc.ob (hu_of hr) ?_
  refine wpAny_mono (run_in (us := [.ref a, u]) (ws := [.ref a, y]) F hr.in1 I.env0.in1 hb hx I (.cons rfl (.cons ry .nil)) q) (fun w s' ⟨z, H', I', rz, k, ez, qz⟩ => ?_) fun _ _ e => e
  subst ez
  exact ⟨k, rz, .bl (!k), H', I', rfl, qz⟩
end
end Ow

/-! enumerate of a tuple -/
namespace Ow
open PySem PySem.Spec PyProof.Rows L2
set_option maxHeartbeats 8000000 in
theorem enum1_new {v : Value} {o : Obj} {Hy : Heap → Prop} (B : Begins v o Hy) : Meets (Builtin.«enumerate.__new__» ⟨[.type "enumerate", v], []⟩) (fun _ R s => Hy s.heap ∧
    R (.ok (.ret (.ref (s.heap.push o).objs.size))) { s with heap := (s.heap.push o).push { cls := .type "enumerate", data := .fields #[.none, .bool false, .ref s.heap.objs.size, rawInt 0, .none, .none] } }) := .of_wp fun prog w A R s h => by
  obtain ⟨hp, g, d, tk, os⟩ := s
  obtain ⟨h1, h⟩ := h
  have sb := sub_enumerate
  have q1 {A' : Around} {E Q : Value → Shared → Prop} (q : Q (.ref hp.objs.size) ⟨hp.push o, g, d, tk, os⟩) : wpAny (model prog w) A' (pyIter v) Q E ⟨hp, g, d, tk, os⟩ := B.iter prog w _ _ ⟨hp, g, d, tk, os⟩ _ h1 q
  wp_walk using q1
  apply wpAny_stack_any; intro st; apply wpAny_pure
  split
  · rename_i c _ _ _ _ _; cases (c == Value.type "enumerate") <;> (wp_walk using q1; exact ⟨_, rfl, h⟩)
  · wp_walk using q1; exact ⟨_, rfl, h⟩
section
variable {prog : Program} {w : World} {A : Around} {E : Value → Shared → Prop} {s : Shared}
theorem enum1_call {v : Value} {o : Obj} {Hy : Heap → Prop} {Q : Value → Shared → Prop} (B : Begins v o Hy) (h1 : Hy s.heap)
    (h : ∀ h', IsEnum h' (s.heap.objs.size + 1) s.heap.objs.size 0 .none → h'.get? s.heap.objs.size = some o → (∀ b u, s.heap.get? b = some u → h'.get? b = some u) → Q (.ref (s.heap.objs.size + 1)) { s with heap := h' }) :
    wpAny (model prog w) A (call (.type "enumerate") [v]) Q E s := by
  refine callType_new F.called_enumerate (by decide) (F.typeCall_enumerate_1 _) (F.newCall_enumerate_1 _) (fun ob => F.args_object_init_2 ob _) F.entry_enumerate_new (enum1_new B) ⟨h1, ?_⟩
  have z1 : (s.heap.push o).objs.size = s.heap.objs.size + 1 := Heap.size_push ..
  have he : IsEnum ((s.heap.push o).push { cls := .type "enumerate", data := .fields #[.none, .bool false, .ref s.heap.objs.size, rawInt 0, .none, .none] }) (s.heap.objs.size + 1) s.heap.objs.size 0 .none := by
    have q := Heap.get?_push_size (s.heap.push o) (o := { cls := .type "enumerate", data := .fields #[.none, .bool false, .ref s.heap.objs.size, rawInt 0, .none, .none] }) rfl
    rwa [z1] at q
  show _ ∧ _
  rw [z1]
  exact ⟨⟨_, he, rfl⟩, h _ he (Heap.get?_push_of_some _ (Heap.get?_push_size _ B.free)) fun b u x => Heap.get?_push_of_some _ (Heap.get?_push_of_some _ x)⟩
end
/-- the tuple at a, each item in a new pair with its place -/
def IteT (K : PySem.W.Frag) (a : Addr) : It where
  go i H := ∃ (xs : List V) (x : V), SqT K H a xs ∧ xs[i]? = some x
  yld i H v H' := ∃ T x, v = .ref T ∧ H T = none ∧ H' = upd H T (.tup [.int (i : Nat), x]) ∧ ∀ xs, SqT K H a xs → xs[i]? = some x
  stop i H := ∃ xs : List V, SqT K H a xs ∧ xs.length ≤ i
theorem turn_enumT {P : Program} {w : World} {K : PySem.W.Frag} {elts : List Expr} {kk : Nat} {tpos : Pos} (a e it : Addr) :
    Turn P w K (.Tuple elts kk tpos) (IteT K a) [e, it] e (fun i h => (∃ old, IsEnum h e it ((i : Nat) : Int) old) ∧ h.IsTupleIter it a i ∧ e ≠ it ∧ a ≠ it ∧ a ≠ e) where
  mem := by simp
  obj := fun i h st b hb => by
    obtain ⟨⟨old, he⟩, ⟨o, ho, hc, hd⟩, _⟩ := st
    rcases (show b = e ∨ b = it by simpa using hb) with rfl | rfl
    · exact ⟨_, he, fun v q => nomatch q⟩
    · exact ⟨o, ho, fun v q => by rw [hd] at q; cases q⟩
  keep := fun i h h' st k => by
    obtain ⟨⟨old, he⟩, hi, ne⟩ := st
    exact ⟨⟨old, k e (by simp) _ he⟩, hi.at fun o q => k it (by simp) o q, ne⟩
  item := by
    intro X hP hw hK hc i pins s σ H E I hf st hg
    subst hP hw hK
    obtain ⟨⟨old, he⟩, hit, hne, nai, nae⟩ := st
    obtain ⟨xs, x, hq, hx⟩ := hg
    obtain ⟨its, rv, p, hz⟩ := I.tuple hq
    obtain ⟨u, hu, ru⟩ := rv.get hx
    have hel := Heap.lt_size he
    have hil : it < s.heap.objs.size := by
      obtain ⟨_, q, _⟩ := hit
      exact Heap.lt_size q
    have pt : s.heap.IsTuple a its.toArray := p
    have ilt : i < its.toArray.size := by
      have := (List.getElem?_eq_some_iff.mp hu).1
      simpa using this
    refine wpAny_pyNext_enum_itemD (Draws.tuple (A := X.A.in1) (show X.A.in1.handled = none from I.ok.hd hc) it a nai its.toArray) he ⟨hit, pt⟩ ilt hne (by simp [hne, Ne.symm nae]) fun y h' tk hy ho st' hT hsz hk => ?_
    obtain rfl : u = y := by
      have : its.toArray[i]? = some y := hy
      rw [show its.toArray[i]? = some u by simpa using hu] at this
      exact Option.some.inj this
    refine ⟨_, rfl, wpAny_letOwnedTupleGo_enum (s := { s with heap := h', toks := tk + 1 }) ho fun h2 he' sb => ?_⟩
    have hT2 : h2.get? s.heap.objs.size = some { cls := .type "tuple", data := .seq #[.int i tk, u] } := (sb.2 _ (Nat.ne_of_gt hel)).trans hT
    have ok : ObjOk X.prog X.w (upd H s.heap.objs.size (.tup [.int (i : Nat), x])) h2 s.heap.objs.size (.tup [.int (i : Nat), x]) := ⟨show 2 ≤ sizeLine by decide, [.int i tk, u], .cons ⟨_, rfl⟩ (.cons ru .nil), ⟨_, hT2, rfl, _, rfl⟩⟩
    have I1 : Inv X pins σ (upd H s.heap.objs.size (.tup [.int (i : Nat), x])) { s with heap := h2, toks := tk + 1 } :=
      I.turnedNew (ch := [e, it]) (fun b ob hb q => (sb.2 b fun z => hb (by simp [z])).trans (hk b ob (fun z => hb (by simp [z])) (fun z => hb (by simp [z])) q)) hf (Nat.le_refl _) ok
    refine ⟨.ref s.heap.objs.size, _, I1, rfl, ⟨_, x, rfl, I.hok.fresh (Nat.le_refl _), rfl, fun ys hy => I.tuple_inj hq hy ▸ hx⟩, ⟨⟨u, ?_⟩, st'.1.at fun o q => (sb.2 it (Ne.symm hne)).trans q, hne, nai, nae⟩, fun b hb => ?_⟩
    · rw [show ((i + 1 : Nat) : Int) = (i : Int) + 1 by omega]
      exact he'
    · have hb' : b < s.heap.objs.size := by rcases (show b = e ∨ b = it by simpa using hb) with rfl | rfl <;> assumption
      rw [upd_ne (Nat.ne_of_lt hb')]
      exact (hf b hb).1
  done := by
    intro X hP hw hK hc i pins s σ H E I hf st hg
    subst hP hw hK
    obtain ⟨⟨old, he⟩, hit, hne, nai, nae⟩ := st
    obtain ⟨xs, hq, hx⟩ := hg
    obtain ⟨its, rv, p, hz⟩ := I.tuple hq
    have fi := hf it (by simp)
    obtain ⟨f0, f1, f2, f3, f4, f5⟩ := fi
    have pt : s.heap.IsTuple a its.toArray := p
    have hl := rv.length
    have D : Draws X.prog X.w X.A.in1 it [it, a] i (fun _ _ => False) (fun j h => j = i ∧ h.IsTupleIter it a i ∧ h.IsTuple a its.toArray) :=
      { live := fun _ _ st => let ⟨o, ho, _⟩ := st.2.1; ⟨o, ho⟩
        frame := fun _ _ _ st hk => ⟨st.1, st.2.1.at fun o e => hk it (by simp) o e, st.2.2.at fun o e => hk a (by simp) o e⟩
        item := fun j s Q E hj st _ => absurd st.1 (Nat.ne_of_lt hj)
        done := fun s Q E st hE => wpAny_nextOf_tuple_end (show X.A.in1.handled = none from I.ok.hd hc) st.2.1 st.2.2 (by simp; omega) hE }
    exact wpAny_pyNext_enum_endD D he ⟨rfl, hit, pt⟩ fun h' eb => ⟨rfl, I.turned (t' := s.toks) (fun b o hb q => eb b o hb q) f0 f1 f3 f4 f5⟩
  self := fun _ _ _ _ _ st h => by
    obtain ⟨⟨_, he⟩, _⟩ := st
    exact wpAny_pyIter_enum he h
def iEnumT (K : PySem.W.Frag) (ta : TA) : TI := fun σ H R => ta σ H fun vs H1 => ∃ a xs, vs = [.ref a] ∧ SqT K H1 a xs ∧ R (IteT K a) H1
theorem pi_enumT {X : Cx} {e : Expr} {ta : TA} {p pos tpos : Pos} {elts : List Expr} {kk : Nat} (hg : Gl X "enumerate") (hm : X.mg "enumerate" = none) (ha : PA X [e] ta) (hs : starEach [e] X.env = [(false, eval e X.env)] := by rfl) :
    PI X (.Tuple elts kk tpos) (.Call (.Name "enumerate" p) [e] [] pos) (iEnumT X.K ta) := by
  refine ⟨fun pins s σ H R I h => Call_ (ld_blt I hg hm boot_enumerate (PyProof.Rows.callWith_type1 (thn (ha.run pos pins s σ H _ I h) fun us s1 ⟨vs, H1, I1, r1, a, xs, ex, hq, q⟩ => ?_) hs rfl))⟩
  subst ex
  obtain ⟨u, rfl, ru⟩ := r1.one
  cases ru
  obtain ⟨its, rv, p', hz⟩ := I1.tuple hq
  have pt : s1.heap.IsTuple a its.toArray := p'
  have al : a < s1.heap.objs.size := by
    obtain ⟨o, ho, _⟩ := pt
    exact Heap.lt_size ho
  refine enum1_call (begins_tuple a its.toArray) pt fun h' he hit hk => wpAny_pyIter_enum he ?_
  have J2 : Inv X pins σ H1 { s1 with heap := h' } := I1.kept (t' := s1.toks) hk
  refine ⟨s1.heap.objs.size + 1, [s1.heap.objs.size + 1, s1.heap.objs.size], _, _, H1, rfl, J2, turn_enumT a (s1.heap.objs.size + 1) s1.heap.objs.size, ⟨⟨.none, he⟩, ⟨_, hit, rfl, rfl⟩, Nat.succ_ne_self _, Nat.ne_of_lt al, Nat.ne_of_lt (Nat.lt_succ_of_lt al)⟩, fun b hb => ?_, q⟩
  have hle : s1.heap.objs.size ≤ b := by rcases (show b = s1.heap.objs.size + 1 ∨ b = s1.heap.objs.size by simpa using hb) with rfl | rfl <;> omega
  exact I1.fpOk hle (I1.hok.fresh hle)
end Ow

/-! t[::-1], t a tuple -/
namespace Ow
open PySem PySem.Spec PyProof.Rows L2
theorem rev_adj (n : Nat) : Builtin.Slice.sliceAdjust none none (-1) (n : Int) = ((n : Int) - 1, -1) := rfl
theorem rev_places (n : Nat) : Builtin.Slice.slicePlaces ((n : Int) - 1) (-1) (-1) = n := by
  unfold Builtin.Slice.slicePlaces
  rw [if_neg (by decide)]
  split
  · rw [show (- -1 : Int) = 1 by decide, Int.ediv_one]
    omega
  · omega
theorem rev_pick (xs : Array Value) : ((List.range xs.size).filterMap fun (k : Nat) => xs[((xs.size : Int) - 1 + (k : Int) * -1).toNat]?).toArray = xs.toList.reverse.toArray := by
  have e : ((List.range xs.size).filterMap fun (k : Nat) => xs[((xs.size : Int) - 1 + (k : Int) * -1).toNat]?) = ((List.range xs.size).map fun k => xs.size - 1 - k).filterMap (xs[·]?) := by
    rw [List.filterMap_map]
    have : ∀ l : List Nat, (∀ k ∈ l, k < xs.size) → (l.filterMap fun (k : Nat) => xs[((xs.size : Int) - 1 + (k : Int) * -1).toNat]?) = l.filterMap ((xs[·]?) ∘ fun k => xs.size - 1 - k) := by
      intro l
      induction l with
      | nil => intro _; rfl
      | cons k l ih =>
        intro h
        have hk := h k List.mem_cons_self
        rw [List.filterMap_cons, List.filterMap_cons, ih fun j m => h j (List.mem_cons_of_mem _ m)]
        have : ((xs.size : Int) - 1 + (k : Int) * -1).toNat = xs.size - 1 - k := by omega
        rw [this]
        rfl
    exact this _ fun k m => List.mem_range.mp m
  rw [e, PySem.W.krv_range, List.filterMap_reverse, PySem.W.krv_all]
section
variable {prog : Program} {w : World} {A : Around} {E : Value → Shared → Prop} {s : Shared}
theorem rev_applied {sl : Addr} {vs : Value} {n : Nat} {Q : Int × Int × Nat → Shared → Prop} (hs : s.heap.IsSliceOf sl .none .none vs) (ps : IsPart vs (some (-1))) (h : Q ((n : Int) - 1, -1, n) s) : wpAny (model prog w) A (Builtin.Slice.sliceApplied (.ref sl) (pure (n : Int))) Q E s := by
  obtain ⟨os, hos, _, hds⟩ := id hs
  unfold Builtin.Slice.sliceApplied Builtin.Slice.sliceFields
  have f0 {Q' : Value → Shared → Prop} (q : Q' .none s) : wpAny (model prog w) A (field (.ref sl) 0) Q' E s := wpAny_field hos hds (x := .none) rfl q
  have f1 {Q' : Value → Shared → Prop} (q : Q' .none s) : wpAny (model prog w) A (field (.ref sl) 1) Q' E s := wpAny_field hos hds (x := .none) rfl q
  have f2 {Q' : Value → Shared → Prop} (q : Q' vs s) : wpAny (model prog w) A (field (.ref sl) 2) Q' E s := wpAny_field hos hds (x := vs) rfl q
  refine wpAny_bind (wpAny_bind (f0 (wpAny_bind (f1 (wpAny_bind (f2 (wpAny_pure ?_)))))))
  refine wpAny_bind (HT.slicePart_ ps ?_)
  show wpAny _ _ (if ((-1 : Int) == 0) = true then _ else _) _ _ s
  rw [if_neg (show ¬ ((-1 : Int) == 0) = true by decide)]
  refine wpAny_bind (slicePart_none (wpAny_bind (slicePart_none (wpAny_bind (wpAny_pure ?_)))))
  show wpAny _ _ (match Builtin.Slice.sliceAdjust none none (-1) (n : Int) with | (lo, hi) => pure (lo, (-1 : Int), Builtin.Slice.slicePlaces lo hi (-1))) _ _ s
  rw [rev_adj]
  show wpAny _ _ (pure ((n : Int) - 1, (-1 : Int), Builtin.Slice.slicePlaces ((n : Int) - 1) (-1) (-1))) _ _ s
  rw [rev_places]
  exact wpAny_pure h
theorem get_rev {t sl : Addr} {items : Array Value} {vs : Value} {Q : Value → Shared → Prop} (ht : IsTup s.heap t items) (hs : s.heap.IsSliceOf sl .none .none vs) (ps : IsPart vs (some (-1)))
    (h : Q (.ref s.heap.objs.size) { s with heap := s.heap.push { cls := .type "tuple", data := .seq items.toList.reverse.toArray } }) (hsz : items.size ≤ sizeLine) : wpAny (model prog w) A (getItem (.ref t) (.ref sl)) Q E s := by
  have fit : sizeOk (.seq items.toList.reverse.toArray) := show items.toList.reverse.toArray.size ≤ sizeLine by simpa using hsz
  have ty : s.TypeIs (.ref sl) "slice" := hs.elim fun os q => ⟨os, q.1, q.2.1⟩
  unfold getItem
  try with_reducible refine wpAny_holding ?_
  first | refine wpAny_bind (wpAny_pure ?_) | skip
  refine wpAny_bind (wpAny_sequenceKey ht.typeIs (by decide) (wpAny_bind (wpAny_callSpecial?_slot (name := Str.ofString "__getitem__") ht.typeIs PyProof.Rows.slot_tuple_getitem (wpAny_call_entry PyProof.Rows.slot_tuple_getitem ht.typeIs entry_tuple_getitem ?_ (args_tuple_getitem _ _)))))
  show wpAny _ _ (Builtin.Tuple.tupleItemsOf (.ref t) >>= _) _ _ s
  refine wpAny_bind (tupleItemsOf_ ht (wpAny_bind (wpAny_typeOf ty ?_)))
  rw [if_pos (show (Value.type "slice" == Value.type "slice") = true by decide)]
  refine wpAny_bind (rev_applied hs ps ?_)
  have no : ¬ ((((items.size : Int) - 1) == 0 && (-1 : Int) == 1 && items.size == items.size) = true) := by
    rw [show ((-1 : Int) == 1) = false by decide, Bool.and_false, Bool.false_and]
    exact Bool.false_ne_true
  show wpAny _ _ (if ((((items.size : Int) - 1) == 0 && (-1 : Int) == 1 && items.size == items.size) = true) then _ else _) _ _ s
  rw [if_neg no, rev_pick]
  first
    | exact wpAny_bind (m := Builtin.Tuple.tupleExact _) (wpAny_newObj_type (wpAny_pure ⟨_, rfl, wpAny_pure h⟩) fit)
    | exact wpAny_bind (m := Builtin.Tuple.tupleExact _) (wpAny_newObj_type (wpAny_bind (wpAny_pure (wpAny_pure ⟨_, rfl, wpAny_pure h⟩))) fit)
end
def tRevT (K : PySem.W.Frag) (te : TE) : TE := fun σ H Q => te σ H fun x H1 => ∃ a xs, x = .ref a ∧ SqT K H1 a xs ∧ ∀ p, H1 p = none → Q (.ref p) (upd H1 p (.tup xs.reverse))
theorem pe_revT {X : Cx} {e : Expr} {te : TE} {k : Nat} {p1 p2 p3 pos : Pos} (he : PE X e te) : PE X (.Subscript e (.Slice none none (some (.UnaryOp .USub (.Constant (.int 1) k p1) p2)) p3) pos) (tRevT X.K te) := by
  refine ⟨fun pins s σ H Q I h => Subscript_ (thn (he.run pins s σ H _ I h) fun v s1 ⟨x, H1, I1, r1, a, xs, ex, hx, q⟩ => ?_)⟩
  subst ex
  cases r1
  have st : PO X (some (.UnaryOp .USub (.Constant (.int 1) k p1) p2)) (tPart (tUn (rU fun i => .int (-i)) (tC (.int 1)))) := po_some (pe_un un_neg pe_int)
  refine wpAny_Slice (thn (po_none.run pins s1 σ H1 (fun o H2 => o = none ∧ H2 = H1) I1 ⟨rfl, rfl⟩) fun vl s2 ⟨l, H2, I2, pl, z1, z2⟩ => ?_)
  subst z1 z2
  refine thn (po_none.run pins s2 σ H2 (fun o H3 => o = none ∧ H3 = H2) I2 ⟨rfl, rfl⟩) fun vu s3 ⟨u, H3, I3, pu, z3, z4⟩ => ?_
  subst z3 z4
  refine thn (st.run pins s3 σ H3 (fun o H4 => o = some (-1) ∧ H4 = H3) I3 ⟨1, rfl, -1, rfl, rfl, rfl⟩) fun vs s4 ⟨o, H4, I4, ps, z5, z6⟩ => ?_
  subst z5 z6
  have nl : vl = .none := by cases pl; rfl
  have nu : vu = .none := by cases pu; rfl
  subst nl nu
  have I5 : Inv X pins σ H4 { s4 with heap := s4.heap.push { cls := .type "slice", data := .fields #[.none, .none, vs] } } := I4.kept (t' := s4.toks) fun b ob q => Heap.get?_push_of_some _ q
  obtain ⟨its, r, ht, hz⟩ := I5.tuple hx
  have hlen := r.length
  show wpAny _ _ (subscriptTail e (.Slice none none (some (.UnaryOp .USub (.Constant (.int 1) k p1) p2)) p3) (.ref a) (.ref s4.heap.objs.size)) _ _ _
  refine tail_any (ops := [.ref a, .ref s4.heap.objs.size]) ht.typeIs (PyProof.Rows.slot_tuple_getitem.lookup) ?_ (by with_unfolding_all rfl)
  refine get_rev ht (Heap.IsSliceOf.new _ .none .none vs) ps ?_ (by rw [List.size_toArray]; omega)
  refine ⟨.ref _, _, I5.laid (t' := s4.toks) (o := .tup xs.reverse) (fun b ob q => Heap.get?_push_of_some _ q) (Nat.le_refl _) ?_, rfl, q _ (I5.hok.fresh (Nat.le_refl _))⟩
  exact ⟨by rw [List.length_reverse]; exact hz, its.reverse, r.reverse, IsTup.new _ _⟩
end Ow

namespace Ow
open PySem PySem.Spec PyProof.Rows L2
section
variable {X : Cx} {CX : CXT} {C f : Addr} {n : Nat} {fd : FuncData} {ps : List Str} {sp : Sp} {E : XK}
/-- the truth of an instance, by its own __bool__ -/
def rTruO (C : Addr) (sp : Sp) (E : XK) : V → Hp → (Bool → Hp → Prop) → Prop := fun x H Q => ∃ a dx fs, x = .ref a ∧ H a = some (.ins C dx fs) ∧ sp [.ref a] H (fun z H' => ∃ k, z = .bl k ∧ Q k H') E
theorem tru_own (om : OM X.K C "__bool__" f) (F : FnOk X.prog X.w X.K X.mg X.base CX n f fd ps sp) (hr : Room n X.A) (hb : Binds X.K fd ps []) (hx : Passes CX X E) : TruR X (rTruO C sp E) := by
  intro pins s σ H x v Q I r h
  obtain ⟨a, dx, fs, rfl, ha, q⟩ := h
  cases r
  obtain ⟨mA, J, _⟩ := ins_get I.hok ha
  obtain ⟨od, J, _⟩ := J.look
  obtain ⟨m, hF⟩ := I.fr
  refine PySem.W.truthy_K hF I.ok.mod.kin J om.at_ om.fn (wpAny_mono (run_in (us := [.ref a]) (ws := [.ref a]) F hr I.env0 hb hx I (.cons rfl .nil) q) (fun w s' ⟨z, H', I', rz, k, ez, qz⟩ => ?_) fun _ _ e => e)
  subst ez
  obtain rfl : w = .bool k := rz
  exact ⟨H', I', qz⟩
/-- len(x) by an own __len__ -/
def rLenO (C : Addr) (sp : Sp) (E : XK) : List V → Hp → VK → Prop := fun xs H Q => ∃ a dx fs, xs = [.ref a] ∧ H a = some (.ins C dx fs) ∧ sp [.ref a] H (fun z H' => ∃ k : Int, z = .int k ∧ 0 ≤ k ∧ k < 2 ^ 63 ∧ Q (.int k) H') E
theorem call_lenO (om : OM X.K C "__len__" f) (F : FnOk X.prog X.w X.K X.mg X.base CX n f fd ps sp) (hr : Room (n + 1) X.A) (hb : Binds X.K fd ps []) (hx : Passes CX X E) : CallR X (.builtin "len") (rLenO C sp E) := by
  intro pins s σ H xs us Q I r h
  obtain ⟨a, dx, fs, rfl, ha, q⟩ := h
  obtain ⟨u, rfl, ru⟩ := vals1 r
  cases ru
  obtain ⟨mA, J, _⟩ := ins_get I.hok ha
  obtain ⟨od, J, _⟩ := J.look
  obtain ⟨m, hF⟩ := I.fr
  refine PySem.W.len_K hF I.ok.mod.kin J om.at_ om.fn (wpAny_mono (run_in (us := [.ref a]) (ws := [.ref a]) F hr.in1 I.env0.in1 hb hx I (.cons rfl .nil) q) (fun w s' ⟨z, H', I', rz, k, ez, k0, k1, qz⟩ => ?_) fun _ _ e => e)
  subst ez
  obtain ⟨t, rfl⟩ := rz
  exact ⟨⟨k0, k1⟩, .int k, H', I'.tok _, ⟨_, rfl⟩, qz⟩
end
/-- enumerate of a tuple as a walk -/
theorem walk_enumT {K : PySem.W.Frag} {a : Addr} {xs : List V} : Walk (IteT K a) xs.length (fun H => SqT K H a xs) (YPair (fun i => some (.int (i : Nat))) (fun i => xs[i]?)) :=
  ⟨fun i _ hi q => ⟨xs, xs[i], q, by simp [hi]⟩, fun _ q => ⟨xs, q, Nat.le_refl _⟩, fun i _ _ _ _ q ⟨T, x, e1, e2, e3, e4⟩ => ⟨T, _, x, e1, e2, e3, rfl, e4 xs q⟩⟩
end Ow
namespace Ow
open PySem PySem.Spec PyProof.Rows L2
/-- o.f as one of several targets -/
def gFld (K : PySem.W.Frag) (to : TE) (f : Str) : TG := fun y σ H Q => to σ H fun x H1 => ∃ a C dx fs, x = .ref a ∧ H1 a = some (.ins C dx fs) ∧ Cls K C ∧ NoAttr K C f ∧ fs.length < 1000 ∧ Q σ (upd H1 a (.ins C dx (putF f y fs)))
theorem pg_fld {X : Cx} {o : Expr} {to : TE} {f : Str} {pos : Pos} (ho : PE X o to) : PG X (.Attribute o f pos) (gFld X.K to f) := by
  refine ⟨fun pins s σ H v u Q I ru h => ?_⟩
  rw [assign_Attribute]
  refine wpAny_bind (wpAny_holding (thn (ho.run pins s σ H _ I h) fun w s1 ⟨x, H1, I1, rx, a, C, dx, fs, ex, ea, c, nn, l, q⟩ => ?_))
  subst ex
  obtain rfl : w = Value.ref a := rx
  refine wpAny_bind (wpAny_standAt (wpAny_bind (wpAny_holding (setattr_ok I1 ea c nn l ru fun s3 I3 => ?_))))
  exact wpAny_release ⟨σ, _, I3, q⟩
end Ow
namespace Ow
open PySem L2
/-- the truth of the i-th slot's value, by a name -/
def tTru (K : PySem.W.Frag) (i : Nat) : TT := fun σ H Q => tVar i σ H fun x H1 => ∃ k, TruV K x H1 k ∧ Q k H1
end Ow
namespace Ow
open PySem PySem.Spec PyProof.Rows L2
/-- bool(a tuple) -/
theorem boolT_new (l : Addr) (its : Array Value) (hz : (its.size : Int) < 2 ^ 63) : Meets (Builtin.«bool.__new__» ⟨[.type "bool", .ref l], []⟩) (fun _ R s => IsTup s.heap l its ∧ R (.ok (.ret (.bool (!its.isEmpty)))) { s with toks := s.toks + 1 + 1 }) := .of_wp fun prog w A R s hs => by
  obtain ⟨ht, hs⟩ := hs
  obtain ⟨hp, g, d, tk, os⟩ := s
  have sb := PySem.F.conv_sub_bool
  repeat (any_goals (first | assumption | with_reducible refine truthy_tuple ht hz ?_ | wp_step))
  all_goals first | exact ⟨_, rfl, hs⟩ | exact hs
theorem call_boolT {X : Cx} : CallR X (.type "bool") (fun xs H Q => ∃ (a : Addr) (zs : List V), xs = [.ref a] ∧ SqT X.K H a zs ∧ Q (.bl (!zs.isEmpty)) H) := by
  intro pins s σ H xs us Q I r h
  obtain ⟨a, zs, rfl, hq, q⟩ := h
  obtain ⟨u, rfl, ru⟩ := vals1 r
  cases ru
  obtain ⟨its, rv, pt, hz⟩ := I.tuple hq
  have hl := rv.length
  have h63 := line63
  refine call_bool_1 (boolT_new a its.toArray (by simp only [List.size_toArray]; omega)) ⟨pt, rfl, .bl (!zs.isEmpty), H, I.tok _, ?_, q⟩
  rw [isEmpty_of rv]
  rfl
end Ow

namespace Sk
open PySem L2 Ow
def top (i : Nat) : Stmt := PySem.Challenge.pw_underwords_k85_whole_least_members_of_co.main.body.getD i (.Pass ⟨0, 0, 0, 0⟩)
abbrev s_is_within : Stmt := top 2
theorem sc_is_within : FnScope ["value", "least", "most"] ["value", "least", "most"] (defScope s_is_within) := ⟨rfl, rfl, rfl, by decide +kernel, rfl, by decide +kernel, by decide +kernel⟩
abbrev s_init : Stmt := inClass (top 13) 0
theorem sc_init : FnScope ["self", "letters", "bonds"] ["self", "letters", "bonds"] (defScope s_init) := ⟨rfl, rfl, rfl, by decide +kernel, rfl, by decide +kernel, by decide +kernel⟩
abbrev s_rows : Stmt := inClass (top 13) 1
theorem sc_rows : FnScope ["cls", "places"] ["cls", "places"] (defScope s_rows) := ⟨rfl, rfl, rfl, by decide +kernel, rfl, by decide +kernel, by decide +kernel⟩
abbrev s_twenty : Stmt := inClass (top 13) 4
theorem sc_twenty : FnScope ["cls"] ["cls"] (defScope s_twenty) := ⟨rfl, rfl, rfl, by decide +kernel, rfl, by decide +kernel, by decide +kernel⟩
abbrev s_letters : Stmt := inClass (top 13) 6
theorem sc_letters : FnScope ["self"] ["self"] (defScope s_letters) := ⟨rfl, rfl, rfl, by decide +kernel, rfl, by decide +kernel, by decide +kernel⟩
abbrev s_bonds : Stmt := inClass (top 13) 7
theorem sc_bonds : FnScope ["self"] ["self"] (defScope s_bonds) := ⟨rfl, rfl, rfl, by decide +kernel, rfl, by decide +kernel, by decide +kernel⟩
abbrev s_bond_of : Stmt := inClass (top 13) 8
theorem sc_bond_of : FnScope ["self", "one", "other", "told", "low", "high", "bond"] ["self", "one", "other"] (defScope s_bond_of) := ⟨rfl, rfl, rfl, by decide +kernel, rfl, by decide +kernel, by decide +kernel⟩
abbrev s_neighbours : Stmt := top 14
theorem sc_neighbours : FnScope ["first", "letters", "letter"] ["first", "letters"] (defScope s_neighbours) := ⟨rfl, rfl, rfl, by decide +kernel, rfl, by decide +kernel, by decide +kernel⟩
abbrev s_are_bonds : Stmt := top 15
theorem sc_are_bonds : FnScope ["letters", "value", "triple", "pairs", "low", "high", "_", "one", "other"] ["letters", "value"] (defScope s_are_bonds) := ⟨rfl, rfl, rfl, by decide +kernel, rfl, by decide +kernel, by decide +kernel⟩
abbrev s_is_triple : Stmt := top 16
theorem sc_is_triple : FnScope ["letters", "value", "low", "high", "bond"] ["letters", "value"] (defScope s_is_triple) := ⟨rfl, rfl, rfl, by decide +kernel, rfl, by decide +kernel, by decide +kernel⟩
abbrev s_is_letter : Stmt := top 19
theorem sc_is_letter : FnScope ["system", "value"] ["system", "value"] (defScope s_is_letter) := ⟨rfl, rfl, rfl, by decide +kernel, rfl, by decide +kernel, by decide +kernel⟩
abbrev s_is_word : Stmt := top 20
theorem sc_is_word : FnScope ["system", "value", "letter"] ["system", "value"] (defScope s_is_word) := ⟨rfl, rfl, rfl, by decide +kernel, rfl, by decide +kernel, by decide +kernel⟩
abbrev s_check_system : Stmt := top 21
theorem sc_check_system : FnScope ["system"] ["system"] (defScope s_check_system) := ⟨rfl, rfl, rfl, by decide +kernel, rfl, by decide +kernel, by decide +kernel⟩
abbrev s_check_word : Stmt := top 22
theorem sc_check_word : FnScope ["system", "word"] ["system", "word"] (defScope s_check_word) := ⟨rfl, rfl, rfl, by decide +kernel, rfl, by decide +kernel, by decide +kernel⟩
abbrev s_check_words : Stmt := top 23
theorem sc_check_words : FnScope ["system", "words", "word"] ["system", "words"] (defScope s_check_words) := ⟨rfl, rfl, rfl, by decide +kernel, rfl, by decide +kernel, by decide +kernel⟩
abbrev s_check_letters : Stmt := top 24
theorem sc_check_letters : FnScope ["system", "letters", "letter", "one", "other"] ["system", "letters"] (defScope s_check_letters) := ⟨rfl, rfl, rfl, by decide +kernel, rfl, by decide +kernel, by decide +kernel⟩
abbrev s_sense_of : Stmt := top 26
theorem sc_sense_of : FnScope ["whole", "part", "twice", "is_twice_heavier"] ["whole", "part"] (defScope s_sense_of) := ⟨rfl, rfl, rfl, by decide +kernel, rfl, by decide +kernel, by decide +kernel⟩
abbrev s_factor : Stmt := top 29
theorem sc_factor : FnScope ["system", "one", "other", "low_high", "high_low"] ["system", "one", "other"] (defScope s_factor) := ⟨rfl, rfl, rfl, by decide +kernel, rfl, by decide +kernel, by decide +kernel⟩
abbrev s_other_letters : Stmt := top 30
theorem sc_other_letters : FnScope ["system", "letter", "other"] ["system", "letter"] (defScope s_other_letters) := ⟨rfl, rfl, rfl, by decide +kernel, rfl, by decide +kernel, by decide +kernel⟩
abbrev s_triples_from : Stmt := top 31
theorem sc_triples_from : FnScope ["system", "letter", "other"] ["system", "letter"] (defScope s_triples_from) := ⟨rfl, rfl, rfl, by decide +kernel, rfl, by decide +kernel, by decide +kernel⟩
abbrev s_without_zeros : Stmt := top 32
theorem sc_without_zeros : FnScope ["pairs", "other", "whole", "part"] ["pairs"] (defScope s_without_zeros) := ⟨rfl, rfl, rfl, by decide +kernel, rfl, by decide +kernel, by decide +kernel⟩
abbrev s_is_below : Stmt := top 33
theorem sc_is_below : FnScope ["number", "whole", "part"] ["number"] (defScope s_is_below) := ⟨rfl, rfl, rfl, by decide +kernel, rfl, by decide +kernel, by decide +kernel⟩
abbrev s_links_of : Stmt := top 35
theorem sc_links_of : FnScope ["system", "letter"] ["system"] (defScope s_links_of) := ⟨rfl, rfl, rfl, by decide +kernel, rfl, by decide +kernel, by decide +kernel⟩
abbrev s_first_state : Stmt := top 36
theorem sc_first_state : FnScope ["links", "_"] ["links"] (defScope s_first_state) := ⟨rfl, rfl, rfl, by decide +kernel, rfl, by decide +kernel, by decide +kernel⟩
abbrev s_put_ahead : Stmt := top 37
theorem sc_put_ahead : FnScope ["links", "state", "letter", "whole", "part", "numbers", "other", "more", "golden", "a", "b"] ["links", "state", "letter"] (defScope s_put_ahead) := ⟨rfl, rfl, rfl, by decide +kernel, rfl, by decide +kernel, by decide +kernel⟩
abbrev s_word_ahead : Stmt := top 38
theorem sc_word_ahead : FnScope ["links", "state", "word", "letter"] ["links", "state", "word"] (defScope s_word_ahead) := ⟨rfl, rfl, rfl, by decide +kernel, rfl, by decide +kernel, by decide +kernel⟩
abbrev s_state_of : Stmt := top 39
theorem sc_state_of : FnScope ["links", "word"] ["links", "word"] (defScope s_state_of) := ⟨rfl, rfl, rfl, by decide +kernel, rfl, by decide +kernel, by decide +kernel⟩
abbrev s_left_of : Stmt := top 40
theorem sc_left_of : FnScope ["state", "letter", "number"] ["state"] (defScope s_left_of) := ⟨rfl, rfl, rfl, by decide +kernel, rfl, by decide +kernel, by decide +kernel⟩
abbrev s_normal_of : Stmt := top 41
theorem sc_normal_of : FnScope ["links", "state", "word", "lefts"] ["links", "state"] (defScope s_normal_of) := ⟨rfl, rfl, rfl, by decide +kernel, rfl, by decide +kernel, by decide +kernel⟩
abbrev s_normal_word : Stmt := top 42
theorem sc_normal_word : FnScope ["links", "word"] ["links", "word"] (defScope s_normal_word) := ⟨rfl, rfl, rfl, by decide +kernel, rfl, by decide +kernel, by decide +kernel⟩
abbrev s_by_length : Stmt := top 43
theorem sc_by_length : FnScope ["words", "sized", "word", "_"] ["words"] (defScope s_by_length) := ⟨rfl, rfl, rfl, by decide +kernel, rfl, by decide +kernel, by decide +kernel⟩
abbrev s_next_level_by : Stmt := top 44
theorem sc_next_level_by : FnScope ["links", "level", "letters", "found", "state", "letter", "longer", "least", "rest"] ["links", "level", "letters"] (defScope s_next_level_by) := ⟨rfl, rfl, rfl, by decide +kernel, rfl, by decide +kernel, by decide +kernel⟩
abbrev s_words_by : Stmt := top 45
theorem sc_words_by : FnScope ["links", "letters", "most", "level", "found"] ["links", "letters", "most"] (defScope s_words_by) := ⟨rfl, rfl, rfl, by decide +kernel, rfl, by decide +kernel, by decide +kernel⟩
abbrev s_right_letters : Stmt := top 48
theorem sc_right_letters : FnScope ["system", "word"] ["system", "word"] (defScope s_right_letters) := ⟨rfl, rfl, rfl, by decide +kernel, rfl, by decide +kernel, by decide +kernel⟩
abbrev s_members : Stmt := top 49
theorem sc_members : FnScope ["system", "found"] ["system"] (defScope s_members) := ⟨rfl, rfl, rfl, by decide +kernel, rfl, by decide +kernel, by decide +kernel⟩
abbrev s_is_least : Stmt := top 53
theorem sc_is_least : FnScope ["system", "word", "letters", "letter"] ["system", "word", "letters"] (defScope s_is_least) := ⟨rfl, rfl, rfl, by decide +kernel, rfl, by decide +kernel, by decide +kernel⟩
abbrev s_least_in : Stmt := top 54
theorem sc_least_in : FnScope ["system", "word", "letters"] ["system", "word", "letters"] (defScope s_least_in) := ⟨rfl, rfl, rfl, by decide +kernel, rfl, by decide +kernel, by decide +kernel⟩
abbrev s_split : Stmt := top 55
theorem sc_split : FnScope ["system", "word", "letters", "links", "state", "taken", "rights", "letter"] ["system", "word", "letters"] (defScope s_split) := ⟨rfl, rfl, rfl, by decide +kernel, rfl, by decide +kernel, by decide +kernel⟩
abbrev s_coset : Stmt := top 56
theorem sc_coset : FnScope ["system", "word", "letters", "least", "links", "found", "behind"] ["system", "word", "letters"] (defScope s_coset) := ⟨rfl, rfl, rfl, by decide +kernel, rfl, by decide +kernel, by decide +kernel⟩
abbrev s_greatest_in : Stmt := top 57
theorem sc_greatest_in : FnScope ["system", "word", "letters", "least", "links", "found"] ["system", "word", "letters"] (defScope s_greatest_in) := ⟨rfl, rfl, rfl, by decide +kernel, rfl, by decide +kernel, by decide +kernel⟩
abbrev s_least_members : Stmt := top 58
theorem sc_least_members : FnScope ["system", "letters", "word"] ["system", "letters"] (defScope s_least_members) := ⟨rfl, rfl, rfl, by decide +kernel, rfl, by decide +kernel, by decide +kernel⟩
abbrev s_check_coset : Stmt := top 59
theorem sc_check_coset : FnScope ["system", "letters", "words"] ["system", "letters", "words"] (defScope s_check_coset) := ⟨rfl, rfl, rfl, by decide +kernel, rfl, by decide +kernel, by decide +kernel⟩
abbrev s_check_length : Stmt := top 60
theorem sc_check_length : FnScope ["word"] ["word"] (defScope s_check_length) := ⟨rfl, rfl, rfl, by decide +kernel, rfl, by decide +kernel, by decide +kernel⟩
abbrev s_members_by : Stmt := top 61
theorem sc_members_by : FnScope ["links", "letters", "found"] ["links", "letters"] (defScope s_members_by) := ⟨rfl, rfl, rfl, by decide +kernel, rfl, by decide +kernel, by decide +kernel⟩
abbrev s_l_bag : Stmt := top 63
theorem sc_l_bag : FnScope ["_law_script", "_law_spot", "_law_cell", "_law_great"] ["_law_script", "_law_spot"] (defScope s_l_bag) := ⟨rfl, rfl, rfl, by decide +kernel, rfl, by decide +kernel, by decide +kernel⟩
abbrev s_l_dip : Stmt := top 64
theorem sc_l_dip : FnScope ["_law_bag_here", "_law_total", "_law_found", "_law_one", "_law_two"] ["_law_bag_here", "_law_total"] (defScope s_l_dip) := ⟨rfl, rfl, rfl, by decide +kernel, rfl, by decide +kernel, by decide +kernel⟩
abbrev s_l_among : Stmt := top 65
theorem sc_l_among : FnScope ["_law_bag_here", "_law_items"] ["_law_bag_here", "_law_items"] (defScope s_l_among) := ⟨rfl, rfl, rfl, by decide +kernel, rfl, by decide +kernel, by decide +kernel⟩
abbrev s_l_rules : Stmt := top 66
theorem sc_l_rules : FnScope ["_law_letters", "_law_bonds", "_law_told", "_law_kept", "_law_i", "_law_j", "_law_bond", "_law_found"] ["_law_letters", "_law_bonds"] (defScope s_l_rules) := ⟨rfl, rfl, rfl, by decide +kernel, rfl, by decide +kernel, by decide +kernel⟩
abbrev s_l_is_below : Stmt := top 67
theorem sc_l_is_below : FnScope ["_law_root", "_law_a", "_law_b", "_law_c"] ["_law_root"] (defScope s_l_is_below) := ⟨rfl, rfl, rfl, by decide +kernel, rfl, by decide +kernel, by decide +kernel⟩
abbrev s_l_turned : Stmt := top 68
theorem sc_l_turned : FnScope ["_law_rules_here", "_law_deed_here", "_law_letter", "_law_found", "_law_j", "_law_root", "_law_a", "_law_b", "_law_c", "_law_d", "_law_pairs", "_law_e", "_law_f"] ["_law_rules_here", "_law_deed_here", "_law_letter"] (defScope s_l_turned) := ⟨rfl, rfl, rfl, by decide +kernel, rfl, by decide +kernel, by decide +kernel⟩
abbrev s_l_deed : Stmt := top 69
theorem sc_l_deed : FnScope ["_law_letters", "_law_rules_here", "_law_word", "_law_found", "_law_i", "_law_j", "_law_letter"] ["_law_letters", "_law_rules_here", "_law_word"] (defScope s_l_deed) := ⟨rfl, rfl, rfl, by decide +kernel, rfl, by decide +kernel, by decide +kernel⟩
abbrev s_l_normal : Stmt := top 70
theorem sc_l_normal : FnScope ["_law_letters", "_law_rules_here", "_law_word", "_law_deed_here", "_law_found", "_law_turn", "_law_left", "_law_letter"] ["_law_letters", "_law_rules_here", "_law_word"] (defScope s_l_normal) := ⟨rfl, rfl, rfl, by decide +kernel, rfl, by decide +kernel, by decide +kernel⟩
abbrev s_l_split : Stmt := top 71
theorem sc_l_split : FnScope ["_law_letters", "_law_rules_here", "_law_word", "_law_some_here", "_law_deed_here", "_law_taken", "_law_turn", "_law_right_here", "_law_letter", "_law_first"] ["_law_letters", "_law_rules_here", "_law_word", "_law_some_here"] (defScope s_l_split) := ⟨rfl, rfl, rfl, by decide +kernel, rfl, by decide +kernel, by decide +kernel⟩
abbrev s_l_by : Stmt := top 72
theorem sc_l_by : FnScope ["_law_letters", "_law_rules_here", "_law_some_here", "_law_found", "_law_layer", "_law_later", "_law_one", "_law_letter", "_law_longer"] ["_law_letters", "_law_rules_here", "_law_some_here"] (defScope s_l_by) := ⟨rfl, rfl, rfl, by decide +kernel, rfl, by decide +kernel, by decide +kernel⟩
abbrev s_l_some : Stmt := top 73
theorem sc_l_some : FnScope ["_law_bag_here", "_law_letters", "_law_left", "_law_letter"] ["_law_bag_here", "_law_letters"] (defScope s_l_some) := ⟨rfl, rfl, rfl, by decide +kernel, rfl, by decide +kernel, by decide +kernel⟩
abbrev s_l_finite : Stmt := top 74
theorem sc_l_finite : FnScope ["_law_bag_here", "_law_some_here"] ["_law_bag_here"] (defScope s_l_finite) := ⟨rfl, rfl, rfl, by decide +kernel, rfl, by decide +kernel, by decide +kernel⟩
abbrev s_l_right : Stmt := top 75
theorem sc_l_right : FnScope ["_law_bag_here", "_law_letters", "_law_bonds", "_law_rules_here", "_law_system", "_law_every", "_law_some_here", "_law_members", "_law_by_here", "_law_due", "_law_one", "_law_other", "_law_made", "_law_far", "_law_last"] ["_law_bag_here"] (defScope s_l_right) := ⟨rfl, rfl, rfl, by decide +kernel, rfl, by decide +kernel, by decide +kernel⟩
abbrev s_law : Stmt := top 76
theorem sc_law : FnScope ["_law_script", "_law_spot", "_law_bag_here", "_law_four", "_law_told"] ["_law_script"] (defScope s_law) := ⟨rfl, rfl, rfl, by decide +kernel, rfl, by decide +kernel, by decide +kernel⟩
def MDef (K : PySem.W.Frag) (mg : Str → Option Value) (x : Str) (st : Stmt) : Prop := ∃ f fd, Fun K x x st f fd ∧ mg x = some (.ref f)
def GM (K : PySem.W.Frag) (C : Addr) (m qual : Str) (st : Stmt) : Prop := ∃ f fd, Fun K m qual st f fd ∧ OM K C m f
def GP (K : PySem.W.Frag) (C : Addr) (m qual : Str) (st : Stmt) : Prop := ∃ p g fd, PropOf K C m p g ∧ Fun K m qual st g fd
/-- a built-in class that has nothing to do with C -/
structure TyO (K : PySem.W.Frag) (C : Addr) (T : String) : Prop where
  sub : PySem.W.subIn K (.type T) (.ref C) = some false
  kit : PySem.W.kitOne K (.type T) (.ref C) = some false
def CG (K : PySem.W.Frag) (C : Addr) (m qual : Str) (st : Stmt) : Prop := ∃ p g fd, ClX.CMet K C (.type "type") m p g ∧ Fun K m qual st g fd
/-! data: rows of ints, rows of these -/
theorem upd_upd {H : Hp} {p : Addr} {a b : HO} : upd (upd H p a) p b = upd H p b := by
  funext q
  unfold upd
  by_cases h : q = p
  · rw [if_pos h, if_pos h]
  · rw [if_neg h, if_neg h, if_neg h]
theorem same_new {H : Hp} {p : Addr} {o : HO} (n : H p = none) : Same H (upd H p o) := fun q u e => by rw [upd_ne (ne_of_none e n)]; exact e
theorem sqT_same {K : PySem.W.Frag} {H H' : Hp} {a : Addr} {xs : List V} (s : Same H H') (h : SqT K H a xs) : SqT K H' a xs := SqT.ext h s
/-- a tuple of ints -/
def TI (K : PySem.W.Frag) (H : Hp) (v : V) (ns : List Int) : Prop := ∃ a, v = .ref a ∧ SqT K H a (ns.map V.int)
theorem TI.same {K : PySem.W.Frag} {H H' : Hp} {v : V} {ns : List Int} (h : TI K H v ns) (s : Same H H') : TI K H' v ns := h.elim fun a ⟨e, q⟩ => ⟨a, e, sqT_same s q⟩
def TIs (K : PySem.W.Frag) (H : Hp) : List V → List (List Int) → Prop
  | [], [] => True
  | x :: xs, n :: ns => TI K H x n ∧ TIs K H xs ns
  | _, _ => False
theorem TIs.same {K : PySem.W.Frag} {H H' : Hp} (s : Same H H') : ∀ {xs : List V} {ns : List (List Int)}, TIs K H xs ns → TIs K H' xs ns
  | [], [], _ => trivial
  | _ :: _, _ :: _, h => ⟨h.1.same s, TIs.same s h.2⟩
theorem TIs.len {K : PySem.W.Frag} {H : Hp} : ∀ {xs : List V} {ns : List (List Int)}, TIs K H xs ns → xs.length = ns.length
  | [], [], _ => rfl
  | _ :: _, _ :: _, h => congrArg Nat.succ (TIs.len h.2)
theorem TIs.get {K : PySem.W.Frag} {H : Hp} : ∀ {xs : List V} {ns : List (List Int)} {i : Nat} {x : V}, TIs K H xs ns → xs[i]? = some x → ∃ n, ns[i]? = some n ∧ TI K H x n
  | x :: xs, n :: ns, 0, y, h, e => ⟨n, rfl, (show x = y by simpa using e) ▸ h.1⟩
  | x :: xs, n :: ns, i + 1, y, h, e => (TIs.get (xs := xs) (ns := ns) (i := i) h.2 (by simpa using e)).elim fun m z => ⟨m, by simpa using z.1, z.2⟩
  | [], [], i, y, _, e => by simp at e
theorem TIs.snoc {K : PySem.W.Frag} {H : Hp} : ∀ {xs : List V} {ns : List (List Int)} {x : V} {n : List Int}, TIs K H xs ns → TI K H x n → TIs K H (xs ++ [x]) (ns ++ [n])
  | [], [], _, _, _, h => ⟨h, trivial⟩
  | _ :: _, _ :: _, _, _, h, k => ⟨h.1, TIs.snoc h.2 k⟩
/-- a tuple of tuples of ints -/
def BsAt (K : PySem.W.Frag) (H : Hp) (v : V) (bs : List (List Int)) : Prop := ∃ a xs, v = .ref a ∧ SqT K H a xs ∧ TIs K H xs bs
theorem BsAt.same {K : PySem.W.Frag} {H H' : Hp} {v : V} {bs : List (List Int)} (h : BsAt K H v bs) (s : Same H H') : BsAt K H' v bs := h.elim fun a ⟨xs, e, q, t⟩ => ⟨a, xs, e, sqT_same s q, t.same s⟩
/-- the two golds of a bond, each as its two whole numbers -/
def facT (b : Int) : List (List Int) := if b = 0 then [[2, 0], [2, 0]] else if b = 3 then [[1, 0], [1, 0]] else if b = 4 then [[1, 0], [2, 0]] else if b = 5 then [[0, 1], [0, 1]] else if b = 6 then [[1, 0], [3, 0]] else [[0, 0], [0, 0]]
structure Txt (K : PySem.W.Frag) (mg : Str → Option Value) (C : Addr) : Prop where
  cl : Cls K C
  ic : C8.InsC K C
  mgSystem : mg "System" = some (.ref C)
  nL : NoAttr K C "_letters"
  nB : NoAttr K C "_bonds"
  mkS : ∃ f fd e, Mk K C f ∧ FunD K "__init__" "System.__init__" (defArgs s_init) (defBody s_init) (defScope s_init) [.ref e] [] f fd ∧ ∀ H, SqT K H e []
  gB : ∃ a, mg "BONDS" = some (.ref a) ∧ ∀ H, SqT K H a [.int 0, .int 2, .int 3, .int 4, .int 5, .int 6]
  gF : ∃ d es n, mg "FACTORS" = some (.ref d) ∧ K.lookup d = some ⟨.type "dict", none, .dict es n, #[]⟩ ∧ IntKeys es ∧ ∀ b : Int, (b = 0 ∨ b = 2 ∨ b = 3 ∨ b = 4 ∨ b = 5 ∨ b = 6) → ∃ a, findBy Value.isInt es b = some (.ref a) ∧ ∀ H, BsAt K H (.ref a) (facT b)
  crd : ClX.CRead K C (.type "type")
  cRows : CG K C "rows" "System.rows" s_rows
  pL : GP K C "letters" "System.letters" s_letters
  mBond : GM K C "bond_of" "System.bond_of" s_bond_of
  cTwenty : CG K C "twenty" "System.twenty" s_twenty
  g_MAX_LETTERS : ∃ u, mg "MAX_LETTERS" = some u ∧ RelV (.int 4) u
  g_LONGEST_WORD : ∃ u, mg "LONGEST_WORD" = some u ∧ RelV (.int 40) u
  g_MAX_MEMBERS : ∃ u, mg "MAX_MEMBERS" = some u ∧ RelV (.int 120) u
  g_MOST_MEMBERS : ∃ u, mg "MOST_MEMBERS" = some u ∧ RelV (.int 120) u
  g_LONGEST : ∃ u, mg "LONGEST" = some u ∧ RelV (.int 40) u
  d_is_within : MDef K mg "is_within" s_is_within
  d_neighbours : MDef K mg "neighbours" s_neighbours
  d_are_bonds : MDef K mg "are_bonds" s_are_bonds
  d_is_triple : MDef K mg "is_triple" s_is_triple
  d_is_letter : MDef K mg "is_letter" s_is_letter
  d_is_word : MDef K mg "is_word" s_is_word
  d_check_system : MDef K mg "check_system" s_check_system
  d_check_word : MDef K mg "check_word" s_check_word
  d_check_words : MDef K mg "check_words" s_check_words
  d_check_letters : MDef K mg "check_letters" s_check_letters
  d_sense_of : MDef K mg "sense_of" s_sense_of
  d_factor : MDef K mg "factor" s_factor
  d_other_letters : MDef K mg "other_letters" s_other_letters
  d_triples_from : MDef K mg "triples_from" s_triples_from
  d_without_zeros : MDef K mg "without_zeros" s_without_zeros
  d_is_below : MDef K mg "is_below" s_is_below
  d_links_of : MDef K mg "links_of" s_links_of
  d_first_state : MDef K mg "first_state" s_first_state
  d_put_ahead : MDef K mg "put_ahead" s_put_ahead
  d_word_ahead : MDef K mg "word_ahead" s_word_ahead
  d_state_of : MDef K mg "state_of" s_state_of
  d_left_of : MDef K mg "left_of" s_left_of
  d_normal_of : MDef K mg "normal_of" s_normal_of
  d_normal_word : MDef K mg "normal_word" s_normal_word
  d_by_length : MDef K mg "by_length" s_by_length
  d_next_level_by : MDef K mg "next_level_by" s_next_level_by
  d_words_by : MDef K mg "words_by" s_words_by
  d_right_letters : MDef K mg "right_letters" s_right_letters
  d_members : MDef K mg "members" s_members
  d_is_least : MDef K mg "is_least" s_is_least
  d_least_in : MDef K mg "least_in" s_least_in
  d_split : MDef K mg "split" s_split
  d_coset : MDef K mg "coset" s_coset
  d_greatest_in : MDef K mg "greatest_in" s_greatest_in
  d_least_members : MDef K mg "least_members" s_least_members
  d_check_coset : MDef K mg "check_coset" s_check_coset
  d_check_length : MDef K mg "check_length" s_check_length
  d_members_by : MDef K mg "members_by" s_members_by
  d_l_bag : MDef K mg "_law_bag" s_l_bag
  d_l_dip : MDef K mg "_law_dip" s_l_dip
  d_l_among : MDef K mg "_law_among" s_l_among
  d_l_rules : MDef K mg "_law_rules" s_l_rules
  d_l_is_below : MDef K mg "_law_is_below" s_l_is_below
  d_l_turned : MDef K mg "_law_turned" s_l_turned
  d_l_deed : MDef K mg "_law_deed" s_l_deed
  d_l_normal : MDef K mg "_law_normal" s_l_normal
  d_l_split : MDef K mg "_law_split" s_l_split
  d_l_by : MDef K mg "_law_by" s_l_by
  d_l_some : MDef K mg "_law_some" s_l_some
  d_l_finite : MDef K mg "_law_finite" s_l_finite
  d_l_right : MDef K mg "_law_right" s_l_right
  b_list : mg "list" = none
  b_sorted : mg "sorted" = none
  b_isinstance : mg "isinstance" = none
  b_int : mg "int" = none
  b_bool : mg "bool" = none
  b_tuple : mg "tuple" = none
  b_dict : mg "dict" = none
  b_len : mg "len" = none
  b_abs : mg "abs" = none
  b_max : mg "max" = none
  b_min : mg "min" = none
  b_all : mg "all" = none
  b_any : mg "any" = none
  b_zip : mg "zip" = none
  b_range : mg "range" = none
  b_enumerate : mg "enumerate" = none
theorem MDef.cal {P : Program} {w : World} {K : PySem.W.Frag} {mg : Str → Option Value} {base : Heap} {x : Str} {st : Stmt} {k : Nat} {ps : List Str} {sp : Sp} (D : MDef K mg x st)
    (F : ∀ f fd, Fun K x x st f fd → FnOk P w K mg base CX0 k f fd ps sp)
    (h : ∀ (kV doc pm : Value) (an : Option Addr) (cdv ct : Value) (us : List Value), us.length = ps.length → bindArgs (PySem.W.fnOf x x (defArgs st) (defBody st) (defScope st) .none kV doc pm an cdv ct) ⟨us, []⟩ = pure (ps.zip us)) : Cal P w K mg base x k sp := by
  obtain ⟨f, fd, D, m⟩ := D
  exact ⟨⟨f, fd, ps, F f fd D, m, D.kp, D.binds h⟩⟩

def dT (ns : List Int) : PyData := .tuple (ns.map PyData.int)
def dB (bs : List (List Int)) : PyData := .tuple (bs.map dT)
theorem dInts {K : PySem.W.Frag} {H : Hp} : ∀ ns : List Int, DpAll K H (ns.map V.int) (ns.map PyData.int)
  | [] => .nil
  | n :: ns => .cons (.int n) (dInts ns)
theorem TI.dp {K : PySem.W.Frag} {H : Hp} {v : V} {ns : List Int} (h : TI K H v ns) : Dp K H v (dT ns) := by
  obtain ⟨a, rfl, q⟩ := h
  exact .tup q (dInts ns)
theorem TIs.dp {K : PySem.W.Frag} {H : Hp} : ∀ {xs : List V} {ns : List (List Int)}, TIs K H xs ns → DpAll K H xs (ns.map dT)
  | [], [], _ => .nil
  | _ :: _, _ :: _, h => .cons h.1.dp (TIs.dp h.2)
theorem BsAt.dp {K : PySem.W.Frag} {H : Hp} {v : V} {bs : List (List Int)} (h : BsAt K H v bs) : Dp K H v (dB bs) := by
  obtain ⟨a, xs, rfl, q, t⟩ := h
  exact .tup q t.dp
theorem lay_ints : ∀ ns : List Int, PyData.canLayAll0 (ns.map PyData.int) = true
  | [] => by simp [PyData.canLayAll0]
  | n :: ns => by simp [PyData.canLayAll0, PyData.canLay0, lay_ints ns]
theorem lay_dT (ns : List Int) : (dT ns).canLay0 = true := by simp [dT, PyData.canLay0, lay_ints]
theorem lay_dTs : ∀ bs : List (List Int), PyData.canLayAll0 (bs.map dT) = true
  | [] => by simp [PyData.canLayAll0]
  | n :: ns => by simp [PyData.canLayAll0, lay_dT, lay_dTs ns]
theorem lay_dB (bs : List (List Int)) : (dB bs).canLay0 = true := by simp [dB, PyData.canLay0, lay_dTs]
theorem dep_ints : ∀ ns : List Int, PyData.depthAll (ns.map PyData.int) ≤ 1
  | [] => by simp [PyData.depthAll]
  | n :: ns => by have := dep_ints ns; simp [PyData.depthAll, PyData.depth]; omega
theorem dep_dT (ns : List Int) : (dT ns).depth ≤ 2 := by have := dep_ints ns; simp [dT, PyData.depth]; omega
theorem dep_dTs : ∀ bs : List (List Int), PyData.depthAll (bs.map dT) ≤ 3
  | [] => by simp [PyData.depthAll]
  | n :: ns => by have := dep_dTs ns; have := dep_dT n; simp [PyData.depthAll]; omega
theorem dep_dB (bs : List (List Int)) : (dB bs).depth ≤ 4 := by have := dep_dTs bs; simp [dB, PyData.depth]; omega
theorem sh_dT (ns : List Int) : SeqAt.shaped (dT ns) = true := by
  unfold SeqAt.shaped
  rw [lay_dT, decide_eq_true (Nat.le_trans (dep_dT ns) (by decide))]
  rfl
theorem sh_dB (bs : List (List Int)) : SeqAt.shaped (dB bs) = true := by
  unfold SeqAt.shaped
  rw [lay_dB, decide_eq_true (Nat.le_trans (dep_dB bs) (by decide))]
  rfl
/-! systems, in numbers -/
def trOk (n : Int) (t : List Int) : Prop := ∃ l h b, t = [l, h, b] ∧ 0 ≤ l ∧ l < h ∧ h < n ∧ (b = 0 ∨ b = 3 ∨ b = 4 ∨ b = 5 ∨ b = 6)
structure Valid (n : Int) (bs : List (List Int)) : Prop where
  lo : 1 ≤ n
  hi : n ≤ 4
  tr : ∀ t ∈ bs, trOk n t
  as : (bs.map (·.take 2)).Pairwise (fun p q => HT.lexLt p q = true)
  few : bs.length ≤ 20
def sf (n : Int) (bv : V) : List (Str × V) := putF "_bonds" bv (putF "_letters" (.int n) [])
theorem lb_ : ¬ (("_letters" : Str) = "_bonds") := by decide +kernel
theorem sf_l (n : Int) (bv : V) : (sf n bv).lookup ("_letters" : Str) = some (.int n) := by
  unfold sf
  rw [lookup_putF, if_neg lb_, lookup_putF, if_pos rfl]
theorem sf_b (n : Int) (bv : V) : (sf n bv).lookup ("_bonds" : Str) = some bv := by
  unfold sf
  rw [lookup_putF, if_pos rfl]
theorem sf_no (n : Int) (bv : V) {m : Str} (h1 : ¬ m = "_bonds") (h2 : ¬ m = "_letters") : (sf n bv).lookup m = none := by
  unfold sf
  rw [lookup_putF, if_neg h1, lookup_putF, if_neg h2]
  rfl
def SysAt (K : PySem.W.Frag) (C : Addr) (H : Hp) (p : Addr) (n : Int) (bv : V) (bs : List (List Int)) : Prop := (∃ dx, H p = some (.ins C dx (sf n bv))) ∧ BsAt K H bv bs
theorem SysAt.same {K : PySem.W.Frag} {C : Addr} {H H' : Hp} {p : Addr} {n : Int} {bv : V} {bs : List (List Int)} (g : SysAt K C H p n bv bs) (s : Same H H') : SysAt K C H' p n bv bs := ⟨g.1.elim fun dx h => ⟨dx, s _ _ h⟩, g.2.same s⟩
/-! promises -/
def spWithin : Sp := fun vs H Q _ => ∃ i lo hi : Int, vs = [.int i, .int lo, .int hi] ∧ Q (.bl (decide (lo ≤ i) && decide (i ≤ hi))) H
def spTriple (K : PySem.W.Frag) : Sp := fun vs H Q _ => ∃ (n : Int) (v : V) (t : List Int), vs = [.int n, v] ∧ TI K H v t ∧ trOk n t ∧ Q (.bl true) H
def spBonds (K : PySem.W.Frag) : Sp := fun vs H Q _ => ∃ (n : Int) (v : V) (bs : List (List Int)), vs = [.int n, v] ∧ BsAt K H v bs ∧ Valid n bs ∧ ∀ H' : Hp, Same H H' → Q (.bl true) H'
def spInit (K : PySem.W.Frag) (C : Addr) : Sp := fun vs H Q _ => ∃ (p dx : Addr) (n : Int) (bv : V) (bs : List (List Int)), vs = [.ref p, .int n, bv] ∧ BsAt K H bv bs ∧ Valid n bs ∧ H p = some (.ins C dx []) ∧
  ∀ H' : Hp, Same H H' → Q .non (upd H' p (.ins C dx (sf n bv)))
section
variable {P : Program} {w : World} {K : PySem.W.Frag} {mg : Str → Option Value} {base : Heap} {C : Addr}
theorem cal_is_within (T : Txt K mg C) : Cal P w K mg base "is_within" 1 spWithin := by
  refine T.d_is_within.cal (ps := ["value", "least", "most"]) (fun f fd D => ?_) (fun _ _ _ _ _ _ us hl => match us, hl with | [_, _, _], _ => rfl)
  refine D.ok sc_is_within (fun vs H Q E h => ?_) (fun cdv A outer s H vs Q E hr h => ?_)
  · obtain ⟨i, lo, hi, rfl, _⟩ := h
    rfl
  · obtain ⟨i, lo, hi, rfl, q⟩ := h
    refine ⟨_, (pss_one (ps_ret (pe_and (pe_callB call_isi (by rfl) T.b_isinstance (by decide +kernel) (pa_cons (pv 0) (pa_cons (pe_bltn (v := .ty "int") (by rfl) T.b_int (by decide +kernel) rfl) pa_nil))) (pe_and (pe_not (pe_callB call_isi (by rfl) T.b_isinstance (by decide +kernel) (pa_cons (pv 0) (pa_cons (pe_bltn (v := .ty "bool") (by rfl) T.b_bool (by decide +kernel) rfl) pa_nil)))) (pe_one (pe_chain op_le op_le (pv 1) (pv 0) (pv 2))))))), ?_⟩
    refine ⟨_, rfl, _, _, _, _, true, rfl, .ty "int", .base (.int i), kit_ty (by decide +kernel), _, rfl, iteT ?_⟩
    refine ⟨_, rfl, _, _, _, _, false, rfl, .ty "bool", .base (.int i), kit_ty (by decide +kernel), _, rfl, _, rfl, iteT ?_⟩
    refine ⟨_, rfl, _, rfl, _, _, rfl, rfl, _, rfl, ?_⟩
    by_cases h1 : lo ≤ i
    · rw [decide_eq_true h1] at *
      refine iteT ?_
      exact ⟨_, rfl, _, _, rfl, rfl, q⟩
    · rw [decide_eq_false h1] at *
      exact iteF q
theorem pe_bonds {X : Cx} {x : Str} {pos : Pos} {a : Addr} (hg : Gl X x) (hx : X.mg x = some (.ref a)) (hd : (x == ("__debug__" : Str)) = false := by decide) : PE X (.Name x pos) (tC (.ref a)) := pe_glob (v := .ref a) hg hx rfl hd
/-- within, told -/
theorem win {H : Hp} {Q : VK} {i lo hi : Int} (h1 : lo ≤ i) (h2 : i ≤ hi) (q : Q (.bl true) H) : ∃ a b c : Int, ([V.int i, V.int lo, V.int hi] : List V) = [.int a, .int b, .int c] ∧ Q (.bl (decide (b ≤ a) && decide (a ≤ c))) H :=
  ⟨_, _, _, rfl, by rw [decide_eq_true h1, decide_eq_true h2]; exact q⟩
/-- the type of a tuple that is read -/
theorem tup_ty {H : Hp} {a : Addr} {xs : List V} (h : SqT K H a xs) : TyX K H (.ref a) (.type "tuple") := by
  rcases h with (h | ⟨o, h⟩) | ⟨o, its, n, hk, hc, _⟩
  · exact .base (.tup h)
  · exact .fTuple h
  · exact .kTuple hk hc
theorem iteNT' {A B : Prop} {c : Bool} (e : c = true) (h : B) : if (!c) = true then A else B := by rw [e]; exact iteF h
theorem iteNT {A B : Prop} {c : Bool} (e : c = true) (h : B) : if (!c) = true then A else B := by rw [e]; exact iteF h
theorem cal_is_triple (T : Txt K mg C) : Cal P w K mg base "is_triple" 2 (spTriple K) := by
  refine T.d_is_triple.cal (ps := ["letters", "value"]) (fun f fd D => ?_) (fun _ _ _ _ _ _ us hl => match us, hl with | [_, _], _ => rfl)
  refine D.ok sc_is_triple (fun vs H Q E h => ?_) (fun cdv A outer s H vs Q E hr h => ?_)
  · obtain ⟨n, v, t, rfl, _⟩ := h
    rfl
  · obtain ⟨n, v, t, rfl, ⟨a, rfl, ht⟩, ⟨l, h, b, rfl, h0, h1, h2, h3⟩, q⟩ := h
    obtain ⟨aB, gB, sB⟩ := T.gB
    refine ⟨_, (pss_cons (ps_if (PW.pt (pw_or (pt_not (pt_val (pe_callB call_isi (by rfl) T.b_isinstance (by decide +kernel) (pa_cons (pv 1) (pa_cons (pe_bltn (v := .ty "tuple") (by rfl) T.b_tuple (by decide +kernel) rfl) pa_nil))))) (pw_or1 (pt_cmpR op_ne (pe_callB call_len_seq (by rfl) T.b_len (by decide +kernel) (pa_cons (pv 1) pa_nil)) pe_int (nomark _))))) (pss_one (ps_ret pe_bl)) pss_nil)
      (pss_cons (ps_asg (pv 1) (pg_tup (by rfl) (pgs_cons (pg_name (i := 2) sc_is_triple.nd rfl (Or.inl rfl)) (pgs_cons (pg_name (i := 3) sc_is_triple.nd rfl (Or.inl rfl)) (pgs_cons (pg_name (i := 4) sc_is_triple.nd rfl (Or.inl rfl)) pgs_nil)))))
      (pss_cons (ps_if (PW.pt (pw_or (pt_not (pt_val (pe_cal (cal_is_within T) (hr.mono (by decide)) (by rfl) (pa_cons (pv 2) (pa_cons pe_int (pa_cons (pe_op op_sub (pv 0) pe_int) pa_nil)))))) (pw_or1 (pt_not (pt_val (pe_cal (cal_is_within T) (hr.mono (by decide)) (by rfl) (pa_cons (pv 3) (pa_cons (pe_op op_add (pv 2) pe_int) (pa_cons (pe_op op_sub (pv 0) pe_int) pa_nil))))))))) (pss_one (ps_ret pe_bl)) pss_nil)
      (pss_one (ps_ret (pe_and (pe_cal (cal_is_within T) (hr.mono (by decide)) (by rfl) (pa_cons (pv 4) (pa_cons pe_int (pa_cons pe_int pa_nil)))) (pe_and (pe_cmpR op_ne (pv 4) pe_int (nomark _)) (pe_one (pe_cmpR op_in_seq (pv 4) (pe_bonds (by rfl) gB) (by rfl)))))))))), ?_⟩
    refine ⟨_, rfl, _, _, .type "tuple", _, true, rfl, .ty "tuple", tup_ty ht, kit_ty (by decide +kernel), _, rfl, iteF ?_⟩
    refine ⟨_, rfl, _, _, rfl, .inr ht, rfl, _, rfl, iteNS rfl ?_⟩
    refine ⟨_, rfl, _, _, rfl, ht, rfl, _, _, rfl, _, _, rfl, _, _, rfl, rfl, ?_⟩
    refine ⟨_, rfl, _, rfl, _, _, rfl, rfl, _, _, _, rfl, _, rfl, iteNT' (by rw [decide_eq_true h0, decide_eq_true (show l ≤ n - 1 by omega)]; rfl) ?_⟩
    refine ⟨_, rfl, _, rfl, _, _, rfl, rfl, _, rfl, _, _, rfl, rfl, _, _, _, rfl, _, rfl, iteNT' (by rw [decide_eq_true (show l + 1 ≤ h by omega), decide_eq_true (show h ≤ n - 1 by omega)]; rfl) ?_⟩
    have b6 : 0 ≤ b ∧ b ≤ 6 := by omega
    refine ⟨_, rfl, _, _, _, rfl, _, rfl, ite2 (fun _ => ?_) (fun z => absurd (show (decide (0 ≤ b) && decide (b ≤ 6)) = true by rw [decide_eq_true b6.1, decide_eq_true b6.2]; rfl) z)⟩
    refine ⟨_, rfl, rfl, _, rfl, ite2 (fun _ => ?_) (fun z => absurd (show (!decide (V.int b = V.int 2)) = true by rw [decide_eq_false (fun e => by have := V.int.inj e; omega)]; rfl) z)⟩
    refine ⟨_, rfl, _, _, rfl, .inr (sB H), rfl, rfl, ?_⟩
    have e : inV (.int b) [.int 0, .int 2, .int 3, .int 4, .int 5, .int 6] = true := by
      rcases h3 with rfl | rfl | rfl | rfl | rfl <;> rfl
    show Q (.bl (inV (.int b) [.int 0, .int 2, .int 3, .int 4, .int 5, .int 6])) H
    rw [e]
    exact q
end
end Sk

namespace Sk
open PySem L2 Ow
/-- all but the list at D as it was -/
def Off (D : Addr) (H H' : Hp) : Prop := ∀ q o, q ≠ D → H q = some o → H' q = some o
theorem Off.sqT {K : PySem.W.Frag} {D a : Addr} {H H' : Hp} {xs acc : List V} (o : Off D H H') (hD : H D = some (.lst acc)) (h : SqT K H a xs) : SqT K H' a xs := by
  have ne : ∀ u, H a = some u → u ≠ .lst acc → a ≠ D := fun u e d z => d (by rw [z, hD] at e; exact (Option.some.inj e).symm)
  rcases h with (h | ⟨u, h⟩) | h
  · exact .inl (.inl (o a _ (ne _ h (fun z => nomatch z)) h))
  · exact .inl (.inr ⟨u, o a _ (ne _ h (fun z => nomatch z)) h⟩)
  · exact .inr h
theorem Off.ti {K : PySem.W.Frag} {D : Addr} {H H' : Hp} {acc : List V} {v : V} {ns : List Int} (o : Off D H H') (hD : H D = some (.lst acc)) (h : TI K H v ns) : TI K H' v ns := h.elim fun a ⟨e, q⟩ => ⟨a, e, o.sqT hD q⟩
theorem Off.tis {K : PySem.W.Frag} {D : Addr} {H H' : Hp} {acc : List V} (o : Off D H H') (hD : H D = some (.lst acc)) : ∀ {xs : List V} {ns : List (List Int)}, TIs K H xs ns → TIs K H' xs ns
  | [], [], _ => trivial
  | _ :: _, _ :: _, h => ⟨o.ti hD h.1, o.tis hD h.2⟩
theorem Off.bs {K : PySem.W.Frag} {D : Addr} {H H' : Hp} {acc : List V} {v : V} {bs : List (List Int)} (o : Off D H H') (hD : H D = some (.lst acc)) (h : BsAt K H v bs) : BsAt K H' v bs := h.elim fun a ⟨xs, e, q, t⟩ => ⟨a, xs, e, o.sqT hD q, o.tis hD t⟩
theorem off_upd {D : Addr} {H : Hp} {u : HO} : Off D H (upd H D u) := fun q o n e => by rw [upd_ne n]; exact e
/-- a fresh list's address: what stood stands, through stores to it -/
theorem same_off {H0 H H' : Hp} {D : Addr} (n : H0 D = none) (s : Same H0 H) (o : Off D H H') : Same H0 H' := fun q u e => o q u (ne_of_none e n) (s q u e)
theorem take_snoc {α : Type} {xs : List α} {i : Nat} {x : α} (h : xs[i]? = some x) : xs.take (i + 1) = xs.take i ++ [x] := by
  obtain ⟨hl, e⟩ := List.getElem?_eq_some_iff.mp h
  rw [List.take_add_one, h]
  rfl
section
variable {P : Program} {w : World} {K : PySem.W.Frag} {mg : Str → Option Value} {base : Heap} {C : Addr}
theorem cal_are_bonds (T : Txt K mg C) : Cal P w K mg base "are_bonds" 3 (spBonds K) := by
  refine T.d_are_bonds.cal (ps := ["letters", "value"]) (fun f fd D => ?_) (fun _ _ _ _ _ _ us hl => match us, hl with | [_, _], _ => rfl)
  refine D.ok sc_are_bonds (fun vs H Q E h => ?_) (fun cdv A outer s H vs Q E hr h => ?_)
  · obtain ⟨n, v, bs, rfl, _⟩ := h
    rfl
  · obtain ⟨n, v, bs, rfl, ⟨a, xs, rfl, ha, hx⟩, va, k⟩ := h
    have hlen := hx.len
    have few := va.few
    refine ⟨_, (pss_cons (ps_if (PW.pt (pw_or (pt_not (pt_val (pe_callB call_isi (by rfl) T.b_isinstance (by decide +kernel) (pa_cons (pv 1) (pa_cons (pe_bltn (v := .ty "tuple") (by rfl) T.b_tuple (by decide +kernel) rfl) pa_nil))))) (pw_or1 (pt_not (pt_val (pe_callB (cr_all rfl) (by rfl) T.b_all (by decide +kernel) (pa_cons (pe_lc (own := [("triple", 2)]) (g := gName 2) (tt := tYes) rfl sc_are_bonds.nd (pi_tup (pv 1)) (blkOk_by (own := [("triple", 2)]) (N := ["letters", "value", "triple", "pairs", "low", "high", "_", "one", "other"]) (sc := defScope s_are_bonds) (by decide +kernel)) (fun _ _ _ _ _ => (pg_name (i := 2) sc_are_bonds.nd rfl (Or.inl rfl))) (fun _ _ _ _ _ => pts_nil) (fun _ _ _ _ _ => (pe_cal (cal_is_triple T) (hr.mono (by decide)) (by rfl) (pa_cons (pv 0) (pa_cons (pv 2) pa_nil))))) pa_nil))))))) (pss_one (ps_ret pe_bl)) pss_nil)
      (pss_cons (ps_setLc (i := 3) (own := [("low", 4), ("high", 5), ("_", 6)]) (g := gTup K 3 (gCons (gName 4) (gCons (gName 5) (gCons (gName 6) (gNil))))) (tt := tYes) rfl sc_are_bonds.nd rfl rfl (sw_true rfl rfl rfl (by decide +kernel)) (pi_tup (pv 1)) (blkOk_by (own := [("low", 4), ("high", 5), ("_", 6)]) (N := ["letters", "value", "triple", "pairs", "low", "high", "_", "one", "other"]) (sc := defScope s_are_bonds) (by decide +kernel)) (fun _ _ _ _ _ => (pg_tup (by rfl) (pgs_cons (pg_name (i := 4) sc_are_bonds.nd rfl (Or.inl rfl)) (pgs_cons (pg_name (i := 5) sc_are_bonds.nd rfl (Or.inl rfl)) (pgs_cons (pg_name (i := 6) sc_are_bonds.nd rfl (Or.inl rfl)) pgs_nil))))) (fun _ _ _ _ _ => pts_nil) (fun _ _ _ _ _ => (pe_tup (pa_cons (pv 4) (pa_cons (pv 5) pa_nil)))))
      (pss_one (ps_ret (pe_callB (cr_all rfl) (by rfl) T.b_all (by decide +kernel) (pa_cons (pe_lc (own := [("one", 7), ("other", 8)]) (g := gTup K 2 (gCons (gName 7) (gCons (gName 8) (gNil)))) (tt := tYes) rfl sc_are_bonds.nd (RZ.pi_zipA (by rfl) T.b_zip (pa_cons (pv 3) (pa_cons (pe_slice sl_list (pv 3) (po_some pe_int) po_none) pa_nil))) (blkOk_by (own := [("one", 7), ("other", 8)]) (N := ["letters", "value", "triple", "pairs", "low", "high", "_", "one", "other"]) (sc := defScope s_are_bonds) (by decide +kernel)) (fun _ _ _ _ _ => (pg_tup (by rfl) (pgs_cons (pg_name (i := 7) sc_are_bonds.nd rfl (Or.inl rfl)) (pgs_cons (pg_name (i := 8) sc_are_bonds.nd rfl (Or.inl rfl)) pgs_nil)))) (fun _ _ _ _ _ => pts_nil) (fun _ _ _ _ _ => (pe_cmpR (show OpR _ _ (rLtT K) from (op_ltT hr.units0)) (pv 7) (pv 8) (nomark _)))) pa_nil)))))), ?_⟩
    refine ⟨_, rfl, _, _, .type "tuple", _, true, rfl, .ty "tuple", tup_ty ha, kit_ty (by decide +kernel), _, rfl, iteF ?_⟩
    refine ⟨_, rfl, a, rfl, ⟨_, ha⟩, fun D nD => lc_tup (K := K) (a := a) (xs := xs) (fun i H' => Same H H' ∧ H' D = some (.lst ((List.replicate i true).map V.bl))) ⟨same_new nD, upd_same⟩ (fun i H' _ h => sqT_same h.1 ha) ?_ ?_⟩
    · rintro i x H2 hi ⟨s2, hD⟩
      obtain ⟨t, ht, tx⟩ := hx.get hi
      have ilt := (List.getElem?_eq_some_iff.mp hi).1
      refine ⟨rfl, _, rfl, _, rfl, n, x, t, rfl, tx.same s2, va.tr t (List.mem_of_getElem? ht), _, hD, ?_, same_off nD s2 off_upd, ?_⟩
      · rw [List.length_map, List.length_replicate]
        exact small1000 (by omega)
      · rw [upd_same, List.replicate_succ', List.map_append]
        rfl
    · rintro H2 ⟨s2, hD⟩
      refine ⟨_, _, rfl, .of hD, _, rfl, iteNT' (by simp) ?_⟩
      -- pairs
      refine ⟨_, rfl, a, rfl, ⟨_, sqT_same s2 ha⟩, fun D2 nD2 => lc_tup (K := K) (a := a) (xs := xs) (fun i H' => Same H2 H' ∧ ∃ ys, H' D2 = some (.lst ys) ∧ TIs K H' ys ((bs.take i).map (·.take 2))) ⟨same_new nD2, [], upd_same, by simp [TIs]⟩ (fun i H' _ h => sqT_same (s2.trans h.1) ha) ?_ ?_⟩
      · rintro i x H3 hi ⟨s3, ys, hD2, hy⟩
        obtain ⟨t, ht, tx⟩ := hx.get hi
        have ilt := (List.getElem?_eq_some_iff.mp hi).1
        obtain ⟨b, rfl, hb⟩ := tx.same (s2.trans s3)
        obtain ⟨l, h, d, rfl, _⟩ := va.tr t (List.mem_of_getElem? ht)
        refine ⟨_, _, rfl, hb, rfl, _, _, rfl, _, _, rfl, _, _, rfl, rfl, rfl, _, rfl, _, rfl, show 2 ≤ sizeLine by decide, fun p np => ?_⟩
        have hD3 : (upd H3 p (.tup [.int l, .int h])) D2 = some (.lst ys) := same_new np _ _ hD2
        refine ⟨_, hD3, ?_, same_off nD2 (s3.trans (same_new np)) off_upd, _, upd_same, ?_⟩
        · have := hy.len
          rw [List.length_map, List.length_take] at this
          exact small1000 (by omega)
        · rw [take_snoc ht, List.map_append]
          exact (off_upd.tis hD3 (hy.same (same_new np))).snoc (off_upd.ti hD3 ⟨p, rfl, .of upd_same⟩)
      · rintro H3 ⟨s3, ys, hD2, hy⟩
        rw [hlen, List.take_length] at hy
        have yl := hy.len
        rw [List.length_map] at yl
        refine ⟨_, rfl, _, rfl, _, rfl, _, _, rfl, .of hD2, fun p np => ?_⟩
        have cut : cutV ys (some 1) none = ys.drop 1 := by
          show (ys.drop (HT.sIx ys.length 0 (some ((1 : Nat) : Int)))).take (ys.length - HT.sIx ys.length 0 (some ((1 : Nat) : Int))) = ys.drop 1
          rw [HT.sIx_nat]
          rcases ys with _ | ⟨y, ys⟩
          · rfl
          · rw [Nat.min_eq_left (by simp)]
            simp
        have hz := walk_zip (K := K) (a := D2) (b := p) (xs := ys) (ys := ys.drop 1) (n := ys.length - 1) (by rw [List.length_drop]; omega)
        rw [cut]
        have hD4 : (upd H3 p (.lst (ys.drop 1))) D2 = some (.lst ys) := same_new np _ _ hD2
        refine ⟨_, _, _, _, rfl, .inl ⟨.of hD4, .of upd_same, fun D3 nD3 => lc_it hz (fun i H' => Same (upd H3 p (.lst (ys.drop 1))) H' ∧ H' D3 = some (.lst ((List.replicate i true).map V.bl))) ⟨same_new nD3, upd_same⟩ (fun i H' _ h => ⟨.of (h.1 _ _ hD4), .of (h.1 _ _ upd_same)⟩) ?_ ?_⟩⟩
        · rintro i x H4 H5 hi ⟨s4, hD5⟩ ⟨q, x1, x2, rfl, nq, rfl, e1, e2⟩
          have e2' : ys[i + 1]? = some x2 := by
            have e2b : (List.drop 1 ys)[i]? = some x2 := e2
            rw [List.getElem?_drop] at e2b
            rw [Nat.add_comm]
            exact e2b
          obtain ⟨t1, g1, y1⟩ := hy.get e1
          obtain ⟨t2, g2, y2⟩ := hy.get e2'
          have s5 : Same H3 (upd H4 q (.tup [x1, x2])) := (same_new np).trans (s4.trans (same_new nq))
          obtain ⟨a1, rfl, z1⟩ := y1.same s5
          obtain ⟨a2, rfl, z2⟩ := y2.same s5
          have lt : HT.lexLt t1 t2 = true := by
            obtain ⟨l1, e1⟩ := List.getElem?_eq_some_iff.mp g1
            obtain ⟨l2, e2⟩ := List.getElem?_eq_some_iff.mp g2
            have := List.pairwise_iff_getElem.mp va.as i (i + 1) l1 l2 (by omega)
            rw [e1, e2] at this
            exact this
          refine ⟨_, _, rfl, .of upd_same, rfl, _, _, rfl, _, _, rfl, rfl, rfl, _, rfl, _, rfl, _, _, _, _, rfl, rfl, z1, z2, ?_⟩
          rw [lt]
          have hD6 := same_new (o := .tup [.ref a1, .ref a2]) nq _ _ hD5
          refine ⟨_, hD6, ?_, same_off nD3 (s4.trans (same_new nq)) off_upd, ?_⟩
          · rw [List.length_map, List.length_replicate]
            exact small1000 (by omega)
          · rw [upd_same, List.replicate_succ', List.map_append]
            rfl
        · rintro H4 ⟨s4, hD5⟩
          refine ⟨_, _, rfl, .of hD5, ?_⟩
          have e : (List.replicate (ys.length - 1) true).all id = true := by simp
          rw [e]
          exact k _ (s2.trans (s3.trans ((same_new np).trans s4)))
end
end Sk

namespace Sk
open PySem L2 Ow
/-! the bond of two letters, in numbers -/
def isPr (i j : Int) (t : List Int) : Bool := (t.take 2 == [i, j]) || (t.take 2 == [j, i])
def bondOf (bs : List (List Int)) (i j : Int) : Int := match bs.filter (isPr i j) with
  | [] => 2
  | t :: _ => t.getD 2 0
theorem eqv2 (a b c d : Int) : PyData.eqv (dT [a, b]) (dT [c, d]) = (([a, b] : List Int) == [c, d]) := by
  simp [dT, PyData.eqv, PyData.eqvAll]
section
variable {P : Program} {w : World} {K : PySem.W.Frag} {mg : Str → Option Value} {base : Heap} {C : Addr}
theorem ok_init (T : Txt K mg C) {f e : Addr} {fd : FuncData} (D : FunD K "__init__" "System.__init__" (defArgs s_init) (defBody s_init) (defScope s_init) [.ref e] [] f fd) : FnOk P w K mg base CX0 4 f fd ["self", "letters", "bonds"] (spInit K C) := by
  refine D.ok sc_init (fun vs H Q E h => ?_) (fun cdv A outer s H vs Q E hr h => ?_)
  · obtain ⟨p, dx, n, bv, bs, rfl, _⟩ := h
    rfl
  · obtain ⟨p, dx, n, bv, bs, rfl, hb, va, hp, q⟩ := h
    refine ⟨_, (pss_cons (ps_if (pt_not (pt_val (pe_cal (cal_is_within T) (hr.mono (by decide)) (by rfl) (pa_cons (pv 1) (pa_cons pe_int (pa_cons (C8.pe_gc (v := .int 4) (by rfl) T.g_MAX_LETTERS) pa_nil)))))) (pss_one ps_never) pss_nil)
      (pss_cons (ps_if (pt_not (pt_val (pe_cal (cal_are_bonds T) (hr.mono (by decide)) (by rfl) (pa_cons (pv 1) (pa_cons (pv 2) pa_nil))))) (pss_one ps_never) pss_nil)
      (pss_cons (ps_fld (pv 0) (pv 1) rfl)
      (pss_one (ps_fld (pv 0) (pv 2) rfl))))), ?_⟩
    refine ⟨_, rfl, _, _, _, rfl, _, rfl, iteNT' (by rw [decide_eq_true va.lo, decide_eq_true va.hi]; rfl) ?_⟩
    refine ⟨_, rfl, _, rfl, n, bv, bs, rfl, hb, va, fun H1 s1 => ⟨_, rfl, iteF ?_⟩⟩
    refine ⟨_, rfl, _, rfl, p, C, dx, [], rfl, s1 _ _ hp, T.cl, T.nL, (by decide), _, rfl, _, rfl, p, C, dx, _, rfl, upd_same, T.cl, T.nB, (show 1 < 1000 by decide), ?_⟩
    show Q .non (upd (upd H1 p _) p _)
    rw [upd_upd]
    exact q _ s1
/-- a new system -/
def NewS (K : PySem.W.Frag) (C : Addr) (H : Hp) (Q : VK) (n : Int) (bv : V) (bs : List (List Int)) : Prop := ∀ (r : Addr) (H' : Hp), Same H H' → H r = none → SysAt K C H' r n bv bs → Q (.ref r) H'
def tSys (K : PySem.W.Frag) (C : Addr) (t : TA) : TE := fun σ H Q => t σ H fun vs H1 => ∃ n bv bs, (vs = [.int n, bv] ∨ (vs = [.int n] ∧ bs = [] ∧ ∃ e, bv = .ref e)) ∧ (vs = [.int n, bv] → BsAt K H1 bv bs) ∧ Valid n bs ∧ ∀ bv, NewS K C H1 Q n bv bs
section
variable {X : Cx} {k : Nat} {e : Expr} {es : List Expr} {ta : TE} {t : TA} {p pos : Pos}
theorem run_sys {pins : List (Addr × Obj)} {σ : L2.St} {H1 : Hp} {s1 : Shared} {Q : VK} {us : List Value} {vs : List V} (T : Txt X.K X.mg C) (hr : Room 5 X.A) (I1 : Inv X pins σ H1 s1) (r : Vals vs us) {f fd e0} (M : Mk X.K C f) (D : FunD X.K "__init__" "System.__init__" (defArgs s_init) (defBody s_init) (defScope s_init) [.ref e0] [] f fd) (sE : ∀ H, SqT X.K H e0 [])
    (h : ∃ n bv bs, (vs = [.int n, bv] ∨ (vs = [.int n] ∧ bs = [] ∧ ∃ e, bv = .ref e)) ∧ (vs = [.int n, bv] → BsAt X.K H1 bv bs) ∧ Valid n bs ∧ ∀ bv, NewS X.K C H1 Q n bv bs) : wpAny (model X.prog X.w) X.A (call (.ref C) us) (EP X pins σ Q) X.xe s1 := by
  obtain ⟨n, bv, bs, hvs, hb, va, q⟩ := h
  have b2 : ∃ ds, Vals (([.ref e0] : List V).drop 1) ds ∧ Binds X.K fd ["self", "letters", "bonds"] ds := by
    refine D.binds1 3 1 (by simp) rfl fun T kV doc pm an cdv ct us its hl hi => ?_
    match us, hl, its, hi with
    | [_, _, _], _, [_], _ => exact ⟨_, rfl, rfl⟩
  have b1 : ∃ ds, Vals (([.ref e0] : List V).drop 0) ds ∧ Binds X.K fd ["self", "letters", "bonds"] ds := by
    refine D.binds1 2 0 (by simp) rfl fun T kV doc pm an cdv ct us its hl hi => ?_
    match us, hl, its, hi with
    | [_, _], _, [_], _ => exact ⟨_, rfl, rfl⟩
  obtain ⟨d2, v2, b2⟩ := b2
  obtain ⟨d1, v1, b1⟩ := b1
  have fin : ∀ bv, BsAt X.K H1 bv bs → ∀ x dx, H1 x = none → H1 dx = none → dx ≠ x → spInit X.K C [.ref x, .int n, bv] (upd (upd H1 dx (.own x)) x (.ins C dx [])) (fun v H2 => v = .non ∧ Q (.ref x) H2) E0 := fun bv hb x dx nx ndx ne => by
    have s0 : Same H1 (upd (upd H1 dx (.own x)) x (.ins C dx [])) := fun c o e => by
      rw [upd_ne (ne_of_none e nx), upd_ne (ne_of_none e ndx)]
      exact e
    refine ⟨x, dx, n, bv, bs, rfl, hb.same s0, va, upd_same, fun H' s' => ⟨rfl, ?_⟩⟩
    have sx : Same H1 (upd H' x (.ins C dx (sf n bv))) := fun c o e => by
      rw [upd_ne (ne_of_none e nx)]
      exact s' _ _ (s0 _ _ e)
    exact q bv x _ sx nx ⟨⟨dx, upd_same⟩, hb.same sx⟩
  rcases hvs with rfl | ⟨rfl, rfl, _⟩
  · exact run_make M (ok_init T D) hr b2 v2 pass0 I1 r (fin bv (hb rfl))
  · exact run_make M (ok_init T D) hr b1 v1 pass0 I1 r (fin (.ref e0) ⟨e0, [], rfl, sE _, trivial⟩)
theorem pe_sys (T : Txt X.K X.mg C) (hr : Room 5 X.A) (hg : Gl X "System") (ha : PA X (e :: es) t)
    (he : starEach (e :: es) X.env = (false, eval e X.env) :: starEach es X.env := by rfl) (hpl : (backTo pos (starEach es X.env)).any (·.1) = false := by rfl) : PE X (.Call (.Name "System" p) (e :: es) [] pos) (tSys X.K C t) := by
  obtain ⟨f, fd, e0, M, D, sE⟩ := T.mkS
  refine ⟨fun pins s σ H Q I h => ?_⟩
  refine wpAny_Call_Name_kw (ld_glob I hg T.mgSystem ?_ (by decide))
  refine PySem.W.callWith_K (h₀ := X.base) I.ok.mod.kin M.kp (thn (ha.run pos pins s σ H _ I h) fun us s1 ⟨vs, H1, I1, r, q⟩ => ⟨I1.kIn, run_sys T hr I1 r M D sE q⟩) he hpl
end
def spL (K : PySem.W.Frag) (C : Addr) : Sp := fun vs H Q _ => ∃ (p : Addr) (n : Int) (bv : V) (bs : List (List Int)), vs = [.ref p] ∧ SysAt K C H p n bv bs ∧ Q (.int n) H
def spB (K : PySem.W.Frag) (C : Addr) : Sp := fun vs H Q _ => ∃ (p : Addr) (n : Int) (bv : V) (bs : List (List Int)), vs = [.ref p] ∧ SysAt K C H p n bv bs ∧ Q bv H
def spBondOf (K : PySem.W.Frag) (C : Addr) : Sp := fun vs H Q _ => ∃ (p : Addr) (n : Int) (bv : V) (bs : List (List Int)) (i j : Int), vs = [.ref p, .int i, .int j] ∧ SysAt K C H p n bv bs ∧ Valid n bs ∧ 0 ≤ i ∧ i < n ∧ 0 ≤ j ∧ j < n ∧ i ≠ j ∧
  ∀ H' : Hp, Same H H' → Q (.int (bondOf bs i j)) H'
theorem ok_letters (T : Txt K mg C) {f : Addr} {fd : FuncData} (D : Fun K "letters" "System.letters" s_letters f fd) : FnOk P w K mg base CX0 1 f fd ["self"] (spL K C) := by
  refine D.ok sc_letters (fun vs H Q E h => ?_) (fun cdv A outer s H vs Q E hr h => ?_)
  · obtain ⟨p, n, bv, bs, rfl, _⟩ := h
    rfl
  · obtain ⟨p, n, bv, bs, rfl, ⟨⟨dx, g⟩, hb⟩, q⟩ := h
    exact ⟨_, (pss_one (ps_ret (pe_fld (pv 0) rfl))), _, rfl, _, _, _, _, _, rfl, g, T.cl, T.nL, sf_l _ _, q⟩
theorem ok_bond_of (T : Txt K mg C) {f : Addr} {fd : FuncData} (D : Fun K "bond_of" "System.bond_of" s_bond_of f fd) : FnOk P w K mg base CX0 2 f fd ["self", "one", "other"] (spBondOf K C) := by
  refine D.ok sc_bond_of (fun vs H Q E h => ?_) (fun cdv A outer s H vs Q E hr h => ?_)
  · obtain ⟨p, n, bv, bs, i, j, rfl, _⟩ := h
    rfl
  · obtain ⟨p, n, bv, bs, i, j, rfl, ⟨⟨dx, g⟩, hb⟩, va, i0, i1, j0, j1, ne, k⟩ := h
    refine ⟨_, (pss_cons (ps_if (pt_not (pt_val (pe_cal (cal_is_within T) (hr.mono (by decide)) (by rfl) (pa_cons (pv 1) (pa_cons pe_int (pa_cons (pe_op op_sub (pe_fld (pv 0) rfl) pe_int) pa_nil)))))) (pss_one ps_never) pss_nil)
      (pss_cons (ps_if (pt_not (pt_val (pe_cal (cal_is_within T) (hr.mono (by decide)) (by rfl) (pa_cons (pv 2) (pa_cons pe_int (pa_cons (pe_op op_sub (pe_fld (pv 0) rfl) pe_int) pa_nil)))))) (pss_one ps_never) pss_nil)
      (pss_cons (ps_if (pt_cmpR op_eq (pv 1) (pv 2) (nomark _)) (pss_one ps_never) pss_nil)
      (pss_cons (ps_setLc (i := 3) (own := [("low", 4), ("high", 5), ("bond", 6)]) (g := gTup K 3 (gCons (gName 4) (gCons (gName 5) (gCons (gName 6) (gNil))))) rfl sc_bond_of.nd rfl rfl (sw_true rfl rfl rfl (by decide +kernel)) (pi_tup (pe_fld (pv 0) rfl)) (blkOk_by (own := [("low", 4), ("high", 5), ("bond", 6)]) (N := ["self", "one", "other", "told", "low", "high", "bond"]) (sc := defScope s_bond_of) (by decide +kernel)) (fun _ _ _ _ _ => (pg_tup (by rfl) (pgs_cons (pg_name (i := 4) sc_bond_of.nd rfl (Or.inl rfl)) (pgs_cons (pg_name (i := 5) sc_bond_of.nd rfl (Or.inl rfl)) (pgs_cons (pg_name (i := 6) sc_bond_of.nd rfl (Or.inl rfl)) pgs_nil))))) (fun _ _ _ _ _ => (pts_one (pt_cmpR (show OpR _ _ (rInT K) from (op_inT (u65 hr))) (pe_tup (pa_cons (pv 4) (pa_cons (pv 5) pa_nil))) (pe_tup (pa_cons (pe_tup (pa_cons (pv 1) (pa_cons (pv 2) pa_nil))) (pa_cons (pe_tup (pa_cons (pv 2) (pa_cons (pv 1) pa_nil))) pa_nil))) (by rfl)))) (fun _ _ _ _ _ => (pv 6)))
      (pss_one (ps_ret (pe_ifExp (pt_truth (pv 3) (by intro _; rfl)) (pe_ix ix_list (pv 3) pe_int (fun _ _ => rfl)) pe_int))))))), ?_⟩
    refine ⟨_, rfl, _, rfl, _, _, _, _, _, rfl, g, T.cl, T.nL, sf_l _ _, _, _, rfl, rfl, _, _, _, rfl, _, rfl, iteNT' (by rw [decide_eq_true i0, decide_eq_true (show i ≤ n - 1 by omega)]; rfl) ?_⟩
    refine ⟨_, rfl, _, rfl, _, _, _, _, _, rfl, g, T.cl, T.nL, sf_l _ _, _, _, rfl, rfl, _, _, _, rfl, _, rfl, iteNT' (by rw [decide_eq_true j0, decide_eq_true (show j ≤ n - 1 by omega)]; rfl) ?_⟩
    refine ⟨_, rfl, _, rfl, rfl, _, rfl, ite2 (fun h => absurd (V.int.inj (of_decide_eq_true h)) ne) (fun _ => ?_)⟩
    obtain ⟨a, xs, rfl, ha, hx⟩ := hb
    have hlen := hx.len
    have few := va.few
    refine ⟨_, rfl, _, _, _, _, _, rfl, g, T.cl, T.nB, sf_b _ _, a, rfl, ⟨_, ha⟩, fun D nD => lc_tup (K := K) (a := a) (xs := xs) (fun m H' => Same H H' ∧ H' D = some (.lst (((bs.take m).filter (isPr i j)).map fun t => V.int (t.getD 2 0)))) ⟨same_new nD, upd_same⟩ (fun m H' _ h => sqT_same h.1 ha) ?_ ?_⟩
    · rintro m x H2 hm ⟨s2, hD⟩
      obtain ⟨t, ht, tx⟩ := hx.get hm
      have ilt := (List.getElem?_eq_some_iff.mp hm).1
      obtain ⟨b, rfl, hb⟩ := tx.same s2
      obtain ⟨l, h, d, rfl, _⟩ := va.tr t (List.mem_of_getElem? ht)
      refine ⟨_, _, rfl, hb, rfl, _, _, rfl, _, _, rfl, _, _, rfl, rfl, rfl, ?_⟩
      refine ⟨_, rfl, _, rfl, show 2 ≤ sizeLine by decide, fun p1 n1 => ?_⟩
      refine ⟨_, rfl, _, rfl, show 2 ≤ sizeLine by decide, fun p2 n2 => ?_⟩
      refine ⟨_, rfl, _, rfl, show 2 ≤ sizeLine by decide, fun p3 n3 => ?_⟩
      refine ⟨show 2 ≤ sizeLine by decide, fun p4 n4 => ?_⟩
      have S4 : Same H2 (upd (upd (upd (upd H2 p1 (.tup [.int l, .int h])) p2 (.tup [.int i, .int j])) p3 (.tup [.int j, .int i])) p4 (.tup [.ref p2, .ref p3])) := (same_new n1).trans ((same_new n2).trans ((same_new n3).trans (same_new n4)))
      have g1 : (upd (upd (upd (upd H2 p1 (.tup [.int l, .int h])) p2 (.tup [.int i, .int j])) p3 (.tup [.int j, .int i])) p4 (.tup [.ref p2, .ref p3])) p1 = some (.tup [.int l, .int h]) := same_new n4 _ _ (same_new n3 _ _ (same_new n2 _ _ upd_same))
      have g2 : (upd (upd (upd (upd H2 p1 (.tup [.int l, .int h])) p2 (.tup [.int i, .int j])) p3 (.tup [.int j, .int i])) p4 (.tup [.ref p2, .ref p3])) p2 = some (.tup [.int i, .int j]) := same_new n4 _ _ (same_new n3 _ _ upd_same)
      have g3 : (upd (upd (upd (upd H2 p1 (.tup [.int l, .int h])) p2 (.tup [.int i, .int j])) p3 (.tup [.int j, .int i])) p4 (.tup [.ref p2, .ref p3])) p3 = some (.tup [.int j, .int i]) := same_new n4 _ _ upd_same
      have g4 : (upd (upd (upd (upd H2 p1 (.tup [.int l, .int h])) p2 (.tup [.int i, .int j])) p3 (.tup [.int j, .int i])) p4 (.tup [.ref p2, .ref p3])) p4 = some (.tup [.ref p2, .ref p3]) := upd_same
      generalize (upd (upd (upd (upd H2 p1 (.tup [.int l, .int h])) p2 (.tup [.int i, .int j])) p3 (.tup [.int j, .int i])) p4 (.tup [.ref p2, .ref p3])) = H4 at S4 g1 g2 g3 g4
      have dz : ∀ {q : Addr} {u v : Int}, H4 q = some (.tup [.int u, .int v]) → Dp K H4 (.ref q) (dT [u, v]) := fun {q u v} g => TI.dp (ns := [u, v]) ⟨q, rfl, .of g⟩
      refine ⟨dT [l, h], [dT [i, j], dT [j, i]], dz g1, .tup (.of g4) (.cons (dz g2) (.cons (dz g3) .nil)), sh_dT _, sh_dB [[i, j], [j, i]], _, rfl, ?_⟩
      have hD4 := S4 _ _ hD
      have et : ([dT [i, j], dT [j, i]].any fun z => PyData.eqv z (dT [l, h])) = isPr i j [l, h, d] := by
        simp only [List.any_cons, List.any_nil, Bool.or_false, eqv2]
        unfold isPr
        rw [show ([l, h, d] : List Int).take 2 = [l, h] from rfl]
        congr 1 <;> exact Bool.beq_comm
      rw [et]
      refine ite2 (fun hp => ?_) (fun hp => ?_)
      · refine ⟨_, rfl, _, hD4, ?_, same_off nD (s2.trans S4) off_upd, ?_⟩
        · rw [List.length_map]
          have := List.length_filter_le (isPr i j) (bs.take m)
          rw [List.length_take] at this
          exact small1000 (by omega)
        · rw [upd_same, take_snoc ht, List.filter_append, List.map_append, List.filter_cons_of_pos hp]
          rfl
      · refine ⟨s2.trans S4, ?_⟩
        rw [take_snoc ht, List.filter_append, List.filter_cons_of_neg hp, List.filter_nil, List.append_nil]
        exact hD4
    · rintro H2 ⟨s2, hD⟩
      rw [hlen, List.take_length] at hD
      refine ⟨_, rfl, _, .inl ⟨_, .of hD, rfl⟩, ?_⟩
      have kk := k _ s2
      unfold bondOf at kk
      cases hf : bs.filter (isPr i j) with
      | nil =>
        rw [hf] at kk
        exact iteF kk
      | cons t ts =>
        rw [hf] at kk hD
        refine iteT ?_
        exact ⟨_, rfl, _, _, _, _, rfl, rfl, .of hD, at_of (j := 0) rfl rfl, kk⟩
end
end Sk

namespace Sk
open PySem L2 Ow
theorem szl {n : Nat} (h : n ≤ 1000) : n ≤ sizeLine := Nat.le_trans h (by decide)
abbrev Dat := Int × List (List Int)
def okB (d : Dat) : Bool := decide (1 ≤ d.1) && decide (d.1 ≤ 4) && d.2.all (fun t => match t with
  | [l, h, b] => decide (0 ≤ l) && decide (l < h) && decide (h < d.1) && (decide (b = 0) || decide (b = 3) || decide (b = 4) || decide (b = 5) || decide (b = 6))
  | _ => false) && decide ((d.2.map (·.take 2)).Pairwise (fun p q => HT.lexLt p q = true)) && decide (d.2.length ≤ 20)
theorem okB_valid {d : Dat} (h : okB d = true) : Valid d.1 d.2 := by
  unfold okB at h
  simp only [Bool.and_eq_true, decide_eq_true_eq, List.all_eq_true] at h
  obtain ⟨⟨⟨⟨h1, h2⟩, h3⟩, h4⟩, h5⟩ := h
  refine ⟨h1, h2, fun t ht => ?_, h4, h5⟩
  have := h3 t ht
  split at this
  · rename_i l hh b
    simp only [Bool.and_eq_true, Bool.or_eq_true, decide_eq_true_eq] at this
    exact ⟨l, hh, b, rfl, by omega, by omega, by omega, by omega⟩
  · cases this
def tSysL (K : PySem.W.Frag) (i : Nat) (C : Addr) (t : TA) : TE := fun σ H Q => σ[i]? = some (some (.ref C)) ∧ tSys K C t σ H Q
section
variable {X : Cx} {k i : Nat} {C : Addr} {e o : Expr} {es : List Expr} {ta : TE} {t : TA} {p pos apos : Pos} {x : Str}
theorem pe_cls (T : Txt X.K X.mg C) (hr : Room 5 X.A) (hN : X.N[i]? = some x) (hv : Vis X.env.scope x) (ha : PA X (e :: es) t)
    (hdb : (x == ("__debug__" : Str)) = false := by decide) (hcd : (x == ("__classdict__" : Str)) = false := by decide)
    (he : starEach (e :: es) X.env = (false, eval e X.env) :: starEach es X.env := by rfl) (hpl : (backTo pos (starEach es X.env)).any (·.1) = false := by rfl) : PE X (.Call (.Name x p) (e :: es) [] pos) (tSysL X.K i C t) := by
  obtain ⟨f, fd, e0, M, D, sE⟩ := T.mkS
  refine ⟨fun pins s σ H Q I h => ?_⟩
  obtain ⟨hs, ht⟩ := h
  refine wpAny_Call_Name_kw (thn ((pe_var (pos := p) hN hv hdb hcd).run pins s σ H (fun v H1 => v = .ref C ∧ H1 = H) I ⟨.ref C, hs, rfl, rfl⟩) fun u s1 ⟨v, H1, I1, r1, q1⟩ => ?_)
  obtain ⟨rfl, rfl⟩ := q1
  cases r1
  refine PySem.W.callWith_K (h₀ := X.base) I.ok.mod.kin M.kp (thn (ha.run pos pins s1 σ _ _ I1 ht) fun us s2 ⟨vs, H2, I2, r, q⟩ => ⟨I2.kIn, run_sys T hr I2 r M D sE q⟩) he hpl
def nb (a b : Int) : List (List Int) := (List.range (b - 1 - a).toNat).map fun i : Nat => [a + (i : Int), a + (i : Int) + 1, 3]
def rowsD (p : Int) : Dat := (p - 1, nb 0 (p - 1))
def NewD (K : PySem.W.Frag) (C : Addr) (H : Hp) (Q : VK) (d : Dat) : Prop := ∀ (r : Addr) (bv : V) (H' : Hp), Same H H' → H r = none → SysAt K C H' r d.1 bv d.2 → Q (.ref r) H'
def spC (K : PySem.W.Frag) (C : Addr) (dom : Int → Prop) (d : Int → Dat) : Sp := fun vs H Q _ => ∃ i, vs = [.ref C, .int i] ∧ dom i ∧ NewD K C H Q (d i)
def spNb (K : PySem.W.Frag) : Sp := fun vs H Q _ => ∃ a b, vs = [.int a, .int b] ∧ a ≤ 9 ∧ b ≤ 9 ∧ 0 ≤ a ∧ 0 ≤ b ∧ ∀ (v : V) (H' : Hp), Same H H' → BsAt K H' v (nb a b) → Q v H'
theorem NewD.sys {K : PySem.W.Frag} {H H1 : Hp} {Q : VK} {d : Dat} {n : Int} {bs : List (List Int)} (q : NewD K C H Q d) (s : Same H H1) (e : d = (n, bs)) : ∀ bv, NewS K C H1 Q n bv bs := fun bv r H' s' n0 a => q r bv H' (s.trans s') (s.free n0) (by rw [e]; exact a)
end
section
variable {P : Program} {w : World} {K : PySem.W.Frag} {mg : Str → Option Value} {base : Heap} {C : Addr}
theorem cal_neighbours (T : Txt K mg C) : Cal P w K mg base "neighbours" 1 (spNb K) := by
  refine T.d_neighbours.cal (ps := ["first", "letters"]) (fun f fd D => ?_) (fun _ _ _ _ _ _ us hl => match us, hl with | [_, _], _ => rfl)
  refine D.ok sc_neighbours (fun vs H Q E h => ?_) (fun cdv A outer s H vs Q E hr h => ?_)
  · obtain ⟨a, b, rfl, _⟩ := h
    rfl
  · obtain ⟨a, b, rfl, a9, b9, a0, b0, k⟩ := h
    refine ⟨_, (pss_one (ps_ret (pe_callTy call_tuple_of (by rfl) T.b_tuple (by decide +kernel) (pa_cons (pe_lc (own := [("letter", 2)]) (g := gName 2) (tt := tYes) rfl sc_neighbours.nd (pi_range2 (by rfl) T.b_range (pa_cons (pv 0) (pa_cons (pe_op op_sub (pv 1) pe_int) pa_nil))) (blkOk_by (own := [("letter", 2)]) (N := ["first", "letters", "letter"]) (sc := defScope s_neighbours) (by decide +kernel)) (fun _ _ _ _ _ => (pg_name (i := 2) sc_neighbours.nd rfl (Or.inl rfl))) (fun _ _ _ _ _ => pts_nil) (fun _ _ _ _ _ => (pe_tup (pa_cons (pv 2) (pa_cons (pe_op op_add (pv 2) pe_int) (pa_cons pe_int pa_nil)))))) pa_nil)))), ?_⟩
    refine ⟨_, rfl, _, rfl, _, _, rfl, rfl, _, _, rfl, ⟨by omega, by omega, by omega, by omega⟩, fun D nD => lc_range (lo := a) (n := (b - 1 - a).toNat) (fun i H' => ∃ xs, Same H H' ∧ H' D = some (.lst xs) ∧ TIs K H' xs ((List.range i).map fun i : Nat => [a + (i : Int), a + (i : Int) + 1, 3])) ⟨[], same_new nD, upd_same, trivial⟩ ?_ ?_⟩
    · rintro i H2 hi ⟨xs, s2, hD, hx⟩
      refine ⟨rfl, ?_⟩
      refine ⟨_, rfl, _, rfl, _, _, rfl, rfl, show 3 ≤ sizeLine by decide, fun q nq => ?_⟩
      have hl := hx.len
      rw [List.length_map, List.length_range] at hl
      have hD3 := same_new (o := .tup [.int (a + i), .int (a + i + 1), .int 3]) nq _ _ hD
      refine ⟨_, hD3, small1000 (by omega), _, same_off nD (s2.trans (same_new nq)) off_upd, upd_same, ?_⟩
      rw [List.range_succ, List.map_append]
      exact (off_upd.tis hD3 (hx.same (same_new nq))).snoc (off_upd.ti hD3 ⟨q, rfl, .of upd_same⟩)
    · rintro H2 ⟨xs, s2, hD, hx⟩
      refine ⟨_, xs, rfl, .inl ⟨.of hD, fun q nq => ?_⟩⟩
      exact k _ _ (s2.trans (same_new nq)) ⟨q, xs, rfl, .of upd_same, hx.same (same_new nq)⟩
theorem ok_rows (T : Txt K mg C) {f : Addr} {fd : FuncData} (D : Fun K "rows" "System.rows" s_rows f fd) : FnOk P w K mg base CX0 6 f fd ["cls", "places"] (spC K C (fun p => 2 ≤ p ∧ p ≤ 5) rowsD) := by
  refine D.ok sc_rows (fun vs H Q E h => ?_) (fun cdv A outer s H vs Q E hr h => ?_)
  · obtain ⟨i, rfl, _⟩ := h
    rfl
  · obtain ⟨i, rfl, ⟨h2, h5⟩, q⟩ := h
    refine ⟨_, (pss_cons (ps_if (pt_not (pt_val (pe_cal (cal_is_within T) (hr.mono (by decide)) (by rfl) (pa_cons (pv 1) (pa_cons pe_int (pa_cons (pe_op op_add (C8.pe_gc (v := .int 4) (by rfl) T.g_MAX_LETTERS) pe_int) pa_nil)))))) (pss_one ps_never) pss_nil)
      (pss_one (ps_ret (pe_cls (i := 0) T (hr.mono (by decide)) rfl (Or.inl rfl) (pa_cons (pe_op op_sub (pv 1) pe_int) (pa_cons (pe_cal (cal_neighbours T) (hr.mono (by decide)) (by rfl) (pa_cons pe_int (pa_cons (pe_op op_sub (pv 1) pe_int) pa_nil))) pa_nil)))))), ?_⟩
    refine ⟨_, rfl, _, _, rfl, rfl, _, _, _, rfl, _, rfl, iteNT' (by rw [decide_eq_true h2, decide_eq_true (show i ≤ 4 + 1 by omega)]; rfl) ?_⟩
    refine ⟨rfl, _, rfl, _, _, rfl, rfl, _, rfl, _, _, rfl, rfl, _, _, rfl, by omega, by omega, by omega, by omega, fun v H1 s1 hb => ?_⟩
    refine ⟨_, v, nb 0 (i - 1), .inl rfl, fun _ => hb, okB_valid (d := rowsD i) ?_, q.sys s1 rfl⟩
    have : i = 2 ∨ i = 3 ∨ i = 4 ∨ i = 5 := by omega
    rcases this with rfl | rfl | rfl | rfl <;> decide
theorem unraw {CX : CXT} {n : Nat} {g : Addr} {fd : FuncData} {ps : List Str} {sp : Sp} (F : FnOk P w K mg base CX n g fd ps sp) (hb : Binds K fd ps []) : FnR P w K mg base CX n g sp := (F.raw hb .nil).imp fun vs H Q E h => by rw [List.append_nil]; exact h
section
variable {X : Cx} {o e : Expr} {ta : TE} {t : TA} {apos pos : Pos}
theorem pe_cRows {pl : Sem Bool} (T : Txt X.K X.mg C) (hr : Room 6 X.A) (he : PE X o ta) (ha : PA X [e] t)
    (hst : starEach [e] X.env = (false, eval e X.env) :: starEach [] X.env := by rfl)
    (ht : eval (.Call (.Attribute o "rows" apos) [e] [] pos) X.env = (do
      let ov ← eval o X.env
      standAt apos.atName
      let (f, first) ← holding [ov] (getMethod ov "rows" pl)
      callWith pos f first (backTo pos (starEach [e] X.env)) (backToKw pos (keywordEach [] X.env))) := by rfl) :
    PE X (.Call (.Attribute o "rows" apos) [e] [] pos) (ClX.tCMeth C (spC X.K C (fun p => 2 ≤ p ∧ p ≤ 5) rowsD) E0 ta t) := by
  obtain ⟨_, _, _, c, D⟩ := T.cRows
  exact ClX.pe_cmeth he T.crd c (unraw (ok_rows T D) (D.binds fun _ _ _ _ _ _ us hl => match us, hl with | [_, _], _ => rfl)) hr pass0 ha hst rfl ht
end
section
variable {X : Cx} {e : Expr} {es : List Expr} {ta : TE} {t : TA} {apos pos : Pos}
theorem pe_sletters (T : Txt X.K X.mg C) (hr : Room 2 X.A) (he : PE X e ta) (hab : attributeBase e "letters" X.env (eval e X.env) = eval e X.env := by rfl) : PE X (.Attribute e "letters" pos) (tProp C (spL X.K C) [] E0 ta) := by
  obtain ⟨_, _, _, hp, D⟩ := T.pL
  exact pe_prop he T.cl hp (ok_letters T D) hr (D.binds fun _ _ _ _ _ _ us hl => match us, hl with | [_], _ => rfl) .nil pass0 hab
theorem pe_bond_of {pl : Sem Bool} {o : Expr} (T : Txt X.K X.mg C) (hr : Room 2 X.A) (he : PE X o ta) (ha : PA X (e :: es) t)
    (hst : starEach (e :: es) X.env = (false, eval e X.env) :: starEach es X.env := by rfl) (hpl : (backTo pos (starEach es X.env)).any (·.1) = false := by rfl)
    (ht : eval (.Call (.Attribute o "bond_of" apos) (e :: es) [] pos) X.env = (do
      let ov ← eval o X.env
      standAt apos.atName
      let (f, first) ← holding [ov] (getMethod ov "bond_of" pl)
      callWith pos f first (backTo pos (starEach (e :: es) X.env)) (backToKw pos (keywordEach [] X.env))) := by rfl) :
    PE X (.Call (.Attribute o "bond_of" apos) (e :: es) [] pos) (tMeth C "bond_of" (spBondOf X.K C) [] E0 ta t) := by
  obtain ⟨_, _, D, m⟩ := T.mBond
  exact pe_meth he T.cl ⟨m.at_, m.fn, D.kp⟩ (ok_bond_of T D) hr (D.binds fun _ _ _ _ _ _ us hl => match us, hl with | [_, _, _], _ => rfl) .nil pass0 ha hst hpl ht
end
end
end Sk

namespace Sk
open PySem L2 Ow
/-- a def of the module by its raw promise -/
structure CalR (P : Program) (w : World) (K : PySem.W.Frag) (mg : Str → Option Value) (base : Heap) (x : Str) (k : Nat) (sp : Sp) : Prop where
  ex : ∃ f, FnR P w K mg base CX0 k f sp ∧ mg x = some (.ref f) ∧ PySem.W.keepIn K (.ref f) = true
theorem pe_calR {X : Cx} {x : Str} {k : Nat} {sp : Sp} {e : Expr} {es : List Expr} {t : TA} {p pos : Pos} (C : CalR X.prog X.w X.K X.mg X.base x k sp) (hr : Room k X.A) (hg : Gl X x) (ha : PA X (e :: es) t) (hdb : (x == ("__debug__" : Str)) = false := by decide)
    (he : starEach (e :: es) X.env = (false, eval e X.env) :: starEach es X.env := by rfl) (hpl : (backTo pos (starEach es X.env)).any (·.1) = false := by rfl) : PE X (.Call (.Name x p) (e :: es) [] pos) (tCall sp [] E0 t) := by
  obtain ⟨f, F, hm, hk⟩ := C.ex
  refine ⟨fun pins s σ H Q I h => ?_⟩
  refine wpAny_Call_Name_kw (ld_glob I hg hm ?_ hdb)
  refine PySem.W.callWith_K (h₀ := X.base) I.ok.mod.kin hk (thn (ha.run pos pins s σ H _ I h) fun us s1 ⟨vs, H1, I1, r, q⟩ => ⟨I1.kIn, wpAny_call (run_fnR F hr pass0 I1 r ?_)⟩) he hpl
  have q' : sp (vs ++ []) H1 Q E0 := q
  rw [List.append_nil] at q'
  exact q'
def Wd (n : Int) (ws : List Int) : Prop := (∀ x ∈ ws, 0 ≤ x ∧ x < n) ∧ ws.length ≤ 40
def spLetter (K : PySem.W.Frag) (C : Addr) : Sp := fun vs H Q _ => ∃ (p : Addr) (n : Int) (bv : V) (bs : List (List Int)) (i : Int), vs = [.ref p, .int i] ∧ SysAt K C H p n bv bs ∧ Q (.bl (decide (0 ≤ i) && decide (i ≤ n - 1))) H
def spWord (K : PySem.W.Frag) (C : Addr) : Sp := fun vs H Q _ => ∃ (p : Addr) (n : Int) (bv : V) (bs : List (List Int)) (v : V) (ws : List Int), vs = [.ref p, v] ∧ SysAt K C H p n bv bs ∧ TI K H v ws ∧ Wd n ws ∧ ∀ H', Same H H' → Q (.bl true) H'
def spCSys (K : PySem.W.Frag) (C : Addr) : Sp := fun vs H Q _ => ∃ (p : Addr) (n : Int) (bv : V) (bs : List (List Int)), vs = [.ref p] ∧ SysAt K C H p n bv bs ∧ Q .non H
def spCWord (K : PySem.W.Frag) (C : Addr) : Sp := fun vs H Q _ => ∃ (p : Addr) (n : Int) (bv : V) (bs : List (List Int)) (v : V) (ws : List Int), vs = [.ref p, v] ∧ SysAt K C H p n bv bs ∧ TI K H v ws ∧ Wd n ws ∧ ∀ H', Same H H' → Q .non H'
def TWs (K : PySem.W.Frag) (H : Hp) (n : Int) (vs : List V) : Prop := ∀ v ∈ vs, ∃ ws, TI K H v ws ∧ Wd n ws
def spCWords (K : PySem.W.Frag) (C : Addr) : Sp := fun vs H Q _ => ∃ (p : Addr) (n : Int) (bv : V) (bs : List (List Int)) (us : List V), vs = .ref p :: us ∧ us.length ≤ 1000 ∧ SysAt K C H p n bv bs ∧ TWs K H n us ∧ ∀ H', Same H H' → Q .non H'
section
variable {P : Program} {w : World} {K : PySem.W.Frag} {mg : Str → Option Value} {base : Heap} {C : Addr}
theorem cal_is_letter (T : Txt K mg C) : Cal P w K mg base "is_letter" 3 (spLetter K C) := by
  refine T.d_is_letter.cal (ps := ["system", "value"]) (fun f fd D => ?_) (fun _ _ _ _ _ _ us hl => match us, hl with | [_, _], _ => rfl)
  refine D.ok sc_is_letter (fun vs H Q E h => ?_) (fun cdv A outer s H vs Q E hr h => ?_)
  · obtain ⟨p, n, bv, bs, i, rfl, _⟩ := h
    rfl
  · obtain ⟨p, n, bv, bs, i, rfl, y, k⟩ := h
    obtain ⟨dx, g⟩ := id y.1
    refine ⟨_, (pss_one (ps_ret (pe_cal (cal_is_within T) (hr.mono (by decide)) (by rfl) (pa_cons (pv 1) (pa_cons pe_int (pa_cons (pe_op op_sub (pe_sletters T (hr.mono (by decide)) (pv 0)) pe_int) pa_nil)))))), ?_⟩
    exact ⟨_, rfl, _, rfl, p, dx, _, rfl, g, p, n, bv, bs, rfl, y, _, _, rfl, rfl, _, _, _, rfl, k⟩
theorem cal_is_word (T : Txt K mg C) : Cal P w K mg base "is_word" 4 (spWord K C) := by
  refine T.d_is_word.cal (ps := ["system", "value"]) (fun f fd D => ?_) (fun _ _ _ _ _ _ us hl => match us, hl with | [_, _], _ => rfl)
  refine D.ok sc_is_word (fun vs H Q E h => ?_) (fun cdv A outer s H vs Q E hr h => ?_)
  · obtain ⟨p, n, bv, bs, v, ws, rfl, _⟩ := h
    rfl
  · obtain ⟨p, n, bv, bs, v, ws, rfl, y, ⟨a, rfl, ha⟩, hw, k⟩ := h
    have h40 := hw.2
    have ll : (ws.map V.int).length = ws.length := List.length_map _
    refine ⟨_, (pss_cons (ps_if (PW.pt (pw_or (pt_not (pt_val (pe_callB call_isi (by rfl) T.b_isinstance (by decide +kernel) (pa_cons (pv 1) (pa_cons (pe_bltn (v := .ty "tuple") (by rfl) T.b_tuple (by decide +kernel) rfl) pa_nil))))) (pw_or1 (pt_cmpR op_gt (pe_callB call_len_seq (by rfl) T.b_len (by decide +kernel) (pa_cons (pv 1) pa_nil)) (C8.pe_gc (v := .int 40) (by rfl) T.g_LONGEST_WORD) (nomark _))))) (pss_one (ps_ret pe_bl)) pss_nil)
      (pss_one (ps_ret (pe_callB (cr_all rfl) (by rfl) T.b_all (by decide +kernel) (pa_cons (pe_lc (own := [("letter", 2)]) (g := gName 2) (tt := tYes) rfl sc_is_word.nd (pi_tup (pv 1)) (blkOk_by (own := [("letter", 2)]) (N := ["system", "value", "letter"]) (sc := defScope s_is_word) (by decide +kernel)) (fun _ _ _ _ _ => (pg_name (i := 2) sc_is_word.nd rfl (Or.inl rfl))) (fun _ _ _ _ _ => pts_nil) (fun _ _ _ _ _ => (pe_cal (cal_is_letter T) (hr.mono (by decide)) (by rfl) (pa_cons (pv 0) (pa_cons (pv 2) pa_nil))))) pa_nil))))), ?_⟩
    refine ⟨_, rfl, _, _, _, _, true, rfl, .ty "tuple", tup_ty ha, kit_ty (by decide +kernel), _, rfl, iteF ?_⟩
    refine ⟨_, rfl, _, _, rfl, .inr ha, _, _, rfl, rfl, _, rfl, ite2 (fun z => absurd (of_decide_eq_true z) (by rw [ll]; omega)) (fun _ => ?_)⟩
    refine ⟨_, rfl, a, rfl, ⟨_, ha⟩, fun D nD => lc_tup (K := K) (a := a) (xs := ws.map V.int) (fun i H' => Same H H' ∧ H' D = some (.lst ((List.replicate i true).map V.bl))) ⟨same_new nD, upd_same⟩ (fun i H' _ h => sqT_same h.1 ha) ?_ ?_⟩
    · rintro i x H2 hi ⟨s2, hD⟩
      have ilt := (List.getElem?_eq_some_iff.mp hi).1
      rw [ll] at ilt
      rw [List.getElem?_map, List.getElem?_eq_getElem ilt] at hi
      obtain rfl : V.int ws[i] = x := Option.some.inj hi
      have hb := hw.1 _ (List.getElem_mem ilt)
      refine ⟨rfl, _, rfl, _, rfl, p, n, bv, bs, _, rfl, y.same s2, _, hD, ?_, same_off nD s2 off_upd, ?_⟩
      · rw [List.length_map, List.length_replicate]
        exact small1000 (by omega)
      · rw [upd_same, decide_eq_true hb.1, decide_eq_true (show ws[i] ≤ n - 1 by omega), List.replicate_succ', List.map_append]
        rfl
    · rintro H2 ⟨s2, hD⟩
      refine ⟨_, _, rfl, .of hD, ?_⟩
      rw [show (List.replicate (ws.map V.int).length true).all id = true by simp]
      exact k _ s2
theorem cal_check_system (T : Txt K mg C) : Cal P w K mg base "check_system" 1 (spCSys K C) := by
  refine T.d_check_system.cal (ps := ["system"]) (fun f fd D => ?_) (fun _ _ _ _ _ _ us hl => match us, hl with | [_], _ => rfl)
  refine D.ok sc_check_system (fun vs H Q E h => ?_) (fun cdv A outer s H vs Q E hr h => ?_)
  · obtain ⟨p, n, bv, bs, rfl, _⟩ := h
    rfl
  · obtain ⟨p, n, bv, bs, rfl, y, k⟩ := h
    obtain ⟨dx, g⟩ := id y.1
    refine ⟨_, (pss_one (ps_if (pt_not (pt_val (pe_callB call_isi (by rfl) T.b_isinstance (by decide +kernel) (pa_cons (pv 0) (pa_cons (pe_glob (v := .ref C) (by rfl) T.mgSystem rfl) pa_nil))))) (pss_one ps_never) pss_nil)), ?_⟩
    exact ⟨_, rfl, _, _, _, _, true, rfl, .own C, .base (.ins g T.cl T.ic.ha T.ic.hn T.ic.htk T.ic.hm), T.ic.me, _, rfl, iteF k⟩
theorem cal_check_word (T : Txt K mg C) : Cal P w K mg base "check_word" 5 (spCWord K C) := by
  refine T.d_check_word.cal (ps := ["system", "word"]) (fun f fd D => ?_) (fun _ _ _ _ _ _ us hl => match us, hl with | [_, _], _ => rfl)
  refine D.ok sc_check_word (fun vs H Q E h => ?_) (fun cdv A outer s H vs Q E hr h => ?_)
  · obtain ⟨p, n, bv, bs, v, ws, rfl, _⟩ := h
    rfl
  · obtain ⟨p, n, bv, bs, v, ws, rfl, y, t, hw, k⟩ := h
    refine ⟨_, (pss_one (ps_if (pt_not (pt_val (pe_cal (cal_is_word T) (hr.mono (by decide)) (by rfl) (pa_cons (pv 0) (pa_cons (pv 1) pa_nil))))) (pss_one ps_never) pss_nil)), ?_⟩
    exact ⟨_, rfl, _, rfl, p, n, bv, bs, v, ws, rfl, y, t, hw, fun H1 s1 => ⟨_, rfl, iteF (k _ s1)⟩⟩
theorem cal_check_words (T : Txt K mg C) : CalR P w K mg base "check_words" 6 (spCWords K C) := by
  obtain ⟨f, fd, D, hm⟩ := T.d_check_words
  obtain ⟨oc, od, kV, doc, pm, an, cdv, ct, osl, rfl, lk, hcd⟩ := D.ex
  have F := StX.fn_star (P := P) (w := w) (K := K) (mg := mg) (base := base) (k := 5) (ps := ["system"]) (pv := "words") (CX := CX0) (sp := fun vs H Q _ => ∃ (p t : Addr) (n : Int) (bv : V) (bs : List (List Int)) (us : List V), vs = [.ref p, .ref t] ∧ us.length ≤ 1000 ∧ SqT K H t us ∧ SysAt K C H p n bv bs ∧ TWs K H n us ∧ ∀ H', Same H H' → Q .non H')
    lk hcd sc_check_words StX.cxUp_none (fun us rest hl => match us, rest, hl with | [_], [], _ => rfl | [_], _ :: _, _ => rfl) (fun A outer s H vs Q E hr h => ?_)
  · refine ⟨⟨f, fun A outer s H us vs Q E hr e0 r h => F A outer s H us vs Q E hr e0 r ?_, hm, D.kp⟩⟩
    obtain ⟨p, n, bv, bs, us, rfl, hl, y, t, k⟩ := h
    refine ⟨[.ref p], us, rfl, rfl, szl hl, fun q nq => ?_⟩
    have sn := same_new (o := .tup us) nq
    exact ⟨p, q, n, bv, bs, us, rfl, hl, .of upd_same, y.same sn, fun v hv => (t v hv).elim fun ws z => ⟨ws, z.1.same sn, z.2⟩, fun H' s' => k _ (sn.trans s')⟩
  · obtain ⟨p, t, n, bv, bs, us, rfl, hl, ht, y, tw, k⟩ := h
    refine ⟨_, PSs.nox (show PSs (cxOf CX0 P w K mg base _ "check_words" (defScope s_check_words) f cdv A outer s H E).nox (defBody s_check_words) _ from (pss_cons (ps_expr (pe_cal (cal_check_system T) (hr.mono (by decide)) (by rfl) (pa_cons (pv 0) pa_nil)))
      (pss_one (ps_for PassesOwn.never rfl (pi_tup (pv 1)) (pg_name (i := 2) sc_check_words.nd rfl (Or.inl rfl)) (pss_one (ps_expr (pe_cal (cal_check_word T) (hr.mono (by decide)) (by rfl) (pa_cons (pv 0) (pa_cons (pv 2) pa_nil))))))))), ?_⟩
    refine ⟨_, rfl, p, n, bv, bs, rfl, y, ?_⟩
    refine ⟨_, rfl, t, rfl, ⟨_, ht⟩, for_tup (K := K) (a := t) (xs := us) (fun i σ H' => Same H H' ∧ ∃ v2, σ = [some (.ref p), some (.ref t), v2]) ⟨.refl _, none, rfl⟩ (fun i σ H' _ h => sqT_same h.1 ht) ?_ ?_⟩
    · rintro i x σ H2 hx ⟨s2, v2, rfl⟩
      obtain ⟨ws, hws, wd⟩ := tw x (List.mem_of_getElem? hx)
      exact ⟨_, rfl, _, rfl, p, n, bv, bs, x, ws, rfl, y.same s2, hws.same s2, wd, fun H3 s3 => ⟨s2.trans s3, _, rfl⟩⟩
    · rintro σ H2 ⟨s2, v2, rfl⟩
      exact k _ s2
end
end Sk

namespace Sk
open PySem PySem.Spec PyProof.Rows L2 Ow
/-! a dict of the written part by whole numbers -/
def rKI (d : Addr) (es : Array DictEntry) : R2 := fun x y H Q => ∃ (k : Int) (u0 : Value) (v0 : V), x = .ref d ∧ y = .int k ∧ findBy Value.isInt es k = some u0 ∧ RelV v0 u0 ∧ Q v0 H
theorem ix_kint {X : Cx} {d : Addr} {es : Array DictEntry} {n : Nat} (hl : X.K.lookup d = some ⟨.type "dict", none, .dict es n, #[]⟩) (hk : IntKeys es) : IxR X (rKI d es) := by
  intro value slice pins s σ H x y v u Q I rx ry h hs
  obtain ⟨k, u0, v0, rfl, rfl, e, r, q⟩ := h
  cases rx
  obtain ⟨t, rfl⟩ := ry
  have hm : s.heap.IntMap d (fun k => findBy Value.isInt es k) := ⟨_, es, n, I.kIn _ _ hl, rfl, rfl, hk, fun _ => rfl⟩
  exact tail_any hm.typeIs slot_dict_getitem.lookup (wpAny_getItem_intMap hm e ⟨v0, H, I.tok _, r, q⟩) hs
end Sk
namespace Sk
open PySem L2 Ow
/-! lists of values, each by what it reads -/
def A2 {α : Type} (R : V → α → Prop) : List V → List α → Prop
  | [], [] => True
  | x :: xs, a :: as => R x a ∧ A2 R xs as
  | _, _ => False
theorem A2.imp {α : Type} {R S : V → α → Prop} (h : ∀ x a, R x a → S x a) : ∀ {xs : List V} {as : List α}, A2 R xs as → A2 S xs as
  | [], [], _ => trivial
  | _ :: _, _ :: _, z => ⟨h _ _ z.1, A2.imp h z.2⟩
theorem A2.len {α : Type} {R : V → α → Prop} : ∀ {xs : List V} {as : List α}, A2 R xs as → xs.length = as.length
  | [], [], _ => rfl
  | _ :: _, _ :: _, h => congrArg Nat.succ (A2.len h.2)
theorem A2.get {α : Type} {R : V → α → Prop} : ∀ {xs : List V} {as : List α} {i : Nat} {x : V}, A2 R xs as → xs[i]? = some x → ∃ a, as[i]? = some a ∧ R x a
  | x :: xs, n :: ns, 0, y, h, e => ⟨n, rfl, (show x = y by simpa using e) ▸ h.1⟩
  | x :: xs, n :: ns, i + 1, y, h, e => (A2.get (xs := xs) (as := ns) (i := i) h.2 (by simpa using e)).elim fun m z => ⟨m, by simpa using z.1, z.2⟩
  | [], [], i, y, _, e => by simp at e
theorem A2.at_ {α : Type} {R : V → α → Prop} : ∀ {xs : List V} {as : List α} {i : Nat} {a : α}, A2 R xs as → as[i]? = some a → ∃ x, xs[i]? = some x ∧ R x a
  | x :: xs, n :: ns, 0, y, h, e => ⟨x, rfl, (show n = y by simpa using e) ▸ h.1⟩
  | x :: xs, n :: ns, i + 1, y, h, e => (A2.at_ (xs := xs) (as := ns) (i := i) h.2 (by simpa using e)).elim fun m z => ⟨m, by simpa using z.1, z.2⟩
  | [], [], i, y, _, e => by simp at e
theorem A2.snoc {α : Type} {R : V → α → Prop} : ∀ {xs : List V} {as : List α} {x : V} {a : α}, A2 R xs as → R x a → A2 R (xs ++ [x]) (as ++ [a])
  | [], [], _, _, _, h => ⟨h, trivial⟩
  | _ :: _, _ :: _, _, _, h, k => ⟨h.1, A2.snoc h.2 k⟩
theorem A2.set {α : Type} {R : V → α → Prop} : ∀ {xs : List V} {as : List α} {i : Nat} {x : V} {a : α}, A2 R xs as → R x a → A2 R (xs.set i x) (as.set i a)
  | [], [], _, _, _, _, _ => trivial
  | _ :: _, _ :: _, 0, _, _, h, k => ⟨k, h.2⟩
  | _ :: _, _ :: _, i + 1, _, _, h, k => ⟨h.1, A2.set (i := i) h.2 k⟩
theorem A2.of_tis {K : PySem.W.Frag} {H : Hp} : ∀ {xs : List V} {as : List (List Int)}, TIs K H xs as → A2 (TI K H) xs as
  | [], [], _ => trivial
  | _ :: _, _ :: _, h => ⟨h.1, A2.of_tis h.2⟩
theorem A2.tis {K : PySem.W.Frag} {H : Hp} : ∀ {xs : List V} {as : List (List Int)}, A2 (TI K H) xs as → TIs K H xs as
  | [], [], _ => trivial
  | _ :: _, _ :: _, h => ⟨h.1, A2.tis h.2⟩
/-! factors -/
def bondOk (b : Int) : Prop := b = 0 ∨ b = 2 ∨ b = 3 ∨ b = 4 ∨ b = 5 ∨ b = 6
theorem bondOf_ok {n : Int} {bs : List (List Int)} (va : Valid n bs) (i j : Int) : bondOk (bondOf bs i j) := by
  unfold bondOf
  cases h : bs.filter (isPr i j) with
  | nil => exact .inr (.inl rfl)
  | cons t ts =>
    have hm : t ∈ bs.filter (isPr i j) := by rw [h]; simp
    obtain ⟨l, k, b, rfl, _, _, _, hb⟩ := va.tr t (List.mem_filter.mp hm).1
    show bondOk b
    unfold bondOk
    omega
def fac (bs : List (List Int)) (i j : Int) : List Int := if i < j then (facT (bondOf bs i j)).getD 0 [] else (facT (bondOf bs i j)).getD 1 []
theorem facT_two {b : Int} (h : bondOk b) : ∃ w p u q, facT b = [[w, p], [u, q]] ∧ 0 ≤ w ∧ w ≤ 3 ∧ 0 ≤ p ∧ p ≤ 1 ∧ 0 ≤ u ∧ u ≤ 3 ∧ 0 ≤ q ∧ q ≤ 1 := by
  unfold facT
  rcases h with rfl | rfl | rfl | rfl | rfl | rfl
  · exact ⟨_, _, _, _, rfl, by decide⟩
  · exact ⟨_, _, _, _, rfl, by decide⟩
  · exact ⟨_, _, _, _, rfl, by decide⟩
  · exact ⟨_, _, _, _, rfl, by decide⟩
  · exact ⟨_, _, _, _, rfl, by decide⟩
  · exact ⟨_, _, _, _, rfl, by decide⟩
theorem fac_two {n : Int} {bs : List (List Int)} (va : Valid n bs) (i j : Int) : ∃ w p, fac bs i j = [w, p] ∧ 0 ≤ w ∧ w ≤ 3 ∧ 0 ≤ p ∧ p ≤ 1 := by
  obtain ⟨w, p, u, q, e, h⟩ := facT_two (bondOf_ok va i j)
  unfold fac
  rw [e]
  by_cases c : i < j
  · rw [if_pos c]
    exact ⟨w, p, rfl, by omega⟩
  · rw [if_neg c]
    exact ⟨u, q, rfl, by omega⟩
def upto (n : Int) : List Int := (List.range n.toNat).map fun i : Nat => (0 : Int) + (i : Nat)
def oth (n l : Int) : List Int := (upto n).filter fun o => o != l
def nz (f : List Int) : Bool := f.getD 0 0 != 0 || f.getD 1 0 != 0
def trip (bs : List (List Int)) (n l : Int) : List (List Int) := ((oth n l).filter fun o => nz (fac bs o l)).map fun o => o :: fac bs o l
def lkOf (bs : List (List Int)) (n : Int) : List (List (List Int)) := (upto n).map fun l => trip bs n l
def PrAt (K : PySem.W.Frag) (H : Hp) (v : V) (d : Int × List Int) : Prop := ∃ a u, v = .ref a ∧ SqT K H a [.int d.1, u] ∧ TI K H u d.2
theorem PrAt.same {K : PySem.W.Frag} {H H' : Hp} {v : V} {d : Int × List Int} (h : PrAt K H v d) (s : Same H H') : PrAt K H' v d := h.elim fun a ⟨u, e, q, t⟩ => ⟨a, u, e, sqT_same s q, t.same s⟩
theorem PrAt.off {K : PySem.W.Frag} {D : Addr} {H H' : Hp} {acc : List V} {v : V} {d : Int × List Int} (h : PrAt K H v d) (o : Off D H H') (hD : H D = some (.lst acc)) : PrAt K H' v d := h.elim fun a ⟨u, e, q, t⟩ => ⟨a, u, e, o.sqT hD q, o.ti hD t⟩
/-- links: a tuple of tuples of triples -/
def LkAt (K : PySem.W.Frag) (H : Hp) (v : V) (lk : List (List (List Int))) : Prop := ∃ a xs, v = .ref a ∧ SqT K H a xs ∧ A2 (BsAt K H) xs lk
theorem LkAt.same {K : PySem.W.Frag} {H H' : Hp} {v : V} {lk : List (List (List Int))} (h : LkAt K H v lk) (s : Same H H') : LkAt K H' v lk := h.elim fun a ⟨xs, e, q, t⟩ => ⟨a, xs, e, sqT_same s q, t.imp fun _ _ z => z.same s⟩
def spFactor (K : PySem.W.Frag) (C : Addr) : Sp := fun vs H Q _ => ∃ (p : Addr) (n : Int) (bv : V) (bs : List (List Int)) (i j : Int), vs = [.ref p, .int i, .int j] ∧ SysAt K C H p n bv bs ∧ Valid n bs ∧ 0 ≤ i ∧ i < n ∧ 0 ≤ j ∧ j < n ∧ i ≠ j ∧
  ∀ v H', Same H H' → TI K H' v (fac bs i j) → Q v H'
def spOther (K : PySem.W.Frag) (C : Addr) : Sp := fun vs H Q _ => ∃ (p : Addr) (n : Int) (bv : V) (bs : List (List Int)) (l : Int), vs = [.ref p, .int l] ∧ SysAt K C H p n bv bs ∧ Valid n bs ∧
  ∀ a H', Same H H' → H' a = some (.lst ((oth n l).map V.int)) → Q (.ref a) H'
def spWZ (K : PySem.W.Frag) : Sp := fun vs H Q _ => ∃ (a : Addr) (xs : List V) (ds : List (Int × List Int)), vs = [.ref a] ∧ H a = some (.lst xs) ∧ A2 (PrAt K H) xs ds ∧ ds.length ≤ 100 ∧ (∀ d ∈ ds, ∃ w p, d.2 = [w, p]) ∧
  ∀ v H', Same H H' → BsAt K H' v ((ds.filter fun d => nz d.2).map fun d => d.1 :: d.2) → Q v H'
def spTrip (K : PySem.W.Frag) (C : Addr) : Sp := fun vs H Q _ => ∃ (p : Addr) (n : Int) (bv : V) (bs : List (List Int)) (l : Int), vs = [.ref p, .int l] ∧ SysAt K C H p n bv bs ∧ Valid n bs ∧ 0 ≤ l ∧ l < n ∧
  ∀ v H', Same H H' → BsAt K H' v (trip bs n l) → Q v H'
def spLinks (K : PySem.W.Frag) (C : Addr) : Sp := fun vs H Q _ => ∃ (p : Addr) (n : Int) (bv : V) (bs : List (List Int)), vs = [.ref p] ∧ SysAt K C H p n bv bs ∧ Valid n bs ∧
  ∀ v H', Same H H' → LkAt K H' v (lkOf bs n) → Q v H'
theorem upto_length (n : Int) : (upto n).length = n.toNat := by unfold upto; rw [List.length_map, List.length_range]
theorem upto_get {n : Int} {i : Nat} (h : i < n.toNat) : (upto n)[i]? = some ((0 : Int) + (i : Nat)) := by
  unfold upto
  rw [List.getElem?_map, List.getElem?_range h]
  rfl
theorem mem_upto {n x : Int} : x ∈ upto n ↔ 0 ≤ x ∧ x < n := by
  unfold upto
  rw [List.mem_map]
  constructor
  · rintro ⟨i, hi, rfl⟩
    have := List.mem_range.mp hi
    omega
  · rintro ⟨h1, h2⟩
    exact ⟨x.toNat, List.mem_range.mpr (by omega), by omega⟩
theorem mem_oth {n l x : Int} : x ∈ oth n l ↔ (0 ≤ x ∧ x < n) ∧ x ≠ l := by
  unfold oth
  rw [List.mem_filter, mem_upto]
  simp
theorem oth_length (n l : Int) : (oth n l).length ≤ n.toNat := by
  unfold oth
  exact Nat.le_trans (List.length_filter_le _ _) (by rw [upto_length]; exact Nat.le_refl _)
section
variable {P : Program} {w : World} {K : PySem.W.Frag} {mg : Str → Option Value} {base : Heap} {C : Addr}
theorem cal_factor (T : Txt K mg C) : Cal P w K mg base "factor" 3 (spFactor K C) := by
  refine T.d_factor.cal (ps := ["system", "one", "other"]) (fun f fd D => ?_) (fun _ _ _ _ _ _ us hl => match us, hl with | [_, _, _], _ => rfl)
  refine D.ok sc_factor (fun vs H Q E h => ?_) (fun cdv A outer s H vs Q E hr h => ?_)
  · obtain ⟨_, _, _, _, _, _, rfl, _⟩ := h
    rfl
  · obtain ⟨p, n, bv, bs, i, j, rfl, y, va, i0, i1, j0, j1, ne, k⟩ := h
    obtain ⟨dF, esF, nF, gF, lF, kF, hF⟩ := T.gF
    obtain ⟨dx, g⟩ := id y.1
    refine ⟨_, (pss_cons (ps_asg (pe_ix (show IxR _ (rKI dF esF) from ix_kint lF kF) (pe_bonds (by rfl) gF) (pe_bond_of T (hr.mono (by decide)) (pv 0) (pa_cons (pv 1) (pa_cons (pv 2) pa_nil))) (fun _ _ => rfl)) (pg_tup (by rfl) (pgs_cons (pg_name (i := 3) sc_factor.nd rfl (Or.inl rfl)) (pgs_cons (pg_name (i := 4) sc_factor.nd rfl (Or.inl rfl)) pgs_nil))))
      (pss_one (ps_ret (pe_ifExp (pt_cmpR op_lt (pv 1) (pv 2) (nomark _)) (pv 3) (pv 4))))), ?_⟩
    refine ⟨_, rfl, p, dx, _, rfl, g, sf_no _ _ (by decide +kernel) (by decide +kernel), _, rfl, _, rfl, p, n, bv, bs, i, j, rfl, y, va, i0, i1, j0, j1, ne, fun H1 s1 => ?_⟩
    obtain ⟨a, ha, hb⟩ := hF _ (bondOf_ok va i j)
    obtain ⟨w, q, u, z, e, _⟩ := facT_two (bondOf_ok va i j)
    have hb1 := hb H1
    rw [e] at hb1
    obtain ⟨a', xs, ea, hs, hx⟩ := hb1
    cases ea
    rcases xs with _ | ⟨x1, _ | ⟨x2, _ | ⟨x3, xs⟩⟩⟩
    · exact absurd hx id
    · exact absurd hx.2 id
    · refine ⟨_, _, .ref a, rfl, rfl, ha, rfl, _, _, rfl, hs, rfl, _, _, rfl, _, _, rfl, rfl, ?_⟩
      refine ⟨_, rfl, _, rfl, _, _, rfl, rfl, _, rfl, ite2 (fun c => ?_) (fun c => ?_)⟩
      · refine ⟨_, rfl, k _ _ s1 ?_⟩
        unfold fac
        rw [if_pos (of_decide_eq_true c), e]
        exact hx.1
      · refine ⟨_, rfl, k _ _ s1 ?_⟩
        unfold fac
        rw [if_neg (fun c' => c (decide_eq_true c')), e]
        exact hx.2.1
    · exact absurd hx.2.2 id
theorem cal_other_letters (T : Txt K mg C) : Cal P w K mg base "other_letters" 3 (spOther K C) := by
  refine T.d_other_letters.cal (ps := ["system", "letter"]) (fun f fd D => ?_) (fun _ _ _ _ _ _ us hl => match us, hl with | [_, _], _ => rfl)
  refine D.ok sc_other_letters (fun vs H Q E h => ?_) (fun cdv A outer s H vs Q E hr h => ?_)
  · obtain ⟨_, _, _, _, _, rfl, _⟩ := h
    rfl
  · obtain ⟨p, n, bv, bs, l, rfl, y, va, k⟩ := h
    obtain ⟨dx, g⟩ := id y.1
    have n1 := va.lo
    have n4 := va.hi
    refine ⟨_, (pss_one (ps_ret (pe_lc (own := [("other", 2)]) (g := gName 2) rfl sc_other_letters.nd (pi_range1 (by rfl) T.b_range (pa_cons (pe_sletters T (hr.mono (by decide)) (pv 0)) pa_nil)) (blkOk_by (own := [("other", 2)]) (N := ["system", "letter", "other"]) (sc := defScope s_other_letters) (by decide +kernel)) (fun _ _ _ _ _ => (pg_name (i := 2) sc_other_letters.nd rfl (Or.inl rfl))) (fun _ _ _ _ _ => (pts_one (pt_cmpR op_ne (pv 2) (pv 1) (nomark _)))) (fun _ _ _ _ _ => (pv 2))))), ?_⟩
    refine ⟨_, rfl, p, dx, _, rfl, g, p, n, bv, bs, rfl, y, _, rfl, by omega, by omega, fun D nD => lc_range (lo := 0) (n := n.toNat) (fun i H' => Same H H' ∧ H' D = some (.lst ((((upto n).take i).filter fun o => o != l).map V.int))) ⟨same_new nD, upd_same⟩ ?_ ?_⟩
    · rintro i H2 hi ⟨s2, hD⟩
      have hg := upto_get hi
      have hlen : (((upto n).take i).filter fun o => o != l).length ≤ 4 := Nat.le_trans (List.length_filter_le _ _) (by rw [List.length_take, upto_length]; omega)
      refine ⟨rfl, _, rfl, _, rfl, rfl, _, rfl, ite2 (fun c => ?_) (fun c => ?_)⟩
      · have c' : ((0 : Int) + (i : Nat) != l) = true := by
          rw [bne_iff_ne]
          intro e
          rw [e] at c
          simp at c
        refine ⟨_, rfl, _, hD, small1000 (by rw [List.length_map]; omega), same_off nD s2 off_upd, ?_⟩
        rw [upd_same, take_snoc hg, List.filter_append, List.filter_cons_of_pos (p := fun o => o != l) c', List.filter_nil, List.map_append]
        rfl
      · have c' : ¬ ((0 : Int) + (i : Nat) != l) = true := by
          rw [bne_iff_ne]
          intro e
          refine c ?_
          rw [decide_eq_false (fun z => e (V.int.inj z))]
          rfl
        refine ⟨s2, ?_⟩
        rw [take_snoc hg, List.filter_append, List.filter_cons_of_neg (p := fun o => o != l) c', List.filter_nil, List.append_nil]
        exact hD
    · rintro H2 ⟨s2, hD⟩
      rw [List.take_of_length_le (by rw [upto_length]; exact Nat.le_refl _)] at hD
      exact k _ _ s2 hD
end
end Sk

namespace Sk
open PySem L2 Ow
theorem A2.same {α : Type} {R S : V → α → Prop} {xs : List V} {as : List α} (h : A2 R xs as) (f : ∀ x a, R x a → S x a) : A2 S xs as := h.imp f
section
variable {P : Program} {w : World} {K : PySem.W.Frag} {mg : Str → Option Value} {base : Heap} {C : Addr}
theorem cal_without_zeros (T : Txt K mg C) : Cal P w K mg base "without_zeros" 1 (spWZ K) := by
  refine T.d_without_zeros.cal (ps := ["pairs"]) (fun f fd D => ?_) (fun _ _ _ _ _ _ us hl => match us, hl with | [_], _ => rfl)
  refine D.ok sc_without_zeros (fun vs H Q E h => ?_) (fun cdv A outer s H vs Q E hr h => ?_)
  · obtain ⟨_, _, _, rfl, _⟩ := h
    rfl
  · obtain ⟨a, xs, ds, rfl, ha, hx, hl, hd, k⟩ := h
    refine ⟨_, (pss_one (ps_ret (pe_callTy call_tuple_of (by rfl) T.b_tuple (by decide +kernel) (pa_cons (pe_lc (own := [("other", 1), ("whole", 2), ("part", 3)]) (g := gTup K 2 (gCons (gName 1) (gCons (gTup K 2 (gCons (gName 2) (gCons (gName 3) (gNil)))) (gNil)))) rfl sc_without_zeros.nd (pi_list (pv 0)) (blkOk_by (own := [("other", 1), ("whole", 2), ("part", 3)]) (N := ["pairs", "other", "whole", "part"]) (sc := defScope s_without_zeros) (by decide +kernel)) (fun _ _ _ _ _ => (pg_tup (by rfl) (pgs_cons (pg_name (i := 1) sc_without_zeros.nd rfl (Or.inl rfl)) (pgs_cons (pg_tup (by rfl) (pgs_cons (pg_name (i := 2) sc_without_zeros.nd rfl (Or.inl rfl)) (pgs_cons (pg_name (i := 3) sc_without_zeros.nd rfl (Or.inl rfl)) pgs_nil))) pgs_nil)))) (fun _ _ _ _ _ => (pts_one (PW.pt (pw_or (show PT _ _ (tTru K 2) from pt_truth (pv 2) (by intro _; rfl)) (pw_or1 (show PT _ _ (tTru K 3) from pt_truth (pv 3) (by intro _; rfl))))))) (fun _ _ _ _ _ => (pe_tup (pa_cons (pv 1) (pa_cons (pv 2) (pa_cons (pv 3) pa_nil)))))) pa_nil)))), ?_⟩
    refine ⟨_, rfl, a, rfl, ⟨_, .of ha⟩, fun D nD => lc_list (K := K) (a := a) (xs := xs) (fun i H' => Same H H' ∧ ∃ ys, H' D = some (.lst ys) ∧ TIs K H' ys (((ds.take i).filter fun d => nz d.2).map fun d => d.1 :: d.2)) ⟨same_new nD, [], upd_same, by simp [TIs]⟩ (fun i H' _ h => .of (h.1 _ _ ha)) ?_ ?_⟩
    · rintro i x H2 hi ⟨s2, ys, hD, hy⟩
      obtain ⟨d, hdg, hp⟩ := hx.get hi
      obtain ⟨b, u, rfl, hb, hu⟩ := hp.same s2
      obtain ⟨ww, pp, e2⟩ := hd d (List.mem_of_getElem? hdg)
      obtain ⟨d1, d2⟩ := d
      obtain rfl : d2 = [ww, pp] := e2
      obtain ⟨c, rfl, hc⟩ := hu
      have hlen := hy.len
      rw [List.length_map] at hlen
      have hl2 := List.length_filter_le (fun d : Int × List Int => nz d.2) (ds.take i)
      rw [List.length_take] at hl2
      have fin : nz [ww, pp] = true → ∀ t, H2 t = none → ∃ acc, (upd H2 t (.tup [.int d1, .int ww, .int pp])) D = some (.lst acc) ∧ acc.length < sizeLine ∧ Same H (upd (upd H2 t (.tup [.int d1, .int ww, .int pp])) D (.lst (acc ++ [.ref t]))) ∧ ∃ ys, upd (upd H2 t (.tup [.int d1, .int ww, .int pp])) D (.lst (acc ++ [.ref t])) D = some (.lst ys) ∧ TIs K (upd (upd H2 t (.tup [.int d1, .int ww, .int pp])) D (.lst (acc ++ [.ref t]))) ys (((ds.take (i + 1)).filter fun d => nz d.2).map fun d => d.1 :: d.2) := fun hz t nt => by
        have hD3 := same_new (o := .tup [.int d1, .int ww, .int pp]) nt _ _ hD
        refine ⟨ys, hD3, small1000 (by omega), same_off nD (s2.trans (same_new nt)) off_upd, _, upd_same, ?_⟩
        rw [take_snoc hdg, List.filter_append, List.filter_cons_of_pos (p := fun d : Int × List Int => nz d.2) hz, List.map_append]
        exact (off_upd.tis hD3 (hy.same (same_new nt))).snoc (off_upd.ti hD3 ⟨t, rfl, .of upd_same⟩)
      refine ⟨_, _, rfl, hb, rfl, _, _, rfl, _, _, rfl, _, _, rfl, hc, rfl, _, _, rfl, _, _, rfl, rfl, rfl, rfl, ?_⟩
      have tail : ∀ c : Bool, nz [ww, pp] = c → c = true → (2 : Nat) = 2 := fun _ _ _ => rfl
      refine ⟨_, rfl, (ww != 0), rfl, ite2 (fun hw => ?_) (fun hw => ?_)⟩
      · refine iteT ⟨_, rfl, _, rfl, _, rfl, show 3 ≤ sizeLine by decide, fun t nt => ?_⟩
        exact fin (by unfold nz; rw [show ([ww, pp] : List Int).getD 0 0 = ww from rfl, hw]; rfl) t nt
      · refine ⟨_, rfl, (pp != 0), rfl, ite2 (fun hq => ?_) (fun hq => ?_)⟩
        · refine ⟨_, rfl, _, rfl, _, rfl, show 3 ≤ sizeLine by decide, fun t nt => ?_⟩
          exact fin (by unfold nz; rw [show ([ww, pp] : List Int).getD 1 0 = pp from rfl, hq, Bool.or_true]) t nt
        · have hz : ¬ nz [ww, pp] = true := by
            unfold nz
            rw [show ([ww, pp] : List Int).getD 0 0 = ww from rfl, show ([ww, pp] : List Int).getD 1 0 = pp from rfl, Bool.eq_false_iff.mpr hw, Bool.eq_false_iff.mpr hq]
            decide
          refine ⟨s2, ys, hD, ?_⟩
          rw [take_snoc hdg, List.filter_append, List.filter_cons_of_neg (p := fun d : Int × List Int => nz d.2) hz, List.filter_nil, List.append_nil]
          exact hy
    · rintro H2 ⟨s2, ys, hD, hy⟩
      rw [show xs.length = ds.length from hx.len, List.take_length] at hy
      refine ⟨D, _, rfl, .inl ⟨.of hD, fun t nt => ?_⟩⟩
      exact k _ _ (s2.trans (same_new nt)) ⟨t, ys, rfl, .of upd_same, hy.same (same_new nt)⟩
theorem cal_triples_from (T : Txt K mg C) : Cal P w K mg base "triples_from" 4 (spTrip K C) := by
  refine T.d_triples_from.cal (ps := ["system", "letter"]) (fun f fd D => ?_) (fun _ _ _ _ _ _ us hl => match us, hl with | [_, _], _ => rfl)
  refine D.ok sc_triples_from (fun vs H Q E h => ?_) (fun cdv A outer s H vs Q E hr h => ?_)
  · obtain ⟨_, _, _, _, _, rfl, _⟩ := h
    rfl
  · obtain ⟨p, n, bv, bs, l, rfl, y, va, l0, l1, k⟩ := h
    have n4 := va.hi
    refine ⟨_, (pss_one (ps_ret (pe_cal (cal_without_zeros T) (hr.mono (by decide)) (by rfl) (pa_cons (pe_lc (own := [("other", 2)]) (g := gName 2) (tt := tYes) rfl sc_triples_from.nd (pi_list (pe_cal (cal_other_letters T) (hr.mono (by decide)) (by rfl) (pa_cons (pv 0) (pa_cons (pv 1) pa_nil)))) (blkOk_by (own := [("other", 2)]) (N := ["system", "letter", "other"]) (sc := defScope s_triples_from) (by decide +kernel)) (fun _ _ _ _ _ => (pg_name (i := 2) sc_triples_from.nd rfl (Or.inl rfl))) (fun _ _ _ _ _ => pts_nil) (fun _ _ _ _ _ => (pe_tup (pa_cons (pv 2) (pa_cons (pe_cal (cal_factor T) (hr.mono (by decide)) (by rfl) (pa_cons (pv 0) (pa_cons (pv 2) (pa_cons (pv 1) pa_nil)))) pa_nil))))) pa_nil)))), ?_⟩
    refine ⟨_, rfl, _, rfl, p, n, bv, bs, l, rfl, y, va, fun a H1 s1 ha => ?_⟩
    refine ⟨a, rfl, ⟨_, .of ha⟩, fun D nD => lc_list (K := K) (a := a) (xs := (oth n l).map V.int) (fun i H' => Same H1 H' ∧ ∃ ys, H' D = some (.lst ys) ∧ A2 (PrAt K H') ys (((oth n l).take i).map fun o => (o, fac bs o l))) ⟨same_new nD, [], upd_same, by simp [A2]⟩ (fun i H' _ h => .of (h.1 _ _ ha)) ?_ ?_⟩
    · rintro i x H2 hi ⟨s2, ys, hD, hy⟩
      have ilt := (List.getElem?_eq_some_iff.mp hi).1
      rw [List.length_map] at ilt
      have hg : (oth n l)[i]? = some (oth n l)[i] := List.getElem?_eq_getElem ilt
      rw [List.getElem?_map, hg] at hi
      obtain rfl : V.int (oth n l)[i] = x := Option.some.inj hi
      have mo := mem_oth.mp (List.getElem_mem ilt)
      have ol := oth_length n l
      have hlen := hy.len
      rw [List.length_map, List.length_take] at hlen
      refine ⟨rfl, _, rfl, _, rfl, _, rfl, _, rfl, p, n, bv, bs, _, _, rfl, (y.same s1).same s2, va, mo.1.1, mo.1.2, l0, l1, mo.2, fun v H3 s3 tv => ⟨show 2 ≤ sizeLine by decide, fun t nt => ?_⟩⟩
      have hD4 := same_new (o := .tup [.int (oth n l)[i], v]) nt _ _ (s3 _ _ hD)
      refine ⟨ys, hD4, small1000 (by omega), same_off nD ((s2.trans s3).trans (same_new nt)) off_upd, _, upd_same, ?_⟩
      rw [take_snoc hg, List.map_append]
      refine A2.snoc (hy.imp fun x a z => ((z.same s3).same (same_new nt)).off off_upd hD4) ?_
      exact PrAt.off ⟨t, v, rfl, .of upd_same, tv.same (same_new nt)⟩ off_upd hD4
    · rintro H2 ⟨s2, ys, hD, hy⟩
      rw [List.length_map, List.take_length] at hy
      have ol := oth_length n l
      refine ⟨D, ys, _, rfl, hD, hy, by rw [List.length_map]; omega, fun d hd => ?_, fun v H3 s3 hb => k _ _ ((s1.trans s2).trans s3) ?_⟩
      · obtain ⟨o, _, rfl⟩ := List.mem_map.mp hd
        obtain ⟨w, q, e, _⟩ := fac_two va o l
        exact ⟨w, q, e⟩
      · unfold trip
        rw [List.filter_map, List.map_map] at hb
        exact hb
theorem cal_links_of (T : Txt K mg C) : Cal P w K mg base "links_of" 5 (spLinks K C) := by
  refine T.d_links_of.cal (ps := ["system"]) (fun f fd D => ?_) (fun _ _ _ _ _ _ us hl => match us, hl with | [_], _ => rfl)
  refine D.ok sc_links_of (fun vs H Q E h => ?_) (fun cdv A outer s H vs Q E hr h => ?_)
  · obtain ⟨_, _, _, _, rfl, _⟩ := h
    rfl
  · obtain ⟨p, n, bv, bs, rfl, y, va, k⟩ := h
    obtain ⟨dx, g⟩ := id y.1
    have n1 := va.lo
    have n4 := va.hi
    refine ⟨_, (pss_one (ps_ret (pe_callTy call_tuple_of (by rfl) T.b_tuple (by decide +kernel) (pa_cons (pe_lc (own := [("letter", 1)]) (g := gName 1) (tt := tYes) rfl sc_links_of.nd (pi_range1 (by rfl) T.b_range (pa_cons (pe_sletters T (hr.mono (by decide)) (pv 0)) pa_nil)) (blkOk_by (own := [("letter", 1)]) (N := ["system", "letter"]) (sc := defScope s_links_of) (by decide +kernel)) (fun _ _ _ _ _ => (pg_name (i := 1) sc_links_of.nd rfl (Or.inl rfl))) (fun _ _ _ _ _ => pts_nil) (fun _ _ _ _ _ => (pe_cal (cal_triples_from T) (hr.mono (by decide)) (by rfl) (pa_cons (pv 0) (pa_cons (pv 1) pa_nil))))) pa_nil)))), ?_⟩
    refine ⟨_, rfl, p, dx, _, rfl, g, p, n, bv, bs, rfl, y, _, rfl, by omega, by omega, fun D nD => lc_range (lo := 0) (n := n.toNat) (fun i H' => Same H H' ∧ ∃ ys, H' D = some (.lst ys) ∧ A2 (BsAt K H') ys (((upto n).take i).map fun l => trip bs n l)) ⟨same_new nD, [], upd_same, by simp [A2]⟩ ?_ ?_⟩
    · rintro i H2 hi ⟨s2, ys, hD, hy⟩
      have hg := upto_get hi
      have hlen := hy.len
      rw [List.length_map, List.length_take, upto_length] at hlen
      refine ⟨rfl, _, rfl, _, rfl, p, n, bv, bs, _, rfl, y.same s2, va, by omega, by omega, fun v H3 s3 hb => ?_⟩
      have hD3 := s3 _ _ hD
      refine ⟨ys, hD3, small1000 (by omega), same_off nD (s2.trans s3) off_upd, _, upd_same, ?_⟩
      rw [take_snoc hg, List.map_append]
      exact A2.snoc (hy.imp fun x a z => off_upd.bs hD3 (z.same s3)) (off_upd.bs hD3 hb)
    · rintro H2 ⟨s2, ys, hD, hy⟩
      rw [List.take_of_length_le (by rw [upto_length]; exact Nat.le_refl _)] at hy
      refine ⟨D, _, rfl, .inl ⟨.of hD, fun t nt => ?_⟩⟩
      exact k _ _ (s2.trans (same_new nt)) ⟨t, ys, rfl, .of upd_same, hy.imp fun x a z => z.same (same_new nt)⟩
end
end Sk

namespace Sk
open PySem L2 Ow
/-! states and their steps -/
def step1 (w p : Int) (ns : List (List Int)) (t : List Int) : List (List Int) :=
  ns.set (t.getD 0 0).toNat [(ns.getD (t.getD 0 0).toNat []).getD 0 0 + t.getD 1 0 * w + t.getD 2 0 * p, (ns.getD (t.getD 0 0).toNat []).getD 1 0 + t.getD 1 0 * p + t.getD 2 0 * (w + p)]
theorem step1_eq {w p o m g a b : Int} {ns : List (List Int)} (e : ns.getD o.toNat [] = [a, b]) : step1 w p ns [o, m, g] = ns.set o.toNat [a + m * w + g * p, b + m * p + g * (w + p)] := by
  show ns.set o.toNat [(ns.getD o.toNat []).getD 0 0 + m * w + g * p, (ns.getD o.toNat []).getD 1 0 + m * p + g * (w + p)] = _
  rw [e]
  rfl
def putA (lk : List (List (List Int))) (st : List (List Int)) (l : Int) : List (List Int) :=
  (lk.getD l.toNat []).foldl (step1 ((st.getD l.toNat []).getD 0 0) ((st.getD l.toNat []).getD 1 0)) (st.set l.toNat [-(st.getD l.toNat []).getD 0 0, -(st.getD l.toNat []).getD 1 0])
def aheadW (lk : List (List (List Int))) (st : List (List Int)) (ws : List Int) : List (List Int) := ws.reverse.foldl (putA lk) st
def first (n : Nat) : List (List Int) := List.replicate n [1, 0]
structure StOk (n : Nat) (st : List (List Int)) : Prop where
  len : st.length = n
  two : ∀ x ∈ st, ∃ w p, x = [w, p]
def trio (n : Nat) (x : List Int) : Prop := ∃ o m g, x = [o, m, g] ∧ 0 ≤ o ∧ o < n ∧ 0 ≤ m ∧ m ≤ 3 ∧ 0 ≤ g ∧ g ≤ 3
structure LkOk (n : Nat) (lk : List (List (List Int))) : Prop where
  len : lk.length = n
  few : n ≤ 100
  tri : ∀ t ∈ lk, ∀ x ∈ t, trio n x
theorem StOk.at_ {n : Nat} {st : List (List Int)} (h : StOk n st) {i : Nat} (hi : i < n) : ∃ w p, st[i]? = some [w, p] ∧ st.getD i [] = [w, p] := by
  have hl : i < st.length := by rw [h.len]; exact hi
  obtain ⟨w, p, e⟩ := h.two _ (List.getElem_mem hl)
  have e1 : st[i]? = some [w, p] := by rw [List.getElem?_eq_getElem hl, e]
  exact ⟨w, p, e1, by rw [List.getD_eq_getElem?_getD, e1]; rfl⟩
theorem StOk.set {n : Nat} {st : List (List Int)} (h : StOk n st) (i : Nat) (a b : Int) : StOk n (st.set i [a, b]) := by
  refine ⟨by rw [List.length_set]; exact h.len, fun x hx => ?_⟩
  rcases List.mem_or_eq_of_mem_set hx with hx | rfl
  · exact h.two x hx
  · exact ⟨a, b, rfl⟩
theorem StOk.fold {n : Nat} {w p : Int} : ∀ {ts : List (List Int)} {st : List (List Int)}, StOk n st → StOk n (ts.foldl (step1 w p) st)
  | [], _, h => h
  | t :: ts, st, h => StOk.fold (ts := ts) (st := step1 w p st t) (h.set _ _ _)
theorem StOk.put {n : Nat} {st : List (List Int)} (h : StOk n st) (lk : List (List (List Int))) (l : Int) : StOk n (putA lk st l) := (h.set _ _ _).fold
theorem StOk.ahead {n : Nat} (lk : List (List (List Int))) : ∀ (ws : List Int) {st : List (List Int)}, StOk n st → StOk n (ws.foldl (putA lk) st)
  | [], _, h => h
  | w :: ws, st, h => StOk.ahead lk ws (h.put lk w)
theorem StOk.first (n : Nat) : StOk n (first n) := ⟨List.length_replicate, fun x hx => ⟨1, 0, (List.mem_replicate.mp hx).2⟩⟩
theorem lkOf_ok {n : Int} {bs : List (List Int)} (va : Valid n bs) : LkOk n.toNat (lkOf bs n) := by
  have h1 := va.lo
  have h4 := va.hi
  refine ⟨by unfold lkOf; rw [List.length_map, upto_length], by omega, fun t ht x hx => ?_⟩
  unfold lkOf at ht
  obtain ⟨l, _, rfl⟩ := List.mem_map.mp ht
  unfold trip at hx
  obtain ⟨o, ho, rfl⟩ := List.mem_map.mp hx
  have hm := mem_oth.mp (List.mem_filter.mp ho).1
  obtain ⟨w, p, e, b⟩ := fac_two va o l
  rw [e]
  exact ⟨o, w, p, rfl, by omega, by omega, by omega, by omega, by omega, by omega⟩
theorem ixI {xs : List V} {l : Int} {x : V} (h0 : 0 ≤ l) (h : xs[l.toNat]? = some x) : atI xs l = some x := at_of (j := l.toNat) (by omega) h
theorem ixN_ok {n : Nat} {l : Int} (h0 : 0 ≤ l) (h1 : l < n) : ixN n l = some l.toNat := by unfold ixN; rw [if_pos h0, if_pos h1]
def spFirst (K : PySem.W.Frag) : Sp := fun vs H Q _ => ∃ (v : V) (lk : List (List (List Int))), vs = [v] ∧ LkAt K H v lk ∧ lk.length ≤ 100 ∧ ∀ v' H', Same H H' → BsAt K H' v' (first lk.length) → Q v' H'
def spPut (K : PySem.W.Frag) : Sp := fun vs H Q _ => ∃ (lv sv : V) (l : Int) (n : Nat) (lk : List (List (List Int))) (st : List (List Int)), vs = [lv, sv, .int l] ∧ LkAt K H lv lk ∧ BsAt K H sv st ∧ LkOk n lk ∧ StOk n st ∧ 0 ≤ l ∧ l < n ∧
  ∀ v H', Same H H' → BsAt K H' v (putA lk st l) → Q v H'
def spAhead (K : PySem.W.Frag) : Sp := fun vs H Q _ => ∃ (lv sv wv : V) (ws : List Int) (n : Nat) (lk : List (List (List Int))) (st : List (List Int)), vs = [lv, sv, wv] ∧ LkAt K H lv lk ∧ BsAt K H sv st ∧ TI K H wv ws ∧ LkOk n lk ∧ StOk n st ∧ (∀ x ∈ ws, 0 ≤ x ∧ x < n) ∧ ws.length ≤ 1000 ∧
  ∀ v H', Same H H' → BsAt K H' v (aheadW lk st ws) → Q v H'
def spState (K : PySem.W.Frag) : Sp := fun vs H Q _ => ∃ (lv wv : V) (ws : List Int) (n : Nat) (lk : List (List (List Int))), vs = [lv, wv] ∧ LkAt K H lv lk ∧ TI K H wv ws ∧ LkOk n lk ∧ (∀ x ∈ ws, 0 ≤ x ∧ x < n) ∧ ws.length ≤ 1000 ∧
  ∀ v H', Same H H' → BsAt K H' v (aheadW lk (first n) ws) → Q v H'
section
variable {P : Program} {w : World} {K : PySem.W.Frag} {mg : Str → Option Value} {base : Heap} {C : Addr}
theorem cal_first_state (T : Txt K mg C) : Cal P w K mg base "first_state" 1 (spFirst K) := by
  refine T.d_first_state.cal (ps := ["links"]) (fun f fd D => ?_) (fun _ _ _ _ _ _ us hl => match us, hl with | [_], _ => rfl)
  refine D.ok sc_first_state (fun vs H Q E h => ?_) (fun cdv A outer s H vs Q E hr h => ?_)
  · obtain ⟨_, _, rfl, _⟩ := h
    rfl
  · obtain ⟨_, lk, rfl, ⟨a, xs, rfl, ha, hx⟩, hl, k⟩ := h
    have hxl := hx.len
    refine ⟨_, (pss_one (ps_ret (pe_callTy call_tuple_of (by rfl) T.b_tuple (by decide +kernel) (pa_cons (pe_lc (own := [("_", 1)]) (g := gName 1) (tt := tYes) rfl sc_first_state.nd (pi_tup (pv 0)) (blkOk_by (own := [("_", 1)]) (N := ["links", "_"]) (sc := defScope s_first_state) (by decide +kernel)) (fun _ _ _ _ _ => (pg_name (i := 1) sc_first_state.nd rfl (Or.inl rfl))) (fun _ _ _ _ _ => pts_nil) (fun _ _ _ _ _ => (pe_tup (pa_cons pe_int (pa_cons pe_int pa_nil))))) pa_nil)))), ?_⟩
    refine ⟨_, rfl, a, rfl, ⟨_, ha⟩, fun D nD => lc_tup (K := K) (a := a) (xs := xs) (fun i H' => Same H H' ∧ ∃ ys, H' D = some (.lst ys) ∧ TIs K H' ys (first i)) ⟨same_new nD, [], upd_same, trivial⟩ (fun i H' _ h => sqT_same h.1 ha) ?_ ?_⟩
    · rintro i x H2 hi ⟨s2, ys, hD, hy⟩
      have ilt := (List.getElem?_eq_some_iff.mp hi).1
      have hlen : ys.length = i := by rw [hy.len]; unfold first; rw [List.length_replicate]
      refine ⟨rfl, show 2 ≤ sizeLine by decide, fun t nt => ?_⟩
      have hD3 := same_new (o := .tup [.int 1, .int 0]) nt _ _ hD
      refine ⟨ys, hD3, small1000 (by omega), same_off nD (s2.trans (same_new nt)) off_upd, _, upd_same, ?_⟩
      rw [show first (i + 1) = first i ++ [[1, 0]] from List.replicate_succ']
      exact (off_upd.tis hD3 (hy.same (same_new nt))).snoc (off_upd.ti hD3 ⟨t, rfl, .of upd_same⟩)
    · rintro H2 ⟨s2, ys, hD, hy⟩
      rw [hxl] at hy
      refine ⟨D, _, rfl, .inl ⟨.of hD, fun t nt => ?_⟩⟩
      exact k _ _ (s2.trans (same_new nt)) ⟨t, ys, rfl, .of upd_same, hy.same (same_new nt)⟩
theorem cal_put_ahead (T : Txt K mg C) : Cal P w K mg base "put_ahead" 1 (spPut K) := by
  refine T.d_put_ahead.cal (ps := ["links", "state", "letter"]) (fun f fd D => ?_) (fun _ _ _ _ _ _ us hl => match us, hl with | [_, _, _], _ => rfl)
  refine D.ok sc_put_ahead (fun vs H Q E h => ?_) (fun cdv A outer s H vs Q E hr h => ?_)
  · obtain ⟨_, _, _, _, _, _, rfl, _⟩ := h
    rfl
  · obtain ⟨_, _, l, n, lk, st, rfl, ⟨la, lx, rfl, hla, hlx⟩, ⟨sa, sx, rfl, hsa, hsx⟩, hlk, hst, l0, l1, k⟩ := h
    have l1' : l.toNat < n := by omega
    have sl : sx.length = n := by rw [hsx.len, hst.len]
    obtain ⟨w, p, hst1, hst2⟩ := hst.at_ l1'
    obtain ⟨x, hx, tx⟩ := (A2.of_tis hsx).at_ hst1
    obtain ⟨xa, rfl, hxa⟩ := tx
    have hlkl : l.toNat < lk.length := by rw [hlk.len]; exact l1'
    obtain ⟨tv, htv, tb⟩ := hlx.at_ (List.getElem?_eq_getElem hlkl)
    obtain ⟨ta, tx, rfl, hta, htx⟩ := tb
    have hgl : lk.getD l.toNat [] = lk[l.toNat] := by rw [List.getD_eq_getElem?_getD, List.getElem?_eq_getElem hlkl]; rfl
    have few := hlk.few
    refine ⟨_, (pss_cons (ps_asg (pe_ix ix_tup (pv 1) (pv 2) (fun _ _ => rfl)) (pg_tup (by rfl) (pgs_cons (pg_name (i := 3) sc_put_ahead.nd rfl (Or.inl rfl)) (pgs_cons (pg_name (i := 4) sc_put_ahead.nd rfl (Or.inl rfl)) pgs_nil))))
      (pss_cons (ps_set (i := 5) sc_put_ahead.nd rfl (Or.inl rfl) (pe_callTy call_list_of (by rfl) T.b_list (by decide +kernel) (pa_cons (pv 1) pa_nil)))
      (pss_cons (ps_asg (pe_tup (pa_cons (pe_un un_neg (pv 3)) (pa_cons (pe_un un_neg (pv 4)) pa_nil))) (pg_sub (pv 5) (pv 2) set_list))
      (pss_cons (ps_for PassesOwn.never rfl (pi_tup (pe_ix ix_tup (pv 0) (pv 2) (fun _ _ => rfl))) (pg_tup (by rfl) (pgs_cons (pg_name (i := 6) sc_put_ahead.nd rfl (Or.inl rfl)) (pgs_cons (pg_name (i := 7) sc_put_ahead.nd rfl (Or.inl rfl)) (pgs_cons (pg_name (i := 8) sc_put_ahead.nd rfl (Or.inl rfl)) pgs_nil)))) (pss_cons (ps_asg (pe_ix ix_list (pv 5) (pv 6) (fun _ _ => rfl)) (pg_tup (by rfl) (pgs_cons (pg_name (i := 9) sc_put_ahead.nd rfl (Or.inl rfl)) (pgs_cons (pg_name (i := 10) sc_put_ahead.nd rfl (Or.inl rfl)) pgs_nil))))
      (pss_one (ps_asg (pe_tup (pa_cons (pe_op op_add (pe_op op_add (pv 9) (pe_op op_mul (pv 7) (pv 3))) (pe_op op_mul (pv 8) (pv 4))) (pa_cons (pe_op op_add (pe_op op_add (pv 10) (pe_op op_mul (pv 7) (pv 4))) (pe_op op_mul (pv 8) (pe_op op_add (pv 3) (pv 4)))) pa_nil))) (pg_sub (pv 5) (pv 6) set_list)))))
      (pss_one (ps_ret (pe_callTy call_tuple_of (by rfl) T.b_tuple (by decide +kernel) (pa_cons (pv 5) pa_nil)))))))), ?_⟩
    refine ⟨_, rfl, _, rfl, sa, sx, l, .ref xa, rfl, rfl, hsa, ixI l0 hx, _, _, rfl, hxa, rfl, _, _, rfl, _, _, rfl, rfl, ?_⟩
    refine ⟨_, rfl, sa, sx, rfl, .inr hsa, fun N nN => ?_⟩
    have sN := same_new (o := .lst sx) nN
    refine ⟨_, rfl, _, rfl, _, rfl, _, rfl, show 2 ≤ sizeLine by decide, fun t nt => ?_⟩
    have sNt := sN.trans (same_new (o := .tup [.int (-w), .int (-p)]) nt)
    have hN1 : (upd (upd H N (.lst sx)) t (.tup [.int (-w), .int (-p)])) N = some (.lst sx) := same_new nt _ _ upd_same
    refine ⟨_, rfl, _, rfl, N, sx, l, l.toNat, rfl, rfl, hN1, ixN_ok l0 (by omega), ?_⟩
    have s1 : Same H (upd (upd (upd H N (.lst sx)) t (.tup [.int (-w), .int (-p)])) N (.lst (sx.set l.toNat (.ref t)))) := same_off nN sNt off_upd
    have hy0 : TIs K (upd (upd (upd H N (.lst sx)) t (.tup [.int (-w), .int (-p)])) N (.lst (sx.set l.toNat (.ref t)))) (sx.set l.toNat (.ref t)) (st.set l.toNat [-w, -p]) :=
      (A2.set (A2.of_tis (off_upd.tis hN1 (hsx.same sNt))) (off_upd.ti hN1 ⟨t, rfl, .of upd_same⟩)).tis
    refine ⟨_, rfl, _, rfl, la, lx, l, .ref ta, rfl, rfl, sqT_same s1 hla, ixI l0 htv, ta, rfl, ⟨_, sqT_same s1 hta⟩, for_tup (K := K) (a := ta) (xs := tx) (fun i σ H' => ∃ (ys : List V) (v6 v7 v8 v9 v10 : Option V), σ = [some (.ref la), some (.ref sa), some (.int l), some (.int w), some (.int p), some (.ref N), v6, v7, v8, v9, v10] ∧ Same H H' ∧ H' N = some (.lst ys) ∧ TIs K H' ys ((lk[l.toNat].take i).foldl (step1 w p) (st.set l.toNat [-w, -p])))
      ⟨_, none, none, none, none, none, rfl, s1, upd_same, hy0⟩ (fun i σ H' _ h => by obtain ⟨_, _, _, _, _, _, _, h, _⟩ := h; exact sqT_same h hta) ?_ ?_⟩
    · rintro i x σ H2 hi ⟨ys, v6, v7, v8, v9, v10, rfl, s2, hN, hy⟩
      obtain ⟨tr, htr, tx⟩ := htx.get hi
      obtain ⟨o, m, g, rfl, o0, o1, m0, m1, g0, g1⟩ := hlk.tri _ (List.getElem_mem hlkl) _ (List.mem_of_getElem? htr)
      obtain ⟨b, rfl, hb⟩ := tx.same s2
      have hok : StOk n ((lk[l.toNat].take i).foldl (step1 w p) (st.set l.toNat [-w, -p])) := (hst.set _ _ _).fold
      obtain ⟨a1, b1, e1, e2⟩ := hok.at_ (i := o.toNat) (by omega)
      obtain ⟨z, hz, tz⟩ := (A2.of_tis hy).at_ e1
      obtain ⟨za, rfl, hza⟩ := tz
      have yl : ys.length = n := by rw [hy.len, hok.len]
      refine ⟨_, _, rfl, hb, rfl, _, _, rfl, _, _, rfl, _, _, rfl, rfl, ?_⟩
      refine ⟨_, rfl, _, rfl, N, ys, o, .ref za, rfl, rfl, .of hN, ixI o0 hz, _, _, rfl, hza, rfl, _, _, rfl, _, _, rfl, rfl, ?_⟩
      refine ⟨_, rfl, _, rfl, _, rfl, _, _, rfl, rfl, .inl ⟨by omega, by omega⟩, _, _, rfl, rfl, _, rfl, _, rfl, _, _, rfl, rfl, .inl ⟨by omega, by omega⟩, _, _, rfl, rfl, ?_⟩
      refine ⟨_, rfl, _, rfl, _, rfl, _, _, rfl, rfl, .inl ⟨by omega, by omega⟩, _, _, rfl, rfl, _, rfl, _, rfl, _, rfl, _, _, rfl, rfl, _, _, rfl, rfl, .inl ⟨by omega, by omega⟩, _, _, rfl, rfl, show 2 ≤ sizeLine by decide, fun t2 nt2 => ?_⟩
      have s3 := same_new (o := .tup [.int (a1 + m * w + g * p), .int (b1 + m * p + g * (w + p))]) nt2
      have hN3 := s3 _ _ hN
      refine ⟨_, rfl, _, rfl, N, ys, o, o.toNat, rfl, rfl, hN3, ixN_ok o0 (by omega), ?_⟩
      refine ⟨_, _, _, _, _, _, rfl, same_off nN (s2.trans s3) off_upd, upd_same, ?_⟩
      rw [take_snoc htr, List.foldl_append]
      show TIs K _ _ (step1 w p _ [o, m, g])
      rw [step1_eq e2]
      exact (A2.set (A2.of_tis (off_upd.tis hN3 (hy.same s3))) (off_upd.ti hN3 ⟨t2, rfl, .of upd_same⟩)).tis
    · rintro σ H2 ⟨ys, v6, v7, v8, v9, v10, rfl, s2, hN, hy⟩
      refine ⟨_, rfl, N, ys, rfl, .inl ⟨.of hN, fun t2 nt2 => ?_⟩⟩
      refine k _ _ (s2.trans (same_new nt2)) ⟨t2, ys, rfl, .of upd_same, ?_⟩
      have hx := hy.same (same_new (o := .tup ys) nt2)
      rw [htx.len, List.take_length] at hx
      unfold putA
      rw [hgl, hst2]
      exact hx
theorem cal_word_ahead (T : Txt K mg C) : Cal P w K mg base "word_ahead" 2 (spAhead K) := by
  refine T.d_word_ahead.cal (ps := ["links", "state", "word"]) (fun f fd D => ?_) (fun _ _ _ _ _ _ us hl => match us, hl with | [_, _, _], _ => rfl)
  refine D.ok sc_word_ahead (fun vs H Q E h => ?_) (fun cdv A outer s H vs Q E hr h => ?_)
  · obtain ⟨_, _, _, _, _, _, _, rfl, _⟩ := h
    rfl
  · obtain ⟨lv, sv, _, ws, n, lk, st, rfl, hlv, hsv, ⟨wa, rfl, hwa⟩, hlk, hst, hws, hw, k⟩ := h
    refine ⟨_, (pss_cons (ps_for PassesOwn.never rfl (pi_tup (pe_revT (pv 2))) (pg_name (i := 3) sc_word_ahead.nd rfl (Or.inl rfl)) (pss_one (ps_set (i := 1) sc_word_ahead.nd rfl (Or.inl rfl) (pe_cal (cal_put_ahead T) (hr.mono (by decide)) (by rfl) (pa_cons (pv 0) (pa_cons (pv 1) (pa_cons (pv 3) pa_nil)))))))
      (pss_one (ps_ret (pv 1)))), ?_⟩
    refine ⟨_, rfl, wa, _, rfl, hwa, fun r nr => ?_⟩
    have s1 := same_new (o := .tup (ws.map V.int).reverse) nr
    refine ⟨r, rfl, ⟨_, .of upd_same⟩, for_tup (K := K) (a := r) (xs := (ws.map V.int).reverse) (fun i σ H' => ∃ (v : V) (v3 : Option V), σ = [some lv, some v, some (.ref wa), v3] ∧ Same (upd H r (.tup (ws.map V.int).reverse)) H' ∧ BsAt K H' v ((ws.reverse.take i).foldl (putA lk) st)) ⟨sv, none, rfl, .refl _, hsv.same s1⟩ (fun i σ H' _ h => by obtain ⟨_, _, _, h, _⟩ := h; exact sqT_same h (.of upd_same)) ?_ ?_⟩
    · rintro i x σ H2 hi ⟨v, v3, rfl, s2, hb⟩
      rw [← List.map_reverse, List.getElem?_map] at hi
      obtain ⟨c, hc, rfl⟩ := Option.map_eq_some_iff.mp hi
      have hcm := hws c (List.mem_reverse.mp (List.mem_of_getElem? hc))
      refine ⟨_, rfl, _, rfl, _, rfl, lv, v, c, n, lk, _, rfl, (hlv.same s1).same s2, hb, hlk, StOk.ahead lk _ hst, hcm.1, hcm.2, fun v' H3 s3 hb3 => ?_⟩
      refine ⟨v', _, rfl, s2.trans s3, ?_⟩
      rw [take_snoc hc, List.foldl_append]
      exact hb3
    · rintro σ H2 ⟨v, v3, rfl, s2, hb⟩
      rw [List.length_reverse, List.length_map, List.take_of_length_le (by rw [List.length_reverse]; exact Nat.le_refl _)] at hb
      exact ⟨_, rfl, k _ _ (s1.trans s2) hb⟩
theorem cal_state_of (T : Txt K mg C) : Cal P w K mg base "state_of" 3 (spState K) := by
  refine T.d_state_of.cal (ps := ["links", "word"]) (fun f fd D => ?_) (fun _ _ _ _ _ _ us hl => match us, hl with | [_, _], _ => rfl)
  refine D.ok sc_state_of (fun vs H Q E h => ?_) (fun cdv A outer s H vs Q E hr h => ?_)
  · obtain ⟨_, _, _, _, _, rfl, _⟩ := h
    rfl
  · obtain ⟨lv, wv, ws, n, lk, rfl, hlv, hwv, hlk, hws, hw, k⟩ := h
    have hl := hlk.len
    have few := hlk.few
    refine ⟨_, (pss_one (ps_ret (pe_cal (cal_word_ahead T) (hr.mono (by decide)) (by rfl) (pa_cons (pv 0) (pa_cons (pe_cal (cal_first_state T) (hr.mono (by decide)) (by rfl) (pa_cons (pv 0) pa_nil)) (pa_cons (pv 1) pa_nil)))))), ?_⟩
    refine ⟨_, rfl, _, rfl, lv, lk, rfl, hlv, by omega, fun v H1 s1 hb => ?_⟩
    rw [hl] at hb
    exact ⟨_, rfl, lv, v, wv, ws, n, lk, _, rfl, hlv.same s1, hb, hwv.same s1, hlk, .first n, hws, hw, fun v' H2 s2 hb2 => k _ _ (s1.trans s2) hb2⟩
end
end Sk

namespace Gd
/-- t + p√5 above 0, by the norm -/
def Pos (t p : Int) : Prop := (5 * (p * p) < t * t ∧ 0 < t) ∨ (t * t < 5 * (p * p) ∧ 0 < p)
theorem sq_nonneg (x : Int) : 0 ≤ x * x := by
  rcases Int.le_total 0 x with h | h
  · exact Int.mul_nonneg h h
  · exact Int.mul_nonneg_of_nonpos_of_nonpos h h
theorem irr_aux : ∀ (n : Nat) (t p : Int), t.natAbs ≤ n → t * t = 5 * (p * p) → t = 0 ∧ p = 0 := by
  intro n
  induction n with
  | zero =>
    intro t p h e
    have ht : t = 0 := by omega
    subst ht
    refine ⟨rfl, ?_⟩
    have : p * p = 0 := by omega
    rcases Int.mul_eq_zero.mp this with h | h <;> exact h
  | succ n ih =>
    intro t p h e
    have h5 : t % 5 = 0 := by
      have hm : (t * t) % 5 = 0 := by omega
      rw [Int.mul_emod] at hm
      have h0 := Int.emod_nonneg t (show (5 : Int) ≠ 0 by decide)
      have h1 := Int.emod_lt_of_pos t (show (0 : Int) < 5 by decide)
      generalize t % 5 = r at *
      have : r = 0 ∨ r = 1 ∨ r = 2 ∨ r = 3 ∨ r = 4 := by omega
      rcases this with rfl | rfl | rfl | rfl | rfl <;> simp_all
    obtain ⟨k, hk⟩ : ∃ k, t = 5 * k := ⟨t / 5, by omega⟩
    subst hk
    have e2 : p * p = 5 * (k * k) := by
      have : 5 * k * (5 * k) = 25 * (k * k) := by grind
      omega
    by_cases hk0 : k = 0
    · subst hk0
      have : p * p = 0 := by omega
      rcases Int.mul_eq_zero.mp this with h | h <;> exact ⟨by omega, h⟩
    · have hp : p.natAbs ≤ n := by
        have hlt : p.natAbs < (5 * k).natAbs := by
          rcases Nat.lt_or_ge p.natAbs (5 * k).natAbs with h' | h'
          · exact h'
          · have h2 : (5 * k).natAbs * (5 * k).natAbs ≤ p.natAbs * p.natAbs := Nat.mul_le_mul h' h'
            rw [← Int.natAbs_mul, ← Int.natAbs_mul] at h2
            have e3 : 5 * k * (5 * k) = 25 * (k * k) := by grind
            rw [e3, e2] at h2
            have h3 : 0 < k * k := by
              rcases Int.lt_or_gt_of_ne hk0 with h | h
              · exact Int.mul_pos_of_neg_of_neg h h
              · exact Int.mul_pos h h
            omega
        omega
      obtain ⟨a, b⟩ := ih p k hp e2
      exact ⟨by omega, a⟩
theorem irr {t p : Int} (e : t * t = 5 * (p * p)) : t = 0 ∧ p = 0 := irr_aux _ t p (Nat.le_refl _) e
theorem sum_pos {u v : Int} (hu : 0 < u) (h : v * v < u * u) : 0 < u + v := by
  rcases Int.lt_or_le 0 (u + v) with h' | h'
  · exact h'
  · exfalso
    have h1 : u ≤ -v := by omega
    have : u * u ≤ -v * -v := Int.mul_le_mul h1 h1 (by omega) (by omega)
    have e : -v * -v = v * v := by grind
    omega
theorem mul_lt4 {a b c d : Int} (hb : 0 ≤ b) (h1 : b < a) (hd : 0 ≤ d) (h2 : d < c) : b * d < a * c := by
  have h3 : b * d ≤ b * c := Int.mul_le_mul_of_nonneg_left (by omega) hb
  have h4 : b * c < a * c := Int.mul_lt_mul_of_pos_right h1 (by omega)
  omega
theorem pos_mul {t p u q T P : Int} (hT : 2 * T = t * u + 5 * (p * q)) (hP : 2 * P = t * q + u * p) (h1 : Pos t p) (h2 : Pos u q) : Pos T P := by
  have hN : 4 * (T * T) - 20 * (P * P) = (t * t - 5 * (p * p)) * (u * u - 5 * (q * q)) := by
    have e1 : 4 * (T * T) = (2 * T) * (2 * T) := by grind
    have e2 : 20 * (P * P) = 5 * ((2 * P) * (2 * P)) := by grind
    rw [e1, e2, hT, hP]
    grind
  have p0 := sq_nonneg p
  have q0 := sq_nonneg q
  have t0 := sq_nonneg t
  have u0 := sq_nonneg u
  rcases h1 with ⟨a1, b1⟩ | ⟨a1, b1⟩ <;> rcases h2 with ⟨a2, b2⟩ | ⟨a2, b2⟩
  · refine .inl ⟨?_, ?_⟩
    · have : 0 < (t * t - 5 * (p * p)) * (u * u - 5 * (q * q)) := Int.mul_pos (by omega) (by omega)
      omega
    · have k := mul_lt4 (a := t * t) (b := 5 * (p * p)) (c := u * u) (d := 5 * (q * q)) (by omega) a1 (by omega) a2
      have := sum_pos (u := t * u) (v := 5 * (p * q)) (Int.mul_pos b1 b2) (by grind)
      omega
  · refine .inr ⟨?_, ?_⟩
    · have : (t * t - 5 * (p * p)) * (u * u - 5 * (q * q)) < 0 := Int.mul_neg_of_pos_of_neg (by omega) (by omega)
      omega
    · have k := mul_lt4 (a := t * t) (b := 5 * (p * p)) (c := 5 * (q * q)) (d := u * u) (by omega) a1 (by omega) a2
      have := sum_pos (u := t * q) (v := u * p) (Int.mul_pos b1 b2) (by grind)
      omega
  · refine .inr ⟨?_, ?_⟩
    · have : (t * t - 5 * (p * p)) * (u * u - 5 * (q * q)) < 0 := Int.mul_neg_of_neg_of_pos (by omega) (by omega)
      omega
    · have k := mul_lt4 (a := 5 * (p * p)) (b := t * t) (c := u * u) (d := 5 * (q * q)) (by omega) a1 (by omega) a2
      have := sum_pos (u := u * p) (v := t * q) (Int.mul_pos b2 b1) (by grind)
      omega
  · refine .inl ⟨?_, ?_⟩
    · have : 0 < (t * t - 5 * (p * p)) * (u * u - 5 * (q * q)) := Int.mul_pos_of_neg_of_neg (by omega) (by omega)
      omega
    · have k := mul_lt4 (a := 5 * (p * p)) (b := t * t) (c := 5 * (q * q)) (d := u * u) (by omega) a1 (by omega) a2
      have hpq : 0 < 5 * (p * q) := by
        have := Int.mul_pos b1 b2
        omega
      have := sum_pos (u := 5 * (p * q)) (v := t * u) hpq (by grind)
      omega
theorem pos_not_neg {t p : Int} (h : Pos t p) : ¬ Pos (-t) (-p) := by
  have e1 : -t * -t = t * t := by grind
  have e2 : -p * -p = p * p := by grind
  unfold Pos at *
  rw [e1, e2]
  omega
theorem pos_tri (t p : Int) : Pos t p ∨ Pos (-t) (-p) ∨ (t = 0 ∧ p = 0) := by
  have e1 : -t * -t = t * t := by grind
  have e2 : -p * -p = p * p := by grind
  unfold Pos
  rw [e1, e2]
  have p0 := sq_nonneg p
  have t0 := sq_nonneg t
  rcases Int.lt_trichotomy (t * t) (5 * (p * p)) with h | h | h
  · have : p ≠ 0 := by rintro rfl; omega
    omega
  · exact .inr (.inr (irr h))
  · have : t ≠ 0 := by rintro rfl; omega
    omega
theorem pos_zero : ¬ Pos 0 0 := by unfold Pos; omega
/-- the sign -/
noncomputable def sg (t p : Int) : Int := open Classical in if Pos t p then 1 else if Pos (-t) (-p) then -1 else 0
theorem sg_pos {t p : Int} (h : Pos t p) : sg t p = 1 := by unfold sg; rw [if_pos h]
theorem sg_neg {t p : Int} (h : Pos (-t) (-p)) : sg t p = -1 := by
  unfold sg
  rw [if_neg (fun h' => pos_not_neg h' h), if_pos h]
theorem sg_zero : sg 0 0 = 0 := by
  unfold sg
  rw [if_neg pos_zero, if_neg (by simpa using pos_zero)]
theorem sg_eq_zero {t p : Int} (h : sg t p = 0) : t = 0 ∧ p = 0 := by
  rcases pos_tri t p with h' | h' | h'
  · rw [sg_pos h'] at h; omega
  · rw [sg_neg h'] at h; omega
  · exact h'
theorem sg_cases (t p : Int) : (sg t p = 1 ∧ Pos t p) ∨ (sg t p = -1 ∧ Pos (-t) (-p)) ∨ (sg t p = 0 ∧ t = 0 ∧ p = 0) := by
  rcases pos_tri t p with h | h | ⟨rfl, rfl⟩
  · exact .inl ⟨sg_pos h, h⟩
  · exact .inr (.inl ⟨sg_neg h, h⟩)
  · exact .inr (.inr ⟨sg_zero, rfl, rfl⟩)
theorem sg_opp (t p : Int) : sg (-t) (-p) = - sg t p := by
  rcases sg_cases t p with ⟨e, h⟩ | ⟨e, h⟩ | ⟨e, rfl, rfl⟩
  · rw [e, sg_neg (by simpa using h)]
  · rw [e, sg_pos h]; rfl
  · simp [sg_zero]
theorem sg_mul {t p u q T P : Int} (hT : 2 * T = t * u + 5 * (p * q)) (hP : 2 * P = t * q + u * p) : sg T P = sg t p * sg u q := by
  rcases sg_cases t p with ⟨e, h⟩ | ⟨e, h⟩ | ⟨e, rfl, rfl⟩ <;> rcases sg_cases u q with ⟨e', h'⟩ | ⟨e', h'⟩ | ⟨e', rfl, rfl⟩
  all_goals (try rw [e]); (try rw [e'])
  · exact sg_pos (pos_mul hT hP h h')
  · exact sg_neg (pos_mul (T := -T) (P := -P) (by grind) (by grind) h h')
  · obtain rfl : T = 0 := by grind
    obtain rfl : P = 0 := by grind
    exact sg_zero
  · exact sg_neg (pos_mul (T := -T) (P := -P) (by grind) (by grind) h h')
  · exact sg_pos (pos_mul (T := T) (P := P) (by grind) (by grind) h h')
  · obtain rfl : T = 0 := by grind
    obtain rfl : P = 0 := by grind
    exact sg_zero
  · obtain rfl : T = 0 := by grind
    obtain rfl : P = 0 := by grind
    exact sg_zero
  · obtain rfl : T = 0 := by grind
    obtain rfl : P = 0 := by grind
    exact sg_zero
  · obtain rfl : T = 0 := by grind
    obtain rfl : P = 0 := by grind
    exact sg_zero
/-- the sign of whole + part s -/
noncomputable def gs (a b : Int) : Int := sg (2 * a + b) b
theorem gs_opp (a b : Int) : gs (-a) (-b) = - gs a b := by
  unfold gs
  rw [← sg_opp]
  congr 1
  omega
theorem gs_mul (a b c d : Int) : gs (a * c + b * d) (a * d + b * c + b * d) = gs a b * gs c d := by
  unfold gs
  exact sg_mul (by grind) (by grind)
theorem gs_zero {a b : Int} (h : gs a b = 0) : a = 0 ∧ b = 0 := by
  have := sg_eq_zero h
  omega
theorem gs_00 : gs 0 0 = 0 := sg_zero
theorem gs_val (a b : Int) : gs a b = 1 ∨ gs a b = -1 ∨ gs a b = 0 := by
  rcases sg_cases (2 * a + b) b with ⟨e, _⟩ | ⟨e, _⟩ | ⟨e, _⟩
  · exact .inl e
  · exact .inr (.inl e)
  · exact .inr (.inr e)
theorem gs_sq (a b : Int) : gs (a * a + b * b) (a * b + b * a + b * b) = if a = 0 ∧ b = 0 then 0 else 1 := by
  rw [gs_mul]
  split
  · rename_i h
    rw [h.1, h.2, gs_00]; rfl
  · rename_i h
    rcases gs_val a b with e | e | e
    · rw [e]; rfl
    · rw [e]; rfl
    · exact absurd (gs_zero e) h
/-- the four ways of the program's sense_of -/
theorem gs_0 {a b : Int} (h1 : 2 * a + b = 0) (h2 : b = 0) : gs a b = 0 := by
  obtain rfl : b = 0 := h2
  obtain rfl : a = 0 := by omega
  exact gs_00
theorem gs_ge {a b : Int} (h : ¬ (2 * a + b = 0 ∧ b = 0)) (h1 : 0 ≤ 2 * a + b) (h2 : 0 ≤ b) : gs a b = 1 := by
  rcases sg_cases (2 * a + b) b with ⟨e, _⟩ | ⟨e, x⟩ | ⟨e, x⟩
  · exact e
  · unfold Pos at x; omega
  · exact absurd x h
theorem gs_le {a b : Int} (h : ¬ (2 * a + b = 0 ∧ b = 0)) (h1 : 2 * a + b ≤ 0) (h2 : b ≤ 0) : gs a b = -1 := by
  rcases sg_cases (2 * a + b) b with ⟨e, x⟩ | ⟨e, x⟩ | ⟨e, x⟩
  · unfold Pos at x; omega
  · exact e
  · exact absurd x h
theorem gs_mix {a b : Int} (h : ¬ (2 * a + b = 0 ∧ b = 0)) (h1 : ¬ (0 ≤ 2 * a + b ∧ 0 ≤ b)) (h2 : ¬ (2 * a + b ≤ 0 ∧ b ≤ 0)) :
    gs a b = if (decide ((2 * a + b) * (2 * a + b) > 5 * b * b) == decide (2 * a + b > 0)) = true then 1 else -1 := by
  have e5 : 5 * b * b = 5 * (b * b) := Int.mul_assoc _ _ _
  rw [e5]
  have hn : (2 * a + b) * (2 * a + b) ≠ 5 * (b * b) := fun q => h (irr q)
  have ee : -(2 * a + b) * -(2 * a + b) = (2 * a + b) * (2 * a + b) := by grind
  have eb : -b * -b = b * b := by grind
  rcases sg_cases (2 * a + b) b with ⟨e, x⟩ | ⟨e, x⟩ | ⟨e, x⟩
  · unfold gs
    rw [e]
    unfold Pos at x
    rw [if_pos]
    by_cases hg : 2 * a + b > 0 <;> by_cases hh : (2 * a + b) * (2 * a + b) > 5 * (b * b) <;> simp [hg, hh] <;> omega
  · unfold gs
    rw [e]
    unfold Pos at x
    rw [ee, eb] at x
    rw [if_neg]
    by_cases hg : 2 * a + b > 0 <;> by_cases hh : (2 * a + b) * (2 * a + b) > 5 * (b * b) <;> simp [hg, hh] <;> omega
  · exact absurd x h
/-- the law's own, by a root r of 5 b b -/
theorem sq_le {x y : Int} (h0 : 0 ≤ x) (h : x ≤ y) : x * x ≤ y * y := Int.mul_le_mul h h h0 (by omega)
theorem gs_root_pos {a b r : Int} (hb : 0 < b) (h0 : 0 ≤ r) (h1 : r * r ≤ 5 * b * b) (h2 : 5 * b * b < (r + 1) * (r + 1)) : gs a b = if 2 * a + b ≥ 0 - r then 1 else -1 := by
  rw [Int.mul_assoc] at h1 h2
  have hn : (2 * a + b) * (2 * a + b) ≠ 5 * (b * b) := fun q => by have := (irr q).2; omega
  have ee : -(2 * a + b) * -(2 * a + b) = (2 * a + b) * (2 * a + b) := by grind
  split
  · rename_i h
    unfold gs
    refine sg_pos ?_
    unfold Pos
    by_cases hp : 0 < 2 * a + b
    · rcases Int.lt_or_gt_of_ne hn with h' | h'
      · exact .inr ⟨h', hb⟩
      · exact .inl ⟨h', hp⟩
    · have := sq_le (x := -(2 * a + b)) (y := r) (by omega) (by omega)
      rw [ee] at this
      exact .inr ⟨by omega, hb⟩
  · rename_i h
    unfold gs
    refine sg_neg (.inl ⟨?_, by omega⟩)
    have := sq_le (x := r + 1) (y := -(2 * a + b)) (by omega) (by omega)
    have eb : -b * -b = b * b := by grind
    rw [eb]
    omega
theorem gs_root_neg {a b r : Int} (hb : b < 0) (h0 : 0 ≤ r) (h1 : r * r ≤ 5 * b * b) (h2 : 5 * b * b < (r + 1) * (r + 1)) : gs a b = if 2 * a + b > r then 1 else -1 := by
  rw [Int.mul_assoc] at h1 h2
  have hn : (2 * a + b) * (2 * a + b) ≠ 5 * (b * b) := fun q => by have := (irr q).2; omega
  have ee : -(2 * a + b) * -(2 * a + b) = (2 * a + b) * (2 * a + b) := by grind
  have eb : -b * -b = b * b := by grind
  split
  · rename_i h
    unfold gs
    have := sq_le (x := r + 1) (y := (2 * a + b)) (by omega) (by omega)
    exact sg_pos (.inl ⟨by omega, by omega⟩)
  · rename_i h
    unfold gs
    refine sg_neg ?_
    unfold Pos
    rw [ee, eb]
    by_cases hp : 0 < 2 * a + b
    · have := sq_le (x := (2 * a + b)) (y := r) (by omega) (by omega)
      exact .inr ⟨by omega, by omega⟩
    · rcases Int.lt_or_gt_of_ne hn with h' | h'
      · exact .inr ⟨h', by omega⟩
      · refine .inl ⟨h', ?_⟩
        have : 2 * a + b ≠ 0 := fun q => by rw [q] at h'; have := sq_nonneg b; omega
        omega
theorem gs_part0 (a : Int) : gs a 0 = (if 0 < a then 1 else 0) - (if a < 0 then 1 else 0) := by
  rcases Int.lt_trichotomy 0 a with h | h | h
  · rw [gs_ge (by omega) (by omega) (by omega), if_pos h, if_neg (by omega)]; rfl
  · subst h; rw [gs_00]; rfl
  · rw [gs_le (by omega) (by omega) (by omega), if_neg (by omega), if_pos h]; rfl
theorem norm_mul (a b c d : Int) : (a * c + b * d) * (a * c + b * d) + (a * c + b * d) * (a * d + b * c + b * d) - (a * d + b * c + b * d) * (a * d + b * c + b * d)
    = (a * a + a * b - b * b) * (c * c + c * d - d * d) := by grind
/-- the same by tests, for the walk -/
def gsI (a b : Int) : Int := if 2 * a + b = 0 ∧ b = 0 then 0 else if 0 ≤ 2 * a + b ∧ 0 ≤ b then 1 else if 2 * a + b ≤ 0 ∧ b ≤ 0 then -1
  else if (decide ((2 * a + b) * (2 * a + b) > 5 * b * b) == decide (2 * a + b > 0)) = true then 1 else -1
theorem gsI_eq (a b : Int) : gsI a b = gs a b := by
  unfold gsI
  split
  · rename_i h; exact (gs_0 h.1 h.2).symm
  · rename_i h
    split
    · rename_i h1; exact (gs_ge h h1.1 h1.2).symm
    · rename_i h1
      split
      · rename_i h2; exact (gs_le h h2.1 h2.2).symm
      · rename_i h2; exact (gs_mix h h1 h2).symm
end Gd
namespace Gd
theorem gsI_self (a b : Int) : gsI (a - a) (b - b) = 0 := by
  rw [Int.sub_self, Int.sub_self]; rfl
theorem cnt3 (a b c d : Int) : ([decide (0 < gsI (c - a) (d - b)), decide (0 < gsI (a - c) (b - d)), decide (a = c) && decide (b = d)].count true) = 1 := by
  have e : gsI (a - c) (b - d) = - gsI (c - a) (d - b) := by
    rw [gsI_eq, gsI_eq, ← gs_opp]
    congr 1 <;> omega
  rw [e, gsI_eq]
  rcases gs_val (c - a) (d - b) with h | h | h
  · have : ¬ (a = c ∧ b = d) := by
      rintro ⟨rfl, rfl⟩
      rw [Int.sub_self, Int.sub_self, gs_00] at h
      omega
    rw [h, ← Bool.decide_and, decide_eq_false this]
    decide
  · have : ¬ (a = c ∧ b = d) := by
      rintro ⟨rfl, rfl⟩
      rw [Int.sub_self, Int.sub_self, gs_00] at h
      omega
    rw [h, ← Bool.decide_and, decide_eq_false this]
    decide
  · have z := gs_zero h
    have : (a = c ∧ b = d) := by omega
    rw [h, ← Bool.decide_and, decide_eq_true this]
    decide
theorem less_sq (a b c d e f : Int) : decide (0 < gsI (c * (e * e + f * f) + d * (e * f + f * e + f * f) - (a * (e * e + f * f) + b * (e * f + f * e + f * f)))
    (c * (e * f + f * e + f * f) + d * (e * e + f * f) + d * (e * f + f * e + f * f) - (a * (e * f + f * e + f * f) + b * (e * e + f * f) + b * (e * f + f * e + f * f))))
    = (decide (0 < gsI (c - a) (d - b)) && (decide (e ≠ 0) || decide (f ≠ 0))) := by
  rw [gsI_eq, gsI_eq]
  have h := gs_mul (c - a) (d - b) (e * e + f * f) (e * f + f * e + f * f)
  rw [gs_sq] at h
  rw [show c * (e * e + f * f) + d * (e * f + f * e + f * f) - (a * (e * e + f * f) + b * (e * f + f * e + f * f)) = (c - a) * (e * e + f * f) + (d - b) * (e * f + f * e + f * f) by grind,
    show c * (e * f + f * e + f * f) + d * (e * e + f * f) + d * (e * f + f * e + f * f) - (a * (e * f + f * e + f * f) + b * (e * e + f * f) + b * (e * f + f * e + f * f)) = (c - a) * (e * f + f * e + f * f) + (d - b) * (e * e + f * f) + (d - b) * (e * f + f * e + f * f) by grind, h]
  by_cases z : e = 0 ∧ f = 0
  · rw [if_pos z, z.1, z.2]
    simp
  · rw [if_neg z, Int.mul_one]
    have : (decide (e ≠ 0) || decide (f ≠ 0)) = true := by
      by_cases z1 : e = 0 <;> by_cases z2 : f = 0 <;> simp_all
    rw [this, Bool.and_true]
theorem sense_mul (a b c d : Int) : gsI (a * c + b * d) (a * d + b * c + b * d) = gsI a b * gsI c d := by
  rw [gsI_eq, gsI_eq, gsI_eq, gs_mul]
end Gd

namespace Sk
open PySem L2 Ow
def B (n : Nat) (i : Int) : Prop := i.natAbs < 2 ^ n
theorem B.mono {n m : Nat} {i : Int} (h : B n i) (k : n ≤ m) : B m i := Nat.lt_of_lt_of_le h (Nat.pow_le_pow_right (by decide) k)
theorem B.mul {n m : Nat} {i j : Int} (h : B n i) (k : B m j) : B (n + m) (i * j) := wide_lt h k
theorem B.add {n : Nat} {i j : Int} (h : B n i) (k : B n j) : B (n + 1) (i + j) := by
  unfold B at *
  rw [Nat.pow_succ]
  omega
theorem B.sub {n : Nat} {i j : Int} (h : B n i) (k : B n j) : B (n + 1) (i - j) := by
  unfold B at *
  rw [Nat.pow_succ]
  omega
theorem B.neg {n : Nat} {i : Int} (h : B n i) : B n (-i) := by
  unfold B at *
  omega
theorem B.ok {n m : Nat} {i j : Int} (h : B n i) (k : B m j) (hn : 0 < n := by decide) (hm : 0 < m := by decide) (hs : n + m ≤ 1000000 := by decide) : CMulW i j := wide_mul h k hn hm hs
theorem B.lit {n : Nat} (i : Int) (h : i.natAbs < 2 ^ n := by decide) : B n i := h

theorem ite_and {c d : Bool} {A B X Y : Prop} (hx : (if d = true then A else B) → X) (hy : B → Y) (h1 : c = true → d = true → A) (h2 : ¬ (c = true ∧ d = true) → B) : if c = true then X else Y := by
  cases c with
  | false => exact iteF (hy (h2 fun z => Bool.noConfusion z.1))
  | true =>
    refine iteT (hx ?_)
    cases d with
    | false => exact iteF (h2 fun z => Bool.noConfusion z.2)
    | true => exact iteT (h1 rfl rfl)
theorem vi_eq {i j : Int} (h : decide (V.int i = V.int j) = true) : i = j := V.int.inj (of_decide_eq_true h)
theorem vi_of {i j : Int} (h : i = j) : decide (V.int i = V.int j) = true := decide_eq_true (by rw [h])

def spSenseOf : Sp := fun vs H Q _ => ∃ a b : Int, vs = [.int a, .int b] ∧ B 1000 a ∧ B 1000 b ∧ Q (.int (Gd.gsI a b)) H
/-- below 0, of a number's two whole numbers -/
def bel (x : List Int) : Bool := if x.getD 1 0 = 0 then decide (x.getD 0 0 < 0) else decide (Gd.gsI (x.getD 0 0) (x.getD 1 0) < 0)
def FineN (x : List Int) : Prop := x.getD 1 0 = 0 ∨ (B 1000 (x.getD 0 0) ∧ B 1000 (x.getD 1 0))
def Fine (st : List (List Int)) : Prop := ∀ x ∈ st, FineN x
def lefts (st : List (List Int)) : List Int := (upto st.length).filter fun i => bel (st.getD i.toNat [])
def lenAt (H : Hp) (l : Addr) : Nat := match H l with
  | some (.lst xs) => xs.length
  | _ => 0
/-- the letters that are taken, one behind the other, until none is left -/
inductive Runs (lk : List (List (List Int))) : List (List Int) → List Int → Prop
  | done {st : List (List Int)} : Fine st → lefts st = [] → Runs lk st []
  | step {st : List (List Int)} {l : Int} {r ws : List Int} : Fine st → lefts st = l :: r → Runs lk (putA lk st l) ws → Runs lk st (l :: ws)
theorem Runs.fine {lk : List (List (List Int))} {st : List (List Int)} {ws : List Int} (h : Runs lk st ws) : Fine st := by cases h <;> assumption
def spBelow (K : PySem.W.Frag) : Sp := fun vs H Q _ => ∃ (v : V) (x : List Int), vs = [v] ∧ TI K H v x ∧ x.length = 2 ∧ FineN x ∧ Q (.bl (bel x)) H
def spLeft (K : PySem.W.Frag) : Sp := fun vs H Q _ => ∃ (v : V) (st : List (List Int)) (n : Nat), vs = [v] ∧ BsAt K H v st ∧ StOk n st ∧ n ≤ 100 ∧ Fine st ∧ ∀ a H', Same H H' → H a = none → H' a = some (.lst ((lefts st).map V.int)) → Q (.ref a) H'
def spNormalOf (K : PySem.W.Frag) : Sp := fun vs H Q _ => ∃ (lv sv : V) (n : Nat) (lk : List (List (List Int))) (st : List (List Int)) (ws : List Int), vs = [lv, sv] ∧ LkAt K H lv lk ∧ BsAt K H sv st ∧ LkOk n lk ∧ StOk n st ∧ Runs lk st ws ∧ ws.length ≤ 1000 ∧
  ∀ v H', Same H H' → TI K H' v ws → Q v H'
def spNormalW (K : PySem.W.Frag) : Sp := fun vs H Q _ => ∃ (lv wv : V) (n : Nat) (lk : List (List (List Int))) (us ws : List Int), vs = [lv, wv] ∧ LkAt K H lv lk ∧ TI K H wv us ∧ LkOk n lk ∧ (∀ x ∈ us, 0 ≤ x ∧ x < n) ∧ us.length ≤ 1000 ∧ Runs lk (aheadW lk (first n) us) ws ∧ ws.length ≤ 1000 ∧
  ∀ v H', Same H H' → TI K H' v ws → Q v H'
section
variable {P : Program} {w : World} {K : PySem.W.Frag} {mg : Str → Option Value} {base : Heap} {C : Addr}
theorem cal_sense_of (T : Txt K mg C) : Cal P w K mg base "sense_of" 1 spSenseOf := by
  refine T.d_sense_of.cal (ps := ["whole", "part"]) (fun f fd D => ?_) (fun _ _ _ _ _ _ us hl => match us, hl with | [_, _], _ => rfl)
  refine D.ok sc_sense_of (fun vs H Q E h => ?_) (fun cdv A outer s H vs Q E hr h => ?_)
  · obtain ⟨a, b, rfl, _⟩ := h
    rfl
  · obtain ⟨a, b, rfl, ha, hb, q⟩ := h
    refine ⟨_, (pss_cons (ps_set (i := 2) sc_sense_of.nd rfl (Or.inl rfl) (pe_op op_add (pe_op op_mul pe_int (pv 0)) (pv 1)))
      (pss_cons (ps_if (PW.pt (pw_and (pt_cmpR op_eq (pv 2) pe_int (nomark _)) (pw_and1 (pt_cmpR op_eq (pv 1) pe_int (nomark _))))) (pss_one (ps_ret pe_int)) pss_nil)
      (pss_cons (ps_if (PW.pt (pw_and (pt_cmpR op_ge (pv 2) pe_int (nomark _)) (pw_and1 (pt_cmpR op_ge (pv 1) pe_int (nomark _))))) (pss_one (ps_ret pe_int)) pss_nil)
      (pss_cons (ps_if (PW.pt (pw_and (pt_cmpR op_le (pv 2) pe_int (nomark _)) (pw_and1 (pt_cmpR op_le (pv 1) pe_int (nomark _))))) (pss_one (ps_ret (pe_un un_neg pe_int))) pss_nil)
      (pss_cons (ps_set (i := 3) sc_sense_of.nd rfl (Or.inl rfl) (pe_cmpR op_gt (pe_op op_mulW (pv 2) (pv 2)) (pe_op op_mulW (pe_op op_mul pe_int (pv 1)) (pv 1)) (nomark _)))
      (pss_one (ps_ret (pe_ifExp (pt_cmpR op_eq (pv 3) (pe_cmpR op_gt (pv 2) pe_int (nomark _)) (nomark _)) pe_int (pe_un un_neg pe_int))))))))), ?_⟩
    refine ⟨_, rfl, _, _, rfl, rfl, .inl ⟨by decide, by decide⟩, _, rfl, _, _, rfl, rfl, ?_⟩
    refine ⟨_, rfl, rfl, _, rfl, ite_and (fun z => ⟨_, rfl, rfl, _, rfl, z⟩) (fun z => iteF z) (fun h1 h2 => ?_) (fun n1 => ?_)⟩
    · have e : Gd.gsI a b = 0 := by
        unfold Gd.gsI
        rw [if_pos ⟨vi_eq h1, vi_eq h2⟩]
      rw [e] at q
      exact q
    have m1 : ¬ (2 * a + b = 0 ∧ b = 0) := fun z => n1 ⟨vi_of z.1, vi_of z.2⟩
    refine ⟨_, rfl, _, _, rfl, rfl, _, rfl, ite_and (fun z => ⟨_, rfl, _, _, rfl, rfl, _, rfl, z⟩) (fun z => iteF z) (fun h1 h2 => ?_) (fun n2 => ?_)⟩
    · have e : Gd.gsI a b = 1 := by
        unfold Gd.gsI
        rw [if_neg m1, if_pos ⟨of_decide_eq_true h1, of_decide_eq_true h2⟩]
      rw [e] at q
      exact q
    have m2 : ¬ (0 ≤ 2 * a + b ∧ 0 ≤ b) := fun z => n2 ⟨decide_eq_true z.1, decide_eq_true z.2⟩
    refine ⟨_, rfl, _, _, rfl, rfl, _, rfl, ite_and (fun z => ⟨_, rfl, _, _, rfl, rfl, _, rfl, z⟩) (fun z => iteF z) (fun h1 h2 => ?_) (fun n3 => ?_)⟩
    · have e : Gd.gsI a b = -1 := by
        unfold Gd.gsI
        rw [if_neg m1, if_neg m2, if_pos ⟨of_decide_eq_true h1, of_decide_eq_true h2⟩]
      rw [e] at q
      exact ⟨_, rfl, q⟩
    have m3 : ¬ (2 * a + b ≤ 0 ∧ b ≤ 0) := fun z => n3 ⟨decide_eq_true z.1, decide_eq_true z.2⟩
    have bt : B 1003 (2 * a + b) := ((B.lit (n := 2) 2).mul ha : B 1002 (2 * a)).add (hb.mono (by decide))
    have b5 : B 1003 (5 * b) := (B.lit (n := 3) 5).mul hb
    refine ⟨_, rfl, _, rfl, _, _, rfl, rfl, bt.ok bt, _, rfl, _, _, rfl, rfl, .inl ⟨by decide, by decide⟩, _, rfl, _, _, rfl, rfl, b5.ok hb, _, _, rfl, rfl, ?_⟩
    refine ⟨_, rfl, _, rfl, _, _, rfl, rfl, rfl, _, rfl, ?_⟩
    have e : Gd.gsI a b = if (decide ((2 * a + b) * (2 * a + b) > 5 * b * b) == decide (2 * a + b > 0)) = true then 1 else -1 := by
      unfold Gd.gsI
      rw [if_neg m1, if_neg m2, if_neg m3]
    refine ite2 (fun h => ?_) (fun h => ?_)
    · rw [e, if_pos (by rw [← dec_bl]; exact h)] at q
      exact q
    · rw [e, if_neg (by rw [← dec_bl]; exact h)] at q
      exact ⟨_, rfl, q⟩
theorem cal_is_below (T : Txt K mg C) : Cal P w K mg base "is_below" 2 (spBelow K) := by
  refine T.d_is_below.cal (ps := ["number"]) (fun f fd D => ?_) (fun _ _ _ _ _ _ us hl => match us, hl with | [_], _ => rfl)
  refine D.ok sc_is_below (fun vs H Q E h => ?_) (fun cdv A outer s H vs Q E hr h => ?_)
  · obtain ⟨_, _, rfl, _⟩ := h
    rfl
  · obtain ⟨_, x, rfl, ⟨a, rfl, ha⟩, hl, hf, k⟩ := h
    rcases x with _ | ⟨w1, _ | ⟨p1, _ | ⟨z, x⟩⟩⟩
    · simp at hl
    · simp at hl
    · refine ⟨_, (pss_cons (ps_asg (pv 0) (pg_tup (by rfl) (pgs_cons (pg_name (i := 1) sc_is_below.nd rfl (Or.inl rfl)) (pgs_cons (pg_name (i := 2) sc_is_below.nd rfl (Or.inl rfl)) pgs_nil))))
      (pss_one (ps_ret (pe_ifExp (pt_cmpR op_eq (pv 2) pe_int (nomark _)) (pe_cmpR op_lt (pv 1) pe_int (nomark _)) (pe_cmpR op_lt (pe_cal (cal_sense_of T) (hr.mono (by decide)) (by rfl) (pa_cons (pv 1) (pa_cons (pv 2) pa_nil))) pe_int (nomark _)))))), ?_⟩
      refine ⟨_, rfl, _, _, rfl, ha, rfl, _, _, rfl, _, _, rfl, rfl, ?_⟩
      refine ⟨_, rfl, rfl, _, rfl, ite2 (fun c => ?_) (fun c => ?_)⟩
      · refine ⟨_, rfl, _, _, rfl, rfl, ?_⟩
        have e : bel [w1, p1] = decide (w1 < 0) := if_pos (vi_eq c)
        rw [e] at k
        exact k
      · have np : p1 ≠ 0 := fun e => c (vi_of e)
        have e : bel [w1, p1] = decide (Gd.gsI w1 p1 < 0) := if_neg np
        rcases hf with hf | ⟨h1, h2⟩
        · exact absurd hf np
        · rw [e] at k
          exact ⟨_, rfl, _, rfl, w1, p1, rfl, h1, h2, _, _, rfl, rfl, k⟩
    · simp at hl
theorem cal_left_of (T : Txt K mg C) : Cal P w K mg base "left_of" 3 (spLeft K) := by
  refine T.d_left_of.cal (ps := ["state"]) (fun f fd D => ?_) (fun _ _ _ _ _ _ us hl => match us, hl with | [_], _ => rfl)
  refine D.ok sc_left_of (fun vs H Q E h => ?_) (fun cdv A outer s H vs Q E hr h => ?_)
  · obtain ⟨_, _, _, rfl, _⟩ := h
    rfl
  · obtain ⟨_, st, n, rfl, ⟨a, xs, rfl, ha, hx⟩, hst, few, fine, k⟩ := h
    have hxl := hx.len
    have sl := hst.len
    refine ⟨_, (pss_one (ps_ret (pe_lc (own := [("letter", 1), ("number", 2)]) (g := gTup K 2 (gCons (gName 1) (gCons (gName 2) (gNil)))) rfl sc_left_of.nd (pi_enumT (by rfl) T.b_enumerate (pa_cons (pv 0) pa_nil)) (blkOk_by (own := [("letter", 1), ("number", 2)]) (N := ["state", "letter", "number"]) (sc := defScope s_left_of) (by decide +kernel)) (fun _ _ _ _ _ => (pg_tup (by rfl) (pgs_cons (pg_name (i := 1) sc_left_of.nd rfl (Or.inl rfl)) (pgs_cons (pg_name (i := 2) sc_left_of.nd rfl (Or.inl rfl)) pgs_nil)))) (fun _ _ _ _ _ => (pts_one (pt_val (pe_cal (cal_is_below T) (hr.mono (by decide)) (by rfl) (pa_cons (pv 2) pa_nil))))) (fun _ _ _ _ _ => (pv 1))))), ?_⟩
    refine ⟨_, rfl, a, _, rfl, ha, fun D nD => lc_it (walk_enumT (K := K) (a := a) (xs := xs)) (fun i H' => Same H H' ∧ H' D = some (.lst ((((upto st.length).take i).filter fun i => bel (st.getD i.toNat [])).map V.int))) ⟨same_new nD, upd_same⟩ (fun i H' _ h => sqT_same h.1 ha) ?_ ?_⟩
    · rintro i x H4 H5 hi ⟨s4, hD⟩ ⟨q, x1, x2, rfl, nq, rfl, e1, e2⟩
      obtain rfl : x1 = .int (i : Nat) := (Option.some.inj e1).symm
      obtain ⟨y, hy, ty⟩ := hx.get e2
      have s5 := s4.trans (same_new (o := .tup [.int (i : Nat), x2]) nq)
      have hD5 := same_new (o := .tup [.int (i : Nat), x2]) nq _ _ hD
      obtain ⟨ww, pp, ey⟩ := hst.two y (List.mem_of_getElem? hy)
      have il : i < ((st.length : Nat) : Int).toNat := by
        have := (List.getElem?_eq_some_iff.mp hy).1
        omega
      have hg := upto_get il
      rw [show (0 : Int) + (i : Nat) = (i : Nat) by omega] at hg
      have gd : st.getD ((i : Nat) : Int).toNat [] = y := by
        rw [show ((i : Nat) : Int).toNat = i by omega, List.getD_eq_getElem?_getD, hy]
        rfl
      have hlen : (((upto st.length).take i).filter fun i => bel (st.getD i.toNat [])).length ≤ 100 := Nat.le_trans (List.length_filter_le _ _) (by rw [List.length_take, upto_length]; omega)
      refine ⟨_, _, rfl, .of upd_same, rfl, _, _, rfl, _, _, rfl, rfl, rfl, ?_⟩
      refine ⟨_, rfl, x2, y, rfl, ty.same s5, by rw [ey]; rfl, fine y (List.mem_of_getElem? hy), _, rfl, ite2 (fun c => ?_) (fun c => ?_)⟩
      · refine ⟨_, rfl, _, hD5, small1000 (by rw [List.length_map]; omega), same_off nD s5 off_upd, ?_⟩
        rw [upd_same, take_snoc hg, List.filter_append, List.filter_cons_of_pos (p := fun i : Int => bel (st.getD i.toNat [])) (by rw [gd]; exact c), List.filter_nil, List.map_append]
        rfl
      · refine ⟨s5, ?_⟩
        rw [take_snoc hg, List.filter_append, List.filter_cons_of_neg (p := fun i : Int => bel (st.getD i.toNat [])) (by rw [gd]; exact c), List.filter_nil, List.append_nil]
        exact hD5
    · rintro H4 ⟨s4, hD⟩
      rw [List.take_of_length_le (by rw [upto_length]; omega)] at hD
      exact k _ _ s4 nD hD
theorem lefts_in {n : Nat} {st : List (List Int)} (h : StOk n st) {l : Int} (hl : l ∈ lefts st) : 0 ≤ l ∧ l < n := by
  unfold lefts at hl
  have := mem_upto.mp (List.mem_filter.mp hl).1
  rw [h.len] at this
  exact this
theorem cal_normal_of (T : Txt K mg C) : Cal P w K mg base "normal_of" 4 (spNormalOf K) := by
  refine T.d_normal_of.cal (ps := ["links", "state"]) (fun f fd D => ?_) (fun _ _ _ _ _ _ us hl => match us, hl with | [_, _], _ => rfl)
  refine D.ok sc_normal_of (fun vs H Q E h => ?_) (fun cdv A outer s H vs Q E hr h => ?_)
  · obtain ⟨_, _, _, _, _, _, rfl, _⟩ := h
    rfl
  · obtain ⟨lv, sv, n, lk, st, ws, rfl, hlv, hsv, hlk, hst, hrun, hws, k⟩ := h
    have few := hlk.few
    refine ⟨_, (pss_cons (ps_set (i := 2) sc_normal_of.nd rfl (Or.inl rfl) (pe_lst pa_nil))
      (pss_cons (ps_set (i := 3) sc_normal_of.nd rfl (Or.inl rfl) (pe_cal (cal_left_of T) (hr.mono (by decide)) (by rfl) (pa_cons (pv 1) pa_nil)))
      (pss_cons (ps_while PassesOwn.never (pt_truth (pv 3) (by intro _; rfl)) (pss_cons (ps_expr (pe_bm PySem.F.plainAttrs_list PySem.F.slot_list_append PySem.F.type_list_append mt_append (pv 2) (pa_cons (pe_ix ix_list (pv 3) pe_int (fun _ _ => rfl)) pa_nil)))
      (pss_cons (ps_set (i := 1) sc_normal_of.nd rfl (Or.inl rfl) (pe_cal (cal_put_ahead T) (hr.mono (by decide)) (by rfl) (pa_cons (pv 0) (pa_cons (pv 1) (pa_cons (pe_ix ix_list (pv 3) pe_int (fun _ _ => rfl)) pa_nil)))))
      (pss_one (ps_set (i := 3) sc_normal_of.nd rfl (Or.inl rfl) (pe_cal (cal_left_of T) (hr.mono (by decide)) (by rfl) (pa_cons (pv 1) pa_nil)))))))
      (pss_one (ps_ret (pe_callTy call_tuple_of (by rfl) T.b_tuple (by decide +kernel) (pa_cons (pv 2) pa_nil))))))), ?_⟩
    refine ⟨Nat.zero_le _, fun g ng => ?_⟩
    have s1 := same_new (o := .lst []) ng
    refine ⟨_, rfl, sv, st, n, rfl, hsv.same s1, hst, few, hrun.fine, fun a H2 s2 na ha => ?_⟩
    dsimp only [gName, tSeq]
    refine while_by (fun σ H' => ∃ (sv' : V) (fa : Addr) (st' : List (List Int)) (us rs : List Int), σ = [some lv, some sv', some (.ref g), some (.ref fa)] ∧ Same H H' ∧ BsAt K H' sv' st' ∧ StOk n st' ∧ H' g = some (.lst (us.map V.int)) ∧ H' fa = some (.lst ((lefts st').map V.int)) ∧ fa ≠ g ∧ Runs lk st' rs ∧ us ++ rs = ws) (fun _ H' => 1000 - lenAt H' g) ?_ ?_ ?_
    · exact ⟨sv, a, st, [], ws, rfl, s1.trans s2, (hsv.same s1).same s2, hst, s2 _ _ upd_same, ha, (ne_of_none (upd_same (H := H) (o := .lst [])) na).symm, hrun, rfl⟩
    · rintro _ H3 ⟨sv', fa, st', us, rs, rfl, s3, hb, hok, hg, hf, nfg, hr', rfl⟩
      rw [List.length_append] at hws
      refine ⟨_, rfl, _, .inl ⟨_, .of hf, rfl⟩, ?_⟩
      cases hr' with
      | done fine hl =>
        rw [hl] at hf ⊢
        refine iteF ⟨_, rfl, g, _, rfl, .inl ⟨.of hg, fun t nt => ?_⟩⟩
        rw [List.append_nil] at k
        exact k _ _ (s3.trans (same_new nt)) ⟨t, rfl, .of upd_same⟩
      | @step _ l r rs fine hl hr' =>
        have hin := lefts_in hok (l := l) (by rw [hl]; simp)
        rw [hl] at hf ⊢
        simp only [List.length_cons] at hws
        refine iteT ?_
        refine ⟨_, rfl, .inl ⟨rfl, _, .of hg⟩, ?_⟩
        refine ⟨_, rfl, _, _, _, _, rfl, rfl, .of hf, at_of (j := 0) rfl rfl, g, _, _, rfl, rfl, hg, by rw [List.length_map]; exact small1000 (by omega), ?_⟩
        have so : Off g H3 (upd H3 g (.lst (us.map V.int ++ [.int l]))) := off_upd
        have sH : Same H (upd H3 g (.lst (us.map V.int ++ [.int l]))) := same_off ng s3 so
        obtain ⟨sb, sy, rfl, hsb, hsy⟩ := hb
        have hb4 : BsAt K (upd H3 g (.lst (us.map V.int ++ [.int l]))) (.ref sb) st' := so.bs hg ⟨sb, sy, rfl, hsb, hsy⟩
        have hf4 := so _ _ nfg hf
        refine ⟨_, rfl, _, rfl, _, rfl, _, _, _, _, rfl, rfl, .of hf4, at_of (j := 0) rfl rfl, lv, .ref sb, l, n, lk, st', rfl, hlv.same sH, hb4, hlk, hok, hin.1, hin.2, fun v H5 s5 hb5 => ?_⟩
        refine ⟨_, rfl, v, _, n, rfl, hb5, hok.put lk l, few, hr'.fine, fun a6 H6 s6 n6 ha6 => ?_⟩
        have hg6 : H6 g = some (.lst ((us ++ [l]).map V.int)) := by
          have := s6 _ _ (s5 _ _ (upd_same (H := H3) (a := g) (o := .lst (us.map V.int ++ [.int l]))))
          rw [List.map_append]
          exact this
        refine ⟨⟨v, a6, _, us ++ [l], rs, rfl, (sH.trans s5).trans s6, hb5.same s6, hok.put lk l, hg6, ha6, (ne_of_none (s5 _ _ upd_same) n6).symm, hr', by simp⟩, ?_⟩
        unfold lenAt
        rw [hg6, hg]
        simp only [List.length_map, List.length_append, List.length_cons, List.length_nil]
        omega
    · rintro σ H Q Q' hq ⟨v, hv, k, h1, h2⟩
      exact ⟨v, hv, k, h1, hq _ _ h2⟩
theorem cal_normal_word (T : Txt K mg C) : Cal P w K mg base "normal_word" 5 (spNormalW K) := by
  refine T.d_normal_word.cal (ps := ["links", "word"]) (fun f fd D => ?_) (fun _ _ _ _ _ _ us hl => match us, hl with | [_, _], _ => rfl)
  refine D.ok sc_normal_word (fun vs H Q E h => ?_) (fun cdv A outer s H vs Q E hr h => ?_)
  · obtain ⟨_, _, _, _, _, _, rfl, _⟩ := h
    rfl
  · obtain ⟨lv, wv, n, lk, us, ws, rfl, hlv, hwv, hlk, hus, hul, hrun, hws, k⟩ := h
    refine ⟨_, (pss_one (ps_ret (pe_cal (cal_normal_of T) (hr.mono (by decide)) (by rfl) (pa_cons (pv 0) (pa_cons (pe_cal (cal_state_of T) (hr.mono (by decide)) (by rfl) (pa_cons (pv 0) (pa_cons (pv 1) pa_nil))) pa_nil))))), ?_⟩
    refine ⟨_, rfl, _, rfl, _, rfl, lv, wv, us, n, lk, rfl, hlv, hwv, hlk, hus, hul, fun v H1 s1 hb => ?_⟩
    exact ⟨lv, v, n, lk, _, ws, rfl, hlv.same s1, hb, hlk, StOk.ahead lk _ (.first n), hrun, hws, fun v' H2 s2 t => k _ _ (s1.trans s2) t⟩
end
end Sk

namespace Sk
open PySem L2 Ow
/-- the state of a word -/
def stOf (bs : List (List Int)) (n : Int) (ws : List Int) : List (List Int) := aheadW (lkOf bs n) (first n.toNat) ws
/-- the word is the normal one -/
def Nw (bs : List (List Int)) (n : Int) (ws us : List Int) : Prop := Runs (lkOf bs n) (stOf bs n ws) us
def SyW (K : PySem.W.Frag) (C : Addr) (H : Hp) (sv wv : V) (n : Int) (bs : List (List Int)) (ws : List Int) : Prop := ∃ (p : Addr) (bv : V), sv = .ref p ∧ SysAt K C H p n bv bs ∧ Valid n bs ∧ TI K H wv ws ∧ Wd n ws
def spNormal (K : PySem.W.Frag) (C : Addr) : Sp := fun vs H Q _ => ∃ (sv wv : V) (n : Int) (bs : List (List Int)) (ws us : List Int), vs = [sv, wv] ∧ SyW K C H sv wv n bs ws ∧ Nw bs n ws us ∧ us.length ≤ 1000 ∧ ∀ v H', Same H H' → TI K H' v us → Q v H'
def spLength (K : PySem.W.Frag) (C : Addr) : Sp := fun vs H Q _ => ∃ (sv wv : V) (n : Int) (bs : List (List Int)) (ws us : List Int), vs = [sv, wv] ∧ SyW K C H sv wv n bs ws ∧ Nw bs n ws us ∧ us.length ≤ 1000 ∧ ∀ H', Same H H' → Q (.int (us.length : Nat)) H'
def spInverse (K : PySem.W.Frag) (C : Addr) : Sp := fun vs H Q _ => ∃ (sv wv : V) (n : Int) (bs : List (List Int)) (ws us : List Int), vs = [sv, wv] ∧ SyW K C H sv wv n bs ws ∧ Nw bs n ws.reverse us ∧ us.length ≤ 1000 ∧ ∀ v H', Same H H' → TI K H' v us → Q v H'
def spProduct (K : PySem.W.Frag) (C : Addr) : Sp := fun vs H Q _ => ∃ (sv wv zv : V) (n : Int) (bs : List (List Int)) (ws zs us : List Int), vs = [sv, wv, zv] ∧ SyW K C H sv wv n bs ws ∧ TI K H zv zs ∧ Wd n zs ∧ Nw bs n (ws ++ zs) us ∧ us.length ≤ 40 ∧ ∀ v H', Same H H' → TI K H' v us → Q v H'
def spLL (K : PySem.W.Frag) (C : Addr) : Sp := fun vs H Q _ => ∃ (sv wv : V) (n : Int) (bs : List (List Int)) (ws : List Int), vs = [sv, wv] ∧ SyW K C H sv wv n bs ws ∧ Fine (stOf bs n ws) ∧ ∀ v H', Same H H' → TI K H' v (lefts (stOf bs n ws)) → Q v H'
def spRL (K : PySem.W.Frag) (C : Addr) : Sp := fun vs H Q _ => ∃ (sv wv : V) (n : Int) (bs : List (List Int)) (ws : List Int), vs = [sv, wv] ∧ SyW K C H sv wv n bs ws ∧ Fine (stOf bs n ws.reverse) ∧ ∀ v H', Same H H' → TI K H' v (lefts (stOf bs n ws.reverse)) → Q v H'
theorem cat_any {K : PySem.W.Frag} {H : Hp} {Q : VK} {a b : Addr} {xs ys : List V} (ha : SqT K H a xs) (hb : SqT K H b ys) (hl : xs.length + ys.length ≤ 1000)
    (q : ∀ v H', Same H H' → (∃ c, v = .ref c ∧ SqT K H' c (xs ++ ys)) → Q v H') : rCatA K (.ref a) (.ref b) H Q :=
  ⟨a, b, xs, ys, rfl, rfl, ha, hb, szl hl, fun e => q _ _ (.refl _) ⟨b, rfl, by rw [e]; exact hb⟩, fun _ e => q _ _ (.refl _) ⟨a, rfl, by rw [e, List.append_nil]; exact ha⟩, fun _ _ p np => q _ _ (same_new np) ⟨p, rfl, .of upd_same⟩⟩
theorem Wd.in_ {n : Int} {ws : List Int} (h : Wd n ws) (h0 : 0 ≤ n) : ∀ x ∈ ws, 0 ≤ x ∧ x < (n.toNat : Nat) := fun x hx => by
  have := h.1 x hx
  omega
section
variable {P : Program} {w : World} {K : PySem.W.Frag} {mg : Str → Option Value} {base : Heap} {C : Addr}
end
end Sk

namespace Rt
open Gd
/-! sums of golds above 0 -/
theorem pos_int_add {n t p : Int} (hn : 0 < n) (h : Pos t p) : Pos (n + t) p := by
  rcases h with ⟨h1, h2⟩ | ⟨h1, h2⟩
  · have := sq_le (x := t) (y := n + t) (by omega) (by omega)
    exact .inl ⟨by omega, by omega⟩
  · by_cases e : (n + t) * (n + t) < 5 * (p * p)
    · exact .inr ⟨e, h2⟩
    · have ne : (n + t) * (n + t) ≠ 5 * (p * p) := fun z => by
        have := (irr z).2
        omega
      refine .inl ⟨by omega, ?_⟩
      rcases Int.lt_or_le 0 (n + t) with g | g
      · exact g
      · exfalso
        have := sq_le (x := -(n + t)) (y := -t) (by omega) (by omega)
        rw [Int.neg_mul_neg, Int.neg_mul_neg] at this
        omega
theorem pos_scale {k t p : Int} (hk : 0 < k) (h : Pos t p) : Pos (k * t) (k * p) := by
  have h0 : Pos (2 * k) 0 := .inl ⟨by have := Int.mul_pos (show (0 : Int) < 2 * k by omega) (show (0 : Int) < 2 * k by omega); omega, by omega⟩
  exact pos_mul (by grind) (by grind) h h0
theorem pos_half {t p : Int} (h : Pos (2 * t) (2 * p)) : Pos t p := by
  rcases pos_tri t p with g | g | ⟨rfl, rfl⟩
  · exact g
  · have := pos_scale (k := 2) (by decide) g
    rw [Int.mul_neg, Int.mul_neg] at this
    exact absurd this (pos_not_neg h)
  · exact absurd h pos_zero
theorem pos_of_sg {t p : Int} (h : sg t p = 1) : Pos t p := by
  rcases sg_cases t p with ⟨_, g⟩ | ⟨e, _⟩ | ⟨e, _⟩
  · exact g
  · omega
  · omega
theorem pos_add {t p u q : Int} (h1 : Pos t p) (h2 : Pos u q) : Pos (t + u) (p + q) := by
  have key : ∀ t' p' N : Int, Pos t' p' → 0 < N → N = t * t' + 5 * (p * p') → t * p' + p * t' = 0 → Pos (t + u) (p + q) := fun t' p' N hx hN e1 e2 => by
    have y2 := pos_scale (k := 2) (by decide) h2
    have z : Pos (t' * u + 5 * (p' * q)) (t' * q + p' * u) := pos_mul (by grind) (by grind) hx y2
    have z2 := sg_pos (pos_int_add hN z)
    have m := sg_mul (t := t') (p := p') (u := 2 * (t + u)) (q := 2 * (p + q)) (T := N + (t' * u + 5 * (p' * q))) (P := t' * q + p' * u) (by grind) (by grind)
    rw [z2, sg_pos hx, Int.one_mul] at m
    exact pos_half (pos_of_sg m.symm)
  rcases h1 with ⟨a, b⟩ | ⟨a, b⟩
  · exact key t (-p) (t * t - 5 * (p * p)) (.inl ⟨by rw [Int.neg_mul_neg]; exact a, b⟩) (by omega) (by grind) (by grind)
  · exact key (-t) p (5 * (p * p) - t * t) (.inr ⟨by rw [Int.neg_mul_neg]; exact a, b⟩) (by omega) (by grind) (by grind)
/-! golds -/
abbrev G := Int × Int
def cm (c x : G) : G := (c.1 * x.1 + c.2 * x.2, c.1 * x.2 + c.2 * x.1 + c.2 * x.2)
def ad (x y : G) : G := (x.1 + y.1, x.2 + y.2)
def ng (x : G) : G := (-x.1, -x.2)
noncomputable def sn (x : G) : Int := gs x.1 x.2
def Nn (x : G) : Prop := sn x ≠ -1
theorem sn_val (x : G) : sn x = 1 ∨ sn x = -1 ∨ sn x = 0 := gs_val _ _
theorem sn_cm (c x : G) : sn (cm c x) = sn c * sn x := gs_mul _ _ _ _
theorem sn_ng (x : G) : sn (ng x) = - sn x := gs_opp _ _
theorem sn_zero {x : G} (h : sn x = 0) : x = (0, 0) := by
  have := gs_zero h
  exact Prod.ext this.1 this.2
theorem sn_00 : sn (0, 0) = 0 := gs_00
theorem sn_one {x : G} (h : sn x = 1) : Pos (2 * x.1 + x.2) x.2 := pos_of_sg h
theorem sn_ad1 {x y : G} (h1 : sn x = 1) (h2 : sn y = 1) : sn (ad x y) = 1 := by
  have := pos_add (sn_one h1) (sn_one h2)
  show sg (2 * (x.1 + y.1) + (x.2 + y.2)) (x.2 + y.2) = 1
  refine sg_pos ?_
  rw [show 2 * (x.1 + y.1) + (x.2 + y.2) = 2 * x.1 + x.2 + (2 * y.1 + y.2) by omega]
  exact this
theorem ad_0 (x : G) : ad x (0, 0) = x := by simp [ad]
theorem ad_0l (x : G) : ad (0, 0) x = x := by simp [ad]
theorem sn_adP {x y : G} (h1 : sn x = 1) (h2 : Nn y) : sn (ad x y) = 1 := by
  rcases sn_val y with e | e | e
  · exact sn_ad1 h1 e
  · exact absurd e h2
  · rw [sn_zero e, ad_0]
    exact h1
theorem ad_comm (x y : G) : ad x y = ad y x := by simp [ad, Int.add_comm]
theorem Nn.ad {x y : G} (h1 : Nn x) (h2 : Nn y) : Nn (ad x y) := by
  rcases sn_val x with e | e | e
  · intro z
    rw [sn_adP e h2] at z
    cases z
  · exact absurd e h1
  · rw [sn_zero e, ad_0l]
    exact h2
theorem Nn.cm {c x : G} (h1 : Nn c) (h2 : Nn x) : Nn (cm c x) := by
  intro z
  rw [sn_cm] at z
  rcases sn_val c with e | e | e <;> rcases sn_val x with f | f | f <;> rw [e, f] at z <;> first | exact h1 e | exact h2 f | (exact absurd z (by decide))
theorem Nn.zero : Nn (0, 0) := by
  intro z
  rw [sn_00] at z
  cases z
theorem sn_int (i : Int) (h : 0 < i) : sn (i, 0) = 1 := by
  show gs i 0 = 1
  rw [gs_part0, if_pos h, if_neg (by omega)]
  rfl
theorem Nn.int {i : Int} (h : 0 ≤ i) : Nn (i, 0) := by
  rcases Int.lt_or_eq_of_le h with g | g
  · intro z
    rw [sn_int i g] at z
    cases z
  · rw [← g]
    exact .zero
theorem sn_phi : sn (0, 1) = 1 := gs_ge (by omega) (by omega) (by omega)
theorem Nn.phi : Nn (0, 1) := by
  intro z
  rw [sn_phi] at z
  cases z
end Rt

namespace Rt
open Gd
/-! rows of golds, and what letters make of them -/
abbrev Vc := Nat → G
def sb (x y : G) : G := (x.1 - y.1, x.2 - y.2)
def va (x y : Vc) : Vc := fun k => ad (x k) (y k)
def vm (a : G) (x : Vc) : Vc := fun k => cm a (x k)
def v0 : Vc := fun _ => (0, 0)
def al (s : Nat) : Vc := fun k => if k = s then (1, 0) else (0, 0)
/-- the sum of the numbers that a letter adds to its own -/
def L (c : Nat → Nat → G) (s : Nat) : Nat → Vc → G
  | 0, _ => (0, 0)
  | n + 1, x => ad (L c s n x) (cm (c s n) (x n))
def rf (c : Nat → Nat → G) (n s : Nat) (x : Vc) : Vc := fun k => if k = s then ad (ng (x s)) (L c s n x) else x k
def act (c : Nat → Nat → G) (n : Nat) (w : List Nat) (x : Vc) : Vc := w.foldr (rf c n) x
theorem act_nil (c : Nat → Nat → G) (n : Nat) (x : Vc) : act c n [] x = x := rfl
theorem act_cons (c : Nat → Nat → G) (n s : Nat) (w : List Nat) (x : Vc) : act c n (s :: w) x = rf c n s (act c n w x) := rfl
theorem act_app (c : Nat → Nat → G) (n : Nat) (v w : List Nat) (x : Vc) : act c n (v ++ w) x = act c n v (act c n w x) := by unfold act; rw [List.foldr_append]
variable {c : Nat → Nat → G} {n : Nat}
theorem cm_ad (a x y : G) : cm a (ad x y) = ad (cm a x) (cm a y) := by
  ext <;> simp only [cm, ad] <;> grind
theorem cm_cm (a b x : G) : cm a (cm b x) = cm b (cm a x) := by
  ext <;> simp only [cm] <;> grind
theorem cm_ng (a x : G) : cm a (ng x) = ng (cm a x) := by
  ext <;> simp only [cm, ng] <;> grind
theorem ng_ad (x y : G) : ng (ad x y) = ad (ng x) (ng y) := by
  ext <;> simp only [ad, ng] <;> omega
theorem ad4 (x y z w : G) : ad (ad x y) (ad z w) = ad (ad x z) (ad y w) := by
  ext <;> simp only [ad] <;> omega
theorem ng_ng (x : G) : ng (ng x) = x := by ext <;> simp [ng]
theorem cm_0 (a : G) : cm a (0, 0) = (0, 0) := by ext <;> simp [cm]
theorem cm_1 (a : G) : cm a (1, 0) = a := by ext <;> simp [cm]
theorem cm_one (x : G) : cm (1, 0) x = x := by ext <;> simp [cm]
theorem cm_zero (x : G) : cm (0, 0) x = (0, 0) := by ext <;> simp [cm]
theorem L_va (s : Nat) (x y : Vc) : ∀ m, L c s m (va x y) = ad (L c s m x) (L c s m y)
  | 0 => by simp [L, ad]
  | m + 1 => by
    show ad (L c s m (va x y)) (cm (c s m) (ad (x m) (y m))) = _
    rw [L_va s x y m, cm_ad, ad4]
    rfl
theorem L_vm (s : Nat) (a : G) (x : Vc) : ∀ m, L c s m (vm a x) = cm a (L c s m x)
  | 0 => (cm_0 a).symm
  | m + 1 => by
    show ad (L c s m (vm a x)) (cm (c s m) (cm a (x m))) = cm a (ad (L c s m x) (cm (c s m) (x m)))
    rw [L_vm s a x m, cm_ad, cm_cm a]
theorem rf_at (s : Nat) (x : Vc) : rf c n s x s = ad (ng (x s)) (L c s n x) := if_pos rfl
theorem rf_ne {s k : Nat} (h : k ≠ s) (x : Vc) : rf c n s x k = x k := if_neg h
theorem rf_va (s : Nat) (x y : Vc) : rf c n s (va x y) = va (rf c n s x) (rf c n s y) := by
  funext k
  show rf c n s (va x y) k = ad (rf c n s x k) (rf c n s y k)
  by_cases h : k = s
  · subst h
    rw [rf_at, rf_at, rf_at, L_va, ad4, ← ng_ad]
    rfl
  · rw [rf_ne h, rf_ne h, rf_ne h]
    rfl
theorem rf_vm (s : Nat) (a : G) (x : Vc) : rf c n s (vm a x) = vm a (rf c n s x) := by
  funext k
  show rf c n s (vm a x) k = cm a (rf c n s x k)
  by_cases h : k = s
  · subst h
    rw [rf_at, rf_at, L_vm, cm_ad, cm_ng]
    rfl
  · rw [rf_ne h, rf_ne h]
    rfl
theorem act_va (w : List Nat) (x y : Vc) : act c n w (va x y) = va (act c n w x) (act c n w y) := by
  induction w with
  | nil => rfl
  | cons s w ih => rw [act_cons, act_cons, act_cons, ih, rf_va]
theorem act_vm (w : List Nat) (a : G) (x : Vc) : act c n w (vm a x) = vm a (act c n w x) := by
  induction w with
  | nil => rfl
  | cons s w ih => rw [act_cons, act_cons, ih, rf_vm]
/-- the sum hangs on the numbers alone that stand there -/
theorem L_congr {s : Nat} {x y : Vc} : ∀ {m : Nat}, (∀ k, k < m → x k = y k) → L c s m x = L c s m y
  | 0, _ => rfl
  | m + 1, h => by
    show ad (L c s m x) (cm (c s m) (x m)) = ad (L c s m y) (cm (c s m) (y m))
    rw [L_congr fun k hk => h k (by omega), h m (by omega)]
theorem L_upd {s t : Nat} {x : Vc} {z : G} : ∀ {m : Nat}, t < m → L c s m (fun k => if k = t then z else x k) = ad (L c s m x) (cm (c s t) (sb z (x t)))
  | m + 1, h => by
    show ad (L c s m fun k => if k = t then z else x k) (cm (c s m) (if m = t then z else x m)) = ad (ad (L c s m x) (cm (c s m) (x m))) (cm (c s t) (sb z (x t)))
    by_cases e : m = t
    · subst e
      rw [if_pos rfl, L_congr (y := x) fun k hk => if_neg (by omega)]
      ext <;> simp only [ad, cm, sb] <;> grind
    · rw [if_neg e, L_upd (m := m) (by omega)]
      ext <;> simp only [ad] <;> omega
/-- the numbers of two letters -/
structure Qd where
  x : G
  y : G
  u : G
  w : G
def qd (c : Nat → Nat → G) (n s t : Nat) (x : Vc) : Qd := ⟨x s, x t, L c s n x, L c t n x⟩
def qS (b : G) (q : Qd) : Qd := ⟨ad (ng q.x) q.u, q.y, q.u, ad q.w (cm b (sb (ad (ng q.x) q.u) q.x))⟩
def qT (a : G) (q : Qd) : Qd := ⟨q.x, ad (ng q.y) q.w, ad q.u (cm a (sb (ad (ng q.y) q.w) q.y)), q.w⟩
theorem qd_S {s t : Nat} (hs : s < n) (hn : s ≠ t) (h0 : c s s = (0, 0)) (x : Vc) : qd c n s t (rf c n s x) = qS (c t s) (qd c n s t x) := by
  unfold qd qS rf
  rw [if_pos rfl, if_neg (Ne.symm hn), L_upd hs, L_upd hs, h0, cm_zero, ad_0]
theorem qd_T {s t : Nat} (ht : t < n) (hn : s ≠ t) (h0 : c t t = (0, 0)) (x : Vc) : qd c n s t (rf c n t x) = qT (c s t) (qd c n s t x) := by
  unfold qd qT rf
  rw [if_pos rfl, if_neg hn, L_upd ht, L_upd ht, h0, cm_zero, ad_0]
theorem rf_rf {s : Nat} (hs : s < n) (h0 : c s s = (0, 0)) (x : Vc) : rf c n s (rf c n s x) = x := by
  funext k
  unfold rf
  by_cases h : k = s
  · subst h
    rw [if_pos rfl, if_pos rfl, L_upd hs, h0, cm_zero, ad_0]
    ext <;> simp only [ad, ng] <;> omega
  · rw [if_neg h, if_neg h]
/-- words of two letters by turns, of so many letters, with t at the end -/
def altE : Nat → Nat → Nat → List Nat
  | 0, _, _ => []
  | k + 1, s, t => altE k t s ++ [t]
theorem altE_len : ∀ (k s t : Nat), (altE k s t).length = k
  | 0, _, _ => rfl
  | k + 1, s, t => by
    show (altE k t s ++ [t]).length = k + 1
    rw [List.length_append, altE_len k t s]
    rfl
/-- steps of the numbers of two letters, t ahead -/
def itT (a b : G) : Nat → Qd → Qd
  | 0, q => q
  | 1, q => qT a q
  | k + 2, q => itT a b k (qS b (qT a q))
def itS (a b : G) : Nat → Qd → Qd
  | 0, q => q
  | 1, q => qS b q
  | k + 2, q => itS a b k (qT a (qS b q))
theorem qd_altT {s t : Nat} (hs : s < n) (ht : t < n) (hn : s ≠ t) (h0 : c s s = (0, 0)) (h1 : c t t = (0, 0)) : ∀ (k : Nat) (x : Vc), qd c n s t (act c n (altE k s t) x) = itT (c s t) (c t s) k (qd c n s t x)
  | 0, x => rfl
  | 1, x => qd_T ht hn h1 x
  | k + 2, x => by
    show qd c n s t (act c n ((altE k s t ++ [s]) ++ [t]) x) = _
    rw [act_app, act_app, qd_altT hs ht hn h0 h1 k]
    show itT (c s t) (c t s) k (qd c n s t (rf c n s (rf c n t x))) = itT (c s t) (c t s) k (qS (c t s) (qT (c s t) (qd c n s t x)))
    rw [qd_S hs hn h0, qd_T ht hn h1]
theorem qd_altS {s t : Nat} (hs : s < n) (ht : t < n) (hn : s ≠ t) (h0 : c s s = (0, 0)) (h1 : c t t = (0, 0)) : ∀ (k : Nat) (x : Vc), qd c n s t (act c n (altE k t s) x) = itS (c s t) (c t s) k (qd c n s t x)
  | 0, x => rfl
  | 1, x => qd_S hs hn h0 x
  | k + 2, x => by
    show qd c n s t (act c n ((altE k t s ++ [t]) ++ [s]) x) = _
    rw [act_app, act_app, qd_altS hs ht hn h0 h1 k]
    show itS (c s t) (c t s) k (qd c n s t (rf c n t (rf c n s x))) = itS (c s t) (c t s) k (qT (c s t) (qS (c t s) (qd c n s t x)))
    rw [qd_T ht hn h1, qd_S hs hn h0]
/-- other letters' numbers stay -/
theorem act_off {s t k : Nat} (h1 : k ≠ s) (h2 : k ≠ t) : ∀ (m : Nat) (x : Vc), act c n (altE m s t) x k = x k ∧ act c n (altE m t s) x k = x k
  | 0, x => ⟨rfl, rfl⟩
  | m + 1, x => by
    have ih := act_off h1 h2 m
    constructor
    · show act c n (altE m t s ++ [t]) x k = x k
      rw [act_app, (ih _).2]
      show rf c n t x k = x k
      unfold rf
      rw [if_neg h2]
    · show act c n (altE m s t ++ [s]) x k = x k
      rw [act_app, (ih _).1]
      show rf c n s x k = x k
      unfold rf
      rw [if_neg h1]
/-- what is asked of two letters with a bond: words by turns of so many letters do the same, shorter ones lead the root of the one into the angle -/
structure Dih (a b : G) (m : Nat) : Prop where
  br : m ≠ 0 → ∀ q : Qd, (itT a b m q).x = (itS a b m q).x ∧ (itT a b m q).y = (itS a b m q).y
  nn : ∀ k, (m = 0 ∨ k < m) → Nn (itT a b k ⟨(1, 0), (0, 0), (0, 0), b⟩).x ∧ Nn (itT a b k ⟨(1, 0), (0, 0), (0, 0), b⟩).y
theorem braid {s t m : Nat} (hs : s < n) (ht : t < n) (hn : s ≠ t) (h0 : c s s = (0, 0)) (h1 : c t t = (0, 0)) (D : Dih (c s t) (c t s) m) (hm : m ≠ 0) (x : Vc) : act c n (altE m s t) x = act c n (altE m t s) x := by
  have e1 := qd_altT hs ht hn h0 h1 m x
  have e2 := qd_altS hs ht hn h0 h1 m x
  have b := D.br hm (qd c n s t x)
  rw [← e1, ← e2] at b
  funext k
  by_cases ks : k = s
  · subst ks
    exact b.1
  · by_cases kt : k = t
    · subst kt
      exact b.2
    · rw [(act_off ks kt m x).1, (act_off ks kt m x).2]
theorem L_al (s t : Nat) : ∀ m, L c s m (al t) = if t < m then c s t else (0, 0)
  | 0 => rfl
  | m + 1 => by
    show ad (L c s m (al t)) (cm (c s m) (al t m)) = _
    rw [L_al s t m]
    unfold al
    by_cases e : m = t
    · subst e
      rw [if_pos rfl, if_neg (by omega), if_pos (by omega), cm_1, ad_0l]
    · rw [if_neg e, cm_0, ad_0]
      by_cases h : t < m
      · rw [if_pos h, if_pos (by omega)]
      · rw [if_neg h, if_neg (by omega)]
theorem dih_root {s t m k : Nat} (hs : s < n) (ht : t < n) (hn : s ≠ t) (h0 : c s s = (0, 0)) (h1 : c t t = (0, 0)) (D : Dih (c s t) (c t s) m) (hk : m = 0 ∨ k < m) :
    ∃ A B : G, Nn A ∧ Nn B ∧ act c n (altE k s t) (al s) = va (vm A (al s)) (vm B (al t)) := by
  have e1 := qd_altT hs ht hn h0 h1 k (al s)
  have e0 : qd c n s t (al s) = ⟨(1, 0), (0, 0), (0, 0), c t s⟩ := by
    unfold qd
    rw [L_al, L_al, if_pos hs, if_pos hs, h0]
    unfold al
    rw [if_pos rfl, if_neg (Ne.symm hn)]
  rw [e0] at e1
  have d := D.nn k hk
  rw [← e1] at d
  refine ⟨_, _, d.1, d.2, ?_⟩
  funext j
  unfold va vm
  show _ = ad (cm (act c n (altE k s t) (al s) s) (al s j)) (cm (act c n (altE k s t) (al s) t) (al t j))
  by_cases js : j = s
  · subst js
    rw [show al j j = (1, 0) from if_pos rfl, show al t j = (0, 0) from if_neg hn, cm_1, cm_0, ad_0]
  · by_cases jt : j = t
    · subst jt
      rw [show al j j = (1, 0) from if_pos rfl, show al s j = (0, 0) from if_neg js, cm_1, cm_0, ad_0l]
    · rw [show al s j = (0, 0) from if_neg js, show al t j = (0, 0) from if_neg jt, cm_0, cm_0, ad_0, (act_off js jt k _).1]
      exact if_neg js
end Rt

namespace Rt
open Gd
/-! words that do the same, lengths, and where letters lead roots -/
structure Sys (c : Nat → Nat → G) (n : Nat) (m : Nat → Nat → Nat) : Prop where
  h0 : ∀ s, c s s = (0, 0)
  sym : ∀ s t, m s t = m t s
  dih : ∀ s t, s < n → t < n → s ≠ t → Dih (c s t) (c t s) (m s t)
def In (n : Nat) (w : List Nat) : Prop := ∀ x ∈ w, x < n
inductive Cg (n : Nat) (m : Nat → Nat → Nat) : List Nat → List Nat → Prop
  | rfl (w) : Cg n m w w
  | symm {v w} : Cg n m v w → Cg n m w v
  | trans {u v w} : Cg n m u v → Cg n m v w → Cg n m u w
  | ss (u v) {s} : s < n → Cg n m (u ++ [s, s] ++ v) (u ++ v)
  | br (u v) {s t} : s < n → t < n → s ≠ t → m s t ≠ 0 → Cg n m (u ++ altE (m s t) s t ++ v) (u ++ altE (m s t) t s ++ v)
variable {c : Nat → Nat → G} {n : Nat} {m : Nat → Nat → Nat}
theorem Cg.act (S : Sys c n m) {v w : List Nat} (h : Cg n m v w) : ∀ x, act c n v x = act c n w x := by
  induction h with
  | rfl => intro x; rfl
  | symm _ ih => exact fun x => (ih x).symm
  | trans _ _ i1 i2 => exact fun x => (i1 x).trans (i2 x)
  | ss u v hs =>
    intro x
    rw [act_app, act_app, act_app]
    show Rt.act c n u (rf c n _ (rf c n _ (Rt.act c n v x))) = _
    rw [rf_rf hs (S.h0 _)]
  | br u v hs ht hn hm =>
    intro x
    rw [act_app, act_app, act_app, act_app, braid hs ht hn (S.h0 _) (S.h0 _) (S.dih _ _ hs ht hn) hm]
theorem Cg.par {v w : List Nat} (h : Cg n m v w) : v.length % 2 = w.length % 2 := by
  induction h with
  | rfl => rfl
  | symm _ ih => exact ih.symm
  | trans _ _ i1 i2 => exact i1.trans i2
  | ss u v hs => simp only [List.length_append, List.length_cons, List.length_nil]; omega
  | br u v hs ht hn hm => simp only [List.length_append, altE_len]
theorem Cg.app {v w : List Nat} (h : Cg n m v w) (p q : List Nat) : Cg n m (p ++ v ++ q) (p ++ w ++ q) := by
  induction h with
  | rfl => exact .rfl _
  | symm _ ih => exact .symm ih
  | trans _ _ i1 i2 => exact .trans i1 i2
  | @ss u v s hs =>
    have := Cg.ss (n := n) (m := m) (p ++ u) (v ++ q) hs
    simpa only [List.append_assoc] using this
  | @br u v s t hs ht hn hm =>
    have := Cg.br (n := n) (m := m) (p ++ u) (v ++ q) hs ht hn hm
    simpa only [List.append_assoc] using this
theorem Cg.left {v w : List Nat} (h : Cg n m v w) (p : List Nat) : Cg n m (p ++ v) (p ++ w) := by
  have := h.app p []
  rwa [List.append_nil, List.append_nil] at this
theorem Cg.right {v w : List Nat} (h : Cg n m v w) (q : List Nat) : Cg n m (v ++ q) (w ++ q) := by
  have := h.app [] q
  rwa [List.nil_append, List.nil_append] at this
theorem altE_in {s t : Nat} (hs : s < n) (ht : t < n) : ∀ k, In n (altE k s t) ∧ In n (altE k t s)
  | 0 => ⟨fun x h => (by cases h), fun x h => (by cases h)⟩
  | k + 1 => by
    have ih := altE_in hs ht k
    refine ⟨fun x h => ?_, fun x h => ?_⟩
    · rcases List.mem_append.mp h with h | h
      · exact ih.2 x h
      · rw [List.mem_singleton.mp h]
        exact ht
    · rcases List.mem_append.mp h with h | h
      · exact ih.1 x h
      · rw [List.mem_singleton.mp h]
        exact hs
theorem In.app {v w : List Nat} : In n (v ++ w) ↔ In n v ∧ In n w := by
  unfold In
  simp only [List.mem_append]
  exact ⟨fun h => ⟨fun x hx => h x (.inl hx), fun x hx => h x (.inr hx)⟩, fun h x hx => hx.elim (h.1 x) (h.2 x)⟩
theorem Cg.in_ {v w : List Nat} (h : Cg n m v w) : In n v ↔ In n w := by
  induction h with
  | rfl => exact .rfl
  | symm _ ih => exact ih.symm
  | trans _ _ i1 i2 => exact i1.trans i2
  | @ss u v s hs =>
    rw [In.app, In.app, In.app]
    refine ⟨fun h => ⟨h.1.1, h.2⟩, fun h => ⟨⟨h.1, fun x hx => ?_⟩, h.2⟩⟩
    simp at hx
    omega
  | @br u v s t hs ht hn hm =>
    rw [In.app, In.app, In.app, In.app]
    have := altE_in hs ht (m s t)
    exact ⟨fun h => ⟨⟨h.1.1, this.2⟩, h.2⟩, fun h => ⟨⟨h.1.1, this.1⟩, h.2⟩⟩
theorem altE_rev : ∀ (k s t : Nat), (altE k s t).reverse = if k % 2 = 1 then altE k s t else altE k t s
  | 0, _, _ => rfl
  | 1, _, _ => rfl
  | k + 2, s, t => by
    have cons : ∀ (k s t : Nat), altE (k + 1) s t = (if k % 2 = 0 then t else s) :: altE k s t := fun k => by
      induction k with
      | zero => intro s t; rfl
      | succ k ih =>
        intro s t
        show altE (k + 1) t s ++ [t] = _
        rw [ih t s, List.cons_append]
        show _ :: altE (k + 1) s t = _
        congr 1
        by_cases h : k % 2 = 0
        · rw [if_pos h, if_neg (by omega)]
        · rw [if_neg h, if_pos (by omega)]
    have e : altE (k + 2) s t = altE (k + 1) t s ++ [t] := rfl
    rw [e, List.reverse_append, altE_rev (k + 1) t s, List.reverse_cons, List.reverse_nil, List.nil_append, List.singleton_append]
    by_cases h : k % 2 = 1
    · rw [if_neg (by omega), if_pos (by omega)]
      have := cons (k + 1) s t
      rw [if_pos (by omega)] at this
      exact this.symm
    · rw [if_pos (by omega), if_neg (by omega)]
      have := cons (k + 1) t s
      rw [if_neg (by omega)] at this
      exact this.symm
theorem Cg.rev {v w : List Nat} (h : Cg n m v w) : Cg n m v.reverse w.reverse := by
  induction h with
  | rfl => exact .rfl _
  | symm _ ih => exact .symm ih
  | trans _ _ i1 i2 => exact .trans i1 i2
  | @ss u v s hs =>
    have := Cg.ss (n := n) (m := m) v.reverse u.reverse hs
    simpa [List.reverse_append] using this
  | @br u v s t hs ht hn hm =>
    rw [List.reverse_append, List.reverse_append, List.reverse_append, List.reverse_append, altE_rev, altE_rev, ← List.append_assoc, ← List.append_assoc]
    by_cases k : m s t % 2 = 1
    · rw [if_pos k, if_pos k]
      exact .br _ _ hs ht hn hm
    · rw [if_neg k, if_neg k]
      exact .symm (.br _ _ hs ht hn hm)
/-! lengths -/
theorem exists_min {P : Nat → Prop} : ∀ {N : Nat}, P N → ∃ d, P d ∧ d ≤ N ∧ ∀ e, e < d → ¬ P e := by
  intro N
  induction N using Nat.strongRecOn with
  | _ N ih =>
    intro h
    by_cases q : ∃ e, e < N ∧ P e
    · obtain ⟨e, he, pe⟩ := q
      obtain ⟨d, pd, hd, mn⟩ := ih e he pe
      exact ⟨d, pd, by omega, mn⟩
    · exact ⟨N, h, Nat.le_refl _, fun e he pe => q ⟨e, he, pe⟩⟩
def Has (n : Nat) (m : Nat → Nat → Nat) (w : List Nat) (N : Nat) : Prop := ∃ r, Cg n m w r ∧ r.length = N
theorem has_min (n : Nat) (m : Nat → Nat → Nat) (w : List Nat) : ∃ d, Has n m w d ∧ ∀ e, e < d → ¬ Has n m w e := by
  obtain ⟨d, h1, _, h2⟩ := exists_min (P := Has n m w) (N := w.length) ⟨w, .rfl w, rfl⟩
  exact ⟨d, h1, h2⟩
noncomputable def len (n : Nat) (m : Nat → Nat → Nat) (w : List Nat) : Nat := Classical.choose (has_min n m w)
theorem len_has (w : List Nat) : ∃ r, Cg n m w r ∧ r.length = len n m w := (Classical.choose_spec (has_min n m w)).1
theorem len_le {w r : List Nat} (h : Cg n m w r) : len n m w ≤ r.length := by
  rcases Nat.lt_or_ge r.length (len n m w) with g | g
  · exact absurd ⟨r, h, rfl⟩ ((Classical.choose_spec (has_min n m w)).2 _ g)
  · exact g
theorem len_congr {v w : List Nat} (h : Cg n m v w) : len n m v = len n m w := by
  obtain ⟨r, h1, e1⟩ := len_has (n := n) (m := m) v
  obtain ⟨q, h2, e2⟩ := len_has (n := n) (m := m) w
  have a := len_le (h.symm.trans h1)
  have b := len_le (h.trans h2)
  omega
theorem len_self (w : List Nat) : len n m w ≤ w.length := len_le (.rfl w)
theorem len_par (w : List Nat) : len n m w % 2 = w.length % 2 := by
  obtain ⟨r, h1, e1⟩ := len_has (n := n) (m := m) w
  rw [← e1, h1.par]
theorem len_app (v w : List Nat) : len n m (v ++ w) ≤ len n m v + len n m w := by
  obtain ⟨r, h1, e1⟩ := len_has (n := n) (m := m) v
  obtain ⟨q, h2, e2⟩ := len_has (n := n) (m := m) w
  have := len_le ((h1.right w).trans (h2.left r))
  rw [List.length_append] at this
  omega
theorem drop2 {s : Nat} (hs : s < n) (w : List Nat) : Cg n m ((w ++ [s]) ++ [s]) w := by
  have := Cg.ss (n := n) (m := m) w [] hs
  simpa using this
theorem len_snoc {s : Nat} (hs : s < n) (w : List Nat) : len n m (w ++ [s]) = len n m w + 1 ∨ len n m (w ++ [s]) + 1 = len n m w := by
  have a := len_app (n := n) (m := m) w [s]
  have b := len_app (n := n) (m := m) (w ++ [s]) [s]
  have d := len_self (n := n) (m := m) [s]
  have e := len_congr (drop2 (m := m) hs w)
  have p1 := len_par (n := n) (m := m) w
  have p2 := len_par (n := n) (m := m) (w ++ [s])
  rw [List.length_append] at p2
  simp only [List.length_cons, List.length_nil] at p2 d
  omega
theorem len_rev (w : List Nat) : len n m w.reverse = len n m w := by
  have h : ∀ w, len n m w.reverse ≤ len n m w := fun w => by
    obtain ⟨r, h1, e1⟩ := len_has (n := n) (m := m) w
    have := len_le h1.rev
    rw [List.length_reverse] at this
    omega
  have a := h w
  have b := h w.reverse
  rw [List.reverse_reverse] at b
  omega
/-- words of two letters -/
theorem two_letters {s t : Nat} (hs : s < n) (ht : t < n) (u : List Nat) : (∀ x ∈ u, x = s ∨ x = t) → (u = altE u.length s t ∨ u = altE u.length t s) ∨ ∃ u', Cg n m u u' ∧ u'.length < u.length := by
  have go : ∀ r : List Nat, (∀ x ∈ r.reverse, x = s ∨ x = t) → (r.reverse = altE r.reverse.length s t ∨ r.reverse = altE r.reverse.length t s) ∨ ∃ u', Cg n m r.reverse u' ∧ u'.length < r.reverse.length := by
    intro r
    induction r with
    | nil => intro _; exact .inl (.inl rfl)
    | cons x r ih =>
      intro h
      rw [List.reverse_cons] at h ⊢
      have hr : ∀ y ∈ r.reverse, y = s ∨ y = t := fun y hy => h y (List.mem_append_left _ hy)
      have hx := h x (by simp)
      have ll : (r.reverse ++ [x]).length = r.reverse.length + 1 := by simp
      rw [ll]
      have base : ∀ p q : Nat, p < n → q < n → r.reverse = altE r.reverse.length p q → (x = p ∨ x = q) → (r.reverse ++ [x] = altE (r.reverse.length + 1) p q ∨ r.reverse ++ [x] = altE (r.reverse.length + 1) q p) ∨ ∃ u', Cg n m (r.reverse ++ [x]) u' ∧ u'.length < r.reverse.length + 1 := fun p q hp hq e hx => by
        rcases hx with rfl | rfl
        · refine .inl (.inr ?_)
          show _ = altE r.reverse.length x q ++ [x]
          rw [← e]
        · cases hk : r.reverse.length with
          | zero =>
            have : r.reverse = [] := List.eq_nil_of_length_eq_zero hk
            rw [this]
            exact .inl (.inl rfl)
          | succ k =>
            rw [hk] at e
            refine .inr ⟨altE k x p, ?_, by rw [altE_len]; omega⟩
            rw [e]
            exact drop2 hq _
      rcases ih hr with (e | e) | ⟨u', h1, h2⟩
      · exact base s t hs ht e hx
      · rcases base t s ht hs e hx.symm with h | h
        · exact .inl h.symm
        · exact .inr h
      · exact .inr ⟨u' ++ [x], h1.right _, by simp; simpa using h2⟩
  intro h
  have := go u.reverse
  rw [List.reverse_reverse] at this
  exact this h
theorem altE_split (j : Nat) : ∀ (k s t : Nat), ∃ p : List Nat, altE (j + k) s t = p ++ altE k s t ∧ p.length = j
  | 0, s, t => ⟨altE j s t, by simp [altE], altE_len _ _ _⟩
  | k + 1, s, t => by
    obtain ⟨p, e, h⟩ := altE_split j k t s
    refine ⟨p, ?_, h⟩
    show altE (j + k) t s ++ [t] = p ++ (altE k t s ++ [t])
    rw [e, List.append_assoc]
theorem al_nn (s k : Nat) : Nn (al s k) := by
  unfold al
  by_cases h : k = s
  · rw [if_pos h]
    exact .int (by decide)
  · rw [if_neg h]
    exact .zero
/-- a letter that makes a member longer at its end has its root led above 0 -/
theorem pos_main (S : Sys c n m) : ∀ (N : Nat) (w : List Nat) (s : Nat), In n w → s < n → len n m w = N → len n m w < len n m (w ++ [s]) → ∀ k, Nn (act c n w (al s) k) := by
  intro N
  induction N using Nat.strongRecOn with
  | _ N ih =>
    intro w s hw hs hN hlt
    obtain ⟨r, hr, er⟩ := len_has (n := n) (m := m) w
    rcases List.eq_nil_or_concat r with e | ⟨r', t, e⟩
    · intro k
      rw [hr.act S, e]
      exact al_nn s k
    rw [List.concat_eq_append] at e
    subst e
    have inr := hr.in_.mp hw
    rw [In.app] at inr
    have ht : t < n := inr.2 t (by simp)
    rw [List.length_append] at er
    simp only [List.length_cons, List.length_nil] at er
    have hts : s ≠ t := by
      rintro rfl
      have := len_le ((hr.right [s]).trans (drop2 hs r'))
      omega
    obtain ⟨d, ⟨v, u, inv, inu, cg, hl, hd⟩, dN, mn⟩ := exists_min (P := fun d => ∃ v u : List Nat, In n v ∧ (∀ x ∈ u, x = s ∨ x = t) ∧ Cg n m w (v ++ u) ∧ v.length + u.length = N ∧ v.length = d) (N := N - 1)
      ⟨r', [t], inr.1, fun x hx => .inr (List.mem_singleton.mp hx), hr, by simp; omega, by omega⟩
    have lv : len n m v = d := by
      have a := len_self (n := n) (m := m) v
      have b := len_app (n := n) (m := m) v u
      have e := len_congr cg
      have f := len_self (n := n) (m := m) u
      omega
    have up : ∀ q, q = s ∨ q = t → q < n → len n m v < len n m (v ++ [q]) := fun q hq hqn => by
      rcases len_snoc (m := m) hqn v with g | g
      · omega
      · exfalso
        obtain ⟨v', h1, e1⟩ := len_has (n := n) (m := m) (v ++ [q])
        refine mn (d - 1) (by omega) ⟨v', q :: u, h1.in_.mp (In.app.mpr ⟨inv, fun x hx => by rw [List.mem_singleton.mp hx]; exact hqn⟩), fun x hx => ?_, ?_, by simp only [List.length_cons]; omega, by omega⟩
        · rcases List.mem_cons.mp hx with rfl | hx
          · exact hq
          · exact inu x hx
        · refine cg.trans (.trans (.symm ?_) (.trans (h1.right (q :: u)) (.rfl _)))
          have := Cg.ss (n := n) (m := m) v u hqn
          simpa using this
    have pv : ∀ q, q = s ∨ q = t → q < n → ∀ k, Nn (act c n v (al q) k) := fun q hq hqn => ih d (by omega) v q inv hqn lv (up q hq hqn)
    have noshort : ∀ z : List Nat, Cg n m w z → ¬ z.length < N := fun z hz g => by
      have := len_le hz
      omega
    have noshort2 : ∀ z : List Nat, Cg n m (w ++ [s]) z → ¬ z.length < N := fun z hz g => by
      have := len_le hz
      omega
    rcases two_letters (m := m) hs ht u inu with (e | e) | ⟨u', h1, h2⟩
    · -- t at the end
      have kb : m s t = 0 ∨ u.length < m s t := by
        by_cases z : m s t = 0
        · exact .inl z
        · right
          rcases Nat.lt_or_ge u.length (m s t) with g | g
          · exact g
          · exfalso
            obtain ⟨p, ep, lp⟩ := altE_split (u.length - m s t) (m s t) s t
            rw [show u.length - m s t + m s t = u.length by omega] at ep
            obtain ⟨k, ek⟩ : ∃ k, m s t = k + 1 := ⟨m s t - 1, by omega⟩
            have e1 : Cg n m u ((p ++ altE k s t) ++ [s]) := by
              have := Cg.br (n := n) (m := m) p [] hs ht hts z
              rw [List.append_nil, List.append_nil] at this
              rw [e, ep]
              refine this.trans ?_
              rw [ek]
              show Cg n m (p ++ (altE k s t ++ [s])) _
              rw [List.append_assoc]
              exact .rfl _
            have e2 : Cg n m (w ++ [s]) (v ++ (p ++ altE k s t)) := by
              refine ((cg.trans (e1.left v)).right [s]).trans ?_
              have := drop2 (m := m) hs (v ++ (p ++ altE k s t))
              simpa only [List.append_assoc] using this
            refine noshort2 _ e2 ?_
            simp only [List.length_append, altE_len]
            omega
      obtain ⟨A, B, nA, nB, eq⟩ := dih_root hs ht hts (S.h0 s) (S.h0 t) (S.dih s t hs ht hts) kb
      intro k
      rw [cg.act S, act_app, e, eq, act_va, act_vm, act_vm]
      exact (nA.cm (pv s (.inl rfl) hs k)).ad (nB.cm (pv t (.inr rfl) ht k))
    · -- s at the end
      exfalso
      cases hk : u.length with
      | zero => omega
      | succ k =>
        rw [hk] at e
        refine noshort2 (v ++ altE k s t) ?_ (by simp only [List.length_append, altE_len]; omega)
        rw [e] at cg
        refine (cg.right [s]).trans ?_
        have := drop2 (m := m) hs (v ++ altE k s t)
        simpa only [altE, List.append_assoc] using this
    · exfalso
      refine noshort (v ++ u') (cg.trans (h1.left v)) ?_
      rw [List.length_append]
      omega
end Rt

namespace Rt
open Gd
/-! the bonds -/
theorem nn_of {q : Qd} {i j : Nat} (h : q.x = ((i : Int), 0) ∧ q.y = ((j : Int), 0)) : Nn q.x ∧ Nn q.y := by
  rw [h.1, h.2]
  exact ⟨.int (by omega), .int (by omega)⟩
theorem dih2 : Dih (0, 0) (0, 0) 2 := by
  refine ⟨fun _ q => ?_, fun k hk => ?_⟩
  · obtain ⟨⟨a, b⟩, ⟨d, e⟩, ⟨f, g⟩, ⟨h, i⟩⟩ := q
    simp only [itT, itS, qS, qT, cm, ad, ng, sb, Prod.mk.injEq]
    omega
  · rcases k with _ | _ | k
    · exact nn_of (i := 1) (j := 0) (by decide)
    · exact nn_of (i := 1) (j := 0) (by decide)
    · omega
theorem dih3 : Dih (1, 0) (1, 0) 3 := by
  refine ⟨fun _ q => ?_, fun k hk => ?_⟩
  · obtain ⟨⟨a, b⟩, ⟨d, e⟩, ⟨f, g⟩, ⟨h, i⟩⟩ := q
    simp only [itT, itS, qS, qT, cm, ad, ng, sb, Prod.mk.injEq]
    omega
  · rcases k with _ | _ | _ | k
    · exact nn_of (i := 1) (j := 0) (by decide)
    · exact nn_of (i := 1) (j := 1) (by decide)
    · exact nn_of (i := 0) (j := 1) (by decide)
    · omega
theorem dih4 : Dih (1, 0) (2, 0) 4 := by
  refine ⟨fun _ q => ?_, fun k hk => ?_⟩
  · obtain ⟨⟨a, b⟩, ⟨d, e⟩, ⟨f, g⟩, ⟨h, i⟩⟩ := q
    simp only [itT, itS, qS, qT, cm, ad, ng, sb, Prod.mk.injEq]
    omega
  · rcases k with _ | _ | _ | _ | k
    · exact nn_of (i := 1) (j := 0) (by decide)
    · exact nn_of (i := 1) (j := 2) (by decide)
    · exact nn_of (i := 1) (j := 2) (by decide)
    · exact nn_of (i := 1) (j := 0) (by decide)
    · omega
theorem dih4' : Dih (2, 0) (1, 0) 4 := by
  refine ⟨fun _ q => ?_, fun k hk => ?_⟩
  · obtain ⟨⟨a, b⟩, ⟨d, e⟩, ⟨f, g⟩, ⟨h, i⟩⟩ := q
    simp only [itT, itS, qS, qT, cm, ad, ng, sb, Prod.mk.injEq]
    omega
  · rcases k with _ | _ | _ | _ | k
    · exact nn_of (i := 1) (j := 0) (by decide)
    · exact nn_of (i := 1) (j := 1) (by decide)
    · exact nn_of (i := 1) (j := 1) (by decide)
    · exact nn_of (i := 1) (j := 0) (by decide)
    · omega
theorem dih6 : Dih (1, 0) (3, 0) 6 := by
  refine ⟨fun _ q => ?_, fun k hk => ?_⟩
  · obtain ⟨⟨a, b⟩, ⟨d, e⟩, ⟨f, g⟩, ⟨h, i⟩⟩ := q
    simp only [itT, itS, qS, qT, cm, ad, ng, sb, Prod.mk.injEq]
    omega
  · rcases k with _ | _ | _ | _ | _ | _ | k
    · exact nn_of (i := 1) (j := 0) (by decide)
    · exact nn_of (i := 1) (j := 3) (by decide)
    · exact nn_of (i := 2) (j := 3) (by decide)
    · exact nn_of (i := 2) (j := 3) (by decide)
    · exact nn_of (i := 1) (j := 3) (by decide)
    · exact nn_of (i := 1) (j := 0) (by decide)
    · omega
theorem dih6' : Dih (3, 0) (1, 0) 6 := by
  refine ⟨fun _ q => ?_, fun k hk => ?_⟩
  · obtain ⟨⟨a, b⟩, ⟨d, e⟩, ⟨f, g⟩, ⟨h, i⟩⟩ := q
    simp only [itT, itS, qS, qT, cm, ad, ng, sb, Prod.mk.injEq]
    omega
  · rcases k with _ | _ | _ | _ | _ | _ | k
    · exact nn_of (i := 1) (j := 0) (by decide)
    · exact nn_of (i := 1) (j := 1) (by decide)
    · exact nn_of (i := 2) (j := 1) (by decide)
    · exact nn_of (i := 2) (j := 1) (by decide)
    · exact nn_of (i := 1) (j := 1) (by decide)
    · exact nn_of (i := 1) (j := 0) (by decide)
    · omega
theorem dih5 : Dih (0, 1) (0, 1) 5 := by
  refine ⟨fun _ q => ?_, fun k hk => ?_⟩
  · obtain ⟨⟨a, b⟩, ⟨d, e⟩, ⟨f, g⟩, ⟨h, i⟩⟩ := q
    simp only [itT, itS, qS, qT, cm, ad, ng, sb, Prod.mk.injEq]
    omega
  · rcases k with _ | _ | _ | _ | _ | k
    · exact nn_of (i := 1) (j := 0) (by decide)
    · rw [show itT (0, 1) (0, 1) (0 + 1) ⟨(1, 0), (0, 0), (0, 0), (0, 1)⟩ = ⟨(1, 0), (0, 1), (1, 1), (0, 1)⟩ from rfl]
      exact ⟨.int (i := 1) (by decide), .phi⟩
    · rw [show itT (0, 1) (0, 1) (0 + 1 + 1) ⟨(1, 0), (0, 0), (0, 0), (0, 1)⟩ = ⟨(0, 1), (0, 1), (1, 1), (1, 1)⟩ from rfl]
      exact ⟨.phi, .phi⟩
    · rw [show itT (0, 1) (0, 1) (0 + 1 + 1 + 1) ⟨(1, 0), (0, 0), (0, 0), (0, 1)⟩ = ⟨(0, 1), (1, 0), (0, 1), (1, 1)⟩ from rfl]
      exact ⟨.phi, .int (i := 1) (by decide)⟩
    · exact nn_of (i := 0) (j := 1) (by decide)
    · omega
theorem dih0 : Dih (2, 0) (2, 0) 0 := by
  refine ⟨fun h => absurd rfl h, fun k _ => ?_⟩
  have go : ∀ k (i : Int), 0 ≤ i → Nn (itT (2, 0) (2, 0) k ⟨(i + 1, 0), (i, 0), (2 * i, 0), (2 * i + 2, 0)⟩).x ∧ Nn (itT (2, 0) (2, 0) k ⟨(i + 1, 0), (i, 0), (2 * i, 0), (2 * i + 2, 0)⟩).y := by
    intro k
    induction k using Nat.strongRecOn with
    | _ k ih =>
      intro i hi
      rcases k with _ | _ | k
      · exact ⟨.int (by omega), .int hi⟩
      · have e : itT (2, 0) (2, 0) (0 + 1) ⟨(i + 1, 0), (i, 0), (2 * i, 0), (2 * i + 2, 0)⟩ = ⟨(i + 1, 0), (i + 2, 0), (2 * i + 4, 0), (2 * i + 2, 0)⟩ := by
          simp only [itT, qT, cm, ad, ng, sb, Qd.mk.injEq, Prod.mk.injEq]
          refine ⟨trivial, ⟨?_, ?_⟩, ⟨?_, ?_⟩, trivial⟩ <;> omega
        rw [e]
        exact ⟨.int (by omega), .int (by omega)⟩
      · have e : itT (2, 0) (2, 0) (k + 1 + 1) ⟨(i + 1, 0), (i, 0), (2 * i, 0), (2 * i + 2, 0)⟩ = itT (2, 0) (2, 0) k ⟨(i + 2 + 1, 0), (i + 2, 0), (2 * (i + 2), 0), (2 * (i + 2) + 2, 0)⟩ := by
          show itT (2, 0) (2, 0) k (qS (2, 0) (qT (2, 0) _)) = _
          congr 1
          simp only [qS, qT, cm, ad, ng, sb, Qd.mk.injEq, Prod.mk.injEq]
          omega
        rw [e]
        exact ih k (by omega) (i + 2) (by omega)
  exact go k 0 (by decide)
/-! below 0 -/
variable {c : Nat → Nat → G} {n : Nat} {m : Nat → Nat → Nat}
theorem act_rev (S : Sys c n m) : ∀ {w : List Nat}, In n w → ∀ x, act c n w.reverse (act c n w x) = x
  | [], _, x => rfl
  | s :: w, h, x => by
    rw [List.reverse_cons, act_app, act_cons]
    show act c n w.reverse (rf c n s (rf c n s (act c n w x))) = x
    rw [rf_rf (h s (by simp)) (S.h0 s), act_rev S (fun y hy => h y (by simp [hy]))]
theorem act_far {w : List Nat} (h : In n w) (x : Vc) {k : Nat} (hk : n ≤ k) : act c n w x k = x k := by
  induction w with
  | nil => rfl
  | cons s w ih =>
    rw [act_cons, rf_ne (by have := h s (by simp); omega), ih fun y hy => h y (by simp [hy])]
theorem L_v0 (s : Nat) : ∀ k, L c s k v0 = (0, 0)
  | 0 => rfl
  | k + 1 => by
    show ad (L c s k v0) (cm (c s k) (0, 0)) = _
    rw [L_v0 s k, cm_0, ad_0]
theorem act_v0 (w : List Nat) : act c n w v0 = v0 := by
  induction w with
  | nil => rfl
  | cons s w ih =>
    rw [act_cons, ih]
    funext k
    by_cases h : k = s
    · subst h
      rw [rf_at, L_v0]
      rfl
    · rw [rf_ne h]
theorem act_ne (S : Sys c n m) {w : List Nat} (h : In n w) {s : Nat} (hs : s < n) : ∃ k, k < n ∧ act c n w (al s) k ≠ (0, 0) := by
  refine Classical.byContradiction fun no => ?_
  have z : act c n w (al s) = v0 := by
    funext k
    rcases Nat.lt_or_ge k n with g | g
    · exact Classical.byContradiction fun q => no ⟨k, g, q⟩
    · rw [act_far h _ g]
      exact if_neg (by omega)
  have := act_rev S h (al s)
  rw [z, act_v0] at this
  have := congrFun this s
  rw [show al s s = (1, 0) from if_pos rfl] at this
  cases this
theorem rf_al (S : Sys c n m) {s : Nat} (hs : s < n) : rf c n s (al s) = vm (-1, 0) (al s) := by
  funext k
  unfold vm
  by_cases h : k = s
  · subst h
    rw [rf_at, L_al, if_pos hs, S.h0, show al k k = (1, 0) from if_pos rfl]
    rfl
  · rw [rf_ne h, show al s k = (0, 0) from if_neg h, cm_0]
theorem act_snoc (S : Sys c n m) {s : Nat} (hs : s < n) (w : List Nat) : act c n (w ++ [s]) (al s) = vm (-1, 0) (act c n w (al s)) := by
  rw [act_app]
  show act c n w (rf c n s (al s)) = _
  rw [rf_al S hs, act_vm]
theorem cm_m1 (x : G) : cm (-1, 0) x = ng x := by ext <;> simp [cm, ng]
/-- a letter that makes a member shorter at its end has its root led below 0 -/
theorem neg_main (S : Sys c n m) {w : List Nat} {s : Nat} (hw : In n w) (hs : s < n) (h : len n m (w ++ [s]) < len n m w) (k : Nat) : Nn (ng (act c n w (al s) k)) := by
  have e := len_congr (drop2 (m := m) hs w)
  have := pos_main S _ (w ++ [s]) s (In.app.mpr ⟨hw, fun x hx => by rw [List.mem_singleton.mp hx]; exact hs⟩) hs rfl (by omega) k
  rw [act_snoc S hs] at this
  unfold vm at this
  rw [cm_m1] at this
  exact this
/-- some number of a row is below 0 -/
def Low (n : Nat) (x : Vc) : Prop := ∃ k, k < n ∧ sn (x k) = -1
theorem sn_neg {x : G} (h : Nn (ng x)) (h2 : x ≠ (0, 0)) : sn x = -1 := by
  rcases sn_val x with e | e | e
  · exact absurd (by rw [sn_ng, e]) h
  · exact e
  · exact absurd (sn_zero e) h2
theorem low_iff (S : Sys c n m) {w : List Nat} {s : Nat} (hw : In n w) (hs : s < n) : Low n (act c n w (al s)) ↔ len n m (w ++ [s]) < len n m w := by
  rcases len_snoc (m := m) hs w with g | g
  · constructor
    · rintro ⟨k, _, e⟩
      exact absurd e (pos_main S _ w s hw hs rfl (by omega) k)
    · intro h
      omega
  · refine ⟨fun _ => by omega, fun h => ?_⟩
    obtain ⟨k, hk, ne⟩ := act_ne S hw hs
    exact ⟨k, hk, sn_neg (neg_main S hw hs h k) ne⟩
/-- the sum of the numbers of a row -/
def Sm : Nat → Vc → G
  | 0, _ => (0, 0)
  | k + 1, x => ad (Sm k x) (x k)
theorem Sm_nn {x : Vc} (h : ∀ k, Nn (x k)) : ∀ k, Nn (Sm k x)
  | 0 => .zero
  | k + 1 => (Sm_nn h k).ad (h k)
theorem Sm_pos {x : Vc} (h : ∀ k, Nn (x k)) {j : Nat} (hj : sn (x j) = 1) : ∀ {k : Nat}, j < k → sn (Sm k x) = 1
  | k + 1, hk => by
    show sn (ad (Sm k x) (x k)) = 1
    rcases Nat.lt_or_ge j k with g | g
    · exact sn_adP (Sm_pos h hj g) (h k)
    · have : j = k := by omega
      subst this
      rw [ad_comm]
      exact sn_adP hj (Sm_nn h j)
theorem Sm_vm (a : G) (x : Vc) : ∀ k, Sm k (vm a x) = cm a (Sm k x)
  | 0 => (cm_0 a).symm
  | k + 1 => by
    show ad (Sm k (vm a x)) (cm a (x k)) = cm a (ad (Sm k x) (x k))
    rw [Sm_vm a x k, cm_ad]
theorem Sm_va (x y : Vc) : ∀ k, Sm k (va x y) = ad (Sm k x) (Sm k y)
  | 0 => by simp [Sm, ad]
  | k + 1 => by
    show ad (Sm k (va x y)) (ad (x k) (y k)) = _
    rw [Sm_va x y k, ad4]
    rfl
theorem sum_iff (S : Sys c n m) {w : List Nat} {s : Nat} (hw : In n w) (hs : s < n) : sn (Sm n (act c n w (al s))) = -1 ↔ len n m (w ++ [s]) < len n m w := by
  rcases len_snoc (m := m) hs w with g | g
  · constructor
    · intro e
      exact absurd e (Sm_nn (pos_main S _ w s hw hs rfl (by omega)) n)
    · intro h
      omega
  · refine ⟨fun _ => by omega, fun h => ?_⟩
    obtain ⟨k, hk, ne⟩ := act_ne S hw hs
    have e := sn_neg (neg_main S hw hs h k) ne
    have hn : ∀ j, Nn (vm (-1, 0) (act c n w (al s)) j) := fun j => by
      unfold vm
      rw [cm_m1]
      exact neg_main S hw hs h j
    have := Sm_pos hn (j := k) (by unfold vm; rw [cm_m1, sn_ng, e]; rfl) hk
    rw [Sm_vm, cm_m1, sn_ng] at this
    omega
end Rt

namespace Rt
open Gd
variable {c : Nat → Nat → G} {n : Nat} {m : Nat → Nat → Nat}
/-! letters ahead -/
theorem len_cons {s : Nat} (hs : s < n) (w : List Nat) : len n m (s :: w) = len n m w + 1 ∨ len n m (s :: w) + 1 = len n m w := by
  have := len_snoc (m := m) hs w.reverse
  rw [← List.reverse_cons, len_rev, len_rev] at this
  exact this
theorem In.rev {w : List Nat} (h : In n w) : In n w.reverse := fun x hx => h x (List.mem_reverse.mp hx)
theorem In.tail {s : Nat} {w : List Nat} (h : In n (s :: w)) : In n w := fun x hx => h x (by simp [hx])
theorem In.cons {s : Nat} {w : List Nat} (hs : s < n) (h : In n w) : In n (s :: w) := fun x hx => by
  rcases List.mem_cons.mp hx with rfl | hx
  · exact hs
  · exact h x hx
/-- the frame of a member: where the undone member leads the roots of the letters -/
def fr (c : Nat → Nat → G) (n : Nat) (w : List Nat) (i : Nat) : Vc := act c n w.reverse (al i)
theorem left_iff (S : Sys c n m) {w : List Nat} {s : Nat} (hw : In n w) (hs : s < n) : Low n (fr c n w s) ↔ len n m (s :: w) < len n m w := by
  have := low_iff S hw.rev hs
  rw [← List.reverse_cons, len_rev, len_rev] at this
  exact this
theorem leftS_iff (S : Sys c n m) {w : List Nat} {s : Nat} (hw : In n w) (hs : s < n) : sn (Sm n (fr c n w s)) = -1 ↔ len n m (s :: w) < len n m w := by
  have := sum_iff S hw.rev hs
  rw [← List.reverse_cons, len_rev, len_rev] at this
  exact this
theorem cons2 {s : Nat} (hs : s < n) (w : List Nat) : Cg n m (s :: s :: w) w := by
  have := Cg.ss (n := n) (m := m) [] w hs
  simpa using this
theorem Cg.cons {v w : List Nat} (h : Cg n m v w) (s : Nat) : Cg n m (s :: v) (s :: w) := h.left [s]
theorem has_left {w : List Nat} (hw : In n w) (h : 0 < len n m w) : ∃ s, s < n ∧ len n m (s :: w) < len n m w := by
  obtain ⟨r, hr, er⟩ := len_has (n := n) (m := m) w
  cases r with
  | nil => simp at er; omega
  | cons s r =>
    have ir := hr.in_.mp hw
    have hs := ir s (by simp)
    refine ⟨s, hs, ?_⟩
    have := len_le ((hr.cons s).trans (cons2 hs r))
    rw [List.length_cons] at er
    omega
/-- the least left letter, time after time -/
inductive Nf (n : Nat) (m : Nat → Nat → Nat) : List Nat → List Nat → Prop
  | done {w} : (∀ s, s < n → ¬ len n m (s :: w) < len n m w) → Nf n m w []
  | step {w us s} : s < n → len n m (s :: w) < len n m w → (∀ t, t < s → ¬ len n m (t :: w) < len n m w) → Nf n m (s :: w) us → Nf n m w (s :: us)
theorem Nf.ex : ∀ (N : Nat) {w : List Nat}, In n w → len n m w = N → ∃ us, Nf n m w us
  | N, w, hw, e => by
    induction N using Nat.strongRecOn generalizing w with
    | _ N ih =>
      by_cases h : ∃ s, s < n ∧ len n m (s :: w) < len n m w
      · obtain ⟨s, hs⟩ := h
        obtain ⟨d, ⟨d1, d2⟩, dle, mn⟩ := exists_min (P := fun s => s < n ∧ len n m (s :: w) < len n m w) hs
        obtain ⟨us, hu⟩ := ih (len n m (d :: w)) (by omega) (d :: w) (In.cons d1 hw) rfl
        exact ⟨d :: us, .step d1 d2 (fun t ht z => mn t ht ⟨by omega, z⟩) hu⟩
      · exact ⟨[], .done fun s hs z => h ⟨s, hs, z⟩⟩
theorem Nf.cg {w us : List Nat} (h : Nf n m w us) : In n w → Cg n m w us ∧ us.length = len n m w := by
  induction h with
  | @done w h =>
    intro hw
    have z : len n m w = 0 := by
      rcases Nat.eq_zero_or_pos (len n m w) with g | g
      · exact g
      · obtain ⟨s, hs, q⟩ := has_left hw g
        exact absurd q (h s hs)
    obtain ⟨r, hr, er⟩ := len_has (n := n) (m := m) w
    rw [z] at er
    rw [List.eq_nil_of_length_eq_zero er] at hr
    exact ⟨hr, z.symm⟩
  | @step w us s hs hl _ _ ih =>
    intro hw
    have i := ih (In.cons hs hw)
    refine ⟨(cons2 hs w).symm.trans (i.1.cons s), ?_⟩
    rw [List.length_cons, i.2]
    rcases len_cons (m := m) hs w with g | g <;> omega
/-- frames tell members -/
theorem fr_cons (S : Sys c n m) {s : Nat} (hs : s < n) (w : List Nat) {i : Nat} (hi : i < n) : fr c n (s :: w) i = if i = s then vm (-1, 0) (fr c n w s) else va (fr c n w i) (vm (c s i) (fr c n w s)) := by
  unfold fr
  rw [List.reverse_cons, act_app]
  show act c n w.reverse (rf c n s (al i)) = _
  by_cases h : i = s
  · subst h
    rw [if_pos rfl, rf_al S hs, act_vm]
  · rw [if_neg h, ← act_vm, ← act_va]
    congr 1
    funext k
    unfold va vm
    by_cases ks : k = s
    · subst ks
      rw [rf_at, L_al]
      rw [show al i k = (0, 0) from if_neg (Ne.symm h), show al k k = (1, 0) from if_pos rfl, cm_1]
      rw [if_pos hi]
      simp [ad, ng]
    · rw [rf_ne ks, show al s k = (0, 0) from if_neg ks, cm_0, ad_0]
theorem Nf.same (S : Sys c n m) {w us : List Nat} (h : Nf n m w us) : ∀ {v : List Nat}, In n w → In n v → (∀ i, i < n → fr c n v i = fr c n w i) → Nf n m v us := by
  induction h with
  | @done w h =>
    intro v hw hv e
    refine .done fun s hs z => h s hs ?_
    rw [← left_iff S hv hs, e s hs, left_iff S hw hs] at z
    exact z
  | @step w us s hs hl hm _ ih =>
    intro v hw hv e
    refine .step hs ?_ (fun t ht z => hm t ht ?_) (ih (In.cons hs hw) (In.cons hs hv) fun i hi => ?_)
    · rw [← left_iff S hv hs, e s hs, left_iff S hw hs]
      exact hl
    · have htn : t < n := by omega
      rw [← left_iff S hv htn, e t htn, left_iff S hw htn] at z
      exact z
    · rw [fr_cons S hs _ hi, fr_cons S hs _ hi, e s hs, e i hi]
theorem faith (S : Sys c n m) {v w : List Nat} (hv : In n v) (hw : In n w) (e : ∀ i, i < n → fr c n v i = fr c n w i) : Cg n m v w := by
  obtain ⟨us, hu⟩ := Nf.ex (m := m) _ hw rfl
  exact ((hu.same S hw hv e).cg hv).1.trans (hu.cg hw).1.symm
theorem Cg.fr (S : Sys c n m) {v w : List Nat} (h : Cg n m v w) (i : Nat) : Rt.fr c n v i = Rt.fr c n w i := h.rev.act S (al i)
theorem Nf.det : ∀ {w us vs : List Nat}, Nf n m w us → Nf n m w vs → us = vs
  | _, _, _, .done _, .done _ => rfl
  | _, _, _, .done h, .step hs hl _ _ => absurd hl (h _ hs)
  | _, _, _, .step hs hl _ _, .done h => absurd hl (h _ hs)
  | _, _, _, .step (s := s) hs hl hm k, .step (s := t) ht hl' hm' k' => by
    have : s = t := by
      rcases Nat.lt_trichotomy s t with g | g | g
      · exact absurd hl (hm' s g)
      · exact g
      · exact absurd hl' (hm t g)
    subst this
    rw [Nf.det k k']
/-! leaving out two letters -/
theorem cm_cancel {g y : G} (hg : sn g = 1) (h : cm g y = (0, 0)) : y = (0, 0) := by
  refine sn_zero ?_
  have := sn_cm g y
  rw [h, hg, sn_00] at this
  omega
theorem nn_both {x : G} (h1 : Nn x) (h2 : Nn (ng x)) : x = (0, 0) := by
  rcases sn_val x with e | e | e
  · exact absurd (by rw [sn_ng, e]) h2
  · exact absurd e h1
  · exact sn_zero e
theorem dich (S : Sys c n m) {w : List Nat} (hw : In n w) {s : Nat} (hs : s < n) : (∀ k, Nn (act c n w (al s) k)) ∨ (∀ k, Nn (ng (act c n w (al s) k))) := by
  rcases len_snoc (m := m) hs w with g | g
  · exact .inl (pos_main S _ w s hw hs rfl (by omega))
  · exact .inr (neg_main S hw hs (by omega))
/-- a root that one letter turns is that letter's own -/
theorem turned (S : Sys c n m) {b : List Nat} {x q : Nat} (hb : In n b) (hx : x < n) (hq : q < n) (h1 : len n m b < len n m (b ++ [q])) (h2 : len n m (x :: b ++ [q]) < len n m (x :: b)) :
    ∃ g, sn g = 1 ∧ act c n b (al q) = vm g (al x) := by
  have p := pos_main S _ b q hb hq rfl h1
  have nn := neg_main S (In.cons hx hb) hq h2
  have other : ∀ k, k ≠ x → act c n b (al q) k = (0, 0) := fun k hk => by
    have := nn k
    rw [act_cons, rf_ne hk] at this
    exact nn_both (p k) this
  refine ⟨act c n b (al q) x, ?_, ?_⟩
  · obtain ⟨k, hk, ne⟩ := act_ne S hb hq
    have kx : k = x := Classical.byContradiction fun z => ne (other k z)
    subst kx
    rcases sn_val (act c n b (al q) k) with e | e | e
    · exact e
    · exact absurd e (p k)
    · exact absurd (sn_zero e) ne
  · funext k
    unfold vm
    by_cases h : k = x
    · subst h
      rw [show al k k = (1, 0) from if_pos rfl, cm_1]
    · rw [show al x k = (0, 0) from if_neg h, cm_0, other k h]
theorem rf_add (s : Nat) (y : Vc) : rf c n s y = va y (vm (ad (ng (y s)) (sb (L c s n y) (y s))) (al s)) := by
  funext k
  unfold va vm
  by_cases h : k = s
  · subst h
    rw [rf_at, show al k k = (1, 0) from if_pos rfl, cm_1]
    ext <;> simp only [ad, ng, sb] <;> omega
  · rw [rf_ne h, show al s k = (0, 0) from if_neg h, cm_0, ad_0]
theorem exchange (S : Sys c n m) {b : List Nat} {x q : Nat} (hb : In n b) (hx : x < n) (hq : q < n) (h1 : len n m b < len n m (b ++ [q])) (h2 : len n m (x :: b ++ [q]) < len n m (x :: b)) :
    Cg n m (x :: b ++ [q]) b := by
  obtain ⟨γ, hγ, eβ⟩ := turned S hb hx hq h1 h2
  have inT : In n (b ++ [q] ++ b.reverse) := In.app.mpr ⟨In.app.mpr ⟨hb, fun y hy => by rw [List.mem_singleton.mp hy]; exact hq⟩, hb.rev⟩
  have ing : In n (x :: (b ++ [q] ++ b.reverse)) := In.cons hx inT
  -- the turned one
  have tT : ∀ z : Vc, ∃ τ : G, act c n (b ++ [q] ++ b.reverse) z = va z (vm τ (al x)) := fun z => by
    rw [act_app, act_app]
    show ∃ τ, act c n b (rf c n q (act c n b.reverse z)) = _
    rw [rf_add, act_va, act_vm, eβ]
    have := act_rev S hb.rev z
    rw [List.reverse_reverse] at this
    rw [this]
    refine ⟨cm (ad (ng (act c n b.reverse z q)) (sb (L c q n (act c n b.reverse z)) (act c n b.reverse z q))) γ, ?_⟩
    congr 1
    funext k
    unfold vm
    by_cases h : k = x
    · subst h
      rw [show al k k = (1, 0) from if_pos rfl, cm_1, cm_1]
    · rw [show al x k = (0, 0) from if_neg h, cm_0, cm_0, cm_0]
  have gz : ∀ z : Vc, ∃ τ : G, act c n (x :: (b ++ [q] ++ b.reverse)) z = va z (vm τ (al x)) := fun z => by
    obtain ⟨τ, e⟩ := tT z
    rw [act_cons, e, rf_add]
    refine ⟨ad τ (ad (ng (va z (vm τ (al x)) x)) (sb (L c x n (va z (vm τ (al x)))) (va z (vm τ (al x)) x))), ?_⟩
    funext k
    unfold va vm
    by_cases h : k = x
    · subst h
      rw [show al k k = (1, 0) from if_pos rfl, cm_1, cm_1, cm_1]
      ext <;> simp only [ad] <;> omega
    · rw [show al x k = (0, 0) from if_neg h, cm_0, cm_0, cm_0, ad_0, ad_0]
  -- it keeps the letter's root
  have tx : act c n (b ++ [q] ++ b.reverse) (al x) = vm (-1, 0) (al x) := by
    have e1 : act c n (b ++ [q] ++ b.reverse) (vm γ (al x)) = vm (-1, 0) (vm γ (al x)) := by
      rw [← eβ, act_app, act_rev S hb, act_snoc S hq]
    obtain ⟨τ, e⟩ := tT (al x)
    rw [act_vm, e] at e1
    have e2 := congrFun e1 x
    unfold vm va at e2
    have e2 : cm γ (ad (al x x) (cm τ (al x x))) = cm (-1, 0) (cm γ (al x x)) := e2
    rw [show al x x = (1, 0) from if_pos rfl, cm_1, cm_1, cm_m1] at e2
    have e3 : cm γ (ad (ad (1, 0) τ) (1, 0)) = (0, 0) := by
      rw [cm_ad, e2, cm_1]
      ext <;> simp only [ad, ng] <;> omega
    have e4 := cm_cancel hγ e3
    rw [e]
    funext k
    unfold va vm
    by_cases h : k = x
    · subst h
      rw [show al k k = (1, 0) from if_pos rfl, cm_1, cm_1]
      have z := e4
      simp only [ad, Prod.mk.injEq] at z ⊢
      omega
    · rw [show al x k = (0, 0) from if_neg h, cm_0, cm_0, ad_0]
  have gx : act c n (x :: (b ++ [q] ++ b.reverse)) (al x) = al x := by
    rw [act_cons, tx, rf_vm, rf_al S hx]
    funext k
    unfold vm
    rw [cm_m1, cm_m1, ng_ng]
  -- it keeps all roots
  have gk : ∀ k, k < n → act c n (x :: (b ++ [q] ++ b.reverse)) (al k) = al k := fun k hk => by
    by_cases kx : k = x
    · subst kx
      exact gx
    obtain ⟨τ, e⟩ := gz (al k)
    have one : ∀ {w : List Nat} {σ : G}, In n w → act c n w (al k) = va (al k) (vm σ (al x)) → Nn σ := fun {w σ} hw e => by
      rcases dich S hw hk with d | d
      · have := d x
        rw [e] at this
        unfold va vm at this
        rw [show al k x = (0, 0) from if_neg (Ne.symm kx), show al x x = (1, 0) from if_pos rfl, cm_1, ad_0l] at this
        exact this
      · have := d k
        rw [e] at this
        unfold va vm at this
        rw [show al k k = (1, 0) from if_pos rfl, show al x k = (0, 0) from if_neg kx, cm_0, ad_0] at this
        exact absurd (by rw [sn_ng, sn_int 1 (by decide)]) this
    have a1 := one ing e
    have inv : act c n (x :: (b ++ [q] ++ b.reverse)).reverse (al k) = va (al k) (vm (ng τ) (al x)) := by
      have g2 : act c n (x :: (b ++ [q] ++ b.reverse)) (va (al k) (vm (ng τ) (al x))) = al k := by
        rw [act_va, act_vm, gx, e]
        funext j
        unfold va vm
        by_cases h : j = x
        · subst h
          rw [show al j j = (1, 0) from if_pos rfl, cm_1, cm_1]
          ext <;> simp only [ad, ng] <;> omega
        · rw [show al x j = (0, 0) from if_neg h, cm_0, cm_0, ad_0, ad_0]
      have := act_rev S ing (va (al k) (vm (ng τ) (al x)))
      rw [g2] at this
      exact this
    have a2 := one ing.rev inv
    have τ0 := nn_both a1 a2
    rw [e, τ0]
    funext j
    unfold va vm
    rw [cm_zero, ad_0]
  have c1 : Cg n m (x :: (b ++ [q] ++ b.reverse)).reverse [] := faith S ing.rev (fun y hy => by cases hy) fun i hi => by
    unfold fr
    rw [List.reverse_reverse, gk i hi]
    rfl
  have c2 : Cg n m (x :: (b ++ [q] ++ b.reverse)) [] := by
    have := c1.rev
    rw [List.reverse_reverse] at this
    exact this
  have back : Cg n m (b.reverse ++ b) [] := by
    refine faith S (In.app.mpr ⟨hb.rev, hb⟩) (fun y hy => by cases hy) fun i _ => ?_
    unfold fr
    rw [List.reverse_append, List.reverse_reverse, act_app, act_rev S hb]
    rfl
  have e1 : Cg n m (x :: b ++ [q]) ((x :: (b ++ [q] ++ b.reverse)) ++ b) := by
    have := (back.symm).left (x :: b ++ [q])
    rw [List.append_nil] at this
    refine this.trans ?_
    rw [show x :: b ++ [q] ++ (b.reverse ++ b) = (x :: (b ++ [q] ++ b.reverse)) ++ b by simp]
    exact .rfl _
  exact e1.trans (c2.right b)
/-- a word that is not a shortest one: two letters can be left out -/
theorem leave_two (S : Sys c n m) {w : List Nat} (hw : In n w) (h : len n m w < w.length) : ∃ a x b q d, w = a ++ x :: b ++ q :: d ∧ Cg n m w (a ++ b ++ d) := by
  -- the shortest beginning that is not shortest
  obtain ⟨N, ⟨p, q, d, ew, el⟩, _, mn⟩ := exists_min (P := fun N => ∃ p q d, w = p ++ q :: d ∧ len n m (p ++ [q]) < p.length + 1 ∧ p.length = N) (N := w.length - 1) (by
    rcases List.eq_nil_or_concat w with e | ⟨p, q, e⟩
    · rw [e] at h
      simp at h
    · rw [List.concat_eq_append] at e
      refine ⟨p, q, [], e, ?_, ?_⟩
      · rw [← e]
        rw [e, List.length_append] at h
        simpa [e] using h
      · rw [e]
        simp)
  obtain ⟨el, eN⟩ := el
  have inw := hw
  rw [ew] at inw
  have inp := (In.app.mp inw).1
  have hq : q < n := inw q (by simp)
  have lp : len n m p = p.length := by
    rcases Nat.lt_or_ge (len n m p) p.length with g | g
    · exfalso
      rcases List.eq_nil_or_concat p with e | ⟨p', q', e⟩
      · rw [e] at g
        simp at g
      · rw [List.concat_eq_append] at e
        refine mn p'.length (by rw [← eN, e]; simp) ⟨p', q', q :: d, by rw [ew, e]; simp, ?_, rfl⟩
        rw [← e]
        rw [e] at g ⊢
        simpa using g
    · exact Nat.le_antisymm (len_self p) g
  have down : len n m (p ++ [q]) < len n m p := by
    rcases len_snoc (m := m) hq p with g | g <;> omega
  -- where it turns
  have find : ∀ p : List Nat, In n p → len n m (p ++ [q]) < len n m p → ∃ a x b, p = a ++ x :: b ∧ len n m b < len n m (b ++ [q]) ∧ len n m (x :: b ++ [q]) < len n m (x :: b) := fun p => by
    induction p with
    | nil =>
      intro _ h
      have := len_self (n := n) (m := m) []
      simp at this
      omega
    | cons x p ih =>
      intro hi h
      rcases len_snoc (m := m) hq p with g | g
      · exact ⟨[], x, p, rfl, by omega, h⟩
      · obtain ⟨a, y, b, e, h1, h2⟩ := ih hi.tail (by omega)
        exact ⟨x :: a, y, b, by rw [e]; rfl, h1, h2⟩
  obtain ⟨a, x, b, ep, h1, h2⟩ := find p inp down
  have inb : In n b := fun y hy => inp y (by rw [ep]; simp [hy])
  have hx : x < n := inp x (by rw [ep]; simp)
  refine ⟨a, x, b, q, d, by rw [ew, ep], ?_⟩
  have := (exchange S inb hx hq h1 h2).app a d
  rw [ew, ep]
  simpa using this
end Rt

namespace Sk
open PySem L2 Ow
/-! systems as matrices of golds -/
def gl (x : List Int) : Rt.G := (x.getD 0 0, x.getD 1 0)
def cB (bs : List (List Int)) (i j : Nat) : Rt.G := if i = j then (0, 0) else gl (fac bs i j)
def cT (bs : List (List Int)) (i j : Nat) : Rt.G := cB bs j i
def mB (bs : List (List Int)) (i j : Nat) : Nat := (bondOf bs i j).toNat
theorem bondOf_symm (bs : List (List Int)) (i j : Int) : bondOf bs i j = bondOf bs j i := by
  unfold bondOf
  have : isPr i j = isPr j i := by
    funext t
    unfold isPr
    rw [Bool.or_comm]
  rw [this]
theorem dih_of {n : Int} {bs : List (List Int)} (va : Valid n bs) {s t : Nat} (h : s ≠ t) : Rt.Dih (cB bs s t) (cB bs t s) (mB bs s t) := by
  have ok := bondOf_ok va s t
  unfold cB mB
  rw [if_neg h, if_neg (Ne.symm h)]
  unfold fac
  rw [bondOf_symm bs t s]
  rcases Nat.lt_or_gt_of_ne h with g | g
  · rw [if_pos (show (s : Int) < t by omega), if_neg (show ¬ (t : Int) < s by omega)]
    rcases ok with e | e | e | e | e | e <;> rw [e]
    · exact Rt.dih0
    · exact Rt.dih2
    · exact Rt.dih3
    · exact Rt.dih4
    · exact Rt.dih5
    · exact Rt.dih6
  · rw [if_neg (show ¬ (s : Int) < t by omega), if_pos (show (t : Int) < s by omega)]
    rcases ok with e | e | e | e | e | e <;> rw [e]
    · exact Rt.dih0
    · exact Rt.dih2
    · exact Rt.dih3
    · exact Rt.dih4'
    · exact Rt.dih5
    · exact Rt.dih6'
theorem sysB {n : Int} {bs : List (List Int)} (va : Valid n bs) : Rt.Sys (cB bs) n.toNat (mB bs) :=
  ⟨fun s => if_pos rfl, fun s t => by unfold mB; rw [bondOf_symm], fun s t _ _ h => dih_of va h⟩
theorem sysT {n : Int} {bs : List (List Int)} (va : Valid n bs) : Rt.Sys (cT bs) n.toNat (mB bs) :=
  ⟨fun s => if_pos rfl, fun s t => by unfold mB; rw [bondOf_symm], fun s t _ _ h => by
    have := dih_of va (Ne.symm h)
    have e : mB bs t s = mB bs s t := by unfold mB; rw [bondOf_symm]
    rw [e] at this
    exact this⟩
theorem c_small {n : Int} {bs : List (List Int)} (va : Valid n bs) (i j : Nat) : 0 ≤ (cB bs i j).1 ∧ (cB bs i j).1 ≤ 3 ∧ 0 ≤ (cB bs i j).2 ∧ (cB bs i j).2 ≤ 3 := by
  unfold cB
  split
  · decide
  · obtain ⟨w, p, e, b⟩ := fac_two va i j
    rw [e]
    show 0 ≤ w ∧ w ≤ 3 ∧ 0 ≤ p ∧ p ≤ 3
    omega
/-! states as sums -/
def pr2 (x : Rt.G) : List Int := [x.1, x.2]
def stL (n : Nat) (S : Nat → Rt.G) : List (List Int) := (List.range n).map fun i => pr2 (S i)
theorem stL_len (n : Nat) (S : Nat → Rt.G) : (stL n S).length = n := by unfold stL; rw [List.length_map, List.length_range]
theorem stL_get {n : Nat} {S : Nat → Rt.G} {i : Nat} (h : i < n) : (stL n S)[i]? = some (pr2 (S i)) := by
  unfold stL
  rw [List.getElem?_map, List.getElem?_range h]
  rfl
theorem stL_getD {n : Nat} {S : Nat → Rt.G} {i : Nat} (h : i < n) : (stL n S).getD i [] = pr2 (S i) := by
  rw [List.getD_eq_getElem?_getD, stL_get h]
  rfl
theorem stL_ok (n : Nat) (S : Nat → Rt.G) : StOk n (stL n S) := ⟨stL_len n S, fun x hx => by
  unfold stL at hx
  obtain ⟨i, _, rfl⟩ := List.mem_map.mp hx
  exact ⟨_, _, rfl⟩⟩
theorem eq_stL {n : Nat} {st : List (List Int)} {S : Nat → Rt.G} (hl : st.length = n) (h : ∀ i, i < n → st.getD i [] = pr2 (S i)) : st = stL n S := by
  refine List.ext_getElem? fun i => ?_
  rcases Nat.lt_or_ge i n with g | g
  · rw [stL_get g, ← h i g, List.getD_eq_getElem?_getD, List.getElem?_eq_getElem (by omega)]
    rfl
  · rw [List.getElem?_eq_none (by omega), List.getElem?_eq_none (by rw [stL_len]; omega)]
def updG (f : List Int) (g : Rt.G) (x : List Int) : List Int := [x.getD 0 0 + f.getD 0 0 * g.1 + f.getD 1 0 * g.2, x.getD 1 0 + f.getD 0 0 * g.2 + f.getD 1 0 * (g.1 + g.2)]
theorem getD_set {α : Type} {xs : List α} {i k : Nat} {x d : α} (hk : k < xs.length) : (xs.set i x).getD k d = if k = i then x else xs.getD k d := by
  rw [List.getD_eq_getElem?_getD, List.getElem?_set, List.getD_eq_getElem?_getD]
  by_cases h : i = k
  · subst h
    rw [if_pos rfl, if_pos hk, if_pos rfl]
    rfl
  · rw [if_neg h, if_neg (Ne.symm h)]
theorem step_fac {n : Int} {bs : List (List Int)} (va : Valid n bs) (g : Rt.G) (ns : List (List Int)) (o l : Int) : step1 g.1 g.2 ns (o :: fac bs o l) = ns.set o.toNat (updG (fac bs o l) g (ns.getD o.toNat [])) := by
  obtain ⟨w, p, e, _⟩ := fac_two va o l
  rw [e]
  rfl
theorem fold_put {n : Int} {bs : List (List Int)} (va : Valid n bs) (g : Rt.G) (l : Int) : ∀ (os : List Int) (ns : List (List Int)), os.Nodup → (∀ o ∈ os, 0 ≤ o) → ∀ k, k < ns.length →
    ((os.map fun o => o :: fac bs o l).foldl (step1 g.1 g.2) ns).getD k [] = if (k : Int) ∈ os then updG (fac bs k l) g (ns.getD k []) else ns.getD k []
  | [], ns, _, _, k, _ => by simp
  | o :: os, ns, hn, h0, k, hk => by
    rw [List.map_cons, List.foldl_cons, step_fac va]
    have nd := List.nodup_cons.mp hn
    rw [fold_put va g l os _ nd.2 (fun x hx => h0 x (by simp [hx])) k (by rw [List.length_set]; exact hk), getD_set hk]
    have o0 := h0 o (by simp)
    by_cases e : k = o.toNat
    · have e2 : (k : Int) = o := by omega
      rw [if_pos e, e2, if_neg nd.1, if_pos (by simp), e]
    · have e2 : (k : Int) ≠ o := by omega
      rw [if_neg e]
      have : ((k : Int) ∈ o :: os) ↔ (k : Int) ∈ os := by simp [e2]
      by_cases q : (k : Int) ∈ os
      · rw [if_pos q, if_pos (this.mpr q)]
      · rw [if_neg q, if_neg (fun z => q (this.mp z))]
theorem upto_nodup (n : Int) : (upto n).Nodup := by
  unfold upto List.Nodup
  rw [List.pairwise_map]
  exact (List.pairwise_lt_range (n := n.toNat)).imp fun {a b} h => by omega
theorem put_stL {n : Int} {bs : List (List Int)} (va : Valid n bs) (S : Nat → Rt.G) {l : Nat} (hl : l < n.toNat) :
    putA (lkOf bs n) (stL n.toNat S) l = stL n.toNat fun o => if o = l then Rt.ng (S l) else Rt.ad (S o) (Rt.cm (cB bs o l) (S l)) := by
  have hl2 : (l : Int).toNat = l := by omega
  have lkl : (lkOf bs n).getD l [] = trip bs n l := by
    unfold lkOf
    rw [List.getD_eq_getElem?_getD, List.getElem?_map, upto_get hl]
    show trip bs n (0 + (l : Nat)) = _
    rw [Int.zero_add]
  refine eq_stL (StOk.put (stL_ok _ S) _ _).len fun k hk => ?_
  unfold putA
  rw [hl2, lkl, stL_getD hl]
  show (List.foldl (step1 (S l).1 (S l).2) ((stL n.toNat S).set l [-(S l).1, -(S l).2]) (trip bs n l)).getD k [] = _
  have nd : ((oth n l).filter fun o => nz (fac bs o l)).Nodup := by
    unfold oth
    exact ((upto_nodup n).filter _).filter _
  unfold trip
  rw [fold_put va (S l) l _ _ nd (fun o ho => by
    have := (mem_oth.mp (List.mem_filter.mp ho).1).1
    omega) k (by rw [List.length_set, stL_len]; exact hk), getD_set (by rw [stL_len]; exact hk), stL_getD hk]
  by_cases e : k = l
  · subst e
    rw [if_pos rfl, if_pos rfl, if_neg]
    · rfl
    · intro z
      exact (mem_oth.mp (List.mem_filter.mp z).1).2 rfl
  · rw [if_neg e, if_neg e]
    have ce : cB bs k l = gl (fac bs k l) := if_neg e
    obtain ⟨w, p, ef, _⟩ := fac_two va (k : Int) (l : Int)
    have mo : (k : Int) ∈ oth n l := mem_oth.mpr ⟨by omega, by omega⟩
    rw [ce, ef]
    by_cases z : nz (fac bs k l) = true
    · rw [if_pos (List.mem_filter.mpr ⟨mo, z⟩)]
      show [_, _] = [_, _]
      congr 1
      · show (S k).1 + w * (S l).1 + p * (S l).2 = (S k).1 + (w * (S l).1 + p * (S l).2)
        omega
      · congr 1
        show (S k).2 + w * (S l).2 + p * ((S l).1 + (S l).2) = (S k).2 + (w * (S l).2 + p * (S l).1 + p * (S l).2)
        rw [Int.mul_add]
        omega
    · have zz : ¬ (k : Int) ∈ (oth n l).filter fun o => nz (fac bs o l) := fun q => z (List.mem_filter.mp q).2
      rw [if_neg zz]
      rw [ef] at z
      have wz : w = 0 ∧ p = 0 := by
        have z' : ¬ (w != 0 || p != 0) = true := z
        simpa using z'
      rw [wz.1, wz.2]
      show pr2 (S k) = pr2 (Rt.ad (S k) (Rt.cm (0, 0) (S l)))
      rw [Rt.cm_zero, Rt.ad_0]
def castW (w : List Nat) : List Int := w.map fun i : Nat => (i : Int)
theorem Sm_al {n i : Nat} (h : i < n) : Rt.Sm n (Rt.al i) = (1, 0) := by
  have go : ∀ k, Rt.Sm k (Rt.al i) = if i < k then (1, 0) else (0, 0) := fun k => by
    induction k with
    | zero => rfl
    | succ k ih =>
      show Rt.ad (Rt.Sm k (Rt.al i)) (Rt.al i k) = _
      rw [ih]
      unfold Rt.al
      by_cases e : k = i
      · subst e
        rw [if_neg (by omega), if_pos rfl, if_pos (by omega)]
        rfl
      · rw [if_neg e, Rt.ad_0]
        by_cases g : i < k
        · rw [if_pos g, if_pos (by omega)]
        · rw [if_neg g, if_neg (by omega)]
  rw [go n, if_pos h]
/-- the number of a member at a letter -/
def nb_ (bs : List (List Int)) (n : Nat) (w : List Nat) (i : Nat) : Rt.G := Rt.Sm n (Rt.fr (cT bs) n w i)
theorem nb_cons {n : Int} {bs : List (List Int)} (va : Valid n bs) {l : Nat} (hl : l < n.toNat) (w : List Nat) {o : Nat} (ho : o < n.toNat) : nb_ bs n.toNat (l :: w) o = if o = l then Rt.ng (nb_ bs n.toNat w l) else Rt.ad (nb_ bs n.toNat w o) (Rt.cm (cB bs o l) (nb_ bs n.toNat w l)) := by
  unfold nb_
  rw [Rt.fr_cons (sysT va) hl w ho]
  by_cases q : o = l
  · rw [if_pos q, if_pos q, Rt.Sm_vm, Rt.cm_m1]
  · rw [if_neg q, if_neg q, Rt.Sm_va, Rt.Sm_vm]
    rfl
theorem st_word {n : Int} {bs : List (List Int)} (va : Valid n bs) : ∀ {w : List Nat}, Rt.In n.toNat w → stOf bs n (castW w) = stL n.toNat (nb_ bs n.toNat w)
  | [], _ => by
    refine eq_stL (StOk.first _).len fun i hi => ?_
    show (List.replicate n.toNat [(1 : Int), 0]).getD i [] = _
    unfold nb_ Rt.fr
    show _ = pr2 (Rt.Sm n.toNat (Rt.al i))
    rw [Sm_al hi, List.getD_eq_getElem?_getD, List.getElem?_replicate, if_pos hi]
    rfl
  | l :: w, h => by
    have hl := h l (by simp)
    have e : stOf bs n (castW (l :: w)) = putA (lkOf bs n) (stOf bs n (castW w)) l := by
      unfold stOf aheadW castW
      rw [List.map_cons, List.reverse_cons, List.foldl_append]
      rfl
    rw [e, st_word va h.tail, put_stL va _ hl]
    unfold stL
    refine List.map_congr_left fun o ho => ?_
    have ho := List.mem_range.mp ho
    rw [nb_cons va hl w ho]
/-! how great the numbers are -/
def Bg (k : Nat) (x : Rt.G) : Prop := x.1.natAbs ≤ 2 ^ k ∧ x.2.natAbs ≤ 2 ^ k
theorem Bg.mono {k l : Nat} {x : Rt.G} (h : Bg k x) (hk : k ≤ l) : Bg l x := by
  have := Nat.pow_le_pow_right (show 0 < 2 by decide) hk
  exact ⟨Nat.le_trans h.1 this, Nat.le_trans h.2 this⟩
theorem Bg.ng {k : Nat} {x : Rt.G} (h : Bg k x) : Bg k (Rt.ng x) := by
  unfold Bg Rt.ng at *
  simp only [Int.natAbs_neg]
  exact h
theorem mul3 {c x : Int} {M : Nat} (h0 : 0 ≤ c) (h3 : c ≤ 3) (h : x.natAbs ≤ M) : (c * x).natAbs ≤ 3 * M := by
  rw [Int.natAbs_mul]
  exact Nat.mul_le_mul (by omega) h
theorem Bg.cm {k : Nat} {c x : Rt.G} (h0 : 0 ≤ c.1) (h1 : c.1 ≤ 3) (h2 : 0 ≤ c.2) (h3 : c.2 ≤ 3) (h : Bg k x) : Bg (k + 4) (Rt.cm c x) := by
  have a := mul3 h0 h1 h.1
  have b := mul3 h2 h3 h.2
  have d := mul3 h0 h1 h.2
  have e := mul3 h2 h3 h.1
  unfold Bg Rt.cm
  rw [Nat.pow_add]
  constructor <;> (simp only; omega)
theorem Bg.ad {k : Nat} {x y : Rt.G} (h1 : Bg k x) (h2 : Bg k y) : Bg (k + 1) (Rt.ad x y) := by
  unfold Bg Rt.ad at *
  rw [Nat.pow_succ]
  constructor <;> (simp only; omega)
theorem nb_big {n : Int} {bs : List (List Int)} (va : Valid n bs) : ∀ {w : List Nat}, Rt.In n.toNat w → ∀ i, i < n.toNat → Bg (5 * w.length) (nb_ bs n.toNat w i)
  | [], _, i, hi => by
    unfold nb_ Rt.fr
    show Bg 0 (Rt.Sm n.toNat (Rt.al i))
    rw [Sm_al hi]
    exact ⟨by decide, by decide⟩
  | l :: w, h, i, hi => by
    have hl := h l (by simp)
    rw [nb_cons va hl w hi, List.length_cons]
    have c := c_small va i l
    have a := nb_big va h.tail l hl
    have b := nb_big va h.tail i hi
    split
    · exact (a.ng).mono (by omega)
    · have := (b.mono (show 5 * w.length ≤ 5 * w.length + 4 by omega)).ad (a.cm c.1 c.2.1 c.2.2.1 c.2.2.2)
      exact this.mono (by omega)
theorem Bg.b {k : Nat} {x : Rt.G} (h : Bg k x) (hk : k < 1000) : B 1000 x.1 ∧ B 1000 x.2 := by
  have : 2 ^ k < 2 ^ 1000 := Nat.pow_lt_pow_right (by decide) hk
  exact ⟨Nat.lt_of_le_of_lt h.1 this, Nat.lt_of_le_of_lt h.2 this⟩
theorem bel_sn (x : Rt.G) : bel (pr2 x) = true ↔ Rt.sn x = -1 := by
  unfold bel pr2
  show (if x.2 = 0 then decide (x.1 < 0) else decide (Gd.gsI x.1 x.2 < 0)) = true ↔ Gd.gs x.1 x.2 = -1
  have v := Gd.gs_val x.1 x.2
  by_cases h : x.2 = 0
  · rw [if_pos h, decide_eq_true_iff, h, Gd.gs_part0]
    constructor
    · intro g
      rw [if_neg (by omega), if_pos g]
      rfl
    · intro g
      by_cases q : x.1 < 0
      · exact q
      · rw [if_neg q] at g
        split at g <;> omega
  · rw [if_neg h, decide_eq_true_iff, Gd.gsI_eq]
    omega
theorem filter_head {α : Type} {p : α → Bool} {A B : List α} {s : α} (h : ∀ a ∈ A, p a = false) (hs : p s = true) : (A ++ s :: B).filter p = s :: B.filter p := by
  rw [List.filter_append, List.filter_cons_of_pos hs]
  have : A.filter p = [] := List.filter_eq_nil_iff.mpr fun a ha => by rw [h a ha]; exact Bool.false_ne_true
  rw [this]
  rfl
theorem upto_split {n : Nat} {s : Nat} (h : s < n) : ∃ B, upto (n : Nat) = upto (s : Nat) ++ (s : Int) :: B := by
  refine ⟨(upto (n : Nat)).drop (s + 1), ?_⟩
  have hl : s < (upto (n : Nat)).length := by rw [upto_length]; omega
  have e : (upto (n : Nat)).take s = upto (s : Nat) := by
    unfold upto
    rw [← List.map_take, List.take_range]
    congr 2
    omega
  have g : (upto (n : Nat))[s] = (s : Int) := by
    have := List.getElem?_eq_getElem hl
    rw [upto_get (by omega)] at this
    have := Option.some.inj this
    omega
  conv => lhs; rw [← List.take_append_drop s (upto (n : Nat)), List.drop_eq_getElem_cons hl, e, g]
theorem lefts_word {n : Int} {bs : List (List Int)} (va : Valid n bs) {w : List Nat} (hw : Rt.In n.toNat w) {i : Nat} (hi : i < n.toNat) : bel ((stOf bs n (castW w)).getD i []) = true ↔ Rt.len n.toNat (mB bs) (i :: w) < Rt.len n.toNat (mB bs) w := by
  rw [st_word va hw, stL_getD hi, bel_sn]
  exact Rt.leftS_iff (sysT va) hw hi
theorem fine_word {n : Int} {bs : List (List Int)} (va : Valid n bs) {w : List Nat} (hw : Rt.In n.toNat w) (hl : w.length < 200) : Fine (stOf bs n (castW w)) := by
  rw [st_word va hw]
  intro x hx
  unfold stL at hx
  obtain ⟨i, hi, rfl⟩ := List.mem_map.mp hx
  exact .inr ((nb_big va hw i (List.mem_range.mp hi)).b (by omega))
theorem runs_nf {n : Int} {bs : List (List Int)} (va : Valid n bs) {w us : List Nat} (h : Rt.Nf n.toNat (mB bs) w us) : Rt.In n.toNat w → w.length + us.length < 200 → Runs (lkOf bs n) (stOf bs n (castW w)) (castW us) := by
  have n0 := va.lo
  induction h with
  | @done w h =>
    intro hw hl
    refine .done (fine_word va hw (by simp at hl; omega)) ?_
    unfold lefts
    rw [List.filter_eq_nil_iff]
    intro i hi
    have m := mem_upto.mp hi
    rw [st_word va hw, stL_len] at m
    intro z
    have := (lefts_word va hw (i := i.toNat) (by omega)).mp z
    exact h _ (by omega) this
  | @step w us s hs hl hm _ ih =>
    intro hw hlen
    rw [List.length_cons] at hlen
    have e : (stOf bs n (castW w)).length = n.toNat := by rw [st_word va hw, stL_len]
    obtain ⟨B, eB⟩ := upto_split hs
    refine .step (r := B.filter fun i => bel ((stOf bs n (castW w)).getD i.toNat [])) (fine_word va hw (by omega)) ?_ ?_
    · unfold lefts
      rw [e, eB]
      refine filter_head (fun a ha => ?_) ?_
      · have m := mem_upto.mp ha
        rw [Bool.eq_false_iff]
        intro z
        exact hm a.toNat (by omega) ((lefts_word va hw (by omega)).mp z)
      · exact (lefts_word va hw hs).mpr hl
    · have := ih (Rt.In.cons hs hw) (by rw [List.length_cons]; omega)
      have q : putA (lkOf bs n) (stOf bs n (castW w)) s = stOf bs n (castW (s :: w)) := by
        unfold stOf aheadW castW
        rw [List.map_cons, List.reverse_cons, List.foldl_append]
        rfl
      rw [q]
      exact this
end Sk

namespace Sk
open PySem L2 Ow
theorem sh_L (ns : List Int) : SeqAt.shaped (.list (ns.map PyData.int)) = true := by
  unfold SeqAt.shaped
  have h1 : (PyData.list (ns.map PyData.int)).canLay0 = true := by simp [PyData.canLay0, lay_ints]
  have h2 : (PyData.list (ns.map PyData.int)).depth ≤ 64 := by have := dep_ints ns; simp [PyData.depth]; omega
  rw [h1, decide_eq_true h2]
  rfl
theorem eqv_ints : ∀ a b : List Int, PyData.eqvAll (a.map PyData.int) (b.map PyData.int) = decide (a = b)
  | [], [] => by simp [PyData.eqvAll]
  | [], _ :: _ => by simp [PyData.eqvAll]
  | _ :: _, [] => by simp [PyData.eqvAll]
  | x :: a, y :: b => by
    have h := eqv_ints a b
    by_cases e : x = y
    · subst e
      simp [PyData.eqvAll, PyData.eqv, h]
    · simp [PyData.eqvAll, PyData.eqv, h, e]
theorem eqv_dT (a b : List Int) : PyData.eqv (dT a) (dT b) = decide (a = b) := by
  unfold dT
  rw [show PyData.eqv (.tuple (a.map PyData.int)) (.tuple (b.map PyData.int)) = PyData.eqvAll (a.map PyData.int) (b.map PyData.int) from by simp [PyData.eqv]]
  exact eqv_ints a b
theorem eqv_dTs : ∀ a b : List (List Int), PyData.eqvAll (a.map dT) (b.map dT) = decide (a = b)
  | [], [] => by simp [PyData.eqvAll]
  | [], _ :: _ => by simp [PyData.eqvAll]
  | _ :: _, [] => by simp [PyData.eqvAll]
  | x :: a, y :: b => by
    have h := eqv_dTs a b
    have h2 := eqv_dT x y
    by_cases e : x = y
    · subst e
      simp [PyData.eqvAll, h2, h]
    · simp [PyData.eqvAll, h2, h, e]
theorem eqv_L (a b : List Int) : PyData.eqv (.list (a.map PyData.int)) (.list (b.map PyData.int)) = decide (a = b) := by
  rw [show PyData.eqv (.list (a.map PyData.int)) (.list (b.map PyData.int)) = PyData.eqvAll (a.map PyData.int) (b.map PyData.int) from by simp [PyData.eqv]]
  exact eqv_ints a b
/-- a list of tuples of ints, as data -/
def dL (bs : List (List Int)) : PyData := .list (bs.map dT)
theorem sh_dL (bs : List (List Int)) : SeqAt.shaped (dL bs) = true := by
  unfold SeqAt.shaped
  have h1 : (dL bs).canLay0 = true := by simp [dL, PyData.canLay0, lay_dTs]
  have h2 : (dL bs).depth ≤ 64 := by have := dep_dTs bs; simp [dL, PyData.depth]; omega
  rw [h1, decide_eq_true h2]
  rfl
theorem eqv_dL (a b : List (List Int)) : PyData.eqv (dL a) (dL b) = decide (a = b) := by
  unfold dL
  rw [show PyData.eqv (.list (a.map dT)) (.list (b.map dT)) = PyData.eqvAll (a.map dT) (b.map dT) from by simp [PyData.eqv]]
  exact eqv_dTs a b
/-- a list of tuples of ints at l -/
def LT (K : PySem.W.Frag) (H : Hp) (l : Addr) (bs : List (List Int)) : Prop := ∃ xs, H l = some (.lst xs) ∧ TIs K H xs bs
theorem LT.same {K : PySem.W.Frag} {H H' : Hp} {l : Addr} {bs : List (List Int)} (h : LT K H l bs) (s : Same H H') : LT K H' l bs := h.elim fun xs ⟨e, t⟩ => ⟨xs, s _ _ e, t.same s⟩
theorem LT.dp {K : PySem.W.Frag} {H : Hp} {l : Addr} {bs : List (List Int)} (h : LT K H l bs) : Dp K H (.ref l) (dL bs) := h.elim fun xs ⟨e, t⟩ => .lst (.of e) t.dp
theorem any_dT (x : List Int) : ∀ bs : List (List Int), ((bs.map dT).any fun z => PyData.eqv z (dT x)) = decide (x ∈ bs)
  | [] => by simp
  | b :: r => by
    rw [List.map_cons, List.any_cons, any_dT x r, eqv_dT]
    by_cases e : b = x
    · subst e; simp
    · simp [e, Ne.symm e]
/-- the draws' list -/
def VatAt (H : Hp) (p : Addr) : Prop := ∃ b0 b1 b2 : Int, H p = some (.lst [.int b0, .int b1, .int b2])
theorem Off.refl {D : Addr} {H : Hp} : Off D H H := fun _ _ _ h => h
theorem Off.trans {D : Addr} {H H1 H2 : Hp} (a : Off D H H1) (b : Off D H1 H2) : Off D H H2 := fun q o n h => b q o n (a q o n h)
theorem Off.of_same {D : Addr} {H H1 : Hp} (a : Same H H1) : Off D H H1 := fun q o _ h => a q o h
theorem TI.but {K : PySem.W.Frag} {H H' : Hp} {v : V} {ns : List Int} {p : Addr} (h : TI K H v ns) (o : Off p H H') (b : VatAt H p) : TI K H' v ns := h.elim fun a ⟨e, q⟩ => ⟨a, e, by
  obtain ⟨_, _, _, hp⟩ := b
  exact o.sqT hp q⟩
theorem VatAt.same {H H' : Hp} {p : Addr} (b : VatAt H p) (s : Same H H') : VatAt H' p := b.elim fun b0 ⟨b1, b2, e⟩ => ⟨b0, b1, b2, s _ _ e⟩
theorem vat_ne {H : Hp} {p q : Addr} (b : VatAt H p) (n : H q = none) : q ≠ p := fun e => by
  obtain ⟨_, _, _, h⟩ := b
  rw [e, h] at n
  cases n
theorem VatAt.but {H H' : Hp} {p D : Addr} (b : VatAt H p) (o : Off D H H') (n : p ≠ D) : VatAt H' p := b.elim fun b0 ⟨b1, b2, e⟩ => ⟨b0, b1, b2, o _ _ n e⟩
end Sk

namespace Rt
open Gd
variable {c : Nat → Nat → G} {n : Nat} {m : Nat → Nat → Nat}
/-! shortest words of one member go over into one another by exchanges -/
theorem altE_mem {s t : Nat} : ∀ (k x : Nat), (x ∈ altE k s t → x = s ∨ x = t) ∧ (x ∈ altE k t s → x = s ∨ x = t)
  | 0, _ => ⟨fun h => (by cases h), fun h => (by cases h)⟩
  | k + 1, x => by
    have ih := altE_mem (s := s) (t := t) k x
    refine ⟨fun h => ?_, fun h => ?_⟩
    · rcases List.mem_append.mp h with h | h
      · exact ih.2 h
      · exact .inr (List.mem_singleton.mp h)
    · rcases List.mem_append.mp h with h | h
      · exact ih.1 h
      · exact .inl (List.mem_singleton.mp h)
theorem two_words {s t : Nat} (hs : s < n) (ht : t < n) (u : List Nat) : (∀ x ∈ u, x = s ∨ x = t) → (u = altE u.length s t ∨ u = altE u.length t s) ∨ ∃ u', Cg n m u u' ∧ u'.length < u.length ∧ ∀ x ∈ u', x = s ∨ x = t := by
  have go : ∀ r : List Nat, (∀ x ∈ r.reverse, x = s ∨ x = t) → (r.reverse = altE r.reverse.length s t ∨ r.reverse = altE r.reverse.length t s) ∨ ∃ u', Cg n m r.reverse u' ∧ u'.length < r.reverse.length ∧ ∀ x ∈ u', x = s ∨ x = t := by
    intro r
    induction r with
    | nil => intro _; exact .inl (.inl rfl)
    | cons x r ih =>
      intro h
      rw [List.reverse_cons] at h ⊢
      have hr : ∀ y ∈ r.reverse, y = s ∨ y = t := fun y hy => h y (List.mem_append_left _ hy)
      have hx := h x (by simp)
      have ll : (r.reverse ++ [x]).length = r.reverse.length + 1 := by simp
      rw [ll]
      have base : ∀ p q : Nat, p < n → q < n → (∀ k y, y ∈ altE k q p → y = s ∨ y = t) → (∀ k y, y ∈ altE k p q → y = s ∨ y = t) → r.reverse = altE r.reverse.length p q → (x = p ∨ x = q) → (r.reverse ++ [x] = altE (r.reverse.length + 1) p q ∨ r.reverse ++ [x] = altE (r.reverse.length + 1) q p) ∨ ∃ u', Cg n m (r.reverse ++ [x]) u' ∧ u'.length < r.reverse.length + 1 ∧ ∀ x ∈ u', x = s ∨ x = t := fun p q hp hq m1 m2 e hx => by
        rcases hx with rfl | rfl
        · refine .inl (.inr ?_)
          show _ = altE r.reverse.length x q ++ [x]
          rw [← e]
        · cases hk : r.reverse.length with
          | zero =>
            have : r.reverse = [] := List.eq_nil_of_length_eq_zero hk
            rw [this]
            exact .inl (.inl rfl)
          | succ k =>
            rw [hk] at e
            refine .inr ⟨altE k x p, ?_, by rw [altE_len]; omega, m1 k⟩
            rw [e]
            exact drop2 hq _
      rcases ih hr with (e | e) | ⟨u', h1, h2, h3⟩
      · exact base s t hs ht (fun k y => (altE_mem k y).2) (fun k y => (altE_mem k y).1) e hx
      · rcases base t s ht hs (fun k y => (altE_mem k y).1) (fun k y => (altE_mem k y).2) e hx.symm with h | h
        · exact .inl h.symm
        · exact .inr h
      · refine .inr ⟨u' ++ [x], h1.right _, by simp; simpa using h2, fun y hy => ?_⟩
        rcases List.mem_append.mp hy with hy | hy
        · exact h3 y hy
        · rw [List.mem_singleton.mp hy]
          exact hx
  intro h
  have := go u.reverse
  rw [List.reverse_reverse] at this
  exact this h
theorem altE_twice {s t : Nat} (S : Sys c n m) (hs : s < n) (ht : t < n) (hn : s ≠ t) (hm : m s t ≠ 0) {k : Nat} (hk : m s t < k) : ∃ z, Cg n m (altE k s t) z ∧ z.length < k := by
  obtain ⟨j, rfl⟩ : ∃ j, k = (j + m s t) + 1 := ⟨k - 1 - m s t, by omega⟩
  obtain ⟨p, e, h⟩ := altE_split j (m s t) t s
  obtain ⟨M, eM⟩ : ∃ M, m s t = M + 1 := ⟨m s t - 1, by omega⟩
  refine ⟨p ++ altE M t s, ?_, by rw [List.length_append, altE_len]; omega⟩
  show Cg n m (altE (j + m s t) t s ++ [t]) _
  rw [e]
  have b := Cg.br (n := n) (m := m) p [] ht hs (Ne.symm hn) (by rw [S.sym]; exact hm)
  rw [List.append_nil, List.append_nil, S.sym t s] at b
  refine (b.right [t]).trans ?_
  rw [eM]
  show Cg n m (p ++ (altE M t s ++ [t]) ++ [t]) _
  have := drop2 (m := m) ht (p ++ altE M t s)
  simpa only [List.append_assoc] using this
/-- a member that two letters at its end make shorter ends with their whole stretch -/
theorem two_right (S : Sys c n m) {w : List Nat} {s t : Nat} (hw : In n w) (hs : s < n) (ht : t < n) (hst : s ≠ t) (h1 : len n m (w ++ [s]) < len n m w) (h2 : len n m (w ++ [t]) < len n m w) :
    m s t ≠ 0 ∧ ∃ v, In n v ∧ Cg n m w (v ++ altE (m s t) s t) ∧ v.length + m s t = len n m w := by
  obtain ⟨r, hr, er⟩ := len_has (n := n) (m := m) w
  have inr := hr.in_.mp hw
  obtain ⟨d, ⟨v, u, inv, inu, cg, hl, hd⟩, dN, mn⟩ := exists_min (P := fun d => ∃ v u : List Nat, In n v ∧ (∀ x ∈ u, x = s ∨ x = t) ∧ Cg n m w (v ++ u) ∧ v.length + u.length = len n m w ∧ v.length = d) (N := r.length)
    ⟨r, [], inr, (fun x hx => by cases hx), by rw [List.append_nil]; exact hr, by rw [List.length_nil]; exact er, rfl⟩
  have lv : len n m v = d := by
    have a := len_self (n := n) (m := m) v
    have b := len_app (n := n) (m := m) v u
    have e := len_congr cg
    have f := len_self (n := n) (m := m) u
    omega
  have up : ∀ q, q = s ∨ q = t → q < n → len n m v < len n m (v ++ [q]) := fun q hq hqn => by
    rcases len_snoc (m := m) hqn v with g | g
    · omega
    · exfalso
      obtain ⟨v', c1, e1⟩ := len_has (n := n) (m := m) (v ++ [q])
      refine mn (d - 1) (by omega) ⟨v', q :: u, c1.in_.mp (In.app.mpr ⟨inv, fun x hx => by rw [List.mem_singleton.mp hx]; exact hqn⟩), fun x hx => ?_, ?_, by simp only [List.length_cons]; omega, by omega⟩
      · rcases List.mem_cons.mp hx with rfl | hx
        · exact hq
        · exact inu x hx
      · refine cg.trans (.trans (.symm ?_) (.trans (c1.right (q :: u)) (.rfl _)))
        have := Cg.ss (n := n) (m := m) v u hqn
        simpa using this
  have pv : ∀ q, q = s ∨ q = t → q < n → ∀ k, Nn (act c n v (al q) k) := fun q hq hqn => pos_main S _ v q inv hqn rfl (up q hq hqn)
  have noshort : ∀ z : List Nat, Cg n m w z → ¬ z.length < len n m w := fun z hz g => by
    have := len_le hz
    omega
  have ends : ∀ p q : Nat, (p = s ∨ p = t) → (q = s ∨ q = t) → p < n → q < n → p ≠ q → len n m (w ++ [p]) < len n m w → u = altE u.length p q → m p q ≠ 0 ∧ u = altE (m p q) p q := fun p q kp kq hp hq hpq hd e => by
    have big : ¬ (m p q = 0 ∨ u.length < m p q) := fun kb => by
      obtain ⟨A, B, nA, nB, eq⟩ := dih_root hp hq hpq (S.h0 p) (S.h0 q) (S.dih p q hp hq hpq) kb
      have all : ∀ k, Nn (act c n w (al p) k) := fun k => by
        rw [cg.act S, act_app, e, eq, act_va, act_vm, act_vm]
        exact (nA.cm (pv p kp hp k)).ad (nB.cm (pv q kq hq k))
      obtain ⟨k, _, ne⟩ := act_ne S hw hp
      exact ne (nn_both (all k) (neg_main S hw hp hd k))
    have m0 : m p q ≠ 0 := fun z => big (.inl z)
    refine ⟨m0, ?_⟩
    rcases Nat.lt_trichotomy u.length (m p q) with g | g | g
    · exact absurd (.inr g) big
    · rw [← g]
      exact e
    · exfalso
      obtain ⟨z, c1, l1⟩ := altE_twice S hp hq hpq m0 g
      rw [← e] at c1
      exact noshort (v ++ z) (cg.trans (c1.left v)) (by rw [List.length_append]; omega)
  rcases two_words (m := m) hs ht u inu with (e | e) | ⟨u', k1, k2, _⟩
  · obtain ⟨m0, e⟩ := ends s t (.inl rfl) (.inr rfl) hs ht hst h1 e
    have ul : u.length = m s t := by rw [e, altE_len]
    rw [e] at cg
    exact ⟨m0, v, inv, cg, by omega⟩
  · obtain ⟨m0, e⟩ := ends t s (.inr rfl) (.inl rfl) ht hs (Ne.symm hst) h2 e
    have ul : u.length = m t s := by rw [e, altE_len]
    rw [e] at cg
    have b := Cg.br (n := n) (m := m) v [] ht hs (Ne.symm hst) m0
    rw [List.append_nil, List.append_nil, S.sym t s] at b
    rw [S.sym t s] at cg m0 ul
    exact ⟨m0, v, inv, cg.trans b, by omega⟩
  · exfalso
    refine noshort (v ++ u') (cg.trans (k1.left v)) ?_
    rw [List.length_append]
    omega
/-- words that exchanges make of one another -/
inductive Bm (n : Nat) (m : Nat → Nat → Nat) : List Nat → List Nat → Prop
  | rfl (w) : Bm n m w w
  | trans {u v w} : Bm n m u v → Bm n m v w → Bm n m u w
  | br (u v) {s t} : s < n → t < n → s ≠ t → m s t ≠ 0 → Bm n m (u ++ altE (m s t) s t ++ v) (u ++ altE (m s t) t s ++ v)
theorem Bm.symm (S : Sys c n m) {v w : List Nat} (h : Bm n m v w) : Bm n m w v := by
  induction h with
  | rfl => exact .rfl _
  | trans _ _ i1 i2 => exact i2.trans i1
  | @br u v s t hs ht hn hm =>
    have := Bm.br (n := n) (m := m) u v ht hs (Ne.symm hn) (by rw [S.sym]; exact hm)
    rwa [S.sym t s] at this
theorem Bm.cg {v w : List Nat} (h : Bm n m v w) : Cg n m v w := by
  induction h with
  | rfl => exact .rfl _
  | trans _ _ i1 i2 => exact i1.trans i2
  | br u v hs ht hn hm => exact .br u v hs ht hn hm
theorem Bm.len {v w : List Nat} (h : Bm n m v w) : v.length = w.length := by
  induction h with
  | rfl => rfl
  | trans _ _ i1 i2 => exact i1.trans i2
  | br u v hs ht hn hm => simp only [List.length_append, altE_len]
theorem Bm.app {v w : List Nat} (h : Bm n m v w) (p q : List Nat) : Bm n m (p ++ v ++ q) (p ++ w ++ q) := by
  induction h with
  | rfl => exact .rfl _
  | trans _ _ i1 i2 => exact .trans i1 i2
  | @br u v s t hs ht hn hm =>
    have := Bm.br (n := n) (m := m) (p ++ u) (v ++ q) hs ht hn hm
    simpa only [List.append_assoc] using this
theorem Bm.left {v w : List Nat} (h : Bm n m v w) (p : List Nat) : Bm n m (p ++ v) (p ++ w) := by
  have := h.app p []
  rwa [List.append_nil, List.append_nil] at this
theorem Bm.right {v w : List Nat} (h : Bm n m v w) (q : List Nat) : Bm n m (v ++ q) (w ++ q) := by
  have := h.app [] q
  rwa [List.nil_append, List.nil_append] at this
theorem cg_tail {s : Nat} (hs : s < n) {x y : List Nat} (h : Cg n m (x ++ [s]) (y ++ [s])) : Cg n m x y :=
  (drop2 hs x).symm.trans ((h.right [s]).trans (drop2 hs y))
/-- exchanges lead from each shortest word to each other one -/
theorem tits (S : Sys c n m) : ∀ (N : Nat) {w v : List Nat}, In n w → w.length = N → len n m w = N → Cg n m w v → v.length = N → Bm n m w v
  | 0, w, v, _, h1, _, _, h2 => by
    rw [List.eq_nil_of_length_eq_zero h1, List.eq_nil_of_length_eq_zero h2]
    exact .rfl _
  | N + 1, w, v, hw, h1, hl, hc, h2 => by
    rcases List.eq_nil_or_concat w with e | ⟨x, s, e⟩
    · rw [e] at h1
      simp at h1
    rcases List.eq_nil_or_concat v with e' | ⟨y, t, e'⟩
    · rw [e'] at h2
      simp at h2
    rw [List.concat_eq_append] at e e'
    subst e e'
    have hv := hc.in_.mp hw
    have hx := (In.app.mp hw).1
    have hy := (In.app.mp hv).1
    have hs : s < n := hw s (by simp)
    have ht : t < n := hv t (by simp)
    rw [List.length_append, List.length_singleton] at h1 h2
    have ends : ∀ {z : List Nat} {q : Nat}, q < n → z.length + 1 = N + 1 → Cg n m (x ++ [s]) (z ++ [q]) → len n m z = N ∧ len n m (x ++ [s] ++ [q]) < len n m (x ++ [s]) := fun {z q} hq e hz => by
      have a := len_congr ((hz.right [q]).trans (drop2 hq z))
      have b := len_self (n := n) (m := m) z
      rcases len_snoc (m := m) hq (x ++ [s]) with g | g <;> omega
    have ex := ends hs h1 (.rfl _)
    have ey := ends ht h2 hc
    by_cases est : s = t
    · subst est
      exact (tits S N hx (by omega) ex.1 (cg_tail hs hc) (by omega)).right [s]
    · obtain ⟨m0, z, hz, cz, lz⟩ := two_right S hw hs ht est ex.2 ey.2
      obtain ⟨k, ek⟩ : ∃ k, m s t = k + 1 := ⟨m s t - 1, by omega⟩
      have b := Bm.br (n := n) (m := m) z [] hs ht est m0
      rw [List.append_nil, List.append_nil] at b
      rw [hl] at lz
      have e1 : z ++ altE (m s t) s t = (z ++ altE k t s) ++ [t] := by
        rw [ek, List.append_assoc]
        rfl
      have e2 : z ++ altE (m s t) t s = (z ++ altE k s t) ++ [s] := by
        rw [ek, List.append_assoc]
        rfl
      rw [e1, e2] at b
      rw [e1] at cz
      have cx : Cg n m x (z ++ altE k s t) := cg_tail hs (cz.trans b.cg)
      have cy : Cg n m y (z ++ altE k t s) := cg_tail ht (hc.symm.trans cz)
      have l1 : (z ++ altE k s t).length = N := by rw [List.length_append, altE_len]; omega
      have l2 : (z ++ altE k t s).length = N := by rw [List.length_append, altE_len]; omega
      have bx := (tits S N hx (by omega) ex.1 cx l1).right [s]
      have by' := (tits S N hy (by omega) ey.1 cy l2).right [t]
      exact bx.trans ((b.symm S).trans (by'.symm S))
end Rt

namespace Rt
open Gd
variable {c : Nat → Nat → G} {n : Nat} {m : Nat → Nat → Nat}
/-! what lies under what: sub-words -/
theorem In.sub {v w : List Nat} (h : In n w) (s : v.Sublist w) : In n v := fun x hx => h x (s.subset hx)
def Sub (n : Nat) (m : Nat → Nat → Nat) (u w : List Nat) : Prop := ∃ v, v.Sublist w ∧ Cg n m u v
theorem Sub.of {u v w : List Nat} (h : Sub n m u w) (k : Cg n m v u) : Sub n m v w := h.elim fun x ⟨a, b⟩ => ⟨x, a, k.trans b⟩
theorem Sub.mono {u v w : List Nat} (h : Sub n m u v) (s : v.Sublist w) : Sub n m u w := h.elim fun x ⟨a, b⟩ => ⟨x, a.trans s, b⟩
theorem Sub.self (w : List Nat) : Sub n m w w := ⟨w, .refl w, .rfl w⟩
theorem sub_short (S : Sys c n m) : ∀ (N : Nat) {v w : List Nat}, In n w → v.Sublist w → v.length = N → ∃ x, x.Sublist v ∧ Cg n m v x ∧ x.length = len n m v := by
  intro N
  induction N using Nat.strongRecOn with
  | _ N ih =>
    intro v w hw hs hN
    rcases Nat.lt_or_ge (len n m v) v.length with g | g
    · obtain ⟨a, x, b, q, d, e, cg⟩ := leave_two S (hw.sub hs) g
      have sl : (a ++ b ++ d).Sublist v := by
        rw [e, List.append_assoc, List.append_assoc, List.cons_append]
        exact (List.Sublist.refl a).append ((List.Sublist.refl b).append (List.sublist_cons_self q d) |>.trans (List.sublist_cons_self x _))
      have ll : (a ++ b ++ d).length < N := by
        rw [← hN, e]
        simp only [List.length_append, List.length_cons]
        omega
      obtain ⟨y, y1, y2, y3⟩ := ih _ ll hw (sl.trans hs) rfl
      exact ⟨y, y1.trans sl, cg.trans y2, by rw [y3]; exact (len_congr cg).symm⟩
    · exact ⟨v, .refl v, .rfl v, Nat.le_antisymm g (len_self v)⟩
theorem Sub.short (S : Sys c n m) {u w : List Nat} (hw : In n w) (h : Sub n m u w) : ∃ v, v.Sublist w ∧ Cg n m u v ∧ v.length = len n m u := by
  obtain ⟨v, a, b⟩ := h
  obtain ⟨x, x1, x2, x3⟩ := sub_short S _ hw a rfl
  exact ⟨x, x1.trans a, b.trans x2, by rw [x3]; exact (len_congr b).symm⟩
theorem exch_left (S : Sys c n m) {v : List Nat} {s : Nat} (hv : In n v) (hs : s < n) (h1 : len n m v = v.length) (h2 : len n m (s :: v) < len n m v) : ∃ x, x.Sublist v ∧ Cg n m (s :: v) x := by
  obtain ⟨a, x, b, q, d, e, cg⟩ := leave_two S (hv.cons hs) (show len n m (s :: v) < (s :: v).length by rw [List.length_cons]; omega)
  cases a with
  | nil =>
    rw [List.nil_append] at e
    injection e with e1 e2
    subst e1
    refine ⟨b ++ d, ?_, cg⟩
    rw [e2]
    exact (List.Sublist.refl b).append (List.sublist_cons_self q d)
  | cons y a =>
    exfalso
    rw [List.cons_append] at e
    injection e with e1 e2
    subst e1
    have k : Cg n m v (a ++ b ++ d) := (cons2 hs v).symm.trans ((cg.cons s).trans (cons2 hs (a ++ b ++ d)))
    have := len_le k
    rw [h1, e2] at this
    simp [List.length_append] at this
    omega
/-- one letter of the way down -/
noncomputable def dn (n : Nat) (m : Nat → Nat → Nat) (s : Nat) (u : List Nat) : List Nat := open Classical in if len n m (s :: u) < len n m u then s :: u else u
theorem dn_pos {s : Nat} {u : List Nat} (h : len n m (s :: u) < len n m u) : dn n m s u = s :: u := if_pos h
theorem dn_neg {s : Nat} {u : List Nat} (h : ¬ len n m (s :: u) < len n m u) : dn n m s u = u := if_neg h
theorem sub_dn (S : Sys c n m) {s : Nat} {u w : List Nat} (hs : s < n) (hw : In n w) : Sub n m u (s :: w) ↔ Sub n m (dn n m s u) w := by
  by_cases h : len n m (s :: u) < len n m u
  · rw [dn_pos h]
    constructor
    · rintro ⟨v, a, b⟩
      cases a with
      | cons _ a =>
        obtain ⟨x, x1, x2, x3⟩ := Sub.short S hw ⟨v, a, b⟩
        have hx := hw.sub x1
        obtain ⟨y, y1, y2⟩ := exch_left S hx hs (by rw [x3]; exact (len_congr x2).symm) (by rw [← len_congr x2, ← len_congr (x2.cons s)]; exact h)
        exact ⟨y, y1.trans x1, (x2.cons s).trans y2⟩
      | cons_cons _ a => exact ⟨_, a, (b.cons s).trans (cons2 hs _)⟩
    · rintro ⟨v, a, b⟩
      exact ⟨s :: v, a.cons_cons s, (cons2 hs u).symm.trans (b.cons s)⟩
  · rw [dn_neg h]
    constructor
    · rintro ⟨v, a, b⟩
      cases a with
      | cons _ a => exact ⟨v, a, b⟩
      | @cons_cons v _ _ a =>
        have g : len n m u + 1 = len n m (s :: u) := by
          rcases len_cons (m := m) hs u with g | g <;> omega
        obtain ⟨x, x1, x2, x3⟩ := Sub.short S (u := s :: u) hw ⟨v, a, (b.cons s).trans (cons2 hs _)⟩
        have hx := hw.sub x1
        have l2 : len n m (s :: x) = len n m u := by
          rw [← len_congr (x2.cons s)]
          exact len_congr (cons2 hs u)
        obtain ⟨y, y1, y2⟩ := exch_left S hx hs (by rw [x3]; exact (len_congr x2).symm) (by rw [l2, ← len_congr x2]; omega)
        exact ⟨y, y1.trans x1, (cons2 hs u).symm.trans ((x2.cons s).trans y2)⟩
    · rintro ⟨v, a, b⟩
      exact ⟨v, a.cons s, b⟩
/-- the whole way down -/
noncomputable def down (n : Nat) (m : Nat → Nat → Nat) : List Nat → List Nat → List Nat
  | u, [] => u
  | u, s :: w => down n m (dn n m s u) w
theorem dn_in {s : Nat} {u : List Nat} (hs : s < n) (hu : In n u) : In n (dn n m s u) := by
  unfold dn
  split
  · exact hu.cons hs
  · exact hu
theorem sub_down (S : Sys c n m) : ∀ {w u : List Nat}, In n w → In n u → (Sub n m u w ↔ Cg n m (down n m u w) [])
  | [], u, _, _ => by
    constructor
    · rintro ⟨v, a, b⟩
      rw [List.sublist_nil.mp a] at b
      exact b
    · intro h
      exact ⟨[], .slnil, h⟩
  | s :: w, u, hw, hu => by
    have hs := hw s (by simp)
    rw [sub_dn S hs hw.tail]
    exact sub_down S hw.tail (dn_in hs hu)
theorem two_short {s t : Nat} (hs : s < n) (ht : t < n) : ∀ (N : Nat) {u : List Nat}, u.length = N → (∀ x ∈ u, x = s ∨ x = t) → ∃ r, Cg n m u r ∧ r.length ≤ u.length ∧ (r = altE r.length s t ∨ r = altE r.length t s) := by
  intro N
  induction N using Nat.strongRecOn with
  | _ N ih =>
    intro u hN h
    rcases two_words (m := m) hs ht u h with e | ⟨u', k1, k2, k3⟩
    · exact ⟨u, .rfl u, Nat.le_refl _, e⟩
    · obtain ⟨r, r1, r2, r3⟩ := ih _ (by omega) rfl k3
      exact ⟨r, k1.trans r1, by omega, r3⟩
theorem altE_sub {k M : Nat} (h : k ≤ M) (s t : Nat) : (altE k s t).Sublist (altE M s t) := by
  obtain ⟨p, e, _⟩ := altE_split (M - k) k s t
  rw [show M - k + k = M by omega] at e
  rw [e]
  exact List.sublist_append_right _ _
theorem altE_sub' {k M : Nat} (h : k < M) (s t : Nat) : (altE k s t).Sublist (altE M t s) := by
  obtain ⟨j, rfl⟩ : ∃ j, M = j + 1 := ⟨M - 1, by omega⟩
  exact (altE_sub (show k ≤ j by omega) s t).trans (List.sublist_append_left _ _)
theorem Sub.bm {u v w : List Nat} (b : Bm n m v w) (h : Sub n m u v) : Sub n m u w := by
  induction b generalizing u with
  | rfl => exact h
  | trans _ _ i1 i2 => exact i2 (i1 h)
  | @br p q s t hs ht hn hm =>
    obtain ⟨v, a, b⟩ := h
    obtain ⟨v12, v3, e, a12, a3⟩ := List.sublist_append_iff.mp a
    obtain ⟨v1, v2, e', a1, a2⟩ := List.sublist_append_iff.mp a12
    subst e e'
    obtain ⟨r, r1, r2, r3⟩ := two_short (m := m) hs ht _ rfl (fun x hx => (altE_mem _ _).1 (a2.subset hx))
    have l2 := a2.length_le
    rw [altE_len] at l2
    have fin : ∃ r, Cg n m v2 r ∧ r.Sublist (altE (m s t) t s) := by
      rcases r3 with e | e
      · rcases Nat.lt_or_ge r.length (m s t) with g | g
        · refine ⟨r, r1, ?_⟩
          rw [e]
          exact altE_sub' g s t
        · have el : r.length = m s t := by omega
          rw [el] at e
          have b := Cg.br (n := n) (m := m) [] [] hs ht hn hm
          rw [List.append_nil, List.append_nil, List.nil_append, List.nil_append] at b
          rw [e] at r1
          exact ⟨_, r1.trans b, .refl _⟩
      · refine ⟨r, r1, ?_⟩
        rw [e]
        exact altE_sub (by omega) t s
    obtain ⟨x, x1, x2⟩ := fin
    exact ⟨v1 ++ x ++ v3, (a1.append x2).append a3, b.trans ((x1.left v1).right v3)⟩
/-- under: among the sub-words of a shortest word, whichever it be -/
def Le (n : Nat) (m : Nat → Nat → Nat) (u w : List Nat) : Prop := ∃ r, Cg n m w r ∧ r.length = len n m w ∧ Sub n m u r
theorem Le.iff (S : Sys c n m) {u w r : List Nat} (hw : In n w) (h : Cg n m w r) (l : r.length = len n m w) : Le n m u w ↔ Sub n m u r := by
  constructor
  · rintro ⟨x, x1, x2, x3⟩
    exact x3.bm (tits S x.length (x1.in_.mp hw) rfl (by rw [x2]; exact (len_congr x1).symm) (x1.symm.trans h) (by omega))
  · intro k
    exact ⟨r, h, l, k⟩
theorem Le.of {u u' w w' : List Nat} (h : Le n m u w) (k : Cg n m u' u) (l : Cg n m w' w) : Le n m u' w' := by
  obtain ⟨r, r1, r2, r3⟩ := h
  exact ⟨r, l.trans r1, by rw [r2]; exact (len_congr l).symm, r3.of k⟩
theorem Le.refl (w : List Nat) : Le n m w w := by
  obtain ⟨r, hr, er⟩ := len_has (n := n) (m := m) w
  exact ⟨r, hr, er, (Sub.self r).of hr⟩
theorem Le.trans (S : Sys c n m) {u v w : List Nat} (hv : In n v) (hw : In n w) (h : Le n m u v) (k : Le n m v w) : Le n m u w := by
  obtain ⟨r, r1, r2, r3⟩ := k
  have hr := r1.in_.mp hw
  obtain ⟨x, x1, x2, x3⟩ := r3.short S hr
  exact ⟨r, r1, r2, ((Le.iff S hv x2 x3).mp h).mono x1⟩
theorem Le.lens (S : Sys c n m) {u w : List Nat} (hw : In n w) (h : Le n m u w) : len n m u ≤ len n m w ∧ (len n m u = len n m w → Cg n m u w) := by
  obtain ⟨r, r1, r2, r3⟩ := h
  obtain ⟨x, x1, x2, x3⟩ := r3.short S (r1.in_.mp hw)
  have := x1.length_le
  refine ⟨by omega, fun e => ?_⟩
  have := x1.eq_of_length (by omega)
  rw [this] at x2
  exact x2.trans r1.symm
theorem Le.anti (S : Sys c n m) {u w : List Nat} (hu : In n u) (hw : In n w) (h : Le n m u w) (k : Le n m w u) : Cg n m u w := by
  have a := h.lens S hw
  have b := k.lens S hu
  exact a.2 (by omega)
theorem Le.rev {u w : List Nat} (h : Le n m u w) : Le n m u.reverse w.reverse := by
  obtain ⟨r, r1, r2, v, v1, v2⟩ := h
  exact ⟨r.reverse, r1.rev, by rw [List.length_reverse, len_rev]; exact r2, v.reverse, v1.reverse, v2.rev⟩
theorem Le.nil (w : List Nat) : Le n m [] w := by
  obtain ⟨r, hr, er⟩ := len_has (n := n) (m := m) w
  exact ⟨r, hr, er, [], List.nil_sublist _, .rfl _⟩
/-- lifted by a letter -/
theorem Le.lift (S : Sys c n m) {s : Nat} {u w : List Nat} (hs : s < n) (hw : In n w) (hu : In n u) (h : len n m (s :: w) < len n m w) : Le n m u w ↔ Le n m (dn n m s u) (s :: w) := by
  obtain ⟨r, hr, er⟩ := len_has (n := n) (m := m) (s :: w)
  have hsw : In n (s :: w) := hw.cons hs
  have inr := hr.in_.mp hsw
  have g : len n m (s :: w) + 1 = len n m w := by
    rcases len_cons (m := m) hs w with g | g <;> omega
  rw [Le.iff S hw ((cons2 hs w).symm.trans (hr.cons s)) (by rw [List.length_cons]; omega), sub_dn S hs inr, Le.iff S hsw hr er]
theorem Le.turn (S : Sys c n m) {s : Nat} {u w : List Nat} (hs : s < n) (hw : In n w) (hu : In n u) (h : len n m (s :: w) < len n m w) : Le n m (s :: u) w ↔ Le n m u w := by
  rw [Le.lift S hs hw (hu.cons hs) h, Le.lift S hs hw hu h]
  rcases len_cons (m := m) hs u with g | g
  · have e1 : dn n m s u = u := dn_neg (by omega)
    have e2 : dn n m s (s :: u) = s :: s :: u := dn_pos (by
      have := len_congr (cons2 (m := m) hs u)
      omega)
    rw [e1, e2]
    exact ⟨fun k => k.of (cons2 hs u).symm (.rfl _), fun k => k.of (cons2 hs u) (.rfl _)⟩
  · have e1 : dn n m s u = s :: u := dn_pos (by omega)
    have e2 : dn n m s (s :: u) = s :: u := dn_neg (by
      have := len_congr (cons2 (m := m) hs u)
      omega)
    rw [e1, e2]
theorem altE_both {s t : Nat} : ∀ {k : Nat}, k ≠ 0 → k ≠ 1 → s ∈ altE k s t ∧ t ∈ altE k s t
  | 0, h, _ => absurd rfl h
  | 1, _, h => absurd rfl h
  | k + 2, _, _ => by
    show s ∈ altE k s t ++ [s] ++ [t] ∧ t ∈ altE k s t ++ [s] ++ [t]
    simp
theorem Bm.mem (one : ∀ s t, m s t ≠ 1) {v w : List Nat} (h : Bm n m v w) {x : Nat} : x ∈ v ↔ x ∈ w := by
  induction h with
  | rfl => exact Iff.rfl
  | trans _ _ i1 i2 => exact i1.trans i2
  | @br u v s t hs ht hn hm =>
    simp only [List.mem_append]
    have e1 := altE_both (s := s) (t := t) hm (one s t)
    have e2 := altE_both (s := t) (t := s) hm (one s t)
    have e3 : x ∈ altE (m s t) s t ↔ x ∈ altE (m s t) t s := by
      constructor
      · intro h
        rcases (altE_mem _ _).1 h with g | g <;> rw [g]
        · exact e2.2
        · exact e2.1
      · intro h
        rcases (altE_mem _ _).2 h with g | g <;> rw [g]
        · exact e1.1
        · exact e1.2
    rw [e3]
/-- what is under a member has its letters only -/
theorem Le.mem (S : Sys c n m) (one : ∀ s t, m s t ≠ 1) {u w r q : List Nat} (hw : In n w) (hu : In n u) (h : Le n m u w) (cr : Cg n m w r) (lr : r.length = len n m w) (cq : Cg n m u q) (lq : q.length = len n m u) {x : Nat} (hx : x ∈ q) : x ∈ r := by
  obtain ⟨y, y1, y2, y3⟩ := ((Le.iff S hw cr lr).mp h).short S (cr.in_.mp hw)
  have b := tits S q.length (cq.in_.mp hu) rfl (by rw [lq]; exact (len_congr cq).symm) (cq.symm.trans y2) (by omega)
  exact y1.subset ((b.mem one).mp hx)
end Rt

namespace Sk
open PySem L2 Ow
/-! words of letters, their states and normal words -/
theorem sysN {n : Nat} {bs : List (List Int)} (va : Valid n bs) : Rt.Sys (cB bs) n (mB bs) := sysB va
theorem castW_inj {a b : List Nat} (h : castW a = castW b) : a = b := List.map_inj_right (f := fun i : Nat => (i : Int)) (fun x y e => by exact Int.ofNat.inj e) |>.mp h
theorem castW_app (a b : List Nat) : castW (a ++ b) = castW a ++ castW b := List.map_append
theorem castW_rev (w : List Nat) : castW w.reverse = (castW w).reverse := List.map_reverse
theorem cast_len' (w : List Nat) : (castW w).length = w.length := List.length_map _
theorem nw_of {n : Nat} {bs : List (List Int)} (va : Valid n bs) {w us : List Nat} (hw : Rt.In n w) (h : Rt.Nf n (mB bs) w us) (l : w.length + us.length < 200) : Nw bs n (castW w) (castW us) := runs_nf va h hw l
theorem wd_of {n : Nat} {w : List Nat} (hw : Rt.In n w) (l : w.length ≤ 40) : Wd n (castW w) := ⟨fun x hx => by
  obtain ⟨i, hi, rfl⟩ := List.mem_map.mp hx
  have := hw i hi
  omega, by rw [cast_len']; exact l⟩
theorem nf_all {n : Nat} {bs : List (List Int)} (va : Valid n bs) {w : List Nat} (hw : Rt.In n w) : ∃ us, Rt.Nf n (mB bs) w us ∧ Rt.Cg n (mB bs) w us ∧ us.length = Rt.len n (mB bs) w ∧ us.length ≤ w.length ∧ Rt.In n us := by
  obtain ⟨us, h⟩ := Rt.Nf.ex (n := n) (m := mB bs) _ hw rfl
  obtain ⟨c, l⟩ := h.cg hw
  exact ⟨us, h, c, l, by rw [l]; exact Rt.len_self w, c.in_.mp hw⟩
theorem nf_cg {n : Nat} {bs : List (List Int)} (va : Valid n bs) {w v us : List Nat} (hw : Rt.In n w) (hv : Rt.In n v) (h : Rt.Nf n (mB bs) w us) (c : Rt.Cg n (mB bs) v w) : Rt.Nf n (mB bs) v us := h.same (sysN va) hw hv fun i _ => c.fr (sysN va) i
theorem nf_eq {n : Nat} {bs : List (List Int)} (va : Valid n bs) {w v us vs : List Nat} (hw : Rt.In n w) (hv : Rt.In n v) (h : Rt.Nf n (mB bs) w us) (k : Rt.Nf n (mB bs) v vs) : us = vs ↔ Rt.Cg n (mB bs) w v := by
  constructor
  · rintro rfl
    exact (h.cg hw).1.trans (k.cg hv).1.symm
  · intro c
    exact h.det (nf_cg va hv hw k c)
theorem _root_.Rt.In.nil {n : Nat} : Rt.In n [] := fun x hx => by cases hx
theorem eqv_same (x : List Int) : PyData.eqv (dT x) (dT x) = true := by
  rw [eqv_dT]
  exact decide_eq_true rfl
theorem eqv_dB (a b : List (List Int)) : PyData.eqv (dB a) (dB b) = decide (a = b) := by
  unfold dB
  rw [show PyData.eqv (.tuple (a.map dT)) (.tuple (b.map dT)) = PyData.eqvAll (a.map dT) (b.map dT) from by simp [PyData.eqv]]
  exact eqv_dTs a b
theorem st_cons (bs : List (List Int)) (n : Nat) (l : Nat) (w : List Nat) : stOf bs n (castW (l :: w)) = putA (lkOf bs n) (stOf bs n (castW w)) l := by
  unfold stOf aheadW castW
  rw [List.map_cons, List.reverse_cons, List.foldl_append]
  rfl
theorem st_nil (bs : List (List Int)) (n : Nat) : stOf bs n (castW []) = first n := rfl
theorem st_len {n : Nat} {bs : List (List Int)} (va : Valid n bs) {w : List Nat} (hw : Rt.In n w) : (stOf bs n (castW w)).length = n := by
  rw [st_word va (show Rt.In (n : Int).toNat w from hw), stL_len]
  rfl
theorem st_low {n : Nat} {bs : List (List Int)} (va : Valid n bs) {w : List Nat} (hw : Rt.In n w) {i : Nat} (hi : i < n) : bel ((stOf bs n (castW w)).getD i []) = true ↔ Rt.len n (mB bs) (i :: w) < Rt.len n (mB bs) w := lefts_word va (show Rt.In (n : Int).toNat w from hw) hi
theorem st_of_cg {n : Nat} {bs : List (List Int)} (va : Valid n bs) {u w : List Nat} (hu : Rt.In n u) (hw : Rt.In n w) (h : Rt.Cg n (mB bs) u w) : stOf bs n (castW u) = stOf bs n (castW w) := by
  rw [st_word va (show Rt.In (n : Int).toNat u from hu), st_word va (show Rt.In (n : Int).toNat w from hw)]
  unfold stL
  refine List.map_congr_left fun o _ => ?_
  unfold nb_
  rw [show Rt.fr (cT bs) (n : Int).toNat u o = Rt.fr (cT bs) (n : Int).toNat w o from Rt.Cg.fr (sysT va) h o]
theorem nf_of_st {n : Nat} {bs : List (List Int)} (va : Valid n bs) {u us : List Nat} (h : Rt.Nf n (mB bs) u us) : ∀ {v : List Nat}, Rt.In n u → Rt.In n v → stOf bs n (castW v) = stOf bs n (castW u) → Rt.Nf n (mB bs) v us := by
  induction h with
  | @done w h =>
    intro v hw hv e
    refine .done fun s hs z => h s hs ?_
    rw [← st_low va hv hs, e, st_low va hw hs] at z
    exact z
  | @step w us s hs hl hm _ ih =>
    intro v hw hv e
    refine .step hs ?_ (fun t ht z => hm t ht ?_) (ih (hw.cons hs) (hv.cons hs) ?_)
    · rw [← st_low va hv hs, e, st_low va hw hs]
      exact hl
    · have htn : t < n := by omega
      rw [← st_low va hv htn, e, st_low va hw htn] at z
      exact z
    · rw [st_cons, st_cons, e]
theorem st_iff {n : Nat} {bs : List (List Int)} (va : Valid n bs) {u v : List Nat} (hu : Rt.In n u) (hv : Rt.In n v) : stOf bs n (castW u) = stOf bs n (castW v) ↔ Rt.Cg n (mB bs) u v := by
  constructor
  · intro e
    obtain ⟨us, h, c, _⟩ := nf_all va hv
    exact ((nf_of_st va h hv hu e).cg hu).1.trans c.symm
  · exact st_of_cg va hu hv
theorem wd_in {n : Nat} {w : List Nat} (hw : Rt.In n w) : ∀ x ∈ castW w, 0 ≤ x ∧ x < (n : Int) := fun x hx => by
  obtain ⟨i, hi, rfl⟩ := List.mem_map.mp hx
  have := hw i hi
  omega
theorem down_app {n : Nat} {m : Nat → Nat → Nat} : ∀ (a b u : List Nat), Rt.down n m u (a ++ b) = Rt.down n m (Rt.down n m u a) b
  | [], _, _ => rfl
  | s :: a, b, u => down_app a b (Rt.dn n m s u)
theorem down_in {n : Nat} {m : Nat → Nat → Nat} : ∀ {w : List Nat} {u : List Nat}, Rt.In n w → Rt.In n u → Rt.In n (Rt.down n m u w)
  | [], _, _, hu => hu
  | s :: w, u, hw, hu => down_in (w := w) (u := Rt.dn n m s u) hw.tail (Rt.dn_in (hw s (by simp)) hu)
theorem dn_len {n : Nat} {m : Nat → Nat → Nat} (s : Nat) (u : List Nat) : (Rt.dn n m s u).length ≤ u.length + 1 := by
  unfold Rt.dn
  split
  · simp
  · omega
theorem down_len {n : Nat} {m : Nat → Nat → Nat} : ∀ (w u : List Nat), (Rt.down n m u w).length ≤ u.length + w.length
  | [], u => by simp [Rt.down]
  | s :: w, u => by
    have := down_len (n := n) (m := m) w (Rt.dn n m s u)
    have := dn_len (n := n) (m := m) s u
    rw [List.length_cons]
    show (Rt.down n m (Rt.dn n m s u) w).length ≤ _
    omega
theorem mB_one {n : Nat} {bs : List (List Int)} (va : Valid n bs) (s t : Nat) : mB bs s t ≠ 1 := by
  unfold mB
  rcases bondOf_ok va s t with e | e | e | e | e | e <;> rw [e] <;> decide
/-- members under a member, by words -/
def Und (n : Nat) (bs : List (List Int)) (u w : List Nat) : Prop := Rt.Le n (mB bs) u w
theorem und_down {n : Nat} {bs : List (List Int)} (va : Valid n bs) {u w : List Nat} (hu : Rt.In n u) (hw : Rt.In n w) {us : List Nat} (h : Rt.Nf n (mB bs) w us) : Und n bs u w ↔ stOf bs n (castW (Rt.down n (mB bs) u us)) = first n := by
  obtain ⟨c, l⟩ := h.cg hw
  have hus := c.in_.mp hw
  unfold Und
  rw [Rt.Le.iff (sysN va) hw c l, Rt.sub_down (sysN va) hus hu, ← st_nil bs n, st_iff va (down_in hus hu) Rt.In.nil]
end Sk

namespace Ow
open PySem PySem.Spec PyProof.Rows L2
theorem tuple_mul1 (l : Addr) (items : Array Value) (n : Nat) (dd : Option Addr) (sl : Array (Option Value)) (u : Tok) :
    Meets (Builtin.«tuple.__mul__» ⟨[.ref l, .int 1 u], []⟩) (fun _ R s => s.heap.get? l = some { cls := .type "tuple", dict := dd, data := .seq items n, slots := sl } ∧
      R (.ok (.ret (Value.ref l))) s) :=
  .of_wp fun prog w A R s h => by
    obtain ⟨hp, g, d, tk, os⟩ := s
    obtain ⟨hl, h⟩ := h
    have f1 := AutoSeq1.idx_int
    have c0 : (decide ((1 : Int) < -(2 ^ 63)) || decide ((1 : Int) ≥ 2 ^ 63)) = false := by decide
    have c1 : (items.isEmpty || (1 : Int) == 1) = true := by simp
    wp_walk using wpAny_loadPart' hl
    repeat (first
      | (refine wpAny_ite_false (decide_eq_false (by rw [c0]; exact Bool.false_ne_true)) ?_; wp_walk using wpAny_loadPart' hl)
      | (refine wpAny_ite_true (decide_eq_true c1) ?_; wp_walk using wpAny_loadPart' hl))
    exact ⟨_, rfl, h⟩
def rRepA (K : PySem.W.Frag) : R2 := fun x y H Q => L2.rRepT K x y H Q ∨ ∃ l xs, x = .ref l ∧ y = .int 1 ∧ SqT K H l xs ∧ Q (.ref l) H
theorem op_repA {X : Cx} : OpR X (binaryOp .Mult) (rRepA X.K) := by
  intro pins s σ H x y v u Q I rx ry h
  rcases h with h | ⟨l, xs, rfl, rfl, hT, q⟩
  · exact op_repT pins s σ H x y v u Q I rx ry h
  cases rx
  obtain ⟨t, rfl⟩ := ry
  obtain ⟨its, r, ⟨⟨cls, dd, data, sl⟩, ho, hc, n, hd⟩, hs⟩ := I.tuple hT
  simp only at hc hd
  subst hc hd
  refine wpAny_binaryOp_repeat_ref (T := "tuple") (U := "int") (by decide) ⟨_, ho, rfl⟩ (fun s' => typeIs_int s' 1 t) noFill_tuple_mul F.fills_int_mul F.slot_int_rmul repeat_tuple F.slot_int_index.lookup
    (call_meets F.slot_int_rmul (typeIs_int s 1 t) F.entry_int_rmul (F.args_int_rmul_2 _ _) (int_rmul_tuple 1 t l its.toArray n dd sl)
      ⟨ho, rfl, ⟨_, ho, rfl⟩, call_meets F.slot_tuple_mul ⟨_, ho, rfl⟩ F.entry_tuple_mul (F.args_tuple_mul_2 _ _) (tuple_mul1 l its.toArray n dd sl t) ⟨ho, ?_⟩⟩)
  exact ⟨.ref l, H, I, rfl, q⟩
end Ow

namespace Sk
open PySem L2 Ow
theorem cut1 (ns : List Int) : cutV (ns.map V.int) none (some 1) = (ns.take 1).map V.int := by
  show ((ns.map V.int).drop 0).take (HT.sIx (ns.map V.int).length (ns.map V.int).length (some ((1 : Nat) : Int)) - 0) = (ns.take 1).map V.int
  rw [HT.sIx_nat]
  cases ns with
  | nil => rfl
  | cons n ns =>
    rw [Nat.min_eq_left (by simp)]
    rfl
theorem fm {i n : Int} (h : 0 < n) : 0 ≤ i.fmod n ∧ i.fmod n < n := by
  rw [Int.fmod_eq_emod_of_nonneg i (Int.le_of_lt h)]
  exact ⟨Int.emod_nonneg i (by omega), Int.emod_lt_of_pos i h⟩
theorem em {i n : Int} (h : 0 < n) : 0 ≤ i % n ∧ i % n < n := ⟨Int.emod_nonneg i (by omega), Int.emod_lt_of_pos i h⟩
theorem sqT_off {K : PySem.W.Frag} {H H' : Hp} {a p : Addr} {xs : List V} (h : SqT K H a xs) (o : Off p H H') (b : VatAt H p) : SqT K H' a xs := by
  obtain ⟨b0, b1, b2, hp⟩ := b
  exact o.sqT hp h
def SysD (K : PySem.W.Frag) (H : Hp) (v : V) (n : Int) (bs : List (List Int)) : Prop := ∃ a bv, v = .ref a ∧ SqT K H a [.int n, bv] ∧ BsAt K H bv bs
theorem SysD.same {K : PySem.W.Frag} {H H' : Hp} {v : V} {n : Int} {bs : List (List Int)} (h : SysD K H v n bs) (s : Same H H') : SysD K H' v n bs := h.elim fun a ⟨bv, e, q, b⟩ => ⟨a, bv, e, sqT_same s q, b.same s⟩
theorem SysD.off {K : PySem.W.Frag} {D : Addr} {H H' : Hp} {acc : List V} {v : V} {n : Int} {bs : List (List Int)} (h : SysD K H v n bs) (o : Off D H H') (hD : H D = some (.lst acc)) : SysD K H' v n bs := h.elim fun a ⟨bv, e, q, b⟩ => ⟨a, bv, e, o.sqT hD q, o.bs hD b⟩
/-! written data -/
def Ds (K : PySem.W.Frag) (H : Hp) : List V → List Dat → Prop
  | [], [] => True
  | x :: xs, d :: ds => SysD K H x d.1 d.2 ∧ Ds K H xs ds
  | _, _ => False
theorem Ds.same {K : PySem.W.Frag} {H H' : Hp} (s : Same H H') : ∀ {xs : List V} {ds : List Dat}, Ds K H xs ds → Ds K H' xs ds
  | [], [], _ => trivial
  | _ :: _, _ :: _, h => ⟨h.1.same s, Ds.same s h.2⟩
theorem Ds.app {K : PySem.W.Frag} {H : Hp} : ∀ {xs ys : List V} {ds es : List Dat}, Ds K H xs ds → Ds K H ys es → Ds K H (xs ++ ys) (ds ++ es)
  | [], _, [], _, _, k => k
  | _ :: _, _, _ :: _, _, h, k => ⟨h.1, Ds.app h.2 k⟩
theorem Ds.len {K : PySem.W.Frag} {H : Hp} : ∀ {xs : List V} {ds : List Dat}, Ds K H xs ds → xs.length = ds.length
  | [], [], _ => rfl
  | _ :: _, _ :: _, h => congrArg Nat.succ (Ds.len h.2)
theorem Ds.mem {K : PySem.W.Frag} {H : Hp} : ∀ {xs : List V} {ds : List Dat} {x : V}, Ds K H xs ds → x ∈ xs → ∃ d ∈ ds, SysD K H x d.1 d.2
  | x :: xs, d :: ds, y, h, m => by
    rcases List.mem_cons.mp m with e | m
    · exact ⟨d, List.mem_cons_self .., e ▸ h.1⟩
    · obtain ⟨d', m', h'⟩ := Ds.mem h.2 m
      exact ⟨d', List.mem_cons_of_mem _ m', h'⟩
  | [], [], y, _, m => by cases m
/-- any value of which R holds, all that stood kept -/
def tD (R : Hp → V → Prop) : TE := fun _ H Q => ∀ (v : V) (H' : Hp), Same H H' → R H' v → Q v H'
def tDs (R : Hp → List V → Prop) : TA := fun _ H Q => ∀ (xs : List V) (H' : Hp), Same H H' → R H' xs → Q xs H'
theorem pe_imp {X : Cx} {e : Expr} {t t' : TE} (h : PE X e t) (i : ∀ σ H Q, t' σ H Q → t σ H Q) : PE X e t' := ⟨fun pins s σ H Q I q => h.run pins s σ H Q I (i _ _ _ q)⟩
theorem pa_imp {X : Cx} {es : List Expr} {t t' : TA} (h : PA X es t) (i : ∀ σ H Q, t' σ H Q → t σ H Q) : PA X es t' := ⟨fun pos pins s σ H Q I q => h.run pos pins s σ H Q I (i _ _ _ q)⟩
section
variable {X : Cx} {e : Expr} {es : List Expr} {pos : Pos} {x1 : Nat}
theorem pe_ti3 {a b c : Int} {k1 k2 k3 : Nat} {p1 p2 p3 : Pos} : PE X (.Tuple [.Constant (.int a) k1 p1, .Constant (.int b) k2 p2, .Constant (.int c) k3 p3] x1 pos) (tD fun H v => TI X.K H v [a, b, c]) :=
  pe_imp (pe_tup (pa_cons pe_int (pa_cons pe_int (pa_cons pe_int pa_nil)))) fun σ H Q q => ⟨show 3 ≤ sizeLine by decide, fun p np => q _ _ (same_new np) ⟨p, rfl, .of upd_same⟩⟩
theorem pas_nil : PA X [] (tDs fun H xs => TIs X.K H xs []) := pa_imp pa_nil fun σ H Q q => q [] H (.refl H) trivial
theorem pas_cons {t : List Int} {bs : List (List Int)} (h : PE X e (tD fun H v => TI X.K H v t)) (r : PA X es (tDs fun H xs => TIs X.K H xs bs)) (hs : starEach (e :: es) X.env = (false, eval e X.env) :: starEach es X.env := by rfl) : PA X (e :: es) (tDs fun H xs => TIs X.K H xs (t :: bs)) :=
  pa_imp (pa_cons h r hs) fun σ H Q q v H1 s1 r1 xs H2 s2 r2 => q (v :: xs) H2 (s1.trans s2) ⟨r1.same s2, r2⟩
theorem pe_bs {bs : List (List Int)} (h : PA X es (tDs fun H xs => TIs X.K H xs bs)) (hl : bs.length ≤ 1000 := by decide) : PE X (.Tuple es x1 pos) (tD fun H v => BsAt X.K H v bs) :=
  pe_imp (pe_tup h) fun σ H Q q xs H1 s1 r1 => ⟨Nat.le_trans (r1.len ▸ hl) (by decide), fun p np => q _ _ (s1.trans (same_new np)) ⟨p, xs, rfl, .of upd_same, r1.same (same_new np)⟩⟩
theorem pe_sd {n : Int} {k1 : Nat} {p1 : Pos} {bs : List (List Int)} (h : PE X e (tD fun H v => BsAt X.K H v bs)) (hs : starEach [.Constant (.int n) k1 p1, e] X.env = (false, eval (.Constant (.int n) k1 p1) X.env) :: starEach [e] X.env := by rfl)
    (hs2 : starEach [e] X.env = (false, eval e X.env) :: starEach [] X.env := by rfl) : PE X (.Tuple [.Constant (.int n) k1 p1, e] x1 pos) (tD fun H v => SysD X.K H v n bs) :=
  pe_imp (pe_tup (pa_cons pe_int (pa_cons h pa_nil hs2) hs)) fun σ H Q q v H1 s1 r1 => ⟨show 2 ≤ sizeLine by decide, fun p np => q _ _ (s1.trans (same_new np)) ⟨p, v, rfl, .of upd_same, r1.same (same_new np)⟩⟩
theorem pads_nil : PA X [] (tDs fun H xs => Ds X.K H xs []) := pa_imp pa_nil fun σ H Q q => q [] H (.refl H) trivial
theorem pads_cons {n : Int} {bs : List (List Int)} {ds : List Dat} (h : PE X e (tD fun H v => SysD X.K H v n bs)) (r : PA X es (tDs fun H xs => Ds X.K H xs ds)) (hs : starEach (e :: es) X.env = (false, eval e X.env) :: starEach es X.env := by rfl) : PA X (e :: es) (tDs fun H xs => Ds X.K H xs ((n, bs) :: ds)) :=
  pa_imp (pa_cons h r hs) fun σ H Q q v H1 s1 r1 xs H2 s2 r2 => q (v :: xs) H2 (s1.trans s2) ⟨r1.same s2, r2⟩
def tL (K : PySem.W.Frag) (ds : List Dat) : TE := fun _ H Q => ∀ (p : Addr) (xs : List V) (H' : Hp), Same H H' → H p = none → H' p = some (.lst xs) → Ds K H' xs ds → Q (.ref p) H'
theorem pe_lsd {ds : List Dat} (h : PA X es (tDs fun H xs => Ds X.K H xs ds)) (hl : ds.length ≤ 1000 := by decide) : PE X (.List es pos) (tL X.K ds) :=
  pe_imp (pe_lst h) fun σ H Q q xs H1 s1 r1 => ⟨Nat.le_trans (r1.len ▸ hl) (by decide), fun p np => q p xs _ (s1.trans (same_new np)) (s1.free np) upd_same (r1.same (same_new np))⟩
theorem pe_ti2 {a b : Int} {k1 k2 : Nat} {p1 p2 : Pos} : PE X (.Tuple [.Constant (.int a) k1 p1, .Constant (.int b) k2 p2] x1 pos) (tD fun H v => TI X.K H v [a, b]) :=
  pe_imp (pe_tup (pa_cons pe_int (pa_cons pe_int pa_nil))) fun σ H Q q => ⟨show 2 ≤ sizeLine by decide, fun p np => q _ _ (same_new np) ⟨p, rfl, .of upd_same⟩⟩
end
theorem isPr_of {i j l h d : Int} (lh : l < h) : isPr i j [l, h, d] = true ↔ (i = l ∧ j = h) ∨ (i = h ∧ j = l) := by
  unfold isPr
  rw [show ([l, h, d] : List Int).take 2 = [l, h] from rfl]
  simp only [Bool.or_eq_true, beq_iff_eq, List.cons.injEq, and_true]
  omega
theorem bond_snoc {n : Int} {bs : List (List Int)} {l h d : Int} (va : Valid n (bs ++ [[l, h, d]])) (lh : l < h) (i j : Int) : bondOf (bs ++ [[l, h, d]]) i j = if isPr i j [l, h, d] = true then d else bondOf bs i j := by
  unfold bondOf
  rw [List.filter_append]
  by_cases e : isPr i j [l, h, d] = true
  · rw [if_pos e, List.filter_cons_of_pos (by exact e)]
    have : bs.filter (isPr i j) = [] := by
      rw [List.filter_eq_nil_iff]
      intro t ht q
      obtain ⟨l2, h2, d2, rfl, t0, t1, _⟩ := va.tr t (List.mem_append.mpr (.inl ht))
      have as := va.as
      rw [List.map_append, List.pairwise_append] at as
      have := as.2.2 [l2, h2] (List.mem_map.mpr ⟨_, ht, rfl⟩) [l, h] (by simp)
      have q1 := (isPr_of t1).mp q
      have q2 := (isPr_of lh).mp e
      obtain ⟨rfl, rfl⟩ : l2 = l ∧ h2 = h := by omega
      rw [HT.lexLt_cons, if_pos rfl, HT.lexLt_cons, if_pos rfl] at this
      cases this
    rw [this]
    rfl
  · rw [if_neg e, List.filter_cons_of_neg (by exact e), List.filter_nil, List.append_nil]
theorem Valid.take {n : Int} {bs : List (List Int)} (va : Valid n bs) (k : Nat) : Valid n (bs.take k) := by
  refine ⟨va.lo, va.hi, fun t ht => va.tr t (List.mem_of_mem_take ht), ?_, ?_⟩
  · rw [List.map_take]
    exact va.as.sublist (List.take_sublist _ _)
  · rw [List.length_take]
    have := va.few
    omega
theorem irr2 {a p : Int} (h : a * a = 5 * p * p) : p = 0 := (Gd.irr (t := a) (p := p) (by rw [h, Int.mul_assoc])).2
theorem z0 (a p : Int) : a = 0 → p < 0 → a * a < 5 * p * p := fun h g => by
  rw [h, Int.mul_assoc]
  have := Int.mul_pos_of_neg_of_neg g g
  omega
theorem low_test (w p : Int) : Rt.sn (w, p) = -1 ↔ (2 * w + p < 0 ∧ (p ≤ 0 ∨ (2 * w + p) * (2 * w + p) > 5 * p * p)) ∨ (2 * w + p ≥ 0 ∧ p < 0 ∧ (2 * w + p) * (2 * w + p) < 5 * p * p) := by
  show Gd.gs w p = -1 ↔ _
  rw [← Gd.gsI_eq]
  unfold Gd.gsI
  have ir : (2 * w + p) * (2 * w + p) = 5 * p * p → p = 0 := fun h => (Gd.irr (t := 2 * w + p) (p := p) (by rw [h, Int.mul_assoc])).2
  have z0 : 2 * w + p = 0 → p < 0 → (2 * w + p) * (2 * w + p) < 5 * p * p := fun h g => by
    rw [h, Int.mul_assoc]
    have := Int.mul_pos_of_neg_of_neg g g
    omega
  generalize (2 * w + p) * (2 * w + p) = S at *
  generalize 5 * p * p = R at *
  split
  · omega
  · split
    · omega
    · split
      · rename_i h1 h2 h3
        constructor
        · intro _
          by_cases c : 2 * w + p < 0
          · exact .inl ⟨c, .inl h3.2⟩
          · have : p < 0 := by omega
            exact .inr ⟨by omega, this, z0 (by omega) this⟩
        · intro _
          rfl
      · split
        · rename_i h
          rw [beq_iff_eq, decide_eq_decide] at h
          omega
        · rename_i h
          rw [beq_iff_eq, decide_eq_decide] at h
          omega
theorem at0 {a b : Int} : atI ((pr2 (a, b)).map V.int) 0 = some (.int a) := at_of (j := 0) rfl rfl
theorem at1 {a b : Int} : atI ((pr2 (a, b)).map V.int) 1 = some (.int b) := at_of (j := 1) rfl rfl
def NT (u : HO) : Prop := (∀ xs, u ≠ .tup xs) ∧ ∀ f xs, u ≠ .frz f (.tup xs)
theorem nt_K (kv : List (L2.Key × V)) : NT (.dK kv) := ⟨fun _ h => (nomatch h), fun _ _ h => (nomatch h)⟩
theorem nt_T (kv : List (List L2.Key × V)) : NT (.dT kv) := ⟨fun _ h => (nomatch h), fun _ _ h => (nomatch h)⟩
section
variable {K : PySem.W.Frag} {D : Addr} {H H' : Hp} {u : HO}
theorem offN_sq {a : Addr} {xs : List V} (o : Off D H H') (hD : H D = some u) (n : NT u) (h : SqT K H a xs) : SqT K H' a xs := by
  have ne : ∀ z, H a = some z → z ≠ u → a ≠ D := fun z hz n1 w => by
    rw [w, hD] at hz
    exact n1 (Option.some.inj hz).symm
  rcases h with (h | ⟨f, h⟩) | h
  · exact .inl (.inl (o a _ (ne _ h fun z => n.1 _ z.symm) h))
  · exact .inl (.inr ⟨f, o a _ (ne _ h fun z => n.2 _ _ z.symm) h⟩)
  · exact .inr h
theorem offN_ti {v : V} {ns : List Int} (o : Off D H H') (hD : H D = some u) (n : NT u) (h : TI K H v ns) : TI K H' v ns := h.elim fun a ⟨z, q⟩ => ⟨a, z, offN_sq o hD n q⟩
theorem offN_tis (o : Off D H H') (hD : H D = some u) (n : NT u) : ∀ {xs : List V} {ns : List (List Int)}, TIs K H xs ns → TIs K H' xs ns
  | [], [], _ => trivial
  | _ :: _, _ :: _, h => ⟨offN_ti o hD n h.1, offN_tis o hD n h.2⟩
theorem offN_bs {v : V} {bs : List (List Int)} (o : Off D H H') (hD : H D = some u) (n : NT u) (h : BsAt K H v bs) : BsAt K H' v bs := h.elim fun a ⟨xs, e, q, t⟩ => ⟨a, xs, e, offN_sq o hD n q, offN_tis o hD n t⟩
end
theorem key2 {i j : Nat} : ([V.int (i : Int), V.int (j : Int)] : List V) = ([.inl (i : Int), .inl (j : Int)] : List L2.Key).map kV := rfl
theorem key_eq {i j a b : Nat} : (([.inl (i : Int), .inl (j : Int)] : List L2.Key) = [.inl (a : Int), .inl (b : Int)]) ↔ i = a ∧ j = b := by
  constructor
  · intro h
    injection h with h1 h2
    injection h2 with h2 _
    injection h1 with h1
    injection h2 with h2
    omega
  · rintro ⟨rfl, rfl⟩
    rfl
theorem tis_two {K : PySem.W.Frag} {H : Hp} {g0 g1 : List Int} : ∀ {vx : List V}, TIs K H vx [g0, g1] → ∃ x0 x1, vx = [x0, x1] ∧ TI K H x0 g0 ∧ TI K H x1 g1
  | [x0, x1], h => ⟨x0, x1, rfl, h.1, h.2.1⟩
  | [], h => h.elim
  | [_], h => h.2.elim
  | _ :: _ :: _ :: _, h => h.2.2.elim
theorem put_len {κ : Type} [DecidableEq κ] (kvs : List (κ × V)) (k : κ) (v : V) : (putK kvs k v).length ≤ kvs.length + 1 := by
  unfold putK
  split
  · rw [List.length_map]
    omega
  · rw [List.length_append]
    exact Nat.le_refl _
theorem rep_flat {α : Type} (x : α) : ∀ n : Nat, (List.replicate n [x]).flatten = List.replicate n x
  | 0 => rfl
  | n + 1 => by
    rw [List.replicate_succ, List.replicate_succ, List.flatten_cons, rep_flat x n]
    rfl
theorem tis_rep {K : PySem.W.Frag} {H : Hp} {v : V} {r : List Int} (h : TI K H v r) : ∀ n : Nat, TIs K H (List.replicate n v) (List.replicate n r)
  | 0 => trivial
  | n + 1 => ⟨h, tis_rep h n⟩
theorem castW_get {w : List Nat} {i : Nat} {x : V} (h : ((castW w).map V.int)[i]? = some x) : ∃ c : Nat, w[i]? = some c ∧ x = .int (c : Nat) := by
  unfold castW at h
  rw [List.getElem?_map, List.getElem?_map] at h
  cases e : w[i]? with
  | none => rw [e] at h; cases h
  | some c =>
    rw [e] at h
    exact ⟨c, rfl, (Option.some.inj h).symm⟩
theorem range_head {n s : Nat} (h : s < n) : ∃ B, List.range n = List.range s ++ s :: B := by
  refine ⟨(List.range n).drop (s + 1), ?_⟩
  have hl : s < (List.range n).length := by rw [List.length_range]; exact h
  conv => lhs; rw [← List.take_append_drop s (List.range n), List.drop_eq_getElem_cons hl]
  rw [List.take_range, Nat.min_eq_left (by omega), List.getElem_range]
def frL (n : Nat) (F : Nat → Rt.Vc) : List (List (List Int)) := (List.range n).map fun i => stL n (F i)
theorem frL_len (n : Nat) (F : Nat → Rt.Vc) : (frL n F).length = n := by unfold frL; rw [List.length_map, List.length_range]
theorem frL_get {n : Nat} {F : Nat → Rt.Vc} {i : Nat} (h : i < n) : (frL n F)[i]? = some (stL n (F i)) := by
  unfold frL
  rw [List.getElem?_map, List.getElem?_range h]
  rfl
theorem pr2_inj {x y : Rt.G} (h : pr2 x = pr2 y) : x = y := by
  unfold pr2 at h
  injection h with h1 h2
  injection h2 with h2 _
  exact Prod.ext h1 h2
theorem stL_eq {n : Nat} {x y : Rt.Vc} : stL n x = stL n y ↔ ∀ i, i < n → x i = y i := by
  constructor
  · intro h i hi
    have := stL_get (S := x) hi
    rw [h, stL_get hi] at this
    exact (pr2_inj (Option.some.inj this)).symm
  · intro h
    unfold stL
    refine List.map_congr_left fun i hi => ?_
    rw [h i (List.mem_range.mp hi)]
theorem frL_eq {n : Nat} {F G : Nat → Rt.Vc} : frL n F = frL n G ↔ ∀ i, i < n → ∀ k, k < n → F i k = G i k := by
  constructor
  · intro h i hi
    have := frL_get (F := F) hi
    rw [h, frL_get hi] at this
    exact stL_eq.mp (Option.some.inj this).symm
  · intro h
    unfold frL
    refine List.map_congr_left fun i hi => ?_
    rw [stL_eq.mpr (h i (List.mem_range.mp hi))]
noncomputable def lowB (n : Nat) (x : Rt.Vc) : Bool := (List.range n).any fun i => decide (Rt.sn (x i) = -1)
theorem lowB_iff {n : Nat} {x : Rt.Vc} : lowB n x = true ↔ Rt.Low n x := by
  unfold lowB Rt.Low
  rw [List.any_eq_true]
  constructor
  · rintro ⟨i, hi, h⟩
    exact ⟨i, List.mem_range.mp hi, of_decide_eq_true h⟩
  · rintro ⟨i, hi, h⟩
    exact ⟨i, List.mem_range.mpr hi, decide_eq_true h⟩
theorem lowB_false {n : Nat} {x : Rt.Vc} (h : ∀ i, i < n → Rt.sn (x i) ≠ -1) : lowB n x = false := by
  cases e : lowB n x with
  | false => rfl
  | true =>
    obtain ⟨i, hi, h2⟩ := lowB_iff.mp e
    exact absurd h2 (h i hi)
theorem A2.imp_mem {α : Type} {R S : V → α → Prop} : ∀ {xs : List V} {as : List α}, (∀ x a, x ∈ xs → R x a → S x a) → A2 R xs as → A2 S xs as
  | [], [], _, _ => trivial
  | x :: _, _ :: _, h, z => ⟨h _ _ (by simp) z.1, A2.imp_mem (fun y a m => h y a (by simp [m])) z.2⟩
theorem LkAt.but {K : PySem.W.Frag} {H H' : Hp} {v : V} {p : Addr} {lk : List (List (List Int))} (h : LkAt K H v lk) (o : Off p H H') (b : VatAt H p) : LkAt K H' v lk := by
  obtain ⟨a, xs, rfl, q, t⟩ := h
  obtain ⟨b0, b1, b2, hp⟩ := b
  exact ⟨a, xs, rfl, o.sqT hp q, t.imp fun _ _ z => o.bs hp z⟩
theorem row_get {K : PySem.W.Frag} {H : Hp} {v : V} {n i : Nat} {x : Rt.Vc} (h : BsAt K H v (stL n x)) (hi : i < n) : ∃ a xs y, v = .ref a ∧ SqT K H a xs ∧ xs[i]? = some y ∧ TI K H y (pr2 (x i)) := by
  obtain ⟨a, xs, rfl, q, t⟩ := h
  obtain ⟨y, ey, ty⟩ := (A2.of_tis t).at_ (stL_get hi)
  exact ⟨a, xs, y, rfl, q, ey, ty⟩
def rLenQ (K : PySem.W.Frag) : List V → Hp → VK → Prop := fun xs H Q => ∃ p ys, xs = [.ref p] ∧ (SqL K H p ys ∨ SqT K H p ys) ∧ Q (.int ys.length) H
theorem slc_any {K : PySem.W.Frag} {H : Hp} {Q : VK} {a : Addr} {xs : List V} {lo hi : Option Int} (ha : SqT K H a xs) (q : ∀ v H', Same H H' → (∃ c, v = .ref c ∧ SqT K H' c (cutV xs lo hi)) → Q v H') : rSlA K (.ref a) lo hi H Q := by
  refine ⟨a, xs, rfl, ha, fun e => q _ _ (.refl _) ⟨a, rfl, ?_⟩, fun _ p np => q _ _ (same_new np) ⟨p, rfl, .of upd_same⟩⟩
  have : cutV xs lo hi = xs := by
    unfold cutV
    rw [e.1, e.2]
    simp
  rw [this]
  exact ha
theorem cut_drop (xs : List V) (k : Nat) : cutV xs (some (k : Int)) none = xs.drop k := by
  show (xs.drop (HT.sIx xs.length 0 (some ((k : Nat) : Int)))).take (xs.length - HT.sIx xs.length 0 (some ((k : Nat) : Int))) = xs.drop k
  rw [HT.sIx_nat]
  by_cases h : k ≤ xs.length
  · rw [Nat.min_eq_left h, List.take_of_length_le (by rw [List.length_drop]; omega)]
  · rw [Nat.min_eq_right (by omega), List.drop_eq_nil_of_le (Nat.le_refl _), List.drop_eq_nil_of_le (by omega)]
    simp
theorem cut_take (xs : List V) (k : Nat) : cutV xs none (some (k : Int)) = xs.take k := by
  show (xs.drop 0).take (HT.sIx xs.length xs.length (some ((k : Nat) : Int)) - 0) = xs.take k
  rw [HT.sIx_nat, List.drop_zero, Nat.sub_zero]
  by_cases h : k ≤ xs.length
  · rw [Nat.min_eq_left h]
  · rw [Nat.min_eq_right (by omega), List.take_of_length_le (Nat.le_refl _), List.take_of_length_le (by omega)]
def Sml (n : Nat) (x : Rt.Vc) : Prop := ∀ i, i < n → B 1000 (x i).1 ∧ B 1000 (x i).2
theorem stL_set {n l : Nat} (x : Rt.Vc) (g : Rt.G) : (stL n x).set l (pr2 g) = stL n (fun k => if k = l then g else x k) := by
  refine eq_stL (by rw [List.length_set, stL_len]) fun i hi => ?_
  rw [getD_set (by rw [stL_len]; exact hi)]
  by_cases e : i = l
  · rw [if_pos e, if_pos e]
  · rw [if_neg e, if_neg e, stL_getD hi]
theorem c_B {n : Int} {bs : List (List Int)} (va : Valid n bs) (i j : Nat) : B 1000 (cB bs i j).1 ∧ B 1000 (cB bs i j).2 := by
  have c := c_small va i j
  have b : ∀ z : Int, 0 ≤ z → z ≤ 3 → B 1000 z := fun z h0 h1 => (B.lit (n := 2) z (show z.natAbs < 4 by omega)).mono (by decide)
  exact ⟨b _ c.1 c.2.1, b _ c.2.2.1 c.2.2.2⟩
theorem fr_big {n : Nat} {bs : List (List Int)} (va : Valid n bs) : ∀ {w : List Nat}, Rt.In n w → ∀ i, i < n → ∀ k, k < n → Bg (5 * w.length) (Rt.fr (cB bs) n w i k)
  | [], _, i, hi, k, hk => by
    unfold Rt.fr
    show Bg 0 (Rt.al i k)
    unfold Rt.al
    split
    · exact ⟨by decide, by decide⟩
    · exact ⟨by decide, by decide⟩
  | l :: w, h, i, hi, k, hk => by
    have hl := h l (by simp)
    rw [Rt.fr_cons (sysN va) hl w hi, List.length_cons]
    have c := c_small va l i
    have a := fr_big va h.tail l hl k hk
    have b := fr_big va h.tail i hi k hk
    split
    · show Bg _ (Rt.cm (-1, 0) (Rt.fr (cB bs) n w l k))
      rw [Rt.cm_m1]
      exact (a.ng).mono (by omega)
    · have := (b.mono (show 5 * w.length ≤ 5 * w.length + 4 by omega)).ad (a.cm c.1 c.2.1 c.2.2.1 c.2.2.2)
      exact this.mono (by omega)
theorem fr_sml {n : Nat} {bs : List (List Int)} (va : Valid n bs) {w : List Nat} (h : Rt.In n w) (hl : w.length < 200) : ∀ i, i < n → Sml n (Rt.fr (cB bs) n w i) := fun i hi k hk => (fr_big va h i hi k hk).b (by omega)
theorem fr_snoc {n : Nat} {c : Nat → Nat → Rt.G} (w : List Nat) (l : Nat) (i : Nat) : Rt.fr c n (w ++ [l]) i = Rt.rf c n l (Rt.fr c n w i) := by
  unfold Rt.fr
  rw [List.reverse_append]
  rfl
def rTupQ (K : PySem.W.Frag) : List V → Hp → VK → Prop := fun xs H Q => ∃ (p : Addr) (ys : List V), xs = [.ref p] ∧ ((SqL K H p ys ∧ ∀ l, H l = none → Q (.ref l) (upd H l (.tup ys))) ∨ (SqT K H p ys ∧ Q (.ref p) H))
theorem walk_zipT {K : PySem.W.Frag} {a b : Addr} {xs ys : List V} {n : Nat} (hn : n = min xs.length ys.length) : Walk (RZ.ItzT K a b) n (fun H => SqT K H a xs ∧ SqT K H b ys) (YPair (fun i => xs[i]?) (fun i => ys[i]?)) := by
  subst hn
  refine ⟨fun i _ hi q => ?_, fun _ q => ⟨xs, ys, q.1, q.2, by omega⟩, fun i H v H' _ q y => ?_⟩
  · have h1 : i < xs.length := by omega
    have h2 : i < ys.length := by omega
    exact ⟨xs, ys, xs[i], ys[i], q.1, q.2, by simp [h1], by simp [h2]⟩
  · obtain ⟨T, x, z, h1, h2, h3, h4, h5⟩ := y
    exact ⟨T, x, z, h1, h2, h3, h4 xs q.1, h5 ys q.2⟩
def ahF (bs : List (List Int)) (l : Nat) (F : Nat → Rt.Vc) : Nat → Rt.Vc := fun i => if i = l then Rt.vm (-1, 0) (F l) else Rt.va (F i) (Rt.vm (cB bs l i) (F l))
theorem push_row {K : PySem.W.Frag} {H H3 : Hp} {D : Addr} {v : V} {ys : List V} {n i : Nat} {G : Nat → Rt.Vc} (nD : H D = none) (s : Same H H3) (hD : H3 D = some (.lst ys)) (hy : A2 (BsAt K H3) ys ((frL n G).take i)) (hv : BsAt K H3 v (stL n (G i))) (hi : i < n) :
    Same H (upd H3 D (.lst (ys ++ [v]))) ∧ ∃ zs, (upd H3 D (.lst (ys ++ [v]))) D = some (.lst zs) ∧ A2 (BsAt K (upd H3 D (.lst (ys ++ [v])))) zs ((frL n G).take (i + 1)) := by
  refine ⟨same_off nD s off_upd, _, upd_same, ?_⟩
  rw [take_snoc (frL_get hi)]
  exact (hy.snoc hv).imp fun _ _ z => off_upd.bs hD z
noncomputable def lefB (n : Nat) (F : Nat → Rt.Vc) : List Nat := (List.range n).filter fun i => lowB n (F i)
theorem low_fr {n : Nat} {bs : List (List Int)} (va : Valid n bs) {w : List Nat} (hw : Rt.In n w) {s : Nat} (hs : s < n) : lowB n (Rt.fr (cB bs) n w s) = true ↔ Rt.len n (mB bs) (s :: w) < Rt.len n (mB bs) w := lowB_iff.trans (Rt.left_iff (sysN va) hw hs)
theorem lef_done {n : Nat} {bs : List (List Int)} (va : Valid n bs) {w : List Nat} (hw : Rt.In n w) (h : ∀ s, s < n → ¬ Rt.len n (mB bs) (s :: w) < Rt.len n (mB bs) w) : lefB n (Rt.fr (cB bs) n w) = [] :=
  List.filter_eq_nil_iff.mpr fun s hs z => h s (List.mem_range.mp hs) ((low_fr va hw (List.mem_range.mp hs)).mp z)
theorem range_split {n s : Nat} (h : s < n) : ∃ B, List.range n = List.range s ++ s :: B := by
  refine ⟨(List.range n).drop (s + 1), ?_⟩
  have hl : s < (List.range n).length := by rw [List.length_range]; omega
  conv => lhs; rw [← List.take_append_drop s (List.range n), List.drop_eq_getElem_cons hl, List.take_range, Nat.min_eq_left (by omega), List.getElem_range]
theorem lef_step {n : Nat} {bs : List (List Int)} (va : Valid n bs) {w : List Nat} (hw : Rt.In n w) {s : Nat} (hs : s < n) (h : Rt.len n (mB bs) (s :: w) < Rt.len n (mB bs) w) (m : ∀ t, t < s → ¬ Rt.len n (mB bs) (t :: w) < Rt.len n (mB bs) w) : ∃ r, lefB n (Rt.fr (cB bs) n w) = s :: r := by
  obtain ⟨B, e⟩ := range_split hs
  unfold lefB
  rw [e]
  refine ⟨B.filter fun i => lowB n (Rt.fr (cB bs) n w i), filter_head (fun a ha => ?_) ((low_fr va hw hs).mpr h)⟩
  have ha := List.mem_range.mp ha
  cases q : lowB n (Rt.fr (cB bs) n w a) with
  | false => rfl
  | true => exact absurd ((low_fr va hw (by omega)).mp q) (m a ha)
theorem ah_fr {n : Nat} {bs : List (List Int)} (va : Valid n bs) {l : Nat} (hl : l < n) (w : List Nat) : frL n (ahF bs l (Rt.fr (cB bs) n w)) = frL n (Rt.fr (cB bs) n (l :: w)) := by
  refine frL_eq.mpr fun i hi k hk => ?_
  rw [Rt.fr_cons (sysN va) hl w hi]
  rfl
end Sk

namespace Sk
open PySem L2 Ow
theorem lkN {n : Nat} {bs : List (List Int)} (va : Valid n bs) : LkOk n (lkOf bs n) := lkOf_ok va
theorem stOkN {n : Nat} {bs : List (List Int)} (w : List Nat) : StOk n (stOf bs n (castW w)) := StOk.ahead _ _ (.first _)
theorem st_fineN {n : Nat} {bs : List (List Int)} (va : Valid n bs) {w : List Nat} (hw : Rt.In n w) (l : w.length < 200) {i : Nat} (hi : i < n) : ∃ a b, (stOf bs n (castW w))[i]? = some [a, b] ∧ FineN [a, b] ∧ (stOf bs n (castW w)).getD i [] = [a, b] := by
  obtain ⟨a, b, e1, e2⟩ := (stOkN (bs := bs) w).at_ hi
  exact ⟨a, b, e1, fine_word va (show Rt.In (n : Int).toNat w from hw) l _ (List.mem_of_getElem? e1), e2⟩
def spLed (K : PySem.W.Frag) : Sp := fun vs H Q _ => ∃ (lv sv wv : V) (n : Nat) (bs : List (List Int)) (u w : List Nat), vs = [lv, sv, wv] ∧ LkAt K H lv (lkOf bs n) ∧ BsAt K H sv (stOf bs n (castW u)) ∧ TI K H wv (castW w) ∧ Valid n bs ∧ Rt.In n u ∧ Rt.In n w ∧ u.length + w.length ≤ 150 ∧
  ∀ v H', Same H H' → BsAt K H' v (stOf bs n (castW (Rt.down n (mB bs) u w))) → Q v H'
def spSU (K : PySem.W.Frag) : Sp := fun vs H Q _ => ∃ (lv sv wv : V) (n : Nat) (bs : List (List Int)) (u w : List Nat), vs = [lv, sv, wv] ∧ LkAt K H lv (lkOf bs n) ∧ BsAt K H sv (stOf bs n (castW u)) ∧ TI K H wv (castW w) ∧ Valid n bs ∧ Rt.In n u ∧ Rt.In n w ∧ u.length + w.length ≤ 150 ∧
  ∀ H' b, Same H H' → (b = true ↔ Rt.Sub n (mB bs) u w) → Q (.bl b) H'
def spWU (K : PySem.W.Frag) : Sp := fun vs H Q _ => ∃ (lv uv wv : V) (n : Nat) (bs : List (List Int)) (u w : List Nat), vs = [lv, uv, wv] ∧ LkAt K H lv (lkOf bs n) ∧ TI K H uv (castW u) ∧ TI K H wv (castW w) ∧ Valid n bs ∧ Rt.In n u ∧ Rt.In n w ∧ u.length + w.length ≤ 150 ∧
  ∀ H' b, Same H H' → (b = true ↔ Rt.Sub n (mB bs) u w) → Q (.bl b) H'
def spUnder (K : PySem.W.Frag) (C : Addr) : Sp := fun vs H Q _ => ∃ (p : Addr) (uv wv bv : V) (n : Nat) (bs : List (List Int)) (u w : List Nat), vs = [.ref p, uv, wv] ∧ SysAt K C H p n bv bs ∧ Valid n bs ∧ TI K H uv (castW u) ∧ TI K H wv (castW w) ∧ Rt.In n u ∧ Rt.In n w ∧ u.length ≤ 40 ∧ w.length ≤ 40 ∧
  ∀ H' b, Same H H' → (b = true ↔ Und n bs u w) → Q (.bl b) H'
section
variable {P : Program} {w : World} {K : PySem.W.Frag} {mg : Str → Option Value} {base : Heap} {C : Addr}
end
end Sk

namespace Sk
open PySem L2 Ow
theorem cutW_take (w : List Nat) (k : Nat) : cutV ((castW w).map V.int) none (some (k : Int)) = (castW (w.take k)).map V.int := by
  rw [cut_take]
  unfold castW
  rw [List.map_take, List.map_take]
theorem cutW_drop (w : List Nat) (k : Nat) : cutV ((castW w).map V.int) (some (k : Int)) none = (castW (w.drop k)).map V.int := by
  rw [cut_drop]
  unfold castW
  rw [List.map_drop, List.map_drop]

def NW (n : Nat) (bs : List (List Int)) (u : List Nat) : Prop := Rt.In n u ∧ Rt.Nf n (mB bs) u u
theorem NW.len {n : Nat} {bs : List (List Int)} {u : List Nat} (h : NW n bs u) : u.length = Rt.len n (mB bs) u := (h.2.cg h.1).2
theorem NW.of {n : Nat} {bs : List (List Int)} (va : Valid n bs) {w u : List Nat} (hw : Rt.In n w) (h : Rt.Nf n (mB bs) w u) : NW n bs u := by
  obtain ⟨c, _⟩ := h.cg hw
  have hu := c.in_.mp hw
  exact ⟨hu, nf_cg va hw hu h c.symm⟩
theorem NW.sub {n : Nat} {bs : List (List Int)} (va : Valid n bs) {w u x : List Nat} (hw : NW n bs w) (s : x.Sublist w) (c : Rt.Cg n (mB bs) u x) : Und n bs u w :=
  (Rt.Le.iff (sysN va) hw.1 (.rfl w) hw.len).mpr ⟨x, s, c⟩
theorem NW.eq {n : Nat} {bs : List (List Int)} (va : Valid n bs) {u w : List Nat} (hu : NW n bs u) (hw : NW n bs w) : u = w ↔ Rt.Cg n (mB bs) u w := nf_eq va hu.1 hw.1 hu.2 hw.2
end Sk

namespace Sk
open PySem PySem.Spec PyProof.Rows L2 Ow
/-! dicts whose keys are tuples of whole numbers, of such, or of such -/
inductive KK where
  | w (ns : List Int)
  | s (st : List (List Int))
  | l (lk : List (List (List Int)))
def nkW (ns : List Int) : NestedKey := .tup (ns.map .num)
def nkS (st : List (List Int)) : NestedKey := .tup (st.map nkW)
def nkL (lk : List (List (List Int))) : NestedKey := .tup (lk.map nkS)
def KK.nk : KK → NestedKey
  | .w ns => nkW ns
  | .s st => nkS st
  | .l lk => nkL lk
def KK.At (K : PySem.W.Frag) (H : Hp) (a : Addr) : KK → Prop
  | .w ns => TI K H (.ref a) ns
  | .s st => BsAt K H (.ref a) st
  | .l lk => LkAt K H (.ref a) lk
theorem KK.At.same {K : PySem.W.Frag} {H H' : Hp} {a : Addr} (s : Same H H') : ∀ {k : KK}, KK.At K H a k → KK.At K H' a k
  | .w _, h => TI.same h s
  | .s _, h => BsAt.same h s
  | .l _, h => LkAt.same h s
theorem num_inj {a b : List Int} (h : a.map NestedKey.num = b.map NestedKey.num) : a = b := List.map_inj_right (f := NestedKey.num) (fun _ _ e => NestedKey.num.inj e) |>.mp h
theorem nkW_inj {a b : List Int} (h : nkW a = nkW b) : a = b := num_inj (NestedKey.tup.inj h)
theorem nkS_inj {a b : List (List Int)} (h : nkS a = nkS b) : a = b := List.map_inj_right (f := nkW) (fun _ _ e => nkW_inj e) |>.mp (NestedKey.tup.inj h)
theorem nkL_inj {a b : List (List (List Int))} (h : nkL a = nkL b) : a = b := List.map_inj_right (f := nkS) (fun _ _ e => nkS_inj e) |>.mp (NestedKey.tup.inj h)
theorem dep_nums : ∀ r : List Int, NestedKey.depthAll (r.map .num) ≤ 1
  | [] => by simp [NestedKey.depthAll]
  | n :: r => by have := dep_nums r; simp [NestedKey.depthAll, NestedKey.depth]; omega
theorem dep_W (r : List Int) : (nkW r).depth ≤ 2 := by
  have := dep_nums r
  simp [nkW, NestedKey.depth]
  omega
theorem dep_Ws : ∀ st : List (List Int), NestedKey.depthAll (st.map nkW) ≤ 3
  | [] => by simp [NestedKey.depthAll]
  | r :: st => by have := dep_Ws st; have := dep_W r; simp [NestedKey.depthAll]; omega
theorem dep_S (st : List (List Int)) : (nkS st).depth ≤ 4 := by
  have := dep_Ws st
  simp [nkS, NestedKey.depth]
  omega
theorem dep_Ss : ∀ lk : List (List (List Int)), NestedKey.depthAll (lk.map nkS) ≤ 5
  | [] => by simp [NestedKey.depthAll]
  | r :: st => by have := dep_Ss st; have := dep_S r; simp [NestedKey.depthAll]; omega
theorem dep_L (lk : List (List (List Int))) : (nkL lk).depth ≤ 6 := by
  have := dep_Ss lk
  simp [nkL, NestedKey.depth]
  omega
theorem dep_K : ∀ k : KK, k.nk.depth ≤ 8
  | .w ns => Nat.le_trans (dep_W ns) (by decide)
  | .s st => Nat.le_trans (dep_S st) (by decide)
  | .l lk => Nat.le_trans (dep_L lk) (by decide)
theorem all_nums {h : Heap} : ∀ {r : List Int} {its : List Value}, Vals (r.map V.int) its → NestedAll h (r.map .num) its
  | [], _, hv => by cases hv; exact .nil
  | n :: r, _, hv => by
    cases hv with
    | cons hx hr =>
      obtain ⟨t, rfl⟩ := hx
      exact .cons (.int n t) (all_nums hr)
section
variable {X : Cx} {pins : List (Addr × Obj)} {σ : L2.St} {H : Hp} {s : Shared}
theorem all_Ws (I : Inv X pins σ H s) : ∀ {st : List (List Int)} {xs : List V} {its : List Value}, TIs X.K H xs st → Vals xs its → NestedAll s.heap (st.map nkW) its
  | [], [], _, _, hv => by cases hv; exact .nil
  | r :: st, x :: xs, _, ht, hv => by
    cases hv with
    | cons hx hr =>
      obtain ⟨a, rfl, q⟩ := ht.1
      obtain ⟨its2, v2, ⟨o, h1, h2, n, h3⟩, _⟩ := I.tuple q
      cases hx
      exact .cons (.tup h1 h2 h3 (by simpa using all_nums v2)) (all_Ws I ht.2 hr)
theorem all_Ss (I : Inv X pins σ H s) : ∀ {lk : List (List (List Int))} {xs : List V} {its : List Value}, A2 (BsAt X.K H) xs lk → Vals xs its → NestedAll s.heap (lk.map nkS) its
  | [], [], _, _, hv => by cases hv; exact .nil
  | r :: st, x :: xs, _, ht, hv => by
    cases hv with
    | cons hx hr =>
      obtain ⟨a, ys, rfl, q, t⟩ := ht.1
      obtain ⟨its2, v2, ⟨o, h1, h2, n, h3⟩, _⟩ := I.tuple q
      cases hx
      exact .cons (.tup h1 h2 h3 (by simpa using all_Ws I t v2)) (all_Ss I ht.2 hr)
theorem kk_is (I : Inv X pins σ H s) {a : Addr} : ∀ {k : KK}, KK.At X.K H a k → (nestedKind X.prog X.w).is s.heap k.nk a
  | .w ns, b => by
    obtain ⟨a', e, q⟩ := b
    cases e
    obtain ⟨its, v, ⟨o, h1, h2, n, h3⟩, _⟩ := I.tuple q
    exact ⟨.tup h1 h2 h3 (by simpa using all_nums v), dep_K (.w ns)⟩
  | .s st, b => by
    obtain ⟨a', xs, e, q, t⟩ := b
    cases e
    obtain ⟨its, v, ⟨o, h1, h2, n, h3⟩, _⟩ := I.tuple q
    exact ⟨.tup h1 h2 h3 (by simpa using all_Ws I t v), dep_K (.s st)⟩
  | .l lk, b => by
    obtain ⟨a', xs, e, q, t⟩ := b
    cases e
    obtain ⟨its, v, ⟨o, h1, h2, n, h3⟩, _⟩ := I.tuple q
    exact ⟨.tup h1 h2 h3 (by simpa using all_Ss I t v), dep_K (.l lk)⟩
end
/-- a value that reads in one way: what stands at an address, or a truth -/
inductive PV where
  | at_ (a : Addr)
  | bl (b : Bool)
def PV.v : PV → V
  | .at_ a => .ref a
  | .bl b => .bl b
def PV.u : PV → Value
  | .at_ a => .ref a
  | .bl b => .bool b
theorem pv_rel : ∀ p : PV, RelV p.v p.u
  | .at_ _ => rfl
  | .bl _ => rfl
theorem pv_of : ∀ {p : PV} {u : Value}, RelV p.v u → u = p.u
  | .at_ _, _, h => h
  | .bl _, _, h => h
abbrev GE := KK × Addr × PV
def rawG (x : GE) : NestedKey × Addr × Value := (x.1.nk, x.2.1, x.2.2.u)
def phiG (P : Program) (w : World) (d : Addr) (xs : List GE) (h : Heap) : Prop := (d == sysModules) = false ∧ xs.length ≤ sizeLine ∧ ((xs.map rawG).map (·.1)).Nodup ∧ ∃ o es ep, h.get? d = some o ∧ o.ExactDict ∧ o.data = .dict es ep ∧ es.toList = (xs.map rawG).map (entryOfKey (nestedKind P w))
theorem phiG_ok {P : Program} {w : World} {H : Hp} {d : Addr} {xs : List GE} {h : Heap} (p : phiG P w d xs h) : ObjOk P w H h d (.ext (phiG P w d xs)) := by
  refine ⟨p, ?_, fun h1 h2 p1 e => ?_⟩
  · obtain ⟨_, _, _, o, _, _, e, _⟩ := p
    exact ⟨o, e⟩
  · obtain ⟨a, b, c, o, es, ep, e1, r⟩ := p1
    exact ⟨a, b, c, o, es, ep, e _ e1, r⟩
def Ks (K : PySem.W.Frag) (H : Hp) (xs : List GE) : Prop := ∀ x ∈ xs, KK.At K H x.2.1 x.1
/-- the dict at d: keys, where they stand, the values -/
def DG (X : Cx) (H : Hp) (d : Addr) (xs : List GE) : Prop := Rd H d (.ext (phiG X.prog X.w d xs)) ∧ Ks X.K H xs
section
variable {X : Cx} {pins : List (Addr × Obj)} {σ : L2.St} {H : Hp} {s : Shared}
theorem DG.phi {d : Addr} {xs : List GE} (h : DG X H d xs) (I : Inv X pins σ H s) : phiG X.prog X.w d xs s.heap := by
  rcases h.1 with e | ⟨o, e⟩
  · exact (I.hok _ _ e).1
  · exact (I.hok _ _ e).2.1
theorem DG.of {d : Addr} {xs : List GE} (h : DG X H d xs) (I : Inv X pins σ H s) : Heap.DictOfH (nestedKind X.prog X.w) s.heap d (xs.map rawG) := by
  obtain ⟨_, _, nd, o, es, ep, e1, e2, e3, e4⟩ := h.phi I
  refine ⟨o, es, ep, e1, e2, e3, e4, fun x hx => ?_, nd⟩
  obtain ⟨y, hy, rfl⟩ := List.mem_map.mp hx
  exact kk_is I (h.2 y hy)
theorem atG_none {xs : List GE} {k : KK} (h : ∀ x ∈ xs, x.1.nk ≠ k.nk) : atKey (xs.map rawG) k.nk = none := by
  unfold atKey
  rw [List.find?_eq_none.mpr]
  · rfl
  · intro x hx
    obtain ⟨y, hy, rfl⟩ := List.mem_map.mp hx
    simp only [decide_eq_true_eq]
    exact fun e => h y hy e
theorem atG_some : ∀ {xs : List GE} {k : KK} {x : GE}, ((xs.map rawG).map (·.1)).Nodup → x ∈ xs → x.1.nk = k.nk → atKey (xs.map rawG) k.nk = some (x.2.1, x.2.2.u)
  | [], _, _, _, h, _ => by cases h
  | y :: xs, k, x, nd, h, e => by
    rw [List.map_cons, List.map_cons] at nd
    have nd := List.nodup_cons.mp nd
    unfold atKey
    rw [List.map_cons, List.find?_cons]
    rcases List.mem_cons.mp h with e' | m
    · subst e'
      rw [show decide ((rawG x).fst = k.nk) = true from decide_eq_true e]
      rfl
    · rw [show decide ((rawG y).fst = k.nk) = false from decide_eq_false fun q => nd.1 (by rw [q, ← e]; exact List.mem_map.mpr ⟨_, List.mem_map.mpr ⟨_, m, rfl⟩, rfl⟩)]
      exact atG_some nd.2 m e
end
section
variable {X : Cx} {pos : Pos}
/-- {} -/
def tDG (X : Cx) : TE := fun _ H Q => ∀ p, H p = none → Q (.ref p) (upd H p (.ext (phiG X.prog X.w p [])))
theorem pe_dnewG : PE X (.Dict [] [] pos) (tDG X) := by
  refine ⟨fun pins s σ H Q I h => ?_⟩
  refine wpAny_Dict_empty ?_
  have fr := I.fresh
  have big := I.big
  refine ⟨.ref s.heap.objs.size, _, I.laid (t' := s.toks) (o := .ext (phiG X.prog X.w s.heap.objs.size [])) (fun b u e => Heap.get?_push_of_some _ e) (Nat.le_refl _) (phiG_ok ?_), rfl, h _ fr⟩
  refine ⟨?_, Nat.zero_le _, List.nodup_nil, _, #[], 0, Heap.get?_push_size _ rfl, ⟨rfl, rfl, rfl⟩, rfl, rfl⟩
  rw [beq_eq_false_iff_ne]
  exact Nat.ne_of_gt big
/-- k in d, k not in d -/
def rInG (X : Cx) (neg : Bool) : R2 := fun x y H Q => ∃ (a d : Addr) (k : KK) (xs : List GE), x = .ref a ∧ y = .ref d ∧ KK.At X.K H a k ∧ DG X H d xs ∧ ((∃ e ∈ xs, e.1.nk = k.nk) → Q (.bl (!neg)) H) ∧ ((∀ e ∈ xs, e.1.nk ≠ k.nk) → Q (.bl neg) H)
theorem valG {xs : List GE} {k : KK} : valueAt (pairsH (xs.map rawG)) k.nk = (atKey (xs.map rawG) k.nk).map (·.2) := by
  unfold valueAt pairsH atKey
  rw [List.find?_map]
  simp [Function.comp_def]
theorem op_notInG (hu : X.A.units + 65 < cLine) : OpR X (compareOp .NotIn) (rInG X true) := by
  intro pins s σ H x y v u Q I rx ry h
  obtain ⟨a, d, k, xs, rfl, rfl, hb, hd, q1, q2⟩ := h
  cases rx
  cases ry
  have p := hd.phi I
  refine notIn_keyed (knd := nestedKind X.prog X.w) (k := k.nk) (kvs := pairsH (xs.map rawG)) (show X.A.units + 1 + 8 < cLine by omega) (kk_is I hb) p.1 ⟨_, hd.of I, rfl⟩ ?_
  rw [valG]
  by_cases h : ∃ e ∈ xs, e.1.nk = k.nk
  · obtain ⟨e, he, ek⟩ := h
    rw [atG_some p.2.2.1 he ek]
    exact ⟨.bl false, H, I.tok _, rfl, q1 ⟨_, he, ek⟩⟩
  · have h2 : ∀ e ∈ xs, e.1.nk ≠ k.nk := fun e he z => h ⟨e, he, z⟩
    rw [atG_none h2]
    exact ⟨.bl true, H, I.tok _, rfl, q2 h2⟩
theorem op_inG (hu : X.A.units + 65 < cLine) : OpR X (compareOp .In) (rInG X false) := by
  intro pins s σ H x y v u Q I rx ry h
  obtain ⟨a, d, k, xs, rfl, rfl, hb, hd, q1, q2⟩ := h
  cases rx
  cases ry
  have p := hd.phi I
  refine in_keyed (knd := nestedKind X.prog X.w) (k := k.nk) (kvs := pairsH (xs.map rawG)) (show X.A.units + 1 + 8 < cLine by omega) (kk_is I hb) p.1 ⟨_, hd.of I, rfl⟩ ?_
  rw [valG]
  by_cases h : ∃ e ∈ xs, e.1.nk = k.nk
  · obtain ⟨e, he, ek⟩ := h
    rw [atG_some p.2.2.1 he ek]
    exact ⟨.bl true, H, I.tok _, rfl, q1 ⟨_, he, ek⟩⟩
  · have h2 : ∀ e ∈ xs, e.1.nk ≠ k.nk := fun e he z => h ⟨e, he, z⟩
    rw [atG_none h2]
    exact ⟨.bl false, H, I.tok _, rfl, q2 h2⟩
/-- d[k] -/
def rIxG (X : Cx) : R2 := fun x y H Q => ∃ (a d : Addr) (k : KK) (xs : List GE) (e : GE), x = .ref d ∧ y = .ref a ∧ KK.At X.K H a k ∧ DG X H d xs ∧ e ∈ xs ∧ e.1.nk = k.nk ∧ Q e.2.2.v H
theorem ix_G (hu : X.A.units + 65 < cLine) : IxR X (rIxG X) := by
  intro value slice pins s σ H x y v u Q I rx ry h hs
  obtain ⟨a, d, k, xs, e, rfl, rfl, hb, hd, he, ek, q⟩ := h
  cases rx
  cases ry
  have p := hd.phi I
  have D := hd.of I
  exact tail_any D.typeIs slot_dict_getitem.lookup (wpAny_getItem_heap (knd := nestedKind X.prog X.w) (k := k.nk) (show X.A.units + 1 + 8 < cLine by omega) (kk_is I hb) D (atG_some p.2.2.1 he ek) ⟨e.2.2.v, H, I.tok _, pv_rel _, q⟩) hs
/-- d[k] = v: k new, or there with just this value -/
def rSetG (X : Cx) : TSet := fun o i v H Q => ∃ (a d : Addr) (b : PV) (k : KK) (xs : List GE), o = .ref d ∧ i = .ref a ∧ v = b.v ∧ KK.At X.K H a k ∧ DG X H d xs ∧ H d = some (.ext (phiG X.prog X.w d xs)) ∧ xs.length < sizeLine ∧
  ((∀ e ∈ xs, e.1.nk ≠ k.nk) → Q (upd H d (.ext (phiG X.prog X.w d (xs ++ [(k, a, b)]))))) ∧ (∀ e ∈ xs, e.1.nk = k.nk → Q (upd H d (.ext (phiG X.prog X.w d (xs.map fun x => if x.1.nk = k.nk then (x.1, x.2.1, b) else x)))))
theorem set_G (hu : X.A.units + 65 < cLine) : PSet X (rSetG X) := by
  intro pins s σ H o i v ov iv u Q I ro ri rv h
  obtain ⟨a, d, b, k, xs, rfl, rfl, rfl, hb, hd, hx, hz, q1, q2⟩ := h
  cases ro
  cases ri
  obtain rfl := pv_of rv
  have p := hd.phi I
  refine wpAny_setItem_heap (knd := nestedKind X.prog X.w) (k := k.nk) (xs := xs.map rawG) (show X.A.units + 1 + 8 < cLine by omega) (kk_is I hb) (hd.of I) (fun h' D' sb => ?_) (by rw [List.length_map]; exact p.2.1)
  have fin : ∀ (tk : Nat) (ys : List GE), Heap.DictOfH (nestedKind X.prog X.w) h' d (ys.map rawG) → ys.length ≤ sizeLine → Q (upd H d (.ext (phiG X.prog X.w d ys))) → ∃ H', Inv X pins σ H' { s with heap := h', toks := tk } ∧ Q H' := fun tk ys D' hl q => by
    obtain ⟨o, es, ep, e1, e2, e3, e4, e5, e6⟩ := D'
    exact ⟨_, I.write (x := d) (e := d) (o := .ext (phiG X.prog X.w d ys)) (by rw [hx]; trivial) (.inl rfl) (fun c u hc hg => by rw [sb.2 c hc]; exact hg) ⟨o, e1⟩ (phiG_ok ⟨p.1, hl, e6, o, es, ep, e1, e2, e3, e4⟩), q⟩
  by_cases h : ∃ e ∈ xs, e.1.nk = k.nk
  · obtain ⟨e, he, ek⟩ := h
    have es : storedH (xs.map rawG) k.nk a b.u = (xs.map fun x => if x.1.nk = k.nk then (x.1, x.2.1, b) else x).map rawG := by
      unfold storedH
      rw [atG_some p.2.2.1 he ek, if_pos (by simp), List.map_map, List.map_map]
      refine List.map_congr_left fun x _ => ?_
      show (if x.1.nk = k.nk then _ else _) = rawG (if x.1.nk = k.nk then _ else _)
      by_cases c : x.1.nk = k.nk
      · rw [if_pos c, if_pos c]
        rfl
      · rw [if_neg c, if_neg c]
    rw [es] at D'
    exact fin _ _ D' (by rw [List.length_map]; exact p.2.1) (q2 e he ek)
  · have hn : ∀ e ∈ xs, e.1.nk ≠ k.nk := fun e he z => h ⟨e, he, z⟩
    have es : storedH (xs.map rawG) k.nk a b.u = (xs ++ [(k, a, b)]).map rawG := by
      unfold storedH
      rw [atG_none hn, if_neg (by simp), List.map_append]
      rfl
    rw [es] at D'
    exact fin _ _ D' (by rw [List.length_append, List.length_singleton]; exact hz) (q1 hn)
end
end Sk

namespace Sk
open PySem PySem.Spec PyProof.Rows L2 Ow
/-! walks over the keys -/
def ItG (P : Program) (w : World) (d : Addr) (o : Obj) (xs : List GE) : It where
  go := fun i H => H d = some (.frz o (.ext (phiG P w d xs))) ∧ i < xs.length
  yld := fun i H x H' => H' = H ∧ ∃ e, xs[i]? = some e ∧ x = .ref e.2.1
  stop := fun i H => H d = some (.frz o (.ext (phiG P w d xs))) ∧ xs.length ≤ i
theorem walk_G {P : Program} {w : World} {d : Addr} {o : Obj} {xs : List GE} : Walk (ItG P w d o xs) xs.length (fun H => H d = some (.frz o (.ext (phiG P w d xs)))) (fun i H x H' => H' = H ∧ ∃ e, xs[i]? = some e ∧ x = .ref e.2.1) :=
  ⟨fun i H hi h => ⟨h, hi⟩, fun H h => ⟨h, Nat.le_refl _⟩, fun i H x H' _ _ y => y⟩
theorem rawG_of {X : Cx} {pins : List (Addr × Obj)} {σ : L2.St} {H : Hp} {s : Shared} {d : Addr} {o : Obj} {xs : List GE} (I : Inv X pins σ H s) (h : H d = some (.frz o (.ext (phiG X.prog X.w d xs)))) : (d == sysModules) = false ∧ ∃ es ep, s.heap.get? d = some o ∧ o.ExactDict ∧ o.data = .dict es ep ∧ es.size = xs.length ∧ es.toList = (xs.map rawG).map (entryOfKey (nestedKind X.prog X.w)) := by
  obtain ⟨e1, p, _⟩ := I.hok _ _ h
  obtain ⟨a, _, _, o', es, ep, g1, g2, g3, g4⟩ := p
  rw [e1] at g1
  cases g1
  refine ⟨a, es, ep, e1, g2, g3, ?_, g4⟩
  have := congrArg List.length g4
  simpa using this
theorem turn_G {P : Program} {w : World} {K : PySem.W.Frag} {tg : Expr} {d : Addr} {o : Obj} {es : Array DictEntry} {ep : Nat} {xs : List GE} (it : Addr) (hd : o.data = .dict es ep) : Turn P w K tg (ItG P w d o xs) [it] it (fun i h => h.IsKeyIter it d i xs.length ep ∧ i ≤ xs.length) := by
  have T0 := turn_keysT (P := P) (w := w) (K := K) (tg := tg) (d := d) (o := o) (es := es) (ep := ep) (kvs := xs.map fun _ => ([], V.non)) it hd
  rw [List.length_map] at T0
  refine ⟨T0.mem, fun i h t => T0.obj i h t.1, fun i h h' t k => ⟨T0.keep i h h' t.1 k, t.2⟩, ?_, ?_, fun A i s Q E t q => T0.self A i s Q E t.1 q⟩
  · rintro X rfl rfl rfl hc i pins s σ H E I hfp ⟨ht, hle⟩ ⟨hgo, hi⟩
    obtain ⟨sys, es', ep', g1, g2, g3, g4, g5⟩ := rawG_of I hgo
    rw [hd] at g3
    cases g3
    obtain ⟨f1, f2, f3, f4, f5, f6⟩ := hfp it (List.mem_singleton.mpr rfl)
    have ne : d ≠ it := fun z => by rw [z, f1] at hgo; cases hgo
    have W := Walks.rawKeys (prog := X.prog) (w := X.w) (A := X.A) (I.ok.hd hc) it d ne es ep
    rw [← g4] at ht
    refine W.item i s _ E (by rw [g4]; exact hi) ⟨ht, o, g1, g2, hd⟩ (fun v h' tk hv st hk => ?_)
    obtain ⟨hs, rfl⟩ := hv
    refine ⟨_, rfl, letGo_keyiter st.1 ?_⟩
    have hx : xs[i]? = some xs[i] := List.getElem?_eq_getElem hi
    have ek : es[i].key = Value.ref xs[i].2.1 := by
      have e1 : es.toList[i]? = some es[i] := by simp [hs]
      rw [g5, List.getElem?_map, List.getElem?_map, hx] at e1
      have := Option.some.inj e1
      rw [← this]
      rfl
    rw [ek]
    rw [g4] at st
    refine ⟨.ref xs[i].2.1, H, I.turned (it := it) (fun b u hb hu => hk b u (by simpa using hb) hu) f1 f2 f4 f5 f6, rfl, ⟨rfl, _, hx, rfl⟩, ⟨st.1, by omega⟩, fun b hb => by rw [List.mem_singleton.mp hb]; exact f1⟩
  · rintro X rfl rfl rfl hc i pins s σ H E I hfp ⟨ht, hle⟩ ⟨hgo, hi⟩
    obtain ⟨sys, es', ep', g1, g2, g3, g4, g5⟩ := rawG_of I hgo
    rw [hd] at g3
    cases g3
    obtain ⟨f1, f2, f3, f4, f5, f6⟩ := hfp it (List.mem_singleton.mpr rfl)
    have ne : d ≠ it := fun z => by rw [z, f1] at hgo; cases hgo
    have W := Walks.rawKeys (prog := X.prog) (w := X.w) (A := X.A) (I.ok.hd hc) it d ne es ep
    obtain rfl : i = xs.length := by omega
    rw [← g4] at ht
    refine W.done s _ E ⟨ht, o, g1, g2, hd⟩ (fun h' tk hk => ⟨rfl, ?_⟩)
    exact I.turned (it := it) (fun b u hb hu => hk b u (by simpa using hb) hu) f1 f2 f4 f5 f6
def iKeysG (X : Cx) (td : TE) : L2.TI := fun σ H R => td σ H fun x H1 => ∃ (d : Addr) (o : Obj) (xs : List GE), x = .ref d ∧ H1 d = some (.frz o (.ext (phiG X.prog X.w d xs))) ∧ R (ItG X.prog X.w d o xs) H1
theorem pi_keysG {X : Cx} {tg e : Expr} {td : TE} (he : PE X e td) : PI X tg e (iKeysG X td) := by
  refine ⟨fun pins s σ H R I h => ?_⟩
  refine thn (he.run pins s σ H _ I h) fun v s1 ⟨x, H1, I1, rx, d, o, xs, ex, hd, r⟩ => ?_
  subst ex
  cases rx
  obtain ⟨sys, es, ep, g1, g2, g3, g4, g5⟩ := rawG_of I1 hd
  refine wpAny_pyIter_dict_raw sys ⟨o, g1, g2, g3⟩ ?_
  refine pi_one I1 (tk := s1.toks) _ (turn_G _ g3) ?_ r
  exact ⟨⟨_, Heap.get?_push_size _ rfl, rfl, by rw [g4]; rfl⟩, Nat.zero_le _⟩
end Sk

namespace Sk
open PySem PySem.Spec PyProof.Rows L2 Ow
/-! {k: v}, list(d), len(d) -/
theorem vv1 {x y : V} {vs : List (Value × Value)} (h : VV [(x, y)] vs) : ∃ u w, vs = [(u, w)] ∧ RelV x u ∧ RelV y w := by
  cases h with
  | cons hx hr =>
    cases hr
    exact ⟨_, _, rfl, hx.1, hx.2⟩
def tDisp1G (X : Cx) (tk tv : TE) : TE := fun σ H Q => ∀ p, H p = none → tk σ (upd H p (.ext (phiG X.prog X.w p []))) fun x H1 => tv σ H1 fun y H2 => ∃ (a : Addr) (b : PV) (k : KK), [(x, y)] = [(V.ref a, b.v)] ∧ KK.At X.K H2 a k ∧ H2 p = some (.ext (phiG X.prog X.w p [])) ∧ Q (.ref p) (upd H2 p (.ext (phiG X.prog X.w p [(k, a, b)])))
theorem pe_disp1G {X : Cx} {k v : Expr} {tk tv : TE} {pos : Pos} (hu : X.A.units + 65 < cLine) (hk : PE X k tk) (hv : PE X v tv) : PE X (.Dict [some k] [v] pos) (tDisp1G X tk tv) := by
  refine ⟨fun pins s σ H Q I h => ?_⟩
  rw [arm_eval_Dict]
  have hz : ((evalEachOpt [some k] X.env).zip (List.map (fun v => do let x ← v; standAt pos; pure x) (evalEach [v] X.env))) = List.map (fun p : Sem Value × Sem Value => (some p.1, p.2)) (pairTrees [some k] [v] X.env pos) := by rfl
  rw [hz, dictDisplay_pairs (pairTrees [some k] [v] X.env pos) (by intro z; cases z) (show 1 < 17 by decide)]
  have fr := I.fresh
  have big := I.big
  have sys : (s.heap.objs.size == sysModules) = false := by
    rw [beq_eq_false_iff_ne]
    exact Nat.ne_of_gt big
  refine wpAny_bind (wpAny_standAt ?_)
  refine wpAny_bind (wpAny_subDictH (knd := nestedKind X.prog X.w) (show X.A.units + 8 < cLine by omega) (show 1 ≤ 15 by decide) ?_)
  have I1 := I.laid (t' := s.toks) (h' := s.heap.push { cls := .type "dict", data := .dict #[] }) (o := .ext (phiG X.prog X.w s.heap.objs.size [])) (fun b u e => Heap.get?_push_of_some _ e) (Nat.le_refl _) (phiG_ok ⟨sys, Nat.zero_le _, List.nodup_nil, _, #[], 0, Heap.get?_push_size _ rfl, ⟨rfl, rfl, rfl⟩, rfl, rfl⟩)
  refine thn ((pps_cons hk hv pps_nil : PPs X pos [some k] [v] [(tk, tv)]).run pins _ σ _ (fun ps H2 => ∃ (a : Addr) (b : PV) (k : KK), ps = [(V.ref a, b.v)] ∧ KK.At X.K H2 a k ∧ H2 s.heap.objs.size = some (.ext (phiG X.prog X.w s.heap.objs.size [])) ∧ Q (.ref s.heap.objs.size) (upd H2 s.heap.objs.size (.ext (phiG X.prog X.w s.heap.objs.size [(k, a, b)])))) I1 (h _ fr)) fun vs s1 ⟨ps, H2, I2, vv, a, b, k, e, hb, hp, q⟩ => ?_
  subst e
  obtain ⟨kv, v2, rfl, r1, r2⟩ := vv1 vv
  cases r1
  obtain rfl := pv_of r2
  have D : DG X H2 s.heap.objs.size [] := ⟨.inl hp, fun x hx => by cases hx⟩
  refine ⟨[(k.nk, a, b.u)], ⟨rfl, rfl, kk_is I2 hb, trivial⟩, D.of I2, fun h' tk D' sb => ?_⟩
  have e : storedAllH [] [(k.nk, a, b.u)] = [(k, a, b)].map rawG := rfl
  rw [e] at D'
  obtain ⟨o, es, ep, e1, e2, e3, e4, e5, e6⟩ := D'
  refine wpAny_pure ?_
  exact ⟨.ref s.heap.objs.size, _, I2.write (x := s.heap.objs.size) (e := s.heap.objs.size) (o := .ext (phiG X.prog X.w s.heap.objs.size [(k, a, b)])) (by rw [hp]; trivial) (.inl rfl) (fun c u hc hg => by rw [sb.2 c hc]; exact hg) ⟨o, e1⟩ (phiG_ok ⟨sys, by show 1 ≤ sizeLine; decide, e6, o, es, ep, e1, e2, e3, e4⟩), rfl, q⟩
/-- the same, program and world by name -/
def tDisp1P (P : Program) (Wo : World) (K : PySem.W.Frag) (tk tv : TE) : TE := fun σ H Q => ∀ p, H p = none → tk σ (upd H p (.ext (phiG P Wo p []))) fun x H1 => tv σ H1 fun y H2 => ∃ (a : Addr) (b : PV) (k : KK), [(x, y)] = [(V.ref a, b.v)] ∧ KK.At K H2 a k ∧ H2 p = some (.ext (phiG P Wo p [])) ∧ Q (.ref p) (upd H2 p (.ext (phiG P Wo p [(k, a, b)])))
theorem pe_disp1P {X : Cx} {k v : Expr} {tk tv : TE} {pos : Pos} (P : Program) (Wo : World) (hP : X.prog = P) (hW : X.w = Wo) (hu : X.A.units + 65 < cLine) (hk : PE X k tk) (hv : PE X v tv) : PE X (.Dict [some k] [v] pos) (tDisp1P P Wo X.K tk tv) := by
  subst hP
  subst hW
  exact pe_disp1G hu hk hv
def rLenG (X : Cx) : List V → Hp → VK → Prop := fun xs H Q => ∃ (d : Addr) (es : List GE), xs = [.ref d] ∧ DG X H d es ∧ Q (.int ((es.length : Nat) : Int)) H
theorem call_lenG {X : Cx} : CallR X (.builtin "len") (rLenG X) := by
  intro pins s σ H xs us Q I r h
  obtain ⟨p, es, rfl, hp, q⟩ := h
  obtain ⟨u, rfl, rx⟩ := vals1 r
  obtain rfl : u = .ref p := rx
  obtain ⟨sys, hz, _⟩ := hp.phi I
  have ln : (es.map rawG).length = es.length := List.length_map _
  refine call_len_dictH sys (hp.of I) (by rw [ln]; rw [sizeLine_eq] at hz; omega) ?_
  rw [ln]
  exact ⟨.int ((es.length : Nat) : Int), H, I.tok _, ⟨_, rfl⟩, q⟩
def rListG (X : Cx) : List V → Hp → VK → Prop := fun xs H Q => ∃ (d : Addr) (es : List GE), xs = [.ref d] ∧ DG X H d es ∧ ∀ p, H p = none → Q (.ref p) (upd H p (.lst (es.map fun e => .ref e.2.1)))
theorem call_listG {X : Cx} (hc : X.calm = true) : CallR X (.type "list") (rListG X) := by
  intro pins s σ H xs us Q I r h
  obtain ⟨d, ks, rfl, hd, q⟩ := h
  obtain ⟨u, rfl, rx⟩ := r.one
  cases rx
  obtain ⟨hs, hz, nd, o, es, ep, ho, hx, hdt, he⟩ := hd.phi I
  have l1 : es.size = ks.length := by
    have := congrArg List.length he
    simpa using this
  refine PySem.W.kdl_call (kdl_raw hs hx hdt) (I.ok.hd hc) ho (by omega) fun h' tk acc' c' kp e it => ?_
  have ea : acc'.toList = ks.map fun x => Value.ref x.2.1 := by
    have hl : acc'.toList.length = ks.length := by rw [Array.length_toList, it.1]; exact l1
    apply List.ext_getElem?
    intro j
    rw [List.getElem?_map]
    cases hj : acc'.toList[j]? with
    | none =>
      have h1 := List.getElem?_eq_none_iff.mp hj
      rw [List.getElem?_eq_none (by omega)]
      all_goals rfl
    | some v =>
      obtain ⟨en, hen, hv⟩ := it.2 j v (by rw [← Array.getElem?_toList]; exact hj)
      have e1 : es.toList[j]? = some en := by rw [Array.getElem?_toList]; exact hen
      rw [he, List.getElem?_map, List.getElem?_map] at e1
      cases hb : ks[j]? with
      | none =>
        rw [hb] at e1
        exact nomatch e1
      | some b =>
        rw [hb] at e1
        have e2 := Option.some.inj e1
        rw [hv, ← e2]
        all_goals rfl
  have rv : Vals (ks.map fun x => V.ref x.2.1) acc'.toList := by
    rw [ea]
    have := vals_refs (ks.map fun x => x.2.1)
    rw [List.map_map, List.map_map] at this
    exact this
  refine ⟨.ref s.heap.objs.size, _, I.laid (t' := tk) (o := .lst (ks.map fun x => V.ref x.2.1)) kp (Nat.le_refl _) ?_, rfl, q _ (I.hok.fresh (Nat.le_refl _))⟩
  exact ⟨by rw [List.length_map]; omega, acc'.toList, c', rv, by rw [Array.toArray_toList]; exact e⟩
/-! what survives a change of such a dict -/
def IsE (u : HO) : Prop := (∃ φ, u = .ext φ) ∨ ∃ o φ, u = .frz o (.ext φ)
section
variable {K : PySem.W.Frag} {D : Addr} {H H' : Hp} {u : HO}
theorem offE_sq {a : Addr} {xs : List V} (o : Off D H H') (hD : H D = some u) (e : IsE u) (h : SqT K H a xs) : SqT K H' a xs := by
  have ne : ∀ z, H a = some z → (∀ φ, z ≠ .ext φ) → (∀ o φ, z ≠ .frz o (.ext φ)) → a ≠ D := fun z hz n1 n2 w => by
    rw [w, hD] at hz
    rcases e with ⟨φ, rfl⟩ | ⟨o, φ, rfl⟩
    · exact n1 φ (Option.some.inj hz).symm
    · exact n2 o φ (Option.some.inj hz).symm
  rcases h with (h | ⟨f, h⟩) | h
  · exact .inl (.inl (o a _ (ne _ h (fun _ z => nomatch z) (fun _ _ z => nomatch z)) h))
  · exact .inl (.inr ⟨f, o a _ (ne _ h (fun _ z => nomatch z) (fun _ _ z => nomatch z)) h⟩)
  · exact .inr h
theorem offE_ti {v : V} {ns : List Int} (o : Off D H H') (hD : H D = some u) (e : IsE u) (h : TI K H v ns) : TI K H' v ns := h.elim fun a ⟨z, q⟩ => ⟨a, z, offE_sq o hD e q⟩
theorem offE_tis (o : Off D H H') (hD : H D = some u) (e : IsE u) : ∀ {xs : List V} {ns : List (List Int)}, TIs K H xs ns → TIs K H' xs ns
  | [], [], _ => trivial
  | _ :: _, _ :: _, h => ⟨offE_ti o hD e h.1, offE_tis o hD e h.2⟩
theorem offE_bs {v : V} {bs : List (List Int)} (o : Off D H H') (hD : H D = some u) (e : IsE u) (h : BsAt K H v bs) : BsAt K H' v bs := h.elim fun a ⟨xs, z, q, t⟩ => ⟨a, xs, z, offE_sq o hD e q, offE_tis o hD e t⟩
theorem offE_lk {v : V} {lk : List (List (List Int))} (o : Off D H H') (hD : H D = some u) (e : IsE u) (h : LkAt K H v lk) : LkAt K H' v lk := h.elim fun a ⟨xs, z, q, t⟩ => ⟨a, xs, z, offE_sq o hD e q, t.imp fun _ _ w => offE_bs o hD e w⟩
theorem offE_kk {a : Addr} {k : KK} (o : Off D H H') (hD : H D = some u) (e : IsE u) (h : KK.At K H a k) : KK.At K H' a k := by
  cases k with
  | w ns => exact offE_ti o hD e h
  | s st => exact offE_bs o hD e h
  | l lk => exact offE_lk o hD e h
end
end Sk

namespace SL
open PySem PySem.Spec PyProof.Rows SrtO L2
abbrev LK := Int × List Int
/-- x before y: by the number, then by the whole numbers behind it -/
def lwB (p q : LK) : Bool := if p.1 = q.1 then HT.lexLt p.2 q.2 else decide (p.1 < q.1)
theorem lex_asym : ∀ a b : List Int, HT.lexLt a b = true → HT.lexLt b a = false
  | [], [], h => by cases h
  | [], _ :: _, _ => rfl
  | _ :: _, [], h => by cases h
  | x :: a, y :: b, h => by
    rw [HT.lexLt_cons] at h ⊢
    by_cases e : x = y
    · rw [if_pos e] at h
      rw [if_pos e.symm]
      exact lex_asym a b h
    · rw [if_neg e] at h
      rw [if_neg (Ne.symm e)]
      have := of_decide_eq_true h
      exact decide_eq_false (by omega)
theorem lex_tr : ∀ a b c : List Int, HT.lexLt b a = false → HT.lexLt c b = false → HT.lexLt c a = false
  | [], [], [], _, _ => rfl
  | [], [], _ :: _, _, _ => rfl
  | [], _ :: _, [], _, h => by cases h
  | [], _ :: _, _ :: _, _, _ => rfl
  | _ :: _, [], _, h, _ => by cases h
  | _ :: _, _ :: _, [], _, h => by cases h
  | x :: a, y :: b, z :: c, h1, h2 => by
    rw [HT.lexLt_cons] at h1 h2 ⊢
    by_cases e1 : y = x
    · by_cases e2 : z = y
      · rw [if_pos e1] at h1
        rw [if_pos e2] at h2
        rw [if_pos (e2.trans e1)]
        exact lex_tr a b c h1 h2
      · rw [if_neg e2] at h2
        have := of_decide_eq_false h2
        rw [if_neg (by omega)]
        exact decide_eq_false (by omega)
    · rw [if_neg e1] at h1
      have g1 := of_decide_eq_false h1
      by_cases e2 : z = y
      · rw [if_neg (by omega)]
        exact decide_eq_false (by omega)
      · rw [if_neg e2] at h2
        have g2 := of_decide_eq_false h2
        rw [if_neg (by omega)]
        exact decide_eq_false (by omega)
theorem lw_swo {α : Type} (k : α → LK) : Swo fun v u => lwB (k v) (k u) := by
  refine ⟨fun x y h => ?_, fun x y z h1 h2 => ?_⟩
  · unfold lwB at h ⊢
    by_cases e : (k x).1 = (k y).1
    · rw [if_pos e] at h
      rw [if_pos e.symm]
      exact lex_asym _ _ h
    · rw [if_neg e] at h
      rw [if_neg (Ne.symm e)]
      have := of_decide_eq_true h
      exact decide_eq_false (by omega)
  · unfold lwB at h1 h2 ⊢
    by_cases e1 : (k y).1 = (k x).1
    · by_cases e2 : (k z).1 = (k y).1
      · rw [if_pos e1] at h1
        rw [if_pos e2] at h2
        rw [if_pos (e2.trans e1)]
        exact lex_tr _ _ _ h1 h2
      · rw [if_neg e2] at h2
        have := of_decide_eq_false h2
        rw [if_neg (by omega)]
        exact decide_eq_false (by omega)
    · rw [if_neg e1] at h1
      have g1 := of_decide_eq_false h1
      by_cases e2 : (k z).1 = (k y).1
      · rw [if_neg (by omega)]
        exact decide_eq_false (by omega)
      · rw [if_neg e2] at h2
        have g2 := of_decide_eq_false h2
        rw [if_neg (by omega)]
        exact decide_eq_false (by omega)
theorem lex_eq : ∀ a b : List Int, HT.lexLt a b = false → HT.lexLt b a = false → a = b
  | [], [], _, _ => rfl
  | [], _ :: _, h, _ => by cases h
  | _ :: _, [], _, h => by cases h
  | x :: a, y :: b, h1, h2 => by
    rw [HT.lexLt_cons] at h1 h2
    by_cases e : x = y
    · rw [if_pos e] at h1
      rw [if_pos e.symm] at h2
      rw [e, lex_eq a b h1 h2]
    · rw [if_neg e] at h1
      rw [if_neg (Ne.symm e)] at h2
      have := of_decide_eq_false h1
      have := of_decide_eq_false h2
      omega
theorem lw_eq {p q : LK} (h1 : lwB p q = false) (h2 : lwB q p = false) : p = q := by
  unfold lwB at h1 h2
  by_cases e : p.1 = q.1
  · rw [if_pos e] at h1
    rw [if_pos e.symm] at h2
    exact Prod.ext e (lex_eq _ _ h1 h2)
  · rw [if_neg e] at h1
    rw [if_neg (Ne.symm e)] at h2
    have := of_decide_eq_false h1
    have := of_decide_eq_false h2
    omega
/-- two sorted lists of the same items are one -/
theorem lw_uniq {a b : List LK} (h1 : a.Pairwise fun x y => lwB y x = false) (h2 : b.Pairwise fun x y => lwB y x = false) (p : a.Perm b) : a = b :=
  List.Perm.eq_of_pairwise (le := fun x y => lwB y x = false) (fun _ _ _ _ h k => lw_eq k h) h1 h2 p
def IsLW (h : Heap) (v : Value) (k : LK) : Prop := ∃ (a : Addr) (o : Obj) (t : Tok) (b : Addr) (ob : Obj) (its : List Value) (n m : Nat), v = .ref a ∧ h.get? a = some o ∧ o.cls = .type "tuple" ∧ o.data = .seq #[.int k.1 t, .ref b] n ∧
  h.get? b = some ob ∧ ob.cls = .type "tuple" ∧ ob.data = .seq its.toArray m ∧ IntsAre its k.2
theorem IsLW.keeps {h h' : Heap} {v : Value} {k : LK} (p : IsLW h v k) (f : ∀ b o, h.get? b = some o → o.cls = .type "tuple" → h'.get? b = some o) : IsLW h' v k := by
  obtain ⟨a, o, t, b, ob, its, n, m, e, ho, hc, hd, hb, hbc, hbd, hi⟩ := p
  exact ⟨a, o, t, b, ob, its, n, m, e, f _ _ ho hc, hc, hd, f _ _ hb hbc, hbc, hbd, hi⟩
theorem ints_det : ∀ {us : List Value} {ns ms : List Int}, IntsAre us ns → IntsAre us ms → ns = ms := by
  intro us ns ms h
  induction h generalizing ms with
  | nil =>
    intro k
    cases k
    rfl
  | cons _ _ _ ih =>
    intro k
    cases k with
    | cons _ _ k => rw [ih k]
theorem ints_reads {h : Heap} : ∀ {us : List Value} {ns : List Int}, IntsAre us ns → ReadsAll h us (ns.map PyData.int) [] := by
  intro us ns k
  induction k with
  | nil => exact ReadsAll.nil
  | cons _ _ _ ih => exact ReadsAll.cons (Reads.int _ _) ih
theorem IsLW.det {h : Heap} {v : Value} {k l : LK} (p : IsLW h v k) (q : IsLW h v l) : k = l := by
  obtain ⟨a, o, t, b, ob, its, n, m, e, ho, hc, hd, hb, hbc, hbd, hi⟩ := p
  obtain ⟨a', o', t', b', ob', its', n', m', e', ho', hc', hd', hb', hbc', hbd', hi'⟩ := q
  subst e
  cases e'
  rw [ho] at ho'
  cases ho'
  rw [hd] at hd'
  injection hd' with g1 g2
  have g3 := Array.toList_inj.mpr g1
  injection g3 with g4 g5
  injection g4 with g6 _
  injection g5 with g7 _
  injection g7 with g8
  subst g8
  rw [hb] at hb'
  cases hb'
  rw [hbd] at hbd'
  injection hbd' with h4 _
  have h4 := Array.toList_inj.mpr h4
  have h4 : its = its' := h4
  subst h4
  exact Prod.ext g6 (ints_det hi hi')
noncomputable def kf (h : Heap) (v : Value) : LK := open Classical in if e : ∃ k, IsLW h v k then Classical.choose e else (0, [])
theorem kf_eq {h : Heap} {v : Value} {k : LK} (p : IsLW h v k) : kf h v = k := by
  have e : ∃ k, IsLW h v k := ⟨k, p⟩
  unfold kf
  rw [dif_pos e]
  exact (Classical.choose_spec e).det p
section
variable {prog : Program} {w : World} {A : Around} {E : Value → Shared → Prop} {s : Shared}
theorem lw_cmp {vs : List Value} {k : Value → LK} (hu : A.units + 64 < cLine) (hp : ∀ v ∈ vs, IsLW s.heap v (k v)) : Cmp prog w A s (tuples' true) (fun p => p.1 ∈ vs) (lt2 fun v u => lwB (k v) (k u)) := by
  intro p q hm hm'
  have h1 := hp _ hm
  have h2 := hp _ hm'
  show wpAny (model prog w) A (keyLt' (tuples' true) p.1 q.1) (fun r s' => s' = s ∧ r = lwB (k p.1) (k q.1)) (fun _ _ => False) s
  unfold lwB
  generalize k p.1 = K1 at *
  generalize k q.1 = K2 at *
  obtain ⟨x, ns⟩ := K1
  obtain ⟨x', ms⟩ := K2
  obtain ⟨a, o, t, b, ob, its, n, m, e, ho, hc, hd, hb, hbc, hbd, hi⟩ := h1
  obtain ⟨a', o', t', b', ob', its', n', m', e', ho', hc', hd', hb', hbc', hbd', hi'⟩ := h2
  rw [e, e']
  dsimp only at hi hi' hd hd' ⊢
  refine PySem.W.kat_lt ho hd ho' hd' ?_
  show PySem.W.KatLex prog w A true (decide (2 < 2)) _ [(.int x t, .int x' t'), (.ref b, .ref b')] 0 s
  refine PySem.W.kat_cons (SeqAt.EqAt.int_int x t x' t' prog w _ _ ?_)
  refine PySem.W.kat_go (fun e1 => ?_) (fun e1 => ?_)
  · have ex : x = x' := by simpa using e1
    have r1 : Reads s.heap (.ref b) (Sk.dT ns) _ := Reads.tuple hb hbc hbd (ints_reads hi)
    have r2 : Reads s.heap (.ref b') (Sk.dT ms) _ := Reads.tuple hb' hbc' hbd' (ints_reads hi')
    have lay : ∀ l : List Int, (Sk.dT l).canLay0 = true := fun l => by simp [Sk.dT, PyData.canLay0, Sk.lay_ints]
    have dep : ∀ l : List Int, (Sk.dT l).depth ≤ 5 := fun l => by have := Sk.dep_ints l; simp [Sk.dT, PyData.depth]; omega
    have d1 := dep ns
    refine PySem.W.kat_yes (PySem.W.kat_cons (SeqAt.eqAt_reads (Sk.dT ns) (Sk.dT ms) A s (.ref b) (.ref b') _ _ r1 r2 (lay _) (lay _) (by omega) prog w _ _ ?_))
    rw [if_pos ex]
    refine PySem.W.kat_go (fun e2 => ?_) (fun e2 => ?_)
    · rw [Sk.eqv_dT] at e2
      have en : ns = ms := of_decide_eq_true e2
      have e3 : HT.lexLt ns ms = false := by
        rw [en]
        rcases bcase (HT.lexLt ms ms) with h | h
        · exact lex_asym _ _ h
        · exact h
      exact PySem.W.kat_yes (PySem.W.kat_nil ⟨rfl, e3.symm⟩)
    · refine PySem.W.kat_no (PySem.W.kat_one _ _ (HT.lt_tupInts (items := its.toArray) (items2 := its'.toArray) ⟨ob, hb, hbc, m, hbd⟩ ⟨ob', hb', hbc', m', hbd'⟩ hi hi' (by omega) ?_))
      exact (show s = s ∧ HT.lexLt ns ms = HT.lexLt ns ms from ⟨rfl, rfl⟩)
  · have ex : ¬ x = x' := by simpa using e1
    rw [if_neg ex]
    exact PySem.W.kat_no (oneLt_int ⟨rfl, rfl⟩)
theorem lw_firsts {h : Heap} : ∀ {vs : List Value}, (∀ v ∈ vs, ∃ k, IsLW h v k) → ∃ fs : List Value, PySem.W.KatTups h vs fs ∧ fs.length = vs.length ∧ ∀ f ∈ fs, ∃ x t, f = Value.int x t
  | [], _ => ⟨[], PySem.W.KatTups.nil, rfl, fun _ hm => by simp at hm⟩
  | v :: vs, hp => by
    obtain ⟨fs, h1, h2, h3⟩ := lw_firsts (vs := vs) fun v' hm => hp v' (List.mem_cons_of_mem _ hm)
    obtain ⟨k, a, o, t, b, ob, its, n, m, e, ho, hc, hd, _⟩ := hp v (List.mem_cons_self ..)
    subst e
    refine ⟨.int k.1 t :: fs, PySem.W.KatTups.cons ho hc hd rfl h1, by rw [List.length_cons, List.length_cons, h2], fun f hm => ?_⟩
    rcases List.mem_cons.mp hm with rfl | hm
    · exact ⟨_, t, rfl⟩
    · exact h3 f hm
theorem lw_sortable {a : Addr} {vs : List Value} {k : Value → LK} (hu : A.units + 64 < cLine) (h0 : 0 < vs.length) (hp : ∀ v ∈ vs, IsLW s.heap v (k v)) (ha : ∀ o, s.heap.get? a = some o → o.cls ≠ .type "tuple") : SortableO prog w A s a vs fun v u => lwB (k v) (k u) := by
  intro h' keep
  have hp' : ∀ v ∈ vs, IsLW h' v (k v) := fun v hm => (hp v hm).keeps fun b o e c => keep b o (fun z => by subst z; exact ha o e c) e
  obtain ⟨fs, h1, h2, h3⟩ := lw_firsts fun v hm => ⟨_, hp' v hm⟩
  refine ⟨tuples' true, fun Q E hq => ?_, lw_cmp hu hp'⟩
  refine PySem.W.kat_kind (T := .type "int") h1 (by omega) (fun f hm => ?_) (by rfl) ?_
  · obtain ⟨x, t, rfl⟩ := h3 f hm
    exact PySem.W.Looks.now
  · have e : (Value.type "int" != Value.type "tuple") = true := by first | decide +kernel | rfl | decide
    rw [e]
    exact hq
theorem sorted_lw {l : Addr} {vs : List Value} {k : Value → LK} {Q : Value → Shared → Prop} (hu : A.units + 66 < cLine) (hl : s.heap.IsList l vs.toArray) (hz : vs.length ≤ sizeLine) (hp : ∀ v ∈ vs, IsLW s.heap v (k v))
    (h : ∀ (h' : Heap) (d : Addr) (out : List Value), Srtd (fun v u => lwB (k v) (k u)) out → Stb (fun v u => lwB (k v) (k u)) out vs → (∀ b o, s.heap.get? b = some o → h'.get? b = some o) → s.heap.objs.size ≤ d → (∃ n, h'.get? d = some (seqObj "list" out.toArray n)) → Q (.ref d) { s with heap := h' }) :
    wpAny (model prog w) A (call (.builtin "sorted") [.ref l]) Q E s := by
  refine sorted_ord (lw_swo k) hl hz (fun h2 h₁ a ha kk => ?_) fun out hs hb => ?_
  · refine lw_sortable (s := { s with heap := h₁ }) (A := A.in1.in1) (show A.units + 1 + 1 + 64 < cLine by omega) (by omega) (fun v hm => (hp v hm).keeps fun b o e _ => (kk b o e).2) fun o e => ?_
    have e' : some o = some (seqObj "list" vs.toArray 0) := e.symm.trans ha
    cases e'
    intro c
    exact absurd (Value.type.inj c) (by decide)
  · exact h _ _ out hs hb (fun b o e => sortedAll_old e) (Nat.le_succ _) (sortedAll_at s.heap vs out.toArray)
end
/-- a pair of a whole number and a tuple of whole numbers -/
def LWv (K : PySem.W.Frag) (H : Hp) (v : V) (k : LK) : Prop := ∃ q b, v = .ref q ∧ SqT K H q [.int k.1, .ref b] ∧ SqT K H b (k.2.map V.int)
def rSortLW (K : PySem.W.Frag) : List V → Hp → VK → Prop := fun vs H Q => ∃ (a : Addr) (xs : List V) (ks : List LK), vs = [V.ref a] ∧ SqL K H a xs ∧ Sk.A2 (LWv K H) xs ks ∧
  ∀ (ys : List V) (ms : List LK) (p : Addr), Sk.A2 (LWv K H) ys ms → ms.Perm ks → (ms.Pairwise fun x y => lwB y x = false) → H p = none → Q (.ref p) (upd H p (.lst ys))
section
variable {X : Cx}
theorem lw_all {pins : List (Addr × Obj)} {σ : L2.St} {H : Hp} {s : Shared} (I : Inv X pins σ H s) : ∀ {its : List Value} {xs : List V} {ks : List LK}, Vals xs its → Sk.A2 (LWv X.K H) xs ks → (∀ u ∈ its, ∃ a, u = Value.ref a) ∧ xs = its.map backV ∧ ks = its.map (kf s.heap) ∧ (∀ u ∈ its, IsLW s.heap u (kf s.heap u)) ∧ ∀ u ∈ its, LWv X.K H (backV u) (kf s.heap u)
  | [], [], [], _, _ => ⟨fun _ h => (by cases h), rfl, rfl, fun _ h => (by cases h), fun _ h => (by cases h)⟩
  | u :: its, x :: xs, k :: ks, .cons r rs, ⟨⟨q, b, e, hq, hb⟩, hs⟩ => by
    obtain ⟨i1, i2, i3, i4, i5⟩ := lw_all I rs hs
    subst e
    cases r
    obtain ⟨jts, r1, ⟨o, ho, hc, n, hd⟩, _⟩ := I.tuple hq
    obtain ⟨jts2, r2, ⟨ob, hob, hbc, m, hbd⟩, _⟩ := I.tuple hb
    obtain ⟨u1, u2, rfl, ri, rj⟩ := vals2 r1
    obtain ⟨t1, rfl⟩ := ri
    obtain rfl : u2 = .ref b := rj
    have lw : IsLW s.heap (.ref q) k := ⟨q, o, t1, b, ob, jts2, n, m, rfl, ho, hc, hd, hob, hbc, hbd, intsAre_of r2⟩
    have ek := kf_eq lw
    refine ⟨fun u hu => ?_, by rw [List.map_cons, ← i2]; rfl, by rw [List.map_cons, ← i3, ek], fun u hu => ?_, fun u hu => ?_⟩
    · rcases List.mem_cons.mp hu with rfl | hu
      · exact ⟨q, rfl⟩
      · exact i1 u hu
    · rcases List.mem_cons.mp hu with rfl | hu
      · rw [ek]
        exact lw
      · exact i4 u hu
    · rcases List.mem_cons.mp hu with rfl | hu
      · rw [ek]
        exact ⟨q, b, rfl, hq, hb⟩
      · exact i5 u hu
theorem a2_map {R : V → LK → Prop} {f : Value → V} {g : Value → LK} : ∀ {l : List Value}, (∀ u ∈ l, R (f u) (g u)) → Sk.A2 R (l.map f) (l.map g)
  | [], _ => trivial
  | u :: l, h => ⟨h u (by simp), a2_map fun v hv => h v (by simp [hv])⟩
theorem cr_sortLW (hu : X.A.units + 66 < cLine) : CallR X (.builtin "sorted") (rSortLW X.K) := by
  intro pins s σ H vs us Q I r h
  obtain ⟨a, xs, ks, rfl, hs, hx, q⟩ := h
  obtain ⟨its, rv, hl, hz⟩ := I.list hs
  obtain ⟨u, rfl, ru⟩ := vals1 r
  obtain rfl : u = Value.ref a := ru
  obtain ⟨i1, i2, i3, i4, i5⟩ := lw_all I rv hx
  refine sorted_lw (k := kf s.heap) hu hl.isList (by rw [← rv.length]; exact hz) i4 fun h' d out h1 h2 kp hd hn => ?_
  have mem : ∀ u ∈ out, u ∈ its := fun u hu => h2.perm.mem_iff.mp hu
  have h3 : ∀ u ∈ out, ∃ a, u = Value.ref a := fun u hu => i1 u (mem u hu)
  obtain ⟨n, hn⟩ := hn
  refine ⟨.ref d, upd H d (.lst (out.map backV)), I.laid (t' := s.toks) kp hd ⟨?_, out, n, vals_back h3, hn⟩, rfl, q _ (out.map (kf s.heap)) d (a2_map fun u hu => i5 u (mem u hu)) (by rw [i3]; exact h2.perm.map _) (List.pairwise_map.mpr h1) (I.hok.fresh hd)⟩
  rw [List.length_map, h2.perm.length_eq, ← rv.length]
  exact hz
end
end SL

namespace Sk
open PySem L2 Ow
/-! the lot of states under a word -/
open Classical in
noncomputable def nfc (n : Nat) (bs : List (List Int)) (v : List Nat) : List Nat := if h : ∃ us, Rt.Nf n (mB bs) v us then Classical.choose h else []
theorem nfc_nf {n : Nat} {bs : List (List Int)} (va : Valid n bs) {v : List Nat} (hv : Rt.In n v) : Rt.Nf n (mB bs) v (nfc n bs v) := by
  obtain ⟨us, h, _⟩ := nf_all va hv
  have e : ∃ us, Rt.Nf n (mB bs) v us := ⟨us, h⟩
  unfold nfc
  rw [dif_pos e]
  exact Classical.choose_spec e
def codeW (u : List Nat) : SL.LK := ((u.length : Nat), castW u)
theorem codeW_inj {a b : List Nat} (h : codeW a = codeW b) : a = b := castW_inj (congrArg Prod.snd h)
structure UL (n : Nat) (bs : List (List Int)) (w : List Nat) (us : List (List Nat)) : Prop where
  so : us.Pairwise fun x y => SL.lwB (codeW y) (codeW x) = false
  nd : us.Nodup
  me : ∀ x, x ∈ us ↔ NW n bs x ∧ Und n bs x w
theorem sorted_uniq {us vs : List (List Nat)} (h : us.Pairwise fun x y => SL.lwB (codeW y) (codeW x) = false) (k : vs.Pairwise fun x y => SL.lwB (codeW y) (codeW x) = false) (p : us.Perm vs) : us = vs :=
  (List.map_inj_right (f := codeW) fun _ _ e => codeW_inj e).mp (SL.lw_uniq (List.pairwise_map.mpr h) (List.pairwise_map.mpr k) (p.map codeW))
theorem UL.uniq {n : Nat} {bs : List (List Int)} {w : List Nat} {us vs : List (List Nat)} (h : UL n bs w us) (k : UL n bs w vs) : us = vs :=
  sorted_uniq h.so k.so ((List.perm_ext_iff_of_nodup h.nd k.nd).mpr fun x => (h.me x).trans (k.me x).symm)
section
variable {S : List Nat → List (List Int)}
structure LotOk (S : List Nat → List (List Int)) (x : List Nat) (vs : List (List Nat)) : Prop where
  sub : ∀ v ∈ vs, v.Sublist x
  all : ∀ y, y.Sublist x → ∃ v ∈ vs, S v = S y
  nd : (vs.map S).Nodup
  len : vs.length ≤ 2 ^ x.length
theorem LotOk.nil : LotOk S [] [[]] := ⟨fun v h => by rw [List.mem_singleton.mp h]; exact .refl _, fun y h => ⟨[], by simp, by rw [List.eq_nil_of_sublist_nil h]⟩, by simp, by simp⟩
structure LotIn (S : List Nat → List (List Int)) (x : List Nat) (c : Nat) (vs : List (List Nat)) (j : Nat) (ws : List (List Nat)) : Prop where
  sub : ∀ v ∈ ws, v.Sublist (c :: x)
  old : ∀ v ∈ vs, v ∈ ws
  new : ∀ v ∈ vs.take j, ∃ u ∈ ws, S u = S (c :: v)
  nd : (ws.map S).Nodup
  len : ws.length ≤ vs.length + j
theorem LotOk.start {x : List Nat} {vs : List (List Nat)} (h : LotOk S x vs) (c : Nat) : LotIn S x c vs 0 vs := ⟨fun v hv => (h.sub v hv).trans (List.sublist_cons_self _ _), fun _ h => h, fun v hv => by simp at hv, h.nd, Nat.le_refl _⟩
theorem LotIn.more {x : List Nat} {c : Nat} {vs ws : List (List Nat)} {j : Nat} (h : LotIn S x c vs j ws) {v : List Nat} (e : vs[j]? = some v) (hv : v.Sublist x) (no : ∀ u ∈ ws, S u ≠ S (c :: v)) : LotIn S x c vs (j + 1) (ws ++ [c :: v]) := by
  refine ⟨fun u hu => ?_, fun u hu => List.mem_append.mpr (.inl (h.old u hu)), fun u hu => ?_, ?_, by rw [List.length_append, List.length_singleton]; have := h.len; omega⟩
  · rcases List.mem_append.mp hu with hu | hu
    · exact h.sub u hu
    · rw [List.mem_singleton.mp hu]
      exact hv.cons_cons c
  · rw [take_snoc e] at hu
    rcases List.mem_append.mp hu with hu | hu
    · obtain ⟨y, hy, q⟩ := h.new u hu
      exact ⟨y, List.mem_append.mpr (.inl hy), q⟩
    · rw [List.mem_singleton.mp hu]
      exact ⟨_, by simp, rfl⟩
  · rw [List.map_append, List.nodup_append]
    refine ⟨h.nd, by simp, fun a ha b hb z => ?_⟩
    obtain ⟨u, hu, rfl⟩ := List.mem_map.mp ha
    rw [List.map_singleton, List.mem_singleton] at hb
    exact no u hu (z.trans hb)
theorem LotIn.keep {x : List Nat} {c : Nat} {vs ws : List (List Nat)} {j : Nat} (h : LotIn S x c vs j ws) {v : List Nat} (e : vs[j]? = some v) (yes : ∃ u ∈ ws, S u = S (c :: v)) : LotIn S x c vs (j + 1) ws := by
  refine ⟨h.sub, h.old, fun u hu => ?_, h.nd, by have := h.len; omega⟩
  rw [take_snoc e] at hu
  rcases List.mem_append.mp hu with hu | hu
  · exact h.new u hu
  · rw [List.mem_singleton.mp hu]
    exact yes
theorem LotIn.done {x : List Nat} {c : Nat} {vs ws : List (List Nat)} (g : LotOk S x vs) (h : LotIn S x c vs vs.length ws) (f : ∀ v y, v.Sublist x → y.Sublist x → S v = S y → S (c :: v) = S (c :: y)) : LotOk S (c :: x) ws := by
  refine ⟨h.sub, fun y hy => ?_, h.nd, ?_⟩
  · cases hy with
    | cons _ hy =>
      obtain ⟨v, hv, e⟩ := g.all y hy
      exact ⟨v, h.old v hv, e⟩
    | cons_cons _ hy =>
      obtain ⟨v, hv, e⟩ := g.all _ hy
      obtain ⟨u, hu, e2⟩ := h.new v (by rw [List.take_length]; exact hv)
      exact ⟨u, hu, e2.trans (f _ _ (g.sub v hv) hy e)⟩
  · have := h.len
    have := g.len
    rw [List.length_cons, Nat.pow_succ]
    omega
variable {n : Nat} {bs : List (List Int)}
theorem lot_nd (va : Valid n bs) (hS : ∀ u v, Rt.In n u → Rt.In n v → (S u = S v ↔ Rt.Cg n (mB bs) u v)) {x : List Nat} (hx : Rt.In n x) {vs : List (List Nat)} (L : LotOk S x vs) : (vs.map (nfc n bs)).Nodup := by
  have p := List.pairwise_map.mp L.nd
  refine List.pairwise_map.mpr (p.imp_of_mem fun {a b} ha hb q e => q ?_)
  have ia := hx.sub (L.sub a ha)
  have ib := hx.sub (L.sub b hb)
  exact (hS a b ia ib).mpr ((nf_eq va ia ib (nfc_nf va ia) (nfc_nf va ib)).mp e)
theorem lot_in (va : Valid n bs) {x w : List Nat} (hw : NW n bs w) (sx : x.Sublist w) {vs : List (List Nat)} (L : LotOk S x vs) {u : List Nat} (h : u ∈ vs.map (nfc n bs)) : NW n bs u ∧ Und n bs u w := by
  obtain ⟨v, hv, rfl⟩ := List.mem_map.mp h
  have iv := (hw.1.sub sx).sub (L.sub v hv)
  exact ⟨NW.of va iv (nfc_nf va iv), NW.sub va hw ((L.sub v hv).trans sx) ((nfc_nf va iv).cg iv).1.symm⟩
theorem lot_few (va : Valid n bs) (hS : ∀ u v, Rt.In n u → Rt.In n v → (S u = S v ↔ Rt.Cg n (mB bs) u v)) {x w : List Nat} (hw : NW n bs w) (sx : x.Sublist w) {vs us : List (List Nat)} (L : LotOk S x vs) (U : UL n bs w us) : vs.length ≤ us.length := by
  have := List.Nodup.length_le_of_subset (lot_nd va hS (hw.1.sub sx) L) fun u hu => (U.me u).mpr (lot_in va hw sx L hu)
  rwa [List.length_map] at this
theorem lot_ul (va : Valid n bs) (hS : ∀ u v, Rt.In n u → Rt.In n v → (S u = S v ↔ Rt.Cg n (mB bs) u v)) {w : List Nat} (hw : NW n bs w) {vs us : List (List Nat)} (L : LotOk S w vs) (p : us.Perm (vs.map (nfc n bs))) (so : us.Pairwise fun x y => SL.lwB (codeW y) (codeW x) = false) : UL n bs w us ∧ us.length ≤ 2 ^ w.length := by
  refine ⟨⟨so, p.nodup_iff.mpr (lot_nd va hS hw.1 L), fun x => ?_⟩, ?_⟩
  · rw [p.mem_iff]
    constructor
    · exact lot_in va hw (.refl _) L
    · rintro ⟨hx, le⟩
      obtain ⟨v0, sv, c⟩ := (Rt.Le.iff (sysN va) hw.1 (Rt.Cg.rfl _) hw.len).mp le
      obtain ⟨v, hv, e⟩ := L.all v0 sv
      have iv := hw.1.sub (L.sub v hv)
      refine List.mem_map.mpr ⟨v, hv, ?_⟩
      exact (nf_eq va iv hx.1 (nfc_nf va iv) hx.2).mpr (((hS v v0 iv (hw.1.sub sv)).mp e).trans c.symm)
  · have := p.length_eq
    rw [List.length_map] at this
    have := L.len
    omega
end
/-! the lot in the heap -/
def LotAt (K : PySem.W.Frag) (H : Hp) (S : List Nat → List (List Int)) (xs : List GE) (vs : List (List Nat)) : Prop := Ks K H xs ∧ xs.map (·.1) = vs.map fun v => KK.s (S v)
section
variable {K : PySem.W.Frag} {H H' : Hp} {S : List Nat → List (List Int)} {xs : List GE} {vs : List (List Nat)}
theorem LotAt.same (h : LotAt K H S xs vs) (s : Same H H') : LotAt K H' S xs vs := ⟨fun x hx => (h.1 x hx).same s, h.2⟩
theorem LotAt.off {D : Addr} {u : HO} (h : LotAt K H S xs vs) (o : Off D H H') (hD : H D = some u) (e : IsE u) : LotAt K H' S xs vs := ⟨fun x hx => offE_kk o hD e (h.1 x hx), h.2⟩
theorem LotAt.len (h : LotAt K H S xs vs) : xs.length = vs.length := by
  have := congrArg List.length h.2
  simpa using this
theorem LotAt.get (h : LotAt K H S xs vs) {i : Nat} {e : GE} (he : xs[i]? = some e) : ∃ v, vs[i]? = some v ∧ BsAt K H (.ref e.2.1) (S v) := by
  have q : (xs.map (·.1))[i]? = some e.1 := by rw [List.getElem?_map, he]; rfl
  rw [h.2, List.getElem?_map] at q
  cases hv : vs[i]? with
  | none => rw [hv] at q; cases q
  | some v =>
    rw [hv] at q
    refine ⟨v, rfl, ?_⟩
    have := h.1 e (List.mem_of_getElem? he)
    rw [← Option.some.inj q] at this
    exact this
theorem LotAt.to {e : GE} (h : LotAt K H S xs vs) (he : e ∈ xs) : ∃ v ∈ vs, e.1 = .s (S v) := by
  have q : e.1 ∈ xs.map (·.1) := List.mem_map.mpr ⟨e, he, rfl⟩
  rw [h.2] at q
  obtain ⟨v, hv, e1⟩ := List.mem_map.mp q
  exact ⟨v, hv, e1.symm⟩
theorem LotAt.from {v : List Nat} (h : LotAt K H S xs vs) (hv : v ∈ vs) : ∃ e ∈ xs, e.1 = .s (S v) := by
  have q : KK.s (S v) ∈ vs.map fun v => KK.s (S v) := List.mem_map.mpr ⟨v, hv, rfl⟩
  rw [← h.2] at q
  obtain ⟨e, he, e1⟩ := List.mem_map.mp q
  exact ⟨e, he, e1⟩
theorem LotAt.snoc (h : LotAt K H S xs vs) {a : Addr} {b : PV} {v : List Nat} (hb : BsAt K H (.ref a) (S v)) : LotAt K H S (xs ++ [(.s (S v), a, b)]) (vs ++ [v]) := by
  refine ⟨fun x hx => ?_, by rw [List.map_append, List.map_append, h.2]; rfl⟩
  rcases List.mem_append.mp hx with hx | hx
  · exact h.1 x hx
  · rw [List.mem_singleton.mp hx]
    exact hb
theorem LotAt.put (h : LotAt K H S xs vs) {k : KK} {b : PV} : LotAt K H S (xs.map fun x => if x.1.nk = k.nk then (x.1, x.2.1, b) else x) vs := by
  refine ⟨fun x hx => ?_, ?_⟩
  · obtain ⟨y, hy, rfl⟩ := List.mem_map.mp hx
    have := h.1 y hy
    split <;> exact this
  · rw [List.map_map, ← h.2]
    refine List.map_congr_left fun x _ => ?_
    show (if x.1.nk = k.nk then (x.1, x.2.1, b) else x).1 = x.1
    split <;> rfl
end
end Sk

namespace Sk
open PySem L2 Ow
/-! normal words of one length, level by level -/
section
variable {n : Nat} {bs : List (List Int)}
theorem NW.nil (va : Valid n bs) : NW n bs [] := ⟨Rt.In.nil, by
  obtain ⟨us, nf, _, _, le, _⟩ := nf_all va (Rt.In.nil (n := n))
  have : us = [] := List.eq_nil_of_length_eq_zero (by simpa using le)
  subst this
  exact nf⟩
/-- a normal word's head is its least left letter; its tail is normal -/
theorem NW.tail (va : Valid n bs) {s : Nat} {y : List Nat} (h : NW n bs (s :: y)) : NW n bs y ∧ s < n ∧ Rt.len n (mB bs) (s :: s :: y) < Rt.len n (mB bs) (s :: y) ∧ ∀ t, t < s → ¬ Rt.len n (mB bs) (t :: s :: y) < Rt.len n (mB bs) (s :: y) := by
  obtain ⟨hi, nf⟩ := h
  have hs := hi s (by simp)
  have iy : Rt.In n y := fun x hx => hi x (by simp [hx])
  cases nf with
  | step hs' hl hm nf' =>
    refine ⟨⟨iy, ?_⟩, hs, hl, hm⟩
    have c := Rt.cons2 (m := mB bs) hs y
    exact nf_cg va ((iy.cons hs).cons hs) iy nf' c.symm
theorem NW.up (va : Valid n bs) {s : Nat} {v : List Nat} (hs : s < n) (hv : NW n bs v) (no : ¬ Rt.len n (mB bs) (s :: v) < Rt.len n (mB bs) v) : NW n bs (nfc n bs (s :: v)) ∧ (nfc n bs (s :: v)).length = v.length + 1 ∧ Rt.Cg n (mB bs) (s :: v) (nfc n bs (s :: v)) := by
  have iv := hv.1.cons hs
  have nf := nfc_nf va iv
  obtain ⟨c, l⟩ := nf.cg iv
  refine ⟨NW.of va iv nf, ?_, c⟩
  have := hv.len
  rcases Rt.len_cons (m := mB bs) hs v with g | g <;> omega
/-- all normal words of length i -/
structure Lvl (n : Nat) (bs : List (List Int)) (i : Nat) (L : List (List Nat)) : Prop where
  nd : L.Nodup
  me : ∀ x, x ∈ L ↔ NW n bs x ∧ x.length = i
theorem Lvl.zero (va : Valid n bs) : Lvl n bs 0 [[]] := ⟨by simp, fun x => by
  rw [List.mem_singleton]
  constructor
  · rintro rfl
    exact ⟨NW.nil va, rfl⟩
  · rintro ⟨_, l⟩
    exact List.eq_nil_of_length_eq_zero l⟩
/-- what is found of level i + 1 from the pairs (member, letter) seen so far -/
structure LvIn (n : Nat) (bs : List (List Int)) (i : Nat) (seen : List Nat → Nat → Prop) (xs : List (List Nat)) : Prop where
  nd : xs.Nodup
  nw : ∀ x ∈ xs, NW n bs x ∧ x.length = i + 1
  all : ∀ v s, seen v s → s < n → ¬ Rt.len n (mB bs) (s :: v) < Rt.len n (mB bs) v → nfc n bs (s :: v) ∈ xs
theorem LvIn.start {i : Nat} : LvIn n bs i (fun _ _ => False) [] := ⟨by simp, fun x hx => (by cases hx), fun _ _ h => h.elim⟩
theorem LvIn.more {i : Nat} {seen seen' : List Nat → Nat → Prop} {xs : List (List Nat)} (va : Valid n bs) (h : LvIn n bs i seen xs) {v : List Nat} {s : Nat} (hv : NW n bs v) (hl : v.length = i) (hs : s < n) (no : ¬ Rt.len n (mB bs) (s :: v) < Rt.len n (mB bs) v) (new : nfc n bs (s :: v) ∉ xs) (st : ∀ a b, seen' a b → seen a b ∨ (a = v ∧ b = s)) : LvIn n bs i seen' (xs ++ [nfc n bs (s :: v)]) := by
  obtain ⟨a, b, _⟩ := NW.up va hs hv no
  refine ⟨?_, fun x hx => ?_, fun v' s' h' hs' no' => ?_⟩
  · rw [List.nodup_append]
    exact ⟨h.nd, by simp, fun x hx y hy z => new (by rw [List.mem_singleton] at hy; rw [← hy, ← z]; exact hx)⟩
  · rcases List.mem_append.mp hx with hx | hx
    · exact h.nw x hx
    · rw [List.mem_singleton.mp hx]
      exact ⟨a, by omega⟩
  · rcases st _ _ h' with h' | ⟨rfl, rfl⟩
    · exact List.mem_append.mpr (.inl (h.all _ _ h' hs' no'))
    · exact List.mem_append.mpr (.inr (by simp))
theorem LvIn.keep {i : Nat} {seen seen' : List Nat → Nat → Prop} {xs : List (List Nat)} (h : LvIn n bs i seen xs) {v : List Nat} {s : Nat} (old : Rt.len n (mB bs) (s :: v) < Rt.len n (mB bs) v ∨ nfc n bs (s :: v) ∈ xs) (st : ∀ a b, seen' a b → seen a b ∨ (a = v ∧ b = s)) : LvIn n bs i seen' xs :=
  ⟨h.nd, h.nw, fun v' s' h' hs' no' => by
    rcases st _ _ h' with h' | ⟨rfl, rfl⟩
    · exact h.all _ _ h' hs' no'
    · exact old.elim (fun z => absurd z no') id⟩
theorem LvIn.done (va : Valid n bs) {i : Nat} {L xs : List (List Nat)} (l : Lvl n bs i L) (h : LvIn n bs i (fun v _ => v ∈ L) xs) : Lvl n bs (i + 1) xs := by
  refine ⟨h.nd, fun x => ⟨h.nw x, fun ⟨hx, hl⟩ => ?_⟩⟩
  cases x with
  | nil => cases hl
  | cons s y =>
    obtain ⟨hy, hs, hlt, _⟩ := hx.tail va
    have c := Rt.cons2 (m := mB bs) hs y
    rw [Rt.len_congr c] at hlt
    have m := h.all y s ((l.me y).mpr ⟨hy, by simpa using hl⟩) hs (by omega)
    have iv := hy.1.cons hs
    have : nfc n bs (s :: y) = s :: y := (nfc_nf va iv).det hx.2
    rwa [this] at m
/-- two sorted lists of a level are one -/
theorem Lvl.uniq {i : Nat} {L M : List (List Nat)} (h : Lvl n bs i L) (k : Lvl n bs i M) : L.Perm M := (List.perm_ext_iff_of_nodup h.nd k.nd).mpr fun x => (h.me x).trans (k.me x).symm
end
end Sk

namespace Rt
open Gd
variable {c : Nat → Nat → G} {n : Nat} {m : Nat → Nat → Nat}
/-! cosets of the members made of some letters -/
def InJ (J : List Nat) (v : List Nat) : Prop := ∀ x ∈ v, x ∈ J
/-- no letter of J makes it shorter from the right -/
def NoJ (n : Nat) (m : Nat → Nat → Nat) (J : List Nat) (u : List Nat) : Prop := ∀ s ∈ J, ¬ len n m (u ++ [s]) < len n m u
section
variable {J : List Nat}
theorem InJ.nil : InJ J [] := fun x h => by cases h
theorem InJ.app {v w : List Nat} : InJ J (v ++ w) ↔ InJ J v ∧ InJ J w := by
  constructor
  · exact fun h => ⟨fun x hx => h x (by simp [hx]), fun x hx => h x (by simp [hx])⟩
  · rintro ⟨a, b⟩ x hx
    rcases List.mem_append.mp hx with h | h
    · exact a x h
    · exact b x h
theorem InJ.rev {v : List Nat} (h : InJ J v) : InJ J v.reverse := fun x hx => h x (List.mem_reverse.mp hx)
theorem InJ.sub {v w : List Nat} (h : InJ J w) (s : v.Sublist w) : InJ J v := fun x hx => h x (s.subset hx)
theorem InJ.in_ {v : List Nat} (hJ : In n J) (h : InJ J v) : In n v := fun x hx => hJ x (h x hx)
/-- a shortest word in the letters of J -/
theorem InJ.short (S : Sys c n m) (hJ : In n J) {v : List Nat} (h : InJ J v) : ∃ x, InJ J x ∧ Cg n m v x ∧ x.length = len n m v := by
  obtain ⟨x, sx, cx, lx⟩ := sub_short S _ (h.in_ hJ) (List.Sublist.refl v) rfl
  exact ⟨x, h.sub sx, cx, lx⟩
theorem rev_rev (w : List Nat) (hw : In n w) : Cg n m (w ++ w.reverse) [] := by
  induction w with
  | nil => exact .rfl _
  | cons s w ih =>
    have hs : s < n := hw s (by simp)
    have i := ih hw.tail
    have e : s :: w ++ (s :: w).reverse = [s] ++ (w ++ w.reverse) ++ [s] := by simp
    rw [e]
    exact ((i.left [s]).right [s]).trans (by simpa using cons2 (m := m) hs [])
theorem rev_rev' (w : List Nat) (hw : In n w) : Cg n m (w.reverse ++ w) [] := by
  have := rev_rev (m := m) w.reverse hw.rev
  rwa [List.reverse_reverse] at this
theorem cancel_left {a x y : List Nat} (ha : In n a) (h : Cg n m (a ++ x) (a ++ y)) : Cg n m x y := by
  have h1 := h.left a.reverse
  rw [← List.append_assoc, ← List.append_assoc] at h1
  have h2 := (rev_rev' (m := m) a ha).right x
  have h3 := (rev_rev' (m := m) a ha).right y
  exact h2.symm.trans (h1.trans h3)
theorem exch_right (S : Sys c n m) {v : List Nat} {s : Nat} (hv : In n v) (hs : s < n) (h1 : len n m v = v.length) (h2 : len n m (v ++ [s]) < len n m v) : ∃ x, x.Sublist v ∧ x.length + 1 = v.length ∧ Cg n m (v ++ [s]) x := by
  have r1 : len n m v.reverse = v.reverse.length := by rw [len_rev, List.length_reverse, h1]
  have e : s :: v.reverse = (v ++ [s]).reverse := by simp
  have r2 : len n m (s :: v.reverse) < len n m v.reverse := by rw [e, len_rev, len_rev]; exact h2
  obtain ⟨x, sx, cx⟩ := exch_left S hv.rev hs r1 r2
  rw [e] at cx
  have cr := cx.rev
  rw [List.reverse_reverse] at cr
  have sr := sx.reverse
  rw [List.reverse_reverse] at sr
  refine ⟨x.reverse, sr, ?_, cr⟩
  have p := cr.par
  have l1 := sr.length_le
  have l2 := len_le cr
  rw [List.length_append, List.length_singleton] at p
  rcases len_snoc (m := m) hs v with g | g <;> omega
/-- a shortest one of a coset: lengths add -/
theorem add_of_min (S : Sys c n m) (hJ : In n J) {x : List Nat} (hx : In n x) (mi : ∀ v, InJ J v → len n m x ≤ len n m (x ++ v)) : ∀ {v : List Nat}, InJ J v → len n m (x ++ v) = len n m x + len n m v := by
  obtain ⟨r, cr, lr⟩ := len_has (n := n) (m := m) x
  have ir : In n r := cr.in_.mp hx
  have key : ∀ (N : Nat) (v : List Nat), v.length = N → InJ J v → len n m v = v.length → len n m (r ++ v) = r.length + v.length := by
    intro N
    induction N with
    | zero =>
      intro v hl _ _
      rw [List.eq_nil_of_length_eq_zero hl, List.append_nil, ← len_congr cr, ← lr]
      rfl
    | succ N ih =>
      intro v hl hv hr
      rcases List.eq_nil_or_concat v with e | ⟨y, s, e⟩
      · rw [e] at hl; cases hl
      · rw [List.concat_eq_append] at e
        subst e
        rw [List.length_append, List.length_singleton] at hl hr
        have hy := (InJ.app.mp hv).1
        have hsJ : s ∈ J := hv s (by simp)
        have hs := hJ s hsJ
        have ry : len n m y = y.length := by
          have := len_self (n := n) (m := m) y
          rcases len_snoc (m := m) hs y with g | g <;> omega
        have i := ih y (by omega) hy ry
        have iy := hy.in_ hJ
        have iry : In n (r ++ y) := In.app.mpr ⟨ir, iy⟩
        rw [← List.append_assoc, List.length_append, List.length_singleton]
        rcases len_snoc (m := m) hs (r ++ y) with g | g
        · omega
        · exfalso
          obtain ⟨z, sz, lz, cz⟩ := exch_right S iry hs (by rw [i, List.length_append]) (by omega)
          obtain ⟨r', y', rfl, s1, s2⟩ := List.sublist_append_iff.mp sz
          rw [List.length_append, List.length_append] at lz
          by_cases er : r'.length = r.length
          · have e : r' = r := s1.eq_of_length er
            subst e
            rw [List.append_assoc] at cz
            have c1 := cancel_left ir cz
            have l1 := len_le c1
            have := s2.length_le
            omega
          · have l1 := s1.length_le
            have c1 : Cg n m (r ++ (y ++ [s] ++ y'.reverse)) r' := by
              have h1 := cz.right y'.reverse
              have h2 := (rev_rev (m := m) y' (iy.sub s2)).left r'
              rw [List.append_nil] at h2
              have e1 : r ++ (y ++ [s] ++ y'.reverse) = r ++ y ++ [s] ++ y'.reverse := by simp
              have e2 : r' ++ y' ++ y'.reverse = r' ++ (y' ++ y'.reverse) := by simp
              rw [e1]
              rw [e2] at h1
              exact h1.trans h2
            have hj : InJ J (y ++ [s] ++ y'.reverse) := InJ.app.mpr ⟨hv, (hy.sub s2).rev⟩
            have h3 := mi _ hj
            rw [len_congr (cr.right _), len_congr c1] at h3
            have := len_self (n := n) (m := m) r'
            omega
  intro v hv
  obtain ⟨v0, j0, c0, l0⟩ := hv.short S hJ
  rw [len_congr (cr.right v), len_congr (c0.left r), key _ v0 rfl j0 (by rw [l0]; exact (len_congr c0).symm), l0, lr]
theorem noJ_min (S : Sys c n m) (hJ : In n J) {u : List Nat} (hu : In n u) (no : NoJ n m J u) : ∀ v, InJ J v → len n m u ≤ len n m (u ++ v) := by
  obtain ⟨N, ⟨v1, j1, e1⟩, mn⟩ : ∃ N, (∃ v, InJ J v ∧ len n m (u ++ v) = N) ∧ ∀ v, InJ J v → N ≤ len n m (u ++ v) := by
    have ex : ∀ K, (∃ v, InJ J v ∧ len n m (u ++ v) = K) → ∃ N, (∃ v, InJ J v ∧ len n m (u ++ v) = N) ∧ ∀ v, InJ J v → N ≤ len n m (u ++ v) := by
      intro K
      induction K using Nat.strongRecOn with
      | _ K ih =>
        intro h
        by_cases c : ∀ v, InJ J v → K ≤ len n m (u ++ v)
        · exact ⟨K, h, c⟩
        · obtain ⟨v, hv⟩ := Classical.not_forall.mp c
          obtain ⟨jv, lv⟩ := Classical.not_imp.mp hv
          exact ih (len n m (u ++ v)) (by omega) ⟨v, jv, rfl⟩
    exact ex _ ⟨[], .nil, rfl⟩
  have ix : In n (u ++ v1) := In.app.mpr ⟨hu, j1.in_ hJ⟩
  have mx : ∀ v, InJ J v → len n m (u ++ v1) ≤ len n m (u ++ v1 ++ v) := fun v hv => by
    rw [e1, List.append_assoc]
    exact mn _ (InJ.app.mpr ⟨j1, hv⟩)
  have add := fun {v} hv => add_of_min S hJ ix mx (v := v) hv
  have back : Cg n m (u ++ v1 ++ v1.reverse) u := by
    have := (rev_rev (m := m) v1 (j1.in_ hJ)).left u
    rw [List.append_nil, ← List.append_assoc] at this
    exact this
  obtain ⟨v3, j3, c3, l3⟩ := j1.rev.short S hJ
  rcases List.eq_nil_or_concat v3 with e | ⟨y, s, e⟩
  · subst e
    have l0 := add j1.rev
    rw [len_congr back, ← l3] at l0
    intro v hv
    have := mn v hv
    simp only [List.length_nil] at l0
    omega
  · exfalso
    rw [List.concat_eq_append] at e
    subst e
    have hsJ : s ∈ J := j3 s (by simp)
    have hs := hJ s hsJ
    have jy := (InJ.app.mp j3).1
    refine no s hsJ ?_
    have c1 : Cg n m u (u ++ v1 ++ (y ++ [s])) := back.symm.trans (c3.left (u ++ v1))
    have c2 : Cg n m (u ++ [s]) (u ++ v1 ++ y) := by
      refine (c1.right [s]).trans ?_
      have e1 : u ++ v1 ++ (y ++ [s]) ++ [s] = (u ++ v1 ++ y) ++ [s, s] := by simp
      rw [e1]
      have := (cons2 (m := m) hs []).left (u ++ v1 ++ y)
      rw [List.append_nil] at this
      exact this
    have a1 := add jy
    have a2 := add j1.rev
    rw [len_congr back, ← l3, List.length_append, List.length_singleton] at a2
    rw [len_congr c2, a1]
    have := len_self (n := n) (m := m) y
    omega
/-- lengths add -/
theorem NoJ.add (S : Sys c n m) (hJ : In n J) {u v : List Nat} (hu : In n u) (no : NoJ n m J u) (hv : InJ J v) : len n m (u ++ v) = len n m u + len n m v := add_of_min S hJ hu (noJ_min S hJ hu no) hv
theorem len_zero {v : List Nat} (h : len n m v = 0) : Cg n m v [] := by
  obtain ⟨r, c, l⟩ := len_has (n := n) (m := m) v
  rw [h] at l
  rw [List.eq_nil_of_length_eq_zero l] at c
  exact c
/-- one least member a coset -/
theorem NoJ.uniq (S : Sys c n m) (hJ : In n J) {u u' v v' : List Nat} (hu : In n u) (hu' : In n u') (no : NoJ n m J u) (no' : NoJ n m J u') (hv : InJ J v) (hv' : InJ J v') (h : Cg n m (u ++ v) (u' ++ v')) : Cg n m u u' := by
  have c1 : Cg n m (u ++ (v ++ v'.reverse)) u' := by
    have h1 := h.right v'.reverse
    have h2 := (rev_rev (m := m) v' (hv'.in_ hJ)).left u'
    rw [List.append_nil, ← List.append_assoc] at h2
    rw [← List.append_assoc]
    exact h1.trans h2
  have jz : InJ J (v ++ v'.reverse) := InJ.app.mpr ⟨hv, hv'.rev⟩
  generalize v ++ v'.reverse = z at *
  have c2 : Cg n m (u' ++ z.reverse) u := by
    have h1 := c1.right z.reverse
    have h2 := (rev_rev (m := m) z (jz.in_ hJ)).left u
    rw [List.append_nil, ← List.append_assoc] at h2
    exact h1.symm.trans h2
  have a1 := no.add S hJ hu jz
  have a2 := no'.add S hJ hu' jz.rev
  rw [len_congr c1] at a1
  rw [len_congr c2] at a2
  have z0 := len_zero (n := n) (m := m) (show len n m z = 0 by omega)
  have := z0.left u
  rw [List.append_nil] at this
  exact this.symm.trans c1
/-- all lie under a member that every letter of J makes shorter from the left -/
theorem under_top (S : Sys c n m) (hJ : In n J) {t : List Nat} (ht : In n t) (dn : ∀ s ∈ J, len n m (s :: t) < len n m t) : ∀ {z : List Nat}, InJ J z → Le n m z t
  | [], _ => Le.nil t
  | s :: z, h => by
    have hz : InJ J z := fun x hx => h x (by simp [hx])
    have hs := h s (by simp)
    exact (Le.turn S (hJ s hs) ht (hz.in_ hJ) (dn s hs)).mpr (under_top S hJ ht dn hz)
end
end Rt

namespace Rt
open Gd
variable {c : Nat → Nat → G} {n : Nat} {m : Nat → Nat → Nat}
/-! the order between cosets -/
theorem Le.turnR (S : Sys c n m) {s : Nat} {u w : List Nat} (hs : s < n) (hw : In n w) (hu : In n u) (h : len n m (w ++ [s]) < len n m w) : Le n m (u ++ [s]) w ↔ Le n m u w := by
  have e : ∀ x : List Nat, s :: x.reverse = (x ++ [s]).reverse := fun x => by simp
  have h' : len n m (s :: w.reverse) < len n m w.reverse := by rw [e, len_rev, len_rev]; exact h
  have t := Le.turn S hs hw.rev hu.rev h'
  rw [e] at t
  constructor
  · intro l
    have := (t.mp l.rev).rev
    rwa [List.reverse_reverse, List.reverse_reverse] at this
  · intro l
    have := (t.mpr l.rev).rev
    rwa [List.reverse_reverse, List.reverse_reverse] at this
/-- one letter off both, from the right -/
theorem Le.offR (S : Sys c n m) {s : Nat} {u w : List Nat} (hs : s < n) (hw : In n w) (hu : In n u) (h : len n m (w ++ [s]) < len n m w) (l : Le n m u w) : Le n m u (w ++ [s]) ∨ Le n m (u ++ [s]) (w ++ [s]) := by
  have e : ∀ x : List Nat, s :: x.reverse = (x ++ [s]).reverse := fun x => by simp
  have h' : len n m (s :: w.reverse) < len n m w.reverse := by rw [e, len_rev, len_rev]; exact h
  have t := (Le.lift S hs hw.rev hu.rev h').mp l.rev
  by_cases d : len n m (s :: u.reverse) < len n m u.reverse
  · rw [dn_pos d, e, e] at t
    have := t.rev
    rw [List.reverse_reverse, List.reverse_reverse] at this
    exact .inr this
  · rw [dn_neg d, e] at t
    have := t.rev
    rw [List.reverse_reverse, List.reverse_reverse] at this
    exact .inl this
section
variable {J : List Nat}
theorem NoJ.le_app (S : Sys c n m) (hJ : In n J) {u v : List Nat} (hu : In n u) (no : NoJ n m J u) (hv : InJ J v) : Le n m u (u ++ v) := by
  obtain ⟨r, cr, lr⟩ := len_has (n := n) (m := m) u
  obtain ⟨v0, j0, c0, l0⟩ := hv.short S hJ
  have a := no.add S hJ hu hv
  refine ⟨r ++ v0, (cr.right v).trans (c0.left r), by rw [List.length_append, lr, l0, a], r, List.sublist_append_left _ _, cr⟩
/-- least members of the cosets -/
theorem least_mono (S : Sys c n m) (hJ : In n J) : ∀ (N : Nat) {a b a0 b0 va vb : List Nat}, len n m vb = N → In n a → In n b → In n a0 → In n b0 → InJ J va → InJ J vb → NoJ n m J a0 → NoJ n m J b0 → Cg n m a (a0 ++ va) → Cg n m b (b0 ++ vb) → Le n m a b → Le n m a0 b0
  | 0, a, b, a0, b0, va, vb, hN, ia, ib, ia0, ib0, ja, jb, na, nb, ca, cb, l => by
    have z := (len_zero hN).left b0
    rw [List.append_nil] at z
    have l1 := na.le_app S hJ ia0 ja
    exact Le.trans S ia ib0 (l1.of (.rfl _) ca) (l.of (.rfl _) (cb.trans z).symm)
  | N + 1, a, b, a0, b0, va, vb, hN, ia, ib, ia0, ib0, ja, jb, na, nb, ca, cb, l => by
    obtain ⟨v3, j3, c3, l3⟩ := jb.short S hJ
    rcases List.eq_nil_or_concat v3 with e | ⟨y, s, e⟩
    · subst e
      rw [hN] at l3
      cases l3
    · rw [List.concat_eq_append] at e
      subst e
      have hsJ := j3 s (by simp)
      have hs := hJ s hsJ
      have jy := (InJ.app.mp j3).1
      rw [hN, List.length_append, List.length_singleton] at l3
      have cb2 : Cg n m b (b0 ++ (y ++ [s])) := cb.trans (c3.left b0)
      have cbs : Cg n m (b ++ [s]) (b0 ++ y) := by
        refine (cb2.right [s]).trans ?_
        have e1 : b0 ++ (y ++ [s]) ++ [s] = (b0 ++ y) ++ [s, s] := by simp
        rw [e1]
        have := (cons2 (m := m) hs []).left (b0 ++ y)
        rw [List.append_nil] at this
        exact this
      have ly : len n m y = N := by
        have h1 := len_self (n := n) (m := m) y
        have h2 := len_congr c3
        rcases len_snoc (m := m) hs y with g | g <;> omega
      have lt : len n m (b ++ [s]) < len n m b := by
        rw [len_congr cbs, len_congr cb, nb.add S hJ ib0 jy, nb.add S hJ ib0 jb]
        omega
      have ibs : In n (b ++ [s]) := In.app.mpr ⟨ib, fun x hx => by rw [List.mem_singleton.mp hx]; exact hs⟩
      have jys : InJ J [s] := fun x hx => by rw [List.mem_singleton.mp hx]; exact hsJ
      rcases Le.offR S hs ib ia lt l with q | q
      · exact least_mono S hJ N ly ia ibs ia0 ib0 ja jy na nb ca cbs q
      · refine least_mono S hJ N ly (In.app.mpr ⟨ia, fun x hx => by rw [List.mem_singleton.mp hx]; exact hs⟩) ibs ia0 ib0 (InJ.app.mpr ⟨ja, jys⟩) jy na nb ?_ cbs q
        have := ca.right [s]
        rwa [List.append_assoc] at this
/-- all of a coset lies under a member that every letter of J makes shorter from the right -/
theorem up_all (S : Sys c n m) (hJ : In n J) {t : List Nat} (ht : In n t) (dn : ∀ s ∈ J, len n m (t ++ [s]) < len n m t) : ∀ {z x : List Nat}, InJ J z → In n x → Le n m x t → Le n m (x ++ z) t
  | [], x, _, _, l => by rwa [List.append_nil]
  | s :: z, x, h, hx, l => by
    have hz : InJ J z := fun y hy => h y (by simp [hy])
    have hsJ := h s (by simp)
    have hs := hJ s hsJ
    have ixs : In n (x ++ [s]) := In.app.mpr ⟨hx, fun y hy => by rw [List.mem_singleton.mp hy]; exact hs⟩
    have := up_all S hJ ht dn hz ixs ((Le.turnR S hs ht hx (dn s hsJ)).mpr l)
    rwa [List.append_assoc] at this
/-- greatest members of the cosets -/
theorem great_mono (S : Sys c n m) (hJ : In n J) {a b t z : List Nat} (ia : In n a) (ib : In n b) (it : In n t) (dn : ∀ s ∈ J, len n m (t ++ [s]) < len n m t) (hb : Le n m b t) (hz : InJ J z) (l : Le n m a b) : Le n m (a ++ z) t :=
  up_all S hJ it dn hz ia (Le.trans S ib it l hb)
end
end Rt

namespace SW
open PySem PySem.Spec PyProof.Rows SrtO L2
/-! sorted of tuples of whole numbers, the empty one too -/
theorem lex_swo {α : Type} (k : α → List Int) : Swo fun v u => HT.lexLt (k v) (k u) :=
  ⟨fun x y h => SL.lex_asym _ _ h, fun x y z h1 h2 => SL.lex_tr _ _ _ h1 h2⟩
theorem lex_uniq {a b : List (List Int)} (h1 : a.Pairwise fun x y => HT.lexLt y x = false) (h2 : b.Pairwise fun x y => HT.lexLt y x = false) (p : a.Perm b) : a = b :=
  List.Perm.eq_of_pairwise (le := fun x y => HT.lexLt y x = false) (fun _ _ _ _ h k => SL.lex_eq _ _ k h) h1 h2 p
def IsW (h : Heap) (v : Value) (k : List Int) : Prop := ∃ (a : Addr) (o : Obj) (its : List Value) (n : Nat), v = .ref a ∧ h.get? a = some o ∧ o.cls = .type "tuple" ∧ o.data = .seq its.toArray n ∧ IntsAre its k
theorem IsW.keeps {h h' : Heap} {v : Value} {k : List Int} (p : IsW h v k) (f : ∀ b o, h.get? b = some o → o.cls = .type "tuple" → h'.get? b = some o) : IsW h' v k := by
  obtain ⟨a, o, its, n, e, ho, hc, hd, hi⟩ := p
  exact ⟨a, o, its, n, e, f _ _ ho hc, hc, hd, hi⟩
theorem IsW.det {h : Heap} {v : Value} {k l : List Int} (p : IsW h v k) (q : IsW h v l) : k = l := by
  obtain ⟨a, o, its, n, e, ho, hc, hd, hi⟩ := p
  obtain ⟨a', o', its', n', e', ho', hc', hd', hi'⟩ := q
  subst e
  cases e'
  rw [ho] at ho'
  cases ho'
  rw [hd] at hd'
  injection hd' with g1 _
  have g3 : its = its' := Array.toList_inj.mpr g1
  subst g3
  exact SL.ints_det hi hi'
noncomputable def kw (h : Heap) (v : Value) : List Int := open Classical in if e : ∃ k, IsW h v k then Classical.choose e else []
theorem kw_eq {h : Heap} {v : Value} {k : List Int} (p : IsW h v k) : kw h v = k := by
  have e : ∃ k, IsW h v k := ⟨k, p⟩
  unfold kw
  rw [dif_pos e]
  exact (Classical.choose_spec e).det p
section
variable {prog : Program} {w : World} {A : Around} {E : Value → Shared → Prop} {s : Shared}
theorem firsts {M : Model} : ∀ {vs : List Value}, (∀ v ∈ vs, ∃ k, IsW s.heap v k) → ∃ fs : List (Option Value), fs.length = vs.length ∧ (∀ f ∈ fs, ∀ x, f = some x → ∃ i t, x = Value.int i t) ∧ ∀ {E : Value → Shared → Prop} {Q : List (Option Value) → Shared → Prop}, Q fs s → wpAny M A (vs.mapM firstOfTuple') Q E s
  | [], _ => ⟨[], rfl, (fun _ h => (by cases h)), (fun {E Q} h => by rw [List.mapM_nil]; exact wpAny_pure h)⟩
  | v :: vs, hp => by
    obtain ⟨fs, h1, h2, h3⟩ := firsts (M := M) (vs := vs) fun v' hm => hp v' (List.mem_cons_of_mem _ hm)
    obtain ⟨k, a, o, its, n, rfl, ho, hc, hd, hi⟩ := hp v (List.mem_cons_self ..)
    refine ⟨its[0]? :: fs, by rw [List.length_cons, List.length_cons, h1], fun f hm x e => ?_, fun {E Q} h => ?_⟩
    · rcases List.mem_cons.mp hm with rfl | hm
      · cases hi with
        | nil => cases e
        | cons i t _ => exact ⟨i, t, (Option.some.inj e).symm⟩
      · exact h2 f hm x e
    · rw [List.mapM_cons]
      refine wpAny_bind ?_
      rw [PySem.W.kas_first_eq]
      refine wpAny_bind (PySem.W.Looks.here (show PySem.W.Looks M s.heap (typeOf (.ref a)) o.cls from (PySem.W.Looks.ld ho).andThen .now) ?_)
      rw [hc, if_neg (by first | decide | simp)]
      refine wpAny_bind (listItems_at ho hd (wpAny_pure ?_))
      rw [List.getElem?_toArray]
      exact wpAny_bind (h3 (wpAny_pure h))
theorem w_kind {vs : List Value} {k : Value → List Int} (h2 : 2 ≤ vs.length) (hp : ∀ v ∈ vs, IsW s.heap v (k v)) : ∃ κ, (κ = tuples' true ∨ κ = general' ∨ κ = oneType') ∧ ∀ (Q : SortKind → Shared → Prop) (E : Value → Shared → Prop), Q κ s → wpAny (model prog w) A (keyKind' vs.toArray) Q E s := by
  obtain ⟨fs, f1, f2, f3⟩ := firsts (M := model prog w) (A := A) (s := s) fun v hm => ⟨_, hp v hm⟩
  by_cases c1 : (fs.toArray.all fun x => x.isSome) = true
  · refine ⟨tuples' true, .inl rfl, fun Q E hq => ?_⟩
    rw [keyKind'_eq, List.mapM_toArray, map_eq_pure_bind]
    refine wpAny_bind (wpAny_bind (f3 (wpAny_pure ?_)))
    rw [if_pos c1]
    refine wpAny_bind (wpAny_rule ?_)
    have e : fs.toArray.filterMap id = (fs.filterMap id).toArray := by simp
    rw [e, oneTypeOnly'_eq, List.mapM_toArray, map_eq_pure_bind]
    have ty : ∀ v ∈ fs.filterMap id, ∀ (Q' : Value → Shared → Prop), Q' (.type "int") s → wpAny (model prog w) A (typeOf v) Q' E s := fun v hv Q' h => by
      obtain ⟨f, hf, ef⟩ := List.mem_filterMap.mp hv
      obtain ⟨i, t, rfl⟩ := f2 f hf v ef
      exact wpAny_pure h
    refine wpAny_bind (wpAny_bind (wpAny_bind (PySem.W.kas_mapM (r := .type "int") _ ty (wpAny_pure ?_))))
    cases g : fs.filterMap id with
    | nil =>
      exfalso
      cases fs with
      | nil => rw [← f1] at h2; cases h2
      | cons f fs =>
        cases f with
        | none => simp at c1
        | some x => simp at g
    | cons x xs =>
      have h0 : (List.map (fun _ => Value.type "int") (x :: xs)).toArray[0]? = some (Value.type "int") := by simp
      have hall : ((List.map (fun _ => Value.type "int") (x :: xs)).toArray.all fun x => x == Value.type "int") = true := by
        simp only [List.all_toArray, List.all_map, List.all_eq_true]
        intro _ _
        rfl
      rw [h0]
      dsimp only
      rw [if_pos hall]
      refine wpAny_pure (wpAny_pure ?_)
      exact hq
  · by_cases c2 : (fs.toArray[0]?.bind id).isSome = true
    · refine ⟨general', .inr (.inl rfl), fun Q E hq => ?_⟩
      rw [keyKind'_eq, List.mapM_toArray, map_eq_pure_bind]
      refine wpAny_bind (wpAny_bind (f3 (wpAny_pure ?_)))
      rw [if_neg c1, if_pos c2]
      exact wpAny_pure hq
    · refine ⟨oneType', .inr (.inr rfl), fun Q E hq => ?_⟩
      rw [keyKind'_eq, List.mapM_toArray, map_eq_pure_bind]
      refine wpAny_bind (wpAny_bind (f3 (wpAny_pure ?_)))
      rw [if_neg c1, if_neg c2]
      have ty : ∀ v ∈ vs, ∀ (Q' : Value → Shared → Prop), Q' (.type "tuple") s → wpAny (model prog w) A (typeOf v) Q' E s := fun v hv Q' h => by
        obtain ⟨a, o, its, n, rfl, ho, hc, hd, hi⟩ := hp v hv
        refine PySem.W.Looks.here (show PySem.W.Looks (model prog w) s.heap (typeOf (.ref a)) o.cls from (PySem.W.Looks.ld ho).andThen .now) ?_
        rw [hc]
        exact h
      rw [oneTypeOnly'_eq, List.mapM_toArray, map_eq_pure_bind]
      refine wpAny_bind (wpAny_bind (wpAny_bind (PySem.W.kas_mapM (r := .type "tuple") _ ty (wpAny_pure ?_))))
      cases vs with
      | nil => cases h2
      | cons x xs =>
        have h0 : (List.map (fun _ => Value.type "tuple") (x :: xs)).toArray[0]? = some (Value.type "tuple") := by simp
        have hall : ((List.map (fun _ => Value.type "tuple") (x :: xs)).toArray.all fun x => x == Value.type "tuple") = true := by
          simp only [List.all_toArray, List.all_map, List.all_eq_true]
          intro _ _
          rfl
        rw [h0]
        dsimp only
        rw [if_pos hall]
        refine wpAny_pure ?_
        exact wpAny_pure hq
theorem lex_go {b : Bool} {Q : Bool → Shared → Prop} : ∀ {xs ys : List Value} {ns ms : List Int} (i : Nat), IntsAre xs ns → IntsAre ys ms → ∀ fin : Bool, Q (if ns.take ms.length = ms.take ns.length then fin else HT.lexLt ns ms) s → PySem.W.KatLex prog w A b fin Q (xs.zip ys) i s
  | [], _, _, _, i, .nil, _, fin, h => by
    rw [List.zip_nil_left]
    simp at h
    exact PySem.W.kat_nil h
  | _ :: _, [], _, _, i, .cons n t hx, .nil, fin, h => by
    rw [List.zip_nil_right]
    simp at h
    exact PySem.W.kat_nil h
  | _ :: xs, _ :: ys, _, _, i, .cons (ns := ns) n t hx, .cons (ns := ms) m u hy, fin, h => by
    rw [List.zip_cons_cons]
    refine PySem.W.kat_cons (SeqAt.EqAt.int_int n t m u prog w _ _ ?_)
    refine PySem.W.kat_go (fun e => ?_) (fun e => ?_)
    · have e : n = m := by simpa using e
      subst e
      refine PySem.W.kat_yes (lex_go (i + 1) hx hy fin ?_)
      rw [HT.lexLt_cons, if_pos rfl] at h
      simpa using h
    · have e : n ≠ m := by simpa using e
      refine PySem.W.kat_no (TS.oneLt_ints _ ?_)
      rw [HT.lexLt_cons, if_neg e] at h
      have : ¬ (n :: ns).take (m :: ms).length = (m :: ms).take (n :: ns).length := by
        simp [e]
      rw [if_neg this] at h
      exact h
theorem lex_fin : ∀ {ns ms : List Int}, ns.take ms.length = ms.take ns.length → HT.lexLt ns ms = decide (ns.length < ms.length)
  | [], [], _ => rfl
  | [], _ :: _, _ => by rw [HT.lexLt_nil_cons]; simp
  | _ :: _, [], _ => by rw [HT.lexLt_cons_nil]; simp
  | x :: ns, y :: ms, h => by
    simp at h
    rw [HT.lexLt_cons, if_pos h.1, lex_fin h.2]
    simp
theorem ints_len : ∀ {us : List Value} {ns : List Int}, IntsAre us ns → us.length = ns.length := by
  intro us ns h
  induction h with
  | nil => rfl
  | cons _ _ _ ih => rw [List.length_cons, List.length_cons, ih]
theorem w_cmp {κ : SortKind} (hk : κ = tuples' true ∨ κ = general' ∨ κ = oneType') {vs : List Value} {k : Value → List Int} (hu : A.units + 64 < cLine) (hp : ∀ v ∈ vs, IsW s.heap v (k v)) : Cmp prog w A s κ (fun p => p.1 ∈ vs) (lt2 fun v u => HT.lexLt (k v) (k u)) := by
  intro p q hm hm'
  have h1 := hp _ hm
  have h2 := hp _ hm'
  show wpAny (model prog w) A (keyLt' κ p.1 q.1) (fun r s' => s' = s ∧ r = HT.lexLt (k p.1) (k q.1)) (fun _ _ => False) s
  generalize k p.1 = ns at *
  generalize k q.1 = ms at *
  obtain ⟨a, o, its, n, e, ho, hc, hd, hi⟩ := h1
  obtain ⟨a', o', its', n', e', ho', hc', hd', hi'⟩ := h2
  rw [e, e']
  have cmp : wpAny (model prog w) A (compareOp .Lt (.ref a) (.ref a')) (PySem.W.BoolBack fun r s' => s' = s ∧ r = HT.lexLt ns ms) (fun _ _ => False) s := HT.lt_tupInts (items := its.toArray) (items2 := its'.toArray) ⟨o, ho, hc, n, hd⟩ ⟨o', ho', hc', n', hd'⟩ hi hi' (by omega) (show s = s ∧ _ from ⟨rfl, rfl⟩)
  rcases hk with rfl | rfl | rfl
  · refine PySem.W.kat_lt ho hd ho' hd' (lex_go 0 hi hi' _ ?_)
    refine ⟨rfl, ?_⟩
    split
    · rename_i h
      rw [lex_fin h, List.size_toArray, List.size_toArray, ints_len hi, ints_len hi']
    · rfl
  · exact PySem.W.kat_one _ _ cmp
  · rw [keyLt'_oneType, oneLt'_eq]
    simp only [if_true]
    refine wpAny_bind (wpAny_cRoomFor (by omega) ?_)
    obtain ⟨cls, dd, data, sl⟩ := o
    obtain ⟨cls2, dd2, data2, sl2⟩ := o'
    simp only at hc hd hc' hd'
    subst hc hd hc' hd'
    refine wpAny_bind (wpAny_callSpecialIfBound?_slot (T := "tuple") ⟨_, ho, rfl⟩ PySem.F.slot_tuple_lt (call_meets PySem.F.slot_tuple_lt ⟨_, ho, rfl⟩ PySem.F.entry_tuple_lt (PySem.F.args_tuple_lt_2 _ _) (HT.tuple_lt_ints a a' its.toArray its'.toArray n n' dd dd2 sl sl2 ns ms hi hi') ⟨ho, ho', ?_⟩))
    exact wpAny_truthy_bool ⟨rfl, rfl⟩
theorem w_sortable {a : Addr} {vs : List Value} {k : Value → List Int} (hu : A.units + 64 < cLine) (h2 : 2 ≤ vs.length) (hp : ∀ v ∈ vs, IsW s.heap v (k v)) (ha : ∀ o, s.heap.get? a = some o → o.cls ≠ .type "tuple") : SortableO prog w A s a vs fun v u => HT.lexLt (k v) (k u) := by
  intro h' keep
  have hp' : ∀ v ∈ vs, IsW h' v (k v) := fun v hm => (hp v hm).keeps fun b o e c => keep b o (fun z => by subst z; exact ha o e c) e
  obtain ⟨κ, hk, hq⟩ := w_kind (prog := prog) (w := w) (A := A) (s := { s with heap := h' }) h2 hp'
  exact ⟨κ, hq, w_cmp hk hu hp'⟩
end
end SW

namespace Sk
open PySem PySem.Spec PyProof.Rows SrtO L2 Ow
/-! sorted of words, of a dict's words; d.get(k, x) -/
def LexS (ms : List (List Int)) : Prop := ms.Pairwise fun x y => HT.lexLt y x = false
def rSortW (K : PySem.W.Frag) : List V → Hp → VK → Prop := fun vs H Q => ∃ (a : Addr) (xs : List V) (ks : List (List Int)), vs = [V.ref a] ∧ SqL K H a xs ∧ A2 (TI K H) xs ks ∧
  ∀ (ys : List V) (ms : List (List Int)) (p : Addr), A2 (TI K H) ys ms → ms.Perm ks → LexS ms → H p = none → Q (.ref p) (upd H p (.lst ys))
section
variable {X : Cx}
theorem w_all {pins : List (Addr × Obj)} {σ : L2.St} {H : Hp} {s : Shared} (I : Inv X pins σ H s) : ∀ {its : List Value} {xs : List V} {ks : List (List Int)}, Vals xs its → A2 (TI X.K H) xs ks → (∀ u ∈ its, ∃ a, u = Value.ref a) ∧ xs = its.map backV ∧ ks = its.map (SW.kw s.heap) ∧ (∀ u ∈ its, SW.IsW s.heap u (SW.kw s.heap u)) ∧ ∀ u ∈ its, TI X.K H (backV u) (SW.kw s.heap u)
  | [], [], [], _, _ => ⟨fun _ h => (by cases h), rfl, rfl, fun _ h => (by cases h), fun _ h => (by cases h)⟩
  | u :: its, x :: xs, k :: ks, .cons r rs, ⟨⟨q, e, hq⟩, hs⟩ => by
    obtain ⟨i1, i2, i3, i4, i5⟩ := w_all I rs hs
    subst e
    cases r
    obtain ⟨jts, r1, ⟨o, ho, hc, n, hd⟩, _⟩ := I.tuple hq
    have lw : SW.IsW s.heap (.ref q) k := ⟨q, o, jts, n, rfl, ho, hc, hd, intsAre_of r1⟩
    have ek := SW.kw_eq lw
    refine ⟨fun u hu => ?_, by rw [List.map_cons, ← i2]; rfl, by rw [List.map_cons, ← i3, ek], fun u hu => ?_, fun u hu => ?_⟩
    · rcases List.mem_cons.mp hu with rfl | hu
      · exact ⟨q, rfl⟩
      · exact i1 u hu
    · rcases List.mem_cons.mp hu with rfl | hu
      · rw [ek]
        exact lw
      · exact i4 u hu
    · rcases List.mem_cons.mp hu with rfl | hu
      · rw [ek]
        exact ⟨q, rfl, hq⟩
      · exact i5 u hu
theorem a2_mapW {R : V → List Int → Prop} {f : Value → V} {g : Value → List Int} : ∀ {l : List Value}, (∀ u ∈ l, R (f u) (g u)) → A2 R (l.map f) (l.map g)
  | [], _ => trivial
  | u :: l, h => ⟨h u (by simp), a2_mapW fun v hv => h v (by simp [hv])⟩
theorem cr_sortW (hu : X.A.units + 66 < cLine) : CallR X (.builtin "sorted") (rSortW X.K) := by
  intro pins s σ H vs us Q I r h
  obtain ⟨a, xs, ks, rfl, hs, hx, q⟩ := h
  obtain ⟨its, rv, hl, hz⟩ := I.list hs
  obtain ⟨u, rfl, ru⟩ := vals1 r
  obtain rfl : u = Value.ref a := ru
  obtain ⟨i1, i2, i3, i4, i5⟩ := w_all I rv hx
  refine sorted_ord (SW.lex_swo (SW.kw s.heap)) hl.isList (by rw [← rv.length]; exact hz) (fun h2 h₁ a ha kk => ?_) fun out h1 h2 => ?_
  · refine SW.w_sortable (s := { s with heap := h₁ }) (A := X.A.in1.in1) (show X.A.units + 1 + 1 + 64 < cLine by omega) h2 (fun v hm => (i4 v hm).keeps fun b o e _ => (kk b o e).2) fun o e => ?_
    have e' : some o = some (seqObj "list" its.toArray 0) := e.symm.trans ha
    cases e'
    intro c
    exact absurd (Value.type.inj c) (by decide)
  · have mem : ∀ u ∈ out, u ∈ its := fun u hu => h2.perm.mem_iff.mp hu
    have h3 : ∀ u ∈ out, ∃ a, u = Value.ref a := fun u hu => i1 u (mem u hu)
    obtain ⟨n, hn⟩ := sortedAll_at s.heap its out.toArray
    have hd : s.heap.objs.size ≤ s.heap.objs.size + 1 := Nat.le_succ _
    refine ⟨.ref (s.heap.objs.size + 1), upd H (s.heap.objs.size + 1) (.lst (out.map backV)), I.laid (t' := s.toks) (fun b o e => sortedAll_old e) hd ⟨?_, out, n, vals_back h3, hn⟩, rfl, q _ (out.map (SW.kw s.heap)) _ (a2_mapW fun u hu => i5 u (mem u hu)) (by rw [i3]; exact h2.perm.map _) (List.pairwise_map.mpr h1) (I.hok.fresh hd)⟩
    rw [List.length_map, h2.perm.length_eq, ← rv.length]
    exact hz
/-- sorted(d), the keys words -/
def rSortWG (X : Cx) : List V → Hp → VK → Prop := fun vs H Q => ∃ (d : Addr) (es : List GE) (ks : List (List Int)), vs = [V.ref d] ∧ DG X H d es ∧ es.map (·.1) = ks.map KK.w ∧ es.length < sizeLine ∧
  ∀ (ys : List V) (ms : List (List Int)) (p : Addr), A2 (TI X.K H) ys ms → ms.Perm ks → LexS ms → H p = none → Q (.ref p) (upd H p (.lst ys))
theorem keysA2 {K : PySem.W.Frag} {H : Hp} : ∀ {es : List GE} {ks : List (List Int)}, Ks K H es → es.map (·.1) = ks.map KK.w → A2 (TI K H) (es.map fun e => .ref e.2.1) ks
  | [], [], _, _ => trivial
  | [], _ :: _, _, h => by cases h
  | _ :: _, [], _, h => by cases h
  | e :: es, k :: ks, hk, h => by
    rw [List.map_cons, List.map_cons] at h
    injection h with h1 h2
    refine ⟨?_, keysA2 (fun x hx => hk x (by simp [hx])) h2⟩
    have := hk e (by simp)
    rw [h1] at this
    exact this
theorem cr_sortWG (hc : X.calm = true) (hu : X.A.units + 66 < cLine) : CallR X (.builtin "sorted") (rSortWG X) := by
  intro pins s σ H vs us Q I r h
  obtain ⟨d, es0, ks, rfl, hd, hks, hz0, q⟩ := h
  obtain ⟨u, rfl, ru⟩ := vals1 r
  obtain rfl : u = Value.ref d := ru
  obtain ⟨hs, hz, nd, o, es, ep, ho, hx, hdt, he⟩ := hd.phi I
  have l1 : es.size = es0.length := by
    have := congrArg List.length he
    simpa using this
  refine Calls.call_function_entry PyProof.Rows.kind_sorted PyProof.Rows.plain_sorted PyProof.Rows.entry_sorted (PyProof.Rows.args_sorted1 _) ?_
  unfold Builtin.«sorted»
  refine wpAny_bind (m := checkCount "sorted" 1 1 _) (wpAny_pure ?_)
  refine wpAny_bind (PySem.W.kdu_collect (A := X.A.in1) (kdl_raw hs hx hdt) (I.ok.hd hc) ho (by omega) fun h' tk acc' kp it => ?_)
  have ea : acc'.toList = es0.map fun x => Value.ref x.2.1 := by
    have hl : acc'.toList.length = es0.length := by rw [Array.length_toList, it.1]; exact l1
    apply List.ext_getElem?
    intro j
    rw [List.getElem?_map]
    cases hj : acc'.toList[j]? with
    | none =>
      have h1 := List.getElem?_eq_none_iff.mp hj
      rw [List.getElem?_eq_none (by omega)]
      all_goals rfl
    | some v =>
      obtain ⟨en, hen, hv⟩ := it.2 j v (by rw [← Array.getElem?_toList]; exact hj)
      have e1 : es.toList[j]? = some en := by rw [Array.getElem?_toList]; exact hen
      rw [he, List.getElem?_map, List.getElem?_map] at e1
      cases hb : es0[j]? with
      | none =>
        rw [hb] at e1
        exact nomatch e1
      | some b =>
        rw [hb] at e1
        have e2 := Option.some.inj e1
        rw [hv, ← e2]
        all_goals rfl
  have I1 : Inv X pins σ H { s with heap := h', toks := tk } := I.kept kp
  have rv : Vals (es0.map fun x => V.ref x.2.1) acc'.toList := by
    rw [ea]
    have := vals_refs (es0.map fun x => x.2.1)
    rw [List.map_map, List.map_map] at this
    exact this
  obtain ⟨i1, i2, i3, i4, i5⟩ := w_all I1 rv (keysA2 hd.2 hks)
  have al : acc'.toList.length = es0.length := by rw [ea, List.length_map]
  refine wpAny_bind (wpAny_newList ?_ (by rw [al]; omega))
  have hoL : (h'.push (seqObj "list" acc'.toList.toArray 0)).get? h'.objs.size = some (seqObj "list" acc'.toList.toArray 0) := Heap.get?_push_size _ rfl
  show wpAny _ _ _ _ _ { s with heap := h'.push (seqObj "list" acc'.toList.toArray 0), toks := tk }
  refine wpAny_bind (wpAny_holding (wpAny_call_entry PyProof.Rows.slot_list_sort ⟨_, hoL, rfl⟩ PyProof.Rows.entry_list_sort
    (list_sort_ord (s := { s with heap := h'.push (seqObj "list" acc'.toList.toArray 0), toks := tk }) (SW.lex_swo (SW.kw h')) hoL (by rw [al]; omega) (fun h2 => ?_) fun out h1 h2 => ⟨_, rfl, ?_⟩) (PyProof.Rows.args_list_sort _)))
  · refine SW.w_sortable (s := { s with heap := h'.push (seqObj "list" acc'.toList.toArray 0), toks := tk }) (by show X.A.units + 1 + 1 + 64 < cLine; omega) h2 (fun v hm => (i4 v hm).keeps fun b o e _ => Heap.get?_push_of_some _ e) fun o e => ?_
    have e' : some o = some (seqObj "list" acc'.toList.toArray 0) := e.symm.trans hoL
    cases e'
    intro c
    exact absurd (Value.type.inj c) (by decide)
  · have mem : ∀ u ∈ out, u ∈ acc'.toList := fun u hu => h2.perm.mem_iff.mp hu
    have h3 : ∀ u ∈ out, ∃ a, u = Value.ref a := fun u hu => i1 u (mem u hu)
    obtain ⟨n, hn⟩ := PyProof.Rows.sortedHeap_at (vs := acc'.toList) (out := out.toArray) hoL
    refine wpAny_pure ⟨_, rfl, .ref h'.objs.size, upd H h'.objs.size (.lst (out.map backV)), I1.laid (t' := tk) (fun b u e => ?_) (Nat.le_refl _) ⟨?_, out, n, vals_back h3, hn⟩, rfl, q _ (out.map (SW.kw h')) _ (a2_mapW fun u hu => i5 u (mem u hu)) (by rw [i3]; exact h2.perm.map _) (List.pairwise_map.mpr h1) (I1.hok.fresh (Nat.le_refl _))⟩
    · have hb : b < h'.objs.size := Heap.lt_size e
      rw [PyProof.Rows.sortedHeap_old (Nat.ne_of_lt hb) (by rw [size_push']; exact Nat.lt_succ_of_lt hb)]
      exact Heap.get?_push_of_some _ e
    · rw [List.length_map, h2.perm.length_eq, al]
      omega
end
section
variable {X : Cx} {o e f : Expr} {td ty tx : TE} {apos cpos : Pos}
/-- d.get(k, x) -/
def tGetG (X : Cx) (td ty tx : TE) : TE := fun σ H Q => td σ H fun x H1 => ∃ (d : Addr) (es1 : List GE), x = .ref d ∧ DG X H1 d es1 ∧ ty σ H1 fun y H2 => tx σ H2 fun z H3 => ∃ (a : Addr) (k : KK) (es : List GE), y = .ref a ∧ KK.At X.K H3 a k ∧ DG X H3 d es ∧
  (∀ e ∈ es, e.1.nk = k.nk → Q e.2.2.v H3) ∧ ((∀ e ∈ es, e.1.nk ≠ k.nk) → Q z H3)
theorem pe_getG (hu : X.A.units + 65 < cLine) (ho : PE X o td) (he : PE X e ty) (hf : PE X f tx) (m : L2.M2 X o "get" apos e f cpos) : PE X (.Call (.Attribute o "get" apos) [e, f] [] cpos) (tGetG X td ty tx) := by
  refine ⟨fun pins s σ H Q I h => ?_⟩
  refine wpAny_Call_method m.base m.few m.line PySem.F.plainAttrs_dict PySem.F.slot_dict_get PySem.F.type_dict_get (thn (ho.run pins s σ H _ I h) fun u s1 ⟨x, H1, I1, rx, d, es1, ex, hd, q1⟩ => ?_)
  subst ex
  obtain rfl : u = Value.ref d := rx
  have D := hd.of I1
  obtain ⟨sys, _, _, ob, es, ep, g1, g2, g3, g4⟩ := hd.phi I1
  refine ⟨D.typeIs, fun b eb => ?_, ?_⟩
  · cases eb
    exact ⟨ob, g1, g2.2.1⟩
  rw [m.trees]
  refine Calls.callWith_builtin rfl (Calls.evalArgs_plain (Calls.spliced_cons (thn (he.run pins s1 σ H1 _ I1 q1) fun iv s2 ⟨y, H2, I2, ry, q2⟩ =>
    Calls.spliced_cons (thn (hf.run pins s2 σ H2 _ I2 q2) fun fv s3 ⟨z, H3, I3, rz, a, k, es3, ey, hk, hd3, qa, qb⟩ => Calls.spliced_nil ?_))))
  subst ey
  cases ry
  have p := hd3.phi I3
  refine getOr_keyed (knd := nestedKind X.prog X.w) (k := k.nk) (kvs := pairsH (es3.map rawG)) (show X.A.units + 1 + 8 < cLine by omega) (kk_is I3 hk) p.1 ⟨_, hd3.of I3, rfl⟩ ?_
  rw [valG]
  by_cases h : ∃ e ∈ es3, e.1.nk = k.nk
  · obtain ⟨e, he, ek⟩ := h
    rw [atG_some p.2.2.1 he ek]
    exact ⟨e.2.2.v, H3, I3.tok _, pv_rel _, qa e he ek⟩
  · have h2 : ∀ e ∈ es3, e.1.nk ≠ k.nk := fun e he z => h ⟨e, he, z⟩
    rw [atG_none h2]
    exact ⟨z, H3, I3.tok _, rz, qb h2⟩
end
end Sk

namespace Sk
open PySem L2 Ow
open Rt (InJ NoJ)
/-! normal words in some letters, level by level -/
section
variable {n : Nat} {bs : List (List Int)} {J : List Nat}
/-- the normal word of a member made of letters of J has no others -/
theorem nf_inJ (va : Valid n bs) (hJ : Rt.In n J) {v us : List Nat} (hv : InJ J v) (nf : Rt.Nf n (mB bs) v us) : InJ J us := by
  have iv := hv.in_ hJ
  obtain ⟨r, jr, cr, lr⟩ := hv.short (sysN va) hJ
  obtain ⟨cu, lu⟩ := nf.cg iv
  intro x hx
  exact jr x (Rt.Le.mem (sysN va) (mB_one va) iv iv (Rt.Le.refl v) cr lr cu lu hx)
structure LvJ (n : Nat) (bs : List (List Int)) (J : List Nat) (i : Nat) (L : List (List Nat)) : Prop where
  nd : L.Nodup
  me : ∀ x, x ∈ L ↔ NW n bs x ∧ InJ J x ∧ x.length = i
theorem LvJ.zero (va : Valid n bs) : LvJ n bs J 0 [[]] := ⟨by simp, fun x => by
  rw [List.mem_singleton]
  constructor
  · rintro rfl
    exact ⟨NW.nil va, .nil, rfl⟩
  · rintro ⟨_, _, l⟩
    exact List.eq_nil_of_length_eq_zero l⟩
structure LvJIn (n : Nat) (bs : List (List Int)) (J : List Nat) (i : Nat) (seen : List Nat → Nat → Prop) (xs : List (List Nat)) : Prop where
  nd : xs.Nodup
  nw : ∀ x ∈ xs, NW n bs x ∧ InJ J x ∧ x.length = i + 1
  all : ∀ v s, seen v s → s ∈ J → ¬ Rt.len n (mB bs) (s :: v) < Rt.len n (mB bs) v → nfc n bs (s :: v) ∈ xs
theorem LvJIn.start {i : Nat} : LvJIn n bs J i (fun _ _ => False) [] := ⟨by simp, fun x hx => (by cases hx), fun _ _ h => h.elim⟩
theorem LvJIn.more {i : Nat} {seen seen' : List Nat → Nat → Prop} {xs : List (List Nat)} (va : Valid n bs) (hJ : Rt.In n J) (h : LvJIn n bs J i seen xs) {v : List Nat} {s : Nat} (hv : NW n bs v) (jv : InJ J v) (hl : v.length = i) (hs : s ∈ J) (no : ¬ Rt.len n (mB bs) (s :: v) < Rt.len n (mB bs) v) (new : nfc n bs (s :: v) ∉ xs) (st : ∀ a b, seen' a b → seen a b ∨ (a = v ∧ b = s)) : LvJIn n bs J i seen' (xs ++ [nfc n bs (s :: v)]) := by
  obtain ⟨a, b, _⟩ := NW.up va (hJ s hs) hv no
  have jn : InJ J (nfc n bs (s :: v)) := nf_inJ va hJ (v := s :: v) (fun x hx => by
    rcases List.mem_cons.mp hx with rfl | hx
    · exact hs
    · exact jv x hx) (nfc_nf va (hv.1.cons (hJ s hs)))
  refine ⟨?_, fun x hx => ?_, fun v' s' h' hs' no' => ?_⟩
  · rw [List.nodup_append]
    exact ⟨h.nd, by simp, fun x hx y hy z => new (by rw [List.mem_singleton] at hy; rw [← hy, ← z]; exact hx)⟩
  · rcases List.mem_append.mp hx with hx | hx
    · exact h.nw x hx
    · rw [List.mem_singleton.mp hx]
      exact ⟨a, jn, by omega⟩
  · rcases st _ _ h' with h' | ⟨rfl, rfl⟩
    · exact List.mem_append.mpr (.inl (h.all _ _ h' hs' no'))
    · exact List.mem_append.mpr (.inr (by simp))
theorem LvJIn.keep {i : Nat} {seen seen' : List Nat → Nat → Prop} {xs : List (List Nat)} (h : LvJIn n bs J i seen xs) {v : List Nat} {s : Nat} (old : Rt.len n (mB bs) (s :: v) < Rt.len n (mB bs) v ∨ nfc n bs (s :: v) ∈ xs) (st : ∀ a b, seen' a b → seen a b ∨ (a = v ∧ b = s)) : LvJIn n bs J i seen' xs :=
  ⟨h.nd, h.nw, fun v' s' h' hs' no' => by
    rcases st _ _ h' with h' | ⟨rfl, rfl⟩
    · exact h.all _ _ h' hs' no'
    · exact old.elim (fun z => absurd z no') id⟩
theorem LvJIn.done (va : Valid n bs) {i : Nat} {L xs : List (List Nat)} (l : LvJ n bs J i L) (h : LvJIn n bs J i (fun v s => v ∈ L ∧ s ∈ J) xs) : LvJ n bs J (i + 1) xs := by
  refine ⟨h.nd, fun x => ⟨h.nw x, fun ⟨hx, jx, hl⟩ => ?_⟩⟩
  cases x with
  | nil => cases hl
  | cons s y =>
    obtain ⟨hy, hs, hlt, _⟩ := hx.tail va
    have c := Rt.cons2 (m := mB bs) hs y
    have sJ := jx s (by simp)
    have jy : InJ J y := fun z hz => jx z (by simp [hz])
    rw [Rt.len_congr c] at hlt
    have m := h.all y s ⟨(l.me y).mpr ⟨hy, jy, by simpa using hl⟩, sJ⟩ sJ (by omega)
    have : nfc n bs (s :: y) = s :: y := (nfc_nf va (hy.1.cons hs)).det hx.2
    rwa [this] at m
theorem LvJ.uniq {i : Nat} {L M : List (List Nat)} (h : LvJ n bs J i L) (k : LvJ n bs J i M) : L.Perm M := (List.perm_ext_iff_of_nodup h.nd k.nd).mpr fun x => (h.me x).trans (k.me x).symm
/-- sorted, a level is one list -/
theorem LvJ.sorted {i : Nat} {L M : List (List Nat)} (h : LvJ n bs J i L) (k : LvJ n bs J i M) {ms ks : List (List Int)} (pm : ms.Perm (L.map castW)) (sm : LexS ms) (pk : ks.Perm (M.map castW)) (sk : LexS ks) : ms = ks :=
  SW.lex_uniq sm sk (pm.trans ((h.uniq k).map castW |>.trans pk.symm))
/-- the letters in front of a longer one lead back into the level -/
theorem LvJ.back (va : Valid n bs) {i : Nat} {L : List (List Nat)} (l : LvJ n bs J i L) {s : Nat} {y : List Nat} (hx : NW n bs (s :: y)) (jx : InJ J (s :: y)) (hl : (s :: y).length = i + 1) : y ∈ L := by
  obtain ⟨hy, _⟩ := hx.tail va
  exact (l.me y).mpr ⟨hy, fun z hz => jx z (by simp [hz]), by simpa using hl⟩
end
end Sk

namespace Sk
open PySem PySem.Spec PyProof.Rows SrtO L2 Ow
/-! d.values(), sorted, for words of any length; such a dict as a test -/
theorem vals_pv : ∀ es : List GE, Vals (es.map fun x => x.2.2.v) (es.map fun x => x.2.2.u)
  | [] => .nil
  | x :: es => .cons (pv_rel _) (vals_pv es)
def viewO (r d : Addr) : HO := .ext fun h => h.IsValuesView r d
theorem view_ok {P : Program} {w : World} {H : Hp} {r d : Addr} {h : Heap} (v : h.IsValuesView r d) : ObjOk P w H h r (viewO r d) :=
  ⟨v, v.elim fun o z => ⟨o, z.1⟩, fun _ _ ⟨o, z1, z2⟩ k => ⟨o, k o z1, z2⟩⟩
def tValsG (X : Cx) (td : TE) : TE := fun σ H Q => td σ H fun x H1 => ∃ (d : Addr) (xs : List GE), x = .ref d ∧ DG X H1 d xs ∧ ∀ r, H1 r = none → Q (.ref r) (upd H1 r (viewO r d))
theorem pe_valuesG {X : Cx} {o : Expr} {to : TE} {apos cpos : Pos} (ho : PE X o to)
    (h1 : attributeBase o "values" X.env (eval o X.env) = eval o X.env := by rfl) (h3 : (apos.endLine == cpos.line) = true := by rfl) : PE X (.Call (.Attribute o "values" apos) [] [] cpos) (tValsG X to) := by
  refine ⟨fun pins s σ H Q I h => ?_⟩
  refine wpAny_Call_method_late h1 (by rfl) h3 rfl (thn (ho.run pins s σ H _ I h) fun v s1 ⟨x, H1, I1, r1, d, xs, ex, hd, q⟩ => ?_)
  subst ex
  cases r1
  have D := hd.of I1
  obtain ⟨sys, _, _, ob, es, ep, g1, g2, g3, g4⟩ := hd.phi I1
  refine ⟨"dict", "dict.values", PySem.F.plainAttrs_dict, F.slot_dict_values, F.type_dict_values, D.typeIs, fun b eb => ?_, ?_⟩
  · cases eb
    exact ⟨ob, g1, g2.2.1⟩
  · refine Calls.callWith_builtin (by rfl) ?_
    show wpAny _ _ (evalArgs (Value.builtin "dict.values") true [] []) _ _ _
    refine PySem.evalArgs_none ?_
    refine call_meetsIn F.slot_dict_values D.typeIs F.entry_dict_values (F.args_dict_values_1 _) (meets_dict_values_raw d sys) ⟨⟨es, ep, ob, g1, g2, g3⟩, ?_⟩
    have fr := I1.fresh
    refine ⟨.ref s1.heap.objs.size, _, I1.laid (t' := s1.toks) (o := viewO s1.heap.objs.size d) (fun b u e => Heap.get?_push_of_some _ e) (Nat.le_refl _) ?_, rfl, q _ fr⟩
    exact view_ok ⟨_, Heap.get?_push_size _ rfl, rfl, rfl⟩
/-- sorted(view) -/
def rSortVG (X : Cx) : List V → Hp → VK → Prop := fun vs H Q => ∃ (r d : Addr) (es : List GE) (ks : List (List Int)), vs = [V.ref r] ∧ H r = some (viewO r d) ∧ DG X H d es ∧ A2 (TI X.K H) (es.map fun x => x.2.2.v) ks ∧ es.length < sizeLine ∧
  ∀ (ys : List V) (ms : List (List Int)) (p : Addr), A2 (TI X.K H) ys ms → ms.Perm ks → LexS ms → H p = none → Q (.ref p) (upd H p (.lst ys))
section
variable {X : Cx} {pins : List (Addr × Obj)} {σ : L2.St} {H : Hp} {s : Shared}
theorem cr_sortVG (hc : X.calm = true) (hu : X.A.units + 66 < cLine) : CallR X (.builtin "sorted") (rSortVG X) := by
  intro pins s σ H vs us Q I r h
  obtain ⟨r0, d, es0, ks, rfl, hr0, hd, hks, hz0, q⟩ := h
  obtain ⟨u, rfl, ru⟩ := vals1 r
  obtain rfl : u = Value.ref r0 := ru
  have hv0 : s.heap.IsValuesView r0 d := (I.hok _ _ hr0).1
  obtain ⟨hs, hz, nd, o, es, ep, ho, hx, hdt, he⟩ := hd.phi I
  have l1 : es.size = es0.length := by
    have := congrArg List.length he
    simpa using this
  refine Calls.call_function_entry PyProof.Rows.kind_sorted PyProof.Rows.plain_sorted PyProof.Rows.entry_sorted (PyProof.Rows.args_sorted1 _) ?_
  unfold Builtin.«sorted»
  refine wpAny_bind (m := checkCount "sorted" 1 1 _) (wpAny_pure ?_)
  refine wpAny_bind (PySem.W.kdu_collect (A := X.A.in1) (KdlSrc.rawValues (d := d) (r := r0) (es := es) (ep := ep)) (I.ok.hd hc) ⟨hv0, o, ho, hx, hdt⟩ (by omega) fun h' tk acc' kp it => ?_)
  have ea : acc'.toList = es0.map fun x => x.2.2.u := by
    have hl : acc'.toList.length = es0.length := by rw [Array.length_toList, it.1]; exact l1
    apply List.ext_getElem?
    intro j
    rw [List.getElem?_map]
    cases hj : acc'.toList[j]? with
    | none =>
      have h1 := List.getElem?_eq_none_iff.mp hj
      rw [List.getElem?_eq_none (by omega)]
      all_goals rfl
    | some v =>
      obtain ⟨hs2, hv⟩ := it.2 j v (by rw [← Array.getElem?_toList]; exact hj)
      have e1 : es.toList[j]? = some es[j] := by simp [hs2]
      rw [he, List.getElem?_map, List.getElem?_map] at e1
      cases hb : es0[j]? with
      | none =>
        rw [hb] at e1
        exact nomatch e1
      | some b =>
        rw [hb] at e1
        have e2 := Option.some.inj e1
        rw [hv, ← e2]
        all_goals rfl
  have I1 : Inv X pins σ H { s with heap := h', toks := tk } := I.kept kp
  have rv : Vals (es0.map fun x => x.2.2.v) acc'.toList := by
    rw [ea]
    exact vals_pv es0
  obtain ⟨i1, i2, i3, i4, i5⟩ := w_all I1 rv hks
  have al : acc'.toList.length = es0.length := by rw [ea, List.length_map]
  refine wpAny_bind (wpAny_newList ?_ (by rw [al]; omega))
  have hoL : (h'.push (seqObj "list" acc'.toList.toArray 0)).get? h'.objs.size = some (seqObj "list" acc'.toList.toArray 0) := Heap.get?_push_size _ rfl
  show wpAny _ _ _ _ _ { s with heap := h'.push (seqObj "list" acc'.toList.toArray 0), toks := tk }
  refine wpAny_bind (wpAny_holding (wpAny_call_entry PyProof.Rows.slot_list_sort ⟨_, hoL, rfl⟩ PyProof.Rows.entry_list_sort
    (list_sort_ord (s := { s with heap := h'.push (seqObj "list" acc'.toList.toArray 0), toks := tk }) (SW.lex_swo (SW.kw h')) hoL (by rw [al]; omega) (fun h2 => ?_) fun out h1 h2 => ⟨_, rfl, ?_⟩) (PyProof.Rows.args_list_sort _)))
  · refine SW.w_sortable (s := { s with heap := h'.push (seqObj "list" acc'.toList.toArray 0), toks := tk }) (by show X.A.units + 1 + 1 + 64 < cLine; omega) h2 (fun v hm => (i4 v hm).keeps fun b o e _ => Heap.get?_push_of_some _ e) fun o e => ?_
    have e' : some o = some (seqObj "list" acc'.toList.toArray 0) := e.symm.trans hoL
    cases e'
    intro c
    exact absurd (Value.type.inj c) (by decide)
  · have mem : ∀ u ∈ out, u ∈ acc'.toList := fun u hu => h2.perm.mem_iff.mp hu
    have h3 : ∀ u ∈ out, ∃ a, u = Value.ref a := fun u hu => i1 u (mem u hu)
    obtain ⟨n, hn⟩ := PyProof.Rows.sortedHeap_at (vs := acc'.toList) (out := out.toArray) hoL
    refine wpAny_pure ⟨_, rfl, .ref h'.objs.size, upd H h'.objs.size (.lst (out.map backV)), I1.laid (t' := tk) (fun b u e => ?_) (Nat.le_refl _) ⟨?_, out, n, vals_back h3, hn⟩, rfl, q _ (out.map (SW.kw h')) _ (a2_mapW fun u hu => i5 u (mem u hu)) (by rw [i3]; exact h2.perm.map _) (List.pairwise_map.mpr h1) (I1.hok.fresh (Nat.le_refl _))⟩
    · have hb : b < h'.objs.size := Heap.lt_size e
      rw [PyProof.Rows.sortedHeap_old (Nat.ne_of_lt hb) (by rw [size_push']; exact Nat.lt_succ_of_lt hb)]
      exact Heap.get?_push_of_some _ e
    · rw [List.length_map, h2.perm.length_eq, al]
      omega
end
/-- a dict as a test -/
def rTruG (X : Cx) : V → Hp → (Bool → Hp → Prop) → Prop := fun x H Q => ∃ (d : Addr) (xs : List GE), x = .ref d ∧ DG X H d xs ∧ Q (!xs.isEmpty) H
theorem tru_G {X : Cx} : TruR X (rTruG X) := by
  intro pins s σ H x v Q I rx h
  obtain ⟨d, xs, rfl, hd, q⟩ := h
  cases rx
  have D := hd.of I
  obtain ⟨sys, hz, _⟩ := hd.phi I
  have tl : typeLookup (.type "dict") ("__bool__" : Str) = pure none := by rfl
  unfold truthy
  refine wpAny_bind (wpAny_callSpecial?_none D.typeIs tl ?_)
  refine wpAny_bind (wpAny_specialOf D.typeIs F.slot_dict_len.lookup ?_)
  simp only [Option.isNone_some]
  refine wpAny_bind (PyProof.Rows.runValue_entry entry_len ?_)
  refine wpAny_bind (show wpAny _ _ (oneArg "len" { pos := [Value.ref d] }) _ _ _ from wpAny_pure ?_)
  refine wpAny_bind (wpAny_callSpecial?_slot D.typeIs F.slot_dict_len (len_keyed sys ⟨_, D, rfl⟩ ?_))
  have ix : ∀ (n : Int) (t : Tok), asIndex (.int n t) = pure n := fun n t => by rfl
  have ln : (pairsH (xs.map rawG)).length = xs.length := by simp [pairsH]
  rw [ln]
  simp only [ix]
  have lt : ¬ ((xs.length : Nat) : Int) ≥ 2 ^ 63 := by rw [sizeLine_eq] at hz; omega
  have l0 : ¬ ((xs.length : Nat) : Int) < 0 := by omega
  refine wpAny_bind (wpAny_holding (wpAny_pure ?_))
  refine wpAny_bind (wpAny_letGo ?_)
  simp only [lt, l0, if_false]
  refine wpAny_ret_mkInt ?_
  have e : (((xs.length : Nat) : Int) != 0) = !xs.isEmpty := by
    cases xs with
    | nil => rfl
    | cons x xs =>
      rw [List.isEmpty_cons, Bool.not_false, bne_iff_ne, List.length_cons]
      omega
  refine wpAny_pure ⟨H, I.tok _, ?_⟩
  rw [e]
  exact q
end Sk

namespace Sk
open PySem L2 Ow
open SL (cr_sortLW)
theorem u66 {A : Around} {k : Nat} (hr : Room k A) : A.units + 66 < cLine := by
  have := hr.un
  omega
abbrev Sorted (us : List (List Nat)) : Prop := us.Pairwise fun x y => SL.lwB (codeW y) (codeW x) = false
def spByLen (K : PySem.W.Frag) : Sp := fun vs H Q _ => ∃ (a : Addr) (xs : List V) (ks : List (List Nat)), vs = [.ref a] ∧ H a = some (.lst xs) ∧ A2 (TI K H) xs (ks.map castW) ∧ ks.length ≤ 1000 ∧ (∀ k ∈ ks, k.length ≤ 1000) ∧
  ∀ v out H', Same H H' → BsAt K H' v (out.map castW) → out.Perm ks → Sorted out → Q v H'
theorem A2.two {α : Type} {R : V → α → Prop} : ∀ {xs : List V} {ns : List α} {x : V} {n : α}, A2 R xs ns → R x n → A2 R (xs ++ [x]) (ns ++ [n])
  | [], [], _, _, _, h => ⟨h, trivial⟩
  | _ :: _, _ :: _, _, _, h, k => ⟨h.1, A2.two h.2 k⟩
  | [], _ :: _, _, _, h, _ => h.elim
  | _ :: _, [], _, _, h, _ => h.elim
def uncode (p : SL.LK) : List Nat := p.2.map Int.toNat
theorem uncode_code (u : List Nat) : uncode (codeW u) = u := by
  unfold uncode codeW castW
  rw [List.map_map]
  exact List.map_id'' (fun x => by simp) u
theorem codes_back {ms : List SL.LK} {ks : List (List Nat)} (p : ms.Perm (ks.map codeW)) : (ms.map uncode).Perm ks ∧ ms = (ms.map uncode).map codeW := by
  refine ⟨?_, ?_⟩
  · have := p.map uncode
    rw [List.map_map] at this
    have e : ks.map (uncode ∘ codeW) = ks := List.map_id'' (fun x => uncode_code x) ks
    rwa [e] at this
  · rw [List.map_map]
    have : ∀ m ∈ ms, codeW (uncode m) = m := fun m hm => by
      obtain ⟨k, _, rfl⟩ := List.mem_map.mp (p.mem_iff.mp hm)
      rw [uncode_code]
    conv => lhs; rw [← List.map_id ms]
    exact (List.map_congr_left fun m hm => this m hm).symm
theorem lwv_same {K : PySem.W.Frag} {H H' : Hp} (s : Same H H') {v : V} {k : SL.LK} (h : SL.LWv K H v k) : SL.LWv K H' v k := by
  obtain ⟨q, b, e, h1, h2⟩ := h
  exact ⟨q, b, e, sqT_same s h1, sqT_same s h2⟩
section
variable {P : Program} {w : World} {K : PySem.W.Frag} {mg : Str → Option Value} {base : Heap} {C : Addr}
theorem cal_by_length (T : Txt K mg C) : Cal P w K mg base "by_length" 1 (spByLen K) := by
  refine T.d_by_length.cal (ps := ["words"]) (fun f fd D => ?_) (fun _ _ _ _ _ _ us hl => match us, hl with | [_], _ => rfl)
  refine D.ok sc_by_length (fun vs H Q E h => ?_) (fun cdv A outer s H vs Q E hr h => ?_)
  · obtain ⟨_, _, _, rfl, _⟩ := h
    rfl
  · obtain ⟨a, xs, ks, rfl, ha, hx, kl, kb, k⟩ := h
    refine ⟨_, (pss_cons (ps_set (i := 1) sc_by_length.nd rfl (Or.inl rfl) (pe_callB (cr_sortLW (u66 hr)) (by rfl) T.b_sorted (by decide +kernel) (pa_cons (pe_lc (own := [("word", 2)]) (g := gName 2) (tt := tYes) rfl sc_by_length.nd (pi_list (pv 0)) (blkOk_by (own := [("word", 2)]) (N := ["words", "sized", "word", "_"]) (sc := defScope s_by_length) (by decide +kernel)) (fun _ _ _ _ _ => (pg_name (i := 2) sc_by_length.nd rfl (Or.inl rfl))) (fun _ _ _ _ _ => pts_nil) (fun _ _ _ _ _ => (pe_tup (pa_cons (pe_callB (show CallR _ (.builtin "len") (rLenQ K) from call_len_seq) (by rfl) T.b_len (by decide +kernel) (pa_cons (pv 2) pa_nil)) (pa_cons (pv 2) pa_nil))))) pa_nil)))
      (pss_one (ps_ret (pe_callTy call_tuple_of (by rfl) T.b_tuple (by decide +kernel) (pa_cons (pe_lc (own := [("_", 3), ("word", 2)]) (g := gTup K 2 (gCons (gName 3) (gCons (gName 2) (gNil)))) (tt := tYes) rfl sc_by_length.nd (pi_list (pv 1)) (blkOk_by (own := [("_", 3), ("word", 2)]) (N := ["words", "sized", "word", "_"]) (sc := defScope s_by_length) (by decide +kernel)) (fun _ _ _ _ _ => (pg_tup (by rfl) (pgs_cons (pg_name (i := 3) sc_by_length.nd rfl (Or.inl rfl)) (pgs_cons (pg_name (i := 2) sc_by_length.nd rfl (Or.inl rfl)) pgs_nil)))) (fun _ _ _ _ _ => pts_nil) (fun _ _ _ _ _ => (pv 2))) pa_nil))))), ?_⟩
    have xl := hx.len
    rw [List.length_map] at xl
    refine ⟨_, rfl, a, rfl, ⟨_, .of ha⟩, fun D nD => lc_it (walk_list (K := K) (a := a) (xs := xs)) (fun j H' => Same H H' ∧ ∃ ys, H' D = some (.lst ys) ∧ A2 (SL.LWv K H') ys ((ks.take j).map codeW)) ⟨same_new nD, [], upd_same, trivial⟩ (fun j H' _ h => .of (h.1 _ _ ha)) ?_ ?_⟩
    · rintro j x H4' H4 hj ⟨s4, ys, hD, hy⟩ ⟨e4, hxj⟩
      subst e4
      obtain ⟨n0, en, tn⟩ := hx.get hxj
      rw [List.getElem?_map] at en
      cases eu : ks[j]? with
      | none => rw [eu] at en; cases en
      | some u =>
        rw [eu] at en
        obtain rfl : n0 = castW u := (Option.some.inj en).symm
        obtain ⟨b, rfl, hb⟩ := tn.same s4
        have ul := kb u (List.mem_of_getElem? eu)
        have yl := hy.len
        rw [List.length_map, List.length_take] at yl
        refine ⟨rfl, ?_⟩
        refine ⟨_, rfl, b, _, rfl, .inr hb, _, rfl, ⟨show 2 ≤ sizeLine by decide, fun t nt => ?_⟩⟩
        have st := same_new (o := .tup [.int (((castW u).map V.int).length : Nat), .ref b]) nt
        refine ⟨_, st _ _ hD, small1000 (by omega), ?_⟩
        have oD : Off D (upd H4 t (.tup [.int (((castW u).map V.int).length : Nat), .ref b])) (upd (upd H4 t (.tup [.int (((castW u).map V.int).length : Nat), .ref b])) D (.lst (ys ++ [.ref t]))) := off_upd
        have sAll := same_off nD (s4.trans st) oD
        have keep : ∀ {q : Addr} {zs : List V}, SqT K (upd H4 t (.tup [.int (((castW u).map V.int).length : Nat), .ref b])) q zs → SqT K (upd (upd H4 t (.tup [.int (((castW u).map V.int).length : Nat), .ref b])) D (.lst (ys ++ [.ref t]))) q zs := fun h => oD.sqT (st _ _ hD) h
        refine ⟨sAll, _, upd_same, ?_⟩
        rw [take_snoc eu, List.map_append]
        refine A2.two (hy.imp fun v k h => ?_) ?_
        · obtain ⟨q, b', e, h1, h2⟩ := lwv_same st h
          exact ⟨q, b', e, keep h1, keep h2⟩
        · refine ⟨t, b, rfl, ?_, keep (sqT_same st hb)⟩
          have e2 : (((castW u).map V.int).length : Nat) = u.length := by rw [List.length_map, cast_len']
          show SqT K _ t [.int ((u.length : Nat) : Int), .ref b]
          rw [← e2]
          exact keep (.of upd_same)
    · rintro H4 ⟨s4, ys, hD, hy⟩
      rw [xl, List.take_length] at hy
      refine ⟨D, ys, _, rfl, .of hD, hy, fun zs ms p hz pm so np => ?_⟩
      obtain ⟨po, eo⟩ := codes_back pm
      have sp := same_new (o := .lst zs) np
      have ol := po.length_eq
      have zl := hz.len
      have ml : ms.length = ks.length := by have := pm.length_eq; rwa [List.length_map] at this
      have hp : (upd H4 p (.lst zs)) p = some (.lst zs) := upd_same
      have hz' := hz.imp fun v k h => lwv_same sp h
      have s5 := s4.trans sp
      generalize upd H4 p (.lst zs) = H5 at *
      refine ⟨_, rfl, p, rfl, ⟨_, .of hp⟩, fun D2 nD2 => lc_it (walk_list (K := K) (a := p) (xs := zs)) (fun j H' => Same H5 H' ∧ ∃ ys, H' D2 = some (.lst ys) ∧ A2 (TI K H') ys ((ms.take j).map (·.2))) ⟨same_new nD2, [], upd_same, trivial⟩ (fun j H' _ h => .of (h.1 _ _ hp)) ?_ ?_⟩
      · rintro j x H6' H6 hj ⟨s6, ys2, hD2, hy2⟩ ⟨e6, hxj⟩
        subst e6
        obtain ⟨m, em, tm⟩ := hz'.get hxj
        obtain ⟨q, b, rfl, hq, hb⟩ := lwv_same s6 tm
        have yl := hy2.len
        rw [List.length_map, List.length_take] at yl
        refine ⟨_, _, rfl, hq, rfl, _, _, rfl, _, _, rfl, rfl, rfl, ?_⟩
        have oD : Off D2 H6 (upd H6 D2 (.lst (ys2 ++ [.ref b]))) := off_upd
        refine ⟨_, rfl, _, hD2, small1000 (by omega), same_off nD2 s6 oD, _, upd_same, ?_⟩
        rw [take_snoc em, List.map_append]
        exact A2.two (hy2.imp fun v k h => oD.ti hD2 h) (oD.ti hD2 ⟨b, rfl, hb⟩)
      · rintro H6 ⟨s6, ys2, hD2, hy2⟩
        rw [zl, List.take_length] at hy2
        refine ⟨D2, _, rfl, .inl ⟨.of hD2, fun t nt => ?_⟩⟩
        have st := same_new (o := .tup ys2) nt
        have e3 : ms.map (·.2) = (ms.map uncode).map castW := by
          conv => lhs; rw [eo, List.map_map]
          rfl
        refine k _ (ms.map uncode) _ (s5.trans (s6.trans st)) ⟨t, _, rfl, .of upd_same, ?_⟩ po ?_
        · rw [← e3]
          exact (hy2.imp fun v k h => h.same st).tis
        · have so2 := so
          rw [eo] at so2
          exact List.pairwise_map.mp so2
end
theorem nf_len' {n : Nat} {bs : List (List Int)} (va : Valid n bs) {v : List Nat} (hv : Rt.In n v) : (nfc n bs v).length ≤ v.length := by
  have := ((nfc_nf va hv).cg hv).2
  rw [this]
  exact Rt.len_self v
end Sk

namespace Sk
open PySem L2 Ow
open Rt (InJ NoJ)
def tDP (P : Program) (Wo : World) : TE := fun _ H Q => ∀ p, H p = none → Q (.ref p) (upd H p (.ext (phiG P Wo p [])))
theorem pe_dnewP {X : Cx} {pos : Pos} (P : Program) (Wo : World) (hP : X.prog = P) (hW : X.w = Wo) : PE X (.Dict [] [] pos) (tDP P Wo) := by
  subst hP
  subst hW
  exact pe_dnewG
abbrev stN (bs : List (List Int)) (n : Nat) : List Nat → List (List Int) := fun v => stOf bs n (castW v)
structure LevAt (K : PySem.W.Frag) (H : Hp) (xs : List GE) (bs : List (List Int)) (n : Nat) (L : List (List Nat)) : Prop where
  ks : Ks K H xs
  ky : xs.map (·.1) = L.map fun v => KK.s (stN bs n v)
  vl : A2 (TI K H) (xs.map fun x => x.2.2.v) (L.map castW)
section
variable {K : PySem.W.Frag} {H H' : Hp} {xs : List GE} {bs : List (List Int)} {n : Nat} {L : List (List Nat)}
theorem LevAt.same (h : LevAt K H xs bs n L) (s : Same H H') : LevAt K H' xs bs n L := ⟨fun x hx => (h.ks x hx).same s, h.ky, h.vl.imp fun _ _ z => z.same s⟩
theorem LevAt.off {D : Addr} {u : HO} (h : LevAt K H xs bs n L) (o : Off D H H') (hD : H D = some u) (e : IsE u) : LevAt K H' xs bs n L := ⟨fun x hx => offE_kk o hD e (h.ks x hx), h.ky, h.vl.imp fun _ _ z => offE_ti o hD e z⟩
theorem LevAt.len (h : LevAt K H xs bs n L) : xs.length = L.length := by
  have := congrArg List.length h.ky
  simpa using this
theorem LevAt.nth (h : LevAt K H xs bs n L) {i : Nat} {e : GE} (he : xs[i]? = some e) : ∃ v, L[i]? = some v ∧ e.1 = .s (stN bs n v) ∧ BsAt K H (.ref e.2.1) (stN bs n v) ∧ TI K H e.2.2.v (castW v) := by
  have q : (xs.map (·.1))[i]? = some e.1 := by rw [List.getElem?_map, he]; rfl
  rw [h.ky, List.getElem?_map] at q
  cases hv : L[i]? with
  | none => rw [hv] at q; cases q
  | some v =>
    rw [hv] at q
    have e1 : e.1 = .s (stN bs n v) := (Option.some.inj q).symm
    obtain ⟨c, ec, tc⟩ := h.vl.get (i := i) (x := e.2.2.v) (by rw [List.getElem?_map, he]; rfl)
    rw [List.getElem?_map, hv] at ec
    obtain rfl : c = castW v := (Option.some.inj ec).symm
    have kk := h.ks e (List.mem_of_getElem? he)
    rw [e1] at kk
    exact ⟨v, rfl, e1, kk, tc⟩
theorem LevAt.to {e : GE} (h : LevAt K H xs bs n L) (he : e ∈ xs) : ∃ v ∈ L, e.1 = .s (stN bs n v) ∧ TI K H e.2.2.v (castW v) := by
  obtain ⟨i, hi, rfl⟩ := List.mem_iff_getElem.mp he
  obtain ⟨v, ev, e1, _, t⟩ := h.nth (List.getElem?_eq_getElem hi)
  exact ⟨v, List.mem_of_getElem? ev, e1, t⟩
theorem LevAt.from {v : List Nat} (h : LevAt K H xs bs n L) (hv : v ∈ L) : ∃ e ∈ xs, e.1 = .s (stN bs n v) ∧ TI K H e.2.2.v (castW v) := by
  obtain ⟨i, hi, rfl⟩ := List.mem_iff_getElem.mp hv
  have hx : i < xs.length := by rw [h.len]; exact hi
  obtain ⟨v, ev, e1, _, t⟩ := h.nth (List.getElem?_eq_getElem hx)
  rw [List.getElem?_eq_getElem hi] at ev
  obtain rfl := Option.some.inj ev
  exact ⟨_, List.getElem_mem hx, e1, t⟩
theorem LevAt.snoc (h : LevAt K H xs bs n L) {a b : Addr} {v : List Nat} (hb : BsAt K H (.ref a) (stN bs n v)) (ht : TI K H (.ref b) (castW v)) : LevAt K H (xs ++ [(.s (stN bs n v), a, .at_ b)]) bs n (L ++ [v]) := by
  refine ⟨fun x hx => ?_, by rw [List.map_append, List.map_append, h.ky]; rfl, ?_⟩
  · rcases List.mem_append.mp hx with hx | hx
    · exact h.ks x hx
    · rw [List.mem_singleton.mp hx]
      exact hb
  · rw [List.map_append, List.map_append]
    exact A2.two h.vl ht
end
theorem LvJIn.mono {n : Nat} {bs : List (List Int)} {J : List Nat} {i : Nat} {seen seen' : List Nat → Nat → Prop} {xs : List (List Nat)} (h : LvJIn n bs J i seen xs) (m : ∀ a b, seen' a b → seen a b) : LvJIn n bs J i seen' xs := ⟨h.nd, h.nw, fun v s z => h.all v s (m v s z)⟩
def spNextJ (P : Program) (Wo : World) (K : PySem.W.Frag) : Sp := fun vs H Q _ => ∃ (kv jv : V) (d : Addr) (n : Nat) (bs : List (List Int)) (J : List Nat) (i : Nat) (xs : List GE) (L : List (List Nat)), vs = [kv, .ref d, jv] ∧ LkAt K H kv (lkOf bs n) ∧ TI K H jv (castW J) ∧ H d = some (.ext (phiG P Wo d xs)) ∧ LevAt K H xs bs n L ∧ LvJ n bs J i L ∧ Valid n bs ∧ Rt.In n J ∧ J.length ≤ 4 ∧ i ≤ 40 ∧ L.length ≤ 200 ∧
  ∀ (r : Addr) (ys : List GE) (L' : List (List Nat)) H', Same H H' → H r = none → H' r = some (.ext (phiG P Wo r ys)) → LevAt K H' ys bs n L' → LvJ n bs J (i + 1) L' → L'.length ≤ 4 * L.length → Q (.ref r) H'
section
variable {P : Program} {Wo : World} {K : PySem.W.Frag} {mg : Str → Option Value} {base : Heap} {C : Addr}
theorem cal_next_level_by (T : Txt K mg C) : Cal P Wo K mg base "next_level_by" 4 (spNextJ P Wo K) := by
  refine T.d_next_level_by.cal (ps := ["links", "level", "letters"]) (fun f fd D => ?_) (fun _ _ _ _ _ _ us hl => match us, hl with | [_, _, _], _ => rfl)
  refine D.ok sc_next_level_by (fun vs H Q E h => ?_) (fun cdv A outer s H vs Q E hr h => ?_)
  · obtain ⟨_, _, _, _, _, _, _, _, _, rfl, _⟩ := h
    rfl
  · obtain ⟨kv, _, d, n, bs, J, lvl, xs, L, rfl, hlk, ⟨ja, rfl, hja⟩, hd, hL, LL, va, hJ, jl, i40, l200, k⟩ := h
    refine ⟨_, (pss_cons (ps_set (i := 3) sc_next_level_by.nd rfl (Or.inl rfl) (pe_dnewP P Wo rfl rfl))
      (pss_cons (ps_lock (ps_for PassesOwn.never rfl (pi_keysG (pv 1)) (pg_name (i := 4) sc_next_level_by.nd rfl (Or.inl rfl)) (pss_one (ps_for PassesOwn.never rfl (pi_tup (pv 2)) (pg_name (i := 5) sc_next_level_by.nd rfl (Or.inl rfl)) (pss_one (ps_if (pt_not (pt_val (pe_cal (cal_is_below T) (hr.mono (by decide)) (by rfl) (pa_cons (pe_ix ix_tup (pv 4) (pv 5) (fun _ _ => rfl)) pa_nil)))) (pss_cons (ps_set (i := 6) sc_next_level_by.nd rfl (Or.inl rfl) (pe_cal (cal_put_ahead T) (hr.mono (by decide)) (by rfl) (pa_cons (pv 0) (pa_cons (pv 4) (pa_cons (pv 5) pa_nil)))))
      (pss_one (ps_if (pt_cmpR (op_notInG (u65 hr)) (pv 6) (pv 3) (by rfl)) (pss_cons (ps_set (i := 7) sc_next_level_by.nd rfl (Or.inl rfl) (pe_ix ix_list (pe_cal (cal_left_of T) (hr.mono (by decide)) (by rfl) (pa_cons (pv 6) pa_nil)) pe_int (fun _ _ => rfl)))
      (pss_cons (ps_set (i := 8) sc_next_level_by.nd rfl (Or.inl rfl) (pe_ix (ix_G (u65 hr)) (pv 1) (pe_cal (cal_put_ahead T) (hr.mono (by decide)) (by rfl) (pa_cons (pv 0) (pa_cons (pv 6) (pa_cons (pv 7) pa_nil)))) (fun _ _ => rfl)))
      (pss_one (ps_asg (pe_tup (pa_cons (pv 7) (StX.pa_star (pv 8) pa_nil))) (pg_sub (pv 3) (pv 6) (set_G (u65 hr))))))) pss_nil))) pss_nil))))))
      (pss_one (ps_ret (pv 3))))), ?_⟩
    have n4 := va.hi
    have n1 := va.lo
    intro D nD
    have sD := same_new (o := .ext (phiG P Wo D [])) nD
    have ne : d ≠ D := ne_of_none hd nD
    refine ⟨d, _, sD _ _ hd, trivial, fun od => ?_⟩
    have jll : ((castW J).map V.int).length = J.length := by rw [List.length_map, cast_len']
    have Lx := hL.len
    refine ⟨_, rfl, d, od, xs, rfl, upd_same, for_it walk_G (fun i σ H' => (∃ v4 v5 v6 v7 v8 : Option V, σ = [some kv, some (.ref d), some (.ref ja), some (.ref D), v4, v5, v6, v7, v8]) ∧ Off d H H' ∧ H' d = some (.frz od (.ext (phiG P Wo d xs))) ∧ ∃ ys F, H' D = some (.ext (phiG P Wo D ys)) ∧ LevAt K H' ys bs n F ∧ LvJIn n bs J lvl (fun v s => v ∈ L.take i ∧ s ∈ J) F ∧ F.length ≤ 4 * i) ⟨⟨_, _, _, _, _, rfl⟩, ?_, upd_same, [], [], ?_, ⟨fun x hx => (by cases hx), rfl, trivial⟩, LvJIn.start.mono (fun a b z => (by cases z.1)), Nat.zero_le _⟩ (fun i σ H' _ h => h.2.2.1) ?_ ?_⟩
    · exact (Off.of_same sD).trans off_upd
    · rw [upd_ne ne.symm]
      exact upd_same
    · rintro i y σ H2 H3 hi ⟨⟨v4, v5, v6, v7, v8, rfl⟩, o2, hd2, ys, F, hD2, hF, FI, fl⟩ ⟨rfl, e, ee, rfl⟩
      obtain ⟨v, ev, ek, kb, _⟩ := (hL.off o2 hd (.inl ⟨_, rfl⟩)).nth ee
      have vin : v ∈ L := List.mem_of_getElem? ev
      obtain ⟨nv, jv, vl⟩ := (LL.me v).mp vin
      have il := (List.getElem?_eq_some_iff.mp ev).1
      refine ⟨_, rfl, ja, rfl, ⟨_, offE_sq o2 hd (.inl ⟨_, rfl⟩) hja⟩, for_tup (K := K) (a := ja) (xs := (castW J).map V.int) (fun j σ H' => (∃ v5 v6 v7 v8 : Option V, σ = [some kv, some (.ref d), some (.ref ja), some (.ref D), some (.ref e.2.1), v5, v6, v7, v8]) ∧ Off d H H' ∧ H' d = some (.frz od (.ext (phiG P Wo d xs))) ∧ ∃ ys F, H' D = some (.ext (phiG P Wo D ys)) ∧ LevAt K H' ys bs n F ∧ LvJIn n bs J lvl (fun a s => (a ∈ L.take i ∧ s ∈ J) ∨ (a = v ∧ s ∈ J.take j)) F ∧ F.length ≤ 4 * i + j) ⟨⟨_, _, _, _, rfl⟩, o2, hd2, ys, F, hD2, hF, FI.mono (fun a b z => z.elim id fun z => (by cases z.2)), by omega⟩ (fun j σ H' _ h => offE_sq h.2.1 hd (.inl ⟨_, rfl⟩) hja) ?_ ?_⟩
      · rintro j x σ H4 hj ⟨⟨v5, v6, v7, v8, rfl⟩, o4, hd4, ys, F, hD4, hF4, FI4, fl4⟩
        obtain ⟨c, hc, rfl⟩ := castW_get hj
        have cJ := List.mem_of_getElem? hc
        have cn := hJ c cJ
        have jlt := (List.getElem?_eq_some_iff.mp hc).1
        have lk4 : LkAt K H4 kv (lkOf bs n) := offE_lk o4 hd (.inl ⟨_, rfl⟩) hlk
        have kb4 : BsAt K H4 (.ref e.2.1) (stN bs n v) := by
          obtain ⟨v', ev', _, kb', _⟩ := (hL.off o4 hd (.inl ⟨_, rfl⟩)).nth ee
          rw [ev] at ev'
          cases ev'
          exact kb'
        obtain ⟨a, b, e1, fn, e2⟩ := st_fineN (bs := bs) va nv.1 (by omega) cn
        obtain ⟨sa, sx, esa, hsa, hsx⟩ := id kb4
        obtain ⟨xv, ex, tx⟩ := (A2.of_tis hsx).at_ e1
        have low := st_low va nv.1 cn
        rw [e2] at low
        cases esa
        have step : ∀ a' b', ((a' ∈ L.take i ∧ b' ∈ J) ∨ (a' = v ∧ b' ∈ J.take (j + 1))) → ((a' ∈ L.take i ∧ b' ∈ J) ∨ (a' = v ∧ b' ∈ J.take j)) ∨ (a' = v ∧ b' = c) := fun a' b' z => by
          rcases z with z | ⟨z1, z2⟩
          · exact .inl (.inl z)
          · rw [take_snoc hc, List.mem_append, List.mem_singleton] at z2
            rcases z2 with z2 | z2
            · exact .inl (.inr ⟨z1, z2⟩)
            · exact .inr ⟨z1, z2⟩
        refine ⟨_, rfl, _, rfl, _, _, _, _, rfl, rfl, hsa, at_of (j := c) rfl ex, xv, _, rfl, tx, rfl, fn, _, rfl, ?_⟩
        by_cases hb : bel [a, b] = true
        · rw [hb]
          exact iteF ⟨⟨_, _, _, _, rfl⟩, o4, hd4, ys, F, hD4, hF4, FI4.keep (.inl (low.mp hb)) step, by omega⟩
        · have hb' : bel [a, b] = false := by cases z : bel [a, b] with
            | true => exact absurd z hb
            | false => rfl
          have no : ¬ Rt.len n (mB bs) (c :: v) < Rt.len n (mB bs) v := fun z => hb (low.mpr z)
          rw [hb']
          refine iteT ?_
          refine ⟨_, rfl, _, rfl, _, rfl, kv, .ref e.2.1, (c : Nat), n, lkOf bs n, stN bs n v, rfl, lk4, kb4, lkN va, stOkN _, by omega, by omega, fun v5' H5 s5 b5 => ?_⟩
          rw [← st_cons] at b5
          obtain ⟨nx, xl, xc⟩ := NW.up va cn nv no
          have ix := nv.1.cons cn
          have ekx : stOf bs n (castW (c :: v)) = stN bs n (nfc n bs (c :: v)) := st_of_cg va ix nx.1 xc
          rw [ekx] at b5
          have jx : InJ J (nfc n bs (c :: v)) := nf_inJ va hJ (v := c :: v) (fun z hz => by
            rcases List.mem_cons.mp hz with rfl | hz
            · exact cJ
            · exact jv z hz) (nfc_nf va ix)
          obtain ⟨ka, ksx, rfl, hks, tks⟩ := id b5
          have hD5 := s5 _ _ hD4
          have hd5 := s5 _ _ hd4
          have hF5 := hF4.same s5
          have o5 := o4.trans (.of_same s5)
          have Fl := hF5.len
          refine ⟨_, rfl, _, rfl, ka, D, .s (stN bs n (nfc n bs (c :: v))), ys, rfl, rfl, b5, ⟨.inl hD5, hF5.ks⟩, fun hin => ?_, fun hno => ?_⟩
          · obtain ⟨en, hen, een⟩ := hin
            obtain ⟨u, hu, eu, _⟩ := hF5.to hen
            rw [eu] at een
            have es := nkS_inj een
            have nu := (FI4.nw u hu).1
            have : u = nfc n bs (c :: v) := (nu.eq va nx).mpr ((st_iff va nu.1 nx.1).mp es)
            rw [this] at hu
            exact ⟨_, rfl, iteF ⟨⟨_, _, _, _, rfl⟩, o5, hd5, ys, F, hD5, hF5, FI4.keep (.inr hu) step, by omega⟩⟩
          · refine ⟨_, rfl, iteT ?_⟩
            have new : nfc n bs (c :: v) ∉ F := fun hin => by
              obtain ⟨e3, he3, ek3, _⟩ := hF5.from hin
              exact hno e3 he3 (by rw [ek3])
            cases hx : nfc n bs (c :: v) with
            | nil => rw [hx] at xl; cases xl
            | cons s0 y =>
              rw [hx] at b5 nx xl xc jx new
              have jback : y ∈ L := LL.back va nx jx (by rw [xl, vl])
              have nwx := nw_of va nx.1 nx.2 (by rw [xl]; omega)
              have s0n := nx.1 s0 (by simp)
              have xlen : (s0 :: y).length ≤ 41 := by omega
              refine ⟨_, rfl, .ref ka, stN bs n (s0 :: y), n, rfl, b5, stOkN _, by omega, fine_word va (show Rt.In (n : Int).toNat (s0 :: y) from nx.1) (by omega), fun a6 H6 s6 n6 ha6 => ?_⟩
              obtain ⟨rr, hlf⟩ : ∃ r, lefts (stN bs n (s0 :: y)) = ((s0 : Nat) : Int) :: r := by
                have h : Runs (lkOf bs n) (stN bs n (s0 :: y)) (((s0 : Nat) : Int) :: castW y) := nwx
                cases h with
                | step _ e _ => exact ⟨_, e⟩
              rw [hlf] at ha6
              refine ⟨_, _, _, _, rfl, rfl, .of ha6, at_of (j := 0) rfl rfl, ?_⟩
              have lk6 : LkAt K H6 kv (lkOf bs n) := (lk4.same s5).same s6
              refine ⟨_, rfl, _, rfl, _, rfl, _, rfl, kv, .ref ka, ((s0 : Nat) : Int), n, lkOf bs n, stN bs n (s0 :: y), rfl, lk6, b5.same s6, lkN va, stOkN _, by omega, by omega, fun v7 H7 s7 b7 => ?_⟩
              rw [← st_cons] at b7
              have iy := nx.1.tail
              have eky : stOf bs n (castW (s0 :: s0 :: y)) = stN bs n y := st_of_cg va (nx.1.cons s0n) iy (Rt.cons2 s0n y)
              rw [eky] at b7
              obtain ⟨kb7, ks7, rfl, _, _⟩ := id b7
              have hd7 := s7 _ _ (s6 _ _ hd5)
              have o7 := o5.trans (.of_same (s6.trans s7))
              have hL7 := hL.off o7 hd (.inl ⟨_, rfl⟩)
              obtain ⟨en, hen, een, ten⟩ := hL7.from jback
              refine ⟨kb7, d, .s (stN bs n y), xs, en, rfl, rfl, b7, ⟨.inr ⟨_, hd7⟩, hL7.ks⟩, hen, by rw [een], ?_⟩
              obtain ⟨ra, era, rq⟩ := ten
              rw [era]
              have D7 : H7 D = some (.ext (phiG P Wo D ys)) := s7 _ _ (s6 _ _ hD5)
              have hF7 := (hF5.same s6).same s7
              refine ⟨_, rfl, _, rfl, ra, _, rfl, .inl rq, ⟨szl (by simp only [List.length_cons, List.length_append, List.length_nil, List.length_map, cast_len'] at xlen ⊢; omega), fun p8 n8 => ?_⟩⟩
              have s8 := same_new (o := .tup (.int ((s0 : Nat) : Int) :: ((castW y).map V.int ++ []))) n8
              have D8 := s8 _ _ D7
              have hF8 := hF7.same s8
              have b8 := ((b5.same s6).same s7).same s8
              have t8 : TI K (upd H7 p8 (.tup (.int ((s0 : Nat) : Int) :: ((castW y).map V.int ++ [])))) (.ref p8) (castW (s0 :: y)) := ⟨p8, rfl, by
                have e9 : V.int ((s0 : Nat) : Int) :: ((castW y).map V.int ++ []) = (castW (s0 :: y)).map V.int := by
                  rw [List.append_nil]
                  rfl
                rw [← e9]
                exact .of upd_same⟩
              have hd8 := s8 _ _ hd7
              have o8 := o7.trans (.of_same s8)
              refine ⟨_, rfl, _, rfl, ka, D, .at_ p8, .s (stN bs n (s0 :: y)), ys, rfl, rfl, rfl, b8, ⟨.inl D8, hF8.ks⟩, D8, small1000 (by omega), fun _ => ?_, fun e1 he1 ek1 => ?_⟩
              · have oD : Off d H (upd (upd H7 p8 (.tup (.int ((s0 : Nat) : Int) :: ((castW y).map V.int ++ [])))) D (.ext (phiG P Wo D (ys ++ [(.s (stN bs n (s0 :: y)), ka, .at_ p8)])))) := fun q o nq e => by
                  rw [upd_ne (ne_of_none e nD)]
                  exact o8 q o nq e
                refine ⟨⟨_, _, _, _, rfl⟩, oD, ?_, _, F ++ [s0 :: y], upd_same, (hF8.snoc b8 t8).off off_upd D8 (.inl ⟨_, rfl⟩), ?_, by rw [List.length_append, List.length_singleton]; omega⟩
                · rw [upd_ne ne]
                  exact hd8
                · have := FI4.more va hJ nv jv vl cJ no (by rw [hx]; exact new) step
                  rwa [hx] at this
              · exfalso
                obtain ⟨u, hu, eu, _⟩ := hF8.to he1
                rw [eu] at ek1
                have nu := (FI4.nw u hu).1
                have : u = s0 :: y := (nu.eq va nx).mpr ((st_iff va nu.1 nx.1).mp (nkS_inj ek1))
                rw [this] at hu
                exact new hu
      · rintro σ H4 ⟨⟨v5, v6, v7, v8, rfl⟩, o4, hd4, ys, F, hD4, hF4, FI4, fl4⟩
        rw [jll, List.take_length] at FI4
        refine ⟨⟨_, _, _, _, _, rfl⟩, o4, hd4, ys, F, hD4, hF4, FI4.mono (fun a' b' z => ?_), by omega⟩
        rw [take_snoc ev, List.mem_append, List.mem_singleton] at z
        rcases z.1 with z1 | z1
        · exact .inl ⟨z1, z.2⟩
        · exact .inr ⟨z1, z.2⟩
    · rintro σ H2 ⟨⟨v4, v5, v6, v7, v8, rfl⟩, o2, hd2, ys, F, hD, hF, FI, fl⟩
      rw [Lx, List.take_length] at FI
      refine ⟨hd2, _, rfl, k D ys F _ (fun q o e => ?_) nD (by rw [upd_ne ne.symm]; exact hD) (hF.off off_upd hd2 (.inr ⟨_, _, rfl⟩)) (FI.done va LL) (by omega)⟩
      by_cases z : q = d
      · subst z
        rw [hd] at e
        rw [upd_same]
        exact e
      · rw [upd_ne z]
        exact o2 _ _ z e
end
end Sk

namespace Sk
open PySem L2 Ow
/-! words sorted, then by length; the words under a word, letter by letter -/
theorem two_anti {α : Type} {a b : α} : ∀ {l : List α}, l.Nodup → [a, b].Sublist l → [b, a].Sublist l → False
  | [], _, h, _ => by cases h
  | x :: l, nd, h, k => by
    have nd := List.nodup_cons.mp nd
    cases h with
    | cons _ h =>
      cases k with
      | cons _ k => exact two_anti nd.2 h k
      | cons_cons _ k => exact nd.1 (h.subset (by simp))
    | cons_cons _ h =>
      cases k with
      | cons _ k => exact nd.1 (k.subset (by simp))
      | cons_cons _ k => exact nd.1 (h.subset (by simp))
theorem two_some {α : Type} {a b : α} (ne : a ≠ b) : ∀ {l : List α}, a ∈ l → b ∈ l → [a, b].Sublist l ∨ [b, a].Sublist l
  | x :: l, ha, hb => by
    rcases List.mem_cons.mp ha with e1 | h1
    · rcases List.mem_cons.mp hb with e2 | h2
      · exact absurd (e1.trans e2.symm) ne
      · rw [e1]
        exact .inl (.cons_cons _ (List.singleton_sublist.mpr h2))
    · rcases List.mem_cons.mp hb with e2 | h2
      · rw [e2]
        exact .inr (.cons_cons _ (List.singleton_sublist.mpr h1))
      · exact (two_some ne h1 h2).imp (fun h => .cons _ h) (fun h => .cons _ h)
abbrev lenLe (x y : List Int) : Bool := decide ((x.length : Int) ≤ (y.length : Int))
theorem len_then_lex {ms : List (List Int)} (nd : ms.Nodup) (so : LexS ms) : (ms.mergeSort lenLe).Pairwise fun x y => x.length < y.length ∨ (x.length = y.length ∧ HT.lexLt y x = false) := by
  have tr : ∀ a b c : List Int, lenLe a b = true → lenLe b c = true → lenLe a c = true := fun a b c h k => by
    simp only [lenLe, decide_eq_true_eq] at *
    omega
  have to : ∀ a b : List Int, (lenLe a b || lenLe b a) = true := fun a b => by
    simp only [lenLe, Bool.or_eq_true, decide_eq_true_eq]
    omega
  have pm := List.mergeSort_perm ms lenLe
  have nr : (ms.mergeSort lenLe).Nodup := pm.nodup_iff.mpr nd
  refine List.pairwise_iff_forall_sublist.mpr fun {a b} h => ?_
  have le : lenLe a b = true := List.pairwise_iff_forall_sublist.mp (List.pairwise_mergeSort tr to ms) h
  simp only [lenLe, decide_eq_true_eq] at le
  by_cases e : a.length = b.length
  · refine .inr ⟨e, ?_⟩
    have ne : a ≠ b := fun z => by
      subst z
      have := h.nodup nr
      simp at this
    have ma := pm.mem_iff.mp (h.subset (show a ∈ [a, b] by simp))
    have mb := pm.mem_iff.mp (h.subset (show b ∈ [a, b] by simp))
    rcases two_some ne ma mb with q | q
    · exact List.pairwise_iff_forall_sublist.mp so q
    · exact (two_anti nr h (List.pair_sublist_mergeSort tr to (by simp only [lenLe, decide_eq_true_eq]; omega) q)).elim
  · exact .inl (by omega)
def uncast (u : List Int) : List Nat := u.map Int.toNat
theorem uncast_cast (u : List Nat) : uncast (castW u) = u := by
  unfold uncast castW
  rw [List.map_map]
  exact List.map_id'' (fun x => by simp) u
/-- the list of the words under w, sorted, then by length -/
theorem ul_of {n : Nat} {bs : List (List Int)} {w : List Nat} {vs : List (List Nat)} (nd : vs.Nodup) (me : ∀ x, x ∈ vs ↔ NW n bs x ∧ Und n bs x w) {ms : List (List Int)} (pm : ms.Perm (vs.map castW)) (so : LexS ms) :
    ∃ us, UL n bs w us ∧ ms.mergeSort lenLe = us.map castW ∧ us.Perm vs := by
  have p2 := (List.mergeSort_perm ms lenLe).trans pm
  have ndc : (vs.map castW).Nodup := List.pairwise_map.mpr (nd.imp fun ne e => ne (castW_inj e))
  have lx := len_then_lex (pm.nodup_iff.mpr ndc) so
  have e1 : ms.mergeSort lenLe = ((ms.mergeSort lenLe).map uncast).map castW := by
    rw [List.map_map]
    conv => lhs; rw [← List.map_id (ms.mergeSort lenLe)]
    refine List.map_congr_left fun m hm => ?_
    obtain ⟨k, _, rfl⟩ := List.mem_map.mp (p2.mem_iff.mp hm)
    show castW k = castW (uncast (castW k))
    rw [uncast_cast]
  have p3 : ((ms.mergeSort lenLe).map uncast).Perm vs := by
    have := p2.map uncast
    rw [List.map_map] at this
    rwa [show vs.map (uncast ∘ castW) = vs from List.map_id'' (fun x => uncast_cast x) vs] at this
  refine ⟨(ms.mergeSort lenLe).map uncast, ⟨?_, p3.nodup_iff.mpr nd, fun x => (p3.mem_iff).trans (me x)⟩, e1, p3⟩
  rw [e1] at lx
  refine (List.pairwise_map.mp lx).imp fun {x y} h => ?_
  rw [cast_len', cast_len'] at h
  show (if ((y.length : Nat) : Int) = ((x.length : Nat) : Int) then HT.lexLt (castW y) (castW x) else decide (((y.length : Nat) : Int) < ((x.length : Nat) : Int))) = false
  rcases h with h | ⟨h1, h2⟩
  · rw [if_neg (by omega)]
    exact decide_eq_false (by omega)
  · rw [if_pos (by omega)]
    exact h2
/-- the normal words under the words so far -/
structure Fd (n : Nat) (bs : List (List Int)) (x : List Nat) (vs : List (List Nat)) : Prop where
  nd : vs.Nodup
  me : ∀ u, u ∈ vs ↔ NW n bs u ∧ ∃ y, y.Sublist x ∧ Rt.Cg n (mB bs) u y
  ln : vs.length ≤ 2 ^ x.length
structure FdIn (n : Nat) (bs : List (List Int)) (vs : List (List Nat)) (c : Nat) (j : Nat) (ws : List (List Nat)) : Prop where
  nd : ws.Nodup
  me : ∀ u, u ∈ ws ↔ u ∈ vs ∨ ∃ v ∈ vs.take j, u = nfc n bs (v ++ [c])
  ln : ws.length ≤ vs.length + j
section
variable {n : Nat} {bs : List (List Int)}
theorem nw_nil (va : Valid n bs) : NW n bs [] := ⟨Rt.In.nil, by
  obtain ⟨us, nf, _, _, le, _⟩ := nf_all va (Rt.In.nil (n := n))
  have : us = [] := List.eq_nil_of_length_eq_zero (by simpa using le)
  subst this
  exact nf⟩
theorem cg_nil {u : List Nat} (va : Valid n bs) (h : NW n bs u) (c : Rt.Cg n (mB bs) u []) : u = [] := (h.eq va (nw_nil va)).mpr c
theorem Fd.zero (va : Valid n bs) : Fd n bs [] [[]] := ⟨by simp, fun u => by
  rw [List.mem_singleton]
  constructor
  · rintro rfl
    exact ⟨nw_nil va, [], .refl _, .rfl _⟩
  · rintro ⟨h, y, hy, c⟩
    rw [List.eq_nil_of_sublist_nil hy] at c
    exact cg_nil va h c, by simp⟩
theorem FdIn.zero {vs : List (List Nat)} {c : Nat} (nd : vs.Nodup) : FdIn n bs vs c 0 vs := ⟨nd, fun u => by simp, Nat.le_refl _⟩
theorem FdIn.more {vs ws : List (List Nat)} {c j : Nat} {v : List Nat} (h : FdIn n bs vs c j ws) (e : vs[j]? = some v) (no : nfc n bs (v ++ [c]) ∉ ws) : FdIn n bs vs c (j + 1) (ws ++ [nfc n bs (v ++ [c])]) := by
  refine ⟨?_, fun u => ?_, by rw [List.length_append, List.length_singleton]; have := h.ln; omega⟩
  · rw [List.nodup_append]
    exact ⟨h.nd, by simp, fun x hx y hy z => no (by rw [List.mem_singleton] at hy; rw [← hy, ← z]; exact hx)⟩
  · rw [List.mem_append, List.mem_singleton, h.me, take_snoc e]
    simp only [List.mem_append, List.mem_singleton]
    constructor
    · rintro ((a | ⟨x, hx, rfl⟩) | rfl)
      · exact .inl a
      · exact .inr ⟨x, .inl hx, rfl⟩
      · exact .inr ⟨v, .inr rfl, rfl⟩
    · rintro (a | ⟨x, hx | rfl, rfl⟩)
      · exact .inl (.inl a)
      · exact .inl (.inr ⟨x, hx, rfl⟩)
      · exact .inr rfl
theorem FdIn.keep {vs ws : List (List Nat)} {c j : Nat} {v : List Nat} (h : FdIn n bs vs c j ws) (e : vs[j]? = some v) (yes : nfc n bs (v ++ [c]) ∈ ws) : FdIn n bs vs c (j + 1) ws := by
  refine ⟨h.nd, fun u => ?_, by have := h.ln; omega⟩
  rw [h.me, take_snoc e]
  simp only [List.mem_append, List.mem_singleton]
  constructor
  · rintro (a | ⟨x, hx, rfl⟩)
    · exact .inl a
    · exact .inr ⟨x, .inl hx, rfl⟩
  · rintro (a | ⟨x, hx | rfl, rfl⟩)
    · exact .inl a
    · exact .inr ⟨x, hx, rfl⟩
    · exact (h.me _).mp yes
theorem FdIn.done (va : Valid n bs) {x : List Nat} {vs ws : List (List Nat)} {c : Nat} (hx : Rt.In n x) (hc : c < n) (g : Fd n bs x vs) (h : FdIn n bs vs c vs.length ws) : Fd n bs (x ++ [c]) ws := by
  refine ⟨h.nd, fun u => ?_, ?_⟩
  · rw [h.me, List.take_length]
    constructor
    · rintro (a | ⟨v, hv, rfl⟩)
      · obtain ⟨nu, y, hy, cy⟩ := (g.me u).mp a
        exact ⟨nu, y, hy.trans (List.sublist_append_left _ _), cy⟩
      · obtain ⟨nv, y, hy, cy⟩ := (g.me v).mp hv
        have iv : Rt.In n (v ++ [c]) := Rt.In.app.mpr ⟨nv.1, fun z hz => by rw [List.mem_singleton.mp hz]; exact hc⟩
        exact ⟨NW.of va iv (nfc_nf va iv), y ++ [c], hy.append (.refl _), (((nfc_nf va iv).cg iv).1.symm).trans (cy.right [c])⟩
    · rintro ⟨nu, y, hy, cy⟩
      obtain ⟨y1, y2, rfl, h1, h2⟩ := List.sublist_append_iff.mp hy
      have iy1 : Rt.In n y1 := hx.sub h1
      have nf1 := nfc_nf va iy1
      have in1 := NW.of va iy1 nf1
      have m1 : nfc n bs y1 ∈ vs := (g.me _).mpr ⟨in1, y1, h1, (nf1.cg iy1).1.symm⟩
      have h3 : y2 = [] ∨ y2 = [c] := by
        cases h2 with
        | cons _ h => exact .inl (List.eq_nil_of_sublist_nil h)
        | cons_cons _ h => exact .inr (by rw [List.eq_nil_of_sublist_nil h])
      rcases h3 with rfl | rfl
      · rw [List.append_nil] at cy
        refine .inl ?_
        rw [(nu.eq va in1).mpr (cy.trans (nf1.cg iy1).1)]
        exact m1
      · have iv : Rt.In n (nfc n bs y1 ++ [c]) := Rt.In.app.mpr ⟨in1.1, fun z hz => by rw [List.mem_singleton.mp hz]; exact hc⟩
        refine .inr ⟨_, m1, (nu.eq va (NW.of va iv (nfc_nf va iv))).mpr ?_⟩
        exact cy.trans (((nf1.cg iy1).1.right [c]).trans ((nfc_nf va iv).cg iv).1)
  · have := h.ln
    have := g.ln
    rw [List.length_append, List.length_singleton, Nat.pow_succ]
    omega
/-- all words under a shortest word -/
theorem Fd.und (va : Valid n bs) {w : List Nat} {vs : List (List Nat)} (hw : NW n bs w) (g : Fd n bs w vs) (u : List Nat) : u ∈ vs ↔ NW n bs u ∧ Und n bs u w := by
  rw [g.me]
  refine and_congr_right fun hu => ?_
  exact (Rt.Le.iff (sysN va) hw.1 (.rfl w) hw.len).symm
end
/-! a dict of words in the heap -/
def WotAt (K : PySem.W.Frag) (H : Hp) (xs : List GE) (vs : List (List Nat)) : Prop := Ks K H xs ∧ xs.map (·.1) = vs.map fun v => KK.w (castW v)
section
variable {K : PySem.W.Frag} {H H' : Hp} {xs : List GE} {vs : List (List Nat)}
theorem WotAt.same (h : WotAt K H xs vs) (s : Same H H') : WotAt K H' xs vs := ⟨fun x hx => (h.1 x hx).same s, h.2⟩
theorem WotAt.off {D : Addr} {u : HO} (h : WotAt K H xs vs) (o : Off D H H') (hD : H D = some u) (e : IsE u) : WotAt K H' xs vs := ⟨fun x hx => offE_kk o hD e (h.1 x hx), h.2⟩
theorem WotAt.len (h : WotAt K H xs vs) : xs.length = vs.length := by
  have := congrArg List.length h.2
  simpa using this
theorem WotAt.get (h : WotAt K H xs vs) {i : Nat} {e : GE} (he : xs[i]? = some e) : ∃ v, vs[i]? = some v ∧ TI K H (.ref e.2.1) (castW v) := by
  have q : (xs.map (·.1))[i]? = some e.1 := by rw [List.getElem?_map, he]; rfl
  rw [h.2, List.getElem?_map] at q
  cases hv : vs[i]? with
  | none => rw [hv] at q; cases q
  | some v =>
    rw [hv] at q
    refine ⟨v, rfl, ?_⟩
    have := h.1 e (List.mem_of_getElem? he)
    rw [← Option.some.inj q] at this
    exact this
theorem WotAt.to {e : GE} (h : WotAt K H xs vs) (he : e ∈ xs) : ∃ v ∈ vs, e.1 = .w (castW v) := by
  have q : e.1 ∈ xs.map (·.1) := List.mem_map.mpr ⟨e, he, rfl⟩
  rw [h.2] at q
  obtain ⟨v, hv, e1⟩ := List.mem_map.mp q
  exact ⟨v, hv, e1.symm⟩
theorem WotAt.from {v : List Nat} (h : WotAt K H xs vs) (hv : v ∈ vs) : ∃ e ∈ xs, e.1 = .w (castW v) := by
  have q : KK.w (castW v) ∈ vs.map fun v => KK.w (castW v) := List.mem_map.mpr ⟨v, hv, rfl⟩
  rw [← h.2] at q
  obtain ⟨e, he, e1⟩ := List.mem_map.mp q
  exact ⟨e, he, e1⟩
theorem WotAt.snoc (h : WotAt K H xs vs) {a : Addr} {b : PV} {v : List Nat} (hb : TI K H (.ref a) (castW v)) : WotAt K H (xs ++ [(.w (castW v), a, b)]) (vs ++ [v]) := by
  refine ⟨fun x hx => ?_, by rw [List.map_append, List.map_append, h.2]; rfl⟩
  rcases List.mem_append.mp hx with hx | hx
  · exact h.1 x hx
  · rw [List.mem_singleton.mp hx]
    exact hb
theorem WotAt.put (h : WotAt K H xs vs) {k : KK} {b : PV} : WotAt K H (xs.map fun x => if x.1.nk = k.nk then (x.1, x.2.1, b) else x) vs := by
  refine ⟨fun x hx => ?_, ?_⟩
  · obtain ⟨y, hy, rfl⟩ := List.mem_map.mp hx
    have := h.1 y hy
    split <;> exact this
  · rw [List.map_map, ← h.2]
    refine List.map_congr_left fun x _ => ?_
    show (if x.1.nk = k.nk then (x.1, x.2.1, b) else x).1 = x.1
    split <;> rfl
theorem WotAt.nk {e : GE} {v u : List Nat} (h1 : e.1 = .w (castW v)) (h2 : e.1.nk = (KK.w (castW u)).nk) : v = u := by
  rw [h1] at h2
  exact castW_inj (nkW_inj h2)
end
end Sk

namespace Sk
open PySem L2 Ow
open Rt (InJ NoJ)
theorem nd_sub_len {α : Type} : ∀ {l W : List α}, l.Nodup → (∀ x ∈ l, x ∈ W) → l.length ≤ W.length
  | [], _, _, _ => Nat.zero_le _
  | x :: l, W, nd, h => by
    obtain ⟨a, b, rfl⟩ := List.append_of_mem (h x (by simp))
    have nd := List.nodup_cons.mp nd
    have := nd_sub_len (l := l) (W := a ++ b) nd.2 fun y hy => by
      have := h y (by simp [hy])
      rw [List.mem_append, List.mem_cons] at this
      rcases this with t | rfl | t
      · exact List.mem_append.mpr (.inl t)
      · exact absurd hy nd.1
      · exact List.mem_append.mpr (.inr t)
    simp only [List.length_cons, List.length_append] at this ⊢
    omega
/-- all normal words in the letters of J, shorter ones first, then as written -/
structure AllJ (n : Nat) (bs : List (List Int)) (J : List Nat) (W : List (List Nat)) : Prop where
  so : Sorted W
  nd : W.Nodup
  me : ∀ x, x ∈ W ↔ NW n bs x ∧ InJ J x
structure UpJ (n : Nat) (bs : List (List Int)) (J : List Nat) (i : Nat) (W : List (List Nat)) : Prop where
  so : Sorted W
  nd : W.Nodup
  me : ∀ x, x ∈ W ↔ NW n bs x ∧ InJ J x ∧ x.length < i
section
variable {n : Nat} {bs : List (List Int)} {J : List Nat} {W W0 L : List (List Nat)} {i : Nat}
theorem lw_of_lt {x y : List Nat} (h : x.length < y.length) : SL.lwB (codeW y) (codeW x) = false := by
  unfold SL.lwB
  rw [if_neg (show ¬ (codeW y).1 = (codeW x).1 from (show ¬ (y.length : Int) = (x.length : Int) by omega))]
  exact decide_eq_false (show ¬ (y.length : Int) < (x.length : Int) by omega)
theorem lw_of_lex {x y : List Nat} (h : x.length = y.length) (k : HT.lexLt (castW y) (castW x) = false) : SL.lwB (codeW y) (codeW x) = false := by
  unfold SL.lwB
  rw [if_pos (show (codeW y).1 = (codeW x).1 from (show (y.length : Int) = (x.length : Int) by omega))]
  exact k
theorem UpJ.zero : UpJ n bs J 0 [] := ⟨.nil, by simp, fun x => ⟨fun h => (by cases h), fun h => (by cases h.2.2)⟩⟩
/-- a level more -/
theorem UpJ.more (h : UpJ n bs J i W0) (l : LvJ n bs J i L) {ms : List (List Int)} (pm : ms.Perm (L.map castW)) (sm : LexS ms) : ∃ M : List (List Nat), ms = M.map castW ∧ M.Perm L ∧ UpJ n bs J (i + 1) (W0 ++ M) := by
  have e1 : ms = (ms.map uncast).map castW := by
    rw [List.map_map]
    conv => lhs; rw [← List.map_id ms]
    refine List.map_congr_left fun m hm => ?_
    obtain ⟨k, _, rfl⟩ := List.mem_map.mp (pm.mem_iff.mp hm)
    show castW k = castW (uncast (castW k))
    rw [uncast_cast]
  have p3 : (ms.map uncast).Perm L := by
    have := pm.map uncast
    rw [List.map_map] at this
    rwa [show L.map (uncast ∘ castW) = L from List.map_id'' (fun x => uncast_cast x) L] at this
  have sm' := sm
  rw [e1] at sm'
  generalize ms.map uncast = M at *
  have inM : ∀ x, x ∈ M ↔ NW n bs x ∧ InJ J x ∧ x.length = i := fun x => p3.mem_iff.trans (l.me x)
  refine ⟨M, e1, p3, ⟨?_, ?_, fun x => ?_⟩⟩
  · refine List.pairwise_append.mpr ⟨h.so, ?_, fun a ha b hb => lw_of_lt ?_⟩
    · refine (List.pairwise_map.mp sm').imp_of_mem fun {a b} ha hb k => lw_of_lex ?_ k
      rw [((inM a).mp ha).2.2, ((inM b).mp hb).2.2]
    · rw [((inM b).mp hb).2.2]
      exact ((h.me a).mp ha).2.2
  · rw [List.nodup_append]
    refine ⟨h.nd, p3.nodup_iff.mpr l.nd, fun a ha b hb e => ?_⟩
    have h1 := ((h.me a).mp ha).2.2
    have h2 := ((inM b).mp hb).2.2
    rw [e] at h1
    omega
  · rw [List.mem_append, h.me, inM]
    constructor
    · rintro (⟨a, b, c⟩ | ⟨a, b, c⟩)
      · exact ⟨a, b, by omega⟩
      · exact ⟨a, b, by omega⟩
    · rintro ⟨a, b, c⟩
      by_cases q : x.length = i
      · exact .inr ⟨a, b, q⟩
      · exact .inl ⟨a, b, by omega⟩
theorem no_more (va : Valid n bs) (l : LvJ n bs J i []) : ∀ {x : List Nat}, NW n bs x → InJ J x → x.length < i
  | [], _, _ => by
    rcases Nat.eq_zero_or_pos i with e | e
    · subst e
      have := (l.me []).mpr ⟨NW.nil va, .nil, rfl⟩
      cases this
    · exact e
  | s :: y, hx, jx => by
    have h := no_more va l (hx.tail va).1 (fun z hz => jx z (by simp [hz]))
    rcases Nat.lt_or_ge (s :: y).length i with g | g
    · exact g
    · have e : (s :: y).length = i := by
        rw [List.length_cons] at g ⊢
        omega
      have := (l.me _).mpr ⟨hx, jx, e⟩
      cases this
theorem UpJ.end (va : Valid n bs) (h : UpJ n bs J i W0) (l : LvJ n bs J i []) (a : AllJ n bs J W) : W0 = W :=
  sorted_uniq h.so a.so ((List.perm_ext_iff_of_nodup h.nd a.nd).mpr fun x => by
    rw [h.me, a.me]
    exact ⟨fun ⟨p, q, _⟩ => ⟨p, q⟩, fun ⟨p, q⟩ => ⟨p, q, no_more va l p q⟩⟩)
theorem LvJ.few (l : LvJ n bs J i L) (a : AllJ n bs J W) : L.length ≤ W.length := by
  exact nd_sub_len l.nd fun x hx => (a.me x).mpr ⟨((l.me x).mp hx).1, ((l.me x).mp hx).2.1⟩
theorem UpJ.few (h : UpJ n bs J i W0) (a : AllJ n bs J W) : W0.length ≤ W.length := by
  exact nd_sub_len h.nd fun x hx => (a.me x).mpr ⟨((h.me x).mp hx).1, ((h.me x).mp hx).2.1⟩
end
def spWordsJ (K : PySem.W.Frag) : Sp := fun vs H Q _ => ∃ (kv jv : V) (n : Nat) (bs : List (List Int)) (J : List Nat) (most : Int) (W : List (List Nat)), vs = [kv, jv, .int most] ∧ LkAt K H kv (lkOf bs n) ∧ TI K H jv (castW J) ∧ Valid n bs ∧ Rt.In n J ∧ J.length ≤ 4 ∧ AllJ n bs J W ∧ W.length ≤ 120 ∧ (∀ x ∈ W, x.length ≤ 24) ∧ (W.length : Nat) ≤ most ∧
  ∀ (g : Addr) (ys : List V) H', Same H H' → H g = none → H' g = some (.lst ys) → A2 (TI K H') ys (W.map castW) → Q (.ref g) H'
theorem A2.app {α : Type} {R : V → α → Prop} : ∀ {xs ys : List V} {a b : List α}, A2 R xs a → A2 R ys b → A2 R (xs ++ ys) (a ++ b)
  | [], _, [], _, _, k => k
  | _ :: _, _, _ :: _, _, h, k => ⟨h.1, A2.app h.2 k⟩
section
variable {P : Program} {Wo : World} {K : PySem.W.Frag} {mg : Str → Option Value} {base : Heap} {C : Addr}
theorem cal_words_by (T : Txt K mg C) : Cal P Wo K mg base "words_by" 5 (spWordsJ K) := by
  refine T.d_words_by.cal (ps := ["links", "letters", "most"]) (fun f fd D => ?_) (fun _ _ _ _ _ _ us hl => match us, hl with | [_, _, _], _ => rfl)
  refine D.ok sc_words_by (fun vs H Q E h => ?_) (fun cdv A outer s H vs Q E hr h => ?_)
  · obtain ⟨_, _, _, _, _, _, _, rfl, _⟩ := h
    rfl
  · obtain ⟨kv, jv, n, bs, J, most, W, rfl, hlk, tj, va, hJ, jl, AW, w120, w24, wm, k⟩ := h
    refine ⟨_, (pss_cons (ps_set (i := 3) sc_words_by.nd rfl (Or.inl rfl) (pe_disp1P P Wo rfl rfl (u65 hr) (pe_cal (cal_first_state T) (hr.mono (by decide)) (by rfl) (pa_cons (pv 0) pa_nil)) (pe_tup pa_nil)))
      (pss_cons (ps_set (i := 4) sc_words_by.nd rfl (Or.inl rfl) (pe_lst pa_nil))
      (pss_cons (ps_while PassesOwn.never (pt_truthR (pv 3) tru_G (fun _ => rfl)) (pss_cons (ps_expr (pe_bm PySem.F.plainAttrs_list PySem.F.slot_list_extend PySem.F.type_list_extend mt_extend (pv 4) (pa_cons (pe_callB (cr_sortVG rfl (u66 hr)) (by rfl) T.b_sorted (by decide +kernel) (pa_cons (pe_valuesG (pv 3)) pa_nil)) pa_nil)))
      (pss_cons (ps_if (pt_cmpR op_gt (pe_callB call_len_seq (by rfl) T.b_len (by decide +kernel) (pa_cons (pv 4) pa_nil)) (pv 2) (nomark _)) (pss_one (ps_ret pe_non)) pss_nil)
      (pss_one (ps_set (i := 3) sc_words_by.nd rfl (Or.inl rfl) (pe_cal (cal_next_level_by T) (hr.mono (by decide)) (by rfl) (pa_cons (pv 0) (pa_cons (pv 3) (pa_cons (pv 1) pa_nil)))))))))
      (pss_one (ps_ret (pv 4)))))), ?_⟩
    have n4 := va.hi
    have n1 := va.lo
    intro p np
    have sp := same_new (o := .ext (phiG P Wo p [])) np
    refine ⟨_, rfl, kv, lkOf bs n, rfl, hlk.same sp, by have := (lkN va).few; rw [(lkN va).len]; exact this, fun v1 H1 s1 hb1 => ?_⟩
    rw [(lkN va).len] at hb1
    obtain ⟨b1, ys1, rfl, q1, t1⟩ := id hb1
    refine ⟨Nat.zero_le _, fun t nt => ?_⟩
    have st := same_new (o := .tup []) nt
    refine ⟨b1, .at_ t, .s (stN bs n []), rfl, hb1.same st, st _ _ (s1 _ _ upd_same), Nat.zero_le _, fun g ng => ?_⟩
    have sd : Same H (upd (upd H1 t (.tup [])) p (.ext (phiG P Wo p [(.s (stN bs n []), b1, .at_ t)]))) := same_off np ((sp.trans s1).trans st) off_upd
    have lv0 : LevAt K (upd (upd H1 t (.tup [])) p (.ext (phiG P Wo p [(.s (stN bs n []), b1, .at_ t)]))) [(.s (stN bs n []), b1, .at_ t)] bs n [[]] := by
      have o : Off p (upd H1 t (.tup [])) (upd (upd H1 t (.tup [])) p (.ext (phiG P Wo p [(.s (stN bs n []), b1, .at_ t)]))) := off_upd
      have hp := st _ _ (s1 _ _ (upd_same (H := H) (a := p) (o := .ext (phiG P Wo p []))))
      refine ⟨fun x hx => ?_, rfl, offE_ti o hp (.inl ⟨_, rfl⟩) ⟨t, rfl, .of upd_same⟩, trivial⟩
      rw [List.mem_singleton.mp hx]
      exact offE_bs o hp (.inl ⟨_, rfl⟩) (hb1.same st)
    have hd0 : (upd (upd H1 t (.tup [])) p (.ext (phiG P Wo p [(.s (stN bs n []), b1, .at_ t)]))) p = some (.ext (phiG P Wo p [(.s (stN bs n []), b1, .at_ t)])) := upd_same
    change (upd (upd H1 t (.tup [])) p (.ext (phiG P Wo p [(.s (stN bs n []), b1, .at_ t)]))) g = none at ng
    have gH := sd.free ng
    have sg := same_new (o := .lst []) ng
    dsimp only [gName, tSeq]
    refine while_by (fun σ H' => ∃ (ld : Addr) (xs : List GE) (L W0 : List (List Nat)) (i : Nat) (ys : List V), σ = [some kv, some jv, some (.int most), some (.ref ld), some (.ref g)] ∧ Same H H' ∧ H' ld = some (.ext (phiG P Wo ld xs)) ∧ LevAt K H' xs bs n L ∧ LvJ n bs J i L ∧ UpJ n bs J i W0 ∧ H' g = some (.lst ys) ∧ A2 (TI K H') ys (W0.map castW) ∧ ld ≠ g) (fun _ H' => 1000 - lenAt H' g) ?_ ?_ ?_
    · exact ⟨p, _, _, [], 0, [], rfl, sd.trans sg, sg _ _ hd0, lv0.same sg, .zero va, .zero, upd_same, trivial, ne_of_none hd0 ng⟩
    · rintro _ H3 ⟨ld, xs, L, W0, i, ys, rfl, s3, hld, hv, LL, U, hg, hy, nld⟩
      have yl := hy.len
      rw [List.length_map] at yl
      have vl := hv.len
      have uf := U.few AW
      have lf := LL.few AW
      refine ⟨_, rfl, ld, xs, rfl, ⟨.inl hld, hv.ks⟩, ?_⟩
      cases L with
      | nil =>
        have : xs = [] := List.eq_nil_of_length_eq_zero vl
        subst this
        refine iteF ⟨_, rfl, ?_⟩
        have e := U.end va LL AW
        subst e
        exact k g ys _ s3 gH hg hy
      | cons x0 L0 =>
        have i24 : i ≤ 24 := by
          have hx := (LL.me x0).mp (by simp)
          have := w24 x0 ((AW.me x0).mpr ⟨hx.1, hx.2.1⟩)
          omega
        have lpos : 0 < (x0 :: L0).length := by simp
        generalize (x0 :: L0) = L at *
        have xne : xs.isEmpty = false := by
          cases xs with
          | nil => simp only [List.length_nil] at vl; omega
          | cons => rfl
        rw [xne]
        refine iteT ?_
        refine ⟨_, rfl, .inl ⟨rfl, _, .of hg⟩, _, rfl, ld, xs, rfl, ⟨.inl hld, hv.ks⟩, fun r nr => ?_⟩
        have sr := same_new (o := viewO r ld) nr
        have hvr := hv.same sr
        refine ⟨r, ld, xs, L.map castW, rfl, upd_same, ⟨.inl (sr _ _ hld), hvr.ks⟩, hvr.vl, small1000 (by omega), fun ys2 ms p2 a2 pm sm np2 => ?_⟩
        obtain ⟨M, em, pM, U2⟩ := U.more LL pm sm
        subst em
        have sp2 := same_new (o := .lst ys2) np2
        have Ml := pM.length_eq
        have y2l := a2.len
        rw [List.length_map] at y2l
        have gp := sp2 _ _ (sr _ _ hg)
        have a2p := a2.imp fun _ _ z => TI.same z sp2
        have hyp := (hy.imp fun _ _ z => TI.same z sr).imp fun _ _ z => TI.same z sp2
        have hvp := hvr.same sp2
        have ldp := sp2 _ _ (sr _ _ hld)
        have sHp := (s3.trans sr).trans sp2
        have u2f := U2.few AW
        rw [List.length_append] at u2f
        refine ⟨g, p2, ys, ys2, rfl, rfl, gp, upd_same, szl (by omega), ?_⟩
        have o : Off g (upd (upd H3 r (viewO r ld)) p2 (.lst ys2)) (upd (upd (upd H3 r (viewO r ld)) p2 (.lst ys2)) g (.lst (ys ++ ys2))) := off_upd
        have sx : Same H (upd (upd (upd H3 r (viewO r ld)) p2 (.lst ys2)) g (.lst (ys ++ ys2))) := same_off gH sHp o
        have gx : (upd (upd (upd H3 r (viewO r ld)) p2 (.lst ys2)) g (.lst (ys ++ ys2))) g = some (.lst (ys ++ ys2)) := upd_same
        have ldx := o _ _ nld ldp
        have hvx : LevAt K (upd (upd (upd H3 r (viewO r ld)) p2 (.lst ys2)) g (.lst (ys ++ ys2))) xs bs n L := ⟨fun x hx => by
          have := hvp.ks x hx
          have e1 : ∃ v, x.1 = .s (stN bs n v) := (hvp.to hx).elim fun v z => ⟨v, z.2.1⟩
          obtain ⟨v, e1⟩ := e1
          rw [e1] at this ⊢
          exact o.bs gp this, hvp.ky, hvp.vl.imp fun _ _ z => o.ti gp z⟩
        have hyx := (A2.app hyp a2p).imp fun _ _ z => o.ti gp z
        have lyy : (ys ++ ys2).length = W0.length + M.length := by rw [List.length_append]; omega
        refine ⟨_, rfl, _, _, rfl, .inl (.of gx), _, rfl, _, _, rfl, rfl, _, rfl, ite2 (fun z => ?_) (fun _ => ?_)⟩
        · have := of_decide_eq_true z
          rw [lyy] at this
          omega
        · refine ⟨_, rfl, _, rfl, _, rfl, kv, jv, ld, n, bs, J, i, xs, L, rfl, hlk.same sx, tj.same sx, ldx, hvx, LL, va, hJ, jl, by omega, by omega, fun r2 ys' L' H9 s9 nr2 hr2 lv2 LL2 _ => ?_⟩
          have gx9 := s9 _ _ gx
          refine ⟨⟨r2, ys', L', W0 ++ M, i + 1, ys ++ ys2, rfl, sx.trans s9, hr2, lv2, LL2, U2, gx9, ?_, (ne_of_none gx nr2).symm⟩, ?_⟩
          · rw [List.map_append]
            exact hyx.imp fun _ _ z => z.same s9
          · unfold lenAt
            rw [gx9, hg]
            simp only
            rw [lyy]
            omega
    · rintro σ H Q Q' hq ⟨v, hv, d, xs, e, dn, h⟩
      exact ⟨v, hv, d, xs, e, dn, hq _ _ h⟩
end
end Sk

namespace Sk
open PySem L2 Ow
open Rt (InJ NoJ)
theorem pe_calRS {X : Cx} {x : Str} {k : Nat} {sp : Sp} {e : Expr} {es : List Expr} {t : TA} {p pos : Pos} (C : CalR X.prog X.w X.K X.mg X.base x k sp) (hr : Room k X.A) (hg : Gl X x) (ha : PA X (e :: es) t) (hd : (x == ("__debug__" : Str)) = false := by decide)
    (he : starEach (e :: es) X.env = (false, eval e X.env) :: starEach es X.env := by rfl) (hst : (backTo pos (starEach es X.env)).any (·.1) = true := by rfl) : PE X (.Call (.Name x p) (e :: es) [] pos) (fun σ H Q => t σ H fun vs H1 => sp vs H1 Q E0) := by
  obtain ⟨f, F, hm, hk⟩ := C.ex
  exact StX.pe_callS2 F hr hk hg hm pass0 ha hd he hst
def Asc (J : List Nat) : Prop := J.Pairwise fun a b => a < b
def spCLet (K : PySem.W.Frag) (C : Addr) : Sp := fun vs H Q _ => ∃ (p : Addr) (jv bv : V) (n : Nat) (bs : List (List Int)) (J : List Nat), vs = [.ref p, jv] ∧ SysAt K C H p n bv bs ∧ TI K H jv (castW J) ∧ Rt.In n J ∧ Asc J ∧ J.length ≤ 4 ∧ ∀ H', Same H H' → Q .non H'
def spCCos (K : PySem.W.Frag) (C : Addr) : Sp := fun vs H Q _ => ∃ (p : Addr) (jv : V) (n : Nat) (bv : V) (bs : List (List Int)) (J : List Nat) (us : List V), vs = [.ref p, jv] ++ us ∧ us.length ≤ 900 ∧ SysAt K C H p n bv bs ∧ TWs K H n us ∧ TI K H jv (castW J) ∧ Rt.In n J ∧ Asc J ∧ J.length ≤ 4 ∧ ∀ H', Same H H' → Q .non H'
def spCLen (K : PySem.W.Frag) : Sp := fun vs H Q _ => ∃ (wv : V) (w : List Nat), vs = [wv] ∧ TI K H wv (castW w) ∧ w.length ≤ 40 ∧ Q .non H
def spMembJ (K : PySem.W.Frag) : Sp := fun vs H Q _ => ∃ (kv jv : V) (n : Nat) (bs : List (List Int)) (J : List Nat) (W : List (List Nat)), vs = [kv, jv] ∧ LkAt K H kv (lkOf bs n) ∧ TI K H jv (castW J) ∧ Valid n bs ∧ Rt.In n J ∧ J.length ≤ 4 ∧ AllJ n bs J W ∧ W.length ≤ 120 ∧ (∀ x ∈ W, x.length ≤ 24) ∧
  ∀ (g : Addr) (ys : List V) H', Same H H' → H g = none → H' g = some (.lst ys) → A2 (TI K H') ys (W.map castW) → Q (.ref g) H'
section
variable {P : Program} {w : World} {K : PySem.W.Frag} {mg : Str → Option Value} {base : Heap} {C : Addr}
theorem cal_check_length (T : Txt K mg C) : Cal P w K mg base "check_length" 1 (spCLen K) := by
  refine T.d_check_length.cal (ps := ["word"]) (fun f fd D => ?_) (fun _ _ _ _ _ _ us hl => match us, hl with | [_], _ => rfl)
  refine D.ok sc_check_length (fun vs H Q E h => ?_) (fun cdv A outer s H vs Q E hr h => ?_)
  · obtain ⟨_, _, rfl, _⟩ := h
    rfl
  · obtain ⟨_, u, rfl, ⟨a, rfl, ha⟩, ul, k⟩ := h
    refine ⟨_, (pss_one (ps_if (pt_cmpR op_gt (pe_callB call_len_seq (by rfl) T.b_len (by decide +kernel) (pa_cons (pv 0) pa_nil)) (C8.pe_gc (v := .int 40) (by rfl) T.g_LONGEST) (nomark _)) (pss_one ps_never) pss_nil)), ?_⟩
    have ll : ((castW u).map V.int).length = u.length := by rw [List.length_map, cast_len']
    refine ⟨_, rfl, a, _, rfl, .inr ha, _, _, rfl, rfl, _, rfl, ite2 (fun z => absurd (of_decide_eq_true z) (by rw [ll]; omega)) (fun _ => ?_)⟩
    exact k
theorem cal_members_by (T : Txt K mg C) : Cal P w K mg base "members_by" 6 (spMembJ K) := by
  refine T.d_members_by.cal (ps := ["links", "letters"]) (fun f fd D => ?_) (fun _ _ _ _ _ _ us hl => match us, hl with | [_, _], _ => rfl)
  refine D.ok sc_members_by (fun vs H Q E h => ?_) (fun cdv A outer s H vs Q E hr h => ?_)
  · obtain ⟨_, _, _, _, _, _, rfl, _⟩ := h
    rfl
  · obtain ⟨kv, jv, n, bs, J, W, rfl, hlk, tj, va, hJ, jl, AW, w120, w24, k⟩ := h
    refine ⟨_, (pss_cons (ps_set (i := 2) sc_members_by.nd rfl (Or.inl rfl) (pe_cal (cal_words_by T) (hr.mono (by decide)) (by rfl) (pa_cons (pv 0) (pa_cons (pv 1) (pa_cons (C8.pe_gc (v := .int 120) (by rfl) T.g_MOST_MEMBERS) pa_nil)))))
      (pss_cons (ps_if (pt_cmpR op_isN (pv 2) pe_non (nomark _)) (pss_one ps_never) pss_nil)
      (pss_one (ps_ret (pv 2))))), ?_⟩
    refine ⟨_, rfl, _, rfl, kv, jv, n, bs, J, 120, W, rfl, hlk, tj, va, hJ, jl, AW, w120, w24, by omega, fun g ys H1 s1 ng hg hy => ?_⟩
    refine ⟨_, rfl, rfl, _, rfl, iteF ?_⟩
    exact ⟨_, rfl, k g ys _ s1 ng hg hy⟩
theorem cal_check_letters (T : Txt K mg C) : Cal P w K mg base "check_letters" 4 (spCLet K C) := by
  refine T.d_check_letters.cal (ps := ["system", "letters"]) (fun f fd D => ?_) (fun _ _ _ _ _ _ us hl => match us, hl with | [_, _], _ => rfl)
  refine D.ok sc_check_letters (fun vs H Q E h => ?_) (fun cdv A outer s H vs Q E hr h => ?_)
  · obtain ⟨_, _, _, _, _, _, rfl, _⟩ := h
    rfl
  · obtain ⟨p, _, bv, n, bs, J, rfl, y, ⟨a, rfl, ha⟩, hJ, as, jl, k⟩ := h
    have ll : ((castW J).map V.int).length = J.length := by rw [List.length_map, cast_len']
    refine ⟨_, (pss_cons (ps_if (PW.pt (pw_or (pt_not (pt_val (pe_callB call_isi (by rfl) T.b_isinstance (by decide +kernel) (pa_cons (pv 1) (pa_cons (pe_bltn (v := .ty "tuple") (by rfl) T.b_tuple (by decide +kernel) rfl) pa_nil))))) (pw_or1 (pt_not (pt_val (pe_callB (cr_all rfl) (by rfl) T.b_all (by decide +kernel) (pa_cons (pe_lc (own := [("letter", 2)]) (g := gName 2) (tt := tYes) rfl sc_check_letters.nd (pi_tup (pv 1)) (blkOk_by (own := [("letter", 2)]) (N := ["system", "letters", "letter", "one", "other"]) (sc := defScope s_check_letters) (by decide +kernel)) (fun _ _ _ _ _ => (pg_name (i := 2) sc_check_letters.nd rfl (Or.inl rfl))) (fun _ _ _ _ _ => pts_nil) (fun _ _ _ _ _ => (pe_cal (cal_is_letter T) (hr.mono (by decide)) (by rfl) (pa_cons (pv 0) (pa_cons (pv 2) pa_nil))))) pa_nil))))))) (pss_one ps_never) pss_nil)
      (pss_one (ps_if (pt_not (pt_val (pe_callB (cr_all rfl) (by rfl) T.b_all (by decide +kernel) (pa_cons (pe_lc (own := [("one", 3), ("other", 4)]) (g := gTup K 2 (gCons (gName 3) (gCons (gName 4) (gNil)))) (tt := tYes) rfl sc_check_letters.nd (RZ.pi_zipA (by rfl) T.b_zip (pa_cons (pv 1) (pa_cons (pe_slice sl_tupA (pv 1) (po_some pe_int) po_none) pa_nil))) (blkOk_by (own := [("one", 3), ("other", 4)]) (N := ["system", "letters", "letter", "one", "other"]) (sc := defScope s_check_letters) (by decide +kernel)) (fun _ _ _ _ _ => (pg_tup (by rfl) (pgs_cons (pg_name (i := 3) sc_check_letters.nd rfl (Or.inl rfl)) (pgs_cons (pg_name (i := 4) sc_check_letters.nd rfl (Or.inl rfl)) pgs_nil)))) (fun _ _ _ _ _ => pts_nil) (fun _ _ _ _ _ => (pe_cmpR op_lt (pv 3) (pv 4) (nomark _)))) pa_nil)))) (pss_one ps_never) pss_nil))), ?_⟩
    refine ⟨_, rfl, _, _, _, _, true, rfl, .ty "tuple", tup_ty ha, kit_ty (by decide +kernel), _, rfl, iteF ?_⟩
    refine ⟨_, rfl, a, rfl, ⟨_, ha⟩, fun D nD => lc_tup (K := K) (a := a) (xs := (castW J).map V.int) (fun i H' => Same H H' ∧ H' D = some (.lst ((List.replicate i true).map V.bl))) ⟨same_new nD, upd_same⟩ (fun i H' _ h => sqT_same h.1 ha) ?_ ?_⟩
    · rintro i x H2 hi ⟨s2, hD⟩
      obtain ⟨c, hc, rfl⟩ := castW_get hi
      have cn := hJ c (List.mem_of_getElem? hc)
      have il := (List.getElem?_eq_some_iff.mp hc).1
      refine ⟨rfl, _, rfl, _, rfl, p, n, bv, bs, _, rfl, y.same s2, _, hD, ?_, same_off nD s2 off_upd, ?_⟩
      · rw [List.length_map, List.length_replicate]
        exact small1000 (by omega)
      · rw [upd_same, decide_eq_true (show (0 : Int) ≤ (c : Nat) by omega), decide_eq_true (show ((c : Nat) : Int) ≤ n - 1 by omega), List.replicate_succ', List.map_append]
        rfl
    · rintro H2 ⟨s2, hD⟩
      refine ⟨_, _, rfl, .of hD, ?_⟩
      rw [show (List.replicate ((castW J).map V.int).length true).all id = true by simp]
      refine ⟨_, rfl, iteF ?_⟩
      have ha2 := sqT_same s2 ha
      refine ⟨_, rfl, _, rfl, _, rfl, ?_⟩
      dsimp only [tNoPart]
      refine slc_any ha2 fun v3 H3 s3 ⟨c3, e3, q3⟩ => ?_
      subst e3
      rw [show (1 : Int) = ((1 : Nat) : Int) from rfl, cutW_drop] at q3
      have S3 := s2.trans s3
      refine ⟨a, c3, _, _, rfl, .inr ⟨sqT_same s3 ha2, q3, fun D2 n2 => lc_it (walk_zipT (K := K) (a := a) (b := c3) (xs := (castW J).map V.int) (ys := (castW (J.drop 1)).map V.int) (n := J.length - 1) (by simp only [List.length_map, cast_len', List.length_drop]; omega)) (fun j H' => Same H3 H' ∧ H' D2 = some (.lst ((List.replicate j true).map V.bl))) ⟨same_new n2, upd_same⟩ (fun i H' _ h => ⟨sqT_same h.1 (sqT_same s3 ha2), sqT_same h.1 q3⟩) ?_ ?_⟩⟩
      · rintro j x H4 H5 jl' ⟨s4, hD4⟩ ⟨q2, y3, y4, rfl, nq2, rfl, e3, e4⟩
        have sq := same_new (o := .tup [y3, y4]) nq2
        obtain ⟨c1, hc1, rfl⟩ := castW_get e3
        obtain ⟨c2, hc2, rfl⟩ := castW_get e4
        rw [List.getElem?_drop] at hc2
        obtain ⟨i1, g1⟩ := List.getElem?_eq_some_iff.mp hc1
        obtain ⟨i2, g2⟩ := List.getElem?_eq_some_iff.mp hc2
        have lt : c1 < c2 := by
          have := List.pairwise_iff_getElem.mp as j (1 + j) i1 i2 (by omega)
          rw [g1, g2] at this
          exact this
        refine ⟨_, _, rfl, .of upd_same, rfl, _, _, rfl, _, _, rfl, rfl, rfl, ?_⟩
        refine ⟨_, rfl, _, rfl, _, _, rfl, rfl, _, sq _ _ hD4, ?_, same_off n2 (s4.trans sq) off_upd, ?_⟩
        · rw [List.length_map, List.length_replicate]
          exact small1000 (by omega)
        · rw [upd_same, show (fun i j : Int => V.bl (decide (i < j))) ((c1 : Nat) : Int) ((c2 : Nat) : Int) = V.bl true from congrArg V.bl (decide_eq_true (by omega)), List.replicate_succ', List.map_append]
          rfl
      · rintro H4 ⟨s4, hD4⟩
        refine ⟨_, _, rfl, .of hD4, ?_⟩
        rw [show (List.replicate (J.length - 1) true).all id = true by simp]
        refine ⟨_, rfl, iteF ?_⟩
        exact k _ (S3.trans s4)
theorem cal_check_coset (T : Txt K mg C) : CalR P w K mg base "check_coset" 8 (spCCos K C) := by
  obtain ⟨f, fd, D, hm⟩ := T.d_check_coset
  obtain ⟨oc, od, kV, doc, pm, an, cdv, ct, osl, rfl, lk, hcd⟩ := D.ex
  have F := StX.fn_star (P := P) (w := w) (K := K) (mg := mg) (base := base) (k := 7) (ps := ["system", "letters"]) (pv := "words") (CX := CX0) (sp := fun vs H Q _ => ∃ (p t : Addr) (jv : V) (n : Nat) (bv : V) (bs : List (List Int)) (J : List Nat) (us : List V), vs = [.ref p, jv, .ref t] ∧ us.length ≤ 900 ∧ SqT K H t us ∧ SysAt K C H p n bv bs ∧ TWs K H n us ∧ TI K H jv (castW J) ∧ Rt.In n J ∧ Asc J ∧ J.length ≤ 4 ∧ ∀ H', Same H H' → Q .non H')
    lk hcd sc_check_coset StX.cxUp_none (fun us rest hl => match us, rest, hl with | [_, _], [], _ => rfl | [_, _], _ :: _, _ => rfl) (fun A outer s H vs Q E hr h => ?_)
  · refine ⟨⟨f, fun A outer s H us vs Q E hr e0 r h => F A outer s H us vs Q E hr e0 r ?_, hm, D.kp⟩⟩
    obtain ⟨p, jv, n, bv, bs, J, us, rfl, hl, y, t, tj, hJ, as, jl, k⟩ := h
    refine ⟨[.ref p, jv], us, rfl, rfl, szl (by omega), fun q nq => ?_⟩
    have sn := same_new (o := .tup us) nq
    exact ⟨p, q, jv, n, bv, bs, J, us, rfl, hl, .of upd_same, y.same sn, fun v hv => (t v hv).elim fun ws z => ⟨ws, z.1.same sn, z.2⟩, tj.same sn, hJ, as, jl, fun H' s' => k _ (sn.trans s')⟩
  · obtain ⟨p, t, jv, n, bv, bs, J, us, rfl, hl, ht, y, tw, tj, hJ, as, jl, k⟩ := h
    refine ⟨_, PSs.nox (show PSs (cxOf CX0 P w K mg base _ "check_coset" (defScope s_check_coset) f cdv A outer s H E).nox (defBody s_check_coset) _ from (pss_cons (ps_expr (pe_calRS (cal_check_words T) (hr.mono (by decide)) (by rfl) (pa_cons (pv 0) (StX.pa_star (pv 2) pa_nil))))
      (pss_one (ps_expr (pe_cal (cal_check_letters T) (hr.mono (by decide)) (by rfl) (pa_cons (pv 0) (pa_cons (pv 1) pa_nil))))))), ?_⟩
    refine ⟨_, rfl, _, rfl, t, us, rfl, .inl ht, p, n, bv, bs, us, by rw [List.append_nil], by omega, y, tw, fun H1 s1 => ?_⟩
    exact ⟨_, rfl, _, rfl, p, jv, bv, n, bs, J, rfl, y.same s1, tj.same s1, hJ, as, jl, fun H2 s2 => k _ (s1.trans s2)⟩
end
end Sk

namespace Sk
open PySem L2 Ow
open Rt (InJ NoJ)
/-- the letters of J that are taken off from the right, the least one first -/
inductive Strip (n : Nat) (bs : List (List Int)) (J : List Nat) : List Nat → List Nat → Prop
  | done {w : List Nat} : NoJ n (mB bs) J w → Strip n bs J w []
  | step {w t : List Nat} {s : Nat} : s ∈ J → Rt.len n (mB bs) (w ++ [s]) < Rt.len n (mB bs) w → (∀ r ∈ J, Rt.len n (mB bs) (w ++ [r]) < Rt.len n (mB bs) w → s ≤ r) → Strip n bs J (w ++ [s]) t → Strip n bs J w (s :: t)
section
variable {n : Nat} {bs : List (List Int)} {J : List Nat}
theorem Strip.det : ∀ {t t' w : List Nat}, Strip n bs J w t → Strip n bs J w t' → t = t'
  | [], t', w, .done no, h => by
    cases h with
    | done _ => rfl
    | step hs hl _ _ => exact absurd hl (no _ hs)
  | s :: t, t', w, .step hs hl hm h, k => by
    cases k with
    | done no => exact absurd hl (no _ hs)
    | step hs' hl' hm' h' =>
      obtain rfl : s = _ := Nat.le_antisymm (hm _ hs' hl') (hm' _ hs hl)
      rw [Strip.det h h']
theorem Strip.ex (hJ : Rt.In n J) : ∀ (N : Nat) {w : List Nat}, Rt.In n w → Rt.len n (mB bs) w = N → ∃ t, Strip n bs J w t := by
  intro N
  induction N using Nat.strongRecOn with
  | _ N ih =>
    intro w hw hN
    by_cases c : NoJ n (mB bs) J w
    · exact ⟨[], .done c⟩
    · obtain ⟨s0, h0⟩ := Classical.not_forall.mp c
      obtain ⟨j0, l0⟩ := Classical.not_imp.mp h0
      have l0 := Classical.not_not.mp l0
      obtain ⟨s, js, ls, mn⟩ : ∃ s, s ∈ J ∧ Rt.len n (mB bs) (w ++ [s]) < Rt.len n (mB bs) w ∧ ∀ r ∈ J, Rt.len n (mB bs) (w ++ [r]) < Rt.len n (mB bs) w → s ≤ r := by
        have : ∀ K s, s = K → s ∈ J → Rt.len n (mB bs) (w ++ [s]) < Rt.len n (mB bs) w → ∃ s, s ∈ J ∧ Rt.len n (mB bs) (w ++ [s]) < Rt.len n (mB bs) w ∧ ∀ r ∈ J, Rt.len n (mB bs) (w ++ [r]) < Rt.len n (mB bs) w → s ≤ r := by
          intro K
          induction K using Nat.strongRecOn with
          | _ K ih =>
            intro s e js ls
            by_cases q : ∀ r ∈ J, Rt.len n (mB bs) (w ++ [r]) < Rt.len n (mB bs) w → s ≤ r
            · exact ⟨s, js, ls, q⟩
            · obtain ⟨r, hr⟩ := Classical.not_forall.mp q
              obtain ⟨jr, hr⟩ := Classical.not_imp.mp hr
              obtain ⟨lr, hr⟩ := Classical.not_imp.mp hr
              exact ih r (by omega) r rfl jr lr
        exact this _ s0 rfl j0 l0
      obtain ⟨t, ht⟩ := ih (Rt.len n (mB bs) (w ++ [s])) (by omega) (Rt.In.app.mpr ⟨hw, fun x hx => by rw [List.mem_singleton.mp hx]; exact hJ s js⟩) rfl
      exact ⟨s :: t, .step js ls mn ht⟩
theorem Strip.same {w w' t : List Nat} (h : Strip n bs J w t) : Rt.Cg n (mB bs) w w' → Strip n bs J w' t := by
  have e : ∀ {a b : List Nat} (s : Nat), Rt.Cg n (mB bs) a b → (Rt.len n (mB bs) (a ++ [s]) < Rt.len n (mB bs) a ↔ Rt.len n (mB bs) (b ++ [s]) < Rt.len n (mB bs) b) := fun s c => by
    rw [Rt.len_congr c, Rt.len_congr (c.right [s])]
  induction h generalizing w' with
  | done no => exact fun c => .done fun s hs l => no s hs ((e s c).mpr l)
  | step hs hl hm _ ih => exact fun c => .step hs ((e _ c).mp hl) (fun r hr lr => hm r hr ((e r c).mpr lr)) (ih (c.right _))
theorem Strip.facts (hJ : Rt.In n J) {w t : List Nat} (h : Strip n bs J w t) : InJ J t ∧ NoJ n (mB bs) J (w ++ t) ∧ Rt.len n (mB bs) (w ++ t) + t.length = Rt.len n (mB bs) w := by
  induction h with
  | done no => exact ⟨.nil, by rwa [List.append_nil], by simp⟩
  | @step w t s hs hl hm _ ih =>
    obtain ⟨a, b, c⟩ := ih
    rw [List.append_assoc, List.singleton_append] at b c
    refine ⟨fun x hx => ?_, b, ?_⟩
    · rcases List.mem_cons.mp hx with rfl | hx
      · exact hs
      · exact a x hx
    · rw [List.length_cons]
      rcases Rt.len_snoc (m := mB bs) (hJ s hs) w with g | g <;> omega
/-- the head of a filtered list that goes up -/
theorem asc_head {P : Nat → Bool} : ∀ {l : List Nat} {s : Nat} {r : List Nat}, Asc l → l.filter P = s :: r → s ∈ l ∧ P s = true ∧ ∀ x ∈ l, P x = true → s ≤ x
  | [], _, _, _, e => by cases e
  | a :: l, s, r, as, e => by
    obtain ⟨h1, h2⟩ := List.pairwise_cons.mp as
    cases c : P a with
    | true =>
      rw [List.filter_cons_of_pos c] at e
      injection e with e1 _
      subst e1
      refine ⟨by simp, c, fun x hx _ => ?_⟩
      rcases List.mem_cons.mp hx with rfl | hx
      · exact Nat.le_refl _
      · exact Nat.le_of_lt (h1 x hx)
    | false =>
      rw [List.filter_cons_of_neg (by rw [c]; decide)] at e
      obtain ⟨a1, a2, a3⟩ := asc_head h2 e
      refine ⟨by simp [a1], a2, fun x hx px => ?_⟩
      rcases List.mem_cons.mp hx with rfl | hx
      · rw [c] at px
        cases px
      · exact a3 x hx px
theorem asc_range (n : Nat) : Asc (List.range n) := List.pairwise_lt_range
end
theorem inV_int (c : Int) (ns : List Int) : inV (.int c) (ns.map V.int) = ns.contains c := by
  unfold inV
  rw [List.any_map, List.contains_eq_any_beq]
  congr 1
  funext y
  show eqV (.int y) (.int c) = (c == y)
  rw [Bool.eq_iff_iff]
  simp [eqV]
  exact eq_comm
theorem inV_cast (c : Nat) (w : List Nat) : inV (.int (c : Nat)) ((castW w).map V.int) = true ↔ c ∈ w := by
  rw [inV_int, List.contains_iff_mem]
  unfold castW
  rw [List.mem_map]
  constructor
  · rintro ⟨i, hi, e⟩
    rw [show c = i by omega]
    exact hi
  · intro h
    exact ⟨c, h, rfl⟩

section
variable {n : Nat} {bs : List (List Int)} {J : List Nat}
def LF (n : Nat) (bs : List (List Int)) (v : List Nat) : List Nat := (List.range n).filter fun i => bel ((stN bs n v).getD i [])
theorem LF_len (v : List Nat) : (LF n bs v).length ≤ n := by
  unfold LF
  refine Nat.le_trans (List.length_filter_le _ _) ?_
  rw [List.length_range]
  exact Nat.le_refl _
def RJ (n : Nat) (bs : List (List Int)) (J : List Nat) (v : List Nat) : List Nat := ((List.range n).filter fun i => bel ((stN bs n v).getD i [])).filter fun i => decide (i ∈ J)
theorem lefts_cast (va : Valid n bs) {v : List Nat} (hv : Rt.In n v) : lefts (stN bs n v) = castW ((List.range n).filter fun i => bel ((stN bs n v).getD i [])) := by
  unfold lefts castW
  rw [st_len va hv]
  unfold upto
  rw [show ((n : Nat) : Int).toNat = n by omega, List.filter_map]
  rw [show (fun i : Nat => (0 : Int) + (i : Nat)) = (fun i : Nat => (i : Int)) from funext fun i => Int.zero_add _]
  rfl
theorem rev_low {w : List Nat} (s : Nat) : Rt.len n (mB bs) (s :: w.reverse) < Rt.len n (mB bs) w.reverse ↔ Rt.len n (mB bs) (w ++ [s]) < Rt.len n (mB bs) w := by
  have e : s :: w.reverse = (w ++ [s]).reverse := by simp
  rw [e, Rt.len_rev, Rt.len_rev]
theorem RJ_nil (va : Valid n bs) (hJ : Rt.In n J) {w : List Nat} (hw : Rt.In n w) : RJ n bs J w.reverse = [] ↔ NoJ n (mB bs) J w := by
  unfold RJ
  rw [List.filter_eq_nil_iff]
  constructor
  · intro h s hs hl
    refine h s (List.mem_filter.mpr ⟨List.mem_range.mpr (hJ s hs), ?_⟩) (decide_eq_true hs)
    exact (st_low va hw.rev (hJ s hs)).mpr ((rev_low s).mpr hl)
  · intro no i hi hd
    obtain ⟨h1, h2⟩ := List.mem_filter.mp hi
    have hs := of_decide_eq_true hd
    exact no i hs ((rev_low i).mp ((st_low va hw.rev (List.mem_range.mp h1)).mp h2))
theorem RJ_cons (va : Valid n bs) (hJ : Rt.In n J) {w : List Nat} (hw : Rt.In n w) {s : Nat} {r : List Nat} (h : RJ n bs J w.reverse = s :: r) : s ∈ J ∧ Rt.len n (mB bs) (w ++ [s]) < Rt.len n (mB bs) w ∧ ∀ r ∈ J, Rt.len n (mB bs) (w ++ [r]) < Rt.len n (mB bs) w → s ≤ r := by
  unfold RJ at h
  rw [List.filter_filter] at h
  obtain ⟨h1, h2, h3⟩ := asc_head (asc_range n) h
  obtain ⟨h4, h5⟩ := Bool.and_eq_true_iff.mp h2
  refine ⟨of_decide_eq_true h4, (rev_low s).mp ((st_low va hw.rev (List.mem_range.mp h1)).mp h5), fun r hr hl => h3 r (List.mem_range.mpr (hJ r hr)) ?_⟩
  rw [decide_eq_true hr, (st_low va hw.rev (hJ r hr)).mpr ((rev_low r).mpr hl)]
  rfl
theorem RJ_len (v : List Nat) : (RJ n bs J v).length ≤ n := by
  unfold RJ
  refine Nat.le_trans (List.length_filter_le _ _) (Nat.le_trans (List.length_filter_le _ _) ?_)
  rw [List.length_range]
  exact Nat.le_refl _
end
theorem flat_ints : ∀ ns : List Int, (ns.map V.int).all flatV = true
  | [] => rfl
  | n :: ns => by rw [List.map_cons, List.all_cons, flat_ints ns]; rfl
theorem LkAt.offL {K : PySem.W.Frag} {D : Addr} {H H' : Hp} {acc : List V} {v : V} {lk : List (List (List Int))} (h : LkAt K H v lk) (o : Off D H H') (hD : H D = some (.lst acc)) : LkAt K H' v lk := by
  obtain ⟨a, xs, e, q, t⟩ := h
  exact ⟨a, xs, e, o.sqT hD q, t.imp fun _ _ z => o.bs hD z⟩
def spSplit (K : PySem.W.Frag) (C : Addr) : Sp := fun vs H Q _ => ∃ (p : Addr) (wv jv bv : V) (n : Nat) (bs : List (List Int)) (w J t : List Nat), vs = [.ref p, wv, jv] ∧ SysAt K C H p n bv bs ∧ Valid n bs ∧ TI K H wv (castW w) ∧ Rt.In n w ∧ w.length ≤ 40 ∧ TI K H jv (castW J) ∧ Rt.In n J ∧ Asc J ∧ J.length ≤ 4 ∧ Strip n bs J w t ∧
  ∀ (a : Addr) (v1 v2 : V) H', Same H H' → SqT K H' a [v1, v2] → TI K H' v1 (castW (nfc n bs (w ++ t))) → TI K H' v2 (castW (nfc n bs t.reverse)) → Q (.ref a) H'
section
variable {P : Program} {Wo : World} {K : PySem.W.Frag} {mg : Str → Option Value} {base : Heap} {C : Addr}
theorem cal_split (T : Txt K mg C) : Cal P Wo K mg base "split" 9 (spSplit K C) := by
  refine T.d_split.cal (ps := ["system", "word", "letters"]) (fun f fd D => ?_) (fun _ _ _ _ _ _ us hl => match us, hl with | [_, _, _], _ => rfl)
  refine D.ok sc_split (fun vs H Q E h => ?_) (fun cdv A outer s H vs Q E hr h => ?_)
  · obtain ⟨_, _, _, _, _, _, _, _, _, rfl, _⟩ := h
    rfl
  · obtain ⟨p, wv, jv, bv, n, bs, w, J, t, rfl, y, va, tw, hw, wl, tj, hJ, as, jl, st, k⟩ := h
    refine ⟨_, (pss_cons (ps_expr (pe_calR (cal_check_coset T) (hr.mono (by decide)) (by rfl) (pa_cons (pv 0) (pa_cons (pv 2) (pa_cons (pv 1) pa_nil)))))
      (pss_cons (ps_set (i := 3) sc_split.nd rfl (Or.inl rfl) (pe_cal (cal_links_of T) (hr.mono (by decide)) (by rfl) (pa_cons (pv 0) pa_nil)))
      (pss_cons (ps_set (i := 4) sc_split.nd rfl (Or.inl rfl) (pe_cal (cal_state_of T) (hr.mono (by decide)) (by rfl) (pa_cons (pv 3) (pa_cons (pe_revT (pv 1)) pa_nil))))
      (pss_cons (ps_set (i := 5) sc_split.nd rfl (Or.inl rfl) (pe_lst pa_nil))
      (pss_cons (ps_setLc (i := 6) (own := [("letter", 7)]) (g := gName 7) rfl sc_split.nd rfl rfl (sw_true rfl rfl rfl (by decide +kernel)) (pi_list (pe_cal (cal_left_of T) (hr.mono (by decide)) (by rfl) (pa_cons (pv 4) pa_nil))) (blkOk_by (own := [("letter", 7)]) (N := ["system", "word", "letters", "links", "state", "taken", "rights", "letter"]) (sc := defScope s_split) (by decide +kernel)) (fun _ _ _ _ _ => (pg_name (i := 7) sc_split.nd rfl (Or.inl rfl))) (fun _ _ _ _ _ => (pts_one (pt_cmpR (show OpR _ _ (rIn K false) from op_in_seq) (pv 7) (pv 2) (by rfl)))) (fun _ _ _ _ _ => (pv 7)))
      (pss_cons (ps_while PassesOwn.never (pt_truth (pv 6) (by intro _; rfl)) (pss_cons (ps_expr (pe_bm PySem.F.plainAttrs_list PySem.F.slot_list_append PySem.F.type_list_append mt_append (pv 5) (pa_cons (pe_ix ix_list (pv 6) pe_int (fun _ _ => rfl)) pa_nil)))
      (pss_cons (ps_set (i := 4) sc_split.nd rfl (Or.inl rfl) (pe_cal (cal_put_ahead T) (hr.mono (by decide)) (by rfl) (pa_cons (pv 3) (pa_cons (pv 4) (pa_cons (pe_ix ix_list (pv 6) pe_int (fun _ _ => rfl)) pa_nil)))))
      (pss_one (ps_setLc (i := 6) (own := [("letter", 7)]) (g := gName 7) rfl sc_split.nd rfl rfl (sw_true rfl rfl rfl (by decide +kernel)) (pi_list (pe_cal (cal_left_of T) (hr.mono (by decide)) (by rfl) (pa_cons (pv 4) pa_nil))) (blkOk_by (own := [("letter", 7)]) (N := ["system", "word", "letters", "links", "state", "taken", "rights", "letter"]) (sc := defScope s_split) (by decide +kernel)) (fun _ _ _ _ _ => (pg_name (i := 7) sc_split.nd rfl (Or.inl rfl))) (fun _ _ _ _ _ => (pts_one (pt_cmpR (show OpR _ _ (rIn K false) from op_in_seq) (pv 7) (pv 2) (by rfl)))) (fun _ _ _ _ _ => (pv 7)))))))
      (pss_one (ps_ret (pe_tup (pa_cons (pe_cal (cal_normal_word T) (hr.mono (by decide)) (by rfl) (pa_cons (pv 3) (pa_cons (pe_revT (pe_cal (cal_normal_of T) (hr.mono (by decide)) (by rfl) (pa_cons (pv 3) (pa_cons (pv 4) pa_nil)))) pa_nil))) (pa_cons (pe_cal (cal_normal_word T) (hr.mono (by decide)) (by rfl) (pa_cons (pv 3) (pa_cons (pe_callTy call_tuple_of (by rfl) T.b_tuple (by decide +kernel) (pa_cons (pe_revL (pv 5)) pa_nil)) pa_nil))) pa_nil))))))))))), ?_⟩
    have n4 := va.hi
    have n1 := va.lo
    obtain ⟨jt, noJ, tl⟩ := st.facts hJ
    have it := jt.in_ hJ
    have wl2 := Rt.len_self (n := n) (m := mB bs) w
    refine ⟨_, rfl, _, rfl, _, rfl, p, jv, n, bv, bs, J, [wv], rfl, by simp, y, fun v hv => ⟨_, by rw [List.mem_singleton.mp hv]; exact tw, wd_of hw wl⟩, tj, hJ, as, jl, fun H1 s1 => ?_⟩
    refine ⟨_, rfl, p, n, bv, bs, rfl, y.same s1, va, fun v2 H2 s2 hlk => ?_⟩
    have s12 := s1.trans s2
    obtain ⟨wa, rfl, hwa⟩ := id (tw.same s12)
    refine ⟨_, rfl, _, rfl, wa, _, rfl, hwa, fun r nr => ?_⟩
    have sr := same_new (o := .tup ((castW w).map V.int).reverse) nr
    have er : ((castW w).map V.int).reverse = (castW w.reverse).map V.int := by rw [castW_rev, List.map_reverse]
    refine ⟨v2, .ref r, castW w.reverse, n, lkOf bs n, rfl, hlk.same sr, ⟨r, rfl, by rw [← er]; exact .of upd_same⟩, lkN va, wd_in hw.rev, by rw [cast_len', List.length_reverse]; omega, fun v3 H3 s3 b3 => ?_⟩
    have S3 := (s12.trans sr).trans s3
    have hlk3 := (hlk.same sr).same s3
    have tj3 := tj.same S3
    refine ⟨Nat.zero_le _, fun g ng => ?_⟩
    have sg := same_new (o := .lst []) ng
    have hg0 : (upd H3 g (.lst [])) g = some (.lst []) := upd_same
    have gH : H g = none := S3.free ng
    have S4 := S3.trans sg
    have hlk4 := hlk3.same sg
    have tj4 := tj3.same sg
    have b4 := b3.same sg
    clear s1 s2 s12 sr s3 hlk hlk3 b3 tj3 S3 sg
    generalize upd H3 g (.lst []) = H4 at *
    obtain ⟨ja, rfl, hja⟩ := id tj4
    -- the letters of J that are left
    have fine : ∀ {x : List Nat}, Rt.In n x → x.length ≤ 90 → Fine (stN bs n x) := fun hx xl => fine_word va (show Rt.In (n : Int).toNat _ from hx) (by omega)
    refine ⟨_, rfl, v3, stN bs n w.reverse, n, rfl, b4, stOkN _, by omega, fine hw.rev (by rw [List.length_reverse]; omega), fun a5 H5 s5 n5 ha5 => ?_⟩
    rw [lefts_cast va hw.rev] at ha5
    have hja5 := sqT_same s5 hja
    refine ⟨a5, rfl, ⟨_, .of ha5⟩, fun D nD => lc_it (walk_list (K := K) (a := a5) (xs := (castW (LF n bs w.reverse)).map V.int)) (fun j H' => Same H5 H' ∧ H' D = some (.lst ((castW (((LF n bs w.reverse).take j).filter fun i => decide (i ∈ J))).map V.int))) ⟨same_new nD, upd_same⟩ (fun j H' _ h => .of (h.1 _ _ ha5)) ?_ ?_⟩
    · rintro j x Hb' Hb hj ⟨sb, hD⟩ ⟨eb, hxj⟩
      subst eb
      obtain ⟨c, hc, rfl⟩ := castW_get hxj
      have fl := List.length_filter_le (fun i => decide (i ∈ J)) ((LF n bs w.reverse).take j)
      have lfl := LF_len (n := n) (bs := bs) w.reverse
      rw [List.length_take] at fl
      refine ⟨rfl, _, rfl, _, rfl, ja, _, rfl, .inr (sqT_same sb (hja5)), rfl, flat_ints _, ?_⟩
      have em := inV_cast c J
      refine ⟨_, rfl, ite2 (fun q => ?_) (fun q => ?_)⟩
      · refine ⟨_, rfl, _, hD, small1000 (by rw [List.length_map, cast_len']; omega), same_off nD sb off_upd, ?_⟩
        rw [upd_same, take_snoc hc, List.filter_append, List.filter_cons_of_pos (p := fun i => decide (i ∈ J)) (decide_eq_true (em.mp q)), List.filter_nil, castW_app, List.map_append]
        rfl
      · refine ⟨sb, ?_⟩
        rw [take_snoc hc, List.filter_append, List.filter_cons_of_neg (p := fun i => decide (i ∈ J)) (by rw [decide_eq_true_iff]; exact fun z => q (em.mpr z)), List.filter_nil, List.append_nil]
        exact hD
    · rintro H6 ⟨s6, hD⟩
      rw [List.length_map, cast_len', List.take_length] at hD
      replace hD : H6 D = some (.lst ((castW (RJ n bs J w.reverse)).map V.int)) := hD
      have hg6 := s6 _ _ (s5 _ _ hg0)
      have gD : g ≠ D := ne_of_none (s5 _ _ hg0) nD
      dsimp only [gName, tSeq]
      refine while_by (fun σ H' => ∃ (sv : V) (D : Addr) (v7 : Option V) (t0 t1 : List Nat), σ = [some (.ref p), some (.ref wa), some (.ref ja), some v2, some sv, some (.ref g), some (.ref D), v7] ∧ Off g H4 H' ∧ SqT K H' ja ((castW J).map V.int) ∧ LkAt K H' v2 (lkOf bs n) ∧ BsAt K H' sv (stN bs n (w ++ t0).reverse) ∧ H' g = some (.lst ((castW t0).map V.int)) ∧ H' D = some (.lst ((castW (RJ n bs J (w ++ t0).reverse)).map V.int)) ∧ Strip n bs J (w ++ t0) t1 ∧ t0 ++ t1 = t ∧ g ≠ D) (fun _ H' => 1000 - lenAt H' g) ?_ ?_ ?_
      · exact ⟨v3, D, _, [], t, rfl, .of_same (s5.trans s6), sqT_same s6 hja5, (hlk4.same s5).same s6, by rw [List.append_nil]; exact (b4.same s5).same s6, hg6, by rw [List.append_nil]; exact hD, by rw [List.append_nil]; exact st, rfl, gD⟩
      · rintro _ H7 ⟨sv, D, v7, t0, t1, rfl, o7, hja7, lk7, b7, hg, hD7, st7, ett, gD⟩
        have it0 : Rt.In n t0 := by
          rw [← ett] at it
          exact (Rt.In.app.mp it).1
        have iwt : Rt.In n (w ++ t0) := Rt.In.app.mpr ⟨hw, it0⟩
        have t0l : t0.length ≤ t.length := by rw [← ett, List.length_append]; omega
        have wtl : (w ++ t0).length ≤ 80 := by rw [List.length_append]; omega
        cases hR : RJ n bs J (w ++ t0).reverse with
        | nil =>
          rw [hR] at hD7
          have no := (RJ_nil va hJ iwt).mp hR
          obtain rfl := (Strip.done no).det st7
          rw [List.append_nil] at ett
          subst ett
          refine ⟨_, rfl, false, .inl ⟨_, .of hD7, rfl⟩, iteF ?_⟩
          have S7 := same_off gH S4 o7
          have ir := iwt.rev
          have nfz := nfc_nf va ir
          obtain ⟨cz, lz⟩ := nfz.cg ir
          have iz : Rt.In n (nfc n bs (w ++ t0).reverse) := cz.in_.mp ir
          have zl := nf_len' va ir
          rw [List.length_reverse] at zl
          have czr : Rt.Cg n (mB bs) (nfc n bs (w ++ t0).reverse).reverse (w ++ t0) := by
            have := cz.symm.rev
            rwa [List.reverse_reverse] at this
          refine ⟨_, rfl, _, rfl, _, rfl, v2, sv, n, lkOf bs n, _, castW (nfc n bs (w ++ t0).reverse), rfl, lk7, b7, lkN va, stOkN _, nw_of va ir nfz (by rw [List.length_reverse]; omega), by rw [cast_len']; omega, fun v8 H8 s8 t8 => ?_⟩
          obtain ⟨za, rfl, hza⟩ := id t8
          refine ⟨za, _, rfl, hza, fun r2 nr2 => ?_⟩
          have sr2 := same_new (o := .tup ((castW (nfc n bs (w ++ t0).reverse)).map V.int).reverse) nr2
          have er2 : ((castW (nfc n bs (w ++ t0).reverse)).map V.int).reverse = (castW (nfc n bs (w ++ t0).reverse).reverse).map V.int := by rw [castW_rev, List.map_reverse]
          have nfw := nfc_nf va iwt
          have nwl := nf_len' va iwt
          refine ⟨v2, .ref r2, n, lkOf bs n, castW (nfc n bs (w ++ t0).reverse).reverse, castW (nfc n bs (w ++ t0)), rfl, (lk7.same s8).same sr2, ⟨r2, rfl, by rw [← er2]; exact .of upd_same⟩, lkN va, wd_in iz.rev, by rw [cast_len', List.length_reverse]; omega, nw_of va iz.rev (nf_cg va iwt iz.rev nfw czr) (by rw [List.length_reverse]; omega), by rw [cast_len']; omega, fun v9 H9 s9 t9 => ?_⟩
          have S9 := (s8.trans sr2).trans s9
          have hg9 := S9 _ _ hg
          refine ⟨_, rfl, _, rfl, g, _, rfl, .of hg9, fun r3 nr3 => ?_⟩
          have sr3 := same_new (o := .lst ((castW t0).map V.int).reverse) nr3
          have er3 : ((castW t0).map V.int).reverse = (castW t0.reverse).map V.int := by rw [castW_rev, List.map_reverse]
          refine ⟨r3, _, rfl, .inl ⟨.of upd_same, fun r4 nr4 => ?_⟩⟩
          have sr4 := same_new (o := .tup ((castW t0).map V.int).reverse) nr4
          have nft := nfc_nf va it0.rev
          have tlen := nf_len' va it0.rev
          rw [List.length_reverse] at tlen
          refine ⟨v2, .ref r4, n, lkOf bs n, castW t0.reverse, castW (nfc n bs t0.reverse), rfl, ((lk7.same S9).same sr3).same sr4, ⟨r4, rfl, by rw [← er3]; exact .of upd_same⟩, lkN va, wd_in it0.rev, by rw [cast_len', List.length_reverse]; omega, nw_of va it0.rev nft (by rw [List.length_reverse]; omega), by rw [cast_len']; omega, fun v10 HA sA tA => ?_⟩
          refine ⟨show 2 ≤ sizeLine by decide, fun q nq => ?_⟩
          have sq := same_new (o := .tup [v9, v10]) nq
          have SA := (sr3.trans sr4).trans sA
          exact k q v9 v10 _ (((S7.trans S9).trans SA).trans sq) (.of upd_same) ((t9.same SA).same sq) (tA.same sq)
        | cons s rr =>
          rw [hR] at hD7
          obtain ⟨sJ, sl, smin⟩ := RJ_cons va hJ iwt hR
          have sn := hJ s sJ
          cases st7 with
          | done no => exact absurd sl (no s sJ)
          | @step _ t1' s' hs' hl' hm' st' =>
          obtain rfl : s = s' := Nat.le_antisymm (smin s' hs' hl') (hm' s sJ sl)
          refine ⟨_, rfl, true, .inl ⟨_, .of hD7, rfl⟩, iteT ?_⟩
          refine ⟨_, rfl, .inl ⟨rfl, _, .of hg⟩, _, rfl, _, _, _, _, rfl, rfl, .of hD7, at_of (j := 0) rfl rfl, g, _, .int ((s : Nat) : Int), rfl, rfl, hg, small1000 (by rw [List.length_map, cast_len']; omega), ?_⟩
          have og : Off g H7 (upd H7 g (.lst ((castW t0).map V.int ++ [.int ((s : Nat) : Int)]))) := off_upd
          have hgA : (upd H7 g (.lst ((castW t0).map V.int ++ [.int ((s : Nat) : Int)]))) g = some (.lst ((castW t0).map V.int ++ [.int ((s : Nat) : Int)])) := upd_same
          have hDA := og _ _ gD.symm hD7
          have hjaA := og.sqT hg hja7
          have lkA := lk7.offL og hg
          have bA := og.bs hg b7
          have oA := o7.trans og
          clear og hD7 hja7 lk7 b7 o7
          generalize upd H7 g (.lst ((castW t0).map V.int ++ [.int ((s : Nat) : Int)])) = HA at *
          refine ⟨_, rfl, _, rfl, _, rfl, _, _, _, _, rfl, rfl, .of hDA, at_of (j := 0) rfl rfl, v2, sv, ((s : Nat) : Int), n, lkOf bs n, _, rfl, lkA, bA, lkN va, stOkN _, by omega, by omega, fun v5 HB sB bB => ?_⟩
          rw [← st_cons, show s :: (w ++ t0).reverse = (w ++ (t0 ++ [s])).reverse by simp] at bB
          have hgB := sB _ _ hgA
          have lkB := lkA.same sB
          have hjaB := sqT_same sB hjaA
          have oB := oA
          have iws : Rt.In n (w ++ (t0 ++ [s])) := by
            rw [← List.append_assoc]
            exact Rt.In.app.mpr ⟨iwt, fun x hx => by rw [List.mem_singleton.mp hx]; exact sn⟩
          have wsl : (w ++ (t0 ++ [s])).reverse.length ≤ 90 := by
            rw [List.length_reverse, ← List.append_assoc, List.length_append, List.length_singleton]
            omega
          refine ⟨_, rfl, v5, stN bs n (w ++ (t0 ++ [s])).reverse, n, rfl, bB, stOkN _, by omega, fine iws.rev wsl, fun a5' HC sC nC haC => ?_⟩
          rw [lefts_cast va iws.rev] at haC
          have hjaC := sqT_same sC hjaB
          refine ⟨a5', rfl, ⟨_, .of haC⟩, fun D2 nD2 => lc_it (walk_list (K := K) (a := a5') (xs := (castW (LF n bs (w ++ (t0 ++ [s])).reverse)).map V.int)) (fun j H' => Same HC H' ∧ H' D2 = some (.lst ((castW (((LF n bs (w ++ (t0 ++ [s])).reverse).take j).filter fun i => decide (i ∈ J))).map V.int))) ⟨same_new nD2, upd_same⟩ (fun j H' _ h => .of (h.1 _ _ haC)) ?_ ?_⟩
          · rintro j x Hb' Hb hj ⟨sb, hD2⟩ ⟨eb, hxj⟩
            subst eb
            obtain ⟨c, hc, rfl⟩ := castW_get hxj
            have fl := List.length_filter_le (fun i => decide (i ∈ J)) ((LF n bs (w ++ (t0 ++ [s])).reverse).take j)
            have lfl := LF_len (n := n) (bs := bs) (w ++ (t0 ++ [s])).reverse
            rw [List.length_take] at fl
            refine ⟨rfl, _, rfl, _, rfl, ja, _, rfl, .inr (sqT_same sb hjaC), rfl, flat_ints _, ?_⟩
            have em := inV_cast c J
            refine ⟨_, rfl, ite2 (fun q => ?_) (fun q => ?_)⟩
            · refine ⟨_, rfl, _, hD2, small1000 (by rw [List.length_map, cast_len']; omega), same_off nD2 sb off_upd, ?_⟩
              rw [upd_same, take_snoc hc, List.filter_append, List.filter_cons_of_pos (p := fun i => decide (i ∈ J)) (decide_eq_true (em.mp q)), List.filter_nil, castW_app, List.map_append]
              rfl
            · refine ⟨sb, ?_⟩
              rw [take_snoc hc, List.filter_append, List.filter_cons_of_neg (p := fun i => decide (i ∈ J)) (by rw [decide_eq_true_iff]; exact fun z => q (em.mpr z)), List.filter_nil, List.append_nil]
              exact hD2
          · rintro HE ⟨sE, hD2⟩
            rw [List.length_map, cast_len', List.take_length] at hD2
            replace hD2 : HE D2 = some (.lst ((castW (RJ n bs J (w ++ (t0 ++ [s])).reverse)).map V.int)) := hD2
            have SC := sC.trans sE
            have hgE := SC _ _ hgB
            refine ⟨⟨v5, D2, _, t0 ++ [s], t1', rfl, oB.trans (.of_same (sB.trans SC)), sqT_same sE hjaC, (lkB.same sC).same sE, (bB.same sC).same sE, ?_, hD2, ?_, ?_, ne_of_none (sC _ _ hgB) nD2⟩, ?_⟩
            · rw [castW_app, List.map_append]
              exact hgE
            · rw [← List.append_assoc]
              exact st'
            · rw [← ett, List.append_assoc]
              rfl
            · unfold lenAt
              rw [hgE, hg]
              simp only [List.length_append, List.length_map, cast_len', List.length_cons, List.length_nil]
              rw [← ett, List.length_append, List.length_cons] at tl
              omega
      · rintro σ H Q Q' hq ⟨v, hv, k, tr, h⟩
        exact ⟨v, hv, k, tr, hq _ _ h⟩
end
end Sk

namespace Sk
open PySem L2 Ow
open Rt (InJ NoJ)
def spRLn (K : PySem.W.Frag) (C : Addr) : Sp := fun vs H Q _ => ∃ (p : Addr) (wv bv : V) (n : Nat) (bs : List (List Int)) (w : List Nat), vs = [.ref p, wv] ∧ SysAt K C H p n bv bs ∧ Valid n bs ∧ TI K H wv (castW w) ∧ Rt.In n w ∧ w.length ≤ 40 ∧ ∀ v H', Same H H' → TI K H' v (castW (LF n bs w.reverse)) → Q v H'
def spIsLeast (K : PySem.W.Frag) (C : Addr) : Sp := fun vs H Q _ => ∃ (p : Addr) (wv jv bv : V) (n : Nat) (bs : List (List Int)) (w J : List Nat), vs = [.ref p, wv, jv] ∧ SysAt K C H p n bv bs ∧ Valid n bs ∧ TI K H wv (castW w) ∧ Rt.In n w ∧ w.length ≤ 40 ∧ TI K H jv (castW J) ∧ Rt.In n J ∧ Asc J ∧ J.length ≤ 4 ∧ ∀ b H', Same H H' → (b = true ↔ NoJ n (mB bs) J w) → Q (.bl b) H'
def spLeastIn (K : PySem.W.Frag) (C : Addr) : Sp := fun vs H Q _ => ∃ (p : Addr) (wv jv bv : V) (n : Nat) (bs : List (List Int)) (w J t : List Nat), vs = [.ref p, wv, jv] ∧ SysAt K C H p n bv bs ∧ Valid n bs ∧ TI K H wv (castW w) ∧ Rt.In n w ∧ w.length ≤ 40 ∧ TI K H jv (castW J) ∧ Rt.In n J ∧ Asc J ∧ J.length ≤ 4 ∧ Strip n bs J w t ∧ ∀ v H', Same H H' → TI K H' v (castW (nfc n bs (w ++ t))) → Q v H'
section
variable {P : Program} {Wo : World} {K : PySem.W.Frag} {mg : Str → Option Value} {base : Heap} {C : Addr}
theorem cal_right_letters (T : Txt K mg C) : Cal P Wo K mg base "right_letters" 7 (spRLn K C) := by
  refine T.d_right_letters.cal (ps := ["system", "word"]) (fun f fd D => ?_) (fun _ _ _ _ _ _ us hl => match us, hl with | [_, _], _ => rfl)
  refine D.ok sc_right_letters (fun vs H Q E h => ?_) (fun cdv A outer s H vs Q E hr h => ?_)
  · obtain ⟨_, _, _, _, _, _, rfl, _⟩ := h
    rfl
  · obtain ⟨p, wv, bv, n, bs, w, rfl, y, va, t, hw, wl, k⟩ := h
    have n1 := va.lo
    have n4 := va.hi
    refine ⟨_, (pss_cons (ps_expr (pe_calR (cal_check_words T) (hr.mono (by decide)) (by rfl) (pa_cons (pv 0) (pa_cons (pv 1) pa_nil))))
      (pss_one (ps_ret (pe_callTy call_tuple_of (by rfl) T.b_tuple (by decide +kernel) (pa_cons (pe_cal (cal_left_of T) (hr.mono (by decide)) (by rfl) (pa_cons (pe_cal (cal_state_of T) (hr.mono (by decide)) (by rfl) (pa_cons (pe_cal (cal_links_of T) (hr.mono (by decide)) (by rfl) (pa_cons (pv 0) pa_nil)) (pa_cons (pe_revT (pv 1)) pa_nil))) pa_nil)) pa_nil))))), ?_⟩
    refine ⟨_, rfl, _, rfl, p, n, bv, bs, [wv], rfl, by simp, y, fun v hv => ⟨_, by rw [List.mem_singleton.mp hv]; exact t, wd_of hw wl⟩, fun H1 s1 => ?_⟩
    refine ⟨_, rfl, p, n, bv, bs, rfl, y.same s1, va, fun v2 H2 s2 hlk => ?_⟩
    obtain ⟨wa, rfl, hwa⟩ := (t.same s1).same s2
    refine ⟨_, rfl, wa, _, rfl, hwa, fun r nr => ?_⟩
    have s2b := same_new (o := .tup ((castW w).map V.int).reverse) nr
    have er : ((castW w).map V.int).reverse = (castW w.reverse).map V.int := by rw [castW_rev, List.map_reverse]
    refine ⟨v2, .ref r, castW w.reverse, n, lkOf bs n, rfl, hlk.same s2b, ⟨r, rfl, by rw [← er]; exact .of upd_same⟩, lkN va, wd_in hw.rev, by rw [cast_len', List.length_reverse]; omega, fun v3 H3 s3 hb => ?_⟩
    refine ⟨v3, stN bs n w.reverse, n, rfl, hb, stOkN _, by omega, fine_word va (show Rt.In (n : Int).toNat _ from hw.rev) (by rw [List.length_reverse]; omega), fun a H4 s4 na ha => ?_⟩
    rw [lefts_cast va hw.rev] at ha
    exact ⟨a, _, rfl, .inl ⟨.of ha, fun t nt => k _ _ (((((s1.trans s2).trans s2b).trans s3).trans s4).trans (same_new nt)) ⟨t, rfl, .of upd_same⟩⟩⟩
theorem cal_least_in (T : Txt K mg C) : Cal P Wo K mg base "least_in" 10 (spLeastIn K C) := by
  refine T.d_least_in.cal (ps := ["system", "word", "letters"]) (fun f fd D => ?_) (fun _ _ _ _ _ _ us hl => match us, hl with | [_, _, _], _ => rfl)
  refine D.ok sc_least_in (fun vs H Q E h => ?_) (fun cdv A outer s H vs Q E hr h => ?_)
  · obtain ⟨_, _, _, _, _, _, _, _, _, rfl, _⟩ := h
    rfl
  · obtain ⟨p, wv, jv, bv, n, bs, w, J, t, rfl, y, va, tw, hw, wl, tj, hJ, as, jl, st, k⟩ := h
    refine ⟨_, (pss_one (ps_ret (pe_ix ix_tup (pe_cal (cal_split T) (hr.mono (by decide)) (by rfl) (pa_cons (pv 0) (pa_cons (pv 1) (pa_cons (pv 2) pa_nil)))) pe_int (fun _ _ => rfl)))), ?_⟩
    refine ⟨_, rfl, _, rfl, _, rfl, p, wv, jv, bv, n, bs, w, J, t, rfl, y, va, tw, hw, wl, tj, hJ, as, jl, st, fun a v1 v2 H1 s1 q t1 _ => ?_⟩
    exact ⟨_, _, _, _, rfl, rfl, q, at_of (j := 0) rfl rfl, k _ _ s1 t1⟩
theorem cal_is_least (T : Txt K mg C) : Cal P Wo K mg base "is_least" 9 (spIsLeast K C) := by
  refine T.d_is_least.cal (ps := ["system", "word", "letters"]) (fun f fd D => ?_) (fun _ _ _ _ _ _ us hl => match us, hl with | [_, _, _], _ => rfl)
  refine D.ok sc_is_least (fun vs H Q E h => ?_) (fun cdv A outer s H vs Q E hr h => ?_)
  · obtain ⟨_, _, _, _, _, _, _, _, rfl, _⟩ := h
    rfl
  · obtain ⟨p, wv, jv, bv, n, bs, w, J, rfl, y, va, tw, hw, wl, tj, hJ, as, jl, k⟩ := h
    refine ⟨_, (pss_cons (ps_expr (pe_calR (cal_check_coset T) (hr.mono (by decide)) (by rfl) (pa_cons (pv 0) (pa_cons (pv 2) (pa_cons (pv 1) pa_nil)))))
      (pss_one (ps_ret (pe_not (pe_callB (cr_any rfl) (by rfl) T.b_any (by decide +kernel) (pa_cons (pe_lc (own := [("letter", 3)]) (g := gName 3) (tt := tYes) rfl sc_is_least.nd (pi_tup (pe_cal (cal_right_letters T) (hr.mono (by decide)) (by rfl) (pa_cons (pv 0) (pa_cons (pv 1) pa_nil)))) (blkOk_by (own := [("letter", 3)]) (N := ["system", "word", "letters", "letter"]) (sc := defScope s_is_least) (by decide +kernel)) (fun _ _ _ _ _ => (pg_name (i := 3) sc_is_least.nd rfl (Or.inl rfl))) (fun _ _ _ _ _ => pts_nil) (fun _ _ _ _ _ => (pe_cmpR (show OpR _ _ (rIn K false) from op_in_seq) (pv 3) (pv 2) (by rfl)))) pa_nil)))))), ?_⟩
    have n1 := va.lo
    have n4 := va.hi
    refine ⟨_, rfl, _, rfl, _, rfl, p, jv, n, bv, bs, J, [wv], rfl, by simp, y, fun v hv => ⟨_, by rw [List.mem_singleton.mp hv]; exact tw, wd_of hw wl⟩, tj, hJ, as, jl, fun H1 s1 => ?_⟩
    refine ⟨_, rfl, _, rfl, p, wv, bv, n, bs, w, rfl, y.same s1, va, tw.same s1, hw, wl, fun v2 H2 s2 ⟨ra, era, hra⟩ => ?_⟩
    subst era
    have S2 := s1.trans s2
    obtain ⟨ja, rfl, hja⟩ := tj.same S2
    have lfl := LF_len (n := n) (bs := bs) w.reverse
    refine ⟨ra, rfl, ⟨_, hra⟩, fun D nD => lc_it (walk_tup (K := K) (a := ra) (xs := (castW (LF n bs w.reverse)).map V.int)) (fun j H' => Same H2 H' ∧ H' D = some (.lst ((((LF n bs w.reverse).take j).map fun i => decide (i ∈ J)).map V.bl))) ⟨same_new nD, upd_same⟩ (fun j H' _ h => sqT_same h.1 hra) ?_ ?_⟩
    · rintro j x Hb' Hb hj ⟨sb, hD⟩ ⟨eb, hxj⟩
      subst eb
      obtain ⟨c, hc, rfl⟩ := castW_get hxj
      refine ⟨rfl, _, rfl, _, rfl, ja, _, rfl, .inr (sqT_same sb hja), rfl, flat_ints _, ?_⟩
      refine ⟨_, hD, small1000 (by simp only [List.length_map, List.length_take]; omega), same_off nD sb off_upd, ?_⟩
      have em : inV (.int ((c : Nat) : Int)) ((castW J).map V.int) = decide (c ∈ J) := by
        rw [Bool.eq_iff_iff, inV_cast, decide_eq_true_iff]
      rw [upd_same, take_snoc hc, List.map_append, List.map_append]
      show some (HO.lst (_ ++ [V.bl (inV (.int ((c : Nat) : Int)) ((castW J).map V.int))])) = _
      rw [em]
      rfl
    · rintro H3 ⟨s3, hD⟩
      rw [List.length_map, cast_len', List.take_length] at hD
      refine ⟨_, _, rfl, .of hD, ?_⟩
      refine ⟨_, rfl, k _ _ (S2.trans s3) ?_⟩
      rw [Bool.not_eq_true', ← RJ_nil va hJ hw]
      have e : RJ n bs J w.reverse = (LF n bs w.reverse).filter fun i => decide (i ∈ J) := rfl
      rw [e, List.filter_eq_nil_iff, ← Bool.not_eq_true, List.any_eq_true]
      constructor
      · intro h i hi hd
        exact h ⟨true, List.mem_map.mpr ⟨i, hi, hd⟩, rfl⟩
      · rintro h ⟨b, hb, e⟩
        obtain ⟨i, hi, rfl⟩ := List.mem_map.mp hb
        exact h i hi e
end
end Sk

namespace Sk
open PySem L2 Ow
open Rt (InJ NoJ)
theorem a2_last {α : Type} {R : V → α → Prop} {xs : List V} {l : List α} {k : α} (h : A2 R xs (l ++ [k])) : ∃ x0, atI xs (-1) = some x0 ∧ R x0 k := by
  have xl := h.len
  rw [List.length_append, List.length_singleton] at xl
  have hl : l.length < xs.length := by omega
  have hi : xs[l.length]? = some xs[l.length] := List.getElem?_eq_getElem hl
  obtain ⟨c0, ec, tc⟩ := h.get hi
  rw [List.getElem?_append_right (by omega), Nat.sub_self] at ec
  obtain rfl : c0 = k := (Option.some.inj ec).symm
  refine ⟨_, ?_, tc⟩
  have ex : xs = xs.take l.length ++ [xs[l.length]] := by
    rw [← take_snoc hi, List.take_of_length_le (by omega)]
  have := atI_last (xs.take l.length) xs[l.length]
  rwa [← ex] at this
theorem AllJ.nil {n : Nat} {bs : List (List Int)} {J : List Nat} {W : List (List Nat)} (va : Valid n bs) (a : AllJ n bs J W) : [] ∈ W := (a.me []).mpr ⟨NW.nil va, .nil⟩
def spCoset (K : PySem.W.Frag) (C : Addr) : Sp := fun vs H Q _ => ∃ (p : Addr) (wv jv bv : V) (n : Nat) (bs : List (List Int)) (w J t : List Nat) (W : List (List Nat)), vs = [.ref p, wv, jv] ∧ SysAt K C H p n bv bs ∧ Valid n bs ∧ TI K H wv (castW w) ∧ Rt.In n w ∧ w.length ≤ 16 ∧ TI K H jv (castW J) ∧ Rt.In n J ∧ Asc J ∧ J.length ≤ 4 ∧ Strip n bs J w t ∧ AllJ n bs J W ∧ W.length ≤ 120 ∧ (∀ x ∈ W, x.length ≤ 24) ∧
  ∀ v out H', Same H H' → BsAt K H' v (out.map castW) → out.Perm (W.map fun z => nfc n bs (nfc n bs (w ++ t) ++ z)) → Sorted out → Q v H'
def spGreat (K : PySem.W.Frag) (C : Addr) : Sp := fun vs H Q _ => ∃ (p : Addr) (wv jv bv : V) (n : Nat) (bs : List (List Int)) (w J t top : List Nat) (W : List (List Nat)), vs = [.ref p, wv, jv] ∧ SysAt K C H p n bv bs ∧ Valid n bs ∧ TI K H wv (castW w) ∧ Rt.In n w ∧ w.length ≤ 16 ∧ TI K H jv (castW J) ∧ Rt.In n J ∧ Asc J ∧ J.length ≤ 4 ∧ Strip n bs J w t ∧ AllJ n bs J (W ++ [top]) ∧ (W ++ [top]).length ≤ 120 ∧ (∀ x ∈ W ++ [top], x.length ≤ 24) ∧
  ∀ v H', Same H H' → TI K H' v (castW (nfc n bs (nfc n bs (w ++ t) ++ top))) → Q v H'
section
variable {P : Program} {Wo : World} {K : PySem.W.Frag} {mg : Str → Option Value} {base : Heap} {C : Addr}
theorem cal_greatest_in (T : Txt K mg C) : Cal P Wo K mg base "greatest_in" 11 (spGreat K C) := by
  refine T.d_greatest_in.cal (ps := ["system", "word", "letters"]) (fun f fd D => ?_) (fun _ _ _ _ _ _ us hl => match us, hl with | [_, _, _], _ => rfl)
  refine D.ok sc_greatest_in (fun vs H Q E h => ?_) (fun cdv A outer s H vs Q E hr h => ?_)
  · obtain ⟨_, _, _, _, _, _, _, _, _, _, _, rfl, _⟩ := h
    rfl
  · obtain ⟨p, wv, jv, bv, n, bs, w, J, t, top, W, rfl, y, va, tw, hw, wl, tj, hJ, as, jl, st, AW, w120, w24, k⟩ := h
    refine ⟨_, (pss_cons (ps_set (i := 3) sc_greatest_in.nd rfl (Or.inl rfl) (pe_cal (cal_least_in T) (hr.mono (by decide)) (by rfl) (pa_cons (pv 0) (pa_cons (pv 1) (pa_cons (pv 2) pa_nil)))))
      (pss_cons (ps_set (i := 4) sc_greatest_in.nd rfl (Or.inl rfl) (pe_cal (cal_links_of T) (hr.mono (by decide)) (by rfl) (pa_cons (pv 0) pa_nil)))
      (pss_cons (ps_set (i := 5) sc_greatest_in.nd rfl (Or.inl rfl) (pe_cal (cal_normal_word T) (hr.mono (by decide)) (by rfl) (pa_cons (pv 4) (pa_cons (pe_op op_catA (pv 3) (pe_ix ix_list (pe_cal (cal_members_by T) (hr.mono (by decide)) (by rfl) (pa_cons (pv 4) (pa_cons (pv 2) pa_nil))) (pe_un un_neg pe_int) (fun _ _ => rfl))) pa_nil))))
      (pss_cons (ps_expr (pe_cal (cal_check_length T) (hr.mono (by decide)) (by rfl) (pa_cons (pv 5) pa_nil)))
      (pss_one (ps_ret (pv 5))))))), ?_⟩
    have n1 := va.lo
    have n4 := va.hi
    obtain ⟨jt, noJ, tl⟩ := st.facts hJ
    have iwt : Rt.In n (w ++ t) := Rt.In.app.mpr ⟨hw, jt.in_ hJ⟩
    have nfu := nfc_nf va iwt
    have nu := NW.of va iwt nfu
    have ul := (nfu.cg iwt).2
    have wl2 := Rt.len_self (n := n) (m := mB bs) w
    refine ⟨_, rfl, _, rfl, _, rfl, p, wv, jv, bv, n, bs, w, J, t, rfl, y, va, tw, hw, by omega, tj, hJ, as, jl, st, fun v1 H1 s1 t1 => ?_⟩
    refine ⟨_, rfl, p, n, bv, bs, rfl, y.same s1, va, fun v2 H2 s2 hlk => ?_⟩
    have s12 := s1.trans s2
    have t12 := t1.same s2
    generalize nfc n bs (w ++ t) = u at *
    refine ⟨_, rfl, _, rfl, _, rfl, _, rfl, v2, jv, n, bs, J, W ++ [top], rfl, hlk, tj.same s12, va, hJ, jl, AW, w120, w24, fun g ys H3 s3 ng hg hy => ?_⟩
    have hy2 := hy
    rw [List.map_append] at hy2
    obtain ⟨x0, ax, tx⟩ := a2_last hy2
    obtain ⟨ua, rfl, hua⟩ := t12.same s3
    obtain ⟨xa, rfl, hxa⟩ := id tx
    have topl := w24 top (by simp)
    have itop := ((AW.me top).mp (by simp)).1.1
    refine ⟨_, rfl, _, _, _, _, rfl, rfl, .of hg, ax, ?_⟩
    refine cat_any hua hxa (by simp only [List.length_map, cast_len']; omega) fun v4 H4 s4 ⟨c4, e4, q4⟩ => ?_
    subst e4
    rw [← List.map_append, ← castW_app] at q4
    have iut : Rt.In n (u ++ top) := Rt.In.app.mpr ⟨nu.1, itop⟩
    have nf4 := nfc_nf va iut
    have l4 := nf_len' va iut
    rw [List.length_append] at l4
    refine ⟨v2, .ref c4, n, lkOf bs n, castW (u ++ top), castW (nfc n bs (u ++ top)), rfl, (hlk.same s3).same s4, ⟨c4, rfl, q4⟩, lkN va, wd_in iut, by rw [cast_len', List.length_append]; omega, nw_of va iut nf4 (by rw [List.length_append]; omega), by rw [cast_len']; omega, fun v5 H5 s5 t5 => ?_⟩
    refine ⟨_, rfl, v5, nfc n bs (u ++ top), rfl, t5, by omega, ?_⟩
    exact ⟨_, rfl, k _ _ (((s12.trans s3).trans s4).trans s5) t5⟩
theorem cal_coset (T : Txt K mg C) : Cal P Wo K mg base "coset" 11 (spCoset K C) := by
  refine T.d_coset.cal (ps := ["system", "word", "letters"]) (fun f fd D => ?_) (fun _ _ _ _ _ _ us hl => match us, hl with | [_, _, _], _ => rfl)
  refine D.ok sc_coset (fun vs H Q E h => ?_) (fun cdv A outer s H vs Q E hr h => ?_)
  · obtain ⟨_, _, _, _, _, _, _, _, _, _, rfl, _⟩ := h
    rfl
  · obtain ⟨p, wv, jv, bv, n, bs, w, J, t, W, rfl, y, va, tw, hw, wl, tj, hJ, as, jl, st, AW, w120, w24, k⟩ := h
    refine ⟨_, (pss_cons (ps_set (i := 3) sc_coset.nd rfl (Or.inr rfl) (pe_cal (cal_least_in T) (hr.mono (by decide)) (by rfl) (pa_cons (pv 0) (pa_cons (pv 1) (pa_cons (pv 2) pa_nil)))))
      (pss_cons (ps_set (i := 4) sc_coset.nd rfl (Or.inr rfl) (pe_cal (cal_links_of T) (hr.mono (by decide)) (by rfl) (pa_cons (pv 0) pa_nil)))
      (pss_cons (ps_set (i := 5) sc_coset.nd rfl (Or.inl rfl) (pe_cal (cal_by_length T) (hr.mono (by decide)) (by rfl) (pa_cons (pe_lc (own := [("behind", 6)]) (g := gName 6) (tt := tYes) rfl sc_coset.nd (pi_list (pe_cal (cal_members_by T) (hr.mono (by decide)) (by rfl) (pa_cons (pv 4) (pa_cons (pv 2) pa_nil)))) (blkOk_by (own := [("behind", 6)]) (N := ["system", "word", "letters", "least", "links", "found", "behind"]) (sc := defScope s_coset) (by decide +kernel)) (fun _ _ _ _ _ => (pg_name (i := 6) sc_coset.nd rfl (Or.inl rfl))) (fun _ _ _ _ _ => pts_nil) (fun _ _ _ _ _ => (pe_cal (cal_normal_word T) (hr.mono (by decide)) (by rfl) (pa_cons (pv 4) (pa_cons (pe_op (show OpR _ _ (rCatA K) from op_catA) (pv 3) (pv 6)) pa_nil))))) pa_nil)))
      (pss_cons (ps_expr (pe_cal (cal_check_length T) (hr.mono (by decide)) (by rfl) (pa_cons (pe_ix ix_tup (pv 5) (pe_un un_neg pe_int) (fun _ _ => rfl)) pa_nil)))
      (pss_one (ps_ret (pv 5))))))), ?_⟩
    have n1 := va.lo
    have n4 := va.hi
    obtain ⟨jt, noJ, tl⟩ := st.facts hJ
    have iwt : Rt.In n (w ++ t) := Rt.In.app.mpr ⟨hw, jt.in_ hJ⟩
    have nfu := nfc_nf va iwt
    have nu := NW.of va iwt nfu
    have ul := (nfu.cg iwt).2
    have wl2 := Rt.len_self (n := n) (m := mB bs) w
    refine ⟨_, rfl, _, rfl, _, rfl, p, wv, jv, bv, n, bs, w, J, t, rfl, y, va, tw, hw, by omega, tj, hJ, as, jl, st, fun v1 H1 s1 t1 => ?_⟩
    refine ⟨_, rfl, p, n, bv, bs, rfl, y.same s1, va, fun v2 H2 s2 hlk => ?_⟩
    have s12 := s1.trans s2
    have t12 := t1.same s2
    generalize nfc n bs (w ++ t) = u at *
    refine ⟨_, rfl, _, rfl, v2, jv, n, bs, J, W, rfl, hlk, tj.same s12, va, hJ, jl, AW, w120, w24, fun g ys H3 s3 ng hg hy => ?_⟩
    have yl := hy.len
    rw [List.length_map] at yl
    have t13 := t12.same s3
    have hlk3 := hlk.same s3
    have zin : ∀ z ∈ W, Rt.In n (u ++ z) ∧ (nfc n bs (u ++ z)).length ≤ 40 ∧ z.length ≤ 24 := fun z hz => by
      have i := Rt.In.app.mpr ⟨nu.1, ((AW.me z).mp hz).1.1⟩
      have l := nf_len' va i
      have := w24 z hz
      rw [List.length_append] at l
      exact ⟨i, by omega, this⟩
    refine ⟨g, rfl, ⟨_, .of hg⟩, fun D nD => lc_it (walk_list (K := K) (a := g) (xs := ys)) (fun j H' => Same H3 H' ∧ ∃ zs, H' D = some (.lst zs) ∧ A2 (TI K H') zs (((W.take j).map fun z => nfc n bs (u ++ z)).map castW)) ⟨same_new nD, [], upd_same, trivial⟩ (fun j H' _ h => .of (h.1 _ _ hg)) ?_ ?_⟩
    · rintro j x H4' H4 hj ⟨s4, zs, hD, hz⟩ ⟨e4, hxj⟩
      subst e4
      obtain ⟨c0, ec, tc⟩ := hy.get hxj
      rw [List.getElem?_map] at ec
      cases eu : W[j]? with
      | none => rw [eu] at ec; cases ec
      | some z0 =>
        rw [eu] at ec
        obtain rfl : c0 = castW z0 := (Option.some.inj ec).symm
        obtain ⟨iz, lz, zl⟩ := zin z0 (List.mem_of_getElem? eu)
        obtain ⟨ua, rfl, hua⟩ := t13.same s4
        obtain ⟨xa, rfl, hxa⟩ := tc.same s4
        refine ⟨rfl, _, rfl, _, rfl, _, rfl, cat_any hua hxa (by simp only [List.length_map, cast_len']; omega) fun v5 H5 s5 ⟨c5, e5, q5⟩ => ?_⟩
        subst e5
        rw [← List.map_append, ← castW_app] at q5
        refine ⟨v2, .ref c5, n, lkOf bs n, castW (u ++ z0), castW (nfc n bs (u ++ z0)), rfl, (hlk3.same s4).same s5, ⟨c5, rfl, q5⟩, lkN va, wd_in iz, by rw [cast_len', List.length_append]; omega, nw_of va iz (nfc_nf va iz) (by rw [List.length_append]; omega), by rw [cast_len']; omega, fun v6 H6 s6 t6 => ?_⟩
        have S56 := s5.trans s6
        have hD6 := S56 _ _ hD
        have zsl := hz.len
        rw [List.length_map, List.length_map, List.length_take] at zsl
        have oD : Off D H6 (upd H6 D (.lst (zs ++ [v6]))) := off_upd
        refine ⟨_, hD6, small1000 (by omega), same_off nD (s4.trans S56) oD, _, upd_same, ?_⟩
        rw [take_snoc eu, List.map_append, List.map_append]
        exact A2.two (hz.imp fun v k h => oD.ti hD6 (h.same S56)) (oD.ti hD6 t6)
    · rintro H4 ⟨s4, zs, hD, hz⟩
      rw [yl, List.take_length] at hz
      refine ⟨D, zs, W.map fun z => nfc n bs (u ++ z), rfl, hD, hz, by rw [List.length_map]; omega, fun x hx => ?_, fun v5 out H5 s5 b5 po so => ?_⟩
      · obtain ⟨z, hz', rfl⟩ := List.mem_map.mp hx
        have := (zin z hz').2.1
        omega
      · have opos : out ≠ [] := fun e => by
          have := po.length_eq
          rw [e, List.length_map] at this
          have h0 := List.length_pos_of_mem (AW.nil va)
          simp only [List.length_nil] at this
          omega
        obtain ⟨ol, ok, eo⟩ : ∃ l k, out = l ++ [k] := by
          rcases List.eq_nil_or_concat out with e | ⟨l, k, e⟩
          · exact absurd e opos
          · exact ⟨l, k, by rw [e, List.concat_eq_append]⟩
        obtain ⟨oa, os, rfl, hoq, hot⟩ := id b5
        have hA := A2.of_tis hot
        rw [eo, List.map_append] at hA
        obtain ⟨x0, ax, tx⟩ := a2_last hA
        have okl : ok.length ≤ 40 := by
          have : ok ∈ W.map fun z => nfc n bs (u ++ z) := po.mem_iff.mp (by rw [eo]; simp)
          obtain ⟨z, hz', rfl⟩ := List.mem_map.mp this
          exact (zin z hz').2.1
        refine ⟨_, rfl, _, rfl, _, _, _, _, rfl, rfl, hoq, ax, x0, ok, rfl, tx, okl, ?_⟩
        exact ⟨_, rfl, k _ out _ ((s12.trans s3).trans (s4.trans s5)) b5 po so⟩
end
end Sk

namespace Sk
open PySem L2 Ow
def spBag (K : PySem.W.Frag) : Sp := fun vs H Q _ => ∃ (sa : Addr) (at_ : Int) (ns : List Int), vs = [.ref sa, .int at_] ∧ SqL K H sa (ns.map V.int) ∧ 0 ≤ at_ ∧
  ∀ (p : Addr) (H' : Hp), Same H H' → H p = none → VatAt H' p → Q (.ref p) H'
def spDip : Sp := fun vs H Q _ => ∃ (p : Addr) (n : Int), vs = [.ref p, .int n] ∧ 0 < n ∧ n ≤ 5000 ∧ VatAt H p ∧ ∀ (r : Int) (H' : Hp), 0 ≤ r → r < n → Off p H H' → VatAt H' p → Q (.int r) H'
def spPick (K : PySem.W.Frag) : Sp := fun vs H Q _ => ∃ (p l : Addr) (xs : List V), vs = [.ref p, .ref l] ∧ VatAt H p ∧ ((H l = some (.lst xs) ∧ l ≠ p) ∨ SqT K H l xs) ∧ 0 < xs.length ∧ xs.length ≤ 5000 ∧
  ∀ (v : V) (H' : Hp), v ∈ xs → Off p H H' → VatAt H' p → Q v H'
section
variable {P : Program} {w : World} {K : PySem.W.Frag} {mg : Str → Option Value} {base : Heap} {C : Addr}
theorem cal_l_dip (T : Txt K mg C) : Cal P w K mg base "_law_dip" 1 spDip := by
  refine T.d_l_dip.cal (ps := ["_law_bag_here", "_law_total"]) (fun f fd D => ?_) (fun _ _ _ _ _ _ us hl => match us, hl with | [_, _], _ => rfl)
  refine D.ok sc_l_dip (fun vs H Q E h => ?_) (fun cdv A outer s H vs Q E hr h => ?_)
  · obtain ⟨p, n, rfl, _⟩ := h
    rfl
  · obtain ⟨p, n, rfl, hn, hm, ⟨b0, b1, b2, hp⟩, k⟩ := h
    refine ⟨_, (pss_cons (ps_if (pt_cmpR op_gt (pe_ix ix_list (pv 0) pe_int (fun _ _ => rfl)) pe_int (nomark _)) (pss_cons (ps_set (i := 2) sc_l_dip.nd rfl (Or.inl rfl) (pe_op op_modN (pe_callTy call_int1 (by rfl) T.b_int (by decide +kernel) (pa_cons (pe_ix ix_list (pv 0) pe_int (fun _ _ => rfl)) pa_nil)) (pv 1)))
      (pss_cons (ps_asg (pe_op op_fdivW (pe_ix ix_list (pv 0) pe_int (fun _ _ => rfl)) (pv 1)) (pg_sub (pv 0) pe_int set_list))
      (pss_one (ps_ret (pv 2))))) pss_nil)
      (pss_cons (ps_asg (pe_op op_add (pe_ix ix_list (pv 0) pe_int (fun _ _ => rfl)) pe_int) (pg_sub (pv 0) pe_int set_list))
      (pss_cons (ps_set (i := 3) sc_l_dip.nd rfl (Or.inl rfl) (pe_op op_mod (pe_callTy call_int1 (by rfl) T.b_int (by decide +kernel) (pa_cons (pe_op op_add (pe_ix ix_list (pv 0) pe_int (fun _ _ => rfl)) (pe_op op_mul pe_int (pe_ix ix_list (pv 0) pe_int (fun _ _ => rfl)))) pa_nil)) pe_int))
      (pss_cons (ps_set (i := 4) sc_l_dip.nd rfl (Or.inl rfl) (pe_op op_add (pe_op op_mul (pe_op op_mod (pe_callTy call_int1 (by rfl) T.b_int (by decide +kernel) (pa_cons (pe_op op_add (pe_op op_mulW (pv 3) (pv 3)) (pe_op op_mul pe_int (pe_ix ix_list (pv 0) pe_int (fun _ _ => rfl)))) pa_nil)) pe_int) pe_int) (pv 3)))
      (pss_one (ps_ret (pe_op op_modN (pe_callTy call_int1 (by rfl) T.b_int (by decide +kernel) (pa_cons (pe_op op_fdiv (pv 4) pe_int) pa_nil)) (pv 1)))))))), ?_⟩
    have bn : n.natAbs < 2 ^ 13 := by omega
    have b61 : ∀ i m : Int, 0 < m → m ≤ 2305843009213693951 → (i % m).natAbs < 2 ^ 61 := fun i m h0 h1 => by
      have := em (i := i) h0
      omega
    refine ⟨_, rfl, _, _, _, _, rfl, rfl, .of hp, rfl, _, _, rfl, rfl, _, rfl, ite2 (fun hpos => ?_) (fun _ => ?_)⟩
    · refine ⟨_, rfl, _, _, _, _, rfl, rfl, .of hp, rfl, .inl ⟨_, rfl, _, rfl, _, _, rfl, rfl, (by omega), ?_⟩⟩
      refine ⟨_, rfl, _, _, _, _, rfl, rfl, .of hp, rfl, _, rfl, _, _, rfl, rfl, wide_div hn bn (by decide) (by decide), _, rfl, _, _, _, _, rfl, rfl, hp, rfl, ?_⟩
      refine ⟨_, rfl, k _ _ (fm hn).1 (fm hn).2 off_upd ⟨_, _, _, upd_same⟩⟩
    · refine ⟨_, rfl, _, _, _, _, rfl, rfl, .of hp, rfl, _, _, rfl, rfl, _, rfl, _, _, _, _, rfl, rfl, hp, rfl, ?_⟩
      have hq : upd H p (.lst [.int b0, .int b1, .int (b2 + 1)]) p = some (.lst [.int b0, .int b1, .int (b2 + 1)]) := upd_same
      refine ⟨_, rfl, _, _, _, _, rfl, rfl, .of hq, rfl, _, rfl, _, _, _, _, rfl, rfl, .of hq, rfl, _, _, rfl, rfl, .inl ⟨by decide, by decide⟩, _, _, rfl, rfl, .inl ⟨_, rfl, _, _, rfl, rfl, show (0 : Int) < 2305843009213693951 by decide, ?_⟩⟩
      have bo := b61 (b1 + 6700417 * (b2 + 1)) 2305843009213693951 (by decide) (by decide)
      refine ⟨_, rfl, _, rfl, _, _, rfl, rfl, wide_mul bo bo (by decide) (by decide) (by decide), _, rfl, _, _, _, _, rfl, rfl, .of hq, rfl, _, _, rfl, rfl, .inl ⟨by decide, by decide⟩, _, _, rfl, rfl, .inl ⟨_, rfl, _, _, rfl, rfl, show (0 : Int) < 2305843009213693951 by decide, ?_⟩⟩
      refine ⟨_, _, rfl, rfl, .inr ⟨by decide, by decide⟩, _, rfl, _, _, rfl, rfl, ?_⟩
      refine ⟨_, rfl, _, _, rfl, rfl, ⟨by decide, by decide⟩, .inl ⟨_, rfl, _, rfl, _, _, rfl, rfl, (by omega), ?_⟩⟩
      exact k _ _ (fm hn).1 (fm hn).2 off_upd ⟨_, _, _, upd_same⟩
theorem cal_l_among (T : Txt K mg C) : Cal P w K mg base "_law_among" 2 (spPick K) := by
  refine T.d_l_among.cal (ps := ["_law_bag_here", "_law_items"]) (fun f fd D => ?_) (fun _ _ _ _ _ _ us hl => match us, hl with | [_, _], _ => rfl)
  refine D.ok sc_l_among (fun vs H Q E h => ?_) (fun cdv A outer s H vs Q E hr h => ?_)
  · obtain ⟨p, l, xs, rfl, _⟩ := h
    rfl
  · obtain ⟨p, l, xs, rfl, hb, hl, h0, h1, k⟩ := h
    refine ⟨_, (pss_one (ps_ret (pe_ix ix_seq (pv 1) (pe_cal (cal_l_dip T) (hr.mono (by decide)) (by rfl) (pa_cons (pv 0) (pa_cons (pe_callB call_len_seq (by rfl) T.b_len (by decide +kernel) (pa_cons (pv 1) pa_nil)) pa_nil))) (fun _ _ => rfl)))), ?_⟩
    refine ⟨_, rfl, _, rfl, _, rfl, _, _, rfl, hl.imp (fun z => .of z.1) id, p, _, rfl, by omega, by omega, hb, fun r H1 r0 r1 same b1 => ?_⟩
    have hi : r.toNat < xs.length := by omega
    have hg : atI xs r = some xs[r.toNat] := at_of (j := r.toNat) (by omega) (List.getElem?_eq_getElem hi)
    rcases hl with ⟨hl, ne⟩ | hl
    · exact .inl ⟨_, _, _, _, rfl, rfl, .of (same _ _ ne hl), hg, k _ _ (List.getElem_mem hi) same b1⟩
    · exact .inr (.inl ⟨_, _, _, _, rfl, rfl, sqT_off hl same hb, hg, k _ _ (List.getElem_mem hi) same b1⟩)
theorem cal_l_bag (T : Txt K mg C) : Cal P w K mg base "_law_bag" 1 (spBag K) := by
  refine T.d_l_bag.cal (ps := ["_law_script", "_law_spot"]) (fun f fd D => ?_) (fun _ _ _ _ _ _ us hl => match us, hl with | [_, _], _ => rfl)
  refine D.ok sc_l_bag (fun vs H Q E h => ?_) (fun cdv A outer s H vs Q E hr h => ?_)
  · obtain ⟨p, n, ns, rfl, _⟩ := h
    rfl
  · obtain ⟨sa, z, ns, rfl, hs, hz, k⟩ := h
    refine ⟨_, (pss_cons (ps_set (i := 2) sc_l_bag.nd rfl (Or.inl rfl) (pe_ifExp (pt_cmpR op_lt (pv 1) (pe_callB call_len_seq (by rfl) T.b_len (by decide +kernel) (pa_cons (pv 0) pa_nil)) (nomark _)) (pe_callTy call_int1 (by rfl) T.b_int (by decide +kernel) (pa_cons (pe_ix ix_list (pv 0) (pv 1) (fun _ _ => rfl)) pa_nil)) (pe_op op_add (pe_op op_mul pe_int (pv 1)) pe_int)))
      (pss_cons (ps_set (i := 3) sc_l_bag.nd rfl (Or.inl rfl) (pe_op op_modN (pe_callTy call_int1 (by rfl) T.b_int (by decide +kernel) (pa_cons (pe_callB call_abs (by rfl) T.b_abs (by decide +kernel) (pa_cons (pv 2) pa_nil)) pa_nil)) (pe_op op_powW (pe_op op_pow pe_int pe_int) pe_int)))
      (pss_one (ps_ret (pe_lst (pa_cons (pe_callB (call_max2 rfl) (by rfl) T.b_max (by decide +kernel) (pa_cons pe_int (pa_cons (pe_op op_sub (pv 3) (pe_op op_pow pe_int pe_int)) pa_nil))) (pa_cons (pe_op op_add (pe_op op_add (pe_op op_add (pe_op op_mul (pe_op op_mod (pe_callTy call_int1 (by rfl) T.b_int (by decide +kernel) (pa_cons (pv 3) pa_nil)) pe_int) pe_int) (pe_op op_mul pe_int (pv 1))) (pe_op op_mul pe_int (pe_callTy call_int1 (by rfl) T.b_int (by decide +kernel) (pa_cons (pe_cmpR op_lt (pv 2) pe_int (nomark _)) pa_nil)))) pe_int) (pa_cons pe_int pa_nil)))))))), ?_⟩
    have hP : CPowW ((10 : Int) ^ (52 : Int).toNat) 6 := ⟨by decide, by decide +kernel⟩
    have hQ : ((10 : Int) ^ (52 : Int).toNat) ^ (6 : Int).toNat ≠ 0 := by decide +kernel
    refine ⟨_, rfl, _, rfl, _, _, rfl, .inl hs, _, _, rfl, rfl, _, rfl, ite2 (fun h => ?_) (fun h => ?_)⟩
    · have hlt : z < ((ns.map V.int).length : Int) := of_decide_eq_true h
      rw [List.length_map] at hlt
      have hi : z.toNat < ns.length := by omega
      have hget : atI (ns.map V.int) z = some (.int ns[z.toNat]) := at_of (j := z.toNat) (by omega) (by rw [List.getElem?_map, List.getElem?_eq_getElem hi]; rfl)
      refine ⟨_, rfl, _, rfl, _, _, _, _, rfl, rfl, hs, hget, .inl ⟨_, rfl, ?_⟩⟩
      refine ⟨_, rfl, _, rfl, .inl ⟨_, rfl, _, _, rfl, rfl, ⟨by decide, by decide, by decide⟩, _, _, rfl, rfl, hP, _, _, rfl, rfl, hQ, ?_⟩⟩
      refine ⟨_, rfl, _, _, rfl, rfl, ⟨by decide, by decide, by decide⟩, _, _, rfl, rfl, _, _, rfl, ?_⟩
      refine ⟨_, rfl, .inl ⟨_, rfl, _, _, rfl, rfl, show (0 : Int) < 2147483497 by decide, _, _, rfl, rfl, .inr ⟨by decide, by decide⟩, _, rfl, _, _, rfl, rfl, .inl ⟨by decide, by decide⟩, _, _, rfl, rfl, _, rfl, _, _, rfl, rfl, ?_⟩⟩
      refine .inr ⟨_, rfl, _, _, rfl, rfl, .inl ⟨by decide, by decide⟩, _, _, rfl, rfl, _, _, rfl, rfl, ?_⟩
      refine ⟨show 3 ≤ sizeLine by decide, fun p np => ?_⟩
      exact k p _ (same_new np) np ⟨_, _, _, upd_same⟩
    · refine ⟨_, rfl, _, _, rfl, rfl, .inl ⟨by decide, by decide⟩, _, _, rfl, rfl, ?_⟩
      refine ⟨_, rfl, _, rfl, .inl ⟨_, rfl, _, _, rfl, rfl, ⟨by decide, by decide, by decide⟩, _, _, rfl, rfl, hP, _, _, rfl, rfl, hQ, ?_⟩⟩
      refine ⟨_, rfl, _, _, rfl, rfl, ⟨by decide, by decide, by decide⟩, _, _, rfl, rfl, _, _, rfl, ?_⟩
      refine ⟨_, rfl, .inl ⟨_, rfl, _, _, rfl, rfl, show (0 : Int) < 2147483497 by decide, _, _, rfl, rfl, .inr ⟨by decide, by decide⟩, _, rfl, _, _, rfl, rfl, .inl ⟨by decide, by decide⟩, _, _, rfl, rfl, _, rfl, _, _, rfl, rfl, ?_⟩⟩
      refine .inr ⟨_, rfl, _, _, rfl, rfl, .inl ⟨by decide, by decide⟩, _, _, rfl, rfl, _, _, rfl, rfl, ?_⟩
      refine ⟨show 3 ≤ sizeLine by decide, fun p np => ?_⟩
      exact k p _ (same_new np) np ⟨_, _, _, upd_same⟩
end
end Sk

namespace Sk
open PySem L2 Ow
def repD : Nat → List Dat → List Dat
  | 0, _ => []
  | k + 1, ds => ds ++ repD k ds
theorem Ds.rep {K : PySem.W.Frag} {H : Hp} {xs : List V} {ds : List Dat} (h : Ds K H xs ds) : ∀ k : Nat, Ds K H (List.replicate k xs).flatten (repD k ds)
  | 0 => trivial
  | k + 1 => by
    rw [List.replicate_succ, List.flatten_cons]
    exact Ds.app h (Ds.rep h k)
theorem Ds.off {K : PySem.W.Frag} {D : Addr} {H H' : Hp} {acc : List V} (o : Off D H H') (hD : H D = some (.lst acc)) : ∀ {xs : List V} {ds : List Dat}, Ds K H xs ds → Ds K H' xs ds
  | [], [], _ => trivial
  | _ :: _, _ :: _, h => ⟨h.1.off o hD, Ds.off o hD h.2⟩
theorem pe_repL {X : Cx} {e : Expr} {k t1 : Nat} {pos p1 : Pos} {ds : List Dat} (h : PE X e (tL X.K ds)) (hk : ds.length * k ≤ 1000 := by decide) (hk2 : (k : Nat) < 1000 := by decide) : PE X (.BinOp e .Mult (.Constant (.int k) t1 p1) pos) (tL X.K (repD k ds)) :=
  pe_imp (pe_op op_rep h pe_int) fun σ H Q q p xs H1 s1 n1 h1 d1 => ⟨p, (k : Int), xs, rfl, rfl, h1, by omega, by omega, szl (by rw [d1.len]; exact hk), fun p2 n2 => q p2 _ _ (s1.trans (same_new n2)) (s1.free n2) upd_same ((d1.rep k).same (same_new n2))⟩
def drawnF : List Dat := [(2, [[0, 1, 3]]), (2, [[0, 1, 4]]), (2, [[0, 1, 5]]), (2, [[0, 1, 6]]), (2, []), (1, []), (3, [[0, 1, 3]]), (3, [[0, 1, 3], [1, 2, 3]]), (3, [[0, 1, 4], [1, 2, 3]]), (3, [[0, 2, 4]]), (3, [[0, 2, 3], [1, 2, 3]])]
def spFinite (K : PySem.W.Frag) : Sp := fun vs H Q _ => ∃ p : Addr, vs = [.ref p] ∧ VatAt H p ∧ ∀ (v : V) (n : Int) (bs : List (List Int)) (H' : Hp), Off p H H' → VatAt H' p → SysD K H' v n bs → Valid n bs → (n, bs) ∈ drawnF → Q v H'
theorem SysD.but {K : PySem.W.Frag} {H H' : Hp} {v : V} {n : Int} {bs : List (List Int)} {p : Addr} (h : SysD K H v n bs) (o : Off p H H') (b : VatAt H p) : SysD K H' v n bs := h.elim fun a ⟨bv, e, q, bb⟩ => ⟨a, bv, e, sqT_off q o b, by
  obtain ⟨b0, b1, b2, hp⟩ := b
  exact o.bs hp bb⟩
section
variable {P : Program} {w : World} {K : PySem.W.Frag} {mg : Str → Option Value} {base : Heap} {C : Addr}
theorem cal_l_finite (T : Txt K mg C) : Cal P w K mg base "_law_finite" 3 (spFinite K) := by
  refine T.d_l_finite.cal (ps := ["_law_bag_here"]) (fun f fd D => ?_) (fun _ _ _ _ _ _ us hl => match us, hl with | [_], _ => rfl)
  refine D.ok sc_l_finite (fun vs H Q E h => ?_) (fun cdv A outer s H vs Q E hr h => ?_)
  · obtain ⟨_, rfl, _⟩ := h
    rfl
  · obtain ⟨p, rfl, hp, k⟩ := h
    refine ⟨_, (pss_cons (ps_set (i := 1) sc_l_finite.nd rfl (Or.inl rfl) (pe_lsd (pads_cons (pe_sd (pe_bs (pas_cons pe_ti3 pas_nil))) (pads_cons (pe_sd (pe_bs (pas_cons pe_ti3 pas_nil))) (pads_cons (pe_sd (pe_bs (pas_cons pe_ti3 pas_nil))) (pads_cons (pe_sd (pe_bs (pas_cons pe_ti3 pas_nil))) (pads_cons (pe_sd (pe_bs pas_nil)) (pads_cons (pe_sd (pe_bs pas_nil)) pads_nil))))))))
      (pss_cons (ps_expr (pe_bm PySem.F.plainAttrs_list PySem.F.slot_list_append PySem.F.type_list_append mt_append (pv 1) (pa_cons (pe_sd (pe_bs (pas_cons pe_ti3 pas_nil))) pa_nil)))
      (pss_cons (ps_set (i := 1) sc_l_finite.nd rfl (Or.inl rfl) (pe_op op_cat (pe_op op_cat (pv 1) (pe_repL (k := 3) (pe_lsd (pads_cons (pe_sd (pe_bs (pas_cons pe_ti3 (pas_cons pe_ti3 pas_nil)))) pads_nil)))) (pe_lsd (pads_cons (pe_sd (pe_bs (pas_cons pe_ti3 (pas_cons pe_ti3 pas_nil)))) (pads_cons (pe_sd (pe_bs (pas_cons pe_ti3 pas_nil))) pads_nil)))))
      (pss_cons (ps_expr (pe_bm PySem.F.plainAttrs_list PySem.F.slot_list_append PySem.F.type_list_append mt_append (pv 1) (pa_cons (pe_sd (pe_bs (pas_cons pe_ti3 (pas_cons pe_ti3 pas_nil)))) pa_nil)))
      (pss_one (ps_ret (pe_cal (cal_l_among T) (hr.mono (by decide)) (by rfl) (pa_cons (pv 0) (pa_cons (pv 1) pa_nil))))))))), ?_⟩
    intro p0 x0 H0 S0 nn0 h0 D0
    have l0 : x0.length = 6 := D0.len
    refine ⟨_, rfl, .inl ⟨rfl, _, .of h0⟩, fun y1 G1 t1 e1 => ⟨p0, x0, y1, rfl, rfl, t1 _ _ h0, szl (by omega), ?_⟩⟩
    have o1 : Off p0 G1 (upd G1 p0 (.lst (x0 ++ [y1]))) := off_upd
    have h0' := t1 _ _ h0
    have D1 : Ds K (upd G1 p0 (.lst (x0 ++ [y1]))) (x0 ++ [y1]) (_ ++ [((3 : Int), [[(0 : Int), 1, 3]])]) := Ds.app ((D0.same t1).off o1 h0') (show Ds K _ [y1] [((3 : Int), [[(0 : Int), 1, 3]])] from ⟨SysD.off e1 o1 h0', trivial⟩)
    have S1 : Same H (upd G1 p0 (.lst (x0 ++ [y1]))) := same_off nn0 (S0.trans t1) o1
    have l1 : (x0 ++ [y1]).length = 7 := by rw [List.length_append, l0]; rfl
    have h1 : (upd G1 p0 (.lst (x0 ++ [y1]))) p0 = some (.lst (x0 ++ [y1])) := upd_same
    generalize upd G1 p0 (.lst (x0 ++ [y1])) = H1 at *
    generalize x0 ++ [y1] = x1 at *
    refine ⟨_, rfl, ?_⟩
    intro q2 y2 G2 t2 _ g2 e2
    have m2 : y2.length = 3 := e2.len
    refine ⟨_, _, _, _, rfl, rfl, t2 _ _ h1, g2, szl (by omega), fun p2 n2 => ?_⟩
    have D2 := (Ds.app (D1.same t2) e2).same (same_new (o := .lst (x1 ++ y2)) n2)
    have S2 := (S1.trans t2).trans (same_new (o := .lst (x1 ++ y2)) n2)
    have nn2 : H p2 = none := (S1.trans t2).free n2
    have l2 : (x1 ++ y2).length = 10 := by rw [List.length_append]; omega
    have h2 : (upd G2 p2 (.lst (x1 ++ y2))) p2 = some (.lst (x1 ++ y2)) := upd_same
    generalize upd G2 p2 (.lst (x1 ++ y2)) = H2 at *
    generalize x1 ++ y2 = x2 at *
    intro q3 y3 G3 t3 _ g3 e3
    have m3 : y3.length = 2 := e3.len
    refine ⟨_, _, _, _, rfl, rfl, t3 _ _ h2, g3, szl (by omega), fun p3 n3 => ?_⟩
    have D3 := (Ds.app (D2.same t3) e3).same (same_new (o := .lst (x2 ++ y3)) n3)
    have S3 := (S2.trans t3).trans (same_new (o := .lst (x2 ++ y3)) n3)
    have nn3 : H p3 = none := (S2.trans t3).free n3
    have l3 : (x2 ++ y3).length = 12 := by rw [List.length_append]; omega
    have h3 : (upd G3 p3 (.lst (x2 ++ y3))) p3 = some (.lst (x2 ++ y3)) := upd_same
    generalize upd G3 p3 (.lst (x2 ++ y3)) = H3 at *
    generalize x2 ++ y3 = x3 at *
    refine ⟨_, rfl, .inl ⟨rfl, _, .of h3⟩, fun y4 G4 t4 e4 => ⟨p3, x3, y4, rfl, rfl, t4 _ _ h3, szl (by omega), ?_⟩⟩
    have o4 : Off p3 G4 (upd G4 p3 (.lst (x3 ++ [y4]))) := off_upd
    have h3' := t4 _ _ h3
    have D4 : Ds K (upd G4 p3 (.lst (x3 ++ [y4]))) (x3 ++ [y4]) (_ ++ [((3 : Int), [[(0 : Int), 2, 3], [1, 2, 3]])]) := Ds.app ((D3.same t4).off o4 h3') (show Ds K _ [y4] [((3 : Int), [[(0 : Int), 2, 3], [1, 2, 3]])] from ⟨SysD.off e4 o4 h3', trivial⟩)
    have S4 : Same H (upd G4 p3 (.lst (x3 ++ [y4]))) := same_off nn3 (S3.trans t4) o4
    have l4 : (x3 ++ [y4]).length = 13 := by rw [List.length_append, l3]; rfl
    have h4 : (upd G4 p3 (.lst (x3 ++ [y4]))) p3 = some (.lst (x3 ++ [y4])) := upd_same
    generalize upd G4 p3 (.lst (x3 ++ [y4])) = H4 at *
    generalize x3 ++ [y4] = x4 at *
    have ne : p3 ≠ p := vat_ne hp nn3
    refine ⟨_, rfl, _, rfl, p, p3, _, rfl, hp.same S4, .inl ⟨h4, ne⟩, by omega, by omega, fun v H' hv o b => ?_⟩
    obtain ⟨d, hd, hs⟩ := D4.mem hv
    refine k v d.1 d.2 H' ((Off.of_same S4).trans o) b (hs.but o (hp.same S4)) (okB_valid ?_) ?_
    · refine List.all_eq_true.mp ?_ d hd
      decide
    · have h : ∀ ds' : List Dat, (ds'.all fun d => decide (d ∈ drawnF)) = true → ∀ d ∈ ds', d ∈ drawnF := fun ds' h d hd => of_decide_eq_true (List.all_eq_true.mp h d hd)
      refine h _ ?_ d hd
      decide
end
end Sk

namespace Sk
open PySem PySem.Spec PyProof.Rows L2 Ow
/-! dict(pairs) whose keys are tuples of whole numbers or texts -/
def mergeT (kvs more : List (List L2.Key × V)) : List (List L2.Key × V) := more.foldl (fun acc kv => putK acc kv.1 kv.2) kvs
theorem KT.mergeT {H : Hp} {more : List (List L2.Key × V)} {ps : List (List L2.Key × Addr × Value)} (r : KT H more ps) : ∀ {kvs : List (List L2.Key × V)} {xs : List (List L2.Key × Addr × Value)}, KT H kvs xs → KT H (mergeT kvs more) (storedAllH xs ps) := by
  induction r with
  | nil => intro kvs xs h; exact h
  | @cons p q ps qs hq t ih =>
    intro kvs xs h
    obtain ⟨k, v⟩ := p
    obtain ⟨k', b, u⟩ := q
    obtain ⟨rfl, hb, rv⟩ := hq
    exact ih (h.put k hb rv)
theorem mergeT_len : ∀ (more kvs : List (List L2.Key × V)), (mergeT kvs more).length ≤ kvs.length + more.length
  | [], kvs => by show kvs.length ≤ kvs.length + 0; omega
  | p :: r, kvs => by
    have h1 := mergeT_len r (putK kvs p.1 p.2)
    have h2 : (putK kvs p.1 p.2).length ≤ kvs.length + 1 := by
      unfold putK
      split
      · rw [List.length_map]; omega
      · rw [List.length_append]; exact Nat.le_refl _
    show (mergeT (putK kvs p.1 p.2) r).length ≤ _
    rw [List.length_cons]
    omega
section
variable {X : Cx}
theorem pairsT_of {pins : List (Addr × Obj)} {σ : L2.St} {H : Hp} {s : Shared} (I : Inv X pins σ H s) : ∀ {ps : List Addr} {kvs : List (List L2.Key × V)}, Paired (fun p kv => ∃ b, SqT X.K H p [.ref b, kv.2] ∧ H b = some (.tup (kv.1.map kV))) ps kvs →
    ∃ prs : List (List L2.Key × Addr × Value), KT H kvs prs ∧ prs.length = ps.length ∧ ∀ (j : Nat) (q : List L2.Key × Addr × Value), prs[j]? = some q → ∃ T, ps[j]? = some T ∧ s.heap.IsTuple T #[.ref q.2.1, q.2.2] ∧ (tupleKind (mixKind X.prog X.w)).is s.heap q.1 q.2.1
  | _, _, .nil => ⟨[], .nil, rfl, fun j q e => by simp at e⟩
  | _, _, .cons (a := p) (b := kv) h t => by
    obtain ⟨prs, r, hl, hp⟩ := pairsT_of I t
    obtain ⟨b, h, hb⟩ := h
    obtain ⟨its, rv, ht, _⟩ := I.tuple h
    obtain ⟨u, y, ei, ru, ry⟩ := vals2 rv
    subst ei
    cases ru
    refine ⟨(kv.1, b, y) :: prs, .cons ⟨rfl, hb, ry⟩ r, by rw [List.length_cons, List.length_cons, hl], fun j q e => ?_⟩
    cases j with
    | zero =>
      have e' : (kv.1, b, y) = q := Option.some.inj e
      subst e'
      exact ⟨p, rfl, ht, key_of I.hok hb⟩
    | succ j =>
      obtain ⟨b', e1, e2, e3⟩ := hp j q (by simpa using e)
      exact ⟨b', by simpa using e1, e2, e3⟩
theorem call_dictT (hcalm : X.calm = true) (hu : X.A.units + 66 < cLine) : CallR X (.type "dict") (fun xs H Q => ∃ (a : Addr) (ps : List Addr) (kvs : List (List L2.Key × V)), xs = [.ref a] ∧ SqL X.K H a (ps.map V.ref) ∧ Paired (fun p kv => ∃ b, SqT X.K H p [.ref b, kv.2] ∧ H b = some (.tup (kv.1.map kV))) ps kvs ∧
    ∀ p, H p = none → Q (.ref p) (upd H p (.dT (mergeT [] kvs)))) := by
  intro pins s σ H xs us Q I r q
  obtain ⟨a, ps, kvs, ex, hq, hp, q⟩ := q
  subst ex
  obtain ⟨u, eu, rx⟩ := vals1 r
  subst eu
  cases rx
  obtain ⟨its, rv, pl, hz⟩ := I.list hq
  have ei := refs_at rv
  subst ei
  rw [List.length_map] at hz
  obtain ⟨prs, rel, hl, hpr⟩ := pairsT_of I hp
  obtain ⟨o, n, ho, hc, hd, hdat⟩ := pl
  have PA := PairArg.list (prog := X.prog) (w := X.w) a (ps.map Value.ref).toArray (fun j => ps.getD j 0) (prs.map fun q => (Value.ref q.2.1, q.2.2))
  refine call_dict_pairsH (knd := tupleKind (mixKind X.prog X.w)) (ps := prs) PA (I.ok.hd hcalm) (show X.A.units + 1 + 1 < cLine by omega) ⟨⟨o, n, ho, hc, hd, hdat⟩, by simp [hl], fun j k v e => ?_⟩ ⟨by simp, fun i key v e => ?_⟩ (fun h' hk x hx => ?_) (by rw [List.length_map, hl]; exact hz) fun h' tk hd' hk => ?_
  · rw [List.getElem?_map] at e
    cases eq : prs[j]? with
    | none => rw [eq] at e; cases e
    | some q' =>
      rw [eq] at e
      cases e
      obtain ⟨T, e1, e2, e3⟩ := hpr j q' eq
      have e4 : ps.getD j 0 = T := by rw [List.getD_eq_getElem?_getD, e1]; rfl
      refine ⟨by simp [e1, e4], .inl ?_⟩
      show s.heap.IsTuple (ps.getD j 0) _
      rw [e4]
      exact e2
  · have e : (prs.map fun q => (Value.ref q.2.1, q.2.2))[i]? = some (key, v) := e
    rw [List.getElem?_map] at e
    cases eq : prs[i]? with
    | none => rw [eq] at e; cases e
    | some q' =>
      rw [eq] at e
      cases e
      exact ⟨q'.1, q'.2.1, rfl, rfl⟩
  · obtain ⟨j, hj⟩ := List.mem_iff_getElem?.mp hx
    obtain ⟨T, e1, e2, e3⟩ := hpr j x hj
    refine (tupleKind_stays (knd := mixKind X.prog X.w)).stays (fun b o _ _ e _ => hk b o (Nat.ne_of_lt (Heap.lt_size e)) (fun z => nomatch z) e) e3
  · have hm : (s.heap.objs.size == sysModules) = false := beq_eq_false_iff_ne.mpr (Nat.ne_of_gt I.big)
    have hlen : (mergeT [] kvs).length ≤ sizeLine := by
      refine Nat.le_trans (mergeT_len kvs []) ?_
      rw [List.length_nil, Nat.zero_add, rel.length, hl]
      exact hz
    have kt := KT.mergeT (kvs := []) (xs := []) rel .nil
    obtain ⟨o', es, ep, h1, h2, h3, h4, h5, h6⟩ := hd'
    have fr := I.hok.fresh (Nat.le_refl s.heap.objs.size)
    refine ⟨.ref s.heap.objs.size, upd H s.heap.objs.size (.dT (mergeT [] kvs)), I.laid (t' := tk) (fun b u e => hk b u (fun z => nomatch z) e) (Nat.le_refl _) ⟨hlen, hm, _, ?_, o', es, ep, h1, h2, h3, h4, h6⟩, rfl, q _ fr⟩
    exact kt.keeps fun b ys e => by rw [upd_ne (ne_of_none e fr)]; exact e
end
end Sk

namespace Sk
open PySem L2 Ow
theorem fac_gl {n : Nat} {bs : List (List Int)} (va : Valid n bs) {i j : Nat} (h : i ≠ j) : fac bs i j = pr2 (cB bs i j) := by
  obtain ⟨w, p, e, _⟩ := fac_two va i j
  unfold cB
  rw [if_neg h, e]
  rfl
/-- the numbers of each two letters -/
def RAt (K : PySem.W.Frag) (H : Hp) (v : V) (bs : List (List Int)) (n : Nat) : Prop := ∃ (d : Addr) (kvs : List (List L2.Key × V)), v = .ref d ∧ H d = some (.dT kvs) ∧ ∀ i j : Nat, i < n → j < n → i ≠ j → ∃ x, valV kvs [.inl (i : Int), .inl (j : Int)] = some x ∧ TI K H x (pr2 (cB bs i j))
theorem RAt.same {K : PySem.W.Frag} {H H' : Hp} {v : V} {bs : List (List Int)} {n : Nat} (h : RAt K H v bs n) (s : Same H H') : RAt K H' v bs n := by
  obtain ⟨d, kvs, rfl, hd, a⟩ := h
  exact ⟨d, kvs, rfl, s _ _ hd, fun i j hi hj ij => (a i j hi hj ij).elim fun x ⟨e, t⟩ => ⟨x, e, t.same s⟩⟩
theorem RAt.but {K : PySem.W.Frag} {H H' : Hp} {v : V} {p : Addr} {bs : List (List Int)} {n : Nat} (h : RAt K H v bs n) (o : Off p H H') (hb : VatAt H p) : RAt K H' v bs n := by
  obtain ⟨d, kvs, rfl, hd, a⟩ := h
  have ne : d ≠ p := fun z => by
    obtain ⟨b0, b1, b2, hp⟩ := hb
    rw [z, hp] at hd
    cases hd
  exact ⟨d, kvs, rfl, o _ _ ne hd, fun i j hi hj ij => (a i j hi hj ij).elim fun x ⟨e, t⟩ => ⟨x, e, t.but o hb⟩⟩
def spRules (K : PySem.W.Frag) : Sp := fun vs H Q _ => ∃ (n : Nat) (bv : V) (bs : List (List Int)), vs = [.int n, bv] ∧ BsAt K H bv bs ∧ Valid n bs ∧ ∀ v H', Same H H' → RAt K H' v bs n → Q v H'
def tk4 (v0 v1 v2 v3 : V) : List (L2.Key × V) := [(.inl 2, v0), (.inl 3, v1), (.inl 4, v2), (.inl 5, v3)]
def kvB (r : List Int) : List L2.Key × V := ([.inl (r.getD 0 0), .inl (r.getD 1 0)], .int (r.getD 2 0))
def PrK (K : PySem.W.Frag) (H : Hp) (p : Addr) (kv : List L2.Key × V) : Prop := ∃ b, SqT K H p [.ref b, kv.2] ∧ H b = some (.tup (kv.1.map kV))
theorem pr_app {α β : Type} {R : α → β → Prop} {a : List α} {b : List β} (h : Paired R a b) {c : List α} {d : List β} (k : Paired R c d) : Paired R (a ++ c) (b ++ d) := by
  induction h with
  | nil => exact k
  | cons h _ ih => exact .cons h ih
theorem pr_imp {α β : Type} {R S : α → β → Prop} (f : ∀ x y, R x y → S x y) {a : List α} {b : List β} (h : Paired R a b) : Paired S a b := by
  induction h with
  | nil => exact .nil
  | cons h _ ih => exact .cons (f _ _ h) ih
theorem mergeT_app (a : List (List L2.Key × V)) (b c : List (List L2.Key × V)) : mergeT a (b ++ c) = mergeT (mergeT a b) c := by
  unfold mergeT
  rw [List.foldl_append]
theorem kept_bond {n : Int} {bs : List (List Int)} (va : Valid n bs) : ∀ (k : Nat) (i j : Nat), i < j → (valV (mergeT [] ((bs.take k).map kvB)) [.inl (i : Int), .inl (j : Int)]).getD (.int 2) = .int (bondOf (bs.take k) i j)
  | 0, i, j, ij => rfl
  | k + 1, i, j, ij => by
    have ih := kept_bond va k i j ij
    by_cases hk : k < bs.length
    · have e : bs[k]? = some bs[k] := List.getElem?_eq_getElem hk
      have vt := va.take (k + 1)
      rw [take_snoc e] at vt ⊢
      obtain ⟨l, h, d, er, l0, lh, hn, hb⟩ := va.tr bs[k] (List.getElem_mem hk)
      obtain ⟨l, rfl⟩ : ∃ l' : Nat, l = l' := ⟨l.toNat, by omega⟩
      obtain ⟨h, rfl⟩ : ∃ h' : Nat, h = h' := ⟨h.toNat, by omega⟩
      rw [er] at vt ⊢
      rw [List.map_append, mergeT_app, bond_snoc vt lh]
      show (valV (putK (mergeT [] ((bs.take k).map kvB)) ([.inl (l : Int), .inl (h : Int)] : List L2.Key) (.int d)) _).getD _ = _
      rw [valV_put]
      have P := isPr_of (i := i) (j := j) (d := d) lh
      by_cases c : i = l ∧ j = h
      · rw [if_pos (key_eq.mpr c), if_pos (P.mpr (.inl (by omega)))]
        rfl
      · rw [if_neg (fun z => c (key_eq.mp z)), if_neg (fun z => by have := P.mp z; omega)]
        exact ih
    · rw [List.take_of_length_le (by omega)]
      rw [List.take_of_length_le (by omega)] at ih
      exact ih
section
variable {P : Program} {w : World} {K : PySem.W.Frag} {mg : Str → Option Value} {base : Heap} {C : Addr}
theorem cal_l_rules (T : Txt K mg C) : Cal P w K mg base "_law_rules" 1 (spRules K) := by
  refine T.d_l_rules.cal (ps := ["_law_letters", "_law_bonds"]) (fun f fd D => ?_) (fun _ _ _ _ _ _ us hl => match us, hl with | [_, _], _ => rfl)
  refine D.ok sc_l_rules (fun vs H Q E h => ?_) (fun cdv A outer s H vs Q E hr h => ?_)
  · obtain ⟨_, _, _, rfl, _⟩ := h
    rfl
  · obtain ⟨n, _, bs, rfl, ⟨a, xs, rfl, ha, hx⟩, va, k⟩ := h
    have hx := A2.of_tis hx
    have hxl := hx.len
    have few := va.few
    have n4 := va.hi
    refine ⟨_, (pss_cons (ps_set (i := 2) sc_l_rules.nd rfl (Or.inl rfl) (pe_disp (pps_cons pe_int (pe_bs (pas_cons pe_ti2 (pas_cons pe_ti2 pas_nil))) (pps_cons pe_int (pe_bs (pas_cons pe_ti2 (pas_cons pe_ti2 pas_nil))) (pps_cons pe_int (pe_bs (pas_cons pe_ti2 (pas_cons pe_ti2 pas_nil))) (pps_cons pe_int (pe_bs (pas_cons pe_ti2 (pas_cons pe_ti2 pas_nil))) pps_nil)))) rfl rfl (by simp) (by decide)))
      (pss_cons (ps_asg (pe_tup (pa_cons (pe_bs (pas_cons pe_ti2 (pas_cons pe_ti2 pas_nil))) (pa_cons (pe_bs (pas_cons pe_ti2 (pas_cons pe_ti2 pas_nil))) pa_nil))) (pg_tup (by rfl) (pgs_cons (pg_sub (pv 2) pe_int (set_dict (hu_of hr))) (pgs_cons (pg_sub (pv 2) pe_int (set_dict (hu_of hr))) pgs_nil))))
      (pss_cons (ps_set (i := 3) sc_l_rules.nd rfl (Or.inl rfl) (pe_callTy (call_dictT rfl (u66 hr)) (by rfl) T.b_dict (by decide +kernel) (pa_cons (pe_lc (own := [("_law_i", 4), ("_law_j", 5), ("_law_bond", 6)]) (g := gTup K 3 (gCons (gName 4) (gCons (gName 5) (gCons (gName 6) (gNil))))) (tt := tYes) rfl sc_l_rules.nd (pi_tup (pv 1)) (blkOk_by (own := [("_law_i", 4), ("_law_j", 5), ("_law_bond", 6)]) (N := ["_law_letters", "_law_bonds", "_law_told", "_law_kept", "_law_i", "_law_j", "_law_bond", "_law_found"]) (sc := defScope s_l_rules) (by decide +kernel)) (fun _ _ _ _ _ => (pg_tup (by rfl) (pgs_cons (pg_name (i := 4) sc_l_rules.nd rfl (Or.inl rfl)) (pgs_cons (pg_name (i := 5) sc_l_rules.nd rfl (Or.inl rfl)) (pgs_cons (pg_name (i := 6) sc_l_rules.nd rfl (Or.inl rfl)) pgs_nil))))) (fun _ _ _ _ _ => pts_nil) (fun _ _ _ _ _ => (pe_tup (pa_cons (pe_tup (pa_cons (pv 4) (pa_cons (pv 5) pa_nil))) (pa_cons (pv 6) pa_nil))))) pa_nil)))
      (pss_cons (ps_set (i := 7) sc_l_rules.nd rfl (Or.inl rfl) pe_dnewT)
      (pss_cons (ps_for PassesOwn.never rfl (pi_range1 (by rfl) T.b_range (pa_cons (pv 0) pa_nil)) (pg_name (i := 4) sc_l_rules.nd rfl (Or.inl rfl)) (pss_one (ps_for PassesOwn.never rfl (pi_range2 (by rfl) T.b_range (pa_cons (pe_op op_add (pv 4) pe_int) (pa_cons (pv 0) pa_nil))) (pg_name (i := 5) sc_l_rules.nd rfl (Or.inl rfl)) (pss_one (ps_asg (pe_dget (hu_of hr) (pv 2) (pe_dget2 (hu_of hr) (pv 3) (pe_tup (pa_cons (pv 4) (pa_cons (pv 5) pa_nil))) pe_int ⟨rfl, rfl, rfl, rfl⟩) (fun _ _ => rfl)) (pg_tup (by rfl) (pgs_cons (pg_sub (pv 7) (pe_tup (pa_cons (pv 4) (pa_cons (pv 5) pa_nil))) (set_dict (hu_of hr))) (pgs_cons (pg_sub (pv 7) (pe_tup (pa_cons (pv 5) (pa_cons (pv 4) pa_nil))) (set_dict (hu_of hr))) pgs_nil))))))))
      (pss_one (ps_ret (pv 7)))))))), ?_⟩
    intro p np
    have sp := same_new (o := .dK []) np
    refine fun v0 H0 s0 t0 v1 H1 s1 t1 v2 H2 s2 t2 v3' H3 s3 t3 => ?_
    have S4 := ((s0.trans s1).trans s2).trans s3
    have pp := S4 _ _ (upd_same (H := H) (a := p) (o := .dK []))
    refine ⟨pp, tk4 v0 v1 v2 v3', rfl, (by show 4 ≤ 15; decide), ?_⟩
    have off : Off p H3 (upd H3 p (.dK (mergeK [] (tk4 v0 v1 v2 v3')))) := off_upd
    have bo : ∀ {v : V} {b : List (List Int)}, BsAt K H3 v b → BsAt K (upd H3 p (.dK (mergeK [] (tk4 v0 v1 v2 v3')))) v b := fun z => offN_bs off pp (nt_K _) z
    have b0 := bo (((t0.same s1).same s2).same s3)
    have b1 := bo ((t1.same s2).same s3)
    have b2 := bo (t2.same s3)
    have b3 := bo t3
    have sH : Same H (upd H3 p (.dK (mergeK [] (tk4 v0 v1 v2 v3')))) := same_off np (sp.trans S4) off
    have hp : (upd H3 p (.dK (mergeK [] (tk4 v0 v1 v2 v3')))) p = some (.dK (tk4 v0 v1 v2 v3')) := upd_same
    generalize upd H3 p (.dK (mergeK [] (tk4 v0 v1 v2 v3'))) = H4 at *
    refine fun v4 H5 s5 t4 v5 H6 s6 t5 => ⟨show 2 ≤ sizeLine by decide, fun t nt => ?_⟩
    have st := same_new (o := .tup [v4, v5]) nt
    have hp7 := st _ _ (s6 _ _ (s5 _ _ hp))
    have b0 := ((b0.same s5).same s6).same st
    have b1 := ((b1.same s5).same s6).same st
    have b2 := ((b2.same s5).same s6).same st
    have b3 := ((b3.same s5).same s6).same st
    have b4 := (t4.same s6).same st
    have b5 := t5.same st
    have ht : SqT K (upd H6 t (.tup [v4, v5])) t [v4, v5] := .of upd_same
    have sH := ((sH.trans s5).trans s6).trans st
    generalize upd H6 t (.tup [v4, v5]) = H7 at *
    refine ⟨t, _, rfl, ht, rfl, _, _, rfl, _, rfl, p, _, rfl, DPut.k (k := .inl 6) hp7 (by show 4 < sizeLine; decide), ?_⟩
    have q1 : (upd H7 p (.dK (putK (tk4 v0 v1 v2 v3') (.inl 6) v4))) p = some (.dK (putK (tk4 v0 v1 v2 v3') (.inl 6) v4)) := upd_same
    refine ⟨_, _, rfl, _, rfl, p, _, rfl, DPut.k (k := .inl 0) q1 (by show 5 < sizeLine; decide), rfl, ?_⟩
    have off2 : Off p H7 (upd (upd H7 p (.dK (putK (tk4 v0 v1 v2 v3') (.inl 6) v4))) p (.dK (putK (putK (tk4 v0 v1 v2 v3') (.inl 6) v4) (.inl 0) v5))) := Off.trans off_upd off_upd
    have bo2 : ∀ {v : V} {b : List (List Int)}, BsAt K H7 v b → BsAt K (upd (upd H7 p (.dK (putK (tk4 v0 v1 v2 v3') (.inl 6) v4))) p (.dK (putK (putK (tk4 v0 v1 v2 v3') (.inl 6) v4) (.inl 0) v5))) v b := fun z => offN_bs off2 hp7 (nt_K _) z
    have b0 := bo2 b0
    have b1 := bo2 b1
    have b2 := bo2 b2
    have b3 := bo2 b3
    have b4 := bo2 b4
    have b5 := bo2 b5
    have sH8 : Same H (upd (upd H7 p (.dK (putK (tk4 v0 v1 v2 v3') (.inl 6) v4))) p (.dK (putK (putK (tk4 v0 v1 v2 v3') (.inl 6) v4) (.inl 0) v5))) := same_off np sH off2
    have hp8 : (upd (upd H7 p (.dK (putK (tk4 v0 v1 v2 v3') (.inl 6) v4))) p (.dK (putK (putK (tk4 v0 v1 v2 v3') (.inl 6) v4) (.inl 0) v5))) p = some (.dK (putK (putK (tk4 v0 v1 v2 v3') (.inl 6) v4) (.inl 0) v5)) := upd_same
    generalize upd (upd H7 p (.dK (putK (tk4 v0 v1 v2 v3') (.inl 6) v4))) p (.dK (putK (putK (tk4 v0 v1 v2 v3') (.inl 6) v4) (.inl 0) v5)) = H8 at *
    have look : ∀ {H' : Hp} (d : Int), bondOk d → Same H8 H' → ∃ v, DGet H' p (.int d) (some v) ∧ BsAt K H' v (facT d) := fun {H'} d hd s' => by
      have hp9 := s' _ _ hp8
      rcases hd with rfl | rfl | rfl | rfl | rfl | rfl
      · exact ⟨v5, DGet.k (k := .inl 0) hp9, b5.same s'⟩
      · exact ⟨v0, DGet.k (k := .inl 2) hp9, b0.same s'⟩
      · exact ⟨v1, DGet.k (k := .inl 3) hp9, b1.same s'⟩
      · exact ⟨v2, DGet.k (k := .inl 4) hp9, b2.same s'⟩
      · exact ⟨v3', DGet.k (k := .inl 5) hp9, b3.same s'⟩
      · exact ⟨v4, DGet.k (k := .inl 6) hp9, b4.same s'⟩
    -- the kept bonds
    refine ⟨_, rfl, a, rfl, ⟨_, sqT_same sH8 ha⟩, fun D nD => lc_tup (K := K) (a := a) (xs := xs) (fun i H' => Same H8 H' ∧ ∃ ps : List Addr, H' D = some (.lst (ps.map V.ref)) ∧ Paired (PrK K H') ps ((bs.take i).map kvB) ∧ ps.length ≤ i) ⟨same_new nD, [], upd_same, .nil, Nat.le_refl _⟩ (fun i H' _ h => sqT_same (sH8.trans h.1) ha) ?_ ?_⟩
    · rintro i x H9 hxi ⟨s9, ps, hD, hps, pl⟩
      obtain ⟨r, er, tr⟩ := hx.get hxi
      obtain ⟨l, h, dd, rfl, l0, lh, hn, hb⟩ := va.tr r (List.mem_of_getElem? er)
      obtain ⟨b, rfl, tb1⟩ := tr.same (sH8.trans s9)
      have il := (List.getElem?_eq_some_iff.mp er).1
      refine ⟨_, _, rfl, tb1, rfl, _, _, rfl, _, _, rfl, _, _, rfl, rfl, rfl, ?_⟩
      refine ⟨_, rfl, _, rfl, show 2 ≤ sizeLine by decide, fun q nq => ⟨_, rfl, show 2 ≤ sizeLine by decide, fun q2 nq2 => ?_⟩⟩
      have sq := same_new (o := .tup [.int l, .int h]) nq
      have sq2 := same_new (o := .tup [.ref q, .int dd]) nq2
      have S := sq.trans sq2
      have hq2 : (upd (upd H9 q (.tup [.int l, .int h])) q2 (.tup [.ref q, .int dd])) q = some (.tup [.int l, .int h]) := sq2 _ _ upd_same
      have hq3 : (upd (upd H9 q (.tup [.int l, .int h])) q2 (.tup [.ref q, .int dd])) q2 = some (.tup [.ref q, .int dd]) := upd_same
      have hD2 := S _ _ hD
      generalize upd (upd H9 q (.tup [.int l, .int h])) q2 (.tup [.ref q, .int dd]) = HA at *
      have oD : Off D HA (upd HA D (.lst (ps.map V.ref ++ [.ref q2]))) := off_upd
      have keep : ∀ {T : Addr} {kv : List L2.Key × V}, PrK K HA T kv → PrK K (upd HA D (.lst (ps.map V.ref ++ [.ref q2]))) T kv := fun {T kv} hh => by
        obtain ⟨b', h1, h2⟩ := hh
        refine ⟨b', oD.sqT hD2 h1, ?_⟩
        rw [upd_ne]
        · exact h2
        · rintro rfl
          rw [hD2] at h2
          cases h2
      refine ⟨_, hD2, small1000 (by rw [List.length_map]; omega), same_off nD (s9.trans S) oD, ps ++ [q2], by rw [upd_same, List.map_append]; rfl, ?_, by rw [List.length_append, List.length_singleton]; omega⟩
      rw [take_snoc er, List.map_append]
      exact pr_app (pr_imp (fun T kv hh => keep (hh.elim fun b' ⟨h1, h2⟩ => ⟨b', sqT_same S h1, S _ _ h2⟩)) hps) (.cons (keep ⟨q, .of hq3, hq2⟩) .nil)
    · rintro H9 ⟨s9, ps, hD, hps, pl⟩
      rw [hxl, List.take_length] at hps
      refine ⟨D, ps, bs.map kvB, rfl, .of hD, hps, fun dk ndk => ?_⟩
      have sdk := same_new (o := .dT (mergeT [] (bs.map kvB))) ndk
      intro d nd
      have sd := same_new (o := .dT []) nd
      have sA := (s9.trans sdk).trans sd
      have hdk : (upd (upd H9 dk (.dT (mergeT [] (bs.map kvB)))) d (.dT [])) dk = some (.dT (mergeT [] (bs.map kvB))) := sd _ _ upd_same
      have hd0 : (upd (upd H9 dk (.dT (mergeT [] (bs.map kvB)))) d (.dT [])) d = some (.dT []) := upd_same
      have dne : dk ≠ d := fun z => by subst z; rw [upd_same] at nd; cases nd
      have ndH : H d = none := (sH8.trans (s9.trans sdk)).free nd
      have pd : p ≠ d := fun z => by
        subst z
        have := (s9.trans sdk) _ _ hp8
        rw [this] at nd
        cases nd
      generalize upd (upd H9 dk (.dT (mergeT [] (bs.map kvB)))) d (.dT []) = HB at *
      have sHB := sH8.trans sA
      refine ⟨_, rfl, _, rfl, by omega, by omega, for_range (lo := 0) (n := n) (fun i σ H' => (∃ v4 v5 v6 : Option V, σ = [some (.int n), some (.ref a), some (.ref p), some (.ref dk), v4, v5, v6, some (.ref d)]) ∧ Off d HB H' ∧ ∃ kvs, H' d = some (.dT kvs) ∧ kvs.length ≤ 8 * i ∧
        ∀ x y : Nat, x < n → y < n → x ≠ y → (x < i ∨ y < i) → ∃ z, valV kvs [.inl (x : Int), .inl (y : Int)] = some z ∧ TI K H' z (pr2 (cB bs x y))) ⟨⟨_, _, _, rfl⟩, .refl, [], hd0, Nat.zero_le _, fun x y _ _ _ z => by omega⟩ ?_ ?_⟩
      · rintro i σ H' hi ⟨⟨v4, v5, v6, rfl⟩, oo, kvs, hd, kl, hv⟩
        refine ⟨_, rfl, _, _, rfl, rfl, _, rfl, _, _, rfl, ⟨by omega, by omega, by omega, by omega⟩, for_range (lo := 0 + (i : Int) + 1) (n := ((n : Int) - (0 + (i : Int) + 1)).toNat) (fun j σ H' => (∃ v5 v6 : Option V, σ = [some (.int n), some (.ref a), some (.ref p), some (.ref dk), some (.int (0 + (i : Int))), v5, v6, some (.ref d)]) ∧ Off d HB H' ∧ ∃ kvs, H' d = some (.dT kvs) ∧ kvs.length ≤ 8 * i + 2 * j ∧
          ∀ x y : Nat, x < n → y < n → x ≠ y → (x < i ∨ y < i ∨ (x = i ∧ y < i + 1 + j) ∨ (y = i ∧ x < i + 1 + j)) → ∃ z, valV kvs [.inl (x : Int), .inl (y : Int)] = some z ∧ TI K H' z (pr2 (cB bs x y))) ?_ ?_ ?_⟩
        · exact ⟨⟨v5, v6, rfl⟩, oo, kvs, hd, by omega, fun x y hx hy xy c => hv x y hx hy xy (by omega)⟩
        · rintro j σ H2 hj ⟨⟨v5, v6, rfl⟩, oo, kvs, hd, kl, hv⟩
          have jn : i + 1 + j < n := by omega
          have ej : (0 + (i : Int) + 1 + (j : Int)) = ((i + 1 + j : Nat) : Int) := by omega
          have ei : (0 + (i : Int)) = ((i : Nat) : Int) := by omega
          rw [ej, ei]
          generalize hJ : i + 1 + j = J at *
          have hp2 := oo _ _ pd (sA _ _ hp8)
          have hdk2 := oo _ _ dne hdk
          refine ⟨_, rfl, _, rfl, dk, rfl, .inr ⟨_, .inl hdk2⟩, _, rfl, _, rfl, show 2 ≤ sizeLine by decide, fun t nt => ?_⟩
          have st := same_new (o := .tup [.int (i : Nat), .int (J : Nat)]) nt
          refine ⟨_, DGet.t (k := [.inl (i : Int), .inl (J : Int)]) (st _ _ hdk2) upd_same, ?_⟩
          have kb := kept_bond va bs.length i J (by omega)
          rw [List.take_length] at kb
          rw [kb]
          have hp3 := st _ _ hp2
          have ob := bondOf_ok va i J
          have lk2 : ∃ v, DGet (upd H2 t (.tup [.int (i : Nat), .int (J : Nat)])) p (.int (bondOf bs i J)) (some v) ∧ BsAt K (upd H2 t (.tup [.int (i : Nat), .int (J : Nat)])) v (facT (bondOf bs i J)) := by
            obtain ⟨v, g, b⟩ := look (H' := HB) _ ob sA
            have g2 : ∀ {v}, DGet HB p (.int (bondOf bs i J)) (some v) → DGet (upd H2 t (.tup [.int (i : Nat), .int (J : Nat)])) p (.int (bondOf bs i J)) (some v) := fun {v} g => by
              rcases g with ⟨kv, k, r, e1, e2⟩ | ⟨kv, k, b, r, e1, _⟩
              · have hpB := sA _ _ hp8
                rcases r with r | ⟨o, r⟩
                · rw [hpB] at r
                  cases r
                  exact .inl ⟨_, k, .inl hp3, e1, e2⟩
                · rw [hpB] at r
                  cases r
              · cases e1
            exact ⟨v, g2 g, (offN_bs oo hd0 (nt_T _) b).same st⟩
          obtain ⟨v, dg, bv⟩ := lk2
          refine ⟨p, v, rfl, dg, ?_⟩
          obtain ⟨w0, p0, u0, q0, ef, _⟩ := facT_two ob
          rw [ef] at bv
          obtain ⟨va1, vx, rfl, vq, vt2⟩ := bv
          obtain ⟨x0, x1, rfl, tx0, tx1⟩ := tis_two vt2
          have iJ : i ≠ J := by omega
          have f0 : pr2 (cB bs i J) = [w0, p0] := by
            rw [← fac_gl va iJ]
            unfold fac
            rw [if_pos (show (i : Int) < J by omega), ef]
            rfl
          have f1 : pr2 (cB bs J i) = [u0, q0] := by
            rw [← fac_gl va iJ.symm]
            unfold fac
            rw [if_neg (show ¬ (J : Int) < i by omega), bondOf_symm, ef]
            rfl
          have hdt := st _ _ hd
          have oot := oo.trans (.of_same st)
          have hv3 : ∀ x y : Nat, x < n → y < n → x ≠ y → (x < i ∨ y < i ∨ (x = i ∧ y < i + 1 + j) ∨ (y = i ∧ x < i + 1 + j)) → ∃ z, valV kvs [.inl (x : Int), .inl (y : Int)] = some z ∧ TI K (upd H2 t (.tup [.int (i : Nat), .int (J : Nat)])) z (pr2 (cB bs x y)) := fun x y hx hy xy c => (hv x y hx hy xy (by omega)).elim fun z ⟨e, tz⟩ => ⟨z, e, tz.same st⟩
          generalize upd H2 t (.tup [.int (i : Nat), .int (J : Nat)]) = H3 at *
          refine ⟨va1, _, rfl, vq, rfl, _, _, rfl, _, rfl, _, rfl, _, rfl, show 2 ≤ sizeLine by decide, fun t1 nt1 => ?_⟩
          have st1 := same_new (o := .tup [.int (i : Nat), .int (J : Nat)]) nt1
          refine ⟨d, _, rfl, DPut.t (k := [.inl (i : Int), .inl (J : Int)]) (st1 _ _ hdt) upd_same (small1000 (by omega)), ?_⟩
          have hX : (upd (upd H3 t1 (.tup [.int (i : Nat), .int (J : Nat)])) d (.dT (putK kvs [.inl (i : Int), .inl (J : Int)] x0))) d = some (.dT (putK kvs [.inl (i : Int), .inl (J : Int)] x0)) := upd_same
          have oX : Off d H3 (upd (upd H3 t1 (.tup [.int (i : Nat), .int (J : Nat)])) d (.dT (putK kvs [.inl (i : Int), .inl (J : Int)] x0))) := fun q o nq e => by
            rw [upd_ne nq]
            exact st1 _ _ e
          generalize upd (upd H3 t1 (.tup [.int (i : Nat), .int (J : Nat)])) d (.dT (putK kvs [.inl (i : Int), .inl (J : Int)] x0)) = H4' at *
          refine ⟨_, _, rfl, _, rfl, _, rfl, _, rfl, show 2 ≤ sizeLine by decide, fun t2 nt2 => ?_⟩
          have st2 := same_new (o := .tup [.int (J : Nat), .int (i : Nat)]) nt2
          have kl1 := put_len kvs [.inl (i : Int), .inl (J : Int)] x0
          refine ⟨d, _, rfl, DPut.t (k := [.inl (J : Int), .inl (i : Int)]) (st2 _ _ hX) upd_same (small1000 (by omega)), ?_⟩
          have oY : Off d H4' (upd (upd H4' t2 (.tup [.int (J : Nat), .int (i : Nat)])) d (.dT (putK (putK kvs [.inl (i : Int), .inl (J : Int)] x0) [.inl (J : Int), .inl (i : Int)] x1))) := fun q o nq e => by
            rw [upd_ne nq]
            exact st2 _ _ e
          have oXY := oX.trans oY
          have lk : ∀ {v : V} {ns : List Int}, TI K H3 v ns → TI K (upd (upd H4' t2 (.tup [.int (J : Nat), .int (i : Nat)])) d (.dT (putK (putK kvs [.inl (i : Int), .inl (J : Int)] x0) [.inl (J : Int), .inl (i : Int)] x1))) v ns := fun z => offN_ti oXY hdt (nt_T _) z
          have kl2 := put_len (putK kvs [.inl (i : Int), .inl (J : Int)] x0) [.inl (J : Int), .inl (i : Int)] x1
          refine ⟨rfl, ⟨_, _, rfl⟩, oot.trans oXY, _, upd_same, by omega, fun x y hx hy xy c => ?_⟩
          rw [valV_put, valV_put]
          by_cases e1 : x = J ∧ y = i
          · obtain ⟨rfl, rfl⟩ := e1
            rw [if_pos rfl]
            exact ⟨x1, rfl, by rw [f1]; exact lk tx1⟩
          · rw [if_neg (fun z => e1 (key_eq.mp z))]
            by_cases e2 : x = i ∧ y = J
            · obtain ⟨rfl, rfl⟩ := e2
              rw [if_pos rfl]
              exact ⟨x0, rfl, by rw [f0]; exact lk tx0⟩
            · rw [if_neg (fun z => e2 (key_eq.mp z))]
              obtain ⟨z, e, tz⟩ := hv3 x y hx hy xy (by omega)
              exact ⟨z, e, lk tz⟩
        · rintro σ H2 ⟨⟨v5, v6, rfl⟩, oo, kvs, hd, kl, hv⟩
          exact ⟨⟨_, _, _, rfl⟩, oo, kvs, hd, by omega, fun x y hx hy xy c => hv x y hx hy xy (by omega)⟩
      · rintro σ H' ⟨⟨v4, v5, v6, rfl⟩, oo, kvs, hd, kl, hv⟩
        exact ⟨_, rfl, k _ _ (same_off ndH sHB oo) ⟨d, kvs, rfl, hd, fun x y hx hy xy => hv x y hx hy xy (.inl hx)⟩⟩
end
end Sk

namespace Sk
open PySem PySem.Spec PyProof.Rows L2 Ow
/-! list(zip(t, u)) of two tuples -/
theorem zip_len0 : typeLookup (.type "zip") "__len__" = pure none := am_miss_of_fast (by decide +kernel)
theorem zip_hint0 : typeLookup (.type "zip") "__length_hint__" = pure none := am_miss_of_fast (by decide +kernel)
section
variable {prog : Program} {w : World} {A : Around} {E : Value → Shared → Prop} {s : Shared} {z TI TO T i1 i2 l1 l2 : Addr} {f : Bool} {oT : Obj} {k1 k2 : Nat} {us vs : Array Value}
/-- next of a zip of tuples while its last pair is kept by somebody -/
theorem zt_item {u v : Value} {Q : Option Value → Shared → Prop} (D : ZipApart z TI TO i1 i2 l1 l2) (hz : IsZipHeld s.heap z TI TO T f) (hT : s.heap.get? T = some oT) (hTI : IsPair s.heap TI (.ref i1) (.ref i2))
    (h1 : s.heap.IsTupleIter i1 l1 k1) (h2 : s.heap.IsTupleIter i2 l2 k2) (m1 : s.heap.IsTuple l1 us) (m2 : s.heap.IsTuple l2 vs) (hu : us[k1]? = some u) (hv : vs[k2]? = some v)
    (hQ : ∀ g, IsZipHeld g z TI TO T true → g.IsTupleIter i1 l1 (k1 + 1) → g.IsTupleIter i2 l2 (k2 + 1) → IsPair g s.heap.objs.size u v → g.objs.size = s.heap.objs.size + 1 → (∀ c o, c ∉ [z, i1, i2] → s.heap.get? c = some o → g.get? c = some o) → Q (some (.ref s.heap.objs.size)) { s with heap := g }) :
    wpAny (model prog w) A (pyNext (.ref z)) Q E s := by
  unfold pyNext
  refine wpAny_bind (wpAny_attempt (wpAny_callSpecial?_slot (name := Str.ofString "__next__") (T := "zip") ⟨_, hz, rfl⟩ F.slot_zip_next (wpAny_call_entry F.slot_zip_next ⟨_, hz, rfl⟩ F.entry_zip_next ?_ (F.args_zip_next_1 _))))
  show wpAny _ _ (field _ 2 >>= _) _ _ _; refine wpAny_bind (wpAny_field hz rfl (x := .bool false) rfl ?_)
  show wpAny _ _ (field _ 3 >>= _) _ _ _; refine wpAny_bind (wpAny_field hz rfl (x := .ref TI) rfl ?_); refine wpAny_bind (wpAny_seqItems hTI rfl ?_)
  show wpAny _ _ (Builtin.SmallTypes.ownedTupleIsFree _ >>= _) _ _ _; refine wpAny_bind (wpAny_tupleHeld_zip hz hT fun g1 z1 c1 => ?_)
  rw [if_neg (show ¬ (false = true) from Bool.false_ne_true)]
  refine wpAny_bind ?_; rw [← Array.forIn_toList]; simp only [List.forIn_cons, List.forIn_nil]
  refine wpAny_bind (wpAny_bind (wpAny_holding ?_)); show wpAny _ _ (Builtin.SmallTypes.nextOf _ >>= _) _ _ _
  refine wpAny_bind (RZ.nextOf_tuple_item (s := { s with heap := g1 }) (h1.extBut c1.extBut D.i1z) (m1.extBut c1.extBut D.l1z) hu fun g2 a2 c2 => wpAny_pure (wpAny_pure (wpAny_bind (wpAny_bind (wpAny_holding ?_)))))
  show wpAny _ _ (Builtin.SmallTypes.nextOf _ >>= _) _ _ _
  refine wpAny_bind (RZ.nextOf_tuple_item (s := { s with heap := g2 }) ((h2.extBut c1.extBut D.i2z).extBut c2.extBut D.i12.symm) ((m2.extBut c1.extBut D.l2z).extBut c2.extBut D.l2i1) hv fun g3 a3 c3 => wpAny_pure (wpAny_pure (wpAny_pure ?_)))
  show wpAny _ _ (newTuple _ >>= _) _ _ _; refine wpAny_bind (wpAny_newTuple ?_ (by show 2 ≤ sizeLine; decide))
  have sz : g3.objs.size = s.heap.objs.size := c3.1.trans (c2.1.trans c1.1)
  refine wpAny_pure ⟨_, rfl, wpAny_pure ?_⟩
  have hp : IsPair (g3.push { cls := .type "tuple", data := .seq #[u, v] }) g3.objs.size u v := Heap.get?_push_size _ rfl
  have hs : (g3.push { cls := .type "tuple", data := .seq #[u, v] }).objs.size = g3.objs.size + 1 := Heap.size_push ..
  show Q (some (.ref g3.objs.size)) _
  rw [sz] at hp hs ⊢
  refine hQ _ (Heap.get?_push_of_some _ (c3.extBut _ _ D.i2z.symm (c2.extBut _ _ D.i1z.symm z1))) ((a2.extBut c3.extBut D.i12).at fun o e => Heap.get?_push_of_some _ e) (a3.at fun o e => Heap.get?_push_of_some _ e) hp hs fun c o hc e => Heap.get?_push_of_some _ ?_
  simp only [List.mem_cons, List.not_mem_nil, or_false, not_or] at hc
  exact c3.extBut _ _ hc.2.2 (c2.extBut _ _ hc.2.1 (c1.extBut _ _ hc.1 e))
theorem zt_end {Q : Option Value → Shared → Prop} (hh : A.handled = none) (D : ZipApart z TI TO i1 i2 l1 l2) (hz : IsZipHeld s.heap z TI TO T f) (hT : s.heap.get? T = some oT) (hTI : IsPair s.heap TI (.ref i1) (.ref i2))
    (h1 : s.heap.IsTupleIter i1 l1 k1) (h2 : s.heap.IsTupleIter i2 l2 k2) (m1 : s.heap.IsTuple l1 us) (m2 : s.heap.IsTuple l2 vs) (he : us[k1]? = none ∨ vs[k2]? = none)
    (hQ : ∀ g, (∀ c o, c ∉ [z, i1, i2] → s.heap.get? c = some o → g.get? c = some o) → Q none { s with heap := g }) :
    wpAny (model prog w) A (pyNext (.ref z)) Q E s := by
  have fin : ∀ (g : Heap) (e : Addr), (∀ c o, c ∉ [z, i1, i2] → s.heap.get? c = some o → g.get? c = some o) → (∃ o, g.get? e = some o ∧ o.cls = .type "StopIteration") → wpAny (model prog w) A (do if ← isInstance (.ref e) (.type "StopIteration") then pure none else throw (.ref e)) Q E { s with heap := g } := fun g e hg ⟨o, ho, hc⟩ =>
    wpAny_bind (wpAny_isInstance (T := "StopIteration") (b := true) ⟨o, ho, hc⟩ isSubtype_stop (wpAny_pure (hQ g hg)))
  unfold pyNext
  refine wpAny_bind (wpAny_attempt (wpAny_callSpecial?_slot (name := Str.ofString "__next__") (T := "zip") ⟨_, hz, rfl⟩ F.slot_zip_next (wpAny_call_entry F.slot_zip_next ⟨_, hz, rfl⟩ F.entry_zip_next ?_ (F.args_zip_next_1 _))))
  show wpAny _ _ (field _ 2 >>= _) _ _ _; refine wpAny_bind (wpAny_field hz rfl (x := .bool false) rfl ?_)
  show wpAny _ _ (field _ 3 >>= _) _ _ _; refine wpAny_bind (wpAny_field hz rfl (x := .ref TI) rfl ?_); refine wpAny_bind (wpAny_seqItems hTI rfl ?_)
  show wpAny _ _ (Builtin.SmallTypes.ownedTupleIsFree _ >>= _) _ _ _; refine wpAny_bind (wpAny_tupleHeld_zip hz hT fun g1 z1 c1 => ?_)
  rw [if_neg (show ¬ (false = true) from Bool.false_ne_true)]
  refine wpAny_bind ?_; rw [← Array.forIn_toList]; simp only [List.forIn_cons, List.forIn_nil]
  refine wpAny_bind (wpAny_bind (wpAny_holding ?_)); show wpAny _ _ (Builtin.SmallTypes.nextOf _ >>= _) _ _ _
  cases hu : us[k1]? with
  | none =>
    refine wpAny_bind (RZ.nextOf_tuple_end (s := { s with heap := g1 }) hh (h1.extBut c1.extBut D.i1z) (m1.extBut c1.extBut D.l1z) hu fun g2 e c2 ex => fin g2 e (fun c o hc q => ?_) ex)
    simp only [List.mem_cons, List.not_mem_nil, or_false, not_or] at hc
    exact c2 _ _ hc.2.1 (c1.extBut _ _ hc.1 q)
  | some u =>
    have hv : vs[k2]? = none := he.resolve_left (by rw [hu]; exact fun z => nomatch z)
    refine wpAny_bind (RZ.nextOf_tuple_item (s := { s with heap := g1 }) (h1.extBut c1.extBut D.i1z) (m1.extBut c1.extBut D.l1z) hu fun g2 a2 c2 => wpAny_pure (wpAny_pure (wpAny_bind (wpAny_bind (wpAny_holding ?_)))))
    show wpAny _ _ (Builtin.SmallTypes.nextOf _ >>= _) _ _ _
    refine wpAny_bind (RZ.nextOf_tuple_end (s := { s with heap := g2 }) hh ((h2.extBut c1.extBut D.i2z).extBut c2.extBut D.i12.symm) ((m2.extBut c1.extBut D.l2z).extBut c2.extBut D.l2i1) hv fun g3 e c3 ex => fin g3 e (fun c o hc q => ?_) ex)
    simp only [List.mem_cons, List.not_mem_nil, or_false, not_or] at hc
    exact c3 _ _ hc.2.2 (c2.extBut _ _ hc.2.1 (c1.extBut _ _ hc.1 q))
end
end Sk

namespace Sk
open PySem PySem.Spec PyProof.Rows L2 Ow
structure ZS (h : Heap) (z TI TO i1 i2 a b : Addr) (i : Nat) : Prop where
  st : IsZip h z TI TO .none ∨ ∃ T f x y, IsZipHeld h z TI TO T f ∧ IsPair h T x y
  to : ∃ x y, IsPair h TO x y
  ti : IsPair h TI (.ref i1) (.ref i2)
  a1 : h.IsTupleIter i1 a i
  a2 : h.IsTupleIter i2 b i
theorem ZS.but {h g : Heap} {z TI TO i1 i2 a b S : Addr} {i c : Nat} {its : Array Value} (q : ZS h z TI TO i1 i2 a b i) (hS : h.get? S = some { cls := .type "list", data := .seq its c }) (k : ∀ x o, x ≠ S → h.get? x = some o → g.get? x = some o) : ZS g z TI TO i1 i2 a b i := by
  have ne : ∀ {x o}, h.get? x = some o → o.cls ≠ .type "list" → x ≠ S := fun e n w => by
    rw [w, hS] at e
    cases e
    exact n rfl
  obtain ⟨st, ⟨tx, ty, te⟩, ti, ⟨o1, e1, d1⟩, ⟨o2, e2, d2⟩⟩ := q
  refine ⟨?_, ⟨tx, ty, k _ _ (ne te (by simp)) te⟩, k _ _ (ne ti (by simp)) ti, ⟨o1, k _ _ (ne e1 (by rw [d1.1]; simp)) e1, d1⟩, ⟨o2, k _ _ (ne e2 (by rw [d2.1]; simp)) e2, d2⟩⟩
  rcases st with h1 | ⟨T, f, x, y, h1, h2⟩
  · exact .inl (k _ _ (ne h1 (by simp)) h1)
  · exact .inr ⟨T, f, x, y, k _ _ (ne h1 (by simp)) h1, k _ _ (ne h2 (by simp)) h2⟩
/-- the pairs made so far -/
def PairsIn (H : Hp) (ts : List Addr) (xs ys : List V) : Prop := ∀ (j : Nat) (t : Addr), ts[j]? = some t → ∃ x y, xs[j]? = some x ∧ ys[j]? = some y ∧ H t = some (.tup [x, y])
section
variable {X : Cx} {pins : List (Addr × Obj)} {σ : L2.St}
theorem zt_loop (hcalm : X.calm = true) {A : Around} (hA : A.handled = none) {z TI TO i1 i2 a b S : Addr} {xs ys : List V} {n : Nat} {res : Value} {R : Result → Shared → Prop} (D : ZipApart z TI TO i1 i2 a b) (hn : n = min xs.length ys.length) {H0 : Hp} (hx : SqT X.K H0 a xs) (hy : SqT X.K H0 b ys)
    (hR : ∀ s' H' ts, Inv X pins σ H' s' → Off S H0 H' → H' S = some (.lst (ts.map V.ref)) → ts.length = n → PairsIn H' ts xs ys → R (.ok (.ret res)) s') :
    ∀ (m i : Nat) (s : Shared) (H : Hp) (ts : List Addr), n - i = m → i ≤ n → Inv X pins σ H s → ZS s.heap z TI TO i1 i2 a b i → (∀ c ∈ [z, TI, TO, i1, i2], FpOk X pins H c) → Off S H0 H → (∃ zs, H0 S = some (.lst zs)) → H S = some (.lst (ts.map V.ref)) → ts.length = i → PairsIn H ts xs ys →
      codeAny (model X.prog X.w) A (.builtin "list.extend.loop" ⟨[.ref S, .ref z, res], []⟩) R s := by
  intro m
  induction m with
  | zero =>
    intro i s H ts hm hi I q fp off0 ⟨zs, hS0⟩ hS tl pin
    obtain rfl : i = n := by omega
    have hx' := off0.sqT hS0 hx
    have hy' := off0.sqT hS0 hy
    obtain ⟨us, rv, p1, _⟩ := I.tuple hx'
    obtain ⟨vs, rv2, p2, _⟩ := I.tuple hy'
    have l1 := rv.length
    have l2 := rv2.length
    have hend : us.toArray[i]? = none ∨ vs.toArray[i]? = none := by
      rw [Array.getElem?_eq_none_iff, Array.getElem?_eq_none_iff, List.size_toArray, List.size_toArray, ← l1, ← l2]
      rcases Nat.le_total xs.length ys.length with c | c
      · exact .inl (by rw [hn, Nat.min_eq_left c]; exact Nat.le_refl _)
      · exact .inr (by rw [hn, Nat.min_eq_right c]; exact Nat.le_refl _)
    refine codeAny_builtin F.entry_extend_loop ?_
    rw [Around.under_plainId F.plain_extend_loop _]
    show wpAny _ A.in1 (pyNext _ >>= _) _ _ s
    have done : ∀ g : Heap, (∀ c o, c ∉ [z, TI, TO, i1, i2] → s.heap.get? c = some o → g.get? c = some o) → R (.ok (.ret res)) { s with heap := g } := fun g hg =>
      hR _ H ts (I.turnedL (t' := s.toks) (ch := [z, TI, TO, i1, i2]) hg fp) off0 hS tl pin
    obtain ⟨tx, ty, h20⟩ := q.to
    rcases q.st with h1 | ⟨T, f, x, y, h1, h2⟩
    · refine wpAny_bind (RZ.pyNext_zipT_end hA D h1 q.ti h20 q.a1 q.a2 p1 p2 hend fun g hg => wpAny_pure (done g fun c o hc e => ?_))
      simp only [List.mem_cons, List.not_mem_nil, or_false, not_or] at hc
      exact hg c o hc.1 hc.2.2.1 hc.2.2.2.1 hc.2.2.2.2 e
    · refine wpAny_bind (zt_end hA D h1 h2 q.ti q.a1 q.a2 p1 p2 hend fun g hg => wpAny_pure (done g fun c o hc e => hg c o (fun w => hc ?_) e))
      simp only [List.mem_cons, List.not_mem_nil, or_false] at w ⊢
      rcases w with w | w | w <;> simp [w]
  | succ m ih =>
    intro i s H ts hm hi I q fp off0 ⟨zs, hS0⟩ hS tl pin
    have hx' := off0.sqT hS0 hx
    have hy' := off0.sqT hS0 hy
    obtain ⟨us, rv, p1, _⟩ := I.tuple hx'
    obtain ⟨vs, rv2, p2, _⟩ := I.tuple hy'
    have i1' : i < xs.length := by omega
    have i2' : i < ys.length := by omega
    obtain ⟨u, hu, ru⟩ := rv.get (List.getElem?_eq_getElem i1')
    obtain ⟨v, hv, rv'⟩ := rv2.get (List.getElem?_eq_getElem i2')
    refine codeAny_builtin F.entry_extend_loop ?_
    rw [Around.under_plainId F.plain_extend_loop _]
    show wpAny _ A.in1 (pyNext _ >>= _) _ _ s
    have szl : xs.length ≤ sizeLine := by
      obtain ⟨_, _, _, w⟩ := I.tuple hx'
      exact w
    have go : ∀ g : Heap, (∀ c o, c ∉ [z, TI, TO, i1, i2] → s.heap.get? c = some o → g.get? c = some o) → ZS g z TI TO i1 i2 a b (i + 1) → IsPair g s.heap.objs.size u v →
        wpAny (model X.prog X.w) A.in1 (updateSeq S (·.push (.ref s.heap.objs.size)) >>= fun _ => again (.builtin "list.extend.loop" ⟨[.ref S, .ref z, res], []⟩)) (fun fin s' => match fin with | .done f => R (.ok f) s' | .again c' => c'.quiet = true ∧ codeAny (model X.prog X.w) A c' R s') (fun e s' => R (.error e) s') { s with heap := g } := fun g hg q' hp => by
      have nT : H s.heap.objs.size = none := I.hok.fresh (Nat.le_refl _)
      have new : ObjOk X.prog X.w (upd H s.heap.objs.size (.tup [xs[i], ys[i]])) g s.heap.objs.size (.tup [xs[i], ys[i]]) := ⟨by show 2 ≤ sizeLine; decide, [u, v], .cons ru (.cons rv' .nil), ⟨_, hp, rfl, _, rfl⟩⟩
      have I1 : Inv X pins σ (upd H s.heap.objs.size (.tup [xs[i], ys[i]])) { s with heap := g } := I.turnedNew (t' := s.toks) (ch := [z, TI, TO, i1, i2]) hg fp (Nat.le_refl _) new
      have neS : S ≠ s.heap.objs.size := fun w => by rw [← w, hS] at nT; cases nT
      have hS1 : (upd H s.heap.objs.size (.tup [xs[i], ys[i]])) S = some (.lst (ts.map V.ref)) := by rw [upd_ne neS]; exact hS
      obtain ⟨zz, its, c, r, hl, e⟩ := I1.lstM hS1
      rw [List.length_map] at hl
      refine wpAny_bind (wpAny_updateSeq e rfl ?_ (by rw [List.size_toArray]; omega) (by rw [Array.size_push, List.size_toArray]; omega))
      refine wpAny_pure ⟨plainId_quiet F.plain_extend_loop _, ?_⟩
      have I2 := I1.lset (t' := s.toks) (f := (·.push (Value.ref s.heap.objs.size))) (its' := its ++ [.ref s.heap.objs.size]) (ys := ts.map V.ref ++ [.ref s.heap.objs.size]) hS1 e (by simp) (r.append (show Vals [V.ref s.heap.objs.size] [Value.ref s.heap.objs.size] from .cons rfl .nil)) (by rw [List.length_append, List.length_map, List.length_singleton]; omega)
      have offS : Off S H (upd (upd H s.heap.objs.size (.tup [xs[i], ys[i]])) S (.lst (ts.map V.ref ++ [.ref s.heap.objs.size]))) := fun x o hx e => by
        rw [upd_ne hx, upd_ne (fun w => by rw [w, nT] at e; cases e)]
        exact e
      refine ih (i + 1) _ _ (ts ++ [s.heap.objs.size]) (by omega) (by omega) I2 (q'.but e fun x o hx e => (Heap.get?_update_other _ _ (Ne.symm hx)).trans e) (fun c hc => ?_) (off0.trans offS) ⟨zs, hS0⟩ (by rw [upd_same, List.map_append]; rfl) (by rw [List.length_append, List.length_singleton, tl]) (fun j t ht => ?_)
      · have f0 := fp c hc
        have lt : c ≠ s.heap.objs.size := fun w => by
          have o : ∃ o, s.heap.get? c = some o := by
            simp only [List.mem_cons, List.not_mem_nil, or_false] at hc
            rcases hc with rfl | rfl | rfl | rfl | rfl
            · rcases q.st with h | ⟨_, _, _, _, h, _⟩ <;> exact ⟨_, h⟩
            · exact ⟨_, q.ti⟩
            · exact q.to.elim fun _ h => h.elim fun _ h => ⟨_, h⟩
            · exact q.a1.elim fun o h => ⟨o, h.1⟩
            · exact q.a2.elim fun o h => ⟨o, h.1⟩
          obtain ⟨o, ho⟩ := o
          exact absurd (Heap.lt_size ho) (by rw [w]; exact Nat.lt_irrefl _)
        have neS2 : c ≠ S := fun w => by
          have := f0.1
          rw [w, hS] at this
          cases this
        exact ⟨by rw [upd_ne neS2, upd_ne lt]; exact f0.1, f0.2⟩
      · by_cases hj : j < ts.length
        · rw [List.getElem?_append_left hj] at ht
          obtain ⟨x, y, h1, h2, h3⟩ := pin j t ht
          exact ⟨x, y, h1, h2, offS _ _ (fun w => by rw [w, hS] at h3; cases h3) h3⟩
        · rw [List.getElem?_append_right (by omega)] at ht
          have j0 : j - ts.length = 0 := by
            cases w : j - ts.length with
            | zero => rfl
            | succ k => rw [w] at ht; simp at ht
          rw [j0] at ht
          cases ht
          obtain rfl : j = i := by omega
          exact ⟨_, _, List.getElem?_eq_getElem i1', List.getElem?_eq_getElem i2', by rw [upd_ne neS.symm]; exact upd_same⟩
    obtain ⟨tx, ty, h20⟩ := q.to
    rcases q.st with h1 | ⟨T, f, x, y, h1, h2⟩
    · refine wpAny_bind (RZ.pyNext_zipT_item D h1 q.ti h20 q.a1 q.a2 p1 p2 (x := u) (y := v) (by simpa using hu) (by simpa using hv) fun g z' TO' b1 b2 hp hsz hk => go g (fun c o hc e => ?_) ⟨.inr ⟨_, false, u, v, z', hp⟩, ⟨_, _, TO'⟩, ?_, b1, b2⟩ hp)
      · simp only [List.mem_cons, List.not_mem_nil, or_false, not_or] at hc
        exact hk c o hc.1 hc.2.2.1 hc.2.2.2.1 hc.2.2.2.2 e
      · exact hk _ _ D.TIz D.TITO D.TIi1 D.TIi2 q.ti
    · have hTn : T ∉ [z, i1, i2] := by
        simp only [List.mem_cons, List.not_mem_nil, or_false, not_or]
        refine ⟨fun w => ?_, fun w => ?_, fun w => ?_⟩
        · subst w
          exact absurd (congrArg Obj.cls (Option.some.inj (Eq.trans (Eq.symm h1) h2))) (by simp)
        · subst w
          obtain ⟨o, e1, e2, _⟩ := q.a1
          rw [← Option.some.inj (Eq.trans (Eq.symm h2) e1)] at e2
          exact absurd e2 (by simp)
        · subst w
          obtain ⟨o, e1, e2, _⟩ := q.a2
          rw [← Option.some.inj (Eq.trans (Eq.symm h2) e1)] at e2
          exact absurd e2 (by simp)
      refine wpAny_bind (zt_item D h1 h2 q.ti q.a1 q.a2 p1 p2 (u := u) (v := v) (by simpa using hu) (by simpa using hv) fun g z' b1 b2 hp hsz hk => go g (fun c o hc e => hk c o (fun w => hc ?_) e) ⟨.inr ⟨_, true, x, y, z', hk _ _ hTn h2⟩, ⟨_, _, hk _ _ (by simp only [List.mem_cons, List.not_mem_nil, or_false, not_or]; exact ⟨D.TOz, D.TOi1, D.TOi2⟩) h20⟩, ?_, b1, b2⟩ hp)
      · simp only [List.mem_cons, List.not_mem_nil, or_false] at w ⊢
        rcases w with w | w | w <;> simp [w]
      · refine hk _ _ ?_ q.ti
        simp only [List.mem_cons, List.not_mem_nil, or_false, not_or]
        exact ⟨D.TIz, D.TIi1, D.TIi2⟩
/-- list(zip(t, u)): a new list of new pairs -/
def tLZ (K : PySem.W.Frag) (ta : TA) : TE := fun σ H Q => ta σ H fun vs H1 => ∃ (a b : Addr) (xs ys : List V), vs = [.ref a, .ref b] ∧ SqT K H1 a xs ∧ SqT K H1 b ys ∧
  ∀ (D : Addr) (ts : List Addr) (H' : Hp), Same H1 H' → H1 D = none → H' D = some (.lst (ts.map V.ref)) → ts.length = min xs.length ys.length → PairsIn H' ts xs ys → Q (.ref D) H'
theorem pe_listZip {e e2 : Expr} {ta : TA} {p q pos zp : Pos} (hc : X.calm = true) (hg : Gl X "list") (hm : X.mg "list" = none) (hg2 : Gl X "zip") (hm2 : X.mg "zip" = none) (ha : PA X [e, e2] ta)
    (hs : starEach [e, e2] X.env = (false, eval e X.env) :: starEach [e2] X.env := by rfl) (hpl : (backTo zp (starEach [e2] X.env)).any (·.1) = false := by rfl)
    (na : starEach [.Call (.Name "zip" q) [e, e2] [] zp] X.env = (false, eval (.Call (.Name "zip" q) [e, e2] [] zp) X.env) :: starEach [] X.env := by rfl) :
    PE X (.Call (.Name "list" p) [.Call (.Name "zip" q) [e, e2] [] zp] [] pos) (tLZ X.K ta) := by
  refine ⟨fun pins s σ H Q I h => ?_⟩
  refine Call_ (ld_blt I hg hm boot_list (PyProof.Rows.callWith_type1 (args_cons ?_ na) na))
  refine Call_ (ld_blt I hg2 hm2 PyProof.Rows.boot_zip (PyProof.Rows.callWith_type1 (thn (ha.run zp pins s σ H _ I h) fun us s1 ⟨vs, H1, I1, r1, q1⟩ => ?_) hs hpl))
  obtain ⟨a, b, xs, ys, ex, hx, hy, k⟩ := q1
  subst ex
  cases r1 with
  | cons r rr =>
    cases rr with
    | cons r' rr =>
      cases rr
      cases r
      cases r'
      obtain ⟨its, rv, p1, z1⟩ := I1.tuple hx
      obtain ⟨its2, rv2, p2, z2⟩ := I1.tuple hy
      obtain ⟨o1, ho1, _⟩ := id p1
      obtain ⟨o2, ho2, _⟩ := id p2
      refine RZ.call_zipT (show s1.heap.IsTuple a its.toArray from p1) (show s1.heap.IsTuple b its2.toArray from p2) fun g hz hTI hTO h1 h2 hsz hk => args_nil ?_
      have D := PySem.W.ktu_apart s1.heap.objs.size a b (Heap.lt_size ho1) (Heap.lt_size ho2)
      have I2 : Inv X pins σ H1 { s1 with heap := g } := I1.kept (t' := s1.toks) hk
      have fp : ∀ c ∈ [s1.heap.objs.size + 4, s1.heap.objs.size + 2, s1.heap.objs.size + 3, s1.heap.objs.size, s1.heap.objs.size + 1], FpOk X pins H1 c ∧ c < g.objs.size := fun c hc => by
        simp only [List.mem_cons, List.not_mem_nil, or_false] at hc
        have hle : s1.heap.objs.size ≤ c ∧ c < g.objs.size := by
          rw [hsz]
          rcases hc with w | w | w | w | w <;> rw [w] <;> exact ⟨by simp, by simp⟩
        exact ⟨I1.fpOk hle.1 (I1.hok.fresh hle.1), hle.2⟩
      generalize s1.heap.objs.size + 4 = z at *
      generalize s1.heap.objs.size + 2 = TI at *
      generalize s1.heap.objs.size + 3 = TO at *
      generalize s1.heap.objs.size + 1 = i2 at *
      generalize s1.heap.objs.size = i1 at *
      have q0 : ZS g z TI TO i1 i2 a b 0 := ⟨.inl hz, ⟨_, _, hTO⟩, hTI, h1, h2⟩
      have nS : H1 g.objs.size = none := I2.hok.fresh (Nat.le_refl _)
      have I3 : Inv X pins σ (upd H1 g.objs.size (.lst [])) { s1 with heap := g.push { cls := .type "list", data := .seq #[] } } := I2.lnew (its := []) (t' := s1.toks) .nil (Nat.zero_le _)
      have hS : (g.push { cls := .type "list", data := .seq #[] }).get? g.objs.size = some { cls := .type "list", data := .seq #[] } := Heap.get?_push_size _ rfl
      have q1 : ZS (g.push { cls := .type "list", data := .seq #[] }) z TI TO i1 i2 a b 0 := ⟨.inl (Heap.get?_push_of_some _ hz), ⟨_, _, Heap.get?_push_of_some _ hTO⟩, Heap.get?_push_of_some _ hTI, h1.at fun o e => Heap.get?_push_of_some _ e, h2.at fun o e => Heap.get?_push_of_some _ e⟩
      have hA : X.A.handled = none := I2.ok.hd hc
      refine callType_codes (Q₁ := fun obj s₁ => obj = .ref g.objs.size ∧ s₁ = { s1 with heap := g.push { cls := .type "list", data := .seq #[] } }) F.called_list (F.typeCall_list_1 _) F.entry_list_init (code_list_new _ ⟨rfl, rfl⟩) fun obj s₁ h₁ => ?_
      obtain ⟨rfl, rfl⟩ := h₁
      refine ⟨⟨_, hS, rfl⟩, F.args_list_init_2 _ _, ?_⟩
      show wpAny _ _ (do let old ← Builtin.List.listItems (.ref g.objs.size); Builtin.List.listUpdate (.ref g.objs.size) (fun _ => #[]); letGo old.toList.reverse; Builtin.List.listExtendWith (.ref g.objs.size) (.ref z) .none) _ _ _
      refine wpAny_bind ?_
      unfold Builtin.List.listItems
      refine wpAny_bind (wpAny_seqItems hS rfl (wpAny_pure ?_))
      show wpAny _ _ (updateSeq g.objs.size (fun _ => #[]) >>= fun _ => letGo (#[] : Array Value).toList.reverse >>= fun _ => Builtin.List.listExtendWith (.ref g.objs.size) (.ref z) .none) _ _ _
      refine wpAny_bind (wpAny_updateSeq hS rfl ?_)
      have eS : (upd H1 g.objs.size (.lst [])) g.objs.size = some (.lst []) := upd_same
      have I4 := I3.lset (t' := s1.toks) (its := []) (f := fun _ => #[]) (its' := []) (ys := []) eS hS rfl .nil (Nat.zero_le _)
      have q2 : ZS ((g.push { cls := .type "list", data := .seq #[] }).update g.objs.size (Obj.mapSeq fun _ => #[])) z TI TO i1 i2 a b 0 := q1.but hS fun x o hx e => (Heap.get?_update_other _ _ (Ne.symm hx)).trans e
      have zt : ∃ f0, IsZip ((g.push { cls := .type "list", data := .seq #[] }).update g.objs.size (Obj.mapSeq fun _ => #[])) z TI TO f0 := by
        rcases q2.st with h | ⟨T, f, x, y, h, h'⟩
        · exact ⟨_, h⟩
        · exact ⟨.none, (Heap.get?_update_other _ _ (fun w => by
            have := (fp z (by simp)).2
            rw [w] at this
            exact Nat.lt_irrefl _ this)).trans (Heap.get?_push_of_some _ hz)⟩
      obtain ⟨f0, zt⟩ := zt
      generalize (g.push { cls := .type "list", data := .seq #[] }).update g.objs.size (Obj.mapSeq fun _ => #[]) = g4 at *
      refine wpAny_bind (wpAny_letGo ?_)
      unfold Builtin.List.listExtendWith
      refine wpAny_bind (wpAny_typeOf (T := "zip") ⟨_, zt, rfl⟩ ?_)
      have zS : g.objs.size ≠ z := fun w => by
        have := (fp z (by simp)).2
        rw [← w] at this
        exact Nat.lt_irrefl _ this
      have n1 : Builtin.List.listSameRef (.ref g.objs.size) (.ref z) = false := by simp [Builtin.List.listSameRef, zS]
      have n2 : (Value.type "zip" == Value.type "list") = false := by decide
      have n3 : (Value.type "zip" == Value.type "tuple") = false := by decide
      simp only [n1, n2, n3, Bool.or_false, Bool.false_eq_true, if_false]
      refine wpAny_bind (wpAny_pyIter_zip zt ?_)
      refine wpAny_bind (wpAny_holding ?_)
      unfold Builtin.List.listLengthHint
      refine wpAny_bind (wpAny_specialOf (T := "zip") ⟨_, zt, rfl⟩ zip_len0 ?_)
      show wpAny _ _ (specialOf (Value.ref z) (Str.ofString "__length_hint__") >>= _) _ _ _
      refine wpAny_bind (wpAny_specialOf (T := "zip") ⟨_, zt, rfl⟩ zip_hint0 ?_)
      refine wpAny_pure ?_
      show wpAny _ _ (rule "list.extend.makes-room" >>= fun _ => Builtin.List.listTouch (.ref g.objs.size) >>= fun _ => again (.builtin "list.extend.loop" ⟨[.ref g.objs.size, .ref z, .none], []⟩)) _ _ _
      refine wpAny_bind (wpAny_rule (wpAny_bind ?_))
      show wpAny _ _ (updateSeq g.objs.size (·.push .none) >>= fun _ => updateSeq g.objs.size (·.pop)) _ _ _
      have e4 : (upd (upd H1 g.objs.size (.lst [])) g.objs.size (.lst [])) g.objs.size = some (.lst []) := upd_same
      obtain ⟨_, its4, c4, r4, _, hS4⟩ := I4.lstM e4
      cases r4
      refine wpAny_bind (wpAny_updateSeq hS4 rfl ?_)
      have I5 := I4.lset (t' := s1.toks) (its := []) (f := (·.push .none)) (its' := [.none]) (ys := [.non]) e4 hS4 rfl (.cons rfl .nil) (by show 1 ≤ sizeLine; decide)
      have q3 : ZS (g4.update g.objs.size (Obj.mapSeq (·.push .none))) z TI TO i1 i2 a b 0 := q2.but hS4 fun x o hx e => (Heap.get?_update_other _ _ (Ne.symm hx)).trans e
      generalize g4.update g.objs.size (Obj.mapSeq (·.push .none)) = g5 at *
      have e5 : (upd (upd (upd H1 g.objs.size (.lst [])) g.objs.size (.lst [])) g.objs.size (.lst [.non])) g.objs.size = some (.lst [.non]) := upd_same
      obtain ⟨_, its5, c5, r5, _, hS5⟩ := I5.lstM e5
      obtain ⟨u5, rfl, ru5⟩ := r5.one
      refine wpAny_updateSeq hS5 rfl (wpAny_pure ⟨plainId_quiet F.plain_extend_loop _, ?_⟩) (by show 1 ≤ sizeLine; decide) (by show 0 ≤ sizeLine + 1; exact Nat.zero_le _)
      have I6 := I5.lset (t' := s1.toks) (its := [u5]) (f := (·.pop)) (its' := []) (ys := []) e5 hS5 rfl .nil (Nat.zero_le _)
      have q6 : ZS (g5.update g.objs.size (Obj.mapSeq (·.pop))) z TI TO i1 i2 a b 0 := q3.but hS5 fun x o hx e => (Heap.get?_update_other _ _ (Ne.symm hx)).trans e
      have sx : Same H1 (upd H1 g.objs.size (.lst [])) := same_new nS
      rw [upd_upd, upd_upd, upd_upd] at I6
      refine zt_loop (X := X) (pins := pins) (σ := σ) hc (A := X.A.in1) hA D rfl (H0 := upd H1 g.objs.size (.lst [])) (sqT_same sx hx) (sqT_same sx hy) (fun s' H' ts I' off hS' tl pin => ?_) _ 0 _ _ [] rfl (Nat.zero_le _) I6 q6 (fun c hc => ?_) .refl ⟨_, upd_same⟩ upd_same rfl (fun j t h => by simp at h)
      · exact ⟨rfl, .ref g.objs.size, H', I', rfl, k _ ts H' (same_off nS sx off) nS hS' tl pin⟩
      · have f := fp c hc
        exact ⟨by rw [upd_ne (Nat.ne_of_lt f.2)]; exact f.1.1, f.1.2⟩
end
end Sk

namespace Sk
open PySem L2 Ow
def spLBelow (K : PySem.W.Frag) : Sp := fun vs H Q _ => ∃ (v : V) (n : Nat) (x : Rt.Vc), vs = [v] ∧ BsAt K H v (stL n x) ∧ Sml n x ∧ Q (.bl (lowB n x)) H
theorem below_test (w p : Int) : Rt.sn (w, p) = -1 ↔ (2 * w + p < 0 ∧ p ≤ 0) ∨ (2 * w + p ≤ 0 ∧ p < 0) ∨ (2 * w + p < 0 ∧ (2 * w + p) * (2 * w + p) > 5 * p * p) ∨ (p < 0 ∧ (2 * w + p) * (2 * w + p) < 5 * p * p) := by
  rw [low_test]
  have z := z0 (2 * w + p) p
  constructor
  · rintro (⟨a, b | b⟩ | ⟨a, b, c⟩)
    · exact .inl ⟨a, b⟩
    · exact .inr (.inr (.inl ⟨a, b⟩))
    · exact .inr (.inr (.inr ⟨b, c⟩))
  · rintro (⟨a, b⟩ | ⟨a, b⟩ | ⟨a, b⟩ | ⟨a, b⟩)
    · exact .inl ⟨a, .inl b⟩
    · by_cases c : 2 * w + p = 0
      · exact .inr ⟨by omega, b, z c b⟩
      · exact .inl ⟨by omega, .inl (by omega)⟩
    · exact .inl ⟨a, .inr b⟩
    · by_cases c : 2 * w + p < 0
      · exact .inl ⟨c, .inl (by omega)⟩
      · exact .inr ⟨by omega, a, b⟩
section
variable {P : Program} {w : World} {K : PySem.W.Frag} {mg : Str → Option Value} {base : Heap} {C : Addr}
theorem cal_l_is_below (T : Txt K mg C) : Cal P w K mg base "_law_is_below" 1 (spLBelow K) := by
  refine T.d_l_is_below.cal (ps := ["_law_root"]) (fun f fd D => ?_) (fun _ _ _ _ _ _ us hl => match us, hl with | [_], _ => rfl)
  refine D.ok sc_l_is_below (fun vs H Q E h => ?_) (fun cdv A outer s H vs Q E hr h => ?_)
  · obtain ⟨_, _, _, rfl, _⟩ := h
    rfl
  · obtain ⟨_, n, x, rfl, ⟨a, xs, rfl, ha, hx⟩, hb, k⟩ := h
    have hl : xs.length = n := by rw [hx.len, stL_len]
    refine ⟨_, (pss_cons (ps_for PassesOwn.never rfl (pi_tup (pv 0)) (pg_tup (by rfl) (pgs_cons (pg_name (i := 1) sc_l_is_below.nd rfl (Or.inl rfl)) (pgs_cons (pg_name (i := 2) sc_l_is_below.nd rfl (Or.inl rfl)) pgs_nil))) (pss_cons (ps_set (i := 3) sc_l_is_below.nd rfl (Or.inl rfl) (pe_op op_add (pe_op op_mul pe_int (pv 1)) (pv 2)))
      (pss_one (ps_if (PW.pt (pw_or (PW.pt (pw_and (pt_cmpR op_lt (pv 3) pe_int (nomark _)) (pw_and1 (pt_cmpR op_le (pv 2) pe_int (nomark _))))) (pw_or (PW.pt (pw_and (pt_cmpR op_le (pv 3) pe_int (nomark _)) (pw_and1 (pt_cmpR op_lt (pv 2) pe_int (nomark _))))) (pw_or (PW.pt (pw_and (pt_cmpR op_lt (pv 3) pe_int (nomark _)) (pw_and1 (pt_cmpR op_gt (pe_op op_mulW (pv 3) (pv 3)) (pe_op op_mulW (pe_op op_mul pe_int (pv 2)) (pv 2)) (nomark _))))) (pw_or1 (PW.pt (pw_and (pt_cmpR op_lt (pv 2) pe_int (nomark _)) (pw_and1 (pt_cmpR op_lt (pe_op op_mulW (pv 3) (pv 3)) (pe_op op_mulW (pe_op op_mul pe_int (pv 2)) (pv 2)) (nomark _)))))))))) (pss_one (ps_ret pe_bl)) pss_nil))))
      (pss_one (ps_ret pe_bl))), ?_⟩
    refine ⟨_, rfl, a, rfl, ⟨_, ha⟩, for_tup (K := K) (a := a) (xs := xs) (fun i σ H' => H' = H ∧ (∃ v1 v2 v3, σ = [some (.ref a), v1, v2, v3]) ∧ ∀ j, j < i → Rt.sn (x j) ≠ -1) ⟨rfl, ⟨none, none, none, rfl⟩, fun j h => absurd h (Nat.not_lt_zero j)⟩ (fun i σ H' _ h => by rw [h.1]; exact ha) ?_ ?_⟩
    · rintro i y σ H2 hy ⟨rfl, ⟨v1, v2, v3, rfl⟩, hj⟩
      have il : i < n := by
        have := (List.getElem?_eq_some_iff.mp hy).1
        omega
      obtain ⟨r, er, tr⟩ := hx.get hy
      rw [stL_get il] at er
      cases er
      obtain ⟨b, rfl, tb⟩ := tr
      have bi := hb i il
      rcases hxi : x i with ⟨w1, p1⟩
      rw [hxi] at tb bi
      have bt : B 1003 (2 * w1 + p1) := ((B.lit (n := 2) 2).mul bi.1 : B 1002 (2 * w1)).add (bi.2.mono (by decide))
      have b5 : B 1003 (5 * p1) := (B.lit (n := 3) 5).mul bi.2
      refine ⟨_, _, rfl, tb, rfl, _, _, rfl, _, _, rfl, rfl, ?_⟩
      refine ⟨_, rfl, _, _, rfl, rfl, .inl ⟨by decide, by decide⟩, _, rfl, _, _, rfl, rfl, ?_⟩
      have lt := below_test w1 p1
      have ret : Rt.sn (w1, p1) = -1 → Q (.bl true) H2 := fun h => by
        rw [show lowB n x = true from lowB_iff.mpr ⟨i, il, by rw [hxi]; exact h⟩] at k
        exact k
      have stay : ¬ Rt.sn (w1, p1) = -1 → ∀ j, j < i + 1 → Rt.sn (x j) ≠ -1 := fun h j hj2 => by
        by_cases e : j = i
        · rw [e, hxi]
          exact h
        · exact hj j (by omega)
      refine ⟨_, rfl, _, _, rfl, rfl, _, rfl, ite2 (fun c => ?_) (fun c => ?_)⟩
      · have cA := of_decide_eq_true c
        dsimp only at cA
        clear c
        refine ⟨_, rfl, _, _, rfl, rfl, _, rfl, ite2 (fun c => ?_) (fun c => ?_)⟩
        · have c := of_decide_eq_true c
          dsimp only at c
          exact ret (lt.mpr (by omega))
        · have cA2 : ¬ _ := fun z => c (decide_eq_true z)
          dsimp only at cA2
          clear c
          refine ⟨_, rfl, _, _, rfl, rfl, _, rfl, ite2 (fun c => ?_) (fun c => ?_)⟩
          · have cB := of_decide_eq_true c
            dsimp only at cB
            clear c
            refine ⟨_, rfl, _, _, rfl, rfl, _, rfl, ite2 (fun c => ?_) (fun c => ?_)⟩
            · have c := of_decide_eq_true c
              dsimp only at c
              exact ret (lt.mpr (by omega))
            · have cB2 : ¬ _ := fun z => c (decide_eq_true z)
              dsimp only at cB2
              clear c
              refine ⟨_, rfl, _, _, rfl, rfl, _, rfl, ite2 (fun c => ?_) (fun c => ?_)⟩
              · have cC := of_decide_eq_true c
                dsimp only at cC
                clear c
                refine ⟨_, rfl, _, rfl, _, _, rfl, rfl, bt.ok bt, _, rfl, _, _, rfl, rfl, .inl ⟨by decide, by decide⟩, _, rfl, _, _, rfl, rfl, b5.ok bi.2, _, _, rfl, rfl, _, rfl, ite2 (fun c => ?_) (fun c => ?_)⟩
                · have c := of_decide_eq_true c
                  dsimp only at c
                  exact ret (lt.mpr (by omega))
                · have cC2 : ¬ _ := fun z => c (decide_eq_true z)
                  dsimp only at cC2
                  clear c
                  refine ⟨_, rfl, _, _, rfl, rfl, _, rfl, ite2 (fun c => ?_) (fun c => ?_)⟩
                  · have cD := of_decide_eq_true c
                    dsimp only at cD
                    clear c
                    refine ⟨_, rfl, _, rfl, _, _, rfl, rfl, bt.ok bt, _, rfl, _, _, rfl, rfl, .inl ⟨by decide, by decide⟩, _, rfl, _, _, rfl, rfl, b5.ok bi.2, _, _, rfl, rfl, _, rfl, ite2 (fun c => ?_) (fun c => ?_)⟩
                    · have c := of_decide_eq_true c
                      dsimp only at c
                      exact ret (lt.mpr (by omega))
                    · have cD2 : ¬ _ := fun z => c (decide_eq_true z)
                      dsimp only at cD2
                      clear c
                      exact ⟨rfl, ⟨_, _, _, rfl⟩, stay fun h => by have := lt.mp h; omega⟩
                  · have cD : ¬ _ := fun z => c (decide_eq_true z)
                    dsimp only at cD
                    clear c
                    exact ⟨rfl, ⟨_, _, _, rfl⟩, stay fun h => by have := lt.mp h; omega⟩
              · have cC : ¬ _ := fun z => c (decide_eq_true z)
                dsimp only at cC
                clear c
                refine ⟨_, rfl, _, _, rfl, rfl, _, rfl, ite2 (fun c => ?_) (fun c => ?_)⟩
                · have cD := of_decide_eq_true c
                  dsimp only at cD
                  clear c
                  refine ⟨_, rfl, _, rfl, _, _, rfl, rfl, bt.ok bt, _, rfl, _, _, rfl, rfl, .inl ⟨by decide, by decide⟩, _, rfl, _, _, rfl, rfl, b5.ok bi.2, _, _, rfl, rfl, _, rfl, ite2 (fun c => ?_) (fun c => ?_)⟩
                  · have c := of_decide_eq_true c
                    dsimp only at c
                    exact ret (lt.mpr (by omega))
                  · have cD2 : ¬ _ := fun z => c (decide_eq_true z)
                    dsimp only at cD2
                    clear c
                    exact ⟨rfl, ⟨_, _, _, rfl⟩, stay fun h => by have := lt.mp h; omega⟩
                · have cD : ¬ _ := fun z => c (decide_eq_true z)
                  dsimp only at cD
                  clear c
                  exact ⟨rfl, ⟨_, _, _, rfl⟩, stay fun h => by have := lt.mp h; omega⟩
          · have cB : ¬ _ := fun z => c (decide_eq_true z)
            dsimp only at cB
            clear c
            refine ⟨_, rfl, _, _, rfl, rfl, _, rfl, ite2 (fun c => ?_) (fun c => ?_)⟩
            · have cC := of_decide_eq_true c
              dsimp only at cC
              clear c
              refine ⟨_, rfl, _, rfl, _, _, rfl, rfl, bt.ok bt, _, rfl, _, _, rfl, rfl, .inl ⟨by decide, by decide⟩, _, rfl, _, _, rfl, rfl, b5.ok bi.2, _, _, rfl, rfl, _, rfl, ite2 (fun c => ?_) (fun c => ?_)⟩
              · have c := of_decide_eq_true c
                dsimp only at c
                exact ret (lt.mpr (by omega))
              · have cC2 : ¬ _ := fun z => c (decide_eq_true z)
                dsimp only at cC2
                clear c
                refine ⟨_, rfl, _, _, rfl, rfl, _, rfl, ite2 (fun c => ?_) (fun c => ?_)⟩
                · have cD := of_decide_eq_true c
                  dsimp only at cD
                  clear c
                  refine ⟨_, rfl, _, rfl, _, _, rfl, rfl, bt.ok bt, _, rfl, _, _, rfl, rfl, .inl ⟨by decide, by decide⟩, _, rfl, _, _, rfl, rfl, b5.ok bi.2, _, _, rfl, rfl, _, rfl, ite2 (fun c => ?_) (fun c => ?_)⟩
                  · have c := of_decide_eq_true c
                    dsimp only at c
                    exact ret (lt.mpr (by omega))
                  · have cD2 : ¬ _ := fun z => c (decide_eq_true z)
                    dsimp only at cD2
                    clear c
                    exact ⟨rfl, ⟨_, _, _, rfl⟩, stay fun h => by have := lt.mp h; omega⟩
                · have cD : ¬ _ := fun z => c (decide_eq_true z)
                  dsimp only at cD
                  clear c
                  exact ⟨rfl, ⟨_, _, _, rfl⟩, stay fun h => by have := lt.mp h; omega⟩
            · have cC : ¬ _ := fun z => c (decide_eq_true z)
              dsimp only at cC
              clear c
              refine ⟨_, rfl, _, _, rfl, rfl, _, rfl, ite2 (fun c => ?_) (fun c => ?_)⟩
              · have cD := of_decide_eq_true c
                dsimp only at cD
                clear c
                refine ⟨_, rfl, _, rfl, _, _, rfl, rfl, bt.ok bt, _, rfl, _, _, rfl, rfl, .inl ⟨by decide, by decide⟩, _, rfl, _, _, rfl, rfl, b5.ok bi.2, _, _, rfl, rfl, _, rfl, ite2 (fun c => ?_) (fun c => ?_)⟩
                · have c := of_decide_eq_true c
                  dsimp only at c
                  exact ret (lt.mpr (by omega))
                · have cD2 : ¬ _ := fun z => c (decide_eq_true z)
                  dsimp only at cD2
                  clear c
                  exact ⟨rfl, ⟨_, _, _, rfl⟩, stay fun h => by have := lt.mp h; omega⟩
              · have cD : ¬ _ := fun z => c (decide_eq_true z)
                dsimp only at cD
                clear c
                exact ⟨rfl, ⟨_, _, _, rfl⟩, stay fun h => by have := lt.mp h; omega⟩
      · have cA : ¬ _ := fun z => c (decide_eq_true z)
        dsimp only at cA
        clear c
        refine ⟨_, rfl, _, _, rfl, rfl, _, rfl, ite2 (fun c => ?_) (fun c => ?_)⟩
        · have cB := of_decide_eq_true c
          dsimp only at cB
          clear c
          refine ⟨_, rfl, _, _, rfl, rfl, _, rfl, ite2 (fun c => ?_) (fun c => ?_)⟩
          · have c := of_decide_eq_true c
            dsimp only at c
            exact ret (lt.mpr (by omega))
          · have cB2 : ¬ _ := fun z => c (decide_eq_true z)
            dsimp only at cB2
            clear c
            refine ⟨_, rfl, _, _, rfl, rfl, _, rfl, ite2 (fun c => ?_) (fun c => ?_)⟩
            · have cC := of_decide_eq_true c
              dsimp only at cC
              clear c
              refine ⟨_, rfl, _, rfl, _, _, rfl, rfl, bt.ok bt, _, rfl, _, _, rfl, rfl, .inl ⟨by decide, by decide⟩, _, rfl, _, _, rfl, rfl, b5.ok bi.2, _, _, rfl, rfl, _, rfl, ite2 (fun c => ?_) (fun c => ?_)⟩
              · have c := of_decide_eq_true c
                dsimp only at c
                exact ret (lt.mpr (by omega))
              · have cC2 : ¬ _ := fun z => c (decide_eq_true z)
                dsimp only at cC2
                clear c
                refine ⟨_, rfl, _, _, rfl, rfl, _, rfl, ite2 (fun c => ?_) (fun c => ?_)⟩
                · have cD := of_decide_eq_true c
                  dsimp only at cD
                  clear c
                  refine ⟨_, rfl, _, rfl, _, _, rfl, rfl, bt.ok bt, _, rfl, _, _, rfl, rfl, .inl ⟨by decide, by decide⟩, _, rfl, _, _, rfl, rfl, b5.ok bi.2, _, _, rfl, rfl, _, rfl, ite2 (fun c => ?_) (fun c => ?_)⟩
                  · have c := of_decide_eq_true c
                    dsimp only at c
                    exact ret (lt.mpr (by omega))
                  · have cD2 : ¬ _ := fun z => c (decide_eq_true z)
                    dsimp only at cD2
                    clear c
                    exact ⟨rfl, ⟨_, _, _, rfl⟩, stay fun h => by have := lt.mp h; omega⟩
                · have cD : ¬ _ := fun z => c (decide_eq_true z)
                  dsimp only at cD
                  clear c
                  exact ⟨rfl, ⟨_, _, _, rfl⟩, stay fun h => by have := lt.mp h; omega⟩
            · have cC : ¬ _ := fun z => c (decide_eq_true z)
              dsimp only at cC
              clear c
              refine ⟨_, rfl, _, _, rfl, rfl, _, rfl, ite2 (fun c => ?_) (fun c => ?_)⟩
              · have cD := of_decide_eq_true c
                dsimp only at cD
                clear c
                refine ⟨_, rfl, _, rfl, _, _, rfl, rfl, bt.ok bt, _, rfl, _, _, rfl, rfl, .inl ⟨by decide, by decide⟩, _, rfl, _, _, rfl, rfl, b5.ok bi.2, _, _, rfl, rfl, _, rfl, ite2 (fun c => ?_) (fun c => ?_)⟩
                · have c := of_decide_eq_true c
                  dsimp only at c
                  exact ret (lt.mpr (by omega))
                · have cD2 : ¬ _ := fun z => c (decide_eq_true z)
                  dsimp only at cD2
                  clear c
                  exact ⟨rfl, ⟨_, _, _, rfl⟩, stay fun h => by have := lt.mp h; omega⟩
              · have cD : ¬ _ := fun z => c (decide_eq_true z)
                dsimp only at cD
                clear c
                exact ⟨rfl, ⟨_, _, _, rfl⟩, stay fun h => by have := lt.mp h; omega⟩
        · have cB : ¬ _ := fun z => c (decide_eq_true z)
          dsimp only at cB
          clear c
          refine ⟨_, rfl, _, _, rfl, rfl, _, rfl, ite2 (fun c => ?_) (fun c => ?_)⟩
          · have cC := of_decide_eq_true c
            dsimp only at cC
            clear c
            refine ⟨_, rfl, _, rfl, _, _, rfl, rfl, bt.ok bt, _, rfl, _, _, rfl, rfl, .inl ⟨by decide, by decide⟩, _, rfl, _, _, rfl, rfl, b5.ok bi.2, _, _, rfl, rfl, _, rfl, ite2 (fun c => ?_) (fun c => ?_)⟩
            · have c := of_decide_eq_true c
              dsimp only at c
              exact ret (lt.mpr (by omega))
            · have cC2 : ¬ _ := fun z => c (decide_eq_true z)
              dsimp only at cC2
              clear c
              refine ⟨_, rfl, _, _, rfl, rfl, _, rfl, ite2 (fun c => ?_) (fun c => ?_)⟩
              · have cD := of_decide_eq_true c
                dsimp only at cD
                clear c
                refine ⟨_, rfl, _, rfl, _, _, rfl, rfl, bt.ok bt, _, rfl, _, _, rfl, rfl, .inl ⟨by decide, by decide⟩, _, rfl, _, _, rfl, rfl, b5.ok bi.2, _, _, rfl, rfl, _, rfl, ite2 (fun c => ?_) (fun c => ?_)⟩
                · have c := of_decide_eq_true c
                  dsimp only at c
                  exact ret (lt.mpr (by omega))
                · have cD2 : ¬ _ := fun z => c (decide_eq_true z)
                  dsimp only at cD2
                  clear c
                  exact ⟨rfl, ⟨_, _, _, rfl⟩, stay fun h => by have := lt.mp h; omega⟩
              · have cD : ¬ _ := fun z => c (decide_eq_true z)
                dsimp only at cD
                clear c
                exact ⟨rfl, ⟨_, _, _, rfl⟩, stay fun h => by have := lt.mp h; omega⟩
          · have cC : ¬ _ := fun z => c (decide_eq_true z)
            dsimp only at cC
            clear c
            refine ⟨_, rfl, _, _, rfl, rfl, _, rfl, ite2 (fun c => ?_) (fun c => ?_)⟩
            · have cD := of_decide_eq_true c
              dsimp only at cD
              clear c
              refine ⟨_, rfl, _, rfl, _, _, rfl, rfl, bt.ok bt, _, rfl, _, _, rfl, rfl, .inl ⟨by decide, by decide⟩, _, rfl, _, _, rfl, rfl, b5.ok bi.2, _, _, rfl, rfl, _, rfl, ite2 (fun c => ?_) (fun c => ?_)⟩
              · have c := of_decide_eq_true c
                dsimp only at c
                exact ret (lt.mpr (by omega))
              · have cD2 : ¬ _ := fun z => c (decide_eq_true z)
                dsimp only at cD2
                clear c
                exact ⟨rfl, ⟨_, _, _, rfl⟩, stay fun h => by have := lt.mp h; omega⟩
            · have cD : ¬ _ := fun z => c (decide_eq_true z)
              dsimp only at cD
              clear c
              exact ⟨rfl, ⟨_, _, _, rfl⟩, stay fun h => by have := lt.mp h; omega⟩
    · rintro σ H2 ⟨rfl, ⟨v1, v2, v3, rfl⟩, hj⟩
      rw [lowB_false (fun i hi => hj i (by omega))] at k
      exact k
end
end Sk

namespace Sk
open PySem L2 Ow
def spTurned (K : PySem.W.Frag) : Sp := fun vs H Q _ => ∃ (rv sv : V) (n l : Nat) (bs : List (List Int)) (F : Nat → Rt.Vc), vs = [rv, sv, .int l] ∧ RAt K H rv bs n ∧ LkAt K H sv (frL n F) ∧ Valid n bs ∧ l < n ∧ (∀ i, i < n → Sml n (F i)) ∧ ∀ v H', Same H H' → LkAt K H' v (frL n (ahF bs l F)) → Q v H'
section
variable {P : Program} {w : World} {K : PySem.W.Frag} {mg : Str → Option Value} {base : Heap} {C : Addr}
theorem cal_l_turned (T : Txt K mg C) : Cal P w K mg base "_law_turned" 2 (spTurned K) := by
  refine T.d_l_turned.cal (ps := ["_law_rules_here", "_law_deed_here", "_law_letter"]) (fun f fd D => ?_) (fun _ _ _ _ _ _ us hl => match us, hl with | [_, _, _], _ => rfl)
  refine D.ok sc_l_turned (fun vs H Q E h => ?_) (fun cdv A outer s H vs Q E hr h => ?_)
  · obtain ⟨_, _, _, _, _, _, rfl, _⟩ := h
    rfl
  · obtain ⟨rv, sv, n, l, bs, F, rfl, ⟨rd, kvs, rfl, hrd, hrv⟩, ⟨a, xs, rfl, ha, hx⟩, va, ln, hb, k⟩ := h
    have hxl : xs.length = n := by rw [hx.len, frL_len]
    have n4 := va.hi
    obtain ⟨rl, erl, trl⟩ := hx.at_ (frL_get ln)
    obtain ⟨rb, rs, rfl, hrb, trs⟩ := trl
    have hrl : rs.length = n := by rw [trs.len, stL_len]
    have atr : atI xs ((l : Nat) : Int) = some (.ref rb) := at_of (j := l) (by omega) erl
    refine ⟨_, (pss_cons (ps_set (i := 3) sc_l_turned.nd rfl (Or.inl rfl) (pe_lst pa_nil))
      (pss_cons (ps_for PassesOwn.never rfl (pi_enumT (by rfl) T.b_enumerate (pa_cons (pv 1) pa_nil)) (pg_tup (by rfl) (pgs_cons (pg_name (i := 4) sc_l_turned.nd rfl (Or.inl rfl)) (pgs_cons (pg_name (i := 5) sc_l_turned.nd rfl (Or.inl rfl)) pgs_nil))) (pss_one (ps_if (pt_cmpR op_eq (pv 4) (pv 2) (nomark _)) (pss_one (ps_expr (pe_bm PySem.F.plainAttrs_list PySem.F.slot_list_append PySem.F.type_list_append mt_append (pv 3) (pa_cons (pe_callTy call_tuple_of (by rfl) T.b_tuple (by decide +kernel) (pa_cons (pe_lc (own := [("_law_a", 6), ("_law_b", 7)]) (g := gTup K 2 (gCons (gName 6) (gCons (gName 7) (gNil)))) (tt := tYes) rfl sc_l_turned.nd (pi_tup (pv 5)) (blkOk_by (own := [("_law_a", 6), ("_law_b", 7)]) (N := ["_law_rules_here", "_law_deed_here", "_law_letter", "_law_found", "_law_j", "_law_root", "_law_a", "_law_b", "_law_c", "_law_d", "_law_pairs", "_law_e", "_law_f"]) (sc := defScope s_l_turned) (by decide +kernel)) (fun _ _ _ _ _ => (pg_tup (by rfl) (pgs_cons (pg_name (i := 6) sc_l_turned.nd rfl (Or.inl rfl)) (pgs_cons (pg_name (i := 7) sc_l_turned.nd rfl (Or.inl rfl)) pgs_nil)))) (fun _ _ _ _ _ => pts_nil) (fun _ _ _ _ _ => (pe_tup (pa_cons (pe_op op_sub pe_int (pv 6)) (pa_cons (pe_op op_sub pe_int (pv 7)) pa_nil))))) pa_nil)) pa_nil)))) (pss_cons (ps_asg (pe_dget (hu_of hr) (pv 0) (pe_tup (pa_cons (pv 2) (pa_cons (pv 4) pa_nil))) (fun _ _ => rfl)) (pg_tup (by rfl) (pgs_cons (pg_name (i := 8) sc_l_turned.nd rfl (Or.inr rfl)) (pgs_cons (pg_name (i := 9) sc_l_turned.nd rfl (Or.inr rfl)) pgs_nil))))
      (pss_cons (ps_set (i := 10) sc_l_turned.nd rfl (Or.inl rfl) (pe_listZip rfl (by rfl) T.b_list (by rfl) T.b_zip (pa_cons (pv 5) (pa_cons (pe_ix ix_tup (pv 1) (pv 2) (fun _ _ => rfl)) pa_nil))))
      (pss_one (ps_expr (pe_bm PySem.F.plainAttrs_list PySem.F.slot_list_append PySem.F.type_list_append mt_append (pv 3) (pa_cons (pe_callTy call_tuple_of (by rfl) T.b_tuple (by decide +kernel) (pa_cons (pe_lc (own := [("_law_a", 6), ("_law_b", 7), ("_law_e", 11), ("_law_f", 12)]) (g := gTup K 2 (gCons (gTup K 2 (gCons (gName 6) (gCons (gName 7) (gNil)))) (gCons (gTup K 2 (gCons (gName 11) (gCons (gName 12) (gNil)))) (gNil)))) (tt := tYes) rfl sc_l_turned.nd (pi_list (pv 10)) (blkOk_by (own := [("_law_a", 6), ("_law_b", 7), ("_law_e", 11), ("_law_f", 12)]) (N := ["_law_rules_here", "_law_deed_here", "_law_letter", "_law_found", "_law_j", "_law_root", "_law_a", "_law_b", "_law_c", "_law_d", "_law_pairs", "_law_e", "_law_f"]) (sc := defScope s_l_turned) (by decide +kernel)) (fun _ _ _ _ _ => (pg_tup (by rfl) (pgs_cons (pg_tup (by rfl) (pgs_cons (pg_name (i := 6) sc_l_turned.nd rfl (Or.inl rfl)) (pgs_cons (pg_name (i := 7) sc_l_turned.nd rfl (Or.inl rfl)) pgs_nil))) (pgs_cons (pg_tup (by rfl) (pgs_cons (pg_name (i := 11) sc_l_turned.nd rfl (Or.inl rfl)) (pgs_cons (pg_name (i := 12) sc_l_turned.nd rfl (Or.inl rfl)) pgs_nil))) pgs_nil)))) (fun _ _ _ _ _ => pts_nil) (fun _ _ _ _ _ => (pe_tup (pa_cons (pe_op op_add (pe_op op_add (pv 6) (pe_op op_mulW (pv 8) (pv 11))) (pe_op op_mulW (pv 9) (pv 12))) (pa_cons (pe_op op_add (pe_op op_add (pe_op op_add (pv 7) (pe_op op_mulW (pv 8) (pv 12))) (pe_op op_mulW (pv 9) (pv 11))) (pe_op op_mulW (pv 9) (pv 12))) pa_nil))))) pa_nil)) pa_nil)))))))))
      (pss_one (ps_ret (pe_callTy call_tuple_of (by rfl) T.b_tuple (by decide +kernel) (pa_cons (pv 3) pa_nil)))))), ?_⟩
    refine ⟨Nat.zero_le _, fun D nD => ?_⟩
    have sD := same_new (o := .lst []) nD
    refine ⟨_, rfl, a, _, rfl, sqT_same sD ha, for_it (walk_enumT (K := K) (a := a) (xs := xs)) (fun i σ H' => (∃ v4 v5 v6 v7 v8 v9 v10 v11 v12 : Option V, σ = [some (.ref rd), some (.ref a), some (.int (l : Nat)), some (.ref D), v4, v5, v6, v7, v8, v9, v10, v11, v12]) ∧ Same H H' ∧ ∃ ys, H' D = some (.lst ys) ∧ A2 (BsAt K H') ys ((frL n (ahF bs l F)).take i)) ⟨⟨none, none, none, none, none, none, none, none, none, rfl⟩, sD, [], upd_same, trivial⟩ (fun i σ H' _ h => sqT_same h.2.1 ha) ?_ ?_⟩
    · rintro i y σ H2 H3 hi ⟨⟨v4, v5, v6, v7, v8, v9, v10, v11, v12, rfl⟩, s2, ys, hD, hy⟩ ⟨q, y1, y2, rfl, nq, rfl, e1, e2⟩
      obtain rfl : y1 = .int (i : Nat) := (Option.some.inj e1).symm
      have il : i < n := by omega
      have yl := hy.len
      rw [List.length_take, frL_len] at yl
      have s3 := s2.trans (same_new (o := .tup [.int (i : Nat), y2]) nq)
      have hD3 := same_new (o := .tup [.int (i : Nat), y2]) nq _ _ hD
      have hy3 := hy.imp fun _ _ (z : BsAt K H2 _ _) => z.same (same_new (o := .tup [.int (i : Nat), y2]) nq)
      obtain ⟨r, er, tr⟩ := hx.get e2
      rw [frL_get il] at er
      cases er
      obtain ⟨b, us, rfl, hub, tub⟩ := tr
      have hul : us.length = n := by rw [tub.len, stL_len]
      refine ⟨_, _, rfl, .of upd_same, rfl, _, _, rfl, _, _, rfl, rfl, ?_⟩
      refine ⟨_, rfl, _, rfl, rfl, _, rfl, ite2 (fun c => ?_) (fun c => ?_)⟩
      · have c := vi_eq c
        obtain rfl : i = l := by omega
        refine ⟨_, rfl, .inl ⟨rfl, _, .of hD3⟩, ?_⟩
        generalize hH3 : upd H2 q (.tup [.int (i : Nat), .ref b]) = H3 at *
        refine ⟨_, rfl, b, rfl, ⟨_, sqT_same s3 hub⟩, fun D2 nD2 => lc_tup (K := K) (a := b) (xs := us) (fun j H' => Same H3 H' ∧ ∃ zs, H' D2 = some (.lst zs) ∧ A2 (TI K H') zs ((stL n (ahF bs i F i)).take j)) ⟨same_new nD2, [], upd_same, trivial⟩ (fun i H' _ h => sqT_same (s3.trans h.1) hub) ?_ ?_⟩
        · rintro j x H4 hj ⟨s4, zs, hz, tz⟩
          have jl : j < n := by
            have := (List.getElem?_eq_some_iff.mp hj).1
            omega
          have zl := tz.len
          rw [List.length_take, stL_len] at zl
          obtain ⟨u, eu, tu⟩ := (A2.of_tis tub).get hj
          rw [stL_get jl] at eu
          cases eu
          obtain ⟨c1, rfl, hc1⟩ := tu.same (s3.trans s4)
          rcases hxi : F i j with ⟨w1, p1⟩
          rw [hxi] at hc1
          refine ⟨_, _, rfl, hc1, rfl, _, _, rfl, _, _, rfl, rfl, rfl, ?_⟩
          refine ⟨_, rfl, _, _, rfl, rfl, _, rfl, _, _, rfl, rfl, show 2 ≤ sizeLine by decide, fun q2 nq2 => ?_⟩
          have sq := same_new (o := .tup [.int (0 - w1), .int (0 - p1)]) nq2
          have hz5 := sq _ _ hz
          have tq : TI K (upd H4 q2 (.tup [.int (0 - w1), .int (0 - p1)])) (.ref q2) (pr2 (ahF bs i F i j)) := by
            have e : pr2 (ahF bs i F i j) = [0 - w1, 0 - p1] := by
              unfold ahF
              rw [if_pos rfl]
              show pr2 (Rt.cm (-1, 0) (F i j)) = _
              rw [Rt.cm_m1, hxi]
              show [-w1, -p1] = _
              rw [Int.zero_sub, Int.zero_sub]
            rw [e]
            exact ⟨q2, rfl, .of upd_same⟩
          refine ⟨_, hz5, small1000 (by omega), same_off nD2 (s4.trans sq) off_upd, _, upd_same, ?_⟩
          rw [take_snoc (stL_get jl)]
          exact ((tz.imp fun _ _ (z : TI K H4 _ _) => z.same sq).snoc tq).imp fun _ _ z => off_upd.ti hz5 z
        · rintro H4 ⟨s4, zs, hz, tz⟩
          rw [hul, List.take_of_length_le (by rw [stL_len]; exact Nat.le_refl _)] at tz
          refine ⟨D2, _, rfl, .inl ⟨.of hz, fun q3 nq3 => ?_⟩⟩
          have sq := same_new (o := .tup zs) nq3
          have hD5 := sq _ _ (s4 _ _ hD3)
          have P := push_row (G := ahF bs i F) nD ((s3.trans s4).trans sq) hD5 (hy3.imp fun _ _ z => (z.same s4).same sq) (v := .ref q3) ⟨q3, zs, rfl, .of upd_same, A2.tis (tz.imp fun _ _ z => z.same sq)⟩ il
          refine ⟨D, _, _, rfl, rfl, hD5, small1000 (by omega), ⟨_, _, _, _, _, _, _, _, _, rfl⟩, P.1, P.2⟩
      · have c : i ≠ l := fun z => c (vi_of (by rw [z]))
        generalize hH3 : upd H2 q (.tup [.int (i : Nat), .ref b]) = H3 at *
        obtain ⟨gv, egv, tgv⟩ := hrv l i ln il (Ne.symm c)
        refine ⟨_, rfl, _, rfl, _, rfl, show 2 ≤ sizeLine by decide, fun t nt => ?_⟩
        have st := same_new (o := .tup [.int (l : Nat), .int (i : Nat)]) nt
        have dg := DGet.t (k := [.inl (l : Int), .inl (i : Int)]) (st _ _ (s3 _ _ hrd)) (upd_same (H := H3) (a := t) (o := .tup [.int (l : Nat), .int (i : Nat)]))
        rw [egv] at dg
        have s4 := s3.trans st
        have hD4 := st _ _ hD3
        have hy4 := hy3.imp fun _ _ (z : BsAt K H3 _ _) => z.same st
        refine ⟨rd, gv, rfl, dg, ?_⟩
        obtain ⟨ga, rfl, hga⟩ := tgv.same s4
        generalize upd H3 t (.tup [.int (l : Nat), .int (i : Nat)]) = H4 at *
        rcases hcb : cB bs l i with ⟨c1, d1⟩
        have cb := c_B va l i
        rw [hcb] at hga cb
        refine ⟨_, _, rfl, hga, rfl, _, _, rfl, _, _, rfl, rfl, ?_⟩
        refine ⟨_, rfl, _, rfl, _, rfl, _, _, _, _, rfl, rfl, sqT_same s4 ha, atr, b, rb, _, _, rfl, sqT_same s4 hub, sqT_same s4 hrb, fun Dp ts H5 s5 nDp hDp tl pin => ?_⟩
        have tl2 : ts.length = n := by omega
        have s45 := s4.trans s5
        have hD5 := s5 _ _ hD4
        have hy5 := hy4.imp fun _ _ (z : BsAt K H4 _ _) => z.same s5
        refine ⟨_, rfl, .inl ⟨rfl, _, .of hD5⟩, ?_⟩
        refine ⟨_, rfl, Dp, rfl, ⟨_, .of hDp⟩, fun D2 nD2 => lc_it (walk_list (K := K) (a := Dp) (xs := ts.map V.ref)) (fun j H' => Same H5 H' ∧ ∃ zs, H' D2 = some (.lst zs) ∧ A2 (TI K H') zs ((stL n (ahF bs l F i)).take j)) ⟨same_new nD2, [], upd_same, trivial⟩ (fun i H' _ h => .of (h.1 _ _ hDp)) ?_ ?_⟩
        · rintro j x H6' H6 hj ⟨s6, zs, hz, tz⟩ ⟨e6, hxj⟩
          subst e6
          rw [List.length_map, tl2] at hj
          rw [List.getElem?_map] at hxj
          cases et : ts[j]? with
          | none => rw [et] at hxj; cases hxj
          | some tj =>
            rw [et] at hxj
            obtain rfl := (Option.some.inj hxj).symm
            obtain ⟨y3, y4, e3, e4, ht⟩ := pin j tj et
            have zl := tz.len
            rw [List.length_take, stL_len] at zl
            have s46 := s45.trans s6
            obtain ⟨u, eu, tu⟩ := (A2.of_tis tub).get e3
            rw [stL_get hj] at eu
            cases eu
            obtain ⟨v, ev, tv⟩ := (A2.of_tis trs).get e4
            rw [stL_get hj] at ev
            cases ev
            obtain ⟨ua, rfl, hua⟩ := tu.same s46
            obtain ⟨vb, rfl, hvb⟩ := tv.same s46
            have bu := hb i il j hj
            have bv := hb l ln j hj
            rcases hf1 : F i j with ⟨a1, b1⟩
            rcases hf2 : F l j with ⟨e1', f1⟩
            rw [hf1] at hua bu
            rw [hf2] at hvb bv
            refine ⟨_, _, rfl, .of (s6 _ _ ht), rfl, _, _, rfl, ?_⟩
            refine ⟨_, _, rfl, hua, rfl, _, _, rfl, _, _, rfl, rfl, ?_⟩
            refine ⟨_, _, rfl, _, _, rfl, hvb, rfl, _, _, rfl, _, _, rfl, rfl, rfl, rfl, ?_⟩
            refine ⟨_, rfl, _, rfl, _, rfl, _, _, rfl, rfl, cb.1.ok bv.1, _, _, rfl, rfl, _, rfl, _, rfl, _, _, rfl, rfl, cb.2.ok bv.2, _, _, rfl, rfl, ?_⟩
            refine ⟨_, rfl, _, rfl, _, rfl, _, _, rfl, rfl, cb.1.ok bv.2, _, _, rfl, rfl, _, rfl, _, rfl, _, _, rfl, rfl, cb.2.ok bv.1, _, _, rfl, rfl, _, rfl, _, rfl, _, _, rfl, rfl, cb.2.ok bv.2, _, _, rfl, rfl, show 2 ≤ sizeLine by decide, fun q2 nq2 => ?_⟩
            have sq := same_new (o := .tup [.int (a1 + c1 * e1' + d1 * f1), .int (b1 + c1 * f1 + d1 * e1' + d1 * f1)]) nq2
            have hz5 := sq _ _ hz
            have tq : TI K (upd H6 q2 (.tup [.int (a1 + c1 * e1' + d1 * f1), .int (b1 + c1 * f1 + d1 * e1' + d1 * f1)])) (.ref q2) (pr2 (ahF bs l F i j)) := by
              have e : pr2 (ahF bs l F i j) = [a1 + c1 * e1' + d1 * f1, b1 + c1 * f1 + d1 * e1' + d1 * f1] := by
                unfold ahF
                rw [if_neg c]
                show pr2 (Rt.ad (F i j) (Rt.cm (cB bs l i) (F l j))) = _
                rw [hf1, hf2, hcb]
                show [a1 + (c1 * e1' + d1 * f1), b1 + (c1 * f1 + d1 * e1' + d1 * f1)] = _
                simp only [Int.add_assoc]
              rw [e]
              exact ⟨q2, rfl, .of upd_same⟩
            refine ⟨_, hz5, small1000 (by omega), same_off nD2 (s6.trans sq) off_upd, _, upd_same, ?_⟩
            rw [take_snoc (stL_get hj)]
            exact ((tz.imp fun _ _ (z : TI K H6 _ _) => z.same sq).snoc tq).imp fun _ _ z => off_upd.ti hz5 z
        · rintro H6 ⟨s6, zs, hz, tz⟩
          rw [List.length_map, tl2, List.take_of_length_le (by rw [stL_len]; exact Nat.le_refl _)] at tz
          refine ⟨D2, _, rfl, .inl ⟨.of hz, fun q3 nq3 => ?_⟩⟩
          have sq := same_new (o := .tup zs) nq3
          have hD6 := sq _ _ (s6 _ _ hD5)
          have P := push_row (G := ahF bs l F) nD ((s45.trans s6).trans sq) hD6 (hy5.imp fun _ _ z => (z.same s6).same sq) (v := .ref q3) ⟨q3, zs, rfl, .of upd_same, A2.tis (tz.imp fun _ _ z => z.same sq)⟩ il
          exact ⟨D, _, _, rfl, rfl, hD6, small1000 (by omega), ⟨_, _, _, _, _, _, _, _, _, rfl⟩, P.1, P.2⟩
    · rintro σ H2 ⟨⟨v4, v5, v6, v7, v8, v9, v10, v11, v12, rfl⟩, s2, ys, hD, hy⟩
      rw [hxl, List.take_of_length_le (by rw [frL_len]; exact Nat.le_refl _)] at hy
      refine ⟨_, rfl, D, _, rfl, .inl ⟨.of hD, fun q3 nq3 => ?_⟩⟩
      exact k _ _ (s2.trans (same_new nq3)) ⟨q3, ys, rfl, .of upd_same, hy.imp fun _ _ z => z.same (same_new nq3)⟩
end
end Sk

namespace Sk
open PySem L2 Ow
def spDeed (K : PySem.W.Frag) : Sp := fun vs H Q _ => ∃ (rv wv : V) (n : Nat) (bs : List (List Int)) (w : List Nat), vs = [.int n, rv, wv] ∧ RAt K H rv bs n ∧ TI K H wv (castW w) ∧ Valid n bs ∧ Rt.In n w ∧ w.length ≤ 100 ∧ ∀ v H', Same H H' → LkAt K H' v (frL n (Rt.fr (cB bs) n w.reverse)) → Q v H'
def spLNormal (K : PySem.W.Frag) : Sp := fun vs H Q _ => ∃ (rv wv : V) (n : Nat) (bs : List (List Int)) (w us : List Nat), vs = [.int n, rv, wv] ∧ RAt K H rv bs n ∧ TI K H wv (castW w) ∧ Valid n bs ∧ Rt.In n w ∧ Rt.Nf n (mB bs) w us ∧ w.length ≤ 50 ∧ ∀ v H', Same H H' → TI K H' v (castW us) → Q v H'
def spLIsUnder (K : PySem.W.Frag) : Sp := fun vs H Q _ => ∃ (rv ov wv : V) (n : Nat) (bs : List (List Int)) (u w : List Nat), vs = [.int n, rv, ov, wv] ∧ RAt K H rv bs n ∧ TI K H ov (castW u) ∧ TI K H wv (castW w) ∧ Valid n bs ∧ Rt.In n u ∧ NW n bs w ∧ u.length ≤ 50 ∧ w.length ≤ 50 ∧ ∀ b H', Same H H' → (b = true ↔ Und n bs u w) → Q (.bl b) H'
abbrev scDd : Scope := { kind := ScopeKind.function, names := [(".0", NameKind.local), ("_law_j", NameKind.cell), ("tuple", NameKind.globalImplicit), ("range", NameKind.globalImplicit), ("_law_letters", NameKind.cell)], isGenerator := false, isCoroutine := false }
section
variable {P : Program} {w : World} {K : PySem.W.Frag} {mg : Str → Option Value} {base : Heap} {C : Addr}
theorem cal_l_deed (T : Txt K mg C) : Cal P w K mg base "_law_deed" 3 (spDeed K) := by
  refine T.d_l_deed.cal (ps := ["_law_letters", "_law_rules_here", "_law_word"]) (fun f fd D => ?_) (fun _ _ _ _ _ _ us hl => match us, hl with | [_, _, _], _ => rfl)
  refine D.ok sc_l_deed (fun vs H Q E h => ?_) (fun cdv A outer s H vs Q E hr h => ?_)
  · obtain ⟨_, _, _, _, _, rfl, _⟩ := h
    rfl
  · obtain ⟨rv, wv, n, bs, w, rfl, hrv, ⟨a, rfl, ha⟩, va, hw, wl, k⟩ := h
    have n4 := va.hi
    have ll : ((castW w).map V.int).length = w.length := by rw [List.length_map, cast_len']
    refine ⟨_, (pss_cons (ps_set (i := 3) sc_l_deed.nd rfl (Or.inl rfl) (pe_callTy call_tuple_of (by rfl) T.b_tuple (by decide +kernel) (pa_cons (pe_lc (own := [("_law_j", 5)]) (g := gName 5) (tt := tYes) rfl sc_l_deed.nd (pi_range1 (by rfl) T.b_range (pa_cons (pv 0) pa_nil)) (blkOk_by (own := [("_law_j", 5)]) (N := ["_law_letters", "_law_rules_here", "_law_word", "_law_found", "_law_i", "_law_j", "_law_letter"]) (sc := defScope s_l_deed) (by decide +kernel)) (fun _ _ _ _ _ => (pg_name (i := 5) sc_l_deed.nd rfl (Or.inr rfl))) (fun _ _ _ _ _ => pts_nil) (fun _ _ _ _ _ => (pe_callTy (show CallR _ (.type "tuple") (rTupQ K) from call_tuple_of) (by rfl) T.b_tuple (by decide +kernel) (pa_cons (pe_lc (own := [("_law_i", 4)]) (g := gName 4) (tt := tYes) rfl sc_l_deed.nd (pi_range1 (by rfl) T.b_range (pa_cons (pv 0) pa_nil)) (blkOk_by (own := [("_law_i", 4)]) (N := ["_law_letters", "_law_rules_here", "_law_word", "_law_found", "_law_i", "_law_j", "_law_letter"]) (sc := scDd) (by decide +kernel)) (fun _ _ _ _ _ => (pg_name (i := 4) sc_l_deed.nd rfl (Or.inl rfl))) (fun _ _ _ _ _ => pts_nil) (fun _ _ _ _ _ => (pe_tup (pa_cons (pe_callTy call_int1 (by rfl) T.b_int (by decide +kernel) (pa_cons (pe_cmpR op_eq (pv 4) (pv 5) (nomark _)) pa_nil)) (pa_cons pe_int pa_nil))))) pa_nil)))) pa_nil)))
      (pss_cons (ps_for PassesOwn.never rfl (pi_tup (pv 2)) (pg_name (i := 6) sc_l_deed.nd rfl (Or.inl rfl)) (pss_one (ps_set (i := 3) sc_l_deed.nd rfl (Or.inl rfl) (pe_cal (cal_l_turned T) (hr.mono (by decide)) (by rfl) (pa_cons (pv 1) (pa_cons (pv 3) (pa_cons (pv 6) pa_nil)))))))
      (pss_one (ps_ret (pv 3))))), ?_⟩
    refine ⟨_, rfl, _, rfl, by omega, by omega, fun D nD => lc_range (lo := 0) (n := n) (fun i H' => Same H H' ∧ ∃ ys, H' D = some (.lst ys) ∧ A2 (BsAt K H') ys ((frL n Rt.al).take i)) ⟨same_new nD, [], upd_same, trivial⟩ ?_ ?_⟩
    · rintro i H2 hi ⟨s2, ys, hD, hy⟩
      have yl := hy.len
      rw [List.length_take, frL_len] at yl
      refine ⟨rfl, _, rfl, _, rfl, by omega, by omega, fun D2 nD2 => lc_range (lo := 0) (n := n) (fun j H' => Same H2 H' ∧ ∃ zs, H' D2 = some (.lst zs) ∧ A2 (TI K H') zs ((stL n (Rt.al i)).take j)) ⟨same_new nD2, [], upd_same, trivial⟩ ?_ ?_⟩
      · rintro j H3 hj ⟨s3, zs, hD3, hz⟩
        have zl := hz.len
        rw [List.length_take, stL_len] at zl
        refine ⟨rfl, _, rfl, _, rfl, rfl, ?_⟩
        refine .inr ⟨_, rfl, show 2 ≤ sizeLine by decide, fun q nq => ?_⟩
        have sq := same_new (o := .tup [.int (if decide (V.int (0 + (j : Int)) = V.int (0 + (i : Int))) = true then (1 : Int) else 0), .int 0]) nq
        have hD4 := sq _ _ hD3
        have tq : TI K (upd H3 q (.tup [.int (if decide (V.int (0 + (j : Int)) = V.int (0 + (i : Int))) = true then (1 : Int) else 0), .int 0])) (.ref q) (pr2 (Rt.al i j)) := by
          have e : pr2 (Rt.al i j) = [if decide (V.int (0 + (j : Int)) = V.int (0 + (i : Int))) = true then (1 : Int) else 0, 0] := by
            unfold Rt.al
            by_cases h : j = i
            · subst h
              rw [if_pos rfl, if_pos (by rw [decide_eq_true_iff])]
              rfl
            · rw [if_neg h, if_neg (fun z => h (by have := vi_eq z; omega))]
              rfl
          rw [e]
          exact ⟨q, rfl, .of upd_same⟩
        refine ⟨_, hD4, small1000 (by omega), same_off nD2 (s3.trans sq) off_upd, _, upd_same, ?_⟩
        rw [take_snoc (stL_get hj)]
        exact ((hz.imp fun _ _ (z : TI K H3 _ _) => z.same sq).snoc tq).imp fun _ _ z => off_upd.ti hD4 z
      · rintro H3 ⟨s3, zs, hD3, hz⟩
        rw [List.take_of_length_le (by rw [stL_len]; exact Nat.le_refl _)] at hz
        have hD4 := s3 _ _ hD
        refine ⟨D2, _, rfl, .inl ⟨.of hD3, fun q nq => ?_⟩⟩
        have sq := same_new (o := .tup zs) nq
        have tq : BsAt K (upd H3 q (.tup zs)) (.ref q) (stL n (Rt.al i)) := ⟨q, zs, rfl, .of upd_same, A2.tis (hz.imp fun _ _ z => z.same sq)⟩
        have hD5 := sq _ _ hD4
        refine ⟨_, hD5, small1000 (by omega), same_off nD ((s2.trans s3).trans sq) off_upd, _, upd_same, ?_⟩
        rw [take_snoc (frL_get hi)]
        exact ((hy.imp fun _ _ z => (z.same s3).same sq).snoc tq).imp fun _ _ z => off_upd.bs hD5 z
    · rintro H2 ⟨s2, ys, hD, hy⟩
      rw [List.take_of_length_le (by rw [frL_len]; exact Nat.le_refl _)] at hy
      refine ⟨D, _, rfl, .inl ⟨.of hD, fun q nq => ?_⟩⟩
      have sq := same_new (o := .tup ys) nq
      have s0 := s2.trans sq
      have t0 : LkAt K (upd H2 q (.tup ys)) (.ref q) (frL n Rt.al) := ⟨q, ys, rfl, .of upd_same, hy.imp fun _ _ z => z.same sq⟩
      generalize upd H2 q (.tup ys) = H3 at *
      refine ⟨_, rfl, a, rfl, ⟨_, sqT_same s0 ha⟩, for_tup (K := K) (a := a) (xs := (castW w).map V.int) (fun i σ H' => ∃ (sv : V) (v4 v5 v6 : Option V), σ = [some (.int n), some rv, some (.ref a), some sv, v4, v5, v6] ∧ Same H H' ∧ LkAt K H' sv (frL n (Rt.fr (cB bs) n (w.take i).reverse))) ⟨.ref q, _, _, _, rfl, s0, t0⟩ (fun i σ H' _ h => by obtain ⟨_, _, _, _, _, s, _⟩ := h; exact sqT_same s ha) ?_ ?_⟩
      · rintro i x σ H4 hi ⟨sv, v4, v5, v6, rfl, s4, t4⟩
        obtain ⟨c, ec, rfl⟩ := castW_get hi
        have il := (List.getElem?_eq_some_iff.mp ec).1
        have hin : Rt.In n (w.take i).reverse := fun z hz => hw z (List.mem_of_mem_take (List.mem_reverse.mp hz))
        have cn := hw c (List.mem_of_getElem? ec)
        refine ⟨_, rfl, _, rfl, _, rfl, rv, sv, n, c, bs, _, rfl, hrv.same s4, t4, va, cn, fr_sml va hin (by rw [List.length_reverse, List.length_take]; omega), fun v5 H5 s5 t5 => ?_⟩
        refine ⟨v5, _, _, _, rfl, s4.trans s5, ?_⟩
        rw [ah_fr va cn] at t5
        rw [take_snoc ec, List.reverse_append]
        exact t5
      · rintro σ H4 ⟨sv, v4, v5, v6, rfl, s4, t4⟩
        rw [ll, ← cast_len' w, cast_len', List.take_length] at t4
        exact ⟨_, rfl, k _ _ s4 t4⟩
theorem cal_l_normal (T : Txt K mg C) : Cal P w K mg base "_law_normal" 4 (spLNormal K) := by
  refine T.d_l_normal.cal (ps := ["_law_letters", "_law_rules_here", "_law_word"]) (fun f fd D => ?_) (fun _ _ _ _ _ _ us hl => match us, hl with | [_, _, _], _ => rfl)
  refine D.ok sc_l_normal (fun vs H Q E h => ?_) (fun cdv A outer s H vs Q E hr h => ?_)
  · obtain ⟨_, _, _, _, _, _, rfl, _⟩ := h
    rfl
  · obtain ⟨rv, wv, n, bs, w, ws, rfl, hrv, ⟨a, rfl, ha⟩, va, hw, hnf, wl, k⟩ := h
    have n4 := va.hi
    obtain ⟨cg, wsl⟩ := hnf.cg hw
    have wle : ws.length ≤ w.length := by rw [wsl]; exact Rt.len_self w
    have ll : ((castW w).map V.int).length = w.length := by rw [List.length_map, cast_len']
    refine ⟨_, (pss_cons (ps_asg (pe_tup (pa_cons (pe_cal (cal_l_deed T) (hr.mono (by decide)) (by rfl) (pa_cons (pv 0) (pa_cons (pv 1) (pa_cons (pe_revT (pv 2)) pa_nil)))) (pa_cons (pe_lst pa_nil) pa_nil))) (pg_tup (by rfl) (pgs_cons (pg_name (i := 3) sc_l_normal.nd rfl (Or.inr rfl)) (pgs_cons (pg_name (i := 4) sc_l_normal.nd rfl (Or.inl rfl)) pgs_nil))))
      (pss_cons (ps_for PassesOwn.never rfl (pi_range1 (by rfl) T.b_range (pa_cons (pe_callB call_len_seq (by rfl) T.b_len (by decide +kernel) (pa_cons (pv 2) pa_nil)) pa_nil)) (pg_name (i := 5) sc_l_normal.nd rfl (Or.inl rfl)) (pss_cons (ps_setLc (i := 6) (own := [("_law_letter", 7)]) (g := gName 7) rfl sc_l_normal.nd rfl rfl (sw_true rfl rfl rfl (by decide +kernel)) (pi_range1 (by rfl) T.b_range (pa_cons (pv 0) pa_nil)) (blkOk_by (own := [("_law_letter", 7)]) (N := ["_law_letters", "_law_rules_here", "_law_word", "_law_deed_here", "_law_found", "_law_turn", "_law_left", "_law_letter"]) (sc := defScope s_l_normal) (by decide +kernel)) (fun _ _ _ _ _ => (pg_name (i := 7) sc_l_normal.nd rfl (Or.inl rfl))) (fun _ _ _ _ _ => (pts_one (pt_val (pe_cal (cal_l_is_below T) (hr.mono (by decide)) (by rfl) (pa_cons (pe_ix (show IxR _ (rIxT K) from ix_tup) (pv 3) (pv 7) (fun _ _ => rfl)) pa_nil))))) (fun _ _ _ _ _ => (pv 7)))
      (pss_cons (ps_if (pt_cmpR (op_eqD hr.units) (pv 6) (pe_lst pa_nil) (nomark _)) (pss_one ps_break) pss_nil)
      (pss_cons (ps_expr (pe_bm PySem.F.plainAttrs_list PySem.F.slot_list_append PySem.F.type_list_append mt_append (pv 4) (pa_cons (pe_ix ix_list (pv 6) pe_int (fun _ _ => rfl)) pa_nil)))
      (pss_one (ps_set (i := 3) sc_l_normal.nd rfl (Or.inr rfl) (pe_cal (cal_l_turned T) (hr.mono (by decide)) (by rfl) (pa_cons (pv 1) (pa_cons (pv 3) (pa_cons (pe_ix ix_list (pv 6) pe_int (fun _ _ => rfl)) pa_nil))))))))))
      (pss_one (ps_ret (pe_callTy call_tuple_of (by rfl) T.b_tuple (by decide +kernel) (pa_cons (pv 4) pa_nil)))))), ?_⟩
    refine ⟨_, rfl, _, rfl, _, rfl, a, _, rfl, ha, fun r nr => ?_⟩
    have sr := same_new (o := .tup ((castW w).map V.int).reverse) nr
    have er : ((castW w).map V.int).reverse = (castW w.reverse).map V.int := by rw [castW_rev, List.map_reverse]
    refine ⟨rv, .ref r, n, bs, w.reverse, rfl, hrv.same sr, ⟨r, rfl, by rw [← er]; exact .of upd_same⟩, va, hw.rev, by rw [List.length_reverse]; omega, fun v0 H0 s0 t0 => ?_⟩
    rw [List.reverse_reverse] at t0
    refine ⟨Nat.zero_le _, fun g ng => ⟨show 2 ≤ sizeLine by decide, fun t nt => ?_⟩⟩
    have sg := same_new (o := .lst []) ng
    have st := same_new (o := .tup [v0, .ref g]) nt
    have S0 := ((sr.trans s0).trans sg).trans st
    have ngH : H g = none := (sr.trans s0).free ng
    have hg0 : (upd (upd H0 g (.lst [])) t (.tup [v0, .ref g])) g = some (.lst []) := st _ _ upd_same
    have ht0 : (upd (upd H0 g (.lst [])) t (.tup [v0, .ref g])) t = some (.tup [v0, .ref g]) := upd_same
    have t1 := (t0.same sg).same st
    generalize upd (upd H0 g (.lst [])) t (.tup [v0, .ref g]) = H1 at *
    refine ⟨t, _, rfl, .of ht0, rfl, _, _, rfl, _, _, rfl, rfl, ?_⟩
    refine ⟨_, rfl, a, _, rfl, .inr (sqT_same S0 ha), _, rfl, by omega, by omega, for_range (lo := 0) (n := ((castW w).map V.int).length) (fun i σ H' => ∃ (sv : V) (v5 v6 v7 : Option V) (u us rs : List Nat), σ = [some (.int n), some rv, some (.ref a), some sv, some (.ref g), v5, v6, v7] ∧ Same H H' ∧ LkAt K H' sv (frL n (Rt.fr (cB bs) n u)) ∧ Rt.In n u ∧ u.length = w.length + i ∧ Rt.Nf n (mB bs) u rs ∧ us ++ rs = ws ∧ us.length = i ∧ H' g = some (.lst ((castW us).map V.int))) ?_ ?_ ?_⟩
    · exact ⟨v0, _, _, _, w, [], ws, rfl, S0, t1, hw, rfl, hnf, rfl, rfl, hg0⟩
    · rintro i σ H2 hi ⟨sv, v5, v6, v7, u, us, rs, rfl, s2, t2, hu, ul, nf, eu, usl, hg2⟩
      refine ⟨_, rfl, _, rfl, by omega, by omega, fun D nD => lc_range (lo := 0) (n := n) (fun j H' => Same H2 H' ∧ H' D = some (.lst ((castW (((List.range n).take j).filter fun i => lowB n (Rt.fr (cB bs) n u i))).map V.int))) ⟨same_new nD, upd_same⟩ ?_ ?_⟩
      · rintro j H3 hj ⟨s3, hD⟩
        obtain ⟨sa, ss, rfl, hsa, hss⟩ := t2.same s3
        have hsl : ss.length = n := by rw [hss.len, frL_len]
        obtain ⟨r0, er0, tr0⟩ := hss.at_ (frL_get hj)
        have hlen : (castW (((List.range n).take j).filter fun i => lowB n (Rt.fr (cB bs) n u i))).length ≤ 100 := by
          rw [cast_len']
          exact Nat.le_trans (List.length_filter_le _ _) (by rw [List.length_take, List.length_range]; omega)
        refine ⟨rfl, _, rfl, _, rfl, _, _, _, _, rfl, rfl, hsa, at_of (j := j) (by omega) er0, r0, n, _, rfl, tr0, fr_sml va hu (by omega) j hj, _, rfl, ite2 (fun c => ?_) (fun c => ?_)⟩
        · refine ⟨_, rfl, _, hD, small1000 (by rw [List.length_map]; omega), same_off nD s3 off_upd, ?_⟩
          rw [upd_same, take_snoc (List.getElem?_range hj), List.filter_append, List.filter_cons_of_pos (p := fun i => lowB n (Rt.fr (cB bs) n u i)) c, List.filter_nil, castW_app, List.map_append, Int.zero_add]
          rfl
        · refine ⟨s3, ?_⟩
          rw [take_snoc (List.getElem?_range hj), List.filter_append, List.filter_cons_of_neg (p := fun i => lowB n (Rt.fr (cB bs) n u i)) c, List.filter_nil, List.append_nil]
          exact hD
      · rintro H3 ⟨s3, hD⟩
        rw [List.take_of_length_le (by rw [List.length_range]; omega)] at hD
        have s23 := s2.trans s3
        have hg3 := s3 _ _ hg2
        have gD : D ≠ g := (ne_of_none hg2 nD).symm
        refine ⟨_, rfl, Nat.zero_le _, fun e ne => ⟨_, _, .lst (.of (same_new ne _ _ hD)) (dInts _), .lst (.of upd_same) .nil, sh_L _, sh_L [], ?_⟩⟩
        have hq : PyData.eqv (.list ((castW (lefB n (Rt.fr (cB bs) n u))).map PyData.int)) (.list []) = decide (castW (lefB n (Rt.fr (cB bs) n u)) = []) := eqv_L _ []
        rw [show ((List.range n).filter fun i => lowB n (Rt.fr (cB bs) n u i)) = lefB n (Rt.fr (cB bs) n u) from rfl] at hD ⊢
        rw [hq]
        refine ⟨_, rfl, ?_⟩
        have se := same_new (o := .lst []) ne
        have hg4 := se _ _ hg3
        have hD4 := se _ _ hD
        have s24 := s23.trans se
        have t4 := (t2.same s3).same se
        generalize upd H3 e (.lst []) = H4 at *
        cases nf with
        | done hd =>
          rw [lef_done va hu hd]
          rw [List.append_nil] at eu
          subst eu
          refine iteT ⟨_, rfl, g, _, rfl, .inl ⟨.of hg4, fun q nq => ?_⟩⟩
          exact k _ _ (s24.trans (same_new nq)) ⟨q, rfl, .of upd_same⟩
        | @step _ rs l hl hl2 hm nf' =>
          obtain ⟨r9, er9⟩ := lef_step va hu hl hl2 hm
          rw [er9] at hD4 ⊢
          refine iteF ?_
          refine ⟨_, rfl, .inl ⟨rfl, _, .of hg4⟩, ?_⟩
          refine ⟨_, rfl, _, _, _, _, rfl, rfl, .of hD4, at_of (j := 0) rfl rfl, g, _, _, rfl, rfl, hg4, by rw [List.length_map, cast_len']; exact small1000 (by omega), ?_⟩
          have so : Off g H4 (upd H4 g (.lst ((castW us).map V.int ++ [.int (l : Nat)]))) := off_upd
          have sH : Same H (upd H4 g (.lst ((castW us).map V.int ++ [.int (l : Nat)]))) := same_off ngH s24 so
          have t5 : LkAt K (upd H4 g (.lst ((castW us).map V.int ++ [.int (l : Nat)]))) sv (frL n (Rt.fr (cB bs) n u)) := by
            obtain ⟨sa, ss, rfl, hss, tss⟩ := t4
            exact ⟨sa, ss, rfl, so.sqT hg4 hss, tss.imp fun _ _ z => so.bs hg4 z⟩
          have hD5 := so _ _ gD hD4
          refine ⟨_, rfl, _, rfl, _, rfl, _, _, _, _, rfl, rfl, .of hD5, at_of (j := 0) rfl rfl, rv, sv, n, l, bs, _, rfl, hrv.same sH, t5, va, hl, fr_sml va hu (by omega), fun v6 H6 s6 t6 => ?_⟩
          rw [ah_fr va hl] at t6
          refine ⟨v6, _, _, _, l :: u, us ++ [l], rs, rfl, sH.trans s6, t6, hu.cons hl, by rw [List.length_cons]; omega, nf', by simpa using eu, by rw [List.length_append, usl]; rfl, ?_⟩
          have := s6 _ _ (upd_same (H := H4) (a := g) (o := .lst ((castW us).map V.int ++ [.int (l : Nat)])))
          rw [castW_app, List.map_append]
          exact this
    · rintro σ H2 ⟨sv, v5, v6, v7, u, us, rs, rfl, s2, t2, hu, ul, nf, eu, usl, hg2⟩
      have : rs = [] := by
        rw [ll] at usl
        rw [← eu, List.length_append] at wle
        exact List.eq_nil_of_length_eq_zero (by omega)
      subst this
      rw [List.append_nil] at eu
      subst eu
      refine ⟨_, rfl, g, _, rfl, .inl ⟨.of hg2, fun q nq => ?_⟩⟩
      exact k _ _ (s2.trans (same_new nq)) ⟨q, rfl, .of upd_same⟩
end
end Sk

namespace Sk
open PySem L2 Ow
theorem len0_nil {n : Nat} {bs : List (List Int)} {v : List Nat} (h : Rt.len n (mB bs) v = 0) : Rt.Cg n (mB bs) v [] := by
  obtain ⟨r, c, l⟩ := Rt.len_has (n := n) (m := mB bs) v
  rw [h] at l
  rw [List.eq_nil_of_length_eq_zero l] at c
  exact c
theorem lef_nil {n : Nat} {bs : List (List Int)} (va : Valid n bs) {v : List Nat} (hv : Rt.In n v) : lefB n (Rt.fr (cB bs) n v) = [] ↔ Rt.Cg n (mB bs) v [] := by
  constructor
  · intro e
    by_cases h0 : Rt.len n (mB bs) v = 0
    · exact len0_nil h0
    · obtain ⟨s, hs, hl⟩ := Rt.has_left hv (show 0 < Rt.len n (mB bs) v by omega)
      have : s ∈ lefB n (Rt.fr (cB bs) n v) := List.mem_filter.mpr ⟨List.mem_range.mpr hs, (low_fr va hv hs).mpr hl⟩
      rw [e] at this
      cases this
  · intro c
    refine lef_done va hv fun s hs hl => ?_
    rw [Rt.len_congr c, show Rt.len n (mB bs) [] = 0 from Nat.le_zero.mp (Rt.len_self [])] at hl
    omega
theorem und_lef {n : Nat} {bs : List (List Int)} (va : Valid n bs) {u w : List Nat} (hu : Rt.In n u) (hw : NW n bs w) : lefB n (Rt.fr (cB bs) n (Rt.down n (mB bs) u w)) = [] ↔ Und n bs u w := by
  rw [lef_nil va (down_in hw.1 hu), ← Rt.sub_down (sysN va) hw.1 hu]
  exact (Rt.Le.iff (sysN va) hw.1 (Rt.Cg.rfl w) hw.len).symm
section
variable {P : Program} {w : World} {K : PySem.W.Frag} {mg : Str → Option Value} {base : Heap} {C : Addr}
end
end Sk

namespace Sk
open PySem L2 Ow
def spDW (K : PySem.W.Frag) : Sp := fun vs H Q _ => ∃ (p : Addr) (n m : Nat), vs = [.ref p, .int n, .int m] ∧ VatAt H p ∧ 0 < n ∧ n ≤ 4 ∧ m ≤ 30 ∧ ∀ v w H', Off p H H' → VatAt H' p → TI K H' v (castW w) → Rt.In n w → w.length ≤ m → Q v H'
def spOthW (K : PySem.W.Frag) : Sp := fun vs H Q _ => ∃ (p : Addr) (wv : V) (n : Nat) (bs : List (List Int)) (w : List Nat), vs = [.ref p, .int n, wv] ∧ VatAt H p ∧ Valid n bs ∧ TI K H wv (castW w) ∧ Rt.In n w ∧ w.length ≤ 36 ∧ ∀ v x H', Off p H H' → VatAt H' p → TI K H' v (castW x) → Rt.In n x → Rt.Cg n (mB bs) x w → x.length ≤ w.length + 2 → Q v H'
section
variable {P : Program} {w : World} {K : PySem.W.Frag} {mg : Str → Option Value} {base : Heap} {C : Addr}
end
end Sk

namespace Sk
open PySem L2 Ow
open Rt (InJ NoJ)
def spLSplit (K : PySem.W.Frag) : Sp := fun vs H Q _ => ∃ (rv wv jv : V) (n : Nat) (bs : List (List Int)) (w J t : List Nat), vs = [.int n, rv, wv, jv] ∧ RAt K H rv bs n ∧ TI K H wv (castW w) ∧ Valid n bs ∧ Rt.In n w ∧ w.length ≤ 20 ∧ TI K H jv (castW J) ∧ Rt.In n J ∧ Asc J ∧ J.length ≤ 4 ∧ Strip n bs J w t ∧
  ∀ (a : Addr) (v1 v2 : V) H', Same H H' → SqT K H' a [v1, v2] → TI K H' v1 (castW (nfc n bs (w ++ t))) → TI K H' v2 (castW (nfc n bs t.reverse)) → Q (.ref a) H'
/-- the letters of J that go down -/
noncomputable def LJd (n : Nat) (bs : List (List Int)) (J v : List Nat) : List Nat := J.filter fun s => lowB n (Rt.fr (cB bs) n v s)
section
variable {n : Nat} {bs : List (List Int)} {J : List Nat}
theorem LJd_nil (va : Valid n bs) (hJ : Rt.In n J) {w : List Nat} (hw : Rt.In n w) : LJd n bs J w.reverse = [] ↔ NoJ n (mB bs) J w := by
  unfold LJd
  rw [List.filter_eq_nil_iff]
  exact ⟨fun h s hs hl => h s hs ((low_fr va hw.rev (hJ s hs)).mpr ((rev_low s).mpr hl)), fun h s hs hl => h s hs ((rev_low s).mp ((low_fr va hw.rev (hJ s hs)).mp hl))⟩
theorem LJd_cons (va : Valid n bs) (hJ : Rt.In n J) (as : Asc J) {w : List Nat} (hw : Rt.In n w) {s : Nat} {r : List Nat} (h : LJd n bs J w.reverse = s :: r) : s ∈ J ∧ Rt.len n (mB bs) (w ++ [s]) < Rt.len n (mB bs) w ∧ ∀ r ∈ J, Rt.len n (mB bs) (w ++ [r]) < Rt.len n (mB bs) w → s ≤ r := by
  obtain ⟨h1, h2, h3⟩ := asc_head as h
  refine ⟨h1, (rev_low s).mp ((low_fr va hw.rev (hJ s h1)).mp h2), fun r hr hl => h3 r hr ((low_fr va hw.rev (hJ r hr)).mpr ((rev_low r).mpr hl))⟩
end
section
variable {P : Program} {Wo : World} {K : PySem.W.Frag} {mg : Str → Option Value} {base : Heap} {C : Addr}
theorem cal_l_split (T : Txt K mg C) : Cal P Wo K mg base "_law_split" 5 (spLSplit K) := by
  refine T.d_l_split.cal (ps := ["_law_letters", "_law_rules_here", "_law_word", "_law_some_here"]) (fun f fd D => ?_) (fun _ _ _ _ _ _ us hl => match us, hl with | [_, _, _, _], _ => rfl)
  refine D.ok sc_l_split (fun vs H Q E h => ?_) (fun cdv A outer s H vs Q E hr h => ?_)
  · obtain ⟨_, _, _, _, _, _, _, _, rfl, _⟩ := h
    rfl
  · obtain ⟨rv, _, _, n, bs, w, J, t, rfl, hrv, ⟨wa, rfl, hwa⟩, va, hw, wl, ⟨ja, rfl, hja⟩, hJ, as, jl, st, k⟩ := h
    refine ⟨_, (pss_cons (ps_asg (pe_tup (pa_cons (pe_cal (cal_l_deed T) (hr.mono (by decide)) (by rfl) (pa_cons (pv 0) (pa_cons (pv 1) (pa_cons (pv 2) pa_nil)))) (pa_cons (pe_lst pa_nil) pa_nil))) (pg_tup (by rfl) (pgs_cons (pg_name (i := 4) sc_l_split.nd rfl (Or.inr rfl)) (pgs_cons (pg_name (i := 5) sc_l_split.nd rfl (Or.inl rfl)) pgs_nil))))
      (pss_cons (ps_for PassesOwn.never rfl (pi_range1 (by rfl) T.b_range (pa_cons (pe_callB call_len_seq (by rfl) T.b_len (by decide +kernel) (pa_cons (pv 2) pa_nil)) pa_nil)) (pg_name (i := 6) sc_l_split.nd rfl (Or.inl rfl)) (pss_cons (ps_setLc (i := 7) (own := [("_law_letter", 8)]) (g := gName 8) rfl sc_l_split.nd rfl rfl (sw_true rfl rfl rfl (by decide +kernel)) (pi_tup (pv 3)) (blkOk_by (own := [("_law_letter", 8)]) (N := ["_law_letters", "_law_rules_here", "_law_word", "_law_some_here", "_law_deed_here", "_law_taken", "_law_turn", "_law_right_here", "_law_letter", "_law_first"]) (sc := defScope s_l_split) (by decide +kernel)) (fun _ _ _ _ _ => (pg_name (i := 8) sc_l_split.nd rfl (Or.inl rfl))) (fun _ _ _ _ _ => (pts_one (pt_val (pe_cal (cal_l_is_below T) (hr.mono (by decide)) (by rfl) (pa_cons (pe_ix (show IxR _ (rIxT K) from ix_tup) (pv 4) (pv 8) (fun _ _ => rfl)) pa_nil))))) (fun _ _ _ _ _ => (pv 8)))
      (pss_cons (ps_if (pt_cmpR (op_eqD hr.units) (pv 7) (pe_lst pa_nil) (nomark _)) (pss_one ps_break) pss_nil)
      (pss_cons (ps_expr (pe_bm PySem.F.plainAttrs_list PySem.F.slot_list_append PySem.F.type_list_append mt_append (pv 5) (pa_cons (pe_ix ix_list (pv 7) pe_int (fun _ _ => rfl)) pa_nil)))
      (pss_one (ps_set (i := 4) sc_l_split.nd rfl (Or.inr rfl) (pe_cal (cal_l_turned T) (hr.mono (by decide)) (by rfl) (pa_cons (pv 1) (pa_cons (pv 4) (pa_cons (pe_ix ix_list (pv 7) pe_int (fun _ _ => rfl)) pa_nil))))))))))
      (pss_cons (ps_set (i := 9) sc_l_split.nd rfl (Or.inl rfl) (pe_cal (cal_l_normal T) (hr.mono (by decide)) (by rfl) (pa_cons (pv 0) (pa_cons (pv 1) (pa_cons (pe_op op_catA (pv 2) (pe_callTy call_tuple_of (by rfl) T.b_tuple (by decide +kernel) (pa_cons (pv 5) pa_nil))) pa_nil)))))
      (pss_one (ps_ret (pe_tup (pa_cons (pv 9) (pa_cons (pe_cal (cal_l_normal T) (hr.mono (by decide)) (by rfl) (pa_cons (pv 0) (pa_cons (pv 1) (pa_cons (pe_callTy call_tuple_of (by rfl) T.b_tuple (by decide +kernel) (pa_cons (pe_revL (pv 5)) pa_nil)) pa_nil)))) pa_nil)))))))), ?_⟩
    have n1 := va.lo
    have n4 := va.hi
    have ll : ((castW w).map V.int).length = w.length := by rw [List.length_map, cast_len']
    obtain ⟨jt, noJ, tl⟩ := st.facts hJ
    have it := jt.in_ hJ
    have iwt : Rt.In n (w ++ t) := Rt.In.app.mpr ⟨hw, it⟩
    have wl2 := Rt.len_self (n := n) (m := mB bs) w
    refine ⟨_, rfl, _, rfl, _, rfl, rv, .ref wa, n, bs, w, rfl, hrv, ⟨wa, rfl, hwa⟩, va, hw, by omega, fun v0 H0 s0 t0' => ?_⟩
    refine ⟨Nat.zero_le _, fun g ng => ⟨show 2 ≤ sizeLine by decide, fun tt nt => ?_⟩⟩
    have sg := same_new (o := .lst []) ng
    have st' := same_new (o := .tup [v0, .ref g]) nt
    have S0 := (s0.trans sg).trans st'
    have ngH : H g = none := s0.free ng
    have hg0 : (upd (upd H0 g (.lst [])) tt (.tup [v0, .ref g])) g = some (.lst []) := st' _ _ upd_same
    have ht0 : (upd (upd H0 g (.lst [])) tt (.tup [v0, .ref g])) tt = some (.tup [v0, .ref g]) := upd_same
    have t1' := (t0'.same sg).same st'
    generalize upd (upd H0 g (.lst [])) tt (.tup [v0, .ref g]) = H1 at *
    refine ⟨tt, _, rfl, .of ht0, rfl, _, _, rfl, _, _, rfl, rfl, ?_⟩
    refine ⟨_, rfl, wa, _, rfl, .inr (sqT_same S0 hwa), _, rfl, by omega, by omega, for_range (lo := 0) (n := ((castW w).map V.int).length) (fun i σ H' => ∃ (sv : V) (v6 v7 v8 : Option V) (t0 t1 : List Nat), σ = [some (.int n), some rv, some (.ref wa), some (.ref ja), some sv, some (.ref g), v6, v7, v8, none] ∧ Same H H' ∧ LkAt K H' sv (frL n (Rt.fr (cB bs) n (w ++ t0).reverse)) ∧ Strip n bs J (w ++ t0) t1 ∧ t0 ++ t1 = t ∧ t0.length = i ∧ H' g = some (.lst ((castW t0).map V.int))) ?_ ?_ ?_⟩
    · exact ⟨v0, _, _, _, [], t, rfl, S0, by rw [List.append_nil]; exact t1', by rw [List.append_nil]; exact st, rfl, rfl, hg0⟩
    · rintro i σ H2 hi ⟨sv, v6, v7, v8, t0, t1, rfl, s2, t2, st2, ett, t0l, hg2⟩
      have it0 : Rt.In n t0 := by
        rw [← ett] at it
        exact (Rt.In.app.mp it).1
      have iv : Rt.In n (w ++ t0) := Rt.In.app.mpr ⟨hw, it0⟩
      have vl : (w ++ t0).reverse.length ≤ 60 := by rw [List.length_reverse, List.length_append]; omega
      have hja2 := sqT_same s2 hja
      refine ⟨_, rfl, ja, rfl, ⟨_, hja2⟩, fun D nD => lc_it (walk_tup (K := K) (a := ja) (xs := (castW J).map V.int)) (fun j H' => Same H2 H' ∧ H' D = some (.lst ((castW ((J.take j).filter fun s => lowB n (Rt.fr (cB bs) n (w ++ t0).reverse s))).map V.int))) ⟨same_new nD, upd_same⟩ (fun j H' _ h => sqT_same h.1 hja2) ?_ ?_⟩
      · rintro j x H3' H3 hj ⟨s3, hD⟩ ⟨e3, hxj⟩
        subst e3
        obtain ⟨c, hc, rfl⟩ := castW_get hxj
        have cn := hJ c (List.mem_of_getElem? hc)
        obtain ⟨sa, ss, rfl, hsa, hss⟩ := t2.same s3
        have hsl : ss.length = n := by rw [hss.len, frL_len]
        obtain ⟨r0, er0, tr0⟩ := hss.at_ (frL_get cn)
        have fl := List.length_filter_le (fun s => lowB n (Rt.fr (cB bs) n (w ++ t0).reverse s)) (J.take j)
        rw [List.length_take] at fl
        refine ⟨rfl, _, rfl, _, rfl, _, _, _, _, rfl, rfl, hsa, at_of (j := c) (by omega) er0, r0, n, _, rfl, tr0, fr_sml va iv.rev (by omega) c cn, _, rfl, ite2 (fun q => ?_) (fun q => ?_)⟩
        · refine ⟨_, rfl, _, hD, small1000 (by rw [List.length_map, cast_len']; omega), same_off nD s3 off_upd, ?_⟩
          rw [upd_same, take_snoc hc, List.filter_append, List.filter_cons_of_pos (p := fun s => lowB n (Rt.fr (cB bs) n (w ++ t0).reverse s)) q, List.filter_nil, castW_app, List.map_append]
          rfl
        · refine ⟨s3, ?_⟩
          rw [take_snoc hc, List.filter_append, List.filter_cons_of_neg (p := fun s => lowB n (Rt.fr (cB bs) n (w ++ t0).reverse s)) q, List.filter_nil, List.append_nil]
          exact hD
      · rintro H3 ⟨s3, hD⟩
        rw [List.length_map, cast_len', List.take_length] at hD
        replace hD : H3 D = some (.lst ((castW (LJd n bs J (w ++ t0).reverse)).map V.int)) := hD
        have s23 := s2.trans s3
        have hg3 := s3 _ _ hg2
        have gD : D ≠ g := (ne_of_none hg2 nD).symm
        refine ⟨_, rfl, Nat.zero_le _, fun e ne => ⟨_, _, .lst (.of (same_new ne _ _ hD)) (dInts _), .lst (.of upd_same) .nil, sh_L _, sh_L [], ?_⟩⟩
        have hq : PyData.eqv (.list ((castW (LJd n bs J (w ++ t0).reverse)).map PyData.int)) (.list []) = decide (castW (LJd n bs J (w ++ t0).reverse) = []) := eqv_L _ []
        rw [hq]
        refine ⟨_, rfl, ?_⟩
        have se := same_new (o := .lst []) ne
        have hg4 := se _ _ hg3
        have hD4 := se _ _ hD
        have s24 := s23.trans se
        have t4 := (t2.same s3).same se
        generalize upd H3 e (.lst []) = H4 at *
        cases hR : LJd n bs J (w ++ t0).reverse with
        | nil =>
          have no := (LJd_nil va hJ iv).mp hR
          obtain rfl := (Strip.done no).det st2
          rw [List.append_nil] at ett
          subst ett
          refine iteT ?_
          refine ⟨_, rfl, _, rfl, _, rfl, _, rfl, g, _, rfl, .inl ⟨.of hg4, fun q1 nq1 => ?_⟩⟩
          have sq1 := same_new (o := .tup ((castW t0).map V.int)) nq1
          refine cat_any (sqT_same (s24.trans sq1) hwa) (.of upd_same) (by simp only [List.length_map, cast_len']; omega) fun vc Hc sc ⟨cc, ec, qc⟩ => ?_
          subst ec
          rw [← List.map_append, ← castW_app] at qc
          have SC := (s24.trans sq1).trans sc
          refine ⟨rv, .ref cc, n, bs, w ++ t0, _, rfl, hrv.same SC, ⟨cc, rfl, qc⟩, va, iwt, nfc_nf va iwt, by rw [List.length_append]; omega, fun v9 H9 s9 t9 => ?_⟩
          have hg9 := s9 _ _ (sc _ _ (sq1 _ _ hg4))
          have S9 := SC.trans s9
          refine ⟨_, rfl, _, rfl, _, rfl, _, rfl, g, _, rfl, .of hg9, fun r3 nr3 => ?_⟩
          have sr3 := same_new (o := .lst ((castW t0).map V.int).reverse) nr3
          have er3 : ((castW t0).map V.int).reverse = (castW (t0).reverse).map V.int := by rw [castW_rev, List.map_reverse]
          refine ⟨r3, _, rfl, .inl ⟨.of upd_same, fun r4 nr4 => ?_⟩⟩
          have sr4 := same_new (o := .tup ((castW t0).map V.int).reverse) nr4
          refine ⟨rv, .ref r4, n, bs, (t0).reverse, _, rfl, ((hrv.same S9).same sr3).same sr4, ⟨r4, rfl, by rw [← er3]; exact .of upd_same⟩, va, it.rev, nfc_nf va it.rev, by rw [List.length_reverse]; omega, fun v10 HA sA tA => ?_⟩
          refine ⟨show 2 ≤ sizeLine by decide, fun q nq => ?_⟩
          have sq := same_new (o := .tup [v9, v10]) nq
          have SA := (sr3.trans sr4).trans sA
          exact k q v9 v10 _ ((S9.trans SA).trans sq) (.of upd_same) ((t9.same SA).same sq) (tA.same sq)
        | cons s rr =>
          rw [hR] at hD4
          obtain ⟨sJ, sl, smin⟩ := LJd_cons va hJ as iv hR
          have sn := hJ s sJ
          cases st2 with
          | done no => exact absurd sl (no s sJ)
          | @step _ t1' s' hs' hl' hm' st2' =>
          obtain rfl : s = s' := Nat.le_antisymm (smin s' hs' hl') (hm' s sJ sl)
          refine iteF ?_
          refine ⟨_, rfl, .inl ⟨rfl, _, .of hg4⟩, ?_⟩
          refine ⟨_, rfl, _, _, _, _, rfl, rfl, .of hD4, at_of (j := 0) rfl rfl, g, _, _, rfl, rfl, hg4, by rw [List.length_map, cast_len']; exact small1000 (by omega), ?_⟩
          have so : Off g H4 (upd H4 g (.lst ((castW t0).map V.int ++ [.int (s : Nat)]))) := off_upd
          have sH : Same H (upd H4 g (.lst ((castW t0).map V.int ++ [.int (s : Nat)]))) := same_off ngH s24 so
          have t5 : LkAt K (upd H4 g (.lst ((castW t0).map V.int ++ [.int (s : Nat)]))) sv (frL n (Rt.fr (cB bs) n (w ++ t0).reverse)) := t4.offL so hg4
          have hD5 := so _ _ gD hD4
          refine ⟨_, rfl, _, rfl, _, rfl, _, _, _, _, rfl, rfl, .of hD5, at_of (j := 0) rfl rfl, rv, sv, n, s, bs, _, rfl, hrv.same sH, t5, va, sn, fr_sml va iv.rev (by omega), fun v6' H6 s6 t6 => ?_⟩
          rw [ah_fr va sn, show s :: (w ++ t0).reverse = (w ++ (t0 ++ [s])).reverse by simp] at t6
          refine ⟨v6', _, _, _, t0 ++ [s], t1', rfl, sH.trans s6, t6, by rw [← List.append_assoc]; exact st2', by rw [← ett, List.append_assoc]; rfl, by rw [List.length_append, t0l]; rfl, ?_⟩
          have := s6 _ _ (upd_same (H := H4) (a := g) (o := .lst ((castW t0).map V.int ++ [.int (s : Nat)])))
          rw [castW_app, List.map_append]
          exact this
    · rintro σ H2 ⟨sv, v6, v7, v8, t0, t1, rfl, s2, t2, st2, ett, t0l, hg2⟩
      have : t1 = [] := by
        rw [ll] at t0l
        rw [← ett, List.length_append] at tl
        exact List.eq_nil_of_length_eq_zero (by omega)
      subst this
      rw [List.append_nil] at ett
      subst ett
      refine ⟨_, rfl, _, rfl, _, rfl, _, rfl, g, _, rfl, .inl ⟨.of hg2, fun q1 nq1 => ?_⟩⟩
      have sq1 := same_new (o := .tup ((castW t0).map V.int)) nq1
      refine cat_any (sqT_same (s2.trans sq1) hwa) (.of upd_same) (by simp only [List.length_map, cast_len']; omega) fun vc Hc sc ⟨cc, ec, qc⟩ => ?_
      subst ec
      rw [← List.map_append, ← castW_app] at qc
      have SC := (s2.trans sq1).trans sc
      refine ⟨rv, .ref cc, n, bs, w ++ t0, _, rfl, hrv.same SC, ⟨cc, rfl, qc⟩, va, iwt, nfc_nf va iwt, by rw [List.length_append]; omega, fun v9 H9 s9 t9 => ?_⟩
      have hg9 := s9 _ _ (sc _ _ (sq1 _ _ hg2))
      have S9 := SC.trans s9
      refine ⟨_, rfl, _, rfl, _, rfl, _, rfl, g, _, rfl, .of hg9, fun r3 nr3 => ?_⟩
      have sr3 := same_new (o := .lst ((castW t0).map V.int).reverse) nr3
      have er3 : ((castW t0).map V.int).reverse = (castW (t0).reverse).map V.int := by rw [castW_rev, List.map_reverse]
      refine ⟨r3, _, rfl, .inl ⟨.of upd_same, fun r4 nr4 => ?_⟩⟩
      have sr4 := same_new (o := .tup ((castW t0).map V.int).reverse) nr4
      refine ⟨rv, .ref r4, n, bs, (t0).reverse, _, rfl, ((hrv.same S9).same sr3).same sr4, ⟨r4, rfl, by rw [← er3]; exact .of upd_same⟩, va, it.rev, nfc_nf va it.rev, by rw [List.length_reverse]; omega, fun v10 HA sA tA => ?_⟩
      refine ⟨show 2 ≤ sizeLine by decide, fun q nq => ?_⟩
      have sq := same_new (o := .tup [v9, v10]) nq
      have SA := (sr3.trans sr4).trans sA
      exact k q v9 v10 _ ((S9.trans SA).trans sq) (.of upd_same) ((t9.same SA).same sq) (tA.same sq)
end
end Sk

namespace Sk
open PySem L2 Ow
open Rt (InJ NoJ)
structure LvRIn (n : Nat) (bs : List (List Int)) (J : List Nat) (i : Nat) (seen : List Nat → Nat → Prop) (xs : List (List Nat)) : Prop where
  nd : xs.Nodup
  nw : ∀ x ∈ xs, NW n bs x ∧ InJ J x ∧ x.length = i + 1
  all : ∀ v s, seen v s → s ∈ J → (nfc n bs (v ++ [s])).length > v.length → nfc n bs (v ++ [s]) ∈ xs
section
variable {n : Nat} {bs : List (List Int)} {J : List Nat} {i : Nat}
theorem LvRIn.start : LvRIn n bs J i (fun _ _ => False) [] := ⟨by simp, fun x hx => (by cases hx), fun _ _ h => h.elim⟩
theorem LvRIn.mono {seen seen' : List Nat → Nat → Prop} {xs : List (List Nat)} (h : LvRIn n bs J i seen xs) (m : ∀ a b, seen' a b → seen a b) : LvRIn n bs J i seen' xs := ⟨h.nd, h.nw, fun v s z => h.all v s (m v s z)⟩
theorem nf_right (va : Valid n bs) (hJ : Rt.In n J) {v : List Nat} {s : Nat} (hv : NW n bs v) (jv : InJ J v) (hs : s ∈ J) (up : (nfc n bs (v ++ [s])).length > v.length) : NW n bs (nfc n bs (v ++ [s])) ∧ InJ J (nfc n bs (v ++ [s])) ∧ (nfc n bs (v ++ [s])).length = v.length + 1 := by
  have iv : Rt.In n (v ++ [s]) := Rt.In.app.mpr ⟨hv.1, fun x hx => by rw [List.mem_singleton.mp hx]; exact hJ s hs⟩
  have nf := nfc_nf va iv
  refine ⟨NW.of va iv nf, nf_inJ va hJ (InJ.app.mpr ⟨jv, fun x hx => by rw [List.mem_singleton.mp hx]; exact hs⟩) nf, ?_⟩
  have l := nf_len' va iv
  rw [List.length_append, List.length_singleton] at l
  omega
theorem LvRIn.more {seen seen' : List Nat → Nat → Prop} {xs : List (List Nat)} (va : Valid n bs) (hJ : Rt.In n J) (h : LvRIn n bs J i seen xs) {v : List Nat} {s : Nat} (hv : NW n bs v) (jv : InJ J v) (hl : v.length = i) (hs : s ∈ J) (up : (nfc n bs (v ++ [s])).length > v.length) (new : nfc n bs (v ++ [s]) ∉ xs) (st : ∀ a b, seen' a b → seen a b ∨ (a = v ∧ b = s)) : LvRIn n bs J i seen' (xs ++ [nfc n bs (v ++ [s])]) := by
  obtain ⟨a, b, c⟩ := nf_right va hJ hv jv hs up
  refine ⟨?_, fun x hx => ?_, fun v' s' h' hs' up' => ?_⟩
  · rw [List.nodup_append]
    exact ⟨h.nd, by simp, fun x hx y hy z => new (by rw [List.mem_singleton] at hy; rw [← hy, ← z]; exact hx)⟩
  · rcases List.mem_append.mp hx with hx | hx
    · exact h.nw x hx
    · rw [List.mem_singleton.mp hx]
      exact ⟨a, b, by omega⟩
  · rcases st _ _ h' with h' | ⟨rfl, rfl⟩
    · exact List.mem_append.mpr (.inl (h.all _ _ h' hs' up'))
    · exact List.mem_append.mpr (.inr (by simp))
theorem LvRIn.keep {seen seen' : List Nat → Nat → Prop} {xs : List (List Nat)} (h : LvRIn n bs J i seen xs) {v : List Nat} {s : Nat} (old : ¬ (nfc n bs (v ++ [s])).length > v.length ∨ nfc n bs (v ++ [s]) ∈ xs) (st : ∀ a b, seen' a b → seen a b ∨ (a = v ∧ b = s)) : LvRIn n bs J i seen' xs :=
  ⟨h.nd, h.nw, fun v' s' h' hs' up' => by
    rcases st _ _ h' with h' | ⟨rfl, rfl⟩
    · exact h.all _ _ h' hs' up'
    · exact old.elim (fun z => absurd up' z) id⟩
theorem LvRIn.done (va : Valid n bs) (hJ : Rt.In n J) {L xs : List (List Nat)} (l : LvJ n bs J i L) (h : LvRIn n bs J i (fun v s => v ∈ L ∧ s ∈ J) xs) : LvJ n bs J (i + 1) xs := by
  refine ⟨h.nd, fun x => ⟨h.nw x, fun ⟨hx, jx, hl⟩ => ?_⟩⟩
  rcases List.eq_nil_or_concat x with e | ⟨y, s, e⟩
  · subst e
    cases hl
  · rw [List.concat_eq_append] at e
    subst e
    have sJ := jx s (by simp)
    have jy := (InJ.app.mp jx).1
    have iy := (Rt.In.app.mp hx.1).1
    rw [List.length_append, List.length_singleton] at hl
    have nfy := nfc_nf va iy
    have ny := NW.of va iy nfy
    obtain ⟨cy, ly⟩ := nfy.cg iy
    have hlen := hx.len
    rw [List.length_append, List.length_singleton] at hlen
    have sn := hx.1 s (by simp)
    have l1 := Rt.len_self (n := n) (m := mB bs) y
    have lenY : (nfc n bs y).length = i := by
      rw [ly]
      rcases Rt.len_snoc (m := mB bs) sn y with g | g <;> omega
    have ix2 : Rt.In n (nfc n bs y ++ [s]) := Rt.In.app.mpr ⟨ny.1, fun z hz => by rw [List.mem_singleton.mp hz]; exact sn⟩
    have e2 : nfc n bs (nfc n bs y ++ [s]) = y ++ [s] := (nf_eq va ix2 hx.1 (nfc_nf va ix2) hx.2).mpr (cy.symm.right [s])
    have m := h.all (nfc n bs y) s ⟨(l.me _).mpr ⟨ny, nf_inJ va hJ jy nfy, lenY⟩, sJ⟩ sJ (by rw [e2, List.length_append, List.length_singleton]; omega)
    rwa [e2] at m
end
end Sk

namespace Sk
open PySem PySem.Spec PyProof.Rows PySem.W L2 Ow
/-! sorted(words, key=len) -/
def tSortLen (K : PySem.W.Frag) (te : TE) : TE := fun σ H Q => te σ H fun v H1 => ∃ (a : Addr) (xs : List V) (ks : List (List Int)), v = .ref a ∧ SqL K H1 a xs ∧ A2 (TI K H1) xs ks ∧
  ∀ (ys : List V) (p : Addr), A2 (TI K H1) ys (ks.mergeSort fun x y => decide ((x.length : Int) ≤ (y.length : Int))) → H1 p = none → Q (.ref p) (upd H1 p (.lst ys))
theorem big63 {n : Nat} (h : n ≤ sizeLine) : (n : Int) < 2 ^ 63 := by
  have : sizeLine < 2 ^ 63 := by decide
  omega
section
variable {X : Cx}
abbrev WIt (X : Cx) (H : Hp) (h : Heap) (v : Value) (b : V × List Int) : Prop := ∃ a items, v = .ref a ∧ b.1 = .ref a ∧ h.IsTuple a items ∧ items.size = b.2.length ∧ b.2.length ≤ sizeLine ∧ TI X.K H b.1 b.2
theorem wit_all {pins : List (Addr × Obj)} {σ : L2.St} {H : Hp} {s : Shared} (I : Inv X pins σ H s) : ∀ {its : List Value} {xs : List V} {ks : List (List Int)}, Vals xs its → A2 (TI X.K H) xs ks → EachIs (WIt X H s.heap) its (xs.zip ks)
  | [], [], [], _, _ => .nil
  | u :: its, x :: xs, k :: ks, .cons r rs, ⟨⟨q, e, hq⟩, hs⟩ => by
    subst e
    cases r
    obtain ⟨jts, r1, hj, hz⟩ := I.tuple hq
    have l1 := r1.length
    rw [List.length_map] at l1 hz
    exact .cons ⟨q, jts.toArray, rfl, rfl, hj, by simp [l1], hz, ⟨q, rfl, hq⟩⟩ (wit_all I rs hs)
theorem wit_back {H : Hp} {h : Heap} : ∀ {its : List Value} {bs : List (V × List Int)}, EachIs (WIt X H h) its bs → Vals (bs.map (·.1)) its ∧ A2 (TI X.K H) (bs.map (·.1)) (bs.map (·.2))
  | _, _, .nil => ⟨.nil, trivial⟩
  | _, _, .cons ⟨a, items, e1, e2, _, _, _, t⟩ r => by
    obtain ⟨h1, h2⟩ := wit_back r
    exact ⟨.cons (show RelV _ _ by dsimp only; rw [e2, e1]; rfl) h1, t, h2⟩
theorem pe_sortedLen {e : Expr} {te : TE} {p q pos kp : Pos} (hg : Gl X "sorted") (hm : X.mg "sorted" = none) (hg2 : Gl X "len") (hm2 : X.mg "len" = none) (hu : X.A.units + 66 < cLine) (he : PE X e te)
    (hs : starEach [e] X.env = (false, eval e X.env) :: starEach [] X.env := by rfl) (hb : backTo pos (starEach [e] X.env) = (false, eval e X.env) :: backTo pos (starEach [] X.env) := by rfl) (hpl : (backTo pos (starEach [e] X.env)).any (·.1) = false := by rfl)
    (hall : (backToKw pos (keywordEach [⟨some (Str.ofString "key"), .Name "len" q, kp⟩] X.env)).all (·.1.isSome) = true := by rfl) (hnone : (backToKw pos (keywordEach [⟨some (Str.ofString "key"), .Name "len" q, kp⟩] X.env)).any (·.1.isNone) = false := by rfl)
    (hks : (backToKw pos (keywordEach [⟨some (Str.ofString "key"), .Name "len" q, kp⟩] X.env)).filterMap (·.1) = [Str.ofString "key"] := by rfl) :
    PE X (.Call (.Name "sorted" p) [e] [⟨some (Str.ofString "key"), .Name "len" q, kp⟩] pos) (tSortLen X.K te) := by
  refine ⟨fun pins s σ H Q I h => ?_⟩
  refine wpAny_Call_Name_kw (ld_blt I hg hm (by decide +kernel : bootBuiltins "sorted" = some (.builtin "sorted")) ?_)
  refine PyProof.Rows.callWith_kw (thn ((pa_cons he pa_nil hs).run pos pins s σ H (fun vs H1 => match vs with | [v] => (∃ (a : Addr) (xs : List V) (ks : List (List Int)), v = .ref a ∧ SqL X.K H1 a xs ∧ A2 (TI X.K H1) xs ks ∧ ∀ (ys : List V) (p : Addr), A2 (TI X.K H1) ys (ks.mergeSort fun x y => decide ((x.length : Int) ≤ (y.length : Int))) → H1 p = none → Q (.ref p) (upd H1 p (.lst ys))) | _ => False) I h) fun us s1 ⟨vs, H1, I1, r1, q1⟩ => ?_) hb hpl hall hnone
  rw [hks]
  cases r1 with
  | nil => exact q1.elim
  | @cons v u vs' us' rv0 rr => ?_
  cases rr with
  | cons => exact q1.elim
  | nil => ?_
  obtain ⟨a, xs, ks, rfl, hsq, hx, k⟩ := q1
  obtain rfl : u = Value.ref a := rv0
  show wpAny _ _ (evalAll ((do let v ← eval (.Name "len" q) X.env; standAt pos; pure v) :: (backToKw pos (keywordEach [] X.env)).map (·.2))) _ _ s1
  refine wpAny_evalAll_cons (wpAny_bind (ld_blt I1 hg2 hm2 boot_len (wpAny_bind (wpAny_standAt (wpAny_pure (wpAny_evalAll_nil ?_))))))
  obtain ⟨its, rv, hl, hz⟩ := I1.list hsq
  have el := wit_all I1 rv hx
  have xl := hx.len
  have zl : (xs.zip ks).length = xs.length := by rw [List.length_zip, xl, Nat.min_self]
  show wpAny _ _ (call (.builtin "sorted") [.ref a] [(Str.ofString "key", .builtin "len")]) _ _ _
  refine sorted_key_data (k := fun b : V × List Int => PyData.int (b.2.length : Int)) (b := false) hl.isList el ?_ ?_ (by rw [zl]; exact hz) (fun x hx => ?_) (ksk_s1 _ _) (fun _ => ksk_l1 _ _) (fun _ => ksk_t4 _ _) (fun v x hR hm h tk kp => ?_) fun out c h' tk kp fresh hat hlen ho => ?_
  · intro d hd d' hd'
    obtain ⟨_, _, rfl⟩ := List.mem_map.mp hd
    obtain ⟨_, _, rfl⟩ := List.mem_map.mp hd'
    rfl
  · refine .inr fun d hd => ?_
    obtain ⟨_, _, rfl⟩ := List.mem_map.mp hd
    exact ⟨(fun e => nomatch e), (fun _ e => nomatch e)⟩
  · show X.A.units + 2 + (PyData.int (x.2.length : Int)).depth < cLine
    simp only [PyData.depth]
    omega
  · obtain ⟨t, items, rfl, _, ht, hl2, hz2, _⟩ := hR
    obtain ⟨o, ho, r⟩ := ht
    refine PyProof.Rows.len_tuple (items := items) ⟨o, kp _ _ ho, r⟩ (by rw [hl2]; exact big63 hz2) ?_
    rw [hl2]
    exact ⟨h, _, rfl, fun _ _ e => e, .int _ _⟩
  · rw [dataLe_int (fun b : V × List Int => (b.2.length : Int))] at ho
    obtain ⟨v1, v2⟩ := wit_back ho
    have e1 : ((xs.zip ks).mergeSort fun a b => decide ((a.2.length : Int) ≤ (b.2.length : Int))).map (·.2) = ks.mergeSort fun x y => decide ((x.length : Int) ≤ (y.length : Int)) := by
      rw [List.map_mergeSort (s := fun x y : List Int => decide ((x.length : Int) ≤ (y.length : Int))) (fun _ _ _ _ => rfl), List.map_snd_zip (by rw [xl]; exact Nat.le_refl _)]
    rw [e1] at v2
    refine ⟨.ref _, _, I1.laid (t' := tk) (o := .lst _) kp (Nat.le_succ _) ⟨?_, out, c, v1, hat⟩, rfl, k _ _ v2 (I1.hok.fresh (Nat.le_succ _))⟩
    rw [v1.length, hlen, zl]
    exact hz
end
end Sk

namespace Sk
open PySem L2 Ow
def WsAt (K : PySem.W.Frag) (H : Hp) (v : V) (us : List (List Nat)) : Prop := ∃ a xs, v = .ref a ∧ H a = some (.lst xs) ∧ A2 (TI K H) xs (us.map castW)
theorem WsAt.same {K : PySem.W.Frag} {H H' : Hp} {v : V} {us : List (List Nat)} (h : WsAt K H v us) (s : Same H H') : WsAt K H' v us := by
  obtain ⟨a, xs, rfl, ha, hx⟩ := h
  exact ⟨a, xs, rfl, s _ _ ha, hx.imp fun _ _ z => z.same s⟩
def spLUnder (K : PySem.W.Frag) : Sp := fun vs H Q _ => ∃ (rv wv : V) (n : Nat) (bs : List (List Int)) (w : List Nat), vs = [.int n, rv, wv] ∧ RAt K H rv bs n ∧ TI K H wv (castW w) ∧ Valid n bs ∧ NW n bs w ∧ w.length ≤ 7 ∧
  ∀ v us H', Same H H' → WsAt K H' v us → (∀ a, v = .ref a → H a = none) → UL n bs w us → us.length ≤ 2 ^ w.length → Q v H'
theorem RAt.offE {K : PySem.W.Frag} {H H' : Hp} {v : V} {D : Addr} {u : HO} {bs : List (List Int)} {n : Nat} (h : RAt K H v bs n) (o : Off D H H') (hD : H D = some u) (e : IsE u) : RAt K H' v bs n := by
  obtain ⟨d, kvs, rfl, hd, a⟩ := h
  have ne : d ≠ D := fun z => by
    rw [z, hD] at hd
    rcases e with ⟨φ, rfl⟩ | ⟨o, φ, rfl⟩ <;> cases hd
  exact ⟨d, kvs, rfl, o _ _ ne hd, fun i j hi hj ij => (a i j hi hj ij).elim fun x ⟨e1, t⟩ => ⟨x, e1, offE_ti o hD e t⟩⟩
section
variable {P : Program} {Wo : World} {K : PySem.W.Frag} {mg : Str → Option Value} {base : Heap} {C : Addr}
end
end Sk

namespace Sk
open PySem L2 Ow
open Rt (InJ NoJ)
theorem back_words {ms : List (List Int)} {vs : List (List Nat)} (pm : ms.Perm (vs.map castW)) : ∃ M : List (List Nat), ms = M.map castW ∧ M.Perm vs := by
  have e1 : ms = (ms.map uncast).map castW := by
    rw [List.map_map]
    conv => lhs; rw [← List.map_id ms]
    refine List.map_congr_left fun m hm => ?_
    obtain ⟨k, _, rfl⟩ := List.mem_map.mp (pm.mem_iff.mp hm)
    show castW k = castW (uncast (castW k))
    rw [uncast_cast]
  have p3 : (ms.map uncast).Perm vs := by
    have := pm.map uncast
    rw [List.map_map] at this
    rwa [show vs.map (uncast ∘ castW) = vs from List.map_id'' (fun x => uncast_cast x) vs] at this
  exact ⟨_, e1, p3⟩
theorem LvJ.perm {n : Nat} {bs : List (List Int)} {J : List Nat} {i : Nat} {L M : List (List Nat)} (h : LvJ n bs J i L) (p : M.Perm L) : LvJ n bs J i M := ⟨p.nodup_iff.mpr h.nd, fun x => p.mem_iff.trans (h.me x)⟩
def spLSome (K : PySem.W.Frag) : Sp := fun vs H Q _ => ∃ (p : Addr) (n : Nat), vs = [.ref p, .int n] ∧ VatAt H p ∧ 0 < n ∧ n ≤ 4 ∧ ∀ v (J : List Nat) H', Off p H H' → VatAt H' p → TI K H' v (castW J) → Rt.In n J → Asc J → (∃ l, l < n ∧ l ∉ J) → Q v H'
def spLBy (K : PySem.W.Frag) : Sp := fun vs H Q _ => ∃ (rv jv : V) (n : Nat) (bs : List (List Int)) (J : List Nat) (W : List (List Nat)), vs = [.int n, rv, jv] ∧ RAt K H rv bs n ∧ TI K H jv (castW J) ∧ Valid n bs ∧ Rt.In n J ∧ J.length ≤ 4 ∧ AllJ n bs J W ∧ W.length ≤ 120 ∧ (∀ x ∈ W, x.length ≤ 24) ∧
  ∀ v H', Same H H' → WsAt K H' v W → (∀ a, v = .ref a → H a = none) → Q v H'
section
variable {P : Program} {Wo : World} {K : PySem.W.Frag} {mg : Str → Option Value} {base : Heap} {C : Addr}
theorem cal_l_some (T : Txt K mg C) : Cal P Wo K mg base "_law_some" 2 (spLSome K) := by
  refine T.d_l_some.cal (ps := ["_law_bag_here", "_law_letters"]) (fun f fd D => ?_) (fun _ _ _ _ _ _ us hl => match us, hl with | [_, _], _ => rfl)
  refine D.ok sc_l_some (fun vs H Q E h => ?_) (fun cdv A outer s H vs Q E hr h => ?_)
  · obtain ⟨_, _, rfl, _⟩ := h
    rfl
  · obtain ⟨p, n, rfl, hb, n0, n4, k⟩ := h
    refine ⟨_, (pss_cons (ps_set (i := 2) sc_l_some.nd rfl (Or.inr rfl) (pe_cal (cal_l_dip T) (hr.mono (by decide)) (by rfl) (pa_cons (pv 0) (pa_cons (pv 1) pa_nil))))
      (pss_one (ps_ret (pe_callTy call_tuple_of (by rfl) T.b_tuple (by decide +kernel) (pa_cons (pe_lc (own := [("_law_letter", 3)]) (g := gName 3) rfl sc_l_some.nd (pi_range1 (by rfl) T.b_range (pa_cons (pv 1) pa_nil)) (blkOk_by (own := [("_law_letter", 3)]) (N := ["_law_bag_here", "_law_letters", "_law_left", "_law_letter"]) (sc := defScope s_l_some) (by decide +kernel)) (fun _ _ _ _ _ => (pg_name (i := 3) sc_l_some.nd rfl (Or.inl rfl))) (fun _ _ _ _ _ => (pts_one (PW.pt (pw_and (pt_cmpR op_ne (pv 3) (pv 2) (nomark _)) (pw_and1 (pt_cmpR op_gt (pe_cal (cal_l_dip T) (hr.mono (by decide)) (by rfl) (pa_cons (pv 0) (pa_cons pe_int pa_nil))) pe_int (nomark _))))))) (fun _ _ _ _ _ => (pv 3))) pa_nil))))), ?_⟩
    refine ⟨_, rfl, _, rfl, p, _, rfl, by omega, by omega, hb, fun t H1 t0 t1 o1 b1 => ?_⟩
    obtain ⟨l, rfl⟩ : ∃ l : Nat, t = l := ⟨t.toNat, by omega⟩
    refine ⟨_, rfl, _, rfl, by omega, by omega, fun D nD => lc_range (lo := 0) (n := n) (fun i H' => ∃ J : List Nat, Off p H H' ∧ VatAt H' p ∧ H' D = some (.lst ((castW J).map V.int)) ∧ J.length ≤ i ∧ (∀ x ∈ J, x < i) ∧ Asc J ∧ l ∉ J ∧ H D = none) ⟨[], o1.trans (.of_same (same_new nD)), b1.same (same_new nD), upd_same, Nat.le_refl _, (fun x hx => by cases hx), .nil, (fun h => by cases h), ?_⟩ ?_ ?_⟩
    · cases e : H D with
      | none => rfl
      | some o =>
        have := o1 _ _ (vat_ne b1 nD) e
        rw [nD] at this
        cases this
    · rintro i H2 hi ⟨J, o2, b2, hL, hw, hx, as, no, nH⟩
      have nDp := vat_ne hb nH
      have ei : (0 : Int) + ((i : Nat) : Int) = ((i : Nat) : Int) := Int.zero_add _
      rw [ei]
      refine ⟨rfl, _, rfl, _, rfl, rfl, _, rfl, ?_⟩
      have skip : ∀ {H3 : Hp}, Off p H2 H3 → VatAt H3 p → ∃ J : List Nat, Off p H H3 ∧ VatAt H3 p ∧ H3 D = some (.lst ((castW J).map V.int)) ∧ J.length ≤ i + 1 ∧ (∀ x ∈ J, x < i + 1) ∧ Asc J ∧ l ∉ J ∧ H D = none := fun o3 b3 => ⟨J, o2.trans o3, b3, o3 _ _ nDp hL, by omega, fun x hx' => by have := hx x hx'; omega, as, no, nH⟩
      refine ite2 (fun c => ?_) (fun _ => iteF (skip .refl b2))
      have il : i ≠ l := fun e => by
        rw [e, decide_eq_true rfl] at c
        cases c
      refine ⟨_, rfl, p, 4, rfl, by decide, by decide, b2, fun d H3 d0 d1 o3 b3 => ⟨_, _, rfl, rfl, _, rfl, ite2 (fun _ => ?_) (fun _ => skip o3 b3)⟩⟩
      have hL3 := o3 _ _ nDp hL
      refine ⟨_, rfl, _, hL3, small1000 (by rw [List.length_map, cast_len']; omega), J ++ [i], fun u z nu e => ?_, b3.but off_upd nDp.symm, by rw [upd_same, castW_app, List.map_append]; rfl, by rw [List.length_append, List.length_singleton]; omega, fun x hx' => ?_, ?_, fun h => ?_, nH⟩
      · rw [upd_ne (fun z => by rw [z, nH] at e; cases e)]
        exact o3 _ _ nu (o2 _ _ nu e)
      · rcases List.mem_append.mp hx' with h | h
        · have := hx x h
          omega
        · rw [List.mem_singleton.mp h]
          omega
      · refine List.pairwise_append.mpr ⟨as, by simp, fun a ha b hb => ?_⟩
        rw [List.mem_singleton.mp hb]
        exact hx a ha
      · rcases List.mem_append.mp h with h | h
        · exact no h
        · exact il (List.mem_singleton.mp h).symm
    · rintro H2 ⟨J, o2, b2, hL, hw, hx, as, no, nH⟩
      refine ⟨_, _, rfl, .inl ⟨.of hL, fun u nu => ?_⟩⟩
      have su := same_new (o := .tup ((castW J).map V.int)) nu
      exact k _ J _ (o2.trans (.of_same su)) (b2.same su) ⟨u, rfl, .of upd_same⟩ hx as ⟨l, by omega, no⟩
theorem cal_l_by (T : Txt K mg C) : Cal P Wo K mg base "_law_by" 5 (spLBy K) := by
  refine T.d_l_by.cal (ps := ["_law_letters", "_law_rules_here", "_law_some_here"]) (fun f fd D => ?_) (fun _ _ _ _ _ _ us hl => match us, hl with | [_, _, _], _ => rfl)
  refine D.ok sc_l_by (fun vs H Q E h => ?_) (fun cdv A outer s H vs Q E hr h => ?_)
  · obtain ⟨_, _, _, _, _, _, rfl, _⟩ := h
    rfl
  · obtain ⟨rv, _, n, bs, J, W, rfl, hrv, ⟨ja, rfl, hja⟩, va, hJ, jl, AW, w120, w24, k⟩ := h
    refine ⟨_, (pss_cons (ps_par (i := 3) (j := 4) rfl sc_l_by.nd rfl rfl (by decide) rfl rfl (pa_cons (pe_lst pa_nil) (pa_cons (pe_lst (pa_cons (pe_tup pa_nil) pa_nil)) pa_nil)) rfl)
      (pss_cons (ps_while PassesOwn.never (pt_cmpR (op_neD hr.units) (pv 4) (pe_lst pa_nil) (nomark _)) (pss_cons (ps_expr (pe_bm PySem.F.plainAttrs_list PySem.F.slot_list_extend PySem.F.type_list_extend mt_extend (pv 3) (pa_cons (pv 4) pa_nil)))
      (pss_cons (ps_set (i := 5) sc_l_by.nd rfl (Or.inl rfl) (pe_dnewP P Wo rfl rfl))
      (pss_cons (ps_for PassesOwn.never rfl (pi_list (pv 4)) (pg_name (i := 6) sc_l_by.nd rfl (Or.inl rfl)) (pss_one (ps_for PassesOwn.never rfl (pi_tup (pv 2)) (pg_name (i := 7) sc_l_by.nd rfl (Or.inl rfl)) (pss_cons (ps_set (i := 8) sc_l_by.nd rfl (Or.inl rfl) (pe_cal (cal_l_normal T) (hr.mono (by decide)) (by rfl) (pa_cons (pv 0) (pa_cons (pv 1) (pa_cons (pe_op op_catA (pv 6) (pe_tup (pa_cons (pv 7) pa_nil))) pa_nil)))))
      (pss_one (ps_if (pt_cmpR op_gt (pe_callB call_len_seq (by rfl) T.b_len (by decide +kernel) (pa_cons (pv 8) pa_nil)) (pe_callB call_len_seq (by rfl) T.b_len (by decide +kernel) (pa_cons (pv 6) pa_nil)) (nomark _)) (pss_one (ps_asg pe_bl (pg_sub (pv 5) (pv 8) (set_G (u65 hr))))) pss_nil))))))
      (pss_one (ps_set (i := 4) sc_l_by.nd rfl (Or.inl rfl) (pe_callB (cr_sortWG rfl (u66 hr)) (by rfl) T.b_sorted (by decide +kernel) (pa_cons (pv 5) pa_nil))))))))
      (pss_one (ps_ret (pv 3))))), ?_⟩
    have n4 := va.hi
    have n1 := va.lo
    have jll : ((castW J).map V.int).length = J.length := by rw [List.length_map, cast_len']
    refine ⟨Nat.zero_le _, fun g ng => ⟨Nat.zero_le _, fun e0 ne0 => ⟨show 1 ≤ sizeLine by decide, fun l0 nl0 => ⟨_, _, rfl, ?_⟩⟩⟩⟩
    have sg := same_new (o := .lst []) ng
    have se := same_new (o := .tup []) ne0
    have sl := same_new (o := .lst [.ref e0]) nl0
    have S := (sg.trans se).trans sl
    have hg : (upd (upd (upd H g (.lst [])) e0 (.tup [])) l0 (.lst [.ref e0])) g = some (.lst []) := sl _ _ (se _ _ upd_same)
    have hl0 : (upd (upd (upd H g (.lst [])) e0 (.tup [])) l0 (.lst [.ref e0])) l0 = some (.lst [.ref e0]) := upd_same
    have te : TI K (upd (upd (upd H g (.lst [])) e0 (.tup [])) l0 (.lst [.ref e0])) (.ref e0) (castW []) := ⟨e0, rfl, .of (sl _ _ upd_same)⟩
    have gl : g ≠ l0 := ne_of_none (se _ _ (upd_same (H := H) (a := g) (o := .lst []))) nl0
    generalize upd (upd (upd H g (.lst [])) e0 (.tup [])) l0 (.lst [.ref e0]) = H1 at *
    dsimp only [gName, tSeq]
    refine while_by (fun σ H' => ∃ (la : Addr) (v5 v6 v7 v8 : Option V) (L W0 : List (List Nat)) (i : Nat) (xs ys : List V), σ = [some (.int n), some rv, some (.ref ja), some (.ref g), some (.ref la), v5, v6, v7, v8] ∧ Same H H' ∧ H' la = some (.lst xs) ∧ A2 (TI K H') xs (L.map castW) ∧ LvJ n bs J i L ∧ LexS (L.map castW) ∧ UpJ n bs J i W0 ∧ H' g = some (.lst ys) ∧ A2 (TI K H') ys (W0.map castW) ∧ la ≠ g) (fun _ H' => 1000 - lenAt H' g) ?_ ?_ ?_
    · exact ⟨l0, _, _, _, _, [[]], [], 0, _, [], rfl, S, hl0, ⟨te, trivial⟩, .zero va, List.pairwise_singleton _ _, .zero, hg, trivial, gl.symm⟩
    · rintro _ H3 ⟨la, v5, v6, v7, v8, L, W0, i, xs, ys, rfl, s3, hla, hx, LL, lex, U, hg3, hy, lg⟩
      have yl := hy.len
      have xl := hx.len
      rw [List.length_map] at yl xl
      have uf := U.few AW
      have lf := LL.few AW
      refine ⟨_, rfl, Nat.zero_le _, fun e ne => ?_⟩
      have sE := same_new (o := .lst []) ne
      have wl : WsAt K (upd H3 e (.lst [])) (.ref la) L := ⟨la, xs, rfl, sE _ _ hla, hx.imp fun _ _ z => z.same sE⟩
      have wdp : Dp K (upd H3 e (.lst [])) (.ref la) (dL (L.map castW)) := .lst (.of (sE _ _ hla)) (hx.imp fun _ _ z => TI.same z sE).tis.dp
      refine ⟨dL (L.map castW), dL [], wdp, .lst (.of upd_same) .nil, sh_dL _, sh_dL _, ?_⟩
      rw [eqv_dL]
      refine ⟨_, rfl, ?_⟩
      have hg4 := sE _ _ hg3
      have hla4 := sE _ _ hla
      have hx4 := hx.imp fun _ _ z => TI.same z sE
      have hy4 := hy.imp fun _ _ z => TI.same z sE
      have s4 := s3.trans sE
      have lenE : lenAt H3 g = ys.length := by unfold lenAt; rw [hg3]
      rw [lenE]
      clear wl wdp hx hy hg3 hla lenE s3
      generalize upd H3 e (.lst []) = H4 at *
      cases L with
      | nil =>
        refine iteF ⟨_, rfl, ?_⟩
        have e := U.end va LL AW
        subst e
        refine k _ _ s4 ⟨g, ys, rfl, hg4, hy4⟩ (fun a ea => ?_)
        cases ea
        exact ng
      | cons x0 L0 =>
        have hx0 := (LL.me x0).mp (by simp)
        have i24 : i ≤ 24 := by
          have := w24 x0 ((AW.me x0).mpr ⟨hx0.1, hx0.2.1⟩)
          omega
        have lpos : 0 < (x0 :: L0).length := by simp
        rw [decide_eq_false (show ¬ ((x0 :: L0).map castW = []) from fun h => by cases h)]
        generalize (x0 :: L0) = L at *
        refine iteT ?_
        obtain ⟨M, em, pM, U2⟩ := U.more LL (.refl _) lex
        obtain rfl : L = M := (List.map_inj_right fun _ _ e => castW_inj e).mp em
        have u2f := U2.few AW
        rw [List.length_append] at u2f
        refine ⟨_, rfl, .inl ⟨rfl, _, .of hg4⟩, _, rfl, g, la, ys, xs, rfl, rfl, hg4, hla4, szl (by omega), ?_⟩
        have og : Off g H4 (upd H4 g (.lst (ys ++ xs))) := off_upd
        have hg5 : (upd H4 g (.lst (ys ++ xs))) g = some (.lst (ys ++ xs)) := upd_same
        have hla5 := og _ _ lg hla4
        have hx5 := hx4.imp fun _ _ z => og.ti hg4 z
        have hy5 := (A2.app hy4 hx4).imp fun _ _ z => og.ti hg4 z
        have s5 : Same H (upd H4 g (.lst (ys ++ xs))) := same_off ng s4 og
        clear hg4 hla4 hx4 hy4 s4 og
        generalize upd H4 g (.lst (ys ++ xs)) = H5 at *
        intro p np
        have sp := same_new (o := .ext (phiG P Wo p [])) np
        have hp6 : (upd H5 p (.ext (phiG P Wo p []))) p = some (.ext (phiG P Wo p [])) := upd_same
        have pla : la ≠ p := ne_of_none hla5 np
        have pg : g ≠ p := ne_of_none hg5 np
        have hla6 := sp _ _ hla5
        have hg6 := sp _ _ hg5
        have hx6 := hx5.imp fun _ _ z => TI.same z sp
        have hy6 := hy5.imp fun _ _ z => TI.same z sp
        have s6 := s5.trans sp
        have npH : H p = none := s5.free np
        clear hla5 hg5 hx5 hy5 s5 sp
        generalize upd H5 p (.ext (phiG P Wo p [])) = H6 at *
        have hrv6 := hrv.same s6
        have hja6 := sqT_same s6 hja
        refine ⟨_, rfl, la, rfl, ⟨_, .of hla6⟩, for_list (K := K) (a := la) (xs := xs) (fun j σ H' => (∃ v6 v7 v8 : Option V, σ = [some (.int n), some rv, some (.ref ja), some (.ref g), some (.ref la), some (.ref p), v6, v7, v8]) ∧ Off p H6 H' ∧ ∃ zs vs, H' p = some (.ext (phiG P Wo p zs)) ∧ WotAt K H' zs vs ∧ LvRIn n bs J i (fun a s => a ∈ L.take j ∧ s ∈ J) vs ∧ vs.length ≤ 4 * j) ⟨⟨_, _, _, rfl⟩, .refl, [], [], hp6, ⟨fun x hx => (by cases hx), rfl⟩, LvRIn.start.mono (fun a b z => (by cases z.1)), Nat.zero_le _⟩ (fun j σ H' _ h => .of (h.2.1 _ _ pla hla6)) ?_ ?_⟩
        · rintro j x σ H7 hj ⟨⟨v6, v7, v8, rfl⟩, o7, zs, vs, hp7, hz7, LI, vl⟩
          obtain ⟨c0, ec, tc0⟩ := hx6.get hj
          rw [List.getElem?_map] at ec
          cases ev : L[j]? with
          | none => rw [ev] at ec; cases ec
          | some v =>
            rw [ev] at ec
            obtain rfl : c0 = castW v := (Option.some.inj ec).symm
            obtain ⟨nv, jv, vi⟩ := (LL.me v).mp (List.mem_of_getElem? ev)
            have jL := (List.getElem?_eq_some_iff.mp ev).1
            refine ⟨_, rfl, ja, rfl, ⟨_, offE_sq o7 hp6 (.inl ⟨_, rfl⟩) hja6⟩, for_tup (K := K) (a := ja) (xs := (castW J).map V.int) (fun j2 σ H' => (∃ v7 v8 : Option V, σ = [some (.int n), some rv, some (.ref ja), some (.ref g), some (.ref la), some (.ref p), some x, v7, v8]) ∧ Off p H6 H' ∧ ∃ zs vs, H' p = some (.ext (phiG P Wo p zs)) ∧ WotAt K H' zs vs ∧ LvRIn n bs J i (fun a s => (a ∈ L.take j ∧ s ∈ J) ∨ (a = v ∧ s ∈ J.take j2)) vs ∧ vs.length ≤ 4 * j + j2) ⟨⟨_, _, rfl⟩, o7, zs, vs, hp7, hz7, LI.mono (fun a b z => z.elim id fun z => (by cases z.2)), by omega⟩ (fun j2 σ H' _ h => offE_sq h.2.1 hp6 (.inl ⟨_, rfl⟩) hja6) ?_ ?_⟩
            · rintro j2 y σ H8 hj2 ⟨⟨v7, v8, rfl⟩, o8, zs, vs, hp8, hz8, LI8, vl8⟩
              obtain ⟨c, hc, rfl⟩ := castW_get hj2
              have cJ := List.mem_of_getElem? hc
              have cn := hJ c cJ
              have j2l := (List.getElem?_eq_some_iff.mp hc).1
              obtain ⟨xa, rfl, hxa⟩ := offE_ti o8 hp6 (.inl ⟨_, rfl⟩) tc0
              have step : ∀ a' b', ((a' ∈ L.take j ∧ b' ∈ J) ∨ (a' = v ∧ b' ∈ J.take (j2 + 1))) → ((a' ∈ L.take j ∧ b' ∈ J) ∨ (a' = v ∧ b' ∈ J.take j2)) ∨ (a' = v ∧ b' = c) := fun a' b' z => by
                rcases z with z | ⟨z1, z2⟩
                · exact .inl (.inl z)
                · rw [take_snoc hc, List.mem_append, List.mem_singleton] at z2
                  rcases z2 with z2 | z2
                  · exact .inl (.inr ⟨z1, z2⟩)
                  · exact .inr ⟨z1, z2⟩
              have zl := hz8.len
              refine ⟨_, rfl, _, rfl, _, rfl, _, rfl, show 1 ≤ sizeLine by decide, fun t nt => ?_⟩
              have st := same_new (o := .tup [.int (c : Nat)]) nt
              have qt : SqT K (upd H8 t (.tup [.int (c : Nat)])) t ((castW [c]).map V.int) := .of upd_same
              refine cat_any (sqT_same st hxa) qt (by simp only [List.length_map, cast_len', List.length_cons, List.length_nil]; omega) fun v9 H9 s9 ⟨c9, e9, q9⟩ => ?_
              subst e9
              rw [← List.map_append, ← castW_app] at q9
              have iv : Rt.In n (v ++ [c]) := Rt.In.app.mpr ⟨nv.1, fun z hz => by rw [List.mem_singleton.mp hz]; exact cn⟩
              have S9 := st.trans s9
              have hrv9 : RAt K H9 rv bs n := hrv6.offE (o8.trans (.of_same S9)) hp6 (.inl ⟨_, rfl⟩)
              refine ⟨rv, .ref c9, n, bs, v ++ [c], _, rfl, hrv9, ⟨c9, rfl, q9⟩, va, iv, nfc_nf va iv, by rw [List.length_append, List.length_singleton]; omega, fun vA HA sA tA => ?_⟩
              obtain ⟨bA, rfl, qA⟩ := id tA
              have SA := S9.trans sA
              have hpA := SA _ _ hp8
              have hzA := hz8.same SA
              have oA := o8.trans (.of_same SA)
              refine ⟨_, rfl, bA, _, rfl, .inr qA, _, rfl, xa, _, rfl, .inr (sqT_same SA hxa), _, _, rfl, rfl, _, rfl, ?_⟩
              rw [List.length_map, List.length_map, cast_len', cast_len']
              refine ite2 (fun q => ?_) (fun q => ?_)
              · have up : (nfc n bs (v ++ [c])).length > v.length := by
                  have := of_decide_eq_true q
                  omega
                refine ⟨_, rfl, _, rfl, bA, p, .bl true, .w (castW (nfc n bs (v ++ [c]))), zs, rfl, rfl, rfl, tA, ⟨.inl hpA, hzA.1⟩, hpA, small1000 (by omega), fun no => ?_, fun e1 he1 ek => ?_⟩
                · refine ⟨⟨_, _, rfl⟩, oA.trans off_upd, _, _, upd_same, (hzA.snoc tA).off off_upd hpA (.inl ⟨_, rfl⟩), LI8.more va hJ nv jv vi cJ up (fun hin => ?_) step, by rw [List.length_append, List.length_singleton]; omega⟩
                  obtain ⟨e2, he2, ek2⟩ := hzA.from hin
                  exact no e2 he2 (by rw [ek2])
                · refine ⟨⟨_, _, rfl⟩, oA.trans off_upd, _, _, upd_same, (hzA.put).off off_upd hpA (.inl ⟨_, rfl⟩), LI8.keep (.inr ?_) step, by omega⟩
                  obtain ⟨u, hu, eu⟩ := hzA.to he1
                  rw [← WotAt.nk eu ek]
                  exact hu
              · have up : ¬ (nfc n bs (v ++ [c])).length > v.length := fun z => q (decide_eq_true (by omega))
                exact ⟨⟨_, _, rfl⟩, oA, zs, vs, hpA, hzA, LI8.keep (.inl up) step, by omega⟩
            · rintro σ H8 ⟨⟨v7, v8, rfl⟩, o8, zs, vs, hp8, hz8, LI8, vl8⟩
              rw [jll, List.take_length] at LI8
              refine ⟨⟨_, _, _, rfl⟩, o8, zs, vs, hp8, hz8, LI8.mono (fun a' b' z => ?_), by omega⟩
              rw [take_snoc ev, List.mem_append, List.mem_singleton] at z
              rcases z.1 with z1 | z1
              · exact .inl ⟨z1, z.2⟩
              · exact .inr ⟨z1, z.2⟩
        · rintro σ H7 ⟨⟨v6, v7, v8, rfl⟩, o7, zs, vs, hp7, hz7, LI, vl⟩
          rw [xl, List.take_length] at LI
          have L2 := LI.done va hJ LL
          have zl := hz7.len
          refine ⟨_, rfl, p, zs, vs.map castW, rfl, ⟨.inl hp7, hz7.1⟩, by rw [hz7.2, List.map_map]; rfl, small1000 (by omega), fun ys2 ms q hy2 pm so nq => ?_⟩
          obtain ⟨M2, em2, pM2⟩ := back_words pm
          subst em2
          have sq := same_new (o := .lst ys2) nq
          have s7 := same_off npH s6 o7
          have hg7 := sq _ _ (o7 _ _ pg hg6)
          refine ⟨⟨q, _, _, _, _, M2, W0 ++ L, i + 1, ys2, ys ++ xs, rfl, s7.trans sq, upd_same, hy2.imp fun _ _ z => z.same sq, L2.perm pM2, so, U2, hg7, ?_, (ne_of_none (o7 _ _ pg hg6) nq).symm⟩, ?_⟩
          · rw [List.map_append]
            exact hy6.imp fun _ _ z => TI.same (offE_ti o7 hp6 (.inl ⟨_, rfl⟩) z) sq
          · unfold lenAt
            rw [hg7]
            simp only [List.length_append]
            omega
    · rintro σ H Q Q' hq ⟨v, hv, z, f⟩
      exact ⟨v, hv, z, fun l nl => (f l nl).elim fun d ⟨e, a, b, c, c2, k, ek, q⟩ => ⟨d, e, a, b, c, c2, k, ek, hq _ _ q⟩⟩
end
end Sk

namespace Sk
open PySem L2 Ow
/-! as many even members as odd ones between two members -/
def sm (g : List Nat → Int) : List (List Nat) → Int
  | [] => 0
  | x :: l => g x + sm g l
theorem sm_app (g : List Nat → Int) : ∀ a b : List (List Nat), sm g (a ++ b) = sm g a + sm g b
  | [], b => by show sm g b = 0 + sm g b; omega
  | x :: a, b => by show g x + sm g (a ++ b) = g x + sm g a + sm g b; rw [sm_app g a b]; omega
theorem sm_perm (g : List Nat → Int) {a b : List (List Nat)} (p : a.Perm b) : sm g a = sm g b := by
  induction p with
  | nil => rfl
  | cons x _ ih => show g x + _ = g x + _; rw [ih]
  | swap x y l => show g y + (g x + sm g l) = g x + (g y + sm g l); omega
  | trans _ _ h1 h2 => exact h1.trans h2
theorem sm_congr {g h : List Nat → Int} : ∀ {a : List (List Nat)}, (∀ x ∈ a, g x = h x) → sm g a = sm h a
  | [], _ => rfl
  | x :: a, e => by show g x + sm g a = h x + sm h a; rw [e x (by simp), sm_congr fun y hy => e y (by simp [hy])]
theorem sm_zero : ∀ {a : List (List Nat)} {g : List Nat → Int}, (∀ x ∈ a, g x = 0) → sm g a = 0
  | [], _, _ => rfl
  | x :: a, g, e => by show g x + sm g a = 0; rw [e x (by simp), sm_zero fun y hy => e y (by simp [hy])]; rfl
theorem sm_sub (g h : List Nat → Int) : ∀ a : List (List Nat), sm (fun x => g x - h x) a = sm g a - sm h a
  | [] => rfl
  | x :: a => by show (g x - h x) + sm _ a = (g x + sm g a) - (h x + sm h a); rw [sm_sub g h a]; omega
theorem sm_add (g h : List Nat → Int) : ∀ a : List (List Nat), sm (fun x => g x + h x) a = sm g a + sm h a
  | [] => rfl
  | x :: a => by show (g x + h x) + sm _ a = (g x + sm g a) + (h x + sm h a); rw [sm_add g h a]; omega
theorem sm_map (g : List Nat → Int) (f : List Nat → List Nat) : ∀ a : List (List Nat), sm g (a.map f) = sm (fun x => g (f x)) a
  | [] => rfl
  | x :: a => by show g (f x) + sm g (a.map f) = _; rw [sm_map g f a]; rfl
theorem sm_filter (g : List Nat → Int) (p : List Nat → Bool) : ∀ a : List (List Nat), (∀ x ∈ a, p x = false → g x = 0) → sm g (a.filter p) = sm g a
  | [], _ => rfl
  | x :: a, h => by
    have ih := sm_filter g p a fun y hy => h y (by simp [hy])
    cases e : p x with
    | true => rw [List.filter_cons_of_pos (by rw [e])]; show g x + _ = g x + _; rw [ih]
    | false =>
      rw [List.filter_cons_of_neg (by rw [e]; decide), ih]
      show _ = g x + sm g a
      rw [h x (by simp) e]
      omega
section
variable {n : Nat} {bs : List (List Int)}
structure LoW (n : Nat) (bs : List (List Int)) (w : List Nat) (us : List (List Nat)) : Prop where
  nd : us.Nodup
  me : ∀ x, x ∈ us ↔ NW n bs x ∧ Und n bs x w
theorem UL.low {w : List Nat} {us : List (List Nat)} (h : UL n bs w us) : LoW n bs w us := ⟨h.nd, h.me⟩
theorem fdin_ex (vs : List (List Nat)) (c : Nat) (nd : vs.Nodup) : ∀ j, j ≤ vs.length → ∃ ws, FdIn n bs vs c j ws
  | 0, _ => ⟨vs, .zero nd⟩
  | j + 1, h => by
    obtain ⟨ws, hw⟩ := fdin_ex vs c nd j (by omega)
    have e : vs[j]? = some vs[j] := List.getElem?_eq_getElem (by omega)
    by_cases m : nfc n bs (vs[j] ++ [c]) ∈ ws
    · exact ⟨ws, hw.keep e m⟩
    · exact ⟨_, hw.more e m⟩
theorem fd_ex (va : Valid n bs) (w : List Nat) (hw : Rt.In n w) : ∀ i, i ≤ w.length → ∃ vs, Fd n bs (w.take i) vs
  | 0, _ => ⟨_, .zero va⟩
  | i + 1, h => by
    obtain ⟨vs, g⟩ := fd_ex va w hw i (by omega)
    have e : w[i]? = some w[i] := List.getElem?_eq_getElem (by omega)
    obtain ⟨ws, k⟩ := fdin_ex (n := n) (bs := bs) vs (w[i]) g.nd vs.length (Nat.le_refl _)
    refine ⟨ws, ?_⟩
    rw [take_snoc e]
    exact k.done va (fun z hz => hw z (List.mem_of_mem_take hz)) (hw _ (List.getElem_mem _)) g
theorem low_ex (va : Valid n bs) {w : List Nat} (hw : NW n bs w) : ∃ us, LoW n bs w us := by
  obtain ⟨vs, g⟩ := fd_ex va w hw.1 w.length (Nat.le_refl _)
  rw [List.take_length] at g
  exact ⟨vs, g.nd, g.und va hw⟩
def eps (x : List Nat) : Int := if x.length % 2 = 0 then 1 else -1
open Classical in
noncomputable def gU (n : Nat) (bs : List (List Int)) (u x : List Nat) : Int := if Und n bs u x then eps x else 0
open Classical in
noncomputable def desB (n : Nat) (bs : List (List Int)) (s : Nat) (x : List Nat) : Bool := decide (Rt.len n (mB bs) (s :: x) < Rt.len n (mB bs) x)
theorem gU_iff {u v x : List Nat} (h : Und n bs u x ↔ Und n bs v x) : gU n bs u x = gU n bs v x := by
  unfold gU
  by_cases c : Und n bs u x
  · rw [if_pos c, if_pos (h.mp c)]
  · rw [if_neg c, if_neg (fun z => c (h.mpr z))]
theorem euler (va : Valid n bs) : ∀ (N : Nat) {w : List Nat}, NW n bs w → w.length = N → ∀ {u : List Nat}, Rt.In n u → ¬ Rt.Cg n (mB bs) u w → ∀ {us : List (List Nat)}, LoW n bs w us → sm (gU n bs u) us = 0
  | 0, w, hw, hl, u, hu, ne, us, L => by
    obtain rfl := List.eq_nil_of_length_eq_zero hl
    refine sm_zero fun x hx => ?_
    obtain ⟨nx, le⟩ := (L.me x).mp hx
    unfold gU
    rw [if_neg]
    intro h
    have t := Rt.Le.trans (sysN va) nx.1 hw.1 h le
    obtain ⟨l1, l2⟩ := Rt.Le.lens (sysN va) hw.1 t
    have z : Rt.len n (mB bs) [] = 0 := Nat.le_zero.mp (Rt.len_self [])
    exact ne (l2 (by omega))
  | N + 1, w, hw, hl, u, hu, ne, us, L => by
    cases w with
    | nil => cases hl
    | cons s y =>
      have S := sysN va
      obtain ⟨ny, hs, hd, _⟩ := hw.tail va
      have cyy := Rt.cons2 (m := mB bs) hs y
      obtain ⟨vs, M⟩ := low_ex va ny
      have hy : Und n bs y (s :: y) := NW.sub va hw (List.sublist_cons_self _ _) (.rfl _)
      -- what a letter does
      have up : ∀ {x : List Nat}, NW n bs x → ¬ Rt.len n (mB bs) (s :: x) < Rt.len n (mB bs) x → NW n bs (nfc n bs (s :: x)) ∧ (nfc n bs (s :: x)).length = x.length + 1 ∧ Rt.Cg n (mB bs) (s :: x) (nfc n bs (s :: x)) := fun hx no => NW.up va hs hx no
      have top : ∀ {x : List Nat}, Rt.In n x → ¬ Rt.len n (mB bs) (s :: x) < Rt.len n (mB bs) x → Rt.len n (mB bs) (s :: s :: x) < Rt.len n (mB bs) (s :: x) := fun {x} hx no => by
        rw [Rt.len_congr (Rt.cons2 (m := mB bs) hs x)]
        rcases Rt.len_cons (m := mB bs) hs x with g | g <;> omega
      have perm : us.Perm (vs.filter (fun x => !desB n bs s x) ++ (vs.filter (fun x => !desB n bs s x)).map (fun x => nfc n bs (s :: x))) := by
        have inA : ∀ x, x ∈ vs.filter (fun x => !desB n bs s x) ↔ (NW n bs x ∧ Und n bs x y) ∧ ¬ Rt.len n (mB bs) (s :: x) < Rt.len n (mB bs) x := fun x => by
          rw [List.mem_filter, M.me]
          unfold desB
          simp
        refine (List.perm_ext_iff_of_nodup L.nd ?_).mpr fun x => ?_
        · rw [List.nodup_append]
          refine ⟨M.nd.filter _, ?_, fun a ha b hb e => ?_⟩
          · refine List.pairwise_map.mpr ((M.nd.filter _).imp_of_mem fun {a b} ha hb q e => q ?_)
            obtain ⟨⟨na, _⟩, da⟩ := (inA a).mp ha
            obtain ⟨⟨nb, _⟩, db⟩ := (inA b).mp hb
            refine (na.eq va nb).mpr ?_
            have c := (up na da).2.2.trans ((Rt.Cg.rfl _ : Rt.Cg n (mB bs) (nfc n bs (s :: a)) _).trans (e ▸ (up nb db).2.2.symm))
            exact (Rt.cons2 hs a).symm.trans ((c.cons s).trans (Rt.cons2 hs b))
          · obtain ⟨z, hz, rfl⟩ := List.mem_map.mp hb
            obtain ⟨⟨na, _⟩, da⟩ := (inA a).mp ha
            obtain ⟨⟨nz, _⟩, dz⟩ := (inA z).mp hz
            have t := top nz.1 dz
            have c := (up nz dz).2.2
            rw [Rt.len_congr (c.cons s), Rt.len_congr c, ← e] at t
            exact da t
        · rw [L.me, List.mem_append, List.mem_map]
          constructor
          · rintro ⟨nx, le⟩
            have lf := (Rt.Le.lift S hs hw.1 nx.1 hd).mp le
            by_cases dx : Rt.len n (mB bs) (s :: x) < Rt.len n (mB bs) x
            · right
              rw [Rt.dn_pos dx] at lf
              have ix := nx.1.cons hs
              have nf := nfc_nf va ix
              have nz := NW.of va ix nf
              have cz := (nf.cg ix).1
              have dz : ¬ Rt.len n (mB bs) (s :: nfc n bs (s :: x)) < Rt.len n (mB bs) (nfc n bs (s :: x)) := by
                rw [← Rt.len_congr (cz.cons s), ← Rt.len_congr cz, Rt.len_congr (Rt.cons2 (m := mB bs) hs x)]
                omega
              refine ⟨nfc n bs (s :: x), (inA _).mpr ⟨⟨nz, lf.of cz.symm cyy.symm⟩, dz⟩, ?_⟩
              exact (((up nz dz).1).eq va nx).mpr ((up nz dz).2.2.symm.trans ((cz.symm.cons s).trans (Rt.cons2 hs x)))
            · left
              rw [Rt.dn_neg dx] at lf
              exact (inA x).mpr ⟨⟨nx, lf.of (.rfl _) cyy.symm⟩, dx⟩
          · rintro (h | ⟨z, hz, rfl⟩)
            · obtain ⟨⟨nx, le⟩, dx⟩ := (inA x).mp h
              exact ⟨nx, Rt.Le.trans S ny.1 hw.1 le hy⟩
            · obtain ⟨⟨nz, le⟩, dz⟩ := (inA z).mp hz
              obtain ⟨a, b, c⟩ := up nz dz
              refine ⟨a, Rt.Le.of ((Rt.Le.turn S hs hw.1 nz.1 hd).mpr (Rt.Le.trans S ny.1 hw.1 le hy)) c.symm (.rfl _)⟩
      rw [sm_perm _ perm, sm_app, sm_map, ← sm_add]
      have epu : ∀ {x : List Nat}, NW n bs x → ¬ Rt.len n (mB bs) (s :: x) < Rt.len n (mB bs) x → eps (nfc n bs (s :: x)) = - eps x := fun {x} hx no => by
        unfold eps
        rw [(up hx no).2.1]
        by_cases c : x.length % 2 = 0
        · rw [if_pos c, if_neg (by omega)]
        · rw [if_neg c, if_pos (by omega)]
          rfl
      have memA : ∀ {x : List Nat}, x ∈ vs.filter (fun x => !desB n bs s x) → NW n bs x ∧ ¬ Rt.len n (mB bs) (s :: x) < Rt.len n (mB bs) x := fun {x} h => by
        obtain ⟨h1, h2⟩ := List.mem_filter.mp h
        refine ⟨((M.me x).mp h1).1, ?_⟩
        unfold desB at h2
        simpa using h2
      by_cases du : Rt.len n (mB bs) (s :: u) < Rt.len n (mB bs) u
      · -- s takes u down
        have iu := hu.cons hs
        have e1 : sm (fun x => gU n bs u x + gU n bs u (nfc n bs (s :: x))) (vs.filter (fun x => !desB n bs s x)) = sm (fun x => gU n bs u x - gU n bs (s :: u) x) (vs.filter (fun x => !desB n bs s x)) := by
          refine sm_congr fun x hx => ?_
          obtain ⟨nx, dx⟩ := memA hx
          have iff : Und n bs u (nfc n bs (s :: x)) ↔ Und n bs (s :: u) x := by
            obtain ⟨a, b, c⟩ := up nx dx
            have l := Rt.Le.lift S hs (nx.1.cons hs) hu (top nx.1 dx)
            rw [Rt.dn_pos du] at l
            exact ⟨fun h => (l.mp (h.of (.rfl _) c)).of (.rfl _) (Rt.cons2 hs x).symm, fun h => (l.mpr (h.of (.rfl _) (Rt.cons2 hs x))).of (.rfl _) c.symm⟩
          have e2 : gU n bs u (nfc n bs (s :: x)) = - gU n bs (s :: u) x := by
            unfold gU
            by_cases c : Und n bs (s :: u) x
            · rw [if_pos c, if_pos (iff.mpr c), epu nx dx]
            · rw [if_neg c, if_neg (fun z => c (iff.mp z))]
              rfl
          show gU n bs u x + gU n bs u (nfc n bs (s :: x)) = gU n bs u x - gU n bs (s :: u) x
          rw [e2]
          omega
        rw [e1, sm_filter, sm_sub]
        · have h1 := euler va N ny (by simpa using hl) hu (fun c => by
            have a := Rt.len_congr c
            have b := Rt.len_congr (c.cons s)
            have d := Rt.len_congr cyy
            rw [d] at hd
            omega) M
          have h2 := euler va N ny (by simpa using hl) iu (fun c => ne ((Rt.cons2 hs u).symm.trans (c.cons s))) M
          rw [h1, h2]
          rfl
        · intro x hx e
          have dx : Rt.len n (mB bs) (s :: x) < Rt.len n (mB bs) x := by
            unfold desB at e
            simpa using e
          have nx := ((M.me x).mp hx).1
          have := gU_iff (n := n) (bs := bs) (Rt.Le.turn S hs nx.1 hu dx)
          show gU n bs u x - gU n bs (s :: u) x = 0
          rw [this]
          omega
      · refine sm_zero fun x hx => ?_
        obtain ⟨nx, dx⟩ := memA hx
        have iff : Und n bs u (nfc n bs (s :: x)) ↔ Und n bs u x := by
          obtain ⟨a, b, c⟩ := up nx dx
          have l := Rt.Le.lift S hs (nx.1.cons hs) hu (top nx.1 dx)
          rw [Rt.dn_neg du] at l
          exact ⟨fun h => (l.mp (h.of (.rfl _) c)).of (.rfl _) (Rt.cons2 hs x).symm, fun h => (l.mpr (h.of (.rfl _) (Rt.cons2 hs x))).of (.rfl _) c.symm⟩
        show gU n bs u x + gU n bs u (nfc n bs (s :: x)) = 0
        unfold gU
        by_cases c : Und n bs u x
        · rw [if_pos c, if_pos (iff.mpr c), epu nx dx]
          omega
        · rw [if_neg c, if_neg (fun z => c (iff.mp z))]
          rfl
open Classical in
noncomputable def undD (n : Nat) (bs : List (List Int)) (u x : List Nat) : Bool := decide (Und n bs u x)
noncomputable def iv (n : Nat) (bs : List (List Int)) (u : List Nat) (us : List (List Nat)) : List (List Nat) := us.filter (undD n bs u)
open Classical in
theorem undD_iff {u x : List Nat} : undD n bs u x = true ↔ Und n bs u x := by
  unfold undD
  exact decide_eq_true_iff
theorem mem_iv {u x : List Nat} {us : List (List Nat)} : x ∈ iv n bs u us ↔ x ∈ us ∧ Und n bs u x := by
  unfold iv
  rw [List.mem_filter, undD_iff]
open Classical in
theorem sm_iv (u : List Nat) : ∀ us : List (List Nat), sm (gU n bs u) us = 2 * (((iv n bs u us).filter fun x => decide (x.length % 2 = 0)).length : Int) - ((iv n bs u us).length : Int)
  | [] => rfl
  | x :: us => by
    have ih := sm_iv u us
    show gU n bs u x + sm (gU n bs u) us = _
    unfold iv at ih ⊢
    rw [ih]
    by_cases c : Und n bs u x
    · rw [List.filter_cons_of_pos (undD_iff.mpr c)]
      unfold gU eps
      rw [if_pos c]
      by_cases d : x.length % 2 = 0
      · rw [if_pos d, List.filter_cons_of_pos (by simpa using d), List.length_cons, List.length_cons]
        omega
      · rw [if_neg d, List.filter_cons_of_neg (by simpa using d), List.length_cons]
        omega
    · rw [List.filter_cons_of_neg (by rw [undD_iff]; exact c)]
      unfold gU
      rw [if_neg c]
      omega
theorem half (va : Valid n bs) {u w : List Nat} (hw : NW n bs w) (hu : Rt.In n u) (ne : ¬ Rt.Cg n (mB bs) u w) {us : List (List Nat)} (L : LoW n bs w us) : 2 * ((iv n bs u us).filter fun x => decide (x.length % 2 = 0)).length = (iv n bs u us).length := by
  have := euler va w.length hw rfl hu ne L
  rw [sm_iv] at this
  omega
end
end Sk

namespace Sk
open PySem L2 Ow
/-! facts of the sorted list of the words under a word -/
section
variable {n : Nat} {bs : List (List Int)} {w : List Nat} {us : List (List Nat)}
theorem ul_ex (va : Valid n bs) (hw : NW n bs w) : ∃ us, UL n bs w us ∧ us.length ≤ 2 ^ w.length := by
  obtain ⟨vs, g⟩ := fd_ex va w hw.1 w.length (Nat.le_refl _)
  rw [List.take_length] at g
  have O := SL.lw_swo (fun x : List Nat => codeW x)
  have pm := List.mergeSort_perm vs (fun a b => !SL.lwB (codeW b) (codeW a))
  refine ⟨vs.mergeSort (fun a b => !SL.lwB (codeW b) (codeW a)), ⟨?_, pm.nodup_iff.mpr g.nd, fun x => pm.mem_iff.trans (g.und va hw x)⟩, by rw [pm.length_eq]; exact g.ln⟩
  have := List.pairwise_mergeSort (le := fun a b => !SL.lwB (codeW b) (codeW a)) (fun a b c h k => by
    rw [Bool.not_eq_true'] at *
    exact O.tr a b c h k) (fun a b => by
    cases h : SL.lwB (codeW b) (codeW a) with
    | false => simp
    | true =>
      have := O.asym b a h
      rw [this]
      rfl) vs
  exact this.imp fun h => by rwa [Bool.not_eq_true'] at h
theorem lw_len {x y : List Nat} (h : SL.lwB (codeW y) (codeW x) = false) : x.length ≤ y.length := by
  unfold SL.lwB at h
  by_cases e : (codeW y).1 = (codeW x).1
  · have : (y.length : Int) = (x.length : Int) := e
    omega
  · rw [if_neg e] at h
    have : ¬ ((y.length : Int) < (x.length : Int)) := of_decide_eq_false h
    omega
theorem mem_le (va : Valid n bs) (hw : NW n bs w) {x : List Nat} (hx : NW n bs x) (h : Und n bs x w) : x.length ≤ w.length ∧ (x.length = w.length → x = w) := by
  obtain ⟨a, b⟩ := Rt.Le.lens (sysN va) hw.1 h
  rw [← hx.len, ← hw.len] at a b
  exact ⟨a, fun e => (hx.eq va hw).mpr (b e)⟩
theorem last_of {l : List (List Nat)} (so : l.Pairwise fun x y => x.length ≤ y.length) (nd : l.Nodup) (hm : w ∈ l) (le : ∀ x ∈ l, x.length ≤ w.length ∧ (x.length = w.length → x = w)) : ∃ a, l = a ++ [w] := by
  obtain ⟨a, b, rfl⟩ := List.append_of_mem hm
  cases b with
  | nil => exact ⟨a, rfl⟩
  | cons y b =>
    exfalso
    have h1 := (List.pairwise_append.mp so).2.1
    have h2 := (List.pairwise_cons.mp h1).1 y (by simp)
    obtain ⟨h3, h4⟩ := le y (by simp)
    have e := h4 (by omega)
    have nd2 := (List.nodup_append.mp nd).2.1
    exact (List.nodup_cons.mp nd2).1 (by rw [e]; simp)
theorem first_of {l : List (List Nat)} {m : List Nat} (so : l.Pairwise fun x y => x.length ≤ y.length) (nd : l.Nodup) (hm : m ∈ l) (le : ∀ x ∈ l, m.length ≤ x.length ∧ (x.length = m.length → x = m)) : ∃ a, l = m :: a := by
  obtain ⟨a, b, rfl⟩ := List.append_of_mem hm
  cases a with
  | nil => exact ⟨b, rfl⟩
  | cons y a =>
    exfalso
    have h2 := (List.pairwise_cons.mp so).1 m (by simp)
    obtain ⟨h3, h4⟩ := le y (by simp)
    have e := h4 (by omega)
    exact (List.nodup_cons.mp nd).1 (by rw [e]; simp)
theorem UL.lens (U : UL n bs w us) : us.Pairwise fun x y => x.length ≤ y.length := U.so.imp fun h => lw_len h
theorem UL.self (U : UL n bs w us) (hw : NW n bs w) : w ∈ us := (U.me w).mpr ⟨hw, Rt.Le.refl w⟩
theorem UL.le (U : UL n bs w us) (va : Valid n bs) (hw : NW n bs w) : ∀ x ∈ us, x.length ≤ w.length ∧ (x.length = w.length → x = w) := fun x hx => mem_le va hw ((U.me x).mp hx).1 ((U.me x).mp hx).2
theorem UL.last (U : UL n bs w us) (va : Valid n bs) (hw : NW n bs w) : ∃ l, us = l ++ [w] := last_of U.lens U.nd (U.self hw) (U.le va hw)
theorem iv_sub (u : List Nat) : (iv n bs u us).Sublist us := List.filter_sublist
theorem iv_none (U : UL n bs w us) (va : Valid n bs) (hw : NW n bs w) {u : List Nat} (no : ¬ Und n bs u w) : iv n bs u us = [] := by
  refine List.eq_nil_iff_forall_not_mem.mpr fun x hx => ?_
  obtain ⟨h1, h2⟩ := mem_iv.mp hx
  obtain ⟨h3, h4⟩ := (U.me x).mp h1
  exact no (Rt.Le.trans (sysN va) h3.1 hw.1 h2 h4)
theorem iv_ends (U : UL n bs w us) (va : Valid n bs) (hw : NW n bs w) {u : List Nat} (hu : Rt.In n u) (h : Und n bs u w) : (∃ l, iv n bs u us = l ++ [w]) ∧ ∃ l, iv n bs u us = nfc n bs u :: l := by
  have nf := nfc_nf va hu
  have nu := NW.of va hu nf
  obtain ⟨cg, el⟩ := nf.cg hu
  have so := U.lens.sublist (iv_sub (n := n) (bs := bs) (us := us) u)
  have nd := U.nd.sublist (iv_sub (n := n) (bs := bs) (us := us) u)
  refine ⟨last_of so nd (mem_iv.mpr ⟨U.self hw, h⟩) fun x hx => U.le va hw x (mem_iv.mp hx).1, first_of so nd (mem_iv.mpr ⟨(U.me _).mpr ⟨nu, h.of cg.symm (.rfl _)⟩, (Rt.Le.refl u).of (.rfl _) cg.symm⟩) fun x hx => ?_⟩
  obtain ⟨h1, h2⟩ := mem_iv.mp hx
  have nx := ((U.me x).mp h1).1
  obtain ⟨a, b⟩ := Rt.Le.lens (sysN va) nx.1 h2
  rw [← nx.len] at a b
  refine ⟨by omega, fun e => (nx.eq va nu).mpr ((b (by omega)).symm.trans cg)⟩
theorem iv_nil (U : UL n bs w us) (va : Valid n bs) (hw : NW n bs w) {u : List Nat} (hu : Rt.In n u) : iv n bs u us = [] ↔ ¬ Und n bs u w := by
  refine ⟨fun e h => ?_, iv_none U va hw⟩
  obtain ⟨_, l, h2⟩ := iv_ends U va hw hu h
  rw [e] at h2
  cases h2
/-- how many of each length -/
def nums (us : List (List Nat)) (L : Nat) : List Int := (List.range (L + 1)).map fun k => (((us.map List.length).count k : Nat) : Int)
theorem nums_len (us : List (List Nat)) (L : Nat) : (nums us L).length = L + 1 := by
  unfold nums
  rw [List.length_map, List.length_range]
theorem nums_perm {us vs : List (List Nat)} (p : (us.map List.length).Perm (vs.map List.length)) (L : Nat) : nums us L = nums vs L := by
  unfold nums
  exact List.map_congr_left fun k _ => by rw [p.count_eq]
/-- the words under the other reading -/
theorem ul_rev (va : Valid n bs) (hw : NW n bs w) {vs : List (List Nat)} (U : UL n bs w us) (V : UL n bs (nfc n bs w.reverse) vs) : (nfc n bs w.reverse).length = w.length ∧ (us.map List.length).Perm (vs.map List.length) := by
  have rl : ∀ {x : List Nat}, NW n bs x → NW n bs (nfc n bs x.reverse) ∧ Rt.Cg n (mB bs) x.reverse (nfc n bs x.reverse) ∧ (nfc n bs x.reverse).length = x.length := fun {x} hx => by
    have nf := nfc_nf va hx.1.rev
    obtain ⟨c, l⟩ := nf.cg hx.1.rev
    refine ⟨NW.of va hx.1.rev nf, c, ?_⟩
    rw [l, Rt.len_rev, ← hx.len]
  obtain ⟨nw, cw, lw⟩ := rl hw
  have p : (us.map fun x => nfc n bs x.reverse).Perm vs := by
    refine (List.perm_ext_iff_of_nodup ?_ V.nd).mpr fun x => ?_
    · refine List.pairwise_map.mpr (U.nd.imp_of_mem fun {a b} ha hb q e => q ?_)
      have na := ((U.me a).mp ha).1
      have nb := ((U.me b).mp hb).1
      refine (na.eq va nb).mpr ?_
      have c := (rl na).2.1.trans (e ▸ (rl nb).2.1.symm)
      have := c.rev
      rwa [List.reverse_reverse, List.reverse_reverse] at this
    · rw [V.me, List.mem_map]
      constructor
      · rintro ⟨y, hy, rfl⟩
        obtain ⟨ny, le⟩ := (U.me y).mp hy
        exact ⟨(rl ny).1, (Rt.Le.rev le).of (rl ny).2.1.symm cw.symm⟩
      · rintro ⟨nx, le⟩
        obtain ⟨na, ca, la⟩ := rl nx
        refine ⟨nfc n bs x.reverse, (U.me _).mpr ⟨na, ?_⟩, ?_⟩
        · have := Rt.Le.rev le
          have cr := cw.rev
          rw [List.reverse_reverse] at cr
          exact this.of ca.symm cr
        · refine ((rl na).1.eq va nx).mpr ?_
          refine (rl na).2.1.symm.trans ?_
          have := ca.rev
          rw [List.reverse_reverse] at this
          exact this.symm
  refine ⟨lw, ?_⟩
  have := p.map List.length
  rw [List.map_map] at this
  refine List.Perm.trans (List.Perm.of_eq ?_) this
  exact List.map_congr_left fun x hx => (rl ((U.me x).mp hx).1).2.2.symm
/-- those one shorter -/
def covs (us : List (List Nat)) (L : Nat) : List (List Nat) := us.filter fun x => decide ((x.length : Int) = (L : Int) - 1)
end
end Sk

namespace Sk
open PySem L2 Ow
/-! what is reckoned of written words -/
def plainB (st : List (List Int)) : Bool := st.all fun x => x.getD 1 0 == 0
def runsB (lk : List (List (List Int))) : List (List Int) → List Int → Bool
  | st, [] => plainB st && (lefts st).isEmpty
  | st, l :: ws => plainB st && ((lefts st).head? == some l && runsB lk (putA lk st l) ws)
theorem plain_fine {st : List (List Int)} (h : plainB st = true) : Fine st := fun x hx => .inl (by
  have := List.all_eq_true.mp h x hx
  exact eq_of_beq this)
theorem runsB_ok {lk : List (List (List Int))} : ∀ {ws : List Int} {st : List (List Int)}, runsB lk st ws = true → Runs lk st ws
  | [], st, h => by
    unfold runsB at h
    have h := Bool.and_eq_true_iff.mp h
    exact .done (plain_fine h.1) (List.isEmpty_iff.mp h.2)
  | l :: ws, st, h => by
    unfold runsB at h
    have h := Bool.and_eq_true_iff.mp h
    have h2 := Bool.and_eq_true_iff.mp h.2
    have h3 := eq_of_beq h2.1
    cases e : lefts st with
    | nil => rw [e] at h3; cases h3
    | cons a r =>
      rw [e] at h3
      obtain rfl : a = l := Option.some.inj h3
      exact .step (plain_fine h.1) e (runsB_ok h2.2)
theorem Runs.det {lk : List (List (List Int))} : ∀ {st : List (List Int)} {us vs : List Int}, Runs lk st us → Runs lk st vs → us = vs
  | _, _, _, .done _ _, .done _ _ => rfl
  | _, _, _, .done _ h, .step _ h' _ => by rw [h] at h'; cases h'
  | _, _, _, .step _ h' _, .done _ h => by rw [h] at h'; cases h'
  | _, _, _, .step _ h r, .step _ h' r' => by
    rw [h] at h'
    cases h'
    rw [Runs.det r r']
theorem nf_runs {n : Nat} {bs : List (List Int)} (va : Valid n bs) {w us : List Nat} (hw : Rt.In n w) (l : w.length < 90) (h : Runs (lkOf bs n) (stOf bs n (castW w)) (castW us)) : Rt.Nf n (mB bs) w us := by
  obtain ⟨vs, nf, _, _, le, _⟩ := nf_all va hw
  have := Runs.det h (runs_nf va nf hw (by omega))
  rw [castW_inj this]
  exact nf
def ledS (lk : List (List (List Int))) : List (List Int) → List Int → List (List Int)
  | st, [] => st
  | st, l :: ws => ledS lk (if bel (st.getD l.toNat []) then putA lk st l else st) ws
theorem down_led {n : Nat} {bs : List (List Int)} (va : Valid n bs) : ∀ {w u : List Nat}, Rt.In n w → Rt.In n u → stOf bs n (castW (Rt.down n (mB bs) u w)) = ledS (lkOf bs n) (stOf bs n (castW u)) (castW w)
  | [], u, _, _ => rfl
  | s :: w, u, hw, hu => by
    have hs := hw s (by simp)
    show stOf bs n (castW (Rt.down n (mB bs) (Rt.dn n (mB bs) s u) w)) = ledS (lkOf bs n) (if bel ((stOf bs n (castW u)).getD ((s : Nat) : Int).toNat []) then putA (lkOf bs n) (stOf bs n (castW u)) s else stOf bs n (castW u)) (castW w)
    rw [down_led va hw.tail (Rt.dn_in hs hu)]
    have low := st_low va hu hs
    rw [show ((s : Nat) : Int).toNat = s from rfl]
    by_cases h : Rt.len n (mB bs) (s :: u) < Rt.len n (mB bs) u
    · rw [Rt.dn_pos h, if_pos (low.mpr h), st_cons]
    · rw [Rt.dn_neg h, if_neg (fun z => h (low.mp z))]
def undB (bs : List (List Int)) (n : Nat) (u w us : List Nat) : Bool := u.all (fun i => decide (i < n)) && (w.all (fun i => decide (i < n)) && (decide (w.length < 90) && runsB (lkOf bs n) (stOf bs n (castW w)) (castW us)))
theorem all_in {n : Nat} {u : List Nat} (h : u.all (fun i => decide (i < n)) = true) : Rt.In n u := fun x hx => of_decide_eq_true (List.all_eq_true.mp h x hx)
theorem undB_ok {n : Nat} {bs : List (List Int)} (va : Valid n bs) {u w us : List Nat} (h : undB bs n u w us = true) : Rt.In n u ∧ Rt.In n w ∧ (Und n bs u w ↔ ledS (lkOf bs n) (stOf bs n (castW u)) (castW us) = first n) := by
  obtain ⟨h1, h⟩ := Bool.and_eq_true_iff.mp h
  obtain ⟨h2, h⟩ := Bool.and_eq_true_iff.mp h
  obtain ⟨h3, h⟩ := Bool.and_eq_true_iff.mp h
  have hu := all_in h1
  have hw := all_in h2
  have nf := nf_runs va hw (of_decide_eq_true h3) (runsB_ok h)
  have hus := (nf.cg hw).1.in_.mp hw
  refine ⟨hu, hw, ?_⟩
  rw [und_down va hu hw nf, down_led va hus hu]
def subs : List Nat → List (List Nat)
  | [] => [[]]
  | a :: l => subs l ++ (subs l).map (a :: ·)
theorem mem_subs : ∀ {l v : List Nat}, v ∈ subs l ↔ v.Sublist l
  | [], v => by
    unfold subs
    rw [List.mem_singleton, List.sublist_nil]
  | a :: l, v => by
    unfold subs
    rw [List.mem_append, List.mem_map]
    constructor
    · rintro (h | ⟨u, hu, rfl⟩)
      · exact (mem_subs.mp h).trans (List.sublist_cons_self _ _)
      · exact (mem_subs.mp hu).cons_cons a
    · intro h
      cases h with
      | cons _ h => exact .inl (mem_subs.mpr h)
      | cons_cons _ h => exact .inr ⟨_, mem_subs.mpr h, rfl⟩
def nfB (bs : List (List Int)) (n : Nat) (v x : List Nat) : Bool := runsB (lkOf bs n) (stOf bs n (castW v)) (castW x)
def ulB (bs : List (List Int)) (n : Nat) (w u0 : List Nat) (us : List (List Nat)) : Bool :=
  w.all (fun i => decide (i < n)) && (decide (w.length < 90) && (nfB bs n w u0 && (nfB bs n u0 u0 && (us.all (fun x => (subs u0).any fun v => nfB bs n v x) && (subs u0).all fun v => us.any fun x => nfB bs n v x))))
theorem ulB_ok {n : Nat} {bs : List (List Int)} (va : Valid n bs) {w u0 : List Nat} {us : List (List Nat)} (h : ulB bs n w u0 us = true) (so : Sorted us) (nd : us.Nodup) : Rt.In n w ∧ Rt.Nf n (mB bs) w u0 ∧ UL n bs u0 us := by
  obtain ⟨h1, h⟩ := Bool.and_eq_true_iff.mp h
  obtain ⟨h2, h⟩ := Bool.and_eq_true_iff.mp h
  obtain ⟨h3, h⟩ := Bool.and_eq_true_iff.mp h
  obtain ⟨h4, h⟩ := Bool.and_eq_true_iff.mp h
  obtain ⟨h5, h6⟩ := Bool.and_eq_true_iff.mp h
  have hw := all_in h1
  have l := of_decide_eq_true h2
  have nf := nf_runs va hw l (runsB_ok h3)
  have n0 := NW.of va hw nf
  have l0 : u0.length ≤ w.length := by rw [(nf.cg hw).2]; exact Rt.len_self w
  have sub : ∀ {v : List Nat}, v ∈ subs u0 → Rt.In n v ∧ v.length < 90 := fun hv => ⟨n0.1.sub (mem_subs.mp hv), by have := (mem_subs.mp hv).length_le; omega⟩
  refine ⟨hw, nf, so, nd, fun x => ⟨fun hx => ?_, fun ⟨hx, le⟩ => ?_⟩⟩
  · obtain ⟨v, hv, e⟩ := List.any_eq_true.mp (List.all_eq_true.mp h5 x hx)
    obtain ⟨iv, lv⟩ := sub hv
    have nv := nf_runs va iv lv (runsB_ok e)
    exact ⟨NW.of va iv nv, NW.sub va n0 (mem_subs.mp hv) (nv.cg iv).1.symm⟩
  · obtain ⟨v0, sv, c⟩ := (Rt.Le.iff (sysN va) n0.1 (Rt.Cg.rfl _) n0.len).mp le
    have m := mem_subs.mpr sv
    obtain ⟨iv, lv⟩ := sub m
    obtain ⟨y, hy, e⟩ := List.any_eq_true.mp (List.all_eq_true.mp h6 v0 m)
    have ny := nf_runs va iv lv (runsB_ok e)
    obtain rfl : y = x := (nf_eq va iv hx.1 ny hx.2).mpr c.symm
    exact hy
theorem vRows : Valid 3 (nb 0 3) := okB_valid (d := (3, nb 0 3)) (by decide)
def us14 : List (List Nat) := [[], [0], [1], [2], [0, 1], [0, 2], [1, 0], [1, 2], [2, 1], [0, 1, 0], [0, 2, 1], [1, 0, 2], [1, 2, 1], [1, 0, 2, 1]]
theorem m1 : Rt.In 3 [1, 0, 2, 1] ∧ Rt.Nf 3 (mB (nb 0 3)) [1, 0, 2, 1] [1, 0, 2, 1] ∧ UL 3 (nb 0 3) [1, 0, 2, 1] us14 := ulB_ok vRows (by decide +kernel) (by unfold Sorted; decide +kernel) (by decide +kernel)
end Sk

namespace Sk
open PySem L2 Ow
open Rt (InJ NoJ)
/-- a list of whole numbers -/
def LI (K : PySem.W.Frag) (H : Hp) (v : V) (ns : List Int) : Prop := ∃ a, v = .ref a ∧ SqL K H a (ns.map V.int)
theorem LI.same {K : PySem.W.Frag} {H H' : Hp} {v : V} {ns : List Int} (h : LI K H v ns) (s : Same H H') : LI K H' v ns := h.elim fun a ⟨e, q⟩ => ⟨a, e, q.ext s⟩
theorem offE_sl {K : PySem.W.Frag} {D : Addr} {H H' : Hp} {u : HO} {a : Addr} {xs : List V} (o : Off D H H') (hD : H D = some u) (e : IsE u) (h : SqL K H a xs) : SqL K H' a xs := by
  have ne : ∀ z, H a = some z → (∀ φ, z ≠ .ext φ) → (∀ o φ, z ≠ .frz o (.ext φ)) → a ≠ D := fun z hz n1 n2 w => by
    rw [w, hD] at hz
    rcases e with ⟨φ, rfl⟩ | ⟨o, φ, rfl⟩
    · exact n1 φ (Option.some.inj hz).symm
    · exact n2 o φ (Option.some.inj hz).symm
  rcases h with (h | ⟨f, h⟩) | h
  · exact .inl (.inl (o a _ (ne _ h (fun _ z => nomatch z) (fun _ _ z => nomatch z)) h))
  · exact .inl (.inr ⟨f, o a _ (ne _ h (fun _ z => nomatch z) (fun _ _ z => nomatch z)) h⟩)
  · exact .inr h
theorem LI.off {K : PySem.W.Frag} {D : Addr} {H H' : Hp} {u : HO} {v : V} {ns : List Int} (h : LI K H v ns) (o : Off D H H') (hD : H D = some u) (e : IsE u) : LI K H' v ns := h.elim fun a ⟨z, q⟩ => ⟨a, z, offE_sl o hD e q⟩
def spNextL (P : Program) (Wo : World) (K : PySem.W.Frag) : Sp := fun vs H Q _ => ∃ (kv jv : V) (d : Addr) (n : Nat) (bs : List (List Int)) (J : List Nat) (i : Nat) (xs : List GE) (L : List (List Nat)), vs = [kv, .ref d, jv] ∧ LkAt K H kv (lkOf bs n) ∧ LI K H jv (castW J) ∧ H d = some (.ext (phiG P Wo d xs)) ∧ LevAt K H xs bs n L ∧ LvJ n bs J i L ∧ Valid n bs ∧ Rt.In n J ∧ J.length ≤ 4 ∧ i ≤ 40 ∧ L.length ≤ 200 ∧
  ∀ (r : Addr) (ys : List GE) (L' : List (List Nat)) H', Same H H' → H r = none → H' r = some (.ext (phiG P Wo r ys)) → LevAt K H' ys bs n L' → LvJ n bs J (i + 1) L' → L'.length ≤ 4 * L.length → Q (.ref r) H'
section
variable {P : Program} {Wo : World} {K : PySem.W.Frag} {mg : Str → Option Value} {base : Heap} {C : Addr}
theorem cal_next_level_byL (T : Txt K mg C) : Cal P Wo K mg base "next_level_by" 4 (spNextL P Wo K) := by
  refine T.d_next_level_by.cal (ps := ["links", "level", "letters"]) (fun f fd D => ?_) (fun _ _ _ _ _ _ us hl => match us, hl with | [_, _, _], _ => rfl)
  refine D.ok sc_next_level_by (fun vs H Q E h => ?_) (fun cdv A outer s H vs Q E hr h => ?_)
  · obtain ⟨_, _, _, _, _, _, _, _, _, rfl, _⟩ := h
    rfl
  · obtain ⟨kv, _, d, n, bs, J, lvl, xs, L, rfl, hlk, ⟨ja, rfl, hja⟩, hd, hL, LL, va, hJ, jl, i40, l200, k⟩ := h
    refine ⟨_, (pss_cons (ps_set (i := 3) sc_next_level_by.nd rfl (Or.inl rfl) (pe_dnewP P Wo rfl rfl))
      (pss_cons (ps_lock (ps_for PassesOwn.never rfl (pi_keysG (pv 1)) (pg_name (i := 4) sc_next_level_by.nd rfl (Or.inl rfl)) (pss_one (ps_for PassesOwn.never rfl (pi_list (pv 2)) (pg_name (i := 5) sc_next_level_by.nd rfl (Or.inl rfl)) (pss_one (ps_if (pt_not (pt_val (pe_cal (cal_is_below T) (hr.mono (by decide)) (by rfl) (pa_cons (pe_ix ix_tup (pv 4) (pv 5) (fun _ _ => rfl)) pa_nil)))) (pss_cons (ps_set (i := 6) sc_next_level_by.nd rfl (Or.inl rfl) (pe_cal (cal_put_ahead T) (hr.mono (by decide)) (by rfl) (pa_cons (pv 0) (pa_cons (pv 4) (pa_cons (pv 5) pa_nil)))))
      (pss_one (ps_if (pt_cmpR (op_notInG (u65 hr)) (pv 6) (pv 3) (by rfl)) (pss_cons (ps_set (i := 7) sc_next_level_by.nd rfl (Or.inl rfl) (pe_ix ix_list (pe_cal (cal_left_of T) (hr.mono (by decide)) (by rfl) (pa_cons (pv 6) pa_nil)) pe_int (fun _ _ => rfl)))
      (pss_cons (ps_set (i := 8) sc_next_level_by.nd rfl (Or.inl rfl) (pe_ix (ix_G (u65 hr)) (pv 1) (pe_cal (cal_put_ahead T) (hr.mono (by decide)) (by rfl) (pa_cons (pv 0) (pa_cons (pv 6) (pa_cons (pv 7) pa_nil)))) (fun _ _ => rfl)))
      (pss_one (ps_asg (pe_tup (pa_cons (pv 7) (StX.pa_star (pv 8) pa_nil))) (pg_sub (pv 3) (pv 6) (set_G (u65 hr))))))) pss_nil))) pss_nil))))))
      (pss_one (ps_ret (pv 3))))), ?_⟩
    have n4 := va.hi
    have n1 := va.lo
    intro D nD
    have sD := same_new (o := .ext (phiG P Wo D [])) nD
    have ne : d ≠ D := ne_of_none hd nD
    refine ⟨d, _, sD _ _ hd, trivial, fun od => ?_⟩
    have jll : ((castW J).map V.int).length = J.length := by rw [List.length_map, cast_len']
    have Lx := hL.len
    refine ⟨_, rfl, d, od, xs, rfl, upd_same, for_it walk_G (fun i σ H' => (∃ v4 v5 v6 v7 v8 : Option V, σ = [some kv, some (.ref d), some (.ref ja), some (.ref D), v4, v5, v6, v7, v8]) ∧ Off d H H' ∧ H' d = some (.frz od (.ext (phiG P Wo d xs))) ∧ ∃ ys F, H' D = some (.ext (phiG P Wo D ys)) ∧ LevAt K H' ys bs n F ∧ LvJIn n bs J lvl (fun v s => v ∈ L.take i ∧ s ∈ J) F ∧ F.length ≤ 4 * i) ⟨⟨_, _, _, _, _, rfl⟩, ?_, upd_same, [], [], ?_, ⟨fun x hx => (by cases hx), rfl, trivial⟩, LvJIn.start.mono (fun a b z => (by cases z.1)), Nat.zero_le _⟩ (fun i σ H' _ h => h.2.2.1) ?_ ?_⟩
    · exact (Off.of_same sD).trans off_upd
    · rw [upd_ne ne.symm]
      exact upd_same
    · rintro i y σ H2 H3 hi ⟨⟨v4, v5, v6, v7, v8, rfl⟩, o2, hd2, ys, F, hD2, hF, FI, fl⟩ ⟨rfl, e, ee, rfl⟩
      obtain ⟨v, ev, ek, kb, _⟩ := (hL.off o2 hd (.inl ⟨_, rfl⟩)).nth ee
      have vin : v ∈ L := List.mem_of_getElem? ev
      obtain ⟨nv, jv, vl⟩ := (LL.me v).mp vin
      have il := (List.getElem?_eq_some_iff.mp ev).1
      refine ⟨_, rfl, ja, rfl, ⟨_, offE_sl o2 hd (.inl ⟨_, rfl⟩) hja⟩, for_list (K := K) (a := ja) (xs := (castW J).map V.int) (fun j σ H' => (∃ v5 v6 v7 v8 : Option V, σ = [some kv, some (.ref d), some (.ref ja), some (.ref D), some (.ref e.2.1), v5, v6, v7, v8]) ∧ Off d H H' ∧ H' d = some (.frz od (.ext (phiG P Wo d xs))) ∧ ∃ ys F, H' D = some (.ext (phiG P Wo D ys)) ∧ LevAt K H' ys bs n F ∧ LvJIn n bs J lvl (fun a s => (a ∈ L.take i ∧ s ∈ J) ∨ (a = v ∧ s ∈ J.take j)) F ∧ F.length ≤ 4 * i + j) ⟨⟨_, _, _, _, rfl⟩, o2, hd2, ys, F, hD2, hF, FI.mono (fun a b z => z.elim id fun z => (by cases z.2)), by omega⟩ (fun j σ H' _ h => offE_sl h.2.1 hd (.inl ⟨_, rfl⟩) hja) ?_ ?_⟩
      · rintro j x σ H4 hj ⟨⟨v5, v6, v7, v8, rfl⟩, o4, hd4, ys, F, hD4, hF4, FI4, fl4⟩
        obtain ⟨c, hc, rfl⟩ := castW_get hj
        have cJ := List.mem_of_getElem? hc
        have cn := hJ c cJ
        have jlt := (List.getElem?_eq_some_iff.mp hc).1
        have lk4 : LkAt K H4 kv (lkOf bs n) := offE_lk o4 hd (.inl ⟨_, rfl⟩) hlk
        have kb4 : BsAt K H4 (.ref e.2.1) (stN bs n v) := by
          obtain ⟨v', ev', _, kb', _⟩ := (hL.off o4 hd (.inl ⟨_, rfl⟩)).nth ee
          rw [ev] at ev'
          cases ev'
          exact kb'
        obtain ⟨a, b, e1, fn, e2⟩ := st_fineN (bs := bs) va nv.1 (by omega) cn
        obtain ⟨sa, sx, esa, hsa, hsx⟩ := id kb4
        obtain ⟨xv, ex, tx⟩ := (A2.of_tis hsx).at_ e1
        have low := st_low va nv.1 cn
        rw [e2] at low
        cases esa
        have step : ∀ a' b', ((a' ∈ L.take i ∧ b' ∈ J) ∨ (a' = v ∧ b' ∈ J.take (j + 1))) → ((a' ∈ L.take i ∧ b' ∈ J) ∨ (a' = v ∧ b' ∈ J.take j)) ∨ (a' = v ∧ b' = c) := fun a' b' z => by
          rcases z with z | ⟨z1, z2⟩
          · exact .inl (.inl z)
          · rw [take_snoc hc, List.mem_append, List.mem_singleton] at z2
            rcases z2 with z2 | z2
            · exact .inl (.inr ⟨z1, z2⟩)
            · exact .inr ⟨z1, z2⟩
        refine ⟨_, rfl, _, rfl, _, _, _, _, rfl, rfl, hsa, at_of (j := c) rfl ex, xv, _, rfl, tx, rfl, fn, _, rfl, ?_⟩
        by_cases hb : bel [a, b] = true
        · rw [hb]
          exact iteF ⟨⟨_, _, _, _, rfl⟩, o4, hd4, ys, F, hD4, hF4, FI4.keep (.inl (low.mp hb)) step, by omega⟩
        · have hb' : bel [a, b] = false := by cases z : bel [a, b] with
            | true => exact absurd z hb
            | false => rfl
          have no : ¬ Rt.len n (mB bs) (c :: v) < Rt.len n (mB bs) v := fun z => hb (low.mpr z)
          rw [hb']
          refine iteT ?_
          refine ⟨_, rfl, _, rfl, _, rfl, kv, .ref e.2.1, (c : Nat), n, lkOf bs n, stN bs n v, rfl, lk4, kb4, lkN va, stOkN _, by omega, by omega, fun v5' H5 s5 b5 => ?_⟩
          rw [← st_cons] at b5
          obtain ⟨nx, xl, xc⟩ := NW.up va cn nv no
          have ix := nv.1.cons cn
          have ekx : stOf bs n (castW (c :: v)) = stN bs n (nfc n bs (c :: v)) := st_of_cg va ix nx.1 xc
          rw [ekx] at b5
          have jx : InJ J (nfc n bs (c :: v)) := nf_inJ va hJ (v := c :: v) (fun z hz => by
            rcases List.mem_cons.mp hz with rfl | hz
            · exact cJ
            · exact jv z hz) (nfc_nf va ix)
          obtain ⟨ka, ksx, rfl, hks, tks⟩ := id b5
          have hD5 := s5 _ _ hD4
          have hd5 := s5 _ _ hd4
          have hF5 := hF4.same s5
          have o5 := o4.trans (.of_same s5)
          have Fl := hF5.len
          refine ⟨_, rfl, _, rfl, ka, D, .s (stN bs n (nfc n bs (c :: v))), ys, rfl, rfl, b5, ⟨.inl hD5, hF5.ks⟩, fun hin => ?_, fun hno => ?_⟩
          · obtain ⟨en, hen, een⟩ := hin
            obtain ⟨u, hu, eu, _⟩ := hF5.to hen
            rw [eu] at een
            have es := nkS_inj een
            have nu := (FI4.nw u hu).1
            have : u = nfc n bs (c :: v) := (nu.eq va nx).mpr ((st_iff va nu.1 nx.1).mp es)
            rw [this] at hu
            exact ⟨_, rfl, iteF ⟨⟨_, _, _, _, rfl⟩, o5, hd5, ys, F, hD5, hF5, FI4.keep (.inr hu) step, by omega⟩⟩
          · refine ⟨_, rfl, iteT ?_⟩
            have new : nfc n bs (c :: v) ∉ F := fun hin => by
              obtain ⟨e3, he3, ek3, _⟩ := hF5.from hin
              exact hno e3 he3 (by rw [ek3])
            cases hx : nfc n bs (c :: v) with
            | nil => rw [hx] at xl; cases xl
            | cons s0 y =>
              rw [hx] at b5 nx xl xc jx new
              have jback : y ∈ L := LL.back va nx jx (by rw [xl, vl])
              have nwx := nw_of va nx.1 nx.2 (by rw [xl]; omega)
              have s0n := nx.1 s0 (by simp)
              have xlen : (s0 :: y).length ≤ 41 := by omega
              refine ⟨_, rfl, .ref ka, stN bs n (s0 :: y), n, rfl, b5, stOkN _, by omega, fine_word va (show Rt.In (n : Int).toNat (s0 :: y) from nx.1) (by omega), fun a6 H6 s6 n6 ha6 => ?_⟩
              obtain ⟨rr, hlf⟩ : ∃ r, lefts (stN bs n (s0 :: y)) = ((s0 : Nat) : Int) :: r := by
                have h : Runs (lkOf bs n) (stN bs n (s0 :: y)) (((s0 : Nat) : Int) :: castW y) := nwx
                cases h with
                | step _ e _ => exact ⟨_, e⟩
              rw [hlf] at ha6
              refine ⟨_, _, _, _, rfl, rfl, .of ha6, at_of (j := 0) rfl rfl, ?_⟩
              have lk6 : LkAt K H6 kv (lkOf bs n) := (lk4.same s5).same s6
              refine ⟨_, rfl, _, rfl, _, rfl, _, rfl, kv, .ref ka, ((s0 : Nat) : Int), n, lkOf bs n, stN bs n (s0 :: y), rfl, lk6, b5.same s6, lkN va, stOkN _, by omega, by omega, fun v7 H7 s7 b7 => ?_⟩
              rw [← st_cons] at b7
              have iy := nx.1.tail
              have eky : stOf bs n (castW (s0 :: s0 :: y)) = stN bs n y := st_of_cg va (nx.1.cons s0n) iy (Rt.cons2 s0n y)
              rw [eky] at b7
              obtain ⟨kb7, ks7, rfl, _, _⟩ := id b7
              have hd7 := s7 _ _ (s6 _ _ hd5)
              have o7 := o5.trans (.of_same (s6.trans s7))
              have hL7 := hL.off o7 hd (.inl ⟨_, rfl⟩)
              obtain ⟨en, hen, een, ten⟩ := hL7.from jback
              refine ⟨kb7, d, .s (stN bs n y), xs, en, rfl, rfl, b7, ⟨.inr ⟨_, hd7⟩, hL7.ks⟩, hen, by rw [een], ?_⟩
              obtain ⟨ra, era, rq⟩ := ten
              rw [era]
              have D7 : H7 D = some (.ext (phiG P Wo D ys)) := s7 _ _ (s6 _ _ hD5)
              have hF7 := (hF5.same s6).same s7
              refine ⟨_, rfl, _, rfl, ra, _, rfl, .inl rq, ⟨szl (by simp only [List.length_cons, List.length_append, List.length_nil, List.length_map, cast_len'] at xlen ⊢; omega), fun p8 n8 => ?_⟩⟩
              have s8 := same_new (o := .tup (.int ((s0 : Nat) : Int) :: ((castW y).map V.int ++ []))) n8
              have D8 := s8 _ _ D7
              have hF8 := hF7.same s8
              have b8 := ((b5.same s6).same s7).same s8
              have t8 : TI K (upd H7 p8 (.tup (.int ((s0 : Nat) : Int) :: ((castW y).map V.int ++ [])))) (.ref p8) (castW (s0 :: y)) := ⟨p8, rfl, by
                have e9 : V.int ((s0 : Nat) : Int) :: ((castW y).map V.int ++ []) = (castW (s0 :: y)).map V.int := by
                  rw [List.append_nil]
                  rfl
                rw [← e9]
                exact .of upd_same⟩
              have hd8 := s8 _ _ hd7
              have o8 := o7.trans (.of_same s8)
              refine ⟨_, rfl, _, rfl, ka, D, .at_ p8, .s (stN bs n (s0 :: y)), ys, rfl, rfl, rfl, b8, ⟨.inl D8, hF8.ks⟩, D8, small1000 (by omega), fun _ => ?_, fun e1 he1 ek1 => ?_⟩
              · have oD : Off d H (upd (upd H7 p8 (.tup (.int ((s0 : Nat) : Int) :: ((castW y).map V.int ++ [])))) D (.ext (phiG P Wo D (ys ++ [(.s (stN bs n (s0 :: y)), ka, .at_ p8)])))) := fun q o nq e => by
                  rw [upd_ne (ne_of_none e nD)]
                  exact o8 q o nq e
                refine ⟨⟨_, _, _, _, rfl⟩, oD, ?_, _, F ++ [s0 :: y], upd_same, (hF8.snoc b8 t8).off off_upd D8 (.inl ⟨_, rfl⟩), ?_, by rw [List.length_append, List.length_singleton]; omega⟩
                · rw [upd_ne ne]
                  exact hd8
                · have := FI4.more va hJ nv jv vl cJ no (by rw [hx]; exact new) step
                  rwa [hx] at this
              · exfalso
                obtain ⟨u, hu, eu, _⟩ := hF8.to he1
                rw [eu] at ek1
                have nu := (FI4.nw u hu).1
                have : u = s0 :: y := (nu.eq va nx).mpr ((st_iff va nu.1 nx.1).mp (nkS_inj ek1))
                rw [this] at hu
                exact new hu
      · rintro σ H4 ⟨⟨v5, v6, v7, v8, rfl⟩, o4, hd4, ys, F, hD4, hF4, FI4, fl4⟩
        rw [jll, List.take_length] at FI4
        refine ⟨⟨_, _, _, _, _, rfl⟩, o4, hd4, ys, F, hD4, hF4, FI4.mono (fun a' b' z => ?_), by omega⟩
        rw [take_snoc ev, List.mem_append, List.mem_singleton] at z
        rcases z.1 with z1 | z1
        · exact .inl ⟨z1, z.2⟩
        · exact .inr ⟨z1, z.2⟩
    · rintro σ H2 ⟨⟨v4, v5, v6, v7, v8, rfl⟩, o2, hd2, ys, F, hD, hF, FI, fl⟩
      rw [Lx, List.take_length] at FI
      refine ⟨hd2, _, rfl, k D ys F _ (fun q o e => ?_) nD (by rw [upd_ne ne.symm]; exact hD) (hF.off off_upd hd2 (.inr ⟨_, _, rfl⟩)) (FI.done va LL) (by omega)⟩
      by_cases z : q = d
      · subst z
        rw [hd] at e
        rw [upd_same]
        exact e
      · rw [upd_ne z]
        exact o2 _ _ z e
end
end Sk

namespace Sk
open PySem L2 Ow
open Rt (InJ NoJ)
def spWordsL (K : PySem.W.Frag) : Sp := fun vs H Q _ => ∃ (kv jv : V) (n : Nat) (bs : List (List Int)) (J : List Nat) (most : Int) (W : List (List Nat)), vs = [kv, jv, .int most] ∧ LkAt K H kv (lkOf bs n) ∧ LI K H jv (castW J) ∧ Valid n bs ∧ Rt.In n J ∧ J.length ≤ 4 ∧ AllJ n bs J W ∧ W.length ≤ 120 ∧ (∀ x ∈ W, x.length ≤ 24) ∧ (W.length : Nat) ≤ most ∧
  ∀ (g : Addr) (ys : List V) H', Same H H' → H g = none → H' g = some (.lst ys) → A2 (TI K H') ys (W.map castW) → Q (.ref g) H'
section
variable {P : Program} {Wo : World} {K : PySem.W.Frag} {mg : Str → Option Value} {base : Heap} {C : Addr}
theorem cal_words_byL (T : Txt K mg C) : Cal P Wo K mg base "words_by" 5 (spWordsL K) := by
  refine T.d_words_by.cal (ps := ["links", "letters", "most"]) (fun f fd D => ?_) (fun _ _ _ _ _ _ us hl => match us, hl with | [_, _, _], _ => rfl)
  refine D.ok sc_words_by (fun vs H Q E h => ?_) (fun cdv A outer s H vs Q E hr h => ?_)
  · obtain ⟨_, _, _, _, _, _, _, rfl, _⟩ := h
    rfl
  · obtain ⟨kv, jv, n, bs, J, most, W, rfl, hlk, tj, va, hJ, jl, AW, w120, w24, wm, k⟩ := h
    refine ⟨_, (pss_cons (ps_set (i := 3) sc_words_by.nd rfl (Or.inl rfl) (pe_disp1P P Wo rfl rfl (u65 hr) (pe_cal (cal_first_state T) (hr.mono (by decide)) (by rfl) (pa_cons (pv 0) pa_nil)) (pe_tup pa_nil)))
      (pss_cons (ps_set (i := 4) sc_words_by.nd rfl (Or.inl rfl) (pe_lst pa_nil))
      (pss_cons (ps_while PassesOwn.never (pt_truthR (pv 3) tru_G (fun _ => rfl)) (pss_cons (ps_expr (pe_bm PySem.F.plainAttrs_list PySem.F.slot_list_extend PySem.F.type_list_extend mt_extend (pv 4) (pa_cons (pe_callB (cr_sortVG rfl (u66 hr)) (by rfl) T.b_sorted (by decide +kernel) (pa_cons (pe_valuesG (pv 3)) pa_nil)) pa_nil)))
      (pss_cons (ps_if (pt_cmpR op_gt (pe_callB call_len_seq (by rfl) T.b_len (by decide +kernel) (pa_cons (pv 4) pa_nil)) (pv 2) (nomark _)) (pss_one (ps_ret pe_non)) pss_nil)
      (pss_one (ps_set (i := 3) sc_words_by.nd rfl (Or.inl rfl) (pe_cal (cal_next_level_byL T) (hr.mono (by decide)) (by rfl) (pa_cons (pv 0) (pa_cons (pv 3) (pa_cons (pv 1) pa_nil)))))))))
      (pss_one (ps_ret (pv 4)))))), ?_⟩
    have n4 := va.hi
    have n1 := va.lo
    intro p np
    have sp := same_new (o := .ext (phiG P Wo p [])) np
    refine ⟨_, rfl, kv, lkOf bs n, rfl, hlk.same sp, by have := (lkN va).few; rw [(lkN va).len]; exact this, fun v1 H1 s1 hb1 => ?_⟩
    rw [(lkN va).len] at hb1
    obtain ⟨b1, ys1, rfl, q1, t1⟩ := id hb1
    refine ⟨Nat.zero_le _, fun t nt => ?_⟩
    have st := same_new (o := .tup []) nt
    refine ⟨b1, .at_ t, .s (stN bs n []), rfl, hb1.same st, st _ _ (s1 _ _ upd_same), Nat.zero_le _, fun g ng => ?_⟩
    have sd : Same H (upd (upd H1 t (.tup [])) p (.ext (phiG P Wo p [(.s (stN bs n []), b1, .at_ t)]))) := same_off np ((sp.trans s1).trans st) off_upd
    have lv0 : LevAt K (upd (upd H1 t (.tup [])) p (.ext (phiG P Wo p [(.s (stN bs n []), b1, .at_ t)]))) [(.s (stN bs n []), b1, .at_ t)] bs n [[]] := by
      have o : Off p (upd H1 t (.tup [])) (upd (upd H1 t (.tup [])) p (.ext (phiG P Wo p [(.s (stN bs n []), b1, .at_ t)]))) := off_upd
      have hp := st _ _ (s1 _ _ (upd_same (H := H) (a := p) (o := .ext (phiG P Wo p []))))
      refine ⟨fun x hx => ?_, rfl, offE_ti o hp (.inl ⟨_, rfl⟩) ⟨t, rfl, .of upd_same⟩, trivial⟩
      rw [List.mem_singleton.mp hx]
      exact offE_bs o hp (.inl ⟨_, rfl⟩) (hb1.same st)
    have hd0 : (upd (upd H1 t (.tup [])) p (.ext (phiG P Wo p [(.s (stN bs n []), b1, .at_ t)]))) p = some (.ext (phiG P Wo p [(.s (stN bs n []), b1, .at_ t)])) := upd_same
    change (upd (upd H1 t (.tup [])) p (.ext (phiG P Wo p [(.s (stN bs n []), b1, .at_ t)]))) g = none at ng
    have gH := sd.free ng
    have sg := same_new (o := .lst []) ng
    dsimp only [gName, tSeq]
    refine while_by (fun σ H' => ∃ (ld : Addr) (xs : List GE) (L W0 : List (List Nat)) (i : Nat) (ys : List V), σ = [some kv, some jv, some (.int most), some (.ref ld), some (.ref g)] ∧ Same H H' ∧ H' ld = some (.ext (phiG P Wo ld xs)) ∧ LevAt K H' xs bs n L ∧ LvJ n bs J i L ∧ UpJ n bs J i W0 ∧ H' g = some (.lst ys) ∧ A2 (TI K H') ys (W0.map castW) ∧ ld ≠ g) (fun _ H' => 1000 - lenAt H' g) ?_ ?_ ?_
    · exact ⟨p, _, _, [], 0, [], rfl, sd.trans sg, sg _ _ hd0, lv0.same sg, .zero va, .zero, upd_same, trivial, ne_of_none hd0 ng⟩
    · rintro _ H3 ⟨ld, xs, L, W0, i, ys, rfl, s3, hld, hv, LL, U, hg, hy, nld⟩
      have yl := hy.len
      rw [List.length_map] at yl
      have vl := hv.len
      have uf := U.few AW
      have lf := LL.few AW
      refine ⟨_, rfl, ld, xs, rfl, ⟨.inl hld, hv.ks⟩, ?_⟩
      cases L with
      | nil =>
        have : xs = [] := List.eq_nil_of_length_eq_zero vl
        subst this
        refine iteF ⟨_, rfl, ?_⟩
        have e := U.end va LL AW
        subst e
        exact k g ys _ s3 gH hg hy
      | cons x0 L0 =>
        have i24 : i ≤ 24 := by
          have hx := (LL.me x0).mp (by simp)
          have := w24 x0 ((AW.me x0).mpr ⟨hx.1, hx.2.1⟩)
          omega
        have lpos : 0 < (x0 :: L0).length := by simp
        generalize (x0 :: L0) = L at *
        have xne : xs.isEmpty = false := by
          cases xs with
          | nil => simp only [List.length_nil] at vl; omega
          | cons => rfl
        rw [xne]
        refine iteT ?_
        refine ⟨_, rfl, .inl ⟨rfl, _, .of hg⟩, _, rfl, ld, xs, rfl, ⟨.inl hld, hv.ks⟩, fun r nr => ?_⟩
        have sr := same_new (o := viewO r ld) nr
        have hvr := hv.same sr
        refine ⟨r, ld, xs, L.map castW, rfl, upd_same, ⟨.inl (sr _ _ hld), hvr.ks⟩, hvr.vl, small1000 (by omega), fun ys2 ms p2 a2 pm sm np2 => ?_⟩
        obtain ⟨M, em, pM, U2⟩ := U.more LL pm sm
        subst em
        have sp2 := same_new (o := .lst ys2) np2
        have Ml := pM.length_eq
        have y2l := a2.len
        rw [List.length_map] at y2l
        have gp := sp2 _ _ (sr _ _ hg)
        have a2p := a2.imp fun _ _ z => TI.same z sp2
        have hyp := (hy.imp fun _ _ z => TI.same z sr).imp fun _ _ z => TI.same z sp2
        have hvp := hvr.same sp2
        have ldp := sp2 _ _ (sr _ _ hld)
        have sHp := (s3.trans sr).trans sp2
        have u2f := U2.few AW
        rw [List.length_append] at u2f
        refine ⟨g, p2, ys, ys2, rfl, rfl, gp, upd_same, szl (by omega), ?_⟩
        have o : Off g (upd (upd H3 r (viewO r ld)) p2 (.lst ys2)) (upd (upd (upd H3 r (viewO r ld)) p2 (.lst ys2)) g (.lst (ys ++ ys2))) := off_upd
        have sx : Same H (upd (upd (upd H3 r (viewO r ld)) p2 (.lst ys2)) g (.lst (ys ++ ys2))) := same_off gH sHp o
        have gx : (upd (upd (upd H3 r (viewO r ld)) p2 (.lst ys2)) g (.lst (ys ++ ys2))) g = some (.lst (ys ++ ys2)) := upd_same
        have ldx := o _ _ nld ldp
        have hvx : LevAt K (upd (upd (upd H3 r (viewO r ld)) p2 (.lst ys2)) g (.lst (ys ++ ys2))) xs bs n L := ⟨fun x hx => by
          have := hvp.ks x hx
          have e1 : ∃ v, x.1 = .s (stN bs n v) := (hvp.to hx).elim fun v z => ⟨v, z.2.1⟩
          obtain ⟨v, e1⟩ := e1
          rw [e1] at this ⊢
          exact o.bs gp this, hvp.ky, hvp.vl.imp fun _ _ z => o.ti gp z⟩
        have hyx := (A2.app hyp a2p).imp fun _ _ z => o.ti gp z
        have lyy : (ys ++ ys2).length = W0.length + M.length := by rw [List.length_append]; omega
        refine ⟨_, rfl, _, _, rfl, .inl (.of gx), _, rfl, _, _, rfl, rfl, _, rfl, ite2 (fun z => ?_) (fun _ => ?_)⟩
        · have := of_decide_eq_true z
          rw [lyy] at this
          omega
        · refine ⟨_, rfl, _, rfl, _, rfl, kv, jv, ld, n, bs, J, i, xs, L, rfl, hlk.same sx, tj.same sx, ldx, hvx, LL, va, hJ, jl, by omega, by omega, fun r2 ys' L' H9 s9 nr2 hr2 lv2 LL2 _ => ?_⟩
          have gx9 := s9 _ _ gx
          refine ⟨⟨r2, ys', L', W0 ++ M, i + 1, ys ++ ys2, rfl, sx.trans s9, hr2, lv2, LL2, U2, gx9, ?_, (ne_of_none gx nr2).symm⟩, ?_⟩
          · rw [List.map_append]
            exact hyx.imp fun _ _ z => z.same s9
          · unfold lenAt
            rw [gx9, hg]
            simp only
            rw [lyy]
            omega
    · rintro σ H Q Q' hq ⟨v, hv, d, xs, e, dn, h⟩
      exact ⟨v, hv, d, xs, e, dn, hq _ _ h⟩
end
end Sk

namespace Sk
open PySem L2 Ow
open Rt (InJ NoJ)
def rNotInT (K : PySem.W.Frag) : R2 := fun x y H Q => ∃ d ds, Dp K H x d ∧ Dp K H y (.tuple ds) ∧ SeqAt.shaped d = true ∧ SeqAt.shaped (.tuple ds) = true ∧ Q (.bl (!ds.any fun z => PyData.eqv z d)) H
theorem op_notInT {X : Cx} (hu : X.A.units + 65 < cLine) : OpR X (compareOp .NotIn) (rNotInT X.K) := by
  intro pins s σ H x y v u Q I rx ry h
  obtain ⟨d, ds, hd, he, sd, se, q⟩ := h
  obtain ⟨as, r1⟩ := Dp.reads I d x v hd rx
  obtain ⟨bs, r2⟩ := Dp.reads I (.tuple ds) y u he ry
  exact SeqAt.notIn_tuple_reads r2 r1 (SeqAt.canLay_of_shaped se) (SeqAt.canLay_of_shaped sd) (PyProof.Rows.room_in_shaped (xs := ds) sd hu) ⟨.bl _, H, I, rfl, q⟩
theorem rg_cast (n : Nat) : rgV 0 (n : Int) = (castW (List.range n)).map V.int := by
  unfold rgV castW
  rw [List.map_map, Int.sub_zero, Int.toNat_natCast]
  refine List.map_congr_left fun i _ => ?_
  show V.int (0 + (i : Int)) = V.int (i : Int)
  rw [Int.zero_add]
theorem in_range' (n : Nat) : Rt.In n (List.range n) := fun x hx => List.mem_range.mp hx
/-- the least members among some -/
def lowW (n : Nat) (bs : List (List Int)) (J : List Nat) (W : List (List Nat)) : List (List Nat) := W.filter fun x => (RJ n bs J x.reverse).isEmpty
theorem low_iff {n : Nat} {bs : List (List Int)} {J : List Nat} (va : Valid n bs) (hJ : Rt.In n J) {w : List Nat} (hw : Rt.In n w) : (RJ n bs J w.reverse).isEmpty = true ↔ NoJ n (mB bs) J w := by
  rw [List.isEmpty_iff]
  exact RJ_nil va hJ hw
def spMembers (K : PySem.W.Frag) (C : Addr) : Sp := fun vs H Q _ => ∃ (p : Addr) (n : Nat) (bv : V) (bs : List (List Int)) (W : List (List Nat)), vs = [.ref p] ∧ SysAt K C H p n bv bs ∧ Valid n bs ∧ AllJ n bs (List.range n) W ∧ W.length ≤ 120 ∧ (∀ x ∈ W, x.length ≤ 24) ∧ ∀ v H', Same H H' → BsAt K H' v (W.map castW) → Q v H'
def spLeastM (K : PySem.W.Frag) (C : Addr) : Sp := fun vs H Q _ => ∃ (p : Addr) (jv : V) (n : Nat) (bv : V) (bs : List (List Int)) (J : List Nat) (W : List (List Nat)), vs = [.ref p, jv] ∧ SysAt K C H p n bv bs ∧ Valid n bs ∧ TI K H jv (castW J) ∧ Rt.In n J ∧ Asc J ∧ J.length ≤ 4 ∧ AllJ n bs (List.range n) W ∧ W.length ≤ 120 ∧ (∀ x ∈ W, x.length ≤ 24) ∧ ∀ v H', Same H H' → BsAt K H' v ((lowW n bs J W).map castW) → Q v H'
section
variable {P : Program} {Wo : World} {K : PySem.W.Frag} {mg : Str → Option Value} {base : Heap} {C : Addr}
theorem cal_members (T : Txt K mg C) : Cal P Wo K mg base "members" 6 (spMembers K C) := by
  refine T.d_members.cal (ps := ["system"]) (fun f fd D => ?_) (fun _ _ _ _ _ _ us hl => match us, hl with | [_], _ => rfl)
  refine D.ok sc_members (fun vs H Q E h => ?_) (fun cdv A outer s H vs Q E hr h => ?_)
  · obtain ⟨_, _, _, _, _, rfl, _⟩ := h
    rfl
  · obtain ⟨p, n, bv, bs, W, rfl, y, va, AW, w120, w24, k⟩ := h
    have n4 := va.hi
    have n1 := va.lo
    refine ⟨_, (pss_cons (ps_expr (pe_cal (cal_check_system T) (hr.mono (by decide)) (by rfl) (pa_cons (pv 0) pa_nil)))
      (pss_cons (ps_set (i := 1) sc_members.nd rfl (Or.inl rfl) (pe_cal (cal_words_byL T) (hr.mono (by decide)) (by rfl) (pa_cons (pe_cal (cal_links_of T) (hr.mono (by decide)) (by rfl) (pa_cons (pv 0) pa_nil)) (pa_cons (pe_listRg rfl (by rfl) T.b_list (prg_1 (by rfl) T.b_range (pe_sletters T (hr.mono (by decide)) (pv 0)))) (pa_cons (C8.pe_gc (v := .int 120) (by rfl) T.g_MAX_MEMBERS) pa_nil)))))
      (pss_cons (ps_if (pt_cmpR op_isN (pv 1) pe_non (nomark _)) (pss_one ps_never) pss_nil)
      (pss_one (ps_ret (pe_callTy call_tuple_of (by rfl) T.b_tuple (by decide +kernel) (pa_cons (pv 1) pa_nil))))))), ?_⟩
    refine ⟨_, rfl, p, n, bv, bs, rfl, y, ?_⟩
    refine ⟨_, rfl, p, n, bv, bs, rfl, y, va, fun v1 H1 s1 hlk => ?_⟩
    obtain ⟨dx, g⟩ := (y.same s1).1
    refine ⟨_, rfl, p, dx, _, rfl, g, p, n, bv, bs, rfl, y.same s1, _, rfl, .of_le (by decide) (by omega) (by decide) (by omega), fun q nq => ?_⟩
    have sq := same_new (o := .lst (rgV 0 (n : Int))) nq
    refine ⟨v1, .ref q, n, bs, List.range n, 120, W, rfl, hlk.same sq, ⟨q, rfl, .of (by rw [upd_same, rg_cast])⟩, va, in_range' n, by rw [List.length_range]; omega, AW, w120, w24, by omega, fun gd ys H2 s2 ng hg hy => ?_⟩
    refine ⟨_, rfl, rfl, _, rfl, iteF ?_⟩
    refine ⟨_, rfl, gd, _, rfl, .inl ⟨.of hg, fun t nt => ?_⟩⟩
    have st := same_new (o := .tup ys) nt
    exact k _ _ (((s1.trans sq).trans s2).trans st) ⟨t, ys, rfl, .of upd_same, A2.tis (hy.imp fun _ _ z => z.same st)⟩
theorem cal_least_members (T : Txt K mg C) : Cal P Wo K mg base "least_members" 10 (spLeastM K C) := by
  refine T.d_least_members.cal (ps := ["system", "letters"]) (fun f fd D => ?_) (fun _ _ _ _ _ _ us hl => match us, hl with | [_, _], _ => rfl)
  refine D.ok sc_least_members (fun vs H Q E h => ?_) (fun cdv A outer s H vs Q E hr h => ?_)
  · obtain ⟨_, _, _, _, _, _, _, rfl, _⟩ := h
    rfl
  · obtain ⟨p, jv, n, bv, bs, J, W, rfl, y, va, tj, hJ, as, jl, AW, w120, w24, k⟩ := h
    have n4 := va.hi
    have n1 := va.lo
    refine ⟨_, (pss_cons (ps_expr (pe_cal (cal_check_system T) (hr.mono (by decide)) (by rfl) (pa_cons (pv 0) pa_nil)))
      (pss_cons (ps_expr (pe_cal (cal_check_letters T) (hr.mono (by decide)) (by rfl) (pa_cons (pv 0) (pa_cons (pv 1) pa_nil))))
      (pss_one (ps_ret (pe_callTy call_tuple_of (by rfl) T.b_tuple (by decide +kernel) (pa_cons (pe_lc (own := [("word", 2)]) (g := gName 2) rfl sc_least_members.nd (pi_tup (pe_cal (cal_members T) (hr.mono (by decide)) (by rfl) (pa_cons (pv 0) pa_nil))) (blkOk_by (own := [("word", 2)]) (N := ["system", "letters", "word"]) (sc := defScope s_least_members) (by decide +kernel)) (fun _ _ _ _ _ => (pg_name (i := 2) sc_least_members.nd rfl (Or.inl rfl))) (fun _ _ _ _ _ => (pts_one (pt_val (pe_cal (cal_is_least T) (hr.mono (by decide)) (by rfl) (pa_cons (pv 0) (pa_cons (pv 2) (pa_cons (pv 1) pa_nil))))))) (fun _ _ _ _ _ => (pv 2))) pa_nil)))))), ?_⟩
    refine ⟨_, rfl, p, n, bv, bs, rfl, y, ?_⟩
    refine ⟨_, rfl, _, rfl, p, jv, bv, n, bs, J, rfl, y, tj, hJ, as, jl, fun H1 s1 => ?_⟩
    have y1 := y.same s1
    have tj1 := tj.same s1
    refine ⟨_, rfl, p, n, bv, bs, W, rfl, y1, va, AW, w120, w24, fun v2 H2 s2 hb2 => ?_⟩
    obtain ⟨ya, lx, rfl, hya, hlx⟩ := hb2
    have y2 := y1.same s2
    have tj2 := tj1.same s2
    have S2 := s1.trans s2
    have lxl := hlx.len
    rw [List.length_map] at lxl
    refine ⟨ya, rfl, ⟨_, hya⟩, fun D nD => lc_it (walk_tup (K := K) (a := ya) (xs := lx)) (fun j H' => Same H2 H' ∧ ∃ zs, H' D = some (.lst zs) ∧ A2 (TI K H') zs ((lowW n bs J (W.take j)).map castW)) ⟨same_new nD, [], upd_same, trivial⟩ (fun j H' _ h => sqT_same h.1 hya) ?_ ?_⟩
    · rintro j yy Hb' Hb hj ⟨sb, zs, hD, hz⟩ ⟨eb', hyj⟩
      subst eb'
      obtain ⟨c0, ec, tc⟩ := (A2.of_tis hlx).get hyj
      rw [List.getElem?_map] at ec
      cases ez : W[j]? with
      | none => rw [ez] at ec; cases ec
      | some z0 =>
        rw [ez] at ec
        obtain rfl : c0 = castW z0 := (Option.some.inj ec).symm
        have zin := List.mem_of_getElem? ez
        have z24 := w24 z0 zin
        have nz := ((AW.me z0).mp zin).1
        have tcb := tc.same sb
        refine ⟨rfl, _, rfl, _, rfl, _, rfl, p, yy, jv, bv, n, bs, z0, J, rfl, y2.same sb, va, tcb, nz.1, by omega, tj2.same sb, hJ, as, jl, fun b H3 s3 eb => ?_⟩
        have eb2 : b = (RJ n bs J z0.reverse).isEmpty := by rw [Bool.eq_iff_iff, eb, low_iff va hJ nz.1]
        have et : lowW n bs J (W.take (j + 1)) = lowW n bs J (W.take j) ++ (if b = true then [z0] else []) := by
          rw [take_snoc ez]
          unfold lowW
          rw [List.filter_append, eb2]
          cases e : (RJ n bs J z0.reverse).isEmpty with
          | true => simp [e]
          | false => simp [e]
        have hD3 := s3 _ _ hD
        have hz3 := hz.imp fun _ _ z => TI.same z s3
        cases b with
        | false =>
          rw [if_neg (by decide), List.append_nil] at et
          exact ⟨_, rfl, iteF ⟨sb.trans s3, zs, hD3, by rw [et]; exact hz3⟩⟩
        | true =>
          rw [if_pos rfl] at et
          refine ⟨_, rfl, iteT ?_⟩
          have oD : Off D H3 (upd H3 D (.lst (zs ++ [yy]))) := off_upd
          have zl := hz.len
          have lw : (lowW n bs J (W.take j)).length ≤ 120 := by
            refine Nat.le_trans (List.length_filter_le _ _) ?_
            rw [List.length_take]
            omega
          rw [List.length_map] at zl
          refine ⟨_, rfl, _, hD3, small1000 (by omega), same_off nD (sb.trans s3) oD, _, upd_same, ?_⟩
          rw [et, List.map_append]
          exact A2.two (hz3.imp fun v k h => oD.ti hD3 h) (oD.ti hD3 (tcb.same s3))
    · rintro Ha ⟨sa, zs, hD, hz⟩
      rw [lxl, List.take_length] at hz
      refine ⟨D, zs, rfl, .inl ⟨.of hD, fun t nt => ?_⟩⟩
      have st := same_new (o := .tup zs) nt
      exact k _ _ ((S2.trans sa).trans st) ⟨t, zs, rfl, .of upd_same, A2.tis (hz.imp fun _ _ z => z.same st)⟩
end
end Sk

namespace Sk
open PySem L2 Ow
open Rt (InJ NoJ)
/-! the members in some letters of the drawn systems, reckoned -/
def runsG (lk : List (List (List Int))) : List (List Int) → List Int → Bool
  | st, [] => (lefts st).isEmpty
  | st, l :: ws => (lefts st).head? == some l && runsG lk (putA lk st l) ws
theorem runsG_ok {n : Nat} {bs : List (List Int)} (va : Valid n bs) : ∀ {us w : List Nat}, Rt.In n w → w.length + us.length < 150 → runsG (lkOf bs n) (stOf bs n (castW w)) (castW us) = true → Runs (lkOf bs n) (stOf bs n (castW w)) (castW us)
  | [], w, hw, hl, h => by
    have f := fine_word va (show Rt.In (n : Int).toNat w from hw) (by simp only [List.length_nil] at hl; omega)
    exact .done f (List.isEmpty_iff.mp h)
  | s :: us, w, hw, hl, h => by
    have f := fine_word va (show Rt.In (n : Int).toNat w from hw) (by omega)
    have h : ((lefts (stOf bs n (castW w))).head? == some ((s : Nat) : Int) && runsG (lkOf bs n) (putA (lkOf bs n) (stOf bs n (castW w)) (s : Nat)) (castW us)) = true := h
    obtain ⟨h1, h2⟩ := Bool.and_eq_true_iff.mp h
    have h3 := eq_of_beq h1
    cases e : lefts (stOf bs n (castW w)) with
    | nil => rw [e] at h3; cases h3
    | cons a r =>
      rw [e] at h3
      obtain rfl : a = ((s : Nat) : Int) := Option.some.inj h3
      have sn := lefts_in (stOkN (bs := bs) (n := n) w) (l := ((s : Nat) : Int)) (by show _ ∈ lefts (stOf bs n (castW w)); rw [e]; simp)
      rw [← st_cons] at h2
      have r2 := runsG_ok va (us := us) (w := s :: w) (hw.cons (by omega)) (by simp only [List.length_cons] at hl ⊢; omega) h2
      rw [st_cons] at r2
      exact .step f e r2
def nfG (bs : List (List Int)) (n : Nat) (v x : List Nat) : Bool := runsG (lkOf bs n) (stOf bs n (castW v)) (castW x)
theorem nfG_ok {n : Nat} {bs : List (List Int)} (va : Valid n bs) {v x : List Nat} (hv : Rt.In n v) (l : v.length + x.length < 90) (h : nfG bs n v x = true) : Rt.Nf n (mB bs) v x := nf_runs va hv (by omega) (runsG_ok va hv (by omega) h)
def runF (lk : List (List (List Int))) : Nat → List (List Int) → List Nat
  | 0, _ => []
  | k + 1, st => match lefts st with
    | [] => []
    | l :: _ => l.toNat :: runF lk k (putA lk st l)
def nfF (bs : List (List Int)) (n : Nat) (v : List Nat) : List Nat := runF (lkOf bs n) 40 (stOf bs n (castW v))
def lexIns (x : List Nat) : List (List Nat) → List (List Nat)
  | [] => [x]
  | y :: l => if x = y then y :: l else if HT.lexLt (castW x) (castW y) then x :: y :: l else y :: lexIns x l
def nextF (bs : List (List Int)) (n : Nat) (J : List Nat) (layer : List (List Nat)) : List (List Nat) :=
  layer.foldl (fun acc v => J.foldl (fun acc s => let x := nfF bs n (s :: v); if v.length < x.length then lexIns x acc else acc) acc) []
def genJ (bs : List (List Int)) (n : Nat) (J : List Nat) : Nat → List (List Nat) → List (List Nat)
  | 0, _ => []
  | k + 1, layer => match layer with
    | [] => []
    | x :: l => (x :: l) ++ genJ bs n J k (nextF bs n J (x :: l))
def WJ (bs : List (List Int)) (n : Nat) (J : List Nat) : List (List Nat) := genJ bs n J 26 [[]]
def chkJ (bs : List (List Int)) (n : Nat) (J : List Nat) : Bool :=
  let W := WJ bs n J
  (W.all fun x => x.all (fun i => decide (i < n)) && (x.all (fun i => decide (i ∈ J)) && (decide (x.length ≤ 24) && (nfG bs n x x && J.all fun s => nfG bs n (s :: x) (nfF bs n (s :: x)) && (decide (nfF bs n (s :: x) ∈ W) && decide ((nfF bs n (s :: x)).length ≤ 40))))))
  && (decide ([] ∈ W) && (decide (Sorted W) && (decide W.Nodup && (decide (W.length ≤ 120) && (W.dropLast.all fun x => decide (x.length < (W.getLastD []).length))))))
structure FinJ (n : Nat) (bs : List (List Int)) (J : List Nat) (W : List (List Nat)) (top : List Nat) : Prop where
  all : AllJ n bs J (W ++ [top])
  few : (W ++ [top]).length ≤ 120
  le : ∀ x ∈ W ++ [top], x.length ≤ 24
  lt : ∀ x ∈ W, x.length < top.length
theorem chkJ_all {n : Nat} {bs : List (List Int)} (va : Valid n bs) {J : List Nat} (hJ : Rt.In n J) (h : chkJ bs n J = true) : AllJ n bs J (WJ bs n J) ∧ (WJ bs n J).length ≤ 120 ∧ (∀ x ∈ WJ bs n J, x.length ≤ 24) ∧ ((WJ bs n J).dropLast.all fun x => decide (x.length < ((WJ bs n J).getLastD []).length)) = true ∧ [] ∈ WJ bs n J := by
  unfold chkJ at h
  obtain ⟨h1, h⟩ := Bool.and_eq_true_iff.mp h
  obtain ⟨h2, h⟩ := Bool.and_eq_true_iff.mp h
  obtain ⟨h3, h⟩ := Bool.and_eq_true_iff.mp h
  obtain ⟨h4, h⟩ := Bool.and_eq_true_iff.mp h
  obtain ⟨h5, h6⟩ := Bool.and_eq_true_iff.mp h
  generalize WJ bs n J = V at *
  have h2 := of_decide_eq_true h2
  have h3 : Sorted V := of_decide_eq_true h3
  have h4 := of_decide_eq_true h4
  have h5 := of_decide_eq_true h5
  have row : ∀ x ∈ V, Rt.In n x ∧ InJ J x ∧ x.length ≤ 24 ∧ Rt.Nf n (mB bs) x x ∧ ∀ s ∈ J, ∃ y ∈ V, Rt.Nf n (mB bs) (s :: x) y := fun x hx => by
    have r := List.all_eq_true.mp h1 x hx
    obtain ⟨r1, r⟩ := Bool.and_eq_true_iff.mp r
    obtain ⟨r2, r⟩ := Bool.and_eq_true_iff.mp r
    obtain ⟨r3, r⟩ := Bool.and_eq_true_iff.mp r
    obtain ⟨r4, r5⟩ := Bool.and_eq_true_iff.mp r
    have i := all_in r1
    have l := of_decide_eq_true r3
    refine ⟨i, fun z hz => of_decide_eq_true (List.all_eq_true.mp r2 z hz), l, nfG_ok va i (by omega) r4, fun s hs => ?_⟩
    obtain ⟨q1, q2⟩ := Bool.and_eq_true_iff.mp (List.all_eq_true.mp r5 s hs)
    obtain ⟨q3, q4⟩ := Bool.and_eq_true_iff.mp q2
    have q4 := of_decide_eq_true q4
    exact ⟨_, of_decide_eq_true q3, nfG_ok va (i.cons (hJ s hs)) (by simp only [List.length_cons]; omega) q1⟩
  have cl : ∀ v : List Nat, InJ J v → ∃ y ∈ V, Rt.Cg n (mB bs) v y := by
    intro v
    induction v with
    | nil => exact fun _ => ⟨[], h2, .rfl _⟩
    | cons s v ih =>
      intro hv
      obtain ⟨y, hy, c⟩ := ih fun z hz => hv z (by simp [hz])
      obtain ⟨z, hz, nf⟩ := (row y hy).2.2.2.2 s (hv s (by simp))
      exact ⟨z, hz, (c.cons s).trans (nf.cg ((row y hy).1.cons (hJ s (hv s (by simp))))).1⟩
  have all : AllJ n bs J V := ⟨h3, h4, fun x => ⟨fun hx => ⟨⟨(row x hx).1, (row x hx).2.2.2.1⟩, (row x hx).2.1⟩, fun ⟨nx, jx⟩ => by
    obtain ⟨y, hy, c⟩ := cl x jx
    have ny : NW n bs y := ⟨(row y hy).1, (row y hy).2.2.2.1⟩
    rw [(nx.eq va ny).mpr c]
    exact hy⟩⟩
  exact ⟨all, h5, fun x hx => (row x hx).2.2.1, h6, h2⟩
theorem chkJ_ok {n : Nat} {bs : List (List Int)} (va : Valid n bs) {J : List Nat} (hJ : Rt.In n J) (h : chkJ bs n J = true) : ∃ W top, FinJ n bs J W top := by
  obtain ⟨all, h5, h7, h6, h2⟩ := chkJ_all va hJ h
  generalize WJ bs n J = V at *
  rcases List.eq_nil_or_concat V with e | ⟨W, top, e⟩
  · rw [e] at h2
    cases h2
  · rw [List.concat_eq_append] at e
    subst e
    refine ⟨W, top, all, h5, h7, fun x hx => ?_⟩
    have := List.all_eq_true.mp h6 x (by rw [List.dropLast_concat]; exact hx)
    have t := of_decide_eq_true this
    rwa [show (W ++ [top]).getLastD [] = top by simp] at t
def subJ (n : Nat) : List (List Nat) := ((List.range n).foldr (fun i acc => acc ++ acc.map (i :: ·)) [[]]).filter fun J => decide (J.length < n)


def subA (n : Nat) : List (List Nat) := (List.range n).foldr (fun i acc => acc ++ acc.map (i :: ·)) [[]]
def chkF (d : Dat) : Bool :=
  let n := d.1.toNat
  let W := WJ d.2 n (List.range n)
  let top := W.getLastD []
  decide (top.length ≤ 9) && (chkJ d.2 n (List.range n) && ((subA n).all (fun J => chkJ d.2 n J && decide ((lowW n d.2 J W).length * (WJ d.2 n J).length = W.length))
  && W.all fun x => let y := nfF d.2 n (top ++ x); decide ((top ++ x).length + y.length < 90) && (nfG d.2 n (top ++ x) y && decide (y.length + x.length = top.length))))
theorem chk_F : (drawnF.all chkF) = true := by decide +kernel
/-- what is reckoned of a drawn system and some of its letters -/
structure Fin2 (n : Nat) (bs : List (List Int)) (J : List Nat) (W : List (List Nat)) (top : List Nat) (W0 : List (List Nat)) (top0 : List Nat) : Prop where
  f : FinJ n bs J W top
  g : FinJ n bs (List.range n) W0 top0
  pr : (lowW n bs J (W0 ++ [top0])).length * (W ++ [top]).length = (W0 ++ [top0]).length
  dn : ∀ x ∈ W0 ++ [top0], (nfc n bs (top0 ++ x)).length + x.length = top0.length
  sm : top0.length ≤ 9
theorem WJ_split {n : Nat} {bs : List (List Int)} (va : Valid n bs) {J : List Nat} (hJ : Rt.In n J) (h : chkJ bs n J = true) : ∃ W top, WJ bs n J = W ++ [top] ∧ FinJ n bs J W top := by
  obtain ⟨all, h5, h7, h6, h2⟩ := chkJ_all va hJ h
  generalize WJ bs n J = V at *
  rcases List.eq_nil_or_concat V with e | ⟨W, top, e⟩
  · rw [e] at h2
    cases h2
  · rw [List.concat_eq_append] at e
    subst e
    refine ⟨W, top, rfl, all, h5, h7, fun x hx => ?_⟩
    have := List.all_eq_true.mp h6 x (by rw [List.dropLast_concat]; exact hx)
    have t := of_decide_eq_true this
    rwa [show (W ++ [top]).getLastD [] = top by simp] at t

end Sk

namespace Sk
open PySem L2 Ow
open Rt (InJ NoJ)
theorem asc_eq : ∀ {a b : List Nat}, Asc a → Asc b → (∀ x, x ∈ a ↔ x ∈ b) → a = b
  | [], [], _, _, _ => rfl
  | [], y :: b, _, _, h => by have := (h y).mpr (by simp); cases this
  | x :: a, [], _, _, h => by have := (h x).mp (by simp); cases this
  | x :: a, y :: b, ha, hb, h => by
    obtain ⟨a1, a2⟩ := List.pairwise_cons.mp ha
    obtain ⟨b1, b2⟩ := List.pairwise_cons.mp hb
    have e : x = y := by
      rcases List.mem_cons.mp ((h x).mp (by simp)) with e | e
      · exact e
      · rcases List.mem_cons.mp ((h y).mpr (by simp)) with e' | e'
        · exact e'.symm
        · have := b1 x e
          have := a1 y e'
          omega
    subst e
    rw [asc_eq a2 b2 fun z => ?_]
    constructor
    · intro hz
      rcases List.mem_cons.mp ((h z).mp (by simp [hz])) with e | e
      · have := a1 z hz
        omega
      · exact e
    · intro hz
      rcases List.mem_cons.mp ((h z).mpr (by simp [hz])) with e | e
      · have := b1 z hz
        omega
      · exact e
theorem asc_sub {n : Nat} {J : List Nat} (hJ : Rt.In n J) (as : Asc J) : J.Sublist (List.range n) := by
  have : J = (List.range n).filter fun i => decide (i ∈ J) := asc_eq as ((asc_range n).sublist List.filter_sublist) fun x => by
    rw [List.mem_filter, List.mem_range, decide_eq_true_iff]
    exact ⟨fun h => ⟨hJ x h, h⟩, fun h => h.2⟩
  rw [this]
  exact List.filter_sublist
theorem mem_fold : ∀ {l v : List Nat}, v.Sublist l → v ∈ l.foldr (fun i acc => acc ++ acc.map (i :: ·)) [[]]
  | [], v, h => by rw [List.eq_nil_of_sublist_nil h]; simp
  | a :: l, v, h => by
    rw [List.foldr_cons, List.mem_append, List.mem_map]
    cases h with
    | cons _ h => exact .inl (mem_fold h)
    | cons_cons _ h => exact .inr ⟨_, mem_fold h, rfl⟩

theorem fin2 {n : Nat} {bs : List (List Int)} (va : Valid n bs) (mem : ((n : Int), bs) ∈ drawnF) {J : List Nat} (hJ : Rt.In n J) (as : Asc J) : ∃ W top W0 top0, Fin2 n bs J W top W0 top0 := by
  have sub := asc_sub hJ as
  have h1 := List.all_eq_true.mp chk_F _ mem
  unfold chkF at h1
  obtain ⟨h0, h1⟩ := Bool.and_eq_true_iff.mp h1
  obtain ⟨h2, h3⟩ := Bool.and_eq_true_iff.mp h1
  obtain ⟨h4, h5⟩ := Bool.and_eq_true_iff.mp h3
  have e0 : ((n : Int), bs).1.toNat = n := Int.toNat_natCast n
  rw [e0] at h0 h2 h4 h5
  have h6 := List.all_eq_true.mp h4 J (mem_fold sub)
  obtain ⟨h7, h8⟩ := Bool.and_eq_true_iff.mp h6
  obtain ⟨W0, top0, e1, g⟩ := WJ_split va (in_range' n) h2
  obtain ⟨W, top, e2, f⟩ := WJ_split va hJ h7
  have e1' : WJ ((n : Int), bs).2 n (List.range n) = W0 ++ [top0] := e1
  have e2' : WJ ((n : Int), bs).2 n J = W ++ [top] := e2
  rw [e1', e2'] at h8
  rw [e1'] at h5 h0
  refine ⟨W, top, W0, top0, f, g, of_decide_eq_true h8, fun x hx => ?_, by rw [show (W0 ++ [top0]).getLastD [] = top0 by simp] at h0; exact of_decide_eq_true h0⟩
  have h9 := List.all_eq_true.mp h5 x hx
  rw [show (W0 ++ [top0]).getLastD [] = top0 by simp] at h9
  obtain ⟨h10, h11⟩ := Bool.and_eq_true_iff.mp h9
  obtain ⟨h12, h13⟩ := Bool.and_eq_true_iff.mp h11
  have ix := ((g.all.me x).mp hx).1.1
  have it := ((g.all.me top0).mp (by simp)).1.1
  have i : Rt.In n (top0 ++ x) := Rt.In.app.mpr ⟨it, ix⟩
  have nf := nfG_ok va i (of_decide_eq_true h10) h12
  rw [(nfc_nf va i).det nf]
  exact of_decide_eq_true h13
section
variable {n : Nat} {bs : List (List Int)} {J W : List Nat → Prop}
end
section
variable {n : Nat} {bs : List (List Int)} {J : List Nat} {W : List (List Nat)} {top u : List Nat}
theorem FinJ.top_in (f : FinJ n bs J W top) : NW n bs top ∧ InJ J top := (f.all.me top).mp (by simp)
theorem FinJ.max (f : FinJ n bs J W top) (va : Valid n bs) {x : List Nat} (hx : NW n bs x) (jx : InJ J x) : x.length ≤ top.length ∧ (x.length = top.length → x = top) := by
  have := (f.all.me x).mpr ⟨hx, jx⟩
  rcases List.mem_append.mp this with h | h
  · have := f.lt x h
    exact ⟨by omega, fun e => by omega⟩
  · rw [List.mem_singleton.mp h]
    exact ⟨Nat.le_refl _, fun _ => rfl⟩
/-- every letter of J takes the longest one down -/
theorem FinJ.dn (f : FinJ n bs J W top) (va : Valid n bs) (hJ : Rt.In n J) : ∀ s ∈ J, Rt.len n (mB bs) (top ++ [s]) < Rt.len n (mB bs) top := fun s hs => by
  obtain ⟨nt, jt⟩ := f.top_in
  have it : Rt.In n (top ++ [s]) := Rt.In.app.mpr ⟨nt.1, fun x hx => by rw [List.mem_singleton.mp hx]; exact hJ s hs⟩
  have nf := nfc_nf va it
  have jx := nf_inJ va hJ (InJ.app.mpr ⟨jt, fun x hx => by rw [List.mem_singleton.mp hx]; exact hs⟩) nf
  have := (f.max va (NW.of va it nf) jx).1
  rw [(nf.cg it).2, nt.len] at this
  rcases Rt.len_snoc (m := mB bs) (hJ s hs) top with g | g <;> omega
/-- the members of a coset -/
def cm (n : Nat) (bs : List (List Int)) (u z : List Nat) : Prop := True
theorem c_nw (va : Valid n bs) (hJ : Rt.In n J) (nu : NW n bs u) (no : NoJ n (mB bs) J u) {z : List Nat} (nz : NW n bs z) (jz : InJ J z) : NW n bs (nfc n bs (u ++ z)) ∧ (nfc n bs (u ++ z)).length = u.length + z.length ∧ Rt.Cg n (mB bs) (u ++ z) (nfc n bs (u ++ z)) := by
  have i : Rt.In n (u ++ z) := Rt.In.app.mpr ⟨nu.1, nz.1⟩
  have nf := nfc_nf va i
  obtain ⟨c, l⟩ := nf.cg i
  refine ⟨NW.of va i nf, ?_, c⟩
  rw [l, no.add (sysN va) hJ nu.1 jz, ← nu.len, ← nz.len]
theorem c_inj (va : Valid n bs) (nu : NW n bs u) {z z' : List Nat} (nz : NW n bs z) (nz' : NW n bs z') (e : nfc n bs (u ++ z) = nfc n bs (u ++ z')) : z = z' := by
  have i : Rt.In n (u ++ z) := Rt.In.app.mpr ⟨nu.1, nz.1⟩
  have i' : Rt.In n (u ++ z') := Rt.In.app.mpr ⟨nu.1, nz'.1⟩
  have c := ((nfc_nf va i).cg i).1
  have c' := ((nfc_nf va i').cg i').1
  exact (nz.eq va nz').mpr (Rt.cancel_left nu.1 (c.trans (e ▸ c'.symm)))
theorem sorted_lens {l : List (List Nat)} (so : Sorted l) : l.Pairwise fun x y => x.length ≤ y.length := so.imp fun h => lw_len h
/-- the ends of a sorted coset -/
theorem coset_ends (va : Valid n bs) (hJ : Rt.In n J) (nu : NW n bs u) (no : NoJ n (mB bs) J u) (f : FinJ n bs J W top) {out : List (List Nat)} (po : out.Perm ((W ++ [top]).map fun z => nfc n bs (u ++ z))) (so : Sorted out) : out.Nodup ∧ (∃ l, out = l ++ [nfc n bs (u ++ top)]) ∧ ∃ l, out = u :: l := by
  have me : ∀ x, x ∈ out ↔ ∃ z, (NW n bs z ∧ InJ J z) ∧ nfc n bs (u ++ z) = x := fun x => by
    rw [po.mem_iff, List.mem_map]
    exact ⟨fun ⟨z, hz, e⟩ => ⟨z, (f.all.me z).mp hz, e⟩, fun ⟨z, hz, e⟩ => ⟨z, (f.all.me z).mpr hz, e⟩⟩
  have nd : out.Nodup := by
    rw [po.nodup_iff]
    refine List.pairwise_map.mpr (f.all.nd.imp_of_mem fun {a b} ha hb q e => q ?_)
    exact c_inj va nu ((f.all.me a).mp ha).1 ((f.all.me b).mp hb).1 e
  obtain ⟨nt, jt⟩ := f.top_in
  have eu : nfc n bs (u ++ []) = u := by
    rw [List.append_nil]
    exact (nfc_nf va nu.1).det nu.2
  refine ⟨nd, last_of (sorted_lens so) nd ((me _).mpr ⟨top, ⟨nt, jt⟩, rfl⟩) fun x hx => ?_, first_of (sorted_lens so) nd ((me _).mpr ⟨[], ⟨NW.nil va, .nil⟩, eu⟩) fun x hx => ?_⟩
  · obtain ⟨z, ⟨nz, jz⟩, rfl⟩ := (me x).mp hx
    obtain ⟨_, l1, _⟩ := c_nw va hJ nu no nz jz
    obtain ⟨_, l2, _⟩ := c_nw va hJ nu no nt jt
    obtain ⟨m1, m2⟩ := f.max va nz jz
    rw [l1, l2]
    exact ⟨by omega, fun e => by rw [m2 (by omega)]⟩
  · obtain ⟨z, ⟨nz, jz⟩, rfl⟩ := (me x).mp hx
    obtain ⟨_, l1, _⟩ := c_nw va hJ nu no nz jz
    rw [l1]
    refine ⟨by omega, fun e => ?_⟩
    rw [List.eq_nil_of_length_eq_zero (show z.length = 0 by omega), eu]
end

section
open Rt (len)
variable {n : Nat} {bs : List (List Int)} {J : List Nat} {W W0 : List (List Nat)} {top top0 u : List Nat}
theorem Fin2.all (F : Fin2 n bs J W top W0 top0) (va : Valid n bs) {x : List Nat} (hx : Rt.In n x) : nfc n bs x ∈ W0 ++ [top0] := (F.g.all.me _).mpr ⟨NW.of va hx (nfc_nf va hx), fun y hy => List.mem_range.mpr ((NW.of va hx (nfc_nf va hx)).1 y hy)⟩
/-- the longest member turns lengths over -/
theorem Fin2.turn (F : Fin2 n bs J W top W0 top0) (va : Valid n bs) {x : List Nat} (hx : Rt.In n x) : len n (mB bs) (top0 ++ x) + len n (mB bs) x = len n (mB bs) top0 := by
  obtain ⟨nt, _⟩ := F.g.top_in
  obtain ⟨c, l⟩ := (nfc_nf va hx).cg hx
  have h := F.dn _ (F.all va hx)
  have hn := (NW.of va hx (nfc_nf va hx)).1
  have i : Rt.In n (top0 ++ nfc n bs x) := Rt.In.app.mpr ⟨nt.1, hn⟩
  rw [((nfc_nf va i).cg i).2, l] at h
  rw [Rt.len_congr (c.left top0), h, nt.len]
/-- the least member of a coset of the longest one times a least one -/
theorem Fin2.far (F : Fin2 n bs J W top W0 top0) (va : Valid n bs) (hJ : Rt.In n J) (hu : Rt.In n u) (no : NoJ n (mB bs) J u) : ∀ s ∈ J, len n (mB bs) (top0 ++ u ++ [s]) < len n (mB bs) (top0 ++ u) := fun s hs => by
  obtain ⟨nt, _⟩ := F.g.top_in
  have hs' := hJ s hs
  have is : Rt.In n (u ++ [s]) := Rt.In.app.mpr ⟨hu, fun x hx => by rw [List.mem_singleton.mp hx]; exact hs'⟩
  have h1 := F.turn va hu
  have h2 := F.turn va is
  rw [← List.append_assoc] at h2
  have h3 := no s hs
  have h4 : len n (mB bs) (u ++ [s]) ≠ len n (mB bs) u := by
    rcases Rt.len_snoc (m := mB bs) hs' u with g | g <;> omega
  omega
theorem Fin2.few (F : Fin2 n bs J W top W0 top0) {x : List Nat} (hx : x ∈ W0 ++ [top0]) : x.length ≤ 9 := by
  have := F.dn x hx
  have := F.sm
  omega
theorem Fin2.fewJ (F : Fin2 n bs J W top W0 top0) (va : Valid n bs) {x : List Nat} (hx : x ∈ W ++ [top]) : x.length ≤ 9 := by
  obtain ⟨nx, _⟩ := (F.f.all.me x).mp hx
  exact F.few ((F.g.all.me x).mpr ⟨nx, fun y hy => List.mem_range.mpr (nx.1 y hy)⟩)
/-- the longest one times a greatest one is a least one -/
theorem Fin2.last (F : Fin2 n bs J W top W0 top0) (va : Valid n bs) (hJ : Rt.In n J) (hu : Rt.In n u) (no : NoJ n (mB bs) J u) : NoJ n (mB bs) J (top0 ++ nfc n bs (u ++ top)) := fun s hs h => by
  obtain ⟨nt, _⟩ := F.g.top_in
  obtain ⟨nj, jt⟩ := F.f.top_in
  have hs' := hJ s hs
  have i : Rt.In n (u ++ top) := Rt.In.app.mpr ⟨hu, nj.1⟩
  have nf := nfc_nf va i
  have c := (nf.cg i).1
  have ig := (NW.of va i nf).1
  have igs : Rt.In n (nfc n bs (u ++ top) ++ [s]) := Rt.In.app.mpr ⟨ig, fun x hx => by rw [List.mem_singleton.mp hx]; exact hs'⟩
  have h1 := F.turn va ig
  have h2 := F.turn va igs
  rw [← List.append_assoc] at h2
  have h3 : len n (mB bs) (nfc n bs (u ++ top) ++ [s]) < len n (mB bs) (nfc n bs (u ++ top)) := by
    rw [← Rt.len_congr c, ← Rt.len_congr (c.right [s]), List.append_assoc, no.add (sysN va) hJ hu (InJ.app.mpr ⟨jt, fun x hx => by rw [List.mem_singleton.mp hx]; exact hs⟩), no.add (sysN va) hJ hu jt]
    have := F.f.dn va hJ s hs
    omega
  omega
/-- what all letters of J make shorter is a least one times the longest one in the letters of J -/
theorem FinJ.greatest (f : FinJ n bs J W top) (va : Valid n bs) (hJ : Rt.In n J) {w st : List Nat} (hw : NW n bs w) (hst : Strip n bs J w st) (dn : ∀ s ∈ J, len n (mB bs) (w ++ [s]) < len n (mB bs) w) : nfc n bs (nfc n bs (w ++ st) ++ top) = w := by
  obtain ⟨jt, no, l⟩ := hst.facts hJ
  have it := jt.in_ hJ
  have i : Rt.In n (w ++ st) := Rt.In.app.mpr ⟨hw.1, it⟩
  have back : Rt.Cg n (mB bs) (w ++ st ++ st.reverse) w := by
    have := (Rt.rev_rev (m := mB bs) st it).left w
    rwa [List.append_nil, ← List.append_assoc] at this
  obtain ⟨nt, jtop⟩ := f.top_in
  -- st.reverse goes down by all letters of J
  have dn2 : ∀ s ∈ J, len n (mB bs) (st.reverse ++ [s]) < len n (mB bs) st.reverse := fun s hs => by
    have h1 := dn s hs
    rw [← Rt.len_congr back, ← Rt.len_congr (back.right [s]), List.append_assoc (w ++ st), no.add (sysN va) hJ i (InJ.app.mpr ⟨jt.rev, fun x hx => by rw [List.mem_singleton.mp hx]; exact hs⟩), no.add (sysN va) hJ i jt.rev] at h1
    omega
  have le := Rt.up_all (sysN va) hJ (jt.rev.in_ hJ) dn2 (z := top) (x := []) jtop Rt.In.nil (Rt.Le.nil _)
  rw [List.nil_append] at le
  obtain ⟨l1, l2⟩ := le.lens (sysN va) it.rev
  -- st.reverse is one of the members in J, none is longer than top
  have nfr := nfc_nf va it.rev
  obtain ⟨cr, lr⟩ := nfr.cg it.rev
  have nr := NW.of va it.rev nfr
  have m := f.max va nr (nf_inJ va hJ jt.rev nfr)
  rw [lr] at m
  have etl := nt.len
  have ct : Rt.Cg n (mB bs) top st.reverse := l2 (by omega)
  have i2 : Rt.In n (nfc n bs (w ++ st)) := (NW.of va i (nfc_nf va i)).1
  have i3 : Rt.In n (nfc n bs (w ++ st) ++ top) := Rt.In.app.mpr ⟨i2, nt.1⟩
  have c1 := ((nfc_nf va i).cg i).1
  refine ((NW.of va i3 (nfc_nf va i3)).eq va hw).mpr ?_
  exact (((nfc_nf va i3).cg i3).1.symm.trans ((c1.symm.right top).trans ((ct.left (w ++ st)).trans back)))
end
end Sk

namespace Sk
open PySem L2 Ow
open Rt (InJ NoJ)
theorem SysAt.but {K : PySem.W.Frag} {C D : Addr} {H H' : Hp} {p : Addr} {n : Int} {bv : V} {bs : List (List Int)} (g : SysAt K C H p n bv bs) (o : Off D H H') (b : VatAt H D) : SysAt K C H' p n bv bs := by
  obtain ⟨b0, b1, b2, hD⟩ := b
  exact ⟨g.1.elim fun dx h => ⟨dx, o _ _ (fun e => by rw [e, hD] at h; cases h) h⟩, o.bs hD g.2⟩
def spLRight : Sp := fun vs H Q _ => ∃ (p : Addr), vs = [.ref p] ∧ VatAt H p ∧ ∀ H', Off p H H' → VatAt H' p → Q (.bl true) H'
/-- what stands while the words are held against one another -/
structure Kn (K : PySem.W.Frag) (C : Addr) (H : Hp) (p r : Addr) (bw rv jv : V) (n : Nat) (bs : List (List Int)) (J : List Nat) : Prop where
  b : VatAt H p
  y : SysAt K C H r n bw bs
  rr : RAt K H rv bs n
  so : TI K H jv (castW J)
section
variable {K : PySem.W.Frag} {C : Addr} {H H' : Hp} {p r : Addr} {bw rv jv : V} {n : Nat} {bs : List (List Int)} {J : List Nat}
theorem Kn.same (h : Kn K C H p r bw rv jv n bs J) (s : Same H H') : Kn K C H' p r bw rv jv n bs J := ⟨h.b.same s, h.y.same s, h.rr.same s, h.so.same s⟩
theorem Kn.but (h : Kn K C H p r bw rv jv n bs J) (o : Off p H H') (b : VatAt H' p) : Kn K C H' p r bw rv jv n bs J := ⟨b, h.y.but o h.b, h.rr.but o h.b, h.so.but o h.b⟩
theorem WsAt.but {v : V} {us : List (List Nat)} (h : WsAt K H v us) (o : Off p H H') (b : VatAt H p) (ne : v ≠ .ref p) : WsAt K H' v us := by
  obtain ⟨a, xs, rfl, ha, hx⟩ := h
  exact ⟨a, xs, rfl, o _ _ (fun e => ne (by rw [e])) ha, hx.imp fun _ _ z => TI.but z o b⟩
end
section
variable {n : Nat} {bs : List (List Int)} {J : List Nat}
theorem nfc_cg (va : Valid n bs) {a b : List Nat} (ha : Rt.In n a) (hb : Rt.In n b) (c : Rt.Cg n (mB bs) a b) : nfc n bs a = nfc n bs b := (nf_eq va ha hb (nfc_nf va ha) (nfc_nf va hb)).mpr c
/-- both parts of a stripped word -/
theorem Strip.parts (va : Valid n bs) (hJ : Rt.In n J) {w t : List Nat} (nw : NW n bs w) (st : Strip n bs J w t) : NW n bs (nfc n bs (w ++ t)) ∧ NoJ n (mB bs) J (nfc n bs (w ++ t)) ∧ (nfc n bs (w ++ t)).length + t.length = w.length ∧ (nfc n bs t.reverse).length = t.length := by
  obtain ⟨jt, no, l⟩ := st.facts hJ
  have it := jt.in_ hJ
  have i : Rt.In n (w ++ t) := Rt.In.app.mpr ⟨nw.1, it⟩
  have nf := nfc_nf va i
  obtain ⟨c, lc⟩ := nf.cg i
  have nft := nfc_nf va it.rev
  have lt := (nft.cg it.rev).2
  refine ⟨NW.of va i nf, fun s hs h => no s hs ?_, by rw [lc, nw.len]; exact l, ?_⟩
  · rw [Rt.len_congr c, Rt.len_congr (c.right [s])]
    exact h
  · have back : Rt.Cg n (mB bs) (w ++ t ++ t.reverse) w := by
      have := (Rt.rev_rev (m := mB bs) t it).left w
      rwa [List.append_nil, ← List.append_assoc] at this
    have h1 := Rt.len_app (n := n) (m := mB bs) (w ++ t) t.reverse
    rw [Rt.len_congr back] at h1
    have h2 := nf_len' va it.rev
    rw [List.length_reverse] at h2
    omega
theorem lowW_mem (va : Valid n bs) (hJ : Rt.In n J) {V : List (List Nat)} {u : List Nat} (h : u ∈ lowW n bs J V) (hV : ∀ x ∈ V, Rt.In n x) : u ∈ V ∧ NoJ n (mB bs) J u := by
  obtain ⟨h1, h2⟩ := List.mem_filter.mp h
  exact ⟨h1, (low_iff va hJ (hV u h1)).mp h2⟩
/-- a least one and one in the letters of J are the two parts of their product -/
theorem Strip.back (va : Valid n bs) (hJ : Rt.In n J) {u z t : List Nat} (nu : NW n bs u) (no : NoJ n (mB bs) J u) (nz : NW n bs z) (jz : InJ J z) (st : Strip n bs J (nfc n bs (u ++ z)) t) : nfc n bs (nfc n bs (u ++ z) ++ t) = u ∧ nfc n bs t.reverse = z := by
  have i : Rt.In n (u ++ z) := Rt.In.app.mpr ⟨nu.1, nz.1⟩
  have nf := nfc_nf va i
  have c := (nf.cg i).1
  have nw := NW.of va i nf
  obtain ⟨jt, no2, _⟩ := st.facts hJ
  have it := jt.in_ hJ
  have i2 : Rt.In n (nfc n bs (u ++ z) ++ t) := Rt.In.app.mpr ⟨nw.1, it⟩
  have back : Rt.Cg n (mB bs) (nfc n bs (u ++ z) ++ t ++ t.reverse) (u ++ z) := by
    have := (Rt.rev_rev (m := mB bs) t it).left (nfc n bs (u ++ z))
    rw [List.append_nil, ← List.append_assoc] at this
    exact this.trans c.symm
  have cu := Rt.NoJ.uniq (sysN va) hJ i2 nu.1 no2 no jt.rev jz back
  have h1 : nfc n bs (nfc n bs (u ++ z) ++ t) = u := by
    have n2 := NW.of va i2 (nfc_nf va i2)
    exact (n2.eq va nu).mpr (((nfc_nf va i2).cg i2).1.symm.trans cu)
  refine ⟨h1, ?_⟩
  have nr := NW.of va it.rev (nfc_nf va it.rev)
  refine (nr.eq va nz).mpr (((nfc_nf va it.rev).cg it.rev).1.symm.trans ?_)
  exact Rt.cancel_left nu.1 ((cu.symm.right t.reverse).trans back)
end
theorem a2_mem {K : PySem.W.Frag} {H : Hp} {xs : List V} {us : List (List Nat)} (h : A2 (TI K H) xs (us.map castW)) {v : V} (hv : v ∈ xs) : ∃ u ∈ us, TI K H v (castW u) := by
  obtain ⟨i, hi⟩ := List.getElem?_of_mem hv
  obtain ⟨c, e, t⟩ := h.get hi
  rw [List.getElem?_map] at e
  cases eu : us[i]? with
  | none => rw [eu] at e; cases e
  | some u =>
    rw [eu] at e
    obtain rfl : c = castW u := (Option.some.inj e).symm
    exact ⟨u, List.mem_of_getElem? eu, t⟩
section
variable {P : Program} {Wo : World} {K : PySem.W.Frag} {mg : Str → Option Value} {base : Heap} {C : Addr}
theorem cal_l_right (T : Txt K mg C) : Cal P Wo K mg base "_law_right" 12 spLRight := by
  refine T.d_l_right.cal (ps := ["_law_bag_here"]) (fun f fd D => ?_) (fun _ _ _ _ _ _ us hl => match us, hl with | [_], _ => rfl)
  refine D.ok sc_l_right (fun vs H Q E h => ?_) (fun cdv A outer s H vs Q E hr h => ?_)
  · obtain ⟨_, rfl, _⟩ := h
    rfl
  · obtain ⟨p, rfl, hb, k⟩ := h
    refine ⟨_, (pss_cons (ps_asg (pe_cal (cal_l_finite T) (hr.mono (by decide)) (by rfl) (pa_cons (pv 0) pa_nil)) (pg_tup (by rfl) (pgs_cons (pg_name (i := 1) sc_l_right.nd rfl (Or.inr rfl)) (pgs_cons (pg_name (i := 2) sc_l_right.nd rfl (Or.inl rfl)) pgs_nil))))
      (pss_cons (ps_asg (pe_tup (pa_cons (pe_cal (cal_l_rules T) (hr.mono (by decide)) (by rfl) (pa_cons (pv 1) (pa_cons (pv 2) pa_nil))) (pa_cons (pe_sys T (hr.mono (by decide)) (by rfl) (pa_cons (pv 1) (pa_cons (pv 2) pa_nil))) (pa_cons (pe_tupRg rfl (by rfl) T.b_tuple (prg_1 (by rfl) T.b_range (pv 1))) pa_nil)))) (pg_tup (by rfl) (pgs_cons (pg_name (i := 3) sc_l_right.nd rfl (Or.inr rfl)) (pgs_cons (pg_name (i := 4) sc_l_right.nd rfl (Or.inl rfl)) (pgs_cons (pg_name (i := 5) sc_l_right.nd rfl (Or.inl rfl)) pgs_nil)))))
      (pss_cons (ps_set (i := 6) sc_l_right.nd rfl (Or.inr rfl) (pe_cal (cal_l_among T) (hr.mono (by decide)) (by rfl) (pa_cons (pv 0) (pa_cons (pe_lst (pa_cons (pv 5) (pa_cons (pe_cal (cal_l_some T) (hr.mono (by decide)) (by rfl) (pa_cons (pv 0) (pa_cons (pv 1) pa_nil))) (pa_cons (pe_cal (cal_l_some T) (hr.mono (by decide)) (by rfl) (pa_cons (pv 0) (pa_cons (pv 1) pa_nil))) (pa_cons (pe_tup pa_nil) pa_nil))))) pa_nil))))
      (pss_cons (ps_par (i := 7) (j := 8) rfl sc_l_right.nd rfl rfl (by decide) rfl rfl (pa_cons (pe_cal (cal_l_by T) (hr.mono (by decide)) (by rfl) (pa_cons (pv 1) (pa_cons (pv 3) (pa_cons (pv 5) pa_nil)))) (pa_cons (pe_cal (cal_l_by T) (hr.mono (by decide)) (by rfl) (pa_cons (pv 1) (pa_cons (pv 3) (pa_cons (pv 6) pa_nil)))) pa_nil)) rfl)
      (pss_cons (ps_setLc (i := 9) (own := [("_law_one", 10)]) (g := gName 10) rfl sc_l_right.nd rfl rfl (sw_true rfl rfl rfl (by decide +kernel)) (pi_list (pv 7)) (blkOk_by (own := [("_law_one", 10)]) (N := ["_law_bag_here", "_law_letters", "_law_bonds", "_law_rules_here", "_law_system", "_law_every", "_law_some_here", "_law_members", "_law_by_here", "_law_due", "_law_one", "_law_other", "_law_made", "_law_far", "_law_last"]) (sc := defScope s_l_right) (by decide +kernel)) (fun _ _ _ _ _ => (pg_name (i := 10) sc_l_right.nd rfl (Or.inl rfl))) (fun _ _ _ _ _ => (pts_one (pt_cmpR (show OpR _ _ (rEqD K) from (op_eqD hr.units)) (pe_ix (show IxR _ (rIxT K) from ix_tup) (pe_cal (cal_l_split T) (hr.mono (by decide)) (by rfl) (pa_cons (pv 1) (pa_cons (pv 3) (pa_cons (pv 10) (pa_cons (pv 6) pa_nil))))) pe_int (fun _ _ => rfl)) (pe_tup pa_nil) (nomark _)))) (fun _ _ _ _ _ => (pv 10)))
      (pss_cons (ps_if (PW.pt (pw_or (pt_cmpR (op_neD hr.units) (pe_cal (cal_least_members T) (hr.mono (by decide)) (by rfl) (pa_cons (pv 4) (pa_cons (pv 6) pa_nil))) (pe_callTy call_tuple_of (by rfl) T.b_tuple (by decide +kernel) (pa_cons (pv 9) pa_nil)) (nomark _)) (pw_or1 (pt_cmpR op_ne (pe_op op_mulW (pe_callB call_len_seq (by rfl) T.b_len (by decide +kernel) (pa_cons (pv 9) pa_nil)) (pe_callB call_len_seq (by rfl) T.b_len (by decide +kernel) (pa_cons (pv 8) pa_nil))) (pe_callB call_len_seq (by rfl) T.b_len (by decide +kernel) (pa_cons (pv 7) pa_nil)) (nomark _))))) (pss_one (ps_ret pe_bl)) pss_nil)
      (pss_cons (ps_par (i := 10) (j := 11) rfl sc_l_right.nd rfl rfl (by decide) rfl rfl (pa_cons (pe_cal (cal_l_among T) (hr.mono (by decide)) (by rfl) (pa_cons (pv 0) (pa_cons (pv 9) pa_nil))) (pa_cons (pe_cal (cal_l_among T) (hr.mono (by decide)) (by rfl) (pa_cons (pv 0) (pa_cons (pv 8) pa_nil))) pa_nil)) rfl)
      (pss_cons (ps_set (i := 12) sc_l_right.nd rfl (Or.inl rfl) (pe_cal (cal_l_normal T) (hr.mono (by decide)) (by rfl) (pa_cons (pv 1) (pa_cons (pv 3) (pa_cons (pe_op op_catA (pv 10) (pv 11)) pa_nil)))))
      (pss_cons (ps_if (PW.pt (pw_or (pt_cmpR (op_neD hr.units) (pe_cal (cal_split T) (hr.mono (by decide)) (by rfl) (pa_cons (pv 4) (pa_cons (pv 12) (pa_cons (pv 6) pa_nil)))) (pe_tup (pa_cons (pv 10) (pa_cons (pv 11) pa_nil))) (nomark _)) (pw_or1 (pt_cmpR (op_neD hr.units) (pe_cal (cal_least_in T) (hr.mono (by decide)) (by rfl) (pa_cons (pv 4) (pa_cons (pv 12) (pa_cons (pv 6) pa_nil)))) (pv 10) (nomark _))))) (pss_one (ps_ret pe_bl)) pss_nil)
      (pss_cons (ps_if (pt_cmpR (op_notInT (u65 hr)) (pv 12) (pe_cal (cal_coset T) (hr.mono (by decide)) (by rfl) (pa_cons (pv 4) (pa_cons (pv 10) (pa_cons (pv 6) pa_nil)))) (by rfl)) (pss_one (ps_ret pe_bl)) pss_nil)
      (pss_cons (ps_if (pt_cmpR (op_neD hr.units) (pe_cal (cal_greatest_in T) (hr.mono (by decide)) (by rfl) (pa_cons (pv 4) (pa_cons (pv 10) (pa_cons (pv 6) pa_nil)))) (pe_cal (cal_l_normal T) (hr.mono (by decide)) (by rfl) (pa_cons (pv 1) (pa_cons (pv 3) (pa_cons (pe_op op_catA (pv 10) (pe_ix ix_list (pv 8) (pe_un un_neg pe_int) (fun _ _ => rfl))) pa_nil)))) (nomark _)) (pss_one (ps_ret pe_bl)) pss_nil)
      (pss_cons (ps_set (i := 13) sc_l_right.nd rfl (Or.inl rfl) (pe_cal (cal_l_normal T) (hr.mono (by decide)) (by rfl) (pa_cons (pv 1) (pa_cons (pv 3) (pa_cons (pe_op op_catA (pe_ix ix_list (pv 7) (pe_un un_neg pe_int) (fun _ _ => rfl)) (pv 10)) pa_nil)))))
      (pss_cons (ps_set (i := 14) sc_l_right.nd rfl (Or.inl rfl) (pe_op op_catA (pe_ix ix_list (pv 7) (pe_un un_neg pe_int) (fun _ _ => rfl)) (pe_cal (cal_greatest_in T) (hr.mono (by decide)) (by rfl) (pa_cons (pv 4) (pa_cons (pv 10) (pa_cons (pv 6) pa_nil))))))
      (pss_one (ps_ret (pe_and (pe_cmpR (op_eqD hr.units) (pe_cal (cal_greatest_in T) (hr.mono (by decide)) (by rfl) (pa_cons (pv 4) (pa_cons (pv 13) (pa_cons (pv 6) pa_nil)))) (pv 13) (nomark _)) (pe_one (pe_cmpR (op_eqD hr.units) (pe_cal (cal_least_in T) (hr.mono (by decide)) (by rfl) (pa_cons (pv 4) (pa_cons (pv 14) (pa_cons (pv 6) pa_nil)))) (pe_cal (cal_l_normal T) (hr.mono (by decide)) (by rfl) (pa_cons (pv 1) (pa_cons (pv 3) (pa_cons (pv 14) pa_nil)))) (nomark _))))))))))))))))))), ?_⟩
    refine ⟨_, rfl, p, rfl, hb, fun v0 n' bs H1 o1 b1 sd va mem => ?_⟩
    obtain ⟨n, rfl⟩ : ∃ n : Nat, n' = (n : Int) := ⟨n'.toNat, by have := va.lo; omega⟩
    obtain ⟨t, bv, rfl, q1, hbs⟩ := sd
    have n4 := va.hi
    have n1 := va.lo
    refine ⟨t, _, rfl, q1, rfl, _, _, rfl, _, _, rfl, rfl, ?_⟩
    refine ⟨_, rfl, _, rfl, n, bv, bs, rfl, hbs, va, fun rv H2 s2 rr2 => ?_⟩
    refine ⟨_, rfl, _, rfl, n, bv, bs, .inl rfl, fun _ => hbs.same s2, va, fun bw r H3 s3 n3 y3 => ?_⟩
    refine ⟨_, rfl, _, rfl, .of_le (by decide) (by omega) (by decide) (by omega), fun q nq => ?_⟩
    have sq := same_new (o := .tup (rgV 0 (n : Int))) nq
    refine ⟨show 3 ≤ sizeLine by decide, fun q2 nq2 => ?_⟩
    have sq2 := same_new (o := .tup [rv, .ref r, .ref q]) nq2
    refine ⟨q2, _, rfl, .of upd_same, rfl, _, _, rfl, _, _, rfl, _, _, rfl, rfl, ?_⟩
    have ev : TI K (upd (upd H3 q (.tup (rgV 0 (n : Int)))) q2 (.tup [rv, .ref r, .ref q])) (.ref q) (castW (List.range n)) := TI.same ⟨q, rfl, by rw [← rg_cast]; exact .of upd_same⟩ sq2
    have S4 := (s2.trans s3).trans (sq.trans sq2)
    have rr4 := (rr2.same s3).same (sq.trans sq2)
    have y4 := y3.same (sq.trans sq2)
    have b4 := b1.same S4
    have O4 := o1.trans (.of_same S4)
    clear hb o1 b1 q1 hbs s2 rr2 s3 n3 y3 sq S4
    generalize upd (upd H3 q (.tup (rgV 0 (n : Int)))) q2 (.tup [rv, .ref r, .ref q]) = H4 at *
    -- some letters
    refine ⟨_, rfl, _, rfl, _, rfl, _, rfl, p, n, rfl, b4, by omega, by omega, fun j1 J1 H5 o5 b5 t1 hJ1 as1 _ => ?_⟩
    refine ⟨_, rfl, _, rfl, p, n, rfl, b5, by omega, by omega, fun j2 J2 H6 o6 b6 t2 hJ2 as2 _ => ?_⟩
    refine ⟨Nat.zero_le _, fun e ne => ⟨show 4 ≤ sizeLine by decide, fun L nL => ?_⟩⟩
    have se := same_new (o := .tup []) ne
    have sL := same_new (o := .lst [.ref q, j1, j2, .ref e]) nL
    have SL := se.trans sL
    have b6' := b6.same SL
    have nLp : L ≠ p := vat_ne (b6.same se) nL
    refine ⟨p, L, _, rfl, b6', .inl ⟨upd_same, nLp⟩, by simp, by simp, fun jv H7 hv o7 b7 => ?_⟩
    have rr7 := (((rr4.but o5 b4).but o6 b5).same SL).but o7 b6'
    have y7 := (((y4.but o5 b4).but o6 b5).same SL).but o7 b6'
    have ev7 := (((ev.but o5 b4).but o6 b5).same SL).but o7 b6'
    have t17 := ((t1.but o6 b5).same SL).but o7 b6'
    have t27 := (t2.same SL).but o7 b6'
    have te7 : TI K H7 (.ref e) (castW []) := TI.but (TI.same ⟨e, rfl, .of upd_same⟩ sL) o7 b6'
    obtain ⟨J, tj, hJ, as, J4⟩ : ∃ J, TI K H7 jv (castW J) ∧ Rt.In n J ∧ Asc J ∧ J.length ≤ 4 := by
      have few : ∀ J, Rt.In n J → Asc J → J.length ≤ 4 := fun J hJ as => by
        have := (asc_sub hJ as).length_le
        rw [List.length_range] at this
        omega
      rcases List.mem_cons.mp hv with rfl | hv
      · exact ⟨_, ev7, in_range' n, asc_range n, few _ (in_range' n) (asc_range n)⟩
      rcases List.mem_cons.mp hv with rfl | hv
      · exact ⟨_, t17, hJ1, as1, few _ hJ1 as1⟩
      rcases List.mem_cons.mp hv with rfl | hv
      · exact ⟨_, t27, hJ2, as2, few _ hJ2 as2⟩
      · rw [List.mem_singleton.mp hv]
        exact ⟨[], te7, Rt.In.nil, .nil, by simp⟩
    have O7 := O4.trans (o5.trans (o6.trans ((Off.of_same SL).trans o7)))
    have R7 : Kn K C H7 p r bw rv jv n bs J := ⟨b7, y7, rr7, tj⟩
    clear ev rr4 y4 b4 O4 o5 b5 t1 hJ1 as1 o6 b6 t2 hJ2 as2 se sL SL b6' o7 t17 t27 te7 hv rr7 y7 b7 tj nL ne nLp
    obtain ⟨W, top, W0, top0, F⟩ := fin2 va mem hJ as
    have rl : (List.range n).length ≤ 4 := by rw [List.length_range]; omega
    -- all members, and those by the letters
    refine ⟨_, rfl, _, rfl, _, rfl, rv, .ref q, n, bs, List.range n, W0 ++ [top0], rfl, R7.rr, ev7, va, in_range' n, rl, F.g.all, F.g.few, F.g.le, fun vm H8 s8 w8 f8 => ?_⟩
    have R8 := R7.same s8
    refine ⟨_, rfl, _, rfl, _, rfl, rv, jv, n, bs, J, W ++ [top], rfl, R8.rr, R8.so, va, hJ, J4, F.f.all, F.f.few, F.f.le, fun vb H9 s9 w9 f9 => ?_⟩
    have R9 := R8.same s9
    have wm9 := w8.same s9
    have O9 := O7.trans (.of_same (s8.trans s9))
    have nm : vm ≠ .ref p := fun e => by
      have := f8 p e
      obtain ⟨_, _, _, hb⟩ := R7.b
      rw [hb] at this
      cases this
    have nb_ : vb ≠ .ref p := fun e => by
      have := f9 p e
      obtain ⟨_, _, _, hb⟩ := R8.b
      rw [hb] at this
      cases this
    clear R7 R8 s8 w8 f8 s9 f9 O7 ev7
    have hV : ∀ x ∈ W0 ++ [top0], Rt.In n x := fun x hx => ((F.g.all.me x).mp hx).1.1
    -- the least ones
    obtain ⟨ya, lx, rfl, hya, hlx⟩ := id wm9
    have lxl := hlx.len
    rw [List.length_map] at lxl
    have few0 := F.g.few
    refine ⟨_, _, rfl, _, rfl, ya, rfl, ⟨_, .of hya⟩, fun D nD => lc_it (walk_list (K := K) (a := ya) (xs := lx)) (fun j H' => Same H9 H' ∧ ∃ zs, H' D = some (.lst zs) ∧ A2 (TI K H') zs ((lowW n bs J ((W0 ++ [top0]).take j)).map castW)) ⟨same_new nD, [], upd_same, trivial⟩ (fun j H' _ h => .of (h.1 _ _ hya)) ?_ ?_⟩
    · rintro j yy Hb' Hb hj ⟨sb, zs, hD, hz⟩ ⟨eb', hyj⟩
      subst eb'
      obtain ⟨c0, ec, tc⟩ := hlx.get hyj
      rw [List.getElem?_map] at ec
      cases ez : (W0 ++ [top0])[j]? with
      | none => rw [ez] at ec; cases ec
      | some z0 =>
        rw [ez] at ec
        obtain rfl : c0 = castW z0 := (Option.some.inj ec).symm
        have zin := List.mem_of_getElem? ez
        have z9 := F.few zin
        have nz := ((F.g.all.me z0).mp zin).1
        have tcb := tc.same sb
        obtain ⟨st, hst⟩ := Strip.ex (bs := bs) hJ _ nz.1 rfl
        obtain ⟨_, _, _, vl⟩ := hst.parts va hJ nz
        have Rb := R9.same sb
        refine ⟨rfl, _, rfl, _, rfl, _, rfl, _, rfl, rv, yy, jv, n, bs, z0, J, st, rfl, Rb.rr, tcb, va, nz.1, by omega, Rb.so, hJ, as, J4, hst, fun a v1 v2 H3 s3 q3 t1 t2 => ?_⟩
        refine ⟨_, _, _, _, rfl, rfl, q3, at_of (j := 1) rfl rfl, Nat.zero_le _, fun e ne => ?_⟩
        have se := same_new (o := .tup []) ne
        refine ⟨_, _, (t2.same se).dp, (show TI K _ (.ref e) [] from ⟨e, rfl, .of upd_same⟩).dp, sh_dT _, sh_dT _, ?_⟩
        rw [eqv_dT]
        have eb2 : decide (castW (nfc n bs st.reverse) = []) = (RJ n bs J z0.reverse).isEmpty := by
          rw [Bool.eq_iff_iff, decide_eq_true_iff, low_iff va hJ nz.1]
          constructor
          · intro e
            have e : nfc n bs st.reverse = [] := castW_inj e
            rw [e] at vl
            obtain rfl : st = [] := List.eq_nil_of_length_eq_zero vl.symm
            cases hst with
            | done h => exact h
          · intro noJ
            obtain rfl := (Strip.done (bs := bs) noJ).det hst
            have := List.eq_nil_of_length_eq_zero (show (nfc n bs ([] : List Nat).reverse).length = 0 by rw [vl]; rfl)
            rw [this]
            rfl
        rw [eb2]
        have S3 := s3.trans se
        have hD3 := S3 _ _ hD
        have hz3 := hz.imp fun _ _ z => TI.same z S3
        generalize upd H3 e (.tup []) = H4' at *
        have et : lowW n bs J ((W0 ++ [top0]).take (j + 1)) = lowW n bs J ((W0 ++ [top0]).take j) ++ (if (RJ n bs J z0.reverse).isEmpty = true then [z0] else []) := by
          rw [take_snoc ez]
          unfold lowW
          rw [List.filter_append]
          cases e : (RJ n bs J z0.reverse).isEmpty with
          | true => simp [e]
          | false => simp [e]
        cases hb : (RJ n bs J z0.reverse).isEmpty with
        | false =>
          rw [hb, if_neg (by decide), List.append_nil] at et
          exact ⟨_, rfl, iteF ⟨sb.trans S3, zs, hD3, by rw [et]; exact hz3⟩⟩
        | true =>
          rw [hb, if_pos rfl] at et
          refine ⟨_, rfl, iteT ?_⟩
          have oD : Off D H4' (upd H4' D (.lst (zs ++ [yy]))) := off_upd
          have zl := hz.len
          have lw : (lowW n bs J ((W0 ++ [top0]).take j)).length ≤ 120 := by
            refine Nat.le_trans (List.length_filter_le _ _) ?_
            rw [List.length_take]
            omega
          rw [List.length_map] at zl
          refine ⟨_, rfl, _, hD3, small1000 (by omega), same_off nD (sb.trans S3) oD, _, upd_same, ?_⟩
          rw [et, List.map_append]
          exact A2.two (hz3.imp fun v k h => oD.ti hD3 h) (oD.ti hD3 (tcb.same S3))
    · rintro Ha ⟨sa, zs, hD, hz⟩
      rw [lxl, List.take_length] at hz
      have zl := hz.len
      rw [List.length_map] at zl
      have lowl : (lowW n bs J (W0 ++ [top0])).length ≤ 120 := Nat.le_trans (List.length_filter_le _ _) few0
      have nDp : D ≠ p := vat_ne R9.b nD
      have Ra := R9.same sa
      have wma := wm9.same sa
      have wba := w9.same sa
      have Oa := O9.trans (.of_same sa)
      clear R9 w9 wm9 O9 hya hlx
      have noNil : NoJ n (mB bs) J [] := fun s hs h => by
        have e0 : Rt.len n (mB bs) [] = 0 := by
          have := Rt.len_le (Rt.Cg.rfl (n := n) (m := mB bs) [])
          exact Nat.eq_zero_of_le_zero this
        omega
      have nilV : ([] : List Nat) ∈ W0 ++ [top0] := (F.g.all.me []).mpr ⟨NW.nil va, .nil⟩
      have nilL : ([] : List Nat) ∈ lowW n bs J (W0 ++ [top0]) := List.mem_filter.mpr ⟨nilV, (low_iff va hJ (hV _ nilV)).mpr noNil⟩
      have lpos : 0 < (lowW n bs J (W0 ++ [top0])).length := List.length_pos_of_mem nilL
      have bl120 := F.f.few
      have prod := F.pr
      obtain ⟨yb, lb, rfl, hyb, hlb⟩ := id wba
      have lbl := hlb.len
      rw [List.length_map] at lbl
      have bpos : 0 < (W ++ [top]).length := by simp
      obtain ⟨ym, lm, eym, hym, hlm⟩ := id wma
      have lml := hlm.len
      rw [List.length_map] at lml
      cases eym
      -- the least ones are told
      refine ⟨_, rfl, _, rfl, r, jv, n, bw, bs, J, W0 ++ [top0], rfl, Ra.y, va, Ra.so, hJ, as, J4, F.g.all, F.g.few, F.g.le, fun v1 H1' s1 w1 => ?_⟩
      refine ⟨_, rfl, D, zs, rfl, .inl ⟨.of (s1 _ _ hD), fun tq ntq => ?_⟩⟩
      have st1 := same_new (o := .tup zs) ntq
      have B1 : BsAt K (upd H1' tq (.tup zs)) (.ref tq) ((lowW n bs J (W0 ++ [top0])).map castW) := ⟨tq, zs, rfl, .of upd_same, ((hz.imp fun v k h => (h.same s1).same st1)).tis⟩
      refine ⟨_, _, (w1.same st1).dp, B1.dp, sh_dB _, sh_dB _, ?_⟩
      rw [eqv_dB, decide_eq_true (by rfl)]
      refine ⟨_, rfl, iteF ?_⟩
      have S1 := s1.trans st1
      have hD1 := S1 _ _ hD
      refine ⟨_, rfl, D, _, rfl, .inl (.of hD1), _, rfl, yb, _, rfl, .inl (.of (S1 _ _ hyb)), _, _, rfl, rfl, wide_mul (show (zs.length : Int).natAbs < 2 ^ 61 by omega) (show (lb.length : Int).natAbs < 2 ^ 61 by omega) (by decide) (by decide) (by decide), _, rfl, ya, _, rfl, .inl (.of (S1 _ _ hym)), ?_⟩
      rw [show (fun i j : Int => V.int (i * j)) ((zs.length : Nat) : Int) ((lb.length : Nat) : Int) = V.int ((lm.length : Nat) : Int) from congrArg V.int (by rw [zl, lbl, lml, ← prod]; exact (Int.natCast_mul _ _).symm)]
      refine ⟨rfl, _, rfl, ?_⟩
      rw [decide_eq_true (by rfl)]
      refine iteF ?_
      have Rb := Ra.same S1
      have wbb := wba.same S1
      have wmb := wma.same S1
      have hzb := hz.imp fun v k h => TI.same h S1
      have Ob := Oa.trans (.of_same S1)
      clear Ra wba wma hz Oa s1 w1 st1 B1 S1 hD hyb hym hlb hlm sa
      generalize upd H1' tq (.tup zs) = Hb at *
      -- a least one, one in the letters
      refine ⟨_, rfl, _, rfl, p, D, zs, rfl, Rb.b, .inl ⟨hD1, nDp⟩, by omega, by omega, fun uv Hc hu oc bc => ?_⟩
      obtain ⟨u, hu, tu⟩ := a2_mem hzb hu
      have tuc := tu.but oc Rb.b
      obtain ⟨uV, no⟩ := lowW_mem va hJ hu hV
      have nu := ((F.g.all.me u).mp uV).1
      have u9 := F.few uV
      have Rc := Rb.but oc bc
      have wbc := wbb.but oc Rb.b nb_
      have wmc := wmb.but oc Rb.b nm
      obtain ⟨yb2, lb2, eyb, hyb2, hlb2⟩ := id wbc
      cases eyb
      have lb2l := hlb2.len
      rw [List.length_map] at lb2l
      refine ⟨_, rfl, _, rfl, p, yb, lb2, rfl, bc, .inl ⟨hyb2, fun e => nb_ (by rw [e])⟩, by omega, by omega, fun zv Hd hz2 od bd => ?_⟩
      obtain ⟨z, hz3, tz⟩ := a2_mem hlb2 hz2
      have tzd := tz.but od bc
      obtain ⟨nz, jz⟩ := (F.f.all.me z).mp hz3
      have z9 := F.fewJ va hz3
      have Rd := Rc.but od bd
      have wbd := wbc.but od bc nb_
      have wmd := wmc.but od bc nm
      have tud := tuc.but od bc
      have Od := (Ob.trans oc).trans od
      clear Rb wbb wmb hzb Ob hD1 tu tuc Rc wbc wmc hyb2 hlb2 tz hz2 oc od bc
      refine ⟨_, _, rfl, ?_⟩
      -- their product
      obtain ⟨ua, rfl, hua⟩ := id tud
      obtain ⟨za, rfl, hza⟩ := id tzd
      have iuz : Rt.In n (u ++ z) := Rt.In.app.mpr ⟨nu.1, nz.1⟩
      refine ⟨_, rfl, _, rfl, _, rfl, _, rfl, cat_any hua hza (by simp only [List.length_map, cast_len']; omega) fun vc He sc ⟨cc, ecc, qc⟩ => ?_⟩
      subst ecc
      rw [← List.map_append, ← castW_app] at qc
      have Re := Rd.same sc
      refine ⟨rv, .ref cc, n, bs, u ++ z, _, rfl, Re.rr, ⟨cc, rfl, qc⟩, va, iuz, nfc_nf va iuz, by rw [List.length_append]; omega, fun mv Hf sd2 tm => ?_⟩
      have S2 := sc.trans sd2
      have Rf := Rd.same S2
      have tuf := tud.same S2
      have tzf := tzd.same S2
      have wbf := wbd.same S2
      have wmf := wmd.same S2
      have Of := Od.trans (.of_same S2)
      clear Rd tud tzd wbd wmd Od Re sc sd2 S2 hua hza qc
      obtain ⟨nml, nmc⟩ : NW n bs (nfc n bs (u ++ z)) ∧ (nfc n bs (u ++ z)).length ≤ 9 := ⟨NW.of va iuz (nfc_nf va iuz), F.few (F.all va iuz)⟩
      obtain ⟨sm, hsm⟩ := Strip.ex (bs := bs) hJ _ nml.1 rfl
      obtain ⟨sb1, sb2⟩ := hsm.back va hJ nu no nz jz
      -- its two parts
      refine ⟨_, rfl, _, rfl, _, rfl, r, mv, jv, bw, n, bs, nfc n bs (u ++ z), J, sm, rfl, Rf.y, va, tm, nml.1, by omega, Rf.so, hJ, as, J4, hsm, fun a6 w1 w2 Hg sg qg g1 g2 => ?_⟩
      rw [sb1] at g1
      rw [sb2] at g2
      refine ⟨_, rfl, _, rfl, show 2 ≤ sizeLine by decide, fun tq2 ntq2 => ?_⟩
      have sq := same_new (o := .tup [V.ref ua, V.ref za]) ntq2
      have B1 : BsAt K (upd Hg tq2 (.tup [V.ref ua, V.ref za])) (.ref a6) [castW u, castW z] := ⟨a6, [w1, w2], rfl, sqT_same sq qg, g1.same sq, g2.same sq, trivial⟩
      have B2 : BsAt K (upd Hg tq2 (.tup [V.ref ua, V.ref za])) (.ref tq2) [castW u, castW z] := ⟨tq2, _, rfl, .of upd_same, (tuf.same sg).same sq, (tzf.same sg).same sq, trivial⟩
      refine ⟨_, _, B1.dp, B2.dp, sh_dB _, sh_dB _, ?_⟩
      rw [eqv_dB, decide_eq_true (by rfl)]
      refine ⟨_, rfl, iteF ?_⟩
      have S3 := sg.trans sq
      have Rg := Rf.same S3
      refine ⟨_, rfl, _, rfl, _, rfl, r, mv, jv, bw, n, bs, nfc n bs (u ++ z), J, sm, rfl, Rg.y, va, tm.same S3, nml.1, by omega, Rg.so, hJ, as, J4, hsm, fun v7 Hh s7 g7 => ?_⟩
      rw [sb1] at g7
      have S4 := S3.trans s7
      have tuh := tuf.same S4
      refine ⟨_, rfl, _, _, g7.dp, tuh.dp, sh_dT _, sh_dT _, ?_⟩
      rw [eqv_dT, decide_eq_true (by rfl)]
      refine ⟨_, rfl, iteF ?_⟩
      have Rh := Rf.same S4
      have tmh := tm.same S4
      have wbh := wbf.same S4
      have wmh := wmf.same S4
      have Oh := Of.trans (.of_same S4)
      clear Rf tuf tzf tm wbf wmf Of sg sq B1 B2 S3 Rg s7 S4 g7 qg g1 g2
      -- in the coset
      have stu : Strip n bs J u [] := .done no
      have eu : nfc n bs (u ++ []) = u := by
        rw [List.append_nil]
        exact (nfc_nf va nu.1).det nu.2
      refine ⟨_, rfl, _, rfl, _, rfl, _, rfl, r, .ref ua, jv, bw, n, bs, u, J, [], W ++ [top], rfl, Rh.y, va, tuh, nu.1, by omega, Rh.so, hJ, as, J4, stu, F.f.all, F.f.few, F.f.le, fun vC out Hi si bC poC soC => ?_⟩
      rw [eu] at poC
      have tmi := tmh.same si
      refine ⟨_, _, tmi.dp, bC.dp, sh_dT _, sh_dB _, ?_⟩
      have ins : (((out.map castW).map dT).any fun y => PyData.eqv y (dT (castW (nfc n bs (u ++ z))))) = true := List.any_eq_true.mpr ⟨dT (castW (nfc n bs (u ++ z))), List.mem_map.mpr ⟨castW (nfc n bs (u ++ z)), List.mem_map.mpr ⟨_, poC.mem_iff.mpr (List.mem_map.mpr ⟨z, hz3, rfl⟩), rfl⟩, rfl⟩, eqv_same _⟩
      refine ⟨false, congrArg V.bl (show (!(((out.map castW).map dT).any fun y => PyData.eqv y (dT (castW (nfc n bs (u ++ z)))))) = false by rw [ins]; rfl), iteF ?_⟩
      have Ri := Rh.same si
      have tui := tuh.same si
      have wbi := wbh.same si
      have wmi := wmh.same si
      have Oi := Oh.trans (.of_same si)
      clear Rh tuh wbh wmh Oh si bC poC soC ins tmh
      -- the greatest one
      obtain ⟨ntop, jtop⟩ := F.f.top_in
      have top9 := F.fewJ va (show top ∈ W ++ [top] by simp)
      have iut : Rt.In n (u ++ top) := Rt.In.app.mpr ⟨nu.1, ntop.1⟩
      refine ⟨_, rfl, _, rfl, _, rfl, r, .ref ua, jv, bw, n, bs, u, J, [], top, W, rfl, Ri.y, va, tui, nu.1, by omega, Ri.so, hJ, as, J4, stu, F.f.all, F.f.few, F.f.le, fun vE Hj sj tE => ?_⟩
      rw [eu] at tE
      have Rj := Ri.same sj
      obtain ⟨yb3, lb3, eyb3, hyb3, hlb3⟩ := wbi.same sj
      cases eyb3
      rw [List.map_append] at hlb3
      obtain ⟨tv, atv, ttv⟩ := a2_last hlb3
      obtain ⟨ta, rfl, hta⟩ := ttv
      obtain ⟨ua3, eua3, hua3⟩ := tui.same sj
      cases eua3
      refine ⟨_, rfl, _, rfl, _, rfl, _, rfl, _, rfl, _, _, _, _, rfl, rfl, .of hyb3, atv, cat_any hua3 hta (by simp only [List.length_map, cast_len']; omega) fun vc Hk sk ⟨cc3, ecc3, qc3⟩ => ?_⟩
      subst ecc3
      rw [← List.map_append, ← castW_app] at qc3
      have Rk := Rj.same sk
      refine ⟨rv, .ref cc3, n, bs, u ++ top, _, rfl, Rk.rr, ⟨cc3, rfl, qc3⟩, va, iut, nfc_nf va iut, by rw [List.length_append]; omega, fun gv Hl sl tg => ?_⟩
      refine ⟨_, _, (tE.same (sk.trans sl)).dp, tg.dp, sh_dT _, sh_dT _, ?_⟩
      rw [eqv_dT, decide_eq_true (by rfl)]
      refine ⟨_, rfl, iteF ?_⟩
      have S5 := sj.trans (sk.trans sl)
      have Rl := Ri.same S5
      have tul := tui.same S5
      have wml := wmi.same S5
      have Ol := Oi.trans (.of_same S5)
      clear Ri tui wbi wmi Oi sj tE Rj hyb3 hlb3 hta hua3 sk qc3 Rk sl tg S5
      refine (show tNext _ [some (V.ref p), some (V.int n), some bv, some rv, some (V.ref r), some (V.ref q), some jv, some (V.ref ya), some (V.ref yb), some (V.ref D), some (V.ref ua), some (V.ref za), some mv, none, none] _ from ?_)
      -- the longest one times a least one
      obtain ⟨nt0, _⟩ := F.g.top_in
      have t09 := F.sm
      have itu : Rt.In n (top0 ++ u) := Rt.In.app.mpr ⟨nt0.1, nu.1⟩
      obtain ⟨ym3, lm3, eym3, hym3, hlm3⟩ := id wml
      cases eym3
      rw [List.map_append] at hlm3
      obtain ⟨mv2, atm, tmv⟩ := a2_last hlm3
      obtain ⟨ma, rfl, hma⟩ := id tmv
      obtain ⟨ua4, eua4, hua4⟩ := id tul
      cases eua4
      refine ⟨_, rfl, _, rfl, _, rfl, _, rfl, _, _, _, _, rfl, rfl, .of hym3, atm, _, rfl, cat_any hma hua4 (by simp only [List.length_map, cast_len']; omega) fun vc Hm sm2 ⟨cc4, ecc4, qc4⟩ => ?_⟩
      subst ecc4
      rw [← List.map_append, ← castW_app] at qc4
      have Rm := Rl.same sm2
      refine ⟨rv, .ref cc4, n, bs, top0 ++ u, _, rfl, Rm.rr, ⟨cc4, rfl, qc4⟩, va, itu, nfc_nf va itu, by rw [List.length_append]; omega, fun fv Hn sn tf => ?_⟩
      have S6 := sm2.trans sn
      have Rn := Rl.same S6
      have tun := tul.same S6
      -- and times a greatest one
      obtain ⟨fn, f9⟩ : NW n bs (nfc n bs (top0 ++ u)) ∧ (nfc n bs (top0 ++ u)).length ≤ 9 := ⟨NW.of va itu (nfc_nf va itu), F.few (F.all va itu)⟩
      obtain ⟨gn, g9⟩ : NW n bs (nfc n bs (u ++ top)) ∧ (nfc n bs (u ++ top)).length ≤ 9 := ⟨NW.of va iut (nfc_nf va iut), F.few (F.all va iut)⟩
      have itg : Rt.In n (top0 ++ nfc n bs (u ++ top)) := Rt.In.app.mpr ⟨nt0.1, gn.1⟩
      have hym4 := S6 _ _ hym3
      refine ⟨_, rfl, _, rfl, _, _, _, _, rfl, rfl, .of hym4, atm, _, rfl, _, rfl, _, rfl, r, .ref ua, jv, bw, n, bs, u, J, [], top, W, rfl, Rn.y, va, tun, nu.1, by omega, Rn.so, hJ, as, J4, stu, F.f.all, F.f.few, F.f.le, fun vE Ho so tE => ?_⟩
      rw [eu] at tE
      obtain ⟨ga, rfl, hga⟩ := id tE
      obtain ⟨ma2, ema2, hma2⟩ := (tmv.same S6).same so
      cases ema2
      refine cat_any hma2 hga (by simp only [List.length_map, cast_len']; omega) fun vc Hp' sp' ⟨cc5, ecc5, qc5⟩ => ?_
      subst ecc5
      rw [← List.map_append, ← castW_app] at qc5
      have tl : TI K Hp' (.ref cc5) (castW (top0 ++ nfc n bs (u ++ top))) := ⟨cc5, rfl, qc5⟩
      have S7 := so.trans sp'
      have Rp := Rn.same S7
      have tfp := tf.same S7
      have Op := Ol.trans (.of_same (S6.trans S7))
      clear Rl tul wml Ol hym3 hlm3 hma hua4 tmv sm2 qc4 Rm sn tf S6 Rn tun hym4 so tE hga hma2 sp' S7
      obtain ⟨sf, hsf⟩ := Strip.ex (bs := bs) hJ _ fn.1 rfl
      have eg := F.f.greatest va hJ fn hsf fun s hs => by
        have c := ((nfc_nf va itu).cg itu).1
        have := F.far va hJ nu.1 no s hs
        rw [Rt.len_congr c, Rt.len_congr (c.right [s])] at this
        exact this
      refine ⟨_, rfl, _, rfl, _, rfl, r, fv, jv, bw, n, bs, nfc n bs (top0 ++ u), J, sf, top, W, rfl, Rp.y, va, tfp, fn.1, by omega, Rp.so, hJ, as, J4, hsf, F.f.all, F.f.few, F.f.le, fun vG Hq sq4 tG => ?_⟩
      rw [eg] at tG
      have tfq := tfp.same sq4
      refine ⟨_, rfl, _, _, tG.dp, tfq.dp, sh_dT _, sh_dT _, ?_⟩
      rw [eqv_dT, decide_eq_true (by rfl)]
      have Rq := Rp.same sq4
      have tlq := tl.same sq4
      have Oq := Op.trans (.of_same sq4)
      have nol := F.last va hJ nu.1 no
      have stl : Strip n bs J (top0 ++ nfc n bs (u ++ top)) [] := .done nol
      refine ⟨_, rfl, iteT ?_⟩
      refine ⟨_, rfl, _, rfl, _, rfl, r, .ref cc5, jv, bw, n, bs, top0 ++ nfc n bs (u ++ top), J, [], rfl, Rq.y, va, tlq, itg, by rw [List.length_append]; omega, Rq.so, hJ, as, J4, stl, fun v8 Hr sr g8 => ?_⟩
      rw [List.append_nil] at g8
      refine ⟨_, rfl, _, rfl, _, rfl, rv, .ref cc5, n, bs, top0 ++ nfc n bs (u ++ top), _, rfl, Rq.rr.same sr, tlq.same sr, va, itg, nfc_nf va itg, by rw [List.length_append]; omega, fun v9 Hs ss g9 => ?_⟩
      refine ⟨_, _, (g8.same ss).dp, g9.dp, sh_dT _, sh_dT _, ?_⟩
      rw [eqv_dT, decide_eq_true (by rfl)]
      exact k _ (Oq.trans (.of_same (sr.trans ss))) ((Rq.b.same sr).same ss)
end
end Sk

namespace Sk
open PySem L2 Ow
def twentyD : Dat := (3, [[0, 1, 5], [1, 2, 3]])
section
variable {X : Cx} {k i : Nat} {C : Addr} {e o : Expr} {es : List Expr} {ta : TE} {t : TA} {p pos apos : Pos} {x : Str}
def tCMeth0 (C : Addr) (sp : Sp) (E : XK) (ta : TE) : TE := fun σ H Q => ta σ H fun x H1 => x = .ref C ∧ sp [.ref C] H1 Q E
theorem pe_cmeth0 {CX : CXT} {sp : Sp} {E : XK} {m : Str} {mc : Value} {q g : Addr} {pl : Sem Bool} (he : PE X o ta) (r : ClX.CRead X.K C mc) (c : ClX.CMet X.K C mc m q g) (F : FnR X.prog X.w X.K X.mg X.base CX k g sp) (hr : Room k X.A) (hx : Passes CX X E)
    (ht : eval (.Call (.Attribute o m apos) [] [] pos) X.env = (do
      let ov ← eval o X.env
      standAt apos.atName
      let (f, first) ← holding [ov] (getMethod ov m pl)
      callWith pos f first (backTo pos (starEach [] X.env)) (backToKw pos (keywordEach [] X.env))) := by rfl) :
    PE X (.Call (.Attribute o m apos) [] [] pos) (tCMeth0 C sp E ta) := by
  refine ⟨fun pins s σ H Q I h => ?_⟩
  refine PySem.W.methodCall_KW (pl := pl) (thn (he.run pins s σ H _ I h) fun u s1 ⟨x, H1, I1, rx, ex, q⟩ => ?_) ht
  subst ex
  obtain rfl : u = Value.ref C := rx
  refine ClX.getmethcm_ok I1 r c fun s2 I2 => ?_
  refine PySem.W.callWith_M0 (K := X.K) (first := []) ⟨ClX.pin_at I2, I2.kIn⟩ c.fi ?_
  exact ClX.run_cm (us := []) (vs := []) F hr hx I2 .nil q
end
section
variable {P : Program} {w : World} {K : PySem.W.Frag} {mg : Str → Option Value} {base : Heap} {C : Addr}
theorem ok_twenty (T : Txt K mg C) {f : Addr} {fd : FuncData} (D : Fun K "twenty" "System.twenty" s_twenty f fd) : FnOk P w K mg base CX0 6 f fd ["cls"] (fun vs H Q _ => vs = [.ref C] ∧ NewD K C H Q twentyD) := by
  refine D.ok sc_twenty (fun vs H Q E h => ?_) (fun cdv A outer s H vs Q E hr h => ?_)
  · obtain ⟨rfl, _⟩ := h
    rfl
  · obtain ⟨rfl, q⟩ := h
    refine ⟨_, (pss_one (ps_ret (pe_cls (i := 0) T (hr.mono (by decide)) rfl (Or.inl rfl) (pa_cons pe_int (pa_cons (pe_bs (pas_cons pe_ti3 (pas_cons pe_ti3 pas_nil))) pa_nil))))), ?_⟩
    exact ⟨rfl, fun v H1 s1 hb => ⟨_, v, _, .inl rfl, fun _ => hb, okB_valid (d := twentyD) (by decide), q.sys s1 rfl⟩⟩
section
variable {X : Cx} {o e : Expr} {ta : TE} {t : TA} {apos pos : Pos}
theorem pe_cTwenty {pl : Sem Bool} (T : Txt X.K X.mg C) (hr : Room 6 X.A) (he : PE X o ta)
    (ht : eval (.Call (.Attribute o "twenty" apos) [] [] pos) X.env = (do
      let ov ← eval o X.env
      standAt apos.atName
      let (f, first) ← holding [ov] (getMethod ov "twenty" pl)
      callWith pos f first (backTo pos (starEach [] X.env)) (backToKw pos (keywordEach [] X.env))) := by rfl) :
    PE X (.Call (.Attribute o "twenty" apos) [] [] pos) (tCMeth0 C (fun vs H Q _ => vs = [.ref C] ∧ NewD X.K C H Q twentyD) E0 ta) := by
  obtain ⟨_, _, _, c, D⟩ := T.cTwenty
  exact pe_cmeth0 he T.crd c (unraw (ok_twenty T D) (D.binds fun _ _ _ _ _ _ us hl => match us, hl with | [_], _ => rfl)) hr pass0 ht
end
end
end Sk

namespace Sk
open PySem L2 Ow
open Rt (InJ NoJ)
section
variable {X : Cx} {x1 : Nat} {pos : Pos}
theorem pe_ti0 : PE X (.Tuple [] x1 pos) (tD fun H v => TI X.K H v []) :=
  pe_imp (pe_tup pa_nil) fun σ H Q q => ⟨Nat.zero_le _, fun p np => q _ _ (same_new np) ⟨p, rfl, .of upd_same⟩⟩
theorem pe_ti1 {a : Int} {k1 : Nat} {p1 : Pos} : PE X (.Tuple [.Constant (.int a) k1 p1] x1 pos) (tD fun H v => TI X.K H v [a]) :=
  pe_imp (pe_tup (pa_cons pe_int pa_nil)) fun σ H Q q => ⟨show 1 ≤ sizeLine by decide, fun p np => q _ _ (same_new np) ⟨p, rfl, .of upd_same⟩⟩
theorem pe_ti4 {a b c d : Int} {k1 k2 k3 k4 : Nat} {p1 p2 p3 p4 : Pos} : PE X (.Tuple [.Constant (.int a) k1 p1, .Constant (.int b) k2 p2, .Constant (.int c) k3 p3, .Constant (.int d) k4 p4] x1 pos) (tD fun H v => TI X.K H v [a, b, c, d]) :=
  pe_imp (pe_tup (pa_cons pe_int (pa_cons pe_int (pa_cons pe_int (pa_cons pe_int pa_nil))))) fun σ H Q q => ⟨show 4 ≤ sizeLine by decide, fun p np => q _ _ (same_new np) ⟨p, rfl, .of upd_same⟩⟩
end
theorem few24 {n : Nat} {bs : List (List Int)} (va : Valid n bs) (h : chkJ bs n (List.range n) = true) : AllJ n bs (List.range n) (WJ bs n (List.range n)) ∧ (WJ bs n (List.range n)).length ≤ 120 ∧ ∀ x ∈ WJ bs n (List.range n), x.length ≤ 24 := by
  obtain ⟨a, b, c, _, _⟩ := chkJ_all va (in_range' n) h
  exact ⟨a, b, c⟩
theorem vTw : Valid 3 twentyD.2 := okB_valid (d := twentyD) (by decide)
theorem vFive : Valid 4 (nb 0 4) := okB_valid (d := (4, nb 0 4)) (by decide)
theorem g3 : chkJ (nb 0 3) 3 (List.range 3) = true := by decide +kernel
theorem gT : chkJ twentyD.2 3 (List.range 3) = true := by decide +kernel
theorem g5 : chkJ (nb 0 4) 4 (List.range 4) = true := by decide +kernel
theorem r1 : (lowW 3 (nb 0 3) [0, 2] (WJ (nb 0 3) 3 (List.range 3))).map castW = [[], [1], [0, 1], [2, 1], [0, 2, 1], [1, 0, 2, 1]] := by decide +kernel
theorem r2 : (lowW 3 (nb 0 3) [0, 1, 2] (WJ (nb 0 3) 3 (List.range 3))).map castW = [[]] := by decide +kernel
theorem r3 : (lowW 3 twentyD.2 [0, 1] (WJ twentyD.2 3 (List.range 3))).length = 12 := by decide +kernel
theorem r4 : (lowW 4 (nb 0 4) [0, 1, 2] (WJ (nb 0 4) 4 (List.range 4))).length = 5 := by decide +kernel
end Sk

namespace Sk
open PySem L2 Ow
open Rt (InJ NoJ)
def spLaw (K : PySem.W.Frag) : Sp := fun vs H Q _ => ∃ (a : Addr) (ns : List Int), vs = [.ref a] ∧ SqL K H a (ns.map V.int) ∧ ns.length ≤ 63 ∧ ∀ H', Q (.bl true) H'
section
variable {P : Program} {Wo : World} {K : PySem.W.Frag} {mg : Str → Option Value} {base : Heap} {C : Addr}
theorem ok_law (T : Txt K mg C) {f : Addr} {fd : FuncData} (D : Fun K "law" "law" s_law f fd) : FnOk P Wo K mg base CX0 13 f fd ["_law_script"] (spLaw K) := by
  refine D.ok sc_law (fun vs H Q E h => ?_) (fun cdv A outer s H vs Q E hr h => ?_)
  · obtain ⟨a, ns, rfl, _⟩ := h
    rfl
  · obtain ⟨sa, ns, rfl, hs, hlen, k⟩ := h
    refine ⟨_, (pss_cons (ps_for PassesOwn.never rfl (pi_range1 (by rfl) T.b_range (pa_cons (pe_callB (call_max2 rfl) (by rfl) T.b_max (by decide +kernel) (pa_cons pe_int (pa_cons (pe_callB (call_min2 rfl) (by rfl) T.b_min (by decide +kernel) (pa_cons pe_int (pa_cons (pe_callB call_len_seq (by rfl) T.b_len (by decide +kernel) (pa_cons (pv 0) pa_nil)) pa_nil))) pa_nil))) pa_nil)) (pg_name (i := 1) sc_law.nd rfl (Or.inl rfl)) (pss_cons (ps_set (i := 2) sc_law.nd rfl (Or.inl rfl) (pe_cal (cal_l_bag T) (hr.mono (by decide)) (by rfl) (pa_cons (pv 0) (pa_cons (pv 1) pa_nil))))
      (pss_one (ps_if (PW.pt (pw_or (pt_not (pt_val (pe_cal (cal_l_right T) (hr.mono (by decide)) (by rfl) (pa_cons (pv 2) pa_nil)))) (pw_or1 (pt_not (pt_val (pe_cal (cal_l_right T) (hr.mono (by decide)) (by rfl) (pa_cons (pv 2) pa_nil))))))) (pss_one (ps_ret pe_bl)) pss_nil))))
      (pss_cons (ps_set (i := 3) sc_law.nd rfl (Or.inl rfl) (pe_cRows T (hr.mono (by decide)) (pe_glob (v := .ref C) (by rfl) T.mgSystem rfl) (pa_cons pe_int pa_nil)))
      (pss_cons (ps_set (i := 4) sc_law.nd rfl (Or.inl rfl) (pe_cal (cal_least_members T) (hr.mono (by decide)) (by rfl) (pa_cons (pv 3) (pa_cons (pe_tup (pa_cons pe_int (pa_cons pe_int pa_nil))) pa_nil))))
      (pss_cons (ps_if (PW.pt (pw_or (pt_cmpR (op_neD hr.units) (pv 4) (pe_bs (pas_cons pe_ti0 (pas_cons pe_ti1 (pas_cons pe_ti2 (pas_cons pe_ti2 (pas_cons pe_ti3 (pas_cons pe_ti4 pas_nil))))))) (nomark _)) (pw_or1 (pt_cmpR (op_neD hr.units) (pe_cal (cal_least_members T) (hr.mono (by decide)) (by rfl) (pa_cons (pv 3) (pa_cons (pe_tup (pa_cons pe_int (pa_cons pe_int (pa_cons pe_int pa_nil)))) pa_nil))) (pe_bs (pas_cons pe_ti0 pas_nil)) (nomark _))))) (pss_one (ps_ret pe_bl)) pss_nil)
      (pss_one (ps_ret (pe_and (pe_cmpR op_eq (pe_callB call_len_seq (by rfl) T.b_len (by decide +kernel) (pa_cons (pe_cal (cal_least_members T) (hr.mono (by decide)) (by rfl) (pa_cons (pe_cTwenty T (hr.mono (by decide)) (pe_glob (v := .ref C) (by rfl) T.mgSystem rfl)) (pa_cons (pe_tup (pa_cons pe_int (pa_cons pe_int pa_nil))) pa_nil))) pa_nil)) pe_int (nomark _)) (pe_one (pe_cmpR op_eq (pe_callB call_len_seq (by rfl) T.b_len (by decide +kernel) (pa_cons (pe_cal (cal_least_members T) (hr.mono (by decide)) (by rfl) (pa_cons (pe_cRows T (hr.mono (by decide)) (pe_glob (v := .ref C) (by rfl) T.mgSystem rfl) (pa_cons pe_int pa_nil)) (pa_cons (pe_tup (pa_cons pe_int (pa_cons pe_int (pa_cons pe_int pa_nil)))) pa_nil))) pa_nil)) pe_int (nomark _)))))))))), ?_⟩
    have hj : ∀ j : Int, -(2 ^ 62) ≤ (if (if (j : Int) < 3 then (j : Int) else 3) > 1 then (if (j : Int) < 3 then (j : Int) else 3) else 1) ∧ (if (if (j : Int) < 3 then (j : Int) else 3) > 1 then (if (j : Int) < 3 then (j : Int) else 3) else 1) < 2 ^ 62 := fun j => by
      split <;> split <;> omega
    refine ⟨_, rfl, _, _, rfl, .inl hs, _, _, rfl, _, _, rfl, _, rfl, (hj _).1, (hj _).2, for_range (lo := 0) (fun _ σ H' => SqL K H' sa (ns.map V.int) ∧ ∃ v1 v2 : Option V, σ = [some (.ref sa), v1, v2, none, none]) ⟨hs, none, none, rfl⟩ ?_ ?_⟩
    · rintro i σ H0 hi ⟨hs, v1, v2, rfl⟩
      refine ⟨_, rfl, _, rfl, sa, _, ns, rfl, hs, by omega, fun p H1 s1 np bb => ?_⟩
      refine ⟨_, rfl, p, rfl, bb, fun H2 o2 b2 => ⟨_, rfl, iteF ?_⟩⟩
      refine ⟨_, rfl, p, rfl, b2, fun H3 o3 b3 => ⟨_, rfl, iteF ?_⟩⟩
      exact ⟨SqL.ext hs (same_off np s1 (o2.trans o3)), _, _, rfl⟩
    · rintro σ H0 ⟨hs, v1, v2, rfl⟩
      refine ⟨rfl, 4, rfl, ⟨by decide, by decide⟩, fun r bv H1 s1 n1 y1 => ?_⟩
      have y1 : SysAt K C H1 r (3 : Nat) bv (nb 0 3) := y1
      clear hs s1 n1
      obtain ⟨a3, l3, k3⟩ := few24 vRows g3
      obtain ⟨aT, lT, kT⟩ := few24 vTw gT
      obtain ⟨a5, l5, k5⟩ := few24 vFive g5
      refine ⟨_, rfl, show 2 ≤ sizeLine by decide, fun t1 p1 => ?_⟩
      have x1 := same_new (o := .tup [.int 0, .int 2]) p1
      refine ⟨r, .ref t1, 3, bv, nb 0 3, [0, 2], _, rfl, y1.same x1, vRows, ⟨t1, rfl, .of upd_same⟩, all_in (by decide), by unfold Asc; decide, by decide, a3, l3, k3, fun v2 H2 s2 b2 => ?_⟩
      rw [r1] at b2
      have y2 := (y1.same x1).same s2
      clear y1 x1 s2 p1
      refine ⟨_, rfl, fun v3 H3 s3 b3 => ?_⟩
      refine ⟨_, _, (b2.same s3).dp, b3.dp, sh_dB _, sh_dB _, ?_⟩
      rw [eqv_dB, decide_eq_true (by rfl)]
      refine ⟨_, rfl, iteF ?_⟩
      refine ⟨_, rfl, show 3 ≤ sizeLine by decide, fun t4 p4 => ?_⟩
      have x4 := same_new (o := .tup [.int 0, .int 1, .int 2]) p4
      refine ⟨r, .ref t4, 3, bv, nb 0 3, [0, 1, 2], _, rfl, (y2.same s3).same x4, vRows, ⟨t4, rfl, .of upd_same⟩, all_in (by decide), by unfold Asc; decide, by decide, a3, l3, k3, fun v5 H5 s5 b5 => ?_⟩
      rw [r2] at b5
      refine fun v6 H6 s6 b6 => ?_
      refine ⟨_, _, (b5.same s6).dp, b6.dp, sh_dB _, sh_dB _, ?_⟩
      rw [eqv_dB, decide_eq_true (by rfl)]
      refine ⟨_, rfl, iteF ?_⟩
      -- twenty
      refine ⟨rfl, rfl, fun r7 bv7 H7 s7 n7 y7 => ?_⟩
      refine ⟨show 2 ≤ sizeLine by decide, fun t8 p8 => ?_⟩
      have x8 := same_new (o := .tup [.int 0, .int 1]) p8
      have y7 : SysAt K C H7 r7 (3 : Nat) bv7 twentyD.2 := y7
      refine ⟨r7, .ref t8, 3, bv7, twentyD.2, [0, 1], _, rfl, y7.same x8, vTw, ⟨t8, rfl, .of upd_same⟩, all_in (by decide), by unfold Asc; decide, by decide, aT, lT, kT, fun v9 H9 s9 b9 => ?_⟩
      obtain ⟨ya, lx, rfl, hya, hlx⟩ := b9
      have lxl := hlx.len
      rw [List.length_map, r3] at lxl
      refine ⟨ya, _, rfl, .inr hya, ?_⟩
      refine ⟨rfl, ?_⟩
      have e12 : decide (V.int ((lx.length : Nat) : Int) = V.int 12) = true := decide_eq_true (congrArg V.int (by omega))
      refine ⟨true, congrArg V.bl e12, iteT ?_⟩
      refine ⟨rfl, 5, rfl, ⟨by decide, by decide⟩, fun rA bvA HA sA nA yA => ?_⟩
      have yA : SysAt K C HA rA (4 : Nat) bvA (nb 0 4) := yA
      refine ⟨show 3 ≤ sizeLine by decide, fun tB pB => ?_⟩
      have xB := same_new (o := .tup [.int 0, .int 1, .int 2]) pB
      refine ⟨rA, .ref tB, 4, bvA, nb 0 4, [0, 1, 2], _, rfl, yA.same xB, vFive, ⟨tB, rfl, .of upd_same⟩, all_in (by decide), by unfold Asc; decide, by decide, a5, l5, k5, fun vC HC sC bC => ?_⟩
      obtain ⟨yc, lc, rfl, hyc, hlc⟩ := bC
      have lcl := hlc.len
      rw [List.length_map, r4] at lcl
      refine ⟨yc, _, rfl, .inr hyc, rfl, ?_⟩
      have e5 : decide (V.int ((lc.length : Nat) : Int) = V.int 5) = true := decide_eq_true (congrArg V.int (by omega))
      rw [e5]
      exact k _
end
end Sk

namespace Sk
open PySem L2 Ow
section
variable {K : PySem.W.Frag} {h : Heap} {mg : Str → Option Value} {x qual : Str} {st : Stmt} {f p C T0 : Addr} {oc kV doc pm cdv ct oc2 : Value} {od an od2 : Option Addr} {sl sl2 : Array (Option Value)} {tk n : Nat} {rest : List Value}
theorem mdef_mk (X : K.In h) (G : h.Ns mainGlobals mg) (a : PySem.W.nsIn K mainGlobals x = some (some (.ref f)))
    (l : K.lookup f = some ⟨oc, od, .func (PySem.W.fnOf x x (defArgs st) (defBody st) (defScope st) .none kV doc pm an cdv ct), sl⟩) (c : PySem.W.codeIn K cdv x = true) (k : PySem.W.keepIn K (.ref f) = true) : MDef K mg x st :=
  ⟨f, _, fun_mk l c k, PySem.W.mg_of X G a⟩
theorem gm_mk (a : PySem.W.findIn K (.ref C) x = some (some (.ref f))) (i : PySem.W.isFn K (.ref f) = true)
    (l : K.lookup f = some ⟨oc, od, .func (PySem.W.fnOf x qual (defArgs st) (defBody st) (defScope st) .none kV doc pm an cdv ct), sl⟩) (c : PySem.W.codeIn K cdv qual = true) (k : PySem.W.keepIn K (.ref f) = true) : GM K C x qual st :=
  ⟨f, _, fun_mk l c k, ⟨a, i⟩⟩
theorem gp_mk (a : PySem.W.findIn K (.ref C) x = some (some (.ref p))) (g : PySem.W.specialIn K (.ref p) "__get__" = some (some (.builtin "property.__get__"))) (t : PySem.W.takesIn K (.ref p) = some true) (r : PySem.W.recIn K p "property" = some (.ref f :: rest))
    (l : K.lookup f = some ⟨oc, od, .func (PySem.W.fnOf x qual (defArgs st) (defBody st) (defScope st) .none kV doc pm an cdv ct), sl⟩) (c : PySem.W.codeIn K cdv qual = true) (k : PySem.W.keepIn K (.ref f) = true) : GP K C x qual st :=
  ⟨p, f, _, ⟨a, g, t, rest, r⟩, fun_mk l c k⟩
theorem init_mk {e0 : Addr} {od3 : Option Addr} {sl3 : Array (Option Value)} {n3 : Nat} (mk : PySem.W.makesIn K C = true) (kc : PySem.W.keepIn K (.ref C) = true) (a : PySem.W.findIn K (.ref C) "__init__" = some (some (.ref f))) (i : PySem.W.isFn K (.ref f) = true)
    (l : K.lookup f = some ⟨oc, od, .func (PySem.W.fnOf "__init__" "System.__init__" (defArgs s_init) (defBody s_init) (defScope s_init) (.ref T0) kV doc pm an cdv ct), sl⟩) (c : PySem.W.codeIn K cdv "System.__init__" = true) (k : PySem.W.keepIn K (.ref f) = true)
    (lT : K.lookup T0 = some ⟨oc2, od2, .seq #[.ref e0] n, sl2⟩) (lE : K.lookup e0 = some ⟨.type "tuple", od3, .seq #[] n3, sl3⟩) : ∃ f fd e, Mk K C f ∧ FunD K "__init__" "System.__init__" (defArgs s_init) (defBody s_init) (defScope s_init) [.ref e] [] f fd ∧ ∀ H, SqT K H e [] :=
  ⟨f, _, e0, ⟨mk, a, i, kc⟩, ⟨⟨oc, od, .ref T0, kV, doc, pm, an, cdv, ct, sl, rfl, l, c, .inr ⟨by simp, T0, _, [.ref e0], n, rfl, lT, rfl, .cons rfl .nil⟩, .inl rfl⟩, k⟩, fun H => .inr ⟨_, #[], n3, lE, rfl, rfl, Nat.zero_le _, .nil⟩⟩
theorem cg_mk {g : Addr} (a : PySem.W.findCls K (.ref C) (.type "type") x = some (.get (.builtin "classmethod.__get__") (.ref p) .none (.ref C))) (r : PySem.W.recIn K p "classmethod" = some (.ref g :: rest)) (fi : PySem.W.fnIn K g = true)
    (l : K.lookup g = some ⟨oc, od, .func (PySem.W.fnOf x qual (defArgs st) (defBody st) (defScope st) .none kV doc pm an cdv ct), sl⟩) (c : PySem.W.codeIn K cdv qual = true) (k : PySem.W.keepIn K (.ref g) = true) : CG K C x qual st :=
  ⟨p, g, _, ⟨a, ⟨rest, r⟩, fi⟩, fun_mk l c k⟩
theorem gi_mk {t : Nat} {i : Int} {x : Str} (X : K.In h) (G : h.Ns mainGlobals mg) (a : PySem.W.nsIn K mainGlobals x = some (some (.int i t))) : ∃ u, mg x = some u ∧ RelV (.int i) u := ⟨_, PySem.W.mg_of X G a, ⟨t, rfl⟩⟩
theorem bo_mk {q : Addr} {t0 t1 t2 t3 t4 t5 : Nat} (X : K.In h) (G : h.Ns mainGlobals mg) (a : PySem.W.nsIn K mainGlobals "BONDS" = some (some (.ref q))) (l : K.lookup q = some ⟨.type "tuple", od, .seq #[.int 0 t0, .int 2 t1, .int 3 t2, .int 4 t3, .int 5 t4, .int 6 t5] n, sl⟩) :
    ∃ a, mg "BONDS" = some (.ref a) ∧ ∀ H, SqT K H a [.int 0, .int 2, .int 3, .int 4, .int 5, .int 6] :=
  ⟨q, PySem.W.mg_of X G a, fun H => .inr ⟨_, _, n, l, rfl, rfl, (show 6 ≤ sizeLine by decide), .cons ⟨_, rfl⟩ (.cons ⟨_, rfl⟩ (.cons ⟨_, rfl⟩ (.cons ⟨_, rfl⟩ (.cons ⟨_, rfl⟩ (.cons ⟨_, rfl⟩ .nil)))))⟩⟩
theorem pair_at {a x y : Addr} {w p u q : Int} {t1 t2 t3 t4 n0 n1 n2 : Nat} {d0 d1 d2 : Option Addr} {s0 s1 s2 : Array (Option Value)}
    (l : K.lookup a = some ⟨.type "tuple", d0, .seq #[.ref x, .ref y] n0, s0⟩) (lx : K.lookup x = some ⟨.type "tuple", d1, .seq #[.int w t1, .int p t2] n1, s1⟩) (ly : K.lookup y = some ⟨.type "tuple", d2, .seq #[.int u t3, .int q t4] n2, s2⟩) (H : Hp) : BsAt K H (.ref a) [[w, p], [u, q]] :=
  ⟨a, [.ref x, .ref y], rfl, .inr ⟨_, _, n0, l, rfl, rfl, (show 2 ≤ sizeLine by decide), .cons rfl (.cons rfl .nil)⟩, ⟨x, rfl, .inr ⟨_, _, n1, lx, rfl, rfl, (show 2 ≤ sizeLine by decide), .cons ⟨_, rfl⟩ (.cons ⟨_, rfl⟩ .nil)⟩⟩, ⟨y, rfl, .inr ⟨_, _, n2, ly, rfl, rfl, (show 2 ≤ sizeLine by decide), .cons ⟨_, rfl⟩ (.cons ⟨_, rfl⟩ .nil)⟩⟩, trivial⟩
theorem fac_mk {dd : Addr} {nd : Nat} {a0 x0 y0 a2 x2 y2 a3 x3 y3 a4 x4 y4 a5 x5 y5 a6 x6 y6 : Addr} {na0 nx0 ny0 na2 nx2 ny2 na3 nx3 ny3 na4 nx4 ny4 na5 nx5 ny5 na6 nx6 ny6 : Nat} {da0 dx0 dy0 da2 dx2 dy2 da3 dx3 dy3 da4 dx4 dy4 da5 dx5 dy5 da6 dx6 dy6 : Option Addr} {sla0 slx0 sly0 sla2 slx2 sly2 sla3 slx3 sly3 sla4 slx4 sly4 sla5 slx5 sly5 sla6 slx6 sly6 : Array (Option Value)} {u0 r0 s0 v0 z0 u2 r2 s2 v2 z2 u3 r3 s3 v3 z3 u4 r4 s4 v4 z4 u5 r5 s5 v5 z5 u6 r6 s6 v6 z6 : Nat} (X : K.In h) (G : h.Ns mainGlobals mg) (a : PySem.W.nsIn K mainGlobals "FACTORS" = some (some (.ref dd)))
    (l : K.lookup dd = some ⟨.type "dict", none, .dict #[⟨0, .int 0 u0, .ref a0⟩, ⟨2, .int 2 u2, .ref a2⟩, ⟨3, .int 3 u3, .ref a3⟩, ⟨4, .int 4 u4, .ref a4⟩, ⟨5, .int 5 u5, .ref a5⟩, ⟨6, .int 6 u6, .ref a6⟩] nd, #[]⟩)
    (la0 : K.lookup a0 = some ⟨.type "tuple", da0, .seq #[.ref x0, .ref y0] na0, sla0⟩)
    (lx0 : K.lookup x0 = some ⟨.type "tuple", dx0, .seq #[.int 2 r0, .int 0 s0] nx0, slx0⟩)
    (ly0 : K.lookup y0 = some ⟨.type "tuple", dy0, .seq #[.int 2 v0, .int 0 z0] ny0, sly0⟩)
    (la2 : K.lookup a2 = some ⟨.type "tuple", da2, .seq #[.ref x2, .ref y2] na2, sla2⟩)
    (lx2 : K.lookup x2 = some ⟨.type "tuple", dx2, .seq #[.int 0 r2, .int 0 s2] nx2, slx2⟩)
    (ly2 : K.lookup y2 = some ⟨.type "tuple", dy2, .seq #[.int 0 v2, .int 0 z2] ny2, sly2⟩)
    (la3 : K.lookup a3 = some ⟨.type "tuple", da3, .seq #[.ref x3, .ref y3] na3, sla3⟩)
    (lx3 : K.lookup x3 = some ⟨.type "tuple", dx3, .seq #[.int 1 r3, .int 0 s3] nx3, slx3⟩)
    (ly3 : K.lookup y3 = some ⟨.type "tuple", dy3, .seq #[.int 1 v3, .int 0 z3] ny3, sly3⟩)
    (la4 : K.lookup a4 = some ⟨.type "tuple", da4, .seq #[.ref x4, .ref y4] na4, sla4⟩)
    (lx4 : K.lookup x4 = some ⟨.type "tuple", dx4, .seq #[.int 1 r4, .int 0 s4] nx4, slx4⟩)
    (ly4 : K.lookup y4 = some ⟨.type "tuple", dy4, .seq #[.int 2 v4, .int 0 z4] ny4, sly4⟩)
    (la5 : K.lookup a5 = some ⟨.type "tuple", da5, .seq #[.ref x5, .ref y5] na5, sla5⟩)
    (lx5 : K.lookup x5 = some ⟨.type "tuple", dx5, .seq #[.int 0 r5, .int 1 s5] nx5, slx5⟩)
    (ly5 : K.lookup y5 = some ⟨.type "tuple", dy5, .seq #[.int 0 v5, .int 1 z5] ny5, sly5⟩)
    (la6 : K.lookup a6 = some ⟨.type "tuple", da6, .seq #[.ref x6, .ref y6] na6, sla6⟩)
    (lx6 : K.lookup x6 = some ⟨.type "tuple", dx6, .seq #[.int 1 r6, .int 0 s6] nx6, slx6⟩)
    (ly6 : K.lookup y6 = some ⟨.type "tuple", dy6, .seq #[.int 3 v6, .int 0 z6] ny6, sly6⟩) :
    ∃ d es n, mg "FACTORS" = some (.ref d) ∧ K.lookup d = some ⟨.type "dict", none, .dict es n, #[]⟩ ∧ IntKeys es ∧ ∀ b : Int, (b = 0 ∨ b = 2 ∨ b = 3 ∨ b = 4 ∨ b = 5 ∨ b = 6) → ∃ a, findBy Value.isInt es b = some (.ref a) ∧ ∀ H, BsAt K H (.ref a) (facT b) := by
  refine ⟨dd, _, nd, PySem.W.mg_of X G a, l, fun e he => ?_, fun b hb => ?_⟩
  · simp at he
    rcases he with rfl | rfl | rfl | rfl | rfl | rfl
    · exact ⟨0, _, rfl, (by decide : (0 : Int) = hashInt 0)⟩
    · exact ⟨2, _, rfl, (by decide : (2 : Int) = hashInt 2)⟩
    · exact ⟨3, _, rfl, (by decide : (3 : Int) = hashInt 3)⟩
    · exact ⟨4, _, rfl, (by decide : (4 : Int) = hashInt 4)⟩
    · exact ⟨5, _, rfl, (by decide : (5 : Int) = hashInt 5)⟩
    · exact ⟨6, _, rfl, (by decide : (6 : Int) = hashInt 6)⟩
  · rcases hb with rfl | rfl | rfl | rfl | rfl | rfl
    · exact ⟨a0, by simp [findBy, Value.isInt], pair_at la0 lx0 ly0⟩
    · exact ⟨a2, by simp [findBy, Value.isInt], pair_at la2 lx2 ly2⟩
    · exact ⟨a3, by simp [findBy, Value.isInt], pair_at la3 lx3 ly3⟩
    · exact ⟨a4, by simp [findBy, Value.isInt], pair_at la4 lx4 ly4⟩
    · exact ⟨a5, by simp [findBy, Value.isInt], pair_at la5 lx5 ly5⟩
    · exact ⟨a6, by simp [findBy, Value.isInt], pair_at la6 lx6 ly6⟩
theorem end_mk {l : PySem.W.OpenLaw} {w : World} {fa : Addr} (X : K.In h) (G : h.Ns mainGlobals mg) (hfa : mg "law" = some (.ref fa)) (T : Txt K mg C) (a : PySem.W.nsIn K mainGlobals "law" = some (some (.ref f)))
    (l1 : K.lookup f = some ⟨oc, od, .func (PySem.W.fnOf "law" "law" (defArgs s_law) (defBody s_law) (defScope s_law) .none kV doc pm an cdv ct), sl⟩) (c : PySem.W.codeIn K cdv "law" = true) (k : PySem.W.keepIn K (.ref f) = true) :
    ∃ fd : FuncData, (∀ (s : Shared) (v : Value), BindsTo s fd ⟨[v], []⟩ [("_law_script", v)]) ∧ ∀ base : Heap, K.In base → base.Ns mainGlobals mg → FnOk l.prog w K mg base CX0 13 fa fd ["_law_script"] (spLaw K) := by
  have e := hfa.symm.trans (PySem.W.mg_of X G a)
  cases e
  exact ⟨PySem.W.fnOf "law" "law" (defArgs s_law) (defBody s_law) (defScope s_law) .none kV doc pm an cdv ct, fun s v => .of_eq rfl, fun base _ _ => ok_law T (fun_mk (st := s_law) l1 c k)⟩
end
theorem walkEnd {l : PySem.W.OpenLaw} {q : Program} {loose : List Str} {XP : (Str → Option Value) → Heap → Prop} {YP : World → Heap → Prop} {d : DefRec} {K : Params → PySem.W.Frag} (hn : l.most = some 63) (hdf : d.params.defaults = [])
    (hY : ∀ (w : World) (h : Heap), YP w h → (K w.params).In h)
    (F : ∀ (w : World) (mg : Str → Option Value) (fa : Addr) (h : Heap), (K w.params).In h → h.Ns mainGlobals mg → mg d.name = some (.ref fa) →
      ∃ fd : FuncData, (∀ (s : Shared) (u : Value), BindsTo s fd ⟨[u], []⟩ [("_law_script", u)]) ∧ ∀ base : Heap, (K w.params).In base → base.Ns mainGlobals mg → FnOk l.prog w (K w.params) mg base CX0 13 fa fd ["_law_script"] (spLaw (K w.params))) :
    PySem.W.WalkO q loose XP YP l.row.toRowW d [] (fun f vs => PySem.call f vs) :=
  L2.walk_of (n := 63) (k := 13) (x := "_law_script") (CX := fun _ => CX0) (sp := fun w => spLaw (K w.params)) hn (by decide) hdf ⟨rfl, by decide, by decide⟩ hY F (fun _ _ a ns hl _ hS => ⟨a, ns, rfl, hS, hl, fun _ => rfl⟩) fun _ _ _ _ _ z => z
end Sk

open PySem PySem.W PyProof.Rows in
set_option maxRecDepth 100000 in
set_option maxHeartbeats 0 in
theorem PySem.Challenge.cw_underwords_k85_whole_least_members_of_co_holds : PySem.Challenge.rw_underwords_k85_whole_least_members_of_co.Holds := by
  w_on; o_law; k_head; (case hw => w_witness2)
  k_fill
  refine Sk.walkEnd (l := PySem.Challenge.rw_underwords_k85_whole_least_members_of_co) rfl rfl (fun w h Y => PySem.W.kIn_of Y) ?F
  case F =>
    intro w mg fa h KX G hmg
    refine' Sk.end_mk KX G hmg (C := _) ?T ?a ?l ?c ?k
    (case a => k_is)
    (case l => k_is)
    (case c => k_is)
    (case k => k_is)
    case T =>
      refine' { cl := ⟨?pg, ?hd, ?po, ?sa⟩, ic := ⟨⟨?pg2, ?hd2, ?po2, ?sa2⟩, ?ha, ?hn, ?htk, ?hm, if_pos (beq_self_eq_true _)⟩, mgSystem := PySem.W.mg_of KX G ?gG, nL := ?nL, nB := ?nB, mkS := ?mkS, gB := ?gB, gF := ?gF, crd := ⟨?rd, ?ga⟩, cRows := ?cRows, pL := ?pL, mBond := ?mBond, cTwenty := ?cTwenty, g_MAX_LETTERS := ?g_MAX_LETTERS, g_LONGEST_WORD := ?g_LONGEST_WORD, g_MAX_MEMBERS := ?g_MAX_MEMBERS, g_MOST_MEMBERS := ?g_MOST_MEMBERS, g_LONGEST := ?g_LONGEST, d_is_within := ?d_is_within, d_neighbours := ?d_neighbours, d_are_bonds := ?d_are_bonds, d_is_triple := ?d_is_triple, d_is_letter := ?d_is_letter, d_is_word := ?d_is_word, d_check_system := ?d_check_system, d_check_word := ?d_check_word, d_check_words := ?d_check_words, d_check_letters := ?d_check_letters, d_sense_of := ?d_sense_of, d_factor := ?d_factor, d_other_letters := ?d_other_letters, d_triples_from := ?d_triples_from, d_without_zeros := ?d_without_zeros, d_is_below := ?d_is_below, d_links_of := ?d_links_of, d_first_state := ?d_first_state, d_put_ahead := ?d_put_ahead, d_word_ahead := ?d_word_ahead, d_state_of := ?d_state_of, d_left_of := ?d_left_of, d_normal_of := ?d_normal_of, d_normal_word := ?d_normal_word, d_by_length := ?d_by_length, d_next_level_by := ?d_next_level_by, d_words_by := ?d_words_by, d_right_letters := ?d_right_letters, d_members := ?d_members, d_is_least := ?d_is_least, d_least_in := ?d_least_in, d_split := ?d_split, d_coset := ?d_coset, d_greatest_in := ?d_greatest_in, d_least_members := ?d_least_members, d_check_coset := ?d_check_coset, d_check_length := ?d_check_length, d_members_by := ?d_members_by, d_l_bag := ?d_l_bag, d_l_dip := ?d_l_dip, d_l_among := ?d_l_among, d_l_rules := ?d_l_rules, d_l_is_below := ?d_l_is_below, d_l_turned := ?d_l_turned, d_l_deed := ?d_l_deed, d_l_normal := ?d_l_normal, d_l_split := ?d_l_split, d_l_by := ?d_l_by, d_l_some := ?d_l_some, d_l_finite := ?d_l_finite, d_l_right := ?d_l_right, b_list := ?b_list, b_sorted := ?b_sorted, b_isinstance := ?b_isinstance, b_int := ?b_int, b_bool := ?b_bool, b_tuple := ?b_tuple, b_dict := ?b_dict, b_len := ?b_len, b_abs := ?b_abs, b_max := ?b_max, b_min := ?b_min, b_all := ?b_all, b_any := ?b_any, b_zip := ?b_zip, b_range := ?b_range, b_enumerate := ?b_enumerate }
      (case gG => k_is)
      (case pg => k_is)
      (case hd => k_is)
      (case po => k_is)
      (case sa => k_is)
      (case pg2 => k_is)
      (case hd2 => k_is)
      (case po2 => k_is)
      (case sa2 => k_is)
      (case ha => k_is)
      (case hn => k_is)
      (case htk => k_is)
      (case hm => k_is)
      (case rd => k_is)
      (case ga => k_is)
      (case nL => ((show PySem.W.findIn _ _ "_letters" = some none); k_is))
      (case nB => ((show PySem.W.findIn _ _ "_bonds" = some none); k_is))
      (case mkS => (refine' Sk.init_mk ?q1 ?q2 ?q3 ?q4 ?q5 ?q6 ?q7 ?q8 ?q9; (case q1 => k_is); (case q2 => k_is); (case q3 => k_is); (case q4 => k_is); (case q5 => k_is); (case q6 => k_is); (case q7 => k_is); (case q8 => k_is); (case q9 => k_is)))
      (case gB => (refine' Sk.bo_mk KX G ?q1 ?q2; (case q1 => k_is); (case q2 => k_is)))
      (case gF => (refine' Sk.fac_mk KX G ?q1 ?q2 ?q3 ?q4 ?q5 ?q6 ?q7 ?q8 ?q9 ?q10 ?q11 ?q12 ?q13 ?q14 ?q15 ?q16 ?q17 ?q18 ?q19 ?q20; (case q1 => k_is); (case q2 => k_is); (case q3 => k_is); (case q4 => k_is); (case q5 => k_is); (case q6 => k_is); (case q7 => k_is); (case q8 => k_is); (case q9 => k_is); (case q10 => k_is); (case q11 => k_is); (case q12 => k_is); (case q13 => k_is); (case q14 => k_is); (case q15 => k_is); (case q16 => k_is); (case q17 => k_is); (case q18 => k_is); (case q19 => k_is); (case q20 => k_is)))
      (case cRows => (refine' Sk.cg_mk ?q1 ?q2 ?q3 ?q4 ?q5 ?q6; (case q1 => k_is); (case q2 => k_is); (case q3 => k_is); (case q4 => k_is); (case q5 => k_is); (case q6 => k_is)))
      (case pL => (refine' Sk.gp_mk ?q1 ?q2 ?q3 ?q4 ?q5 ?q6 ?q7; (case q1 => k_is); (case q2 => k_is); (case q3 => k_is); (case q4 => k_is); (case q5 => k_is); (case q6 => k_is); (case q7 => k_is)))
      (case mBond => (refine' Sk.gm_mk ?q1 ?q2 ?q3 ?q4 ?q5; (case q1 => k_is); (case q2 => k_is); (case q3 => k_is); (case q4 => k_is); (case q5 => k_is)))
      (case cTwenty => (refine' Sk.cg_mk ?q1 ?q2 ?q3 ?q4 ?q5 ?q6; (case q1 => k_is); (case q2 => k_is); (case q3 => k_is); (case q4 => k_is); (case q5 => k_is); (case q6 => k_is)))
      (case g_MAX_LETTERS => (refine' Sk.gi_mk KX G ?q1; (case q1 => k_is)))
      (case g_LONGEST_WORD => (refine' Sk.gi_mk KX G ?q1; (case q1 => k_is)))
      (case g_MAX_MEMBERS => (refine' Sk.gi_mk KX G ?q1; (case q1 => k_is)))
      (case g_MOST_MEMBERS => (refine' Sk.gi_mk KX G ?q1; (case q1 => k_is)))
      (case g_LONGEST => (refine' Sk.gi_mk KX G ?q1; (case q1 => k_is)))
      (case d_is_within => (refine' Sk.mdef_mk KX G ?q1 ?q2 ?q3 ?q4; (case q1 => k_is); (case q2 => k_is); (case q3 => k_is); (case q4 => k_is)))
      (case d_neighbours => (refine' Sk.mdef_mk KX G ?q1 ?q2 ?q3 ?q4; (case q1 => k_is); (case q2 => k_is); (case q3 => k_is); (case q4 => k_is)))
      (case d_are_bonds => (refine' Sk.mdef_mk KX G ?q1 ?q2 ?q3 ?q4; (case q1 => k_is); (case q2 => k_is); (case q3 => k_is); (case q4 => k_is)))
      (case d_is_triple => (refine' Sk.mdef_mk KX G ?q1 ?q2 ?q3 ?q4; (case q1 => k_is); (case q2 => k_is); (case q3 => k_is); (case q4 => k_is)))
      (case d_is_letter => (refine' Sk.mdef_mk KX G ?q1 ?q2 ?q3 ?q4; (case q1 => k_is); (case q2 => k_is); (case q3 => k_is); (case q4 => k_is)))
      (case d_is_word => (refine' Sk.mdef_mk KX G ?q1 ?q2 ?q3 ?q4; (case q1 => k_is); (case q2 => k_is); (case q3 => k_is); (case q4 => k_is)))
      (case d_check_system => (refine' Sk.mdef_mk KX G ?q1 ?q2 ?q3 ?q4; (case q1 => k_is); (case q2 => k_is); (case q3 => k_is); (case q4 => k_is)))
      (case d_check_word => (refine' Sk.mdef_mk KX G ?q1 ?q2 ?q3 ?q4; (case q1 => k_is); (case q2 => k_is); (case q3 => k_is); (case q4 => k_is)))
      (case d_check_words => (refine' Sk.mdef_mk KX G ?q1 ?q2 ?q3 ?q4; (case q1 => k_is); (case q2 => k_is); (case q3 => k_is); (case q4 => k_is)))
      (case d_check_letters => (refine' Sk.mdef_mk KX G ?q1 ?q2 ?q3 ?q4; (case q1 => k_is); (case q2 => k_is); (case q3 => k_is); (case q4 => k_is)))
      (case d_sense_of => (refine' Sk.mdef_mk KX G ?q1 ?q2 ?q3 ?q4; (case q1 => k_is); (case q2 => k_is); (case q3 => k_is); (case q4 => k_is)))
      (case d_factor => (refine' Sk.mdef_mk KX G ?q1 ?q2 ?q3 ?q4; (case q1 => k_is); (case q2 => k_is); (case q3 => k_is); (case q4 => k_is)))
      (case d_other_letters => (refine' Sk.mdef_mk KX G ?q1 ?q2 ?q3 ?q4; (case q1 => k_is); (case q2 => k_is); (case q3 => k_is); (case q4 => k_is)))
      (case d_triples_from => (refine' Sk.mdef_mk KX G ?q1 ?q2 ?q3 ?q4; (case q1 => k_is); (case q2 => k_is); (case q3 => k_is); (case q4 => k_is)))
      (case d_without_zeros => (refine' Sk.mdef_mk KX G ?q1 ?q2 ?q3 ?q4; (case q1 => k_is); (case q2 => k_is); (case q3 => k_is); (case q4 => k_is)))
      (case d_is_below => (refine' Sk.mdef_mk KX G ?q1 ?q2 ?q3 ?q4; (case q1 => k_is); (case q2 => k_is); (case q3 => k_is); (case q4 => k_is)))
      (case d_links_of => (refine' Sk.mdef_mk KX G ?q1 ?q2 ?q3 ?q4; (case q1 => k_is); (case q2 => k_is); (case q3 => k_is); (case q4 => k_is)))
      (case d_first_state => (refine' Sk.mdef_mk KX G ?q1 ?q2 ?q3 ?q4; (case q1 => k_is); (case q2 => k_is); (case q3 => k_is); (case q4 => k_is)))
      (case d_put_ahead => (refine' Sk.mdef_mk KX G ?q1 ?q2 ?q3 ?q4; (case q1 => k_is); (case q2 => k_is); (case q3 => k_is); (case q4 => k_is)))
      (case d_word_ahead => (refine' Sk.mdef_mk KX G ?q1 ?q2 ?q3 ?q4; (case q1 => k_is); (case q2 => k_is); (case q3 => k_is); (case q4 => k_is)))
      (case d_state_of => (refine' Sk.mdef_mk KX G ?q1 ?q2 ?q3 ?q4; (case q1 => k_is); (case q2 => k_is); (case q3 => k_is); (case q4 => k_is)))
      (case d_left_of => (refine' Sk.mdef_mk KX G ?q1 ?q2 ?q3 ?q4; (case q1 => k_is); (case q2 => k_is); (case q3 => k_is); (case q4 => k_is)))
      (case d_normal_of => (refine' Sk.mdef_mk KX G ?q1 ?q2 ?q3 ?q4; (case q1 => k_is); (case q2 => k_is); (case q3 => k_is); (case q4 => k_is)))
      (case d_normal_word => (refine' Sk.mdef_mk KX G ?q1 ?q2 ?q3 ?q4; (case q1 => k_is); (case q2 => k_is); (case q3 => k_is); (case q4 => k_is)))
      (case d_by_length => (refine' Sk.mdef_mk KX G ?q1 ?q2 ?q3 ?q4; (case q1 => k_is); (case q2 => k_is); (case q3 => k_is); (case q4 => k_is)))
      (case d_next_level_by => (refine' Sk.mdef_mk KX G ?q1 ?q2 ?q3 ?q4; (case q1 => k_is); (case q2 => k_is); (case q3 => k_is); (case q4 => k_is)))
      (case d_words_by => (refine' Sk.mdef_mk KX G ?q1 ?q2 ?q3 ?q4; (case q1 => k_is); (case q2 => k_is); (case q3 => k_is); (case q4 => k_is)))
      (case d_right_letters => (refine' Sk.mdef_mk KX G ?q1 ?q2 ?q3 ?q4; (case q1 => k_is); (case q2 => k_is); (case q3 => k_is); (case q4 => k_is)))
      (case d_members => (refine' Sk.mdef_mk KX G ?q1 ?q2 ?q3 ?q4; (case q1 => k_is); (case q2 => k_is); (case q3 => k_is); (case q4 => k_is)))
      (case d_is_least => (refine' Sk.mdef_mk KX G ?q1 ?q2 ?q3 ?q4; (case q1 => k_is); (case q2 => k_is); (case q3 => k_is); (case q4 => k_is)))
      (case d_least_in => (refine' Sk.mdef_mk KX G ?q1 ?q2 ?q3 ?q4; (case q1 => k_is); (case q2 => k_is); (case q3 => k_is); (case q4 => k_is)))
      (case d_split => (refine' Sk.mdef_mk KX G ?q1 ?q2 ?q3 ?q4; (case q1 => k_is); (case q2 => k_is); (case q3 => k_is); (case q4 => k_is)))
      (case d_coset => (refine' Sk.mdef_mk KX G ?q1 ?q2 ?q3 ?q4; (case q1 => k_is); (case q2 => k_is); (case q3 => k_is); (case q4 => k_is)))
      (case d_greatest_in => (refine' Sk.mdef_mk KX G ?q1 ?q2 ?q3 ?q4; (case q1 => k_is); (case q2 => k_is); (case q3 => k_is); (case q4 => k_is)))
      (case d_least_members => (refine' Sk.mdef_mk KX G ?q1 ?q2 ?q3 ?q4; (case q1 => k_is); (case q2 => k_is); (case q3 => k_is); (case q4 => k_is)))
      (case d_check_coset => (refine' Sk.mdef_mk KX G ?q1 ?q2 ?q3 ?q4; (case q1 => k_is); (case q2 => k_is); (case q3 => k_is); (case q4 => k_is)))
      (case d_check_length => (refine' Sk.mdef_mk KX G ?q1 ?q2 ?q3 ?q4; (case q1 => k_is); (case q2 => k_is); (case q3 => k_is); (case q4 => k_is)))
      (case d_members_by => (refine' Sk.mdef_mk KX G ?q1 ?q2 ?q3 ?q4; (case q1 => k_is); (case q2 => k_is); (case q3 => k_is); (case q4 => k_is)))
      (case d_l_bag => (refine' Sk.mdef_mk KX G ?q1 ?q2 ?q3 ?q4; (case q1 => k_is); (case q2 => k_is); (case q3 => k_is); (case q4 => k_is)))
      (case d_l_dip => (refine' Sk.mdef_mk KX G ?q1 ?q2 ?q3 ?q4; (case q1 => k_is); (case q2 => k_is); (case q3 => k_is); (case q4 => k_is)))
      (case d_l_among => (refine' Sk.mdef_mk KX G ?q1 ?q2 ?q3 ?q4; (case q1 => k_is); (case q2 => k_is); (case q3 => k_is); (case q4 => k_is)))
      (case d_l_rules => (refine' Sk.mdef_mk KX G ?q1 ?q2 ?q3 ?q4; (case q1 => k_is); (case q2 => k_is); (case q3 => k_is); (case q4 => k_is)))
      (case d_l_is_below => (refine' Sk.mdef_mk KX G ?q1 ?q2 ?q3 ?q4; (case q1 => k_is); (case q2 => k_is); (case q3 => k_is); (case q4 => k_is)))
      (case d_l_turned => (refine' Sk.mdef_mk KX G ?q1 ?q2 ?q3 ?q4; (case q1 => k_is); (case q2 => k_is); (case q3 => k_is); (case q4 => k_is)))
      (case d_l_deed => (refine' Sk.mdef_mk KX G ?q1 ?q2 ?q3 ?q4; (case q1 => k_is); (case q2 => k_is); (case q3 => k_is); (case q4 => k_is)))
      (case d_l_normal => (refine' Sk.mdef_mk KX G ?q1 ?q2 ?q3 ?q4; (case q1 => k_is); (case q2 => k_is); (case q3 => k_is); (case q4 => k_is)))
      (case d_l_split => (refine' Sk.mdef_mk KX G ?q1 ?q2 ?q3 ?q4; (case q1 => k_is); (case q2 => k_is); (case q3 => k_is); (case q4 => k_is)))
      (case d_l_by => (refine' Sk.mdef_mk KX G ?q1 ?q2 ?q3 ?q4; (case q1 => k_is); (case q2 => k_is); (case q3 => k_is); (case q4 => k_is)))
      (case d_l_some => (refine' Sk.mdef_mk KX G ?q1 ?q2 ?q3 ?q4; (case q1 => k_is); (case q2 => k_is); (case q3 => k_is); (case q4 => k_is)))
      (case d_l_finite => (refine' Sk.mdef_mk KX G ?q1 ?q2 ?q3 ?q4; (case q1 => k_is); (case q2 => k_is); (case q3 => k_is); (case q4 => k_is)))
      (case d_l_right => (refine' Sk.mdef_mk KX G ?q1 ?q2 ?q3 ?q4; (case q1 => k_is); (case q2 => k_is); (case q3 => k_is); (case q4 => k_is)))
      (case b_list => exact PySem.W.mg_none_of KX G (by k_is))
      (case b_sorted => exact PySem.W.mg_none_of KX G (by k_is))
      (case b_isinstance => exact PySem.W.mg_none_of KX G (by k_is))
      (case b_int => exact PySem.W.mg_none_of KX G (by k_is))
      (case b_bool => exact PySem.W.mg_none_of KX G (by k_is))
      (case b_tuple => exact PySem.W.mg_none_of KX G (by k_is))
      (case b_dict => exact PySem.W.mg_none_of KX G (by k_is))
      (case b_len => exact PySem.W.mg_none_of KX G (by k_is))
      (case b_abs => exact PySem.W.mg_none_of KX G (by k_is))
      (case b_max => exact PySem.W.mg_none_of KX G (by k_is))
      (case b_min => exact PySem.W.mg_none_of KX G (by k_is))
      (case b_all => exact PySem.W.mg_none_of KX G (by k_is))
      (case b_any => exact PySem.W.mg_none_of KX G (by k_is))
      (case b_zip => exact PySem.W.mg_none_of KX G (by k_is))
      (case b_range => exact PySem.W.mg_none_of KX G (by k_is))
      (case b_enumerate => exact PySem.W.mg_none_of KX G (by k_is))
