import PyProof.Rows.All
import Wide.All
import OpenK.AllK
import Wide.FinOn
import HandS.ForMost
import HandS.OwnEq
import HandS.Property
import HandS.Defaults
import HandS.IsInst
import HandS.Codes
import HandS.Wide
import HandS.Flow
import HandS.SetFor
import HandS.Style
import PyProof.InstNe
import PySem.Challenge.RW_underwords_k01_whole_golds_reckoned_and
set_option Elab.async false
set_option maxRecDepth 100000
set_option maxHeartbeats 8000000
namespace Ow
open PySem PySem.Spec PyProof.Rows
open PySem.W (findIn isFn InstAt looks_findIn special_fn ifBound_K truthy_K CmpBack BoolBack)
section
variable {prog : Program} {w : World} {A : Around} {E : Value → Shared → Prop} {s : Shared} {K : PySem.W.Frag} {x y C f : Addr} {ox : Obj} {od : Option Obj}
/-- object's own unequal, over the text's equal -/
theorem objNe (X : K.In s.heap) (I : InstAt s.heap x ox C od) (hs : findIn K (.ref C) "__eq__" = some (some (.ref f))) (hf : isFn K (.ref f) = true) (hu : A.units < cLine) {Q : Fin → Shared → Prop}
    (hc : wpAny (model prog w) A (call (.ref f) [.ref x, .ref y]) (fun v s' => ∃ b, v = .bool b ∧ Q (.done (.ret (.bool (!b)))) s') E s) :
    wpAny (model prog w) A (Builtin.«object.__ne__» ⟨[.ref x, .ref y], []⟩) Q E s := by
  obtain ⟨hp, g, d, tk, os⟩ := s
  unfold Builtin.«object.__ne__»
  repeat (first
    | with_reducible refine wpAny_cRoomFor hu ?_
    | (refine wpAny_bind (m := callSpecialIfBound? (.ref x) (Str.ofString "__eq__") [.ref y])
        (ifBound_K X I hs hf (wpAny_mono hc (fun r s' hr => by
          obtain ⟨b, rfl, hq⟩ := hr
          repeat (first | exact hq | exact wpAny_pure hq | exact wpAny_truthy_bool hq | (refine wpAny_bind (m := truthy (.bool _)) (wpAny_truthy_bool ?_)) | wp_step)) fun _ _ e => e)))
    | wp_step)
theorem tryNe (X : K.In s.heap) (I : InstAt s.heap x ox C od) (hn : findIn K (.ref C) "__ne__" = some (some (.builtin "object.__ne__"))) (hs : findIn K (.ref C) "__eq__" = some (some (.ref f))) (hf : isFn K (.ref f) = true)
    (hb : PySem.W.mroIn K C (.type "object") = some true) (hu : A.units + 1 < cLine) {Q : Option Value → Shared → Prop}
    (hc : wpAny (model prog w) A.in1 (call (.ref f) [.ref x, .ref y]) (fun v s' => ∃ b, v = .bool b ∧ Q (some (.bool (!b))) s') E s) :
    wpAny (model prog w) A (tryCompare (.ref x) "__ne__" (.ref y)) Q E s := by
  simp only [tryCompare]
  have hcall : wpAny (model prog w) A (call (.builtin "object.__ne__") (.ref x :: [.ref y])) (fun v s' => ∃ b, v = .bool b ∧ Q (some (.bool b)) s') E s := by
    refine wpAny_call (codeAny_call_builtin PySem.F.cmp_object.ne.plain PySem.F.cmpEntry_ne ?_)
    refine PySem.W.check_slot PySem.F.cmpKind_ne PySem.F.cmpSplit_ne ?_ (PySem.F.cmpArgs_ne _ _) ?_
    · exact I.type.andThen (PySem.W.looks_mroIn X hb)
    · refine objNe (A := A.in1) X I hs hf hu (wpAny_mono hc (fun v s' hv => ?_) fun _ _ e => e)
      obtain ⟨b, rfl, hq⟩ := hv
      exact ⟨b, rfl, ⟨_, rfl, hq⟩⟩
  refine wpAny_bind ?_
  simp only [callSpecialIfBound?, bindSpecialIfBound?]
  refine wpAny_holding (wpAny_bind (wpAny_bind (wpAny_bind (I.type.here ((looks_findIn X hn).here ?_)))))
  simp only [PySem.F.cmp_object.ne.bind]
  refine wpAny_bind (wpAny_askSetting (wpAny_ite ?_))
  have fin : wpAny (model prog w) A (call (.builtin "object.__ne__") ([.ref x] ++ [.ref y]) >>= fun v => pure (some v)) (fun r s' => ∃ b, r = some (.bool b) ∧ Q (some (.bool b)) s') E s :=
    wpAny_bind (wpAny_mono hcall (fun v s' ⟨b, e, q⟩ => wpAny_pure ⟨b, by rw [e], q⟩) fun _ _ h' => h')
  have fin2 : wpAny (model prog w) A (call (.builtin "object.__ne__") ([.ref x] ++ [.ref y]) >>= fun v => pure (some v)) (fun a s' => wpAny (model prog w) A (match a with | some Value.notImplemented => pure none | none => pure none | some r => pure (some r)) Q E s') E s :=
    wpAny_mono fin (fun r s' ⟨b, e, q⟩ => by rw [e]; exact wpAny_pure q) fun _ _ h' => h'
  split
  · exact wpAny_bind (wpAny_pure (wpAny_pure fin2))
  · exact wpAny_tryCatch (wpAny_bind (wpAny_pure (wpAny_pure fin2)))
theorem neq_own (X : K.In s.heap) (I : InstAt s.heap x ox C od) {oy : Obj} {ody : Option Obj} (J : InstAt s.heap y oy C ody) (hn : findIn K (.ref C) "__ne__" = some (some (.builtin "object.__ne__"))) (hs : findIn K (.ref C) "__eq__" = some (some (.ref f))) (hf : isFn K (.ref f) = true)
    (hb : PySem.W.mroIn K C (.type "object") = some true) (hu : A.units + 1 < cLine) {Q : Value → Shared → Prop}
    (hc : wpAny (model prog w) A.in1 (call (.ref f) [.ref x, .ref y]) (fun v s' => ∃ b, v = .bool b ∧ Q (.bool (!b)) s') E s) :
    wpAny (model prog w) A (compareOp .NotEq (.ref x) (.ref y)) Q E s := by
  unfold compareOp richCompare
  simp only [oneThing_ref]
  refine wpAny_holding ?_
  refine wpAny_bind (wpAny_cRoomFor (Nat.lt_of_succ_lt hu) ?_)
  rw [cmpInfo_NotEq]
  dsimp only
  refine wpAny_bind (I.type.here (wpAny_bind (J.type.here ?_)))
  rw [show (Value.ref C != Value.ref C) = false from by simp]
  simp only [Bool.false_eq_true, if_false]
  refine wpAny_bind (wpAny_pure ?_)
  simp only [Bool.false_eq_true, if_false]
  refine wpAny_bind (tryNe X I hn hs hf hb hu (wpAny_mono hc (fun v s' hv => ?_) fun _ _ e => e))
  obtain ⟨b, rfl, hq⟩ := hv
  exact ⟨b, rfl, wpAny_pure hq⟩
/-- bool(x) by an own __bool__ -/
theorem bool_own (X : K.In s.heap) (I : InstAt s.heap x ox C od) (hs : findIn K (.ref C) "__bool__" = some (some (.ref f))) (hf : isFn K (.ref f) = true) {Q : Value → Shared → Prop}
    (h : wpAny (model prog w) A.in1.in1 (call (.ref f) [.ref x]) (fun v s' => ∃ b, v = .bool b ∧ Q (.bool b) s') E s) : wpAny (model prog w) A (call (.type "bool") [.ref x]) Q E s := by
  refine callType_codes (T := "bool") (Bi := Builtin.«object.__init__») (Q₁ := fun r s₁ => ∃ b, r = Value.bool b ∧ Q r s₁) PySem.F.called_bool (PySem.F.typeCall_bool_1 _) PySem.F.entry_object_init ?_ ?_
  · refine codeAny_of_tree ?_
    show wpAny _ A.in1.in1 (do checkBuiltinCall "bool.__new__" ⟨[.type "bool", .ref x], []⟩; again (.builtin "bool.__new__" ⟨[.type "bool", .ref x], []⟩)) _ _ s
    refine wpAny_bind (wpAny_of_eq (PySem.F.newCall_bool_1 _) (wpAny_pure ⟨plainId_quiet (by decide +kernel) _, codeAny_builtin PySem.F.entry_bool_new ?_⟩))
    rw [Around.under_plainId (by decide +kernel) _]
    unfold Builtin.«bool.__new__»
    refine wpAny_bind (wpAny_of_eq (a := true) (by kernel_rfl) ?_)
    refine PySem.W.KFB.if_not rfl ?_
    refine wpAny_bind (wpAny_of_eq (a := true) PySem.F.conv_sub_bool ?_)
    refine PySem.W.KFB.if_not rfl ?_
    refine wpAny_bind (wpAny_of_eq (a := [.ref x]) rfl ?_)
    refine wpAny_bind ?_
    unfold truthy
    refine wpAny_bind (m := callSpecial? (.ref x) (Str.ofString "__bool__")) (special_fn X I hs (beq_iff_eq.mp hf) (wpAny_mono h (fun r s' hr => ?_) fun _ _ y => y))
    obtain ⟨b, rfl, hq⟩ := hr
    exact wpAny_pure (wpAny_pure ⟨b, rfl, hq⟩)
  · rintro obj s₁ ⟨b, rfl, hq⟩
    exact ⟨PySem.typeIs_bool _ _, PySem.F.args_object_init_2 _ _, object_init_meets PySem.F.called_bool.init.lookup PySem.F.called_bool.made (by decide) prog w A.in1 _ s₁ ⟨PySem.typeIs_bool _ _, rfl, hq⟩⟩
end
end Ow

namespace Ow
open PySem PySem.Spec PyProof.Rows L2
/-- the class at C as these rules want it -/
structure OCls (K : PySem.W.Frag) (C : Addr) : Prop where
  first : PySem.W.selfFirst K C = true
  ob : PySem.W.mroIn K C (.type "object") = some true
  ne : PySem.W.findIn K (.ref C) "__ne__" = some (some (.builtin "object.__ne__"))
  nf : PySem.W.notFirst K C (.ref C) = true
/-- a method at f under the name m -/
structure OM (K : PySem.W.Frag) (C : Addr) (m : Str) (f : Addr) : Prop where
  at_ : PySem.W.findIn K (.ref C) m = some (some (.ref f))
  fn : PySem.W.isFn K (.ref f) = true
section
variable {X : Cx} {CX : CXT} {C f : Addr} {n : Nat} {fd : FuncData} {ps : List Str} {sp : Sp} {E : XK}
theorem cback {P : Value → Shared → Prop} {z : V} {v : Value} {s' : Shared} (r : RelV z v) (h : P v s') : PySem.W.CmpBack P v s' := by
  cases z <;> first | (obtain ⟨t, e⟩ := r; subst e; exact h) | (have e := r; simp only [L2.RelV] at e; subst e; exact h)
/-- the called def, some level below -/
theorem run_in {pins : List (Addr × Obj)} {σ : L2.St} {H : Hp} {s : Shared} {A : Around} {Q : VK} {us : List Value} {ws : List V} (F : FnOk X.prog X.w X.K X.mg X.base CX n f fd ps sp) (hr : Room n A) (e0 : Env0 X.prog X.w X.K X.mg X.base A X.stack s H)
    (hb : Binds X.K fd ps []) (hx : Passes CX X E) (I : Inv X pins σ H s) (r : Vals ws us) (h : sp ws H Q E) : wpAny (model X.prog X.w) A (call (.ref f) us) (EP X pins σ Q) X.xe s := by
  have hl : us.length = ps.length := by rw [← r.length]; exact F.len _ _ _ _ h
  have hb2 := hb s us I.kIn (by simpa using hl)
  simp only [List.append_nil] at hb2
  refine wpAny_call (codeAny_mono (F.run A X.stack s H ⟨us, []⟩ us ws Q E hr e0 hb2 r h) fun r s' hq => ?_)
  cases r with
  | error e => exact hx pins σ H s e s' I hq
  | ok fl =>
    cases fl with
    | ret u => exact I.after hq
    | next => exact False.elim hq
    | brk => exact False.elim hq
    | cont => exact False.elim hq
/-- x op y of two instances of one class -/
def rBin (C : Addr) (sp : Sp) (E : XK) : R2 := fun x y H Q => ∃ a b dx fs dy gs, x = .ref a ∧ y = .ref b ∧ H a = some (.ins C dx fs) ∧ H b = some (.ins C dy gs) ∧ sp [.ref a, .ref b] H Q E
theorem op_bin {op : Operator} (oc : OCls X.K C) (om : OM X.K C (PySem.dunder op.info.2) f) (F : FnOk X.prog X.w X.K X.mg X.base CX n f fd ps sp) (hr : Room n X.A) (hb : Binds X.K fd ps []) (hx : Passes CX X E) :
    OpR X (binaryOp op) (rBin C sp E) := by
  intro pins s σ H x y v u Q I rx ry h
  obtain ⟨a, b, dx, fs, dy, gs, rfl, rfl, ha, hb', q⟩ := h
  cases rx
  cases ry
  obtain ⟨mA, J, _⟩ := ins_get I.hok ha
  obtain ⟨mB, J', _⟩ := ins_get I.hok hb'
  obtain ⟨od, J, _⟩ := J.look
  obtain ⟨od', J', _⟩ := J'.look
  obtain ⟨m, hF⟩ := I.fr
  refine PySem.W.binop_K hF I.ok.mod.kin J J'.type oc.first om.at_ om.fn ?_
  refine wpAny_mono (run_in (us := [.ref a, .ref b]) (ws := [.ref a, .ref b]) F hr I.env0 hb hx I (.cons rfl (.cons rfl .nil)) q) (fun w s' ⟨z, H', I', rz, qz⟩ => cback rz ⟨z, H', I', rz, qz⟩) fun _ _ e => e
/-- x == y -/
theorem op_eqO (oc : OCls X.K C) (om : OM X.K C "__eq__" f) (F : FnOk X.prog X.w X.K X.mg X.base CX n f fd ps sp) (hr : Room n X.A) (hb : Binds X.K fd ps []) (hx : Passes CX X E) : OpR X (compareOp .Eq) (rBin C sp E) := by
  intro pins s σ H x y v u Q I rx ry h
  obtain ⟨a, b, dx, fs, dy, gs, rfl, rfl, ha, hb', q⟩ := h
  cases rx
  cases ry
  obtain ⟨mA, J, _⟩ := ins_get I.hok ha
  obtain ⟨mB, J', _⟩ := ins_get I.hok hb'
  obtain ⟨od, J, _⟩ := J.look
  obtain ⟨od', J', _⟩ := J'.look
  obtain ⟨m, hF⟩ := I.fr
  show wpAny _ _ (richCompare .Eq _ _) _ _ _
  refine PySem.W.cmp_K (op := .Eq) (tb := .ref C) hr.units0 hF I.ok.mod.kin J J'.type oc.nf om.at_ om.fn ?_
  refine wpAny_mono (run_in (us := [.ref a, .ref b]) (ws := [.ref a, .ref b]) F hr I.env0 hb hx I (.cons rfl (.cons rfl .nil)) q) (fun w s' ⟨z, H', I', rz, qz⟩ => cback rz ⟨z, H', I', rz, qz⟩) fun _ _ e => e
/-- x != y, by an own equal that answers a bool -/
def rBinN (C : Addr) (sp : Sp) (E : XK) : R2 := fun x y H Q => ∃ a b dx fs dy gs, x = .ref a ∧ y = .ref b ∧ H a = some (.ins C dx fs) ∧ H b = some (.ins C dy gs) ∧ sp [.ref a, .ref b] H (fun z H' => ∃ k, z = .bl k ∧ Q (.bl (!k)) H') E
theorem op_neO (oc : OCls X.K C) (om : OM X.K C "__eq__" f) (F : FnOk X.prog X.w X.K X.mg X.base CX n f fd ps sp) (hr : Room (n + 1) X.A) (hb : Binds X.K fd ps []) (hx : Passes CX X E) : OpR X (compareOp .NotEq) (rBinN C sp E) := by
  intro pins s σ H x y v u Q I rx ry h
  obtain ⟨a, b, dx, fs, dy, gs, rfl, rfl, ha, hb', q⟩ := h
  cases rx
  cases ry
  obtain ⟨mA, J, _⟩ := ins_get I.hok ha
  obtain ⟨mB, J', _⟩ := ins_get I.hok hb'
  obtain ⟨od, J, _⟩ := J.look
  obtain ⟨od', J', _⟩ := J'.look
  refine neq_own I.kIn J J' oc.ne om.at_ om.fn oc.ob (hu_of hr) ?_
  refine wpAny_mono (run_in (us := [.ref a, .ref b]) (ws := [.ref a, .ref b]) F hr.in1 I.env0.in1 hb hx I (.cons rfl (.cons rfl .nil)) q) (fun w s' ⟨z, H', I', rz, k, ez, qz⟩ => ?_) fun _ _ e => e
  subst ez
  exact ⟨k, rz, .bl (!k), H', I', rfl, qz⟩
/-- -x -/
def rNegO (C : Addr) (sp : Sp) (E : XK) : V → Hp → VK → Prop := fun x H Q => ∃ a dx fs, x = .ref a ∧ H a = some (.ins C dx fs) ∧ sp [.ref a] H Q E
theorem un_negO (om : OM X.K C "__neg__" f) (F : FnOk X.prog X.w X.K X.mg X.base CX n f fd ps sp) (hr : Room n X.A) (hb : Binds X.K fd ps []) (hx : Passes CX X E) : UnR X (unaryOp .USub) (rNegO C sp E) := by
  intro pins s σ H x v Q I rx h
  obtain ⟨a, dx, fs, rfl, ha, q⟩ := h
  cases rx
  obtain ⟨mA, J, _⟩ := ins_get I.hok ha
  obtain ⟨od, J, _⟩ := J.look
  obtain ⟨m, hF⟩ := I.fr
  refine PySem.W.ksp_neg hF I.ok.mod.kin J om.at_ om.fn ?_
  exact run_in (us := [.ref a]) (ws := [.ref a]) F hr I.env0 hb hx I (.cons rfl .nil) q
/-- bool(x) by an own __bool__ -/
def rBoolO (C : Addr) (sp : Sp) (E : XK) : List V → Hp → VK → Prop := fun xs H Q => ∃ a dx fs, xs = [.ref a] ∧ H a = some (.ins C dx fs) ∧ sp [.ref a] H (fun z H' => ∃ k, z = .bl k ∧ Q (.bl k) H') E
theorem call_boolO (om : OM X.K C "__bool__" f) (F : FnOk X.prog X.w X.K X.mg X.base CX n f fd ps sp) (hr : Room (n + 2) X.A) (hb : Binds X.K fd ps []) (hx : Passes CX X E) : CallR X (.type "bool") (rBoolO C sp E) := by
  intro pins s σ H xs us Q I r h
  obtain ⟨a, dx, fs, rfl, ha, q⟩ := h
  obtain ⟨u, rfl, ru⟩ := vals1 r
  cases ru
  obtain ⟨mA, J, _⟩ := ins_get I.hok ha
  obtain ⟨od, J, _⟩ := J.look
  have hr2 : Room n X.A.in1.in1 := (show Room (n + 1) X.A.in1 from Room.in1 hr).in1
  refine bool_own I.kIn J om.at_ om.fn ?_
  refine wpAny_mono (run_in (us := [.ref a]) (ws := [.ref a]) F hr2 I.env0.in1.in1 hb hx I (.cons rfl .nil) q) (fun w s' ⟨z, H', I', rz, k, ez, qz⟩ => ?_) fun _ _ e => e
  subst ez
  exact ⟨k, rz, .bl k, H', I', rfl, qz⟩
/-- powers with a large base -/
def CPowW (i j : Int) : Prop := 0 ≤ j ∧ (Builtin.Int.intBits i : Int) * j ≤ 2 ^ 27
theorem op_powW : OpR X (binaryOp .Pow) (rI CPowW fun i j => .int (i ^ j.toNat)) := by
  intro pins s σ H x y v u Q I rx ry h
  obtain ⟨i, j, rfl, rfl, hc, q⟩ := h
  obtain ⟨t, rfl⟩ := rx
  obtain ⟨t', rfl⟩ := ry
  exact pow_int hc.1 hc.2 ⟨.int _, H, I.tok _, ⟨_, rfl⟩, q⟩
end
/-! ### a def of the module by its promise -/
/-- the def under the name x keeps the promise sp, by at most level k -/
structure Cal (P : Program) (w : World) (K : PySem.W.Frag) (mg : Str → Option Value) (base : Heap) (x : Str) (k : Nat) (sp : Sp) : Prop where
  ex : ∃ f fd ps, FnOk P w K mg base CX0 k f fd ps sp ∧ mg x = some (.ref f) ∧ PySem.W.keepIn K (.ref f) = true ∧ Binds K fd ps []
section
variable {X : Cx} {x : Str} {k : Nat} {sp : Sp} {e : Expr} {es : List Expr} {t : TA} {p pos : Pos}
theorem pe_cal (C : Cal X.prog X.w X.K X.mg X.base x k sp) (hr : Room k X.A) (hg : Gl X x) (ha : PA X (e :: es) t) (hdb : (x == ("__debug__" : Str)) = false := by decide)
    (he : starEach (e :: es) X.env = (false, eval e X.env) :: starEach es X.env := by rfl) (hpl : (backTo pos (starEach es X.env)).any (·.1) = false := by rfl) : PE X (.Call (.Name x p) (e :: es) [] pos) (tCall sp [] E0 t) := by
  obtain ⟨f, fd, ps, F, hm, hk, hb⟩ := C.ex
  exact pe_call F hr hg hm hk hb .nil pass0 ha hdb he hpl
theorem pe_cal0 (C : Cal X.prog X.w X.K X.mg X.base x k sp) (hr : Room k X.A) (hg : Gl X x) (hdb : (x == ("__debug__" : Str)) = false := by decide) : PE X (.Call (.Name x p) [] [] pos) (tCall sp [] E0 tNil) := by
  obtain ⟨f, fd, ps, F, hm, hk, hb⟩ := C.ex
  exact pe_call0 F hr hg hm hk hb .nil pass0 hdb
end
end Ow

namespace Gd
/-- t + p√5 above 0, by the norm -/
def Pos (t p : Int) : Prop := (5 * (p * p) < t * t ∧ 0 < t) ∨ (t * t < 5 * (p * p) ∧ 0 < p)
theorem sq_nonneg (x : Int) : 0 ≤ x * x := by
  rcases Int.le_total 0 x with h | h
  · exact Int.mul_nonneg h h
  · exact Int.mul_nonneg_of_nonpos_of_nonpos h h
theorem irr_aux : ∀ (n : Nat) (t p : Int), t.natAbs ≤ n → t * t = 5 * (p * p) → t = 0 ∧ p = 0 := by
  intro n
  induction n with
  | zero =>
    intro t p h e
    have ht : t = 0 := by omega
    subst ht
    refine ⟨rfl, ?_⟩
    have : p * p = 0 := by omega
    rcases Int.mul_eq_zero.mp this with h | h <;> exact h
  | succ n ih =>
    intro t p h e
    have h5 : t % 5 = 0 := by
      have hm : (t * t) % 5 = 0 := by omega
      rw [Int.mul_emod] at hm
      have h0 := Int.emod_nonneg t (show (5 : Int) ≠ 0 by decide)
      have h1 := Int.emod_lt_of_pos t (show (0 : Int) < 5 by decide)
      generalize t % 5 = r at *
      have : r = 0 ∨ r = 1 ∨ r = 2 ∨ r = 3 ∨ r = 4 := by omega
      rcases this with rfl | rfl | rfl | rfl | rfl <;> simp_all
    obtain ⟨k, hk⟩ : ∃ k, t = 5 * k := ⟨t / 5, by omega⟩
    subst hk
    have e2 : p * p = 5 * (k * k) := by
      have : 5 * k * (5 * k) = 25 * (k * k) := by grind
      omega
    by_cases hk0 : k = 0
    · subst hk0
      have : p * p = 0 := by omega
      rcases Int.mul_eq_zero.mp this with h | h <;> exact ⟨by omega, h⟩
    · have hp : p.natAbs ≤ n := by
        have hlt : p.natAbs < (5 * k).natAbs := by
          rcases Nat.lt_or_ge p.natAbs (5 * k).natAbs with h' | h'
          · exact h'
          · have h2 : (5 * k).natAbs * (5 * k).natAbs ≤ p.natAbs * p.natAbs := Nat.mul_le_mul h' h'
            rw [← Int.natAbs_mul, ← Int.natAbs_mul] at h2
            have e3 : 5 * k * (5 * k) = 25 * (k * k) := by grind
            rw [e3, e2] at h2
            have h3 : 0 < k * k := by
              rcases Int.lt_or_gt_of_ne hk0 with h | h
              · exact Int.mul_pos_of_neg_of_neg h h
              · exact Int.mul_pos h h
            omega
        omega
      obtain ⟨a, b⟩ := ih p k hp e2
      exact ⟨by omega, a⟩
theorem irr {t p : Int} (e : t * t = 5 * (p * p)) : t = 0 ∧ p = 0 := irr_aux _ t p (Nat.le_refl _) e
theorem sum_pos {u v : Int} (hu : 0 < u) (h : v * v < u * u) : 0 < u + v := by
  rcases Int.lt_or_le 0 (u + v) with h' | h'
  · exact h'
  · exfalso
    have h1 : u ≤ -v := by omega
    have : u * u ≤ -v * -v := Int.mul_le_mul h1 h1 (by omega) (by omega)
    have e : -v * -v = v * v := by grind
    omega
theorem mul_lt4 {a b c d : Int} (hb : 0 ≤ b) (h1 : b < a) (hd : 0 ≤ d) (h2 : d < c) : b * d < a * c := by
  have h3 : b * d ≤ b * c := Int.mul_le_mul_of_nonneg_left (by omega) hb
  have h4 : b * c < a * c := Int.mul_lt_mul_of_pos_right h1 (by omega)
  omega
theorem pos_mul {t p u q T P : Int} (hT : 2 * T = t * u + 5 * (p * q)) (hP : 2 * P = t * q + u * p) (h1 : Pos t p) (h2 : Pos u q) : Pos T P := by
  have hN : 4 * (T * T) - 20 * (P * P) = (t * t - 5 * (p * p)) * (u * u - 5 * (q * q)) := by
    have e1 : 4 * (T * T) = (2 * T) * (2 * T) := by grind
    have e2 : 20 * (P * P) = 5 * ((2 * P) * (2 * P)) := by grind
    rw [e1, e2, hT, hP]
    grind
  have p0 := sq_nonneg p
  have q0 := sq_nonneg q
  have t0 := sq_nonneg t
  have u0 := sq_nonneg u
  rcases h1 with ⟨a1, b1⟩ | ⟨a1, b1⟩ <;> rcases h2 with ⟨a2, b2⟩ | ⟨a2, b2⟩
  · refine .inl ⟨?_, ?_⟩
    · have : 0 < (t * t - 5 * (p * p)) * (u * u - 5 * (q * q)) := Int.mul_pos (by omega) (by omega)
      omega
    · have k := mul_lt4 (a := t * t) (b := 5 * (p * p)) (c := u * u) (d := 5 * (q * q)) (by omega) a1 (by omega) a2
      have := sum_pos (u := t * u) (v := 5 * (p * q)) (Int.mul_pos b1 b2) (by grind)
      omega
  · refine .inr ⟨?_, ?_⟩
    · have : (t * t - 5 * (p * p)) * (u * u - 5 * (q * q)) < 0 := Int.mul_neg_of_pos_of_neg (by omega) (by omega)
      omega
    · have k := mul_lt4 (a := t * t) (b := 5 * (p * p)) (c := 5 * (q * q)) (d := u * u) (by omega) a1 (by omega) a2
      have := sum_pos (u := t * q) (v := u * p) (Int.mul_pos b1 b2) (by grind)
      omega
  · refine .inr ⟨?_, ?_⟩
    · have : (t * t - 5 * (p * p)) * (u * u - 5 * (q * q)) < 0 := Int.mul_neg_of_neg_of_pos (by omega) (by omega)
      omega
    · have k := mul_lt4 (a := 5 * (p * p)) (b := t * t) (c := u * u) (d := 5 * (q * q)) (by omega) a1 (by omega) a2
      have := sum_pos (u := u * p) (v := t * q) (Int.mul_pos b2 b1) (by grind)
      omega
  · refine .inl ⟨?_, ?_⟩
    · have : 0 < (t * t - 5 * (p * p)) * (u * u - 5 * (q * q)) := Int.mul_pos_of_neg_of_neg (by omega) (by omega)
      omega
    · have k := mul_lt4 (a := 5 * (p * p)) (b := t * t) (c := 5 * (q * q)) (d := u * u) (by omega) a1 (by omega) a2
      have hpq : 0 < 5 * (p * q) := by
        have := Int.mul_pos b1 b2
        omega
      have := sum_pos (u := 5 * (p * q)) (v := t * u) hpq (by grind)
      omega
theorem pos_not_neg {t p : Int} (h : Pos t p) : ¬ Pos (-t) (-p) := by
  have e1 : -t * -t = t * t := by grind
  have e2 : -p * -p = p * p := by grind
  unfold Pos at *
  rw [e1, e2]
  omega
theorem pos_tri (t p : Int) : Pos t p ∨ Pos (-t) (-p) ∨ (t = 0 ∧ p = 0) := by
  have e1 : -t * -t = t * t := by grind
  have e2 : -p * -p = p * p := by grind
  unfold Pos
  rw [e1, e2]
  have p0 := sq_nonneg p
  have t0 := sq_nonneg t
  rcases Int.lt_trichotomy (t * t) (5 * (p * p)) with h | h | h
  · have : p ≠ 0 := by rintro rfl; omega
    omega
  · exact .inr (.inr (irr h))
  · have : t ≠ 0 := by rintro rfl; omega
    omega
theorem pos_zero : ¬ Pos 0 0 := by unfold Pos; omega
/-- the sign -/
noncomputable def sg (t p : Int) : Int := open Classical in if Pos t p then 1 else if Pos (-t) (-p) then -1 else 0
theorem sg_pos {t p : Int} (h : Pos t p) : sg t p = 1 := by unfold sg; rw [if_pos h]
theorem sg_neg {t p : Int} (h : Pos (-t) (-p)) : sg t p = -1 := by
  unfold sg
  rw [if_neg (fun h' => pos_not_neg h' h), if_pos h]
theorem sg_zero : sg 0 0 = 0 := by
  unfold sg
  rw [if_neg pos_zero, if_neg (by simpa using pos_zero)]
theorem sg_eq_zero {t p : Int} (h : sg t p = 0) : t = 0 ∧ p = 0 := by
  rcases pos_tri t p with h' | h' | h'
  · rw [sg_pos h'] at h; omega
  · rw [sg_neg h'] at h; omega
  · exact h'
theorem sg_cases (t p : Int) : (sg t p = 1 ∧ Pos t p) ∨ (sg t p = -1 ∧ Pos (-t) (-p)) ∨ (sg t p = 0 ∧ t = 0 ∧ p = 0) := by
  rcases pos_tri t p with h | h | ⟨rfl, rfl⟩
  · exact .inl ⟨sg_pos h, h⟩
  · exact .inr (.inl ⟨sg_neg h, h⟩)
  · exact .inr (.inr ⟨sg_zero, rfl, rfl⟩)
theorem sg_opp (t p : Int) : sg (-t) (-p) = - sg t p := by
  rcases sg_cases t p with ⟨e, h⟩ | ⟨e, h⟩ | ⟨e, rfl, rfl⟩
  · rw [e, sg_neg (by simpa using h)]
  · rw [e, sg_pos h]; rfl
  · simp [sg_zero]
theorem sg_mul {t p u q T P : Int} (hT : 2 * T = t * u + 5 * (p * q)) (hP : 2 * P = t * q + u * p) : sg T P = sg t p * sg u q := by
  rcases sg_cases t p with ⟨e, h⟩ | ⟨e, h⟩ | ⟨e, rfl, rfl⟩ <;> rcases sg_cases u q with ⟨e', h'⟩ | ⟨e', h'⟩ | ⟨e', rfl, rfl⟩
  all_goals (try rw [e]); (try rw [e'])
  · exact sg_pos (pos_mul hT hP h h')
  · exact sg_neg (pos_mul (T := -T) (P := -P) (by grind) (by grind) h h')
  · obtain rfl : T = 0 := by grind
    obtain rfl : P = 0 := by grind
    exact sg_zero
  · exact sg_neg (pos_mul (T := -T) (P := -P) (by grind) (by grind) h h')
  · exact sg_pos (pos_mul (T := T) (P := P) (by grind) (by grind) h h')
  · obtain rfl : T = 0 := by grind
    obtain rfl : P = 0 := by grind
    exact sg_zero
  · obtain rfl : T = 0 := by grind
    obtain rfl : P = 0 := by grind
    exact sg_zero
  · obtain rfl : T = 0 := by grind
    obtain rfl : P = 0 := by grind
    exact sg_zero
  · obtain rfl : T = 0 := by grind
    obtain rfl : P = 0 := by grind
    exact sg_zero
/-- the sign of whole + part s -/
noncomputable def gs (a b : Int) : Int := sg (2 * a + b) b
theorem gs_opp (a b : Int) : gs (-a) (-b) = - gs a b := by
  unfold gs
  rw [← sg_opp]
  congr 1
  omega
theorem gs_mul (a b c d : Int) : gs (a * c + b * d) (a * d + b * c + b * d) = gs a b * gs c d := by
  unfold gs
  exact sg_mul (by grind) (by grind)
theorem gs_zero {a b : Int} (h : gs a b = 0) : a = 0 ∧ b = 0 := by
  have := sg_eq_zero h
  omega
theorem gs_00 : gs 0 0 = 0 := sg_zero
theorem gs_val (a b : Int) : gs a b = 1 ∨ gs a b = -1 ∨ gs a b = 0 := by
  rcases sg_cases (2 * a + b) b with ⟨e, _⟩ | ⟨e, _⟩ | ⟨e, _⟩
  · exact .inl e
  · exact .inr (.inl e)
  · exact .inr (.inr e)
theorem gs_sq (a b : Int) : gs (a * a + b * b) (a * b + b * a + b * b) = if a = 0 ∧ b = 0 then 0 else 1 := by
  rw [gs_mul]
  split
  · rename_i h
    rw [h.1, h.2, gs_00]; rfl
  · rename_i h
    rcases gs_val a b with e | e | e
    · rw [e]; rfl
    · rw [e]; rfl
    · exact absurd (gs_zero e) h
/-- the four ways of the program's sense_of -/
theorem gs_0 {a b : Int} (h1 : 2 * a + b = 0) (h2 : b = 0) : gs a b = 0 := by
  obtain rfl : b = 0 := h2
  obtain rfl : a = 0 := by omega
  exact gs_00
theorem gs_ge {a b : Int} (h : ¬ (2 * a + b = 0 ∧ b = 0)) (h1 : 0 ≤ 2 * a + b) (h2 : 0 ≤ b) : gs a b = 1 := by
  rcases sg_cases (2 * a + b) b with ⟨e, _⟩ | ⟨e, x⟩ | ⟨e, x⟩
  · exact e
  · unfold Pos at x; omega
  · exact absurd x h
theorem gs_le {a b : Int} (h : ¬ (2 * a + b = 0 ∧ b = 0)) (h1 : 2 * a + b ≤ 0) (h2 : b ≤ 0) : gs a b = -1 := by
  rcases sg_cases (2 * a + b) b with ⟨e, x⟩ | ⟨e, x⟩ | ⟨e, x⟩
  · unfold Pos at x; omega
  · exact e
  · exact absurd x h
theorem gs_mix {a b : Int} (h : ¬ (2 * a + b = 0 ∧ b = 0)) (h1 : ¬ (0 ≤ 2 * a + b ∧ 0 ≤ b)) (h2 : ¬ (2 * a + b ≤ 0 ∧ b ≤ 0)) :
    gs a b = if (decide ((2 * a + b) * (2 * a + b) > 5 * b * b) == decide (2 * a + b > 0)) = true then 1 else -1 := by
  have e5 : 5 * b * b = 5 * (b * b) := Int.mul_assoc _ _ _
  rw [e5]
  have hn : (2 * a + b) * (2 * a + b) ≠ 5 * (b * b) := fun q => h (irr q)
  have ee : -(2 * a + b) * -(2 * a + b) = (2 * a + b) * (2 * a + b) := by grind
  have eb : -b * -b = b * b := by grind
  rcases sg_cases (2 * a + b) b with ⟨e, x⟩ | ⟨e, x⟩ | ⟨e, x⟩
  · unfold gs
    rw [e]
    unfold Pos at x
    rw [if_pos]
    by_cases hg : 2 * a + b > 0 <;> by_cases hh : (2 * a + b) * (2 * a + b) > 5 * (b * b) <;> simp [hg, hh] <;> omega
  · unfold gs
    rw [e]
    unfold Pos at x
    rw [ee, eb] at x
    rw [if_neg]
    by_cases hg : 2 * a + b > 0 <;> by_cases hh : (2 * a + b) * (2 * a + b) > 5 * (b * b) <;> simp [hg, hh] <;> omega
  · exact absurd x h
/-- the law's own, by a root r of 5 b b -/
theorem sq_le {x y : Int} (h0 : 0 ≤ x) (h : x ≤ y) : x * x ≤ y * y := Int.mul_le_mul h h h0 (by omega)
theorem gs_root_pos {a b r : Int} (hb : 0 < b) (h0 : 0 ≤ r) (h1 : r * r ≤ 5 * b * b) (h2 : 5 * b * b < (r + 1) * (r + 1)) : gs a b = if 2 * a + b ≥ 0 - r then 1 else -1 := by
  rw [Int.mul_assoc] at h1 h2
  have hn : (2 * a + b) * (2 * a + b) ≠ 5 * (b * b) := fun q => by have := (irr q).2; omega
  have ee : -(2 * a + b) * -(2 * a + b) = (2 * a + b) * (2 * a + b) := by grind
  split
  · rename_i h
    unfold gs
    refine sg_pos ?_
    unfold Pos
    by_cases hp : 0 < 2 * a + b
    · rcases Int.lt_or_gt_of_ne hn with h' | h'
      · exact .inr ⟨h', hb⟩
      · exact .inl ⟨h', hp⟩
    · have := sq_le (x := -(2 * a + b)) (y := r) (by omega) (by omega)
      rw [ee] at this
      exact .inr ⟨by omega, hb⟩
  · rename_i h
    unfold gs
    refine sg_neg (.inl ⟨?_, by omega⟩)
    have := sq_le (x := r + 1) (y := -(2 * a + b)) (by omega) (by omega)
    have eb : -b * -b = b * b := by grind
    rw [eb]
    omega
theorem gs_root_neg {a b r : Int} (hb : b < 0) (h0 : 0 ≤ r) (h1 : r * r ≤ 5 * b * b) (h2 : 5 * b * b < (r + 1) * (r + 1)) : gs a b = if 2 * a + b > r then 1 else -1 := by
  rw [Int.mul_assoc] at h1 h2
  have hn : (2 * a + b) * (2 * a + b) ≠ 5 * (b * b) := fun q => by have := (irr q).2; omega
  have ee : -(2 * a + b) * -(2 * a + b) = (2 * a + b) * (2 * a + b) := by grind
  have eb : -b * -b = b * b := by grind
  split
  · rename_i h
    unfold gs
    have := sq_le (x := r + 1) (y := (2 * a + b)) (by omega) (by omega)
    exact sg_pos (.inl ⟨by omega, by omega⟩)
  · rename_i h
    unfold gs
    refine sg_neg ?_
    unfold Pos
    rw [ee, eb]
    by_cases hp : 0 < 2 * a + b
    · have := sq_le (x := (2 * a + b)) (y := r) (by omega) (by omega)
      exact .inr ⟨by omega, by omega⟩
    · rcases Int.lt_or_gt_of_ne hn with h' | h'
      · exact .inr ⟨h', by omega⟩
      · refine .inl ⟨h', ?_⟩
        have : 2 * a + b ≠ 0 := fun q => by rw [q] at h'; have := sq_nonneg b; omega
        omega
theorem gs_part0 (a : Int) : gs a 0 = (if 0 < a then 1 else 0) - (if a < 0 then 1 else 0) := by
  rcases Int.lt_trichotomy 0 a with h | h | h
  · rw [gs_ge (by omega) (by omega) (by omega), if_pos h, if_neg (by omega)]; rfl
  · subst h; rw [gs_00]; rfl
  · rw [gs_le (by omega) (by omega) (by omega), if_neg (by omega), if_pos h]; rfl
theorem norm_mul (a b c d : Int) : (a * c + b * d) * (a * c + b * d) + (a * c + b * d) * (a * d + b * c + b * d) - (a * d + b * c + b * d) * (a * d + b * c + b * d)
    = (a * a + a * b - b * b) * (c * c + c * d - d * d) := by grind
/-- the same by tests, for the walk -/
def gsI (a b : Int) : Int := if 2 * a + b = 0 ∧ b = 0 then 0 else if 0 ≤ 2 * a + b ∧ 0 ≤ b then 1 else if 2 * a + b ≤ 0 ∧ b ≤ 0 then -1
  else if (decide ((2 * a + b) * (2 * a + b) > 5 * b * b) == decide (2 * a + b > 0)) = true then 1 else -1
theorem gsI_eq (a b : Int) : gsI a b = gs a b := by
  unfold gsI
  split
  · rename_i h; exact (gs_0 h.1 h.2).symm
  · rename_i h
    split
    · rename_i h1; exact (gs_ge h h1.1 h1.2).symm
    · rename_i h1
      split
      · rename_i h2; exact (gs_le h h2.1 h2.2).symm
      · rename_i h2; exact (gs_mix h h1 h2).symm
end Gd
namespace Gd
theorem gsI_self (a b : Int) : gsI (a - a) (b - b) = 0 := by
  rw [Int.sub_self, Int.sub_self]; rfl
theorem cnt3 (a b c d : Int) : ([decide (0 < gsI (c - a) (d - b)), decide (0 < gsI (a - c) (b - d)), decide (a = c) && decide (b = d)].count true) = 1 := by
  have e : gsI (a - c) (b - d) = - gsI (c - a) (d - b) := by
    rw [gsI_eq, gsI_eq, ← gs_opp]
    congr 1 <;> omega
  rw [e, gsI_eq]
  rcases gs_val (c - a) (d - b) with h | h | h
  · have : ¬ (a = c ∧ b = d) := by
      rintro ⟨rfl, rfl⟩
      rw [Int.sub_self, Int.sub_self, gs_00] at h
      omega
    rw [h, ← Bool.decide_and, decide_eq_false this]
    decide
  · have : ¬ (a = c ∧ b = d) := by
      rintro ⟨rfl, rfl⟩
      rw [Int.sub_self, Int.sub_self, gs_00] at h
      omega
    rw [h, ← Bool.decide_and, decide_eq_false this]
    decide
  · have z := gs_zero h
    have : (a = c ∧ b = d) := by omega
    rw [h, ← Bool.decide_and, decide_eq_true this]
    decide
theorem less_sq (a b c d e f : Int) : decide (0 < gsI (c * (e * e + f * f) + d * (e * f + f * e + f * f) - (a * (e * e + f * f) + b * (e * f + f * e + f * f)))
    (c * (e * f + f * e + f * f) + d * (e * e + f * f) + d * (e * f + f * e + f * f) - (a * (e * f + f * e + f * f) + b * (e * e + f * f) + b * (e * f + f * e + f * f))))
    = (decide (0 < gsI (c - a) (d - b)) && (decide (e ≠ 0) || decide (f ≠ 0))) := by
  rw [gsI_eq, gsI_eq]
  have h := gs_mul (c - a) (d - b) (e * e + f * f) (e * f + f * e + f * f)
  rw [gs_sq] at h
  rw [show c * (e * e + f * f) + d * (e * f + f * e + f * f) - (a * (e * e + f * f) + b * (e * f + f * e + f * f)) = (c - a) * (e * e + f * f) + (d - b) * (e * f + f * e + f * f) by grind,
    show c * (e * f + f * e + f * f) + d * (e * e + f * f) + d * (e * f + f * e + f * f) - (a * (e * f + f * e + f * f) + b * (e * e + f * f) + b * (e * f + f * e + f * f)) = (c - a) * (e * f + f * e + f * f) + (d - b) * (e * e + f * f) + (d - b) * (e * f + f * e + f * f) by grind, h]
  by_cases z : e = 0 ∧ f = 0
  · rw [if_pos z, z.1, z.2]
    simp
  · rw [if_neg z, Int.mul_one]
    have : (decide (e ≠ 0) || decide (f ≠ 0)) = true := by
      by_cases z1 : e = 0 <;> by_cases z2 : f = 0 <;> simp_all
    rw [this, Bool.and_true]
theorem sense_mul (a b c d : Int) : gsI (a * c + b * d) (a * d + b * c + b * d) = gsI a b * gsI c d := by
  rw [gsI_eq, gsI_eq, gsI_eq, gs_mul]
end Gd

namespace Gk
open PySem L2 Ow
def top (i : Nat) : Stmt := PySem.Challenge.pw_underwords_k01_whole_golds_reckoned_and.main.body.getD i (.Pass ⟨0, 0, 0, 0⟩)
abbrev s_is_within : Stmt := top 2
theorem sc_is_within : FnScope ["value", "least", "most"] ["value", "least", "most"] (defScope s_is_within) := ⟨rfl, rfl, rfl, by decide +kernel, rfl, by decide +kernel, by decide +kernel⟩
abbrev s_is_integer : Stmt := top 1
theorem sc_is_integer : FnScope ["value"] ["value"] (defScope s_is_integer) := ⟨rfl, rfl, rfl, by decide +kernel, rfl, by decide +kernel, by decide +kernel⟩
abbrev s_init : Stmt := inClass (top 8) 0
theorem sc_init : FnScope ["self", "whole", "part"] ["self", "whole", "part"] (defScope s_init) := ⟨rfl, rfl, rfl, by decide +kernel, rfl, by decide +kernel, by decide +kernel⟩
abbrev s_whole : Stmt := inClass (top 8) 1
theorem sc_whole : FnScope ["self"] ["self"] (defScope s_whole) := ⟨rfl, rfl, rfl, by decide +kernel, rfl, by decide +kernel, by decide +kernel⟩
abbrev s_part : Stmt := inClass (top 8) 2
theorem sc_part : FnScope ["self"] ["self"] (defScope s_part) := ⟨rfl, rfl, rfl, by decide +kernel, rfl, by decide +kernel, by decide +kernel⟩
abbrev s_norm : Stmt := inClass (top 8) 3
theorem sc_norm : FnScope ["self"] ["self"] (defScope s_norm) := ⟨rfl, rfl, rfl, by decide +kernel, rfl, by decide +kernel, by decide +kernel⟩
abbrev s_sense : Stmt := inClass (top 8) 4
theorem sc_sense : FnScope ["self"] ["self"] (defScope s_sense) := ⟨rfl, rfl, rfl, by decide +kernel, rfl, by decide +kernel, by decide +kernel⟩
abbrev s_is_less : Stmt := inClass (top 8) 5
theorem sc_is_less : FnScope ["self", "other"] ["self", "other"] (defScope s_is_less) := ⟨rfl, rfl, rfl, by decide +kernel, rfl, by decide +kernel, by decide +kernel⟩
abbrev s_add : Stmt := inClass (top 8) 6
theorem sc_add : FnScope ["self", "other"] ["self", "other"] (defScope s_add) := ⟨rfl, rfl, rfl, by decide +kernel, rfl, by decide +kernel, by decide +kernel⟩
abbrev s_sub : Stmt := inClass (top 8) 7
theorem sc_sub : FnScope ["self", "other"] ["self", "other"] (defScope s_sub) := ⟨rfl, rfl, rfl, by decide +kernel, rfl, by decide +kernel, by decide +kernel⟩
abbrev s_mul : Stmt := inClass (top 8) 8
theorem sc_mul : FnScope ["self", "other", "whole", "part"] ["self", "other"] (defScope s_mul) := ⟨rfl, rfl, rfl, by decide +kernel, rfl, by decide +kernel, by decide +kernel⟩
abbrev s_neg : Stmt := inClass (top 8) 9
theorem sc_neg : FnScope ["self"] ["self"] (defScope s_neg) := ⟨rfl, rfl, rfl, by decide +kernel, rfl, by decide +kernel, by decide +kernel⟩
abbrev s_eq : Stmt := inClass (top 8) 10
theorem sc_eq : FnScope ["self", "other"] ["self", "other"] (defScope s_eq) := ⟨rfl, rfl, rfl, by decide +kernel, rfl, by decide +kernel, by decide +kernel⟩
abbrev s_bool : Stmt := inClass (top 8) 11
theorem sc_bool : FnScope ["self"] ["self"] (defScope s_bool) := ⟨rfl, rfl, rfl, by decide +kernel, rfl, by decide +kernel, by decide +kernel⟩
abbrev s_gold_of : Stmt := top 9
theorem sc_gold_of : FnScope ["whole", "part", "made"] ["whole", "part"] (defScope s_gold_of) := ⟨rfl, rfl, rfl, by decide +kernel, rfl, by decide +kernel, by decide +kernel⟩
abbrev s_sense_of : Stmt := top 10
theorem sc_sense_of : FnScope ["whole", "part", "twice", "is_twice_heavier"] ["whole", "part"] (defScope s_sense_of) := ⟨rfl, rfl, rfl, by decide +kernel, rfl, by decide +kernel, by decide +kernel⟩
abbrev s_times : Stmt := top 11
theorem sc_times : FnScope ["one", "other", "a", "b", "c", "d"] ["one", "other"] (defScope s_times) := ⟨rfl, rfl, rfl, by decide +kernel, rfl, by decide +kernel, by decide +kernel⟩
abbrev s_basin : Stmt := top 14
theorem sc_basin : FnScope ["_law_script", "_law_at", "_law_cell", "_law_great", "_law_mixed"] ["_law_script", "_law_at"] (defScope s_basin) := ⟨rfl, rfl, rfl, by decide +kernel, rfl, by decide +kernel, by decide +kernel⟩
abbrev s_scoop : Stmt := top 15
theorem sc_scoop : FnScope ["_law_basin_here", "_law_total", "_law_found", "_law_one", "_law_two"] ["_law_basin_here", "_law_total"] (defScope s_scoop) := ⟨rfl, rfl, rfl, by decide +kernel, rfl, by decide +kernel, by decide +kernel⟩
abbrev s_one_of : Stmt := top 16
theorem sc_one_of : FnScope ["_law_basin_here", "_law_items"] ["_law_basin_here", "_law_items"] (defScope s_one_of) := ⟨rfl, rfl, rfl, by decide +kernel, rfl, by decide +kernel, by decide +kernel⟩
abbrev s_number : Stmt := top 17
theorem sc_number : FnScope ["_law_basin_here", "_law_most"] ["_law_basin_here"] (defScope s_number) := ⟨rfl, rfl, rfl, by decide +kernel, rfl, by decide +kernel, by decide +kernel⟩
abbrev s_root_below : Stmt := top 18
theorem sc_root_below : FnScope ["_law_number_here", "_law_found", "_law_step"] ["_law_number_here"] (defScope s_root_below) := ⟨rfl, rfl, rfl, by decide +kernel, rfl, by decide +kernel, by decide +kernel⟩
abbrev s_gold_sense : Stmt := top 19
theorem sc_gold_sense : FnScope ["_law_whole", "_law_part", "_law_double", "_law_low"] ["_law_whole", "_law_part"] (defScope s_gold_sense) := ⟨rfl, rfl, rfl, by decide +kernel, rfl, by decide +kernel, by decide +kernel⟩
abbrev s_near_gold : Stmt := top 20
theorem sc_near_gold : FnScope ["_law_basin_here", "_law_pair", "_law_low", "_law_high", "_law_turn", "_law_sign"] ["_law_basin_here", "_law_pair"] (defScope s_near_gold) := ⟨rfl, rfl, rfl, by decide +kernel, rfl, by decide +kernel, by decide +kernel⟩
abbrev s_product : Stmt := top 21
theorem sc_product : FnScope ["_law_one", "_law_other", "_law_both"] ["_law_one", "_law_other"] (defScope s_product) := ⟨rfl, rfl, rfl, by decide +kernel, rfl, by decide +kernel, by decide +kernel⟩
abbrev s_is_pair : Stmt := top 22
theorem sc_is_pair : FnScope ["_law_gold", "_law_pair"] ["_law_gold", "_law_pair"] (defScope s_is_pair) := ⟨rfl, rfl, rfl, by decide +kernel, rfl, by decide +kernel, by decide +kernel⟩
abbrev s_ops_right : Stmt := top 23
theorem sc_ops_right : FnScope ["_law_first", "_law_second", "_law_third", "_law_one", "_law_other", "_law_more"] ["_law_first", "_law_second", "_law_third"] (defScope s_ops_right) := ⟨rfl, rfl, rfl, by decide +kernel, rfl, by decide +kernel, by decide +kernel⟩
abbrev s_order_right : Stmt := top 24
theorem sc_order_right : FnScope ["_law_first", "_law_second", "_law_third", "_law_one", "_law_other", "_law_more", "_law_sense", "_law_less", "_law_square"] ["_law_first", "_law_second", "_law_third"] (defScope s_order_right) := ⟨rfl, rfl, rfl, by decide +kernel, rfl, by decide +kernel, by decide +kernel⟩
abbrev s_law : Stmt := top 25
theorem sc_law : FnScope ["_law_script", "_law_at", "_law_basin_here", "_law_turn", "_law_first", "_law_second", "_law_third", "_law_golden", "_law_told"] ["_law_script"] (defScope s_law) := ⟨rfl, rfl, rfl, by decide +kernel, rfl, by decide +kernel, by decide +kernel⟩
/-! the facts of the top -/
/-- a def of the module -/
def MDef (K : PySem.W.Frag) (mg : Str → Option Value) (x : Str) (st : Stmt) : Prop := ∃ f fd, Fun K x x st f fd ∧ mg x = some (.ref f)
/-- a method -/
def GM (K : PySem.W.Frag) (C : Addr) (m qual : Str) (st : Stmt) : Prop := ∃ f fd, Fun K m qual st f fd ∧ OM K C m f
/-- a property -/
def GP (K : PySem.W.Frag) (C : Addr) (m qual : Str) (st : Stmt) : Prop := ∃ p g fd, PropOf K C m p g ∧ Fun K m qual st g fd
structure Txt (K : PySem.W.Frag) (mg : Str → Option Value) (C : Addr) : Prop where
  cl : Cls K C
  oc : OCls K C
  ic : C8.InsC K C
  mgGold : mg "Gold" = some (.ref C)
  nW : NoAttr K C "_whole"
  nP : NoAttr K C "_part"
  mkG : ∃ f fd, Mk K C f ∧ FunD K "__init__" "Gold.__init__" (defArgs s_init) (defBody s_init) (defScope s_init) [.int 0] [] f fd
  pW : GP K C "whole" "Gold.whole" s_whole
  pP : GP K C "part" "Gold.part" s_part
  pN : GP K C "norm" "Gold.norm" s_norm
  pS : GP K C "sense" "Gold.sense" s_sense
  mLess : GM K C "is_less" "Gold.is_less" s_is_less
  mAdd : GM K C "__add__" "Gold.__add__" s_add
  mSub : GM K C "__sub__" "Gold.__sub__" s_sub
  mMul : GM K C "__mul__" "Gold.__mul__" s_mul
  mNeg : GM K C "__neg__" "Gold.__neg__" s_neg
  mEq : GM K C "__eq__" "Gold.__eq__" s_eq
  mBool : GM K C "__bool__" "Gold.__bool__" s_bool
  d_is_within : MDef K mg "is_within" s_is_within
  d_is_integer : MDef K mg "is_integer" s_is_integer
  d_gold_of : MDef K mg "gold_of" s_gold_of
  d_sense_of : MDef K mg "sense_of" s_sense_of
  d_times : MDef K mg "times" s_times
  d_basin : MDef K mg "_law_basin" s_basin
  d_scoop : MDef K mg "_law_scoop" s_scoop
  d_one_of : MDef K mg "_law_one_of" s_one_of
  d_number : MDef K mg "_law_number" s_number
  d_root_below : MDef K mg "_law_root_below" s_root_below
  d_gold_sense : MDef K mg "_law_gold_sense" s_gold_sense
  d_near_gold : MDef K mg "_law_near_gold" s_near_gold
  d_product : MDef K mg "_law_product" s_product
  d_is_pair : MDef K mg "_law_is_pair" s_is_pair
  d_ops_right : MDef K mg "_law_ops_right" s_ops_right
  d_order_right : MDef K mg "_law_order_right" s_order_right
  b_isinstance : mg "isinstance" = none
  b_int : mg "int" = none
  b_bool : mg "bool" = none
  b_len : mg "len" = none
  b_abs : mg "abs" = none
  b_max : mg "max" = none
  b_min : mg "min" = none
  b_range : mg "range" = none
theorem MDef.cal {P : Program} {w : World} {K : PySem.W.Frag} {mg : Str → Option Value} {base : Heap} {x : Str} {st : Stmt} {k : Nat} {ps : List Str} {sp : Sp} (D : MDef K mg x st)
    (F : ∀ f fd, Fun K x x st f fd → FnOk P w K mg base CX0 k f fd ps sp)
    (h : ∀ (kV doc pm : Value) (an : Option Addr) (cdv ct : Value) (us : List Value), us.length = ps.length → bindArgs (PySem.W.fnOf x x (defArgs st) (defBody st) (defScope st) .none kV doc pm an cdv ct) ⟨us, []⟩ = pure (ps.zip us)) : Cal P w K mg base x k sp := by
  obtain ⟨f, fd, D, m⟩ := D
  exact ⟨⟨f, fd, ps, F f fd D, m, D.kp, D.binds h⟩⟩

/-! numbers -/
/-- bounds by powers of two -/
def B (n : Nat) (i : Int) : Prop := i.natAbs < 2 ^ n
theorem B.mono {n m : Nat} {i : Int} (h : B n i) (k : n ≤ m) : B m i := Nat.lt_of_lt_of_le h (Nat.pow_le_pow_right (by decide) k)
theorem B.mul {n m : Nat} {i j : Int} (h : B n i) (k : B m j) : B (n + m) (i * j) := wide_lt h k
theorem B.add {n : Nat} {i j : Int} (h : B n i) (k : B n j) : B (n + 1) (i + j) := by
  unfold B at *
  rw [Nat.pow_succ]
  omega
theorem B.sub {n : Nat} {i j : Int} (h : B n i) (k : B n j) : B (n + 1) (i - j) := by
  unfold B at *
  rw [Nat.pow_succ]
  omega
theorem B.neg {n : Nat} {i : Int} (h : B n i) : B n (-i) := by
  unfold B at *
  omega
theorem B.ok {n m : Nat} {i j : Int} (h : B n i) (k : B m j) (hn : 0 < n := by decide) (hm : 0 < m := by decide) (hs : n + m ≤ 1000000 := by decide) : CMulW i j := wide_mul h k hn hm hs
theorem B.lit {n : Nat} (i : Int) (h : i.natAbs < 2 ^ n := by decide) : B n i := h

theorem sm_le {i : Int} (h : B 199 i) : 1 - 10 ^ 60 ≤ i ∧ i ≤ 10 ^ 60 - 1 := by
  have h2 : i.natAbs < 10 ^ 60 - 1 := Nat.lt_of_lt_of_le h (by decide)
  omega
theorem upd_upd {H : Hp} {p : Addr} {a b : HO} : upd (upd H p a) p b = upd H p b := by
  funext q
  unfold upd
  by_cases h : q = p
  · rw [if_pos h, if_pos h]
  · rw [if_neg h, if_neg h, if_neg h]

theorem ite_and {c d : Bool} {A B X Y : Prop} (hx : (if d = true then A else B) → X) (hy : B → Y) (h1 : c = true → d = true → A) (h2 : ¬ (c = true ∧ d = true) → B) : if c = true then X else Y := by
  cases c with
  | false => exact iteF (hy (h2 fun z => Bool.noConfusion z.1))
  | true =>
    refine iteT (hx ?_)
    cases d with
    | false => exact iteF (h2 fun z => Bool.noConfusion z.2)
    | true => exact iteT (h1 rfl rfl)
theorem vi_eq {i j : Int} (h : decide (V.int i = V.int j) = true) : i = j := V.int.inj (of_decide_eq_true h)
theorem vi_of {i j : Int} (h : i = j) : decide (V.int i = V.int j) = true := decide_eq_true (by rw [h])

/-! golds -/
def gf (a b : Int) : List (Str × V) := putF "_part" (.int b) (putF "_whole" (.int a) [])
theorem wp_ : ¬ (("_whole" : Str) = "_part") := by decide +kernel
theorem pw_ : ¬ (("_part" : Str) = "_whole") := by decide +kernel
theorem gf_eq (a b : Int) : gf a b = ([("_whole", V.int a), ("_part", V.int b)] : List (Str × V)) := by
  show (if ("_whole" : Str) = "_part" then [(("_whole" : Str), V.int b)] else (("_whole" : Str), V.int a) :: putF "_part" (V.int b) []) = _
  rw [if_neg wp_]
  rfl
theorem gf_len (a b : Int) : (gf a b).length = 2 := by rw [gf_eq]; rfl
theorem gf_w (a b : Int) : (gf a b).lookup ("_whole" : Str) = some (.int a) := by
  unfold gf
  rw [lookup_putF, if_neg wp_, lookup_putF, if_pos rfl]
theorem gf_p (a b : Int) : (gf a b).lookup ("_part" : Str) = some (.int b) := by
  unfold gf
  rw [lookup_putF, if_pos rfl]
theorem gf_no (a b : Int) {m : Str} (h1 : ¬ m = "_part") (h2 : ¬ m = "_whole") : (gf a b).lookup m = none := by
  unfold gf
  rw [lookup_putF, if_neg h1, lookup_putF, if_neg h2]
  rfl
theorem gf_setw (a b c : Int) : putF "_whole" (.int c) (gf a b) = gf c b := by
  rw [gf_eq, gf_eq]
  show (if ("_whole" : Str) = "_whole" then _ else _) = _
  rw [if_pos rfl]
theorem gf_setp (a b c : Int) : putF "_part" (.int c) (gf a b) = gf a c := by
  rw [gf_eq, gf_eq]
  show (if ("_whole" : Str) = "_part" then _ else (("_whole" : Str), V.int a) :: (if ("_part" : Str) = "_part" then _ else _)) = _
  rw [if_neg wp_, if_pos rfl]
def GoldAt (C : Addr) (H : Hp) (p : Addr) (a b : Int) : Prop := ∃ dx, H p = some (.ins C dx (gf a b))
theorem GoldAt.same {C : Addr} {H H' : Hp} {p : Addr} {a b : Int} (g : GoldAt C H p a b) (s : Same H H') : GoldAt C H' p a b := g.elim fun dx h => ⟨dx, s _ _ h⟩

/-! promises -/
def spWithin : Sp := fun vs H Q _ => ∃ i lo hi : Int, vs = [.int i, .int lo, .int hi] ∧ Q (.bl (decide (lo ≤ i) && decide (i ≤ hi))) H
def spInteger : Sp := fun vs H Q _ => ∃ i : Int, vs = [.int i] ∧ B 199 i ∧ Q (.bl true) H
def spInit (C : Addr) : Sp := fun vs H Q _ => ∃ (p dx : Addr) (a b : Int), vs = [.ref p, .int a, .int b] ∧ B 199 a ∧ B 199 b ∧ H p = some (.ins C dx []) ∧ Q .non (upd H p (.ins C dx (gf a b)))
def spNorm (C : Addr) : Sp := fun vs H Q _ => ∃ (p : Addr) (a b : Int), vs = [.ref p] ∧ GoldAt C H p a b ∧ B 1000 a ∧ B 1000 b ∧ Q (.int (a * a + a * b - b * b)) H
def spSenseOf : Sp := fun vs H Q _ => ∃ a b : Int, vs = [.int a, .int b] ∧ B 1000 a ∧ B 1000 b ∧ Q (.int (Gd.gsI a b)) H
def spSense (C : Addr) : Sp := fun vs H Q _ => ∃ (p : Addr) (a b : Int), vs = [.ref p] ∧ GoldAt C H p a b ∧ B 1000 a ∧ B 1000 b ∧ Q (.int (Gd.gsI a b)) H
def spLess (C : Addr) : Sp := fun vs H Q _ => ∃ (p q : Addr) (a b c d : Int), vs = [.ref p, .ref q] ∧ GoldAt C H p a b ∧ GoldAt C H q c d ∧ B 990 a ∧ B 990 b ∧ B 990 c ∧ B 990 d ∧ Q (.bl (decide (0 < Gd.gsI (c - a) (d - b)))) H
/-- a new gold -/
def NewG (C : Addr) (H : Hp) (Q : VK) (a b : Int) : Prop := ∀ (r : Addr) (H' : Hp), Same H H' → H r = none → GoldAt C H' r a b → Q (.ref r) H'
def spOf (C : Addr) : Sp := fun vs H Q _ => ∃ a b : Int, vs = [.int a, .int b] ∧ NewG C H Q a b
def spAdd (C : Addr) : Sp := fun vs H Q _ => ∃ (p q : Addr) (a b c d : Int), vs = [.ref p, .ref q] ∧ GoldAt C H p a b ∧ GoldAt C H q c d ∧ NewG C H Q (a + c) (b + d)
def spSub (C : Addr) : Sp := fun vs H Q _ => ∃ (p q : Addr) (a b c d : Int), vs = [.ref p, .ref q] ∧ GoldAt C H p a b ∧ GoldAt C H q c d ∧ NewG C H Q (a - c) (b - d)
def spMul (C : Addr) : Sp := fun vs H Q _ => ∃ (p q : Addr) (a b c d : Int), vs = [.ref p, .ref q] ∧ GoldAt C H p a b ∧ GoldAt C H q c d ∧ B 1000 a ∧ B 1000 b ∧ B 1000 c ∧ B 1000 d ∧ NewG C H Q (a * c + b * d) (a * d + b * c + b * d)
def spNeg (C : Addr) : Sp := fun vs H Q _ => ∃ (p : Addr) (a b : Int), vs = [.ref p] ∧ GoldAt C H p a b ∧ NewG C H Q (-a) (-b)
def spEq (C : Addr) : Sp := fun vs H Q _ => ∃ (p q : Addr) (a b c d : Int), vs = [.ref p, .ref q] ∧ GoldAt C H p a b ∧ GoldAt C H q c d ∧ Q (.bl (decide (a = c) && decide (b = d))) H
def spBool (C : Addr) : Sp := fun vs H Q _ => ∃ (p : Addr) (a b : Int), vs = [.ref p] ∧ GoldAt C H p a b ∧ Q (.bl (decide (a ≠ 0) || decide (b ≠ 0))) H
def spTimes (K : PySem.W.Frag) : Sp := fun vs H Q _ => ∃ (s t : Addr) (a b c d : Int), vs = [.ref s, .ref t] ∧ SqT K H s [.int a, .int b] ∧ SqT K H t [.int c, .int d] ∧ B 1000 a ∧ B 1000 b ∧ B 1000 c ∧ B 1000 d ∧
  ∀ (r : Addr) (H' : Hp), Same H H' → H' r = some (.tup [.int (a * c + b * d), .int (a * d + b * c + b * d)]) → Q (.ref r) H'

section
variable {P : Program} {w : World} {K : PySem.W.Frag} {mg : Str → Option Value} {base : Heap} {C : Addr}
theorem cal_is_within (T : Txt K mg C) : Cal P w K mg base "is_within" 1 spWithin := by
  refine T.d_is_within.cal (ps := ["value", "least", "most"]) (fun f fd D => ?_) (fun _ _ _ _ _ _ us hl => match us, hl with | [_, _, _], _ => rfl)
  refine D.ok sc_is_within (fun vs H Q E h => ?_) (fun cdv A outer s H vs Q E hr h => ?_)
  · obtain ⟨i, lo, hi, rfl, _⟩ := h
    rfl
  · obtain ⟨i, lo, hi, rfl, q⟩ := h
    refine ⟨_, (pss_one (ps_ret (pe_and (pe_callB call_isi (by rfl) T.b_isinstance (by decide +kernel) (pa_cons (pv 0) (pa_cons (pe_bltn (v := .ty "int") (by rfl) T.b_int (by decide +kernel) rfl) pa_nil))) (pe_and (pe_not (pe_callB call_isi (by rfl) T.b_isinstance (by decide +kernel) (pa_cons (pv 0) (pa_cons (pe_bltn (v := .ty "bool") (by rfl) T.b_bool (by decide +kernel) rfl) pa_nil)))) (pe_one (pe_chain op_le op_le (pv 1) (pv 0) (pv 2))))))), ?_⟩
    refine ⟨_, rfl, _, _, _, _, true, rfl, .ty "int", .base (.int i), kit_ty (by decide +kernel), _, rfl, iteT ?_⟩
    refine ⟨_, rfl, _, _, _, _, false, rfl, .ty "bool", .base (.int i), kit_ty (by decide +kernel), _, rfl, _, rfl, iteT ?_⟩
    refine ⟨_, rfl, _, rfl, _, _, rfl, rfl, _, rfl, ?_⟩
    by_cases h1 : lo ≤ i
    · rw [decide_eq_true h1] at *
      refine iteT ?_
      exact ⟨_, rfl, _, _, rfl, rfl, q⟩
    · rw [decide_eq_false h1] at *
      exact iteF q
theorem cal_is_integer (T : Txt K mg C) : Cal P w K mg base "is_integer" 2 spInteger := by
  refine T.d_is_integer.cal (ps := ["value"]) (fun f fd D => ?_) (fun _ _ _ _ _ _ us hl => match us, hl with | [_], _ => rfl)
  refine D.ok sc_is_integer (fun vs H Q E h => ?_) (fun cdv A outer s H vs Q E hr h => ?_)
  · obtain ⟨i, rfl, _⟩ := h
    rfl
  · obtain ⟨i, rfl, hb, q⟩ := h
    refine ⟨_, (pss_one (ps_ret (pe_cal (cal_is_within T) (hr.mono (by decide)) (by rfl) (pa_cons (pv 0) (pa_cons (pe_op op_sub pe_int (pe_op op_pow pe_int pe_int)) (pa_cons (pe_op op_sub (pe_op op_pow pe_int pe_int) pe_int) pa_nil)))))), ?_⟩
    refine ⟨_, rfl, _, _, rfl, rfl, ⟨by decide, by decide, by decide⟩, _, _, rfl, rfl, _, _, rfl, rfl, ⟨by decide, by decide, by decide⟩, _, _, rfl, rfl, _, _, _, rfl, ?_⟩
    obtain ⟨h1, h2⟩ := sm_le hb
    have e : (decide (1 - 10 ^ 60 ≤ i) && decide (i ≤ 10 ^ 60 - 1)) = true := by rw [decide_eq_true h1, decide_eq_true h2]; rfl
    show Q (.bl (decide (1 - 10 ^ 60 ≤ i) && decide (i ≤ 10 ^ 60 - 1))) H
    rw [e]
    exact q
theorem ok_init (T : Txt K mg C) {f : Addr} {fd : FuncData} (D : FunD K "__init__" "Gold.__init__" (defArgs s_init) (defBody s_init) (defScope s_init) [.int 0] [] f fd) : FnOk P w K mg base CX0 3 f fd ["self", "whole", "part"] (spInit C) := by
  refine D.ok sc_init (fun vs H Q E h => ?_) (fun cdv A outer s H vs Q E hr h => ?_)
  · obtain ⟨p, dx, a, b, rfl, _⟩ := h
    rfl
  · obtain ⟨p, dx, a, b, rfl, ha, hb, hp, q⟩ := h
    refine ⟨_, (pss_cons (ps_if (pt_not (pt_val (pe_cal (cal_is_integer T) (hr.mono (by decide)) (by rfl) (pa_cons (pv 1) pa_nil)))) (pss_one ps_never) pss_nil)
      (pss_cons (ps_if (pt_not (pt_val (pe_cal (cal_is_integer T) (hr.mono (by decide)) (by rfl) (pa_cons (pv 2) pa_nil)))) (pss_one ps_never) pss_nil)
      (pss_cons (ps_fld (pv 0) (pv 1) rfl)
      (pss_one (ps_fld (pv 0) (pv 2) rfl))))), ?_⟩
    refine ⟨_, rfl, _, rfl, ha, _, rfl, iteF ?_⟩
    refine ⟨_, rfl, _, rfl, hb, _, rfl, iteF ?_⟩
    refine ⟨_, rfl, _, rfl, p, C, dx, [], rfl, hp, T.cl, T.nW, (by decide), _, rfl, _, rfl, p, C, dx, _, rfl, upd_same, T.cl, T.nP, (show 1 < 1000 by decide), ?_⟩
    show Q .non (upd (upd H p _) p _)
    rw [upd_upd]
    exact q
def spW (C : Addr) : Sp := fun vs H Q _ => ∃ (p : Addr) (a b : Int), vs = [.ref p] ∧ GoldAt C H p a b ∧ Q (.int a) H
def spP (C : Addr) : Sp := fun vs H Q _ => ∃ (p : Addr) (a b : Int), vs = [.ref p] ∧ GoldAt C H p a b ∧ Q (.int b) H
theorem ok_whole (T : Txt K mg C) {f : Addr} {fd : FuncData} (D : Fun K "whole" "Gold.whole" s_whole f fd) : FnOk P w K mg base CX0 1 f fd ["self"] (spW C) := by
  refine D.ok sc_whole (fun vs H Q E h => ?_) (fun cdv A outer s H vs Q E hr h => ?_)
  · obtain ⟨p, a, b, rfl, _⟩ := h
    rfl
  · obtain ⟨p, a, b, rfl, ⟨dx, g⟩, q⟩ := h
    exact ⟨_, (pss_one (ps_ret (pe_fld (pv 0) rfl))), _, rfl, _, _, _, _, _, rfl, g, T.cl, T.nW, gf_w _ _, q⟩
theorem ok_part (T : Txt K mg C) {f : Addr} {fd : FuncData} (D : Fun K "part" "Gold.part" s_part f fd) : FnOk P w K mg base CX0 1 f fd ["self"] (spP C) := by
  refine D.ok sc_part (fun vs H Q E h => ?_) (fun cdv A outer s H vs Q E hr h => ?_)
  · obtain ⟨p, a, b, rfl, _⟩ := h
    rfl
  · obtain ⟨p, a, b, rfl, ⟨dx, g⟩, q⟩ := h
    exact ⟨_, (pss_one (ps_ret (pe_fld (pv 0) rfl))), _, rfl, _, _, _, _, _, rfl, g, T.cl, T.nP, gf_p _ _, q⟩
theorem ok_norm (T : Txt K mg C) {f : Addr} {fd : FuncData} (D : Fun K "norm" "Gold.norm" s_norm f fd) : FnOk P w K mg base CX0 1 f fd ["self"] (spNorm C) := by
  refine D.ok sc_norm (fun vs H Q E h => ?_) (fun cdv A outer s H vs Q E hr h => ?_)
  · obtain ⟨p, a, b, rfl, _⟩ := h
    rfl
  · obtain ⟨p, a, b, rfl, ⟨dx, g⟩, ha, hb, q⟩ := h
    exact ⟨_, (pss_one (ps_ret (pe_op op_sub (pe_op op_add (pe_op op_mulW (pe_fld (pv 0) rfl) (pe_fld (pv 0) rfl)) (pe_op op_mulW (pe_fld (pv 0) rfl) (pe_fld (pv 0) rfl))) (pe_op op_mulW (pe_fld (pv 0) rfl) (pe_fld (pv 0) rfl))))), _, rfl, _, _, _, _, _, rfl, g, T.cl, T.nW, gf_w _ _, _, rfl, _, _, _, _, _, rfl, g, T.cl, T.nW, gf_w _ _, _, _, rfl, rfl, ha.ok ha, _, rfl, _, _, _, _, _, rfl, g, T.cl, T.nW, gf_w _ _, _, rfl, _, _, _, _, _, rfl, g, T.cl, T.nP, gf_p _ _, _, _, rfl, rfl, ha.ok hb, _, _, rfl, rfl, _, rfl, _, _, _, _, _, rfl, g, T.cl, T.nP, gf_p _ _, _, rfl, _, _, _, _, _, rfl, g, T.cl, T.nP, gf_p _ _, _, _, rfl, rfl, hb.ok hb, _, _, rfl, rfl, q⟩
theorem cal_sense_of (T : Txt K mg C) : Cal P w K mg base "sense_of" 1 spSenseOf := by
  refine T.d_sense_of.cal (ps := ["whole", "part"]) (fun f fd D => ?_) (fun _ _ _ _ _ _ us hl => match us, hl with | [_, _], _ => rfl)
  refine D.ok sc_sense_of (fun vs H Q E h => ?_) (fun cdv A outer s H vs Q E hr h => ?_)
  · obtain ⟨a, b, rfl, _⟩ := h
    rfl
  · obtain ⟨a, b, rfl, ha, hb, q⟩ := h
    refine ⟨_, (pss_cons (ps_set (i := 2) sc_sense_of.nd rfl (Or.inl rfl) (pe_op op_add (pe_op op_mul pe_int (pv 0)) (pv 1)))
      (pss_cons (ps_if (PW.pt (pw_and (pt_cmpR op_eq (pv 2) pe_int (nomark _)) (pw_and1 (pt_cmpR op_eq (pv 1) pe_int (nomark _))))) (pss_one (ps_ret pe_int)) pss_nil)
      (pss_cons (ps_if (PW.pt (pw_and (pt_cmpR op_ge (pv 2) pe_int (nomark _)) (pw_and1 (pt_cmpR op_ge (pv 1) pe_int (nomark _))))) (pss_one (ps_ret pe_int)) pss_nil)
      (pss_cons (ps_if (PW.pt (pw_and (pt_cmpR op_le (pv 2) pe_int (nomark _)) (pw_and1 (pt_cmpR op_le (pv 1) pe_int (nomark _))))) (pss_one (ps_ret (pe_un un_neg pe_int))) pss_nil)
      (pss_cons (ps_set (i := 3) sc_sense_of.nd rfl (Or.inl rfl) (pe_cmpR op_gt (pe_op op_mulW (pv 2) (pv 2)) (pe_op op_mulW (pe_op op_mul pe_int (pv 1)) (pv 1)) (nomark _)))
      (pss_one (ps_ret (pe_ifExp (pt_cmpR op_eq (pv 3) (pe_cmpR op_gt (pv 2) pe_int (nomark _)) (nomark _)) pe_int (pe_un un_neg pe_int))))))))), ?_⟩
    refine ⟨_, rfl, _, _, rfl, rfl, .inl ⟨by decide, by decide⟩, _, rfl, _, _, rfl, rfl, ?_⟩
    refine ⟨_, rfl, rfl, _, rfl, ite_and (fun z => ⟨_, rfl, rfl, _, rfl, z⟩) (fun z => iteF z) (fun h1 h2 => ?_) (fun n1 => ?_)⟩
    · have e : Gd.gsI a b = 0 := by
        unfold Gd.gsI
        rw [if_pos ⟨vi_eq h1, vi_eq h2⟩]
      rw [e] at q
      exact q
    have m1 : ¬ (2 * a + b = 0 ∧ b = 0) := fun z => n1 ⟨vi_of z.1, vi_of z.2⟩
    refine ⟨_, rfl, _, _, rfl, rfl, _, rfl, ite_and (fun z => ⟨_, rfl, _, _, rfl, rfl, _, rfl, z⟩) (fun z => iteF z) (fun h1 h2 => ?_) (fun n2 => ?_)⟩
    · have e : Gd.gsI a b = 1 := by
        unfold Gd.gsI
        rw [if_neg m1, if_pos ⟨of_decide_eq_true h1, of_decide_eq_true h2⟩]
      rw [e] at q
      exact q
    have m2 : ¬ (0 ≤ 2 * a + b ∧ 0 ≤ b) := fun z => n2 ⟨decide_eq_true z.1, decide_eq_true z.2⟩
    refine ⟨_, rfl, _, _, rfl, rfl, _, rfl, ite_and (fun z => ⟨_, rfl, _, _, rfl, rfl, _, rfl, z⟩) (fun z => iteF z) (fun h1 h2 => ?_) (fun n3 => ?_)⟩
    · have e : Gd.gsI a b = -1 := by
        unfold Gd.gsI
        rw [if_neg m1, if_neg m2, if_pos ⟨of_decide_eq_true h1, of_decide_eq_true h2⟩]
      rw [e] at q
      exact ⟨_, rfl, q⟩
    have m3 : ¬ (2 * a + b ≤ 0 ∧ b ≤ 0) := fun z => n3 ⟨decide_eq_true z.1, decide_eq_true z.2⟩
    have bt : B 1003 (2 * a + b) := ((B.lit (n := 2) 2).mul ha : B 1002 (2 * a)).add (hb.mono (by decide))
    have b5 : B 1003 (5 * b) := (B.lit (n := 3) 5).mul hb
    refine ⟨_, rfl, _, rfl, _, _, rfl, rfl, bt.ok bt, _, rfl, _, _, rfl, rfl, .inl ⟨by decide, by decide⟩, _, rfl, _, _, rfl, rfl, b5.ok hb, _, _, rfl, rfl, ?_⟩
    refine ⟨_, rfl, _, rfl, _, _, rfl, rfl, rfl, _, rfl, ?_⟩
    have e : Gd.gsI a b = if (decide ((2 * a + b) * (2 * a + b) > 5 * b * b) == decide (2 * a + b > 0)) = true then 1 else -1 := by
      unfold Gd.gsI
      rw [if_neg m1, if_neg m2, if_neg m3]
    refine ite2 (fun h => ?_) (fun h => ?_)
    · rw [e, if_pos (by rw [← dec_bl]; exact h)] at q
      exact q
    · rw [e, if_neg (by rw [← dec_bl]; exact h)] at q
      exact ⟨_, rfl, q⟩
theorem ok_sense (T : Txt K mg C) {f : Addr} {fd : FuncData} (D : Fun K "sense" "Gold.sense" s_sense f fd) : FnOk P w K mg base CX0 2 f fd ["self"] (spSense C) := by
  refine D.ok sc_sense (fun vs H Q E h => ?_) (fun cdv A outer s H vs Q E hr h => ?_)
  · obtain ⟨p, a, b, rfl, _⟩ := h
    rfl
  · obtain ⟨p, a, b, rfl, ⟨dx, g⟩, ha, hb, q⟩ := h
    exact ⟨_, (pss_one (ps_ret (pe_cal (cal_sense_of T) (hr.mono (by decide)) (by rfl) (pa_cons (pe_fld (pv 0) rfl) (pa_cons (pe_fld (pv 0) rfl) pa_nil))))), _, rfl, _, _, _, _, _, rfl, g, T.cl, T.nW, gf_w _ _, _, rfl, _, _, _, _, _, rfl, g, T.cl, T.nP, gf_p _ _, _, _, rfl, ha, hb, q⟩
section
variable {X : Cx} {k : Nat} {e : Expr} {es : List Expr} {ta : TE} {t : TA} {p pos : Pos}
theorem pe_gwhole (T : Txt X.K X.mg C) (hr : Room 2 X.A) (he : PE X e ta) (hab : attributeBase e "whole" X.env (eval e X.env) = eval e X.env := by rfl) : PE X (.Attribute e "whole" pos) (tProp C (spW C) [] E0 ta) := by
  obtain ⟨_, _, _, hp, D⟩ := T.pW
  exact pe_prop he T.cl hp (ok_whole T D) hr (D.binds fun _ _ _ _ _ _ us hl => match us, hl with | [_], _ => rfl) .nil pass0 hab
theorem pe_gpart (T : Txt X.K X.mg C) (hr : Room 2 X.A) (he : PE X e ta) (hab : attributeBase e "part" X.env (eval e X.env) = eval e X.env := by rfl) : PE X (.Attribute e "part" pos) (tProp C (spP C) [] E0 ta) := by
  obtain ⟨_, _, _, hp, D⟩ := T.pP
  exact pe_prop he T.cl hp (ok_part T D) hr (D.binds fun _ _ _ _ _ _ us hl => match us, hl with | [_], _ => rfl) .nil pass0 hab
theorem pe_gnorm (T : Txt X.K X.mg C) (hr : Room 2 X.A) (he : PE X e ta) (hab : attributeBase e "norm" X.env (eval e X.env) = eval e X.env := by rfl) : PE X (.Attribute e "norm" pos) (tProp C (spNorm C) [] E0 ta) := by
  obtain ⟨_, _, _, hp, D⟩ := T.pN
  exact pe_prop he T.cl hp (ok_norm T D) hr (D.binds fun _ _ _ _ _ _ us hl => match us, hl with | [_], _ => rfl) .nil pass0 hab
theorem pe_gsense (T : Txt X.K X.mg C) (hr : Room 3 X.A) (he : PE X e ta) (hab : attributeBase e "sense" X.env (eval e X.env) = eval e X.env := by rfl) : PE X (.Attribute e "sense" pos) (tProp C (spSense C) [] E0 ta) := by
  obtain ⟨_, _, _, hp, D⟩ := T.pS
  exact pe_prop he T.cl hp (ok_sense T D) hr (D.binds fun _ _ _ _ _ _ us hl => match us, hl with | [_], _ => rfl) .nil pass0 hab
/-- what a property's reading asks -/
theorem u_w {H : Hp} {Q : VK} {r : Addr} {a b : Int} (g : GoldAt C H r a b) (q : Q (.int a) H) : ∃ x dx fs, V.ref r = V.ref x ∧ H x = some (.ins C dx fs) ∧ spW C [.ref x] H Q E0 := g.elim fun dx h => ⟨r, dx, _, rfl, h, r, a, b, rfl, g, q⟩
theorem u_p {H : Hp} {Q : VK} {r : Addr} {a b : Int} (g : GoldAt C H r a b) (q : Q (.int b) H) : ∃ x dx fs, V.ref r = V.ref x ∧ H x = some (.ins C dx fs) ∧ spP C [.ref x] H Q E0 := g.elim fun dx h => ⟨r, dx, _, rfl, h, r, a, b, rfl, g, q⟩
theorem u_n {H : Hp} {Q : VK} {r : Addr} {a b : Int} (g : GoldAt C H r a b) (ha : B 1000 a) (hb : B 1000 b) (q : Q (.int (a * a + a * b - b * b)) H) : ∃ x dx fs, V.ref r = V.ref x ∧ H x = some (.ins C dx fs) ∧ spNorm C [.ref x] H Q E0 := g.elim fun dx h => ⟨r, dx, _, rfl, h, r, a, b, rfl, g, ha, hb, q⟩
theorem u_s {H : Hp} {Q : VK} {r : Addr} {a b : Int} (g : GoldAt C H r a b) (ha : B 1000 a) (hb : B 1000 b) (q : Q (.int (Gd.gsI a b)) H) : ∃ x dx fs, V.ref r = V.ref x ∧ H x = some (.ins C dx fs) ∧ spSense C [.ref x] H Q E0 := g.elim fun dx h => ⟨r, dx, _, rfl, h, r, a, b, rfl, g, ha, hb, q⟩
/-- Gold(..) -/
def tGold (C : Addr) (t : TA) : TE := fun σ H Q => t σ H fun vs H1 => ∃ a b, (vs = [.int a, .int b] ∨ (vs = [.int a] ∧ b = 0)) ∧ B 199 a ∧ B 199 b ∧ NewG C H1 Q a b
theorem pe_gold (T : Txt X.K X.mg C) (hr : Room 4 X.A) (hg : Gl X "Gold") (ha : PA X (e :: es) t)
    (he : starEach (e :: es) X.env = (false, eval e X.env) :: starEach es X.env := by rfl) (hpl : (backTo pos (starEach es X.env)).any (·.1) = false := by rfl) : PE X (.Call (.Name "Gold" p) (e :: es) [] pos) (tGold C t) := by
  obtain ⟨f, fd, M, D⟩ := T.mkG
  have b2 : ∃ ds, Vals (([.int 0] : List V).drop 1) ds ∧ Binds X.K fd ["self", "whole", "part"] ds := by
    refine D.binds1 3 1 (by simp) rfl fun T kV doc pm an cdv ct us its hl hi => ?_
    match us, hl, its, hi with
    | [_, _, _], _, [_], _ => exact ⟨_, rfl, rfl⟩
  have b1 : ∃ ds, Vals (([.int 0] : List V).drop 0) ds ∧ Binds X.K fd ["self", "whole", "part"] ds := by
    refine D.binds1 2 0 (by simp) rfl fun T kV doc pm an cdv ct us its hl hi => ?_
    match us, hl, its, hi with
    | [_, _], _, [_], _ => exact ⟨_, rfl, rfl⟩
  obtain ⟨d2, v2, b2⟩ := b2
  obtain ⟨d1, v1, b1⟩ := b1
  refine ⟨fun pins s σ H Q I h => ?_⟩
  refine wpAny_Call_Name_kw (ld_glob I hg T.mgGold ?_ (by decide))
  refine PySem.W.callWith_K (h₀ := X.base) I.ok.mod.kin M.kp (thn (ha.run pos pins s σ H _ I h) fun us s1 ⟨vs, H1, I1, r, a, b, hvs, ha, hb, q⟩ => ⟨I1.kIn, ?_⟩) he hpl
  have fin : ∀ x dx, H1 x = none → H1 dx = none → dx ≠ x → spInit C [.ref x, .int a, .int b] (upd (upd H1 dx (.own x)) x (.ins C dx [])) (fun v H2 => v = .non ∧ Q (.ref x) H2) E0 := fun x dx nx ndx ne => by
    refine ⟨x, dx, a, b, rfl, ha, hb, upd_same, rfl, ?_⟩
    rw [upd_upd]
    refine q x _ (fun c o e => ?_) nx ⟨dx, upd_same⟩
    rw [upd_ne (ne_of_none e nx), upd_ne (ne_of_none e ndx)]
    exact e
  rcases hvs with rfl | ⟨rfl, rfl⟩
  · exact run_make M (ok_init T D) hr b2 v2 pass0 I1 r fin
  · exact run_make M (ok_init T D) hr b1 v1 pass0 I1 r fin
end
theorem cal_gold_of (T : Txt K mg C) : Cal P w K mg base "gold_of" 5 (spOf C) := by
  refine T.d_gold_of.cal (ps := ["whole", "part"]) (fun f fd D => ?_) (fun _ _ _ _ _ _ us hl => match us, hl with | [_, _], _ => rfl)
  refine D.ok sc_gold_of (fun vs H Q E h => ?_) (fun cdv A outer s H vs Q E hr h => ?_)
  · obtain ⟨a, b, rfl, _⟩ := h
    rfl
  · obtain ⟨a, b, rfl, q⟩ := h
    refine ⟨_, (pss_cons (ps_set (i := 2) sc_gold_of.nd rfl (Or.inl rfl) (pe_gold T (hr.mono (by decide)) (by rfl) (pa_cons pe_int pa_nil)))
      (pss_cons (ps_fld (pv 2) (pv 0) rfl)
      (pss_cons (ps_fld (pv 2) (pv 1) rfl)
      (pss_one (ps_ret (pv 2)))))), ?_⟩
    refine ⟨0, 0, .inr ⟨rfl, rfl⟩, B.lit 0, B.lit 0, fun r H1 s1 nr ⟨dx, g⟩ => ?_⟩
    refine ⟨_, rfl, _, rfl, r, C, dx, _, rfl, g, T.cl, T.nW, (by rw [gf_len]; decide), ?_⟩
    rw [gf_setw]
    refine ⟨_, rfl, _, rfl, r, C, dx, _, rfl, upd_same, T.cl, T.nP, (by rw [gf_len]; decide), ?_⟩
    rw [gf_setp, upd_upd]
    refine ⟨_, rfl, q r _ (fun c o e => ?_) nr ⟨dx, upd_same⟩⟩
    rw [upd_ne (ne_of_none e nr)]
    exact s1 _ _ e
theorem cal_times (T : Txt K mg C) : Cal P w K mg base "times" 1 (spTimes K) := by
  refine T.d_times.cal (ps := ["one", "other"]) (fun f fd D => ?_) (fun _ _ _ _ _ _ us hl => match us, hl with | [_, _], _ => rfl)
  refine D.ok sc_times (fun vs H Q E h => ?_) (fun cdv A outer s H vs Q E hr h => ?_)
  · obtain ⟨s, t, a, b, c, d, rfl, _⟩ := h
    rfl
  · obtain ⟨s1, t1, a, b, c, d, rfl, hs, ht, ha, hb, hc, hd, q⟩ := h
    refine ⟨_, (pss_cons (ps_asg (pv 0) (pg_tup (by rfl) (pgs_cons (pg_name (i := 2) sc_times.nd rfl (Or.inl rfl)) (pgs_cons (pg_name (i := 3) sc_times.nd rfl (Or.inl rfl)) pgs_nil))))
      (pss_cons (ps_asg (pv 1) (pg_tup (by rfl) (pgs_cons (pg_name (i := 4) sc_times.nd rfl (Or.inl rfl)) (pgs_cons (pg_name (i := 5) sc_times.nd rfl (Or.inl rfl)) pgs_nil))))
      (pss_one (ps_ret (pe_tup (pa_cons (pe_op op_add (pe_op op_mulW (pv 2) (pv 4)) (pe_op op_mulW (pv 3) (pv 5))) (pa_cons (pe_op op_add (pe_op op_add (pe_op op_mulW (pv 2) (pv 5)) (pe_op op_mulW (pv 3) (pv 4))) (pe_op op_mulW (pv 3) (pv 5))) pa_nil))))))), ?_⟩
    refine ⟨_, rfl, _, _, rfl, hs, rfl, _, _, rfl, _, _, rfl, rfl, ?_⟩
    refine ⟨_, rfl, _, _, rfl, ht, rfl, _, _, rfl, _, _, rfl, rfl, ?_⟩
    refine ⟨_, rfl, _, rfl, _, _, rfl, rfl, ha.ok hc, _, rfl, _, rfl, _, _, rfl, rfl, hb.ok hd, _, _, rfl, rfl, ?_⟩
    refine ⟨_, rfl, _, rfl, _, _, rfl, rfl, ha.ok hd, _, rfl, _, rfl, _, _, rfl, rfl, hb.ok hc, _, _, rfl, rfl, _, rfl, _, rfl, _, _, rfl, rfl, hb.ok hd, _, _, rfl, rfl, ?_⟩
    exact ⟨show 2 ≤ sizeLine by decide, fun r nr => q r _ (fun c o e => by rw [upd_ne (ne_of_none e nr)]; exact e) upd_same⟩
end
end Gk

namespace Gk
open PySem L2 Ow
section
variable {P : Program} {w : World} {K : PySem.W.Frag} {mg : Str → Option Value} {base : Heap} {C : Addr}
theorem ok_add (T : Txt K mg C) {f : Addr} {fd : FuncData} (D : Fun K "__add__" "Gold.__add__" s_add f fd) : FnOk P w K mg base CX0 6 f fd ["self", "other"] (spAdd C) := by
  refine D.ok sc_add (fun vs H Q E h => ?_) (fun cdv A outer s H vs Q E hr h => ?_)
  · obtain ⟨p, q, a, b, c, d, rfl, _⟩ := h
    rfl
  · obtain ⟨p, q, a, b, c, d, rfl, g1, g2, k⟩ := h
    obtain ⟨dx, g⟩ := id g1
    refine ⟨_, (pss_cons (ps_if (pt_not (pt_val (pe_callB call_isi (by rfl) T.b_isinstance (by decide +kernel) (pa_cons (pv 1) (pa_cons (pe_glob (v := .ref C) (by rfl) T.mgGold rfl) pa_nil))))) (pss_one ps_never) pss_nil)
      (pss_one (ps_ret (pe_cal (cal_gold_of T) (hr.mono (by decide)) (by rfl) (pa_cons (pe_op op_add (pe_fld (pv 0) rfl) (pe_gwhole T (hr.mono (by decide)) (pv 1))) (pa_cons (pe_op op_add (pe_fld (pv 0) rfl) (pe_gpart T (hr.mono (by decide)) (pv 1))) pa_nil)))))), ?_⟩
    obtain ⟨dz, h2⟩ := id g2
    refine ⟨_, rfl, _, _, _, _, true, rfl, .own C, .base (.ins h2 T.cl T.ic.ha T.ic.hn T.ic.htk T.ic.hm), T.ic.me, _, rfl, iteF ?_⟩
    refine ⟨_, rfl, _, _, _, _, _, rfl, g, T.cl, T.nW, gf_w _ _, _, rfl, u_w g2 ⟨_, _, rfl, rfl, _, rfl, _, _, _, _, _, rfl, g, T.cl, T.nP, gf_p _ _, _, rfl, u_p g2 ⟨_, _, rfl, rfl, _, _, rfl, k⟩⟩⟩
theorem ok_sub (T : Txt K mg C) {f : Addr} {fd : FuncData} (D : Fun K "__sub__" "Gold.__sub__" s_sub f fd) : FnOk P w K mg base CX0 6 f fd ["self", "other"] (spSub C) := by
  refine D.ok sc_sub (fun vs H Q E h => ?_) (fun cdv A outer s H vs Q E hr h => ?_)
  · obtain ⟨p, q, a, b, c, d, rfl, _⟩ := h
    rfl
  · obtain ⟨p, q, a, b, c, d, rfl, g1, g2, k⟩ := h
    obtain ⟨dx, g⟩ := id g1
    refine ⟨_, (pss_cons (ps_if (pt_not (pt_val (pe_callB call_isi (by rfl) T.b_isinstance (by decide +kernel) (pa_cons (pv 1) (pa_cons (pe_glob (v := .ref C) (by rfl) T.mgGold rfl) pa_nil))))) (pss_one ps_never) pss_nil)
      (pss_one (ps_ret (pe_cal (cal_gold_of T) (hr.mono (by decide)) (by rfl) (pa_cons (pe_op op_sub (pe_fld (pv 0) rfl) (pe_gwhole T (hr.mono (by decide)) (pv 1))) (pa_cons (pe_op op_sub (pe_fld (pv 0) rfl) (pe_gpart T (hr.mono (by decide)) (pv 1))) pa_nil)))))), ?_⟩
    obtain ⟨dz, h2⟩ := id g2
    refine ⟨_, rfl, _, _, _, _, true, rfl, .own C, .base (.ins h2 T.cl T.ic.ha T.ic.hn T.ic.htk T.ic.hm), T.ic.me, _, rfl, iteF ?_⟩
    refine ⟨_, rfl, _, _, _, _, _, rfl, g, T.cl, T.nW, gf_w _ _, _, rfl, u_w g2 ⟨_, _, rfl, rfl, _, rfl, _, _, _, _, _, rfl, g, T.cl, T.nP, gf_p _ _, _, rfl, u_p g2 ⟨_, _, rfl, rfl, _, _, rfl, k⟩⟩⟩
theorem ok_neg (T : Txt K mg C) {f : Addr} {fd : FuncData} (D : Fun K "__neg__" "Gold.__neg__" s_neg f fd) : FnOk P w K mg base CX0 6 f fd ["self"] (spNeg C) := by
  refine D.ok sc_neg (fun vs H Q E h => ?_) (fun cdv A outer s H vs Q E hr h => ?_)
  · obtain ⟨p, a, b, rfl, _⟩ := h
    rfl
  · obtain ⟨p, a, b, rfl, ⟨dx, g⟩, k⟩ := h
    refine ⟨_, (pss_one (ps_ret (pe_cal (cal_gold_of T) (hr.mono (by decide)) (by rfl) (pa_cons (pe_un un_neg (pe_fld (pv 0) rfl)) (pa_cons (pe_un un_neg (pe_fld (pv 0) rfl)) pa_nil))))), ?_⟩
    refine ⟨_, rfl, _, _, _, _, _, rfl, g, T.cl, T.nW, gf_w _ _, _, rfl, _, rfl, _, _, _, _, _, rfl, g, T.cl, T.nP, gf_p _ _, _, rfl, _, _, rfl, k⟩
theorem ok_mul (T : Txt K mg C) {f : Addr} {fd : FuncData} (D : Fun K "__mul__" "Gold.__mul__" s_mul f fd) : FnOk P w K mg base CX0 6 f fd ["self", "other"] (spMul C) := by
  refine D.ok sc_mul (fun vs H Q E h => ?_) (fun cdv A outer s H vs Q E hr h => ?_)
  · obtain ⟨p, q, a, b, c, d, rfl, _⟩ := h
    rfl
  · obtain ⟨p, q, a, b, c, d, rfl, g1, g2, ha, hb, hc, hd, k⟩ := h
    obtain ⟨dx, g⟩ := id g1
    refine ⟨_, (pss_cons (ps_if (pt_not (pt_val (pe_callB call_isi (by rfl) T.b_isinstance (by decide +kernel) (pa_cons (pv 1) (pa_cons (pe_glob (v := .ref C) (by rfl) T.mgGold rfl) pa_nil))))) (pss_one ps_never) pss_nil)
      (pss_cons (ps_asg (pe_cal (cal_times T) (hr.mono (by decide)) (by rfl) (pa_cons (pe_tup (pa_cons (pe_fld (pv 0) rfl) (pa_cons (pe_fld (pv 0) rfl) pa_nil))) (pa_cons (pe_tup (pa_cons (pe_gwhole T (hr.mono (by decide)) (pv 1)) (pa_cons (pe_gpart T (hr.mono (by decide)) (pv 1)) pa_nil))) pa_nil))) (pg_tup (by rfl) (pgs_cons (pg_name (i := 2) sc_mul.nd rfl (Or.inl rfl)) (pgs_cons (pg_name (i := 3) sc_mul.nd rfl (Or.inl rfl)) pgs_nil))))
      (pss_one (ps_ret (pe_cal (cal_gold_of T) (hr.mono (by decide)) (by rfl) (pa_cons (pv 2) (pa_cons (pv 3) pa_nil))))))), ?_⟩
    obtain ⟨dz, h2⟩ := id g2
    refine ⟨_, rfl, _, _, _, _, true, rfl, .own C, .base (.ins h2 T.cl T.ic.ha T.ic.hn T.ic.htk T.ic.hm), T.ic.me, _, rfl, iteF ?_⟩
    refine ⟨_, rfl, _, _, _, _, _, rfl, g, T.cl, T.nW, gf_w _ _, _, rfl, _, _, _, _, _, rfl, g, T.cl, T.nP, gf_p _ _, show 2 ≤ sizeLine by decide, fun t1 n1 => ?_⟩
    have s1 : Same H (upd H t1 (.tup [.int a, .int b])) := fun c o e => by rw [upd_ne (ne_of_none e n1)]; exact e
    refine ⟨_, rfl, u_w (g2.same s1) ⟨_, rfl, u_p (g2.same s1) ⟨show 2 ≤ sizeLine by decide, fun t2 n2 => ?_⟩⟩⟩
    have s2 : Same (upd H t1 (.tup [.int a, .int b])) (upd (upd H t1 (.tup [.int a, .int b])) t2 (.tup [.int c, .int d])) := fun c o e => by rw [upd_ne (ne_of_none e n2)]; exact e
    refine ⟨t1, t2, a, b, c, d, rfl, .of (s2 _ _ upd_same), .of upd_same, ha, hb, hc, hd, fun r H3 s3 ht => ?_⟩
    refine ⟨_, _, rfl, .of ht, rfl, _, _, rfl, _, _, rfl, rfl, ?_⟩
    exact ⟨_, rfl, _, rfl, _, _, rfl, fun z H4 s4 nz gz => k z H4 (s1.trans (s2.trans (s3.trans s4))) ((s1.trans (s2.trans s3)).free nz) gz⟩
theorem ok_eq (T : Txt K mg C) {f : Addr} {fd : FuncData} (D : Fun K "__eq__" "Gold.__eq__" s_eq f fd) : FnOk P w K mg base CX0 1 f fd ["self", "other"] (spEq C) := by
  refine D.ok sc_eq (fun vs H Q E h => ?_) (fun cdv A outer s H vs Q E hr h => ?_)
  · obtain ⟨p, q, a, b, c, d, rfl, _⟩ := h
    rfl
  · obtain ⟨p, q, a, b, c, d, rfl, g1, g2, k⟩ := h
    obtain ⟨dx, g⟩ := id g1
    obtain ⟨dy, g'⟩ := id g2
    refine ⟨_, (pss_one (ps_ret (pe_and (pe_callB call_isi (by rfl) T.b_isinstance (by decide +kernel) (pa_cons (pv 1) (pa_cons (pe_glob (v := .ref C) (by rfl) T.mgGold rfl) pa_nil))) (pe_and (pe_cmpR op_eq (pe_fld (pv 0) rfl) (pe_fld (pv 1) rfl) (nomark _)) (pe_one (pe_cmpR op_eq (pe_fld (pv 0) rfl) (pe_fld (pv 1) rfl) (nomark _))))))), ?_⟩
    refine ⟨_, rfl, _, _, _, _, true, rfl, .own C, .base (.ins g' T.cl T.ic.ha T.ic.hn T.ic.htk T.ic.hm), T.ic.me, _, rfl, iteT ?_⟩
    refine ⟨_, rfl, _, _, _, _, _, rfl, g, T.cl, T.nW, gf_w _ _, _, rfl, _, _, _, _, _, rfl, g', T.cl, T.nW, gf_w _ _, rfl, _, rfl, ?_⟩
    rw [show decide (a = c) = decide (V.int a = V.int c) from decide_eq_decide.mpr ⟨fun h => by rw [h], V.int.inj⟩] at k
    refine ite2 (fun h => ?_) (fun h => ?_)
    · rw [h, Bool.true_and] at k
      refine ⟨_, rfl, _, _, _, _, _, rfl, g, T.cl, T.nP, gf_p _ _, _, rfl, _, _, _, _, _, rfl, g', T.cl, T.nP, gf_p _ _, rfl, ?_⟩
      rw [show decide (b = d) = decide (V.int b = V.int d) from decide_eq_decide.mpr ⟨fun h => by rw [h], V.int.inj⟩] at k
      exact k
    · rw [Bool.eq_false_iff.mpr h] at k
      exact k
theorem ok_bool (T : Txt K mg C) {f : Addr} {fd : FuncData} (D : Fun K "__bool__" "Gold.__bool__" s_bool f fd) : FnOk P w K mg base CX0 1 f fd ["self"] (spBool C) := by
  refine D.ok sc_bool (fun vs H Q E h => ?_) (fun cdv A outer s H vs Q E hr h => ?_)
  · obtain ⟨p, a, b, rfl, _⟩ := h
    rfl
  · obtain ⟨p, a, b, rfl, ⟨dx, g⟩, k⟩ := h
    refine ⟨_, (pss_one (ps_ret (pe_callTy call_bool1 (by rfl) T.b_bool (by decide +kernel) (pa_cons (pe_orT (pe_fld (pv 0) rfl) (pe_one (pe_fld (pv 0) rfl))) pa_nil)))), ?_⟩
    refine ⟨_, rfl, _, _, _, _, _, rfl, g, T.cl, T.nW, gf_w _ _, (a != 0), rfl, ite2 (fun h => ?_) (fun h => ?_)⟩
    · refine .inl ⟨_, rfl, ?_⟩
      have h' : a ≠ 0 := by simpa using h
      rw [decide_eq_true h', Bool.true_or] at k
      rw [h]
      exact k
    · refine ⟨_, rfl, _, _, _, _, _, rfl, g, T.cl, T.nP, gf_p _ _, .inl ⟨_, rfl, ?_⟩⟩
      have h' : ¬ a ≠ 0 := by simpa using h
      rw [decide_eq_false h', Bool.false_or] at k
      have e : (b != 0) = decide (b ≠ 0) := by by_cases z : b = 0 <;> simp [z]
      rw [e]
      exact k
theorem ok_less (T : Txt K mg C) {f : Addr} {fd : FuncData} (D : Fun K "is_less" "Gold.is_less" s_is_less f fd) : FnOk P w K mg base CX0 3 f fd ["self", "other"] (spLess C) := by
  refine D.ok sc_is_less (fun vs H Q E h => ?_) (fun cdv A outer s H vs Q E hr h => ?_)
  · obtain ⟨p, q, a, b, c, d, rfl, _⟩ := h
    rfl
  · obtain ⟨p, q, a, b, c, d, rfl, g1, g2, ha, hb, hc, hd, k⟩ := h
    obtain ⟨dx, g⟩ := id g1
    refine ⟨_, (pss_cons (ps_if (pt_not (pt_val (pe_callB call_isi (by rfl) T.b_isinstance (by decide +kernel) (pa_cons (pv 1) (pa_cons (pe_glob (v := .ref C) (by rfl) T.mgGold rfl) pa_nil))))) (pss_one ps_never) pss_nil)
      (pss_one (ps_ret (pe_cmpR op_gt (pe_cal (cal_sense_of T) (hr.mono (by decide)) (by rfl) (pa_cons (pe_op op_sub (pe_gwhole T (hr.mono (by decide)) (pv 1)) (pe_fld (pv 0) rfl)) (pa_cons (pe_op op_sub (pe_gpart T (hr.mono (by decide)) (pv 1)) (pe_fld (pv 0) rfl)) pa_nil))) pe_int (nomark _))))), ?_⟩
    obtain ⟨dz, h2⟩ := id g2
    refine ⟨_, rfl, _, _, _, _, true, rfl, .own C, .base (.ins h2 T.cl T.ic.ha T.ic.hn T.ic.htk T.ic.hm), T.ic.me, _, rfl, iteF ?_⟩
    exact ⟨_, rfl, u_w g2 ⟨_, rfl, _, _, _, _, _, rfl, g, T.cl, T.nW, gf_w _ _, _, _, rfl, rfl, _, rfl, u_p g2 ⟨_, rfl, _, _, _, _, _, rfl, g, T.cl, T.nP, gf_p _ _, _, _, rfl, rfl, _, _, rfl, (hc.sub ha).mono (by decide), (hd.sub hb).mono (by decide), _, _, rfl, rfl, k⟩⟩⟩
section
variable {X : Cx} {e : Expr} {es : List Expr} {ta : TE} {t : TA} {apos pos : Pos}
theorem op_gAdd (T : Txt X.K X.mg C) (hr : Room 6 X.A) : OpR X (binaryOp .Add) (rBin C (spAdd C) E0) := by
  obtain ⟨_, _, D, m⟩ := T.mAdd
  exact op_bin T.oc m (ok_add T D) hr (D.binds fun _ _ _ _ _ _ us hl => match us, hl with | [_, _], _ => rfl) pass0
theorem op_gSub (T : Txt X.K X.mg C) (hr : Room 6 X.A) : OpR X (binaryOp .Sub) (rBin C (spSub C) E0) := by
  obtain ⟨_, _, D, m⟩ := T.mSub
  exact op_bin T.oc m (ok_sub T D) hr (D.binds fun _ _ _ _ _ _ us hl => match us, hl with | [_, _], _ => rfl) pass0
theorem op_gMult (T : Txt X.K X.mg C) (hr : Room 6 X.A) : OpR X (binaryOp .Mult) (rBin C (spMul C) E0) := by
  obtain ⟨_, _, D, m⟩ := T.mMul
  exact op_bin T.oc m (ok_mul T D) hr (D.binds fun _ _ _ _ _ _ us hl => match us, hl with | [_, _], _ => rfl) pass0
theorem un_gNeg (T : Txt X.K X.mg C) (hr : Room 6 X.A) : UnR X (unaryOp .USub) (rNegO C (spNeg C) E0) := by
  obtain ⟨_, _, D, m⟩ := T.mNeg
  exact un_negO m (ok_neg T D) hr (D.binds fun _ _ _ _ _ _ us hl => match us, hl with | [_], _ => rfl) pass0
theorem op_gEq (T : Txt X.K X.mg C) (hr : Room 1 X.A) : OpR X (compareOp .Eq) (rBin C (spEq C) E0) := by
  obtain ⟨_, _, D, m⟩ := T.mEq
  exact op_eqO T.oc m (ok_eq T D) hr (D.binds fun _ _ _ _ _ _ us hl => match us, hl with | [_, _], _ => rfl) pass0
theorem op_gNotEq (T : Txt X.K X.mg C) (hr : Room 2 X.A) : OpR X (compareOp .NotEq) (rBinN C (spEq C) E0) := by
  obtain ⟨_, _, D, m⟩ := T.mEq
  exact op_neO T.oc m (ok_eq T D) hr (D.binds fun _ _ _ _ _ _ us hl => match us, hl with | [_, _], _ => rfl) pass0
theorem call_gBool (T : Txt X.K X.mg C) (hr : Room 3 X.A) : CallR X (.type "bool") (rBoolO C (spBool C) E0) := by
  obtain ⟨_, _, D, m⟩ := T.mBool
  exact call_boolO m (ok_bool T D) hr (D.binds fun _ _ _ _ _ _ us hl => match us, hl with | [_], _ => rfl) pass0
theorem pe_less {pl : Sem Bool} {o : Expr} (T : Txt X.K X.mg C) (hr : Room 3 X.A) (he : PE X o ta) (ha : PA X (e :: es) t)
    (hst : starEach (e :: es) X.env = (false, eval e X.env) :: starEach es X.env := by rfl) (hpl : (backTo pos (starEach es X.env)).any (·.1) = false := by rfl)
    (ht : eval (.Call (.Attribute o "is_less" apos) (e :: es) [] pos) X.env = (do
      let ov ← eval o X.env
      standAt apos.atName
      let (f, first) ← holding [ov] (getMethod ov "is_less" pl)
      callWith pos f first (backTo pos (starEach (e :: es) X.env)) (backToKw pos (keywordEach [] X.env))) := by rfl) :
    PE X (.Call (.Attribute o "is_less" apos) (e :: es) [] pos) (tMeth C "is_less" (spLess C) [] E0 ta t) := by
  obtain ⟨_, _, D, m⟩ := T.mLess
  exact pe_meth he T.cl ⟨m.at_, m.fn, D.kp⟩ (ok_less T D) hr (D.binds fun _ _ _ _ _ _ us hl => match us, hl with | [_, _], _ => rfl) .nil pass0 ha hst hpl ht
end
/-! what their readings ask -/
section
variable {H : Hp} {Q : VK} {p q : Addr} {a b c d : Int}
theorem u_add (g : GoldAt C H p a b) (g' : GoldAt C H q c d) (k : NewG C H Q (a + c) (b + d)) : ∃ x y dx fs dy gs, V.ref p = V.ref x ∧ V.ref q = V.ref y ∧ H x = some (.ins C dx fs) ∧ H y = some (.ins C dy gs) ∧ spAdd C [.ref x, .ref y] H Q E0 :=
  g.elim fun dx h => g'.elim fun dy h' => ⟨p, q, dx, _, dy, _, rfl, rfl, h, h', p, q, a, b, c, d, rfl, g, g', k⟩
theorem u_sub (g : GoldAt C H p a b) (g' : GoldAt C H q c d) (k : NewG C H Q (a - c) (b - d)) : ∃ x y dx fs dy gs, V.ref p = V.ref x ∧ V.ref q = V.ref y ∧ H x = some (.ins C dx fs) ∧ H y = some (.ins C dy gs) ∧ spSub C [.ref x, .ref y] H Q E0 :=
  g.elim fun dx h => g'.elim fun dy h' => ⟨p, q, dx, _, dy, _, rfl, rfl, h, h', p, q, a, b, c, d, rfl, g, g', k⟩
theorem u_mul (g : GoldAt C H p a b) (g' : GoldAt C H q c d) (ha : B 1000 a) (hb : B 1000 b) (hc : B 1000 c) (hd : B 1000 d) (k : NewG C H Q (a * c + b * d) (a * d + b * c + b * d)) : ∃ x y dx fs dy gs, V.ref p = V.ref x ∧ V.ref q = V.ref y ∧ H x = some (.ins C dx fs) ∧ H y = some (.ins C dy gs) ∧ spMul C [.ref x, .ref y] H Q E0 :=
  g.elim fun dx h => g'.elim fun dy h' => ⟨p, q, dx, _, dy, _, rfl, rfl, h, h', p, q, a, b, c, d, rfl, g, g', ha, hb, hc, hd, k⟩
theorem u_neg (g : GoldAt C H p a b) (k : NewG C H Q (-a) (-b)) : ∃ x dx fs, V.ref p = V.ref x ∧ H x = some (.ins C dx fs) ∧ spNeg C [.ref x] H Q E0 := g.elim fun dx h => ⟨p, dx, _, rfl, h, p, a, b, rfl, g, k⟩
theorem u_eq (g : GoldAt C H p a b) (g' : GoldAt C H q c d) (k : Q (.bl (decide (a = c) && decide (b = d))) H) : ∃ x y dx fs dy gs, V.ref p = V.ref x ∧ V.ref q = V.ref y ∧ H x = some (.ins C dx fs) ∧ H y = some (.ins C dy gs) ∧ spEq C [.ref x, .ref y] H Q E0 :=
  g.elim fun dx h => g'.elim fun dy h' => ⟨p, q, dx, _, dy, _, rfl, rfl, h, h', p, q, a, b, c, d, rfl, g, g', k⟩
theorem u_ne (g : GoldAt C H p a b) (g' : GoldAt C H q c d) (k : Q (.bl (!(decide (a = c) && decide (b = d)))) H) : ∃ x y dx fs dy gs, V.ref p = V.ref x ∧ V.ref q = V.ref y ∧ H x = some (.ins C dx fs) ∧ H y = some (.ins C dy gs) ∧ spEq C [.ref x, .ref y] H (fun z H' => ∃ k, z = .bl k ∧ Q (.bl (!k)) H') E0 :=
  g.elim fun dx h => g'.elim fun dy h' => ⟨p, q, dx, _, dy, _, rfl, rfl, h, h', p, q, a, b, c, d, rfl, g, g', _, rfl, k⟩
theorem u_bool (g : GoldAt C H p a b) (k : Q (.bl (decide (a ≠ 0) || decide (b ≠ 0))) H) : ∃ x dx fs, ([V.ref p] : List V) = [V.ref x] ∧ H x = some (.ins C dx fs) ∧ spBool C [.ref x] H (fun z H' => ∃ k, z = .bl k ∧ Q (.bl k) H') E0 :=
  g.elim fun dx h => ⟨p, dx, _, rfl, h, p, a, b, rfl, g, _, rfl, k⟩
theorem u_less (g : GoldAt C H p a b) (g' : GoldAt C H q c d) (ha : B 990 a) (hb : B 990 b) (hc : B 990 c) (hd : B 990 d) (k : Q (.bl (decide (0 < Gd.gsI (c - a) (d - b)))) H) :
    ∃ (x y : Addr) (a b c d : Int), ([V.ref p, V.ref q] : List V) = [.ref x, .ref y] ∧ GoldAt C H x a b ∧ GoldAt C H y c d ∧ B 990 a ∧ B 990 b ∧ B 990 c ∧ B 990 d ∧ Q (.bl (decide (0 < Gd.gsI (c - a) (d - b)))) H := ⟨p, q, a, b, c, d, rfl, g, g', ha, hb, hc, hd, k⟩
theorem no_less (g : GoldAt C H p a b) : ∃ dx fs, H p = some (.ins C dx fs) ∧ fs.lookup ("is_less" : Str) = none := g.elim fun dx h => ⟨dx, _, h, gf_no _ _ (by decide +kernel) (by decide +kernel)⟩
end
end
end Gk

namespace Gk
open PySem L2 Ow
/-- the draws' list -/
def BasAt (H : Hp) (p : Addr) : Prop := ∃ b0 b1 b2 : Int, H p = some (.lst [.int b0, .int b1, .int b2])
/-- all but p as it was -/
def But (p : Addr) (H H' : Hp) : Prop := ∀ q o, q ≠ p → H q = some o → H' q = some o
theorem But.refl {p : Addr} {H : Hp} : But p H H := fun _ _ _ h => h
theorem But.trans {p : Addr} {H H1 H2 : Hp} (a : But p H H1) (b : But p H1 H2) : But p H H2 := fun q o n h => b q o n (a q o n h)
theorem But.of_same {p : Addr} {H H1 : Hp} (a : Same H H1) : But p H H1 := fun q o _ h => a q o h
theorem But.seqT {K : PySem.W.Frag} {p t : Addr} {H H1 : Hp} {xs : List V} (a : But p H H1) (h : H t = some (.tup xs)) (n : t ≠ p) : H1 t = some (.tup xs) := a t _ n h
theorem fm {i n : Int} (h : 0 < n) : 0 ≤ i.fmod n ∧ i.fmod n < n := by
  rw [Int.fmod_eq_emod_of_nonneg i (Int.le_of_lt h)]
  exact ⟨Int.emod_nonneg i (by omega), Int.emod_lt_of_pos i h⟩
theorem em {i n : Int} (h : 0 < n) : 0 ≤ i % n ∧ i % n < n := ⟨Int.emod_nonneg i (by omega), Int.emod_lt_of_pos i h⟩
/-- the int at a slot -/
def mi (i : Nat) (σ : L2.St) : Int := match σ[i]? with
  | some (some (V.int f)) => f
  | _ => 0
/-- promises -/
def spBasin (K : PySem.W.Frag) : Sp := fun vs H Q _ => ∃ (sa : Addr) (at_ : Int) (ns : List Int), vs = [.ref sa, .int at_] ∧ SqL K H sa (ns.map V.int) ∧ 0 ≤ at_ ∧
  ∀ (p : Addr) (H' : Hp), Same H H' → H p = none → BasAt H' p → Q (.ref p) H'
def spScoop : Sp := fun vs H Q _ => ∃ (p : Addr) (n : Int), vs = [.ref p, .int n] ∧ 0 < n ∧ B 8000 n ∧ BasAt H p ∧ ∀ (r : Int) (H' : Hp), 0 ≤ r → r < n → But p H H' → BasAt H' p → Q (.int r) H'
def spOneOf : Sp := fun vs H Q _ => ∃ (p l : Addr) (xs : List V), vs = [.ref p, .ref l] ∧ BasAt H p ∧ H l = some (.lst xs) ∧ l ≠ p ∧ 0 < xs.length ∧ xs.length ≤ 1000 ∧
  ∀ (v : V) (H' : Hp), v ∈ xs → But p H H' → BasAt H' p → Q v H'
def spNumber : Sp := fun vs H Q _ => ∃ p : Addr, vs = [.ref p] ∧ BasAt H p ∧ ∀ (z : Int) (H' : Hp), B 197 z → But p H H' → BasAt H' p → Q (.int z) H'
def spRoot : Sp := fun vs H Q _ => ∃ n : Int, vs = [.int n] ∧ 0 ≤ n ∧ B 2000 n ∧ ∀ r : Int, 0 ≤ r → r * r ≤ n → n < (r + 1) * (r + 1) → Q (.int r) H
def spGoldSense : Sp := fun vs H Q _ => ∃ a b : Int, vs = [.int a, .int b] ∧ B 700 a ∧ B 700 b ∧ Q (.int (Gd.gsI a b)) H
def spNear : Sp := fun vs H Q _ => ∃ (p t : Addr) (x y : Int), vs = [.ref p, .ref t] ∧ BasAt H p ∧ H t = some (.tup [.int x, .int y]) ∧ B 197 x ∧ B 197 y ∧
  ∀ (q : Addr) (H' : Hp) (u v : Int), B 198 u → B 198 v → But p H H' → BasAt H' p → H' q = some (.tup [.int u, .int v]) → Q (.ref q) H'
def spProduct : Sp := fun vs H Q _ => ∃ (s t : Addr) (a b c d : Int), vs = [.ref s, .ref t] ∧ H s = some (.tup [.int a, .int b]) ∧ H t = some (.tup [.int c, .int d]) ∧ B 1000 a ∧ B 1000 b ∧ B 1000 c ∧ B 1000 d ∧
  ∀ (r : Addr) (H' : Hp), Same H H' → H' r = some (.tup [.int (a * c + b * d), .int (a * d + b * c + b * d)]) → Q (.ref r) H'
def spPair (C : Addr) : Sp := fun vs H Q _ => ∃ (p t : Addr) (a b : Int), vs = [.ref p, .ref t] ∧ GoldAt C H p a b ∧ H t = some (.tup [.int a, .int b]) ∧ ∀ H' : Hp, Same H H' → Q (.bl true) H'
section
variable {P : Program} {w : World} {K : PySem.W.Frag} {mg : Str → Option Value} {base : Heap} {C : Addr}
theorem cal_scoop (T : Txt K mg C) : Cal P w K mg base "_law_scoop" 1 spScoop := by
  refine T.d_scoop.cal (ps := ["_law_basin_here", "_law_total"]) (fun f fd D => ?_) (fun _ _ _ _ _ _ us hl => match us, hl with | [_, _], _ => rfl)
  refine D.ok sc_scoop (fun vs H Q E h => ?_) (fun cdv A outer s H vs Q E hr h => ?_)
  · obtain ⟨p, n, rfl, _⟩ := h
    rfl
  · obtain ⟨p, n, rfl, hn, bn, ⟨b0, b1, b2, hp⟩, k⟩ := h
    refine ⟨_, (pss_cons (ps_if (pt_cmpR op_gt (pe_ix ix_list (pv 0) pe_int (fun _ _ => rfl)) pe_int (nomark _)) (pss_cons (ps_set (i := 2) sc_scoop.nd rfl (Or.inl rfl) (pe_op op_modN (pe_callTy call_int1 (by rfl) T.b_int (by decide +kernel) (pa_cons (pe_ix ix_list (pv 0) pe_int (fun _ _ => rfl)) pa_nil)) (pv 1)))
      (pss_cons (ps_asg (pe_op op_fdivW (pe_ix ix_list (pv 0) pe_int (fun _ _ => rfl)) (pv 1)) (pg_sub (pv 0) pe_int set_list))
      (pss_one (ps_ret (pv 2))))) pss_nil)
      (pss_cons (ps_asg (pe_op op_add (pe_ix ix_list (pv 0) pe_int (fun _ _ => rfl)) pe_int) (pg_sub (pv 0) pe_int set_list))
      (pss_cons (ps_set (i := 3) sc_scoop.nd rfl (Or.inl rfl) (pe_op op_mod (pe_callTy call_int1 (by rfl) T.b_int (by decide +kernel) (pa_cons (pe_op op_add (pe_ix ix_list (pv 0) pe_int (fun _ _ => rfl)) (pe_op op_mul pe_int (pe_ix ix_list (pv 0) pe_int (fun _ _ => rfl)))) pa_nil)) pe_int))
      (pss_cons (ps_set (i := 4) sc_scoop.nd rfl (Or.inl rfl) (pe_op op_add (pe_op op_mulW (pe_op op_mod (pe_callTy call_int1 (by rfl) T.b_int (by decide +kernel) (pa_cons (pe_op op_mulW (pv 3) (pv 3)) pa_nil)) pe_int) (pv 3)) (pe_op op_mul pe_int (pe_ix ix_list (pv 0) pe_int (fun _ _ => rfl)))))
      (pss_one (ps_ret (pe_op op_modN (pe_callTy call_int1 (by rfl) T.b_int (by decide +kernel) (pa_cons (pe_op op_fdiv (pe_op op_mod (pe_callTy call_int1 (by rfl) T.b_int (by decide +kernel) (pa_cons (pv 4) pa_nil)) pe_int) pe_int) pa_nil)) (pv 1)))))))), ?_⟩
    refine ⟨_, rfl, _, _, _, _, rfl, rfl, .of hp, rfl, _, _, rfl, rfl, _, rfl, ite2 (fun hpos => ?_) (fun _ => ?_)⟩
    · refine ⟨_, rfl, _, _, _, _, rfl, rfl, .of hp, rfl, .inl ⟨_, rfl, _, rfl, _, _, rfl, rfl, (by omega), ?_⟩⟩
      refine ⟨_, rfl, _, _, _, _, rfl, rfl, .of hp, rfl, _, rfl, _, _, rfl, rfl, wide_div hn bn (by decide) (by decide), _, rfl, _, _, _, _, rfl, rfl, hp, rfl, ?_⟩
      refine ⟨_, rfl, k _ _ (fm hn).1 (fm hn).2 (fun q o hq e => ?_) ⟨_, _, _, upd_same⟩⟩
      rw [upd_ne hq]
      exact e
    · refine ⟨_, rfl, _, _, _, _, rfl, rfl, .of hp, rfl, _, _, rfl, rfl, _, rfl, _, _, _, _, rfl, rfl, hp, rfl, ?_⟩
      have hq : upd H p (.lst [.int b0, .int b1, .int (b2 + 1)]) p = some (.lst [.int b0, .int b1, .int (b2 + 1)]) := upd_same
      refine ⟨_, rfl, _, _, _, _, rfl, rfl, .of hq, rfl, _, rfl, _, _, _, _, rfl, rfl, .of hq, rfl, _, _, rfl, rfl, .inl ⟨by decide, by decide⟩, _, _, rfl, rfl, .inl ⟨_, rfl, _, _, rfl, rfl, show (0 : Int) < 2305843009213693951 by decide, ?_⟩⟩
      have b61 : ∀ i m : Int, 0 < m → m ≤ 2305843009213693951 → B 61 (i % m) := fun i m h0 h1 => by
        have := em (i := i) h0
        show (i % m).natAbs < 2 ^ 61
        omega
      have bo := b61 (b1 + 1000171 * (b2 + 1)) 2305843009213693951 (by decide) (by decide)
      refine ⟨_, rfl, _, rfl, _, _, rfl, rfl, bo.ok bo, .inl ⟨_, rfl, _, _, rfl, rfl, show (0 : Int) < 2305843009213693907 by decide, ?_⟩⟩
      refine ⟨_, rfl, _, _, rfl, rfl, (b61 _ _ (by decide) (by decide)).ok bo, _, rfl, _, _, _, _, rfl, rfl, .of hq, rfl, _, _, rfl, rfl, .inl ⟨by decide, by decide⟩, _, _, rfl, rfl, ?_⟩
      refine ⟨_, rfl, .inl ⟨_, rfl, _, _, rfl, rfl, show (0 : Int) < 2305843009213693921 by decide, _, _, rfl, rfl, ⟨by decide, by decide⟩, .inl ⟨_, rfl, _, rfl, _, _, rfl, rfl, (by omega), ?_⟩⟩⟩
      refine k _ _ (fm hn).1 (fm hn).2 (fun q o hq e => ?_) ⟨_, _, _, upd_same⟩
      rw [upd_ne hq]
      exact e
theorem cal_one_of (T : Txt K mg C) : Cal P w K mg base "_law_one_of" 2 spOneOf := by
  refine T.d_one_of.cal (ps := ["_law_basin_here", "_law_items"]) (fun f fd D => ?_) (fun _ _ _ _ _ _ us hl => match us, hl with | [_, _], _ => rfl)
  refine D.ok sc_one_of (fun vs H Q E h => ?_) (fun cdv A outer s H vs Q E hr h => ?_)
  · obtain ⟨p, l, xs, rfl, _⟩ := h
    rfl
  · obtain ⟨p, l, xs, rfl, hb, hl, ne, h0, h1, k⟩ := h
    refine ⟨_, (pss_one (ps_ret (pe_ix ix_list (pv 1) (pe_cal (cal_scoop T) (hr.mono (by decide)) (by rfl) (pa_cons (pv 0) (pa_cons (pe_callB call_len_seq (by rfl) T.b_len (by decide +kernel) (pa_cons (pv 1) pa_nil)) pa_nil))) (fun _ _ => rfl)))), ?_⟩
    refine ⟨_, rfl, _, rfl, _, rfl, _, _, rfl, .inl (.of hl), p, _, rfl, by omega, ?_, hb, fun r H1 r0 r1 same b1 => ?_⟩
    · show ((xs.length : Int)).natAbs < 2 ^ 8000
      exact Nat.lt_of_le_of_lt (show ((xs.length : Int)).natAbs ≤ 1000 by omega) (by decide)
    · have hi : r.toNat < xs.length := by omega
      refine ⟨_, _, _, _, rfl, rfl, .of (same _ _ ne hl), at_of (j := r.toNat) (by omega) (List.getElem?_eq_getElem hi), k _ _ (List.getElem_mem hi) same b1⟩
theorem cal_number (T : Txt K mg C) : Cal P w K mg base "_law_number" 3 spNumber := by
  refine T.d_number.cal (ps := ["_law_basin_here"]) (fun f fd D => ?_) (fun _ _ _ _ _ _ us hl => match us, hl with | [_], _ => rfl)
  refine D.ok sc_number (fun vs H Q E h => ?_) (fun cdv A outer s H vs Q E hr h => ?_)
  · obtain ⟨p, rfl, _⟩ := h
    rfl
  · obtain ⟨p, rfl, hb, k⟩ := h
    refine ⟨_, (pss_cons (ps_set (i := 1) sc_number.nd rfl (Or.inl rfl) (pe_cal (cal_one_of T) (hr.mono (by decide)) (by rfl) (pa_cons (pv 0) (pa_cons (pe_lst (pa_cons pe_int (pa_cons pe_int (pa_cons pe_int (pa_cons pe_int (pa_cons (pe_op op_pow pe_int pe_int) (pa_cons (pe_op op_pow pe_int pe_int) pa_nil))))))) pa_nil))))
      (pss_one (ps_ret (pe_op op_sub (pe_cal (cal_scoop T) (hr.mono (by decide)) (by rfl) (pa_cons (pv 0) (pa_cons (pe_op op_add (pe_op op_mul pe_int (pv 1)) pe_int) pa_nil))) (pv 1))))), ?_⟩
    refine ⟨_, rfl, _, _, rfl, rfl, ⟨by decide, by decide, by decide⟩, _, _, rfl, rfl, ⟨by decide, by decide, by decide⟩, show 6 ≤ sizeLine by decide, fun l nl => ?_⟩
    obtain ⟨b0, b1, b2, hp⟩ := id hb
    have ne : l ≠ p := fun q => by rw [q, hp] at nl; cases nl
    refine ⟨p, l, _, rfl, ⟨_, _, _, (upd_ne ne.symm).trans hp⟩, upd_same, ne, (by show 0 < 6; decide), (by show 6 ≤ 1000; decide), fun v H1 hv same bb => ?_⟩
    have hm : ∃ m : Int, v = .int m ∧ 1 ≤ m ∧ m ≤ 10 ^ 59 := by
      simp only [List.mem_cons, List.not_mem_nil, or_false] at hv
      rcases hv with rfl | rfl | rfl | rfl | rfl | rfl
      all_goals exact ⟨_, rfl, by decide, by decide⟩
    obtain ⟨m, rfl, m1, m2⟩ := hm
    refine ⟨_, rfl, _, rfl, _, _, rfl, rfl, .inl ⟨by decide, by decide⟩, _, _, rfl, rfl, p, _, rfl, by omega, ?_, bb, fun r H2 r0 r1 same2 bb2 => ?_⟩
    · show (2 * m + 1).natAbs < 2 ^ 8000
      exact Nat.lt_of_le_of_lt (show (2 * m + 1).natAbs ≤ 2 * 10 ^ 59 + 1 by omega) (by decide)
    · refine ⟨_, rfl, _, _, rfl, rfl, k _ _ ?_ (fun q o hq e => same2 q o hq (same q o hq ?_)) bb2⟩
      · show (r - m).natAbs < 2 ^ 197
        have : (10 : Nat) ^ 59 < 2 ^ 197 := by decide
        omega
      · rw [upd_ne (ne_of_none e nl)]
        exact e
theorem cal_basin (T : Txt K mg C) : Cal P w K mg base "_law_basin" 1 (spBasin K) := by
  refine T.d_basin.cal (ps := ["_law_script", "_law_at"]) (fun f fd D => ?_) (fun _ _ _ _ _ _ us hl => match us, hl with | [_, _], _ => rfl)
  refine D.ok sc_basin (fun vs H Q E h => ?_) (fun cdv A outer s H vs Q E hr h => ?_)
  · obtain ⟨p, n, ns, rfl, _⟩ := h
    rfl
  · obtain ⟨sa, z, ns, rfl, hs, hz, k⟩ := h
    refine ⟨_, (pss_cons (ps_set (i := 2) sc_basin.nd rfl (Or.inl rfl) (pe_ifExp (pt_cmpR op_lt (pv 1) (pe_callB call_len_seq (by rfl) T.b_len (by decide +kernel) (pa_cons (pv 0) pa_nil)) (nomark _)) (pe_callTy call_int1 (by rfl) T.b_int (by decide +kernel) (pa_cons (pe_ix ix_list (pv 0) (pv 1) (fun _ _ => rfl)) pa_nil)) (pe_op op_add (pe_op op_mul pe_int (pv 1)) pe_int)))
      (pss_cons (ps_set (i := 3) sc_basin.nd rfl (Or.inl rfl) (pe_op op_modN (pe_callTy call_int1 (by rfl) T.b_int (by decide +kernel) (pa_cons (pe_callB call_abs (by rfl) T.b_abs (by decide +kernel) (pa_cons (pv 2) pa_nil)) pa_nil)) (pe_op op_powW (pe_op op_pow pe_int pe_int) pe_int)))
      (pss_cons (ps_set (i := 4) sc_basin.nd rfl (Or.inl rfl) (pe_op op_add (pe_op op_add (pe_op op_add (pe_op op_mul (pe_op op_mod (pe_callTy call_int1 (by rfl) T.b_int (by decide +kernel) (pa_cons (pv 3) pa_nil)) pe_int) pe_int) (pe_op op_mul pe_int (pv 1))) (pe_op op_mul pe_int (pe_callTy call_int1 (by rfl) T.b_int (by decide +kernel) (pa_cons (pe_cmpR op_lt (pv 2) pe_int (nomark _)) pa_nil)))) pe_int))
      (pss_one (ps_ret (pe_lst (pa_cons (pe_callB (call_max2 rfl) (by rfl) T.b_max (by decide +kernel) (pa_cons pe_int (pa_cons (pe_op op_add (pe_op op_sub (pv 3) (pe_op op_pow pe_int pe_int)) pe_int) pa_nil))) (pa_cons (pe_op op_mod (pe_callTy call_int1 (by rfl) T.b_int (by decide +kernel) (pa_cons (pv 4) pa_nil)) pe_int) (pa_cons pe_int pa_nil))))))))), ?_⟩
    have hP : CPowW ((10 : Int) ^ (57 : Int).toNat) 8 := ⟨by decide, by decide +kernel⟩
    have hQ : ((10 : Int) ^ (57 : Int).toNat) ^ (8 : Int).toNat ≠ 0 := by decide +kernel
    refine ⟨_, rfl, _, rfl, _, _, rfl, .inl hs, _, _, rfl, rfl, _, rfl, ite2 (fun h => ?_) (fun h => ?_)⟩
    · have hlt : z < ((ns.map V.int).length : Int) := of_decide_eq_true h
      rw [List.length_map] at hlt
      have hi : z.toNat < ns.length := by omega
      have hget : atI (ns.map V.int) z = some (.int ns[z.toNat]) := at_of (j := z.toNat) (by omega) (by rw [List.getElem?_map, List.getElem?_eq_getElem hi]; rfl)
      refine ⟨_, rfl, _, rfl, _, _, _, _, rfl, rfl, hs, hget, .inl ⟨_, rfl, ?_⟩⟩
      refine ⟨_, rfl, _, rfl, .inl ⟨_, rfl, _, _, rfl, rfl, ⟨by decide, by decide, by decide⟩, _, _, rfl, rfl, hP, _, _, rfl, rfl, hQ, ?_⟩⟩
      refine ⟨_, rfl, .inl ⟨_, rfl, _, _, rfl, rfl, show (0 : Int) < 1152921504606846869 by decide, _, _, rfl, rfl, .inr ⟨by decide, by decide⟩, _, rfl, _, _, rfl, rfl, .inl ⟨by decide, by decide⟩, _, _, rfl, rfl, _, rfl, _, _, rfl, rfl, .inr ⟨_, rfl, _, _, rfl, rfl, .inl ⟨by decide, by decide⟩, _, _, rfl, rfl, _, _, rfl, rfl, ?_⟩⟩⟩
      refine ⟨_, rfl, _, _, rfl, rfl, ⟨by decide, by decide, by decide⟩, _, _, rfl, rfl, _, _, rfl, rfl, _, _, rfl, _, rfl, .inl ⟨_, rfl, _, _, rfl, rfl, show (0 : Int) < 2305843009213693951 by decide, show 3 ≤ sizeLine by decide, fun p np => ?_⟩⟩
      exact k p _ (fun q o e => by rw [upd_ne (ne_of_none e np)]; exact e) np ⟨_, _, _, upd_same⟩
    · refine ⟨_, rfl, _, _, rfl, rfl, .inl ⟨by decide, by decide⟩, _, _, rfl, rfl, ?_⟩
      refine ⟨_, rfl, _, rfl, .inl ⟨_, rfl, _, _, rfl, rfl, ⟨by decide, by decide, by decide⟩, _, _, rfl, rfl, hP, _, _, rfl, rfl, hQ, ?_⟩⟩
      refine ⟨_, rfl, .inl ⟨_, rfl, _, _, rfl, rfl, show (0 : Int) < 1152921504606846869 by decide, _, _, rfl, rfl, .inr ⟨by decide, by decide⟩, _, rfl, _, _, rfl, rfl, .inl ⟨by decide, by decide⟩, _, _, rfl, rfl, _, rfl, _, _, rfl, rfl, .inr ⟨_, rfl, _, _, rfl, rfl, .inl ⟨by decide, by decide⟩, _, _, rfl, rfl, _, _, rfl, rfl, ?_⟩⟩⟩
      refine ⟨_, rfl, _, _, rfl, rfl, ⟨by decide, by decide, by decide⟩, _, _, rfl, rfl, _, _, rfl, rfl, _, _, rfl, _, rfl, .inl ⟨_, rfl, _, _, rfl, rfl, show (0 : Int) < 2305843009213693951 by decide, show 3 ≤ sizeLine by decide, fun p np => ?_⟩⟩
      exact k p _ (fun q o e => by rw [upd_ne (ne_of_none e np)]; exact e) np ⟨_, _, _, upd_same⟩
/-- the walk to the root -/
theorem cal_root_below (T : Txt K mg C) : Cal P w K mg base "_law_root_below" 1 spRoot := by
  refine T.d_root_below.cal (ps := ["_law_number_here"]) (fun f fd D => ?_) (fun _ _ _ _ _ _ us hl => match us, hl with | [_], _ => rfl)
  refine D.ok sc_root_below (fun vs H Q E h => ?_) (fun cdv A outer s H vs Q E hr h => ?_)
  · obtain ⟨n, rfl, _⟩ := h
    rfl
  · obtain ⟨n, rfl, h0, hb, k⟩ := h
    refine ⟨_, (pss_cons (ps_if (pt_cmpR op_eq (pv 0) pe_int (nomark _)) (pss_one (ps_ret pe_int)) pss_nil)
      (pss_cons (ps_set (i := 1) sc_root_below.nd rfl (Or.inl rfl) pe_int)
      (pss_cons (ps_while PassesOwn.never (pt_cmpR op_le (pe_op op_mulW (pv 1) (pv 1)) (pv 0) (nomark _)) (pss_one (ps_set (i := 1) sc_root_below.nd rfl (Or.inl rfl) (pe_op op_mul (pv 1) pe_int))))
      (pss_cons (ps_set (i := 2) sc_root_below.nd rfl (Or.inl rfl) (pv 1))
      (pss_cons (ps_set (i := 1) sc_root_below.nd rfl (Or.inl rfl) pe_int)
      (pss_cons (ps_while PassesOwn.never (pt_cmpR op_gt (pv 2) pe_int (nomark _)) (pss_cons (ps_if (pt_cmpR op_le (pe_op op_mulW (pe_op op_add (pv 1) (pv 2)) (pe_op op_add (pv 1) (pv 2))) (pv 0) (nomark _)) (pss_one (ps_set (i := 1) sc_root_below.nd rfl (Or.inl rfl) (pe_op op_add (pv 1) (pv 2)))) pss_nil)
      (pss_one (ps_set (i := 2) sc_root_below.nd rfl (Or.inl rfl) (pe_op op_fdiv (pv 2) pe_int)))))
      (pss_one (ps_ret (pv 1))))))))), ?_⟩
    refine ⟨_, rfl, rfl, _, rfl, ite2 (fun h => ?_) (fun h => ?_)⟩
    · have e := vi_eq h
      subst e
      exact k 0 (by decide) (by decide) (by decide)
    have hn : 0 < n := by
      have : n ≠ 0 := fun q => h (vi_of q)
      omega
    -- found = 1; while found * found <= n: found = found * 2
    refine while_by (fun σ H' => H' = H ∧ ∃ (f : Int) (j : Nat), σ = [some (.int n), some (.int f), none] ∧ f = 2 ^ j ∧ f ≤ 2 * n) (fun σ _ => (n + 1 - mi 1 σ).toNat)
      ⟨rfl, 1, 0, rfl, rfl, by omega⟩ ?_ (fun σ H Q Q' hq ⟨v, hv, v', hv', i, j, e1, e2, c, w, hw, i2, j2, e3, e4, k, e5, h⟩ => ⟨v, hv, v', hv', i, j, e1, e2, c, w, hw, i2, j2, e3, e4, k, e5, hq _ _ h⟩)
    rintro σ H' ⟨rfl, f, j, rfl, hf, hle⟩
    have fpos : 0 < f := by rw [hf]; exact Int.pow_pos (by decide)
    have bf : B 2002 f := by
      have : f.natAbs ≤ 2 * n.natAbs := by omega
      have h2 : n.natAbs < 2 ^ 2000 := hb
      have e : (2 : Nat) ^ 2002 = 2 ^ 2000 * 4 := Nat.pow_add 2 2000 2
      show f.natAbs < 2 ^ 2002
      omega
    refine ⟨_, rfl, _, rfl, _, _, rfl, rfl, bf.ok bf, _, rfl, _, _, rfl, rfl, _, rfl, ite2 (fun hl => ?_) (fun hl => ?_)⟩
    · have hl' : f * f ≤ n := of_decide_eq_true hl
      have hff : f ≤ f * f := by
        have := Int.mul_le_mul_of_nonneg_left (show 1 ≤ f by omega) (show 0 ≤ f by omega)
        omega
      refine ⟨_, rfl, _, _, rfl, rfl, .inr ⟨by decide, by decide⟩, ⟨rfl, f * 2, j + 1, rfl, by rw [hf, Int.pow_succ], by omega⟩, ?_⟩
      show (n + 1 - f * 2).toNat < (n + 1 - f).toNat
      omega
    · have hl' : n < f * f := by
        have : ¬ f * f ≤ n := fun z => hl (decide_eq_true z)
        omega
      refine ⟨_, rfl, ?_⟩
      -- step = found; found = 0; while step > 0
      refine while_by (fun σ H2 => H2 = H' ∧ ∃ (r t : Int), σ = [some (.int n), some (.int r), some (.int t)] ∧ 0 ≤ r ∧ r * r ≤ n ∧ 0 ≤ t ∧ t ≤ 2 * n ∧ ((∃ j : Nat, t = 2 ^ j ∧ n < (r + 2 * t) * (r + 2 * t)) ∨ (t = 0 ∧ n < (r + 1) * (r + 1))))
        (fun σ _ => (mi 2 σ).toNat)
        ⟨rfl, 0, f, rfl, by omega, by omega, by omega, hle, .inl ⟨j, hf, ?_⟩⟩ ?_ (fun σ H Q Q' hq ⟨v, hv, i2, j2, e3, e4, k, e5, h⟩ => ⟨v, hv, i2, j2, e3, e4, k, e5, hq _ _ h⟩)
      · have := Int.mul_le_mul (show f ≤ 0 + 2 * f by omega) (show f ≤ 0 + 2 * f by omega) (by omega) (by omega)
        omega
      rintro σ H2 ⟨rfl, r, t, rfl, r0, r1, t0, t1, hj⟩
      refine ⟨_, rfl, _, _, rfl, rfl, _, rfl, ite2 (fun hp => ?_) (fun hp => ?_)⟩
      · have hp' : 0 < t := of_decide_eq_true hp
        obtain ⟨j, hj, hn2⟩ : ∃ j : Nat, t = 2 ^ j ∧ n < (r + 2 * t) * (r + 2 * t) := by
          rcases hj with z | ⟨z, _⟩
          · exact z
          · omega
        have hrn : r ≤ n := by
          have := Int.mul_le_mul_of_nonneg_left (show 0 ≤ r by omega) (show 0 ≤ r by omega)
          by_cases z : r = 0
          · omega
          · have := Int.mul_le_mul_of_nonneg_left (show 1 ≤ r by omega) (show 0 ≤ r by omega)
            omega
        have bs : B 2002 (r + t) := by
          have : (r + t).natAbs ≤ 3 * n.natAbs := by omega
          have h2 : n.natAbs < 2 ^ 2000 := hb
          have e : (2 : Nat) ^ 2002 = 2 ^ 2000 * 4 := Nat.pow_add 2 2000 2
          show (r + t).natAbs < 2 ^ 2002
          omega
        -- what the halving leaves
        have hhalf : ∀ r' : Int, n < (r' + t) * (r' + t) → ((∃ j : Nat, t / 2 = 2 ^ j ∧ n < (r' + 2 * (t / 2)) * (r' + 2 * (t / 2))) ∨ (t / 2 = 0 ∧ n < (r' + 1) * (r' + 1))) := fun r' h => by
          cases j with
          | zero =>
            have : t = 1 := hj
            subst this
            exact .inr ⟨by decide, h⟩
          | succ j =>
            have e : t = 2 * 2 ^ j := by rw [hj, Int.pow_succ, Int.mul_comm]
            have e2 : t / 2 = 2 ^ j := by omega
            refine .inl ⟨j, e2, ?_⟩
            rw [show 2 * (t / 2) = t by omega]
            exact h
        refine ⟨_, rfl, _, rfl, _, _, rfl, rfl, _, rfl, _, rfl, _, _, rfl, rfl, _, _, rfl, rfl, bs.ok bs, _, rfl, _, _, rfl, rfl, _, rfl, ite2 (fun hc => ?_) (fun hc => ?_)⟩
        · refine ⟨_, rfl, _, rfl, _, _, rfl, rfl, _, rfl, _, _, rfl, rfl, ⟨by decide, by decide⟩, ⟨rfl, r + t, t / 2, rfl, by omega, of_decide_eq_true hc, by omega, by omega, hhalf _ ?_⟩, ?_⟩
          · rw [show r + t + t = r + 2 * t by omega]
            exact hn2
          · show (t / 2).toNat < t.toNat
            omega
        · refine ⟨_, rfl, _, _, rfl, rfl, ⟨by decide, by decide⟩, ⟨rfl, r, t / 2, rfl, r0, r1, by omega, by omega, hhalf _ ?_⟩, ?_⟩
          · have : ¬ (r + t) * (r + t) ≤ n := fun z => hc (decide_eq_true z)
            omega
          · show (t / 2).toNat < t.toNat
            omega
      · have hp' : ¬ 0 < t := fun z => hp (decide_eq_true z)
        refine ⟨_, rfl, k r r0 r1 ?_⟩
        rcases hj with ⟨j, z, _⟩ | ⟨_, z⟩
        · have : 0 < (2 : Int) ^ j := Int.pow_pos (by decide)
          omega
        · exact z
theorem cal_gold_sense (T : Txt K mg C) : Cal P w K mg base "_law_gold_sense" 2 spGoldSense := by
  refine T.d_gold_sense.cal (ps := ["_law_whole", "_law_part"]) (fun f fd D => ?_) (fun _ _ _ _ _ _ us hl => match us, hl with | [_, _], _ => rfl)
  refine D.ok sc_gold_sense (fun vs H Q E h => ?_) (fun cdv A outer s H vs Q E hr h => ?_)
  · obtain ⟨a, b, rfl, _⟩ := h
    rfl
  · obtain ⟨a, b, rfl, ha, hb, k⟩ := h
    rw [Gd.gsI_eq] at k
    refine ⟨_, (pss_cons (ps_par (i := 2) (j := 3) rfl sc_gold_sense.nd rfl rfl (by decide) rfl rfl (pa_cons (pe_op op_add (pe_op op_mul pe_int (pv 0)) (pv 1)) (pa_cons (pe_cal (cal_root_below T) (hr.mono (by decide)) (by rfl) (pa_cons (pe_op op_mulW (pe_op op_mul pe_int (pv 1)) (pv 1)) pa_nil)) pa_nil)) rfl)
      (pss_cons (ps_if (pt_cmpR op_eq (pv 1) pe_int (nomark _)) (pss_one (ps_ret (pe_op op_sub (pe_callTy call_int1 (by rfl) T.b_int (by decide +kernel) (pa_cons (pe_cmpR op_gt (pv 0) pe_int (nomark _)) pa_nil)) (pe_callTy call_int1 (by rfl) T.b_int (by decide +kernel) (pa_cons (pe_cmpR op_lt (pv 0) pe_int (nomark _)) pa_nil))))) pss_nil)
      (pss_cons (ps_if (pt_cmpR op_gt (pv 1) pe_int (nomark _)) (pss_one (ps_ret (pe_ifExp (pt_cmpR op_ge (pv 2) (pe_op op_sub pe_int (pv 3)) (nomark _)) pe_int (pe_un un_neg pe_int)))) pss_nil)
      (pss_one (ps_ret (pe_ifExp (pt_cmpR op_gt (pv 2) (pv 3) (nomark _)) pe_int (pe_un un_neg pe_int))))))), ?_⟩
    have b5 : B 703 (5 * b) := (B.lit (n := 3) 5).mul hb
    refine ⟨_, rfl, _, _, rfl, rfl, .inl ⟨by decide, by decide⟩, _, rfl, _, _, rfl, rfl, _, rfl, _, _, rfl, rfl, .inl ⟨by decide, by decide⟩, _, rfl, _, _, rfl, rfl, b5.ok hb, _, rfl, ?_, (b5.mul hb).mono (by decide), fun r r0 r1 r2 => ?_⟩
    · show 0 ≤ 5 * b * b
      rw [Int.mul_assoc]
      have := Gd.sq_nonneg b
      omega
    refine ⟨_, _, rfl, ?_⟩
    refine ⟨_, rfl, rfl, _, rfl, ite2 (fun h => ?_) (fun h => ?_)⟩
    · have e := vi_eq h
      subst e
      refine ⟨_, rfl, _, _, rfl, rfl, .inr ⟨_, rfl, _, rfl, _, _, rfl, rfl, .inr ⟨_, rfl, _, _, rfl, rfl, ?_⟩⟩⟩
      rw [Gd.gs_part0] at k
      simp only [decide_eq_true_eq]
      exact k
    have hb0 : b ≠ 0 := fun z => h (vi_of z)
    refine ⟨_, rfl, _, _, rfl, rfl, _, rfl, ite2 (fun h1 => ?_) (fun h1 => ?_)⟩
    · rw [Gd.gs_root_pos (of_decide_eq_true h1) r0 r1 r2] at k
      refine ⟨_, rfl, _, rfl, _, _, rfl, rfl, _, _, rfl, rfl, _, rfl, ite2 (fun h2 => ?_) (fun h2 => ?_)⟩
      · rw [if_pos (of_decide_eq_true h2)] at k
        exact k
      · rw [if_neg (fun z => h2 (decide_eq_true z))] at k
        exact ⟨_, rfl, k⟩
    · have hb1 : ¬ 0 < b := fun z => h1 (decide_eq_true z)
      rw [Gd.gs_root_neg (by omega) r0 r1 r2] at k
      refine ⟨_, rfl, _, rfl, _, _, rfl, rfl, _, rfl, ite2 (fun h2 => ?_) (fun h2 => ?_)⟩
      · rw [if_pos (of_decide_eq_true h2)] at k
        exact k
      · rw [if_neg (fun z => h2 (decide_eq_true z))] at k
        exact ⟨_, rfl, k⟩
end
end Gk

namespace Ow
open PySem PySem.Spec PyProof.Rows L2
/-- xs.count(k), bools -/
def cntE (k : Bool) : Value → Bool
  | .bool b => b == k
  | _ => false
def rCntB (K : PySem.W.Frag) : V → List V → Hp → VK → Prop := fun x xs H Q => ∃ (p : Addr) (bs : List Bool) (k : Bool), x = .ref p ∧ xs = [.bl k] ∧ SqL K H p (bs.map V.bl) ∧ Q (.int (bs.count k : Nat)) H
theorem cntE_all (k : Bool) : ∀ {bs : List Bool} {its : List Value}, Vals (bs.map V.bl) its → (∀ y, y ∈ its → ∃ b, y = .bool b) ∧ its.countP (cntE k) = bs.count k
  | [], _, .nil => ⟨fun _ h => by simp at h, rfl⟩
  | b :: bs, _, .cons (b := u) r rs => by
    obtain ⟨h1, h2⟩ := cntE_all k (bs := bs) rs
    have e : u = Value.bool b := r
    subst e
    refine ⟨fun y hy => ?_, ?_⟩
    · rcases List.mem_cons.mp hy with e | hy
      · exact ⟨b, e⟩
      · exact h1 y hy
    · rw [List.countP_cons, List.count_cons, h2]
      rfl
theorem mt_cntB {X : Cx} : MtR X "list.count" (rCntB X.K) := by
  intro pins s σ H x xs v us Q I rx rxs h
  obtain ⟨p, bs, k, rfl, rfl, hs, q⟩ := h
  cases rx
  obtain ⟨u, rfl, ru⟩ := rxs.one
  cases ru
  obtain ⟨its, rv, ⟨⟨cls, dd, data, sl⟩, n, ho, hc, hdn, hd⟩, hlen⟩ := I.list hs
  simp only at hc hd
  subst hc hd
  obtain ⟨h1, h2⟩ := cntE_all k rv
  refine call_meets PySem.F.slot_list_count ⟨_, ho, rfl⟩ PySem.F.entry_list_count (PySem.F.args_list_count_2 _ _) (SeqAt.list_countAt p its.toArray n dd sl (.bool k) (cntE k)) ⟨ho, fun y hy => ?_, ?_⟩
  · obtain ⟨b, rfl⟩ := h1 y (by simpa using hy)
    exact eqAt_V (y := .bl b) (x := .bl k) rfl rfl rfl rfl
  · refine ⟨.int (bs.count k : Nat), H, I.tok _, ⟨s.toks, ?_⟩, q⟩
    show Value.int ((its.toArray.toList.countP (cntE k) : Nat) : Int) s.toks = Value.int ((bs.count k : Nat) : Int) s.toks
    rw [show its.toArray.toList = its from rfl, h2]
end Ow
namespace Gk
open PySem L2 Ow
/-- three drawn pairs, right -/
def spRight : Sp := fun vs H Q _ => ∃ (p q r : Addr) (a b c d e f : Int), vs = [.ref p, .ref q, .ref r] ∧ H p = some (.tup [.int a, .int b]) ∧ H q = some (.tup [.int c, .int d]) ∧ H r = some (.tup [.int e, .int f]) ∧
  B 198 a ∧ B 198 b ∧ B 198 c ∧ B 198 d ∧ B 198 e ∧ B 198 f ∧ ∀ H' : Hp, Same H H' → Q (.bl true) H'
theorem same_new {H : Hp} {p : Addr} {o : HO} (n : H p = none) : Same H (upd H p o) := fun q u e => by rw [upd_ne (ne_of_none e n)]; exact e
section
variable {P : Program} {w : World} {K : PySem.W.Frag} {mg : Str → Option Value} {base : Heap} {C : Addr}
theorem cal_near_gold (T : Txt K mg C) : Cal P w K mg base "_law_near_gold" 3 spNear := by
  refine T.d_near_gold.cal (ps := ["_law_basin_here", "_law_pair"]) (fun f fd D => ?_) (fun _ _ _ _ _ _ us hl => match us, hl with | [_, _], _ => rfl)
  refine D.ok sc_near_gold (fun vs H Q E h => ?_) (fun cdv A outer s H vs Q E hr h => ?_)
  · obtain ⟨p, t, x, y, rfl, _⟩ := h
    rfl
  · obtain ⟨p, t, x, y, rfl, hb, ht, bx, by_, k⟩ := h
    refine ⟨_, (pss_cons (ps_asg (pe_tup (pa_cons pe_int (pa_cons pe_int pa_nil))) (pg_tup (by rfl) (pgs_cons (pg_name (i := 2) sc_near_gold.nd rfl (Or.inl rfl)) (pgs_cons (pg_name (i := 3) sc_near_gold.nd rfl (Or.inl rfl)) pgs_nil))))
      (pss_cons (ps_for PassesOwn.never rfl (pi_range1 (by rfl) T.b_range (pa_cons (pe_cal (cal_scoop T) (hr.mono (by decide)) (by rfl) (pa_cons (pv 0) (pa_cons pe_int pa_nil))) pa_nil)) (pg_name (i := 4) sc_near_gold.nd rfl (Or.inl rfl)) (pss_one (ps_par (i := 2) (j := 3) rfl sc_near_gold.nd rfl rfl (by decide) rfl rfl (pa_cons (pv 3) (pa_cons (pe_op op_add (pv 2) (pv 3)) pa_nil)) rfl)))
      (pss_cons (ps_set (i := 5) sc_near_gold.nd rfl (Or.inl rfl) (pe_cal (cal_one_of T) (hr.mono (by decide)) (by rfl) (pa_cons (pv 0) (pa_cons (pe_lst (pa_cons pe_int (pa_cons (pe_un un_neg pe_int) pa_nil))) pa_nil))))
      (pss_one (ps_ret (pe_tup (pa_cons (pe_op op_add (pe_ix ix_tup (pv 1) pe_int (fun _ _ => rfl)) (pe_op op_mulW (pv 5) (pv 3))) (pa_cons (pe_op op_sub (pe_ix ix_tup (pv 1) pe_int (fun _ _ => rfl)) (pe_op op_mulW (pv 5) (pv 2))) pa_nil)))))))), ?_⟩
    have net : t ≠ p := fun q => by
      obtain ⟨_, _, _, e⟩ := hb
      rw [q, e] at ht
      cases ht
    refine ⟨show 2 ≤ sizeLine by decide, fun t0 n0 => ⟨_, _, rfl, .of upd_same, rfl, _, _, rfl, _, _, rfl, rfl, ?_⟩⟩
    have s0 : Same H (upd H t0 (.tup [.int 1, .int 1])) := same_new n0
    replace ht := s0 _ _ ht
    replace hb : BasAt (upd H t0 (.tup [.int 1, .int 1])) p := hb.elim fun b0 ⟨b1, b2, e⟩ => ⟨b0, b1, b2, s0 _ _ e⟩
    replace k : ∀ (q : Addr) (H' : Hp) (u v : Int), B 198 u → B 198 v → But p (upd H t0 (.tup [.int 1, .int 1])) H' → BasAt H' p → H' q = some (.tup [.int u, .int v]) → Q (.ref q) H' := fun q H' u v b1 b2 bt => k q H' u v b1 b2 (fun q o hq e => bt q o hq (s0 _ _ e))
    generalize (upd H t0 (.tup [.int 1, .int 1])) = H at *
    refine ⟨_, rfl, p, _, rfl, by decide, B.lit 40, hb, fun r H1 r0 r1 same1 bb1 => ?_⟩
    refine ⟨r, rfl, by omega, by omega, for_range (lo := 0) (n := r.toNat) (fun i σ H' => H' = H1 ∧ ∃ (lo hi : Int) (z : Option V), σ = [some (.ref p), some (.ref t), some (.int lo), some (.int hi), z, none] ∧ 0 < lo ∧ lo ≤ hi ∧ hi < 2 ^ (i + 1)) ?_ ?_ ?_⟩
    · exact ⟨rfl, 1, 1, none, rfl, by decide, by decide, by decide⟩
    · rintro i σ H' hi ⟨rfl, lo, hh, z, rfl, l0, l1, l2⟩
      refine ⟨_, rfl, _, rfl, _, rfl, _, _, rfl, rfl, _, _, rfl, rfl, hh, lo + hh, _, rfl, by omega, by omega, ?_⟩
      have e : (2 : Int) ^ (i + 1 + 1) = 2 ^ (i + 1) * 2 := Int.pow_succ ..
      omega
    · rintro σ H' ⟨rfl, lo, hi, z, rfl, l0, l1, l2⟩
      have h40 : hi < 2 ^ 40 := by
        have : (2 : Int) ^ (r.toNat + 1) ≤ 2 ^ 40 := by
          have := Nat.pow_le_pow_right (n := 2) (by decide) (show r.toNat + 1 ≤ 40 by omega)
          exact_mod_cast this
        omega
      refine ⟨_, rfl, _, rfl, show 2 ≤ sizeLine by decide, fun l nl => ?_⟩
      obtain ⟨b0, b1, b2, hp⟩ := id bb1
      have ne : l ≠ p := fun q => by rw [q, hp] at nl; cases nl
      refine ⟨p, l, _, rfl, ⟨_, _, _, (upd_ne ne.symm).trans hp⟩, upd_same, ne, (by show 0 < 2; decide), (by show 2 ≤ 1000; decide), fun v H2 hv same2 bb2 => ?_⟩
      have hm : ∃ m : Int, v = .int m ∧ (m = 1 ∨ m = -1) := by
        simp only [List.mem_cons, List.not_mem_nil, or_false] at hv
        rcases hv with rfl | rfl
        · exact ⟨_, rfl, .inl rfl⟩
        · exact ⟨_, rfl, .inr rfl⟩
      obtain ⟨m, rfl, hm⟩ := hm
      have sm : But p H H2 := fun q o hq e => same2 q o hq (by
        have e1 := same1 q o hq e
        rw [upd_ne (ne_of_none e1 nl)]
        exact e1)
      have ht2 := sm t _ net ht
      have bm : B 2 m := by
        rcases hm with rfl | rfl <;> exact B.lit _
      have bhi : B 41 hi := by show hi.natAbs < 2 ^ 41; omega
      have blo : B 41 lo := by show lo.natAbs < 2 ^ 41; omega
      refine ⟨_, rfl, _, _, _, _, rfl, rfl, .of ht2, rfl, _, rfl, _, rfl, _, _, rfl, rfl, bm.ok bhi, _, _, rfl, rfl, _, rfl, _, _, _, _, rfl, rfl, .of ht2, rfl, _, rfl, _, rfl, _, _, rfl, rfl, bm.ok blo, _, _, rfl, rfl, show 2 ≤ sizeLine by decide, fun q nq => ?_⟩
      have ok : ∀ u v : Int, B 197 u → B 43 v → B 198 (u + v) ∧ B 198 (u - v) := fun u v h1 h2 => ⟨h1.add (h2.mono (by decide)), h1.sub (h2.mono (by decide))⟩
      refine k q _ _ _ (ok _ _ bx (bm.mul bhi)).1 (ok _ _ by_ (bm.mul blo)).2 (fun q' o hq e => same_new nq _ _ (sm q' o hq e)) ?_ upd_same
      obtain ⟨c0, c1, c2, hp2⟩ := bb2
      exact ⟨_, _, _, same_new nq _ _ hp2⟩
theorem cal_product (T : Txt K mg C) : Cal P w K mg base "_law_product" 1 spProduct := by
  refine T.d_product.cal (ps := ["_law_one", "_law_other"]) (fun f fd D => ?_) (fun _ _ _ _ _ _ us hl => match us, hl with | [_, _], _ => rfl)
  refine D.ok sc_product (fun vs H Q E h => ?_) (fun cdv A outer s H vs Q E hr h => ?_)
  · obtain ⟨s, t, a, b, c, d, rfl, _⟩ := h
    rfl
  · obtain ⟨s1, t1, a, b, c, d, rfl, hs, ht, ha, hb, hc, hd, q⟩ := h
    refine ⟨_, (pss_cons (ps_set (i := 2) sc_product.nd rfl (Or.inl rfl) (pe_op op_mulW (pe_ix ix_tup (pv 0) pe_int (fun _ _ => rfl)) (pe_ix ix_tup (pv 1) pe_int (fun _ _ => rfl))))
      (pss_one (ps_ret (pe_tup (pa_cons (pe_op op_add (pe_op op_mulW (pe_ix ix_tup (pv 0) pe_int (fun _ _ => rfl)) (pe_ix ix_tup (pv 1) pe_int (fun _ _ => rfl))) (pv 2)) (pa_cons (pe_op op_add (pe_op op_add (pe_op op_mulW (pe_ix ix_tup (pv 0) pe_int (fun _ _ => rfl)) (pe_ix ix_tup (pv 1) pe_int (fun _ _ => rfl))) (pe_op op_mulW (pe_ix ix_tup (pv 0) pe_int (fun _ _ => rfl)) (pe_ix ix_tup (pv 1) pe_int (fun _ _ => rfl)))) (pv 2)) pa_nil)))))), ?_⟩
    refine ⟨_, rfl, _, _, _, _, rfl, rfl, .of hs, rfl, _, rfl, _, _, _, _, rfl, rfl, .of ht, rfl, _, _, rfl, rfl, hb.ok hd, ?_⟩
    refine ⟨_, rfl, _, _, _, _, rfl, rfl, .of hs, rfl, _, rfl, _, _, _, _, rfl, rfl, .of ht, rfl, _, _, rfl, rfl, ha.ok hc, _, rfl, _, _, rfl, rfl, ?_⟩
    refine ⟨_, rfl, _, _, _, _, rfl, rfl, .of hs, rfl, _, rfl, _, _, _, _, rfl, rfl, .of ht, rfl, _, _, rfl, rfl, ha.ok hd, _, rfl, _, _, _, _, rfl, rfl, .of hs, rfl, _, rfl, _, _, _, _, rfl, rfl, .of ht, rfl, _, _, rfl, rfl, hb.ok hc, _, _, rfl, rfl, _, rfl, _, _, rfl, rfl, show 2 ≤ sizeLine by decide, fun r nr => ?_⟩
    exact q r _ (same_new nr) upd_same
theorem cal_is_pair (T : Txt K mg C) : Cal P w K mg base "_law_is_pair" 3 (spPair C) := by
  refine T.d_is_pair.cal (ps := ["_law_gold", "_law_pair"]) (fun f fd D => ?_) (fun _ _ _ _ _ _ us hl => match us, hl with | [_, _], _ => rfl)
  refine D.ok sc_is_pair (fun vs H Q E h => ?_) (fun cdv A outer s H vs Q E hr h => ?_)
  · obtain ⟨p, t, a, b, rfl, _⟩ := h
    rfl
  · obtain ⟨p, t, a, b, rfl, g, ht, k⟩ := h
    refine ⟨_, (pss_one (ps_ret (pe_cmpR (op_eqD hr.units) (pe_tup (pa_cons (pe_gwhole T (hr.mono (by decide)) (pv 0)) (pa_cons (pe_gpart T (hr.mono (by decide)) (pv 0)) pa_nil))) (pv 1) (nomark _)))), ?_⟩
    refine ⟨_, rfl, u_w g ⟨_, rfl, u_p g ⟨show 2 ≤ sizeLine by decide, fun r nr => ?_⟩⟩⟩
    refine ⟨_, rfl, .tuple [.int a, .int b], .tuple [.int a, .int b], .tup (.of upd_same) (.cons (.int a) (.cons (.int b) .nil)), .tup (.of (same_new nr _ _ ht)) (.cons (.int a) (.cons (.int b) .nil)), rfl, rfl, ?_⟩
    have e : PyData.eqv (.tuple [.int a, .int b]) (.tuple [.int a, .int b]) = true := SeqAt.eqv_refl _ rfl
    rw [e]
    exact k _ (same_new nr)
end
end Gk

namespace Gk
open PySem L2 Ow
section
variable {P : Program} {w : World} {K : PySem.W.Frag} {mg : Str → Option Value} {base : Heap} {C : Addr}
theorem u_nef {H : Hp} {Q : VK} {p q : Addr} {a b c d : Int} (g : GoldAt C H p a b) (g' : GoldAt C H q c d) (h1 : a = c) (h2 : b = d) (k : Q (.bl false) H) : rBinN C (spEq C) E0 (.ref p) (.ref q) H Q :=
  u_ne (Q := Q) g g' (by rw [decide_eq_true h1, decide_eq_true h2]; exact k)
theorem u_eqt {H : Hp} {Q : VK} {p q : Addr} {a b c d : Int} (g : GoldAt C H p a b) (g' : GoldAt C H q c d) (h1 : a = c) (h2 : b = d) (k : Q (.bl true) H) :
    ∃ x y dx fs dy gs, V.ref p = V.ref x ∧ V.ref q = V.ref y ∧ H x = some (.ins C dx fs) ∧ H y = some (.ins C dy gs) ∧ spEq C [.ref x, .ref y] H Q E0 :=
  u_eq g g' (by rw [decide_eq_true h1, decide_eq_true h2]; exact k)
theorem u_m {H : Hp} {p : Addr} {a b : Int} {R : Prop} (g : GoldAt C H p a b) (r : R) : ∃ x dx fs, V.ref p = V.ref x ∧ H x = some (.ins C dx fs) ∧ fs.lookup ("is_less" : Str) = none ∧ R :=
  g.elim fun dx h => ⟨p, dx, _, rfl, h, gf_no _ _ (by decide +kernel) (by decide +kernel), r⟩
theorem iteNI {A B : Prop} {i j : Int} (e : i = j) (h : B) : if (!decide (V.int i = V.int j)) = true then A else B := iteNS (by rw [e]) h
theorem iteNB {A B : Prop} {i j : Bool} (e : i = j) (h : B) : if (!decide (V.bl i = V.bl j)) = true then A else B := iteNS (by rw [e]) h
theorem B.up {n m : Nat} {i : Int} (h : B n i) (k : n ≤ m := by decide) : B m i := h.mono k
theorem mulB {n m k : Nat} {a b c d : Int} (ha : B n a) (hb : B n b) (hc : B m c) (hd : B m d) (hk : n + m + 2 ≤ k := by decide) : B k (a * c + b * d) ∧ B k (a * d + b * c + b * d) :=
  ⟨((ha.mul hc).add (hb.mul hd)).mono (by omega), (((ha.mul hd).add (hb.mul hc)).add ((hb.mul hd).mono (by omega))).mono (by omega)⟩
theorem cal_ops_right (T : Txt K mg C) : Cal P w K mg base "_law_ops_right" 7 spRight := by
  refine T.d_ops_right.cal (ps := ["_law_first", "_law_second", "_law_third"]) (fun f fd D => ?_) (fun _ _ _ _ _ _ us hl => match us, hl with | [_, _, _], _ => rfl)
  refine D.ok sc_ops_right (fun vs H Q E h => ?_) (fun cdv A outer s H vs Q E hr h => ?_)
  · obtain ⟨_, _, _, _, _, _, _, _, _, rfl, _⟩ := h
    rfl
  · obtain ⟨p1, p2, p3, a, b, c, d, e, f, rfl, h1, h2, h3, ba, bb, bc, bd, be, bf, k⟩ := h
    refine ⟨_, (pss_cons (ps_par3 (i := 3) (j := 4) (l := 5) rfl sc_ops_right.nd rfl rfl rfl (by decide) (by decide) (by decide) rfl rfl rfl (pa_cons (pe_gold T (hr.mono (by decide)) (by rfl) (pa_cons (pe_ix ix_tup (pv 0) pe_int (fun _ _ => rfl)) (pa_cons (pe_ix ix_tup (pv 0) pe_int (fun _ _ => rfl)) pa_nil))) (pa_cons (pe_gold T (hr.mono (by decide)) (by rfl) (pa_cons (pe_ix ix_tup (pv 1) pe_int (fun _ _ => rfl)) (pa_cons (pe_ix ix_tup (pv 1) pe_int (fun _ _ => rfl)) pa_nil))) (pa_cons (pe_gold T (hr.mono (by decide)) (by rfl) (pa_cons (pe_ix ix_tup (pv 2) pe_int (fun _ _ => rfl)) (pa_cons (pe_ix ix_tup (pv 2) pe_int (fun _ _ => rfl)) pa_nil))) pa_nil))) rfl)
      (pss_cons (ps_if (pt_not (pt_val (pe_cal (cal_is_pair T) (hr.mono (by decide)) (by rfl) (pa_cons (pe_op (op_gAdd T (hr.mono (by decide))) (pv 3) (pv 4)) (pa_cons (pe_tup (pa_cons (pe_op op_add (pe_ix ix_tup (pv 0) pe_int (fun _ _ => rfl)) (pe_ix ix_tup (pv 1) pe_int (fun _ _ => rfl))) (pa_cons (pe_op op_add (pe_ix ix_tup (pv 0) pe_int (fun _ _ => rfl)) (pe_ix ix_tup (pv 1) pe_int (fun _ _ => rfl))) pa_nil))) pa_nil))))) (pss_one (ps_ret pe_bl)) pss_nil)
      (pss_cons (ps_if (pt_not (pt_val (pe_cal (cal_is_pair T) (hr.mono (by decide)) (by rfl) (pa_cons (pe_op (op_gSub T (hr.mono (by decide))) (pv 3) (pv 4)) (pa_cons (pe_tup (pa_cons (pe_op op_sub (pe_ix ix_tup (pv 0) pe_int (fun _ _ => rfl)) (pe_ix ix_tup (pv 1) pe_int (fun _ _ => rfl))) (pa_cons (pe_op op_sub (pe_ix ix_tup (pv 0) pe_int (fun _ _ => rfl)) (pe_ix ix_tup (pv 1) pe_int (fun _ _ => rfl))) pa_nil))) pa_nil))))) (pss_one (ps_ret pe_bl)) pss_nil)
      (pss_cons (ps_if (PW.pt (pw_or (pt_not (pt_val (pe_cal (cal_is_pair T) (hr.mono (by decide)) (by rfl) (pa_cons (pe_op (op_gMult T (hr.mono (by decide))) (pv 3) (pv 4)) (pa_cons (pe_cal (cal_product T) (hr.mono (by decide)) (by rfl) (pa_cons (pv 0) (pa_cons (pv 1) pa_nil))) pa_nil))))) (pw_or1 (pt_not (pt_val (pe_cal (cal_is_pair T) (hr.mono (by decide)) (by rfl) (pa_cons (pe_un (un_gNeg T (hr.mono (by decide))) (pv 3)) (pa_cons (pe_tup (pa_cons (pe_op op_sub pe_int (pe_ix ix_tup (pv 0) pe_int (fun _ _ => rfl))) (pa_cons (pe_op op_sub pe_int (pe_ix ix_tup (pv 0) pe_int (fun _ _ => rfl))) pa_nil))) pa_nil)))))))) (pss_one (ps_ret pe_bl)) pss_nil)
      (pss_cons (ps_if (PW.pt (pw_or (pt_cmpR (op_gNotEq T (hr.mono (by decide))) (pe_op (op_gMult T (hr.mono (by decide))) (pe_op (op_gAdd T (hr.mono (by decide))) (pv 3) (pv 4)) (pv 5)) (pe_op (op_gAdd T (hr.mono (by decide))) (pe_op (op_gMult T (hr.mono (by decide))) (pv 3) (pv 5)) (pe_op (op_gMult T (hr.mono (by decide))) (pv 4) (pv 5))) (nomark _)) (pw_or1 (pt_cmpR (op_gNotEq T (hr.mono (by decide))) (pe_op (op_gMult T (hr.mono (by decide))) (pv 3) (pe_op (op_gMult T (hr.mono (by decide))) (pv 4) (pv 5))) (pe_op (op_gMult T (hr.mono (by decide))) (pe_op (op_gMult T (hr.mono (by decide))) (pv 3) (pv 4)) (pv 5)) (nomark _))))) (pss_one (ps_ret pe_bl)) pss_nil)
      (pss_cons (ps_if (PW.pt (pw_or (pt_cmpR op_ne (pe_gnorm T (hr.mono (by decide)) (pe_op (op_gMult T (hr.mono (by decide))) (pv 3) (pv 4))) (pe_op op_mulW (pe_gnorm T (hr.mono (by decide)) (pv 3)) (pe_gnorm T (hr.mono (by decide)) (pv 4))) (nomark _)) (pw_or (pt_cmpR op_ne (pe_gnorm T (hr.mono (by decide)) (pe_un (un_gNeg T (hr.mono (by decide))) (pv 3))) (pe_gnorm T (hr.mono (by decide)) (pv 3)) (nomark _)) (pw_or1 (pt_cmpR (op_gNotEq T (hr.mono (by decide))) (pe_op (op_gSub T (hr.mono (by decide))) (pv 3) (pv 3)) (pe_gold T (hr.mono (by decide)) (by rfl) (pa_cons pe_int pa_nil)) (nomark _)))))) (pss_one (ps_ret pe_bl)) pss_nil)
      (pss_one (ps_ret (pe_and (pe_cmpR op_eq (pe_gsense T (hr.mono (by decide)) (pe_op (op_gMult T (hr.mono (by decide))) (pv 3) (pv 4))) (pe_op op_mulW (pe_gsense T (hr.mono (by decide)) (pv 3)) (pe_gsense T (hr.mono (by decide)) (pv 4))) (nomark _)) (pe_one (pe_cmpR (op_gEq T (hr.mono (by decide))) (pe_op (op_gMult T (hr.mono (by decide))) (pe_op (op_gMult T (hr.mono (by decide))) (pv 3) (pe_gold T (hr.mono (by decide)) (by rfl) (pa_cons pe_int (pa_cons pe_int pa_nil)))) (pe_gold T (hr.mono (by decide)) (by rfl) (pa_cons pe_int (pa_cons pe_int pa_nil)))) (pe_op (op_gAdd T (hr.mono (by decide))) (pe_op (op_gMult T (hr.mono (by decide))) (pv 3) (pe_gold T (hr.mono (by decide)) (by rfl) (pa_cons pe_int (pa_cons pe_int pa_nil)))) (pv 3)) (nomark _)))))))))))), ?_⟩
    refine ⟨_, rfl, _, _, _, _, rfl, rfl, .of h1, rfl, _, rfl, _, _, _, _, rfl, rfl, .of h1, rfl, _, _, .inl rfl, ba.up, bb.up, fun o H1 s1 _ go => ?_⟩
    refine ⟨_, rfl, _, _, _, _, rfl, rfl, .of (s1 _ _ h2), rfl, _, rfl, _, _, _, _, rfl, rfl, .of (s1 _ _ h2), rfl, _, _, .inl rfl, bc.up, bd.up, fun t H2 s2 _ gt => ?_⟩
    refine ⟨_, rfl, _, _, _, _, rfl, rfl, .of (s2 _ _ (s1 _ _ h3)), rfl, _, rfl, _, _, _, _, rfl, rfl, .of (s2 _ _ (s1 _ _ h3)), rfl, _, _, .inl rfl, be.up, bf.up, fun m H3 s3 _ gm => ?_⟩
    replace go := go.same (s2.trans s3)
    replace gt := gt.same s3
    have S0 := s1.trans (s2.trans s3)
    replace h1 := S0 _ _ h1
    replace h2 := S0 _ _ h2
    replace k : ∀ H' : Hp, Same H3 H' → Q (.bl true) H' := fun H' s => k H' (S0.trans s)
    clear h3 s1 s2 s3 S0
    refine ⟨_, _, _, rfl, ?_⟩
    -- the sum
    refine ⟨_, rfl, _, rfl, u_add go gt fun r H4 s4 _ gr => ?_⟩
    refine ⟨_, rfl, _, _, _, _, rfl, rfl, .of (s4 _ _ h1), rfl, _, rfl, _, _, _, _, rfl, rfl, .of (s4 _ _ h2), rfl, _, _, rfl, rfl, _, rfl, _, _, _, _, rfl, rfl, .of (s4 _ _ h1), rfl, _, rfl, _, _, _, _, rfl, rfl, .of (s4 _ _ h2), rfl, _, _, rfl, rfl, show 2 ≤ sizeLine by decide, fun q nq => ?_⟩
    refine ⟨_, _, _, _, rfl, gr.same (same_new nq), upd_same, fun H5 s5 => ⟨_, rfl, iteF ?_⟩⟩
    have S5 := s4.trans ((same_new nq).trans s5)
    clear s4 s5 nq gr
    -- the difference
    refine ⟨_, rfl, _, rfl, u_sub (go.same S5) (gt.same S5) fun r H6 s6 _ gr => ?_⟩
    have S6 := S5.trans s6
    refine ⟨_, rfl, _, _, _, _, rfl, rfl, .of (S6 _ _ h1), rfl, _, rfl, _, _, _, _, rfl, rfl, .of (S6 _ _ h2), rfl, _, _, rfl, rfl, _, rfl, _, _, _, _, rfl, rfl, .of (S6 _ _ h1), rfl, _, rfl, _, _, _, _, rfl, rfl, .of (S6 _ _ h2), rfl, _, _, rfl, rfl, show 2 ≤ sizeLine by decide, fun q nq => ?_⟩
    refine ⟨_, _, _, _, rfl, gr.same (same_new nq), upd_same, fun H7 s7 => ⟨_, rfl, iteF ?_⟩⟩
    have S7 := S6.trans ((same_new nq).trans s7)
    clear S5 s6 S6 nq s7 gr
    -- the product, the opposite
    refine ⟨_, rfl, _, rfl, u_mul (go.same S7) (gt.same S7) ba.up bb.up bc.up bd.up fun r H8 s8 _ gr => ?_⟩
    have S8 := S7.trans s8
    refine ⟨_, rfl, _, rfl, _, _, a, b, c, d, rfl, S8 _ _ h1, S8 _ _ h2, ba.up, bb.up, bc.up, bd.up, fun q H9 s9 hq => ?_⟩
    refine ⟨_, _, _, _, rfl, gr.same s9, hq, fun H10 s10 => ⟨_, rfl, iteF ?_⟩⟩
    have S10 := S8.trans (s9.trans s10)
    refine ⟨_, rfl, u_neg (go.same S10) fun r H11 s11 _ gr => ?_⟩
    have S11 := S10.trans s11
    rw [← Int.zero_sub, ← Int.zero_sub] at gr
    refine ⟨_, rfl, _, _, _, _, rfl, rfl, .of (S11 _ _ h1), rfl, _, _, rfl, rfl, _, rfl, _, _, _, _, rfl, rfl, .of (S11 _ _ h1), rfl, _, _, rfl, rfl, show 2 ≤ sizeLine by decide, fun q nq => ?_⟩
    refine ⟨_, _, _, _, rfl, gr.same (same_new nq), upd_same, fun H12 s12 => ⟨_, rfl, iteF ?_⟩⟩
    have S12 := S11.trans ((same_new nq).trans s12)
    clear S7 s8 S8 s9 s10 S10 s11 S11 nq s12 gr hq
    -- brackets
    refine ⟨_, rfl, _, rfl, u_add (go.same S12) (gt.same S12) fun r1 H13 s13 _ g1 => ?_⟩
    have S13 := S12.trans s13
    have m1 := mulB (k := 500) (ba.add bc) (bb.add bd) be bf
    refine ⟨_, rfl, u_mul g1 (gm.same S13) (ba.add bc).up (bb.add bd).up be.up bf.up fun r2 H14 s14 _ g2 => ?_⟩
    have S14 := S13.trans s14
    refine ⟨_, rfl, _, rfl, u_mul (go.same S14) (gm.same S14) ba.up bb.up be.up bf.up fun r3 H15 s15 _ g3 => ?_⟩
    have S15 := S14.trans s15
    refine ⟨_, rfl, _, rfl, u_mul (gt.same S15) (gm.same S15) bc.up bd.up be.up bf.up fun r4 H16 s16 _ g4 => ?_⟩
    refine u_add (g3.same s16) g4 fun r5 H17 s17 _ g5 => ?_
    refine u_nef (g2.same (s15.trans (s16.trans s17))) g5 (by grind) (by grind) ?_
    refine ⟨_, rfl, iteF ?_⟩
    have S17 := S15.trans (s16.trans s17)
    clear S12 s13 S13 s14 S14 s15 S15 s16 s17 g1 g2 g3 g4 g5
    have mcd := mulB (k := 400) bc bd be bf
    have mab := mulB (k := 400) ba bb bc bd
    refine ⟨_, rfl, _, rfl, _, rfl, u_mul (gt.same S17) (gm.same S17) bc.up bd.up be.up bf.up fun r1 H18 s18 _ g1 => ?_⟩
    have S18 := S17.trans s18
    refine u_mul (go.same S18) g1 ba.up bb.up mcd.1.up mcd.2.up fun r2 H19 s19 _ g2 => ?_
    have S19 := S18.trans s19
    refine ⟨_, rfl, _, rfl, u_mul (go.same S19) (gt.same S19) ba.up bb.up bc.up bd.up fun r3 H20 s20 _ g3 => ?_⟩
    have S20 := S19.trans s20
    refine ⟨_, rfl, u_mul g3 (gm.same S20) mab.1.up mab.2.up be.up bf.up fun r4 H21 s21 _ g4 => ?_⟩
    refine u_nef (g2.same (s20.trans s21)) g4 (by grind) (by grind) ?_
    refine ⟨_, rfl, iteF ?_⟩
    have S21 := S20.trans s21
    clear S17 s18 S18 s19 S19 s20 S20 s21 g1 g2 g3 g4
    -- norms
    refine ⟨_, rfl, _, rfl, u_mul (go.same S21) (gt.same S21) ba.up bb.up bc.up bd.up fun r1 H22 s22 _ g1 => ?_⟩
    have S22 := S21.trans s22
    have no : ∀ x y : Int, B 198 x → B 198 y → B 398 (x * x + x * y - y * y) := fun x y hx hy => ((hx.mul hx).add (hx.mul hy)).sub ((hy.mul hy).up) |>.up
    refine u_n g1 mab.1.up mab.2.up ⟨_, rfl, u_n (go.same S22) ba.up bb.up ⟨_, rfl, u_n (gt.same S22) bc.up bd.up ⟨_, _, rfl, rfl, (no _ _ ba bb).ok (no _ _ bc bd), rfl, _, rfl, iteNI (Gd.norm_mul a b c d) ?_⟩⟩⟩
    refine ⟨_, rfl, u_neg (go.same S22) fun r2 H23 s23 _ g2 => ?_⟩
    have S23 := S22.trans s23
    refine u_n g2 ba.up.neg bb.up.neg ⟨_, rfl, u_n (go.same S23) ba.up bb.up ⟨rfl, _, rfl, iteNI (by grind) ?_⟩⟩
    refine ⟨_, rfl, _, rfl, u_sub (go.same S23) (go.same S23) fun r3 H24 s24 _ g3 => ?_⟩
    refine ⟨_, _, .inr ⟨rfl, rfl⟩, B.lit 0, B.lit 0, fun z H25 s25 _ gz => ?_⟩
    refine u_nef (g3.same s25) gz (Int.sub_self _) (Int.sub_self _) ?_
    refine ⟨_, rfl, iteF ?_⟩
    have S25 := S23.trans (s24.trans s25)
    clear S21 s22 S22 s23 S23 s24 s25 g1 g2 g3 gz
    -- senses, the golden number
    refine ⟨_, rfl, _, rfl, u_mul (go.same S25) (gt.same S25) ba.up bb.up bc.up bd.up fun r1 H26 s26 _ g1 => ?_⟩
    have S26 := S25.trans s26
    have gb : ∀ x y : Int, B 2 (Gd.gsI x y) := fun x y => by
      rw [Gd.gsI_eq]
      rcases Gd.gs_val x y with h | h | h <;> rw [h] <;> exact B.lit _
    refine u_s g1 mab.1.up mab.2.up ⟨_, rfl, u_s (go.same S26) ba.up bb.up ⟨_, rfl, u_s (gt.same S26) bc.up bd.up ⟨_, _, rfl, rfl, (gb _ _).ok (gb _ _), rfl, _, rfl, ?_⟩⟩⟩
    refine ite2 (fun _ => ?_) (fun h => absurd (vi_of (Gd.sense_mul a b c d)) h)
    refine ⟨_, rfl, _, _, .inl rfl, B.lit 0, B.lit 1, fun z1 H27 s27 _ gz1 => ?_⟩
    have S27 := S26.trans s27
    have mz := mulB (k := 204) ba bb (B.lit (n := 1) 0) (B.lit (n := 1) 1)
    refine u_mul (go.same S27) gz1 ba.up bb.up (B.lit 0) (B.lit 1) fun r2 H28 s28 _ g2 => ?_
    have S28 := S27.trans s28
    refine ⟨_, _, .inl rfl, B.lit 0, B.lit 1, fun z2 H29 s29 _ gz2 => ?_⟩
    have S29 := S28.trans s29
    refine u_mul (g2.same s29) gz2 mz.1.up mz.2.up (B.lit 0) (B.lit 1) fun r3 H30 s30 _ g3 => ?_
    have S30 := S29.trans s30
    refine ⟨_, rfl, _, _, .inl rfl, B.lit 0, B.lit 1, fun z3 H31 s31 _ gz3 => ?_⟩
    have S31 := S30.trans s31
    refine u_mul (go.same S31) gz3 ba.up bb.up (B.lit 0) (B.lit 1) fun r4 H32 s32 _ g4 => ?_
    have S32 := S31.trans s32
    refine ⟨_, rfl, u_add g4 (go.same S32) fun r5 H33 s33 _ g5 => ?_⟩
    exact u_eqt (g3.same (s31.trans (s32.trans s33))) g5 (by grind) (by grind) (k _ (S32.trans s33))
end
end Gk

namespace Gk
open PySem L2 Ow
section
variable {P : Program} {w : World} {K : PySem.W.Frag} {mg : Str → Option Value} {base : Heap} {C : Addr}
theorem iteNT {A B : Prop} {c : Bool} (e : c = true) (h : B) : if (!c) = true then A else B := by rw [e]; exact iteF h
theorem bas_new {H : Hp} {p t : Addr} {o : HO} (b : BasAt H p) (n : H t = none) : BasAt (upd H t o) p := b.elim fun b0 ⟨b1, b2, e⟩ => ⟨b0, b1, b2, same_new n _ _ e⟩
theorem tup_ne {H : Hp} {p t : Addr} {xs : List V} (b : BasAt H p) (h : H t = some (.tup xs)) : t ≠ p := fun q => by
  obtain ⟨_, _, _, e⟩ := b
  rw [q, e] at h
  cases h
theorem seq_but {H H1 H2 : Hp} {sa p : Addr} {xs : List V} (h : SqL K H sa xs) (n : H p = none) (s : Same H H1) (b : But p H1 H2) : SqL K H2 sa xs := by
  rcases h with (h | ⟨o, h⟩) | h
  · exact .inl (.inl (b _ _ (ne_of_none h n) (s _ _ h)))
  · exact .inl (.inr ⟨o, b _ _ (ne_of_none h n) (s _ _ h)⟩)
  · exact .inr h
theorem cal_order_right (T : Txt K mg C) : Cal P w K mg base "_law_order_right" 7 spRight := by
  refine T.d_order_right.cal (ps := ["_law_first", "_law_second", "_law_third"]) (fun f fd D => ?_) (fun _ _ _ _ _ _ us hl => match us, hl with | [_, _, _], _ => rfl)
  refine D.ok sc_order_right (fun vs H Q E h => ?_) (fun cdv A outer s H vs Q E hr h => ?_)
  · obtain ⟨_, _, _, _, _, _, _, _, _, rfl, _⟩ := h
    rfl
  · obtain ⟨p1, p2, p3, a, b, c, d, e, f, rfl, h1, h2, h3, ba, bb, bc, bd, be, bf, k⟩ := h
    refine ⟨_, (pss_cons (ps_par3 (i := 3) (j := 4) (l := 5) rfl sc_order_right.nd rfl rfl rfl (by decide) (by decide) (by decide) rfl rfl rfl (pa_cons (pe_gold T (hr.mono (by decide)) (by rfl) (pa_cons (pe_ix ix_tup (pv 0) pe_int (fun _ _ => rfl)) (pa_cons (pe_ix ix_tup (pv 0) pe_int (fun _ _ => rfl)) pa_nil))) (pa_cons (pe_gold T (hr.mono (by decide)) (by rfl) (pa_cons (pe_ix ix_tup (pv 1) pe_int (fun _ _ => rfl)) (pa_cons (pe_ix ix_tup (pv 1) pe_int (fun _ _ => rfl)) pa_nil))) (pa_cons (pe_gold T (hr.mono (by decide)) (by rfl) (pa_cons (pe_ix ix_tup (pv 2) pe_int (fun _ _ => rfl)) (pa_cons (pe_ix ix_tup (pv 2) pe_int (fun _ _ => rfl)) pa_nil))) pa_nil))) rfl)
      (pss_cons (ps_set (i := 6) sc_order_right.nd rfl (Or.inl rfl) (pe_cal (cal_gold_sense T) (hr.mono (by decide)) (by rfl) (pa_cons (pe_op op_sub (pe_ix ix_tup (pv 1) pe_int (fun _ _ => rfl)) (pe_ix ix_tup (pv 0) pe_int (fun _ _ => rfl))) (pa_cons (pe_op op_sub (pe_ix ix_tup (pv 1) pe_int (fun _ _ => rfl)) (pe_ix ix_tup (pv 0) pe_int (fun _ _ => rfl))) pa_nil))))
      (pss_cons (ps_set (i := 7) sc_order_right.nd rfl (Or.inl rfl) (pe_cmpR op_gt (pv 6) pe_int (nomark _)))
      (pss_cons (ps_if (PW.pt (pw_or (pt_cmpR op_ne (pe_less T (hr.mono (by decide)) (pv 3) (pa_cons (pv 4) pa_nil)) (pv 7) (nomark _)) (pw_or1 (pt_cmpR op_ne (pe_gsense T (hr.mono (by decide)) (pe_op (op_gSub T (hr.mono (by decide))) (pv 4) (pv 3))) (pv 6) (nomark _))))) (pss_one (ps_ret pe_bl)) pss_nil)
      (pss_cons (ps_if (PW.pt (pw_or (pt_cmpR op_ne (pe_bm PySem.F.plainAttrs_list PySem.F.slot_list_count PySem.F.type_list_count mt_cntB (pe_lst (pa_cons (pe_less T (hr.mono (by decide)) (pv 3) (pa_cons (pv 4) pa_nil)) (pa_cons (pe_less T (hr.mono (by decide)) (pv 4) (pa_cons (pv 3) pa_nil)) (pa_cons (pe_cmpR (op_gEq T (hr.mono (by decide))) (pv 3) (pv 4) (nomark _)) pa_nil)))) (pa_cons pe_bl pa_nil)) pe_int (nomark _)) (pw_or1 (pt_val (pe_less T (hr.mono (by decide)) (pv 3) (pa_cons (pv 3) pa_nil)))))) (pss_one (ps_ret pe_bl)) pss_nil)
      (pss_cons (ps_if (PW.pt (pw_or (pt_cmpR op_ne (pe_less T (hr.mono (by decide)) (pe_op (op_gAdd T (hr.mono (by decide))) (pv 3) (pv 5)) (pa_cons (pe_op (op_gAdd T (hr.mono (by decide))) (pv 4) (pv 5)) pa_nil)) (pv 7) (nomark _)) (pw_or1 (pt_cmpR op_ne (pe_less T (hr.mono (by decide)) (pe_un (un_gNeg T (hr.mono (by decide))) (pv 4)) (pa_cons (pe_un (un_gNeg T (hr.mono (by decide))) (pv 3)) pa_nil)) (pv 7) (nomark _))))) (pss_one (ps_ret pe_bl)) pss_nil)
      (pss_cons (ps_set (i := 8) sc_order_right.nd rfl (Or.inl rfl) (pe_op (op_gMult T (hr.mono (by decide))) (pv 5) (pv 5)))
      (pss_one (ps_ret (pe_cmpR op_eq (pe_less T (hr.mono (by decide)) (pe_op (op_gMult T (hr.mono (by decide))) (pv 3) (pv 8)) (pa_cons (pe_op (op_gMult T (hr.mono (by decide))) (pv 4) (pv 8)) pa_nil)) (pe_and (pv 7) (pe_one (pe_callTy (call_gBool T (hr.mono (by decide))) (by rfl) T.b_bool (by decide +kernel) (pa_cons (pv 5) pa_nil)))) (nomark _))))))))))), ?_⟩
    refine ⟨_, rfl, _, _, _, _, rfl, rfl, .of h1, rfl, _, rfl, _, _, _, _, rfl, rfl, .of h1, rfl, _, _, .inl rfl, ba.up, bb.up, fun o H1 s1 _ go => ?_⟩
    refine ⟨_, rfl, _, _, _, _, rfl, rfl, .of (s1 _ _ h2), rfl, _, rfl, _, _, _, _, rfl, rfl, .of (s1 _ _ h2), rfl, _, _, .inl rfl, bc.up, bd.up, fun t H2 s2 _ gt => ?_⟩
    refine ⟨_, rfl, _, _, _, _, rfl, rfl, .of (s2 _ _ (s1 _ _ h3)), rfl, _, rfl, _, _, _, _, rfl, rfl, .of (s2 _ _ (s1 _ _ h3)), rfl, _, _, .inl rfl, be.up, bf.up, fun m H3 s3 _ gm => ?_⟩
    replace go := go.same (s2.trans s3)
    replace gt := gt.same s3
    have S0 := s1.trans (s2.trans s3)
    replace h1 := S0 _ _ h1
    replace h2 := S0 _ _ h2
    replace k : ∀ H' : Hp, Same H3 H' → Q (.bl true) H' := fun H' s => k H' (S0.trans s)
    clear h3 s1 s2 s3 S0
    refine ⟨_, _, _, rfl, ?_⟩
    refine ⟨_, rfl, _, _, _, _, rfl, rfl, .of h2, rfl, _, rfl, _, _, _, _, rfl, rfl, .of h1, rfl, _, _, rfl, rfl, _, rfl, _, _, _, _, rfl, rfl, .of h2, rfl, _, rfl, _, _, _, _, rfl, rfl, .of h1, rfl, _, _, rfl, rfl, _, _, rfl, (bc.sub ba).up, (bd.sub bb).up, ?_⟩
    refine ⟨_, rfl, _, _, rfl, rfl, ?_⟩
    -- less is the law's own, the difference's sense too
    refine ⟨_, rfl, u_m go ⟨_, rfl, _, _, _, _, _, _, rfl, go, gt, ba.up, bb.up, bc.up, bd.up, _, rfl, rfl, _, rfl, iteNB rfl ?_⟩⟩
    refine ⟨_, rfl, _, rfl, u_sub gt go fun r H4 s4 _ gr => ?_⟩
    refine u_s gr (bc.sub ba).up (bd.sub bb).up ⟨_, rfl, rfl, _, rfl, iteNI rfl ?_⟩
    clear gr
    -- just one of three
    refine ⟨_, rfl, u_m (go.same s4) ⟨_, rfl, _, _, _, _, _, _, rfl, (go.same s4), (gt.same s4), ba.up, bb.up, bc.up, bd.up, ?_⟩⟩
    refine ⟨_, rfl, u_m (gt.same s4) ⟨_, rfl, _, _, _, _, _, _, rfl, (gt.same s4), (go.same s4), bc.up, bd.up, ba.up, bb.up, ?_⟩⟩
    refine ⟨_, rfl, _, rfl, u_eq (go.same s4) (gt.same s4) ⟨show 3 ≤ sizeLine by decide, fun l nl => ?_⟩⟩
    refine ⟨.inl ⟨rfl, _, .of upd_same⟩, l, [decide (0 < Gd.gsI (c - a) (d - b)), decide (0 < Gd.gsI (a - c) (b - d)), decide (a = c) && decide (b = d)], true, rfl, rfl, .of upd_same, rfl, _, rfl, iteNI (by rw [Gd.cnt3]; rfl) ?_⟩
    have S5 := s4.trans (same_new (o := .lst [.bl (decide (0 < Gd.gsI (c - a) (d - b))), .bl (decide (0 < Gd.gsI (a - c) (b - d))), .bl (decide (a = c) && decide (b = d))]) nl)
    refine ⟨_, rfl, u_m (go.same S5) ⟨_, rfl, _, _, _, _, _, _, rfl, (go.same S5), (go.same S5), ba.up, bb.up, ba.up, bb.up, _, rfl, ?_⟩⟩
    rw [Gd.gsI_self]
    refine iteF ?_
    -- sums and opposites
    refine ⟨_, rfl, _, rfl, u_add (go.same S5) (gm.same S5) fun r1 H6 s6 _ g1 => u_m g1 ?_⟩
    have S6 := S5.trans s6
    refine ⟨_, rfl, _, rfl, u_add (gt.same S6) (gm.same S6) fun r2 H7 s7 _ g2 => ⟨_, _, _, _, _, _, rfl, (g1.same s7), g2, (ba.add be).up, (bb.add bf).up, (bc.add be).up, (bd.add bf).up, ?_⟩⟩
    have S7 := S6.trans s7
    refine ⟨_, rfl, rfl, _, rfl, iteNB (by rw [show c + e - (a + e) = c - a by omega, show d + f - (b + f) = d - b by omega]) ?_⟩
    refine ⟨_, rfl, u_neg (gt.same S7) fun r3 H8 s8 _ g3 => u_m g3 ?_⟩
    have S8 := S7.trans s8
    refine ⟨_, rfl, u_neg (go.same S8) fun r4 H9 s9 _ g4 => ⟨_, _, _, _, _, _, rfl, (g3.same s9), g4, bc.neg.up, bd.neg.up, ba.neg.up, bb.neg.up, ?_⟩⟩
    have S9 := S8.trans s9
    refine ⟨_, rfl, rfl, _, rfl, iteNB (by rw [show -a - -c = c - a by omega, show -b - -d = d - b by omega]) ?_⟩
    -- products by a square
    refine ⟨_, rfl, _, rfl, u_mul (gm.same S9) (gm.same S9) be.up bf.up be.up bf.up fun q H10 s10 _ gq => ?_⟩
    have S10 := S9.trans s10
    have mq := mulB (k := 400) be bf be bf
    refine ⟨_, rfl, _, rfl, u_mul (go.same S10) gq ba.up bb.up mq.1.up mq.2.up fun r5 H11 s11 _ g5 => u_m g5 ?_⟩
    have S11 := S10.trans s11
    have m5 := mulB (k := 700) ba bb mq.1 mq.2
    have m6 := mulB (k := 700) bc bd mq.1 mq.2
    refine ⟨_, rfl, _, rfl, u_mul (gt.same S11) (gq.same s11) bc.up bd.up mq.1.up mq.2.up fun r6 H12 s12 _ g6 => ⟨_, _, _, _, _, _, rfl, (g5.same s12), g6, m5.1.up, m5.2.up, m6.1.up, m6.2.up, ?_⟩⟩
    have S12 := S11.trans s12
    rw [Gd.less_sq]
    refine ⟨_, rfl, _, rfl, ite2 (fun hl => ?_) (fun hl => ?_)⟩
    · obtain ⟨dm, hm⟩ := gm.same S12
      refine ⟨_, rfl, _, _, _, rfl, hm, _, _, _, rfl, ⟨_, hm⟩, _, rfl, rfl, ?_⟩
      rw [show decide (0 < Gd.gsI (c - a) (d - b)) = true from hl, Bool.true_and, decide_eq_true rfl]
      exact k _ S12
    · refine ⟨rfl, ?_⟩
      rw [show decide (0 < Gd.gsI (c - a) (d - b)) = false from Bool.eq_false_iff.mpr hl, Bool.false_and, decide_eq_true rfl]
      exact k _ S12
def spLaw (K : PySem.W.Frag) : Sp := fun vs H Q _ => ∃ (a : Addr) (ns : List Int), vs = [.ref a] ∧ SqL K H a (ns.map V.int) ∧ ns.length ≤ 63 ∧ ∀ H', Q (.bl true) H'
theorem ok_law (T : Txt K mg C) {f : Addr} {fd : FuncData} (D : Fun K "law" "law" s_law f fd) : FnOk P w K mg base CX0 8 f fd ["_law_script"] (spLaw K) := by
  refine D.ok sc_law (fun vs H Q E h => ?_) (fun cdv A outer s H vs Q E hr h => ?_)
  · obtain ⟨a, ns, rfl, _⟩ := h
    rfl
  · obtain ⟨sa, ns, rfl, hs, hlen, k⟩ := h
    refine ⟨_, (pss_cons (ps_for PassesOwn.never rfl (pi_range1 (by rfl) T.b_range (pa_cons (pe_callB (call_max2 rfl) (by rfl) T.b_max (by decide +kernel) (pa_cons pe_int (pa_cons (pe_callB (call_min2 rfl) (by rfl) T.b_min (by decide +kernel) (pa_cons pe_int (pa_cons (pe_callB call_len_seq (by rfl) T.b_len (by decide +kernel) (pa_cons (pv 0) pa_nil)) pa_nil))) pa_nil))) pa_nil)) (pg_name (i := 1) sc_law.nd rfl (Or.inl rfl)) (pss_cons (ps_set (i := 2) sc_law.nd rfl (Or.inl rfl) (pe_cal (cal_basin T) (hr.mono (by decide)) (by rfl) (pa_cons (pv 0) (pa_cons (pv 1) pa_nil))))
      (pss_one (ps_for PassesOwn.never rfl (pi_range1 (by rfl) T.b_range (pa_cons pe_int pa_nil)) (pg_name (i := 3) sc_law.nd rfl (Or.inl rfl)) (pss_cons (ps_par (i := 4) (j := 5) rfl sc_law.nd rfl rfl (by decide) rfl rfl (pa_cons (pe_tup (pa_cons (pe_cal (cal_number T) (hr.mono (by decide)) (by rfl) (pa_cons (pv 2) pa_nil)) (pa_cons (pe_cal (cal_number T) (hr.mono (by decide)) (by rfl) (pa_cons (pv 2) pa_nil)) pa_nil))) (pa_cons (pe_tup (pa_cons (pe_cal (cal_number T) (hr.mono (by decide)) (by rfl) (pa_cons (pv 2) pa_nil)) (pa_cons (pe_cal (cal_number T) (hr.mono (by decide)) (by rfl) (pa_cons (pv 2) pa_nil)) pa_nil))) pa_nil)) rfl)
      (C8.pss_cut (ps_set (i := 6) sc_law.nd rfl (Or.inl rfl) (pe_ifExp (pt_cmpR op_lt (pe_op op_add (pe_callB call_abs (by rfl) T.b_abs (by decide +kernel) (pa_cons (pe_ix ix_tup (pv 4) pe_int (fun _ _ => rfl)) pa_nil)) (pe_callB call_abs (by rfl) T.b_abs (by decide +kernel) (pa_cons (pe_ix ix_tup (pv 4) pe_int (fun _ _ => rfl)) pa_nil))) (pe_op op_pow pe_int pe_int) (nomark _)) (pe_cal (cal_near_gold T) (hr.mono (by decide)) (by rfl) (pa_cons (pv 2) (pa_cons (pv 4) pa_nil))) (pv 5)))
      (pss_cons (ps_if (PW.pt (pw_or (pt_not (pt_val (pe_cal (cal_ops_right T) (hr.mono (by decide)) (by rfl) (pa_cons (pv 4) (pa_cons (pv 5) (pa_cons (pv 6) pa_nil)))))) (pw_or1 (pt_not (pt_val (pe_cal (cal_order_right T) (hr.mono (by decide)) (by rfl) (pa_cons (pv 4) (pa_cons (pv 5) (pa_cons (pv 6) pa_nil))))))))) (pss_one (ps_ret pe_bl)) pss_nil)
      (pss_one (ps_if (PW.pt (pw_or (pt_not (pt_val (pe_cal (cal_order_right T) (hr.mono (by decide)) (by rfl) (pa_cons (pv 4) (pa_cons (pv 6) (pa_cons (pv 5) pa_nil)))))) (pw_or1 (pt_not (pt_val (pe_cal (cal_order_right T) (hr.mono (by decide)) (by rfl) (pa_cons (pv 6) (pa_cons (pv 5) (pa_cons (pv 4) pa_nil))))))))) (pss_one (ps_ret pe_bl)) pss_nil)))))))))
      (pss_cons (ps_set (i := 7) sc_law.nd rfl (Or.inl rfl) (pe_gold T (hr.mono (by decide)) (by rfl) (pa_cons pe_int (pa_cons pe_int pa_nil))))
      (pss_cons (ps_if (PW.pt (pw_or (pt_cmpR (op_gNotEq T (hr.mono (by decide))) (pe_op (op_gMult T (hr.mono (by decide))) (pv 7) (pv 7)) (pe_op (op_gAdd T (hr.mono (by decide))) (pv 7) (pe_gold T (hr.mono (by decide)) (by rfl) (pa_cons pe_int pa_nil))) (nomark _)) (pw_or (pt_not (pt_val (pe_less T (hr.mono (by decide)) (pe_gold T (hr.mono (by decide)) (by rfl) (pa_cons pe_int pa_nil)) (pa_cons (pv 7) pa_nil)))) (pw_or1 (pt_not (pt_val (pe_less T (hr.mono (by decide)) (pv 7) (pa_cons (pe_gold T (hr.mono (by decide)) (by rfl) (pa_cons pe_int pa_nil)) pa_nil)))))))) (pss_one (ps_ret pe_bl)) pss_nil)
      (pss_cons (ps_set (i := 8) sc_law.nd rfl (Or.inl rfl) (pe_lst (pa_cons (pe_gsense T (hr.mono (by decide)) (pe_gold T (hr.mono (by decide)) (by rfl) (pa_cons pe_int (pa_cons (pe_un un_neg pe_int) pa_nil)))) (pa_cons (pe_gsense T (hr.mono (by decide)) (pe_gold T (hr.mono (by decide)) (by rfl) (pa_cons (pe_un un_neg pe_int) (pa_cons pe_int pa_nil)))) (pa_cons (pe_less T (hr.mono (by decide)) (pe_gold T (hr.mono (by decide)) (by rfl) (pa_cons pe_int (pa_cons (pe_un un_neg pe_int) pa_nil))) (pa_cons (pe_gold T (hr.mono (by decide)) (by rfl) (pa_cons pe_int pa_nil)) pa_nil)) (pa_cons (pe_gsense T (hr.mono (by decide)) (pe_gold T (hr.mono (by decide)) (by rfl) (pa_cons (pe_un un_neg pe_int) (pa_cons pe_int pa_nil)))) pa_nil))))))
      (pss_one (ps_ret (pe_cmpR (op_eqD hr.units) (pv 8) (pe_lst (pa_cons pe_int (pa_cons pe_int (pa_cons pe_bl (pa_cons pe_int pa_nil))))) (nomark _)))))))), ?_⟩
    have hj : ∀ j : Int, -(2 ^ 62) ≤ (if (if (j : Int) < 4 then (j : Int) else 4) > 1 then (if (j : Int) < 4 then (j : Int) else 4) else 1) ∧ (if (if (j : Int) < 4 then (j : Int) else 4) > 1 then (if (j : Int) < 4 then (j : Int) else 4) else 1) < 2 ^ 62 := fun j => by
      split <;> split <;> omega
    refine ⟨_, rfl, _, _, rfl, .inl hs, _, _, rfl, _, _, rfl, _, rfl, (hj _).1, (hj _).2, for_range (lo := 0) (fun _ σ H' => SqL K H' sa (ns.map V.int) ∧ ∃ v1 v2 v3 v4 v5 v6 : Option V, σ = [some (.ref sa), v1, v2, v3, v4, v5, v6, none, none]) ⟨hs, none, none, none, none, none, none, rfl⟩ ?_ ?_⟩
    · rintro i σ H0 hi ⟨hs, v1, v2, v3, v4, v5, v6, rfl⟩
      refine ⟨_, rfl, _, rfl, sa, _, ns, rfl, hs, by omega, fun p H1 s1 np bb => ?_⟩
      refine ⟨_, rfl, by decide, by decide, for_range (lo := 0) (n := 3) (fun _ σ H2 => But p H1 H2 ∧ BasAt H2 p ∧ ∃ v3 v4 v5 v6 : Option V, σ = [some (.ref sa), some (.int (0 + (i : Int))), some (.ref p), v3, v4, v5, v6, none, none]) ⟨.refl, bb, _, _, _, _, rfl⟩ ?_ ?_⟩
      · rintro j σ H2 hj2 ⟨k0, c0, v3, v4, v5, v6, rfl⟩
        refine ⟨_, rfl, p, rfl, c0, fun z1 Ha bz1 k1 c1 => ⟨_, rfl, p, rfl, c1, fun z2 Hb bz2 k2 c2 => ⟨show 2 ≤ sizeLine by decide, fun t1 n1 => ?_⟩⟩⟩
        have c3 := bas_new (o := .tup [.int z1, .int z2]) c2 n1
        refine ⟨_, rfl, p, rfl, c3, fun z3 Hc bz3 k3 c4 => ⟨_, rfl, p, rfl, c4, fun z4 Hd bz4 k4 c5 => ⟨show 2 ≤ sizeLine by decide, fun t2 n2 => ?_⟩⟩⟩
        have c6 := bas_new (o := .tup [.int z3, .int z4]) c5 n2
        have e1 : t1 ≠ p := tup_ne c3 upd_same
        have h1 : (upd Hd t2 (.tup [.int z3, .int z4])) t1 = some (.tup [.int z1, .int z2]) := same_new n2 _ _ (k4 _ _ e1 (k3 _ _ e1 upd_same))
        have h2 : (upd Hd t2 (.tup [.int z3, .int z4])) t2 = some (.tup [.int z3, .int z4]) := upd_same
        have e2 : t2 ≠ p := tup_ne c6 h2
        have kk : But p H1 (upd Hd t2 (.tup [.int z3, .int z4])) := ((k0.trans (k1.trans k2)).trans (.of_same (same_new n1))).trans ((k3.trans k4).trans (.of_same (same_new n2)))
        generalize (upd Hd t2 (.tup [.int z3, .int z4])) = H3 at h1 h2 kk c6
        refine ⟨_, _, rfl, ?_⟩
        refine ⟨fun σ' H' => ∃ (q : Addr) (u v : Int), σ' = [some (.ref sa), some (.int (0 + (i : Int))), some (.ref p), some (.int (0 + (j : Int))), some (.ref t1), some (.ref t2), some (.ref q), none, none] ∧ B 198 u ∧ B 198 v ∧ H' q = some (.tup [.int u, .int v]) ∧ But p H3 H' ∧ BasAt H' p, ?_, ?_⟩
        · refine ⟨_, rfl, _, _, _, _, rfl, rfl, .of h1, rfl, _, rfl, _, rfl, _, _, _, _, rfl, rfl, .of h1, rfl, _, rfl, _, _, rfl, rfl, _, _, rfl, rfl, ⟨by decide, by decide, by decide⟩, _, _, rfl, rfl, _, rfl, ite2 (fun _ => ?_) (fun _ => ?_)⟩
          · exact ⟨_, rfl, _, rfl, p, t1, z1, z2, rfl, c6, h1, bz1, bz2, fun q Hq u v bu bv kq cq hq => ⟨q, u, v, rfl, bu, bv, hq, kq, cq⟩⟩
          · exact ⟨_, rfl, t2, z3, z4, rfl, bz3.up, bz4.up, h2, .refl, c6⟩
        · rintro σ' H4 ⟨q, u, v, rfl, bu, bv, hq, kq, cq⟩
          replace h1 := kq _ _ e1 h1
          replace h2 := kq _ _ e2 h2
          refine ⟨_, rfl, _, rfl, _, rfl, t1, t2, q, z1, z2, z3, z4, u, v, rfl, h1, h2, hq, bz1.up, bz2.up, bz3.up, bz4.up, bu, bv, fun H5 s5 => ⟨_, rfl, iteF ?_⟩⟩
          refine ⟨_, rfl, _, rfl, _, rfl, t1, t2, q, z1, z2, z3, z4, u, v, rfl, s5 _ _ h1, s5 _ _ h2, s5 _ _ hq, bz1.up, bz2.up, bz3.up, bz4.up, bu, bv, fun H6 s6 => ⟨_, rfl, iteF ?_⟩⟩
          have S6 := s5.trans s6
          refine ⟨_, rfl, _, rfl, _, rfl, t1, q, t2, z1, z2, u, v, z3, z4, rfl, S6 _ _ h1, S6 _ _ hq, S6 _ _ h2, bz1.up, bz2.up, bu, bv, bz3.up, bz4.up, fun H7 s7 => ⟨_, rfl, iteF ?_⟩⟩
          have S7 := S6.trans s7
          refine ⟨_, rfl, _, rfl, _, rfl, q, t2, t1, u, v, z3, z4, z1, z2, rfl, S7 _ _ hq, S7 _ _ h2, S7 _ _ h1, bu, bv, bz3.up, bz4.up, bz1.up, bz2.up, fun H8 s8 => ⟨_, rfl, iteF ?_⟩⟩
          have S8 := S7.trans s8
          exact ⟨(kk.trans kq).trans (.of_same S8), cq.elim fun b0 ⟨b1, b2, e⟩ => ⟨b0, b1, b2, S8 _ _ e⟩, _, _, _, _, rfl⟩
      · rintro σ H2 ⟨k0, c0, v3, v4, v5, v6, rfl⟩
        exact ⟨seq_but hs np s1 k0, _, _, _, _, _, _, rfl⟩
    · rintro σ H0 ⟨hs, v1, v2, v3, v4, v5, v6, rfl⟩
      refine ⟨_, _, .inl rfl, B.lit 0, B.lit 1, fun g H1 s1 _ gg => ?_⟩
      refine ⟨_, rfl, _, rfl, u_mul gg gg (B.lit 0) (B.lit 1) (B.lit 0) (B.lit 1) fun r1 H2 s2 _ g1 => ?_⟩
      refine ⟨_, rfl, _, _, .inr ⟨rfl, rfl⟩, B.lit 1, B.lit 0, fun r2 H3 s3 _ g2 => ?_⟩
      refine u_add (gg.same (s2.trans s3)) g2 fun r3 H4 s4 _ g3 => ?_
      refine u_nef (g1.same (s3.trans s4)) g3 (by decide) (by decide) ?_
      refine ⟨_, rfl, iteF ?_⟩
      have S4 := s2.trans (s3.trans s4)
      refine ⟨_, _, .inr ⟨rfl, rfl⟩, B.lit 1, B.lit 0, fun r4 H5 s5 _ g4 => u_m g4 ?_⟩
      have S5 := S4.trans s5
      refine ⟨_, rfl, _, _, _, _, _, _, rfl, g4, gg.same S5, B.lit 1, B.lit 0, B.lit 0, B.lit 1, _, rfl, iteNT (by decide) ?_⟩
      refine ⟨_, rfl, u_m (gg.same S5) ?_⟩
      refine ⟨_, _, .inr ⟨rfl, rfl⟩, B.lit 2, B.lit 0, fun r5 H6 s6 _ g5 => ?_⟩
      refine ⟨_, _, _, _, _, _, rfl, gg.same (S5.trans s6), g5, B.lit 0, B.lit 1, B.lit 2, B.lit 0, _, rfl, iteNT (by decide) ?_⟩
      clear g1 g2 g3 g4 g5 gg s1 s2 s3 s4 s5 s6 S4 S5
      refine ⟨_, rfl, _, _, .inl rfl, B.lit 13, B.lit (-8), fun r1 H7 _ _ g1 => u_s g1 (B.lit 13) (B.lit (-8)) ?_⟩
      refine ⟨_, rfl, _, _, .inl rfl, B.lit (-21), B.lit 13, fun r2 H8 _ _ g2 => u_s g2 (B.lit (-21)) (B.lit 13) ?_⟩
      refine ⟨_, rfl, _, _, .inl rfl, B.lit 55, B.lit (-34), fun r3 H9 _ _ g3 => u_m g3 ?_⟩
      refine ⟨_, _, .inr ⟨rfl, rfl⟩, B.lit 0, B.lit 0, fun r4 H10 s10 _ g4 => ?_⟩
      refine ⟨_, _, _, _, _, _, rfl, g3.same s10, g4, B.lit 55, B.lit (-34), B.lit 0, B.lit 0, ?_⟩
      refine ⟨_, rfl, _, _, .inl rfl, B.lit (-1), B.lit 1, fun r5 H11 _ _ g5 => u_s g5 (B.lit (-1)) (B.lit 1) ?_⟩
      refine ⟨show 4 ≤ sizeLine by decide, fun l nl => ?_⟩
      refine ⟨_, rfl, show 4 ≤ sizeLine by decide, fun l2 nl2 => ?_⟩
      refine ⟨.list [.int 1, .int 1, .bool true, .int 1], .list [.int 1, .int 1, .bool true, .int 1], .lst (.of (same_new nl2 _ _ upd_same)) (.cons (.int 1) (.cons (.int 1) (.cons (.bl true) (.cons (.int 1) .nil)))), .lst (.of upd_same) (.cons (.int 1) (.cons (.int 1) (.cons (.bl true) (.cons (.int 1) .nil)))), rfl, rfl, ?_⟩
      have e : PyData.eqv (.list [.int 1, .int 1, .bool true, .int 1]) (.list [.int 1, .int 1, .bool true, .int 1]) = true := SeqAt.eqv_refl _ rfl
      rw [e]
      exact k _
end
end Gk

namespace Gk
open PySem L2 Ow
section
variable {K : PySem.W.Frag} {h : Heap} {mg : Str → Option Value} {x qual : Str} {st : Stmt} {f p C T0 : Addr} {oc kV doc pm cdv ct oc2 : Value} {od an od2 : Option Addr} {sl sl2 : Array (Option Value)} {tk n : Nat} {rest : List Value}
theorem mdef_mk (X : K.In h) (G : h.Ns mainGlobals mg) (a : PySem.W.nsIn K mainGlobals x = some (some (.ref f)))
    (l : K.lookup f = some ⟨oc, od, .func (PySem.W.fnOf x x (defArgs st) (defBody st) (defScope st) .none kV doc pm an cdv ct), sl⟩) (c : PySem.W.codeIn K cdv x = true) (k : PySem.W.keepIn K (.ref f) = true) : MDef K mg x st :=
  ⟨f, _, fun_mk l c k, PySem.W.mg_of X G a⟩
theorem gm_mk (a : PySem.W.findIn K (.ref C) x = some (some (.ref f))) (i : PySem.W.isFn K (.ref f) = true)
    (l : K.lookup f = some ⟨oc, od, .func (PySem.W.fnOf x qual (defArgs st) (defBody st) (defScope st) .none kV doc pm an cdv ct), sl⟩) (c : PySem.W.codeIn K cdv qual = true) (k : PySem.W.keepIn K (.ref f) = true) : GM K C x qual st :=
  ⟨f, _, fun_mk l c k, ⟨a, i⟩⟩
theorem gp_mk (a : PySem.W.findIn K (.ref C) x = some (some (.ref p))) (g : PySem.W.specialIn K (.ref p) "__get__" = some (some (.builtin "property.__get__"))) (t : PySem.W.takesIn K (.ref p) = some true) (r : PySem.W.recIn K p "property" = some (.ref f :: rest))
    (l : K.lookup f = some ⟨oc, od, .func (PySem.W.fnOf x qual (defArgs st) (defBody st) (defScope st) .none kV doc pm an cdv ct), sl⟩) (c : PySem.W.codeIn K cdv qual = true) (k : PySem.W.keepIn K (.ref f) = true) : GP K C x qual st :=
  ⟨p, f, _, ⟨a, g, t, rest, r⟩, fun_mk l c k⟩
theorem init_mk (mk : PySem.W.makesIn K C = true) (kc : PySem.W.keepIn K (.ref C) = true) (a : PySem.W.findIn K (.ref C) "__init__" = some (some (.ref f))) (i : PySem.W.isFn K (.ref f) = true)
    (l : K.lookup f = some ⟨oc, od, .func (PySem.W.fnOf "__init__" "Gold.__init__" (defArgs s_init) (defBody s_init) (defScope s_init) (.ref T0) kV doc pm an cdv ct), sl⟩) (c : PySem.W.codeIn K cdv "Gold.__init__" = true) (k : PySem.W.keepIn K (.ref f) = true)
    (lT : K.lookup T0 = some ⟨oc2, od2, .seq #[.int 0 tk] n, sl2⟩) : ∃ f fd, Mk K C f ∧ FunD K "__init__" "Gold.__init__" (defArgs s_init) (defBody s_init) (defScope s_init) [.int 0] [] f fd :=
  ⟨f, _, ⟨mk, a, i, kc⟩, ⟨⟨oc, od, .ref T0, kV, doc, pm, an, cdv, ct, sl, rfl, l, c, .inr ⟨by simp, T0, _, [.int 0 tk], n, rfl, lT, rfl, .cons ⟨tk, rfl⟩ .nil⟩, .inl rfl⟩, k⟩⟩
theorem end_mk {l : PySem.W.OpenLaw} {w : World} {fa : Addr} (X : K.In h) (G : h.Ns mainGlobals mg) (hfa : mg "law" = some (.ref fa)) (T : Txt K mg C) (a : PySem.W.nsIn K mainGlobals "law" = some (some (.ref f)))
    (l1 : K.lookup f = some ⟨oc, od, .func (PySem.W.fnOf "law" "law" (defArgs s_law) (defBody s_law) (defScope s_law) .none kV doc pm an cdv ct), sl⟩) (c : PySem.W.codeIn K cdv "law" = true) (k : PySem.W.keepIn K (.ref f) = true) :
    ∃ fd : FuncData, (∀ (s : Shared) (v : Value), BindsTo s fd ⟨[v], []⟩ [("_law_script", v)]) ∧ ∀ base : Heap, K.In base → base.Ns mainGlobals mg → FnOk l.prog w K mg base CX0 8 fa fd ["_law_script"] (spLaw K) := by
  have e := hfa.symm.trans (PySem.W.mg_of X G a)
  cases e
  exact ⟨PySem.W.fnOf "law" "law" (defArgs s_law) (defBody s_law) (defScope s_law) .none kV doc pm an cdv ct, fun s v => .of_eq rfl, fun base _ _ => ok_law T (fun_mk (st := s_law) l1 c k)⟩
end
theorem walk {l : PySem.W.OpenLaw} {q : Program} {loose : List Str} {XP : (Str → Option Value) → Heap → Prop} {YP : World → Heap → Prop} {d : DefRec} {K : Params → PySem.W.Frag} (hn : l.most = some 63) (hdf : d.params.defaults = [])
    (hY : ∀ (w : World) (h : Heap), YP w h → (K w.params).In h)
    (F : ∀ (w : World) (mg : Str → Option Value) (fa : Addr) (h : Heap), (K w.params).In h → h.Ns mainGlobals mg → mg d.name = some (.ref fa) →
      ∃ fd : FuncData, (∀ (s : Shared) (u : Value), BindsTo s fd ⟨[u], []⟩ [("_law_script", u)]) ∧ ∀ base : Heap, (K w.params).In base → base.Ns mainGlobals mg → FnOk l.prog w (K w.params) mg base CX0 8 fa fd ["_law_script"] (spLaw (K w.params))) :
    PySem.W.WalkO q loose XP YP l.row.toRowW d [] (fun f vs => PySem.call f vs) :=
  L2.walk_of (n := 63) (k := 8) (x := "_law_script") (CX := fun _ => CX0) (sp := fun w => spLaw (K w.params)) hn (by decide) hdf ⟨rfl, by decide, by decide⟩ hY F (fun _ _ a ns hl _ hS => ⟨a, ns, rfl, hS, hl, fun _ => rfl⟩) fun _ _ _ _ _ z => z
end Gk

open PySem PySem.W PyProof.Rows in
set_option maxRecDepth 100000 in
set_option maxHeartbeats 0 in
theorem PySem.Challenge.cw_underwords_k01_whole_golds_reckoned_and_holds : PySem.Challenge.rw_underwords_k01_whole_golds_reckoned_and.Holds := by
  w_on; o_law; k_head; (case hw => w_witness2)
  k_fill
  refine Gk.walk (l := PySem.Challenge.rw_underwords_k01_whole_golds_reckoned_and) rfl rfl (fun w h Y => PySem.W.kIn_of Y) ?F
  case F =>
    intro w mg fa h KX G hmg
    refine' Gk.end_mk KX G hmg (C := _) ?T ?a ?l ?c ?k
    (case a => k_is)
    (case l => k_is)
    (case c => k_is)
    (case k => k_is)
    case T =>
      refine' { cl := ⟨?pg, ?hd, ?po, ?sa⟩, oc := ⟨?fi, ?ob, ?ne, ?nf⟩, ic := ⟨⟨?pg2, ?hd2, ?po2, ?sa2⟩, ?ha, ?hn, ?htk, ?hm, if_pos (beq_self_eq_true _)⟩, mgGold := PySem.W.mg_of KX G ?gG, nW := ?nW, nP := ?nP, mkG := ?mkG, pW := ?pW, pP := ?pP, pN := ?pN, pS := ?pS, mLess := ?mLess, mAdd := ?mAdd, mSub := ?mSub, mMul := ?mMul, mNeg := ?mNeg, mEq := ?mEq, mBool := ?mBool, d_is_within := ?d_is_within, d_is_integer := ?d_is_integer, d_gold_of := ?d_gold_of, d_sense_of := ?d_sense_of, d_times := ?d_times, d_basin := ?d_basin, d_scoop := ?d_scoop, d_one_of := ?d_one_of, d_number := ?d_number, d_root_below := ?d_root_below, d_gold_sense := ?d_gold_sense, d_near_gold := ?d_near_gold, d_product := ?d_product, d_is_pair := ?d_is_pair, d_ops_right := ?d_ops_right, d_order_right := ?d_order_right, b_isinstance := ?b_isinstance, b_int := ?b_int, b_bool := ?b_bool, b_len := ?b_len, b_abs := ?b_abs, b_max := ?b_max, b_min := ?b_min, b_range := ?b_range }
      (case gG => k_is)
      (case pg => k_is)
      (case hd => k_is)
      (case po => k_is)
      (case sa => k_is)
      (case fi => k_is)
      (case ob => k_is)
      (case ne => k_is)
      (case nf => k_is)
      (case pg2 => k_is)
      (case hd2 => k_is)
      (case po2 => k_is)
      (case sa2 => k_is)
      (case ha => k_is)
      (case hn => k_is)
      (case htk => k_is)
      (case hm => k_is)
      (case nW => ((show PySem.W.findIn _ _ "_whole" = some none); k_is))
      (case nP => ((show PySem.W.findIn _ _ "_part" = some none); k_is))
      (case mkG => (refine' Gk.init_mk ?q1 ?q2 ?q3 ?q4 ?q5 ?q6 ?q7 ?q8; (case q1 => k_is); (case q2 => k_is); (case q3 => k_is); (case q4 => k_is); (case q5 => k_is); (case q6 => k_is); (case q7 => k_is); (case q8 => k_is)))
      (case pW => (refine' Gk.gp_mk ?q1 ?q2 ?q3 ?q4 ?q5 ?q6 ?q7; (case q1 => k_is); (case q2 => k_is); (case q3 => k_is); (case q4 => k_is); (case q5 => k_is); (case q6 => k_is); (case q7 => k_is)))
      (case pP => (refine' Gk.gp_mk ?q1 ?q2 ?q3 ?q4 ?q5 ?q6 ?q7; (case q1 => k_is); (case q2 => k_is); (case q3 => k_is); (case q4 => k_is); (case q5 => k_is); (case q6 => k_is); (case q7 => k_is)))
      (case pN => (refine' Gk.gp_mk ?q1 ?q2 ?q3 ?q4 ?q5 ?q6 ?q7; (case q1 => k_is); (case q2 => k_is); (case q3 => k_is); (case q4 => k_is); (case q5 => k_is); (case q6 => k_is); (case q7 => k_is)))
      (case pS => (refine' Gk.gp_mk ?q1 ?q2 ?q3 ?q4 ?q5 ?q6 ?q7; (case q1 => k_is); (case q2 => k_is); (case q3 => k_is); (case q4 => k_is); (case q5 => k_is); (case q6 => k_is); (case q7 => k_is)))
      (case mLess => (refine' Gk.gm_mk ?q1 ?q2 ?q3 ?q4 ?q5; (case q1 => k_is); (case q2 => k_is); (case q3 => k_is); (case q4 => k_is); (case q5 => k_is)))
      (case mAdd => (refine' Gk.gm_mk ?q1 ?q2 ?q3 ?q4 ?q5; (case q1 => k_is); (case q2 => k_is); (case q3 => k_is); (case q4 => k_is); (case q5 => k_is)))
      (case mSub => (refine' Gk.gm_mk ?q1 ?q2 ?q3 ?q4 ?q5; (case q1 => k_is); (case q2 => k_is); (case q3 => k_is); (case q4 => k_is); (case q5 => k_is)))
      (case mMul => (refine' Gk.gm_mk ?q1 ?q2 ?q3 ?q4 ?q5; (case q1 => k_is); (case q2 => k_is); (case q3 => k_is); (case q4 => k_is); (case q5 => k_is)))
      (case mNeg => (refine' Gk.gm_mk ?q1 ?q2 ?q3 ?q4 ?q5; (case q1 => k_is); (case q2 => k_is); (case q3 => k_is); (case q4 => k_is); (case q5 => k_is)))
      (case mEq => (refine' Gk.gm_mk ?q1 ?q2 ?q3 ?q4 ?q5; (case q1 => k_is); (case q2 => k_is); (case q3 => k_is); (case q4 => k_is); (case q5 => k_is)))
      (case mBool => (refine' Gk.gm_mk ?q1 ?q2 ?q3 ?q4 ?q5; (case q1 => k_is); (case q2 => k_is); (case q3 => k_is); (case q4 => k_is); (case q5 => k_is)))
      (case d_is_within => (refine' Gk.mdef_mk KX G ?q1 ?q2 ?q3 ?q4; (case q1 => k_is); (case q2 => k_is); (case q3 => k_is); (case q4 => k_is)))
      (case d_is_integer => (refine' Gk.mdef_mk KX G ?q1 ?q2 ?q3 ?q4; (case q1 => k_is); (case q2 => k_is); (case q3 => k_is); (case q4 => k_is)))
      (case d_gold_of => (refine' Gk.mdef_mk KX G ?q1 ?q2 ?q3 ?q4; (case q1 => k_is); (case q2 => k_is); (case q3 => k_is); (case q4 => k_is)))
      (case d_sense_of => (refine' Gk.mdef_mk KX G ?q1 ?q2 ?q3 ?q4; (case q1 => k_is); (case q2 => k_is); (case q3 => k_is); (case q4 => k_is)))
      (case d_times => (refine' Gk.mdef_mk KX G ?q1 ?q2 ?q3 ?q4; (case q1 => k_is); (case q2 => k_is); (case q3 => k_is); (case q4 => k_is)))
      (case d_basin => (refine' Gk.mdef_mk KX G ?q1 ?q2 ?q3 ?q4; (case q1 => k_is); (case q2 => k_is); (case q3 => k_is); (case q4 => k_is)))
      (case d_scoop => (refine' Gk.mdef_mk KX G ?q1 ?q2 ?q3 ?q4; (case q1 => k_is); (case q2 => k_is); (case q3 => k_is); (case q4 => k_is)))
      (case d_one_of => (refine' Gk.mdef_mk KX G ?q1 ?q2 ?q3 ?q4; (case q1 => k_is); (case q2 => k_is); (case q3 => k_is); (case q4 => k_is)))
      (case d_number => (refine' Gk.mdef_mk KX G ?q1 ?q2 ?q3 ?q4; (case q1 => k_is); (case q2 => k_is); (case q3 => k_is); (case q4 => k_is)))
      (case d_root_below => (refine' Gk.mdef_mk KX G ?q1 ?q2 ?q3 ?q4; (case q1 => k_is); (case q2 => k_is); (case q3 => k_is); (case q4 => k_is)))
      (case d_gold_sense => (refine' Gk.mdef_mk KX G ?q1 ?q2 ?q3 ?q4; (case q1 => k_is); (case q2 => k_is); (case q3 => k_is); (case q4 => k_is)))
      (case d_near_gold => (refine' Gk.mdef_mk KX G ?q1 ?q2 ?q3 ?q4; (case q1 => k_is); (case q2 => k_is); (case q3 => k_is); (case q4 => k_is)))
      (case d_product => (refine' Gk.mdef_mk KX G ?q1 ?q2 ?q3 ?q4; (case q1 => k_is); (case q2 => k_is); (case q3 => k_is); (case q4 => k_is)))
      (case d_is_pair => (refine' Gk.mdef_mk KX G ?q1 ?q2 ?q3 ?q4; (case q1 => k_is); (case q2 => k_is); (case q3 => k_is); (case q4 => k_is)))
      (case d_ops_right => (refine' Gk.mdef_mk KX G ?q1 ?q2 ?q3 ?q4; (case q1 => k_is); (case q2 => k_is); (case q3 => k_is); (case q4 => k_is)))
      (case d_order_right => (refine' Gk.mdef_mk KX G ?q1 ?q2 ?q3 ?q4; (case q1 => k_is); (case q2 => k_is); (case q3 => k_is); (case q4 => k_is)))
      (case b_isinstance => exact PySem.W.mg_none_of KX G (by k_is))
      (case b_int => exact PySem.W.mg_none_of KX G (by k_is))
      (case b_bool => exact PySem.W.mg_none_of KX G (by k_is))
      (case b_len => exact PySem.W.mg_none_of KX G (by k_is))
      (case b_abs => exact PySem.W.mg_none_of KX G (by k_is))
      (case b_max => exact PySem.W.mg_none_of KX G (by k_is))
      (case b_min => exact PySem.W.mg_none_of KX G (by k_is))
      (case b_range => exact PySem.W.mg_none_of KX G (by k_is))
