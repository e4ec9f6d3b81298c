import PyProof.Rows.All
import Wide.All
import OpenK.AllK
import Wide.FinOn
import HandS.ForMost
import HandS.IsInst
import HandS.TupAny
import HandS.SlotsOwn
import HandS.ExcInit
import HandS.ExcField
import HandS.WordsExc
import KE.KCallOwn
import OpenK.KOps
import HandS.HeadHook3
import HandS.TupMul
import HandS.CallLocal
import PyProof.ReprRoads
import HandS.Lambda
import HandS.RaiseMore
import HandS.TryMany
import KE.KExcIs
import HandS.Codes
import HandS.FStr
import HandS.Deep
import HandS.Style
import HandS.Conv
import PySem.Challenge.RW_lastshort_k59_widths_seen
set_option Elab.async false
set_option linter.all false
set_option maxRecDepth 100000
set_option maxHeartbeats 8000000
/-! what every proof about a program of several defs wants -/
namespace Cm
open PySem PySem.Spec PyProof.Rows L2
/-- a def of the module -/
structure Df (K : PySem.W.Frag) (mg : Str → Option Value) (x : Str) (st : Stmt) (ps : List Str) where
  f : Addr
  fd : FuncData
  F : Fun K x x st f fd
  b : Binds K fd ps []
  g : mg x = some (.ref f)
  k : PySem.W.keepIn K (.ref f) = true
/-- a method of the class at C -/
structure Mt (K : PySem.W.Frag) (C : Addr) (x q : Str) (st : Stmt) (ps : List Str) where
  f : Addr
  fd : FuncData
  F : Fun K x q st f fd
  b : Binds K fd ps []
  m : Meth K C x f
theorem dI (a b : Int) : decide (V.int a = V.int b) = decide (a = b) := decide_eq_decide.mpr ⟨fun z => by cases z; rfl, fun z => by rw [z]⟩
theorem dS (a b : Str) : decide (V.str a = V.str b) = decide (a = b) := decide_eq_decide.mpr ⟨fun z => by cases z; rfl, fun z => by rw [z]⟩
theorem dB (a b : Bool) : decide (V.bl a = V.bl b) = decide (a = b) := decide_eq_decide.mpr ⟨fun z => by cases z; rfl, fun z => by rw [z]⟩
theorem putF_len (f : Str) (v : V) : ∀ fs : List (Str × V), (putF f v fs).length ≤ fs.length + 1
  | [] => Nat.le_refl _
  | (g, x) :: r => by
    unfold putF
    by_cases h : g = f
    · rw [if_pos h]
      exact Nat.le_succ _
    · rw [if_neg h]
      exact Nat.succ_le_succ (putF_len f v r)
theorem szl {n : Nat} (h : n ≤ 1000) : n ≤ sizeLine := Nat.le_of_lt (small1000 h)
theorem szM {n : Nat} (h : n ≤ 1000000) : n < sizeLine := Nat.lt_of_le_of_lt h (by decide)
theorem Same.set {K : PySem.W.Frag} {H H' : Hp} {a : Addr} {xs : List V} (e : Same H H') (h : SqT K H a xs) : SqT K H' a xs := by
  rcases h with (h | ⟨o, h⟩) | h
  · exact .inl (.inl (e _ _ h))
  · exact .inl (.inr ⟨o, e _ _ h⟩)
  · exact .inr h
theorem same_new {H : Hp} {p : Addr} {o : HO} (h : H p = none) : Same H (upd H p o) := fun b x e => by
  rw [upd_ne (ne_of_none e h)]
  exact e
theorem pass_none {P : Program} {w : World} {X : Cx} : Passes (L2.CX P w) X (fun _ _ _ => False) := fun pins σ H s e s2 I h => by
  obtain ⟨_, _, _, _, _, _, _, _, _, _, _, _, h⟩ := h
  exact h.elim
/-! ### len and truth of an instance with an own __len__ -/
section
variable {X : Cx} {C g : Addr} {n : Nat} {sp : Sp}
theorem inst_of {pins : List (Addr × Obj)} {σ : L2.St} {H : Hp} {s : Shared} {a dx : Addr} {fs : List (Str × V)} (I : Inv X pins σ H s) (e : H a = some (.ins C dx fs)) : ∃ (ox : Obj) (od : Option Obj), PySem.W.InstAt s.heap a ox C od := by
  obtain ⟨mA, O, _⟩ := ins_get I.hok e
  obtain ⟨od, J, _⟩ := O.look
  exact ⟨_, _, J⟩
def rLenO (C : Addr) (sp : Sp) : List V → Hp → VK → Prop := fun xs H Q => ∃ (a dx : Addr) (fs : List (Str × V)), xs = [.ref a] ∧ H a = some (.ins C dx fs) ∧ sp [.ref a] H (fun v H2 => ∃ k : Nat, v = .int k ∧ k ≤ 1000000 ∧ Q (.int k) H2) fun _ _ _ => False
theorem call_lenO (hs : PySem.W.findIn X.K (.ref C) "__len__" = some (some (.ref g))) (hf : PySem.W.isFn X.K (.ref g) = true) (F : FnR X.prog X.w X.K X.mg X.base CX0 n g sp) (hr : Room (n + 1) X.A) : CallR X (.builtin "len") (rLenO C sp) := by
  intro pins s σ H xs us Q I r h
  obtain ⟨a, dx, fs, rfl, ha, q⟩ := h
  obtain ⟨u, rfl, ru⟩ := vals1 r
  cases (show u = Value.ref a from ru)
  obtain ⟨ox, od, J⟩ := inst_of I ha
  obtain ⟨m, fr⟩ := I.fr
  refine PySem.W.len_K fr I.ok.mod.kin J hs hf ?_
  refine wpAny_mono (wpAny_call (SlX.run_at (us := [.ref a]) (ws := [.ref a]) F hr.in1 I.env0.in1 pass0 I (.cons rfl .nil) q)) (fun z s2 hz => ?_) fun _ _ e => e
  obtain ⟨z2, H2, I2, rz, k, rfl, hk, qz⟩ := hz
  obtain ⟨tk, rfl⟩ := (show ∃ tk, z = Value.int k tk from rz)
  exact ⟨⟨by omega, by omega⟩, .int k, H2, I2.tok _, ⟨_, rfl⟩, qz⟩
end
/-! ### bool of an instance with an own __len__ -/
section
variable {prog : Program} {w : World} {A : Around} {E : Value → Shared → Prop} {s : Shared} {K : PySem.W.Frag} {x C f : Addr} {ox : Obj} {od : Option Obj}
theorem len_bodyK {Q : Value → Shared → Prop} (X : K.In s.heap) (I : PySem.W.InstAt s.heap x ox C od) (hs : PySem.W.findIn K (.ref C) "__len__" = some (some (.ref f))) (hf : PySem.W.isFn K (.ref f) = true)
    (h : wpAny (model prog w) A (call (.ref f) [.ref x]) (PySem.W.LenBack Q) E s) : wpAny (model prog w) A (Builtin.«len» ⟨[.ref x], []⟩) (fun fin s' => ∃ r, fin = .done (.ret r) ∧ Q r s') E s := by
  unfold Builtin.«len»
  refine wpAny_bind (m := oneArg "len" _) (wpAny_pure ?_)
  refine wpAny_bind (m := callSpecial? (.ref x) (Str.ofString "__len__")) (PySem.W.special_fn X I hs (beq_iff_eq.mp hf) (wpAny_mono h (fun r s' hr => ?_) fun _ _ y => y))
  cases r <;> first | exact hr.elim | skip
  rename_i n u
  obtain ⟨⟨h0, h1⟩, hq⟩ := hr
  refine wpAny_bind (wpAny_holding (wpAny_pure ?_))
  refine wpAny_bind (wpAny_letGo ?_)
  show wpAny _ _ (if n < 0 then _ else _) _ _ _
  rw [if_neg (by omega)]
  show wpAny _ _ (if n ≥ 2 ^ 63 then _ else _) _ _ _
  rw [if_neg (by omega)]
  exact wpAny_bind (wpAny_mkInt (wpAny_pure ⟨_, rfl, hq⟩))
theorem truthy_KL {Q : Bool → Shared → Prop} (X : K.In s.heap) (I : PySem.W.InstAt s.heap x ox C od) (hb : PySem.W.findIn K (.ref C) "__bool__" = some none) (hl : PySem.W.findIn K (.ref C) "__len__" = some (some (.ref f))) (hf : PySem.W.isFn K (.ref f) = true)
    (h : wpAny (model prog w) A.in1 (call (.ref f) [.ref x]) (PySem.W.LenBack fun v s' => ∃ n t, v = .int n t ∧ Q (n != 0) s') E s) : wpAny (model prog w) A (truthy (.ref x)) Q E s := by
  have key : wpAny (model prog w) A (runValue (.builtin "len" ⟨[.ref x], []⟩)) (fun r s' => ∃ n t, r = .int n t ∧ Q (n != 0) s') E s := by
    refine wpAny_runValue (codeAny_builtin entry_len ?_)
    rw [Around.under_plainId plain_len _]
    exact wpAny_mono (len_bodyK X I hl hf h) (fun fin s' h' => by obtain ⟨r, rfl, hq⟩ := h'; exact hq) fun _ _ e => e
  unfold truthy
  refine wpAny_bind (m := callSpecial? (.ref x) (Str.ofString "__bool__")) (wpAny_bind (wpAny_bind (I.type.here ((PySem.W.looks_findIn X hb).here (wpAny_pure ?_)))))
  refine wpAny_bind (wpAny_bind (I.type.here ((PySem.W.looks_findIn X hl).here ?_)))
  exact wpAny_bind (wpAny_mono key (fun r s' h' => by obtain ⟨n, t, rfl, hq⟩ := h'; exact wpAny_pure hq) fun _ _ e => e)
theorem bool_KL {Q : Value → Shared → Prop} (X : K.In s.heap) (I : PySem.W.InstAt s.heap x ox C od) (hb : PySem.W.findIn K (.ref C) "__bool__" = some none) (hl : PySem.W.findIn K (.ref C) "__len__" = some (some (.ref f))) (hf : PySem.W.isFn K (.ref f) = true)
    (h : wpAny (model prog w) A.in1.in1.in1 (call (.ref f) [.ref x]) (PySem.W.LenBack fun v s' => ∃ n t, v = .int n t ∧ Q (.bool (n != 0)) s') E s) : wpAny (model prog w) A (call (.type "bool") [.ref x]) Q E s := by
  refine callType_codes (T := "bool") (Bi := Builtin.«object.__init__») (Q₁ := fun r s₁ => ∃ b, r = .bool b ∧ Q r s₁) PySem.F.called_bool (PySem.F.typeCall_bool_1 _) PySem.F.entry_object_init ?_ ?_
  · refine codeAny_of_tree ?_
    show wpAny _ A.in1.in1 (do checkBuiltinCall "bool.__new__" ⟨[.type "bool", .ref x], []⟩; again (.builtin "bool.__new__" ⟨[.type "bool", .ref x], []⟩)) _ _ s
    refine wpAny_bind (wpAny_of_eq (PySem.F.newCall_bool_1 _) (wpAny_pure ⟨plainId_quiet (by decide +kernel) _, codeAny_builtin PySem.F.entry_bool_new ?_⟩))
    rw [Around.under_plainId (by decide +kernel) _]
    have f1 := PySem.F.conv_sub_bool
    have key : wpAny (model prog w) A.in1.in1 (truthy (.ref x)) (fun b s1 => Q (.bool b) s1) E s := truthy_KL X I hb hl hf (wpAny_mono h (fun v s1 hv => by
      cases v <;> first | exact hv.elim | skip
      obtain ⟨h01, n, t, e, hq⟩ := hv
      cases e
      exact ⟨h01, _, _, rfl, hq⟩) fun _ _ z => z)
    unfold Builtin.«bool.__new__»
    show wpAny _ _ (isType (.type "bool") >>= _) _ _ s
    refine wpAny_bind (wpAny_pure ?_)
    refine wpAny_bind (wpAny_of_eq f1 ?_)
    refine wpAny_bind (wpAny_pure ?_)
    exact wpAny_bind (wpAny_mono key (fun b s1 hb1 => wpAny_pure ⟨_, rfl, hb1⟩) fun _ _ z => z)
  · rintro obj s₁ ⟨b, rfl, hq⟩
    exact ⟨rfl, PySem.F.args_object_init_2 _ _, object_init_meets PySem.F.called_bool.init.lookup PySem.F.called_bool.made (by decide) prog w A.in1 _ s₁ ⟨rfl, rfl, hq⟩⟩
end
section
variable {X : Cx} {C g : Addr} {n : Nat} {sp : Sp}
def rBoolL (C : Addr) (sp : Sp) : List V → Hp → VK → Prop := fun xs H Q => ∃ (a dx : Addr) (fs : List (Str × V)), xs = [.ref a] ∧ H a = some (.ins C dx fs) ∧ sp [.ref a] H (fun v H2 => ∃ k : Nat, v = .int k ∧ k ≤ 1000000 ∧ Q (.bl ((k : Int) != 0)) H2) fun _ _ _ => False
theorem call_boolLO (hb : PySem.W.findIn X.K (.ref C) "__bool__" = some none) (hs : PySem.W.findIn X.K (.ref C) "__len__" = some (some (.ref g))) (hf : PySem.W.isFn X.K (.ref g) = true) (F : FnR X.prog X.w X.K X.mg X.base CX0 n g sp) (hr : Room (n + 3) X.A) : CallR X (.type "bool") (rBoolL C sp) := by
  intro pins s σ H xs us Q I r h
  obtain ⟨a, dx, fs, rfl, ha, q⟩ := h
  obtain ⟨u, rfl, ru⟩ := vals1 r
  cases (show u = Value.ref a from ru)
  obtain ⟨ox, od, J⟩ := inst_of I ha
  have hr2 : Room (n + 2) X.A.in1 := hr.in1
  have hr1 : Room (n + 1) X.A.in1.in1 := hr2.in1
  refine bool_KL I.kIn J hb hs hf ?_
  refine wpAny_mono (wpAny_call (SlX.run_at (us := [.ref a]) (ws := [.ref a]) F hr1.in1 I.env0.in1.in1.in1 pass0 I (.cons rfl .nil) q)) (fun z s2 hz => ?_) fun _ _ e => e
  obtain ⟨z2, H2, I2, rz, k, rfl, hk, qz⟩ := hz
  obtain ⟨tk, rfl⟩ := (show ∃ tk, z = Value.int k tk from rz)
  exact ⟨⟨by omega, by omega⟩, _, _, rfl, .bl _, H2, I2.tok _, rfl, qz⟩
end
/-! ### tuples cut and put together -/
theorem cut_to (xs : List V) (k : Nat) (h : k ≤ xs.length) : cutV xs none (some (k : Int)) = xs.take k := by
  unfold cutV
  rw [HT.sIx_none, HT.sIx_nat, Nat.min_eq_left h]
  rfl
theorem cut_from (xs : List V) (k : Nat) : cutV xs (some (k : Int)) none = xs.drop k := by
  unfold cutV
  rw [HT.sIx_none, HT.sIx_nat]
  by_cases h : k ≤ xs.length
  · rw [Nat.min_eq_left h]
    exact List.take_of_length_le (by rw [List.length_drop]; omega)
  · rw [Nat.min_eq_right (by omega), List.drop_length, List.drop_eq_nil_of_le (by omega)]
    simp
section
variable {X : Cx}
def rSlS (K : PySem.W.Frag) : V → Option Int → Option Int → Hp → VK → Prop := fun x lo hi H Q => ∃ a xs, x = .ref a ∧ SqT K H a xs ∧ ∀ (H' : Hp) (q : Addr), Same H H' → SqT K H' q (cutV xs lo hi) → Q (.ref q) H'
theorem sl_tupS : SlR X (rSlS X.K) := by
  intro pins s σ H x v vl vu lo hi sl Q I rx hs pl pu h
  obtain ⟨a, xs, rfl, hx, q⟩ := h
  refine sl_tupA pins s σ H _ v vl vu lo hi sl Q I rx hs pl pu ⟨a, xs, rfl, hx, fun z => ?_, fun _ p np => q _ p (same_new np) (SqT.of upd_same)⟩
  refine q H a (Same.refl _) ?_
  have e : cutV xs lo hi = xs := by
    unfold cutV
    rw [z.1, z.2]
    simp
  rw [e]
  exact hx
def rCatS (K : PySem.W.Frag) : R2 := fun x y H Q => ∃ a b xs ys, x = .ref a ∧ y = .ref b ∧ SqT K H a xs ∧ SqT K H b ys ∧ xs.length + ys.length ≤ sizeLine ∧ ∀ (H' : Hp) (q : Addr), Same H H' → SqT K H' q (xs ++ ys) → Q (.ref q) H'
theorem op_catS : OpR X (binaryOp .Add) (rCatS X.K) := by
  intro pins s σ H x y v u Q I rx ry h
  obtain ⟨a, b, xs, ys, rfl, rfl, ha, hb, hz, q⟩ := h
  refine op_catA pins s σ H _ _ v u Q I rx ry ⟨a, b, xs, ys, rfl, rfl, ha, hb, hz, fun z => ?_, fun _ z => ?_, fun _ _ p np => q _ p (same_new np) (SqT.of upd_same)⟩
  · refine q H b (Same.refl _) ?_
    rw [z]
    exact hb
  · refine q H a (Same.refl _) ?_
    rw [z, List.append_nil]
    exact ha
end
/-! ### a reading may be asked for more -/
section
variable {X : Cx} {e : Expr} {es : List Expr} {st : Stmt} {sts : List Stmt}
theorem pe_imp {t t' : TE} (h : PE X e t) (k : ∀ σ H Q, t' σ H Q → t σ H Q) : PE X e t' := ⟨fun pins s σ H Q I q => h.run pins s σ H Q I (k σ H Q q)⟩
theorem pa_imp {t t' : TA} (h : PA X es t) (k : ∀ σ H Q, t' σ H Q → t σ H Q) : PA X es t' := ⟨fun pos pins s σ H Q I q => h.run pos pins s σ H Q I (k σ H Q q)⟩
theorem pt_imp {t t' : TT} (h : PT X e t) (k : ∀ σ H Q, t' σ H Q → t σ H Q) : PT X e t' := ⟨fun pins s σ H Q I q => h.run pins s σ H Q I (k σ H Q q)⟩
theorem ps_imp {t t' : TS} (h : PS X st t) (k : ∀ D σ H, t' D σ H → t D σ H) : PS X st t' := ⟨fun pins s σ H D I q => h.run pins s σ H D I (k D σ H q)⟩
theorem pss_imp {t t' : TS} (h : PSs X sts t) (k : ∀ D σ H, t' D σ H → t D σ H) : PSs X sts t' := ⟨fun pins s σ H D I q => h.run pins s σ H D I (k D σ H q)⟩
end
theorem hu64 {A : Around} {k : Nat} (hr : Room k A) : A.units + 64 < cLine := by
  have := hr.un
  omega
/-! ### the same, for tuples that are tracked -/
section
variable {X : Cx}
def rSlH : V → Option Int → Option Int → Hp → VK → Prop := fun x lo hi H Q => ∃ a xs, x = .ref a ∧ H a = some (.tup xs) ∧ ∀ (H' : Hp) (q : Addr), Same H H' → H' q = some (.tup (cutV xs lo hi)) → Q (.ref q) H'
theorem sl_tupH : SlR X rSlH := by
  intro pins s σ H x v vl vu lo hi sl Q I rx hs pl pu h
  obtain ⟨a, xs, rfl, hx, q⟩ := h
  refine sl_tupA pins s σ H _ v vl vu lo hi sl Q I rx hs pl pu ⟨a, xs, rfl, SqT.of hx, fun z => ?_, fun _ p np => q _ p (same_new np) upd_same⟩
  refine q H a (Same.refl _) ?_
  have e : cutV xs lo hi = xs := by
    unfold cutV
    rw [z.1, z.2]
    simp
  rw [e]
  exact hx
def rCatH : R2 := fun x y H Q => ∃ a b xs ys, x = .ref a ∧ y = .ref b ∧ H a = some (.tup xs) ∧ H b = some (.tup ys) ∧ xs.length + ys.length ≤ sizeLine ∧ ∀ (H' : Hp) (q : Addr), Same H H' → H' q = some (.tup (xs ++ ys)) → Q (.ref q) H'
theorem op_catH : OpR X (binaryOp .Add) rCatH := by
  intro pins s σ H x y v u Q I rx ry h
  obtain ⟨a, b, xs, ys, rfl, rfl, ha, hb, hz, q⟩ := h
  refine op_catA pins s σ H _ _ v u Q I rx ry ⟨a, b, xs, ys, rfl, rfl, SqT.of ha, SqT.of hb, hz, fun z => ?_, fun _ z => ?_, fun _ _ p np => q _ p (same_new np) upd_same⟩
  · refine q H b (Same.refl _) ?_
    rw [z]
    exact hb
  · refine q H a (Same.refl _) ?_
    rw [z, List.append_nil]
    exact ha
end
theorem cut_mid (xs : List V) (a b : Nat) (h1 : a ≤ b) (h2 : b ≤ xs.length) : cutV xs (some (a : Int)) (some (b : Int)) = (xs.drop a).take (b - a) := by
  unfold cutV
  rw [HT.sIx_nat, HT.sIx_nat, Nat.min_eq_left h2, Nat.min_eq_left (by omega)]
end Cm

/-! texts of loops: what their words are, and when they are right -/
namespace LM
open PySem L2 TL
def tests : List Str := ["empty", "some", "short", "full", "told", "open", "rest", "bare"]
def rsteps : List Str := ["add", "hand", "cut", "flush", "stop", "again"]
def esteps : List Str := ["hand", "cut", "flush"]
def wordsR (t : Str) : List Str := Txt.split (Txt.partition t " | ").1 " "
def wordsE (t : Str) : List Str := if (Txt.partition t " | ").2.1.length != 0 then Txt.split (Txt.partition t " | ").2.2 " " else []
def orderOf (w : Str) : Str × Str := if (Txt.partition w ":").2.1.length != 0 then ((Txt.partition w ":").1, (Txt.partition w ":").2.2) else ("", w)
def isWord (w : Str) (ss : List Str) : Bool := if (Txt.partition w ":").2.1.length != 0 then decide ((Txt.partition w ":").1 ∈ tests) && decide ((Txt.partition w ":").2.2 ∈ ss) else decide (w ∈ ss)
def areWords (ws ss : List Str) : Bool := ws.all fun w => isWord w ss
def isAdd (w : Str) : Bool := decide ((orderOf w).2 = "add")
def isRound (ws : List Str) : Bool := decide (ws.head? = some "ask") && (decide (ws.length ≤ 12) && (decide ((ws.filter isAdd).length ≤ 1) && areWords ws.tail rsteps))
def isEnding (ws : List Str) : Bool := decide (ws.length ≤ 6) && areWords ws esteps
def goodText (t : Str) : Bool := isRound (wordsR t) && isEnding (wordsE t)
def svs (ws : List Str) : List V := ws.map V.str
theorem svs_flat : ∀ ws : List Str, (svs ws).all flatV = true
  | [] => rfl
  | _ :: r => svs_flat r
theorem inV_svs (w : Str) : ∀ ws : List Str, inV (.str w) (svs ws) = decide (w ∈ ws)
  | [] => by simp [inV, svs]
  | x :: r => by
    have ih := inV_svs w r
    show (eqV (.str x) (.str w) || inV (.str w) (svs r)) = _
    rw [ih]
    show ((x == w) || decide (w ∈ r)) = _
    by_cases h : x = w
    · subst h
      simp
    · have h2 : (x == w) = false := by
        cases hh : (x == w) with
        | false => rfl
        | true => exact absurd (eq_of_beq hh) h
      rw [h2, Bool.false_or]
      refine decide_eq_decide.mpr ⟨fun z => List.mem_cons_of_mem _ z, fun z => ?_⟩
      rcases List.mem_cons.mp z with z | z
      · exact absurd z.symm h
      · exact z
theorem split_ne (x y : Str) : Txt.split x y ≠ [] := by
  unfold Txt.split
  split
  · simp
  · split
    · simp
    · rw [PySem.StrLaws.partsBetween_eq]
      cases Builtin.Str.occurrences x y 0 x.length (x.length + 1) <;> simp [PySem.StrLaws.partsFrom]
/-! ### drawn words -/
/-- a step of these, or a test before it -/
def Wd (ss : List Str) (w : Str) : Prop := ∃ s ∈ ss, w = s ∨ ∃ t ∈ tests, w = t ++ (":" : Str) ++ s
def allWd (ss : List Str) : List Str := ss ++ (tests.map fun t : Str => ss.map fun s : Str => t ++ (":" : Str) ++ s).flatten
theorem Wd.mem {ss : List Str} {w : Str} (h : Wd ss w) : w ∈ allWd ss := by
  obtain ⟨s, hs, rfl | ⟨t, ht, rfl⟩⟩ := h
  · exact List.mem_append.mpr (.inl hs)
  · exact List.mem_append.mpr (.inr (List.mem_flatten.mpr ⟨_, List.mem_map.mpr ⟨t, ht, rfl⟩, List.mem_map.mpr ⟨s, hs, rfl⟩⟩))
theorem Wd.mono {ss zs : List Str} {w : Str} (f : ∀ s ∈ ss, s ∈ zs) (h : Wd ss w) : Wd zs w := let ⟨s, hs, q⟩ := h; ⟨s, f s hs, q⟩
/-- what is known of a word -/
def wdOk (w : Str) : Bool := isWord w rsteps && (decide (32 ∉ tl w) && (decide (124 ∉ tl w) && decide (w.length ≤ 11)))
theorem wd_ok : ∀ w ∈ allWd rsteps, wdOk w = true := by decide +kernel
theorem wd_end : ∀ w ∈ allWd esteps, isWord w esteps = true := by decide +kernel
theorem wd_noadd : ∀ w ∈ allWd ["hand", "cut", "flush", "stop", "again"], isAdd w = false := by decide +kernel
/-! ### lines -/
def line (B E : List Str) : Str := if E = [] then Txt.join " " B else Txt.join " " (B ++ [("|" : Str)] ++ E)
def textOf (B E : List Str) : Str := if E = [] then Txt.join " " B else Txt.join " " B ++ " | " ++ Txt.join " " E
/-- no space and no bar is in it -/
def Fre (w : Str) : Prop := 32 ∉ tl w ∧ 124 ∉ tl w
theorem tlSp : tl (" " : Str) = [32] := by decide +kernel
theorem tlBar : tl (" | " : Str) = [32, 124, 32] := by decide +kernel
theorem tlB1 : tl ("|" : Str) = [124] := by decide +kernel
theorem joinL_app (S : List Nat) : ∀ (a b : List (List Nat)), a ≠ [] → b ≠ [] → joinL S (a ++ b) = joinL S a ++ (S ++ joinL S b)
  | [], _, h, _ => absurd rfl h
  | [p], b, _, hb => by
    cases b with
    | nil => exact absurd rfl hb
    | cons q r => rfl
  | p :: q :: r, b, _, hb => by
    show p ++ (S ++ joinL S (q :: r ++ b)) = p ++ (S ++ joinL S (q :: r)) ++ (S ++ joinL S b)
    rw [joinL_app S (q :: r) b (by simp) hb]
    simp [List.append_assoc]
theorem joinL_mem {S : List Nat} {c : Nat} : ∀ {a : List (List Nat)}, c ∈ joinL S a → c ∈ S ∨ ∃ p ∈ a, c ∈ p
  | [], h => nomatch h
  | [p], h => .inr ⟨p, List.mem_singleton.mpr rfl, h⟩
  | p :: q :: r, h => by
    rcases List.mem_append.mp (show c ∈ p ++ (S ++ joinL S (q :: r)) from h) with h | h
    · exact .inr ⟨p, List.mem_cons_self .., h⟩
    · rcases List.mem_append.mp h with h | h
      · exact .inl h
      · rcases joinL_mem h with h | ⟨z, hz, hc⟩
        · exact .inl h
        · exact .inr ⟨z, List.mem_cons_of_mem _ hz, hc⟩
theorem tl_joinSp (B : List Str) : tl (Txt.join " " B) = joinL [32] (B.map tl) := by rw [join_eq, tl_join, tlSp]
theorem nobar {B : List Str} (h : ∀ w ∈ B, Fre w) : 124 ∉ tl (Txt.join " " B) := by
  rw [tl_joinSp]
  intro hm
  rcases joinL_mem hm with hm | ⟨p, hp, hc⟩
  · exact absurd hm (by decide)
  · obtain ⟨w, hw, rfl⟩ := List.mem_map.mp hp
    exact (h w hw).2 hc
theorem line_text {B E : List Str} (hB : B ≠ []) : line B E = textOf B E := by
  unfold line textOf
  by_cases hE : E = []
  · rw [if_pos hE, if_pos hE]
  · rw [if_neg hE, if_neg hE]
    refine ext_tl ?_
    rw [tl_append, tl_append, tl_joinSp, tl_joinSp, tl_joinSp, tlBar, List.map_append, List.map_append, joinL_app _ _ _ (by simp) (by simpa using hE), joinL_app _ _ _ (by simpa using hB) (by simp)]
    simp [joinL, tlB1]
theorem pre_bar {l : List Nat} (h : pre [32, 124, 32] l = true) : ∃ r, l = 32 :: 124 :: 32 :: r := by
  have e : l.take 3 = [32, 124, 32] := eq_of_beq h
  match l, e with
  | a :: b :: c :: r, e =>
    simp at e
    obtain ⟨rfl, rfl, rfl⟩ := e
    exact ⟨r, rfl⟩
theorem no_bar {p q : List Nat} (h : 124 ∉ p) (hq : q = [] ∨ ∃ r, q = 32 :: r) : ∀ i, i < p.length → pre [32, 124, 32] ((p ++ q).drop i) = false := by
  intro i hi
  cases hp : pre [32, 124, 32] ((p ++ q).drop i) with
  | false => rfl
  | true =>
    obtain ⟨r, e⟩ := pre_bar hp
    have e1 : (p ++ q)[i + 1]? = some 124 := by
      have : ((p ++ q).drop i)[1]? = some 124 := by rw [e]; rfl
      rw [List.getElem?_drop] at this
      exact this
    by_cases h1 : i + 1 < p.length
    · rw [List.getElem?_append_left h1] at e1
      exact absurd (List.mem_of_getElem? e1) h
    · rw [List.getElem?_append_right (by omega)] at e1
      rcases hq with rfl | ⟨r, rfl⟩
      · simp at e1
      · have : i + 1 - p.length = 0 := by omega
        rw [this] at e1
        simp at e1
theorem part_no {x : Str} (h : 124 ∉ tl x) : Txt.partition x " | " = (x, Str.empty, Str.empty) := by
  rw [partition_par _ _ (by rw [tlBar]; simp), tlBar, par_none]
  intro i hi
  have := no_bar (q := []) h (.inl rfl) i hi
  rwa [List.append_nil] at this
theorem part_yes {x y : Str} (h : 124 ∉ tl x) : Txt.partition (x ++ " | " ++ y) " | " = (x, (" | " : Str), y) := by
  rw [partition_par _ _ (by rw [tlBar]; simp), tl_append, tl_append, List.append_assoc, tlBar, par_part (by simp) (no_bar h (.inr ⟨_, rfl⟩))]
  show ((⟨([] ++ tl x).toArray⟩ : Str), _, (⟨(tl y).toArray⟩ : Str)) = _
  rw [List.nil_append, mk_tl, mk_tl]
theorem split_words {B : List Str} (hB : B ≠ []) (h : ∀ w ∈ B, Fre w) : Txt.split (Txt.join " " B) " " = B :=
  split_join (s := 32) (S := []) tlSp (by decide +kernel) hB fun p hp => (h p hp).1
theorem words_text {B E : List Str} (hB : B ≠ []) (h1 : ∀ w ∈ B, Fre w) (h2 : ∀ w ∈ E, Fre w) : wordsR (textOf B E) = B ∧ wordsE (textOf B E) = E := by
  unfold wordsR wordsE textOf
  by_cases hE : E = []
  · rw [if_pos hE, part_no (nobar h1)]
    refine ⟨split_words hB h1, ?_⟩
    rw [hE]
    rfl
  · rw [if_neg hE, part_yes (nobar h1)]
    refine ⟨split_words hB h1, ?_⟩
    exact (if_pos (show ((" | " : Str).length != 0) = true by decide +kernel)).trans (split_words hE h2)
theorem words_line {B E : List Str} (hB : B ≠ []) (h1 : ∀ w ∈ B, Fre w) (h2 : ∀ w ∈ E, Fre w) : wordsR (line B E) = B ∧ wordsE (line B E) = E := by
  rw [line_text hB]
  exact words_text hB h1 h2
/-! ### lengths -/
theorem sum_le {n : Nat} : ∀ {B : List Str}, (∀ w ∈ B, w.length ≤ n) → (B.map (·.length)).sum ≤ n * B.length
  | [], _ => Nat.zero_le _
  | w :: r, h => by
    have a := h w (List.mem_cons_self ..)
    have b := sum_le (B := r) fun z hz => h z (List.mem_cons_of_mem _ hz)
    rw [List.map_cons, List.sum_cons, List.length_cons, Nat.mul_succ]
    omega
theorem join_len : ∀ B : List Str, (Txt.join " " B).length ≤ (B.map (·.length)).sum + B.length := by
  intro B
  rw [len_tl, tl_joinSp]
  induction B with
  | nil => simp [joinL]
  | cons w r ih =>
    cases r with
    | nil =>
      show (tl w).length ≤ _
      rw [← len_tl]
      simp
    | cons x r =>
      show (tl w ++ ([32] ++ joinL [32] ((x :: r).map tl))).length ≤ _
      rw [List.length_append, List.length_append, ← len_tl]
      simp only [List.map_cons, List.sum_cons, List.length_cons, List.length_nil] at ih ⊢
      omega
/-- short words, not many -/
def Sht (n : Nat) (B : List Str) : Prop := (∀ w ∈ B, w.length ≤ 11) ∧ B.length ≤ n
theorem Sht.sum {n : Nat} {B : List Str} (h : Sht n B) : (B.map (·.length)).sum + B.length * 1 ≤ 12 * n := by
  have := sum_le h.1
  have := h.2
  omega
theorem Sht.join {n : Nat} {B : List Str} (h : Sht n B) : (Txt.join " " B).length ≤ 12 * n := by
  have := h.sum
  have := join_len B
  omega
/-! ### bounds of what is cut -/
theorem spl_len (S : List Nat) : ∀ (k : Nat) (acc l : List Nat), (spl S k acc l).length ≤ l.length + 1
  | k, acc, [] => by rw [spl_nil]; simp
  | 0, acc, c :: r => by
    cases h : pre S (c :: r) with
    | true =>
      rw [spl_hit h, List.length_cons, List.length_cons]
      have := spl_len S (S.length - 1) [] r
      omega
    | false =>
      rw [spl_miss h, List.length_cons]
      have := spl_len S 0 (acc ++ [c]) r
      omega
  | k + 1, acc, _ :: r => by
    show (spl S k acc r).length ≤ _
    have := spl_len S k acc r
    rw [List.length_cons]
    omega
theorem spl_word (S : List Nat) : ∀ (k : Nat) (acc l : List Nat), ∀ p ∈ spl S k acc l, p.length ≤ acc.length + l.length
  | k, acc, [], p, hp => by
    rw [spl_nil] at hp
    rw [List.mem_singleton.mp hp]
    omega
  | 0, acc, c :: r, p, hp => by
    cases h : pre S (c :: r) with
    | true =>
      rw [spl_hit h] at hp
      rcases List.mem_cons.mp hp with rfl | hp
      · omega
      · have := spl_word S (S.length - 1) [] r p hp
        simp at this ⊢
        omega
    | false =>
      rw [spl_miss h] at hp
      have := spl_word S 0 (acc ++ [c]) r p hp
      simp at this ⊢
      omega
  | k + 1, acc, _ :: r, p, hp => by
    have := spl_word S k acc r p hp
    simp at this ⊢
    omega
theorem split_sp (x : Str) : (Txt.split x " ").map tl = spl [32] 0 [] (tl x) := by
  have := split_spl x " " (by rw [tlSp]; simp) (kind_ok (by decide +kernel))
  rwa [tlSp] at this
theorem split_len (x : Str) : (Txt.split x " ").length ≤ x.length + 1 := by
  have := spl_len [32] 0 [] (tl x)
  rw [← split_sp, List.length_map, ← len_tl] at this
  exact this
theorem split_word {x w : Str} (h : w ∈ Txt.split x " ") : w.length ≤ x.length := by
  have := spl_word [32] 0 [] (tl x) (tl w) (by rw [← split_sp]; exact List.mem_map.mpr ⟨w, h, rfl⟩)
  rw [← len_tl, ← len_tl] at this
  simpa using this
theorem part_len (x y : Str) : (Txt.partition x y).1.length ≤ x.length ∧ (Txt.partition x y).2.1.length ≤ y.length ∧ (Txt.partition x y).2.2.length ≤ x.length := by
  rcases PyProof.Rows.partition_whole x y with ⟨e, _⟩ | ⟨i, e, _, _⟩
  · rw [e]
    exact ⟨Nat.le_refl _, Nat.zero_le _, Nat.zero_le _⟩
  · rw [e]
    refine ⟨?_, Nat.le_refl _, ?_⟩
    · rw [len_tl, tl_strSub, List.length_take, List.length_drop, ← len_tl]
      omega
    · rw [len_tl, tl_strSub_end, List.length_drop, ← len_tl]
      omega
/-- the words of a text of at most n signs -/
theorem wordsR_len (t : Str) : (wordsR t).length ≤ t.length + 1 := by
  have := split_len (Txt.partition t " | ").1
  have := (part_len t " | ").1
  unfold wordsR
  omega
theorem wordsE_len (t : Str) : (wordsE t).length ≤ t.length + 1 := by
  unfold wordsE
  split
  · have := split_len (Txt.partition t " | ").2.2
    have := (part_len t " | ").2.2
    omega
  · simp
theorem wordsR_word {t w : Str} (h : w ∈ wordsR t) : w.length ≤ t.length := Nat.le_trans (split_word h) (part_len t " | ").1
theorem wordsE_word {t w : Str} (h : w ∈ wordsE t) : w.length ≤ t.length := by
  unfold wordsE at h
  split at h
  · exact Nat.le_trans (split_word h) (part_len t " | ").2.2
  · exact nomatch h
theorem wordsR_ne (t : Str) : wordsR t ≠ [] := split_ne _ _
end LM

/-! right loops: their words, and loops without a word -/
namespace LM
open PySem L2 TL
theorem part_back {x y : Str} (h : ((Txt.partition x y).2.1.length != 0) = true) : x = (Txt.partition x y).1 ++ y ++ (Txt.partition x y).2.2 := by
  rcases PyProof.Rows.partition_whole x y with ⟨e, _⟩ | ⟨i, e, hi, _⟩
  · rw [e] at h
    exact absurd (show ((Str.empty).length != 0) = true from h) (by decide)
  · rw [e]
    refine ext_tl ?_
    rw [tl_append, tl_append, tl_strSub, tl_strSub_end, List.drop_zero, Nat.sub_zero]
    by_cases hy : tl y = []
    · have : y.length = 0 := by rw [len_tl, hy]; rfl
      rw [hy, this, List.append_nil, Nat.add_zero, List.take_append_drop]
    · have hp := (at_iff hy i).mp hi
      have e2 : ((tl x).drop i).take (tl y).length = tl y := eq_of_beq hp
      have e3 : tl y ++ (tl x).drop (i + y.length) = (tl x).drop i := by
        rw [len_tl y, ← drop_two]
        have := List.take_append_drop (tl y).length ((tl x).drop i)
        rw [e2] at this
        exact this
      rw [List.append_assoc, e3, List.take_append_drop]
theorem word_wd {w : Str} {ss : List Str} (h : isWord w ss = true) : Wd ss w := by
  unfold isWord at h
  cases hc : ((Txt.partition w ":").2.1.length != 0) with
  | true =>
    rw [if_pos hc] at h
    have h2 := Bool.and_eq_true_iff.mp h
    exact ⟨_, of_decide_eq_true h2.2, .inr ⟨_, of_decide_eq_true h2.1, part_back hc⟩⟩
  | false =>
    rw [if_neg (by rw [hc]; exact Bool.false_ne_true)] at h
    exact ⟨w, of_decide_eq_true h, .inl rfl⟩
/-- free and short -/
def FS (w : Str) : Prop := Fre w ∧ w.length ≤ 11
theorem wd_fs {w : Str} (h : Wd rsteps w) : FS w := by
  have := wd_ok w h.mem
  unfold wdOk at this
  simp only [Bool.and_eq_true, decide_eq_true_eq] at this
  exact ⟨⟨this.2.1, this.2.2.1⟩, this.2.2.2⟩
theorem e_r : ∀ s ∈ esteps, s ∈ rsteps := by decide +kernel
theorem ask_fs : FS "ask" := ⟨⟨by decide +kernel, by decide +kernel⟩, by decide +kernel⟩
theorem areWords_iff {ws ss : List Str} : areWords ws ss = true ↔ ∀ w ∈ ws, isWord w ss = true := List.all_eq_true
theorem isRound_iff {B : List Str} : isRound B = true ↔ ∃ r, B = ("ask" : Str) :: r ∧ B.length ≤ 12 ∧ (B.filter isAdd).length ≤ 1 ∧ ∀ w ∈ r, isWord w rsteps = true := by
  unfold isRound
  simp only [Bool.and_eq_true, decide_eq_true_eq, areWords_iff]
  constructor
  · rintro ⟨h1, h2, h3, h4⟩
    cases B with
    | nil => cases h1
    | cons x r =>
      have : x = "ask" := Option.some.inj h1
      subst this
      exact ⟨r, rfl, h2, h3, h4⟩
  · rintro ⟨r, rfl, h2, h3, h4⟩
    exact ⟨rfl, h2, h3, h4⟩
theorem isEnding_iff {E : List Str} : isEnding E = true ↔ E.length ≤ 6 ∧ ∀ w ∈ E, isWord w esteps = true := by
  unfold isEnding
  simp only [Bool.and_eq_true, decide_eq_true_eq, areWords_iff]
theorem round_fs {B : List Str} (h : isRound B = true) : ∀ w ∈ B, FS w := by
  obtain ⟨r, rfl, _, _, h4⟩ := isRound_iff.mp h
  intro w hw
  rcases List.mem_cons.mp hw with rfl | hw
  · exact ask_fs
  · exact wd_fs (word_wd (h4 w hw))
theorem ending_fs {E : List Str} (h : isEnding E = true) : ∀ w ∈ E, FS w := fun w hw => wd_fs ((word_wd ((isEnding_iff.mp h).2 w hw)).mono e_r)
theorem round_ne {B : List Str} (h : isRound B = true) : B ≠ [] := by
  obtain ⟨r, rfl, _⟩ := isRound_iff.mp h
  simp
theorem round_sht {B : List Str} (h : isRound B = true) : Sht 12 B := ⟨fun w hw => (round_fs h w hw).2, let ⟨_, _, h2, _⟩ := isRound_iff.mp h; h2⟩
theorem ending_sht {E : List Str} (h : isEnding E = true) : Sht 6 E := ⟨fun w hw => (ending_fs h w hw).2, (isEnding_iff.mp h).1⟩
theorem Sht.mono {n m : Nat} {B : List Str} (h : Sht n B) (l : n ≤ m) : Sht m B := ⟨h.1, Nat.le_trans h.2 l⟩
theorem text_words {B E : List Str} (hB : isRound B = true) (hE : isEnding E = true) : wordsR (textOf B E) = B ∧ wordsE (textOf B E) = E := words_text (round_ne hB) (fun w hw => (round_fs hB w hw).1) (fun w hw => (ending_fs hE w hw).1)
theorem text_good {B E : List Str} (hB : isRound B = true) (hE : isEnding E = true) : goodText (textOf B E) = true := by
  have := text_words hB hE
  unfold goodText
  rw [this.1, this.2, hB, hE]
  rfl
theorem text_len {B E : List Str} (hB : isRound B = true) (hE : isEnding E = true) : (textOf B E).length ≤ 300 := by
  have h1 := (round_sht hB).join
  have h2 := (ending_sht hE).join
  unfold textOf
  split
  · omega
  · rw [strLen_append, strLen_append]
    have : (" | " : Str).length = 3 := by decide +kernel
    omega
/-- without the word at i -/
theorem round_erase {B : List Str} {i : Nat} (hB : isRound B = true) (hi : 1 ≤ i) : isRound (B.eraseIdx i) = true := by
  obtain ⟨r, rfl, h2, h3, h4⟩ := isRound_iff.mp hB
  obtain ⟨k, rfl⟩ : ∃ k, i = k + 1 := ⟨i - 1, by omega⟩
  have sub : (("ask" : Str) :: r.eraseIdx k).Sublist (("ask" : Str) :: r) := (List.eraseIdx_sublist r k).cons_cons _
  refine isRound_iff.mpr ⟨r.eraseIdx k, rfl, Nat.le_trans sub.length_le h2, Nat.le_trans (sub.filter isAdd).length_le h3, fun w hw => h4 w ((List.eraseIdx_sublist r k).subset hw)⟩
theorem ending_erase {E : List Str} {i : Nat} (hE : isEnding E = true) : isEnding (E.eraseIdx i) = true := by
  have h := isEnding_iff.mp hE
  exact isEnding_iff.mpr ⟨Nat.le_trans (List.eraseIdx_sublist E i).length_le h.1, fun w hw => h.2 w ((List.eraseIdx_sublist E i).subset hw)⟩
theorem good_iff {t : Str} : goodText t = true ↔ isRound (wordsR t) = true ∧ isEnding (wordsE t) = true := Bool.and_eq_true_iff
end LM

/-! loops that are drawn -/
namespace LM
open PySem L2 TL
def sBar : Str := " | "
def sSp : Str := " "
def samples : List Str := ["ask empty:stop hand", "ask hand short:stop", "ask add cut told:stop | rest:flush", "ask told:stop hand", "ask add empty:stop | rest:flush", "ask add cut empty:stop | flush", "ask some:hand told:stop", "ask empty:stop add cut | rest:flush", "ask empty:again hand told:stop", "ask add full:flush told:stop"]
def sampP (s : Str) : List Str := Txt.split s " | "
def sampB (s : Str) : List Str := Txt.split ((sampP s).getD 0 Str.empty) " "
def sampE (s : Str) : List Str := if (sampP s).length > 1 then Txt.split ((sampP s).getD 1 Str.empty) " " else []
def sampOk (s : Str) : Bool := isRound (sampB s) && (isEnding (sampE s) && (decide ((sampB s).length ≤ 4) && (decide ((sampE s).length ≤ 1) && (decide (1 ≤ (sampP s).length) && (decide (s.length ≤ 100) && (sampP s).all fun p => decide (p.length ≤ 100))))))
theorem samp_ok : ∀ s ∈ samples, sampOk s = true := by decide +kernel
structure Samp (s : Str) : Prop where
  r : isRound (sampB s) = true
  e : isEnding (sampE s) = true
  lb : (sampB s).length ≤ 4
  le : (sampE s).length ≤ 1
  l1 : 1 ≤ (sampP s).length
  ls : s.length ≤ 100
  lp : ∀ p ∈ sampP s, p.length ≤ 100
theorem samp_of {s : Str} (h : s ∈ samples) : Samp s := by
  have := samp_ok s h
  unfold sampOk at this
  simp only [Bool.and_eq_true, decide_eq_true_eq, List.all_eq_true] at this
  exact ⟨this.1, this.2.1, this.2.2.1, this.2.2.2.1, this.2.2.2.2.1, this.2.2.2.2.2.1, this.2.2.2.2.2.2⟩
/-! ### a word more -/
def plain5 : List Str := ["hand", "cut", "flush", "stop", "again"]
theorem wd_round {w : Str} (h : Wd rsteps w) : isWord w rsteps = true := by
  have := wd_ok w h.mem
  unfold wdOk at this
  exact (Bool.and_eq_true_iff.mp this).1
theorem wd_ending {w : Str} (h : Wd esteps w) : isWord w esteps = true := wd_end w h.mem
theorem wd_plain {w : Str} (h : Wd plain5 w) : isAdd w = false := wd_noadd w h.mem
theorem ask_noadd : isAdd "ask" = false := by decide +kernel
theorem ins_round {B xs : List Str} {i : Nat} (hB : isRound B = true) (hi : 1 ≤ i) (hx : ∀ x ∈ xs, isWord x rsteps = true) (hl : B.length + xs.length ≤ 12) (ha : (B.filter isAdd).length + (xs.filter isAdd).length ≤ 1) :
    isRound (B.take i ++ xs ++ B.drop i) = true := by
  obtain ⟨r, rfl, h2, h3, h4⟩ := isRound_iff.mp hB
  obtain ⟨k, rfl⟩ : ∃ k, i = k + 1 := ⟨i - 1, by omega⟩
  refine isRound_iff.mpr ⟨r.take k ++ xs ++ r.drop k, rfl, ?_, ?_, fun w hw => ?_⟩
  · rw [List.length_append, List.length_append, List.length_take, List.length_drop]
    omega
  · rw [List.filter_append, List.filter_append, List.length_append, List.length_append]
    have e : (((("ask" : Str) :: r).take (k + 1)).filter isAdd).length + (((("ask" : Str) :: r).drop (k + 1)).filter isAdd).length = ((("ask" : Str) :: r).filter isAdd).length := by
      rw [← List.length_append, ← List.filter_append, List.take_append_drop]
    omega
  · rcases List.mem_append.mp hw with hw | hw
    · rcases List.mem_append.mp hw with hw | hw
      · exact h4 w (List.mem_of_mem_take hw)
      · exact hx w hw
    · exact h4 w (List.mem_of_mem_drop hw)
theorem ask_round {ws : List Str} (h : ∀ w ∈ ws, Wd plain5 w) (hl : ws.length ≤ 11) : isRound (("ask" : Str) :: ws) = true ∧ ((("ask" : Str) :: ws).filter isAdd).length = 0 := by
  have e : ((("ask" : Str) :: ws).filter isAdd) = [] := by
    refine List.filter_eq_nil_iff.mpr fun w hw => ?_
    rcases List.mem_cons.mp hw with rfl | hw
    · rw [ask_noadd]; exact Bool.false_ne_true
    · rw [wd_plain (h w hw)]; exact Bool.false_ne_true
  refine ⟨isRound_iff.mpr ⟨ws, rfl, by rw [List.length_cons]; omega, by rw [e]; exact Nat.zero_le _, fun w hw => wd_round ((h w hw).mono (by decide +kernel))⟩, by rw [e]; rfl⟩
theorem one_filter {xs : List Str} (h : xs.length = 1) : (xs.filter isAdd).length ≤ 1 := Nat.le_trans (List.length_filter_le ..) (by omega)
theorem none_filter {xs : List Str} (h : ∀ w ∈ xs, Wd plain5 w) : (xs.filter isAdd).length = 0 := by
  rw [show xs.filter isAdd = [] from List.filter_eq_nil_iff.mpr fun w hw => by rw [wd_plain (h w hw)]; exact Bool.false_ne_true]
  rfl
theorem round_adds {B : List Str} (h : isRound B = true) : (B.filter isAdd).length ≤ 1 := let ⟨_, _, _, h3, _⟩ := isRound_iff.mp h; h3
theorem words_ending {E : List Str} (h : ∀ w ∈ E, Wd esteps w) (hl : E.length ≤ 6) : isEnding E = true := isEnding_iff.mpr ⟨hl, fun w hw => wd_ending (h w hw)⟩
/-! ### signs that are signs -/
def Asc (w : Str) : Prop := PyData.strOk w = true
theorem asc_iff {w : Str} : Asc w ↔ ∀ c ∈ tl w, c < 1114112 := by
  unfold Asc PyData.strOk
  rw [← Array.all_toList, List.all_eq_true]
  simp
theorem Asc.app {a b : Str} (ha : Asc a) (hb : Asc b) : Asc (a ++ b) := by
  rw [asc_iff] at ha hb ⊢
  rw [tl_append]
  intro c hc
  exact (List.mem_append.mp hc).elim (ha c) (hb c)
theorem asc_join {B : List Str} (h : ∀ w ∈ B, Asc w) : Asc (Txt.join " " B) := by
  rw [asc_iff, tl_joinSp]
  intro c hc
  rcases joinL_mem hc with hc | ⟨p, hp, hc⟩
  · rw [List.mem_singleton.mp hc]
    decide
  · obtain ⟨w, hw, rfl⟩ := List.mem_map.mp hp
    exact asc_iff.mp (h w hw) c hc
theorem asc_bar : Asc " | " := by unfold Asc; decide +kernel
theorem asc_text {B E : List Str} (h1 : ∀ w ∈ B, Asc w) (h2 : ∀ w ∈ E, Asc w) : Asc (textOf B E) := by
  unfold textOf
  split
  · exact asc_join h1
  · exact ((asc_join h1).app asc_bar).app (asc_join h2)
theorem wd_asc' : ∀ w ∈ allWd rsteps, PyData.strOk w = true := by decide +kernel
theorem wd_asc {w : Str} (h : Wd rsteps w) : Asc w := wd_asc' w h.mem
theorem ask_asc : Asc "ask" := by unfold Asc; decide +kernel
theorem round_asc {B : List Str} (h : isRound B = true) : ∀ w ∈ B, Asc w := by
  obtain ⟨r, rfl, _, _, h4⟩ := isRound_iff.mp h
  intro w hw
  rcases List.mem_cons.mp hw with rfl | hw
  · exact ask_asc
  · exact wd_asc (word_wd (h4 w hw))
theorem ending_asc {E : List Str} (h : isEnding E = true) : ∀ w ∈ E, Asc w := fun w hw => wd_asc ((word_wd ((isEnding_iff.mp h).2 w hw)).mono e_r)
end LM

/-! rows of pieces: what cutters make of them -/
namespace CH
def evenly (n w : Nat) : List Nat := List.replicate (n / w) w ++ (if n % w = 0 then [] else [n % w])
def chop (xs : List Nat) (w : Nat) : List Nat := xs.flatMap fun x => evenly x w
def tailS (xs : List Nat) (w : Nat) : List Nat := if 2 ≤ xs.length ∧ xs.getD (xs.length - 1) 0 < w then xs.take (xs.length - 2) ++ [xs.getD (xs.length - 2) 0 + xs.getD (xs.length - 1) 0] else xs
inductive Kd | cut | fill | tail
  deriving DecidableEq
def applyS (n : Nat) (c : Kd × Nat) (xs : List Nat) : List Nat := match c.1 with
  | .cut => chop xs c.2
  | .fill => evenly n c.2
  | .tail => tailS xs c.2
def wholeS (n : Nat) : List Nat := if n = 0 then [] else [n]
/-- the sizes of the pieces -/
def lens (cs : List (Kd × Nat)) (n : Nat) : List Nat := cs.foldl (fun xs c => applyS n c xs) (wholeS n)
structure Rw where
  unit : List Nat
  times : Nat
  last : List Nat
def Rw.sizes (r : Rw) : List Nat := (List.replicate r.times r.unit).flatten ++ r.last
def Rw.many (r : Rw) : Nat := r.times * r.unit.length + r.last.length
def Rw.tot (r : Rw) : Nat := r.times * r.unit.sum + r.last.sum
def fillR (r : Rw) (w : Nat) : Rw := ⟨[w], r.tot / w, if r.tot % w = 0 then [] else [r.tot % w]⟩
def cutR (r : Rw) (w : Nat) : Rw := if r.many = 1 then fillR r w else ⟨chop r.unit w, r.times, chop r.last w⟩
def pull (u : List Nat) : Nat → List Nat → Nat × List Nat
  | 0, l => (0, l)
  | t + 1, l => if l.length < 2 then pull u t (u ++ l) else (t + 1, l)
def tailR (r : Rw) (w : Nat) : Rw := ⟨r.unit, (pull r.unit r.times r.last).1, tailS (pull r.unit r.times r.last).2 w⟩
def wholeR (n : Nat) : Rw := ⟨[], 0, wholeS n⟩
def applyR (c : Kd × Nat) (r : Rw) : Rw := match c.1 with
  | .cut => cutR r c.2
  | .fill => fillR r c.2
  | .tail => tailR r c.2
def rowOf (cs : List (Kd × Nat)) (n : Nat) : Rw := cs.foldl (fun r c => applyR c r) (wholeR n)
/-! ### lists -/
theorem rep_len (u : List Nat) : ∀ t, (List.replicate t u).flatten.length = t * u.length
  | 0 => by simp
  | t + 1 => by rw [List.replicate_succ, List.flatten_cons, List.length_append, rep_len u t, Nat.succ_mul]; omega
theorem rep_sum (u : List Nat) : ∀ t, (List.replicate t u).flatten.sum = t * u.sum
  | 0 => by simp
  | t + 1 => by rw [List.replicate_succ, List.flatten_cons, List.sum_append, rep_sum u t, Nat.succ_mul]; omega
theorem sizes_len (r : Rw) : r.sizes.length = r.many := by unfold Rw.sizes Rw.many; rw [List.length_append, rep_len]
theorem sizes_sum (r : Rw) : r.sizes.sum = r.tot := by unfold Rw.sizes Rw.tot; rw [List.sum_append, rep_sum]
theorem flat_one (w : Nat) : ∀ t, (List.replicate t [w]).flatten = List.replicate t w
  | 0 => rfl
  | t + 1 => by rw [List.replicate_succ, List.flatten_cons, flat_one w t, List.replicate_succ]; rfl
theorem fill_sizes (r : Rw) (w : Nat) : (fillR r w).sizes = evenly r.tot w := by
  unfold fillR Rw.sizes evenly
  rw [flat_one]
theorem evenly_sum (n w : Nat) : (evenly n w).sum = n := by
  unfold evenly
  rw [List.sum_append, List.sum_replicate_nat]
  have := Nat.div_add_mod n w
  split
  · rw [List.sum_nil]; rw [Nat.mul_comm]; omega
  · rw [List.sum_singleton, Nat.mul_comm]; omega
theorem chop_app (a b : List Nat) (w : Nat) : chop (a ++ b) w = chop a w ++ chop b w := by unfold chop; rw [List.flatMap_append]
theorem chop_rep (u : List Nat) (w : Nat) : ∀ t, chop (List.replicate t u).flatten w = (List.replicate t (chop u w)).flatten
  | 0 => rfl
  | t + 1 => by rw [List.replicate_succ, List.flatten_cons, chop_app, chop_rep u w t, List.replicate_succ, List.flatten_cons]
theorem chop_sum (w : Nat) : ∀ xs, (chop xs w).sum = xs.sum
  | [] => rfl
  | x :: r => by
    show (evenly x w ++ chop r w).sum = _
    rw [List.sum_append, evenly_sum, chop_sum w r, List.sum_cons]
theorem cut_sizes (r : Rw) (w : Nat) : (cutR r w).sizes = chop r.sizes w := by
  unfold cutR
  split
  · rename_i h
    rw [fill_sizes]
    rw [← sizes_len] at h
    rw [← sizes_sum]
    match r.sizes, h with
    | [x], _ =>
      show evenly (x + 0) w = evenly x w ++ []
      rw [List.append_nil]; rfl
  · show (List.replicate r.times (chop r.unit w)).flatten ++ chop r.last w = _
    unfold Rw.sizes
    rw [chop_app, chop_rep]
theorem pull_sizes (u : List Nat) : ∀ (t : Nat) (l : List Nat), (List.replicate (pull u t l).1 u).flatten ++ (pull u t l).2 = (List.replicate t u).flatten ++ l
  | 0, l => rfl
  | t + 1, l => by
    unfold pull
    split
    · rw [pull_sizes u t (u ++ l), List.replicate_succ', List.flatten_append, List.append_assoc]
      simp
    · rfl
theorem pull_end (u : List Nat) : ∀ (t : Nat) (l : List Nat), (pull u t l).1 = 0 ∨ 2 ≤ (pull u t l).2.length
  | 0, l => .inl rfl
  | t + 1, l => by
    unfold pull
    split
    · exact pull_end u t (u ++ l)
    · right; show 2 ≤ l.length; omega
theorem getD_app (a b : List Nat) (i : Nat) (h : a.length ≤ i) : (a ++ b).getD i 0 = b.getD (i - a.length) 0 := by
  rw [List.getD_eq_getElem?_getD, List.getD_eq_getElem?_getD, List.getElem?_append_right h]
theorem tailS_app (a b : List Nat) (w : Nat) (h : 2 ≤ b.length) : tailS (a ++ b) w = a ++ tailS b w := by
  unfold tailS
  rw [List.length_append, getD_app a b _ (by omega), getD_app a b _ (by omega), show a.length + b.length - 1 - a.length = b.length - 1 by omega, show a.length + b.length - 2 - a.length = b.length - 2 by omega]
  by_cases c : b.getD (b.length - 1) 0 < w
  · rw [if_pos ⟨by omega, c⟩, if_pos ⟨h, c⟩, List.take_append, List.take_of_length_le (by omega), List.append_assoc, show a.length + b.length - 2 - a.length = b.length - 2 by omega]
  · rw [if_neg fun z => c z.2, if_neg fun z => c z.2]
theorem tail_sizes (r : Rw) (w : Nat) : (tailR r w).sizes = tailS r.sizes w := by
  show (List.replicate (pull r.unit r.times r.last).1 r.unit).flatten ++ tailS (pull r.unit r.times r.last).2 w = _
  have e := pull_sizes r.unit r.times r.last
  unfold Rw.sizes
  rw [← e]
  rcases pull_end r.unit r.times r.last with h | h
  · rw [h]; rfl
  · rw [tailS_app _ _ _ h]
theorem getD_eq {xs : List Nat} {i : Nat} (h : i < xs.length) : xs.getD i 0 = xs[i] := by rw [List.getD_eq_getElem?_getD, List.getElem?_eq_getElem h]; rfl
theorem two_last {xs : List Nat} (h : 2 ≤ xs.length) : xs = xs.take (xs.length - 2) ++ [xs.getD (xs.length - 2) 0, xs.getD (xs.length - 1) 0] := by
  have e : xs.drop (xs.length - 2) = [xs.getD (xs.length - 2) 0, xs.getD (xs.length - 1) 0] := by
    rw [List.drop_eq_getElem_cons (by omega), List.drop_eq_getElem_cons (by omega), List.drop_of_length_le (by omega)]
    rw [getD_eq (by omega), getD_eq (by omega)]
    have e : xs.length - 2 + 1 = xs.length - 1 := by omega
    simp [e]
  rw [← e, List.take_append_drop]
theorem tailS_sum (xs : List Nat) (w : Nat) : (tailS xs w).sum = xs.sum := by
  unfold tailS
  split
  · rename_i h
    rw [List.sum_append]
    conv => rhs; rw [two_last h.1]
    rw [List.sum_append]
    simp
  · rfl
theorem wholeS_sum (n : Nat) : (wholeS n).sum = n := by
  unfold wholeS
  split
  · rename_i h; rw [h]; rfl
  · simp
theorem applyS_sum (n : Nat) (c : Kd × Nat) (xs : List Nat) (h : xs.sum = n) : (applyS n c xs).sum = n := by
  unfold applyS
  split
  · rw [chop_sum, h]
  · rw [evenly_sum]
  · rw [tailS_sum, h]
theorem fold_sizes (n : Nat) : ∀ (cs : List (Kd × Nat)) (r : Rw) (xs : List Nat), r.sizes = xs → xs.sum = n → (cs.foldl (fun r c => applyR c r) r).sizes = cs.foldl (fun xs c => applyS n c xs) xs ∧ (cs.foldl (fun xs c => applyS n c xs) xs).sum = n
  | [], r, xs, h1, h2 => ⟨h1, h2⟩
  | c :: cs, r, xs, h1, h2 => by
    refine fold_sizes n cs (applyR c r) (applyS n c xs) ?_ (applyS_sum n c xs h2)
    unfold applyR applyS
    split
    · rw [cut_sizes, h1]
    · rw [fill_sizes, ← sizes_sum, h1, h2]
    · rw [tail_sizes, h1]
theorem row_sizes (cs : List (Kd × Nat)) (n : Nat) : (rowOf cs n).sizes = lens cs n := (fold_sizes n cs (wholeR n) (wholeS n) rfl (wholeS_sum n)).1
theorem lens_sum (cs : List (Kd × Nat)) (n : Nat) : (lens cs n).sum = n := (fold_sizes n cs (wholeR n) (wholeS n) rfl (wholeS_sum n)).2
theorem row_many (cs : List (Kd × Nat)) (n : Nat) : (rowOf cs n).many = (lens cs n).length := by rw [← sizes_len, row_sizes]
theorem row_tot (cs : List (Kd × Nat)) (n : Nat) : (rowOf cs n).tot = n := by rw [← sizes_sum, row_sizes, lens_sum]
/-! ### all pieces have items -/
def Pos (xs : List Nat) : Prop := ∀ x ∈ xs, 0 < x
theorem Pos.app {a b : List Nat} (ha : Pos a) (hb : Pos b) : Pos (a ++ b) := fun x h => (List.mem_append.mp h).elim (ha x) (hb x)
theorem Pos.len {xs : List Nat} (h : Pos xs) : xs.length ≤ xs.sum := by
  induction xs with
  | nil => simp
  | cons x r ih =>
    have a := h x (List.mem_cons_self ..)
    have b := ih fun y hy => h y (List.mem_cons_of_mem _ hy)
    rw [List.length_cons, List.sum_cons]
    omega
theorem pos_evenly {n w : Nat} (hw : 0 < w) : Pos (evenly n w) := by
  intro x hx
  unfold evenly at hx
  rcases List.mem_append.mp hx with h | h
  · rw [(List.mem_replicate.mp h).2]; exact hw
  · split at h
    · cases h
    · rw [List.mem_singleton.mp h]; omega
theorem pos_chop {xs : List Nat} {w : Nat} (hw : 0 < w) : Pos (chop xs w) := by
  intro x hx
  obtain ⟨y, _, h⟩ := List.mem_flatMap.mp hx
  exact pos_evenly hw x h
theorem pos_tailS {xs : List Nat} {w : Nat} (h : Pos xs) : Pos (tailS xs w) := by
  unfold tailS
  split
  · rename_i c
    refine Pos.app (fun x hx => h x (List.mem_of_mem_take hx)) fun x hx => ?_
    rw [List.mem_singleton.mp hx]
    have := h (xs.getD (xs.length - 2) 0) (by rw [getD_eq (by omega)]; exact List.getElem_mem _)
    omega
  · exact h
theorem pos_wholeS (n : Nat) : Pos (wholeS n) := by
  unfold wholeS
  split
  · intro x h; cases h
  · intro x h; rw [List.mem_singleton.mp h]; omega
theorem pos_rep {u : List Nat} {t : Nat} (h : Pos u) : Pos (List.replicate t u).flatten := by
  intro x hx
  obtain ⟨l, hl, hx⟩ := List.mem_flatten.mp hx
  rw [(List.mem_replicate.mp hl).2] at hx
  exact h x hx
/-- what holds of a row behind k cutters -/
structure Inv (k : Nat) (r : Rw) : Prop where
  pu : Pos r.unit
  pl : Pos r.last
  f : (r.unit = [] ∧ r.times = 0 ∧ r.last.length ≤ 1) ∨ (r.unit ≠ [] ∧ r.unit.sum ≤ 12 ∧ r.last.sum ≤ 24 * k + 12)
theorem inv_whole (n : Nat) : Inv 0 (wholeR n) := ⟨fun x h => (nomatch h), pos_wholeS n, .inl ⟨rfl, rfl, by show (wholeS n).length ≤ 1; unfold wholeS; split <;> simp⟩⟩
theorem inv_fill {k : Nat} {r : Rw} {w : Nat} (hw : 0 < w) (h12 : w ≤ 12) : Inv (k + 1) (fillR r w) := by
  refine ⟨fun x h => ?_, fun x h => ?_, .inr ⟨by simp [fillR], by show [w].sum ≤ 12; simpa using h12, ?_⟩⟩
  · rw [List.mem_singleton.mp h]; exact hw
  · unfold fillR at h
    simp only at h
    split at h
    · cases h
    · rw [List.mem_singleton.mp h]; omega
  · show (if r.tot % w = 0 then [] else [r.tot % w]).sum ≤ _
    have := Nat.mod_lt r.tot hw
    split
    · simp
    · simp; omega
theorem evenly_ne {n w : Nat} (hn : 0 < n) : evenly n w ≠ [] := fun e => by
  have := evenly_sum n w
  rw [e] at this
  simp at this
  omega
theorem inv_cut {k : Nat} {r : Rw} {w : Nat} (hw : 0 < w) (h12 : w ≤ 12) (h : Inv k r) : Inv (k + 1) (cutR r w) := by
  unfold cutR
  split
  · exact inv_fill hw h12
  · rename_i hm
    refine ⟨pos_chop hw, pos_chop hw, ?_⟩
    rcases h.f with ⟨a, b, c⟩ | ⟨a, b, c⟩
    · left
      refine ⟨by rw [a]; rfl, b, ?_⟩
      have : r.last.length = 0 := by
        unfold Rw.many at hm
        rw [b] at hm
        omega
      rw [List.eq_nil_of_length_eq_zero this]
      simp [chop]
    · right
      refine ⟨fun e => ?_, by rw [chop_sum]; exact b, by rw [chop_sum]; show r.last.sum ≤ _; omega⟩
      obtain ⟨x, u, hu⟩ := List.exists_cons_of_ne_nil a
      rw [hu] at e
      have e2 : evenly x w ++ chop u w = [] := e
      exact evenly_ne (h.pu x (by rw [hu]; exact List.mem_cons_self ..)) (List.append_eq_nil_iff.mp e2).1
theorem pull_len (u : List Nat) (hu : u ≠ []) : ∀ (t : Nat) (l : List Nat), (pull u t l).2.sum ≤ l.sum + (2 - l.length) * u.sum
  | 0, l => by show l.sum ≤ _; omega
  | t + 1, l => by
    unfold pull
    split
    · have ih := pull_len u hu t (u ++ l)
      have hl : 1 ≤ u.length := List.length_pos_iff.mpr hu
      rw [List.sum_append, List.length_append] at ih
      have : (2 - (u.length + l.length)) * u.sum ≤ (1 - l.length) * u.sum := Nat.mul_le_mul_right _ (by omega)
      have e : (2 - l.length) * u.sum = (1 - l.length) * u.sum + u.sum := by
        rw [show 2 - l.length = (1 - l.length) + 1 by omega, Nat.succ_mul]
      omega
    · show l.sum ≤ _; omega
theorem pos_pull {u : List Nat} (hu : Pos u) : ∀ (t : Nat) {l : List Nat}, Pos l → Pos (pull u t l).2
  | 0, l, h => h
  | t + 1, l, h => by
    unfold pull
    split
    · exact pos_pull hu t (hu.app h)
    · exact h
theorem inv_tail {k : Nat} {r : Rw} {w : Nat} (h : Inv k r) : Inv (k + 1) (tailR r w) := by
  refine ⟨h.pu, pos_tailS (pos_pull h.pu _ h.pl), ?_⟩
  rcases h.f with ⟨a, b, c⟩ | ⟨a, b, c⟩
  · left
    refine ⟨a, ?_, ?_⟩
    · show (pull r.unit r.times r.last).1 = 0
      rw [b]; rfl
    · show (tailS (pull r.unit r.times r.last).2 w).length ≤ 1
      rw [b]
      show (tailS r.last w).length ≤ 1
      unfold tailS
      rw [if_neg (fun z => by have := z.1; omega)]
      exact c
  · right
    refine ⟨a, b, ?_⟩
    show (tailS (pull r.unit r.times r.last).2 w).sum ≤ _
    rw [tailS_sum]
    have := pull_len r.unit a r.times r.last
    have : (2 - r.last.length) * r.unit.sum ≤ 2 * 12 := Nat.mul_le_mul (by omega) b
    omega
theorem inv_apply {k : Nat} {r : Rw} {c : Kd × Nat} (h1 : 0 < c.2) (h2 : c.2 ≤ 12) (h : Inv k r) : Inv (k + 1) (applyR c r) := by
  unfold applyR
  split
  · exact inv_cut h1 h2 h
  · exact inv_fill h1 h2
  · exact inv_tail h
/-! ### pieces and places -/
theorem take_rep (u : List Nat) : ∀ (t i : Nat), i < t * u.length → ((List.replicate t u).flatten.take i).sum = i / u.length * u.sum + (u.take (i % u.length)).sum ∧ (List.replicate t u).flatten[i]? = u[i % u.length]?
  | 0, i, h => by omega
  | t + 1, i, h => by
    rw [List.replicate_succ, List.flatten_cons]
    rw [Nat.succ_mul] at h
    by_cases c : i < u.length
    · rw [Nat.div_eq_of_lt c, Nat.mod_eq_of_lt c, List.take_append, List.getElem?_append_left c, show i - u.length = 0 by omega]
      simp
    · have hp : 0 < u.length := by
        rcases Nat.eq_zero_or_pos u.length with z | z
        · rw [z] at h; omega
        · exact z
      obtain ⟨a, b⟩ := take_rep u t (i - u.length) (by omega)
      rw [List.take_append, List.take_of_length_le (by omega), List.sum_append, List.getElem?_append_right (by omega), a, b, Nat.mod_eq_sub_mod (by omega : u.length ≤ i), Nat.div_eq_sub_div hp (by omega : u.length ≤ i)]
      refine ⟨?_, rfl⟩
      rw [Nat.succ_mul]
      omega
/-- the place of the piece with this item -/
def placeA : List Nat → Nat → Nat
  | [], _ => 0
  | x :: r, i => if i < x then 0 else 1 + placeA r (i - x)
theorem placeA_app : ∀ (a b : List Nat) (i : Nat), placeA (a ++ b) i = if i < a.sum then placeA a i else a.length + placeA b (i - a.sum)
  | [], b, i => by simp
  | x :: r, b, i => by
    rw [List.cons_append, List.sum_cons, List.length_cons]
    show (if i < x then 0 else 1 + placeA (r ++ b) (i - x)) = _
    have e : placeA (x :: r) i = if i < x then 0 else 1 + placeA r (i - x) := rfl
    rw [placeA_app r b, e]
    by_cases h1 : i < x
    · rw [if_pos h1, if_pos (by omega), if_pos h1]
    · rw [if_neg h1]
      by_cases h2 : i < x + r.sum
      · rw [if_pos h2, if_neg h1, if_pos (by omega)]
      · rw [if_neg h2, if_neg (by omega), show i - x - r.sum = i - (x + r.sum) by omega]
        omega
theorem placeA_rep (u : List Nat) : ∀ (t i : Nat), i < t * u.sum → placeA (List.replicate t u).flatten i = i / u.sum * u.length + placeA u (i % u.sum)
  | 0, i, h => by omega
  | t + 1, i, h => by
    rw [List.replicate_succ, List.flatten_cons, placeA_app]
    rw [Nat.succ_mul] at h
    by_cases c : i < u.sum
    · rw [if_pos c, Nat.div_eq_of_lt c, Nat.mod_eq_of_lt c]
      omega
    · rw [if_neg c]
      have hp : 0 < u.sum := by
        rcases Nat.eq_zero_or_pos u.sum with z | z
        · rw [z] at h; omega
        · exact z
      rw [placeA_rep u t (i - u.sum) (by omega), Nat.mod_eq_sub_mod (by omega : u.sum ≤ i), Nat.div_eq_sub_div hp (by omega : u.sum ≤ i), Nat.succ_mul]
      omega
theorem placeA_lt : ∀ (xs : List Nat) (i : Nat), i < xs.sum → placeA xs i < xs.length ∧ (xs.take (placeA xs i)).sum ≤ i ∧ i < (xs.take (placeA xs i)).sum + xs.getD (placeA xs i) 0
  | [], i, h => by simp at h
  | x :: r, i, h => by
    rw [List.sum_cons] at h
    have e : placeA (x :: r) i = if i < x then 0 else 1 + placeA r (i - x) := rfl
    rw [e]
    by_cases c : i < x
    · rw [if_pos c]
      simp
      exact c
    · rw [if_neg c]
      obtain ⟨a, b, d⟩ := placeA_lt r (i - x) (by omega)
      rw [Nat.add_comm 1, List.take_succ_cons, List.sum_cons, List.length_cons]
      refine ⟨by omega, by omega, ?_⟩
      show i < x + _ + (r.getD _ 0)
      omega
/-- the answers of a row -/
def pieceR (r : Rw) (p : Nat) : Nat × Nat := if p < r.times * r.unit.length then (p / r.unit.length * r.unit.sum + (r.unit.take (p % r.unit.length)).sum, r.unit.getD (p % r.unit.length) 0)
  else (r.times * r.unit.sum + (r.last.take (p - r.times * r.unit.length)).sum, r.last.getD (p - r.times * r.unit.length) 0)
def placeR (r : Rw) (i : Nat) : Nat := if i < r.times * r.unit.sum then i / r.unit.sum * r.unit.length + placeA r.unit (i % r.unit.sum) else r.times * r.unit.length + placeA r.last (i - r.times * r.unit.sum)
theorem piece_sizes (r : Rw) (p : Nat) : pieceR r p = ((r.sizes.take p).sum, r.sizes.getD p 0) := by
  unfold pieceR Rw.sizes
  split
  · rename_i h
    obtain ⟨a, b⟩ := take_rep r.unit r.times p h
    rw [List.take_append, show p - (List.replicate r.times r.unit).flatten.length = 0 by rw [rep_len]; omega]
    rw [List.getD_eq_getElem?_getD, List.getD_eq_getElem?_getD, List.getElem?_append_left (by rw [rep_len]; exact h), b]
    simp [a]
  · rename_i h
    rw [List.take_append, List.take_of_length_le (l := (List.replicate r.times r.unit).flatten) (by rw [rep_len]; omega), List.sum_append, rep_sum, rep_len, getD_app _ _ _ (by rw [rep_len]; omega), rep_len]
theorem place_sizes (r : Rw) (i : Nat) : placeR r i = placeA r.sizes i := by
  unfold placeR Rw.sizes
  rw [placeA_app, rep_sum, rep_len]
  split
  · rename_i h
    rw [placeA_rep _ _ _ h]
  · rfl
end CH
namespace CH
/-! ### where an item is -/
theorem sum_take_succ {xs : List Nat} {a : Nat} (h : a < xs.length) : (xs.take (a + 1)).sum = (xs.take a).sum + xs.getD a 0 := by
  rw [List.take_succ, List.sum_append, getD_eq h, List.getElem?_eq_getElem h]
  simp
theorem sum_take_mono {xs : List Nat} {a b : Nat} (h : a ≤ b) : (xs.take a).sum ≤ (xs.take b).sum := by
  have e : xs.take a = (xs.take b).take a := by rw [List.take_take, Nat.min_eq_left h]
  rw [e]
  have := congrArg List.sum (List.take_append_drop a (xs.take b))
  rw [List.sum_append] at this
  omega
theorem getD_pos {xs : List Nat} (h : Pos xs) {a : Nat} (ha : a < xs.length) : 0 < xs.getD a 0 := by
  rw [getD_eq ha]
  exact h _ (List.getElem_mem _)
theorem placeA_at : ∀ {xs : List Nat} {a i : Nat}, a < xs.length → (xs.take a).sum ≤ i → i < (xs.take a).sum + xs.getD a 0 → placeA xs i = a
  | [], _, _, h, _, _ => by simp at h
  | x :: r, 0, i, _, _, h3 => by
    have h3 : i < 0 + x := h3
    show (if i < x then 0 else 1 + placeA r (i - x)) = 0
    rw [if_pos (by omega)]
  | x :: r, a + 1, i, h1, h2, h3 => by
    rw [List.take_succ_cons, List.sum_cons] at h2 h3
    have h3 : i < x + (r.take a).sum + r.getD a 0 := h3
    have h1 : a < r.length := by simpa using h1
    show (if i < x then 0 else 1 + placeA r (i - x)) = a + 1
    rw [if_neg (by omega), placeA_at h1 (by omega) (by omega)]
    omega
/-- a piece begins with item 0 just if it is the first, and it has the last item just if it is the last -/
theorem begins {xs : List Nat} (h : Pos xs) {a : Nat} (ha : a < xs.length) : (xs.take a).sum = 0 ↔ a = 0 := by
  constructor
  · intro e
    cases a with
    | zero => rfl
    | succ a =>
      have := sum_take_succ (xs := xs) (a := a) (by omega)
      have := getD_pos h (a := a) (by omega)
      omega
  · intro e
    rw [e]
    rfl
theorem ends {xs : List Nat} (h : Pos xs) {a : Nat} (ha : a < xs.length) : (xs.take a).sum + xs.getD a 0 ≤ xs.sum ∧ ((xs.take a).sum + xs.getD a 0 = xs.sum ↔ a = xs.length - 1) := by
  have e := sum_take_succ ha
  rw [← e]
  have l : (xs.take (a + 1)).sum ≤ (xs.take xs.length).sum := sum_take_mono (by omega)
  rw [List.take_length] at l
  refine ⟨l, fun z => ?_, fun z => ?_⟩
  · rcases Nat.lt_or_ge (a + 1) xs.length with c | c
    · have e2 := sum_take_succ c
      have p := getD_pos h c
      have l2 : (xs.take (a + 1 + 1)).sum ≤ (xs.take xs.length).sum := sum_take_mono (by omega)
      rw [List.take_length] at l2
      omega
    · omega
  · rw [List.take_of_length_le (by omega)]
end CH

/-! rows of pieces that a fill may have made -/
namespace CH
/-- all but the last are this wide, the last is no wider -/
def filled (xs : List Nat) (w : Nat) : Bool := (xs.dropLast.all fun x => decide (x = w)) && ((xs.drop (xs.length - 1)).all fun x => decide (x ≤ w))
/-- what the law asks of a width -/
def dueW (xs : List Nat) (w : Nat) : Bool := decide ((xs.sum + w - 1) / w = xs.length) && decide (evenly xs.sum w = xs)
theorem rep_of_all {w : Nat} : ∀ {xs : List Nat}, (∀ x ∈ xs, x = w) → xs = List.replicate xs.length w
  | [], _ => rfl
  | x :: r, h => by
    have e := h x (by simp)
    subst e
    rw [List.length_cons, List.replicate_succ, ← rep_of_all fun y hy => h y (by simp [hy])]
theorem evenly_rep {k w r : Nat} (hw : 0 < w) (h0 : 0 < r) (h1 : r ≤ w) : evenly (k * w + r) w = List.replicate k w ++ [r] := by
  unfold evenly
  rcases Nat.lt_or_ge r w with h | h
  · rw [show k * w + r = r + k * w by omega, Nat.add_mul_div_right _ _ hw, Nat.add_mul_mod_self_right, Nat.div_eq_of_lt h, Nat.mod_eq_of_lt h, if_neg (by omega), Nat.zero_add]
  · have e : r = w := by omega
    subst e
    rw [show k * r + r = (k + 1) * r by rw [Nat.succ_mul], Nat.mul_div_cancel _ hw, Nat.mul_mod_left, if_pos rfl, List.append_nil, List.replicate_succ']
theorem filled_even {xs : List Nat} {w : Nat} (hw : 0 < w) (hp : Pos xs) (h : filled xs w = true) : evenly xs.sum w = xs := by
  rcases List.eq_nil_or_concat xs with e | ⟨ys, r, e⟩
  · subst e
    unfold evenly
    simp
  · rw [List.concat_eq_append] at e
    subst e
    unfold filled at h
    rw [Bool.and_eq_true] at h
    obtain ⟨h1, h2⟩ := h
    rw [List.dropLast_concat] at h1
    have a : ∀ x ∈ ys, x = w := fun x hx => of_decide_eq_true (List.all_eq_true.mp h1 x hx)
    have b : r ≤ w := by
      have : (ys ++ [r]).drop ((ys ++ [r]).length - 1) = [r] := by
        rw [List.length_append, List.length_singleton, Nat.add_sub_cancel, List.drop_left']
        rfl
      rw [this] at h2
      exact of_decide_eq_true (List.all_eq_true.mp h2 r (by simp))
    have r0 : 0 < r := hp r (by simp)
    have er := rep_of_all a
    rw [List.sum_append, List.sum_singleton, er, List.sum_replicate_nat, evenly_rep hw r0 b]
theorem even_filled {n w : Nat} (hw : 0 < w) : filled (evenly n w) w = true := by
  unfold filled evenly
  rw [Bool.and_eq_true, List.all_eq_true, List.all_eq_true]
  by_cases h : n % w = 0
  · rw [if_pos h, List.append_nil]
    refine ⟨fun x hx => decide_eq_true ?_, fun x hx => decide_eq_true ?_⟩
    · exact List.eq_of_mem_replicate (List.dropLast_subset _ hx)
    · exact Nat.le_of_eq (List.eq_of_mem_replicate (List.mem_of_mem_drop hx))
  · rw [if_neg h]
    refine ⟨fun x hx => decide_eq_true ?_, fun x hx => decide_eq_true ?_⟩
    · rw [List.dropLast_concat] at hx
      exact List.eq_of_mem_replicate hx
    · have hm : x ∈ List.replicate (n / w) w ++ [n % w] := List.mem_of_mem_drop hx
      rcases List.mem_append.mp hm with z | z
      · exact Nat.le_of_eq (List.eq_of_mem_replicate z)
      · rw [List.mem_singleton.mp z]
        exact Nat.le_of_lt (Nat.mod_lt _ hw)
theorem evenly_many {n w : Nat} (hw : 0 < w) : (evenly n w).length = (n + w - 1) / w := by
  have dm := Nat.div_add_mod n w
  have ml := Nat.mod_lt n hw
  unfold evenly
  rw [List.length_append, List.length_replicate]
  by_cases h : n % w = 0
  · rw [if_pos h, List.length_nil, Nat.add_zero]
    have : n + w - 1 = (w - 1) + n / w * w := by rw [Nat.mul_comm]; omega
    rw [this, Nat.add_mul_div_right _ _ hw, Nat.div_eq_of_lt (show w - 1 < w by omega), Nat.zero_add]
  · rw [if_neg h, List.length_singleton]
    have : n + w - 1 = (n % w - 1) + (n / w + 1) * w := by rw [Nat.succ_mul, Nat.mul_comm]; omega
    rw [this, Nat.add_mul_div_right _ _ hw, Nat.div_eq_of_lt (show n % w - 1 < w by omega), Nat.zero_add]
theorem filled_due {xs : List Nat} {w : Nat} (hw : 0 < w) (hp : Pos xs) : filled xs w = dueW xs w := by
  cases hf : filled xs w with
  | true =>
    have e := filled_even hw hp hf
    have l := evenly_many (n := xs.sum) hw
    rw [e] at l
    unfold dueW
    rw [decide_eq_true e, decide_eq_true l.symm]
    rfl
  | false =>
    symm
    cases hd : dueW xs w with
    | false => rfl
    | true =>
      unfold dueW at hd
      rw [Bool.and_eq_true] at hd
      have e := of_decide_eq_true hd.2
      have := even_filled (n := xs.sum) hw
      rw [e, hf] at this
      cases this
end CH

/-! texts of chains -/
namespace CH
open PySem L2 TL
def kdS : Kd → Str
  | .cut => "cut"
  | .fill => "fill"
  | .tail => "tail"
def nS (n : Nat) : Str := Str.ofString (toString ((n : Nat) : Int))
def kds : List Str := ["cut", "fill", "tail"]
def widths : List Str := (List.range 12).map fun i => nS (i + 1)
def kdOf (w : Str) : Option Kd := if w = "cut" then some .cut else if w = "fill" then some .fill else if w = "tail" then some .tail else none
def numOf (d : Str) : Option Nat := (List.range 12).findSome? fun i => if d = nS (i + 1) then some (i + 1) else none
def cutterOf (t : Str) : Option (Kd × Nat) := match kdOf (Txt.partition t " ").1, numOf (Txt.partition t " ").2.2 with
  | some k, some n => some (k, n)
  | _, _ => none
def parts (t : Str) : List Str := Txt.split t ", "
def goodC (t : Str) : Bool := (parts t).all (fun p => (cutterOf p).isSome) && decide ((parts t).length ≤ 6)
def cuttersOf (t : Str) : List (Kd × Nat) := (parts t).filterMap cutterOf
def cutT (c : Kd × Nat) : Str := kdS c.1 ++ (" " : Str) ++ nS c.2
def cline (cs : List (Kd × Nat)) : Str := Txt.join ", " (cs.map cutT)
theorem kdOf_some {w : Str} {k : Kd} (h : kdOf w = some k) : w = kdS k := by
  unfold kdOf at h
  by_cases c1 : w = "cut"
  · rw [if_pos c1] at h; cases h; exact c1
  rw [if_neg c1] at h
  by_cases c2 : w = "fill"
  · rw [if_pos c2] at h; cases h; exact c2
  rw [if_neg c2] at h
  by_cases c3 : w = "tail"
  · rw [if_pos c3] at h; cases h; exact c3
  rw [if_neg c3] at h
  cases h
theorem kdOf_none {w : Str} (h : kdOf w = none) : w ∉ kds := by
  unfold kdOf at h
  by_cases c1 : w = "cut"
  · rw [if_pos c1] at h; cases h
  rw [if_neg c1] at h
  by_cases c2 : w = "fill"
  · rw [if_pos c2] at h; cases h
  rw [if_neg c2] at h
  by_cases c3 : w = "tail"
  · rw [if_pos c3] at h; cases h
  intro z
  simp [kds, c1, c2, c3] at z
theorem kdOf_kdS (k : Kd) : kdOf (kdS k) = some k := by cases k <;> decide +kernel
theorem numOf_some {d : Str} {n : Nat} (h : numOf d = some n) : d = nS n ∧ 1 ≤ n ∧ n ≤ 12 := by
  obtain ⟨i, hi, e⟩ := List.exists_of_findSome?_eq_some h
  have := List.mem_range.mp hi
  split at e
  · rename_i c
    cases e
    exact ⟨c, by omega, by omega⟩
  · cases e
theorem numOf_mem (d : Str) : decide (d ∈ widths) = (numOf d).isSome := by
  cases h : numOf d with
  | none =>
    refine decide_eq_false fun z => ?_
    obtain ⟨i, hi, e⟩ := List.mem_map.mp z
    have := List.findSome?_eq_none_iff.mp h i hi
    rw [if_pos e.symm] at this
    cases this
  | some n =>
    obtain ⟨e, h1, h2⟩ := numOf_some h
    refine decide_eq_true (List.mem_map.mpr ⟨n - 1, List.mem_range.mpr (by omega), ?_⟩)
    rw [e, show n - 1 + 1 = n by omega]
/-- all cutters -/
def allC : List (Kd × Nat) := [Kd.cut, Kd.fill, Kd.tail].flatMap fun k => (List.range 12).map fun i => (k, i + 1)
def Ct (c : Kd × Nat) : Prop := 1 ≤ c.2 ∧ c.2 ≤ 12
theorem Ct.mem {c : Kd × Nat} (h : Ct c) : c ∈ allC := by
  obtain ⟨k, n⟩ := c
  refine List.mem_flatMap.mpr ⟨k, by cases k <;> simp, List.mem_map.mpr ⟨n - 1, List.mem_range.mpr ?_, ?_⟩⟩
  · have := h.2
    have := h.1
    show n - 1 < 12
    omega
  · have := h.1
    show (k, n - 1 + 1) = (k, n)
    rw [show n - 1 + 1 = n by have : 1 ≤ n := h.1; omega]
def okC (c : Kd × Nat) : Bool := decide (cutterOf (cutT c) = some c) && (decide (44 ∉ tl (cutT c)) && (decide ((cutT c).length ≤ 7) && (PyData.strOk (cutT c) && (decide ((kdS c.1 ++ (" " : Str)).length ≤ 5) && decide (Txt.split (cutT c) " " = [kdS c.1, nS c.2])))))
theorem allC_ok : ∀ c ∈ allC, okC c = true := by decide +kernel
structure CtF (c : Kd × Nat) : Prop where
  p : cutterOf (cutT c) = some c
  m : 44 ∉ tl (cutT c)
  l : (cutT c).length ≤ 7
  a : PyData.strOk (cutT c) = true
  s : Txt.split (cutT c) " " = [kdS c.1, nS c.2]
theorem Ct.f {c : Kd × Nat} (h : Ct c) : CtF c := by
  have q := allC_ok c h.mem
  unfold okC at q
  simp only [Bool.and_eq_true, decide_eq_true_eq] at q
  exact ⟨q.1, q.2.1, q.2.2.1, q.2.2.2.1, q.2.2.2.2.2⟩
theorem nS_len {n : Nat} (h : n ≤ 12) : (nS n).length ≤ 2 := by
  have : ∀ i ∈ List.range 13, (nS i).length ≤ 2 := by decide +kernel
  exact this n (List.mem_range.mpr (by omega))
theorem cutter_ct {t : Str} {c : Kd × Nat} (h : cutterOf t = some c) : Ct c := by
  unfold cutterOf at h
  split at h
  · rename_i k n h1 h2
    cases h
    exact (numOf_some h2).2
  · cases h
theorem cutters_ct {t : Str} : ∀ c ∈ cuttersOf t, Ct c := fun c h => by
  obtain ⟨p, _, e⟩ := List.mem_filterMap.mp h
  exact cutter_ct e
theorem cutters_len {t : Str} (h : goodC t = true) : (cuttersOf t).length ≤ 6 ∧ (cuttersOf t).length = (parts t).length := by
  unfold goodC at h
  rw [Bool.and_eq_true, List.all_eq_true] at h
  have e : ∀ (l : List Str), (∀ p ∈ l, (cutterOf p).isSome = true) → (l.filterMap cutterOf).length = l.length := by
    intro l
    induction l with
    | nil => intro _; rfl
    | cons p r ih =>
      intro hp
      obtain ⟨c, hc⟩ := Option.isSome_iff_exists.mp (hp p (List.mem_cons_self ..))
      rw [List.filterMap_cons, hc, List.length_cons, List.length_cons, ih fun q hq => hp q (List.mem_cons_of_mem _ hq)]
  have := e (parts t) h.1
  have h2 := of_decide_eq_true h.2
  unfold cuttersOf
  omega
theorem tlCm : tl (", " : Str) = [44, 32] := by decide +kernel
theorem parts_line {cs : List (Kd × Nat)} (ne : cs ≠ []) (h : ∀ c ∈ cs, Ct c) : parts (cline cs) = cs.map cutT :=
  split_join (s := 44) (S := [32]) tlCm (by decide +kernel) (fun e => ne (List.map_eq_nil_iff.mp e)) fun p hp => by
    obtain ⟨c, hc, rfl⟩ := List.mem_map.mp hp
    exact (h c hc).f.m
theorem line_good {cs : List (Kd × Nat)} (ne : cs ≠ []) (h : ∀ c ∈ cs, Ct c) (hl : cs.length ≤ 6) : goodC (cline cs) = true := by
  unfold goodC
  rw [parts_line ne h, Bool.and_eq_true, List.all_eq_true, List.length_map]
  refine ⟨fun p hp => ?_, decide_eq_true hl⟩
  obtain ⟨c, hc, rfl⟩ := List.mem_map.mp hp
  rw [(h c hc).f.p]
  rfl
theorem line_cutters {cs : List (Kd × Nat)} (ne : cs ≠ []) (h : ∀ c ∈ cs, Ct c) : cuttersOf (cline cs) = cs := by
  unfold cuttersOf
  rw [parts_line ne h]
  clear ne
  induction cs with
  | nil => rfl
  | cons c r ih =>
    rw [List.map_cons, List.filterMap_cons, (h c (List.mem_cons_self ..)).f.p, ih fun q hq => h q (List.mem_cons_of_mem _ hq)]
theorem joinC_len : ∀ B : List Str, (Txt.join ", " B).length ≤ (B.map (·.length)).sum + B.length * 2 := by
  intro B
  rw [len_tl, join_eq, tl_join, tlCm]
  induction B with
  | nil => simp [joinL]
  | cons w r ih =>
    cases r with
    | nil =>
      show (tl w).length ≤ _
      rw [← len_tl]
      simp
    | cons x r =>
      show (tl w ++ ([44, 32] ++ joinL [44, 32] ((x :: r).map tl))).length ≤ _
      rw [List.length_append, List.length_append, ← len_tl]
      simp only [List.map_cons, List.sum_cons, List.length_cons, List.length_nil] at ih ⊢
      omega
theorem line_sum {cs : List (Kd × Nat)} (h : ∀ c ∈ cs, Ct c) : ((cs.map cutT).map (·.length)).sum ≤ 7 * cs.length := by
  have := LM.sum_le (n := 7) (B := cs.map cutT) fun w hw => by
    obtain ⟨c, hc, rfl⟩ := List.mem_map.mp hw
    exact (h c hc).f.l
  rwa [List.length_map] at this
theorem line_len {cs : List (Kd × Nat)} (h : ∀ c ∈ cs, Ct c) : (cline cs).length ≤ 9 * cs.length := by
  have a := joinC_len (cs.map cutT)
  have b := line_sum h
  rw [List.length_map] at a
  unfold cline
  omega
theorem splitC (x : Str) : (parts x).map tl = spl [44, 32] 0 [] (tl x) := by
  have := split_spl x ", " (by rw [tlCm]; simp) (kind_ok (by decide +kernel))
  rwa [tlCm] at this
theorem parts_len (x : Str) : (parts x).length ≤ x.length + 1 := by
  have := LM.spl_len [44, 32] 0 [] (tl x)
  rw [← splitC, List.length_map, ← len_tl] at this
  exact this
theorem parts_word {x w : Str} (h : w ∈ parts x) : w.length ≤ x.length := by
  have := LM.spl_word [44, 32] 0 [] (tl x) (tl w) (by rw [← splitC]; exact List.mem_map.mpr ⟨w, h, rfl⟩)
  rw [← len_tl, ← len_tl] at this
  simpa using this
/-- plain signs -/
theorem asc_joinC {B : List Str} (h : ∀ w ∈ B, LM.Asc w) : LM.Asc (Txt.join ", " B) := by
  rw [LM.asc_iff, join_eq, tl_join, tlCm]
  intro c hc
  rcases LM.joinL_mem hc with h1 | ⟨p, hp, h1⟩
  · have : c = 44 ∨ c = 32 := by simpa using h1
    omega
  · obtain ⟨w, hw, rfl⟩ := List.mem_map.mp hp
    exact LM.asc_iff.mp (h w hw) c h1
theorem line_asc {cs : List (Kd × Nat)} (h : ∀ c ∈ cs, Ct c) : LM.Asc (cline cs) := asc_joinC fun w hw => by
  obtain ⟨c, hc, rfl⟩ := List.mem_map.mp hw
  exact (h c hc).f.a
theorem line_inj {a b : List (Kd × Nat)} (na : a ≠ []) (nb : b ≠ []) (ha : ∀ c ∈ a, Ct c) (hb : ∀ c ∈ b, Ct c) (e : cline a = cline b) : a = b := by
  rw [← line_cutters na ha, e, line_cutters nb hb]
end CH

/-! a dict of the module with text keys: what it has not -/
namespace CD
open PySem L2
theorem no_key {P : Params} {z : Str} : ∀ {l : List DictEntry} {ks : List Str}, l.map He.keyOf = He.keysIn P ks → z ∉ ks → l.find? (·.key.isStr z) = none ∧ l.any (·.refKey) = false
  | [], _, _, _ => ⟨rfl, rfl⟩
  | e :: r, [], h, _ => by cases h
  | e :: r, k :: ks, h, hz => by
    have h1 : He.keyOf e :: r.map He.keyOf = some (k, PyData.keyHash P k) :: He.keysIn P ks := h
    injection h1 with h2 h3
    obtain ⟨a, b⟩ := no_key (z := z) h3 fun q => hz (List.mem_cons_of_mem _ q)
    unfold He.keyOf at h2
    split at h2
    · rename_i x t q
      obtain ⟨h5, h6⟩ := Prod.mk.inj (Option.some.inj h2)
      have ne : x ≠ z := fun q => hz (by rw [← q, h5]; exact List.mem_cons_self ..)
      have e1 : e.key.isStr z = false := by
        rw [q, PySem.W.isStr_of]
        show (x == z) = false
        exact beq_eq_false_iff_ne.mpr ne
      have e2 : e.refKey = false := by
        unfold PySem.DictEntry.refKey
        rw [q]
      rw [List.find?_cons, e1, List.any_cons, e2]
      exact ⟨a, by rw [b]; rfl⟩
    · cases h2
theorem dic_no {K : PySem.W.Frag} {P : Params} {a : Addr} {ks : List Str} (h : He.dicW K a = some (He.keysIn P ks)) {z : Str} (hz : z ∉ ks) : PySem.W.nsIn K a z = some none := by
  unfold He.dicW at h
  unfold PySem.W.nsIn
  cases q : K.lookup a with
  | none => rw [q] at h; cases h
  | some o =>
    obtain ⟨oc, od, dt, osl⟩ := o
    rw [q] at h
    cases oc with
    | type c =>
      cases od with
      | none =>
        cases dt with
        | dict es n =>
          have h1 : (match decide (c = "dict") && (osl.isEmpty && !(a == sysModules)) with
              | true => some (es.toList.map He.keyOf)
              | false => none) = some (He.keysIn P ks) := h
          split at h1
          · obtain ⟨e1, e2⟩ := no_key (Option.some.inj h1) hz
            show (match es.toList.find? (·.key.isStr z) with
              | some e => some (some e.val)
              | none => if es.toList.any (·.refKey) then none else some none) = _
            rw [e1, e2]
            rfl
          · cases h1
        | _ => cases h
      | some _ => cases h
    | _ => cases h
end CD

/-! sum of a tuple of ints, a tuple times any count, xs += ys of lists -/
namespace RwR
open PySem PySem.Spec PyProof.Rows L2 Cm
section
variable {prog : Program} {w : World} {A : Around} {E : Value → Shared → Prop} {s : Shared} {l : Addr} {xs : Array (Int × Tok)}
theorem sum_intTupG {Q : Value → Shared → Prop} (hh : A.handled = none) (hl : s.heap.IsTuple l (intItems xs))
    (h : ∀ h' tk t', (∀ b o, s.heap.get? b = some o → h'.get? b = some o) → Q (.int (preSum (numAt xs) xs.size) t') { s with heap := h', toks := tk }) :
    wpAny (model prog w) A (call (.builtin "sum") [.ref l]) Q E s := by
  have hlt : l < s.heap.objs.size := by obtain ⟨_, e, _⟩ := hl; exact Heap.lt_size e
  refine call_sum_walkG (wpAny_pyIter_tuple hl ?_)
  refine ⟨_, [_, l], [_], _, _, _, numAt xs, rfl, Walks.tuple (A := A.in1) hh _ l (Nat.ne_of_lt hlt) (intItems xs), ⟨⟨_, Heap.get?_push_size _ rfl, rfl, rfl⟩, hl.push _⟩, fun c hc => ?_, (fun _ _ => intItems_at), fun h' tk t' hk => ?_⟩
  · show c < (s.heap.push _).objs.size
    rw [Heap.size_push]
    rcases List.mem_cons.mp hc with rfl | hc
    · exact Nat.lt_succ_self _
    · rcases List.mem_cons.mp hc with rfl | hc
      · exact Nat.lt_succ_of_lt hlt
      · cases hc
  · have hold : ∀ b o, s.heap.get? b = some o → h'.get? b = some o := fun b o e => by
      refine hk b o (fun hm => ?_) (Heap.get?_push_of_some _ e)
      rcases List.mem_cons.mp hm with e1 | hm
      · exact absurd (e1 ▸ Heap.lt_size e) (Nat.lt_irrefl _)
      · cases hm
    have := h h' tk t' hold
    simpa [intItems] using this
end
section
variable {X : Cx}
/-- sum(t) -/
def rSumT (K : PySem.W.Frag) : List V → Hp → VK → Prop := fun vs H Q => ∃ (a : Addr) (ns : List Int), vs = [V.ref a] ∧ SqT K H a (ns.map V.int) ∧ Q (.int ns.sum) H
theorem cr_sumT (hc : X.calm = true) : CallR X (.builtin "sum") (rSumT X.K) := by
  intro pins s σ H vs us Q I r h
  obtain ⟨a, ns, rfl, hs, q⟩ := h
  obtain ⟨its, rv, hl, _⟩ := I.tuple hs
  rw [Vals.ref1 r]
  have hi := rv.ints
  obtain ⟨xs, e⟩ := hi.allInts.items
  have hn : numsOf (intItems xs).toList = ns := by rw [← e]; exact hi.numsOf
  rw [nums_intItems] at hn
  rw [e] at hl
  refine sum_intTupG (I.ok.hd hc) hl fun h' tk t' hk => ?_
  rw [preSum_eq, List.take_of_length_le (by simp), hn]
  exact ⟨.int _, H, I.kept hk, ⟨_, rfl⟩, q⟩
/-- xs += ys -/
def rIadd : V → V → Hp → VK → Prop := fun x y H Q => ∃ l b xs zs, x = .ref l ∧ y = .ref b ∧ H l = some (.lst xs) ∧ H b = some (.lst zs) ∧ xs.length + zs.length ≤ sizeLine ∧ Q (.ref l) (upd H l (.lst (xs ++ zs)))
theorem ip_iadd : PIp X .Add rIadd := by
  intro pins s σ H x y v u Q I rx ry h
  obtain ⟨l, b, xs, zs, rfl, rfl, hH, hB, hz, q⟩ := h
  cases rx
  cases ry
  obtain ⟨z, its, n, r, hl, e⟩ := I.lstM hH
  obtain ⟨z2, its2, n2, r2, hl2, e2⟩ := I.lstM hB
  have hsz : its.toArray.size + its2.toArray.size ≤ sizeLine := by rw [List.size_toArray, List.size_toArray]; omega
  have hlong : ¬ (!its.toArray.isEmpty && Builtin.List.listTooLong (its.toArray.size + its2.toArray.size)) = true := by
    rw [notLongL hsz, Bool.and_false]
    exact Bool.false_ne_true
  have ta : s.TypeIs (.ref l) "list" := ⟨_, e, rfl⟩
  have tb : s.TypeIs (.ref b) "list" := ⟨_, e2, rfl⟩
  have hseq : isSeqSlot (some (.builtin "list.__iadd__")) = true := by decide +kernel
  have hfi : fillsInplaceSlot (.type "list") "add" (Operator.Add == .Add) = pure false := by
    unfold fillsInplaceSlot
    show (typeLookup (.type "list") (dunderI "add") >>= fun fi => pure (fi.isSome && !isSeqSlot fi)) = pure false
    rw [PySem.F.slot_list_iadd.lookup]
    show (pure (true && !isSeqSlot (some (.builtin "list.__iadd__"))) : Sem Bool) = pure false
    rw [hseq]
    rfl
  unfold inplaceOp
  refine wpAny_holding ?_
  refine wpAny_bind (wpAny_typeOf ta (wpAny_bind (wpAny_of_eq hfi ?_)))
  show wpAny _ _ (if false = true then _ else _) _ _ s
  rw [if_neg Bool.false_ne_true]
  refine wpAny_bind (PyProof.Rows.binaryOp1_none (nm := "add") ta tb PySem.noFill_list_add ?_)
  refine wpAny_bind (wpAny_of_eq (PySem.seqSlot_of (T := "list") (name := dunderI "add") (id := "list.__iadd__") PySem.F.slot_list_iadd.lookup hseq) ?_)
  refine wpAny_bind (wpAny_rule (call_meets PySem.F.slot_list_iadd ta PySem.F.entry_list_iadd (PySem.F.args_list_iadd_2 _ _)
    (AutoSeq1.list___iadd___list_list_0 l its.toArray n b its2.toArray n2 hlong (by rw [List.size_toArray]; omega) (by omega)) ⟨e, e2, ?_⟩))
  refine ⟨.ref l, _, I.lset (its' := its ++ its2) hH e (by simp) (r.append r2) ?_, rfl, q⟩
  rw [List.length_append]
  omega
/-- a tuple times any count -/
theorem tuple_mul_same (l : Addr) (items : Array Value) (n : Nat) (dd : Option Addr) (sl : Array (Option Value)) (x : Int) (u : Tok) (c0 : (decide (x < -(2 ^ 63)) || decide (x ≥ 2 ^ 63)) = false) (c1 : (items.isEmpty || x == 1) = true) :
    Meets (Builtin.«tuple.__mul__» ⟨[.ref l, .int x u], []⟩) (fun _ R s => s.heap.get? l = some { cls := .type "tuple", dict := dd, data := .seq items n, slots := sl } ∧ R (.ok (.ret (Value.ref l))) s) :=
  .of_wp fun prog w A R s h => by
    obtain ⟨hp, g, d, tk, os⟩ := s
    obtain ⟨hl, h⟩ := h
    have f1 := AutoSeq1.idx_int
    wp_walk using wpAny_loadPart' hl
    repeat (first
      | (refine wpAny_ite_false (decide_eq_false (by rw [c0]; exact Bool.false_ne_true)) ?_; wp_walk using wpAny_loadPart' hl)
      | (refine wpAny_ite_true (decide_eq_true c1) ?_; wp_walk using wpAny_loadPart' hl))
    exact ⟨_, rfl, h⟩
theorem tuple_mul_none (l : Addr) (items : Array Value) (n : Nat) (dd : Option Addr) (sl : Array (Option Value)) (x : Int) (u : Tok) (c0 : (decide (x < -(2 ^ 63)) || decide (x ≥ 2 ^ 63)) = false) (c1 : (items.isEmpty || x == 1) = false) (c2 : (decide (x ≤ 0) || items.isEmpty) = true) :
    Meets (Builtin.«tuple.__mul__» ⟨[.ref l, .int x u], []⟩) (fun _ R s => s.heap.get? l = some { cls := .type "tuple", dict := dd, data := .seq items n, slots := sl } ∧
      R (.ok (.ret (Value.ref s.heap.objs.size))) { s with heap := s.heap.push { cls := Value.type "tuple", data := Data.seq #[] }, toks := s.toks }) :=
  .of_wp fun prog w A R s h => by
    obtain ⟨hp, g, d, tk, os⟩ := s
    obtain ⟨hl, h⟩ := h
    have f1 := AutoSeq1.idx_int
    wp_walk using wpAny_loadPart' hl
    repeat (first
      | (refine wpAny_ite_false (decide_eq_false (by rw [c0]; exact Bool.false_ne_true)) ?_; wp_walk using wpAny_loadPart' hl)
      | (refine wpAny_ite_false (decide_eq_false (by rw [c1]; exact Bool.false_ne_true)) ?_; wp_walk using wpAny_loadPart' hl)
      | (refine wpAny_ite_true (decide_eq_true c2) ?_; wp_walk using wpAny_loadPart' hl)
      | (refine wpAny_ite_false (decide_eq_false (by decide)) ?_; wp_walk using wpAny_loadPart' hl))
    exact ⟨_, rfl, h⟩
def rRepN : R2 := fun x y H Q => ∃ (l : Addr) (k : Nat) (xs : List V), x = .ref l ∧ y = .int k ∧ H l = some (.tup xs) ∧ k < 2 ^ 62 ∧ xs.length ≤ 1000 ∧ (xs ≠ [] → k ≤ 1000) ∧ ∀ (H' : Hp) (q : Addr), Same H H' → H' q = some (.tup (List.replicate k xs).flatten) → Q (.ref q) H'
theorem flat_nil : ∀ k, (List.replicate k ([] : List V)).flatten = []
  | 0 => rfl
  | k + 1 => by rw [List.replicate_succ, List.flatten_cons, flat_nil k]; rfl
theorem op_repN : OpR X (binaryOp .Mult) rRepN := by
  intro pins s σ H x y v u Q I rx ry h
  obtain ⟨l, k, xs, rfl, rfl, hT, hk, hx, hl, q⟩ := h
  by_cases hne : xs ≠ [] ∧ 2 ≤ k
  · refine op_repT pins s σ H _ _ v u Q I rx ry ⟨l, k, xs, rfl, rfl, SqT.of hT, hne.1, by omega, by have := hl hne.1; omega, hx, fun p np => ?_⟩
    rw [Int.toNat_natCast]
    exact q _ p (same_new np) upd_same
  cases rx
  obtain ⟨t, rfl⟩ := ry
  obtain ⟨its, r, ⟨⟨cls, dd, data, sl⟩, ho, hc, n, hd⟩, hs⟩ := I.tuple (SqT.of hT)
  simp only at hc hd
  subst hc hd
  have hle : its.length = xs.length := r.length.symm
  have c0 : (decide ((k : Int) < -(2 ^ 63)) || decide ((k : Int) ≥ 2 ^ 63)) = false := by
    rw [decide_eq_false (by omega), decide_eq_false (by omega)]
    rfl
  by_cases hs1 : xs = [] ∨ k = 1
  · have c1 : (its.toArray.isEmpty || (k : Int) == 1) = true := by
      rcases hs1 with e | e
      · have : its = [] := List.eq_nil_of_length_eq_zero (by rw [hle, e]; rfl)
        rw [this]
        rfl
      · rw [e]
        simp
    refine wpAny_binaryOp_repeat_ref (T := "tuple") (U := "int") (by decide) ⟨_, ho, rfl⟩ (fun s' => typeIs_int s' k t) noFill_tuple_mul F.fills_int_mul F.slot_int_rmul repeat_tuple F.slot_int_index.lookup
      (call_meets F.slot_int_rmul (typeIs_int s k t) F.entry_int_rmul (F.args_int_rmul_2 _ _) (int_rmul_tuple k t l its.toArray n dd sl)
        ⟨ho, rfl, ⟨_, ho, rfl⟩, call_meets F.slot_tuple_mul ⟨_, ho, rfl⟩ F.entry_tuple_mul (F.args_tuple_mul_2 _ _) (tuple_mul_same l its.toArray n dd sl k t c0 c1) ⟨ho, ?_⟩⟩)
    refine ⟨.ref l, H, I, rfl, q H l (Same.refl _) ?_⟩
    rw [hT]
    rcases hs1 with e | e
    · rw [e, flat_nil]
    · rw [e]
      simp
  · have hx0 : xs ≠ [] := fun e => hs1 (.inl e)
    have k0 : k = 0 := by
      have : ¬ 2 ≤ k := fun e => hne ⟨hx0, e⟩
      have : k ≠ 1 := fun e => hs1 (.inr e)
      omega
    subst k0
    have hi : its.toArray.isEmpty = false := by
      cases its with
      | nil => exact absurd (List.eq_nil_of_length_eq_zero hle.symm) hx0
      | cons a b => rfl
    refine wpAny_binaryOp_repeat_ref (T := "tuple") (U := "int") (by decide) ⟨_, ho, rfl⟩ (fun s' => typeIs_int s' _ t) noFill_tuple_mul F.fills_int_mul F.slot_int_rmul repeat_tuple F.slot_int_index.lookup
      (call_meets F.slot_int_rmul (typeIs_int s _ t) F.entry_int_rmul (F.args_int_rmul_2 _ _) (int_rmul_tuple _ t l its.toArray n dd sl)
        ⟨ho, rfl, ⟨_, ho, rfl⟩, call_meets F.slot_tuple_mul ⟨_, ho, rfl⟩ F.entry_tuple_mul (F.args_tuple_mul_2 _ _) (tuple_mul_none l its.toArray n dd sl _ t c0 (by rw [hi]; rfl) rfl) ⟨ho, ?_⟩⟩)
    refine ⟨.ref s.heap.objs.size, _, I.laid (t' := s.toks) (o := .tup []) (fun b ob q => Heap.get?_push_of_some _ q) (Nat.le_refl _) ?_, rfl, q _ _ (same_new (I.hok.fresh (Nat.le_refl _))) upd_same⟩
    exact ⟨Nat.zero_le _, [], .nil, IsTup.new _ _⟩
end
end RwR
namespace RwR
open PySem PySem.Spec PyProof.Rows L2
section
variable {X : Cx} {d : Addr} {es : Array DictEntry} {n : Nat}
/-- d[key] of a dict of the module -/
theorem ix_kd (D : KDict X.K X.w d es n) : IxR X (fun x y H Q => ∃ (z : Str) (u0 : Value) (v0 : V), x = .ref d ∧ y = .str z ∧ PySem.W.nsIn X.K d z = some (some u0) ∧ RelV v0 u0 ∧ Q v0 H) := by
  intro value slice pins s σ H x y v u Q I rx ry h hs
  obtain ⟨z, u0, v0, rfl, rfl, e, r, q⟩ := h
  cases rx
  obtain ⟨t, rfl⟩ := ry
  refine tail_any (kd_type D I) PySem.F.slot_dict_getitem.lookup ?_ hs
  exact wpAny_getItem_of (PySem.strKind_is X.prog X.w z t) (PySem.W.mapOf_K (prog := X.prog) I.kIn D.at_ D.lit) (PySem.W.find_K D.at_ e) ⟨v0, H, I.tok _, r, q⟩
end
end RwR
namespace RwR
open PySem PySem.Spec PyProof.Rows L2
/-- a call of a local name that holds one of several defs of one row of parameters -/
def tCallI {ι : Type} (i : Nat) (fs : ι → Addr) (sps : ι → Sp) (E : XK) (t : TA) : TE := fun σ H Q => ∃ a : ι, σ[i]? = some (some (.ref (fs a))) ∧ t σ H fun vs H1 => sps a vs H1 Q E
theorem pe_callI {X : Cx} {ι : Type} {CX : CXT} {k i : Nat} {fs : ι → Addr} {fds : ι → FuncData} {ps : List Str} {sps : ι → Sp} {E : XK} {x : Str} {p pos : Pos} {e : Expr} {es : List Expr} {t : TA}
    (F : ∀ a, FnOk X.prog X.w X.K X.mg X.base CX k (fs a) (fds a) ps (sps a)) (hr : Room k X.A) (hN : X.N[i]? = some x) (hv : Vis X.env.scope x) (hk : ∀ a, PySem.W.keepIn X.K (.ref (fs a)) = true) (hb : ∀ a, Binds X.K (fds a) ps []) (hx : Passes CX X E) (ha : PA X (e :: es) t)
    (hdb : (x == ("__debug__" : Str)) = false := by decide) (hcd : (x == ("__classdict__" : Str)) = false := by decide)
    (he : starEach (e :: es) X.env = (false, eval e X.env) :: starEach es X.env := by rfl) (hpl : (backTo pos (starEach es X.env)).any (·.1) = false := by rfl) : PE X (.Call (.Name x p) (e :: es) [] pos) (tCallI i fs sps E t) := by
  refine ⟨fun pins s σ H Q I h => ?_⟩
  obtain ⟨a, hs, ht⟩ := h
  refine (pe_callL (i := i) (f := fs a) (sp := sps a) (dvs := []) (E := E) (F a) hr hN hv (hk a) (hb a) .nil hx ha hdb hcd he hpl).run pins s σ H Q I ⟨hs, ?_⟩
  have e0 : (fun (vs : List V) (H1 : Hp) => sps a (vs ++ []) H1 Q E) = fun vs H1 => sps a vs H1 Q E := by
    funext vs H1
    rw [List.append_nil]
  rw [e0]
  exact ht
end RwR

/-! how great counts are shown -/
namespace SH
open PySem L2
theorem log_nat {n : Nat} (h : n < 10 ^ 20) : (n : Nat).log2 < 1920 := by
  by_cases h0 : n = 0
  · rw [h0]; decide
  · exact Nat.lt_of_lt_of_le ((Nat.log2_lt h0).mpr (Nat.lt_of_lt_of_le h (show 10 ^ 20 ≤ 2 ^ 70 by decide))) (by decide)
theorem num_le {n : Nat} (h : n < 10 ^ 20) : (PyData.shown (.int (n : Int))).length ≤ 20 := by
  show (Str.ofString (toString ((n : Nat) : Int))).length ≤ 20
  rw [TL.len_tl, TL.tl_num]
  exact TL.numL_len (by decide) h
def pairD (a b : Nat) : PyData := .tuple [.int a, .int b]
theorem join_le : ∀ ts : List Str, (Str.join ", " ts).length ≤ (ts.map fun t => t.length + 2).sum
  | [] => Nat.le_refl _
  | [x] => by
    show x.length ≤ _
    simp
  | x :: y :: r => by
    show (x ++ ", " ++ Str.join ", " (y :: r)).length ≤ _
    rw [strLen_append, strLen_append, show (", " : Str).length = 2 by decide +kernel]
    have := join_le (y :: r)
    rw [List.map_cons, List.sum_cons]
    omega
theorem tup_le (ts : List Str) : (tupleText ts).length ≤ (ts.map fun t => t.length + 2).sum + 3 := by
  unfold tupleText
  rw [strLen_append, strLen_append, show ("(" : Str).length = 1 by decide +kernel]
  have := join_le ts
  have : (Str.ofString (if ts.length == 1 then ",)" else ")" : String)).length ≤ 2 := by
    split
    · decide +kernel
    · decide +kernel
  omega
theorem pair_ok {a b : Nat} (ha : a < 10 ^ 20) (hb : b < 10 ^ 20) : (pairD a b).showable = true ∧ (pairD a b).depth ≤ 64 ∧ (pairD a b).shown.length ≤ sizeLine := by
  refine ⟨?_, ?_, ?_⟩
  · simp only [pairD, PyData.showable, PyData.showableAll, Bool.and_true, Bool.and_eq_true, decide_eq_true_eq]
    exact ⟨by rw [Int.natAbs_natCast]; exact log_nat ha, by rw [Int.natAbs_natCast]; exact log_nat hb⟩
  · simp [pairD, PyData.depth, PyData.depthAll]
  · unfold pairD
    rw [PyData.shown]
    have := tup_le (PyData.shownAll [.int (a : Int), .int (b : Int)])
    have h1 := num_le ha
    have h2 := num_le hb
    simp only [PyData.shownAll, List.map_cons, List.map_nil, List.sum_cons, List.sum_nil] at this
    refine Nat.le_trans this (Nat.le_trans (show _ ≤ 100 by omega) (by decide))
end SH
namespace SH
open PySem L2
def tripD (a b c : Nat) : PyData := .list [.int a, .int b, .int c]
theorem from_le : ∀ (ts : List Str) (k : Nat) (acc : Str), (textFrom k acc ts).length ≤ acc.length + (ts.map fun t => t.length + 2).sum
  | [], _, _ => by simp [textFrom]
  | t :: r, k, acc => by
    rw [textFrom]
    have ih := from_le r (k + 1) (acc ++ (if k > 0 then ", " else "" : String) ++ t)
    rw [strLen_append, strLen_append] at ih
    have : (Str.ofString (if k > 0 then ", " else "" : String)).length ≤ 2 := by
      split
      · decide +kernel
      · decide +kernel
    rw [List.map_cons, List.sum_cons]
    omega
theorem list_le (ts : List Str) : (listText ts).length ≤ (ts.map fun t => t.length + 2).sum + 2 := by
  unfold listText
  rw [strLen_append, show ("]" : Str).length = 1 by decide +kernel]
  have := from_le ts 0 "["
  rw [show ("[" : Str).length = 1 by decide +kernel] at this
  omega
theorem trip_ok {a b c : Nat} (ha : a < 10 ^ 20) (hb : b < 10 ^ 20) (hc : c < 10 ^ 20) : (tripD a b c).showable = true ∧ (tripD a b c).depth ≤ 64 ∧ (tripD a b c).shown.length ≤ sizeLine := by
  refine ⟨?_, ?_, ?_⟩
  · simp only [tripD, PyData.showable, PyData.showableAll, Bool.and_true, Bool.and_eq_true, decide_eq_true_eq]
    exact ⟨by rw [Int.natAbs_natCast]; exact log_nat ha, by rw [Int.natAbs_natCast]; exact log_nat hb, by rw [Int.natAbs_natCast]; exact log_nat hc⟩
  · simp [tripD, PyData.depth, PyData.depthAll]
  · unfold tripD
    rw [PyData.shown]
    have := list_le (PyData.shownAll [.int (a : Int), .int (b : Int), .int (c : Int)])
    have h1 := num_le ha
    have h2 := num_le hb
    have h3 := num_le hc
    simp only [PyData.shownAll, List.map_cons, List.map_nil, List.sum_cons, List.sum_nil] at this
    refine Nat.le_trans this (Nat.le_trans (show _ ≤ 200 by omega) (by decide))
end SH

/-! defs that are called where no repr is running, and repr of plain data there -/
namespace Gd
open PySem PySem.Spec PyProof.Rows L2
/-- a def's promise, for callers around whom no guard stands -/
structure FnG (P : Program) (w : World) (K : PySem.W.Frag) (mg : Str → Option Value) (base : Heap) (CX : CXT) (k : Nat) (f : Addr) (fd : FuncData) (ps : List Str) (sp : Sp) : Prop where
  len : ∀ vs H Q E, sp vs H Q E → vs.length = ps.length
  run : ∀ (A : Around) (outer : List Env) (s : Shared) (H : Hp) (args : Args) (us : List Value) (vs : List V) (Q : VK) (E : XK), A.guards = some [] → Room k A → Env0 P w K mg base A outer s H → BindsTo s fd args (ps.zip us) → Vals vs us → sp vs H Q E →
    codeAny (model P w) A (.call (.ref f) args) (CR CX outer P w H s Q E) s
section
variable {P : Program} {w : World} {K : PySem.W.Frag} {mg : Str → Option Value} {base : Heap}
/-- the rule of a def, its guards told -/
theorem okG {x qual : Str} {st : Stmt} {f : Addr} {fd : FuncData} {N ps : List Str} {k : Nat} {sp : Sp} (F : Fun K x qual st f fd) (S : FnScope N ps (defScope st)) (len : ∀ vs H Q E, sp vs H Q E → vs.length = ps.length)
    (hbody : ∀ (cdv : Value) (A : Around) (outer : List Env) (s : Shared) (H : Hp) (vs : List V) (Q : VK) (E : XK), K.lookup f ≠ none → PySem.W.codeIn K cdv qual = true → fd.code = cdv → A.guards = some [] → Room k (A.deeper (envOfC qual (defScope st) s.heap.objs.size f cdv)) → sp vs H Q E →
      ∃ t, PSs (cxOf CX0 P w K mg base N qual (defScope st) f cdv A outer s H E).nox (defBody st) t ∧ t { nx := fun _ H' => Q .non H', rt := Q } (L2.start N vs) H) : FnG P w K mg base CX0 (k + 1) f fd ps sp := by
  obtain ⟨oc, od, kV, doc, pm, an, cdv, ct, osl, rfl, lk, hcd⟩ := F.ex
  refine ⟨len, fun A outer s H args us vs Q E hg hr e0 hb r h => ?_⟩
  refine LamX.run_ofS lk hcd S hr e0 hb r (len _ _ _ _ h) fun hr2 => ?_
  obtain ⟨t, h1, q⟩ := hbody cdv A outer s H vs Q E (by rw [lk]; simp) hcd rfl hg hr2 h
  exact ⟨t, h1.nox, q⟩
end
section
variable {X : Cx} {CX : CXT} {k : Nat} {f : Addr} {fd : FuncData} {ps : List Str} {sp : Sp} {E : XK} {x : Str} {p pos : Pos} {e : Expr} {es : List Expr} {t : TA} {ds : List Value} {dvs : List V}
/-- f(e, ..) -/
theorem pe_callG (F : FnG X.prog X.w X.K X.mg X.base CX k f fd ps sp) (hgd : X.A.guards = some []) (hr : Room k X.A) (hg : Gl X x) (hm : X.mg x = some (.ref f)) (hk : PySem.W.keepIn X.K (.ref f) = true) (hb : L2.Binds X.K fd ps ds) (hd : Vals dvs ds) (hx : Passes CX X E) (ha : PA X (e :: es) t)
    (hdb : (x == ("__debug__" : Str)) = false := by decide) (he : starEach (e :: es) X.env = (false, eval e X.env) :: starEach es X.env := by rfl) (hpl : (backTo pos (starEach es X.env)).any (·.1) = false := by rfl) :
    PE X (.Call (.Name x p) (e :: es) [] pos) (tCall sp dvs E t) := by
  refine ⟨fun pins s σ H Q I h => ?_⟩
  refine wpAny_Call_Name_kw (ld_glob I hg hm ?_ hdb)
  refine PySem.W.callWith_K (h₀ := X.base) I.ok.mod.kin hk (thn (ha.run pos pins s σ H _ I h) fun us s1 ⟨vs, H1, I1, r, q⟩ => ⟨I1.kIn, ?_⟩) he hpl
  have r2 : Vals (vs ++ dvs) (us ++ ds) := r.append hd
  have hl : (us ++ ds).length = ps.length := by
    rw [← r2.length]
    exact F.len _ _ _ _ q
  refine wpAny_call (codeAny_mono (F.run X.A X.stack s1 H1 ⟨us, []⟩ (us ++ ds) (vs ++ dvs) Q E hgd hr I1.env0 (hb s1 us I1.kIn hl) r2 q) fun rr s2 hq => ?_)
  match rr, hq with
  | .error er, hq => exact hx pins σ H1 s1 er s2 I1 hq
  | .ok (.ret u), hq => exact I1.after hq
end
/-! ### plain data, all of it tracked -/
mutual
inductive Dq (H : Hp) : V → PyData → Prop
  | non : Dq H .non .none
  | bl (b : Bool) : Dq H (.bl b) (.bool b)
  | int (i : Int) : Dq H (.int i) (.int i)
  | str (x : Str) : Dq H (.str x) (.str x)
  | lst {a : Addr} {xs : List V} {ds : List PyData} : H a = some (.lst xs) → DqA H xs ds → Dq H (.ref a) (.list ds)
  | tup {a : Addr} {xs : List V} {ds : List PyData} : H a = some (.tup xs) → DqA H xs ds → Dq H (.ref a) (.tuple ds)
  | dct {a : Addr} : H a = some (.dK []) → Dq H (.ref a) (.dict [])
inductive DqA (H : Hp) : List V → List PyData → Prop
  | nil : DqA H [] []
  | cons {v : V} {vs : List V} {d : PyData} {ds : List PyData} : Dq H v d → DqA H vs ds → DqA H (v :: vs) (d :: ds)
end
section
variable {X : Cx} {pins : List (Addr × Obj)} {σ : L2.St} {H : Hp} {s : Shared}
mutual
theorem Dq.reads (I : Inv X pins σ H s) : ∀ {v : V} {d : PyData} {u : Value}, Dq H v d → RelV v u → ∃ as, Reads s.heap u d as ∧ ∀ b ∈ as, H b ≠ none
  | _, _, _, .non, r => by
    cases r
    exact ⟨_, .none, fun b h => nomatch h⟩
  | _, _, _, .bl b, r => by
    cases r
    exact ⟨_, .bool b, fun b h => nomatch h⟩
  | _, _, _, .int i, r => by
    obtain ⟨t, rfl⟩ := r
    exact ⟨_, .int i t, fun b h => nomatch h⟩
  | _, _, _, .str x, r => by
    obtain ⟨t, rfl⟩ := r
    exact ⟨_, .str x t, fun b h => nomatch h⟩
  | _, _, _, .lst (a := a) (xs := xs) ha hd, r => by
    cases r
    obtain ⟨_, its, n, rv, e⟩ := (show ObjOk X.prog X.w H s.heap a (.lst xs) from I.hok a _ ha)
    obtain ⟨as, h1, h2⟩ := DqA.reads I hd rv
    refine ⟨_, .list e rfl rfl (by simpa using h1), fun b hb => ?_⟩
    rcases List.mem_cons.mp hb with rfl | hb
    · rw [ha]; simp
    · exact h2 b hb
  | _, _, _, .tup (a := a) (xs := xs) ha hd, r => by
    cases r
    obtain ⟨_, its, rv, o, e, c, n, hn⟩ := (show ObjOk X.prog X.w H s.heap a (.tup xs) from I.hok a _ ha)
    obtain ⟨as, h1, h2⟩ := DqA.reads I hd rv
    exact ⟨_, .tuple e c hn (by simpa using h1), h2⟩
  | _, _, _, .dct (a := a) ha, r => by
    cases r
    obtain ⟨_, _, vs, kv, o, es, ep, e, hx, hdt, _, hes, _⟩ := (show ObjOk X.prog X.w H s.heap a (.dK []) from I.hok a _ ha)
    cases kv
    have e0 : es.toList = [] := by
      generalize es.toList = zs at hes
      cases hes
      rfl
    refine ⟨_, .dict (kvs := []) e hx.1 hdt (by rw [e0]; exact .nil) (by rw [e0]; exact .nil), fun b hb => ?_⟩
    have : b = a := by simpa using hb
    rw [this, ha]; simp
theorem DqA.reads (I : Inv X pins σ H s) : ∀ {vs : List V} {ds : List PyData} {us : List Value}, DqA H vs ds → Vals vs us → ∃ as, ReadsAll s.heap us ds as ∧ ∀ b ∈ as, H b ≠ none
  | _, _, _, .nil, r => by
    cases r
    exact ⟨_, .nil, fun b h => nomatch h⟩
  | _, _, _, .cons hd ht, .cons r rt => by
    obtain ⟨as, h1, h2⟩ := Dq.reads I hd r
    obtain ⟨bs, h3, h4⟩ := DqA.reads I ht rt
    exact ⟨_, .cons h1 h3, fun b hb => (List.mem_append.mp hb).elim (h2 b) (h4 b)⟩
end
end
mutual
theorem Dq.same {H H' : Hp} (s : Same H H') : ∀ {v : V} {d : PyData}, Dq H v d → Dq H' v d
  | _, _, .non => .non
  | _, _, .bl b => .bl b
  | _, _, .int i => .int i
  | _, _, .str x => .str x
  | _, _, .lst ha hd => .lst (s _ _ ha) (DqA.same s hd)
  | _, _, .tup ha hd => .tup (s _ _ ha) (DqA.same s hd)
  | _, _, .dct ha => .dct (s _ _ ha)
theorem DqA.same {H H' : Hp} (s : Same H H') : ∀ {vs : List V} {ds : List PyData}, DqA H vs ds → DqA H' vs ds
  | _, _, .nil => .nil
  | _, _, .cons a b => .cons (Dq.same s a) (DqA.same s b)
end
/-- repr of a list, a tuple or an empty dict of such data -/
def rReprD : List V → Hp → VK → Prop := fun xs H Q => ∃ (a : Addr) (d : PyData), xs = [.ref a] ∧ Dq H (.ref a) d ∧ d.showable = true ∧ d.depth ≤ 64 ∧ d.shown.length ≤ sizeLine ∧ Q (.str d.shown) H
theorem call_reprD {X : Cx} {k : Nat} {ob : Obj} (hg : X.A.guards = some []) (hr : Room k X.A) (sm : X.base.get? sysModules = some ob) : CallR X (.builtin "repr") rReprD := by
  intro pins s σ H xs us Q I r h
  obtain ⟨a, d, rfl, hd, hs, hdep, hz, q⟩ := h
  obtain ⟨u, rfl, ru⟩ := vals1 r
  cases (show u = Value.ref a from ru)
  obtain ⟨as, h1, h2⟩ := hd.reads I (u := .ref a) rfl
  have no : sysModules ∉ as := fun hm => h2 _ hm (I.env0.bs _ _ sm).2
  have hu := hr.un
  refine repr_of_reads' h1 hs (fun _ => no) hg (by omega) (fun _ _ e => e) (fun h' u tk hk => ?_) hz
  exact ⟨.str d.shown, H, I.kept (t' := tk) hk, ⟨_, rfl⟩, q⟩
/-! ### the end of a law, from such a promise -/
/-- at the law's call: the tables, and the script unless the module itself holds it -/
def H0 (K : PySem.W.Frag) (tabs : List Addr) (a : Addr) (u : HO) : Hp := fun b => if b ∈ tabs then some (.tbl #[]) else if b = a ∧ K.lookup a = none then some u else none
theorem H0_tab {K : PySem.W.Frag} {tabs : List Addr} {a b : Addr} {u : HO} (h : b ∈ tabs) : H0 K tabs a u b = some (.tbl #[]) := if_pos h
theorem H0_cases {K : PySem.W.Frag} {tabs : List Addr} {a b : Addr} {u o : HO} (h : H0 K tabs a u b = some o) : (b ∈ tabs ∧ o = .tbl #[]) ∨ (b ∉ tabs ∧ b = a ∧ K.lookup a = none ∧ o = u) := by
  unfold H0 at h
  split at h
  next hb => exact .inl ⟨hb, (Option.some.inj h).symm⟩
  next hb =>
    split at h
    next hc => exact .inr ⟨hb, hc.1, hc.2, (Option.some.inj h).symm⟩
    next => cases h
theorem law_callG {P : Program} {w : World} {K : PySem.W.Frag} {mg mb : Str → Option Value} {k : Nat} {fa a : Addr} {cs : List (Addr × Addr)} {fd : FuncData} {x : Str} {sp : Sp} {st : Shared} {vs : List Value} {ns : List Int}
    (KX : K.In st.heap) (gNs : st.heap.Ns mainGlobals mg) (bNs : st.heap.Ns builtinsNs mb) (bEq : ∀ x : Str, x ≠ "__name__" → mb x = bootBuiltins x) (lim : st.heap.NoLimit) (noG : st.gens = #[])
    (isT : ∀ p ∈ cs, st.heap.get? p.2 = some { cls := .none, data := .fields #[] }) (nK : ∀ p ∈ cs, K.lookup p.2 = none) (isC : ∀ p ∈ cs, PySem.W.CodeHd st.heap p.1 p.2)
    (bMain : ∃ (bm : Addr) (ob : Obj), mg "__builtins__" = some (.ref bm) ∧ bm ≠ builtinsNs ∧ st.heap.get? bm = some ob ∧ ob.cls = .type "module" ∧ ob.dict = some builtinsNs ∧ ob.data = .plain)
    (scr : st.heap.get? a = some { cls := .type "list", data := .seq vs.toArray }) (intsA : IntsAre vs ns) (few : ns.length ≤ sizeLine) (room : Room k callerA)
    (mods : ∃ mm, st.heap.Ns sysModules mm)
    (F : ∀ base : Heap, K.In base → base.Ns mainGlobals mg → (∃ ob, base.get? sysModules = some ob) → (∀ p ∈ cs, LamX.TabB base mg p.1 p.2) → FnG P w K mg base CX0 k fa fd [x] sp) (bind : ∀ (s : Shared) (u : Value), BindsTo s fd ⟨[u], []⟩ [(x, u)])
    (hsp : ∀ H : Hp, (∀ p ∈ cs, H p.2 = some (.tbl #[])) → SqL K H a (ns.map V.int) → sp [.ref a] H (fun v _ => v = .bl true) fun _ _ _ => False) :
    codeAny (model P w) callerA (.call (.ref fa) ⟨[.ref a], []⟩) (fun r s2 => r = .ok (.ret (.bool true)) ∧ OldK st.heap s2.heap ∧ s2.os = st.os ∧ AllBare s2.gens) st := by
  have vals := vals_ints intsA
  have tabAt : ∀ b ∈ cs.map (·.2), st.heap.get? b = some { cls := .none, data := .fields #[] } := fun b hb => by
    obtain ⟨p, hp, rfl⟩ := List.mem_map.mp hb
    exact isT p hp
  generalize hu : (HO.frz { cls := .type "list", data := .seq vs.toArray } (.lst (ns.map V.int))) = u
  generalize hH : H0 K (cs.map (·.2)) a u = H
  have tabH : ∀ p ∈ cs, H p.2 = some (.tbl #[]) := fun p hp => by
    rw [← hH]
    exact H0_tab (List.mem_map.mpr ⟨p, hp, rfl⟩)
  have what : ∀ b o, H b = some o → (b ∈ cs.map (·.2) ∧ o = .tbl #[]) ∨ (b ∉ cs.map (·.2) ∧ b = a ∧ K.lookup a = none ∧ o = u) := fun b o e => by
    rw [← hH] at e
    exact H0_cases e
  have held : HOk P w H st.heap := fun b o e => by
    rcases what b o e with ⟨h1, rfl⟩ | ⟨_, rfl, _, rfl⟩
    · exact tabAt b h1
    · rw [← hu]
      exact ⟨scr, by rw [List.length_map]; exact few, vs, _, vals, scr⟩
  have seen : SqL K H a (ns.map V.int) := by
    cases hk : K.lookup a with
    | some o =>
      have e := KX a o hk
      rw [scr] at e
      cases e
      exact .inr ⟨_, vs.toArray, _, hk, rfl, rfl, rfl, by rw [List.size_toArray, intsA.length]; exact few, by simpa using vals⟩
    | none =>
      refine .inl (.inr ⟨{ cls := .type "list", data := .seq vs.toArray }, ?_⟩)
      have nt : a ∉ cs.map (·.2) := fun z => by
        have q := tabAt a z
        rw [scr] at q
        cases congrArg Obj.data (Option.some.inj q)
      rw [← hH, ← hu]
      exact (if_neg nt).trans (if_pos ⟨rfl, hk⟩)
  -- what is neither a list nor an empty table is not tracked
  have untracked : ∀ {b : Addr} {o : Obj}, st.heap.get? b = some o → (∀ us m, o.data ≠ .seq us m) → o.data ≠ .fields #[] → H b = none := fun {b o} e h1 h2 => by
    cases q : H b with
    | none => rfl
    | some z =>
      rcases what b z q with ⟨hb, _⟩ | ⟨_, rfl, _⟩
      · rw [tabAt b hb] at e
        exact absurd (congrArg Obj.data (Option.some.inj e)).symm h2
      · rw [scr] at e
        exact absurd (congrArg Obj.data (Option.some.inj e)).symm (h1 _ _)
  have stays : ∀ {b : Addr} {o : Obj}, st.heap.get? b = some o → (∀ us m, o.data ≠ .seq us m) → o.data ≠ .fields #[] → (hidT st.heap H).get? b = some o := fun e h1 h2 => hidT_get e (untracked e h1 h2)
  have names : ∀ {b : Addr} {m : Str → Option Value}, st.heap.Ns b m → (hidT st.heap H).Ns b m := fun ⟨o, es, ep, e, dt, r⟩ =>
    ⟨o, es, ep, stays e (fun _ _ z => by rw [dt] at z; cases z) (fun z => by rw [dt] at z; cases z), dt, r⟩
  have inB : K.In (hidT st.heap H) := fun b o e => hidT_get (KX b o e) (by
    cases q : H b with
    | none => rfl
    | some z =>
      rcases what b z q with ⟨hb, _⟩ | ⟨_, rfl, hn, _⟩
      · obtain ⟨p, hp, rfl⟩ := List.mem_map.mp hb
        rw [nK p hp] at e
        cases e
      · rw [hn] at e
        cases e)
  obtain ⟨mc, lim1, lim2⟩ := lim
  have modu : L2.Mod K mg (hidT st.heap H) := ⟨inB, names gNs, ⟨mb, names bNs, bEq⟩, ⟨mc, names lim1, lim2⟩⟩
  have tabB : ∀ p ∈ cs, LamX.TabB (hidT st.heap H) mg p.1 p.2 := fun p hp => by
    have atP := isT p hp
    refine { code := ?_, bm := ?_, gP := fun z => ?_ }
    · obtain ⟨o, us, file, tf, flags, tg, inF, text, tt, e1, r1, r2, r3, r4⟩ := isC p hp
      exact ⟨o, us, file, tf, flags, tg, inF, text, tt, stays e1 (fun _ _ z => by rw [r2] at z; cases z) (fun z => by rw [r2] at z; cases z; simp at r3), r1, r2, r3, r4⟩
    · obtain ⟨bm, ob, b1, b2, b3, b4, b5, b6⟩ := bMain
      refine ⟨bm, ob, b1, b2, fun z => ?_, fun z => ?_, stays b3 (fun _ _ z => by rw [b6] at z; cases z) (fun z => by rw [b6] at z; cases z), b4, b5, b6⟩
      · obtain ⟨o, es, ep, e, dt, _⟩ := gNs
        rw [z, e] at b3
        cases b3
        rw [dt] at b6
        cases b6
      · rw [z, atP] at b3
        cases b3
        cases b6
    · obtain ⟨o, es, ep, e, dt, _⟩ := gNs
      rw [z, atP] at e
      cases e
      cases dt
  have env : Env0 P w K mg (hidT st.heap H) callerA [] st H := ⟨rfl, modu, fun b o e => of_hidT e, Nat.le_of_eq (hidT_size _ _), trivial, (fun b hb => absurd (show b ∈ ([] : List Addr) from hb) (by simp)), held, .of_eq noG⟩
  have hm : ∃ ob, (hidT st.heap H).get? sysModules = some ob := by
    obtain ⟨mm, hm⟩ := mods
    obtain ⟨o, es, ep, e, _⟩ := names hm
    exact ⟨o, e⟩
  refine codeAny_mono ((F _ inB (names gNs) hm tabB).run callerA [] st H ⟨[.ref a], []⟩ [.ref a] [.ref a] _ _ rfl room env (bind st (.ref a)) (.cons rfl .nil) (hsp H tabH seen)) fun r s2 h => ?_
  match r, h with
  | .error e, h => exact (show False from h).elim
  | .ok (.ret z), h =>
    obtain ⟨v, H2, os2, bare, un, held2, rz, q⟩ := h
    cases (show v = .bl true from q)
    cases (show z = Value.bool true from rz)
    have kept : ∀ b o, b ∉ cs.map (·.2) → st.heap.get? b = some o → s2.heap.get? b = some o := fun b o nb e => by
      cases q : H b with
      | none => exact un.keep b o e q (fun z => absurd (show b ∈ ([] : List Addr) from z) (by simp)) (by simp)
      | some y =>
        rcases what b y q with ⟨hb, _⟩ | ⟨_, rfl, _, rfl⟩
        · exact absurd hb nb
        · rw [← hu] at q
          have e1 := (held2 _ _ (un.frzs _ _ _ q)).1
          rw [scr] at e
          cases e
          exact e1
    have grew : ∀ p ∈ cs, ∃ more : Array Value, s2.heap.get? p.2 = some { cls := .none, data := .fields more } := fun p hp => by
      obtain ⟨more, z⟩ := un.tbls p.2 #[] (tabH p hp)
      exact ⟨_, held2 p.2 _ z⟩
    refine ⟨rfl, ⟨fun b o e => ?_, fun b o e => ?_⟩, os2, bare⟩
    · by_cases hb : b ∈ cs.map (·.2)
      · obtain ⟨p, hp, rfl⟩ := List.mem_map.mp hb
        obtain ⟨more, hm⟩ := grew p hp
        rw [isT p hp] at e
        cases e
        exact .inr (.inl ⟨((isC p hp).tab (isT p hp)).isCodeTable, rfl, #[], more, rfl, by rw [Array.empty_append]; exact hm⟩)
      · exact .inl (kept b o hb e)
    · by_cases hb : b ∈ cs.map (·.2)
      · obtain ⟨p, hp, rfl⟩ := List.mem_map.mp hb
        obtain ⟨more, hm⟩ := grew p hp
        exact ⟨_, hm⟩
      · exact ⟨o, kept b o hb e⟩
/-- what the law's def promises where the head has ended -/
def LawG (l : PySem.W.OpenLaw) (w : World) (K : PySem.W.Frag) (k n : Nat) (x : Str) (mg : Str → Option Value) (fa : Addr) (h : Heap) : Prop :=
  ∃ (fd : FuncData) (cs : List (Addr × Addr)) (sp : Sp), (∀ p ∈ cs, h.get? p.2 = some { cls := .none, data := .fields #[] }) ∧ (∀ p ∈ cs, K.lookup p.2 = none) ∧ (∀ p ∈ cs, PySem.W.CodeHd h p.1 p.2) ∧ (∀ (s : Shared) (u : Value), BindsTo s fd ⟨[u], []⟩ [(x, u)]) ∧
    (∀ (H : Hp) (a : Addr) (ns : List Int), ns.length ≤ n → (∀ p ∈ cs, H p.2 = some (.tbl #[])) → SqL K H a (ns.map V.int) → sp [.ref a] H (fun v _ => v = .bl true) fun _ _ _ => False) ∧
    ∀ base : Heap, K.In base → base.Ns mainGlobals mg → (∃ ob, base.get? sysModules = some ob) → (∀ p ∈ cs, LamX.TabB base mg p.1 p.2) → FnG l.prog w K mg base CX0 k fa fd [x] sp
theorem walk_ofG {l : PySem.W.OpenLaw} {n k : Nat} {q : Program} {loose : List Str} {XP : (Str → Option Value) → Heap → Prop} {YP : World → Heap → Prop} {d : DefRec} {K : Params → PySem.W.Frag} {x : Str}
    (hn : l.most = some n) (hn2 : n ≤ sizeLine) (hdf : d.params.defaults = []) (hi : importsNone q = true) (hr : Room k callerA) (hY : ∀ (w : World) (h : Heap), YP w h → (K w.params).In h)
    (F : ∀ (w : World) (mg : Str → Option Value) (fa : Addr) (h : Heap), YP w h → (K w.params).In h → h.Ns mainGlobals mg → mg d.name = some (.ref fa) → LawG l w (K w.params) k n x mg fa h) :
    PySem.W.WalkO q loose XP YP l.row.toRowW d [] (fun f vs => PySem.call f vs) := by
  refine Att.attach_call hn hdf fun w t0 t1 mg mb fa o pm cd doc a vs ns gr y1 ho hd hcd hmg hobj hints hlen hgen => ?_
  obtain ⟨fd, cs, sp, c1, c2, c3, c4, c5, c6⟩ := F w mg fa _ y1 (hY w _ y1) gr.T.g hmg
  exact law_callG (hY w _ y1) gr.T.g gr.T.b gr.T.builtins gr.T.nolimit hgen c1 c2 c3 gr.T.bmain hobj hints (Nat.le_trans hlen hn2) hr (let ⟨mm, hm, _⟩ := (gr.T.seer hi).mods; ⟨mm, hm⟩) c6 c4 fun H tabs sq => c5 H a ns hlen tabs sq
end Gd

/-! shown data as data: code points, lengths -/
namespace SkT
open PySem
theorem ok_of (s : String) : PyData.strOk (Str.ofString s) = true := by
  unfold PyData.strOk
  rw [Str.ofString_eq_toList, List.all_toArray, List.all_eq_true]
  intro n hn
  obtain ⟨c, _, rfl⟩ := List.mem_map.mp hn
  refine decide_eq_true ?_
  have := c.valid
  unfold Char.toNat
  rcases this with h | h
  · exact Nat.lt_trans h (by decide)
  · exact h.2
theorem ok_app {a b : Str} (h1 : PyData.strOk a = true) (h2 : PyData.strOk b = true) : PyData.strOk (a ++ b) = true := by
  unfold PyData.strOk at h1 h2 ⊢
  show (a.cps ++ b.cps).all _ = true
  rw [Array.all_append, h1, h2]
  rfl
theorem ok_join {sep : Str} (hs : PyData.strOk sep = true) : ∀ {ts : List Str}, (∀ t ∈ ts, PyData.strOk t = true) → PyData.strOk (Str.join sep ts) = true
  | [], _ => (by decide +kernel : PyData.strOk Str.empty = true)
  | [x], h => h x List.mem_cons_self
  | x :: y :: r, h => ok_app (ok_app (h x List.mem_cons_self) hs) (ok_join hs fun t ht => h t (List.mem_cons_of_mem _ ht))
theorem ok_from : ∀ {ts : List Str} {k : Nat} {acc : Str}, PyData.strOk acc = true → (∀ t ∈ ts, PyData.strOk t = true) → PyData.strOk (textFrom k acc ts) = true
  | [], _, _, ha, _ => ha
  | t :: r, k, acc, ha, h => by
    rw [textFrom]
    exact ok_from (ok_app (ok_app ha (ok_of _)) (h t List.mem_cons_self)) fun x hx => h x (List.mem_cons_of_mem _ hx)
theorem ok_list {ts : List Str} (h : ∀ t ∈ ts, PyData.strOk t = true) : PyData.strOk (listText ts) = true := ok_app (ok_from (ok_of _) h) (ok_of _)
theorem ok_tup {ts : List Str} (h : ∀ t ∈ ts, PyData.strOk t = true) : PyData.strOk (tupleText ts) = true := ok_app (ok_app (ok_of _) (ok_join (ok_of _) h)) (ok_of _)
theorem join_le : ∀ ts : List Str, (Str.join ", " ts).length ≤ (ts.map fun t => t.length + 2).sum
  | [] => Nat.le_refl _
  | [x] => by
    show x.length ≤ _
    simp
  | x :: y :: r => by
    show (x ++ ", " ++ Str.join ", " (y :: r)).length ≤ _
    rw [strLen_append, strLen_append, show (", " : Str).length = 2 by decide +kernel]
    have := join_le (y :: r)
    rw [List.map_cons, List.sum_cons]
    omega
theorem tup_le (ts : List Str) : (tupleText ts).length ≤ (ts.map fun t => t.length + 2).sum + 3 := by
  unfold tupleText
  rw [strLen_append, strLen_append, show ("(" : Str).length = 1 by decide +kernel]
  have := join_le ts
  have : (Str.ofString (if ts.length == 1 then ",)" else ")" : String)).length ≤ 2 := by
    split
    · decide +kernel
    · decide +kernel
  omega
theorem from_le : ∀ (ts : List Str) (k : Nat) (acc : Str), (textFrom k acc ts).length ≤ acc.length + (ts.map fun t => t.length + 2).sum
  | [], _, _ => by simp [textFrom]
  | t :: r, k, acc => by
    rw [textFrom]
    have ih := from_le r (k + 1) (acc ++ (if k > 0 then ", " else "" : String) ++ t)
    rw [strLen_append, strLen_append] at ih
    have : (Str.ofString (if k > 0 then ", " else "" : String)).length ≤ 2 := by
      split
      · decide +kernel
      · decide +kernel
    rw [List.map_cons, List.sum_cons]
    omega
theorem list_le (ts : List Str) : (listText ts).length ≤ (ts.map fun t => t.length + 2).sum + 2 := by
  unfold listText
  rw [strLen_append, show ("]" : Str).length = 1 by decide +kernel]
  have := from_le ts 0 "["
  rw [show ("[" : Str).length = 1 by decide +kernel] at this
  omega
/-- data that can be shown; n bounds its text, k its depth -/
structure Sw (n k : Nat) (d : PyData) : Prop where
  sh : d.showable = true
  dp : d.depth ≤ k
  ln : d.shown.length ≤ n
  ok : PyData.strOk d.shown = true
theorem Sw.mono {n m k j : Nat} {d : PyData} (h : Sw n k d) (a : n ≤ m) (b : k ≤ j) : Sw m j d := ⟨h.sh, Nat.le_trans h.dp b, Nat.le_trans h.ln a, h.ok⟩
theorem sw_all {n k : Nat} : ∀ {ds : List PyData}, (∀ x ∈ ds, Sw n k x) → PyData.showableAll ds = true ∧ PyData.depthAll ds ≤ k ∧ ((PyData.shownAll ds).map fun t => t.length + 2).sum ≤ (n + 2) * ds.length ∧ ∀ t ∈ PyData.shownAll ds, PyData.strOk t = true
  | [], _ => ⟨rfl, by simp [PyData.depthAll], by simp [PyData.shownAll], fun t h => by simp [PyData.shownAll] at h⟩
  | d :: r, h => by
    obtain ⟨a, b, c, e⟩ := sw_all (ds := r) fun x hx => h x (List.mem_cons_of_mem _ hx)
    have hd := h d List.mem_cons_self
    refine ⟨?_, ?_, ?_, ?_⟩
    · rw [PyData.showableAll, a, hd.sh]; rfl
    · rw [PyData.depthAll]; exact Nat.max_le.mpr ⟨hd.dp, b⟩
    · rw [PyData.shownAll, List.map_cons, List.sum_cons, List.length_cons, Nat.mul_succ]
      have := hd.ln
      omega
    · intro t ht
      rw [PyData.shownAll] at ht
      rcases List.mem_cons.mp ht with rfl | z
      · exact hd.ok
      · exact e t z
theorem sw_tup {n k : Nat} {ds : List PyData} (h : ∀ x ∈ ds, Sw n k x) : Sw ((n + 2) * ds.length + 3) (k + 1) (.tuple ds) := by
  obtain ⟨a, b, c, e⟩ := sw_all h
  refine ⟨by rw [PyData.showable]; exact a, by rw [PyData.depth]; omega, ?_, ?_⟩
  · rw [PyData.shown]
    exact Nat.le_trans (tup_le _) (by omega)
  · rw [PyData.shown]
    exact ok_tup e
theorem sw_lst {n k : Nat} {ds : List PyData} (h : ∀ x ∈ ds, Sw n k x) : Sw ((n + 2) * ds.length + 2) (k + 1) (.list ds) := by
  obtain ⟨a, b, c, e⟩ := sw_all h
  refine ⟨by rw [PyData.showable]; exact a, by rw [PyData.depth]; omega, ?_, ?_⟩
  · rw [PyData.shown]
    exact Nat.le_trans (list_le _) (by omega)
  · rw [PyData.shown]
    exact ok_list e
theorem log_nat {n : Nat} (h : n < 10 ^ 20) : (n : Nat).log2 < 1920 := by
  by_cases h0 : n = 0
  · rw [h0]; decide
  · exact Nat.lt_of_lt_of_le ((Nat.log2_lt h0).mpr (Nat.lt_of_lt_of_le h (show 10 ^ 20 ≤ 2 ^ 70 by decide))) (by decide)
theorem sw_int {i : Int} {n : Nat} (h : i.natAbs < 10 ^ 20) (hl : (PyData.shown (.int i)).length ≤ n) : Sw n 0 (.int i) := ⟨by simp only [PyData.showable, decide_eq_true_eq]; exact log_nat h, by simp [PyData.depth], hl, ok_of _⟩
theorem sw_bl (b : Bool) : Sw 5 0 (.bool b) := by cases b <;> exact ⟨rfl, by simp [PyData.depth], by decide +kernel, by decide +kernel⟩
theorem sw_non : Sw 4 0 .none := ⟨rfl, by simp [PyData.depth], by decide +kernel, by decide +kernel⟩
/-- two rows of two words as data -/
theorem shaped2 {a b : Str} (h1 : PyData.strOk a = true) (h2 : PyData.strOk b = true) : SeqAt.shaped (.list [.str a, .str b]) = true := by
  unfold SeqAt.shaped
  simp [PyData.canLay0, PyData.canLayAll0, h1, h2, PyData.depth, PyData.depthAll]
theorem shaped3 {a b : Str} {c : Bool} (h1 : PyData.strOk a = true) (h2 : PyData.strOk b = true) : SeqAt.shaped (.list [.str a, .str b, .bool c]) = true := by
  unfold SeqAt.shaped
  simp [PyData.canLay0, PyData.canLayAll0, h1, h2, PyData.depth, PyData.depthAll]
end SkT

/-! repr of any plain data, also behind a caught error; the types of plain data; slices of lists of counts -/
namespace RpA
open PySem L2 Gd
theorem ext_same {H H' : Hp} (s : Same H H') : LamX.ExtN H H' := fun b o e _ => s b o e
mutual
theorem dq_ext {H H' : Hp} (s : LamX.ExtN H H') : ∀ {v : V} {d : PyData}, Dq H v d → Dq H' v d
  | _, _, .non => .non
  | _, _, .bl b => .bl b
  | _, _, .int i => .int i
  | _, _, .str x => .str x
  | _, _, .lst ha hd => .lst (s _ _ ha (by intro ps z; cases z)) (dqa_ext s hd)
  | _, _, .tup ha hd => .tup (s _ _ ha (by intro ps z; cases z)) (dqa_ext s hd)
  | _, _, .dct ha => .dct (s _ _ ha (by intro ps z; cases z))
theorem dqa_ext {H H' : Hp} (s : LamX.ExtN H H') : ∀ {vs : List V} {ds : List PyData}, DqA H vs ds → DqA H' vs ds
  | _, _, .nil => .nil
  | _, _, .cons a b => .cons (dq_ext s a) (dqa_ext s b)
end
theorem dqa_app {H : Hp} : ∀ {vs ws : List V} {ds es : List PyData}, DqA H vs ds → DqA H ws es → DqA H (vs ++ ws) (ds ++ es)
  | _, _, _, _, .nil, b => b
  | _, _, _, _, .cons a t, b => .cons a (dqa_app t b)
theorem dqa_len {H : Hp} : ∀ {vs : List V} {ds : List PyData}, DqA H vs ds → vs.length = ds.length
  | _, _, .nil => rfl
  | _, _, .cons _ t => by rw [List.length_cons, List.length_cons, dqa_len t]
theorem dqa_mem {H : Hp} : ∀ {vs : List V} {ds : List PyData}, DqA H vs ds → ∀ x ∈ vs, ∃ d ∈ ds, Dq H x d
  | _, _, .nil, _, h => nomatch h
  | _, _, .cons a t, x, h => by
    rcases List.mem_cons.mp h with rfl | z
    · exact ⟨_, List.mem_cons_self, a⟩
    · obtain ⟨d, m, q⟩ := dqa_mem t x z
      exact ⟨d, List.mem_cons_of_mem _ m, q⟩
/-- the name of the type -/
def tyN : PyData → String
  | .none => "NoneType"
  | .bool _ => "bool"
  | .int _ => "int"
  | .str _ => "str"
  | .list _ => "list"
  | .tuple _ => "tuple"
  | .dict _ => "dict"
theorem dq_ty {K : PySem.W.Frag} {H : Hp} {v : V} {d : PyData} (q : Dq H v d) : TyX K H v (.type (tyN d)) := by
  cases q with
  | non => exact .base .non
  | bl b => exact .base (.bl b)
  | int i => exact .base (.int i)
  | str x => exact .base (.str x)
  | lst h _ => exact .base (.lst h)
  | tup h _ => exact .base (.tup h)
  | dct h => exact .base (.dK h)
/-- repr of such data -/
def rReprA : List V → Hp → VK → Prop := fun xs H Q => ∃ (v : V) (d : PyData) (n : Nat), xs = [v] ∧ Dq H v d ∧ SkT.Sw n 64 d ∧ n ≤ sizeLine ∧ Q (.str d.shown) H
theorem call_reprA {X : Cx} {ob : Obj} (hg : X.A.guards = some []) (hu : X.A.units + 66 < cLine) (sm : X.base.get? sysModules = some ob) : CallR X (.builtin "repr") rReprA := by
  intro pins s σ H xs us Q I r h
  obtain ⟨v, d, n, rfl, hd, hs, hn, q⟩ := h
  obtain ⟨u, rfl, ru⟩ := vals1 r
  have ref : ∀ a, v = .ref a → wpAny (model X.prog X.w) X.A (PySem.call (.builtin "repr") [u]) (fun u' s' => ∃ (v' : V) (H' : Hp), Inv X pins σ H' s' ∧ RelV v' u' ∧ Q v' H') X.xe s := fun a e => by
    subst e
    cases (show u = Value.ref a from ru)
    obtain ⟨as, h1, h2⟩ := hd.reads I (u := .ref a) rfl
    have no : sysModules ∉ as := fun hm => h2 _ hm (I.env0.bs _ _ sm).2
    have := hs.dp
    refine repr_of_reads' h1 hs.sh (fun _ => no) hg (by omega) (fun _ _ e => e) (fun h' u tk hk => ?_) (Nat.le_trans hs.ln hn)
    exact ⟨.str d.shown, H, I.kept (t' := tk) hk, ⟨_, rfl⟩, q⟩
  cases hd with
  | non =>
    cases ru
    exact PySem.P.repr_of_none ⟨.str _, H, I.tok _, ⟨_, rfl⟩, q⟩
  | bl b =>
    cases ru
    exact PySem.P.repr_of_bool ⟨.str _, H, I.tok _, ⟨_, rfl⟩, q⟩
  | int i =>
    obtain ⟨t, rfl⟩ := ru
    exact PySem.P.repr_of_int (by have := hs.sh; simpa [PyData.showable] using this) ⟨.str _, H, I.tok _, ⟨_, rfl⟩, q⟩
  | str x =>
    obtain ⟨t, rfl⟩ := ru
    exact PySem.P.repr_of_str ⟨.str _, H, I.tok _, ⟨_, rfl⟩, q⟩ (Nat.le_trans hs.ln hn)
  | lst ha hd => exact ref _ rfl
  | tup ha hd => exact ref _ rfl
  | dct ha => exact ref _ rfl
theorem sl_from {K : PySem.W.Frag} {Q : VK} {H : Hp} {l : Addr} {vs : List V} {n : Int} {k : Nat} (hl : H l = some (.lst vs)) (e : n = (k : Nat)) (h : ∀ z, H z = none → ∀ H', Same H H' → H' z = some (.lst (vs.drop k)) → Q (.ref z) H') : rSlL K (.ref l) (some n) none H Q := by
  refine ⟨l, vs, rfl, SqL.of hl, fun z nz => ?_⟩
  rw [e, Cm.cut_from]
  exact h z nz _ (fun b o q => by rw [upd_ne (ne_of_none q nz)]; exact q) upd_same
theorem sl_to {K : PySem.W.Frag} {Q : VK} {H : Hp} {l : Addr} {vs : List V} {n : Int} {k : Nat} (hl : H l = some (.lst vs)) (e : n = (k : Nat)) (hk : k ≤ vs.length) (h : ∀ z, H z = none → ∀ H', Same H H' → H' z = some (.lst (vs.take k)) → Q (.ref z) H') : rSlL K (.ref l) none (some n) H Q := by
  refine ⟨l, vs, rfl, SqL.of hl, fun z nz => ?_⟩
  rw [e, Cm.cut_to _ _ hk]
  exact h z nz _ (fun b o q => by rw [upd_ne (ne_of_none q nz)]; exact q) upd_same
theorem cat {Q : VK} {H : Hp} {p r : Addr} {xs ys : List V} (hp : H p = some (.lst xs)) (hr : H r = some (.lst ys)) (hl : xs.length + ys.length ≤ sizeLine) (k : ∀ z, H z = none → ∀ H', Same H H' → H' z = some (.lst (xs ++ ys)) → Q (.ref z) H') : rCat (.ref p) (.ref r) H Q :=
  ⟨p, r, xs, ys, rfl, rfl, hp, hr, hl, fun z nz => k z nz _ (fun b o q => by rw [upd_ne (ne_of_none q nz)]; exact q) upd_same⟩
end RpA

/-! try with several clauses `except C as n`, all of one name -/
namespace TryAs
open PySem PySem.Spec PyProof.Rows L2
/-- a clause: its class, and what its suite does -/
structure Cl where
  c : Value
  ts : Addr → Value → Option Addr → TS
/-- behind a suite the name is gone -/
def bare (i : Nat) (D : Ends) : Ends := ⟨fun σ H => D.nx (σ.set i none) H, D.rt, fun σ H => D.bk (σ.set i none) H, fun σ H => D.ct (σ.set i none) H⟩
def wish (K : PySem.W.Frag) (i : Nat) (out : WX) (D : Ends) : List Cl → WX
  | [] => out
  | k :: ks => fun cls d σ H => ∃ yes, PySem.W.exmOne K cls k.c = some yes ∧ cond yes (∀ e, H e = none → k.ts e cls d (bare i D) (σ.set i (some (.ref e))) H) (wish K i out D ks cls d σ H)
inductive Cls (X : Cx) (n : Str) : List ExceptHandler → List Cl → Prop
  | stop : Cls X n [] []
  | more {x : Str} {k : Cl} {st : Stmt} {sts : List Stmt} {p1 p2 : Pos} {hds : List ExceptHandler} {ks : List Cl} : Names X x k.c →
      (∀ (e : Addr) (o : Obj) (cls : Value) (d : Option Addr) (pn : List (Addr × Obj)), Zc cls d o → (∃ vs, o.data = .fields vs) → PSs (X.suite e ((e, o) :: pn)) (st :: sts) (k.ts e cls d)) → Cls X n hds ks →
      Cls X n (.ExceptHandler (some (.Name x p1)) (some n) (st :: sts) p2 :: hds) (k :: ks)
section
variable {X : Cx} {n : Str} {i : Nat} {out : WX} {D : Ends} {pins : List (Addr × Obj)} {σ : L2.St} {H : Hp} {sI : Shared} {B : Heap} {e : Addr} {cls : Value} {d : Option Addr}
/-- an error that has come down in X, sI is the state without it -/
structure Down (X : Cx) (pins : List (Addr × Obj)) (σ : L2.St) (H : Hp) (sI : Shared) (B : Heap) (e : Addr) (cls : Value) (d : Option Addr) (h : Heap) : Prop where
  J : Inv X pins σ H sI
  nb : ∀ b o, sI.heap.get? b = some o → b ∉ frs X.stack → B.get? b = some o
  up : sI.heap.UpToSlots h
  fl : HandSPX.FlyingZ B (X.env :: X.outer) e (Zc cls d) h
  na : H e = none
theorem Down.here {h : Heap} {s : Shared} (Z : Down X pins σ H sI B e cls d h) (os : s.os = sI.os) (ag : AllBare s.gens) : Inv X pins σ H { s with heap := h } := Z.J.landed Z.nb Z.fl.1 Z.up os ag
theorem Down.outside {h : Heap} (Z : Down X pins σ H sI B e cls d h) (hf : X.env.frame = some X.env.locals) : e ≠ X.env.locals ∧ e ∉ X.fs := by
  have no : e ∉ frs (X.env :: X.outer) := fun m => by
    obtain ⟨o1, vs, g1, _, f1⟩ := Z.fl.there
    obtain ⟨_, o2, g2, f2⟩ := Z.fl.2.2.1.mem m
    exact f2 vs ((congrArg Obj.data (Option.some.inj (g2.symm.trans g1))).trans f1)
  refine ⟨fun q => no ?_, fun q => no ?_⟩
  · exact q ▸ List.mem_filterMap.mpr ⟨X.env, List.mem_cons_self, hf⟩
  · obtain ⟨v, h1, h2⟩ := List.mem_filterMap.mp q
    exact List.mem_filterMap.mpr ⟨v, List.mem_cons_of_mem _ h1, h2⟩
/-- no clause has taken it: it goes on -/
theorem Down.on {h : Heap} {s : Shared} (Z : Down X pins σ H sI B e cls d h) (hs : X.stack = X.env :: X.outer) (hf : X.env.frame = some X.env.locals) (tk : Takes X out) (os : s.os = sI.os) (ag : AllBare s.gens) (w : out cls d σ H) :
    wpAny (model X.prog X.w) X.A (handleBy (.ref e) X.env []) (SP X pins D) X.xe { s with heap := h } := by
  refine wpAny_handleBy_nil ?_
  have last : wpAny (model X.prog X.w) X.A (setFlight (.ref e) X.env.frame) (fun _ t => wpAny (model X.prog X.w) X.A (throw (.ref e) : Sem Flow) (SP X pins D) X.xe t) X.xe { s with heap := h } := by
    rw [hf]
    exact HandSPX.setFlight_upZ Z.fl fun g held u => wpAny_throw (tk _ _ ⟨e, B, sI, pins, σ, H, cls, d, rfl, Z.J, Z.nb, Z.up.trans u, .inr (.inr (hs ▸ held)), Z.na, os, ag, w⟩)
  obtain ⟨_, _, _, o, vs, T, _, _, g1, _, g2, g3, _⟩ := id Z.fl
  unfold PySem.passOn
  refine wpAny_bind (wpAny_field g1 g2 g3 ?_)
  have ne : ¬ ((Value.ref T == Value.none) = true) := by simp
  rw [if_neg ne]
  first
    | exact wpAny_bind (wpAny_pure (wpAny_bind last))
    | exact wpAny_bind last
theorem Cls.run (hs : X.stack = X.env :: X.outer) (hf : X.env.frame = some X.env.locals) (nd : X.N.Nodup) (hi : X.N[i]? = some n) (ln : X.env.kindOf n = some .local) (tk : Takes X out) {h : Heap} {s : Shared} (Z : Down X pins σ H sI B e cls d h) (os : s.os = sI.os) (ag : AllBare s.gens) :
    ∀ {hds : List ExceptHandler} {ks : List Cl}, Cls X n hds ks → wish X.K i out D ks cls d σ H → wpAny (model X.prog X.w) X.A (handleBy (.ref e) X.env hds) (SP X pins D) X.xe { s with heap := h }
  | _, _, .stop, w => Z.on hs hf tk os ag w
  | _, _, .more (x := x) (k := k) (p1 := p1) (p2 := p2) nm ru re, w => by
    obtain ⟨yes, ex, w⟩ := w
    have I3 := Z.here os ag
    obtain ⟨n1, n2⟩ := Z.outside hf
    obtain ⟨o3, v3, g3, z3, f3⟩ := Z.fl.there
    have S3 := I3.suite g3 f3 Z.na n1 n2
    have ty : PySem.W.Looks (model X.prog X.w) h (typeOf (.ref e)) cls := fun _ _ _ _ kk q => wpAny_typeOf_ref (kk _ _ g3) (z3.1.symm ▸ q)
    have mt := PySem.W.exm_one (M := model X.prog X.w) I3.kIn ty ex
    have look : ∀ {Q E : Value → Shared → Prop}, Q k.c { s with heap := h } → wpAny (model X.prog X.w) (X.A.mark (some (.ref e))) (eval (.Name x p1) X.env) Q E { s with heap := h } := fun {Q E} q => by
      obtain ⟨gl, db, m1 | ⟨m1, m2, m3⟩⟩ := nm
      · exact ld_glob (X := X.suite e ((e, o3) :: (X.pn ++ pins))) S3 gl m1 q db
      · exact ld_blt (X := X.suite e ((e, o3) :: (X.pn ++ pins))) S3 gl m1 m2 q m3 db
    refine wpAny_handleBy_cons (codeAny_handlers_test (look (mt.here ?_))) fun q => nomatch q
    cases yes with
    | false => exact Cls.run hs hf nd hi ln tk Z os ag re w
    | true =>
      refine codeAny_handlers_suite_as (HandSPX.lands_againZ Z.fl fun g fl u => ?_)
      have Z4 : Down X pins σ H sI B e cls d g := ⟨Z.J, Z.nb, Z.up.trans u, fl, Z.na⟩
      have I4 := Z4.here os ag
      obtain ⟨o4, v4, g4, z4, f4⟩ := fl.there
      refine store_ok (X := X.suite e ((e, o4) :: (X.pn ++ pins))) (v := .ref e) (I4.suite g4 f4 Z.na n1 n2) nd hi (.inl ln) rfl (fun s5 S5 => ?_) (.inr ln)
      have run5 := (ru e o4 cls d (X.pn ++ pins) z4 ⟨v4, f4⟩).run [] s5 _ H (bare i D) S5 (w e Z.na)
      refine wpAny_mono run5 (fun fw s6 r6 => ?_) fun _ _ z => z.elim
      have gone : ∀ {σ6 : L2.St} {H6 : Hp} {q : Addr × Obj} {Q : Shared → Prop}, Inv (X.suite e (q :: (X.pn ++ pins))) [] σ6 H6 s6 → (∀ s7, Inv X pins (σ6.set i none) H6 s7 → Q s7) → wpAny (model X.prog X.w) X.A (do bindName X.env n .none; unbindBehindTheSuite X.env n p2) (fun _ s7 => Q s7) X.xe s6 :=
        fun S6 k => gone_ok (S6.unsuite Z.J.ok) nd hi ln k
      match fw, r6 with
      | .next, ⟨σ6, H6, S6, k6⟩ => exact gone S6 fun s7 I7 => ⟨_, _, I7, k6⟩
      | .brk, ⟨σ6, H6, S6, k6⟩ => exact gone S6 fun s7 I7 => ⟨_, _, I7, k6⟩
      | .cont, ⟨σ6, H6, S6, k6⟩ => exact gone S6 fun s7 I7 => ⟨_, _, I7, k6⟩
      | .ret v, ⟨v6, σ6, H6, S6, rv, k6⟩ => exact gone S6 fun s7 I7 => ⟨_, _, _, I7, rv, k6⟩
variable {body : List Stmt} {hd : ExceptHandler} {hds : List ExceptHandler} {ks : List Cl} {pos : Pos} {tb : WX → TS}
/-- the rule -/
theorem ps_try_asN (hs : X.stack = X.env :: X.outer) (hf : X.env.frame = some X.env.locals) (nd : X.N.Nodup) (hi : X.N[i]? = some n) (ln : X.env.kindOf n = some .local) (tk : Takes X out)
    (hb : ∀ (W : WX) (pn : List (Addr × Obj)) (xe : Value → Shared → Prop), Takes (X.tr pn xe) W → PassesOwn (model X.prog X.w) X.A X.env xe → PSs (X.tr pn xe) body (tb W)) (hh : Cls X n (hd :: hds) ks) :
    PS X (.Try body (hd :: hds) [] [] pos) fun D σ H => tb (wish X.K i out D ks) D σ H := by
  refine ⟨fun pins s σ H D I h => wpAny_Try_except ?_⟩
  have fr : X.A.frames = some (X.env :: X.outer) := I.ok.frames.trans (congrArg some hs)
  refine wpAny_mono ((hb _ (X.pn ++ pins) _ ?_ PassesOwn.looking).run [] s σ H D (I.toTry _) h) (fun fw t r => ?_) fun _ _ z => z
  · rintro _ t ⟨e, B, sI, _, σ1, H1, cls, d, rfl, J, nb, up, sky, na, os, ag, w⟩
    refine Sky.land Zc.steady fr hf (hs ▸ sky) fun g fl u => ?_
    exact Cls.run hs hf nd hi ln tk ⟨J.ofTry I.ok, nb, up.trans u, fl, na⟩ os ag hh w
  · match fw, r with
    | .next, ⟨_, _, J, q⟩ => exact wpAny_execs_nil ⟨_, _, J.ofTry I.ok, q⟩
    | .brk, ⟨_, _, J, q⟩ => exact ⟨_, _, J.ofTry I.ok, q⟩
    | .cont, ⟨_, _, J, q⟩ => exact ⟨_, _, J.ofTry I.ok, q⟩
    | .ret v, ⟨_, _, _, J, rv, q⟩ => exact ⟨_, _, _, J.ofTry I.ok, rv, q⟩
end
end TryAs

namespace IsX
open PySem L2
/-! ### isinstance of a caught error that bears a field -/
structure XiC (K : PySem.W.Frag) (D : Addr) : Prop where
  xf : XfC K D
  ic : (PySem.W.clsIn K D).isSome = true
  c1 : PySem.W.findIn K (.ref D) "__class__" = some (some (.builtin "object.__class__"))
  c2 : PySem.W.specialIn K (.builtin "object.__class__") "__get__" = some (some (.builtin "getset_descriptor.__get__"))
  c3 : PySem.W.takesIn K (.builtin "object.__class__") = some true
  c4 : PySem.W.mroIn K D (.type "object") = some true
def rIsX (K : PySem.W.Frag) (D a : Addr) (cls : Value) (d : Option Addr) : List V → Hp → VK → Prop := fun xs H Q => ∃ (c : V) (cv : Value) (b : Bool) (dd : Addr) (fs : List (Str × V)), xs = [.ref a, c] ∧ (∀ u, RelV c u → u = cv) ∧ cls = .ref D ∧ d = some dd ∧ H dd = some (.xd fs) ∧ PySem.W.kitOne K (.ref D) cv = some b ∧ Q (.bl b) H
theorem call_isX {X : Cx} {a D : Addr} {oe : Obj} {cls : Value} {d : Option Addr} {pn : List (Addr × Obj)} (C : XiC X.K D) (hz : Zc cls d oe) (hf : ∃ vs, oe.data = .fields vs) : CallR (X.suite a ((a, oe) :: pn)) (.builtin "isinstance") (rIsX X.K D a cls d) := by
  intro pins s σ H xs us Q I r h
  obtain ⟨c, cv, b, dd, fs, rfl, hcv, rfl, rfl, hdd, e, q⟩ := h
  cases r with
  | cons rx rr =>
    cases rr with
    | cons rt rr =>
      cases rr
      cases rx
      cases hcv _ rt
      obtain ⟨hget, _⟩ := I.pin (a, oe) (List.mem_append.mpr (.inl List.mem_cons_self))
      obtain ⟨vs, hv⟩ := hf
      have hx : ObjOk X.prog X.w H s.heap dd (.xd fs) := I.hok dd _ hdd
      obtain ⟨mA, hns, _⟩ := hx
      obtain ⟨od, ho, _⟩ := lookIn_ns hns
      have J : PySem.W.InstAt s.heap a oe D (some od) := ⟨hget, hz.1, by unfold PySem.W.notCls; rw [hv] <;> rfl, by rw [hz.2]; exact ho⟩
      exact PySem.W.kia_one (PySem.W.kitx_exc (gt := none) C.ic C.xf.ga C.xf.gg C.xf.exC C.c1 C.c2 C.c3 C.c4) I.kIn J e (fun z => nomatch z) fun tk => ⟨.bl b, H, I.kept (t' := tk) fun _ _ z => z, rfl, q⟩
/-- the slots are as many as the names -/
theorem takes_len {X : Cx} {W : WX} (tk : Takes X W) : Takes X (fun cls d σ H => σ.length = X.N.length → W cls d σ H) := fun u s2 ⟨a, B, sI, pins, σ, H, cls, d, e, I, nb, up, sky, na, os, ag, h⟩ =>
  tk u s2 ⟨a, B, sI, pins, σ, H, cls, d, e, I, nb, up, sky, na, os, ag, h I.len⟩
theorem len3 {σ : St} (h : σ.length = 3) : ∃ a b c, σ = [a, b, c] := by
  match σ, h with
  | [a, b, c], _ => exact ⟨a, b, c, rfl⟩
end IsX

/-! f(k = v, ..): a def called by keywords alone -/
namespace FKw
open PySem L2
def tCallK0 (sp : Sp) (gV : List V → List V → List V) (E : XK) (tk : TA) : TE := fun σ H Q => tk σ H fun zs H2 => sp (gV [] zs) H2 Q E
theorem pe_callK0 {X : Cx} {CX : CXT} {k : Nat} {f : Addr} {fd : FuncData} {ps ks : List Str} {sp : Sp} {E : XK} {x : Str} {p pos : Pos} {kws : List Keyword} {tk : TA} {g : List Value → List Value → List Value} {gV : List V → List V → List V}
    (F : FnOk X.prog X.w X.K X.mg X.base CX k f fd ps sp) (hr : Room k X.A) (hg : Gl X x) (hm : X.mg x = some (.ref f)) (hk : PySem.W.keepIn X.K (.ref f) = true) (hb : KBinds X.K fd ps ks g gV) (hx : Passes CX X E) (hkw : PK X kws tk)
    (hall : (backToKw pos (keywordEach kws X.env)).all (·.1.isSome) = true := by rfl) (hks : (backToKw pos (keywordEach kws X.env)).filterMap (·.1) = ks := by rfl) (hdb : (x == ("__debug__" : Str)) = false := by decide)
    (hpl : ((backTo pos (starEach [] X.env)).any (·.1) || (backToKw pos (keywordEach kws X.env)).any (·.1.isNone)) = false := by rfl) :
    PE X (.Call (.Name x p) [] kws pos) (tCallK0 sp gV E tk) := by
  refine ⟨fun pins s σ H Q I h => ?_⟩
  refine wpAny_Call_Name_kw (ld_glob I hg hm ?_ hdb)
  refine PySem.W.callWith_KW0 (first := []) (h₀ := X.base) I.ok.mod.kin hk hall ?_ hpl
  refine thn (hkw.run pos pins s σ H _ I h) fun ws s2 ⟨zs, H2, I2, rz, q2⟩ => ⟨I2.kIn, ?_⟩
  rw [hks]
  exact run_fnk (us := []) (vs := []) F hr hb hx I2 .nil rz q2
end FKw

/-! the draws of the law: jar, sip, from -/
namespace My
open PySem L2
def top (i : Nat) : Stmt := PySem.Challenge.pw_lastshort_k59_widths_seen.main.body.getD i (.Pass ⟨0, 0, 0, 0⟩)
abbrev sJar : Stmt := top 29
abbrev sSip : Stmt := top 30
abbrev sFrom : Stmt := top 31
/-! ### heaps -/
/-- all but what stands at j is as it was -/
def Off (j : Addr) (H H' : Hp) : Prop := ∀ b o, b ≠ j → H b = some o → H' b = some o
theorem Off.refl {j : Addr} {H : Hp} : Off j H H := fun _ _ _ e => e
theorem Off.trans {j : Addr} {H H1 H2 : Hp} (a : Off j H H1) (b : Off j H1 H2) : Off j H H2 := fun c o n e => b c o n (a c o n e)
theorem Off.new {j p : Addr} {H H1 : Hp} {o : HO} (a : Off j H H1) (n : H1 p = none) : Off j H (upd H1 p o) := fun b u nb e => by
  rw [upd_ne (ne_of_none (a b u nb e) n)]
  exact a b u nb e
theorem Off.put {j : Addr} {H H1 : Hp} {o : HO} (a : Off j H H1) : Off j H (upd H1 j o) := fun b u nb e => by
  rw [upd_ne nb]
  exact a b u nb e
theorem Off.seq {K : PySem.W.Frag} {j a : Addr} {H H' : Hp} {xs : List V} (e : Off j H H') (n : a ≠ j) (h : SqL K H a xs) : SqL K H' a xs := by
  rcases h with (h | ⟨o, h⟩) | h
  · exact .inl (.inl (e _ _ n h))
  · exact .inl (.inr ⟨o, e _ _ n h⟩)
  · exact .inr h
theorem Off.set {K : PySem.W.Frag} {j a : Addr} {H H' : Hp} {xs : List V} (e : Off j H H') (n : a ≠ j) (h : SqT K H a xs) : SqT K H' a xs := by
  rcases h with (h | ⟨o, h⟩) | h
  · exact .inl (.inl (e _ _ n h))
  · exact .inl (.inr ⟨o, e _ _ n h⟩)
  · exact .inr h
theorem Off.same {j : Addr} {H0 H H' : Hp} (e : Off j H H') (s : Same H0 H) (n : H0 j = none) : Same H0 H' := fun b o q => e b o (fun z => by rw [z, n] at q; cases q) (s b o q)
theorem same_upd {H : Hp} {p : Addr} {o : HO} (h : H p = none) : Same H (upd H p o) := fun b x e => by
  rw [upd_ne (ne_of_none e h)]
  exact e
theorem Same.off {j : Addr} {H H' : Hp} (s : Same H H') : Off j H H' := fun b o _ e => s b o e
/-- a jar: three whole numbers -/
def Jar (H : Hp) (j : Addr) : Prop := ∃ a b c : Int, H j = some (.lst [.int a, .int b, .int c])
theorem Jar.new {H : Hp} {j p : Addr} {o : HO} (a : Jar H j) (n : H p = none) : Jar (upd H p o) j := by
  obtain ⟨x, y, z, h⟩ := a
  exact ⟨x, y, z, by rw [upd_ne (ne_of_none h n)]; exact h⟩
theorem Jar.same {H H' : Hp} {j : Addr} (a : Jar H j) (s : Same H H') : Jar H' j := by
  obtain ⟨x, y, z, h⟩ := a
  exact ⟨x, y, z, s _ _ h⟩
/-! ### promises -/
def spSip : Sp := fun vs H Q _ => ∃ (j : Addr) (m : Int), vs = [.ref j, .int m] ∧ Jar H j ∧ 0 < m ∧ m < 1073741824 ∧
  ∀ (H' : Hp) (d : Int), 0 ≤ d → d < m → Off j H H' → Jar H' j → Q (.int d) H'
def spFrom (K : PySem.W.Frag) : Sp := fun vs H Q _ => ∃ (j p : Addr) (xs : List V), vs = [.ref j, .ref p] ∧ Jar H j ∧ p ≠ j ∧ SqL K H p xs ∧ 0 < xs.length ∧ xs.length < 1073741824 ∧
  ∀ (H' : Hp) (i : Nat) (x : V), xs[i]? = some x → Off j H H' → Jar H' j → Q x H'
def spJar (K : PySem.W.Frag) : Sp := fun vs H Q _ => ∃ (a : Addr) (ns : List Int) (k : Nat), vs = [.ref a, .int k] ∧ SqL K H a (ns.map V.int) ∧ ns.length ≤ 63 ∧
  ∀ (H' : Hp) (j : Addr), Same H H' → H j = none → Jar H' j → Q (.ref j) H'
/-- the built-ins of the draws are still the built-ins -/
structure TxtJ (mg : Str → Option Value) : Prop where
  len : mg "len" = none
  int : mg "int" = none
  abs : mg "abs" = none
  divmod : mg "divmod" = none
section
variable {P : Program} {w : World} {K : PySem.W.Frag} {mg : Str → Option Value} {base : Heap}
theorem scSip : FnScope ["_law_jar_here", "_law_many", "_law_digit"] ["_law_jar_here", "_law_many"] (defScope sSip) := ⟨rfl, rfl, rfl, by decide +kernel, rfl, by decide +kernel, by decide +kernel⟩
theorem ok_sip {f : Addr} {fd : FuncData} (F : Fun K "_law_sip" "_law_sip" sSip f fd) (T : TxtJ mg) : FnOk P w K mg base CX0 1 f fd ["_law_jar_here", "_law_many"] spSip := by
  refine F.ok scSip (fun vs H Q E h => ?_) (fun cdv A outer s H vs Q E hr h => ?_)
  · obtain ⟨j, m, rfl, _⟩ := h
    rfl
  · obtain ⟨j, m, rfl, ⟨a, b, c, hj⟩, m0, m1, k⟩ := h
    refine ⟨_, pss_cons (ps_asg (pe_op op_add (pe_ix ix_list (pv 0) pe_int (fun _ _ => rfl)) pe_int) (pg_sub (pv 0) pe_int set_list))
      (pss_cons (ps_if (pt_cmpR op_gt (pe_ix ix_list (pv 0) pe_int (fun _ _ => rfl)) pe_int (nomark _))
        (pss_cons (ps_asg (pe_callB call_divmod (by rfl) T.divmod (by decide +kernel) (pa_cons (pe_callTy call_int1 (by rfl) T.int (by decide +kernel) (pa_cons (pe_ix ix_list (pv 0) pe_int (fun _ _ => rfl)) pa_nil)) (pa_cons (pv 1) pa_nil)))
            (pg_tup (by rfl) (pgs_cons (pg_sub (pv 0) pe_int set_list) (pgs_cons (pg_name (i := 2) scSip.nd rfl (.inl rfl)) pgs_nil))))
          (pss_one (ps_ret (pv 2)))) pss_nil)
      (pss_cons (ps_asg (pe_op op_mod (pe_callTy call_int1 (by rfl) T.int (by decide +kernel) (pa_cons (pe_op op_add (pe_op op_add (pe_op op_mul (pe_ix ix_list (pv 0) pe_int (fun _ _ => rfl)) pe_int) (pe_op op_mul (pe_ix ix_list (pv 0) pe_int (fun _ _ => rfl)) pe_int))
            (pe_op op_mul (pe_op op_fdiv (pe_ix ix_list (pv 0) pe_int (fun _ _ => rfl)) pe_int) pe_int)) pa_nil)) pe_int) (pg_sub (pv 0) pe_int set_list))
      (pss_one (ps_ret (pe_op op_mod (pe_callTy call_int1 (by rfl) T.int (by decide +kernel) (pa_cons (pe_op op_fdiv (pe_ix ix_list (pv 0) pe_int (fun _ _ => rfl)) pe_int) pa_nil)) (pv 1)))))), ?_⟩
    -- jar[2] = jar[2] + 1
    refine ⟨_, rfl, j, _, 2, _, rfl, rfl, SqL.of hj, rfl, _, _, rfl, rfl, _, rfl, j, _, 2, 2, rfl, rfl, hj, rfl, ?_⟩
    -- if jar[0] > 0
    refine ⟨_, rfl, j, _, 0, _, rfl, rfl, SqL.of upd_same, rfl, _, _, rfl, rfl, _, rfl, ?_⟩
    have o1 : Off j H (upd H j (.lst [.int a, .int b, .int (c + 1)])) := Off.put Off.refl
    refine ite2 (fun _ => ?_) (fun _ => ?_)
    · refine ⟨_, rfl, j, _, 0, _, rfl, rfl, SqL.of upd_same, rfl, .inl ⟨_, rfl, _, rfl, a, m, rfl, ⟨m0, m1⟩, fun p np => ?_⟩⟩
      have npj : p ≠ j := fun e => by
        rw [e, upd_same] at np
        cases np
      refine ⟨p, _, rfl, SqT.of upd_same, rfl, _, _, rfl, _, rfl, j, _, 0, 0, rfl, rfl, (by rw [upd_ne npj.symm]; exact upd_same), rfl, _, _, rfl, rfl, ?_⟩
      refine ⟨_, rfl, ?_⟩
      exact k _ _ (Int.emod_nonneg _ (by omega)) (Int.emod_lt_of_pos _ m0) (Off.put (Off.new o1 np)) ⟨_, _, _, upd_same⟩
    · refine ⟨_, rfl, j, _, 1, _, rfl, rfl, SqL.of upd_same, rfl, _, _, rfl, rfl, .inr (by decide), ?_⟩
      refine ⟨_, rfl, j, _, 2, _, rfl, rfl, SqL.of upd_same, rfl, _, _, rfl, rfl, .inr (by decide), _, _, rfl, rfl, ?_⟩
      refine ⟨_, rfl, j, _, 1, _, rfl, rfl, SqL.of upd_same, rfl, _, _, rfl, rfl, ⟨by decide, by decide⟩, _, _, rfl, rfl, .inr (by decide), _, _, rfl, rfl, .inl ⟨_, rfl, _, _, rfl, rfl, (by show (0 : Int) < 1999999927; decide), ?_⟩⟩
      refine ⟨_, rfl, j, _, 1, 1, rfl, rfl, upd_same, rfl, ?_⟩
      refine ⟨_, rfl, j, _, 1, _, rfl, rfl, SqL.of upd_same, rfl, _, _, rfl, rfl, ⟨by decide, by decide⟩, .inl ⟨_, rfl, _, rfl, _, _, rfl, rfl, m0, ?_⟩⟩
      exact k _ _ (Int.emod_nonneg _ (by omega)) (Int.emod_lt_of_pos _ m0) (Off.put o1) ⟨_, _, _, upd_same⟩

/-! ### from -/
structure TxtS (K : PySem.W.Frag) (mg : Str → Option Value) (fS : Addr) : Prop where
  g : mg "_law_sip" = some (.ref fS)
  k : PySem.W.keepIn K (.ref fS) = true
theorem scFrom : FnScope ["_law_jar_here", "_law_things"] ["_law_jar_here", "_law_things"] (defScope sFrom) := ⟨rfl, rfl, rfl, by decide +kernel, rfl, by decide +kernel, by decide +kernel⟩
theorem ok_from {f fS : Addr} {fd fdS : FuncData} (F : Fun K "_law_from" "_law_from" sFrom f fd) (T : TxtJ mg) (S : TxtS K mg fS) (FS : Fun K "_law_sip" "_law_sip" sSip fS fdS) (bS : Binds K fdS ["_law_jar_here", "_law_many"] []) :
    FnOk P w K mg base CX0 2 f fd ["_law_jar_here", "_law_things"] (spFrom K) := by
  have GS : FnOk P w K mg base CX0 1 fS fdS ["_law_jar_here", "_law_many"] spSip := ok_sip FS T
  refine F.ok scFrom (fun vs H Q E h => ?_) (fun cdv A outer s H vs Q E hr h => ?_)
  · obtain ⟨j, p, xs, rfl, _⟩ := h
    rfl
  · obtain ⟨j, p, xs, rfl, hJ, npj, hS, l0, l1, k⟩ := h
    refine ⟨_, pss_one (ps_ret (pe_ix ix_list (pv 1) (pe_call GS hr rfl S.g S.k bS .nil pass0 (pa_cons (pv 0) (pa_cons (pe_callB call_len_seq (by rfl) T.len PySem.boot_len (pa_cons (pv 1) pa_nil)) pa_nil))) (fun _ _ => rfl))), ?_⟩
    refine ⟨_, rfl, _, rfl, _, rfl, p, xs, rfl, .inl hS, j, _, rfl, hJ, by omega, by omega, fun H' d d0 d1 o J => ?_⟩
    obtain ⟨n, rfl⟩ := Int.eq_ofNat_of_zero_le d0
    have hn : n < xs.length := by omega
    exact ⟨p, xs, _, xs[n], rfl, rfl, o.seq npj hS, atI_nat (List.getElem?_eq_getElem hn), k H' n _ (List.getElem?_eq_getElem hn) o J⟩
/-! ### jar -/
theorem scJar : FnScope ["_law_script", "_law_k", "_law_own", "_law_mixed", "_law_entry"] ["_law_script", "_law_k"] (defScope sJar) := ⟨rfl, rfl, rfl, by decide +kernel, rfl, by decide +kernel, by decide +kernel⟩
theorem int_of_map {ns : List Int} {i : Nat} {y : V} (h : (ns.map V.int)[i]? = some y) : ∃ u, y = V.int u := by
  rw [List.getElem?_map] at h
  cases e : ns[i]? with
  | none =>
    rw [e] at h
    cases h
  | some u =>
    rw [e] at h
    exact ⟨u, (Option.some.inj h).symm⟩
theorem cut_map (ns : List Int) (lo hi : Option Int) : ∃ ms : List Int, cutV (ns.map V.int) lo hi = ms.map V.int :=
  ⟨(ns.drop (HT.sIx (ns.map V.int).length 0 lo)).take (HT.sIx (ns.map V.int).length (ns.map V.int).length hi - HT.sIx (ns.map V.int).length 0 lo), by
    unfold cutV
    rw [List.map_take, List.map_drop]⟩
theorem ok_jar {f : Addr} {fd : FuncData} (F : Fun K "_law_jar" "_law_jar" sJar f fd) (T : TxtJ mg) : FnOk P w K mg base CX0 1 f fd ["_law_script", "_law_k"] (spJar K) := by
  refine F.ok scJar (fun vs H Q E h => ?_) (fun cdv A outer s H vs Q E hr h => ?_)
  · obtain ⟨a, ns, k, rfl, _⟩ := h
    rfl
  · obtain ⟨a, ns, k, rfl, hS, hl, q⟩ := h
    refine ⟨_, C8.pss_cut (ps_set (i := 2) scJar.nd rfl (.inl rfl) (pe_ifExp (pt_cmpR op_lt (pv 1) (pe_callB call_len_seq (by rfl) T.len PySem.boot_len (pa_cons (pv 0) pa_nil)) (nomark _))
          (pe_callTy call_int1 (by rfl) T.int (by decide +kernel) (pa_cons (pe_ix ix_list (pv 0) (pv 1) (fun _ _ => rfl)) pa_nil)) (pe_op op_add (pe_op op_mul pe_int (pv 1)) pe_int)))
      (pss_cons (ps_set (i := 3) scJar.nd rfl (.inl rfl) (pe_op op_add pe_int (pe_op op_mul pe_int (pv 1))))
      (pss_cons (ps_for PassesOwn.never rfl (pi_list (pe_slice sl_list (pv 0) po_none (po_some pe_int))) (pg_name (i := 4) scJar.nd rfl (.inl rfl))
        (pss_one (ps_set (i := 3) scJar.nd rfl (.inl rfl) (pe_op op_mod (pe_callTy call_int1 (by rfl) T.int (by decide +kernel) (pa_cons (pe_op op_add (pe_op op_mul (pv 3) pe_int) (pe_op op_mod (pe_callTy call_int1 (by rfl) T.int (by decide +kernel) (pa_cons (pv 4) pa_nil)) pe_int)) pa_nil)) pe_int))))
      (pss_one (ps_ret (pe_lst (pa_cons (pe_ifExp (PW.pt (pw_or (pt_cmpR op_lt (pv 2) pe_int (nomark _)) (pw_or1 (pt_cmpR op_ge (pv 2) (pe_op op_pow pe_int pe_int) (nomark _))))) (pe_callB call_abs (by rfl) T.abs (by decide +kernel) (pa_cons (pv 2) pa_nil)) pe_int)
        (pa_cons (pe_op op_mod (pe_callTy call_int1 (by rfl) T.int (by decide +kernel) (pa_cons (pe_op op_add (pe_op op_mul (pv 3) pe_int) (pe_op op_mod (pv 2) pe_int)) pa_nil)) pe_int) (pa_cons pe_int pa_nil)))))))), ?_⟩
    refine ⟨fun σ H' => H = H' ∧ ∃ own : Int, σ = [some (.ref a), some (.int k), some (.int own), none, none], ?_, ?_⟩
    · refine ⟨_, rfl, _, rfl, a, _, rfl, .inl hS, _, _, rfl, rfl, _, rfl, ?_⟩
      refine ite2 (fun c => ?_) (fun c => ?_)
      · have hk : k < ns.length := by
          have c' := of_decide_eq_true c
          rw [List.length_map] at c'
          omega
        exact ⟨_, rfl, _, rfl, a, _, _, .int ns[k], rfl, rfl, hS, atI_nat (by rw [List.getElem?_map, List.getElem?_eq_getElem hk]; rfl), .inl ⟨_, rfl, rfl, _, rfl⟩⟩
      · exact ⟨_, rfl, _, _, rfl, rfl, .inl (by decide), _, _, rfl, rfl, rfl, _, rfl⟩
    · rintro _ _ ⟨rfl, own, rfl⟩
      refine ⟨_, rfl, _, _, rfl, rfl, .inl (by decide), _, _, rfl, rfl, ?_⟩
      refine ⟨_, rfl, 13, rfl, a, _, rfl, hS, fun p np => ?_⟩
      obtain ⟨ms, ems⟩ := cut_map ns none (some 13)
      rw [ems]
      refine ⟨p, rfl, ⟨_, SqL.of upd_same⟩, for_list (K := K) (a := p) (xs := ms.map V.int) (fun i σ H' => ∃ (mx : Int) (v : Option V), σ = [some (.ref a), some (.int k), some (.int own), some (.int mx), v] ∧ H' = upd H p (.lst (ms.map V.int)))
        ⟨_, none, rfl, rfl⟩ (fun i σ H' _ ⟨_, _, _, e⟩ => by rw [e]; exact SqL.of upd_same) ?_ ?_⟩
      · rintro i y σ H' hi ⟨mx, v, rfl, rfl⟩
        obtain ⟨u, rfl⟩ := int_of_map hi
        refine ⟨_, rfl, _, _, rfl, rfl, .inr (by decide), ?_⟩
        refine ⟨_, rfl, .inl ⟨_, rfl, _, _, rfl, rfl, (by show (0 : Int) < 1999999927; decide), _, _, rfl, rfl, .inl ⟨_, rfl, _, _, rfl, rfl, (by show (0 : Int) < 1999999927; decide), ?_⟩⟩⟩
        exact ⟨_, _, rfl, rfl⟩
      · rintro σ H' ⟨mx, v, rfl, rfl⟩
        have fin : ∀ (x : Int), tCons (tOp (rI (fun x j => 0 < j) fun i j => V.int (i % j)) (tCB (fun xs H Q => (∃ i, xs = [V.int i] ∧ Q (V.int i) H) ∨ ∃ k, xs = [V.bl k] ∧ Q (V.int (if k = true then 1 else 0)) H)
            (tCons (tOp (rI0 fun i j => V.int (i + j)) (tOp (rI CMul fun i j => V.int (i * j)) (tVar 3) (tC (V.int 5))) (tOp (rI (fun x j => 0 < j) fun i j => V.int (i % j)) (tVar 2) (tC (V.int 1999999927)))) tNil)) (tC (V.int 1999999927)))
          (tCons (tC (V.int 0)) tNil) [some (.ref a), some (.int k), some (.int own), some (.int mx), v] (upd H p (.lst (ms.map V.int))) (fun xs H1 => (V.int x :: xs).length ≤ sizeLine ∧ ∀ p, H1 p = none → Q (.ref p) (upd H1 p (.lst (V.int x :: xs)))) := by
          intro x
          refine ⟨_, rfl, _, _, rfl, rfl, .inr (by decide), _, rfl, _, _, rfl, rfl, (by show (0 : Int) < 1999999927; decide), _, _, rfl, rfl, .inl ⟨_, rfl, _, _, rfl, rfl, (by show (0 : Int) < 1999999927; decide), ?_⟩⟩
          refine ⟨(by show 3 ≤ sizeLine; decide), fun jj nj => ?_⟩
          exact q _ jj (Same.trans (same_upd np) (same_upd nj)) ((same_upd np).free nj) ⟨_, _, _, upd_same⟩
        refine ⟨_, rfl, _, _, rfl, rfl, _, rfl, ?_⟩
        refine ite2 (fun _ => ?_) (fun _ => ?_)
        · refine iteT ?_
          exact ⟨_, rfl, _, rfl, fin _⟩
        · refine ⟨_, rfl, _, _, rfl, rfl, ⟨by decide, by decide, by decide⟩, _, _, rfl, rfl, _, rfl, ?_⟩
          refine ite2 (fun _ => ?_) (fun _ => ?_)
          · exact ⟨_, rfl, _, rfl, fin _⟩
          · exact fin _
end
end My

/-! what many parts want: the error about texts, small lemmas -/
namespace My
open PySem L2 Cm LM
abbrev sEI : Stmt := inClass (top 3) 0
theorem nz (n : Nat) : ((n : Int) != 0) = (n != 0) := by
  cases n with
  | zero => rfl
  | succ k => simp; omega
/-- no text is longer -/
def Bd (t : Str) : Prop := t.length ≤ 100000
theorem Bd.part {t : Str} (y : Str) (h : Bd t) : Bd (Txt.partition t y).1 ∧ Bd (Txt.partition t y).2.2 := ⟨Nat.le_trans (part_len t y).1 h, Nat.le_trans (part_len t y).2.2 h⟩
theorem Bd.line {t : Str} (h : Bd t) : t.length ≤ sizeLine := Nat.le_of_lt (szM (Nat.le_trans h (by decide)))
theorem Bd.line2 {t : Str} (h : Bd t) : t.length + 2 ≤ sizeLine := Nat.le_of_lt (szM (by unfold Bd at h; omega))
theorem svs_get {ws : List Str} {i : Nat} {x : V} (h : (svs ws)[i]? = some x) : ∃ z, ws[i]? = some z ∧ x = .str z := by
  unfold svs at h
  rw [List.getElem?_map] at h
  cases e : ws[i]? with
  | none => rw [e] at h; cases h
  | some z =>
    rw [e] at h
    exact ⟨z, rfl, (Option.some.inj h).symm⟩
theorem take_snoc {α : Type} {xs : List α} {i : Nat} {x : α} (h : xs[i]? = some x) : xs.take (i + 1) = xs.take i ++ [x] := by
  rw [List.take_succ, h]
  rfl
theorem lt_of_get {α : Type} {xs : List α} {i : Nat} {x : α} (h : xs[i]? = some x) : i < xs.length := (List.getElem?_eq_some_iff.mp h).1
/-- not many words, none too long -/
def BdW (ws : List Str) : Prop := (∀ z ∈ ws, Bd z) ∧ ws.length ≤ 100001
theorem made_same {H H' : Hp} {x dx C : Addr} (nx : H x = none) (ndx : H dx = none) (o : Off x (upd (upd H dx (.own x)) x (.ins C dx [])) H') : Same H H' := fun b u e => o b u (ne_of_none e nx) (by rw [upd_ne (ne_of_none e nx), upd_ne (ne_of_none e ndx)]; exact e)
/-- a special method of the class at C -/
structure Sm (K : PySem.W.Frag) (C : Addr) (x q : Str) (st : Stmt) (ps : List Str) where
  f : Addr
  fd : FuncData
  F : Fun K x q st f fd
  b : Binds K fd ps []
  i : PySem.W.findIn K (.ref C) x = some (some (.ref f))
  fn : PySem.W.isFn K (.ref f) = true
theorem TyX_same {K : PySem.W.Frag} {H H' : Hp} (s : Same H H') {x : V} {t : Value} (h : TyX K H x t) : TyX K H' x t := by
  cases h with
  | base b =>
    refine .base ?_
    cases b with
    | non => exact .non
    | bl x => exact .bl x
    | int i => exact .int i
    | str x => exact .str x
    | flt x => exact .flt x
    | lst e => exact .lst (s _ _ e)
    | frz e => exact .frz (s _ _ e)
    | tup e => exact .tup (s _ _ e)
    | dK e => exact .dK (s _ _ e)
    | dT e => exact .dT (s _ _ e)
    | ins e a b c d f => exact .ins (s _ _ e) a b c d f
  | byt b => exact .byt b
  | set e => exact .set (s _ _ e)
  | kList e c => exact .kList e c
  | kTuple e c => exact .kTuple e c
  | kDict e c => exact .kDict e c
  | fTuple e => exact .fTuple (s _ _ e)
  | fDict e => exact .fDict (s _ _ e)
theorem jar_ne {H : Hp} {j p : Addr} (a : Jar H j) (n : H p = none) : p ≠ j := fun z => by
  obtain ⟨_, _, _, q⟩ := a
  rw [z, q] at n
  cases n
theorem Jar.put {H : Hp} {j p : Addr} {o : HO} (a : Jar H j) (n : p ≠ j) : Jar (upd H p o) j := by
  obtain ⟨x, y, z, q⟩ := a
  exact ⟨x, y, z, by rw [upd_ne n.symm]; exact q⟩
/-- a store to what was not there at first -/
theorem Off.put2 {j q : Addr} {H H1 : Hp} {o : HO} (a : Off j H H1) (n : H q = none) : Off j H (upd H1 q o) := fun b u nb e => by
  rw [upd_ne (ne_of_none e n)]
  exact a b u nb e
/-- tuples that stand stay, if what is written is no tuple -/
theorem tup_stays {H : Hp} {x : Addr} {o o' : HO} (hx : H x = some o) (n : ∀ xs, o ≠ .tup xs) : ∀ (p : Addr) (xs : List V), H p = some (.tup xs) → (upd H x o') p = some (.tup xs) := fun p xs e => by
  rw [upd_ne]
  · exact e
  · intro z
    rw [z, hx] at e
    exact n xs (Option.some.inj e)
def isS : V → Bool
  | .str _ => true
  | _ => false
/-- its type is told -/
def Typed (K : PySem.W.Frag) (H : Hp) (x : V) : Prop := ∃ t, TyX K H x t ∧ PySem.W.kitOne K t (.type "str") = some (isS x)
theorem typed_str {K : PySem.W.Frag} {H : Hp} (x : Str) : Typed K H (.str x) := ⟨_, .base (.str x), kit_ty (show kitB "str" "str" = some true by decide +kernel)⟩
/-! ### the error -/
structure TxE (K : PySem.W.Frag) (mg : Str → Option Value) where
  C : Addr
  f : Addr
  fd : FuncData
  g : mg "InvalidText" = some (.ref C)
  o : OexC K C
  i : PySem.W.findIn K (.ref C) "__init__" = some (some (.ref f))
  t : PySem.W.typeIn K (.ref f) = some (.type "function")
  n : PySem.W.findIn K (.ref C) "value" = some none
  F : Fun K "__init__" "InvalidText.__init__" sEI f fd
  b : Binds K fd ["self", "value"] []
section
variable {P : Program} {w : World} {K : PySem.W.Frag} {mg : Str → Option Value} {base : Heap}
def spEI (CE : Addr) : Sp := fun vs H Q _ => ∃ (a : Addr) (v : V), vs = [.ref a, v] ∧ H a = some (exo a CE none) ∧ ∀ dx, H dx = none → dx ≠ a → Q .non (upd (upd H dx (exd dx [("value", v)])) a (exo a CE (some dx)))
theorem scEI : FnScope ["self", "value"] ["self", "value"] (defScope sEI) := ⟨rfl, rfl, rfl, by decide +kernel, rfl, by decide +kernel, by decide +kernel⟩
theorem ok_ei (T : TxE K mg) : FnOk P w K mg base CX0 1 T.f T.fd ["self", "value"] (spEI T.C) := by
  refine T.F.ok scEI (fun vs H Q E h => ?_) (fun cdv A outer s H vs Q E hr h => ?_)
  · obtain ⟨a, v, rfl, _⟩ := h
    rfl
  · obtain ⟨a, v, rfl, ha, k⟩ := h
    refine ⟨_, pss_one (ps_ost (pv 0) (pv 1)), ?_⟩
    exact ⟨_, rfl, _, rfl, a, T.C, rfl, T.o, T.n, .inl ⟨ha, fun dx n ne => k dx n ne⟩⟩
/-- raise X(x), as its making is read -/
theorem mk_err {CE : Addr} {ta : TA} {σ : St} {H : Hp} {Q : XK} {x : V} (h : ta σ H fun vs H1 => vs = [x] ∧ H1 = H) (mono : ∀ {R R' : List V → Hp → Prop}, ta σ H R → (∀ v H1, R v H1 → R' v H1) → ta σ H R')
    (q : ∀ d, H d = none → Q (.ref CE) (some d) (upd H d (.xd [("value", x)]))) : tMkO CE (spEI CE) [] ta σ H Q := by
  refine mono h fun vs H1 hh => ?_
  obtain ⟨rfl, rfl⟩ := hh
  refine ⟨by show 1 ≤ 1000; decide, fun a na => ⟨a, x, rfl, upd_same, fun dx ndx nda => ⟨rfl, dx, [("value", x)], upd_same, ?_, ?_, ?_⟩⟩⟩
  · rw [upd_ne nda, upd_same]
  · rw [upd_ne nda] at ndx
    exact ndx
  · have e : upd (del (upd (upd (upd H1 a (exo a CE none)) dx (exd dx [("value", x)])) a (exo a CE (some dx))) a) dx (.xd [("value", x)]) = upd H1 dx (.xd [("value", x)]) := by
      funext b
      by_cases h1 : b = dx
      · rw [h1, upd_same, upd_same]
      · rw [upd_ne h1, upd_ne h1]
        by_cases h2 : b = a
        · rw [h2, del_same, na]
        · rw [del_ne h2, upd_ne h2, upd_ne h1, upd_ne h2]
    rw [e]
    rw [upd_ne nda] at ndx
    exact q dx ndx
end
end My

/-! is_integer_between, errors with one field -/
namespace My
open PySem L2 Cm LM
abbrev sIIB : Stmt := top 10
structure TxEr (K : PySem.W.Frag) (mg : Str → Option Value) (name fld : Str) (st : Stmt) (qual : Str) where
  C : Addr
  f : Addr
  fd : FuncData
  g : mg name = some (.ref C)
  o : OexC K C
  i : PySem.W.findIn K (.ref C) "__init__" = some (some (.ref f))
  t : PySem.W.typeIn K (.ref f) = some (.type "function")
  n : PySem.W.findIn K (.ref C) fld = some none
  F : Fun K "__init__" qual st f fd
  b : Binds K fd ["self", fld] []
structure TxI (K : PySem.W.Frag) (mg : Str → Option Value) where
  isi : mg "isinstance" = none
  int : mg "int" = none
  bool : mg "bool" = none
  iib : Df K mg "is_integer_between" sIIB ["value", "low", "high"]
section
variable {P : Program} {w : World} {K : PySem.W.Frag} {mg : Str → Option Value} {base : Heap}
def spER (fld : Str) (CE : Addr) : Sp := fun vs H Q _ => ∃ (a : Addr) (v : V), vs = [.ref a, v] ∧ H a = some (exo a CE none) ∧ ∀ dx, H dx = none → dx ≠ a → Q .non (upd (upd H dx (exd dx [(fld, v)])) a (exo a CE (some dx)))
theorem mk_er {fld : Str} {CE : Addr} {ta : TA} {σ : St} {H : Hp} {Q : XK} {x : V} (h : ta σ H fun vs H1 => vs = [x] ∧ H1 = H) (mono : ∀ {R R' : List V → Hp → Prop}, ta σ H R → (∀ v H1, R v H1 → R' v H1) → ta σ H R')
    (q : ∀ d, H d = none → Q (.ref CE) (some d) (upd H d (.xd [(fld, x)]))) : tMkO CE (spER fld CE) [] ta σ H Q := by
  refine mono h fun vs H1 hh => ?_
  obtain ⟨rfl, rfl⟩ := hh
  refine ⟨by show 1 ≤ 1000; decide, fun a na => ⟨a, x, rfl, upd_same, fun dx ndx nda => ⟨rfl, dx, [(fld, x)], upd_same, ?_, ?_, ?_⟩⟩⟩
  · rw [upd_ne nda, upd_same]
  · rw [upd_ne nda] at ndx
    exact ndx
  · have e : upd (del (upd (upd (upd H1 a (exo a CE none)) dx (exd dx [(fld, x)])) a (exo a CE (some dx))) a) dx (.xd [(fld, x)]) = upd H1 dx (.xd [(fld, x)]) := by
      funext b
      by_cases h1 : b = dx
      · rw [h1, upd_same, upd_same]
      · rw [upd_ne h1, upd_ne h1]
        by_cases h2 : b = a
        · rw [h2, del_same, na]
        · rw [del_ne h2, upd_ne h2, upd_ne h1, upd_ne h2]
    rw [e]
    rw [upd_ne nda] at ndx
    exact q dx ndx
/-! ### is_integer_between -/
def isI : V → Bool
  | .int _ => true
  | _ => false
def isB : V → Bool
  | .bl _ => true
  | _ => false
/-- an integer within these bounds -/
def btw (lo hi : Int) : V → Bool
  | .int i => decide (lo ≤ i ∧ i ≤ hi)
  | _ => false
def TypedI (K : PySem.W.Frag) (H : Hp) (x : V) : Prop := ∃ t, TyX K H x t ∧ PySem.W.kitOne K t (.type "int") = some (isI x || isB x) ∧ PySem.W.kitOne K t (.type "bool") = some (isB x)
theorem TypedI.same {H H' : Hp} {x : V} (s : Same H H') (h : TypedI K H x) : TypedI K H' x := let ⟨t, a, b⟩ := h; ⟨t, TyX_same s a, b⟩
theorem typed_int {H : Hp} (i : Int) : TypedI K H (.int i) := ⟨_, .base (.int i), kit_ty (show kitB "int" "int" = some true by decide +kernel), kit_ty (show kitB "int" "bool" = some false by decide +kernel)⟩
theorem typed_bl {H : Hp} (i : Bool) : TypedI K H (.bl i) := ⟨_, .base (.bl i), kit_ty (show kitB "bool" "int" = some true by decide +kernel), kit_ty (show kitB "bool" "bool" = some true by decide +kernel)⟩
def spIIB (K : PySem.W.Frag) : Sp := fun vs H Q _ => ∃ (v : V) (lo hi : Int), vs = [v, .int lo, .int hi] ∧ TypedI K H v ∧ Q (.bl (btw lo hi v)) H
theorem scIIB : FnScope ["value", "low", "high"] ["value", "low", "high"] (defScope sIIB) := ⟨rfl, rfl, rfl, by decide +kernel, rfl, by decide +kernel, by decide +kernel⟩
theorem ok_iib (M : TxI K mg) : FnOk P w K mg base CX0 1 M.iib.f M.iib.fd ["value", "low", "high"] (spIIB K) := by
  refine M.iib.F.ok scIIB (fun vs H Q E h => ?_) (fun cdv A outer s H vs Q E hr h => ?_)
  · obtain ⟨v, lo, hi, rfl, _⟩ := h
    rfl
  · obtain ⟨v, lo, hi, rfl, ⟨t, ty, k1, k2⟩, k⟩ := h
    refine ⟨_, pss_one (ps_ret (pe_and (pe_callB call_isi (by rfl) M.isi (by decide +kernel) (pa_cons (pv 0) (pa_cons (pe_bltn (v := .ty "int") (by rfl) M.int (by decide +kernel) rfl) pa_nil)))
      (pe_and (pe_not (pe_callB call_isi (by rfl) M.isi (by decide +kernel) (pa_cons (pv 0) (pa_cons (pe_bltn (v := .ty "bool") (by rfl) M.bool (by decide +kernel) rfl) pa_nil))))
        (pe_one (pe_chain op_le op_le (pv 1) (pv 0) (pv 2)))))), ?_⟩
    refine ⟨_, rfl, _, _, _, _, _, rfl, .ty "int", ty, k1, _, rfl, ?_⟩
    cases hv : (isI v || isB v) with
    | false =>
      refine iteF ?_
      have e : btw lo hi v = false := by
        cases v <;> first | rfl | cases hv
      rw [e] at k
      exact k
    | true =>
      refine iteT ?_
      refine ⟨_, rfl, _, _, _, _, _, rfl, .ty "bool", ty, k2, _, rfl, _, rfl, ?_⟩
      cases hb : isB v with
      | true =>
        have e : btw lo hi v = false := by
          cases v <;> first | rfl | cases hb
        rw [e] at k
        exact iteF k
      | false =>
        refine iteT ?_
        rw [hb, Bool.or_false] at hv
        obtain ⟨i, rfl⟩ : ∃ i, v = .int i := by
          cases v <;> first | exact ⟨_, rfl⟩ | cases hv
        refine ⟨_, rfl, _, rfl, _, _, rfl, rfl, _, rfl, ?_⟩
        have k : Q (.bl (decide (lo ≤ i ∧ i ≤ hi))) H := k
        refine ite2 (fun c => ?_) (fun c => ?_)
        · refine ⟨_, rfl, _, _, rfl, rfl, ?_⟩
          have c1 : lo ≤ i := of_decide_eq_true c
          have e : decide (lo ≤ i ∧ i ≤ hi) = decide (i ≤ hi) := decide_eq_decide.mpr ⟨fun z => z.2, fun z => ⟨c1, z⟩⟩
          rw [e] at k
          exact k
        · have c1 : ¬ lo ≤ i := fun z => c (decide_eq_true z)
          rw [show decide (lo ≤ i ∧ i ≤ hi) = false from decide_eq_false fun z => c1 z.1] at k
          exact k
end
end My

/-! chains: their texts and their making -/
namespace My
open PySem L2 Cm LM CH
abbrev sCO : Stmt := top 22
abbrev sAI : Stmt := inClass (top 24) 0
structure TxA (w : World) (K : PySem.W.Frag) (mg : Str → Option Value) where
  E : TxE K mg
  len : mg "len" = none
  str : mg "str" = none
  int : mg "int" = none
  range : mg "range" = none
  tuple : mg "tuple" = none
  isi : mg "isinstance" = none
  mw : ∃ t, mg "MOST_WIDTH" = some (.int 12 t)
  mc : ∃ t, mg "MOST_CUTTERS" = some (.int 6 t)
  dC : Addr
  gD : mg "CUTTERS" = some (.ref dC)
  dw : He.dicW K dC = some (He.keysIn w.params kds)
  fk : Kd → Addr
  nk : ∀ k, PySem.W.nsIn K dC (kdS k) = some (some (.ref (fk k)))
  co : Df K mg "cutter_of" sCO ["text"]
  C : Addr
  gC : mg "Chain" = some (.ref C)
  cl : Cls K C
  nT : NoAttr K C "text"
  nC : NoAttr K C "cutters"
  fI : Addr
  fdI : FuncData
  FI : Fun K "__init__" "Chain.__init__" sAI fI fdI
  bI : Binds K fdI ["self", "text"] []
  MI : Mk K C fI
/-- what cutter_of hands back -/
def CutV (H : Hp) (v : V) : Option (Kd × Nat) → Prop
  | none => v = .non
  | some c => ∃ p, v = .ref p ∧ H p = some (.tup [.str (kdS c.1), .int c.2])
theorem CutV.mono {H H' : Hp} (f : ∀ (p : Addr) (xs : List V), H p = some (.tup xs) → H' p = some (.tup xs)) {v : V} : ∀ {o}, CutV H v o → CutV H' v o
  | none, h => h
  | some _, ⟨p, e, h⟩ => ⟨p, e, f _ _ h⟩
inductive CutVs (H : Hp) : List V → List (Option (Kd × Nat)) → Prop
  | nil : CutVs H [] []
  | cons {v : V} {o : Option (Kd × Nat)} {vs : List V} {os : List (Option (Kd × Nat))} (h : CutV H v o) (t : CutVs H vs os) : CutVs H (v :: vs) (o :: os)
theorem CutVs.mono {H H' : Hp} (f : ∀ (p : Addr) (xs : List V), H p = some (.tup xs) → H' p = some (.tup xs)) : ∀ {vs os}, CutVs H vs os → CutVs H' vs os
  | _, _, .nil => .nil
  | _, _, .cons h t => .cons (h.mono f) (t.mono f)
theorem CutVs.snoc {H : Hp} {v : V} {o : Option (Kd × Nat)} (h : CutV H v o) : ∀ {vs os}, CutVs H vs os → CutVs H (vs ++ [v]) (os ++ [o])
  | _, _, .nil => .cons h .nil
  | _, _, .cons a t => .cons a (t.snoc h)
theorem CutVs.len {H : Hp} : ∀ {vs os}, CutVs H vs os → vs.length = os.length
  | _, _, .nil => rfl
  | _, _, .cons _ t => congrArg (· + 1) t.len
/-- rows of cutters -/
inductive Cuts (H : Hp) : List V → List (Kd × Nat) → Prop
  | nil : Cuts H [] []
  | cons {p : Addr} {c : Kd × Nat} {vs : List V} {cs : List (Kd × Nat)} (h : H p = some (.tup [.str (kdS c.1), .int c.2])) (t : Cuts H vs cs) : Cuts H (.ref p :: vs) (c :: cs)
theorem Cuts.mono {H H' : Hp} (f : ∀ (p : Addr) (xs : List V), H p = some (.tup xs) → H' p = some (.tup xs)) : ∀ {vs os}, Cuts H vs os → Cuts H' vs os
  | _, _, .nil => .nil
  | _, _, .cons h t => .cons (f _ _ h) (t.mono f)
theorem Cuts.same {H H' : Hp} (s : Same H H') {vs os} (h : Cuts H vs os) : Cuts H' vs os := h.mono fun _ _ q => s _ _ q
theorem Cuts.snoc {H : Hp} {p : Addr} {c : Kd × Nat} (h : H p = some (.tup [.str (kdS c.1), .int c.2])) : ∀ {vs os}, Cuts H vs os → Cuts H (vs ++ [.ref p]) (os ++ [c])
  | _, _, .nil => .cons h .nil
  | _, _, .cons a t => .cons a (t.snoc h)
theorem Cuts.len {H : Hp} : ∀ {vs os}, Cuts H vs os → vs.length = os.length
  | _, _, .nil => rfl
  | _, _, .cons _ t => congrArg (· + 1) t.len
theorem Cuts.get {H : Hp} : ∀ {xs os} {i : Nat} {y : V}, Cuts H xs os → xs[i]? = some y → ∃ (q : Addr) (o : Kd × Nat), os[i]? = some o ∧ y = .ref q ∧ H q = some (.tup [.str (kdS o.1), .int o.2])
  | _, _, i, y, .nil, h => by simp at h
  | _, _, 0, y, .cons h _, e => ⟨_, _, rfl, (Option.some.inj e).symm, h⟩
  | _, _, i + 1, y, .cons _ t, e => t.get (i := i) e
theorem CutVs.all {H : Hp} : ∀ {vs : List V} {ps : List Str}, CutVs H vs (ps.map cutterOf) → (ps.all fun p => (cutterOf p).isSome) = true → Cuts H vs (ps.filterMap cutterOf)
  | [], [], _, _ => .nil
  | v :: vs, p :: ps, h, q => by
    cases h with
    | cons h1 h2 =>
      rw [List.all_cons, Bool.and_eq_true] at q
      obtain ⟨c, hc⟩ := Option.isSome_iff_exists.mp q.1
      rw [hc] at h1
      obtain ⟨a, rfl, ha⟩ := h1
      rw [List.filterMap_cons, hc]
      exact .cons ha (h2.all q.2)
/-- as data -/
def dOf : Option (Kd × Nat) → PyData
  | none => .none
  | some c => .tuple [.str (kdS c.1), .int c.2]
theorem CutVs.dp {K : PySem.W.Frag} {H : Hp} : ∀ {vs os}, CutVs H vs os → DpAll K H vs (os.map dOf)
  | _, _, .nil => .nil
  | _, _, .cons (o := none) h t => by
    cases (show _ = V.non from h)
    exact .cons .non t.dp
  | _, _, .cons (o := some c) h t => by
    obtain ⟨p, rfl, hp⟩ := h
    exact .cons (.tup (SqT.of hp) (.cons (.str _) (.cons (.int _) .nil))) t.dp
theorem kd_ok (k : Kd) : PyData.strOk (kdS k) = true := by cases k <;> decide +kernel
theorem dOf_lay : ∀ os : List (Option (Kd × Nat)), PyData.canLayAll0 (os.map dOf) = true ∧ PyData.depthAll (os.map dOf) ≤ 1
  | [] => ⟨by simp [PyData.canLayAll0], by simp [PyData.depthAll]⟩
  | none :: r => by
    obtain ⟨a, b⟩ := dOf_lay r
    rw [List.map_cons]
    refine ⟨?_, ?_⟩
    · rw [PyData.canLayAll0, a]; simp [dOf, PyData.canLay0]
    · rw [PyData.depthAll]; simp [dOf, PyData.depth]; exact b
  | some c :: r => by
    obtain ⟨a, b⟩ := dOf_lay r
    rw [List.map_cons]
    refine ⟨?_, ?_⟩
    · rw [PyData.canLayAll0, a]; simp [dOf, PyData.canLay0, PyData.canLayAll0, kd_ok]
    · rw [PyData.depthAll]; simp [dOf, PyData.depth, PyData.depthAll]; omega
theorem dOf_shaped (os : List (Option (Kd × Nat))) : SeqAt.shaped (.list (os.map dOf)) = true := by
  obtain ⟨a, b⟩ := dOf_lay os
  unfold SeqAt.shaped
  rw [Bool.and_eq_true]
  refine ⟨by rw [PyData.canLay0]; exact a, decide_eq_true ?_⟩
  rw [PyData.depth]
  omega
theorem dOf_any (os : List (Option (Kd × Nat))) : ((os.map dOf).any fun z => PyData.eqv z .none) = os.any (·.isNone) := by
  rw [List.any_map]
  congr 1
  funext o
  cases o with
  | none => simp [dOf, PyData.eqv]
  | some c => simp [dOf, PyData.eqv]
section
variable {P : Program} {w : World} {K : PySem.W.Frag} {mg : Str → Option Value} {base : Heap}
theorem room65 {k : Nat} {A : Around} (r : Room k A) : A.units + 65 < cLine := by have := r.un; omega
theorem kd_in (T : TxA w K mg) (z : Str) : ∃ r, PySem.W.nsIn K T.dC z = some r ∧ r.isSome = (kdOf z).isSome := by
  cases h : kdOf z with
  | none => exact ⟨none, CD.dic_no T.dw (kdOf_none h), rfl⟩
  | some k => exact ⟨_, by rw [kdOf_some h]; exact T.nk k, rfl⟩
/-! ### cutter_of -/
def spCO : Sp := fun vs H Q _ => ∃ t : Str, vs = [.str t] ∧ Bd t ∧ ∀ (H' : Hp) (v : V), Same H H' → CutV H' v (cutterOf t) → Q v H'
theorem scCO : FnScope ["text", "word", "space", "digits", "widths", "width"] ["text"] (defScope sCO) := ⟨rfl, rfl, rfl, by decide +kernel, rfl, by decide +kernel, by decide +kernel⟩
def teW : TE := tCB (fun xs H Q => ∃ i, xs = [.int i] ∧ i.natAbs.log2 < 1920 ∧ Q (.str (toString i)) H) (tCons (tVar 5) tNil)
theorem int_nS {n : Nat} (h1 : 1 ≤ n) (h2 : n ≤ 12) : PySem.intText? (nS n) = some (n : Int) := by
  have : ∀ i ∈ List.range 13, PySem.intText? (nS i) = some (i : Int) := by decide +kernel
  exact this n (List.mem_range.mpr (by omega))
theorem ok_co (T : TxA w K mg) : FnOk P w K mg base CX0 1 T.co.f T.co.fd ["text"] spCO := by
  obtain ⟨tw, mw⟩ := T.mw
  obtain ⟨es, n, D⟩ := He.dicW_ok T.dw
  refine T.co.F.ok scCO (fun vs H Q E h => ?_) (fun cdv A outer s H vs Q E hr h => ?_)
  · obtain ⟨t, rfl, _⟩ := h
    rfl
  · obtain ⟨t, rfl, bd, k⟩ := h
    refine ⟨_, pss_cons (ps_asg (pe_partition (pv 0) pe_str) (pg_tup rfl (pgs_cons (pg_name (i := 1) scCO.nd rfl (.inl rfl)) (pgs_cons (pg_name (i := 2) scCO.nd rfl (.inl rfl)) (pgs_cons (pg_name (i := 3) scCO.nd rfl (.inl rfl)) pgs_nil)))))
      (pss_cons (ps_setLc (i := 4) (own := [("width", 5)]) (g := gName 5) (tt := tYes) (te := teW) rfl scCO.nd rfl rfl (sw_true rfl rfl rfl (by decide +kernel)) (pi_range2 rfl T.range (pa_cons pe_int (pa_cons (pe_op op_add (pe_glob (v := .int 12) rfl mw ⟨_, rfl⟩) pe_int) pa_nil))) (blkOk_by (own := [("width", 5)]) (N := ["text", "word", "space", "digits", "widths", "width"]) (sc := defScope sCO) (by decide +kernel)) (fun _ _ _ _ _ => pg_name (i := 5) scCO.nd rfl (Or.inl rfl))
          (fun _ _ _ _ _ => pts_nil) (fun _ _ _ _ _ => pe_callTy call_str_int (by rfl) T.str (by decide +kernel) (pa_cons (pv 5) pa_nil)))
      (pss_one (ps_ret (pe_ifExp (PW.pt (pw_and (pt_cmpR (op_in_kd D) (pv 1) (pe_glob (v := .ref T.dC) rfl T.gD rfl) (by rfl)) (pw_and1 (pt_cmpR op_in_seq (pv 3) (pv 4) (by rfl)))))
          (pe_tup (pa_cons (pv 1) (pa_cons (pe_callTy call_int_str (by rfl) T.int (by decide +kernel) (pa_cons (pv 3) pa_nil)) pa_nil))) pe_non)))), ?_⟩
    refine ⟨_, rfl, ⟨_, rfl⟩, t, " ", rfl, rfl, by decide +kernel, bd.line, fun q nq => ?_⟩
    refine ⟨q, _, rfl, SqT.of upd_same, rfl, _, _, rfl, _, _, rfl, _, _, rfl, rfl, ?_⟩
    have s1 : Same H (upd H q (.tup [.str (Txt.partition t " ").1, .str (Txt.partition t " ").2.1, .str (Txt.partition t " ").2.2])) := same_new nq
    generalize upd H q (.tup [.str (Txt.partition t " ").1, .str (Txt.partition t " ").2.1, .str (Txt.partition t " ").2.2]) = H1 at s1 ⊢
    refine ⟨_, _, rfl, rfl, 1, 13, rfl, by decide, fun Dd nD => lc_range (lo := 1) (n := 12) (fun i H' => Same H1 H' ∧ H' Dd = some (.lst (svs ((List.range i).map fun i => nS (i + 1))))) ⟨same_new nD, upd_same⟩ ?_ ?_⟩
    · rintro i H' hi ⟨s', hD⟩
      refine ⟨rfl, _, rfl, _, rfl, ?_, _, hD, ?_, ?_⟩
      · have : ((1 : Int) + (i : Int)).natAbs = 1 + i := by omega
        rw [this]
        exact Nat.lt_of_le_of_lt (Nat.log2_le_self _) (by omega)
      · rw [show (svs ((List.range i).map fun i => nS (i + 1))).length = i by simp [svs]]
        exact szM (by omega)
      · refine ⟨fun b o q => ?_, ?_⟩
        · rw [upd_ne (ne_of_none q nD)]
          exact s' _ _ q
        · rw [upd_same, List.range_succ, List.map_append]
          have e : (1 : Int) + (i : Int) = ((i + 1 : Nat) : Int) := by omega
          rw [e]
          simp [svs, nS]
    · rintro H2 ⟨s2, hD⟩
      have hD : H2 Dd = some (.lst (svs widths)) := hD
      obtain ⟨r, hr1, hr2⟩ := kd_in T (Txt.partition t " ").1
      refine ⟨_, rfl, _, _, rfl, rfl, hr1, _, rfl, ?_⟩
      rw [hr2]
      have k := k
      unfold cutterOf at k
      cases h1 : kdOf (Txt.partition t " ").1 with
      | none =>
        rw [h1] at k
        refine iteF (iteF ?_)
        exact k H2 .non (Same.trans s1 s2) rfl
      | some kk =>
        rw [h1] at k
        refine iteT ?_
        refine ⟨_, rfl, _, rfl, Dd, _, rfl, .inl (SqL.of hD), rfl, svs_flat _, _, rfl, ?_⟩
        show if (inV _ (svs widths)) = true then _ else _
        rw [inV_svs, numOf_mem]
        cases h2 : numOf (Txt.partition t " ").2.2 with
        | none =>
          rw [h2] at k
          exact iteF (k H2 .non (Same.trans s1 s2) rfl)
        | some m =>
          rw [h2] at k
          obtain ⟨e, m1, m2⟩ := numOf_some h2
          have e0 := kdOf_some h1
          refine iteT ⟨_, rfl, _, rfl, _, (m : Int), rfl, by rw [e]; exact int_nS m1 m2, by rw [e]; exact Nat.le_trans (nS_len m2) (by decide), (by show 2 ≤ sizeLine; decide), fun p np => ?_⟩
          exact k _ (.ref p) (Same.trans (Same.trans s1 s2) (same_new np)) ⟨p, rfl, by rw [upd_same, e0]⟩
/-! ### chains as objects -/
def cf (t : Str) (p : Addr) : List (Str × V) := [("text", .str t), ("cutters", .ref p)]
theorem cf_text (t : Str) (p : Addr) : (cf t p).lookup ("text" : Str) = some (.str t) := by kernel_rfl
theorem cf_cut (t : Str) (p : Addr) : (cf t p).lookup ("cutters" : Str) = some (.ref p) := by kernel_rfl
theorem cf_no (t : Str) (p : Addr) {m : Str} (h1 : ¬ m = "text") (h2 : ¬ m = "cutters") : (cf t p).lookup m = none := by
  unfold cf
  rw [List.lookup_cons, beq_eq_false_iff_ne.mpr h1, List.lookup_cons, beq_eq_false_iff_ne.mpr h2]
  rfl
theorem cf_mk (t : Str) (p : Addr) : putF "cutters" (.ref p) (putF "text" (.str t) []) = cf t p := by kernel_rfl
/-- a chain of this text stands at o -/
def ChainAt (C : Addr) (H : Hp) (o : Addr) (t : Str) : Prop := ∃ dx p vs, H o = some (.ins C dx (cf t p)) ∧ H p = some (.tup vs) ∧ Cuts H vs (cuttersOf t)
theorem ChainAt.same {C : Addr} {H H' : Hp} {o : Addr} {t : Str} (s : Same H H') (h : ChainAt C H o t) : ChainAt C H' o t := let ⟨dx, p, vs, a, b, c⟩ := h; ⟨dx, p, vs, s _ _ a, s _ _ b, c.same s⟩
theorem ChainAt.off {C j : Addr} {H H' : Hp} {o : Addr} {t : Str} (s : Off j H H') (hj : Jar H j) (h : ChainAt C H o t) : ChainAt C H' o t := by
  obtain ⟨x, y, z, hj⟩ := hj
  have f : ∀ (p : Addr) (xs : List V), H p = some (.tup xs) → H' p = some (.tup xs) := fun p xs e => s _ _ (ne_of e hj (by intro z; cases z)) e
  obtain ⟨dx, p, vs, a, b, c⟩ := h
  exact ⟨dx, p, vs, s _ _ (ne_of a hj (by intro z; cases z)) a, f _ _ b, c.mono f⟩
def goodCV : V → Bool
  | .str t => goodC t
  | _ => false
def BdS : V → Prop
  | .str t => Bd t
  | _ => True
def spAI (K : PySem.W.Frag) (C CE : Addr) : Sp := fun vs H Q E => ∃ (x dx : Addr) (v : V), vs = [.ref x, v] ∧ H x = some (.ins C dx []) ∧ Typed K H v ∧ BdS v ∧
  (∀ t, v = .str t → goodC t = true → ∀ H' : Hp, Off x H H' → ChainAt C H' x t → Q .non H') ∧
  (goodCV v = false → ∀ (H' : Hp) (d : Addr), Same H H' → H' d = none → E (.ref CE) (some d) (upd H' d (.xd [("value", v)])))
theorem scAI : FnScope ["self", "text", "cutters", "part"] ["self", "text"] (defScope sAI) := ⟨rfl, rfl, rfl, by decide +kernel, rfl, by decide +kernel, by decide +kernel⟩
theorem any_none (ps : List Str) : (ps.map cutterOf).any (·.isNone) = !(ps.all fun p => (cutterOf p).isSome) := by
  induction ps with
  | nil => rfl
  | cons p r ih =>
    rw [List.map_cons, List.any_cons, List.all_cons, ih]
    cases cutterOf p <;> rfl
theorem ok_ai (T : TxA w K mg) : FnOk P w K mg base (L2.CX P w) 3 T.fI T.fdI ["self", "text"] (spAI K T.C T.E.C) := by
  obtain ⟨tc, mc⟩ := T.mc
  have GC : FnOk P w K mg base CX0 1 T.co.f T.co.fd ["text"] spCO := ok_co T
  have GE : FnOk P w K mg base CX0 1 T.E.f T.E.fd ["self", "value"] (spEI T.E.C) := ok_ei T.E
  refine T.FI.okX scAI (fun vs H Q E h => ?_) (fun cdv A outer s H vs Q E hr h => ?_)
  · obtain ⟨x, dx, v, rfl, _⟩ := h
    rfl
  · obtain ⟨x, dx, v, rfl, hx, ⟨t, ty, kt⟩, bd, kg, kb⟩ := h
    have hr1 : Room 1 _ := hr.mono (by decide)
    refine ⟨_, pss_cons (ps_if (pt_not (pt_val (pe_callB call_isi (by rfl) T.isi (by decide +kernel) (pa_cons (pv 1) (pa_cons (pe_bltn (v := .ty "str") (by rfl) T.str (by decide +kernel) rfl) pa_nil))))) (pss_one (ps_raise rfl (takes_of rfl rfl rfl rfl) (pmk_oex T.E.o T.E.i T.E.t GE hr T.E.b .nil pass0 rfl T.E.g (pa_cons (pv 1) pa_nil)))) pss_nil)
      (pss_cons (ps_setLc (i := 2) (own := [("part", 3)]) (g := gName 3) (tt := tYes) (te := tCall spCO [] E0 (tCons (tVar 3) tNil)) rfl scAI.nd rfl rfl (sw_true rfl rfl rfl (by decide +kernel)) (pi_list (pe_split (pv 1) pe_str)) (blkOk_by (own := [("part", 3)]) (N := ["self", "text", "cutters", "part"]) (sc := defScope sAI) (by decide +kernel)) (fun _ _ _ _ _ => pg_name (i := 3) scAI.nd rfl (Or.inl rfl))
          (fun _ _ _ _ _ => pts_nil) (fun _ _ _ _ _ => by exact pe_call GC hr1 rfl T.co.g T.co.k T.co.b .nil pass0 (pa_cons (pv 3) pa_nil)))
      (pss_cons (ps_if (PW.pt (pw_or (pt_cmpR (op_inD (room65 hr)) pe_non (pv 2) (by rfl)) (pw_or1 (pt_cmpR op_gt (pe_callB call_len_seq (by rfl) T.len PySem.boot_len (pa_cons (pv 2) pa_nil)) (pe_glob (v := .int 6) rfl mc ⟨_, rfl⟩) (nomark _)))))
          (pss_one (ps_raise rfl (takes_of rfl rfl rfl rfl) (pmk_oex T.E.o T.E.i T.E.t GE hr T.E.b .nil pass0 rfl T.E.g (pa_cons (pv 1) pa_nil)))) pss_nil)
      (pss_cons (ps_fld (pv 0) (pv 1) rfl)
      (pss_one (ps_fld (pv 0) (pe_callTy call_tuple_of (by rfl) T.tuple (by decide +kernel) (pa_cons (pv 2) pa_nil)) rfl))))), ?_⟩
    refine ⟨_, rfl, _, _, _, _, isS v, rfl, .ty "str", ty, kt, _, rfl, ?_⟩
    cases hs : isS v with
    | false =>
      refine iteT ?_
      have gv : goodCV v = false := by
        cases v <;> first | rfl | cases hs
      exact mk_err (x := v) ⟨v, rfl, rfl, rfl⟩ (fun {R R'} ⟨v, e1, q⟩ f => ⟨v, e1, f _ _ q⟩) (kb gv H · (Same.refl _))
    | true =>
      obtain ⟨t, rfl⟩ : ∃ t, v = .str t := by
        cases v <;> first | exact ⟨_, rfl⟩ | cases hs
      have bd : Bd t := bd
      have kg := kg t rfl
      refine iteF ?_
      refine ⟨_, rfl, ⟨_, rfl⟩, t, ", ", rfl, rfl, by decide +kernel, bd.line2, fun l nl => ?_⟩
      have s1 : Same H (upd H l (.lst ((Txt.split t ", ").map V.str))) := same_new nl
      have hl1 : (upd H l (.lst ((Txt.split t ", ").map V.str))) l = some (.lst (svs (parts t))) := upd_same
      generalize upd H l (.lst ((Txt.split t ", ").map V.str)) = H1 at s1 hl1 ⊢
      refine ⟨l, rfl, ⟨_, SqL.of hl1⟩, fun Dd nD => lc_list (K := K) (a := l) (xs := svs (parts t)) (fun i H' => Same H1 H' ∧ ∃ acc, H' Dd = some (.lst acc) ∧ CutVs H' acc (((parts t).take i).map cutterOf)) ⟨same_new nD, [], upd_same, .nil⟩ (fun i H' _ ⟨s', _⟩ => SqL.of (s' _ _ hl1)) ?_ ?_⟩
      · rintro i y H' hy ⟨s', acc, hD, hP⟩
        obtain ⟨z, hz, rfl⟩ := svs_get hy
        refine ⟨rfl, _, rfl, z, rfl, Nat.le_trans (parts_word (List.mem_of_getElem? hz)) bd, fun H2 v s2 hv => ?_⟩
        have hD2 := s2 _ _ hD
        have st := tup_stays (o' := .lst (acc ++ [v])) hD2 (by intro xs z; cases z)
        have la := hP.len
        rw [List.length_map, List.length_take] at la
        have lp := parts_len t
        unfold Bd at bd
        refine ⟨acc, hD2, szM (by omega), fun b o q => ?_, _, upd_same, ?_⟩
        · rw [upd_ne (ne_of_none q nD)]
          exact s2 _ _ (s' _ _ q)
        · rw [take_snoc hz, List.map_append]
          exact CutVs.snoc (hv.mono st) ((hP.mono fun _ _ q => s2 _ _ q).mono st)
      · rintro H2 ⟨s2, acc, hD, hP⟩
        have e : (svs (parts t)).length = (parts t).length := List.length_map ..
        rw [e, List.take_length] at hP
        have s02 := Same.trans s1 s2
        have la := hP.len
        rw [List.length_map] at la
        refine ⟨_, rfl, .none, (((parts t).map cutterOf).map dOf), .non, .lst (SqL.of hD) hP.dp, by decide +kernel, dOf_shaped _, _, rfl, ?_⟩
        rw [dOf_any, any_none]
        have gt : goodCV (.str t) = goodC t := rfl
        have gt2 : goodC t = ((parts t).all (fun p => (cutterOf p).isSome) && decide ((parts t).length ≤ 6)) := rfl
        cases h1 : (parts t).all (fun p => (cutterOf p).isSome) with
        | false =>
          rw [gt, gt2, h1] at kb
          refine iteT (iteT ?_)
          exact mk_err (x := .str t) ⟨.str t, rfl, rfl, rfl⟩ (fun {R R'} ⟨v, e1, q⟩ f => ⟨v, e1, f _ _ q⟩) (kb rfl H2 · s02)
        | true =>
          refine iteF ?_
          refine ⟨_, rfl, Dd, _, rfl, .inl (SqL.of hD), _, _, rfl, rfl, _, rfl, ?_⟩
          rw [la]
          by_cases h2 : (parts t).length ≤ 6
          · rw [decide_eq_false (show ¬ ((6 : Int) < ((parts t).length : Int)) by omega)]
            have kg := kg (by rw [gt2, h1, decide_eq_true h2]; rfl)
            refine iteF ?_
            have hx2 := s02 _ _ hx
            refine ⟨_, rfl, _, rfl, x, T.C, dx, _, rfl, hx2, T.cl, T.nT, (by show 0 < 1000; decide), ?_⟩
            have xD : Dd ≠ x := fun q => by rw [q, hx2] at hD; cases hD
            refine ⟨_, rfl, Dd, acc, rfl, .inl ⟨SqL.of (by rw [upd_ne xD]; exact hD), fun q nq => ?_⟩⟩
            have qx : q ≠ x := fun z => by rw [z, upd_same] at nq; cases nq
            refine ⟨_, rfl, x, T.C, dx, _, rfl, (by rw [upd_ne qx.symm]; exact upd_same), T.cl, T.nC, Nat.lt_of_le_of_lt (putF_len _ _ _) (by decide), ?_⟩
            rw [cf_mk]
            have st1 := tup_stays (o' := .ins T.C dx (putF "text" (.str t) [])) hx2 (by intro xs z; cases z)
            have st2 : ∀ (p : Addr) (xs : List V), H2 p = some (.tup xs) → (upd (upd (upd H2 x (.ins T.C dx (putF "text" (.str t) []))) q (.tup acc)) x (.ins T.C dx (cf t q))) p = some (.tup xs) := fun p xs z =>
              tup_stays (o := .ins T.C dx (putF "text" (.str t) [])) (by rw [upd_ne qx.symm]; exact upd_same) (by intro xs z; cases z) _ _ (same_new nq _ _ (st1 _ _ z))
            have o2 : Off x H H2 := Same.off s02
            refine kg _ (Off.put (Off.trans (o2.put) (Same.off (same_new nq)))) ⟨dx, q, acc, upd_same, by rw [upd_ne qx]; exact upd_same, (hP.all h1).mono st2⟩
          · rw [decide_eq_true (show ((6 : Int) < ((parts t).length : Int)) by omega)]
            rw [gt, gt2, h1, decide_eq_false h2] at kb
            refine iteT ?_
            exact mk_err (x := .str t) ⟨.str t, rfl, rfl, rfl⟩ (fun {R R'} ⟨v, e1, q⟩ f => ⟨v, e1, f _ _ q⟩) (kb rfl H2 · s02)
end
end My

/-! rows of pieces -/
namespace My
open PySem L2 Cm LM CH
abbrev sRI : Stmt := inClass (top 12) 0
abbrev sRM : Stmt := inClass (top 12) 1
abbrev sCS : Stmt := top 13
abbrev sWR : Stmt := top 14
abbrev sFR : Stmt := top 15
abbrev sCR : Stmt := top 16
abbrev sTR : Stmt := top 17
abbrev sRO : Stmt := inClass (top 24) 7
def nvs (xs : List Nat) : List V := (xs.map fun n => ((n : Nat) : Int)).map V.int
theorem nvs_len (xs : List Nat) : (nvs xs).length = xs.length := by simp [nvs]
theorem nvs_app (a b : List Nat) : nvs (a ++ b) = nvs a ++ nvs b := by simp [nvs]
theorem nvs_nil {xs : List Nat} : nvs xs = [] ↔ xs = [] := by simp [nvs]
theorem nvs_get {xs : List Nat} {i : Nat} {x : V} (h : (nvs xs)[i]? = some x) : ∃ n, xs[i]? = some n ∧ x = .int (n : Nat) := by
  unfold nvs at h
  rw [List.getElem?_map, List.getElem?_map] at h
  cases e : xs[i]? with
  | none => rw [e] at h; cases h
  | some n =>
    rw [e] at h
    exact ⟨n, rfl, (Option.some.inj h).symm⟩
theorem nvs_at {xs : List Nat} {i : Nat} (h : i < xs.length) : (nvs xs)[i]? = some (.int (xs.getD i 0 : Nat)) := by
  unfold nvs
  rw [List.getElem?_map, List.getElem?_map, List.getElem?_eq_getElem h, getD_eq h]
  rfl
theorem nvs_take (xs : List Nat) (k : Nat) : (nvs xs).take k = nvs (xs.take k) := by simp [nvs]
theorem isum (xs : List Nat) : (xs.map fun n => ((n : Nat) : Int)).sum = ((xs.sum : Nat) : Int) := by
  induction xs with
  | nil => rfl
  | cons x r ih => rw [List.map_cons, List.sum_cons, ih, List.sum_cons]; omega
/-! ### rows as objects -/
def rf (pu : Addr) (t : Nat) (pl : Addr) : List (Str × V) := [("unit", .ref pu), ("times", .int t), ("last", .ref pl)]
section
variable (pu pl : Addr) (t : Nat)
theorem rf_u : (rf pu t pl).lookup ("unit" : Str) = some (.ref pu) := by kernel_rfl
theorem rf_t : (rf pu t pl).lookup ("times" : Str) = some (.int t) := by kernel_rfl
theorem rf_l : (rf pu t pl).lookup ("last" : Str) = some (.ref pl) := by kernel_rfl
theorem rf_mk : putF "last" (.ref pl) (putF "times" (.int t) (putF "unit" (.ref pu) [])) = rf pu t pl := by kernel_rfl
theorem rf_no : (rf pu t pl).lookup ("many" : Str) = none ∧ (rf pu t pl).lookup ("sizes" : Str) = none ∧ (rf pu t pl).lookup ("piece_at" : Str) = none ∧ (rf pu t pl).lookup ("place_with" : Str) = none := ⟨by kernel_rfl, by kernel_rfl, by kernel_rfl, by kernel_rfl⟩
end
def RowAt (C : Addr) (H : Hp) (o : Addr) (r : Rw) : Prop := ∃ dx pu pl, H o = some (.ins C dx (rf pu r.times pl)) ∧ H pu = some (.tup (nvs r.unit)) ∧ H pl = some (.tup (nvs r.last))
theorem RowAt.same {C : Addr} {H H' : Hp} {o : Addr} {r : Rw} (s : Same H H') (h : RowAt C H o r) : RowAt C H' o r := let ⟨dx, pu, pl, a, b, c⟩ := h; ⟨dx, pu, pl, s _ _ a, s _ _ b, s _ _ c⟩
structure TxRw (w : World) (K : PySem.W.Frag) (mg : Str → Option Value) where
  A : TxA w K mg
  sum : mg "sum" = none
  C : Addr
  gC : mg "Row" = some (.ref C)
  cl : Cls K C
  nU : NoAttr K C "unit"
  nT : NoAttr K C "times"
  nL : NoAttr K C "last"
  fI : Addr
  fdI : FuncData
  FI : Fun K "__init__" "Row.__init__" sRI fI fdI
  bI : Binds K fdI ["self", "unit", "times", "last"] []
  MI : Mk K C fI
  mn : Mt K C "many" "Row.many" sRM ["self"]
  cs : Df K mg "cut_sizes" sCS ["sizes", "width"]
  wr : Df K mg "whole_row" sWR ["items"]
  fr : Df K mg "fill_row" sFR ["row", "width"]
  cr : Df K mg "cut_row" sCR ["row", "width"]
  tr : Df K mg "tail_row" sTR ["row", "width"]
  ro : Mt K A.C "row_of" "Chain.row_of" sRO ["self", "items"]
  e1 : A.fk .cut = cr.f
  e2 : A.fk .fill = fr.f
  e3 : A.fk .tail = tr.f
/-- a row behind at most six cutters, of at most 10 ^ 18 items -/
structure RB (r : Rw) : Prop where
  i : Inv 6 r
  t : r.tot ≤ 1000000000000000000
theorem RB.ul {r : Rw} (h : RB r) : r.unit.length ≤ 12 := by
  rcases h.i.f with ⟨a, _, _⟩ | ⟨_, b, _⟩
  · rw [a]; exact Nat.zero_le _
  · exact Nat.le_trans h.i.pu.len b
theorem RB.us {r : Rw} (h : RB r) : r.unit.sum ≤ 12 := by
  rcases h.i.f with ⟨a, _, _⟩ | ⟨_, b, _⟩
  · rw [a]; exact Nat.zero_le _
  · exact b
theorem RB.ll {r : Rw} (h : RB r) : r.last.length ≤ 156 := by
  rcases h.i.f with ⟨_, _, c⟩ | ⟨_, _, c⟩
  · omega
  · have := h.i.pl.len
    omega
theorem RB.tt {r : Rw} (h : RB r) : r.times ≤ r.tot := by
  rcases h.i.f with ⟨_, b, _⟩ | ⟨a, _, _⟩
  · rw [b]; exact Nat.zero_le _
  · have l1 : 1 ≤ r.unit.length := List.length_pos_iff.mpr a
    have := h.i.pu.len
    have : r.times * 1 ≤ r.times * r.unit.sum := Nat.mul_le_mul_left _ (by omega)
    unfold Rw.tot
    omega
section
variable {P : Program} {w : World} {K : PySem.W.Frag} {mg : Str → Option Value} {base : Heap}
/-! ### __init__, many -/
def spRI (C : Addr) : Sp := fun vs H Q _ => ∃ (o dx pu pl : Addr) (t : Nat) (u l : List Nat), vs = [.ref o, .ref pu, .int t, .ref pl] ∧ H o = some (.ins C dx []) ∧ H pu = some (.tup (nvs u)) ∧ H pl = some (.tup (nvs l)) ∧ ∀ H', Off o H H' → RowAt C H' o ⟨u, t, l⟩ → Q .non H'
theorem scRI : FnScope ["self", "unit", "times", "last"] ["self", "unit", "times", "last"] (defScope sRI) := ⟨rfl, rfl, rfl, by decide +kernel, rfl, by decide +kernel, by decide +kernel⟩
theorem ok_ri (T : TxRw w K mg) : FnOk P w K mg base CX0 1 T.fI T.fdI ["self", "unit", "times", "last"] (spRI T.C) := by
  refine T.FI.ok scRI (fun vs H Q E h => ?_) (fun cdv A outer s H vs Q E hr h => ?_)
  · obtain ⟨o, dx, pu, pl, t, u, l, rfl, _⟩ := h
    rfl
  · obtain ⟨o, dx, pu, pl, t, u, l, rfl, ho, hu, hl, k⟩ := h
    refine ⟨_, pss_cons (ps_fld (pv 0) (pv 1) rfl) (pss_cons (ps_fld (pv 0) (pv 2) rfl) (pss_one (ps_fld (pv 0) (pv 3) rfl))), ?_⟩
    refine ⟨_, rfl, _, rfl, o, T.C, dx, _, rfl, ho, T.cl, T.nU, by decide, ?_⟩
    refine ⟨_, rfl, _, rfl, o, T.C, dx, _, rfl, upd_same, T.cl, T.nT, Nat.lt_of_le_of_lt (putF_len _ _ _) (by decide), ?_⟩
    refine ⟨_, rfl, _, rfl, o, T.C, dx, _, rfl, upd_same, T.cl, T.nL, Nat.lt_of_le_of_lt (putF_len _ _ _) (Nat.lt_of_le_of_lt (Nat.add_le_add_right (putF_len _ _ _) 1) (by decide)), ?_⟩
    rw [rf_mk]
    have n1 : pu ≠ o := ne_of hu ho (by intro z; cases z)
    have n2 : pl ≠ o := ne_of hl ho (by intro z; cases z)
    exact k _ (Off.put (Off.put (Off.put Off.refl))) ⟨dx, pu, pl, upd_same, by rw [upd_ne n1, upd_ne n1, upd_ne n1]; exact hu, by rw [upd_ne n2, upd_ne n2, upd_ne n2]; exact hl⟩
/-- Row(u, t, l), made -/
theorem mk_row (T : TxRw w K mg) {H : Hp} {pu pl : Addr} {t : Nat} {u l : List Nat} {E : XK} {R : Hp → Prop} {x dx : Addr} (hu : H pu = some (.tup (nvs u))) (hl : H pl = some (.tup (nvs l))) (nx : H x = none) (ndx : H dx = none) (q : ∀ (H' : Hp), Same H H' → RowAt T.C H' x ⟨u, t, l⟩ → R H') :
    spRI T.C [.ref x, .ref pu, .int (t : Nat), .ref pl] (upd (upd H dx (.own x)) x (.ins T.C dx [])) (fun v H2 => v = .non ∧ R H2) E := by
  refine ⟨x, dx, pu, pl, t, u, l, rfl, upd_same, by rw [upd_ne (ne_of_none hu nx), upd_ne (ne_of_none hu ndx)]; exact hu, by rw [upd_ne (ne_of_none hl nx), upd_ne (ne_of_none hl ndx)]; exact hl, fun H' o h => ⟨rfl, q H' (made_same nx ndx o) h⟩⟩
def spRM (C : Addr) : Sp := fun vs H Q _ => ∃ (o : Addr) (r : Rw), vs = [.ref o] ∧ RowAt C H o r ∧ RB r ∧ Q (.int (r.many : Nat)) H
theorem scRM : FnScope ["self"] ["self"] (defScope sRM) := ⟨rfl, rfl, rfl, by decide +kernel, rfl, by decide +kernel, by decide +kernel⟩
theorem ok_rm (T : TxRw w K mg) : FnOk P w K mg base CX0 1 T.mn.f T.mn.fd ["self"] (spRM T.C) := by
  refine T.mn.F.ok scRM (fun vs H Q E h => ?_) (fun cdv A outer s H vs Q E hr h => ?_)
  · obtain ⟨o, r, rfl, _⟩ := h
    rfl
  · obtain ⟨o, r, rfl, ⟨dx, pu, pl, e, hu, hl⟩, b, k⟩ := h
    refine ⟨_, (pss_one (ps_ret (pe_op op_add (pe_op op_mul (pe_fld (pv 0) rfl) (pe_callB call_len_seq (by rfl) T.A.len PySem.boot_len (pa_cons (pe_fld (pv 0) rfl) pa_nil))) (pe_callB call_len_seq (by rfl) T.A.len PySem.boot_len (pa_cons (pe_fld (pv 0) rfl) pa_nil))))), ?_⟩
    have b1 := b.ul
    refine ⟨_, rfl, o, T.C, dx, _, _, rfl, e, T.cl, T.nT, rf_t .., _, rfl, o, T.C, dx, _, _, rfl, e, T.cl, T.nU, rf_u .., pu, _, rfl, .inr (SqT.of hu), _, _, rfl, rfl, .inr (by rw [nvs_len]; omega), ?_⟩
    refine ⟨_, rfl, o, T.C, dx, _, _, rfl, e, T.cl, T.nL, rf_l .., pl, _, rfl, .inr (SqT.of hl), _, _, rfl, rfl, ?_⟩
    rw [nvs_len, nvs_len]
    have : (r.times : Int) * (r.unit.length : Int) + (r.last.length : Int) = ((r.many : Nat) : Int) := by unfold Rw.many; rw [Int.natCast_add, Int.natCast_mul]
    have k2 : Q (.int ((r.times : Int) * (r.unit.length : Int) + (r.last.length : Int))) H := by rw [this]; exact k
    exact k2
/-! ### cut_sizes -/
def spCS : Sp := fun vs H Q _ => ∃ (p : Addr) (xs : List Nat) (d : Nat), vs = [.ref p, .int d] ∧ H p = some (.tup (nvs xs)) ∧ 1 ≤ d ∧ d ≤ 12 ∧ xs.sum ≤ 1000 ∧ xs.length ≤ 1000 ∧ ∀ (H' : Hp) (q : Addr), Same H H' → H' q = some (.tup (nvs (chop xs d))) → Q (.ref q) H'
theorem scCS : FnScope ["sizes", "width", "cut", "size"] ["sizes", "width"] (defScope sCS) := ⟨rfl, rfl, rfl, by decide +kernel, rfl, by decide +kernel, by decide +kernel⟩
theorem rep_nvs (d : Nat) : ∀ k, (List.replicate k [V.int (d : Int)]).flatten = nvs (List.replicate k d)
  | 0 => rfl
  | k + 1 => by rw [List.replicate_succ, List.flatten_cons, rep_nvs d k, List.replicate_succ]; rfl
theorem evenly_len {n d : Nat} : (evenly n d).length ≤ n / d + 1 := by
  unfold evenly
  rw [List.length_append, List.length_replicate]
  split <;> simp
theorem chop_len {d : Nat} (hd : 1 ≤ d) : ∀ xs, (chop xs d).length ≤ xs.sum + xs.length
  | [] => by simp [chop]
  | x :: r => by
    show (evenly x d ++ chop r d).length ≤ _
    rw [List.length_append, List.sum_cons, List.length_cons]
    have a := evenly_len (n := x) (d := d)
    have b := chop_len hd r
    have c : x / d ≤ x := Nat.div_le_self _ _
    omega
theorem le_sum {n : Nat} : ∀ {xs : List Nat}, n ∈ xs → n ≤ xs.sum
  | x :: r, h => by
    rw [List.sum_cons]
    rcases List.mem_cons.mp h with e | h
    · omega
    · have := le_sum h
      omega
theorem sum_take (xs : List Nat) (i : Nat) : (xs.take i).sum ≤ xs.sum := by
  have := congrArg List.sum (List.take_append_drop i xs)
  rw [List.sum_append] at this
  omega
theorem ok_cs (T : TxRw w K mg) : FnOk P w K mg base CX0 1 T.cs.f T.cs.fd ["sizes", "width"] spCS := by
  refine T.cs.F.ok scCS (fun vs H Q E h => ?_) (fun cdv A outer s H vs Q E hr h => ?_)
  · obtain ⟨p, xs, d, rfl, _⟩ := h
    rfl
  · obtain ⟨p, xs, d, rfl, hp, d1, d2, hs, hl, k⟩ := h
    refine ⟨_, (pss_cons (ps_set (i := 2) scCS.nd rfl (.inl rfl) (pe_lst pa_nil)) (pss_cons (ps_for PassesOwn.never rfl (pi_tup (pv 0)) (pg_name (i := 3) scCS.nd rfl (.inl rfl)) (pss_cons (ps_aug (i := 2) scCS.nd rfl (.inl rfl) (pe_op op_rep (pe_lst (pa_cons (pv 1) pa_nil)) (pe_op op_fdiv (pv 3) (pv 1))) RwR.ip_iadd) (pss_one (ps_if (pt_truth (pe_op op_mod (pv 3) (pv 1)) (by intro _; rfl)) (pss_one (ps_expr (pe_bm PySem.F.plainAttrs_list PySem.F.slot_list_append PySem.F.type_list_append mt_append (pv 2) (pa_cons (pe_op op_mod (pv 3) (pv 1)) pa_nil)))) pss_nil)))) (pss_one (ps_ret (pe_callTy call_tuple_of (by rfl) T.A.tuple (by decide +kernel) (pa_cons (pv 2) pa_nil)))))), ?_⟩
    refine ⟨Nat.zero_le _, fun c nc => ?_⟩
    refine ⟨_, rfl, p, rfl, ⟨_, SqT.of (same_new nc _ _ hp)⟩, ?_⟩
    refine for_tup (K := K) (a := p) (xs := nvs xs) (fun i σ H' => ∃ v3, σ = [some (.ref p), some (.int d), some (.ref c), v3] ∧ Same H H' ∧ H' c = some (.lst (nvs (chop (xs.take i) d)))) ⟨none, rfl, same_new nc, upd_same⟩ (fun i σ H' _ ⟨_, _, s', _⟩ => SqT.of (s' _ _ hp)) ?_ ?_
    · rintro i y σ H' hy ⟨v3, rfl, s', hc⟩
      obtain ⟨n, hn, rfl⟩ := nvs_get hy
      have hi := lt_of_get hn
      have mem := List.mem_of_getElem? hn
      have hn1 : n ≤ xs.sum := le_sum mem
      have lt : (chop (xs.take i) d).length ≤ 2000 := by
        have a := chop_len d1 (xs.take i)
        have b := sum_take xs i
        have c : (xs.take i).length ≤ xs.length := by rw [List.length_take]; omega
        omega
      have nd : n / d ≤ n := Nat.div_le_self _ _
      have enx : chop (xs.take (i + 1)) d = chop (xs.take i) d ++ evenly n d := by
        rw [take_snoc hn, chop_app]
        congr 1
        show evenly n d ++ [] = _
        rw [List.append_nil]
      refine ⟨_, rfl, _, rfl, (by show 1 ≤ sizeLine; decide), fun l nl => ?_⟩
      refine ⟨_, rfl, _, rfl, _, _, rfl, rfl, ⟨by omega, by omega⟩, l, _, _, rfl, rfl, upd_same, ?_, ?_, ?_, fun q nq => ?_⟩
      · have : (0 : Int) ≤ (n : Int) / (d : Int) := Int.ediv_nonneg (by omega) (by omega)
        omega
      · have : (n : Int) / (d : Int) = ((n / d : Nat) : Int) := (Int.natCast_ediv n d).symm
        rw [this]
        omega
      · have : (n : Int) / (d : Int) = ((n / d : Nat) : Int) := (Int.natCast_ediv n d).symm
        rw [this, Int.toNat_natCast]
        exact szl (by show 1 * (n / d) ≤ 1000; omega)
      have e1 : ((n : Int) / (d : Int)).toNat = n / d := by rw [← Int.natCast_ediv, Int.toNat_natCast]
      rw [e1, rep_nvs]
      have sq : Same H' (upd (upd H' l (.lst [.int d])) q (.lst (nvs (List.replicate (n / d) d)))) := Same.trans (same_new nl) (same_new nq)
      have hq : (upd (upd H' l (.lst [.int d])) q (.lst (nvs (List.replicate (n / d) d)))) q = some (.lst (nvs (List.replicate (n / d) d))) := upd_same
      generalize upd (upd H' l (.lst [.int d])) q (.lst (nvs (List.replicate (n / d) d))) = H2 at sq hq ⊢
      have hc2 := sq _ _ hc
      refine ⟨c, q, _, _, rfl, rfl, hc2, hq, Nat.le_of_lt (szM (by rw [nvs_len, nvs_len, List.length_replicate]; omega)), ?_⟩
      rw [← nvs_app]
      have f2 : ∀ (b : Addr) (o : HO), H b = some o → (upd H2 c (.lst (nvs (chop (xs.take i) d ++ List.replicate (n / d) d)))) b = some o := fun b o e => by
        rw [upd_ne (ne_of_none e nc)]
        exact sq _ _ (s' _ _ e)
      have hc3 : (upd H2 c (.lst (nvs (chop (xs.take i) d ++ List.replicate (n / d) d)))) c = some (.lst (nvs (chop (xs.take i) d ++ List.replicate (n / d) d))) := upd_same
      generalize upd H2 c (.lst (nvs (chop (xs.take i) d ++ List.replicate (n / d) d))) = H3 at f2 hc3 ⊢
      refine ⟨_, rfl, _, rfl, _, _, rfl, rfl, by omega, _, rfl, ?_⟩
      have em : (n : Int) % (d : Int) = ((n % d : Nat) : Int) := (Int.natCast_emod n d).symm
      rw [em]
      by_cases h0 : n % d = 0
      · rw [h0]
        refine iteF ⟨_, rfl, f2, ?_⟩
        rw [hc3, enx]
        unfold evenly
        rw [if_pos h0, List.append_nil]
      · have : (((n % d : Nat) : Int) != 0) = true := by simp; omega
        rw [this]
        refine iteT ?_
        refine ⟨_, rfl, .inl ⟨rfl, _, SqL.of hc3⟩, _, rfl, _, rfl, _, _, rfl, rfl, by omega, c, _, _, rfl, rfl, hc3, szM (by rw [nvs_len, List.length_append, List.length_replicate]; omega), ?_⟩
        refine ⟨_, rfl, fun b o e => ?_, ?_⟩
        · rw [upd_ne (ne_of_none e nc)]
          exact f2 _ _ e
        · rw [upd_same, enx]
          show some (HO.lst (nvs _ ++ [V.int ((n : Int) % (d : Int))])) = _
          rw [em]
          unfold evenly
          rw [if_neg h0, ← List.append_assoc]
          rw [show [V.int ((n % d : Nat) : Int)] = nvs [n % d] from rfl, ← nvs_app]
    · rintro σ H' ⟨v3, rfl, s', hc⟩
      rw [nvs_len, List.take_length] at hc
      refine ⟨_, rfl, c, _, rfl, .inl ⟨SqL.of hc, fun q nq => ?_⟩⟩
      exact k _ q (Same.trans s' (same_new nq)) upd_same
end
end My

/-! what the cutters make of a row -/
namespace My
open PySem L2 Cm LM CH
theorem nzN (n : Nat) : (((n : Nat) : Int) != 0) = !decide (n = 0) := by
  cases n with
  | zero => rfl
  | succ k => simp; omega
theorem neg_at {xs : List Nat} {k : Nat} (h1 : 1 ≤ k) (h2 : k ≤ xs.length) : atI (nvs xs) (-(k : Int)) = some (.int (xs.getD (xs.length - k) 0 : Nat)) := by
  unfold atI ixN
  rw [nvs_len, if_neg (by omega), if_pos (by omega)]
  have : (-(k : Int) + (xs.length : Int)).toNat = xs.length - k := by omega
  rw [this]
  exact nvs_at (by omega)
theorem cut_neg {xs : List Nat} {k : Nat} (h1 : 1 ≤ k) (h2 : k ≤ xs.length) : cutV (nvs xs) none (some (-(k : Int))) = nvs (xs.take (xs.length - k)) := by
  unfold cutV
  rw [HT.sIx_none]
  have : HT.sIx (nvs xs).length (nvs xs).length (some (-(k : Int))) = xs.length - k := by
    show (if (-(k : Int)) < 0 then ((-(k : Int)) + ((nvs xs).length : Int)).toNat else min (-(k : Int)).toNat (nvs xs).length) = _
    rw [if_pos (by omega), nvs_len]
    omega
  rw [this, List.drop_zero, Nat.sub_zero, nvs_take]
section
variable {P : Program} {w : World} {K : PySem.W.Frag} {mg : Str → Option Value} {base : Heap}
/-! ### whole_row -/
def spWR (C : Addr) : Sp := fun vs H Q _ => ∃ n : Nat, vs = [.int n] ∧ ∀ (H' : Hp) (x : Addr), Same H H' → RowAt C H' x (wholeR n) → Q (.ref x) H'
theorem scWR : FnScope ["items"] ["items"] (defScope sWR) := ⟨rfl, rfl, rfl, by decide +kernel, rfl, by decide +kernel, by decide +kernel⟩
theorem ok_wr (T : TxRw w K mg) : FnOk P w K mg base CX0 3 T.wr.f T.wr.fd ["items"] (spWR T.C) := by
  have GI : FnOk P w K mg base CX0 1 T.fI T.fdI ["self", "unit", "times", "last"] (spRI T.C) := ok_ri T
  refine T.wr.F.ok scWR (fun vs H Q E h => ?_) (fun cdv A outer s H vs Q E hr h => ?_)
  · obtain ⟨n, rfl, _⟩ := h
    rfl
  · obtain ⟨n, rfl, k⟩ := h
    refine ⟨_, (pss_one (ps_ret (pe_make T.MI GI hr rfl T.gC T.bI .nil pass0 (pa_cons (pe_tup pa_nil) (pa_cons pe_int (pa_cons (pe_ifExp (pt_truth (pv 0) (by intro _; rfl)) (pe_tup (pa_cons (pv 0) pa_nil)) (pe_tup pa_nil)) pa_nil)))))), ?_⟩
    refine ⟨Nat.zero_le _, fun pu nu => ⟨_, rfl, _, rfl, ?_⟩⟩
    have hu : (upd H pu (.tup [])) pu = some (.tup (nvs [])) := upd_same
    have s1 : Same H (upd H pu (.tup [])) := same_new nu
    generalize upd H pu (.tup []) = H1 at hu s1 ⊢
    rw [nzN]
    by_cases h0 : n = 0
    · rw [decide_eq_true h0]
      refine iteF ⟨Nat.zero_le _, fun pl nl => ?_⟩
      refine fun x dx nx ndx nex => mk_row T (t := 0) (u := []) (l := []) (same_new nl _ _ hu) upd_same nx ndx fun H3 s3 h3 => ?_
      refine k H3 x (Same.trans s1 (Same.trans (same_new nl) s3)) ?_
      have : wholeR n = ⟨[], 0, []⟩ := by unfold wholeR wholeS; rw [if_pos h0]
      rw [this]
      exact h3
    · rw [decide_eq_false h0]
      refine iteT ⟨_, rfl, (by show 1 ≤ sizeLine; decide), fun pl nl => ?_⟩
      refine fun x dx nx ndx nex => mk_row T (t := 0) (u := []) (l := [n]) (same_new nl _ _ hu) upd_same nx ndx fun H3 s3 h3 => ?_
      refine k H3 x (Same.trans s1 (Same.trans (same_new nl) s3)) ?_
      have : wholeR n = ⟨[], 0, [n]⟩ := by unfold wholeR wholeS; rw [if_neg h0]
      rw [this]
      exact h3
/-! ### fill_row -/
def spFR (C : Addr) : Sp := fun vs H Q _ => ∃ (o : Addr) (r : Rw) (d : Nat), vs = [.ref o, .int d] ∧ RowAt C H o r ∧ RB r ∧ 1 ≤ d ∧ d ≤ 12 ∧ ∀ (H' : Hp) (x : Addr), Same H H' → RowAt C H' x (fillR r d) → Q (.ref x) H'
theorem scFR : FnScope ["row", "width", "items", "left"] ["row", "width"] (defScope sFR) := ⟨rfl, rfl, rfl, by decide +kernel, rfl, by decide +kernel, by decide +kernel⟩
theorem ok_fr (T : TxRw w K mg) : FnOk P w K mg base CX0 3 T.fr.f T.fr.fd ["row", "width"] (spFR T.C) := by
  have GI : FnOk P w K mg base CX0 1 T.fI T.fdI ["self", "unit", "times", "last"] (spRI T.C) := ok_ri T
  refine T.fr.F.ok scFR (fun vs H Q E h => ?_) (fun cdv A outer s H vs Q E hr h => ?_)
  · obtain ⟨o, r, d, rfl, _⟩ := h
    rfl
  · obtain ⟨o, r, d, rfl, ⟨dx, pu, pl, e, hu, hl⟩, b, d1, d2, k⟩ := h
    refine ⟨_, (pss_cons (ps_set (i := 2) scFR.nd rfl (.inl rfl) (pe_op op_add (pe_op op_mul (pe_fld (pv 0) rfl) (pe_callB (RwR.cr_sumT rfl) (by rfl) T.sum (by decide +kernel) (pa_cons (pe_fld (pv 0) rfl) pa_nil))) (pe_callB (RwR.cr_sumT rfl) (by rfl) T.sum (by decide +kernel) (pa_cons (pe_fld (pv 0) rfl) pa_nil)))) (pss_cons (ps_set (i := 3) scFR.nd rfl (.inl rfl) (pe_op op_mod (pv 2) (pv 1))) (pss_one (ps_ret (pe_make T.MI GI hr rfl T.gC T.bI .nil pass0 (pa_cons (pe_tup (pa_cons (pv 1) pa_nil)) (pa_cons (pe_op op_fdiv (pv 2) (pv 1)) (pa_cons (pe_ifExp (pt_truth (pv 3) (by intro _; rfl)) (pe_tup (pa_cons (pv 3) pa_nil)) (pe_tup pa_nil)) pa_nil)))))))), ?_⟩
    have b1 := b.us
    have b2 := b.t
    refine ⟨_, rfl, o, T.C, dx, _, _, rfl, e, T.cl, T.nT, rf_t .., _, rfl, o, T.C, dx, _, _, rfl, e, T.cl, T.nU, rf_u .., pu, _, rfl, SqT.of hu, _, _, rfl, rfl, .inr (by rw [isum]; omega), ?_⟩
    refine ⟨_, rfl, o, T.C, dx, _, _, rfl, e, T.cl, T.nL, rf_l .., pl, _, rfl, SqT.of hl, _, _, rfl, rfl, ?_⟩
    have et : (r.times : Int) * (r.unit.map fun n => ((n : Nat) : Int)).sum + (r.last.map fun n => ((n : Nat) : Int)).sum = ((r.tot : Nat) : Int) := by
      rw [isum, isum]
      unfold Rw.tot
      rw [Int.natCast_add, Int.natCast_mul]
    simp only [et]
    refine ⟨_, rfl, _, rfl, _, _, rfl, rfl, by omega, ?_⟩
    have em : ((r.tot : Nat) : Int) % (d : Int) = ((r.tot % d : Nat) : Int) := (Int.natCast_emod _ _).symm
    have ed : ((r.tot : Nat) : Int) / (d : Int) = ((r.tot / d : Nat) : Int) := (Int.natCast_ediv _ _).symm
    simp only [em]
    refine ⟨_, rfl, (by show 1 ≤ sizeLine; decide), fun q nq => ?_⟩
    have hq : (upd H q (.tup [.int d])) q = some (.tup (nvs [d])) := upd_same
    have s1 : Same H (upd H q (.tup [.int d])) := same_new nq
    generalize upd H q (.tup [.int d]) = H1 at hq s1 ⊢
    refine ⟨_, rfl, _, rfl, _, _, rfl, rfl, ⟨by omega, by omega⟩, _, rfl, _, rfl, ?_⟩
    rw [nzN]
    unfold fillR at k
    by_cases h0 : r.tot % d = 0
    · rw [if_pos h0] at k
      rw [decide_eq_true h0]
      refine iteF ⟨Nat.zero_le _, fun z nz => ?_⟩
      simp only [ed]
      refine fun x dx nx ndx nex => mk_row T (t := r.tot / d) (u := [d]) (l := []) (same_new nz _ _ hq) upd_same nx ndx fun H3 s3 h3 => ?_
      exact k H3 x (Same.trans s1 (Same.trans (same_new nz) s3)) h3
    · rw [if_neg h0] at k
      rw [decide_eq_false h0]
      refine iteT ⟨_, rfl, (by show 1 ≤ sizeLine; decide), fun z nz => ?_⟩
      simp only [ed]
      refine fun x dx nx ndx nex => mk_row T (t := r.tot / d) (u := [d]) (l := [r.tot % d]) (same_new nz _ _ hq) upd_same nx ndx fun H3 s3 h3 => ?_
      exact k H3 x (Same.trans s1 (Same.trans (same_new nz) s3)) h3
/-! ### cut_row -/
def spCR (C : Addr) : Sp := fun vs H Q _ => ∃ (o : Addr) (r : Rw) (d : Nat), vs = [.ref o, .int d] ∧ RowAt C H o r ∧ RB r ∧ 1 ≤ d ∧ d ≤ 12 ∧ ∀ (H' : Hp) (x : Addr), Same H H' → RowAt C H' x (cutR r d) → Q (.ref x) H'
theorem scCR : FnScope ["row", "width"] ["row", "width"] (defScope sCR) := ⟨rfl, rfl, rfl, by decide +kernel, rfl, by decide +kernel, by decide +kernel⟩
theorem ok_cr (T : TxRw w K mg) : FnOk P w K mg base CX0 4 T.cr.f T.cr.fd ["row", "width"] (spCR T.C) := by
  have GI : FnOk P w K mg base CX0 1 T.fI T.fdI ["self", "unit", "times", "last"] (spRI T.C) := ok_ri T
  have GM : FnOk P w K mg base CX0 1 T.mn.f T.mn.fd ["self"] (spRM T.C) := ok_rm T
  have GF : FnOk P w K mg base CX0 3 T.fr.f T.fr.fd ["row", "width"] (spFR T.C) := ok_fr T
  have GC : FnOk P w K mg base CX0 1 T.cs.f T.cs.fd ["sizes", "width"] spCS := ok_cs T
  refine T.cr.F.ok scCR (fun vs H Q E h => ?_) (fun cdv A outer s H vs Q E hr h => ?_)
  · obtain ⟨o, r, d, rfl, _⟩ := h
    rfl
  · obtain ⟨o, r, d, rfl, hO, b, d1, d2, k⟩ := h
    have hr1 : Room 1 _ := hr.mono (by decide)
    have hr2 : Room 2 _ := hr.mono (by decide)
    refine ⟨_, (pss_cons (ps_if (pt_cmpR op_eq (pe_meth0 (pv 0) T.cl T.mn.m GM hr1 T.mn.b .nil pass0) pe_int (nomark _)) (pss_one (ps_ret (pe_call GF hr rfl T.fr.g T.fr.k T.fr.b .nil pass0 (pa_cons (pv 0) (pa_cons (pv 1) pa_nil))))) pss_nil) (pss_one (ps_ret (pe_make T.MI GI hr2 rfl T.gC T.bI .nil pass0 (pa_cons (pe_call GC hr1 rfl T.cs.g T.cs.k T.cs.b .nil pass0 (pa_cons (pe_fld (pv 0) rfl) (pa_cons (pv 1) pa_nil))) (pa_cons (pe_fld (pv 0) rfl) (pa_cons (pe_call GC hr1 rfl T.cs.g T.cs.k T.cs.b .nil pass0 (pa_cons (pe_fld (pv 0) rfl) (pa_cons (pv 1) pa_nil))) pa_nil))))))), ?_⟩
    obtain ⟨dx, pu, pl, e, hu, hl⟩ := id hO
    refine ⟨_, rfl, o, dx, _, rfl, e, (rf_no ..).1, o, r, rfl, hO, b, rfl, _, rfl, ?_⟩
    rw [dI]
    unfold cutR at k
    by_cases h1 : r.many = 1
    · rw [if_pos h1] at k
      rw [show decide (((r.many : Nat) : Int) = 1) = true from decide_eq_true (by omega)]
      exact iteT ⟨_, rfl, _, rfl, o, r, d, rfl, hO, b, d1, d2, k⟩
    · rw [if_neg h1] at k
      rw [show decide (((r.many : Nat) : Int) = 1) = false from decide_eq_false (by omega)]
      refine iteF ?_
      have hls : r.last.sum ≤ 156 := by
        rcases b.i.f with ⟨a1, a2, a3⟩ | ⟨_, _, c⟩
        · have : r.last.length = 0 := by
            unfold Rw.many at h1
            rw [a2] at h1
            omega
          rw [List.eq_nil_of_length_eq_zero this]
          exact Nat.zero_le _
        · exact c
      have b1 := b.us
      have b2 := b.ul
      have b3 := b.ll
      refine ⟨_, rfl, o, T.C, dx, _, _, rfl, e, T.cl, T.nU, rf_u .., _, rfl, pu, r.unit, d, rfl, hu, d1, d2, by omega, by omega, fun H1 q1 s1 hq1 => ?_⟩
      refine ⟨_, rfl, o, T.C, dx, _, _, rfl, s1 _ _ e, T.cl, T.nT, rf_t .., _, rfl, o, T.C, dx, _, _, rfl, s1 _ _ e, T.cl, T.nL, rf_l .., _, rfl, pl, r.last, d, rfl, s1 _ _ hl, d1, d2, by omega, by omega, fun H2 q2 s2 hq2 => ?_⟩
      refine fun x dx nx ndx nex => mk_row T (t := r.times) (s2 _ _ hq1) hq2 nx ndx fun H3 s3 h3 => ?_
      exact k H3 x (Same.trans s1 (Same.trans s2 s3)) h3
/-! ### tail_row -/
def spTR (C : Addr) : Sp := fun vs H Q _ => ∃ (o : Addr) (r : Rw) (d : Nat), vs = [.ref o, .int d] ∧ RowAt C H o r ∧ RB r ∧ 1 ≤ d ∧ d ≤ 12 ∧ ∀ (H' : Hp) (x : Addr), Same H H' → RowAt C H' x (tailR r d) → Q (.ref x) H'
theorem scTR : FnScope ["row", "width", "times", "last"] ["row", "width"] (defScope sTR) := ⟨rfl, rfl, rfl, by decide +kernel, rfl, by decide +kernel, by decide +kernel⟩
/-- times > 0 and len(last) < 2 -/
def tWh : TT := fun σ H Q => ∃ (t : Nat) (p : Addr) (l : List Nat), σ[2]? = some (some (.int t)) ∧ σ[3]? = some (some (.ref p)) ∧ H p = some (.tup (nvs l)) ∧ Q (decide (0 < t ∧ l.length < 2)) H
/-- what falls -/
def mT (σ : L2.St) : Nat := match σ[2]? with
  | some (some (V.int t)) => t.toNat
  | _ => 0
theorem pull_stop {u l : List Nat} {t : Nat} (h : ¬ (0 < t ∧ l.length < 2)) : pull u t l = (t, l) := by
  cases t with
  | zero => rfl
  | succ t =>
    unfold pull
    rw [if_neg (fun z => h ⟨by omega, z⟩)]
theorem ok_tr (T : TxRw w K mg) : FnOk P w K mg base CX0 3 T.tr.f T.tr.fd ["row", "width"] (spTR T.C) := by
  have GI : FnOk P w K mg base CX0 1 T.fI T.fdI ["self", "unit", "times", "last"] (spRI T.C) := ok_ri T
  refine T.tr.F.ok scTR (fun vs H Q E h => ?_) (fun cdv A outer s H vs Q E hr h => ?_)
  · obtain ⟨o, r, d, rfl, _⟩ := h
    rfl
  · obtain ⟨o, r, d, rfl, hO, b, d1, d2, k⟩ := h
    refine ⟨_, (pss_cons (ps_par (i := 2) (j := 3) rfl scTR.nd rfl rfl (by decide) rfl rfl (pa_cons (pe_fld (pv 0) rfl) (pa_cons (pe_fld (pv 0) rfl) pa_nil)) (by rfl)) (pss_cons (ps_while PassesOwn.never (pt_imp (t' := tWh) (PW.pt (pw_and (pt_cmpR op_gt (pv 2) pe_int (nomark _)) (pw_and1 (pt_cmpR op_lt (pe_callB call_len_seq (by rfl) T.A.len PySem.boot_len (pa_cons (pv 3) pa_nil)) pe_int (nomark _))))) ?imp) (pss_cons (ps_aug (i := 2) scTR.nd rfl (.inl rfl) pe_int ip_sub) (pss_one (ps_set (i := 3) scTR.nd rfl (.inl rfl) (pe_op op_catH (pe_fld (pv 0) rfl) (pv 3)))))) (C8.pss_cut (ps_if (PW.pt (pw_and (pt_cmpR op_ge (pe_callB call_len_seq (by rfl) T.A.len PySem.boot_len (pa_cons (pv 3) pa_nil)) pe_int (nomark _)) (pw_and1 (pt_cmpR op_lt (pe_ix ix_tup (pv 3) (pe_un un_neg pe_int) (fun _ _ => rfl)) (pv 1) (nomark _))))) (pss_one (ps_set (i := 3) scTR.nd rfl (.inl rfl) (pe_op op_catH (pe_slice sl_tupH (pv 3) po_none (po_some (pe_un un_neg pe_int))) (pe_tup (pa_cons (pe_op op_add (pe_ix ix_tup (pv 3) (pe_un un_neg pe_int) (fun _ _ => rfl)) (pe_ix ix_tup (pv 3) (pe_un un_neg pe_int) (fun _ _ => rfl))) pa_nil))))) pss_nil) (pss_one (ps_ret (pe_make T.MI GI hr rfl T.gC T.bI .nil pass0 (pa_cons (pe_fld (pv 0) rfl) (pa_cons (pv 2) (pa_cons (pv 3) pa_nil))))))))), ?_⟩
    case imp =>
      rintro σ H1 Q1 ⟨t, p, l, h2, h3, hp, q⟩
      refine ⟨_, h2, _, _, rfl, rfl, _, rfl, ?_⟩
      by_cases c1 : 0 < t
      · rw [show decide (((t : Nat) : Int) > 0) = true from decide_eq_true (by omega)]
        refine iteT ⟨_, h3, p, _, rfl, .inr (SqT.of hp), _, _, rfl, rfl, _, rfl, ?_⟩
        rw [nvs_len]
        have : decide (((l.length : Nat) : Int) < 2) = decide (0 < t ∧ l.length < 2) := decide_eq_decide.mpr ⟨fun z => ⟨c1, by omega⟩, fun z => by omega⟩
        rw [this]
        exact q
      · rw [show decide (((t : Nat) : Int) > 0) = false from decide_eq_false (by omega)]
        rw [show decide (0 < t ∧ l.length < 2) = false from decide_eq_false (fun z => c1 z.1)] at q
        exact iteF q
    obtain ⟨dx, pu, pl, e, hu, hl⟩ := id hO
    have b2 := b.ul
    have b3 := b.ll
    refine ⟨_, rfl, o, T.C, dx, _, _, rfl, e, T.cl, T.nT, rf_t .., _, rfl, o, T.C, dx, _, _, rfl, e, T.cl, T.nL, rf_l .., _, _, rfl, ?_⟩
    refine while_by (fun σ H' => ∃ (t : Nat) (p : Addr) (l : List Nat), σ = [some (.ref o), some (.int d), some (.int t), some (.ref p)] ∧ Same H H' ∧ H' p = some (.tup (nvs l)) ∧ pull r.unit t l = pull r.unit r.times r.last ∧ l.length ≤ 156)
      (fun σ _ => mT σ) ⟨r.times, pl, r.last, rfl, Same.refl _, hl, rfl, b3⟩ ?_ ?_
    · rintro _ H' ⟨t, p, l, rfl, s', hp, hpu, hll⟩
      refine ⟨t, p, l, rfl, rfl, hp, ?_⟩
      by_cases c : 0 < t ∧ l.length < 2
      · rw [decide_eq_true c]
        refine iteT ?_
        obtain ⟨t, rfl⟩ : ∃ t', t = t' + 1 := ⟨t - 1, by omega⟩
        refine ⟨_, rfl, _, _, rfl, rfl, ?_⟩
        refine ⟨_, rfl, o, T.C, dx, _, _, rfl, s' _ _ e, T.cl, T.nU, rf_u .., _, rfl, pu, p, _, _, rfl, rfl, s' _ _ hu, hp, ?_, fun H2 q s2 hq => ?_⟩
        · rw [nvs_len, nvs_len]
          exact szl (by omega)
        rw [← nvs_app] at hq
        have et : (((t + 1 : Nat) : Int) - 1) = ((t : Nat) : Int) := by omega
        refine ⟨⟨t, q, r.unit ++ l, by rw [← et]; rfl, Same.trans s' s2, hq, ?_, by rw [List.length_append]; omega⟩, ?_⟩
        · rw [← hpu]
          show _ = (if l.length < 2 then pull r.unit t (r.unit ++ l) else (t + 1, l))
          rw [if_pos c.2]
        · show (((t + 1 : Nat) : Int) - 1).toNat < ((t + 1 : Nat) : Int).toNat
          omega
      · rw [decide_eq_false c]
        refine iteF ?_
        rw [pull_stop c] at hpu
        -- the rest
        have ht : (tailR r d) = ⟨r.unit, t, tailS l d⟩ := by
          unfold tailR
          rw [← hpu]
        rw [ht] at k
        refine ⟨fun σ H2 => ∃ q, σ = [some (.ref o), some (.int d), some (.int t), some (.ref q)] ∧ Same H H2 ∧ H2 q = some (.tup (nvs (tailS l d))), ?_, ?_⟩
        · refine ⟨_, rfl, p, _, rfl, .inr (SqT.of hp), _, _, rfl, rfl, _, rfl, ?_⟩
          rw [nvs_len]
          by_cases c2 : 2 ≤ l.length
          · rw [show decide (((l.length : Nat) : Int) ≥ 2) = true from decide_eq_true (by omega)]
            refine iteT ?_
            refine ⟨_, rfl, _, rfl, p, _, -1, _, rfl, rfl, SqT.of hp, neg_at (k := 1) (by decide) (by omega), _, rfl, _, _, rfl, rfl, _, rfl, ?_⟩
            by_cases c3 : l.getD (l.length - 1) 0 < d
            · rw [show decide (((l.getD (l.length - 1) 0 : Nat) : Int) < (d : Int)) = true from decide_eq_true (by omega)]
              refine iteT ?_
              have ets : tailS l d = l.take (l.length - 2) ++ [l.getD (l.length - 2) 0 + l.getD (l.length - 1) 0] := by unfold tailS; rw [if_pos ⟨c2, c3⟩]
              refine ⟨_, rfl, _, rfl, -2, rfl, p, _, rfl, hp, fun H2 q s2 hq => ?_⟩
              rw [show (some (-2 : Int)) = some (-((2 : Nat) : Int)) from rfl, cut_neg (k := 2) (by decide) c2] at hq
              have hp2 := s2 _ _ hp
              refine ⟨_, rfl, _, rfl, p, _, -2, _, rfl, rfl, SqT.of hp2, neg_at (k := 2) (by decide) c2, _, rfl, _, rfl, p, _, -1, _, rfl, rfl, SqT.of hp2, neg_at (k := 1) (by decide) (by omega), _, _, rfl, rfl, (by show 1 ≤ sizeLine; decide), fun z nz => ?_⟩
              refine ⟨q, z, _, _, rfl, rfl, same_new nz _ _ hq, upd_same, ?_, fun H4 y s4 hy => ?_⟩
              · rw [nvs_len, List.length_take]
                exact szl (by show _ + 1 ≤ 1000; omega)
              refine ⟨y, rfl, Same.trans s' (Same.trans s2 (Same.trans (same_new nz) s4)), ?_⟩
              rw [hy, ets, nvs_app]
              rfl
            · rw [show decide (((l.getD (l.length - 1) 0 : Nat) : Int) < (d : Int)) = false from decide_eq_false (by omega)]
              have ets : tailS l d = l := by unfold tailS; rw [if_neg (fun z => c3 z.2)]
              exact iteF ⟨p, rfl, s', by rw [ets]; exact hp⟩
          · rw [show decide (((l.length : Nat) : Int) ≥ 2) = false from decide_eq_false (by omega)]
            have ets : tailS l d = l := by unfold tailS; rw [if_neg (fun z => c2 z.1)]
            exact iteF (iteF ⟨p, rfl, s', by rw [ets]; exact hp⟩)
        rintro _ H2 ⟨q, rfl, s2, hq⟩
        refine ⟨_, rfl, o, T.C, dx, _, _, rfl, s2 _ _ e, T.cl, T.nU, rf_u .., _, rfl, _, rfl, ?_⟩
        refine fun x dx nx ndx nex => mk_row T (t := t) (s2 _ _ hu) hq nx ndx fun H3 s3 h3 => ?_
        exact k H3 x (Same.trans s2 s3) h3
    · rintro σ H1 Q1 Q2 f ⟨t, p, l, a, b, c, d⟩
      exact ⟨t, p, l, a, b, c, f _ _ d⟩
end
end My

/-! Chain.row_of -/
namespace My
open PySem L2 Cm LM CH
theorem inv_mono {k m : Nat} {r : Rw} (h : Inv k r) (l : k ≤ m) : Inv m r := ⟨h.pu, h.pl, h.f.imp id fun ⟨a, b, c⟩ => ⟨a, b, by omega⟩⟩
theorem apply_tot (c : Kd × Nat) (r : Rw) : (applyR c r).tot = r.tot := by
  rw [← sizes_sum, ← sizes_sum]
  unfold applyR
  split
  · rw [cut_sizes, chop_sum]
  · rw [fill_sizes, evenly_sum, sizes_sum]
  · rw [tail_sizes, tailS_sum]
theorem fold_inv : ∀ (cs : List (Kd × Nat)) (k : Nat) (r : Rw), (∀ c ∈ cs, Ct c) → Inv k r → Inv (k + cs.length) (cs.foldl (fun r c => applyR c r) r) ∧ (cs.foldl (fun r c => applyR c r) r).tot = r.tot
  | [], k, r, _, h => ⟨h, rfl⟩
  | c :: cs, k, r, hc, h => by
    have c1 := hc c (List.mem_cons_self ..)
    obtain ⟨a, b⟩ := fold_inv cs (k + 1) (applyR c r) (fun q hq => hc q (List.mem_cons_of_mem _ hq)) (inv_apply c1.1 c1.2 h)
    rw [List.length_cons, show k + (cs.length + 1) = k + 1 + cs.length by omega]
    exact ⟨a, by rw [List.foldl_cons, b, apply_tot]⟩
theorem whole_tot (n : Nat) : (wholeR n).tot = n := by rw [← sizes_sum]; exact wholeS_sum n
theorem rb_row {cs : List (Kd × Nat)} {n : Nat} (hc : ∀ c ∈ cs, Ct c) (hl : cs.length ≤ 6) (hn : n ≤ 1000000000000000000) : RB (rowOf cs n) := by
  obtain ⟨a, b⟩ := fold_inv cs 0 (wholeR n) hc (inv_whole n)
  refine ⟨inv_mono a (by omega), ?_⟩
  show (cs.foldl (fun r c => applyR c r) (wholeR n)).tot ≤ _
  rw [b, whole_tot]
  exact hn
section
variable {P : Program} {w : World} {K : PySem.W.Frag} {mg : Str → Option Value} {base : Heap}
def fdK (T : TxRw w K mg) : Kd → FuncData
  | .cut => T.cr.fd
  | .fill => T.fr.fd
  | .tail => T.tr.fd
def spK (C : Addr) : Kd → Sp
  | .cut => spCR C
  | .fill => spFR C
  | .tail => spTR C
theorem ok_kd (T : TxRw w K mg) (k : Kd) : FnOk P w K mg base CX0 4 (T.A.fk k) (fdK T k) ["row", "width"] (spK T.C k) := by
  cases k with
  | cut => rw [T.e1]; exact ok_cr T
  | fill => rw [T.e2]; exact (ok_fr T).mono (by decide)
  | tail => rw [T.e3]; exact (ok_tr T).mono (by decide)
def spRO (CA CR : Addr) : Sp := fun vs H Q _ => ∃ (o : Addr) (t : Str) (n : Nat), vs = [.ref o, .int n] ∧ ChainAt CA H o t ∧ goodC t = true ∧ n ≤ 1000000000000000000 ∧ ∀ (H' : Hp) (x : Addr), Same H H' → RowAt CR H' x (rowOf (cuttersOf t) n) → Q (.ref x) H'
theorem scRO : FnScope ["self", "items", "row", "word", "width", "cutter"] ["self", "items"] (defScope sRO) := ⟨rfl, rfl, rfl, by decide +kernel, rfl, by decide +kernel, by decide +kernel⟩
theorem ok_ro (T : TxRw w K mg) : FnOk P w K mg base CX0 5 T.ro.f T.ro.fd ["self", "items"] (spRO T.A.C T.C) := by
  have GW : FnOk P w K mg base CX0 3 T.wr.f T.wr.fd ["items"] (spWR T.C) := ok_wr T
  have GK : ∀ k, FnOk P w K mg base CX0 4 (T.A.fk k) (fdK T k) ["row", "width"] (spK T.C k) := ok_kd T
  have hk : ∀ k, PySem.W.keepIn K (.ref (T.A.fk k)) = true := fun k => by
    cases k with
    | cut => rw [T.e1]; exact T.cr.k
    | fill => rw [T.e2]; exact T.fr.k
    | tail => rw [T.e3]; exact T.tr.k
  have hb : ∀ k, Binds K (fdK T k) ["row", "width"] [] := fun k => by
    cases k with
    | cut => exact T.cr.b
    | fill => exact T.fr.b
    | tail => exact T.tr.b
  obtain ⟨es, nd, D⟩ := He.dicW_ok T.A.dw
  refine T.ro.F.ok scRO (fun vs H Q E h => ?_) (fun cdv A outer s H vs Q E hr h => ?_)
  · obtain ⟨o, t, n, rfl, _⟩ := h
    rfl
  · obtain ⟨o, t, n, rfl, hO, g, hn, k⟩ := h
    have hr3 : Room 3 _ := hr.mono (by decide)
    refine ⟨_, (pss_cons (ps_set (i := 2) scRO.nd rfl (.inl rfl) (pe_call GW hr3 rfl T.wr.g T.wr.k T.wr.b .nil pass0 (pa_cons (pv 1) pa_nil))) (pss_cons (ps_for PassesOwn.never rfl (pi_tup (pe_fld (pv 0) rfl)) (pg_tup rfl (pgs_cons (pg_name (i := 3) scRO.nd rfl (.inl rfl)) (pgs_cons (pg_name (i := 4) scRO.nd rfl (.inl rfl)) pgs_nil))) (pss_cons (ps_set (i := 5) scRO.nd rfl (.inl rfl) (pe_ix (RwR.ix_kd D) (pe_glob (v := .ref T.A.dC) rfl T.A.gD rfl) (pv 3) (fun _ _ => rfl))) (pss_one (ps_set (i := 2) scRO.nd rfl (.inl rfl) (RwR.pe_callI (i := 5) (E := E0) GK hr rfl (.inl rfl) hk hb pass0 (pa_cons (pv 2) (pa_cons (pv 4) pa_nil))))))) (pss_one (ps_ret (pv 2))))), ?_⟩
    obtain ⟨dx, p, vs, e, hp, hC⟩ := id hO
    have cl := cutters_len g
    refine ⟨_, rfl, n, rfl, fun H1 x1 s1 h1 => ?_⟩
    refine ⟨_, rfl, o, T.A.C, dx, _, _, rfl, s1 _ _ e, T.A.cl, T.A.nC, cf_cut .., p, rfl, ⟨_, SqT.of (s1 _ _ hp)⟩, ?_⟩
    refine for_tup (K := K) (a := p) (xs := vs) (fun i σ H' => ∃ x v3 v4 v5, σ = [some (.ref o), some (.int n), some (.ref x), v3, v4, v5] ∧ Same H H' ∧ RowAt T.C H' x (rowOf ((cuttersOf t).take i) n)) ⟨x1, none, none, none, rfl, s1, h1⟩ (fun i σ H' _ ⟨_, _, _, _, _, s', _⟩ => SqT.of (s' _ _ hp)) ?_ ?_
    · rintro i y σ H' hy ⟨x, v3, v4, v5, rfl, s', hx⟩
      obtain ⟨q, c, hc, rfl, hq⟩ := hC.get hy
      have cc := cutters_ct c (List.mem_of_getElem? hc)
      have rb : RB (rowOf ((cuttersOf t).take i) n) := rb_row (fun q hq => cutters_ct q (List.mem_of_mem_take hq)) (by rw [List.length_take]; omega) hn
      refine ⟨q, _, rfl, SqT.of (s' _ _ hq), rfl, _, _, rfl, _, _, rfl, rfl, ?_⟩
      refine ⟨_, rfl, kdS c.1, _, .ref (T.A.fk c.1), rfl, rfl, T.A.nk c.1, rfl, ?_⟩
      have enx : rowOf ((cuttersOf t).take (i + 1)) n = applyR c (rowOf ((cuttersOf t).take i) n) := by
        unfold rowOf
        rw [take_snoc hc, List.foldl_append]
        rfl
      have fin : ∀ (H2 : Hp) (z : Addr), Same H' H2 → RowAt T.C H2 z (applyR c (rowOf ((cuttersOf t).take i) n)) → ∃ x v3 v4 v5, ([some (.ref o), some (.int n), some (.ref z), some (.str (kdS c.1)), some (.int c.2), some (.ref (T.A.fk c.1))] : List (Option V)) = [some (.ref o), some (.int n), some (.ref x), v3, v4, v5] ∧ Same H H2 ∧ RowAt T.C H2 x (rowOf ((cuttersOf t).take (i + 1)) n) := fun H2 z s2 hz => ⟨z, _, _, _, rfl, Same.trans s' s2, by rw [enx]; exact hz⟩
      refine ⟨c.1, rfl, _, rfl, _, rfl, ?_⟩
      obtain ⟨kd, d⟩ := c
      cases kd with
      | cut => exact ⟨x, _, d, rfl, hx, rb, cc.1, cc.2, fin⟩
      | fill => exact ⟨x, _, d, rfl, hx, rb, cc.1, cc.2, fin⟩
      | tail => exact ⟨x, _, d, rfl, hx, rb, cc.1, cc.2, fin⟩
    · rintro σ H' ⟨x, v3, v4, v5, rfl, s', hx⟩
      have lv := hC.len
      rw [lv, List.take_length] at hx
      exact ⟨_, rfl, k H' x s' hx⟩
end
end My

/-! are_sizes, is_filled, widths_seen -/
namespace My
open PySem L2 Cm LM CH
abbrev sASz : Stmt := top 25
abbrev sIsF : Stmt := top 26
abbrev sWS : Stmt := top 27
abbrev sEPw : Stmt := inClass (top 5) 0
theorem scEPw : FnScope ["self", "value"] ["self", "value"] (defScope sEPw) := ⟨rfl, rfl, rfl, by decide +kernel, rfl, by decide +kernel, by decide +kernel⟩
theorem ok_epw {P : Program} {w : World} {K : PySem.W.Frag} {mg : Str → Option Value} {base : Heap} (T : TxEr K mg "InvalidPlace" "value" sEPw "InvalidPlace.__init__") : FnOk P w K mg base CX0 1 T.f T.fd ["self", "value"] (spER "value" T.C) := by
  refine T.F.ok scEPw (fun vs H Q E h => ?_) (fun cdv A outer s H vs Q E hr h => ?_)
  · obtain ⟨a, v, rfl, _⟩ := h
    rfl
  · obtain ⟨a, v, rfl, ha, k⟩ := h
    exact ⟨_, pss_one (ps_ost (pv 0) (pv 1)), _, rfl, _, rfl, a, T.C, rfl, T.o, T.n, .inl ⟨ha, fun dx n ne => k dx n ne⟩⟩
structure TxW (w : World) (K : PySem.W.Frag) (mg : Str → Option Value) where
  I : TxI K mg
  tuple : mg "tuple" = none
  len : mg "len" = none
  all : mg "all" = none
  range : mg "range" = none
  mi : ∃ t, mg "MOST_ITEMS" = some (.int 1000 t)
  ms : ∃ t, mg "MOST_SIZES" = some (.int 100 t)
  mw : ∃ t, mg "MOST_WIDTH" = some (.int 12 t)
  asz : Df K mg "are_sizes" sASz ["value"]
  isf : Df K mg "is_filled" sIsF ["sizes", "width"]
  ws : Df K mg "widths_seen" sWS ["sizes"]
  eP : TxEr K mg "InvalidPlace" "value" sEPw "InvalidPlace.__init__"
section
variable {P : Program} {w : World} {K : PySem.W.Frag} {mg : Str → Option Value} {base : Heap}
/-! ### are_sizes -/
def okSz (xs : List V) : Bool := xs.all fun x => btw 1 1000 x
def spASz (K : PySem.W.Frag) : Sp := fun vs H Q _ => ∃ v : V, vs = [v] ∧
  ((∃ ty, TyX K H v ty ∧ PySem.W.kitOne K ty (.type "tuple") = some false ∧ Q (.bl false) H) ∨
   ∃ (a : Addr) (xs : List V) (ty : Value), v = .ref a ∧ H a = some (.tup xs) ∧ TyX K H v ty ∧ PySem.W.kitOne K ty (.type "tuple") = some true ∧
    ((100 < xs.length ∧ Q (.bl false) H) ∨ (xs.length ≤ 100 ∧ (∀ x ∈ xs, TypedI K H x) ∧ ∀ H', Same H H' → Q (.bl (okSz xs)) H')))
theorem scASz : FnScope ["value", "size"] ["value"] (defScope sASz) := ⟨rfl, rfl, rfl, by decide +kernel, rfl, by decide +kernel, by decide +kernel⟩
/-- is_integer_between(size, 1, MOST_ITEMS) -/
def tSz (K : PySem.W.Frag) : TE := fun σ H Q => ∃ x : V, σ[1]? = some (some x) ∧ TypedI K H x ∧ Q (.bl (btw 1 1000 x)) H
theorem ok_asz (T : TxW w K mg) : FnOk P w K mg base CX0 2 T.asz.f T.asz.fd ["value"] (spASz K) := by
  have GI : FnOk P w K mg base CX0 1 T.I.iib.f T.I.iib.fd ["value", "low", "high"] (spIIB K) := ok_iib T.I
  obtain ⟨ti, mi⟩ := T.mi
  obtain ⟨ts, ms⟩ := T.ms
  refine T.asz.F.ok scASz (fun vs H Q E h => ?_) (fun cdv A outer s H vs Q E hr h => ?_)
  · obtain ⟨v, rfl, _⟩ := h
    rfl
  · obtain ⟨v, rfl, hh⟩ := h
    refine ⟨_, (pss_cons (ps_if (PW.pt (pw_or (pt_not (pt_val (pe_callB call_isi (by rfl) T.I.isi (by decide +kernel) (pa_cons (pv 0) (pa_cons (pe_bltn (v := .ty "tuple") (by rfl) T.tuple (by decide +kernel) rfl) pa_nil))))) (pw_or1 (pt_cmpR op_gt (pe_callB call_len_seq (by rfl) T.len PySem.boot_len (pa_cons (pv 0) pa_nil)) (pe_glob (v := .int 100) rfl ms ⟨_, rfl⟩) (nomark _))))) (pss_one (ps_ret pe_bl)) pss_nil) (pss_one (ps_ret (pe_callB (cr_all rfl) (by rfl) T.all (by decide +kernel) (pa_cons (pe_lc (own := [("size", 1)]) (g := gName 1) (tt := tYes) (te := tSz K) rfl scASz.nd (pi_tup (pv 0)) (blkOk_by (own := [("size", 1)]) (N := ["value", "size"]) (sc := defScope sASz) (by decide +kernel)) (fun _ _ _ _ _ => pg_name (i := 1) scASz.nd rfl (Or.inl rfl)) (fun _ _ _ _ _ => pts_nil) (fun _ _ _ _ _ => by exact pe_imp (t' := tSz K) (pe_call GI hr rfl T.I.iib.g T.I.iib.k T.I.iib.b .nil pass0 (pa_cons (pv 1) (pa_cons pe_int (pa_cons (pe_glob (v := .int 1000) rfl mi ⟨_, rfl⟩) pa_nil)))) (fun σ H1 Q1 ⟨x, h1, ht, k⟩ => ⟨_, h1, _, _, _, rfl, ht, k⟩))) pa_nil))))), ?_⟩
    rcases hh with ⟨ty, hty, kt, k⟩ | ⟨a, xs, ty, rfl, ha, hty, kt, hh⟩
    · exact ⟨_, rfl, _, _, _, _, false, rfl, .ty "tuple", hty, kt, false, rfl, iteT (iteT k)⟩
    refine ⟨_, rfl, _, _, _, _, true, rfl, .ty "tuple", hty, kt, true, rfl, iteF ?_⟩
    refine ⟨_, rfl, a, _, rfl, .inr (SqT.of ha), _, _, rfl, rfl, _, rfl, ?_⟩
    rcases hh with ⟨hl, k⟩ | ⟨hl, ht, k⟩
    · rw [show decide (((xs.length : Nat) : Int) > 100) = true from decide_eq_true (by omega)]
      exact iteT k
    rw [show decide (((xs.length : Nat) : Int) > 100) = false from decide_eq_false (by omega)]
    refine iteF ⟨_, rfl, a, rfl, ⟨_, SqT.of ha⟩, fun D nD => lc_tup (K := K) (a := a) (xs := xs) (fun i H' => Same H H' ∧ H' D = some (.lst (((xs.take i).map fun x => btw 1 1000 x).map V.bl))) ⟨same_new nD, upd_same⟩ (fun i H' _ ⟨s', _⟩ => SqT.of (s' _ _ ha)) ?_ ?_⟩
    · rintro i y H' hy ⟨s', hD⟩
      refine ⟨rfl, y, rfl, (ht y (List.mem_of_getElem? hy)).same s', _, hD, szM (by rw [List.length_map, List.length_map, List.length_take]; omega), fun b o z => ?_, ?_⟩
      · rw [upd_ne (ne_of_none z nD)]
        exact s' _ _ z
      · rw [upd_same, take_snoc hy, List.map_append, List.map_append]
        rfl
    · rintro H' ⟨s', hD⟩
      rw [List.take_length] at hD
      refine ⟨D, _, rfl, SqL.of hD, ?_⟩
      rw [List.all_map]
      exact k H' s'
/-! ### is_filled -/
theorem cut_init (xs : List Nat) : cutV (nvs xs) none (some (-1)) = nvs xs.dropLast := by
  rcases Nat.eq_zero_or_pos xs.length with z | z
  · rw [List.eq_nil_of_length_eq_zero z]
    rfl
  · rw [show (-1 : Int) = -((1 : Nat) : Int) from rfl, cut_neg (k := 1) (by decide) z, List.dropLast_eq_take]
theorem cut_lst (xs : List Nat) : cutV (nvs xs) (some (-1)) none = nvs (xs.drop (xs.length - 1)) := by
  unfold cutV
  rw [HT.sIx_none]
  have : HT.sIx (nvs xs).length 0 (some (-1)) = xs.length - 1 := by
    show (if (-1 : Int) < 0 then ((-1 : Int) + ((nvs xs).length : Int)).toNat else min (-1 : Int).toNat (nvs xs).length) = _
    rw [if_pos (by omega), nvs_len]
    omega
  rw [this, nvs_len]
  rw [show (nvs xs).drop (xs.length - 1) = nvs (xs.drop (xs.length - 1)) by simp [nvs, List.map_drop]]
  rw [List.take_of_length_le (by rw [nvs_len, List.length_drop]; omega)]
def spIsF : Sp := fun vs H Q _ => ∃ (a : Addr) (xs : List Nat) (n : Nat), vs = [.ref a, .int n] ∧ H a = some (.tup (nvs xs)) ∧ xs.length ≤ 1000 ∧ ∀ H', Same H H' → Q (.bl (filled xs n)) H'
theorem scIsF : FnScope ["sizes", "width", "size"] ["sizes", "width"] (defScope sIsF) := ⟨rfl, rfl, rfl, by decide +kernel, rfl, by decide +kernel, by decide +kernel⟩
theorem ok_isf (T : TxW w K mg) : FnOk P w K mg base CX0 1 T.isf.f T.isf.fd ["sizes", "width"] spIsF := by
  refine T.isf.F.ok scIsF (fun vs H Q E h => ?_) (fun cdv A outer s H vs Q E hr h => ?_)
  · obtain ⟨a, xs, n, rfl, _⟩ := h
    rfl
  · obtain ⟨a, xs, n, rfl, ha, hl, k⟩ := h
    refine ⟨_, (pss_one (ps_ret (pe_and (pe_callB (cr_all rfl) (by rfl) T.all (by decide +kernel) (pa_cons (pe_lc (own := [("size", 2)]) (g := gName 2) (tt := tYes) rfl scIsF.nd (pi_tup (pe_slice sl_tupH (pv 0) po_none (po_some (pe_un un_neg pe_int)))) (blkOk_by (own := [("size", 2)]) (N := ["sizes", "width", "size"]) (sc := defScope sIsF) (by decide +kernel)) (fun _ _ _ _ _ => pg_name (i := 2) scIsF.nd rfl (Or.inl rfl)) (fun _ _ _ _ _ => pts_nil) (fun _ _ _ _ _ => (pe_cmpR op_eq (pv 2) (pv 1) (nomark _)))) pa_nil)) (pe_one (pe_callB (cr_all rfl) (by rfl) T.all (by decide +kernel) (pa_cons (pe_lc (own := [("size", 2)]) (g := gName 2) (tt := tYes) rfl scIsF.nd (pi_tup (pe_slice sl_tupH (pv 0) (po_some (pe_un un_neg pe_int)) po_none)) (blkOk_by (own := [("size", 2)]) (N := ["sizes", "width", "size"]) (sc := defScope sIsF) (by decide +kernel)) (fun _ _ _ _ _ => pg_name (i := 2) scIsF.nd rfl (Or.inl rfl)) (fun _ _ _ _ _ => pts_nil) (fun _ _ _ _ _ => (pe_cmpR op_le (pv 2) (pv 1) (nomark _)))) pa_nil)))))), ?_⟩
    refine ⟨_, rfl, _, rfl, _, rfl, a, _, rfl, ha, fun H1 q s1 hq => ?_⟩
    rw [cut_init] at hq
    refine ⟨q, rfl, ⟨_, SqT.of hq⟩, fun D nD => lc_tup (K := K) (a := q) (xs := nvs xs.dropLast) (fun i H' => Same H1 H' ∧ H' D = some (.lst (((xs.dropLast.take i).map fun x => decide (x = n)).map V.bl))) ⟨same_new nD, upd_same⟩ (fun i H' _ ⟨s', _⟩ => SqT.of (s' _ _ hq)) ?_ ?_⟩
    · rintro i y H' hy ⟨s', hD⟩
      obtain ⟨m, hm, rfl⟩ := nvs_get hy
      refine ⟨rfl, _, rfl, _, rfl, rfl, _, hD, szM (by rw [List.length_map, List.length_map, List.length_take, List.length_dropLast]; omega), fun b o z => ?_, ?_⟩
      · rw [upd_ne (ne_of_none z nD)]
        exact s' _ _ z
      · rw [upd_same, take_snoc hm, List.map_append, List.map_append]
        have e : decide (V.int ((m : Nat) : Int) = V.int ((n : Nat) : Int)) = decide (m = n) := decide_eq_decide.mpr ⟨fun h => by have := V.int.inj h; omega, fun h => by rw [h]⟩
        rw [e]
        rfl
    rintro H2 ⟨s2, hD⟩
    rw [nvs_len, List.take_length] at hD
    refine ⟨D, _, rfl, SqL.of hD, _, rfl, ?_⟩
    rw [List.all_map]
    have ef : filled xs n = ((xs.dropLast.all fun x => decide (x = n)) && ((xs.drop (xs.length - 1)).all fun x => decide (x ≤ n))) := rfl
    rw [ef] at k
    have ei : (xs.dropLast.all (id ∘ fun x => decide (x = n))) = (xs.dropLast.all fun x => decide (x = n)) := rfl
    rw [ei]
    cases hc : (xs.dropLast.all fun x => decide (x = n)) with
    | false =>
      rw [hc, Bool.false_and] at k
      exact iteF (k H2 (Same.trans s1 s2))
    | true =>
      rw [hc, Bool.true_and] at k
      refine iteT ?_
      have s12 := Same.trans s1 s2
      refine ⟨_, rfl, _, rfl, _, rfl, a, _, rfl, s12 _ _ ha, fun H3 r s3 hr3 => ?_⟩
      rw [cut_lst] at hr3
      refine ⟨r, rfl, ⟨_, SqT.of hr3⟩, fun D2 nD2 => lc_tup (K := K) (a := r) (xs := nvs (xs.drop (xs.length - 1))) (fun i H' => Same H3 H' ∧ H' D2 = some (.lst ((((xs.drop (xs.length - 1)).take i).map fun x => decide (x ≤ n)).map V.bl))) ⟨same_new nD2, upd_same⟩ (fun i H' _ ⟨s', _⟩ => SqT.of (s' _ _ hr3)) ?_ ?_⟩
      · rintro i y H' hy ⟨s', hD⟩
        obtain ⟨m, hm, rfl⟩ := nvs_get hy
        refine ⟨rfl, _, rfl, _, rfl, _, _, rfl, rfl, _, hD, szM (by rw [List.length_map, List.length_map, List.length_take, List.length_drop]; omega), fun b o z => ?_, ?_⟩
        · rw [upd_ne (ne_of_none z nD2)]
          exact s' _ _ z
        · rw [upd_same, take_snoc hm, List.map_append, List.map_append]
          have e : decide (((m : Nat) : Int) ≤ ((n : Nat) : Int)) = decide (m ≤ n) := decide_eq_decide.mpr ⟨fun h => by omega, fun h => by omega⟩
          show some (HO.lst (_ ++ [V.bl (decide (((m : Nat) : Int) ≤ ((n : Nat) : Int)))])) = _
          rw [e]
          rfl
      rintro H4 ⟨s4, hD4⟩
      rw [nvs_len, List.take_length] at hD4
      refine ⟨D2, _, rfl, SqL.of hD4, ?_⟩
      rw [List.all_map]
      exact k H4 (Same.trans s12 (Same.trans s3 s4))
/-! ### widths_seen -/
/-- the widths from 1 to 12 that the sizes allow -/
def widthsOf (xs : List Nat) : List Nat := (List.range' 1 12).filter fun n => filled xs n
/-- no sizes -/
def BadSz (K : PySem.W.Frag) (H : Hp) (v : V) : Prop := (∃ ty, TyX K H v ty ∧ PySem.W.kitOne K ty (.type "tuple") = some false) ∨
  ∃ (a : Addr) (xs : List V) (ty : Value), v = .ref a ∧ H a = some (.tup xs) ∧ TyX K H v ty ∧ PySem.W.kitOne K ty (.type "tuple") = some true ∧ (100 < xs.length ∨ (xs.length ≤ 100 ∧ (∀ x ∈ xs, TypedI K H x) ∧ okSz xs = false))
def spWS (K : PySem.W.Frag) (CE : Addr) : Sp := fun vs H Q E => ∃ v : V, vs = [v] ∧
  ((BadSz K H v ∧ ∀ (H' : Hp) (d : Addr), Same H H' → H' d = none → E (.ref CE) (some d) (upd H' d (.xd [("value", v)]))) ∨
   ∃ (a : Addr) (xs : List Nat) (ty : Value), v = .ref a ∧ H a = some (.tup (nvs xs)) ∧ TyX K H v ty ∧ PySem.W.kitOne K ty (.type "tuple") = some true ∧ xs.length ≤ 100 ∧ (∀ x ∈ xs, 1 ≤ x ∧ x ≤ 1000) ∧
    ∀ (H' : Hp) (q : Addr), Same H H' → H' q = some (.tup (nvs (widthsOf xs))) → Q (.ref q) H')
theorem scWS : FnScope ["sizes", "width"] ["sizes"] (defScope sWS) := ⟨rfl, rfl, rfl, by decide +kernel, rfl, by decide +kernel, by decide +kernel⟩
/-- is_filled(sizes, width) -/
def tFil : TT := fun σ H Q => ∃ (a : Addr) (xs : List Nat) (n : Nat), σ[0]? = some (some (.ref a)) ∧ σ[1]? = some (some (.int (n : Nat))) ∧ H a = some (.tup (nvs xs)) ∧ xs.length ≤ 1000 ∧ ∀ H', Same H H' → Q (filled xs n) H'
theorem okSz_nat {xs : List Nat} (h : ∀ x ∈ xs, 1 ≤ x ∧ x ≤ 1000) : okSz (nvs xs) = true := by
  unfold okSz
  rw [List.all_eq_true]
  intro v hv
  obtain ⟨i, hi⟩ := List.getElem?_of_mem hv
  obtain ⟨m, hm, rfl⟩ := nvs_get hi
  have := h m (List.mem_of_getElem? hm)
  show decide ((1 : Int) ≤ (m : Int) ∧ (m : Int) ≤ 1000) = true
  exact decide_eq_true ⟨by omega, by omega⟩
theorem ok_ws (T : TxW w K mg) : FnOk P w K mg base (L2.CX P w) 3 T.ws.f T.ws.fd ["sizes"] (spWS K T.eP.C) := by
  have GA : FnOk P w K mg base CX0 2 T.asz.f T.asz.fd ["value"] (spASz K) := ok_asz T
  have GF : FnOk P w K mg base CX0 1 T.isf.f T.isf.fd ["sizes", "width"] spIsF := ok_isf T
  have GE : FnOk P w K mg base CX0 1 T.eP.f T.eP.fd ["self", "value"] (spER "value" T.eP.C) := ok_epw T.eP
  obtain ⟨tw, mw⟩ := T.mw
  refine T.ws.F.okX scWS (fun vs H Q E h => ?_) (fun cdv A outer s H vs Q E hr h => ?_)
  · obtain ⟨v, rfl, _⟩ := h
    rfl
  · obtain ⟨v, rfl, hh⟩ := h
    have hr1 : Room 1 _ := hr.mono (by decide)
    refine ⟨_, (pss_cons (ps_if (pt_not (pt_val (pe_call GA hr rfl T.asz.g T.asz.k T.asz.b .nil pass0 (pa_cons (pv 0) pa_nil)))) (pss_one (ps_raise rfl (takes_of rfl rfl rfl rfl) (pmk_oex T.eP.o T.eP.i T.eP.t GE hr T.eP.b .nil pass0 rfl T.eP.g (pa_cons (pv 0) pa_nil)))) pss_nil) (pss_one (ps_ret (pe_callTy call_tuple_of (by rfl) T.tuple (by decide +kernel) (pa_cons (pe_lc (own := [("width", 1)]) (g := gName 1) (tt := tFil) (te := tVar 1) rfl scWS.nd (pi_range2 rfl T.range (pa_cons pe_int (pa_cons (pe_op op_add (pe_glob (v := .int 12) rfl mw ⟨_, rfl⟩) pe_int) pa_nil))) (blkOk_by (own := [("width", 1)]) (N := ["sizes", "width"]) (sc := defScope sWS) (by decide +kernel)) (fun _ _ _ _ _ => pg_name (i := 1) scWS.nd rfl (Or.inl rfl)) (fun _ _ _ _ _ => pts_one (by exact pt_imp (t' := tFil) (pt_val (pe_call GF hr1 rfl T.isf.g T.isf.k T.isf.b .nil pass0 (pa_cons (pv 0) (pa_cons (pv 1) pa_nil)))) (fun σ H1 Q1 ⟨a, xs, n, h0, h1, ha, hl, k⟩ => ⟨_, h0, _, h1, a, xs, n, rfl, ha, hl, fun H2 s2 => ⟨_, rfl, k H2 s2⟩⟩))) (fun _ _ _ _ _ => pv 1)) pa_nil))))), ?_⟩
    rcases hh with ⟨hb, kE⟩ | ⟨a, xs, ty, rfl, ha, hty, kt, hl, hx, k⟩
    · rcases hb with ⟨ty, hty, kt⟩ | ⟨a, xs, ty, rfl, ha, hty, kt, hh⟩
      · refine ⟨_, rfl, v, rfl, .inl ⟨ty, hty, kt, _, rfl, iteT ?_⟩⟩
        exact mk_er (x := v) ⟨v, rfl, rfl, rfl⟩ (fun {R R'} ⟨v, e1, q⟩ f => ⟨v, e1, f _ _ q⟩) (fun d nd => kE H d (Same.refl _) nd)
      rcases hh with hl | ⟨hl, ht, ho⟩
      · refine ⟨_, rfl, .ref a, rfl, .inr ⟨a, xs, ty, rfl, ha, hty, kt, .inl ⟨hl, _, rfl, iteT ?_⟩⟩⟩
        exact mk_er (x := .ref a) ⟨_, rfl, rfl, rfl⟩ (fun {R R'} ⟨v, e1, q⟩ f => ⟨v, e1, f _ _ q⟩) (fun d nd => kE H d (Same.refl _) nd)
      · refine ⟨_, rfl, .ref a, rfl, .inr ⟨a, xs, ty, rfl, ha, hty, kt, .inr ⟨hl, ht, fun H1 s1 => ⟨_, rfl, ?_⟩⟩⟩⟩
        rw [ho]
        refine iteT ?_
        exact mk_er (x := .ref a) ⟨_, rfl, rfl, rfl⟩ (fun {R R'} ⟨v, e1, q⟩ f => ⟨v, e1, f _ _ q⟩) (fun d nd => kE H1 d s1 nd)
    refine ⟨_, rfl, .ref a, rfl, .inr ⟨a, nvs xs, ty, rfl, ha, hty, kt, .inr ⟨by rw [nvs_len]; exact hl, fun x h => ?_, fun H1 s1 => ⟨_, rfl, ?_⟩⟩⟩⟩
    · obtain ⟨i, hi⟩ := List.getElem?_of_mem h
      obtain ⟨m, _, rfl⟩ := nvs_get hi
      exact typed_int _
    rw [okSz_nat hx]
    refine iteF ?_
    have ha1 := s1 _ _ ha
    refine ⟨_, _, rfl, rfl, (1 : Int), (12 : Int) + 1, rfl, ⟨by decide, by decide, by decide, by decide⟩, fun D nD => ?_⟩
    refine lc_range (lo := 1) (n := 12) (fun i H' => Same H1 H' ∧ H' D = some (.lst (nvs ((List.range' 1 i).filter fun n => filled xs n)))) ⟨same_new nD, upd_same⟩ ?_ ?_
    · rintro i H' hi ⟨s', hD⟩
      have e1 : (1 : Int) + (i : Int) = ((1 + i : Nat) : Int) := by omega
      refine ⟨rfl, a, xs, 1 + i, rfl, by rw [e1]; rfl, s' _ _ ha1, by omega, fun H2 s2 => ?_⟩
      have er : List.range' 1 (i + 1) = List.range' 1 i ++ [1 + i] := by rw [List.range'_concat, Nat.one_mul]
      have ll : ((List.range' 1 i).filter fun n => filled xs n).length ≤ i := Nat.le_trans (List.length_filter_le ..) (by rw [List.length_range']; exact Nat.le_refl _)
      cases hf : filled xs (1 + i) with
      | true =>
        refine iteT ⟨_, rfl, _, s2 _ _ hD, szM (by rw [nvs_len]; omega), fun b o z => ?_, ?_⟩
        · rw [upd_ne (ne_of_none z nD)]
          exact s2 _ _ (s' _ _ z)
        · rw [upd_same, er, List.filter_append, List.filter_cons_of_pos (by exact hf), nvs_app, e1]
          rfl
      | false =>
        refine iteF ⟨Same.trans s' s2, ?_⟩
        rw [s2 _ _ hD, er, List.filter_append, List.filter_cons_of_neg (by rw [hf]; decide), List.filter_nil, List.append_nil]
    · rintro H' ⟨s', hD⟩
      refine ⟨D, _, rfl, .inl ⟨SqL.of hD, fun q nq => k _ q (Same.trans s1 (Same.trans s' (same_new nq))) upd_same⟩⟩
end
end My

/-! piece_at, Chain.number, piece (PRp and PRp2 without the places) -/
namespace My
open PySem L2 Cm LM CH
abbrev sEIt : Stmt := inClass (top 4) 0
theorem scEIt : FnScope ["self", "value"] ["self", "value"] (defScope sEIt) := ⟨rfl, rfl, rfl, by decide +kernel, rfl, by decide +kernel, by decide +kernel⟩
theorem ok_eit {P : Program} {w : World} {K : PySem.W.Frag} {mg : Str → Option Value} {base : Heap} (T : TxEr K mg "InvalidItems" "value" sEIt "InvalidItems.__init__") : FnOk P w K mg base CX0 1 T.f T.fd ["self", "value"] (spER "value" T.C) := by
  refine T.F.ok scEIt (fun vs H Q E h => ?_) (fun cdv A outer s H vs Q E hr h => ?_)
  · obtain ⟨a, v, rfl, _⟩ := h
    rfl
  · obtain ⟨a, v, rfl, ha, k⟩ := h
    exact ⟨_, pss_one (ps_ost (pv 0) (pv 1)), _, rfl, _, rfl, a, T.C, rfl, T.o, T.n, .inl ⟨ha, fun dx n ne => k dx n ne⟩⟩
abbrev sEPl : Stmt := inClass (top 5) 0
theorem scEPl : FnScope ["self", "value"] ["self", "value"] (defScope sEPl) := ⟨rfl, rfl, rfl, by decide +kernel, rfl, by decide +kernel, by decide +kernel⟩
theorem ok_epl {P : Program} {w : World} {K : PySem.W.Frag} {mg : Str → Option Value} {base : Heap} (T : TxEr K mg "InvalidPlace" "value" sEPl "InvalidPlace.__init__") : FnOk P w K mg base CX0 1 T.f T.fd ["self", "value"] (spER "value" T.C) := by
  refine T.F.ok scEPl (fun vs H Q E h => ?_) (fun cdv A outer s H vs Q E hr h => ?_)
  · obtain ⟨a, v, rfl, _⟩ := h
    rfl
  · obtain ⟨a, v, rfl, ha, k⟩ := h
    exact ⟨_, pss_one (ps_ost (pv 0) (pv 1)), _, rfl, _, rfl, a, T.C, rfl, T.o, T.n, .inl ⟨ha, fun dx n ne => k dx n ne⟩⟩
abbrev sPA : Stmt := inClass (top 12) 3
abbrev sCCI : Stmt := top 23
abbrev sAN : Stmt := inClass (top 24) 4
abbrev sAP : Stmt := inClass (top 24) 5
structure TxP (w : World) (K : PySem.W.Frag) (mg : Str → Option Value) where
  R : TxRw w K mg
  I : TxI K mg
  divmod : mg "divmod" = none
  mci : ∃ t, mg "MOST_CHAIN_ITEMS" = some (.int 999999999999999999 t)
  eI : TxEr K mg "InvalidItems" "value" sEIt "InvalidItems.__init__"
  eP : TxEr K mg "InvalidPlace" "value" sEPl "InvalidPlace.__init__"
  pa : Mt K R.C "piece_at" "Row.piece_at" sPA ["self", "place"]
  cci : Df K mg "check_chain_items" sCCI ["items"]
  an : Mt K R.A.C "number" "Chain.number" sAN ["self", "items"]
  ap : Mt K R.A.C "piece" "Chain.piece" sAP ["self", "items", "place"]
section
variable {P : Program} {w : World} {K : PySem.W.Frag} {mg : Str → Option Value} {base : Heap}
/-! ### piece_at -/
/-- a pair of counts -/
def NPair (H : Hp) (q : Addr) (x : Nat × Nat) : Prop := H q = some (.tup [.int (x.1 : Nat), .int (x.2 : Nat)])
def spPA (C : Addr) : Sp := fun vs H Q _ => ∃ (o : Addr) (r : Rw) (p : Nat), vs = [.ref o, .int p] ∧ RowAt C H o r ∧ RB r ∧ p < r.many ∧ ∀ (H' : Hp) (q : Addr), Same H H' → NPair H' q (pieceR r p) → Q (.ref q) H'
theorem scPA : FnScope ["self", "place", "inside", "turn"] ["self", "place"] (defScope sPA) := ⟨rfl, rfl, rfl, by decide +kernel, rfl, by decide +kernel, by decide +kernel⟩
theorem cut_nat (xs : List Nat) (k : Nat) (h : k ≤ xs.length) : cutV (nvs xs) none (some (k : Int)) = nvs (xs.take k) := by rw [cut_to _ _ (by rw [nvs_len]; exact h), nvs_take]
theorem ok_pa (T : TxP w K mg) : FnOk P w K mg base CX0 1 T.pa.f T.pa.fd ["self", "place"] (spPA T.R.C) := by
  refine T.pa.F.ok scPA (fun vs H Q E h => ?_) (fun cdv A outer s H vs Q E hr h => ?_)
  · obtain ⟨o, r, p, rfl, _⟩ := h
    rfl
  · obtain ⟨o, r, p, rfl, ⟨dx, pu, pl, e, hu, hl⟩, b, hp, k⟩ := h
    refine ⟨_, (pss_cons (ps_set (i := 2) scPA.nd rfl (.inl rfl) (pe_op op_mul (pe_fld (pv 0) rfl) (pe_callB call_len_seq (by rfl) T.R.A.len PySem.boot_len (pa_cons (pe_fld (pv 0) rfl) pa_nil)))) (pss_cons (ps_if (pt_cmpR op_lt (pv 1) (pv 2) (nomark _)) (pss_cons (ps_asg (pe_callB call_divmod (by rfl) T.divmod (by decide +kernel) (pa_cons (pv 1) (pa_cons (pe_callB call_len_seq (by rfl) T.R.A.len PySem.boot_len (pa_cons (pe_fld (pv 0) rfl) pa_nil)) pa_nil))) (pg_tup rfl (pgs_cons (pg_name (i := 3) scPA.nd rfl (.inl rfl)) (pgs_cons (pg_name (i := 1) scPA.nd rfl (.inl rfl)) pgs_nil)))) (pss_one (ps_ret (pe_tup (pa_cons (pe_op op_add (pe_op op_mul (pv 3) (pe_callB (RwR.cr_sumT rfl) (by rfl) T.R.sum (by decide +kernel) (pa_cons (pe_fld (pv 0) rfl) pa_nil))) (pe_callB (RwR.cr_sumT rfl) (by rfl) T.R.sum (by decide +kernel) (pa_cons (pe_slice sl_tupH (pe_fld (pv 0) rfl) po_none (po_some (pv 1))) pa_nil))) (pa_cons (pe_ix ix_tup (pe_fld (pv 0) rfl) (pv 1) (fun _ _ => rfl)) pa_nil)))))) pss_nil) (pss_cons (ps_aug (i := 1) scPA.nd rfl (.inl rfl) (pv 2) ip_sub) (pss_one (ps_ret (pe_tup (pa_cons (pe_op op_add (pe_op op_mul (pe_fld (pv 0) rfl) (pe_callB (RwR.cr_sumT rfl) (by rfl) T.R.sum (by decide +kernel) (pa_cons (pe_fld (pv 0) rfl) pa_nil))) (pe_callB (RwR.cr_sumT rfl) (by rfl) T.R.sum (by decide +kernel) (pa_cons (pe_slice sl_tupH (pe_fld (pv 0) rfl) po_none (po_some (pv 1))) pa_nil))) (pa_cons (pe_ix ix_tup (pe_fld (pv 0) rfl) (pv 1) (fun _ _ => rfl)) pa_nil)))))))), ?_⟩
    have b1 := b.us
    have b2 := b.ul
    have b3 := b.tt
    have b4 := b.t
    refine ⟨_, rfl, o, T.R.C, dx, _, _, rfl, e, T.R.cl, T.R.nT, rf_t .., _, rfl, o, T.R.C, dx, _, _, rfl, e, T.R.cl, T.R.nU, rf_u .., pu, _, rfl, .inr (SqT.of hu), _, _, rfl, rfl, .inr (by rw [nvs_len]; omega), ?_⟩
    have ei : (r.times : Int) * ((nvs r.unit).length : Int) = ((r.times * r.unit.length : Nat) : Int) := by rw [nvs_len, Int.natCast_mul]
    simp only [ei]
    refine ⟨_, rfl, _, rfl, _, _, rfl, rfl, _, rfl, ?_⟩
    unfold pieceR at k
    by_cases c : p < r.times * r.unit.length
    · rw [if_pos c] at k
      rw [show decide (((p : Nat) : Int) < ((r.times * r.unit.length : Nat) : Int)) = true from decide_eq_true (by omega)]
      refine iteT ?_
      have l1 : 1 ≤ r.unit.length := by
        rcases Nat.eq_zero_or_pos r.unit.length with z | z
        · rw [z] at c; omega
        · exact z
      refine ⟨_, rfl, _, rfl, o, T.R.C, dx, _, _, rfl, e, T.R.cl, T.R.nU, rf_u .., pu, _, rfl, .inr (SqT.of hu), p, _, rfl, ⟨by rw [nvs_len]; omega, by rw [nvs_len]; omega⟩, fun q nq => ?_⟩
      have s1 := same_new (o := .tup [.int ((p : Int) / ((nvs r.unit).length : Int)), .int ((p : Int) % ((nvs r.unit).length : Int))]) nq
      refine ⟨q, _, rfl, SqT.of upd_same, rfl, _, _, rfl, _, _, rfl, rfl, ?_⟩
      have e1 : (p : Int) / ((nvs r.unit).length : Int) = ((p / r.unit.length : Nat) : Int) := by rw [nvs_len, Int.natCast_ediv]
      have e2 : (p : Int) % ((nvs r.unit).length : Int) = ((p % r.unit.length : Nat) : Int) := by rw [nvs_len, Int.natCast_emod]
      simp only [e1, e2] at s1 ⊢
      have m1 : p % r.unit.length < r.unit.length := Nat.mod_lt _ l1
      generalize upd H q (.tup [.int ((p / r.unit.length : Nat) : Int), .int ((p % r.unit.length : Nat) : Int)]) = H1 at s1 ⊢
      refine ⟨_, rfl, _, rfl, o, T.R.C, dx, _, _, rfl, s1 _ _ e, T.R.cl, T.R.nU, rf_u .., pu, _, rfl, SqT.of (s1 _ _ hu), _, _, rfl, rfl, .inr (by rw [isum]; omega), ?_⟩
      refine ⟨_, rfl, o, T.R.C, dx, _, _, rfl, s1 _ _ e, T.R.cl, T.R.nU, rf_u .., _, rfl, ((p % r.unit.length : Nat) : Int), rfl, pu, _, rfl, s1 _ _ hu, fun H2 z s2 hz => ?_⟩
      rw [cut_nat _ _ (by omega)] at hz
      refine ⟨z, _, rfl, SqT.of hz, _, _, rfl, rfl, ?_⟩
      refine ⟨_, rfl, o, T.R.C, dx, _, _, rfl, s2 _ _ (s1 _ _ e), T.R.cl, T.R.nU, rf_u .., _, rfl, pu, _, _, _, rfl, rfl, SqT.of (s2 _ _ (s1 _ _ hu)), atI_nat (nvs_at m1), (by show 2 ≤ sizeLine; decide), fun y ny => ?_⟩
      refine k _ y (Same.trans s1 (Same.trans s2 (same_new ny))) ?_
      unfold NPair
      rw [upd_same, isum, isum, Int.natCast_add, Int.natCast_mul]
    · rw [if_neg c] at k
      rw [show decide (((p : Nat) : Int) < ((r.times * r.unit.length : Nat) : Int)) = false from decide_eq_false (by omega)]
      refine iteF ?_
      refine ⟨_, rfl, _, rfl, _, _, rfl, rfl, ?_⟩
      unfold Rw.many at hp
      have e1 : (p : Int) - ((r.times * r.unit.length : Nat) : Int) = ((p - r.times * r.unit.length : Nat) : Int) := by omega
      simp only [e1]
      have m1 : p - r.times * r.unit.length < r.last.length := by omega
      refine ⟨_, rfl, o, T.R.C, dx, _, _, rfl, e, T.R.cl, T.R.nT, rf_t .., _, rfl, o, T.R.C, dx, _, _, rfl, e, T.R.cl, T.R.nU, rf_u .., pu, _, rfl, SqT.of hu, _, _, rfl, rfl, .inr (by rw [isum]; omega), ?_⟩
      refine ⟨_, rfl, o, T.R.C, dx, _, _, rfl, e, T.R.cl, T.R.nL, rf_l .., _, rfl, ((p - r.times * r.unit.length : Nat) : Int), rfl, pl, _, rfl, hl, fun H2 z s2 hz => ?_⟩
      rw [cut_nat _ _ (by omega)] at hz
      refine ⟨z, _, rfl, SqT.of hz, _, _, rfl, rfl, ?_⟩
      refine ⟨_, rfl, o, T.R.C, dx, _, _, rfl, s2 _ _ e, T.R.cl, T.R.nL, rf_l .., _, rfl, pl, _, _, _, rfl, rfl, SqT.of (s2 _ _ hl), atI_nat (nvs_at m1), (by show 2 ≤ sizeLine; decide), fun y ny => ?_⟩
      refine k _ y (Same.trans s2 (same_new ny)) ?_
      unfold NPair
      rw [upd_same, isum, isum, Int.natCast_add, Int.natCast_mul]
/-! ### check_chain_items -/
abbrev mostI : Int := 999999999999999999
def spCCI (K : PySem.W.Frag) (CI : Addr) : Sp := fun vs H Q E => ∃ v : V, vs = [v] ∧ TypedI K H v ∧ (btw 0 mostI v = true → Q .non H) ∧ (btw 0 mostI v = false → ∀ d, H d = none → E (.ref CI) (some d) (upd H d (.xd [("value", v)])))
theorem scCCI : FnScope ["items"] ["items"] (defScope sCCI) := ⟨rfl, rfl, rfl, by decide +kernel, rfl, by decide +kernel, by decide +kernel⟩
theorem ok_cci (T : TxP w K mg) : FnOk P w K mg base (L2.CX P w) 3 T.cci.f T.cci.fd ["items"] (spCCI K T.eI.C) := by
  have GI : FnOk P w K mg base CX0 1 T.I.iib.f T.I.iib.fd ["value", "low", "high"] (spIIB K) := ok_iib T.I
  have GE : FnOk P w K mg base CX0 1 T.eI.f T.eI.fd ["self", "value"] (spER "value" T.eI.C) := ok_eit T.eI
  obtain ⟨tm, mm⟩ := T.mci
  refine T.cci.F.okX scCCI (fun vs H Q E h => ?_) (fun cdv A outer s H vs Q E hr h => ?_)
  · obtain ⟨v, rfl, _⟩ := h
    rfl
  · obtain ⟨v, rfl, ty, k1, k2⟩ := h
    have hr1 : Room 1 _ := hr.mono (by decide)
    refine ⟨_, pss_one (ps_if (pt_not (pt_val (pe_call GI hr1 rfl T.I.iib.g T.I.iib.k T.I.iib.b .nil pass0 (pa_cons (pv 0) (pa_cons pe_int (pa_cons (pe_glob (v := .int mostI) rfl mm ⟨_, rfl⟩) pa_nil))))))
      (pss_one (ps_raise rfl (takes_of rfl rfl rfl rfl) (pmk_oex T.eI.o T.eI.i T.eI.t GE hr T.eI.b .nil pass0 rfl T.eI.g (pa_cons (pv 0) pa_nil)))) pss_nil), ?_⟩
    refine ⟨_, rfl, v, 0, mostI, rfl, ty, _, rfl, ?_⟩
    cases hb : btw 0 mostI v with
    | true => exact iteF (k1 hb)
    | false =>
      refine iteT ?_
      exact mk_er (x := v) ⟨v, rfl, rfl, rfl⟩ (fun {R R'} ⟨v, e1, q⟩ f => ⟨v, e1, f _ _ q⟩) (k2 hb)
/-! ### number -/
theorem btw_nat {m : Int} {v : V} (h : btw 0 m v = true) : ∃ n : Nat, v = .int n ∧ (n : Int) ≤ m := by
  cases v with
  | int i =>
    have := of_decide_eq_true (show decide ((0 : Int) ≤ i ∧ i ≤ m) = true from h)
    obtain ⟨n, rfl⟩ := Int.eq_ofNat_of_zero_le this.1
    exact ⟨n, rfl, this.2⟩
  | _ => cases h
def spAN (K : PySem.W.Frag) (CA CI : Addr) : Sp := fun vs H Q E => ∃ (o : Addr) (t : Str) (v : V), vs = [.ref o, v] ∧ ChainAt CA H o t ∧ goodC t = true ∧ TypedI K H v ∧
  (∀ n : Nat, v = .int n → n ≤ 999999999999999999 → ∀ H', Same H H' → Q (.int ((lens (cuttersOf t) n).length : Nat)) H') ∧ (btw 0 mostI v = false → ∀ d, H d = none → E (.ref CI) (some d) (upd H d (.xd [("value", v)])))
theorem scAN : FnScope ["self", "items"] ["self", "items"] (defScope sAN) := ⟨rfl, rfl, rfl, by decide +kernel, rfl, by decide +kernel, by decide +kernel⟩
theorem ok_an (T : TxP w K mg) : FnOk P w K mg base (L2.CX P w) 6 T.an.f T.an.fd ["self", "items"] (spAN K T.R.A.C T.eI.C) := by
  have GC : FnOk P w K mg base (L2.CX P w) 3 T.cci.f T.cci.fd ["items"] (spCCI K T.eI.C) := ok_cci T
  have GO : FnOk P w K mg base CX0 5 T.R.ro.f T.R.ro.fd ["self", "items"] (spRO T.R.A.C T.R.C) := ok_ro T.R
  have GM : FnOk P w K mg base CX0 1 T.R.mn.f T.R.mn.fd ["self"] (spRM T.R.C) := ok_rm T.R
  refine T.an.F.okX scAN (fun vs H Q E h => ?_) (fun cdv A outer s H vs Q E hr h => ?_)
  · obtain ⟨o, t, v, rfl, _⟩ := h
    rfl
  · obtain ⟨o, t, v, rfl, hO, g, ty, k1, k2⟩ := h
    have hr1 : Room 1 _ := hr.mono (by decide)
    have hr3 : Room 3 _ := hr.mono (by decide)
    refine ⟨_, pss_cons (ps_expr (pe_call (E := E) GC hr3 rfl T.cci.g T.cci.k T.cci.b .nil (passes_call (takes_of rfl rfl rfl rfl) fun _ _ _ _ z => z) (pa_cons (pv 1) pa_nil)))
      (pss_one (ps_ret (pe_meth0 (pe_meth (pv 0) T.R.A.cl T.R.ro.m GO hr T.R.ro.b .nil pass0 (pa_cons (pv 1) pa_nil)) T.R.cl T.R.mn.m GM hr1 T.R.mn.b .nil pass0))), ?_⟩
    refine ⟨_, rfl, v, rfl, ty, fun hb => ?_, fun hb => k2 hb⟩
    obtain ⟨n, rfl, hn⟩ := btw_nat hb
    have hn : n ≤ 999999999999999999 := by have : (n : Int) ≤ 999999999999999999 := hn; omega
    obtain ⟨dx, p, vs, e, _⟩ := id hO
    have rb : RB (rowOf (cuttersOf t) n) := rb_row cutters_ct (cutters_len g).1 (by omega)
    refine ⟨_, rfl, o, dx, _, rfl, e, cf_no _ _ (by decide +kernel) (by decide +kernel), _, rfl, o, t, n, rfl, hO, g, by omega, fun H1 x s1 hx => ?_⟩
    obtain ⟨dr, pu, pl, er, _⟩ := id hx
    refine ⟨x, dr, _, rfl, er, (rf_no ..).1, x, _, rfl, hx, rb, ?_⟩
    rw [row_many]
    exact k1 n rfl hn H1 s1
/-! ### piece -/
def spAP (K : PySem.W.Frag) (CA CI CP : Addr) : Sp := fun vs H Q E => ∃ (o : Addr) (t : Str) (v p : V), vs = [.ref o, v, p] ∧ ChainAt CA H o t ∧ goodC t = true ∧ TypedI K H v ∧ TypedI K H p ∧
  (∀ n i : Nat, v = .int n → n ≤ 999999999999999999 → p = .int i → i < (lens (cuttersOf t) n).length → ∀ (H' : Hp) (q : Addr), Same H H' → NPair H' q (((lens (cuttersOf t) n).take i).sum, (lens (cuttersOf t) n).getD i 0) → Q (.ref q) H') ∧
  (btw 0 mostI v = false → ∀ d, H d = none → E (.ref CI) (some d) (upd H d (.xd [("value", v)]))) ∧
  (∀ n : Nat, v = .int n → n ≤ 999999999999999999 → btw 0 (((lens (cuttersOf t) n).length : Int) - 1) p = false → ∀ (H' : Hp) (d : Addr), Same H H' → H' d = none → E (.ref CP) (some d) (upd H' d (.xd [("value", p)])))
theorem scAP : FnScope ["self", "items", "place", "row"] ["self", "items", "place"] (defScope sAP) := ⟨rfl, rfl, rfl, by decide +kernel, rfl, by decide +kernel, by decide +kernel⟩
theorem TypedI.same' {K : PySem.W.Frag} {H H' : Hp} {x : V} (s : Same H H') (h : TypedI K H x) : TypedI K H' x := let ⟨t, a, b⟩ := h; ⟨t, TyX_same s a, b⟩
theorem ok_ap (T : TxP w K mg) : FnOk P w K mg base (L2.CX P w) 6 T.ap.f T.ap.fd ["self", "items", "place"] (spAP K T.R.A.C T.eI.C T.eP.C) := by
  have GC : FnOk P w K mg base (L2.CX P w) 3 T.cci.f T.cci.fd ["items"] (spCCI K T.eI.C) := ok_cci T
  have GO : FnOk P w K mg base CX0 5 T.R.ro.f T.R.ro.fd ["self", "items"] (spRO T.R.A.C T.R.C) := ok_ro T.R
  have GM : FnOk P w K mg base CX0 1 T.R.mn.f T.R.mn.fd ["self"] (spRM T.R.C) := ok_rm T.R
  have GA : FnOk P w K mg base CX0 1 T.pa.f T.pa.fd ["self", "place"] (spPA T.R.C) := ok_pa T
  have GI : FnOk P w K mg base CX0 1 T.I.iib.f T.I.iib.fd ["value", "low", "high"] (spIIB K) := ok_iib T.I
  have GE : FnOk P w K mg base CX0 1 T.eP.f T.eP.fd ["self", "value"] (spER "value" T.eP.C) := ok_epl T.eP
  refine T.ap.F.okX scAP (fun vs H Q E h => ?_) (fun cdv A outer s H vs Q E hr h => ?_)
  · obtain ⟨o, t, v, p, rfl, _⟩ := h
    rfl
  · obtain ⟨o, t, v, p, rfl, hO, g, ty, tp, k1, k2, k3⟩ := h
    have hr1 : Room 1 _ := hr.mono (by decide)
    have hr2 : Room 2 _ := hr.mono (by decide)
    have hr3 : Room 3 _ := hr.mono (by decide)
    refine ⟨_, pss_cons (ps_expr (pe_call (E := E) GC hr3 rfl T.cci.g T.cci.k T.cci.b .nil (passes_call (takes_of rfl rfl rfl rfl) fun _ _ _ _ z => z) (pa_cons (pv 1) pa_nil)))
      (pss_cons (ps_set (i := 3) scAP.nd rfl (.inl rfl) (pe_meth (pv 0) T.R.A.cl T.R.ro.m GO hr T.R.ro.b .nil pass0 (pa_cons (pv 1) pa_nil)))
      (pss_cons (ps_if (pt_not (pt_val (pe_call GI hr1 rfl T.I.iib.g T.I.iib.k T.I.iib.b .nil pass0 (pa_cons (pv 2) (pa_cons pe_int (pa_cons (pe_op op_sub (pe_meth0 (pv 3) T.R.cl T.R.mn.m GM hr1 T.R.mn.b .nil pass0) pe_int) pa_nil))))))
        (pss_one (ps_raise rfl (takes_of rfl rfl rfl rfl) (pmk_oex T.eP.o T.eP.i T.eP.t GE hr2 T.eP.b .nil pass0 rfl T.eP.g (pa_cons (pv 2) pa_nil)))) pss_nil)
      (pss_one (ps_ret (pe_meth (pv 3) T.R.cl T.pa.m GA hr1 T.pa.b .nil pass0 (pa_cons (pv 2) pa_nil)))))), ?_⟩
    refine ⟨_, rfl, v, rfl, ty, fun hb => ?_, fun hb => k2 hb⟩
    obtain ⟨n, rfl, hn⟩ := btw_nat hb
    have hn : n ≤ 999999999999999999 := by have : (n : Int) ≤ 999999999999999999 := hn; omega
    obtain ⟨dx, q, vs, e, _⟩ := id hO
    have rb : RB (rowOf (cuttersOf t) n) := rb_row cutters_ct (cutters_len g).1 (by omega)
    refine ⟨_, rfl, o, dx, _, rfl, e, cf_no _ _ (by decide +kernel) (by decide +kernel), _, rfl, o, t, n, rfl, hO, g, by omega, fun H1 x s1 hx => ?_⟩
    obtain ⟨dr, pu, pl, er, _⟩ := id hx
    refine ⟨_, rfl, _, rfl, x, dr, _, rfl, er, (rf_no ..).1, x, _, rfl, hx, rb, _, _, rfl, rfl, p, 0, _, rfl, tp.same' s1, _, rfl, ?_⟩
    rw [row_many]
    cases hp : btw 0 (((lens (cuttersOf t) n).length : Int) - 1) p with
    | false =>
      refine iteT ?_
      exact mk_er (x := p) ⟨p, rfl, rfl, rfl⟩ (fun {R R'} ⟨v, e1, q⟩ f => ⟨v, e1, f _ _ q⟩) (k3 n rfl hn hp H1 · s1)
    | true =>
      refine iteF ?_
      obtain ⟨i, rfl, hi⟩ := btw_nat hp
      have hi2 : i < (lens (cuttersOf t) n).length := by omega
      refine ⟨_, rfl, x, dr, _, rfl, er, (rf_no ..).2.2.1, _, rfl, x, _, i, rfl, hx, rb, by rw [row_many]; exact hi2, fun H2 y s2 hy => ?_⟩
      rw [piece_sizes, row_sizes] at hy
      exact k1 n i rfl hn rfl hi2 H2 y (Same.trans s1 s2) hy
end
end My

/-! the law's own widths -/
namespace My
open PySem L2 Cm LM CH
abbrev sEv : Stmt := top 32
abbrev sDue : Stmt := top 35
structure TxDu (K : PySem.W.Frag) (mg : Str → Option Value) where
  J : TxtJ mg
  sum : mg "sum" = none
  range : mg "range" = none
  tuple : mg "tuple" = none
  ev : Df K mg "_law_evenly" sEv ["_law_many", "_law_wide"]
  due : Df K mg "_law_due" sDue ["_law_lengths_here"]
/-! ### rows of counts as data -/
def natD (xs : List Nat) : List PyData := xs.map fun n => PyData.int (n : Nat)
theorem dp_nat {K : PySem.W.Frag} {H : Hp} : ∀ xs : List Nat, DpAll K H (nvs xs) (natD xs)
  | [] => .nil
  | x :: r => .cons (.int _) (dp_nat r)
theorem natD_lay : ∀ xs : List Nat, PyData.canLayAll0 (natD xs) = true ∧ PyData.depthAll (natD xs) = 0
  | [] => ⟨by simp [natD, PyData.canLayAll0], by simp [natD, PyData.depthAll]⟩
  | x :: r => by
    obtain ⟨a, b⟩ := natD_lay r
    have e : natD (x :: r) = PyData.int (x : Nat) :: natD r := rfl
    rw [e]
    refine ⟨?_, ?_⟩
    · rw [PyData.canLayAll0, a]; simp [PyData.canLay0]
    · rw [PyData.depthAll, b]; simp [PyData.depth]
theorem natT_shaped (xs : List Nat) : SeqAt.shaped (.tuple (natD xs)) = true := by
  obtain ⟨a, b⟩ := natD_lay xs
  unfold SeqAt.shaped
  rw [Bool.and_eq_true]
  refine ⟨by rw [PyData.canLay0]; exact a, decide_eq_true ?_⟩
  rw [PyData.depth, b]
  decide
theorem natL_shaped (xs : List Nat) : SeqAt.shaped (.list (natD xs)) = true := by
  obtain ⟨a, b⟩ := natD_lay xs
  unfold SeqAt.shaped
  rw [Bool.and_eq_true]
  refine ⟨by rw [PyData.canLay0]; exact a, decide_eq_true ?_⟩
  rw [PyData.depth, b]
  decide
theorem nat_eqv : ∀ xs ys : List Nat, PyData.eqvAll (natD xs) (natD ys) = decide (xs = ys)
  | [], [] => by simp [natD, PyData.eqvAll]
  | [], y :: r => by simp [natD, PyData.eqvAll]
  | x :: r, [] => by simp [natD, PyData.eqvAll]
  | x :: r, y :: z => by
    have e1 : natD (x :: r) = PyData.int (x : Nat) :: natD r := rfl
    have e2 : natD (y :: z) = PyData.int (y : Nat) :: natD z := rfl
    rw [e1, e2, PyData.eqvAll, nat_eqv r z, PyData.eqv]
    by_cases h : x = y
    · subst h
      simp
    · have : ((x : Nat) : Int) ≠ ((y : Nat) : Int) := by omega
      simp [h, this]
section
variable {P : Program} {w : World} {K : PySem.W.Frag} {mg : Str → Option Value} {base : Heap}
def spEv : Sp := fun vs H Q _ => ∃ n d : Nat, vs = [.int n, .int d] ∧ 1 ≤ d ∧ d ≤ 1000 ∧ n ≤ 100000 ∧ ∀ (H' : Hp) (q : Addr), Same H H' → H q = none → H' q = some (.lst (nvs (evenly n d))) → Q (.ref q) H'
theorem scEv : FnScope ["_law_many", "_law_wide", "_law_found"] ["_law_many", "_law_wide"] (defScope sEv) := ⟨rfl, rfl, rfl, by decide +kernel, rfl, by decide +kernel, by decide +kernel⟩
theorem ok_ev (T : TxDu K mg) : FnOk P w K mg base CX0 1 T.ev.f T.ev.fd ["_law_many", "_law_wide"] spEv := by
  refine T.ev.F.ok scEv (fun vs H Q E h => ?_) (fun cdv A outer s H vs Q E hr h => ?_)
  · obtain ⟨n, d, rfl, _⟩ := h
    rfl
  · obtain ⟨n, d, rfl, d1, d2, hn, k⟩ := h
    refine ⟨_, (pss_cons (ps_set (i := 2) scEv.nd rfl (.inl rfl) (pe_op op_rep (pe_lst (pa_cons (pv 1) pa_nil)) (pe_op op_fdiv (pv 0) (pv 1)))) (pss_cons (ps_if (pt_cmpR op_gt (pe_op op_mod (pe_callTy call_int1 (by rfl) T.J.int (by decide +kernel) (pa_cons (pv 0) pa_nil)) (pv 1)) pe_int (nomark _)) (pss_one (ps_expr (pe_bm PySem.F.plainAttrs_list PySem.F.slot_list_append PySem.F.type_list_append mt_append (pv 2) (pa_cons (pe_op op_mod (pe_callTy call_int1 (by rfl) T.J.int (by decide +kernel) (pa_cons (pv 0) pa_nil)) (pv 1)) pa_nil)))) pss_nil) (pss_one (ps_ret (pv 2))))), ?_⟩
    have nd : n / d ≤ n := Nat.div_le_self _ _
    have e0 : (n : Int) / (d : Int) = ((n / d : Nat) : Int) := (Int.natCast_ediv n d).symm
    have z0 : (0 : Int) ≤ (n : Int) / (d : Int) := by rw [e0]; exact Int.natCast_nonneg _
    have z1 : (n : Int) / (d : Int) ≤ (n : Int) := by rw [e0]; exact Int.ofNat_le.mpr nd
    refine ⟨_, rfl, (by show 1 ≤ sizeLine; decide), fun l nl => ?_⟩
    refine ⟨_, rfl, _, rfl, _, _, rfl, rfl, ⟨by omega, by omega⟩, l, _, _, rfl, rfl, upd_same, by omega, by omega, by rw [e0, Int.toNat_natCast]; exact Nat.le_of_lt (szM (by show 1 * (n / d) ≤ 1000000; omega)), fun q nq => ?_⟩
    have e1 : ((n : Int) / (d : Int)).toNat = n / d := by rw [e0, Int.toNat_natCast]
    rw [e1, rep_nvs]
    have s1 := same_new (o := .lst [.int (d : Int)]) nl
    have nq0 := s1.free nq
    have s2 : Same H (upd (upd H l (.lst [.int d])) q (.lst (nvs (List.replicate (n / d) d)))) := Same.trans s1 (same_new nq)
    have hq : (upd (upd H l (.lst [.int d])) q (.lst (nvs (List.replicate (n / d) d)))) q = some (.lst (nvs (List.replicate (n / d) d))) := upd_same
    generalize upd (upd H l (.lst [.int d])) q (.lst (nvs (List.replicate (n / d) d))) = H2 at s2 hq ⊢
    have em : (n : Int) % (d : Int) = ((n % d : Nat) : Int) := (Int.natCast_emod n d).symm
    refine ⟨_, rfl, .inl ⟨_, rfl, _, rfl, _, _, rfl, rfl, by omega, _, _, rfl, rfl, _, rfl, ?_⟩⟩
    rw [em]
    by_cases h0 : n % d = 0
    · rw [show decide (((n % d : Nat) : Int) > 0) = false from decide_eq_false (by omega)]
      refine iteF ⟨_, rfl, k H2 q s2 nq0 ?_⟩
      rw [hq]
      unfold evenly
      rw [if_pos h0, List.append_nil]
    · rw [show decide (((n % d : Nat) : Int) > 0) = true from decide_eq_true (by omega)]
      refine iteT ⟨_, rfl, .inl ⟨rfl, _, SqL.of hq⟩, _, rfl, .inl ⟨_, rfl, _, rfl, _, _, rfl, rfl, by omega, q, _, _, rfl, rfl, hq, szM (by rw [nvs_len, List.length_replicate]; omega), ?_⟩⟩
      refine ⟨_, rfl, k _ q (fun b o e => ?_) nq0 ?_⟩
      · rw [upd_ne (ne_of_none e nq0)]
        exact s2 _ _ e
      · rw [upd_same]
        show some (HO.lst (nvs _ ++ [V.int ((n : Int) % (d : Int))])) = _
        unfold evenly
        rw [if_neg h0, em, show [V.int ((n % d : Nat) : Int)] = nvs [n % d] from rfl, ← nvs_app]
/-! ### _law_due -/
def dues (xs : List Nat) (i : Nat) : List Nat := (List.range' 1 i).filter fun n => dueW xs n
theorem dues_widths {xs : List Nat} (hp : Pos xs) : dues xs 12 = widthsOf xs := by
  unfold dues widthsOf
  refine List.filter_congr fun n hn => ?_
  have := (List.mem_range'_1.mp hn).1
  exact (filled_due (by omega) hp).symm
def spDue : Sp := fun vs H Q _ => ∃ (p : Addr) (xs : List Nat), vs = [.ref p] ∧ H p = some (.lst (nvs xs)) ∧ Pos xs ∧ xs.length ≤ 1000 ∧ xs.sum ≤ 100000 ∧ ∀ (H' : Hp) (q : Addr), Same H H' → H' q = some (.tup (nvs (widthsOf xs))) → Q (.ref q) H'
theorem scDue : FnScope ["_law_lengths_here", "_law_found", "_law_wide", "_law_most"] ["_law_lengths_here"] (defScope sDue) := ⟨rfl, rfl, rfl, by decide +kernel, rfl, by decide +kernel, by decide +kernel⟩
theorem ok_due (T : TxDu K mg) : FnOk P w K mg base CX0 2 T.due.f T.due.fd ["_law_lengths_here"] spDue := by
  have GE : FnOk P w K mg base CX0 1 T.ev.f T.ev.fd ["_law_many", "_law_wide"] spEv := ok_ev T
  refine T.due.F.ok scDue (fun vs H Q E h => ?_) (fun cdv A outer s H vs Q E hr h => ?_)
  · obtain ⟨p, xs, rfl, _⟩ := h
    rfl
  · obtain ⟨p, xs, rfl, hp, hpos, hl, hs, k⟩ := h
    refine ⟨_, (pss_cons (ps_set (i := 1) scDue.nd rfl (.inl rfl) (pe_lst pa_nil)) (pss_cons (ps_for PassesOwn.never rfl (pi_range2 rfl T.range (pa_cons pe_int (pa_cons pe_int pa_nil))) (pg_name (i := 2) scDue.nd rfl (.inl rfl)) (C8.pss_cut (ps_set (i := 3) scDue.nd rfl (.inl rfl) (pe_op op_fdiv (pe_op op_sub (pe_op op_add (pe_callB (cr_sum rfl) (by rfl) T.sum (by decide +kernel) (pa_cons (pv 0) pa_nil)) (pv 2)) pe_int) (pv 2))) (pss_one (ps_if (PW.pt (pw_and (pt_cmpR op_eq (pv 3) (pe_callB call_len_seq (by rfl) T.J.len PySem.boot_len (pa_cons (pv 0) pa_nil)) (nomark _)) (pw_and1 (pt_cmpR (op_eqD (hu64 hr)) (pe_call GE hr rfl T.ev.g T.ev.k T.ev.b .nil pass0 (pa_cons (pe_callB (cr_sum rfl) (by rfl) T.sum (by decide +kernel) (pa_cons (pv 0) pa_nil)) (pa_cons (pv 2) pa_nil))) (pv 0) (nomark _))))) (pss_one (ps_expr (pe_bm PySem.F.plainAttrs_list PySem.F.slot_list_append PySem.F.type_list_append mt_append (pv 1) (pa_cons (pv 2) pa_nil)))) pss_nil)))) (pss_one (ps_ret (pe_callTy call_tuple_of (by rfl) T.tuple (by decide +kernel) (pa_cons (pv 1) pa_nil)))))), ?_⟩
    refine ⟨Nat.zero_le _, fun l nl => ?_⟩
    refine ⟨1, 13, rfl, ⟨by decide, by decide, by decide, by decide⟩, ?_⟩
    refine for_range (lo := 1) (n := 12) (fun i σ H' => (∃ v2 v3 : Option V, σ = [some (.ref p), some (.ref l), v2, v3]) ∧ Same H H' ∧ H' l = some (.lst (nvs (dues xs i)))) ⟨⟨none, none, rfl⟩, same_new nl, upd_same⟩ ?_ ?_
    · rintro i σ H1 hi ⟨⟨v2, v3, rfl⟩, s1, hl1⟩
      have e1 : (1 : Int) + (i : Int) = ((1 + i : Nat) : Int) := by omega
      have hp1 := s1 _ _ hp
      have em : (((xs.sum : Nat) : Int) + (1 + (i : Int)) - 1) / (1 + (i : Int)) = (((xs.sum + (1 + i) - 1) / (1 + i) : Nat) : Int) := by
        rw [show ((xs.sum : Nat) : Int) + (1 + (i : Int)) - 1 = ((xs.sum + (1 + i) - 1 : Nat) : Int) by omega, e1]
        exact (Int.natCast_ediv ..).symm
      refine ⟨fun σ H' => σ = [some (.ref p), some (.ref l), some (.int ((1 + i : Nat) : Int)), some (.int (((xs.sum + (1 + i) - 1) / (1 + i) : Nat) : Int))] ∧ H1 = H', ?_, ?_⟩
      · refine ⟨_, rfl, p, xs.map fun n => ((n : Nat) : Int), rfl, SqL.of hp1, ?_⟩
        rw [isum]
        refine ⟨_, rfl, _, _, rfl, rfl, _, _, rfl, rfl, _, rfl, _, _, rfl, rfl, ⟨by omega, by omega⟩, ?_, rfl⟩
        show [some (V.ref p), some (.ref l), some (.int (1 + (i : Int))), some (.int ((((xs.sum : Nat) : Int) + (1 + (i : Int)) - 1) / (1 + (i : Int))))] = _
        rw [em, e1]
      rintro _ _ ⟨rfl, rfl⟩
      refine ⟨_, rfl, _, rfl, p, _, rfl, .inl (SqL.of hp1), rfl, _, rfl, ?_⟩
      rw [nvs_len]
      have ed : decide (V.int (((xs.sum + (1 + i) - 1) / (1 + i) : Nat) : Int) = V.int ((xs.length : Nat) : Int)) = decide ((xs.sum + (1 + i) - 1) / (1 + i) = xs.length) := decide_eq_decide.mpr ⟨fun h => Int.ofNat.inj (V.int.inj h), fun h => by rw [h]⟩
      rw [ed]
      have er : dues xs (i + 1) = dues xs i ++ (if dueW xs (1 + i) = true then [1 + i] else []) := by
        unfold dues
        rw [List.range'_concat, Nat.one_mul, List.filter_append]
        by_cases c : dueW xs (1 + i) = true
        · rw [if_pos c, List.filter_cons_of_pos (by exact c)]; rfl
        · rw [if_neg c, List.filter_cons_of_neg (by exact c)]; rfl
      have ll : (dues xs i).length ≤ i := Nat.le_trans (List.length_filter_le ..) (by rw [List.length_range']; exact Nat.le_refl _)
      by_cases c1 : (xs.sum + (1 + i) - 1) / (1 + i) = xs.length
      · rw [decide_eq_true c1]
        refine iteT ⟨_, rfl, p, xs.map fun n => ((n : Nat) : Int), rfl, SqL.of hp1, ?_⟩
        rw [isum]
        refine ⟨_, rfl, xs.sum, 1 + i, rfl, by omega, by omega, by omega, fun H2 q s2 nq hq => ?_⟩
        refine ⟨_, rfl, .list (natD (evenly xs.sum (1 + i))), .list (natD xs), .lst (SqL.of hq) (dp_nat _), .lst (SqL.of (s2 _ _ hp1)) (dp_nat _), natL_shaped _, natL_shaped _, _, rfl, ?_⟩
        rw [PyData.eqv, nat_eqv]
        have hl2 := s2 _ _ hl1
        by_cases c2 : evenly xs.sum (1 + i) = xs
        · rw [decide_eq_true c2]
          have c : dueW xs (1 + i) = true := by unfold dueW; rw [decide_eq_true c1, decide_eq_true c2]; rfl
          rw [if_pos c] at er
          refine iteT ⟨_, rfl, .inl ⟨rfl, _, SqL.of hl2⟩, _, rfl, l, _, _, rfl, rfl, hl2, szM (by rw [nvs_len]; omega), ⟨_, _, rfl⟩, fun b o z => ?_, ?_⟩
          · rw [upd_ne (ne_of_none z nl)]
            exact s2 _ _ (s1 _ _ z)
          · rw [upd_same, er, nvs_app]
            rfl
        · rw [decide_eq_false c2]
          have c : ¬ dueW xs (1 + i) = true := by unfold dueW; rw [decide_eq_false c2, Bool.and_false]; decide
          rw [if_neg c, List.append_nil] at er
          exact iteF ⟨⟨_, _, rfl⟩, Same.trans s1 s2, by rw [er]; exact hl2⟩
      · rw [decide_eq_false c1]
        have c : ¬ dueW xs (1 + i) = true := by unfold dueW; rw [decide_eq_false c1, Bool.false_and]; decide
        rw [if_neg c, List.append_nil] at er
        exact iteF (iteF ⟨⟨_, _, rfl⟩, s1, by rw [er]; exact hl1⟩)
    · rintro σ H1 ⟨⟨v2, v3, rfl⟩, s1, hl1⟩
      rw [dues_widths hpos] at hl1
      exact ⟨_, rfl, l, _, rfl, .inl ⟨SqL.of hl1, fun q nq => k _ q (Same.trans s1 (same_new nq)) upd_same⟩⟩
end
end My

namespace My
open PySem L2 Cm LM CH
abbrev sDrw : Stmt := top 34
section
variable {P : Program} {w : World} {K : PySem.W.Frag} {mg : Str → Option Value} {base : Heap}
/-! ### _law_drawn -/
def Szs (xs : List Nat) : Prop := xs.length ≤ 100 ∧ ∀ x ∈ xs, 1 ≤ x ∧ x ≤ 1000
def spDrw : Sp := fun vs H Q _ => ∃ j : Addr, vs = [.ref j] ∧ Jar H j ∧ ∀ (H' : Hp) (q : Addr) (xs : List Nat), Off j H H' → Jar H' j → q ≠ j → H' q = some (.lst (nvs xs)) → Szs xs → Q (.ref q) H'
theorem scDrw : FnScope ["_law_jar_here", "_law_way", "_law_wide", "_law_many", "_law_found", "_law_turn"] ["_law_jar_here"] (defScope sDrw) := ⟨rfl, rfl, rfl, by decide +kernel, rfl, by decide +kernel, by decide +kernel⟩
/-- 1 + sip(jar, 1000) -/
def tOne : TE := fun σ H Q => ∃ j : Addr, σ[0]? = some (some (.ref j)) ∧ Jar H j ∧ ∀ (H' : Hp) (x : Nat), Off j H H' → Jar H' j → 1 ≤ x → x ≤ 1000 → Q (.int (x : Nat)) H'
theorem freeD {j D : Addr} {H H1 : Hp} (o : Off j H H1) (Dj : D ≠ j) (n : H1 D = none) : H D = none := by
  cases e : H D with
  | none => rfl
  | some u =>
    rw [o D u Dj e] at n
    cases n
theorem ixN_d {n j : Nat} (hj : j < n) : ixN n (j : Int) = some j := by
  unfold ixN
  rw [if_pos (by omega), if_pos (by omega)]
  rfl
theorem even_szs {n W : Nat} (h1 : 1 ≤ W) (h2 : W ≤ 14) (h : n < 100 * W) : Szs (evenly n W) := by
  refine ⟨?_, fun x hx => ⟨pos_evenly h1 x hx, ?_⟩⟩
  · rw [evenly_many h1]
    have : (n + W - 1) / W < 101 := (Nat.div_lt_iff_lt_mul h1).mpr (by omega)
    omega
  · unfold evenly at hx
    rcases List.mem_append.mp hx with z | z
    · rw [List.eq_of_mem_replicate z]; omega
    · have : n % W < W := Nat.mod_lt _ h1
      by_cases c : n % W = 0
      · rw [if_pos c] at z; cases z
      · rw [if_neg c] at z
        rw [List.mem_singleton.mp z]; omega
theorem ok_drw (T : TxDu K mg) (S : Df K mg "_law_sip" sSip ["_law_jar_here", "_law_many"]) {f : Addr} {fd : FuncData} (F : Fun K "_law_drawn" "_law_drawn" sDrw f fd) : FnOk P w K mg base CX0 2 f fd ["_law_jar_here"] spDrw := by
  have GS : FnOk P w K mg base CX0 1 S.f S.fd ["_law_jar_here", "_law_many"] spSip := ok_sip S.F T.J
  have GE : FnOk P w K mg base CX0 1 T.ev.f T.ev.fd ["_law_many", "_law_wide"] spEv := ok_ev T
  refine F.ok scDrw (fun vs H Q E h => ?_) (fun cdv A outer s H vs Q E hr h => ?_)
  · obtain ⟨j, rfl, _⟩ := h
    rfl
  · obtain ⟨j, rfl, hJ, k⟩ := h
    refine ⟨_, (pss_cons (ps_par (i := 1) (j := 2) rfl scDrw.nd rfl rfl (by decide) rfl rfl (pa_cons (pe_call GS hr rfl S.g S.k S.b .nil pass0 (pa_cons (pv 0) (pa_cons pe_int pa_nil))) (pa_cons (pe_op op_add pe_int (pe_call GS hr rfl S.g S.k S.b .nil pass0 (pa_cons (pv 0) (pa_cons pe_int pa_nil)))) pa_nil)) (by rfl)) (pss_cons (ps_if (pt_cmpR op_eq (pv 1) pe_int (nomark _)) (pss_one (ps_ret (pe_lc (own := [("_law_turn", 5)]) (g := gName 5) (tt := tYes) (te := tOne) rfl scDrw.nd (pi_range1 rfl T.range (pa_cons (pe_call GS hr rfl S.g S.k S.b .nil pass0 (pa_cons (pv 0) (pa_cons pe_int pa_nil))) pa_nil)) (blkOk_by (own := [("_law_turn", 5)]) (N := ["_law_jar_here", "_law_way", "_law_wide", "_law_many", "_law_found", "_law_turn"]) (sc := defScope sDrw) (by decide +kernel)) (fun _ _ _ _ _ => pg_name (i := 5) scDrw.nd rfl (Or.inl rfl)) (fun _ _ _ _ _ => pts_nil) (fun _ _ _ _ _ => by exact pe_imp (t' := tOne) (pe_op op_add pe_int (pe_call GS hr rfl S.g S.k S.b .nil pass0 (pa_cons (pv 0) (pa_cons pe_int pa_nil)))) (fun σ H1 Q1 ⟨j, h0, J1, k⟩ => ⟨_, h0, j, 1000, rfl, J1, by decide, by decide, fun H2 d d0 d1 o2 J2 => ⟨_, _, rfl, rfl, by
        obtain ⟨x, rfl⟩ := Int.eq_ofNat_of_zero_le d0
        have := k H2 (1 + x) o2 J2 (by omega) (by omega)
        rwa [show ((1 + x : Nat) : Int) = 1 + (x : Int) by omega] at this⟩⟩))))) pss_nil) (C8.pss_cut (ps_set (i := 3) scDrw.nd rfl (.inl rfl) (pe_op op_add (pe_op op_mul (pv 2) (pe_call GS hr rfl S.g S.k S.b .nil pass0 (pa_cons (pv 0) (pa_cons (pe_ix ix_list (pe_lst (pa_cons pe_int (pa_cons pe_int (pa_cons pe_int (pa_cons pe_int (pa_cons pe_int (pa_cons pe_int pa_nil))))))) (pv 1) (fun _ _ => rfl)) pa_nil)))) (pe_call GS hr rfl S.g S.k S.b .nil pass0 (pa_cons (pv 0) (pa_cons (pv 2) pa_nil))))) (pss_cons (ps_set (i := 4) scDrw.nd rfl (.inl rfl) (pe_call GE hr rfl T.ev.g T.ev.k T.ev.b .nil pass0 (pa_cons (pv 3) (pa_cons (pv 2) pa_nil)))) (pss_cons (ps_if (PW.pt (pw_and (pt_cmpR (op_neD (hu64 hr)) (pv 4) (pe_lst pa_nil) (nomark _)) (pw_and1 (PW.pt (pw_or (pt_cmpR op_eq (pv 1) pe_int (nomark _)) (pw_or1 (pt_cmpR op_eq (pv 1) pe_int (nomark _)))))))) (pss_one (ps_asg (pe_op op_add pe_int (pe_call GS hr rfl S.g S.k S.b .nil pass0 (pa_cons (pv 0) (pa_cons pe_int pa_nil)))) (pg_sub (pv 4) (pe_call GS hr rfl S.g S.k S.b .nil pass0 (pa_cons (pv 0) (pa_cons (pe_callB call_len_seq (by rfl) T.J.len PySem.boot_len (pa_cons (pv 4) pa_nil)) pa_nil))) set_list))) pss_nil) (pss_one (ps_ret (pv 4)))))))), ?_⟩
    refine ⟨_, rfl, j, 6, rfl, hJ, by decide, by decide, fun H1 d d0 d1 o1 J1 => ⟨_, rfl, j, 14, rfl, J1, by decide, by decide, fun H2 e e0 e1 o2 J2 => ⟨_, _, rfl, rfl, _, _, rfl, ?_⟩⟩⟩
    obtain ⟨way, rfl⟩ := Int.eq_ofNat_of_zero_le d0
    obtain ⟨wd, rfl⟩ := Int.eq_ofNat_of_zero_le e0
    have o12 := o1.trans o2
    refine ⟨_, rfl, rfl, _, rfl, ite2 (fun c => ?_) (fun c => ?_)⟩
    · refine ⟨_, rfl, j, 4, rfl, J2, by decide, by decide, fun H3 m m0 m1 o3 J3 => ?_⟩
      obtain ⟨n, rfl⟩ := Int.eq_ofNat_of_zero_le m0
      refine ⟨_, rfl, by omega, by omega, fun D nD => ?_⟩
      have Dj := jar_ne J3 nD
      have o13 := o12.trans o3
      have n0 := freeD o13 Dj nD
      rw [Int.toNat_natCast]
      refine lc_range (lo := 0) (n := n) (fun i H' => Off j H H' ∧ Jar H' j ∧ ∃ xs : List Nat, H' D = some (.lst (nvs xs)) ∧ xs.length = i ∧ ∀ x ∈ xs, 1 ≤ x ∧ x ≤ 1000) ⟨o13.new nD, J3.new nD, [], upd_same, rfl, fun x h => nomatch h⟩ ?_ ?_
      · rintro i H' hi ⟨o', J', xs, hD, lx, hx⟩
        refine ⟨rfl, j, rfl, J', fun H4 x o4 J4 x1 x2 => ⟨_, o4 _ _ Dj hD, szM (by rw [nvs_len]; omega), Off.put2 (o'.trans o4) n0, J4.put Dj, xs ++ [x], ?_, by rw [List.length_append, lx]; rfl, fun y hy => ?_⟩⟩
        · rw [upd_same, nvs_app]
          rfl
        · rcases List.mem_append.mp hy with h | h
          · exact hx y h
          · rw [List.mem_singleton.mp h]; exact ⟨x1, x2⟩
      · rintro H' ⟨o', J', xs, hD, lx, hx⟩
        exact k H' D xs o' J' Dj hD ⟨by omega, hx⟩
    have ew : (1 : Int) + (wd : Int) = ((1 + wd : Nat) : Int) := by omega
    refine ⟨fun σ' H' => ∃ n : Nat, σ' = [some (.ref j), some (.int (way : Nat)), some (.int ((1 + wd : Nat) : Int)), some (.int (n : Nat)), none, none] ∧ Off j H H' ∧ Jar H' j ∧ n < 100 * (1 + wd), ?_, ?_⟩
    · refine ⟨_, rfl, _, rfl, (by show 6 ≤ sizeLine; decide), fun l nl => ?_⟩
      have hw : ∃ m : Nat, ([.int 3, .int 3, .int 8, .int 100, .int 100, .int 5] : List V)[way]? = some (.int (m : Nat)) ∧ 0 < m ∧ m ≤ 100 := by
        match way, d1 with
        | 0, _ => exact ⟨3, rfl, by decide, by decide⟩
        | 1, _ => exact ⟨3, rfl, by decide, by decide⟩
        | 2, _ => exact ⟨8, rfl, by decide, by decide⟩
        | 3, _ => exact ⟨100, rfl, by decide, by decide⟩
        | 4, _ => exact ⟨100, rfl, by decide, by decide⟩
        | 5, _ => exact ⟨5, rfl, by decide, by decide⟩
        | n + 6, h => omega
      obtain ⟨m, hm, m1, m2⟩ := hw
      have s3 := same_new (o := .lst [.int 3, .int 3, .int 8, .int 100, .int 100, .int 5]) nl
      refine ⟨_, rfl, l, _, _, _, rfl, rfl, SqL.of upd_same, atI_nat hm, j, (m : Int), rfl, J2.same s3, by omega, by omega, fun H4 x x0 x1 o4 J4 => ⟨_, _, rfl, rfl, .inl ⟨by omega, by omega⟩, ?_⟩⟩
      obtain ⟨a, rfl⟩ := Int.eq_ofNat_of_zero_le x0
      refine ⟨_, rfl, _, rfl, j, 1 + (wd : Int), rfl, J4, by omega, by omega, fun H5 y y0 y1 o5 J5 => ⟨_, _, rfl, rfl, ?_⟩⟩
      obtain ⟨b, rfl⟩ := Int.eq_ofNat_of_zero_le y0
      have am : (1 + wd) * a ≤ (1 + wd) * 99 := Nat.mul_le_mul_left _ (by omega)
      refine ⟨(1 + wd) * a + b, ?_, (o12.trans (Off.trans (Same.off s3) o4)).trans o5, J5, by omega⟩
      show [some (V.ref j), some (.int (way : Nat)), some (.int (1 + (wd : Int))), some (.int ((1 + (wd : Int)) * (a : Int) + (b : Int))), none, none] = _
      rw [ew, ← Int.natCast_mul, ← Int.natCast_add]
    rintro _ H3 ⟨n, rfl, o3, J3, hn⟩
    refine ⟨_, rfl, _, rfl, n, 1 + wd, rfl, by omega, by omega, by omega, fun H4 q s4 nq hq => ?_⟩
    have qj := jar_ne J3 nq
    have n0 := freeD o3 qj nq
    have sz := even_szs (by omega) (by omega) hn
    generalize evenly n (1 + wd) = xs at hq sz
    have o4 := o3.trans (Same.off s4)
    have J4 := J3.same s4
    refine ⟨_, rfl, Nat.zero_le _, fun z nz => ?_⟩
    have s5 := same_new (o := .lst []) nz
    have hz : (upd H4 z (.lst [])) z = some (.lst []) := upd_same
    have hq5 := s5 _ _ hq
    have o5 := o4.trans (Same.off s5)
    have J5 := J4.same s5
    generalize upd H4 z (.lst []) = H5 at s5 hz hq5 o5 J5 ⊢
    refine ⟨.list (natD xs), .list (natD []), .lst (SqL.of hq5) (dp_nat _), .lst (SqL.of hz) .nil, natL_shaped _, natL_shaped [], _, rfl, ?_⟩
    rw [PyData.eqv, nat_eqv]
    by_cases hx : xs = []
    · rw [decide_eq_true hx]
      exact iteF (iteF ⟨_, rfl, k H5 q xs o5 J5 qj hq5 sz⟩)
    rw [decide_eq_false hx]
    have lx := List.length_pos_iff.mpr hx
    have lx2 := sz.1
    have put : ∀ (H6 : Hp) (x i : Nat), Off j H5 H6 → Jar H6 j → 1 ≤ x → x ≤ 1000 → H6 q = some (.lst (nvs xs)) ∧ Q (.ref q) (upd H6 q (.lst ((nvs xs).set i (.int (x : Nat))))) := fun H6 x i o6 J6 x1 x2 => by
      refine ⟨o6 _ _ qj hq5, k _ q (xs.set i x) (Off.put2 (o5.trans o6) n0) (J6.put qj) qj ?_ ⟨by rw [List.length_set]; exact sz.1, fun y hy => ?_⟩⟩
      · rw [upd_same]
        rw [show (nvs xs).set i (.int (x : Nat)) = nvs (xs.set i x) by simp [nvs, List.map_set]]
      · rcases List.mem_or_eq_of_mem_set hy with h | h
        · exact sz.2 y h
        · rw [h]; exact ⟨x1, x2⟩
    refine iteT ⟨_, rfl, rfl, _, rfl, ite2 (fun c2 => ?_) (fun c2 => ?_)⟩
    · refine iteT ⟨_, rfl, j, 13, rfl, J5, by decide, by decide, fun H6 x x0 x1 o6 J6 => ⟨_, _, rfl, rfl, ?_⟩⟩
      obtain ⟨x, rfl⟩ := Int.eq_ofNat_of_zero_le x0
      refine ⟨_, rfl, _, rfl, _, rfl, q, _, rfl, .inl (SqL.of (o6 _ _ qj hq5)), j, _, rfl, J6, by rw [nvs_len]; omega, by rw [nvs_len]; omega, fun H7 y y0 y1 o7 J7 => ?_⟩
      obtain ⟨y, rfl⟩ := Int.eq_ofNat_of_zero_le y0
      obtain ⟨p1, p2⟩ := put H7 (1 + x) y (o6.trans o7) J7 (by omega) (by omega)
      rw [nvs_len] at y1
      refine ⟨q, _, _, y, rfl, rfl, p1, ixN_d (by rw [nvs_len]; omega), _, rfl, ?_⟩
      rw [show ((1 + x : Nat) : Int) = 1 + (x : Int) by omega] at p2
      exact p2
    refine ⟨_, rfl, rfl, _, rfl, ite2 (fun c3 => ?_) (fun c3 => ⟨_, rfl, k H5 q xs o5 J5 qj hq5 sz⟩)⟩
    · refine ⟨_, rfl, j, 13, rfl, J5, by decide, by decide, fun H6 x x0 x1 o6 J6 => ⟨_, _, rfl, rfl, ?_⟩⟩
      obtain ⟨x, rfl⟩ := Int.eq_ofNat_of_zero_le x0
      refine ⟨_, rfl, _, rfl, _, rfl, q, _, rfl, .inl (SqL.of (o6 _ _ qj hq5)), j, _, rfl, J6, by rw [nvs_len]; omega, by rw [nvs_len]; omega, fun H7 y y0 y1 o7 J7 => ?_⟩
      obtain ⟨y, rfl⟩ := Int.eq_ofNat_of_zero_le y0
      obtain ⟨p1, p2⟩ := put H7 (1 + x) y (o6.trans o7) J7 (by omega) (by omega)
      rw [nvs_len] at y1
      refine ⟨q, _, _, y, rfl, rfl, p1, ixN_d (by rw [nvs_len]; omega), _, rfl, ?_⟩
      rw [show ((1 + x : Nat) : Int) = 1 + (x : Int) by omega] at p2
      exact p2
end
end My

namespace My
open PySem L2 Cm LM CH
abbrev sShw : Stmt := top 36
/-- a drawn chain -/
structure Dr (cs : List (Kd × Nat)) : Prop where
  ne : cs ≠ []
  l : cs.length ≤ 6
  c : ∀ c ∈ cs, Ct c
section
variable {K : PySem.W.Frag} {C CI CP o : Addr} {cs : List (Kd × Nat)} {n : Nat} {H : Hp} {Qn : VK} {E : XK}
theorem notB {n : Nat} {m : Int} (h : (n : Int) ≤ m) (z : btw 0 m (.int (n : Nat)) = false) : False := by
  have z : decide ((0 : Int) ≤ (n : Int) ∧ (n : Int) ≤ m) = false := z
  exact absurd ⟨by omega, h⟩ (of_decide_eq_false z)
theorem num_ok (d : Dr cs) (hO : ChainAt C H o (cline cs)) (hn : n ≤ 999999999999999999) (q : ∀ H2, Same H H2 → Qn (.int ((lens cs n).length : Nat)) H2) : spAN K C CI [.ref o, .int n] H Qn E := by
  refine ⟨o, cline cs, .int n, rfl, hO, line_good d.ne d.c d.l, typed_int _, fun m em hm H2 s2 => ?_, fun z => (notB (by show (n : Int) ≤ 999999999999999999; omega) z).elim⟩
  cases em
  rw [line_cutters d.ne d.c]
  exact q H2 s2
theorem pie_ok {a : Nat} (d : Dr cs) (hO : ChainAt C H o (cline cs)) (hn : n ≤ 999999999999999999) (ha : a < (lens cs n).length) (q : ∀ H2 y, Same H H2 → NPair H2 y (((lens cs n).take a).sum, (lens cs n).getD a 0) → Qn (.ref y) H2) : spAP K C CI CP [.ref o, .int n, .int a] H Qn E := by
  refine ⟨o, cline cs, .int n, .int a, rfl, hO, line_good d.ne d.c d.l, typed_int _, typed_int _, fun m i em hm ei hi H2 y s2 hy => ?_, fun z => (notB (by show (n : Int) ≤ 999999999999999999; omega) z).elim, fun m em hm z => ?_⟩
  · cases em
    cases ei
    rw [line_cutters d.ne d.c] at hy
    exact q H2 y s2 hy
  · cases em
    rw [line_cutters d.ne d.c] at z
    exact (notB (by omega) z).elim
end
theorem tnil_of {σ : L2.St} {H : Hp} {R : List V → Hp → Prop} (h : R [] H) : tNil σ H R := h
theorem fill_line : ∀ n, n < 13 → (("fill " : Str) ++ Str.ofString (toString ((n : Nat) : Int))) = cline [(Kd.fill, n)] ∧ (Str.ofString (toString ((n : Nat) : Int))).length ≤ 5 := by decide +kernel
section
variable {P : Program} {w : World} {K : PySem.W.Frag} {mg : Str → Option Value} {base : Heap}
theorem mk_chain (T : TxA w K mg) {H : Hp} {t : Str} {E : XK} {R : Hp → Prop} {x dx : Addr} (g : goodC t = true) (bd : Bd t) (nx : H x = none) (ndx : H dx = none) (q : ∀ (H' : Hp), Same H H' → ChainAt T.C H' x t → R H') :
    spAI K T.C T.E.C [.ref x, .str t] (upd (upd H dx (.own x)) x (.ins T.C dx [])) (fun v H2 => v = .non ∧ R H2) E := by
  refine ⟨x, dx, _, rfl, upd_same, typed_str _, bd, fun t' et _ H5 o5 l5 => ⟨rfl, ?_⟩, fun z => absurd (g.symm.trans z) (by decide)⟩
  cases et
  exact q H5 (made_same nx ndx o5) l5
def spShw : Sp := fun vs H Q _ => ∃ (n : Nat) (p : Addr) (xs : List Nat), vs = [.int n, .ref p] ∧ 1 ≤ n ∧ n ≤ 12 ∧ H p = some (.lst (nvs xs)) ∧ evenly xs.sum n = xs ∧ xs.length ≤ 100 ∧ xs.sum ≤ 100000 ∧ ∀ H', Same H H' → Q (.bl true) H'
theorem scShw : FnScope ["_law_wide", "_law_lengths_here", "_law_mine", "_law_many", "_law_at"] ["_law_wide", "_law_lengths_here"] (defScope sShw) := ⟨rfl, rfl, rfl, by decide +kernel, rfl, by decide +kernel, by decide +kernel⟩
/-- mine.piece(many, at)[1] -/
def tPc (C : Addr) : TE := fun σ H Q => ∃ (o : Addr) (cs : List (Kd × Nat)) (n i : Nat), σ[2]? = some (some (.ref o)) ∧ σ[3]? = some (some (.int (n : Nat))) ∧ σ[4]? = some (some (.int (i : Nat))) ∧ Dr cs ∧ ChainAt C H o (cline cs) ∧ n ≤ 999999999999999999 ∧ i < (lens cs n).length ∧ ∀ H', Same H H' → Q (.int ((lens cs n).getD i 0 : Nat)) H'
theorem ok_shw (T : TxP w K mg) (D : TxDu K mg) (mstr : mg "str" = none) {f : Addr} {fd : FuncData} (F : Fun K "_law_shown" "_law_shown" sShw f fd) : FnOk P w K mg base CX0 7 f fd ["_law_wide", "_law_lengths_here"] spShw := by
  have GM : FnOk P w K mg base (L2.CX P w) 3 T.R.A.fI T.R.A.fdI ["self", "text"] (spAI K T.R.A.C T.R.A.E.C) := ok_ai T.R.A
  have GN : FnOk P w K mg base (L2.CX P w) 6 T.an.f T.an.fd ["self", "items"] (spAN K T.R.A.C T.eI.C) := ok_an T
  have GP : FnOk P w K mg base (L2.CX P w) 6 T.ap.f T.ap.fd ["self", "items", "place"] (spAP K T.R.A.C T.eI.C T.eP.C) := ok_ap T
  have no1 : ∀ {t : Str} {q : Addr}, (cf t q).lookup ("number" : Str) = none := cf_no _ _ (by decide +kernel) (by decide +kernel)
  have no2 : ∀ {t : Str} {q : Addr}, (cf t q).lookup ("piece" : Str) = none := cf_no _ _ (by decide +kernel) (by decide +kernel)
  refine F.ok scShw (fun vs H Q E h => ?_) (fun cdv A outer s H vs Q E hr h => ?_)
  · obtain ⟨n, p, xs, rfl, _⟩ := h
    rfl
  · obtain ⟨n, p, xs, rfl, n1, n2, hp, he, hl, hs, k⟩ := h
    have hr4 : Room 4 _ := hr.mono (by decide)
    refine ⟨_, (pss_cons (ps_asg (pe_tup (pa_cons (pe_make T.R.A.MI GM hr4 rfl T.R.A.gC T.R.A.bI .nil pass_none (pa_cons (pe_op op_add_str pe_str (pe_callTy call_str_int (by rfl) mstr (by decide +kernel) (pa_cons (pv 0) pa_nil))) pa_nil)) (pa_cons (pe_callB (cr_sum rfl) (by rfl) D.sum (by decide +kernel) (pa_cons (pv 1) pa_nil)) pa_nil))) (pg_tup rfl (pgs_cons (pg_name (i := 2) scShw.nd rfl (.inr rfl)) (pgs_cons (pg_name (i := 3) scShw.nd rfl (.inr rfl)) pgs_nil)))) (pss_cons (ps_if (pt_cmpR op_ne (pe_meth (pv 2) T.R.A.cl T.an.m GN hr T.an.b .nil pass_none (pa_cons (pv 3) pa_nil)) (pe_callB call_len_seq (by rfl) D.J.len PySem.boot_len (pa_cons (pv 1) pa_nil)) (nomark _)) (pss_one (ps_ret pe_bl)) pss_nil) (pss_one (ps_ret (pe_cmpR (op_eqD (hu64 hr)) (pe_lc (own := [("_law_at", 4)]) (g := gName 4) (tt := tYes) (te := tPc T.R.A.C) rfl scShw.nd (pi_range1 rfl D.range (pa_cons (pe_callB call_len_seq (by rfl) D.J.len PySem.boot_len (pa_cons (pv 1) pa_nil)) pa_nil)) (blkOk_by (own := [("_law_at", 4)]) (N := ["_law_wide", "_law_lengths_here", "_law_mine", "_law_many", "_law_at"]) (sc := defScope sShw) (by decide +kernel)) (fun _ _ _ _ _ => pg_name (i := 4) scShw.nd rfl (Or.inl rfl)) (fun _ _ _ _ _ => pts_nil) (fun _ _ _ _ _ => by exact pe_imp (t' := tPc T.R.A.C) (pe_ix ix_tup (pe_meth (pv 2) T.R.A.cl T.ap.m GP hr T.ap.b .nil pass_none (pa_cons (pv 3) (pa_cons (pv 4) pa_nil))) pe_int (fun _ _ => rfl)) (fun σ H1 Q1 ⟨o, cs, n, i, h2, h3, h4, d, hO, hn, hi, k⟩ => by
        obtain ⟨dx, px, vx, ex, _⟩ := id hO
        refine ⟨_, h2, o, dx, _, rfl, ex, no2, _, h3, _, h4, ?_⟩
        refine tnil_of ?_
        refine pie_ok d hO hn hi fun H2 y s2 hy => ?_
        exact ⟨y, _, 1, _, rfl, rfl, SqT.of hy, rfl, k H2 s2⟩))) (pv 1) (nomark _)))))), ?_⟩
    obtain ⟨fl, fn⟩ := fill_line n (by omega)
    have dr : Dr [(Kd.fill, n)] := ⟨by simp, by simp, fun c h => by rw [List.mem_singleton.mp h]; exact ⟨n1, n2⟩⟩
    have el : lens [(Kd.fill, n)] xs.sum = xs := he
    refine ⟨_, rfl, _, rfl, by rw [Int.natAbs_natCast]; exact Nat.lt_of_le_of_lt (Nat.log2_le_self _) (by omega), _, _, rfl, rfl, szl (show (("fill " : Str)).length + (Str.ofString (toString ((n : Nat) : Int))).length ≤ 1000 from Nat.le_trans (Nat.add_le_add (show (("fill " : Str)).length ≤ 5 by decide +kernel) fn) (by decide)), ?_⟩
    refine fun x dx nx ndx nex => mk_chain T.R.A (by rw [fl]; exact line_good dr.ne dr.c dr.l) (by rw [fl]; exact Nat.le_trans (line_len dr.c) (by show 9 * 1 ≤ 100000; decide)) nx ndx fun H2 s2 hO => ?_
    rw [fl] at hO
    refine ⟨_, rfl, p, xs.map fun n => ((n : Nat) : Int), rfl, SqL.of (s2 _ _ hp), ?_⟩
    rw [isum]
    refine ⟨(by show 2 ≤ sizeLine; decide), fun t nt => ⟨t, _, rfl, SqT.of upd_same, rfl, _, _, rfl, _, _, rfl, rfl, ?_⟩⟩
    have s3 := Same.trans s2 (same_new (o := .tup [.ref x, .int (xs.sum : Nat)]) nt)
    have hO3 := hO.same (same_new (o := .tup [.ref x, .int (xs.sum : Nat)]) nt)
    generalize upd H2 t (.tup [.ref x, .int (xs.sum : Nat)]) = H3 at s3 hO3 ⊢
    obtain ⟨dx3, px3, vx3, ex3, _⟩ := id hO3
    refine ⟨_, rfl, x, dx3, _, rfl, ex3, no1, _, rfl, ?_⟩
    refine tnil_of ?_
    refine num_ok dr hO3 (by omega) fun H4 s4 => ?_
    have s14 := Same.trans s3 s4
    rw [el]
    refine ⟨_, rfl, p, _, rfl, .inl (SqL.of (s14 _ _ hp)), rfl, _, rfl, ?_⟩
    rw [nvs_len, decide_eq_true rfl]
    refine iteF ?_
    have hp4 := s14 _ _ hp
    have hO4 := hO3.same s4
    refine ⟨_, rfl, p, _, rfl, .inl (SqL.of hp4), _, rfl, by rw [nvs_len]; omega, by rw [nvs_len]; omega, fun Dd nD => ?_⟩
    rw [nvs_len, Int.toNat_natCast]
    refine lc_range (lo := 0) (n := xs.length) (fun i H' => Same H4 H' ∧ H' Dd = some (.lst (nvs (xs.take i)))) ⟨same_new nD, upd_same⟩ ?_ ?_
    · rintro i H' hi ⟨s', hD⟩
      refine ⟨rfl, x, [(Kd.fill, n)], xs.sum, i, rfl, rfl, by rw [Int.zero_add]; rfl, dr, hO4.same s', by omega, by rw [el]; exact hi, fun H5 s5 => ⟨_, s5 _ _ hD, szM (by rw [nvs_len, List.length_take]; omega), fun b o z => ?_, ?_⟩⟩
      · rw [upd_ne (ne_of_none z nD)]
        exact s5 _ _ (s' _ _ z)
      · rw [upd_same, el, take_snoc (List.getElem?_eq_getElem hi), nvs_app, getD_eq hi]
        rfl
    · rintro H' ⟨s', hD⟩
      rw [List.take_length] at hD
      refine ⟨_, rfl, .list (natD xs), .list (natD xs), .lst (SqL.of hD) (dp_nat _), .lst (SqL.of (s' _ _ hp4)) (dp_nat _), natL_shaped _, natL_shaped _, ?_⟩
      rw [PyData.eqv, nat_eqv, decide_eq_true rfl]
      exact k H' (Same.trans s14 s')
end
end My

namespace My
open PySem L2 Cm LM CH Gd RpA SkT
abbrev sOdd : Stmt := top 37
section
variable {P : Program} {w : World} {K : PySem.W.Frag} {mg : Str → Option Value} {base : Heap}
theorem typedI_dq {H : Hp} {v : V} {d : PyData} (q : Dq H v d) : TypedI K H v := by
  have t := dq_ty (K := K) q
  cases q with
  | non => exact ⟨_, t, kit_ty (show kitB "NoneType" "int" = some false by decide +kernel), kit_ty (show kitB "NoneType" "bool" = some false by decide +kernel)⟩
  | bl b => exact typed_bl b
  | int i => exact typed_int i
  | str x => exact ⟨_, t, kit_ty (show kitB "str" "int" = some false by decide +kernel), kit_ty (show kitB "str" "bool" = some false by decide +kernel)⟩
  | lst h _ => exact ⟨_, t, kit_ty (show kitB "list" "int" = some false by decide +kernel), kit_ty (show kitB "list" "bool" = some false by decide +kernel)⟩
  | tup h _ => exact ⟨_, t, kit_ty (show kitB "tuple" "int" = some false by decide +kernel), kit_ty (show kitB "tuple" "bool" = some false by decide +kernel)⟩
  | dct h => exact ⟨_, t, kit_ty (show kitB "dict" "int" = some false by decide +kernel), kit_ty (show kitB "dict" "bool" = some false by decide +kernel)⟩
def noSz : PyData → Bool
  | .int i => !decide ((1 : Int) ≤ i ∧ i ≤ 1000)
  | _ => true
/-- no sizes, as data -/
def badD : PyData → Bool
  | .tuple ds => decide (100 < ds.length) || ds.any noSz
  | _ => true
theorem noSz_btw {H : Hp} {v : V} {d : PyData} (q : Dq H v d) : btw 1 1000 v = !noSz d := by
  cases q with
  | int i => simp [btw, noSz]
  | _ => rfl
theorem okSz_dq {H : Hp} : ∀ {xs : List V} {ds : List PyData}, DqA H xs ds → okSz xs = !(ds.any noSz)
  | _, _, .nil => rfl
  | _, _, .cons (v := v) (vs := vs) (d := d) (ds := ds) a t => by
    have ih := okSz_dq t
    have e : okSz (v :: vs) = (btw 1 1000 v && okSz vs) := rfl
    rw [e, ih, noSz_btw a, List.any_cons, Bool.not_or]
theorem bad_sz {H : Hp} {v : V} {d : PyData} (q : Dq H v d) (b : badD d = true) : BadSz K H v := by
  have t := dq_ty (K := K) q
  cases q with
  | non => exact .inl ⟨_, t, kit_ty (show kitB "NoneType" "tuple" = some false by decide +kernel)⟩
  | bl b => exact .inl ⟨_, t, kit_ty (show kitB "bool" "tuple" = some false by decide +kernel)⟩
  | int i => exact .inl ⟨_, t, kit_ty (show kitB "int" "tuple" = some false by decide +kernel)⟩
  | str x => exact .inl ⟨_, t, kit_ty (show kitB "str" "tuple" = some false by decide +kernel)⟩
  | lst h _ => exact .inl ⟨_, t, kit_ty (show kitB "list" "tuple" = some false by decide +kernel)⟩
  | dct h => exact .inl ⟨_, t, kit_ty (show kitB "dict" "tuple" = some false by decide +kernel)⟩
  | tup h a =>
    refine .inr ⟨_, _, _, rfl, h, t, kit_ty (show kitB "tuple" "tuple" = some true by decide +kernel), ?_⟩
    rename_i ad xs ds
    have hl := dqa_len a
    by_cases c : 100 < xs.length
    · exact .inl c
    · refine .inr ⟨by omega, fun x hx => ?_, ?_⟩
      · obtain ⟨e, _, he⟩ := dqa_mem a x hx
        exact typedI_dq he
      · have b : (decide (100 < ds.length) || ds.any noSz) = true := b
        rw [← hl, decide_eq_false c, Bool.false_or] at b
        rw [okSz_dq a, b]
        rfl
/-! ### values that are no sizes -/
def OddV (H : Hp) (v : V) : Prop := ∃ d, Dq H v d ∧ badD d = true ∧ Sw 10000 64 d
def WrongV (H : Hp) (v : V) : Prop := ∃ d, Dq H v d ∧ noSz d = true ∧ Sw 30 2 d
theorem dqa_nat {H : Hp} : ∀ xs : List Nat, DqA H (nvs xs) (natD xs)
  | [] => .nil
  | x :: r => .cons (.int _) (dqa_nat r)
theorem sw_nat {n : Nat} (h : n ≤ 1000) : Sw 30 2 (.int (n : Nat)) := (sw_int (by rw [Int.natAbs_natCast]; omega) (SH.num_le (by omega))).mono (by decide) (by decide)
theorem sw_nats {xs : List Nat} (h : ∀ x ∈ xs, x ≤ 1000) : ∀ d ∈ natD xs, Sw 30 2 d := fun d hd => by
  obtain ⟨x, hx, rfl⟩ := List.mem_map.mp hd
  exact sw_nat (h x hx)
theorem natD_len (xs : List Nat) : (natD xs).length = xs.length := List.length_map ..
theorem odd0 {H : Hp} {i : Nat} {x : V} {t : Addr} (ht : H t = some (.dK [])) (hx : ([.non, .int 5, .str "44", .bl true, .ref t, .str "", .int 0] : List V)[i]? = some x) : OddV H x := by
  match i, hx with
  | 0, hx => cases (Option.some.inj hx); exact ⟨_, .non, rfl, by decide +kernel, by decide +kernel, by decide +kernel, by decide +kernel⟩
  | 1, hx => cases (Option.some.inj hx); exact ⟨_, .int 5, rfl, by decide +kernel, by decide +kernel, by decide +kernel, by decide +kernel⟩
  | 2, hx => cases (Option.some.inj hx); exact ⟨_, .str "44", rfl, by decide +kernel, by decide +kernel, by decide +kernel, by decide +kernel⟩
  | 3, hx => cases (Option.some.inj hx); exact ⟨_, .bl true, rfl, by decide +kernel, by decide +kernel, by decide +kernel, by decide +kernel⟩
  | 4, hx => cases (Option.some.inj hx); exact ⟨_, .dct ht, rfl, by decide +kernel, by decide +kernel, by decide +kernel, by decide +kernel⟩
  | 5, hx => cases (Option.some.inj hx); exact ⟨_, .str "", rfl, by decide +kernel, by decide +kernel, by decide +kernel, by decide +kernel⟩
  | 6, hx => cases (Option.some.inj hx); exact ⟨_, .int 0, rfl, by decide +kernel, by decide +kernel, by decide +kernel, by decide +kernel⟩
theorem wrong0 {H : Hp} {i : Nat} {x : V} {t l : Addr} (ht : H t = some (.tup [.int 4])) (hl : H l = some (.lst [.int 4])) (hx : ([.int 0, .int (-1), .int 1001, .bl true, .non, .str "4", .ref t, .int 10000000000000000000, .ref l] : List V)[i]? = some x) : WrongV H x := by
  match i, hx with
  | 0, hx => cases (Option.some.inj hx); exact ⟨_, .int 0, by decide, by decide +kernel, by decide +kernel, by decide +kernel, by decide +kernel⟩
  | 1, hx => cases (Option.some.inj hx); exact ⟨_, .int (-1), by decide, by decide +kernel, by decide +kernel, by decide +kernel, by decide +kernel⟩
  | 2, hx => cases (Option.some.inj hx); exact ⟨_, .int 1001, by decide, by decide +kernel, by decide +kernel, by decide +kernel, by decide +kernel⟩
  | 3, hx => cases (Option.some.inj hx); exact ⟨_, .bl true, rfl, by decide +kernel, by decide +kernel, by decide +kernel, by decide +kernel⟩
  | 4, hx => cases (Option.some.inj hx); exact ⟨_, .non, rfl, by decide +kernel, by decide +kernel, by decide +kernel, by decide +kernel⟩
  | 5, hx => cases (Option.some.inj hx); exact ⟨_, .str "4", rfl, by decide +kernel, by decide +kernel, by decide +kernel, by decide +kernel⟩
  | 6, hx => cases (Option.some.inj hx); exact ⟨_, .tup ht (.cons (.int 4) .nil), rfl, by decide +kernel, by decide +kernel, by decide +kernel, by decide +kernel⟩
  | 7, hx => cases (Option.some.inj hx); exact ⟨_, .int 10000000000000000000, by decide, by decide +kernel, by decide +kernel, by decide +kernel, by decide +kernel⟩
  | 8, hx => cases (Option.some.inj hx); exact ⟨_, .lst hl (.cons (.int 4) .nil), rfl, by decide +kernel, by decide +kernel, by decide +kernel, by decide +kernel⟩
theorem odd_lst {H : Hp} {l : Addr} {xs : List Nat} (h : Szs xs) (hl : H l = some (.lst (nvs xs))) : OddV H (.ref l) := by
  refine ⟨_, .lst hl (dqa_nat xs), rfl, (sw_lst (sw_nats fun x hx => (h.2 x hx).2)).mono ?_ (by decide)⟩
  rw [natD_len]
  have := h.1
  omega
theorem odd_many {H : Hp} {l : Addr} {xs : List Nat} (h : Szs xs) (hl : H l = some (.tup (nvs (xs ++ List.replicate (101 - xs.length) 4)))) : OddV H (.ref l) := by
  have hx := h.1
  have e : (xs ++ List.replicate (101 - xs.length) 4).length = 101 := by
    rw [List.length_append, List.length_replicate]
    omega
  refine ⟨_, .tup hl (dqa_nat _), ?_, (sw_tup (sw_nats fun x hx => ?_)).mono ?_ (by decide)⟩
  · show (decide (100 < (natD _).length) || _) = true
    rw [natD_len, e]
    rfl
  · rcases List.mem_append.mp hx with z | z
    · exact (h.2 x z).2
    · rw [List.eq_of_mem_replicate z]; decide
  · rw [natD_len, e]
    decide
theorem odd_one {H : Hp} {l : Addr} {xs ys : List Nat} {v : V} (hw : WrongV H v) (h1 : ∀ x ∈ xs, x ≤ 1000) (h2 : ∀ x ∈ ys, x ≤ 1000) (hn : xs.length + ys.length ≤ 200) (hl : H l = some (.tup (nvs xs ++ [v] ++ nvs ys))) : OddV H (.ref l) := by
  obtain ⟨d, q, hd, hs⟩ := hw
  refine ⟨_, .tup hl (dqa_app (dqa_app (dqa_nat xs) (.cons q .nil)) (dqa_nat ys)), ?_, (sw_tup (n := 30) (k := 2) fun x hx => ?_).mono ?_ (by decide)⟩
  · show (_ || (natD xs ++ [d] ++ natD ys).any noSz) = true
    rw [List.any_append, List.any_append, List.any_cons, hd]
    simp
  · rcases List.mem_append.mp hx with z | z
    · rcases List.mem_append.mp z with z | z
      · exact sw_nats h1 x z
      · rw [List.mem_singleton.mp z]; exact hs
    · exact sw_nats h2 x z
  · rw [List.length_append, List.length_append, natD_len, natD_len]
    simp only [List.length_cons, List.length_nil]
    omega
def spOdd : Sp := fun vs H Q _ => ∃ (j p : Addr) (xs : List Nat), vs = [.ref j, .ref p] ∧ Jar H j ∧ p ≠ j ∧ H p = some (.lst (nvs xs)) ∧ Szs xs ∧ ∀ (H' : Hp) (v : V), Off j H H' → Jar H' j → OddV H' v → Q v H'
theorem scOdd : FnScope ["_law_jar_here", "_law_lengths_here", "_law_way", "_law_at", "_law_wrong"] ["_law_jar_here", "_law_lengths_here"] (defScope sOdd) := ⟨rfl, rfl, rfl, by decide +kernel, rfl, by decide +kernel, by decide +kernel⟩
theorem nvs_drop (xs : List Nat) (k : Nat) : (nvs xs).drop k = nvs (xs.drop k) := by simp [nvs, List.map_drop]
theorem nvs_take' (xs : List Nat) (k : Nat) : (nvs xs).take k = nvs (xs.take k) := by simp [nvs, List.map_take]
theorem jar_no {H : Hp} {j p : Addr} (a : Jar H j) (n : H p = none) : p ≠ j := fun z => by
  obtain ⟨x, y, w, h⟩ := a
  rw [z, h] at n
  cases n
theorem ok_odd (T : TxDu K mg) (S : Df K mg "_law_sip" sSip ["_law_jar_here", "_law_many"]) (Fr : Df K mg "_law_from" sFrom ["_law_jar_here", "_law_things"]) (mlist : mg "list" = none) {f : Addr} {fd : FuncData} (F : Fun K "_law_odd" "_law_odd" sOdd f fd) : FnOk P w K mg base CX0 3 f fd ["_law_jar_here", "_law_lengths_here"] spOdd := by
  have GS : FnOk P w K mg base CX0 1 S.f S.fd ["_law_jar_here", "_law_many"] spSip := ok_sip S.F T.J
  have GF : FnOk P w K mg base CX0 2 Fr.f Fr.fd ["_law_jar_here", "_law_things"] (spFrom K) := ok_from Fr.F T.J ⟨S.g, S.k⟩ S.F S.b
  refine F.ok scOdd (fun vs H Q E h => ?_) (fun cdv A outer s H vs Q E hr h => ?_)
  · obtain ⟨j, p, xs, rfl, _⟩ := h
    rfl
  · obtain ⟨j, p, xs, rfl, hJ, pj, hp, hx, k⟩ := h
    have hr1 : Room 1 _ := hr.mono (by decide)
    refine ⟨_, (pss_cons (ps_par (i := 2) (j := 3) rfl scOdd.nd rfl rfl (by decide) rfl rfl (pa_cons (pe_call GS hr1 rfl S.g S.k S.b .nil pass0 (pa_cons (pv 0) (pa_cons pe_int pa_nil))) (pa_cons (pe_call GS hr1 rfl S.g S.k S.b .nil pass0 (pa_cons (pv 0) (pa_cons (pe_op op_add (pe_callB call_len_seq (by rfl) T.J.len PySem.boot_len (pa_cons (pv 1) pa_nil)) pe_int) pa_nil))) pa_nil)) (by rfl)) (pss_cons (ps_if (pt_cmpR op_eq (pv 2) pe_int (nomark _)) (pss_one (ps_ret (pe_callTy call_list_of (by rfl) mlist (by decide +kernel) (pa_cons (pv 1) pa_nil)))) pss_nil) (pss_cons (ps_if (pt_cmpR op_eq (pv 2) pe_int (nomark _)) (pss_one (ps_ret (pe_callTy call_tuple_of (by rfl) T.tuple (by decide +kernel) (pa_cons (pe_op op_cat (pv 1) (pe_op op_rep (pe_lst (pa_cons pe_int pa_nil)) (pe_op op_sub pe_int (pe_callB call_len_seq (by rfl) T.J.len PySem.boot_len (pa_cons (pv 1) pa_nil))))) pa_nil)))) pss_nil) (pss_cons (ps_if (pt_cmpR op_eq (pv 2) pe_int (nomark _)) (pss_one (ps_ret (pe_call GF hr rfl Fr.g Fr.k Fr.b .nil pass0 (pa_cons (pv 0) (pa_cons (pe_lst (pa_cons pe_non (pa_cons pe_int (pa_cons pe_str (pa_cons pe_bl (pa_cons pe_dnewK (pa_cons pe_str (pa_cons pe_int pa_nil)))))))) pa_nil))))) pss_nil) (C8.pss_cut (ps_set (i := 4) scOdd.nd rfl (.inl rfl) (pe_call GF hr rfl Fr.g Fr.k Fr.b .nil pass0 (pa_cons (pv 0) (pa_cons (pe_lst (pa_cons pe_int (pa_cons (pe_un un_neg pe_int) (pa_cons pe_int (pa_cons pe_bl (pa_cons pe_non (pa_cons pe_str (pa_cons (pe_tup (pa_cons pe_int pa_nil)) (pa_cons (pe_op op_pow pe_int pe_int) (pa_cons (pe_lst (pa_cons pe_int pa_nil)) pa_nil)))))))))) pa_nil)))) (pss_one (ps_ret (pe_callTy call_tuple_of (by rfl) T.tuple (by decide +kernel) (pa_cons (pe_op op_cat (pe_op op_cat (pe_slice sl_list (pv 1) po_none (po_some (pv 3))) (pe_lst (pa_cons (pv 4) pa_nil))) (pe_slice sl_list (pv 1) (po_some (pe_op op_add (pv 3) pe_int)) po_none)) pa_nil))))))))), ?_⟩
    have hl := hx.1
    refine ⟨_, rfl, j, 7, rfl, hJ, by decide, by decide, fun H1 d d0 d1 o1 J1 => ?_⟩
    have hp1 := o1 _ _ pj hp
    refine ⟨_, rfl, _, rfl, p, _, rfl, .inl (SqL.of hp1), _, _, rfl, rfl, j, _, rfl, J1, by rw [nvs_len]; omega, by rw [nvs_len]; omega, fun H2 e e0 e1 o2 J2 => ⟨_, _, rfl, ?_⟩⟩
    rw [nvs_len] at e1
    obtain ⟨at_, rfl⟩ := Int.eq_ofNat_of_zero_le e0
    have o12 := o1.trans o2
    have hp2 := o2 _ _ pj hp1
    refine ⟨_, rfl, rfl, _, rfl, ite2 (fun c => ?_) (fun c => ?_)⟩
    · refine ⟨_, rfl, p, _, rfl, .inl (SqL.of hp2), fun l nl => ?_⟩
      exact k _ _ (o12.new nl) (J2.new nl) (odd_lst hx upd_same)
    refine ⟨_, rfl, rfl, _, rfl, ite2 (fun c => ?_) (fun c => ?_)⟩
    · refine ⟨_, rfl, (by show 1 ≤ sizeLine; decide), fun l nl => ?_⟩
      have hp3 := same_new (o := .lst [.int 4]) nl _ _ hp2
      have en : ((101 : Int) - ((nvs xs).length : Int)).toNat = 101 - xs.length := by rw [nvs_len]; omega
      refine ⟨_, rfl, p, _, rfl, .inl (SqL.of hp3), _, _, rfl, rfl, l, _, _, rfl, rfl, upd_same, by rw [nvs_len]; omega, by rw [nvs_len]; omega, by rw [en]; exact Nat.le_of_lt (szM (by show 1 * (101 - xs.length) ≤ 1000000; omega)), fun q nq => ?_⟩
      rw [en]
      have er : (List.replicate (101 - xs.length) [V.int 4]).flatten = nvs (List.replicate (101 - xs.length) 4) := rep_nvs 4 (101 - xs.length)
      rw [er]
      have nq0 := (same_new (o := .lst [.int 4]) nl).free nq
      refine cat (same_new nq _ _ hp3) upd_same (Nat.le_of_lt (szM (by rw [nvs_len, nvs_len, List.length_replicate]; omega))) fun z nz H4 s4 hz => ?_
      rw [← nvs_app] at hz
      have s24 := Same.trans (Same.trans (same_new (o := .lst [.int 4]) nl) (same_new nq)) s4
      refine ⟨z, _, rfl, .inl ⟨SqL.of hz, fun q2 nq2 => ?_⟩⟩
      exact k _ _ ((o12.trans (Same.off s24)).new nq2) ((J2.same s24).new nq2) (odd_many hx upd_same)
    refine ⟨_, rfl, rfl, _, rfl, ite2 (fun c => ?_) (fun c => ?_)⟩
    · refine ⟨_, rfl, fun dd ndd => ⟨(by show 7 ≤ sizeLine; decide), fun Lb nLb => ?_⟩⟩
      have u1 := same_new (o := .dK []) ndd
      have u2 := same_new (o := .lst [.non, .int 5, .str "44", .bl true, .ref dd, .str "", .int 0]) nLb
      refine ⟨j, Lb, _, rfl, J2.same (Same.trans u1 u2), jar_no (J2.same u1) nLb, SqL.of upd_same, (by show 0 < 7; decide), (by show 7 < 1073741824; decide), fun H9 i x hi o9 J9 => ?_⟩
      exact k _ _ ((o12.trans (Same.off (Same.trans u1 u2))).trans o9) J9 (odd0 (o9 _ _ (jar_no J2 ndd) (u2 _ _ upd_same)) hi)
    refine ⟨fun σ H' => ∃ x, σ = [some (.ref j), some (.ref p), some (.int d), some (.int at_), some x] ∧ Off j H2 H' ∧ Jar H' j ∧ WrongV H' x, ?_, ?_⟩
    · refine ⟨_, rfl, ?_⟩
      refine ⟨_, rfl, (by show 1 ≤ sizeLine; decide), fun t nt => ⟨_, _, rfl, rfl, ⟨by decide, by decide, by decide⟩, (by show 1 ≤ sizeLine; decide), fun l nl => ⟨(by show 9 ≤ sizeLine; decide), fun L nL => ?_⟩⟩⟩
      have u1 := same_new (o := .tup [.int 4]) nt
      have u2 := same_new (o := .lst [.int 4]) nl
      have ep : ((10 : Int) ^ (19 : Int).toNat) = 10000000000000000000 := by decide
      have u3 := same_new (o := .lst [.int 0, .int (-1), .int 1001, .bl true, .non, .str "4", .ref t, .int 10000000000000000000, .ref l]) nL
      refine ⟨j, L, [.int 0, .int (-1), .int 1001, .bl true, .non, .str "4", .ref t, .int 10000000000000000000, .ref l], rfl, J2.same (Same.trans u1 (Same.trans u2 u3)), jar_no (J2.same (Same.trans u1 u2)) nL, SqL.of upd_same, (by show 0 < 9; decide), (by show 9 < 1073741824; decide), fun H9 i x hi o9 J9 => ?_⟩
      refine ⟨x, rfl, (Same.off (Same.trans u1 (Same.trans u2 u3))).trans o9, J9, wrong0 (o9 _ _ (jar_no J2 nt) (u3 _ _ (u2 _ _ upd_same))) (o9 _ _ (jar_no (J2.same u1) nl) (u3 _ _ upd_same)) hi⟩
    · rintro _ H3 ⟨x, rfl, o3, J3, hw⟩
      have hp3 := o3 _ _ pj hp2
      refine ⟨_, rfl, _, rfl, _, rfl, ?_⟩
      refine sl_to (k := at_) hp3 rfl (by rw [nvs_len]; omega) fun r nr H4 s4 hr4 => ?_
      refine ⟨_, rfl, (by show 1 ≤ sizeLine; decide), fun l nl => ?_⟩
      have s5 := same_new (o := .lst [x]) nl
      have hl5 : (upd H4 l (.lst [x])) l = some (.lst [x]) := upd_same
      have hr5 := s5 _ _ hr4
      generalize upd H4 l (.lst [x]) = H5 at s5 hl5 hr5 ⊢
      have s35 := Same.trans s4 s5
      refine cat hr5 hl5 (Nat.le_of_lt (szM (by rw [List.length_take, nvs_len]; simp; omega))) fun z nz H6 s6 hz => ?_
      have s36 := Same.trans s35 s6
      refine ⟨_, rfl, _, rfl, _, _, rfl, rfl, _, rfl, ?_⟩
      unfold tNoPart
      refine sl_from (k := at_ + 1) (s36 _ _ hp3) (by omega) fun r2 nr2 H7 s7 hr7 => ?_
      have s37 := Same.trans s36 s7
      refine cat (s7 _ _ hz) hr7 (Nat.le_of_lt (szM (by rw [List.length_append, List.length_take, List.length_drop, nvs_len]; simp; omega))) fun z2 nz2 H8 s8 hz2 => ?_
      have s38 := Same.trans s37 s8
      rw [nvs_take', nvs_drop] at hz2
      refine ⟨z2, _, rfl, .inl ⟨SqL.of hz2, fun q nq => ?_⟩⟩
      have s39 := Same.trans s38 (same_new (o := .tup (nvs (xs.take at_) ++ [x] ++ nvs (xs.drop (at_ + 1)))) nq)
      obtain ⟨d', q1, q2, q3⟩ := hw
      exact k _ _ (o12.trans (o3.trans (Same.off s39))) (J3.same s39) (odd_one ⟨d', q1.same s39, q2, q3⟩ (fun x hx' => (hx.2 x (List.mem_of_mem_take hx')).2) (fun x hx' => (hx.2 x (List.mem_of_mem_drop hx')).2) (by rw [List.length_take, List.length_drop]; omega) upd_same)
end
end My

/-! laws that hand lambdas to _law_came: what stays, the tables of code -/
namespace My
open PySem L2
def qLam : Str := ("_law_right" : Str) ++ ".<locals>." ++ "<lambda>"
/-- all but the jar and the tables is as it was -/
def OffN (j : Addr) (H H' : Hp) : Prop := ∀ b o, b ≠ j → (∀ ps, o ≠ .tbl ps) → H b = some o → H' b = some o
theorem OffN.refl {j : Addr} {H : Hp} : OffN j H H := fun _ _ _ _ h => h
theorem OffN.trans {j : Addr} {H H1 H2 : Hp} (a : OffN j H H1) (b : OffN j H1 H2) : OffN j H H2 := fun c o n t h => b c o n t (a c o n t h)
theorem Off.offN {j : Addr} {H H' : Hp} (a : Off j H H') : OffN j H H' := fun c o n _ h => a c o n h
theorem extN_off {j : Addr} {H H' : Hp} (a : LamX.ExtN H H') : OffN j H H' := fun c o _ t h => a c o h t
theorem Jar.ext {j : Addr} {H H' : Hp} (h : Jar H j) (a : LamX.ExtN H H') : Jar H' j := by
  obtain ⟨x, y, z, e⟩ := h
  exact ⟨x, y, z, a _ _ e (by intro ps q; cases q)⟩
theorem tabs_off {T : List (Addr × Str)} {j : Addr} {H H' : Hp} (J : Jar H j) (o : Off j H H') (t : LamX.Tabs T H) : LamX.Tabs T H' := fun p hp => by
  obtain ⟨x, y, z, q⟩ := J
  obtain ⟨ps, a1, a2, a3⟩ := t p hp
  refine ⟨ps, o _ _ (fun e => ?_) a1, a2, fun pos cv hcv => ?_⟩
  · rw [e, q] at a1
    cases a1
  · obtain ⟨c, e, h⟩ := a3 pos cv hcv
    refine ⟨c, e, o _ _ (fun e => ?_) h⟩
    rw [e, q] at h
    cases h
def spRight (PR : Addr) : Sp := fun vs H Q _ => ∃ j : Addr, vs = [.ref j] ∧ Jar H j ∧ LamX.Tabs [(PR, qLam)] H ∧ ∀ H', OffN j H H' → LamX.Tabs [(PR, qLam)] H' → Q (.bl true) H'
/-- the state of a law's turns: the jar, the tables -/
structure Ts (PR j : Addr) (H0 H : Hp) : Prop where
  off : OffN j H0 H
  jar : Jar H j
  tab : LamX.Tabs [(PR, qLam)] H
theorem Ts.same {PR j : Addr} {H0 H H' : Hp} (t : Ts PR j H0 H) (s : Same H H') : Ts PR j H0 H' := ⟨t.off.trans (Same.off s).offN, t.jar.same s, t.tab.ext s⟩
theorem Ts.off' {PR j : Addr} {H0 H H' : Hp} (t : Ts PR j H0 H) (o : Off j H H') (J : Jar H' j) : Ts PR j H0 H' := ⟨t.off.trans o.offN, J, tabs_off t.jar o t.tab⟩
theorem Ts.ext {PR j : Addr} {H0 H H' : Hp} (t : Ts PR j H0 H) (o : LamX.ExtN H H') (T : LamX.Tabs [(PR, qLam)] H') : Ts PR j H0 H' := ⟨t.off.trans (extN_off o), t.jar.ext o, T⟩
end My

namespace My
open PySem L2 Cm LM CH Gd RpA SkT IsX
abbrev sCame : Stmt := top 33
/-- what the text says for _law_came -/
structure TxCm (K : PySem.W.Frag) (mg : Str → Option Value) (CE : Addr) where
  CI : Addr
  isi : mg "isinstance" = none
  ve : mg "ValueError" = none
  repr : mg "repr" = none
  gE : mg "InvalidPlace" = some (.ref CE)
  gI : mg "InputError" = some (.ref CI)
  x : XiC K CE
  nV : PySem.W.findIn K (.ref CE) "value" = some none
  te : PySem.W.exmOne K (.ref CE) (.ref CE) = some true
  k1 : PySem.W.kitOne K (.ref CE) (.ref CI) = some true
  k2 : PySem.W.kitOne K (.ref CE) (.type "ValueError") = some true
  cm : Df K mg "_law_came" sCame ["_law_ask"]
theorem scCame : FnScope ["_law_ask", "_law_given", "e"] ["_law_ask"] (defScope sCame) := ⟨rfl, rfl, rfl, by decide +kernel, rfl, by decide +kernel, by decide +kernel⟩
/-- data that can be shown, and what is made of its text -/
def Shows (H : Hp) (v : V) (mk : Str → List V) (Q : VK) : Prop := ∃ (dt : PyData) (n : Nat), Dq H v dt ∧ Sw n 64 dt ∧ n ≤ sizeLine ∧ ∀ p, H p = none → Q (.ref p) (upd H p (.lst (mk dt.shown)))
/-- what _law_came makes of a call -/
def TCame (CE : Addr) : (XK → Hp → VK → Prop) → Hp → VK → Prop := fun tl H Q =>
  tl (fun cls d H' => cls = .ref CE ∧ ∃ (dd : Addr) (v : V), d = some dd ∧ H' dd = some (.xd [("value", v)]) ∧ Shows H' v (fun t => [.str "InvalidPlace", .str t, .bl true]) Q) H
    (fun v H' => ∃ u : V, some (some v) = some (some u) ∧ Shows H' u (fun t => [.str "given", .str t]) Q)
theorem pss_imp {X : Cx} {ss : List Stmt} {t t' : L2.TS} (h : PSs X ss t) (f : ∀ D σ H, t' D σ H → t D σ H) : PSs X ss t' := ⟨fun pins s σ H D I q => h.run pins s σ H D I (f _ _ _ q)⟩
def tGiv : L2.TS := fun D σ H => ∃ u : V, σ[1]? = some (some u) ∧ Shows H u (fun t => [.str "given", .str t]) D.rt
theorem came_gives {X : Cx} {CE : Addr} {cdg : Value} {q : Str} {ob : Obj} (T : TxCm X.K X.mg CE) (hg : X.A.guards = some []) (hu : X.A.units + 100 < cLine) (sm : X.base.get? sysModules = some ob) :
    LamX.GivesTo X ["_law_ask", "_law_given", "e"] "_law_came" (defScope sCame) T.cm.f cdg (defBody sCame) "_law_ask" q (TCame CE) := by
  intro f c' s H Q tl act hc h
  have hg1 : (X.A.deeper (PyProof.Rows.envOfC "_law_came" (defScope sCame) s.heap.objs.size T.cm.f cdg)).guards = some [] := hg
  have hu1 : (X.A.deeper (PyProof.Rows.envOfC "_law_came" (defScope sCame) s.heap.objs.size T.cm.f cdg)).units + 66 < cLine := by
    show X.A.units + 3 + 66 < cLine
    omega
  refine ⟨_, pss_cons (ps_try_as (X := (cxOf C8.CX0 X.prog X.w X.K X.mg X.base ["_law_ask", "_law_given", "e"] "_law_came" (defScope sCame) T.cm.f cdg X.A X.stack s H C8.E0).nox) (i := 2) (c := .ref CE)
      (tb := fun W D σ H => ∃ Ech : XK, (∀ (cls : Value) (d : Option Addr) (σ' : L2.St) (H' : Hp), Ech cls d H' → σ'.length = 3 → W cls d σ' H') ∧ σ[0]? = some (some (.ref f)) ∧ H c' = some (LamX.CodeO c' q) ∧ tl Ech H fun v H2 => gName 1 v σ H2 D.nx)
      (Wout := fun _ _ _ _ => False) rfl rfl scCame.nd rfl rfl ⟨rfl, by decide, .inl T.gE⟩ LamX.takes0 (fun W pn xe tk _ => ?_)
      (fun a oe cls d pn hz hf => pss_one (ps_ret (pe_lst (pa_cons pe_str (pa_cons (pe_callB (call_reprA hg1 hu1 sm) (by rfl) T.repr (by decide +kernel) (pa_cons (pe_xf T.x.xf T.nV hz hf (pv 2)) pa_nil)) (pa_cons (pe_and (pe_callB (call_isX T.x hz hf) (by rfl) T.isi (by decide +kernel) (pa_cons (pv 2) (pa_cons (pe_glob (v := .ref T.CI) rfl T.gI rfl) pa_nil)))
        (pe_one (pe_callB (call_isX T.x hz hf) (by rfl) T.isi (by decide +kernel) (pa_cons (pv 2) (pa_cons (pe_bltn (v := .ty "ValueError") (by rfl) T.ve (by decide +kernel) rfl) pa_nil))))) pa_nil)))))))
    (pss_imp (t' := tGiv) (pss_one (ps_ret (pe_lst (pa_cons pe_str (pa_cons (pe_callB (call_reprA hg1 hu1 sm) (by rfl) T.repr (by decide +kernel) (pa_cons (pv 1) pa_nil)) pa_nil))))) (fun D σ H ⟨u, hσ, dt, n, h1, h2, h3, k⟩ => ⟨_, hσ, u, dt, n, rfl, h1, h2, h3, (by show 2 ≤ sizeLine; decide), k⟩)), ?_⟩
  · refine ⟨fun pins s2 σ H2 D I hh => ?_⟩
    obtain ⟨Ech, hW, h1, h2, h3⟩ := hh
    have hp := fun p1 p2 => act _ pn xe Ech p1 p2 (takes_len tk) (fun cls d σ' H' z => hW cls d σ' H' z)
    exact (pss_one (ps_set (i := 1) scCame.nd rfl (.inl rfl) (hp _ _))).run pins s2 σ H2 D I ⟨h1, h2, h3⟩
  · refine ⟨_, fun cls d σ' H' hh hl => ?_, rfl, hc, h⟩
    obtain ⟨rfl, dd, v, rfl, hdd, dt, n, h1, h2, h3, k⟩ := hh
    obtain ⟨x0, x1, x2, rfl⟩ := len3 hl
    refine ⟨true, T.te, fun _ a na => ?_, fun z => Bool.noConfusion z⟩
    refine ⟨_, rfl, rfl, rfl, dd, _, v, rfl, hdd, by simp [List.lookup], v, dt, n, rfl, h1, h2, h3, ?_⟩
    refine ⟨_, rfl, .ref T.CI, .ref T.CI, true, dd, _, rfl, fun u z => z, rfl, rfl, hdd, T.k1, true, rfl, iteT ?_⟩
    refine ⟨_, rfl, .ty "ValueError", .type "ValueError", true, dd, _, rfl, fun u z => z, rfl, rfl, hdd, T.k2, ?_⟩
    exact ⟨by show 3 ≤ sizeLine; decide, k⟩
/-! ### the two calls -/
section
variable {K : PySem.W.Frag}
theorem tup_kit {H : Hp} {g : Addr} {xs : List V} (h : H g = some (.tup xs)) : TyX K H (.ref g) (.type "tuple") ∧ PySem.W.kitOne K (.type "tuple") (.type "tuple") = some true := ⟨.base (.tup h), kit_ty (show kitB "tuple" "tuple" = some true by decide +kernel)⟩
theorem wid_le {xs : List Nat} : ∀ n ∈ widthsOf xs, 1 ≤ n ∧ n ≤ 12 := fun n hn => by
  have := List.mem_range'_1.mp (List.mem_filter.mp hn).1
  omega
theorem wid_len (xs : List Nat) : (widthsOf xs).length ≤ 12 := Nat.le_trans (List.length_filter_le ..) (by rw [List.length_range']; exact Nat.le_refl _)
theorem sw_wid (xs : List Nat) : Sw 1000 64 (.tuple (natD (widthsOf xs))) := by
  refine (sw_tup (sw_nats fun x hx => ?_)).mono ?_ (by decide)
  · have := wid_le x hx
    omega
  · rw [natD_len]
    have := wid_len xs
    omega
theorem le1000 : 1000 ≤ sizeLine := szl (Nat.le_refl _)
theorem le10000 : 10000 ≤ sizeLine := Nat.le_of_lt (szM (by decide))
theorem lam_giv {T : List (Addr × Str)} {CE g : Addr} {xs : List Nat} {σ : L2.St} {H : Hp} {Q : VK} {i : Nat} (hT : LamX.Tabs T H) (hσ : σ[i]? = some (some (.ref g))) (hg : H g = some (.tup (nvs xs))) (hx : Szs xs)
    (q : ∀ (H1 : Hp) (p : Addr), LamX.ExtN H H1 → LamX.Tabs T H1 → H1 p = some (.lst [.str "given", .str (PyData.shown (.tuple (natD (widthsOf xs))))]) → Q (.ref p) H1) :
    LamX.tLam T (TCame CE) (fun E => tCall (spWS K CE) [] E (tCons (tVar i) tNil)) σ H Q := by
  refine ⟨hT, fun H1 e1 T1 => ?_⟩
  have hg1 := e1 _ _ hg (by intro ps z; cases z)
  obtain ⟨t1, t2⟩ := tup_kit (K := K) hg1
  refine ⟨_, hσ, .ref g, rfl, .inr ⟨g, xs, _, rfl, hg1, t1, t2, hx.1, hx.2, fun H2 r s2 hr => ⟨_, rfl, _, _, .tup hr (dqa_nat _), sw_wid xs, le1000, fun p np => ?_⟩⟩⟩
  have s3 := Same.trans s2 (same_new (o := .lst [.str "given", .str (PyData.shown (.tuple (natD (widthsOf xs))))]) np)
  exact q _ p (e1.trans (ext_same s3)) (T1.ext s3) upd_same
theorem lam_odd {T : List (Addr × Str)} {CE : Addr} {v : V} {d : PyData} {σ : L2.St} {H : Hp} {Q : VK} {i : Nat} (hT : LamX.Tabs T H) (hσ : σ[i]? = some (some v)) (hd : Dq H v d) (hb : badD d = true) (hs : Sw 10000 64 d)
    (q : ∀ (H1 : Hp) (p : Addr), LamX.ExtN H H1 → LamX.Tabs T H1 → H1 p = some (.lst [.str "InvalidPlace", .str d.shown, .bl true]) → Q (.ref p) H1) :
    LamX.tLam T (TCame CE) (fun E => tCall (spWS K CE) [] E (tCons (tVar i) tNil)) σ H Q := by
  refine ⟨hT, fun H1 e1 T1 => ?_⟩
  have hd1 := dq_ext e1 hd
  refine ⟨_, hσ, v, rfl, .inl ⟨bad_sz hd1 hb, fun H2 dd s2 nd => ⟨rfl, dd, v, rfl, upd_same, d, 10000, (hd1.same s2).same (same_new nd), hs, le10000, fun p np => ?_⟩⟩⟩
  have s3 := Same.trans s2 (Same.trans (same_new (o := .xd [("value", v)]) nd) (same_new (o := .lst [.str "InvalidPlace", .str d.shown, .bl true]) np))
  exact q _ p (e1.trans (ext_same s3)) (T1.ext s3) upd_same
end
end My

namespace My
open PySem L2 Cm LM CH Gd RpA SkT IsX
abbrev sRight : Stmt := top 38
abbrev NR : List Str := ["_law_jar_here", "_law_turn", "_law_lengths_here", "_law_due_here", "_law_given", "_law_odd_here", "_law_wide"]
theorem scRight : FnScope NR ["_law_jar_here"] (defScope sRight) := ⟨rfl, rfl, rfl, by decide +kernel, rfl, by decide +kernel, by decide +kernel⟩
def gK1 (us ws : List Value) : List Value := match us, ws with | [], [a] => [a] | _, _ => []
def gK1V (us ws : List V) : List V := match us, ws with | [], [a] => [a] | _, _ => []
theorem gK1_rel {vs zs : List V} {us ws : List Value} (h1 : Vals vs us) (h2 : Vals zs ws) : Vals (gK1V vs zs) (gK1 us ws) := by
  cases h1 with
  | cons _ _ => exact .nil
  | nil =>
    cases h2 with
    | nil => exact .nil
    | cons a t =>
      cases t with
      | nil => exact .cons a .nil
      | cons _ _ => exact .nil
structure TxR (w : World) (K : PySem.W.Frag) (mg : Str → Option Value) where
  W : TxW w K mg
  P : TxP w K mg
  D : TxDu K mg
  C : TxCm K mg W.eP.C
  str : mg "str" = none
  list : mg "list" = none
  all : mg "all" = none
  sip : Df K mg "_law_sip" sSip ["_law_jar_here", "_law_many"]
  frm : Df K mg "_law_from" sFrom ["_law_jar_here", "_law_things"]
  drw : Df K mg "_law_drawn" sDrw ["_law_jar_here"]
  shw : Df K mg "_law_shown" sShw ["_law_wide", "_law_lengths_here"]
  odd : Df K mg "_law_odd" sOdd ["_law_jar_here", "_law_lengths_here"]
  kw : KBinds K W.ws.fd ["sizes"] ["sizes"] gK1 gK1V
section
variable {P : Program} {w : World} {K : PySem.W.Frag} {mg : Str → Option Value} {base : Heap}
theorem sz_sum : ∀ {xs : List Nat}, (∀ x ∈ xs, 1 ≤ x ∧ x ≤ 1000) → xs.sum ≤ 1000 * xs.length
  | [], _ => Nat.le_refl _
  | x :: r, h => by
    rw [List.sum_cons, List.length_cons, Nat.mul_succ]
    have := (h x List.mem_cons_self).2
    have := sz_sum (xs := r) fun y hy => h y (List.mem_cons_of_mem _ hy)
    omega
/-- _law_shown(wide, lengths) -/
def tShw : TE := fun σ H Q => ∃ (n : Nat) (p : Addr) (xs : List Nat), σ[6]? = some (some (.int (n : Nat))) ∧ σ[2]? = some (some (.ref p)) ∧ 1 ≤ n ∧ n ≤ 12 ∧ H p = some (.lst (nvs xs)) ∧ evenly xs.sum n = xs ∧ xs.length ≤ 100 ∧ xs.sum ≤ 100000 ∧ ∀ H', Same H H' → Q (.bl true) H'
theorem all_tru : ∀ n : Nat, (List.replicate n true).all id = true
  | 0 => rfl
  | n + 1 => all_tru n
theorem wid_nil : widthsOf [] = [1, 2, 3, 4, 5, 6, 7, 8, 9, 10, 11, 12] := by decide +kernel
theorem rg12 : rgV 1 13 = nvs [1, 2, 3, 4, 5, 6, 7, 8, 9, 10, 11, 12] := by decide +kernel
theorem given_eqv (s : Str) : PyData.eqv (.list [.str "given", .str s]) (.list [.str "given", .str s]) = true := by simp [PyData.eqv, PyData.eqvAll]
theorem place_eqv (s : Str) : PyData.eqv (.list [.str "InvalidPlace", .str s, .bool true]) (.list [.str "InvalidPlace", .str s, .bool true]) = true := by simp [PyData.eqv, PyData.eqvAll]
theorem ok_right {f cR PR : Addr} {fd : FuncData} (F : Fun K "_law_right" "_law_right" sRight f fd) (R : TxR w K mg) (hcd : fd.code = .ref cR) (sm : ∃ ob, base.get? sysModules = some ob) (TB : LamX.TabB base mg cR PR) : Gd.FnG P w K mg base CX0 10 f fd ["_law_jar_here"] (spRight PR) := by
  have GW : FnOk P w K mg base (L2.CX P w) 3 R.W.ws.f R.W.ws.fd ["sizes"] (spWS K R.W.eP.C) := ok_ws R.W
  have GDr : FnOk P w K mg base CX0 2 R.drw.f R.drw.fd ["_law_jar_here"] spDrw := ok_drw R.D R.sip R.drw.F
  have GDu : FnOk P w K mg base CX0 2 R.D.due.f R.D.due.fd ["_law_lengths_here"] spDue := ok_due R.D
  have GSh : FnOk P w K mg base CX0 7 R.shw.f R.shw.fd ["_law_wide", "_law_lengths_here"] spShw := ok_shw R.P R.D R.str R.shw.F
  have GOd : FnOk P w K mg base CX0 3 R.odd.f R.odd.fd ["_law_jar_here", "_law_lengths_here"] spOdd := ok_odd R.D R.sip R.frm R.list R.odd.F
  obtain ⟨ob, sm⟩ := sm
  obtain ⟨oc, od, kV, doc, pm, an, cdv0, ct, osl, efd, lkC, hcgC⟩ := R.C.cm.F.ex
  have bC := R.C.cm.b
  rw [efd] at bC lkC
  refine Gd.okG F scRight (fun vs H Q E h => ?_) (fun cdv A outer s H vs Q E _ _ ecd hgd hr h => ?_)
  · obtain ⟨j, rfl, _⟩ := h
    rfl
  · obtain ⟨j, rfl, hJ, hT, k⟩ := h
    have ec : cdv = .ref cR := ecd.symm.trans hcd
    subst ec
    have hr2 : Room 2 _ := hr.mono (by decide)
    have hr3 : Room 3 _ := hr.mono (by decide)
    have hr7 : Room 7 _ := hr.mono (by decide)
    have hr8 : Room 8 _ := hr.mono (by decide)
    have hu : ((cxOf CX0 P w K mg base NR "_law_right" (defScope sRight) f (.ref cR) A outer s H E).nox).A.units + 100 < cLine := by
      have := hr.un
      show (A.deeper _).units + 100 < cLine
      omega
    have lam : ∀ {X : Cx} {params : Arguments} {body : Expr} {scope : Scope} {t : XK → L2.TE} {p lpos pos : Pos} (eX : X = (cxOf CX0 P w K mg base NR "_law_right" (defScope sRight) f (.ref cR) A outer s H E).nox) (L : LamX.LamS X.env.scope scope) (hdef : defaultsOf params X.env = ([], []))
        (hbind : ∀ (q : Str) (cl : List (Str × Addr)) (pm cv ctv : Value), bindArgs (PySem.W.kla_fn "<lambda>" q params body scope cl pm cv ctv) ⟨[], []⟩ = pure [])
        (hbody : ∀ (A : Around) (outer : List Env) (s : Shared) (H : Hp) (E : XK) (f c' : Addr), Room 6 (A.deeper (LamX.lamEnv X scope s.heap.objs.size f c')) → PE (LamX.lamCx X A outer s H E scope f c') body (t E)),
        PE X (.Call (.Name "_law_came" p) [.Lambda params body scope lpos] [] pos) (LamX.tLam [(PR, qLam)] (TCame R.W.eP.C) t) := by
      intro X params body scope t p lpos pos eX L hdef hbind hbody
      subst eX
      exact LamX.pe_lamcall (k := 6) rfl R.C.cm.g R.C.cm.k lkC hcgC bC scCame rfl (.inl rfl) (came_gives R.C hgd hu sm) TB rfl (List.mem_singleton.mpr rfl) (fun q hq _ => by rw [List.mem_singleton.mp hq]; rfl) hr8 L hdef hbind hbody
    refine ⟨_, (pss_cons (ps_for PassesOwn.never rfl (pi_range1 rfl R.D.range (pa_cons pe_int pa_nil)) (pg_name (i := 1) scRight.nd rfl (.inl rfl)) (pss_cons (ps_set (i := 2) scRight.nd rfl (.inr rfl) (pe_call GDr hr2 rfl R.drw.g R.drw.k R.drw.b .nil pass0 (pa_cons (pv 0) pa_nil))) (pss_cons (ps_asg (pe_tup (pa_cons (pe_call GDu hr2 rfl R.D.due.g R.D.due.k R.D.due.b .nil pass0 (pa_cons (pv 2) pa_nil)) (pa_cons (pe_callTy call_tuple_of (by rfl) R.D.tuple (by decide +kernel) (pa_cons (pv 2) pa_nil)) pa_nil))) (pg_tup rfl (pgs_cons (pg_name (i := 3) scRight.nd rfl (.inl rfl)) (pgs_cons (pg_name (i := 4) scRight.nd rfl (.inr rfl)) pgs_nil)))) (pss_cons (ps_if (PW.pt (pw_or (pt_cmpR (op_neD (hu64 hr)) (lam (t := fun E => tCall (spWS K R.W.eP.C) [] E (tCons (tVar 4) tNil)) rfl (LamX.lamS_by (sc := defScope sRight) (by decide +kernel)) rfl (fun _ _ _ _ _ => rfl) (fun A outer s H E f c' hrl => pe_call GW (hrl.mono (by decide)) rfl R.W.ws.g R.W.ws.k R.W.ws.b .nil (passes_call (takes_of rfl rfl rfl rfl) fun _ _ _ _ z => z) (pa_cons (pv 4) pa_nil))) (pe_lst (pa_cons pe_str (pa_cons (pe_callB (call_reprA hgd (by omega) sm) (by rfl) R.C.repr (by decide +kernel) (pa_cons (pv 3) pa_nil)) pa_nil))) (nomark _)) (pw_or1 (pt_cmpR op_ne (pe_callB (call_reprA hgd (by omega) sm) (by rfl) R.C.repr (by decide +kernel) (pa_cons (FKw.pe_callK0 GW hr3 rfl R.W.ws.g R.W.ws.k R.kw pass_none (pk_cons (pv 4) pk_nil)) pa_nil)) (pe_callB (call_reprA hgd (by omega) sm) (by rfl) R.C.repr (by decide +kernel) (pa_cons (pv 3) pa_nil)) (nomark _))))) (pss_one (ps_ret pe_bl)) pss_nil) (C8.pss_cut (ps_if (PW.pt (pw_and (pt_cmpR op_lt (pe_callB call_len_seq (by rfl) R.D.J.len PySem.boot_len (pa_cons (pv 2) pa_nil)) pe_int (nomark _)) (pw_and1 (pt_not (pt_val (pe_callB (cr_all rfl) (by rfl) R.all (by decide +kernel) (pa_cons (pe_lc (own := [("_law_wide", 6)]) (g := gName 6) (tt := tYes) (te := tShw) rfl scRight.nd (pi_tup (pv 3)) (blkOk_by (own := [("_law_wide", 6)]) (N := NR) (sc := defScope sRight) (by decide +kernel)) (fun _ _ _ _ _ => pg_name (i := 6) scRight.nd rfl (Or.inl rfl)) (fun _ _ _ _ _ => pts_nil) (fun _ _ _ _ _ => by exact pe_imp (t' := tShw) (pe_call GSh hr7 rfl R.shw.g R.shw.k R.shw.b .nil pass0 (pa_cons (pv 6) (pa_cons (pv 2) pa_nil))) (fun σ H1 Q1 ⟨n, p, xs, h6, h2, a, b, c, d, e, g, k⟩ => ⟨_, h6, _, h2, n, p, xs, rfl, a, b, c, d, e, g, k⟩))) pa_nil))))))) (pss_one (ps_ret pe_bl)) pss_nil) (pss_cons (ps_set (i := 5) scRight.nd rfl (.inr rfl) (pe_call GOd hr3 rfl R.odd.g R.odd.k R.odd.b .nil pass0 (pa_cons (pv 0) (pa_cons (pv 2) pa_nil)))) (pss_one (ps_if (pt_cmpR (op_neD (hu64 hr)) (lam (t := fun E => tCall (spWS K R.W.eP.C) [] E (tCons (tVar 5) tNil)) rfl (LamX.lamS_by (sc := defScope sRight) (by decide +kernel)) rfl (fun _ _ _ _ _ => rfl) (fun A outer s H E f c' hrl => pe_call GW (hrl.mono (by decide)) rfl R.W.ws.g R.W.ws.k R.W.ws.b .nil (passes_call (takes_of rfl rfl rfl rfl) fun _ _ _ _ z => z) (pa_cons (pv 5) pa_nil))) (pe_lst (pa_cons pe_str (pa_cons (pe_callB (call_reprA hgd (by omega) sm) (by rfl) R.C.repr (by decide +kernel) (pa_cons (pv 5) pa_nil)) (pa_cons pe_bl pa_nil)))) (nomark _)) (pss_one (ps_ret pe_bl)) pss_nil)))))))) (pss_one (ps_ret (pe_cmpR op_eq (pe_callB (call_reprA hgd (by omega) sm) (by rfl) R.C.repr (by decide +kernel) (pa_cons (pe_call GW hr3 rfl R.W.ws.g R.W.ws.k R.W.ws.b .nil pass_none (pa_cons (pe_tup pa_nil) pa_nil)) pa_nil)) (pe_callB (call_reprA hgd (by omega) sm) (by rfl) R.C.repr (by decide +kernel) (pa_cons (pe_tupRg rfl rfl R.D.tuple (prg_2 rfl R.D.range pe_int pe_int)) pa_nil)) (nomark _))))), ?_⟩
    refine ⟨4, rfl, by decide, by decide, for_range (lo := 0) (n := 4) (fun i σ H' => (∃ v1 v2 v3 v4 v5 v6 : Option V, σ = [some (.ref j), v1, v2, v3, v4, v5, v6]) ∧ Ts PR j H H')
      ⟨⟨none, none, none, none, none, none, rfl⟩, OffN.refl, hJ, hT⟩ ?_ ?_⟩
    · rintro i σ H1 hi ⟨⟨v1, v2, v3, v4, v5, v6, rfl⟩, T1⟩
      refine ⟨_, rfl, j, rfl, T1.jar, fun H2 p xs o2 J2 pj hp hx => ?_⟩
      have T2 := T1.off' o2 J2
      have hsum := sz_sum hx.2
      have hlen := hx.1
      have hpos : Pos xs := fun x h => (hx.2 x h).1
      refine ⟨_, rfl, p, xs, rfl, hp, hpos, by omega, by omega, fun H3 du s3 hdu => ?_⟩
      refine ⟨_, rfl, p, _, rfl, .inl ⟨SqL.of (s3 _ _ hp), fun g ng => ?_⟩⟩
      refine ⟨(by show 2 ≤ sizeLine; decide), fun t nt => ⟨t, _, rfl, SqT.of upd_same, rfl, _, _, rfl, _, _, rfl, rfl, ?_⟩⟩
      have s5 := Same.trans (same_new (o := .tup (nvs xs)) ng) (same_new (o := .tup [.ref du, .ref g]) nt)
      have hg : (upd (upd H3 g (.tup (nvs xs))) t (.tup [.ref du, .ref g])) g = some (.tup (nvs xs)) := same_new nt _ _ upd_same
      have T5 := T2.same (Same.trans s3 s5)
      have hp5 := s5 _ _ (s3 _ _ hp)
      have hdu5 := s5 _ _ hdu
      generalize upd (upd H3 g (.tup (nvs xs))) t (.tup [.ref du, .ref g]) = H5 at s5 hg T5 hp5 hdu5 ⊢
      -- what came
      refine lam_giv T5.tab rfl hg hx fun H6 q6 e6 T6' hq6 => ?_
      have T6 := T5.ext e6 T6'
      have hp6 := e6 _ _ hp5 (by intro ps z; cases z)
      have hg6 := e6 _ _ hg (by intro ps z; cases z)
      have hdu6 := e6 _ _ hdu5 (by intro ps z; cases z)
      refine ⟨_, rfl, .ref du, _, 1000, rfl, .tup hdu6 (dqa_nat _), sw_wid xs, le1000, (by show 2 ≤ sizeLine; decide), fun q7 n7 => ?_⟩
      have s7 := same_new (o := .lst [.str "given", .str (PyData.shown (.tuple (natD (widthsOf xs))))]) n7
      have okt := (sw_wid xs).ok
      refine ⟨_, _, .lst (SqL.of (s7 _ _ hq6)) (.cons (.str _) (.cons (.str _) .nil)), .lst (SqL.of upd_same) (.cons (.str _) (.cons (.str _) .nil)), shaped2 (by decide +kernel) okt, shaped2 (by decide +kernel) okt, _, rfl, ?_⟩
      rw [given_eqv]
      refine iteF ?_
      have T7 := T6.same s7
      have hp7 := s7 _ _ hp6
      have hg7 := s7 _ _ hg6
      have hdu7 := s7 _ _ hdu6
      generalize upd H6 q7 (.lst [.str "given", .str (PyData.shown (.tuple (natD (widthsOf xs))))]) = H7 at s7 T7 hp7 hg7 hdu7 ⊢
      obtain ⟨t1, t2⟩ := tup_kit (K := K) hg7
      refine ⟨_, rfl, .ref g, rfl, .inr ⟨g, xs, _, rfl, hg7, t1, t2, hx.1, hx.2, fun H8 r8 s8 hr8 => ?_⟩⟩
      refine ⟨.ref r8, _, 1000, rfl, .tup hr8 (dqa_nat _), sw_wid xs, le1000, _, rfl, .ref du, _, 1000, rfl, .tup (s8 _ _ hdu7) (dqa_nat _), sw_wid xs, le1000, rfl, _, rfl, ?_⟩
      rw [decide_eq_true rfl]
      refine iteF ?_
      have T8 := T7.same s8
      have hp8 := s8 _ _ hp7
      have hdu8 := s8 _ _ hdu7
      clear hg7 t1 t2 hg6 hg
      -- the widths shown
      refine ⟨fun σ' H' => (∃ v6 : Option V, σ' = [some (.ref j), some (.int (0 + (i : Int))), some (.ref p), some (.ref du), some (.ref g), v5, v6]) ∧ Same H8 H', ?_, ?_⟩
      · refine ⟨_, rfl, p, _, rfl, .inl (SqL.of hp8), _, _, rfl, rfl, _, rfl, ite2 (fun c => ?_) (fun c => iteF ⟨⟨_, rfl⟩, Same.refl _⟩)⟩
        refine ⟨_, rfl, du, rfl, ⟨_, SqT.of hdu8⟩, fun D nD => lc_tup (K := K) (a := du) (xs := nvs (widthsOf xs)) (fun i H' => Same H8 H' ∧ H' D = some (.lst ((List.replicate i true).map V.bl))) ⟨same_new nD, upd_same⟩ (fun i H' _ ⟨s', _⟩ => SqT.of (s' _ _ hdu8)) ?_ ?_⟩
        · rintro i2 y H' hy ⟨s', hD⟩
          obtain ⟨m, hm, rfl⟩ := nvs_get hy
          have mm := List.mem_of_getElem? hm
          have mw := wid_le m mm
          have ev : evenly xs.sum m = xs := by
            have f := (List.mem_filter.mp mm).2
            rw [filled_due (by omega) hpos] at f
            unfold dueW at f
            exact of_decide_eq_true ((Bool.and_eq_true _ _).mp f).2
          have hi2 : i2 < 12 := by
            have := (List.getElem?_eq_some_iff.mp hm).1
            have := wid_len xs
            omega
          refine ⟨rfl, m, p, xs, rfl, rfl, mw.1, mw.2, s' _ _ hp8, ev, hx.1, by omega, fun H9 s9 => ⟨_, s9 _ _ hD, szM (by rw [List.length_map, List.length_replicate]; omega), fun b o z => ?_, ?_⟩⟩
          · rw [upd_ne (ne_of_none z nD)]
            exact s9 _ _ (s' _ _ z)
          · rw [upd_same, List.replicate_succ', List.map_append]
            rfl
        · rintro H' ⟨s', hD⟩
          refine ⟨D, _, rfl, SqL.of hD, _, rfl, ?_⟩
          rw [all_tru]
          exact iteF ⟨⟨_, rfl⟩, s'⟩
      rintro _ H9 ⟨⟨v6', rfl⟩, s9⟩
      have T9 := T8.same s9
      -- odd
      refine ⟨_, rfl, _, rfl, j, p, xs, rfl, T9.jar, pj, s9 _ _ hp8, hx, fun H10 od o10 J10 hod => ?_⟩
      have T10 := T9.off' o10 J10
      obtain ⟨d, hd, hb, hs⟩ := hod
      refine lam_odd T10.tab rfl hd hb hs fun H11 q11 e11 T11' hq11 => ?_
      have T11 := T10.ext e11 T11'
      refine ⟨_, rfl, od, d, 10000, rfl, dq_ext e11 hd, hs, le10000, (by show 3 ≤ sizeLine; decide), fun q12 n12 => ?_⟩
      have s12 := same_new (o := .lst [.str "InvalidPlace", .str d.shown, .bl true]) n12
      refine ⟨_, _, .lst (SqL.of (s12 _ _ hq11)) (.cons (.str _) (.cons (.str _) (.cons (.bl _) .nil))), .lst (SqL.of upd_same) (.cons (.str _) (.cons (.str _) (.cons (.bl _) .nil))), shaped3 (by decide +kernel) hs.ok, shaped3 (by decide +kernel) hs.ok, _, rfl, ?_⟩
      rw [place_eqv]
      exact iteF ⟨⟨_, _, _, _, _, _, rfl⟩, T11.same s12⟩
    · rintro σ H1 ⟨⟨v1, v2, v3, v4, v5, v6, rfl⟩, T1⟩
      refine ⟨(by show 0 ≤ sizeLine; decide), fun t nt => ?_⟩
      have s2 := same_new (o := .tup (nvs [])) nt
      have ht : (upd H1 t (.tup (nvs []))) t = some (.tup (nvs [])) := upd_same
      obtain ⟨t1, t2⟩ := tup_kit (K := K) ht
      refine ⟨.ref t, rfl, .inr ⟨t, [], _, rfl, ht, t1, t2, by decide, fun x h => (nomatch h), fun H3 r s3 hr3 => ?_⟩⟩
      refine ⟨.ref r, _, 1000, rfl, .tup hr3 (dqa_nat _), sw_wid [], le1000, ?_⟩
      refine ⟨1, 13, rfl, rfl, RgOk.of_le (by decide) (by decide) (by decide) (by decide), fun q nq => ?_⟩
      refine ⟨.ref q, .tuple (natD (widthsOf [])), 1000, rfl, .tup upd_same (by rw [rg12, wid_nil]; exact dqa_nat _), sw_wid [], le1000, rfl, ?_⟩
      rw [decide_eq_true rfl]
      have T4 := (T1.same (Same.trans s2 s3)).same (same_new (o := .tup (rgV 1 13)) nq)
      exact k _ T4.off T4.tab
end
end My

namespace My
open PySem L2 Cm LM
abbrev sLaw : Stmt := top 39
def spLaw (K : PySem.W.Frag) (PR : Addr) : Sp := fun vs H Q _ => ∃ (a : Addr) (ns : List Int), vs = [.ref a] ∧ SqL K H a (ns.map V.int) ∧ ns.length ≤ 63 ∧ LamX.Tabs [(PR, qLam)] H ∧ ∀ H', Q (.bl true) H'
theorem scLaw : FnScope ["_law_script", "_law_k"] ["_law_script"] (defScope sLaw) := ⟨rfl, rfl, rfl, by decide +kernel, rfl, by decide +kernel, by decide +kernel⟩
theorem all_true : ∀ n : Nat, (List.replicate n true).all id = true
  | 0 => rfl
  | n + 1 => all_true n
theorem extN_sq {K : PySem.W.Frag} {a : Addr} {H H' : Hp} {xs : List V} (e : LamX.ExtN H H') (h : SqL K H a xs) : SqL K H' a xs := by
  rcases h with (h | ⟨o, h⟩) | h
  · exact .inl (.inl (e _ _ h (by intro ps z; cases z)))
  · exact .inl (.inr ⟨o, e _ _ h (by intro ps z; cases z)⟩)
  · exact .inr h
section
variable {P : Program} {w : World} {K : PySem.W.Frag} {mg : Str → Option Value} {base : Heap} {PR : Addr}
theorem ok_law {f fJ fR : Addr} {fd fdJ fdR : FuncData} (F : Fun K "law" "law" sLaw f fd) (TJ : TxtJ mg) (mrange : mg "range" = none) (mall : mg "all" = none) (kR9 : Nat) (GR : Gd.FnG P w K mg base CX0 kR9 fR fdR ["_law_jar_here"] (spRight PR))
    (FJ : Fun K "_law_jar" "_law_jar" sJar fJ fdJ) (bJ : Binds K fdJ ["_law_script", "_law_k"] []) (gJ : mg "_law_jar" = some (.ref fJ)) (kJ : PySem.W.keepIn K (.ref fJ) = true) (k1 : 1 ≤ kR9)
    (bR : Binds K fdR ["_law_jar_here"] []) (gR : mg "_law_right" = some (.ref fR)) (kR : PySem.W.keepIn K (.ref fR) = true) (mmax : mg "max" = none) (mmin : mg "min" = none) :
    Gd.FnG P w K mg base CX0 (kR9 + 1) f fd ["_law_script"] (spLaw K PR) := by
  have GJ : FnOk P w K mg base CX0 1 fJ fdJ ["_law_script", "_law_k"] (spJar K) := ok_jar FJ TJ
  refine Gd.okG F scLaw (fun vs H Q E h => ?_) (fun cdv A outer s H vs Q E _ _ _ hgd hr h => ?_)
  · obtain ⟨a, ns, rfl, _⟩ := h
    rfl
  · obtain ⟨a, ns, rfl, hS, hl, hT, k⟩ := h
    have hr1 : Room 1 _ := hr.mono k1
    refine ⟨_, pss_one (ps_ret (pe_callB (cr_all rfl) (by rfl) mall (by decide +kernel) (pa_cons (pe_lc (own := [("_law_k", 1)]) (g := gName 1) (tt := tYes) rfl scLaw.nd
      (pi_range1 rfl mrange (pa_cons (pe_callB (call_max2 rfl) (by rfl) mmax (by decide +kernel) (pa_cons pe_int (pa_cons (pe_callB (call_min2 rfl) (by rfl) mmin (by decide +kernel) (pa_cons (pe_callB call_len_seq (by rfl) TJ.len PySem.boot_len (pa_cons (pv 0) pa_nil)) (pa_cons pe_int pa_nil))) pa_nil))) pa_nil))
      (blkOk_by (own := [("_law_k", 1)]) (N := ["_law_script", "_law_k"]) (sc := defScope sLaw) (by decide +kernel)) (fun _ _ _ _ _ => pg_name (i := 1) scLaw.nd rfl (Or.inl rfl)) (fun _ _ _ _ _ => pts_nil)
      (fun _ _ _ _ _ => Gd.pe_callG GR hgd hr rfl gR kR bR .nil pass0 (pa_cons (pe_call GJ hr1 rfl gJ kJ bJ .nil pass0 (pa_cons (pv 0) (pa_cons (pv 1) pa_nil))) pa_nil))) pa_nil))), ?_⟩
    refine ⟨_, rfl, a, _, rfl, .inl hS, _, _, rfl, _, _, rfl, ?_⟩
    rw [List.length_map]
    have hm : ∃ n : Nat, (if (if (6 : Int) < (ns.length : Int) then 6 else (ns.length : Int)) > 2 then (if (6 : Int) < (ns.length : Int) then 6 else (ns.length : Int)) else 2) = (n : Int) ∧ n ≤ 6 := by
      by_cases h5 : (6 : Int) < (ns.length : Int)
      · rw [if_pos h5]
        exact ⟨6, rfl, Nat.le_refl _⟩
      · rw [if_neg h5]
        by_cases h2 : (ns.length : Int) > 2
        · rw [if_pos h2]
          exact ⟨ns.length, rfl, by omega⟩
        · rw [if_neg h2]
          exact ⟨2, rfl, by omega⟩
    obtain ⟨n, en, hn⟩ := hm
    refine ⟨_, rfl, by rw [en]; omega, by rw [en]; omega, fun D nD => ?_⟩
    rw [en]
    refine lc_range (lo := 0) (n := ((n : Int)).toNat) (fun i H' => LamX.ExtN H H' ∧ LamX.Tabs [(PR, qLam)] H' ∧ H' D = some (.lst ((List.replicate i true).map V.bl))) ⟨LamX.ExtN.of (same_upd nD), hT.ext (same_upd nD), upd_same⟩ ?_ ?_
    · rintro i H1 hi ⟨x1, T1, hD⟩
      refine ⟨rfl, _, rfl, _, rfl, a, ns, i, by rw [Int.zero_add]; rfl, extN_sq x1 hS, hl, fun H2 j s2 nj J2 => ?_⟩
      refine ⟨j, rfl, J2, T1.ext s2, fun H3 o3 T3 => ?_⟩
      have x3 : LamX.ExtN H1 H3 := fun b o q n => o3 b o (fun z => by rw [z, nj] at q; cases q) n (s2 b o q)
      have hD3 := x3 _ _ hD (by intro ps z; cases z)
      refine ⟨_, hD3, small1000 (by rw [List.length_map, List.length_replicate]; omega), fun b o q n => ?_, ?_, ?_⟩
      · rw [upd_ne (ne_of_none q nD)]
        exact x3 _ _ (x1 b o q n) n
      · intro p hp
        obtain ⟨ps, a1, a2, a3⟩ := T3 p hp
        refine ⟨ps, by rw [upd_ne (ne_of a1 hD3 (by intro z; cases z))]; exact a1, a2, fun pos cv hcv => ?_⟩
        obtain ⟨c, e, hc⟩ := a3 pos cv hcv
        exact ⟨c, e, by rw [upd_ne (ne_of hc hD3 (by intro z; unfold LamX.CodeO at z; cases z))]; exact hc⟩
      · rw [upd_same, List.replicate_succ', List.map_append]
        rfl
    · rintro H1 ⟨x1, T1, hD⟩
      refine ⟨D, List.replicate _ true, rfl, SqL.of hD, ?_⟩
      rw [all_true]
      exact k H1
end
theorem all_mk {l : PySem.W.OpenLaw} {w : World} {K : PySem.W.Frag} {h : Heap} {mg : Str → Option Value} {fa fcs fwr ffr fcr ftr CIT fIT dC fco CA fai CW fri fmn fro fiib CII fII CIP fIP fpa fcci fan fap fasz fisf fws fev fdue CInp fcm fsip ffrm fdrw fshw fodd fjar cR PR frt flaw : Addr} (X : K.In h) (G : h.Ns mainGlobals mg) (hfa : mg "law" = some (.ref fa))
    {odcs ancs odwr anwr odfr anfr odcr ancr odtr antr odIT anIT odco anco odai anai odri anri odmn anmn odro anro odiib aniib odII anII odIP anIP odpa anpa odcci ancci odan anan odap anap odasz anasz odisf anisf odws anws odev anev oddue andue odcm ancm odsip ansip odfrm anfrm oddrw andrw odshw anshw ododd anodd odjar anjar odC odrt anrt odlaw anlaw : Option Addr}
    {slcs slwr slfr slcr sltr slIT slco slai slri slmn slro sliib slII slIP slpa slcci slan slap slasz slisf slws slev sldue slcm slsip slfrm sldrw slshw slodd sljar slC slrt sllaw : Array (Option Value)}
    {occs kVcs dccs pmcs cdcs ctcs ocwr kVwr dcwr pmwr cdwr ctwr ocfr kVfr dcfr pmfr cdfr ctfr occr kVcr dccr pmcr cdcr ctcr octr kVtr dctr pmtr cdtr cttr ocIT kVIT dcIT pmIT cdIT ctIT occo kVco dcco pmco cdco ctco ocai kVai dcai pmai cdai ctai ocri kVri dcri pmri cdri ctri ocmn kVmn dcmn pmmn cdmn ctmn ocro kVro dcro pmro cdro ctro ociib kViib dciib pmiib cdiib ctiib ocII kVII dcII pmII cdII ctII ocIP kVIP dcIP pmIP cdIP ctIP ocpa kVpa dcpa pmpa cdpa ctpa occci kVcci dccci pmcci cdcci ctcci ocan kVan dcan pman cdan ctan ocap kVap dcap pmap cdap ctap ocasz kVasz dcasz pmasz cdasz ctasz ocisf kVisf dcisf pmisf cdisf ctisf ocws kVws dcws pmws cdws ctws ocev kVev dcev pmev cdev ctev ocdue kVdue dcdue pmdue cddue ctdue occm kVcm dccm pmcm cdcm ctcm ocsip kVsip dcsip pmsip cdsip ctsip ocfrm kVfrm dcfrm pmfrm cdfrm ctfrm ocdrw kVdrw dcdrw pmdrw cddrw ctdrw ocshw kVshw dcshw pmshw cdshw ctshw ocodd kVodd dcodd pmodd cdodd ctodd ocjar kVjar dcjar pmjar cdjar ctjar ocC ocrt kVrt dcrt pmrt ctrt oclaw kVlaw dclaw pmlaw cdlaw ctlaw : Value}
    {tkMW tkMC tkMCI tkMI tkMS : Tok}
    {nmIT qIT : Str} {NIT : Addr} {bsIT bmIT : List Value} {snIT : List Str} {subIT : List Value} {abIT : Bool} {colIT : Option Bool} {ddIT : Option Addr} {m0IT m1IT m2IT m3IT m5IT : Option Value}
    {nmII qII : Str} {NII : Addr} {bsII bmII : List Value} {snII : List Str} {subII : List Value} {abII : Bool} {colII : Option Bool} {ddII : Option Addr} {m0II m1II m2II m3II m5II : Option Value}
    {nmIP qIP : Str} {NIP : Addr} {bsIP bmIP : List Value} {snIP : List Str} {subIP : List Value} {abIP : Bool} {colIP : Option Bool} {ddIP : Option Addr} {m0IP m1IP m2IP m3IP m5IP : Option Value}
    {vsC : Array Value}
    (acs : PySem.W.nsIn K mainGlobals "cut_sizes" = some (some (.ref fcs)))
    (lcs : K.lookup fcs = some ⟨occs, odcs, .func (PySem.W.fnOf "cut_sizes" "cut_sizes" (defArgs sCS) (defBody sCS) (defScope sCS) .none kVcs dccs pmcs ancs cdcs ctcs), slcs⟩)
    (ccs : PySem.W.codeIn K cdcs "cut_sizes" = true)
    (kcs : PySem.W.keepIn K (.ref fcs) = true)
    (awr : PySem.W.nsIn K mainGlobals "whole_row" = some (some (.ref fwr)))
    (lwr : K.lookup fwr = some ⟨ocwr, odwr, .func (PySem.W.fnOf "whole_row" "whole_row" (defArgs sWR) (defBody sWR) (defScope sWR) .none kVwr dcwr pmwr anwr cdwr ctwr), slwr⟩)
    (cwr : PySem.W.codeIn K cdwr "whole_row" = true)
    (kwr : PySem.W.keepIn K (.ref fwr) = true)
    (afr : PySem.W.nsIn K mainGlobals "fill_row" = some (some (.ref ffr)))
    (lfr : K.lookup ffr = some ⟨ocfr, odfr, .func (PySem.W.fnOf "fill_row" "fill_row" (defArgs sFR) (defBody sFR) (defScope sFR) .none kVfr dcfr pmfr anfr cdfr ctfr), slfr⟩)
    (cfr : PySem.W.codeIn K cdfr "fill_row" = true)
    (kfr : PySem.W.keepIn K (.ref ffr) = true)
    (acr : PySem.W.nsIn K mainGlobals "cut_row" = some (some (.ref fcr)))
    (lcr : K.lookup fcr = some ⟨occr, odcr, .func (PySem.W.fnOf "cut_row" "cut_row" (defArgs sCR) (defBody sCR) (defScope sCR) .none kVcr dccr pmcr ancr cdcr ctcr), slcr⟩)
    (ccr : PySem.W.codeIn K cdcr "cut_row" = true)
    (kcr : PySem.W.keepIn K (.ref fcr) = true)
    (atr : PySem.W.nsIn K mainGlobals "tail_row" = some (some (.ref ftr)))
    (ltr : K.lookup ftr = some ⟨octr, odtr, .func (PySem.W.fnOf "tail_row" "tail_row" (defArgs sTR) (defBody sTR) (defScope sTR) .none kVtr dctr pmtr antr cdtr cttr), sltr⟩)
    (ctr : PySem.W.codeIn K cdtr "tail_row" = true)
    (ktr : PySem.W.keepIn K (.ref ftr) = true)
    (aCIT : PySem.W.nsIn K mainGlobals "InvalidText" = some (some (.ref CIT)))
    (aIT : PySem.W.findIn K (.ref CIT) "__init__" = some (some (.ref fIT)))
    (iIT : PySem.W.isFn K (.ref fIT) = true)
    (lIT : K.lookup fIT = some ⟨ocIT, odIT, .func (PySem.W.fnOf "__init__" "InvalidText.__init__" (defArgs sEI) (defBody sEI) (defScope sEI) .none kVIT dcIT pmIT anIT cdIT ctIT), slIT⟩)
    (cIT : PySem.W.codeIn K cdIT "InvalidText.__init__" = true)
    (kIT : PySem.W.keepIn K (.ref fIT) = true)
    (xIT : K.lookup CIT = some (excClassObj nmIT qIT CIT NIT bsIT bmIT true snIT subIT abIT colIT ddIT m0IT m1IT m2IT m3IT m5IT "ValueError.__new__"))
    (xrIT : PySem.HandSPX.refsVE bmIT = true)
    (e1IT : PySem.W.findIn K (.ref CIT) "__setattr__" = some (some (.builtin "object.__setattr__")))
    (e2IT : PySem.W.subIn K (.ref CIT) (.type "BaseException") = some true)
    (e3IT : PySem.W.typeIn K (.ref CIT) = some (.type "type"))
    (e4IT : PySem.W.keepIn K (.ref CIT) = true)
    (e5IT : PySem.W.typeIn K (.ref fIT) = some (.type "function"))
    (e6IT : PySem.W.findIn K (.ref CIT) "value" = some none)
    (mMW : PySem.W.nsIn K mainGlobals "MOST_WIDTH" = some (some (.int 12 tkMW)))
    (mMC : PySem.W.nsIn K mainGlobals "MOST_CUTTERS" = some (some (.int 6 tkMC)))
    (gdC : PySem.W.nsIn K mainGlobals "CUTTERS" = some (some (.ref dC)))
    (nkcut : PySem.W.nsIn K dC "cut" = some (some (.ref fcr)))
    (nkfill : PySem.W.nsIn K dC "fill" = some (some (.ref ffr)))
    (nktail : PySem.W.nsIn K dC "tail" = some (some (.ref ftr)))
    (dwC : He.dicW K dC = some (He.keysIn w.params CH.kds))
    (aco : PySem.W.nsIn K mainGlobals "cutter_of" = some (some (.ref fco)))
    (lco : K.lookup fco = some ⟨occo, odco, .func (PySem.W.fnOf "cutter_of" "cutter_of" (defArgs sCO) (defBody sCO) (defScope sCO) .none kVco dcco pmco anco cdco ctco), slco⟩)
    (cco : PySem.W.codeIn K cdco "cutter_of" = true)
    (kco : PySem.W.keepIn K (.ref fco) = true)
    (aCA : PySem.W.nsIn K mainGlobals "Chain" = some (some (.ref CA)))
    (pgA : PySem.W.plainGet K CA Str.empty = true)
    (hdA : PySem.W.hasDictIn K CA = true)
    (poA : PySem.W.plainOver K CA = true)
    (saA : PySem.W.findIn K (.ref CA) "__setattr__" = some (some (.builtin "object.__setattr__")))
    (mkA : PySem.W.makesIn K CA = true)
    (kcA : PySem.W.keepIn K (.ref CA) = true)
    (nA0 : PySem.W.findIn K (.ref CA) "text" = some none)
    (nA1 : PySem.W.findIn K (.ref CA) "cutters" = some none)
    (aai : PySem.W.findIn K (.ref CA) "__init__" = some (some (.ref fai)))
    (iai : PySem.W.isFn K (.ref fai) = true)
    (lai : K.lookup fai = some ⟨ocai, odai, .func (PySem.W.fnOf "__init__" "Chain.__init__" (defArgs sAI) (defBody sAI) (defScope sAI) .none kVai dcai pmai anai cdai ctai), slai⟩)
    (cai : PySem.W.codeIn K cdai "Chain.__init__" = true)
    (kai : PySem.W.keepIn K (.ref fai) = true)
    (aCW : PySem.W.nsIn K mainGlobals "Row" = some (some (.ref CW)))
    (pgW : PySem.W.plainGet K CW Str.empty = true)
    (hdW : PySem.W.hasDictIn K CW = true)
    (poW : PySem.W.plainOver K CW = true)
    (saW : PySem.W.findIn K (.ref CW) "__setattr__" = some (some (.builtin "object.__setattr__")))
    (mkW : PySem.W.makesIn K CW = true)
    (kcW : PySem.W.keepIn K (.ref CW) = true)
    (nW0 : PySem.W.findIn K (.ref CW) "unit" = some none)
    (nW1 : PySem.W.findIn K (.ref CW) "times" = some none)
    (nW2 : PySem.W.findIn K (.ref CW) "last" = some none)
    (ari : PySem.W.findIn K (.ref CW) "__init__" = some (some (.ref fri)))
    (iri : PySem.W.isFn K (.ref fri) = true)
    (lri : K.lookup fri = some ⟨ocri, odri, .func (PySem.W.fnOf "__init__" "Row.__init__" (defArgs sRI) (defBody sRI) (defScope sRI) .none kVri dcri pmri anri cdri ctri), slri⟩)
    (cri : PySem.W.codeIn K cdri "Row.__init__" = true)
    (kri : PySem.W.keepIn K (.ref fri) = true)
    (amn : PySem.W.findIn K (.ref CW) "many" = some (some (.ref fmn)))
    (imn : PySem.W.isFn K (.ref fmn) = true)
    (lmn : K.lookup fmn = some ⟨ocmn, odmn, .func (PySem.W.fnOf "many" "Row.many" (defArgs sRM) (defBody sRM) (defScope sRM) .none kVmn dcmn pmmn anmn cdmn ctmn), slmn⟩)
    (cmn : PySem.W.codeIn K cdmn "Row.many" = true)
    (kmn : PySem.W.keepIn K (.ref fmn) = true)
    (aro : PySem.W.findIn K (.ref CA) "row_of" = some (some (.ref fro)))
    (iro : PySem.W.isFn K (.ref fro) = true)
    (lro : K.lookup fro = some ⟨ocro, odro, .func (PySem.W.fnOf "row_of" "Chain.row_of" (defArgs sRO) (defBody sRO) (defScope sRO) .none kVro dcro pmro anro cdro ctro), slro⟩)
    (cro : PySem.W.codeIn K cdro "Chain.row_of" = true)
    (kro : PySem.W.keepIn K (.ref fro) = true)
    (aiib : PySem.W.nsIn K mainGlobals "is_integer_between" = some (some (.ref fiib)))
    (liib : K.lookup fiib = some ⟨ociib, odiib, .func (PySem.W.fnOf "is_integer_between" "is_integer_between" (defArgs sIIB) (defBody sIIB) (defScope sIIB) .none kViib dciib pmiib aniib cdiib ctiib), sliib⟩)
    (ciib : PySem.W.codeIn K cdiib "is_integer_between" = true)
    (kiib : PySem.W.keepIn K (.ref fiib) = true)
    (mMCI : PySem.W.nsIn K mainGlobals "MOST_CHAIN_ITEMS" = some (some (.int 999999999999999999 tkMCI)))
    (aCII : PySem.W.nsIn K mainGlobals "InvalidItems" = some (some (.ref CII)))
    (aII : PySem.W.findIn K (.ref CII) "__init__" = some (some (.ref fII)))
    (iII : PySem.W.isFn K (.ref fII) = true)
    (lII : K.lookup fII = some ⟨ocII, odII, .func (PySem.W.fnOf "__init__" "InvalidItems.__init__" (defArgs sEIt) (defBody sEIt) (defScope sEIt) .none kVII dcII pmII anII cdII ctII), slII⟩)
    (cII : PySem.W.codeIn K cdII "InvalidItems.__init__" = true)
    (kII : PySem.W.keepIn K (.ref fII) = true)
    (xII : K.lookup CII = some (excClassObj nmII qII CII NII bsII bmII true snII subII abII colII ddII m0II m1II m2II m3II m5II "ValueError.__new__"))
    (xrII : PySem.HandSPX.refsVE bmII = true)
    (e1II : PySem.W.findIn K (.ref CII) "__setattr__" = some (some (.builtin "object.__setattr__")))
    (e2II : PySem.W.subIn K (.ref CII) (.type "BaseException") = some true)
    (e3II : PySem.W.typeIn K (.ref CII) = some (.type "type"))
    (e4II : PySem.W.keepIn K (.ref CII) = true)
    (e5II : PySem.W.typeIn K (.ref fII) = some (.type "function"))
    (e6II : PySem.W.findIn K (.ref CII) "value" = some none)
    (aCIP : PySem.W.nsIn K mainGlobals "InvalidPlace" = some (some (.ref CIP)))
    (aIP : PySem.W.findIn K (.ref CIP) "__init__" = some (some (.ref fIP)))
    (iIP : PySem.W.isFn K (.ref fIP) = true)
    (lIP : K.lookup fIP = some ⟨ocIP, odIP, .func (PySem.W.fnOf "__init__" "InvalidPlace.__init__" (defArgs sEPl) (defBody sEPl) (defScope sEPl) .none kVIP dcIP pmIP anIP cdIP ctIP), slIP⟩)
    (cIP : PySem.W.codeIn K cdIP "InvalidPlace.__init__" = true)
    (kIP : PySem.W.keepIn K (.ref fIP) = true)
    (xIP : K.lookup CIP = some (excClassObj nmIP qIP CIP NIP bsIP bmIP true snIP subIP abIP colIP ddIP m0IP m1IP m2IP m3IP m5IP "ValueError.__new__"))
    (xrIP : PySem.HandSPX.refsVE bmIP = true)
    (e1IP : PySem.W.findIn K (.ref CIP) "__setattr__" = some (some (.builtin "object.__setattr__")))
    (e2IP : PySem.W.subIn K (.ref CIP) (.type "BaseException") = some true)
    (e3IP : PySem.W.typeIn K (.ref CIP) = some (.type "type"))
    (e4IP : PySem.W.keepIn K (.ref CIP) = true)
    (e5IP : PySem.W.typeIn K (.ref fIP) = some (.type "function"))
    (e6IP : PySem.W.findIn K (.ref CIP) "value" = some none)
    (apa : PySem.W.findIn K (.ref CW) "piece_at" = some (some (.ref fpa)))
    (ipa : PySem.W.isFn K (.ref fpa) = true)
    (lpa : K.lookup fpa = some ⟨ocpa, odpa, .func (PySem.W.fnOf "piece_at" "Row.piece_at" (defArgs sPA) (defBody sPA) (defScope sPA) .none kVpa dcpa pmpa anpa cdpa ctpa), slpa⟩)
    (cpa : PySem.W.codeIn K cdpa "Row.piece_at" = true)
    (kpa : PySem.W.keepIn K (.ref fpa) = true)
    (acci : PySem.W.nsIn K mainGlobals "check_chain_items" = some (some (.ref fcci)))
    (lcci : K.lookup fcci = some ⟨occci, odcci, .func (PySem.W.fnOf "check_chain_items" "check_chain_items" (defArgs sCCI) (defBody sCCI) (defScope sCCI) .none kVcci dccci pmcci ancci cdcci ctcci), slcci⟩)
    (ccci : PySem.W.codeIn K cdcci "check_chain_items" = true)
    (kcci : PySem.W.keepIn K (.ref fcci) = true)
    (aan : PySem.W.findIn K (.ref CA) "number" = some (some (.ref fan)))
    (ian : PySem.W.isFn K (.ref fan) = true)
    (lan : K.lookup fan = some ⟨ocan, odan, .func (PySem.W.fnOf "number" "Chain.number" (defArgs sAN) (defBody sAN) (defScope sAN) .none kVan dcan pman anan cdan ctan), slan⟩)
    (can : PySem.W.codeIn K cdan "Chain.number" = true)
    (kan : PySem.W.keepIn K (.ref fan) = true)
    (aap : PySem.W.findIn K (.ref CA) "piece" = some (some (.ref fap)))
    (iap : PySem.W.isFn K (.ref fap) = true)
    (lap : K.lookup fap = some ⟨ocap, odap, .func (PySem.W.fnOf "piece" "Chain.piece" (defArgs sAP) (defBody sAP) (defScope sAP) .none kVap dcap pmap anap cdap ctap), slap⟩)
    (cap : PySem.W.codeIn K cdap "Chain.piece" = true)
    (kap : PySem.W.keepIn K (.ref fap) = true)
    (mMI : PySem.W.nsIn K mainGlobals "MOST_ITEMS" = some (some (.int 1000 tkMI)))
    (mMS : PySem.W.nsIn K mainGlobals "MOST_SIZES" = some (some (.int 100 tkMS)))
    (aasz : PySem.W.nsIn K mainGlobals "are_sizes" = some (some (.ref fasz)))
    (lasz : K.lookup fasz = some ⟨ocasz, odasz, .func (PySem.W.fnOf "are_sizes" "are_sizes" (defArgs sASz) (defBody sASz) (defScope sASz) .none kVasz dcasz pmasz anasz cdasz ctasz), slasz⟩)
    (casz : PySem.W.codeIn K cdasz "are_sizes" = true)
    (kasz : PySem.W.keepIn K (.ref fasz) = true)
    (aisf : PySem.W.nsIn K mainGlobals "is_filled" = some (some (.ref fisf)))
    (lisf : K.lookup fisf = some ⟨ocisf, odisf, .func (PySem.W.fnOf "is_filled" "is_filled" (defArgs sIsF) (defBody sIsF) (defScope sIsF) .none kVisf dcisf pmisf anisf cdisf ctisf), slisf⟩)
    (cisf : PySem.W.codeIn K cdisf "is_filled" = true)
    (kisf : PySem.W.keepIn K (.ref fisf) = true)
    (aws : PySem.W.nsIn K mainGlobals "widths_seen" = some (some (.ref fws)))
    (lws : K.lookup fws = some ⟨ocws, odws, .func (PySem.W.fnOf "widths_seen" "widths_seen" (defArgs sWS) (defBody sWS) (defScope sWS) .none kVws dcws pmws anws cdws ctws), slws⟩)
    (cws : PySem.W.codeIn K cdws "widths_seen" = true)
    (kws : PySem.W.keepIn K (.ref fws) = true)
    (aev : PySem.W.nsIn K mainGlobals "_law_evenly" = some (some (.ref fev)))
    (lev : K.lookup fev = some ⟨ocev, odev, .func (PySem.W.fnOf "_law_evenly" "_law_evenly" (defArgs sEv) (defBody sEv) (defScope sEv) .none kVev dcev pmev anev cdev ctev), slev⟩)
    (cev : PySem.W.codeIn K cdev "_law_evenly" = true)
    (kev : PySem.W.keepIn K (.ref fev) = true)
    (adue : PySem.W.nsIn K mainGlobals "_law_due" = some (some (.ref fdue)))
    (ldue : K.lookup fdue = some ⟨ocdue, oddue, .func (PySem.W.fnOf "_law_due" "_law_due" (defArgs sDue) (defBody sDue) (defScope sDue) .none kVdue dcdue pmdue andue cddue ctdue), sldue⟩)
    (cdue : PySem.W.codeIn K cddue "_law_due" = true)
    (kdue : PySem.W.keepIn K (.ref fdue) = true)
    (aCInp : PySem.W.nsIn K mainGlobals "InputError" = some (some (.ref CInp)))
    (x7IP : PySem.W.findIn K (.ref CIP) "__getattribute__" = some (some (.builtin "BaseException.__getattribute__")))
    (x8IP : PySem.W.findIn K (.ref CIP) "__getattr__" = some none)
    (x9IP : PySem.W.hasDictIn K CIP = true)
    (xAIP : (PySem.W.clsIn K CIP).isSome = true)
    (xBIP : PySem.W.findIn K (.ref CIP) "__class__" = some (some (.builtin "object.__class__")))
    (xg1 : PySem.W.specialIn K (.builtin "object.__class__") "__get__" = some (some (.builtin "getset_descriptor.__get__")))
    (xg2 : PySem.W.takesIn K (.builtin "object.__class__") = some true)
    (xCIP : PySem.W.mroIn K CIP (.type "object") = some true)
    (te : PySem.W.exmOne K (.ref CIP) (.ref CIP) = some true)
    (k1e : PySem.W.kitOne K (.ref CIP) (.ref CInp) = some true)
    (k2e : PySem.W.kitOne K (.ref CIP) (.type "ValueError") = some true)
    (acm : PySem.W.nsIn K mainGlobals "_law_came" = some (some (.ref fcm)))
    (lcm : K.lookup fcm = some ⟨occm, odcm, .func (PySem.W.fnOf "_law_came" "_law_came" (defArgs sCame) (defBody sCame) (defScope sCame) .none kVcm dccm pmcm ancm cdcm ctcm), slcm⟩)
    (ccm : PySem.W.codeIn K cdcm "_law_came" = true)
    (kcm : PySem.W.keepIn K (.ref fcm) = true)
    (asip : PySem.W.nsIn K mainGlobals "_law_sip" = some (some (.ref fsip)))
    (lsip : K.lookup fsip = some ⟨ocsip, odsip, .func (PySem.W.fnOf "_law_sip" "_law_sip" (defArgs sSip) (defBody sSip) (defScope sSip) .none kVsip dcsip pmsip ansip cdsip ctsip), slsip⟩)
    (csip : PySem.W.codeIn K cdsip "_law_sip" = true)
    (ksip : PySem.W.keepIn K (.ref fsip) = true)
    (afrm : PySem.W.nsIn K mainGlobals "_law_from" = some (some (.ref ffrm)))
    (lfrm : K.lookup ffrm = some ⟨ocfrm, odfrm, .func (PySem.W.fnOf "_law_from" "_law_from" (defArgs sFrom) (defBody sFrom) (defScope sFrom) .none kVfrm dcfrm pmfrm anfrm cdfrm ctfrm), slfrm⟩)
    (cfrm : PySem.W.codeIn K cdfrm "_law_from" = true)
    (kfrm : PySem.W.keepIn K (.ref ffrm) = true)
    (adrw : PySem.W.nsIn K mainGlobals "_law_drawn" = some (some (.ref fdrw)))
    (ldrw : K.lookup fdrw = some ⟨ocdrw, oddrw, .func (PySem.W.fnOf "_law_drawn" "_law_drawn" (defArgs sDrw) (defBody sDrw) (defScope sDrw) .none kVdrw dcdrw pmdrw andrw cddrw ctdrw), sldrw⟩)
    (cdrw : PySem.W.codeIn K cddrw "_law_drawn" = true)
    (kdrw : PySem.W.keepIn K (.ref fdrw) = true)
    (ashw : PySem.W.nsIn K mainGlobals "_law_shown" = some (some (.ref fshw)))
    (lshw : K.lookup fshw = some ⟨ocshw, odshw, .func (PySem.W.fnOf "_law_shown" "_law_shown" (defArgs sShw) (defBody sShw) (defScope sShw) .none kVshw dcshw pmshw anshw cdshw ctshw), slshw⟩)
    (cshw : PySem.W.codeIn K cdshw "_law_shown" = true)
    (kshw : PySem.W.keepIn K (.ref fshw) = true)
    (aodd : PySem.W.nsIn K mainGlobals "_law_odd" = some (some (.ref fodd)))
    (lodd : K.lookup fodd = some ⟨ocodd, ododd, .func (PySem.W.fnOf "_law_odd" "_law_odd" (defArgs sOdd) (defBody sOdd) (defScope sOdd) .none kVodd dcodd pmodd anodd cdodd ctodd), slodd⟩)
    (codd : PySem.W.codeIn K cdodd "_law_odd" = true)
    (kodd : PySem.W.keepIn K (.ref fodd) = true)
    (ajar : PySem.W.nsIn K mainGlobals "_law_jar" = some (some (.ref fjar)))
    (ljar : K.lookup fjar = some ⟨ocjar, odjar, .func (PySem.W.fnOf "_law_jar" "_law_jar" (defArgs sJar) (defBody sJar) (defScope sJar) .none kVjar dcjar pmjar anjar cdjar ctjar), sljar⟩)
    (cjar : PySem.W.codeIn K cdjar "_law_jar" = true)
    (kjar : PySem.W.keepIn K (.ref fjar) = true)
    (art : PySem.W.nsIn K mainGlobals "_law_right" = some (some (.ref frt)))
    (lrt : K.lookup frt = some ⟨ocrt, odrt, .func (PySem.W.fnOf "_law_right" "_law_right" (defArgs sRight) (defBody sRight) (defScope sRight) .none kVrt dcrt pmrt anrt (.ref cR) ctrt), slrt⟩)
    (crt : PySem.W.codeIn K (.ref cR) "_law_right" = true)
    (krt : PySem.W.keepIn K (.ref frt) = true)
    (alaw : PySem.W.nsIn K mainGlobals "law" = some (some (.ref flaw)))
    (llaw : K.lookup flaw = some ⟨oclaw, odlaw, .func (PySem.W.fnOf "law" "law" (defArgs sLaw) (defBody sLaw) (defScope sLaw) .none kVlaw dclaw pmlaw anlaw cdlaw ctlaw), sllaw⟩)
    (claw : PySem.W.codeIn K cdlaw "law" = true)
    (klaw : PySem.W.keepIn K (.ref flaw) = true)
    (q1 : K.lookup cR = some ⟨ocC, odC, .fields vsC, slC⟩)
    (q2 : vsC[11]? = some (.ref PR))
    (q3 : PySem.W.codeHdIn K cR PR = true)
    (q4 : K.lookup PR = none)
    (q5 : h.get? PR = some { cls := .none, data := .fields #[] })
    (z_len : PySem.W.nsIn K mainGlobals "len" = some none)
    (z_str : PySem.W.nsIn K mainGlobals "str" = some none)
    (z_int : PySem.W.nsIn K mainGlobals "int" = some none)
    (z_range : PySem.W.nsIn K mainGlobals "range" = some none)
    (z_tuple : PySem.W.nsIn K mainGlobals "tuple" = some none)
    (z_isinstance : PySem.W.nsIn K mainGlobals "isinstance" = some none)
    (z_sum : PySem.W.nsIn K mainGlobals "sum" = some none)
    (z_bool : PySem.W.nsIn K mainGlobals "bool" = some none)
    (z_divmod : PySem.W.nsIn K mainGlobals "divmod" = some none)
    (z_all : PySem.W.nsIn K mainGlobals "all" = some none)
    (z_abs : PySem.W.nsIn K mainGlobals "abs" = some none)
    (z_ValueError : PySem.W.nsIn K mainGlobals "ValueError" = some none)
    (z_repr : PySem.W.nsIn K mainGlobals "repr" = some none)
    (z_list : PySem.W.nsIn K mainGlobals "list" = some none)
    (z_max : PySem.W.nsIn K mainGlobals "max" = some none)
    (z_min : PySem.W.nsIn K mainGlobals "min" = some none) :
    Gd.LawG l w K 11 63 "_law_script" mg fa h := by
  have e := hfa.symm.trans (PySem.W.mg_of X G alaw)
  cases e
  have Fcs := fun_mk (st := sCS) lcs ccs kcs
  have bcs := Fcs.binds (ps := ["sizes", "width"]) fun _ _ _ _ _ _ us hl => match us, hl with | [_, _], _ => rfl
  have Fwr := fun_mk (st := sWR) lwr cwr kwr
  have bwr := Fwr.binds (ps := ["items"]) fun _ _ _ _ _ _ us hl => match us, hl with | [_], _ => rfl
  have Ffr := fun_mk (st := sFR) lfr cfr kfr
  have bfr := Ffr.binds (ps := ["row", "width"]) fun _ _ _ _ _ _ us hl => match us, hl with | [_, _], _ => rfl
  have Fcr := fun_mk (st := sCR) lcr ccr kcr
  have bcr := Fcr.binds (ps := ["row", "width"]) fun _ _ _ _ _ _ us hl => match us, hl with | [_, _], _ => rfl
  have Ftr := fun_mk (st := sTR) ltr ctr ktr
  have btr := Ftr.binds (ps := ["row", "width"]) fun _ _ _ _ _ _ us hl => match us, hl with | [_, _], _ => rfl
  have FIT := fun_mk (st := sEI) lIT cIT kIT
  have bIT := FIT.binds (ps := ["self", "value"]) fun _ _ _ _ _ _ us hl => match us, hl with | [_, _], _ => rfl
  have Fco := fun_mk (st := sCO) lco cco kco
  have bco := Fco.binds (ps := ["text"]) fun _ _ _ _ _ _ us hl => match us, hl with | [_], _ => rfl
  have Fai := fun_mk (st := sAI) lai cai kai
  have bai := Fai.binds (ps := ["self", "text"]) fun _ _ _ _ _ _ us hl => match us, hl with | [_, _], _ => rfl
  let TA : TxA w K mg := ⟨⟨CIT, fIT, _, PySem.W.mg_of X G aCIT, ⟨⟨nmIT, qIT, NIT, bsIT, bmIT, snIT, subIT, abIT, colIT, ddIT, m0IT, m1IT, m2IT, m3IT, m5IT, xIT, xrIT⟩, e1IT, e2IT, e3IT, e4IT⟩, aIT, e5IT, e6IT, FIT, bIT⟩, PySem.W.mg_none_of X G z_len, PySem.W.mg_none_of X G z_str, PySem.W.mg_none_of X G z_int, PySem.W.mg_none_of X G z_range, PySem.W.mg_none_of X G z_tuple, PySem.W.mg_none_of X G z_isinstance, ⟨_, PySem.W.mg_of X G mMW⟩, ⟨_, PySem.W.mg_of X G mMC⟩, dC, PySem.W.mg_of X G gdC, dwC, fun k => (match k with | .cut => fcr | .fill => ffr | .tail => ftr), fun k => (match k with | .cut => nkcut | .fill => nkfill | .tail => nktail), ⟨fco, _, Fco, bco, PySem.W.mg_of X G aco, kco⟩, CA, PySem.W.mg_of X G aCA, ⟨pgA, hdA, poA, saA⟩, nA0, nA1, fai, _, Fai, bai, ⟨mkA, aai, iai, kcA⟩⟩
  have Fri := fun_mk (st := sRI) lri cri kri
  have bri := Fri.binds (ps := ["self", "unit", "times", "last"]) fun _ _ _ _ _ _ us hl => match us, hl with | [_, _, _, _], _ => rfl
  have Fmn := fun_mk (st := sRM) lmn cmn kmn
  have bmn := Fmn.binds (ps := ["self"]) fun _ _ _ _ _ _ us hl => match us, hl with | [_], _ => rfl
  have Fro := fun_mk (st := sRO) lro cro kro
  have bro := Fro.binds (ps := ["self", "items"]) fun _ _ _ _ _ _ us hl => match us, hl with | [_, _], _ => rfl
  let TRw : TxRw w K mg := ⟨TA, PySem.W.mg_none_of X G z_sum, CW, PySem.W.mg_of X G aCW, ⟨pgW, hdW, poW, saW⟩, nW0, nW1, nW2, fri, _, Fri, bri, ⟨mkW, ari, iri, kcW⟩, ⟨fmn, _, Fmn, bmn, ⟨amn, imn, kmn⟩⟩, ⟨fcs, _, Fcs, bcs, PySem.W.mg_of X G acs, kcs⟩, ⟨fwr, _, Fwr, bwr, PySem.W.mg_of X G awr, kwr⟩, ⟨ffr, _, Ffr, bfr, PySem.W.mg_of X G afr, kfr⟩, ⟨fcr, _, Fcr, bcr, PySem.W.mg_of X G acr, kcr⟩, ⟨ftr, _, Ftr, btr, PySem.W.mg_of X G atr, ktr⟩, ⟨fro, _, Fro, bro, ⟨aro, iro, kro⟩⟩, rfl, rfl, rfl⟩
  have Fiib := fun_mk (st := sIIB) liib ciib kiib
  have biib := Fiib.binds (ps := ["value", "low", "high"]) fun _ _ _ _ _ _ us hl => match us, hl with | [_, _, _], _ => rfl
  let TI : TxI K mg := ⟨PySem.W.mg_none_of X G z_isinstance, PySem.W.mg_none_of X G z_int, PySem.W.mg_none_of X G z_bool, ⟨fiib, _, Fiib, biib, PySem.W.mg_of X G aiib, kiib⟩⟩
  have FII := fun_mk (st := sEIt) lII cII kII
  have bII := FII.binds (ps := ["self", "value"]) fun _ _ _ _ _ _ us hl => match us, hl with | [_, _], _ => rfl
  have FIP := fun_mk (st := sEPl) lIP cIP kIP
  have bIP := FIP.binds (ps := ["self", "value"]) fun _ _ _ _ _ _ us hl => match us, hl with | [_, _], _ => rfl
  have Fpa := fun_mk (st := sPA) lpa cpa kpa
  have bpa := Fpa.binds (ps := ["self", "place"]) fun _ _ _ _ _ _ us hl => match us, hl with | [_, _], _ => rfl
  have Fcci := fun_mk (st := sCCI) lcci ccci kcci
  have bcci := Fcci.binds (ps := ["items"]) fun _ _ _ _ _ _ us hl => match us, hl with | [_], _ => rfl
  have Fan := fun_mk (st := sAN) lan can kan
  have ban := Fan.binds (ps := ["self", "items"]) fun _ _ _ _ _ _ us hl => match us, hl with | [_, _], _ => rfl
  have Fap := fun_mk (st := sAP) lap cap kap
  have bap := Fap.binds (ps := ["self", "items", "place"]) fun _ _ _ _ _ _ us hl => match us, hl with | [_, _, _], _ => rfl
  let TP : TxP w K mg := ⟨TRw, TI, PySem.W.mg_none_of X G z_divmod, ⟨_, PySem.W.mg_of X G mMCI⟩, ⟨CII, fII, _, PySem.W.mg_of X G aCII, ⟨⟨nmII, qII, NII, bsII, bmII, snII, subII, abII, colII, ddII, m0II, m1II, m2II, m3II, m5II, xII, xrII⟩, e1II, e2II, e3II, e4II⟩, aII, e5II, e6II, FII, bII⟩, ⟨CIP, fIP, _, PySem.W.mg_of X G aCIP, ⟨⟨nmIP, qIP, NIP, bsIP, bmIP, snIP, subIP, abIP, colIP, ddIP, m0IP, m1IP, m2IP, m3IP, m5IP, xIP, xrIP⟩, e1IP, e2IP, e3IP, e4IP⟩, aIP, e5IP, e6IP, FIP, bIP⟩, ⟨fpa, _, Fpa, bpa, ⟨apa, ipa, kpa⟩⟩, ⟨fcci, _, Fcci, bcci, PySem.W.mg_of X G acci, kcci⟩, ⟨fan, _, Fan, ban, ⟨aan, ian, kan⟩⟩, ⟨fap, _, Fap, bap, ⟨aap, iap, kap⟩⟩⟩
  have Fasz := fun_mk (st := sASz) lasz casz kasz
  have basz := Fasz.binds (ps := ["value"]) fun _ _ _ _ _ _ us hl => match us, hl with | [_], _ => rfl
  have Fisf := fun_mk (st := sIsF) lisf cisf kisf
  have bisf := Fisf.binds (ps := ["sizes", "width"]) fun _ _ _ _ _ _ us hl => match us, hl with | [_, _], _ => rfl
  have Fws := fun_mk (st := sWS) lws cws kws
  have bws := Fws.binds (ps := ["sizes"]) fun _ _ _ _ _ _ us hl => match us, hl with | [_], _ => rfl
  let TW : TxW w K mg := ⟨TI, PySem.W.mg_none_of X G z_tuple, PySem.W.mg_none_of X G z_len, PySem.W.mg_none_of X G z_all, PySem.W.mg_none_of X G z_range, ⟨_, PySem.W.mg_of X G mMI⟩, ⟨_, PySem.W.mg_of X G mMS⟩, ⟨_, PySem.W.mg_of X G mMW⟩, ⟨fasz, _, Fasz, basz, PySem.W.mg_of X G aasz, kasz⟩, ⟨fisf, _, Fisf, bisf, PySem.W.mg_of X G aisf, kisf⟩, ⟨fws, _, Fws, bws, PySem.W.mg_of X G aws, kws⟩, ⟨CIP, fIP, _, PySem.W.mg_of X G aCIP, ⟨⟨nmIP, qIP, NIP, bsIP, bmIP, snIP, subIP, abIP, colIP, ddIP, m0IP, m1IP, m2IP, m3IP, m5IP, xIP, xrIP⟩, e1IP, e2IP, e3IP, e4IP⟩, aIP, e5IP, e6IP, FIP, bIP⟩⟩
  let TJ : TxtJ mg := ⟨PySem.W.mg_none_of X G z_len, PySem.W.mg_none_of X G z_int, PySem.W.mg_none_of X G z_abs, PySem.W.mg_none_of X G z_divmod⟩
  have Fev := fun_mk (st := sEv) lev cev kev
  have bev := Fev.binds (ps := ["_law_many", "_law_wide"]) fun _ _ _ _ _ _ us hl => match us, hl with | [_, _], _ => rfl
  have Fdue := fun_mk (st := sDue) ldue cdue kdue
  have bdue := Fdue.binds (ps := ["_law_lengths_here"]) fun _ _ _ _ _ _ us hl => match us, hl with | [_], _ => rfl
  let TDu : TxDu K mg := ⟨TJ, PySem.W.mg_none_of X G z_sum, PySem.W.mg_none_of X G z_range, PySem.W.mg_none_of X G z_tuple, ⟨fev, _, Fev, bev, PySem.W.mg_of X G aev, kev⟩, ⟨fdue, _, Fdue, bdue, PySem.W.mg_of X G adue, kdue⟩⟩
  have Fcm := fun_mk (st := sCame) lcm ccm kcm
  have bcm := Fcm.binds (ps := ["_law_ask"]) fun _ _ _ _ _ _ us hl => match us, hl with | [_], _ => rfl
  let TCm : TxCm K mg CIP := ⟨CInp, PySem.W.mg_none_of X G z_isinstance, PySem.W.mg_none_of X G z_ValueError, PySem.W.mg_none_of X G z_repr, PySem.W.mg_of X G aCIP, PySem.W.mg_of X G aCInp, ⟨⟨x7IP, x8IP, e2IP, x9IP⟩, xAIP, xBIP, xg1, xg2, xCIP⟩, e6IP, te, k1e, k2e, ⟨fcm, _, Fcm, bcm, PySem.W.mg_of X G acm, kcm⟩⟩
  have Fsip := fun_mk (st := sSip) lsip csip ksip
  have bsip := Fsip.binds (ps := ["_law_jar_here", "_law_many"]) fun _ _ _ _ _ _ us hl => match us, hl with | [_, _], _ => rfl
  have Ffrm := fun_mk (st := sFrom) lfrm cfrm kfrm
  have bfrm := Ffrm.binds (ps := ["_law_jar_here", "_law_things"]) fun _ _ _ _ _ _ us hl => match us, hl with | [_, _], _ => rfl
  have Fdrw := fun_mk (st := sDrw) ldrw cdrw kdrw
  have bdrw := Fdrw.binds (ps := ["_law_jar_here"]) fun _ _ _ _ _ _ us hl => match us, hl with | [_], _ => rfl
  have Fshw := fun_mk (st := sShw) lshw cshw kshw
  have bshw := Fshw.binds (ps := ["_law_wide", "_law_lengths_here"]) fun _ _ _ _ _ _ us hl => match us, hl with | [_, _], _ => rfl
  have Fodd := fun_mk (st := sOdd) lodd codd kodd
  have bodd := Fodd.binds (ps := ["_law_jar_here", "_law_lengths_here"]) fun _ _ _ _ _ _ us hl => match us, hl with | [_, _], _ => rfl
  have KW : KBinds K (PySem.W.fnOf "widths_seen" "widths_seen" (defArgs sWS) (defBody sWS) (defScope sWS) .none kVws dcws pmws anws cdws ctws) ["sizes"] ["sizes"] gK1 gK1V := ⟨fun s us ws _ hl => by
      match us, ws, hl with
      | [], [_], _ => exact .of_eq rfl, fun h1 h2 => gK1_rel h1 h2⟩
  have Fjar := fun_mk (st := sJar) ljar cjar kjar
  have bjar := Fjar.binds (ps := ["_law_script", "_law_k"]) fun _ _ _ _ _ _ us hl => match us, hl with | [_, _], _ => rfl
  have Frt := fun_mk (st := sRight) lrt crt krt
  have brt := Frt.binds (ps := ["_law_jar_here"]) fun _ _ _ _ _ _ us hl => match us, hl with | [_], _ => rfl
  have Flaw := fun_mk (st := sLaw) llaw claw klaw
  let R : TxR w K mg := ⟨TW, TP, TDu, TCm, PySem.W.mg_none_of X G z_str, PySem.W.mg_none_of X G z_list, PySem.W.mg_none_of X G z_all, ⟨fsip, _, Fsip, bsip, PySem.W.mg_of X G asip, ksip⟩, ⟨ffrm, _, Ffrm, bfrm, PySem.W.mg_of X G afrm, kfrm⟩, ⟨fdrw, _, Fdrw, bdrw, PySem.W.mg_of X G adrw, kdrw⟩, ⟨fshw, _, Fshw, bshw, PySem.W.mg_of X G ashw, kshw⟩, ⟨fodd, _, Fodd, bodd, PySem.W.mg_of X G aodd, kodd⟩, KW⟩
  refine ⟨_, [(cR, PR)], spLaw K PR, fun p hp => ?_, fun p hp => ?_, fun p hp => ?_, fun s v => .of_eq rfl, fun H a ns hl hT hS => ?_, fun base _ _ sm hB => ok_law Flaw TJ TDu.range (PySem.W.mg_none_of X G z_all) 10 (ok_right Frt R rfl sm (hB (cR, PR) (List.mem_singleton.mpr rfl))) Fjar bjar (PySem.W.mg_of X G ajar) kjar (by decide) brt (PySem.W.mg_of X G art) krt (PySem.W.mg_none_of X G z_max) (PySem.W.mg_none_of X G z_min)⟩
  · cases List.mem_singleton.mp hp
    exact q5
  · cases List.mem_singleton.mp hp
    exact q4
  · cases List.mem_singleton.mp hp
    exact PySem.W.codeHd_of_K X q3
  · refine ⟨a, ns, rfl, hS, hl, fun p hp => ?_, fun _ => rfl⟩
    cases List.mem_singleton.mp hp
    exact LamX.TabS.nil (hT (cR, PR) (List.mem_singleton.mpr rfl))
end My
open PySem PySem.W PyProof.Rows in
set_option maxRecDepth 100000 in
set_option maxHeartbeats 0 in
theorem PySem.Challenge.cw_lastshort_k59_widths_seen_holds : PySem.Challenge.rw_lastshort_k59_widths_seen.Holds := by
  w_on; o_law; k_head; (case hw => w_witness2)
  k_fill
  refine Gd.walk_ofG (l := PySem.Challenge.rw_lastshort_k59_widths_seen) (n := 63) (k := 11) (x := "_law_script") rfl (by decide) rfl (by decide +kernel) ⟨rfl, by decide, by decide⟩ (fun w h Y => PySem.W.km_in_of Y) ?F
  case F =>
    intro w mg fa h Y KX G hmg
    refine' My.all_mk KX G hmg ?acs ?lcs ?ccs ?kcs ?awr ?lwr ?cwr ?kwr ?afr ?lfr ?cfr ?kfr ?acr ?lcr ?ccr ?kcr ?atr ?ltr ?ctr ?ktr ?aCIT ?aIT ?iIT ?lIT ?cIT ?kIT ?xIT ?xrIT ?e1IT ?e2IT ?e3IT ?e4IT ?e5IT ?e6IT ?mMW ?mMC ?gdC ?nkcut ?nkfill ?nktail ?dwC ?aco ?lco ?cco ?kco ?aCA ?pgA ?hdA ?poA ?saA ?mkA ?kcA ?nA0 ?nA1 ?aai ?iai ?lai ?cai ?kai ?aCW ?pgW ?hdW ?poW ?saW ?mkW ?kcW ?nW0 ?nW1 ?nW2 ?ari ?iri ?lri ?cri ?kri ?amn ?imn ?lmn ?cmn ?kmn ?aro ?iro ?lro ?cro ?kro ?aiib ?liib ?ciib ?kiib ?mMCI ?aCII ?aII ?iII ?lII ?cII ?kII ?xII ?xrII ?e1II ?e2II ?e3II ?e4II ?e5II ?e6II ?aCIP ?aIP ?iIP ?lIP ?cIP ?kIP ?xIP ?xrIP ?e1IP ?e2IP ?e3IP ?e4IP ?e5IP ?e6IP ?apa ?ipa ?lpa ?cpa ?kpa ?acci ?lcci ?ccci ?kcci ?aan ?ian ?lan ?can ?kan ?aap ?iap ?lap ?cap ?kap ?mMI ?mMS ?aasz ?lasz ?casz ?kasz ?aisf ?lisf ?cisf ?kisf ?aws ?lws ?cws ?kws ?aev ?lev ?cev ?kev ?adue ?ldue ?cdue ?kdue ?aCInp ?x7IP ?x8IP ?x9IP ?xAIP ?xBIP ?xg1 ?xg2 ?xCIP ?te ?k1e ?k2e ?acm ?lcm ?ccm ?kcm ?asip ?lsip ?csip ?ksip ?afrm ?lfrm ?cfrm ?kfrm ?adrw ?ldrw ?cdrw ?kdrw ?ashw ?lshw ?cshw ?kshw ?aodd ?lodd ?codd ?kodd ?ajar ?ljar ?cjar ?kjar ?art ?lrt ?crt ?krt ?alaw ?llaw ?claw ?klaw ?q1 ?q2 ?q3 ?q4 ?q5 ?z_len ?z_str ?z_int ?z_range ?z_tuple ?z_isinstance ?z_sum ?z_bool ?z_divmod ?z_all ?z_abs ?z_ValueError ?z_repr ?z_list ?z_max ?z_min
    (case acs => k_is)
    (case lcs => k_is)
    (case ccs => k_is)
    (case kcs => k_is)
    (case awr => k_is)
    (case lwr => k_is)
    (case cwr => k_is)
    (case kwr => k_is)
    (case afr => k_is)
    (case lfr => k_is)
    (case cfr => k_is)
    (case kfr => k_is)
    (case acr => k_is)
    (case lcr => k_is)
    (case ccr => k_is)
    (case kcr => k_is)
    (case atr => k_is)
    (case ltr => k_is)
    (case ctr => k_is)
    (case ktr => k_is)
    (case aCIT => k_is)
    (case aIT => k_is)
    (case iIT => k_is)
    (case lIT => k_is)
    (case cIT => k_is)
    (case kIT => k_is)
    (case xIT => k_is)
    (case xrIT => decide +kernel)
    (case e1IT => k_is)
    (case e2IT => k_is)
    (case e3IT => k_is)
    (case e4IT => k_is)
    (case e5IT => k_is)
    (case e6IT => k_is)
    (case mMW => k_is)
    (case mMC => k_is)
    (case gdC => k_is)
    (case nkcut => k_is)
    (case nkfill => k_is)
    (case nktail => k_is)
    (case dwC => kernel_rfl)
    (case aco => k_is)
    (case lco => k_is)
    (case cco => k_is)
    (case kco => k_is)
    (case aCA => k_is)
    (case pgA => k_is)
    (case hdA => k_is)
    (case poA => k_is)
    (case saA => k_is)
    (case mkA => k_is)
    (case kcA => k_is)
    (case nA0 => k_is)
    (case nA1 => k_is)
    (case aai => k_is)
    (case iai => k_is)
    (case lai => k_is)
    (case cai => k_is)
    (case kai => k_is)
    (case aCW => k_is)
    (case pgW => k_is)
    (case hdW => k_is)
    (case poW => k_is)
    (case saW => k_is)
    (case mkW => k_is)
    (case kcW => k_is)
    (case nW0 => k_is)
    (case nW1 => k_is)
    (case nW2 => k_is)
    (case ari => k_is)
    (case iri => k_is)
    (case lri => k_is)
    (case cri => k_is)
    (case kri => k_is)
    (case amn => k_is)
    (case imn => k_is)
    (case lmn => k_is)
    (case cmn => k_is)
    (case kmn => k_is)
    (case aro => k_is)
    (case iro => k_is)
    (case lro => k_is)
    (case cro => k_is)
    (case kro => k_is)
    (case aiib => k_is)
    (case liib => k_is)
    (case ciib => k_is)
    (case kiib => k_is)
    (case mMCI => k_is)
    (case aCII => k_is)
    (case aII => k_is)
    (case iII => k_is)
    (case lII => k_is)
    (case cII => k_is)
    (case kII => k_is)
    (case xII => k_is)
    (case xrII => decide +kernel)
    (case e1II => k_is)
    (case e2II => k_is)
    (case e3II => k_is)
    (case e4II => k_is)
    (case e5II => k_is)
    (case e6II => k_is)
    (case aCIP => k_is)
    (case aIP => k_is)
    (case iIP => k_is)
    (case lIP => k_is)
    (case cIP => k_is)
    (case kIP => k_is)
    (case xIP => k_is)
    (case xrIP => decide +kernel)
    (case e1IP => k_is)
    (case e2IP => k_is)
    (case e3IP => k_is)
    (case e4IP => k_is)
    (case e5IP => k_is)
    (case e6IP => k_is)
    (case apa => k_is)
    (case ipa => k_is)
    (case lpa => k_is)
    (case cpa => k_is)
    (case kpa => k_is)
    (case acci => k_is)
    (case lcci => k_is)
    (case ccci => k_is)
    (case kcci => k_is)
    (case aan => k_is)
    (case ian => k_is)
    (case lan => k_is)
    (case can => k_is)
    (case kan => k_is)
    (case aap => k_is)
    (case iap => k_is)
    (case lap => k_is)
    (case cap => k_is)
    (case kap => k_is)
    (case mMI => k_is)
    (case mMS => k_is)
    (case aasz => k_is)
    (case lasz => k_is)
    (case casz => k_is)
    (case kasz => k_is)
    (case aisf => k_is)
    (case lisf => k_is)
    (case cisf => k_is)
    (case kisf => k_is)
    (case aws => k_is)
    (case lws => k_is)
    (case cws => k_is)
    (case kws => k_is)
    (case aev => k_is)
    (case lev => k_is)
    (case cev => k_is)
    (case kev => k_is)
    (case adue => k_is)
    (case ldue => k_is)
    (case cdue => k_is)
    (case kdue => k_is)
    (case aCInp => k_is)
    (case x7IP => k_is)
    (case x8IP => k_is)
    (case x9IP => k_is)
    (case xAIP => kernel_rfl)
    (case xBIP => k_is)
    (case xg1 => k_is)
    (case xg2 => k_is)
    (case xCIP => k_is)
    (case te => kernel_rfl)
    (case k1e => kernel_rfl)
    (case k2e => kernel_rfl)
    (case acm => k_is)
    (case lcm => k_is)
    (case ccm => k_is)
    (case kcm => k_is)
    (case asip => k_is)
    (case lsip => k_is)
    (case csip => k_is)
    (case ksip => k_is)
    (case afrm => k_is)
    (case lfrm => k_is)
    (case cfrm => k_is)
    (case kfrm => k_is)
    (case adrw => k_is)
    (case ldrw => k_is)
    (case cdrw => k_is)
    (case kdrw => k_is)
    (case ashw => k_is)
    (case lshw => k_is)
    (case cshw => k_is)
    (case kshw => k_is)
    (case aodd => k_is)
    (case lodd => k_is)
    (case codd => k_is)
    (case kodd => k_is)
    (case ajar => k_is)
    (case ljar => k_is)
    (case cjar => k_is)
    (case kjar => k_is)
    (case art => k_is)
    (case lrt => k_is)
    (case crt => k_is)
    (case krt => k_is)
    (case alaw => k_is)
    (case llaw => k_is)
    (case claw => k_is)
    (case klaw => k_is)
    (case q1 => k_is)
    (case q2 => rfl)
    (case q3 => kernel_rfl)
    (case q4 => kernel_rfl)
    (case q5 => exact PySem.W.km_tabs_of Y _ (by decide))
    (case z_len => k_is)
    (case z_str => k_is)
    (case z_int => k_is)
    (case z_range => k_is)
    (case z_tuple => k_is)
    (case z_isinstance => k_is)
    (case z_sum => k_is)
    (case z_bool => k_is)
    (case z_divmod => k_is)
    (case z_all => k_is)
    (case z_abs => k_is)
    (case z_ValueError => k_is)
    (case z_repr => k_is)
    (case z_list => k_is)
    (case z_max => k_is)
    (case z_min => k_is)
