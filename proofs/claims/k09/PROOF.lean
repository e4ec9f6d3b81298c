import PyProof.Rows.All
import Wide.All
import OpenK.AllK
import Wide.FinOn
import HandS.ForMost
import HandS.IsInst
import HandS.TupAny
import HandS.SlotsOwn
import HandS.ExcInit
import HandS.ExcField
import HandS.WordsExc
import KE.KCallOwn
import OpenK.KOps
import PyProof.Rows.ChunkEnd
import PyProof.ReprReads
import KE.GoesEnum
import PyProof.ReprRoads
import HandS.Lambda
import HandS.RaiseMore
import HandS.TryMany
import KE.KExcIs
import HandS.TupMul
import HandS.CallLocal
import HandS.Codes
import HandS.FStr
import HandS.Conv
import PySem.Challenge.RW_lastshort_k09_runs_and_replies_refused
set_option Elab.async false
set_option linter.all false
set_option maxRecDepth 100000
set_option maxHeartbeats 8000000
/-! what every proof about a program of several defs wants -/
namespace Cm
open PySem PySem.Spec PyProof.Rows L2
/-- a def of the module -/
structure Df (K : PySem.W.Frag) (mg : Str → Option Value) (x : Str) (st : Stmt) (ps : List Str) where
  f : Addr
  fd : FuncData
  F : Fun K x x st f fd
  b : Binds K fd ps []
  g : mg x = some (.ref f)
  k : PySem.W.keepIn K (.ref f) = true
/-- a method of the class at C -/
structure Mt (K : PySem.W.Frag) (C : Addr) (x q : Str) (st : Stmt) (ps : List Str) where
  f : Addr
  fd : FuncData
  F : Fun K x q st f fd
  b : Binds K fd ps []
  m : Meth K C x f
theorem dI (a b : Int) : decide (V.int a = V.int b) = decide (a = b) := decide_eq_decide.mpr ⟨fun z => by cases z; rfl, fun z => by rw [z]⟩
theorem dS (a b : Str) : decide (V.str a = V.str b) = decide (a = b) := decide_eq_decide.mpr ⟨fun z => by cases z; rfl, fun z => by rw [z]⟩
theorem dB (a b : Bool) : decide (V.bl a = V.bl b) = decide (a = b) := decide_eq_decide.mpr ⟨fun z => by cases z; rfl, fun z => by rw [z]⟩
theorem putF_len (f : Str) (v : V) : ∀ fs : List (Str × V), (putF f v fs).length ≤ fs.length + 1
  | [] => Nat.le_refl _
  | (g, x) :: r => by
    unfold putF
    by_cases h : g = f
    · rw [if_pos h]
      exact Nat.le_succ _
    · rw [if_neg h]
      exact Nat.succ_le_succ (putF_len f v r)
theorem szl {n : Nat} (h : n ≤ 1000) : n ≤ sizeLine := Nat.le_of_lt (small1000 h)
theorem szM {n : Nat} (h : n ≤ 1000000) : n < sizeLine := Nat.lt_of_le_of_lt h (by decide)
theorem Same.set {K : PySem.W.Frag} {H H' : Hp} {a : Addr} {xs : List V} (e : Same H H') (h : SqT K H a xs) : SqT K H' a xs := by
  rcases h with (h | ⟨o, h⟩) | h
  · exact .inl (.inl (e _ _ h))
  · exact .inl (.inr ⟨o, e _ _ h⟩)
  · exact .inr h
theorem same_new {H : Hp} {p : Addr} {o : HO} (h : H p = none) : Same H (upd H p o) := fun b x e => by
  rw [upd_ne (ne_of_none e h)]
  exact e
theorem pass_none {P : Program} {w : World} {X : Cx} : Passes (L2.CX P w) X (fun _ _ _ => False) := fun pins σ H s e s2 I h => by
  obtain ⟨_, _, _, _, _, _, _, _, _, _, _, _, h⟩ := h
  exact h.elim
/-! ### len and truth of an instance with an own __len__ -/
section
variable {X : Cx} {C g : Addr} {n : Nat} {sp : Sp}
theorem inst_of {pins : List (Addr × Obj)} {σ : L2.St} {H : Hp} {s : Shared} {a dx : Addr} {fs : List (Str × V)} (I : Inv X pins σ H s) (e : H a = some (.ins C dx fs)) : ∃ (ox : Obj) (od : Option Obj), PySem.W.InstAt s.heap a ox C od := by
  obtain ⟨mA, O, _⟩ := ins_get I.hok e
  obtain ⟨od, J, _⟩ := O.look
  exact ⟨_, _, J⟩
def rLenO (C : Addr) (sp : Sp) : List V → Hp → VK → Prop := fun xs H Q => ∃ (a dx : Addr) (fs : List (Str × V)), xs = [.ref a] ∧ H a = some (.ins C dx fs) ∧ sp [.ref a] H (fun v H2 => ∃ k : Nat, v = .int k ∧ k ≤ 1000000 ∧ Q (.int k) H2) fun _ _ _ => False
theorem call_lenO (hs : PySem.W.findIn X.K (.ref C) "__len__" = some (some (.ref g))) (hf : PySem.W.isFn X.K (.ref g) = true) (F : FnR X.prog X.w X.K X.mg X.base CX0 n g sp) (hr : Room (n + 1) X.A) : CallR X (.builtin "len") (rLenO C sp) := by
  intro pins s σ H xs us Q I r h
  obtain ⟨a, dx, fs, rfl, ha, q⟩ := h
  obtain ⟨u, rfl, ru⟩ := vals1 r
  cases (show u = Value.ref a from ru)
  obtain ⟨ox, od, J⟩ := inst_of I ha
  obtain ⟨m, fr⟩ := I.fr
  refine PySem.W.len_K fr I.ok.mod.kin J hs hf ?_
  refine wpAny_mono (wpAny_call (SlX.run_at (us := [.ref a]) (ws := [.ref a]) F hr.in1 I.env0.in1 pass0 I (.cons rfl .nil) q)) (fun z s2 hz => ?_) fun _ _ e => e
  obtain ⟨z2, H2, I2, rz, k, rfl, hk, qz⟩ := hz
  obtain ⟨tk, rfl⟩ := (show ∃ tk, z = Value.int k tk from rz)
  exact ⟨⟨by omega, by omega⟩, .int k, H2, I2.tok _, ⟨_, rfl⟩, qz⟩
end
/-! ### bool of an instance with an own __len__ -/
section
variable {prog : Program} {w : World} {A : Around} {E : Value → Shared → Prop} {s : Shared} {K : PySem.W.Frag} {x C f : Addr} {ox : Obj} {od : Option Obj}
theorem len_bodyK {Q : Value → Shared → Prop} (X : K.In s.heap) (I : PySem.W.InstAt s.heap x ox C od) (hs : PySem.W.findIn K (.ref C) "__len__" = some (some (.ref f))) (hf : PySem.W.isFn K (.ref f) = true)
    (h : wpAny (model prog w) A (call (.ref f) [.ref x]) (PySem.W.LenBack Q) E s) : wpAny (model prog w) A (Builtin.«len» ⟨[.ref x], []⟩) (fun fin s' => ∃ r, fin = .done (.ret r) ∧ Q r s') E s := by
  unfold Builtin.«len»
  refine wpAny_bind (m := oneArg "len" _) (wpAny_pure ?_)
  refine wpAny_bind (m := callSpecial? (.ref x) (Str.ofString "__len__")) (PySem.W.special_fn X I hs (beq_iff_eq.mp hf) (wpAny_mono h (fun r s' hr => ?_) fun _ _ y => y))
  cases r <;> first | exact hr.elim | skip
  rename_i n u
  obtain ⟨⟨h0, h1⟩, hq⟩ := hr
  refine wpAny_bind (wpAny_holding (wpAny_pure ?_))
  refine wpAny_bind (wpAny_letGo ?_)
  show wpAny _ _ (if n < 0 then _ else _) _ _ _
  rw [if_neg (by omega)]
  show wpAny _ _ (if n ≥ 2 ^ 63 then _ else _) _ _ _
  rw [if_neg (by omega)]
  exact wpAny_bind (wpAny_mkInt (wpAny_pure ⟨_, rfl, hq⟩))
theorem truthy_KL {Q : Bool → Shared → Prop} (X : K.In s.heap) (I : PySem.W.InstAt s.heap x ox C od) (hb : PySem.W.findIn K (.ref C) "__bool__" = some none) (hl : PySem.W.findIn K (.ref C) "__len__" = some (some (.ref f))) (hf : PySem.W.isFn K (.ref f) = true)
    (h : wpAny (model prog w) A.in1 (call (.ref f) [.ref x]) (PySem.W.LenBack fun v s' => ∃ n t, v = .int n t ∧ Q (n != 0) s') E s) : wpAny (model prog w) A (truthy (.ref x)) Q E s := by
  have key : wpAny (model prog w) A (runValue (.builtin "len" ⟨[.ref x], []⟩)) (fun r s' => ∃ n t, r = .int n t ∧ Q (n != 0) s') E s := by
    refine wpAny_runValue (codeAny_builtin entry_len ?_)
    rw [Around.under_plainId plain_len _]
    exact wpAny_mono (len_bodyK X I hl hf h) (fun fin s' h' => by obtain ⟨r, rfl, hq⟩ := h'; exact hq) fun _ _ e => e
  unfold truthy
  refine wpAny_bind (m := callSpecial? (.ref x) (Str.ofString "__bool__")) (wpAny_bind (wpAny_bind (I.type.here ((PySem.W.looks_findIn X hb).here (wpAny_pure ?_)))))
  refine wpAny_bind (wpAny_bind (I.type.here ((PySem.W.looks_findIn X hl).here ?_)))
  exact wpAny_bind (wpAny_mono key (fun r s' h' => by obtain ⟨n, t, rfl, hq⟩ := h'; exact wpAny_pure hq) fun _ _ e => e)
theorem bool_KL {Q : Value → Shared → Prop} (X : K.In s.heap) (I : PySem.W.InstAt s.heap x ox C od) (hb : PySem.W.findIn K (.ref C) "__bool__" = some none) (hl : PySem.W.findIn K (.ref C) "__len__" = some (some (.ref f))) (hf : PySem.W.isFn K (.ref f) = true)
    (h : wpAny (model prog w) A.in1.in1.in1 (call (.ref f) [.ref x]) (PySem.W.LenBack fun v s' => ∃ n t, v = .int n t ∧ Q (.bool (n != 0)) s') E s) : wpAny (model prog w) A (call (.type "bool") [.ref x]) Q E s := by
  refine callType_codes (T := "bool") (Bi := Builtin.«object.__init__») (Q₁ := fun r s₁ => ∃ b, r = .bool b ∧ Q r s₁) PySem.F.called_bool (PySem.F.typeCall_bool_1 _) PySem.F.entry_object_init ?_ ?_
  · refine codeAny_of_tree ?_
    show wpAny _ A.in1.in1 (do checkBuiltinCall "bool.__new__" ⟨[.type "bool", .ref x], []⟩; again (.builtin "bool.__new__" ⟨[.type "bool", .ref x], []⟩)) _ _ s
    refine wpAny_bind (wpAny_of_eq (PySem.F.newCall_bool_1 _) (wpAny_pure ⟨plainId_quiet (by decide +kernel) _, codeAny_builtin PySem.F.entry_bool_new ?_⟩))
    rw [Around.under_plainId (by decide +kernel) _]
    have f1 := PySem.F.conv_sub_bool
    have key : wpAny (model prog w) A.in1.in1 (truthy (.ref x)) (fun b s1 => Q (.bool b) s1) E s := truthy_KL X I hb hl hf (wpAny_mono h (fun v s1 hv => by
      cases v <;> first | exact hv.elim | skip
      obtain ⟨h01, n, t, e, hq⟩ := hv
      cases e
      exact ⟨h01, _, _, rfl, hq⟩) fun _ _ z => z)
    unfold Builtin.«bool.__new__»
    show wpAny _ _ (isType (.type "bool") >>= _) _ _ s
    refine wpAny_bind (wpAny_pure ?_)
    refine wpAny_bind (wpAny_of_eq f1 ?_)
    refine wpAny_bind (wpAny_pure ?_)
    exact wpAny_bind (wpAny_mono key (fun b s1 hb1 => wpAny_pure ⟨_, rfl, hb1⟩) fun _ _ z => z)
  · rintro obj s₁ ⟨b, rfl, hq⟩
    exact ⟨rfl, PySem.F.args_object_init_2 _ _, object_init_meets PySem.F.called_bool.init.lookup PySem.F.called_bool.made (by decide) prog w A.in1 _ s₁ ⟨rfl, rfl, hq⟩⟩
end
section
variable {X : Cx} {C g : Addr} {n : Nat} {sp : Sp}
def rBoolL (C : Addr) (sp : Sp) : List V → Hp → VK → Prop := fun xs H Q => ∃ (a dx : Addr) (fs : List (Str × V)), xs = [.ref a] ∧ H a = some (.ins C dx fs) ∧ sp [.ref a] H (fun v H2 => ∃ k : Nat, v = .int k ∧ k ≤ 1000000 ∧ Q (.bl ((k : Int) != 0)) H2) fun _ _ _ => False
theorem call_boolLO (hb : PySem.W.findIn X.K (.ref C) "__bool__" = some none) (hs : PySem.W.findIn X.K (.ref C) "__len__" = some (some (.ref g))) (hf : PySem.W.isFn X.K (.ref g) = true) (F : FnR X.prog X.w X.K X.mg X.base CX0 n g sp) (hr : Room (n + 3) X.A) : CallR X (.type "bool") (rBoolL C sp) := by
  intro pins s σ H xs us Q I r h
  obtain ⟨a, dx, fs, rfl, ha, q⟩ := h
  obtain ⟨u, rfl, ru⟩ := vals1 r
  cases (show u = Value.ref a from ru)
  obtain ⟨ox, od, J⟩ := inst_of I ha
  have hr2 : Room (n + 2) X.A.in1 := hr.in1
  have hr1 : Room (n + 1) X.A.in1.in1 := hr2.in1
  refine bool_KL I.kIn J hb hs hf ?_
  refine wpAny_mono (wpAny_call (SlX.run_at (us := [.ref a]) (ws := [.ref a]) F hr1.in1 I.env0.in1.in1.in1 pass0 I (.cons rfl .nil) q)) (fun z s2 hz => ?_) fun _ _ e => e
  obtain ⟨z2, H2, I2, rz, k, rfl, hk, qz⟩ := hz
  obtain ⟨tk, rfl⟩ := (show ∃ tk, z = Value.int k tk from rz)
  exact ⟨⟨by omega, by omega⟩, _, _, rfl, .bl _, H2, I2.tok _, rfl, qz⟩
end
/-! ### tuples cut and put together -/
theorem cut_to (xs : List V) (k : Nat) (h : k ≤ xs.length) : cutV xs none (some (k : Int)) = xs.take k := by
  unfold cutV
  rw [HT.sIx_none, HT.sIx_nat, Nat.min_eq_left h]
  rfl
theorem cut_from (xs : List V) (k : Nat) : cutV xs (some (k : Int)) none = xs.drop k := by
  unfold cutV
  rw [HT.sIx_none, HT.sIx_nat]
  by_cases h : k ≤ xs.length
  · rw [Nat.min_eq_left h]
    exact List.take_of_length_le (by rw [List.length_drop]; omega)
  · rw [Nat.min_eq_right (by omega), List.drop_length, List.drop_eq_nil_of_le (by omega)]
    simp
section
variable {X : Cx}
def rSlS (K : PySem.W.Frag) : V → Option Int → Option Int → Hp → VK → Prop := fun x lo hi H Q => ∃ a xs, x = .ref a ∧ SqT K H a xs ∧ ∀ (H' : Hp) (q : Addr), Same H H' → SqT K H' q (cutV xs lo hi) → Q (.ref q) H'
theorem sl_tupS : SlR X (rSlS X.K) := by
  intro pins s σ H x v vl vu lo hi sl Q I rx hs pl pu h
  obtain ⟨a, xs, rfl, hx, q⟩ := h
  refine sl_tupA pins s σ H _ v vl vu lo hi sl Q I rx hs pl pu ⟨a, xs, rfl, hx, fun z => ?_, fun _ p np => q _ p (same_new np) (SqT.of upd_same)⟩
  refine q H a (Same.refl _) ?_
  have e : cutV xs lo hi = xs := by
    unfold cutV
    rw [z.1, z.2]
    simp
  rw [e]
  exact hx
def rCatS (K : PySem.W.Frag) : R2 := fun x y H Q => ∃ a b xs ys, x = .ref a ∧ y = .ref b ∧ SqT K H a xs ∧ SqT K H b ys ∧ xs.length + ys.length ≤ sizeLine ∧ ∀ (H' : Hp) (q : Addr), Same H H' → SqT K H' q (xs ++ ys) → Q (.ref q) H'
theorem op_catS : OpR X (binaryOp .Add) (rCatS X.K) := by
  intro pins s σ H x y v u Q I rx ry h
  obtain ⟨a, b, xs, ys, rfl, rfl, ha, hb, hz, q⟩ := h
  refine op_catA pins s σ H _ _ v u Q I rx ry ⟨a, b, xs, ys, rfl, rfl, ha, hb, hz, fun z => ?_, fun _ z => ?_, fun _ _ p np => q _ p (same_new np) (SqT.of upd_same)⟩
  · refine q H b (Same.refl _) ?_
    rw [z]
    exact hb
  · refine q H a (Same.refl _) ?_
    rw [z, List.append_nil]
    exact ha
end
/-! ### a reading may be asked for more -/
section
variable {X : Cx} {e : Expr} {es : List Expr} {st : Stmt} {sts : List Stmt}
theorem pe_imp {t t' : TE} (h : PE X e t) (k : ∀ σ H Q, t' σ H Q → t σ H Q) : PE X e t' := ⟨fun pins s σ H Q I q => h.run pins s σ H Q I (k σ H Q q)⟩
theorem pa_imp {t t' : TA} (h : PA X es t) (k : ∀ σ H Q, t' σ H Q → t σ H Q) : PA X es t' := ⟨fun pos pins s σ H Q I q => h.run pos pins s σ H Q I (k σ H Q q)⟩
theorem pt_imp {t t' : TT} (h : PT X e t) (k : ∀ σ H Q, t' σ H Q → t σ H Q) : PT X e t' := ⟨fun pins s σ H Q I q => h.run pins s σ H Q I (k σ H Q q)⟩
theorem ps_imp {t t' : TS} (h : PS X st t) (k : ∀ D σ H, t' D σ H → t D σ H) : PS X st t' := ⟨fun pins s σ H D I q => h.run pins s σ H D I (k D σ H q)⟩
theorem pss_imp {t t' : TS} (h : PSs X sts t) (k : ∀ D σ H, t' D σ H → t D σ H) : PSs X sts t' := ⟨fun pins s σ H D I q => h.run pins s σ H D I (k D σ H q)⟩
end
theorem hu64 {A : Around} {k : Nat} (hr : Room k A) : A.units + 64 < cLine := by
  have := hr.un
  omega
/-! ### the same, for tuples that are tracked -/
section
variable {X : Cx}
def rSlH : V → Option Int → Option Int → Hp → VK → Prop := fun x lo hi H Q => ∃ a xs, x = .ref a ∧ H a = some (.tup xs) ∧ ∀ (H' : Hp) (q : Addr), Same H H' → H' q = some (.tup (cutV xs lo hi)) → Q (.ref q) H'
theorem sl_tupH : SlR X rSlH := by
  intro pins s σ H x v vl vu lo hi sl Q I rx hs pl pu h
  obtain ⟨a, xs, rfl, hx, q⟩ := h
  refine sl_tupA pins s σ H _ v vl vu lo hi sl Q I rx hs pl pu ⟨a, xs, rfl, SqT.of hx, fun z => ?_, fun _ p np => q _ p (same_new np) upd_same⟩
  refine q H a (Same.refl _) ?_
  have e : cutV xs lo hi = xs := by
    unfold cutV
    rw [z.1, z.2]
    simp
  rw [e]
  exact hx
def rCatH : R2 := fun x y H Q => ∃ a b xs ys, x = .ref a ∧ y = .ref b ∧ H a = some (.tup xs) ∧ H b = some (.tup ys) ∧ xs.length + ys.length ≤ sizeLine ∧ ∀ (H' : Hp) (q : Addr), Same H H' → H' q = some (.tup (xs ++ ys)) → Q (.ref q) H'
theorem op_catH : OpR X (binaryOp .Add) rCatH := by
  intro pins s σ H x y v u Q I rx ry h
  obtain ⟨a, b, xs, ys, rfl, rfl, ha, hb, hz, q⟩ := h
  refine op_catA pins s σ H _ _ v u Q I rx ry ⟨a, b, xs, ys, rfl, rfl, SqT.of ha, SqT.of hb, hz, fun z => ?_, fun _ z => ?_, fun _ _ p np => q _ p (same_new np) upd_same⟩
  · refine q H b (Same.refl _) ?_
    rw [z]
    exact hb
  · refine q H a (Same.refl _) ?_
    rw [z, List.append_nil]
    exact ha
end
theorem cut_mid (xs : List V) (a b : Nat) (h1 : a ≤ b) (h2 : b ≤ xs.length) : cutV xs (some (a : Int)) (some (b : Int)) = (xs.drop a).take (b - a) := by
  unfold cutV
  rw [HT.sIx_nat, HT.sIx_nat, Nat.min_eq_left h2, Nat.min_eq_left (by omega)]
end Cm

/-! texts of loops: what their words are, and when they are right -/
namespace LM
open PySem L2 TL
def tests : List Str := ["empty", "some", "short", "full", "told", "open", "rest", "bare"]
def rsteps : List Str := ["add", "hand", "cut", "flush", "stop", "again"]
def esteps : List Str := ["hand", "cut", "flush"]
def wordsR (t : Str) : List Str := Txt.split (Txt.partition t " | ").1 " "
def wordsE (t : Str) : List Str := if (Txt.partition t " | ").2.1.length != 0 then Txt.split (Txt.partition t " | ").2.2 " " else []
def orderOf (w : Str) : Str × Str := if (Txt.partition w ":").2.1.length != 0 then ((Txt.partition w ":").1, (Txt.partition w ":").2.2) else ("", w)
def isWord (w : Str) (ss : List Str) : Bool := if (Txt.partition w ":").2.1.length != 0 then decide ((Txt.partition w ":").1 ∈ tests) && decide ((Txt.partition w ":").2.2 ∈ ss) else decide (w ∈ ss)
def areWords (ws ss : List Str) : Bool := ws.all fun w => isWord w ss
def isAdd (w : Str) : Bool := decide ((orderOf w).2 = "add")
def isRound (ws : List Str) : Bool := decide (ws.head? = some "ask") && (decide (ws.length ≤ 12) && (decide ((ws.filter isAdd).length ≤ 1) && areWords ws.tail rsteps))
def isEnding (ws : List Str) : Bool := decide (ws.length ≤ 6) && areWords ws esteps
def goodText (t : Str) : Bool := isRound (wordsR t) && isEnding (wordsE t)
def svs (ws : List Str) : List V := ws.map V.str
theorem svs_flat : ∀ ws : List Str, (svs ws).all flatV = true
  | [] => rfl
  | _ :: r => svs_flat r
theorem inV_svs (w : Str) : ∀ ws : List Str, inV (.str w) (svs ws) = decide (w ∈ ws)
  | [] => by simp [inV, svs]
  | x :: r => by
    have ih := inV_svs w r
    show (eqV (.str x) (.str w) || inV (.str w) (svs r)) = _
    rw [ih]
    show ((x == w) || decide (w ∈ r)) = _
    by_cases h : x = w
    · subst h
      simp
    · have h2 : (x == w) = false := by
        cases hh : (x == w) with
        | false => rfl
        | true => exact absurd (eq_of_beq hh) h
      rw [h2, Bool.false_or]
      refine decide_eq_decide.mpr ⟨fun z => List.mem_cons_of_mem _ z, fun z => ?_⟩
      rcases List.mem_cons.mp z with z | z
      · exact absurd z.symm h
      · exact z
theorem split_ne (x y : Str) : Txt.split x y ≠ [] := by
  unfold Txt.split
  split
  · simp
  · split
    · simp
    · rw [PySem.StrLaws.partsBetween_eq]
      cases Builtin.Str.occurrences x y 0 x.length (x.length + 1) <;> simp [PySem.StrLaws.partsFrom]
/-! ### drawn words -/
/-- a step of these, or a test before it -/
def Wd (ss : List Str) (w : Str) : Prop := ∃ s ∈ ss, w = s ∨ ∃ t ∈ tests, w = t ++ (":" : Str) ++ s
def allWd (ss : List Str) : List Str := ss ++ (tests.map fun t : Str => ss.map fun s : Str => t ++ (":" : Str) ++ s).flatten
theorem Wd.mem {ss : List Str} {w : Str} (h : Wd ss w) : w ∈ allWd ss := by
  obtain ⟨s, hs, rfl | ⟨t, ht, rfl⟩⟩ := h
  · exact List.mem_append.mpr (.inl hs)
  · exact List.mem_append.mpr (.inr (List.mem_flatten.mpr ⟨_, List.mem_map.mpr ⟨t, ht, rfl⟩, List.mem_map.mpr ⟨s, hs, rfl⟩⟩))
theorem Wd.mono {ss zs : List Str} {w : Str} (f : ∀ s ∈ ss, s ∈ zs) (h : Wd ss w) : Wd zs w := let ⟨s, hs, q⟩ := h; ⟨s, f s hs, q⟩
/-- what is known of a word -/
def wdOk (w : Str) : Bool := isWord w rsteps && (decide (32 ∉ tl w) && (decide (124 ∉ tl w) && decide (w.length ≤ 11)))
theorem wd_ok : ∀ w ∈ allWd rsteps, wdOk w = true := by decide +kernel
theorem wd_end : ∀ w ∈ allWd esteps, isWord w esteps = true := by decide +kernel
theorem wd_noadd : ∀ w ∈ allWd ["hand", "cut", "flush", "stop", "again"], isAdd w = false := by decide +kernel
/-! ### lines -/
def line (B E : List Str) : Str := if E = [] then Txt.join " " B else Txt.join " " (B ++ [("|" : Str)] ++ E)
def textOf (B E : List Str) : Str := if E = [] then Txt.join " " B else Txt.join " " B ++ " | " ++ Txt.join " " E
/-- no space and no bar is in it -/
def Fre (w : Str) : Prop := 32 ∉ tl w ∧ 124 ∉ tl w
theorem tlSp : tl (" " : Str) = [32] := by decide +kernel
theorem tlBar : tl (" | " : Str) = [32, 124, 32] := by decide +kernel
theorem tlB1 : tl ("|" : Str) = [124] := by decide +kernel
theorem joinL_app (S : List Nat) : ∀ (a b : List (List Nat)), a ≠ [] → b ≠ [] → joinL S (a ++ b) = joinL S a ++ (S ++ joinL S b)
  | [], _, h, _ => absurd rfl h
  | [p], b, _, hb => by
    cases b with
    | nil => exact absurd rfl hb
    | cons q r => rfl
  | p :: q :: r, b, _, hb => by
    show p ++ (S ++ joinL S (q :: r ++ b)) = p ++ (S ++ joinL S (q :: r)) ++ (S ++ joinL S b)
    rw [joinL_app S (q :: r) b (by simp) hb]
    simp [List.append_assoc]
theorem joinL_mem {S : List Nat} {c : Nat} : ∀ {a : List (List Nat)}, c ∈ joinL S a → c ∈ S ∨ ∃ p ∈ a, c ∈ p
  | [], h => nomatch h
  | [p], h => .inr ⟨p, List.mem_singleton.mpr rfl, h⟩
  | p :: q :: r, h => by
    rcases List.mem_append.mp (show c ∈ p ++ (S ++ joinL S (q :: r)) from h) with h | h
    · exact .inr ⟨p, List.mem_cons_self .., h⟩
    · rcases List.mem_append.mp h with h | h
      · exact .inl h
      · rcases joinL_mem h with h | ⟨z, hz, hc⟩
        · exact .inl h
        · exact .inr ⟨z, List.mem_cons_of_mem _ hz, hc⟩
theorem tl_joinSp (B : List Str) : tl (Txt.join " " B) = joinL [32] (B.map tl) := by rw [join_eq, tl_join, tlSp]
theorem nobar {B : List Str} (h : ∀ w ∈ B, Fre w) : 124 ∉ tl (Txt.join " " B) := by
  rw [tl_joinSp]
  intro hm
  rcases joinL_mem hm with hm | ⟨p, hp, hc⟩
  · exact absurd hm (by decide)
  · obtain ⟨w, hw, rfl⟩ := List.mem_map.mp hp
    exact (h w hw).2 hc
theorem line_text {B E : List Str} (hB : B ≠ []) : line B E = textOf B E := by
  unfold line textOf
  by_cases hE : E = []
  · rw [if_pos hE, if_pos hE]
  · rw [if_neg hE, if_neg hE]
    refine ext_tl ?_
    rw [tl_append, tl_append, tl_joinSp, tl_joinSp, tl_joinSp, tlBar, List.map_append, List.map_append, joinL_app _ _ _ (by simp) (by simpa using hE), joinL_app _ _ _ (by simpa using hB) (by simp)]
    simp [joinL, tlB1]
theorem pre_bar {l : List Nat} (h : pre [32, 124, 32] l = true) : ∃ r, l = 32 :: 124 :: 32 :: r := by
  have e : l.take 3 = [32, 124, 32] := eq_of_beq h
  match l, e with
  | a :: b :: c :: r, e =>
    simp at e
    obtain ⟨rfl, rfl, rfl⟩ := e
    exact ⟨r, rfl⟩
theorem no_bar {p q : List Nat} (h : 124 ∉ p) (hq : q = [] ∨ ∃ r, q = 32 :: r) : ∀ i, i < p.length → pre [32, 124, 32] ((p ++ q).drop i) = false := by
  intro i hi
  cases hp : pre [32, 124, 32] ((p ++ q).drop i) with
  | false => rfl
  | true =>
    obtain ⟨r, e⟩ := pre_bar hp
    have e1 : (p ++ q)[i + 1]? = some 124 := by
      have : ((p ++ q).drop i)[1]? = some 124 := by rw [e]; rfl
      rw [List.getElem?_drop] at this
      exact this
    by_cases h1 : i + 1 < p.length
    · rw [List.getElem?_append_left h1] at e1
      exact absurd (List.mem_of_getElem? e1) h
    · rw [List.getElem?_append_right (by omega)] at e1
      rcases hq with rfl | ⟨r, rfl⟩
      · simp at e1
      · have : i + 1 - p.length = 0 := by omega
        rw [this] at e1
        simp at e1
theorem part_no {x : Str} (h : 124 ∉ tl x) : Txt.partition x " | " = (x, Str.empty, Str.empty) := by
  rw [partition_par _ _ (by rw [tlBar]; simp), tlBar, par_none]
  intro i hi
  have := no_bar (q := []) h (.inl rfl) i hi
  rwa [List.append_nil] at this
theorem part_yes {x y : Str} (h : 124 ∉ tl x) : Txt.partition (x ++ " | " ++ y) " | " = (x, (" | " : Str), y) := by
  rw [partition_par _ _ (by rw [tlBar]; simp), tl_append, tl_append, List.append_assoc, tlBar, par_part (by simp) (no_bar h (.inr ⟨_, rfl⟩))]
  show ((⟨([] ++ tl x).toArray⟩ : Str), _, (⟨(tl y).toArray⟩ : Str)) = _
  rw [List.nil_append, mk_tl, mk_tl]
theorem split_words {B : List Str} (hB : B ≠ []) (h : ∀ w ∈ B, Fre w) : Txt.split (Txt.join " " B) " " = B :=
  split_join (s := 32) (S := []) tlSp (by decide +kernel) hB fun p hp => (h p hp).1
theorem words_text {B E : List Str} (hB : B ≠ []) (h1 : ∀ w ∈ B, Fre w) (h2 : ∀ w ∈ E, Fre w) : wordsR (textOf B E) = B ∧ wordsE (textOf B E) = E := by
  unfold wordsR wordsE textOf
  by_cases hE : E = []
  · rw [if_pos hE, part_no (nobar h1)]
    refine ⟨split_words hB h1, ?_⟩
    rw [hE]
    rfl
  · rw [if_neg hE, part_yes (nobar h1)]
    refine ⟨split_words hB h1, ?_⟩
    exact (if_pos (show ((" | " : Str).length != 0) = true by decide +kernel)).trans (split_words hE h2)
theorem words_line {B E : List Str} (hB : B ≠ []) (h1 : ∀ w ∈ B, Fre w) (h2 : ∀ w ∈ E, Fre w) : wordsR (line B E) = B ∧ wordsE (line B E) = E := by
  rw [line_text hB]
  exact words_text hB h1 h2
/-! ### lengths -/
theorem sum_le {n : Nat} : ∀ {B : List Str}, (∀ w ∈ B, w.length ≤ n) → (B.map (·.length)).sum ≤ n * B.length
  | [], _ => Nat.zero_le _
  | w :: r, h => by
    have a := h w (List.mem_cons_self ..)
    have b := sum_le (B := r) fun z hz => h z (List.mem_cons_of_mem _ hz)
    rw [List.map_cons, List.sum_cons, List.length_cons, Nat.mul_succ]
    omega
theorem join_len : ∀ B : List Str, (Txt.join " " B).length ≤ (B.map (·.length)).sum + B.length := by
  intro B
  rw [len_tl, tl_joinSp]
  induction B with
  | nil => simp [joinL]
  | cons w r ih =>
    cases r with
    | nil =>
      show (tl w).length ≤ _
      rw [← len_tl]
      simp
    | cons x r =>
      show (tl w ++ ([32] ++ joinL [32] ((x :: r).map tl))).length ≤ _
      rw [List.length_append, List.length_append, ← len_tl]
      simp only [List.map_cons, List.sum_cons, List.length_cons, List.length_nil] at ih ⊢
      omega
/-- short words, not many -/
def Sht (n : Nat) (B : List Str) : Prop := (∀ w ∈ B, w.length ≤ 11) ∧ B.length ≤ n
theorem Sht.sum {n : Nat} {B : List Str} (h : Sht n B) : (B.map (·.length)).sum + B.length * 1 ≤ 12 * n := by
  have := sum_le h.1
  have := h.2
  omega
theorem Sht.join {n : Nat} {B : List Str} (h : Sht n B) : (Txt.join " " B).length ≤ 12 * n := by
  have := h.sum
  have := join_len B
  omega
/-! ### bounds of what is cut -/
theorem spl_len (S : List Nat) : ∀ (k : Nat) (acc l : List Nat), (spl S k acc l).length ≤ l.length + 1
  | k, acc, [] => by rw [spl_nil]; simp
  | 0, acc, c :: r => by
    cases h : pre S (c :: r) with
    | true =>
      rw [spl_hit h, List.length_cons, List.length_cons]
      have := spl_len S (S.length - 1) [] r
      omega
    | false =>
      rw [spl_miss h, List.length_cons]
      have := spl_len S 0 (acc ++ [c]) r
      omega
  | k + 1, acc, _ :: r => by
    show (spl S k acc r).length ≤ _
    have := spl_len S k acc r
    rw [List.length_cons]
    omega
theorem spl_word (S : List Nat) : ∀ (k : Nat) (acc l : List Nat), ∀ p ∈ spl S k acc l, p.length ≤ acc.length + l.length
  | k, acc, [], p, hp => by
    rw [spl_nil] at hp
    rw [List.mem_singleton.mp hp]
    omega
  | 0, acc, c :: r, p, hp => by
    cases h : pre S (c :: r) with
    | true =>
      rw [spl_hit h] at hp
      rcases List.mem_cons.mp hp with rfl | hp
      · omega
      · have := spl_word S (S.length - 1) [] r p hp
        simp at this ⊢
        omega
    | false =>
      rw [spl_miss h] at hp
      have := spl_word S 0 (acc ++ [c]) r p hp
      simp at this ⊢
      omega
  | k + 1, acc, _ :: r, p, hp => by
    have := spl_word S k acc r p hp
    simp at this ⊢
    omega
theorem split_sp (x : Str) : (Txt.split x " ").map tl = spl [32] 0 [] (tl x) := by
  have := split_spl x " " (by rw [tlSp]; simp) (kind_ok (by decide +kernel))
  rwa [tlSp] at this
theorem split_len (x : Str) : (Txt.split x " ").length ≤ x.length + 1 := by
  have := spl_len [32] 0 [] (tl x)
  rw [← split_sp, List.length_map, ← len_tl] at this
  exact this
theorem split_word {x w : Str} (h : w ∈ Txt.split x " ") : w.length ≤ x.length := by
  have := spl_word [32] 0 [] (tl x) (tl w) (by rw [← split_sp]; exact List.mem_map.mpr ⟨w, h, rfl⟩)
  rw [← len_tl, ← len_tl] at this
  simpa using this
theorem part_len (x y : Str) : (Txt.partition x y).1.length ≤ x.length ∧ (Txt.partition x y).2.1.length ≤ y.length ∧ (Txt.partition x y).2.2.length ≤ x.length := by
  rcases PyProof.Rows.partition_whole x y with ⟨e, _⟩ | ⟨i, e, _, _⟩
  · rw [e]
    exact ⟨Nat.le_refl _, Nat.zero_le _, Nat.zero_le _⟩
  · rw [e]
    refine ⟨?_, Nat.le_refl _, ?_⟩
    · rw [len_tl, tl_strSub, List.length_take, List.length_drop, ← len_tl]
      omega
    · rw [len_tl, tl_strSub_end, List.length_drop, ← len_tl]
      omega
/-- the words of a text of at most n signs -/
theorem wordsR_len (t : Str) : (wordsR t).length ≤ t.length + 1 := by
  have := split_len (Txt.partition t " | ").1
  have := (part_len t " | ").1
  unfold wordsR
  omega
theorem wordsE_len (t : Str) : (wordsE t).length ≤ t.length + 1 := by
  unfold wordsE
  split
  · have := split_len (Txt.partition t " | ").2.2
    have := (part_len t " | ").2.2
    omega
  · simp
theorem wordsR_word {t w : Str} (h : w ∈ wordsR t) : w.length ≤ t.length := Nat.le_trans (split_word h) (part_len t " | ").1
theorem wordsE_word {t w : Str} (h : w ∈ wordsE t) : w.length ≤ t.length := by
  unfold wordsE at h
  split at h
  · exact Nat.le_trans (split_word h) (part_len t " | ").2.2
  · exact nomatch h
theorem wordsR_ne (t : Str) : wordsR t ≠ [] := split_ne _ _
end LM

/-! right loops: their words, and loops without a word -/
namespace LM
open PySem L2 TL
theorem part_back {x y : Str} (h : ((Txt.partition x y).2.1.length != 0) = true) : x = (Txt.partition x y).1 ++ y ++ (Txt.partition x y).2.2 := by
  rcases PyProof.Rows.partition_whole x y with ⟨e, _⟩ | ⟨i, e, hi, _⟩
  · rw [e] at h
    exact absurd (show ((Str.empty).length != 0) = true from h) (by decide)
  · rw [e]
    refine ext_tl ?_
    rw [tl_append, tl_append, tl_strSub, tl_strSub_end, List.drop_zero, Nat.sub_zero]
    by_cases hy : tl y = []
    · have : y.length = 0 := by rw [len_tl, hy]; rfl
      rw [hy, this, List.append_nil, Nat.add_zero, List.take_append_drop]
    · have hp := (at_iff hy i).mp hi
      have e2 : ((tl x).drop i).take (tl y).length = tl y := eq_of_beq hp
      have e3 : tl y ++ (tl x).drop (i + y.length) = (tl x).drop i := by
        rw [len_tl y, ← drop_two]
        have := List.take_append_drop (tl y).length ((tl x).drop i)
        rw [e2] at this
        exact this
      rw [List.append_assoc, e3, List.take_append_drop]
theorem word_wd {w : Str} {ss : List Str} (h : isWord w ss = true) : Wd ss w := by
  unfold isWord at h
  cases hc : ((Txt.partition w ":").2.1.length != 0) with
  | true =>
    rw [if_pos hc] at h
    have h2 := Bool.and_eq_true_iff.mp h
    exact ⟨_, of_decide_eq_true h2.2, .inr ⟨_, of_decide_eq_true h2.1, part_back hc⟩⟩
  | false =>
    rw [if_neg (by rw [hc]; exact Bool.false_ne_true)] at h
    exact ⟨w, of_decide_eq_true h, .inl rfl⟩
/-- free and short -/
def FS (w : Str) : Prop := Fre w ∧ w.length ≤ 11
theorem wd_fs {w : Str} (h : Wd rsteps w) : FS w := by
  have := wd_ok w h.mem
  unfold wdOk at this
  simp only [Bool.and_eq_true, decide_eq_true_eq] at this
  exact ⟨⟨this.2.1, this.2.2.1⟩, this.2.2.2⟩
theorem e_r : ∀ s ∈ esteps, s ∈ rsteps := by decide +kernel
theorem ask_fs : FS "ask" := ⟨⟨by decide +kernel, by decide +kernel⟩, by decide +kernel⟩
theorem areWords_iff {ws ss : List Str} : areWords ws ss = true ↔ ∀ w ∈ ws, isWord w ss = true := List.all_eq_true
theorem isRound_iff {B : List Str} : isRound B = true ↔ ∃ r, B = ("ask" : Str) :: r ∧ B.length ≤ 12 ∧ (B.filter isAdd).length ≤ 1 ∧ ∀ w ∈ r, isWord w rsteps = true := by
  unfold isRound
  simp only [Bool.and_eq_true, decide_eq_true_eq, areWords_iff]
  constructor
  · rintro ⟨h1, h2, h3, h4⟩
    cases B with
    | nil => cases h1
    | cons x r =>
      have : x = "ask" := Option.some.inj h1
      subst this
      exact ⟨r, rfl, h2, h3, h4⟩
  · rintro ⟨r, rfl, h2, h3, h4⟩
    exact ⟨rfl, h2, h3, h4⟩
theorem isEnding_iff {E : List Str} : isEnding E = true ↔ E.length ≤ 6 ∧ ∀ w ∈ E, isWord w esteps = true := by
  unfold isEnding
  simp only [Bool.and_eq_true, decide_eq_true_eq, areWords_iff]
theorem round_fs {B : List Str} (h : isRound B = true) : ∀ w ∈ B, FS w := by
  obtain ⟨r, rfl, _, _, h4⟩ := isRound_iff.mp h
  intro w hw
  rcases List.mem_cons.mp hw with rfl | hw
  · exact ask_fs
  · exact wd_fs (word_wd (h4 w hw))
theorem ending_fs {E : List Str} (h : isEnding E = true) : ∀ w ∈ E, FS w := fun w hw => wd_fs ((word_wd ((isEnding_iff.mp h).2 w hw)).mono e_r)
theorem round_ne {B : List Str} (h : isRound B = true) : B ≠ [] := by
  obtain ⟨r, rfl, _⟩ := isRound_iff.mp h
  simp
theorem round_sht {B : List Str} (h : isRound B = true) : Sht 12 B := ⟨fun w hw => (round_fs h w hw).2, let ⟨_, _, h2, _⟩ := isRound_iff.mp h; h2⟩
theorem ending_sht {E : List Str} (h : isEnding E = true) : Sht 6 E := ⟨fun w hw => (ending_fs h w hw).2, (isEnding_iff.mp h).1⟩
theorem Sht.mono {n m : Nat} {B : List Str} (h : Sht n B) (l : n ≤ m) : Sht m B := ⟨h.1, Nat.le_trans h.2 l⟩
theorem text_words {B E : List Str} (hB : isRound B = true) (hE : isEnding E = true) : wordsR (textOf B E) = B ∧ wordsE (textOf B E) = E := words_text (round_ne hB) (fun w hw => (round_fs hB w hw).1) (fun w hw => (ending_fs hE w hw).1)
theorem text_good {B E : List Str} (hB : isRound B = true) (hE : isEnding E = true) : goodText (textOf B E) = true := by
  have := text_words hB hE
  unfold goodText
  rw [this.1, this.2, hB, hE]
  rfl
theorem text_len {B E : List Str} (hB : isRound B = true) (hE : isEnding E = true) : (textOf B E).length ≤ 300 := by
  have h1 := (round_sht hB).join
  have h2 := (ending_sht hE).join
  unfold textOf
  split
  · omega
  · rw [strLen_append, strLen_append]
    have : (" | " : Str).length = 3 := by decide +kernel
    omega
/-- without the word at i -/
theorem round_erase {B : List Str} {i : Nat} (hB : isRound B = true) (hi : 1 ≤ i) : isRound (B.eraseIdx i) = true := by
  obtain ⟨r, rfl, h2, h3, h4⟩ := isRound_iff.mp hB
  obtain ⟨k, rfl⟩ : ∃ k, i = k + 1 := ⟨i - 1, by omega⟩
  have sub : (("ask" : Str) :: r.eraseIdx k).Sublist (("ask" : Str) :: r) := (List.eraseIdx_sublist r k).cons_cons _
  refine isRound_iff.mpr ⟨r.eraseIdx k, rfl, Nat.le_trans sub.length_le h2, Nat.le_trans (sub.filter isAdd).length_le h3, fun w hw => h4 w ((List.eraseIdx_sublist r k).subset hw)⟩
theorem ending_erase {E : List Str} {i : Nat} (hE : isEnding E = true) : isEnding (E.eraseIdx i) = true := by
  have h := isEnding_iff.mp hE
  exact isEnding_iff.mpr ⟨Nat.le_trans (List.eraseIdx_sublist E i).length_le h.1, fun w hw => h.2 w ((List.eraseIdx_sublist E i).subset hw)⟩
theorem good_iff {t : Str} : goodText t = true ↔ isRound (wordsR t) = true ∧ isEnding (wordsE t) = true := Bool.and_eq_true_iff
end LM

/-! loops that are drawn -/
namespace LM
open PySem L2 TL
def sBar : Str := " | "
def sSp : Str := " "
def samples : List Str := ["ask empty:stop hand", "ask hand short:stop", "ask add cut told:stop | rest:flush", "ask told:stop hand", "ask add empty:stop | rest:flush", "ask add cut empty:stop | flush", "ask some:hand told:stop", "ask empty:stop add cut | rest:flush", "ask empty:again hand told:stop", "ask add full:flush told:stop"]
def sampP (s : Str) : List Str := Txt.split s " | "
def sampB (s : Str) : List Str := Txt.split ((sampP s).getD 0 Str.empty) " "
def sampE (s : Str) : List Str := if (sampP s).length > 1 then Txt.split ((sampP s).getD 1 Str.empty) " " else []
def sampOk (s : Str) : Bool := isRound (sampB s) && (isEnding (sampE s) && (decide ((sampB s).length ≤ 4) && (decide ((sampE s).length ≤ 1) && (decide (1 ≤ (sampP s).length) && (decide (s.length ≤ 100) && (sampP s).all fun p => decide (p.length ≤ 100))))))
theorem samp_ok : ∀ s ∈ samples, sampOk s = true := by decide +kernel
structure Samp (s : Str) : Prop where
  r : isRound (sampB s) = true
  e : isEnding (sampE s) = true
  lb : (sampB s).length ≤ 4
  le : (sampE s).length ≤ 1
  l1 : 1 ≤ (sampP s).length
  ls : s.length ≤ 100
  lp : ∀ p ∈ sampP s, p.length ≤ 100
theorem samp_of {s : Str} (h : s ∈ samples) : Samp s := by
  have := samp_ok s h
  unfold sampOk at this
  simp only [Bool.and_eq_true, decide_eq_true_eq, List.all_eq_true] at this
  exact ⟨this.1, this.2.1, this.2.2.1, this.2.2.2.1, this.2.2.2.2.1, this.2.2.2.2.2.1, this.2.2.2.2.2.2⟩
/-! ### a word more -/
def plain5 : List Str := ["hand", "cut", "flush", "stop", "again"]
theorem wd_round {w : Str} (h : Wd rsteps w) : isWord w rsteps = true := by
  have := wd_ok w h.mem
  unfold wdOk at this
  exact (Bool.and_eq_true_iff.mp this).1
theorem wd_ending {w : Str} (h : Wd esteps w) : isWord w esteps = true := wd_end w h.mem
theorem wd_plain {w : Str} (h : Wd plain5 w) : isAdd w = false := wd_noadd w h.mem
theorem ask_noadd : isAdd "ask" = false := by decide +kernel
theorem ins_round {B xs : List Str} {i : Nat} (hB : isRound B = true) (hi : 1 ≤ i) (hx : ∀ x ∈ xs, isWord x rsteps = true) (hl : B.length + xs.length ≤ 12) (ha : (B.filter isAdd).length + (xs.filter isAdd).length ≤ 1) :
    isRound (B.take i ++ xs ++ B.drop i) = true := by
  obtain ⟨r, rfl, h2, h3, h4⟩ := isRound_iff.mp hB
  obtain ⟨k, rfl⟩ : ∃ k, i = k + 1 := ⟨i - 1, by omega⟩
  refine isRound_iff.mpr ⟨r.take k ++ xs ++ r.drop k, rfl, ?_, ?_, fun w hw => ?_⟩
  · rw [List.length_append, List.length_append, List.length_take, List.length_drop]
    omega
  · rw [List.filter_append, List.filter_append, List.length_append, List.length_append]
    have e : (((("ask" : Str) :: r).take (k + 1)).filter isAdd).length + (((("ask" : Str) :: r).drop (k + 1)).filter isAdd).length = ((("ask" : Str) :: r).filter isAdd).length := by
      rw [← List.length_append, ← List.filter_append, List.take_append_drop]
    omega
  · rcases List.mem_append.mp hw with hw | hw
    · rcases List.mem_append.mp hw with hw | hw
      · exact h4 w (List.mem_of_mem_take hw)
      · exact hx w hw
    · exact h4 w (List.mem_of_mem_drop hw)
theorem ask_round {ws : List Str} (h : ∀ w ∈ ws, Wd plain5 w) (hl : ws.length ≤ 11) : isRound (("ask" : Str) :: ws) = true ∧ ((("ask" : Str) :: ws).filter isAdd).length = 0 := by
  have e : ((("ask" : Str) :: ws).filter isAdd) = [] := by
    refine List.filter_eq_nil_iff.mpr fun w hw => ?_
    rcases List.mem_cons.mp hw with rfl | hw
    · rw [ask_noadd]; exact Bool.false_ne_true
    · rw [wd_plain (h w hw)]; exact Bool.false_ne_true
  refine ⟨isRound_iff.mpr ⟨ws, rfl, by rw [List.length_cons]; omega, by rw [e]; exact Nat.zero_le _, fun w hw => wd_round ((h w hw).mono (by decide +kernel))⟩, by rw [e]; rfl⟩
theorem one_filter {xs : List Str} (h : xs.length = 1) : (xs.filter isAdd).length ≤ 1 := Nat.le_trans (List.length_filter_le ..) (by omega)
theorem none_filter {xs : List Str} (h : ∀ w ∈ xs, Wd plain5 w) : (xs.filter isAdd).length = 0 := by
  rw [show xs.filter isAdd = [] from List.filter_eq_nil_iff.mpr fun w hw => by rw [wd_plain (h w hw)]; exact Bool.false_ne_true]
  rfl
theorem round_adds {B : List Str} (h : isRound B = true) : (B.filter isAdd).length ≤ 1 := let ⟨_, _, _, h3, _⟩ := isRound_iff.mp h; h3
theorem words_ending {E : List Str} (h : ∀ w ∈ E, Wd esteps w) (hl : E.length ≤ 6) : isEnding E = true := isEnding_iff.mpr ⟨hl, fun w hw => wd_ending (h w hw)⟩
/-! ### signs that are signs -/
def Asc (w : Str) : Prop := PyData.strOk w = true
theorem asc_iff {w : Str} : Asc w ↔ ∀ c ∈ tl w, c < 1114112 := by
  unfold Asc PyData.strOk
  rw [← Array.all_toList, List.all_eq_true]
  simp
theorem Asc.app {a b : Str} (ha : Asc a) (hb : Asc b) : Asc (a ++ b) := by
  rw [asc_iff] at ha hb ⊢
  rw [tl_append]
  intro c hc
  exact (List.mem_append.mp hc).elim (ha c) (hb c)
theorem asc_join {B : List Str} (h : ∀ w ∈ B, Asc w) : Asc (Txt.join " " B) := by
  rw [asc_iff, tl_joinSp]
  intro c hc
  rcases joinL_mem hc with hc | ⟨p, hp, hc⟩
  · rw [List.mem_singleton.mp hc]
    decide
  · obtain ⟨w, hw, rfl⟩ := List.mem_map.mp hp
    exact asc_iff.mp (h w hw) c hc
theorem asc_bar : Asc " | " := by unfold Asc; decide +kernel
theorem asc_text {B E : List Str} (h1 : ∀ w ∈ B, Asc w) (h2 : ∀ w ∈ E, Asc w) : Asc (textOf B E) := by
  unfold textOf
  split
  · exact asc_join h1
  · exact ((asc_join h1).app asc_bar).app (asc_join h2)
theorem wd_asc' : ∀ w ∈ allWd rsteps, PyData.strOk w = true := by decide +kernel
theorem wd_asc {w : Str} (h : Wd rsteps w) : Asc w := wd_asc' w h.mem
theorem ask_asc : Asc "ask" := by unfold Asc; decide +kernel
theorem round_asc {B : List Str} (h : isRound B = true) : ∀ w ∈ B, Asc w := by
  obtain ⟨r, rfl, _, _, h4⟩ := isRound_iff.mp h
  intro w hw
  rcases List.mem_cons.mp hw with rfl | hw
  · exact ask_asc
  · exact wd_asc (word_wd (h4 w hw))
theorem ending_asc {E : List Str} (h : isEnding E = true) : ∀ w ∈ E, Asc w := fun w hw => wd_asc ((word_wd ((isEnding_iff.mp h).2 w hw)).mono e_r)
end LM

/-! loops filled up; rows without one word -/
namespace LM
open PySem L2 TL
theorem again_ok : isWord "again" rsteps = true ∧ isAdd "again" = false := by decide +kernel
theorem cut_ok : isWord "cut" esteps = true := by decide +kernel
theorem pad_round {B : List Str} (h : isRound B = true) (n : Nat) (hl : B.length + n ≤ 12) : isRound (B ++ List.replicate n ("again" : Str)) = true := by
  obtain ⟨r, rfl, h2, h3, h4⟩ := isRound_iff.mp h
  refine isRound_iff.mpr ⟨r ++ List.replicate n ("again" : Str), rfl, by rw [List.length_append, List.length_replicate]; exact hl, ?_, fun w hw => ?_⟩
  · rw [List.filter_append]
    have e : (List.replicate n ("again" : Str)).filter isAdd = [] := List.filter_eq_nil_iff.mpr fun w hw => by
      rw [List.eq_of_mem_replicate hw, again_ok.2]
      exact Bool.false_ne_true
    rw [e, List.append_nil]
    exact h3
  · rcases List.mem_append.mp hw with hw | hw
    · exact h4 w hw
    · rw [List.eq_of_mem_replicate hw]
      exact again_ok.1
theorem pad_ending {E : List Str} (h : isEnding E = true) (n : Nat) (hl : E.length + n ≤ 6) : isEnding (E ++ List.replicate n ("cut" : Str)) = true := by
  have q := isEnding_iff.mp h
  refine isEnding_iff.mpr ⟨by rw [List.length_append, List.length_replicate]; exact hl, fun w hw => ?_⟩
  rcases List.mem_append.mp hw with hw | hw
  · exact q.2 w hw
  · rw [List.eq_of_mem_replicate hw]
    exact cut_ok
/-- the two rows of a loop without the word at n -/
def outB (B : List Str) (n : Nat) : List Str := if n < B.length then B.eraseIdx n else B
def outE (B E : List Str) (n : Nat) : List Str := if n < B.length then E else E.eraseIdx (n - B.length)
theorem out_row (B E : List Str) (n m : Nat) (hm : m = B.length - (if n < B.length then 1 else 0)) : ((B ++ E).take n ++ (B ++ E).drop (n + 1)).take m = outB B n ∧ ((B ++ E).take n ++ (B ++ E).drop (n + 1)).drop m = outE B E n := by
  rw [← List.eraseIdx_eq_take_drop_succ]
  unfold outB outE
  by_cases h : n < B.length
  · rw [if_pos h] at hm ⊢
    rw [if_pos h, List.eraseIdx_append_of_lt_length h]
    have e : m = (B.eraseIdx n).length := by rw [List.length_eraseIdx, if_pos h]; exact hm
    rw [e, List.take_left, List.drop_left]
    exact ⟨rfl, rfl⟩
  · rw [if_neg h] at hm ⊢
    rw [if_neg h, List.eraseIdx_append_of_length_le (by omega)]
    have e : m = B.length := by omega
    rw [e, List.take_left, List.drop_left]
    exact ⟨rfl, rfl⟩
theorem outB_round {B : List Str} {n : Nat} (h : isRound B = true) (hn : 1 ≤ n) : isRound (outB B n) = true := by
  unfold outB
  split
  · exact round_erase h hn
  · exact h
theorem outE_ending {B E : List Str} {n : Nat} (h : isEnding E = true) : isEnding (outE B E n) = true := by
  unfold outE
  split
  · exact h
  · exact ending_erase h
theorem out_len {B E : List Str} {n : Nat} (h : n < B.length + E.length) : (outB B n).length + (outE B E n).length + 1 = B.length + E.length := by
  unfold outB outE
  by_cases hn : n < B.length
  · rw [if_pos hn, if_pos hn, List.length_eraseIdx, if_pos hn]
    omega
  · rw [if_neg hn, if_neg hn, List.length_eraseIdx, if_pos (by omega)]
    omega
end LM

/-! words taken apart by split -/
namespace LM
open PySem L2 TL
def partsOk (w : Str) : Bool := decide ((orderOf w).2 ∈ rsteps) && (if (orderOf w).1 = Str.empty then decide (Txt.split w ":" = [(orderOf w).2]) else decide (Txt.split w ":" = [(orderOf w).1, (orderOf w).2]) && decide ((orderOf w).1 ∈ tests))
theorem parts_ok : ∀ w ∈ allWd rsteps, partsOk w = true := by decide +kernel
structure Parts (w : Str) : Prop where
  s : (orderOf w).2 ∈ rsteps
  p : ((orderOf w).1 = Str.empty ∧ Txt.split w ":" = [(orderOf w).2]) ∨ ((orderOf w).1 ≠ Str.empty ∧ Txt.split w ":" = [(orderOf w).1, (orderOf w).2] ∧ (orderOf w).1 ∈ tests)
theorem parts_of {w : Str} (h : Wd rsteps w) : Parts w := by
  have q := parts_ok w h.mem
  unfold partsOk at q
  have q2 := Bool.and_eq_true_iff.mp q
  refine ⟨of_decide_eq_true q2.1, ?_⟩
  have q3 := q2.2
  split at q3
  next e => exact .inl ⟨e, of_decide_eq_true q3⟩
  next e =>
    have q4 := Bool.and_eq_true_iff.mp q3
    exact .inr ⟨e, of_decide_eq_true q4.1, of_decide_eq_true q4.2⟩
theorem emp : Str.empty = ("" : Str) := by decide +kernel
theorem esteps_flow : ∀ w ∈ allWd esteps, (orderOf w).2 ≠ "again" ∧ (orderOf w).2 ≠ "stop" := by decide +kernel
theorem ending_flow {E : List Str} (h : isEnding E = true) : ∀ o ∈ E.map orderOf, o.2 ≠ "again" ∧ o.2 ≠ "stop" := by
  intro o ho
  obtain ⟨w, hw, rfl⟩ := List.mem_map.mp ho
  exact esteps_flow w (word_wd ((isEnding_iff.mp h).2 w hw)).mem
theorem ask_order : orderOf "ask" = (("" : Str), ("ask" : Str)) := by decide +kernel
theorem round_tail_wd {B : List Str} (h : isRound B = true) : ∃ r, B = ("ask" : Str) :: r ∧ (∀ w ∈ r, Wd rsteps w) ∧ r.length ≤ 11 := by
  obtain ⟨r, rfl, h2, _, h4⟩ := isRound_iff.mp h
  rw [List.length_cons] at h2
  exact ⟨r, rfl, fun w hw => word_wd (h4 w hw), by omega⟩
theorem ending_wd {E : List Str} (h : isEnding E = true) : (∀ w ∈ E, Wd rsteps w) ∧ E.length ≤ 6 := ⟨fun w hw => (word_wd ((isEnding_iff.mp h).2 w hw)).mono e_r, (isEnding_iff.mp h).1⟩
end LM

/-! what a loop does with a reply -/
namespace EM
open PySem L2
def ivs (xs : List Int) : List V := xs.map V.int
theorem ivs_len (xs : List Int) : (ivs xs).length = xs.length := List.length_map ..
/-- what the words of a round change -/
structure RP where
  rest : List Int
  pieces : List (List Int)
def passM (size : Nat) (held : List Int) (told : Bool) (t : Str) (rest : List Int) : Bool :=
  if t = "" then true
  else if t = "told" ∨ t = "open" then told == decide (t = "told")
  else if t = "rest" ∨ t = "bare" then decide (0 < rest.length) == decide (t = "rest")
  else if t = "empty" ∨ t = "some" then decide (0 < held.length) == decide (t = "some")
  else decide (held.length < size) == decide (t = "short")
def cutN (size : Nat) (rest : List Int) (n : Nat) : List (List Int) := (List.range n).map fun k => (rest.drop (k * size)).take size
def perfM (size : Nat) (held : List Int) (s : Str) (x : RP) : RP :=
  if s = "add" then ⟨x.rest ++ held, x.pieces⟩
  else if s = "hand" then ⟨x.rest, x.pieces ++ [held]⟩
  else if s = "cut" then ⟨x.rest.drop (x.rest.length / size * size), x.pieces ++ cutN size x.rest (x.rest.length / size)⟩
  else if s = "flush" then ⟨[], x.pieces ++ [x.rest]⟩
  else x
def runW (size : Nat) (held : List Int) (told : Bool) : List (Str × Str) → RP → RP × Bool
  | [], x => (x, false)
  | (t, s) :: r, x => if passM size held told t x.rest = true then (if s = "again" then (x, false) else if s = "stop" then (x, true) else runW size held told r (perfM size held s x)) else runW size held told r x
def endW (size : Nat) (held : List Int) (told : Bool) : List (Str × Str) → RP → RP
  | [], x => x
  | (t, s) :: r, x => endW size held told r (if passM size held told t x.rest = true then perfM size held s x else x)
def ansM (size : Nat) (ro eo : List (Str × Str)) (held : List Int) (told : Bool) (x : RP) : RP × Bool :=
  if (runW size held told ro x).2 = true then (endW size held told eo (runW size held told ro x).1, true) else ((runW size held told ro x).1, false)
/-! ### bounds -/
/-- the rest has at most k sizes of items, and there are at most c pieces -/
def Few (size k c : Nat) (x : RP) : Prop := x.rest.length ≤ k * size ∧ x.pieces.length ≤ c
theorem Few.mono {size k c k' c' : Nat} {x : RP} (h : Few size k c x) (hk : k ≤ k') (hc : c ≤ c') : Few size k' c' x := ⟨Nat.le_trans h.1 (Nat.mul_le_mul_right _ hk), Nat.le_trans h.2 hc⟩
theorem few_perf {size k c : Nat} {held : List Int} {s : Str} {x : RP} (hs : 1 ≤ size) (hh : held.length ≤ size) (h : Few size k c x) : Few size (k + 1) (c + (k + 1)) (perfM size held s x) := by
  have e : (k + 1) * size = k * size + size := Nat.succ_mul k size
  have q : x.rest.length / size ≤ k := by
    have := Nat.div_le_div_right (c := size) h.1
    rwa [Nat.mul_div_cancel _ (by omega)] at this
  obtain ⟨h1, h2⟩ := h
  unfold perfM Few
  split
  · refine ⟨?_, by show x.pieces.length ≤ _; omega⟩
    show (x.rest ++ held).length ≤ _
    rw [List.length_append]
    omega
  · split
    · refine ⟨by show x.rest.length ≤ _; omega, ?_⟩
      show (x.pieces ++ [held]).length ≤ _
      rw [List.length_append]
      show x.pieces.length + 1 ≤ _
      omega
    · split
      · refine ⟨?_, ?_⟩
        · show (x.rest.drop _).length ≤ _
          rw [List.length_drop]
          omega
        · show (x.pieces ++ cutN size x.rest (x.rest.length / size)).length ≤ _
          rw [List.length_append, cutN, List.length_map, List.length_range]
          omega
      · split
        · refine ⟨Nat.zero_le _, ?_⟩
          show (x.pieces ++ [x.rest]).length ≤ _
          rw [List.length_append]
          show x.pieces.length + 1 ≤ _
          omega
        · exact ⟨by omega, by omega⟩
theorem few_run {size : Nat} {held : List Int} {told : Bool} (hs : 1 ≤ size) (hh : held.length ≤ size) : ∀ (ro : List (Str × Str)) (k c : Nat) (x : RP), Few size k c x → Few size (k + ro.length) (c + ro.length * (k + ro.length)) (runW size held told ro x).1
  | [], k, c, x, h => by simpa [runW] using h
  | (t, s) :: r, k, c, x, h => by
    have m : Few size (k + (r.length + 1)) (c + (r.length + 1) * (k + (r.length + 1))) x := h.mono (by omega) (by omega)
    unfold runW
    rw [List.length_cons]
    split
    · split
      · exact m
      · split
        · exact m
        · have ih := few_run (told := told) hs hh r (k + 1) (c + (k + 1)) _ (few_perf (s := s) hs hh h)
          refine ih.mono (by omega) ?_
          rw [Nat.succ_mul]
          have e1 : k + 1 + r.length = k + (r.length + 1) := by omega
          rw [e1]
          omega
    · have ih := few_run (told := told) hs hh r k c x h
      refine ih.mono (by omega) ?_
      have : r.length * (k + r.length) ≤ (r.length + 1) * (k + (r.length + 1)) := Nat.mul_le_mul (by omega) (by omega)
      omega
theorem few_end {size : Nat} {held : List Int} {told : Bool} (hs : 1 ≤ size) (hh : held.length ≤ size) : ∀ (eo : List (Str × Str)) (k c : Nat) (x : RP), Few size k c x → Few size (k + eo.length) (c + eo.length * (k + eo.length)) (endW size held told eo x)
  | [], k, c, x, h => by simpa [endW] using h
  | (t, s) :: r, k, c, x, h => by
    unfold endW
    rw [List.length_cons]
    have h2 : Few size (k + 1) (c + (k + 1)) (if passM size held told t x.rest = true then perfM size held s x else x) := by
      split
      · exact few_perf hs hh h
      · exact h.mono (by omega) (by omega)
    have ih := few_end (told := told) hs hh r (k + 1) (c + (k + 1)) _ h2
    refine ih.mono (by omega) ?_
    rw [Nat.succ_mul]
    have e1 : k + 1 + r.length = k + (r.length + 1) := by omega
    rw [e1]
    omega
/-- after one reply -/
theorem few_ans {size : Nat} {ro eo : List (Str × Str)} {held : List Int} {told : Bool} {k c : Nat} {x : RP} (hs : 1 ≤ size) (hh : held.length ≤ size) (l1 : ro.length ≤ 12) (l2 : eo.length ≤ 6) (h : Few size k c x) :
    Few size (k + 18) (c + 18 * (k + 18)) (ansM size ro eo held told x).1 := by
  have a := few_run (told := told) hs hh ro k c x h
  have a1 : Few size (k + 12) (c + 12 * (k + 12)) (runW size held told ro x).1 := a.mono (by omega) (Nat.add_le_add_left (Nat.mul_le_mul l1 (by omega)) _)
  unfold ansM
  split
  · have b := few_end (told := told) hs hh eo _ _ _ a1
    refine b.mono (by omega) ?_
    have : eo.length * (k + 12 + eo.length) ≤ 6 * (k + 18) := Nat.mul_le_mul l2 (by omega)
    omega
  · exact a1.mono (by omega) (by omega)
end EM

/-! how much a run hands on, and how long it is when it is shown -/
namespace EM
open PySem L2
def wt (ps : List (List Int)) : Nat := (ps.map fun p => p.length + 1).sum
theorem wt_app (a b : List (List Int)) : wt (a ++ b) = wt a + wt b := by simp [wt, List.map_append, List.sum_append]
theorem cutN_succ' (sz : Nat) (xs : List Int) (i : Nat) : cutN sz xs (i + 1) = cutN sz xs i ++ [(xs.drop (i * sz)).take sz] := by
  unfold cutN
  rw [List.range_succ, List.map_append]
  rfl
theorem wt_cut (sz : Nat) (xs : List Int) : ∀ n, wt (cutN sz xs n) ≤ n * sz + n
  | 0 => by simp [wt, cutN]
  | n + 1 => by
    have ih := wt_cut sz xs n
    rw [cutN_succ', wt_app, Nat.succ_mul]
    have : wt [(xs.drop (n * sz)).take sz] ≤ sz + 1 := by
      simp only [wt, List.map_cons, List.map_nil, List.sum_cons, List.sum_nil, List.length_take]
      omega
    omega
/-- the rest has at most r items, the pieces weigh at most w -/
def Lt (r w : Nat) (x : RP) : Prop := x.rest.length ≤ r ∧ wt x.pieces ≤ w
theorem Lt.mono {r w r' w' : Nat} {x : RP} (h : Lt r w x) (h1 : r ≤ r') (h2 : w ≤ w') : Lt r' w' x := ⟨Nat.le_trans h.1 h1, Nat.le_trans h.2 h2⟩
def isA (s : Str) : Nat := if s = "add" then 1 else 0
theorem lt_perf {size r w h : Nat} {held : List Int} {s : Str} {x : RP} (hh : held.length ≤ h) (hx : Lt r w x) : Lt (r + isA s * h) (w + (2 * r + h + 1)) (perfM size held s x) := by
  obtain ⟨h1, h2⟩ := hx
  have w1 : ∀ p : List Int, wt [p] = p.length + 1 := fun p => by simp [wt]
  unfold perfM isA Lt
  split
  · refine ⟨?_, by show wt x.pieces ≤ _; omega⟩
    show (x.rest ++ held).length ≤ _
    rw [List.length_append]
    omega
  · split
    · refine ⟨by show x.rest.length ≤ _; omega, ?_⟩
      show wt (x.pieces ++ [held]) ≤ _
      rw [wt_app, w1]
      omega
    · split
      · refine ⟨?_, ?_⟩
        · show (x.rest.drop _).length ≤ _
          rw [List.length_drop]
          omega
        · show wt (x.pieces ++ cutN size x.rest (x.rest.length / size)) ≤ _
          rw [wt_app]
          have a := wt_cut size x.rest (x.rest.length / size)
          have b := Nat.div_mul_le_self x.rest.length size
          have c := Nat.div_le_self x.rest.length size
          omega
      · split
        · refine ⟨Nat.zero_le _, ?_⟩
          show wt (x.pieces ++ [x.rest]) ≤ _
          rw [wt_app, w1]
          omega
        · exact ⟨by show x.rest.length ≤ _; omega, by show wt x.pieces ≤ _; omega⟩
def adds : List (Str × Str) → Nat
  | [] => 0
  | (_, s) :: r => isA s + adds r
theorem lt_run {size h : Nat} {held : List Int} {told : Bool} (hh : held.length ≤ h) : ∀ (os : List (Str × Str)) (r w : Nat) (x : RP), Lt r w x → Lt (r + adds os * h) (w + os.length * (2 * (r + adds os * h) + h + 1)) (runW size held told os x).1
  | [], r, w, x, hx => by simpa [runW, adds] using hx
  | (t, s) :: os, r, w, x, hx => by
    have e1 : (isA s + adds os) * h = isA s * h + adds os * h := Nat.add_mul _ _ _
    have m : Lt (r + adds ((t, s) :: os) * h) (w + (os.length + 1) * (2 * (r + adds ((t, s) :: os) * h) + h + 1)) x := hx.mono (Nat.le_add_right _ _) (Nat.le_add_right _ _)
    unfold runW
    rw [List.length_cons]
    split
    · split
      · exact m
      · split
        · exact m
        · have ih := lt_run (size := size) (told := told) hh os _ _ _ (lt_perf (size := size) (s := s) hh hx)
          have e2 : r + isA s * h + adds os * h = r + adds ((t, s) :: os) * h := by show _ = r + (isA s + adds os) * h; omega
          rw [e2] at ih
          refine ih.mono (Nat.le_refl _) ?_
          have : 2 * r + h + 1 ≤ 2 * (r + adds ((t, s) :: os) * h) + h + 1 := by omega
          generalize 2 * (r + adds ((t, s) :: os) * h) + h + 1 = M at this ⊢
          have e3 : (os.length + 1) * M = os.length * M + M := Nat.succ_mul _ _
          omega
    · have ih := lt_run (size := size) (told := told) hh os r w x hx
      refine ih.mono ?_ ?_
      · show _ ≤ r + (isA s + adds os) * h
        omega
      · have a : os.length * (2 * (r + adds os * h) + h + 1) ≤ (os.length + 1) * (2 * (r + adds ((t, s) :: os) * h) + h + 1) := Nat.mul_le_mul (by omega) (by show _ ≤ 2 * (r + (isA s + adds os) * h) + h + 1; omega)
        omega
theorem lt_end {size h : Nat} {held : List Int} {told : Bool} (hh : held.length ≤ h) : ∀ (os : List (Str × Str)) (r w : Nat) (x : RP), Lt r w x → Lt (r + adds os * h) (w + os.length * (2 * (r + adds os * h) + h + 1)) (endW size held told os x)
  | [], r, w, x, hx => by simpa [endW, adds] using hx
  | (t, s) :: os, r, w, x, hx => by
    have e1 : (isA s + adds os) * h = isA s * h + adds os * h := Nat.add_mul _ _ _
    unfold endW
    rw [List.length_cons]
    have h2 : Lt (r + isA s * h) (w + (2 * r + h + 1)) (if passM size held told t x.rest = true then perfM size held s x else x) := by
      split
      · exact lt_perf hh hx
      · exact hx.mono (by omega) (by omega)
    have ih := lt_end (size := size) (told := told) hh os _ _ _ h2
    have e2 : r + isA s * h + adds os * h = r + adds ((t, s) :: os) * h := by show _ = r + (isA s + adds os) * h; omega
    rw [e2] at ih
    refine ih.mono (Nat.le_refl _) ?_
    have : 2 * r + h + 1 ≤ 2 * (r + adds ((t, s) :: os) * h) + h + 1 := by omega
    generalize 2 * (r + adds ((t, s) :: os) * h) + h + 1 = M at this ⊢
    have e3 : (os.length + 1) * M = os.length * M + M := Nat.succ_mul _ _
    omega
theorem lt_ans {size h r w : Nat} {ro eo : List (Str × Str)} {held : List Int} {told : Bool} {x : RP} (hh : held.length ≤ h) (l1 : ro.length ≤ 12) (l2 : eo.length ≤ 6) (a1 : adds ro ≤ 1) (a2 : adds eo = 0) (hx : Lt r w x) : Lt (r + h) (w + 18 * (2 * (r + h) + h + 1)) (ansM size ro eo held told x).1 := by
  have a := lt_run (size := size) (told := told) hh ro r w x hx
  have e1 : adds ro * h ≤ h := by
    have := Nat.mul_le_mul_right h a1
    omega
  have b : Lt (r + h) (w + 12 * (2 * (r + h) + h + 1)) (runW size held told ro x).1 := a.mono (by omega) (Nat.add_le_add_left (Nat.mul_le_mul l1 (by omega)) _)
  unfold ansM
  split
  · have c := lt_end (size := size) (told := told) hh eo _ _ _ b
    rw [a2, Nat.zero_mul, Nat.add_zero] at c
    refine c.mono (Nat.le_refl _) ?_
    have : eo.length * (2 * (r + h) + h + 1) ≤ 6 * (2 * (r + h) + h + 1) := Nat.mul_le_mul_right _ l2
    show w + 12 * (2 * (r + h) + h + 1) + eo.length * (2 * (r + h) + h + 1) ≤ w + 18 * (2 * (r + h) + h + 1)
    omega
  · exact b.mono (Nat.le_refl _) (by omega)
/-! ### the numbers of items -/
def AllB (N : Nat) (xs : List Int) : Prop := ∀ i ∈ xs, 0 ≤ i ∧ i < (N : Int)
def AB (N : Nat) (x : RP) : Prop := AllB N x.rest ∧ ∀ p ∈ x.pieces, AllB N p
theorem AllB.app {N : Nat} {a b : List Int} (ha : AllB N a) (hb : AllB N b) : AllB N (a ++ b) := fun i hi => (List.mem_append.mp hi).elim (ha i) (hb i)
theorem ab_perf {N size : Nat} {held : List Int} {s : Str} {x : RP} (hh : AllB N held) (hx : AB N x) : AB N (perfM size held s x) := by
  obtain ⟨h1, h2⟩ := hx
  unfold perfM
  split
  · exact ⟨h1.app hh, h2⟩
  · split
    · refine ⟨h1, fun p hp => ?_⟩
      rcases List.mem_append.mp hp with hp | hp
      · exact h2 p hp
      · rw [List.mem_singleton.mp hp]
        exact hh
    · split
      · refine ⟨fun i hi => h1 i (List.mem_of_mem_drop hi), fun p hp => ?_⟩
        rcases List.mem_append.mp hp with hp | hp
        · exact h2 p hp
        · obtain ⟨k, _, rfl⟩ := List.mem_map.mp hp
          exact fun i hi => h1 i (List.mem_of_mem_drop (List.mem_of_mem_take hi))
      · split
        · refine ⟨fun i hi => (nomatch hi), fun p hp => ?_⟩
          rcases List.mem_append.mp hp with hp | hp
          · exact h2 p hp
          · rw [List.mem_singleton.mp hp]
            exact h1
        · exact ⟨h1, h2⟩
theorem ab_run {N size : Nat} {held : List Int} {told : Bool} (hh : AllB N held) : ∀ (os : List (Str × Str)) (x : RP), AB N x → AB N (runW size held told os x).1
  | [], x, hx => hx
  | (t, s) :: os, x, hx => by
    unfold runW
    split
    · split
      · exact hx
      · split
        · exact hx
        · exact ab_run hh os _ (ab_perf hh hx)
    · exact ab_run hh os _ hx
theorem ab_end {N size : Nat} {held : List Int} {told : Bool} (hh : AllB N held) : ∀ (os : List (Str × Str)) (x : RP), AB N x → AB N (endW size held told os x)
  | [], x, hx => hx
  | (t, s) :: os, x, hx => by
    unfold endW
    refine ab_end hh os _ ?_
    split
    · exact ab_perf hh hx
    · exact hx
theorem ab_ans {N size : Nat} {ro eo : List (Str × Str)} {held : List Int} {told : Bool} {x : RP} (hh : AllB N held) (hx : AB N x) : AB N (ansM size ro eo held told x).1 := by
  unfold ansM
  split
  · exact ab_end hh eo _ (ab_run hh ro x hx)
  · exact ab_run hh ro x hx
/-! ### shown -/
def pieceD (p : List Int) : PyData := .tuple (p.map PyData.int)
def runD (ps : List (List Int)) (u : Nat) (st : Bool) : PyData := .tuple [.tuple (ps.map pieceD), .int u, .bool st]
theorem join_le : ∀ ts : List Str, (Str.join ", " ts).length ≤ (ts.map fun t => t.length + 2).sum
  | [] => Nat.le_refl _
  | [x] => by
    show x.length ≤ _
    simp
  | x :: y :: r => by
    show (x ++ ", " ++ Str.join ", " (y :: r)).length ≤ _
    rw [strLen_append, strLen_append, show (", " : Str).length = 2 by decide +kernel]
    have := join_le (y :: r)
    rw [List.map_cons, List.sum_cons]
    omega
theorem tup_le (ts : List Str) : (tupleText ts).length ≤ (ts.map fun t => t.length + 2).sum + 3 := by
  unfold tupleText
  rw [strLen_append, strLen_append, show ("(" : Str).length = 1 by decide +kernel]
  have := join_le ts
  have : (Str.ofString (if ts.length == 1 then ",)" else ")" : String)).length ≤ 2 := by
    split
    · decide +kernel
    · decide +kernel
  omega
theorem int_le {i : Int} (h0 : 0 ≤ i) (h1 : i < 1000000) : (PyData.shown (.int i)).length ≤ 6 := by
  obtain ⟨n, rfl⟩ := Int.eq_ofNat_of_zero_le h0
  show (Str.ofString (toString ((n : Nat) : Int))).length ≤ 6
  rw [TL.len_tl, TL.tl_num]
  exact TL.numL_len (by decide) (by omega)
theorem sum_ints {N : Nat} (hN : N ≤ 1000000) : ∀ {p : List Int}, AllB N p → ((PyData.shownAll (p.map PyData.int)).map fun t => t.length + 2).sum ≤ 8 * p.length
  | [], _ => by simp [PyData.shownAll]
  | i :: r, h => by
    have a := h i (List.mem_cons_self ..)
    have b := int_le (i := i) a.1 (by omega)
    have c := sum_ints hN (p := r) fun z hz => h z (List.mem_cons_of_mem _ hz)
    rw [List.map_cons, PyData.shownAll, List.map_cons, List.sum_cons, List.length_cons]
    omega
theorem piece_le {N : Nat} (hN : N ≤ 1000000) {p : List Int} (h : AllB N p) : (PyData.shown (pieceD p)).length ≤ 8 * p.length + 3 := by
  unfold pieceD
  rw [PyData.shown]
  have := tup_le (PyData.shownAll (p.map PyData.int))
  have := sum_ints hN h
  omega
theorem sum_pieces {N : Nat} (hN : N ≤ 1000000) : ∀ {ps : List (List Int)}, (∀ p ∈ ps, AllB N p) → ((PyData.shownAll (ps.map pieceD)).map fun t => t.length + 2).sum ≤ 8 * wt ps
  | [], _ => by simp [PyData.shownAll, wt]
  | p :: r, h => by
    have b := piece_le hN (h p (List.mem_cons_self ..))
    have c := sum_pieces hN (ps := r) fun z hz => h z (List.mem_cons_of_mem _ hz)
    rw [List.map_cons, PyData.shownAll, List.map_cons, List.sum_cons]
    have e : wt (p :: r) = p.length + 1 + wt r := by simp [wt]
    omega
theorem run_le {N : Nat} (hN : N ≤ 1000000) {ps : List (List Int)} {u : Nat} {st : Bool} (h : ∀ p ∈ ps, AllB N p) (hu : u < 1000000) : (PyData.shown (runD ps u st)).length ≤ 8 * wt ps + 40 := by
  unfold runD
  rw [PyData.shown]
  have a := tup_le (PyData.shownAll [.tuple (ps.map pieceD), .int (u : Int), .bool st])
  have b : (PyData.shown (.tuple (ps.map pieceD))).length ≤ 8 * wt ps + 3 := by
    rw [PyData.shown]
    have := tup_le (PyData.shownAll (ps.map pieceD))
    have := sum_pieces hN h
    omega
  have c := int_le (i := (u : Int)) (by omega) (by omega)
  have d : (PyData.shown (.bool st)).length ≤ 5 := by cases st <;> decide +kernel
  simp only [PyData.shownAll, List.map_cons, List.map_nil, List.sum_cons, List.sum_nil] at a ⊢
  omega
/-- two of them in a list -/
theorem from_le : ∀ (ts : List Str) (k : Nat) (acc : Str), (textFrom k acc ts).length ≤ acc.length + (ts.map fun t => t.length + 2).sum
  | [], _, _ => by simp [textFrom]
  | t :: r, k, acc => by
    rw [textFrom]
    have ih := from_le r (k + 1) (acc ++ (if k > 0 then ", " else "" : String) ++ t)
    rw [strLen_append, strLen_append] at ih
    have : (Str.ofString (if k > 0 then ", " else "" : String)).length ≤ 2 := by
      split
      · decide +kernel
      · decide +kernel
    rw [List.map_cons, List.sum_cons]
    omega
theorem list_le (ts : List Str) : (listText ts).length ≤ (ts.map fun t => t.length + 2).sum + 2 := by
  unfold listText
  rw [strLen_append, show ("]" : Str).length = 1 by decide +kernel]
  have := from_le ts 0 "["
  rw [show ("[" : Str).length = 1 by decide +kernel] at this
  omega
def twoD (ps : List (List Int)) (u : Nat) (st : Bool) : PyData := .list [runD ps u st, runD ps u st]
theorem two_le {N : Nat} (hN : N ≤ 1000000) {ps : List (List Int)} {u : Nat} {st : Bool} (h : ∀ p ∈ ps, AllB N p) (hu : u < 1000000) : (PyData.shown (twoD ps u st)).length ≤ 16 * wt ps + 90 := by
  unfold twoD
  rw [PyData.shown]
  have a := list_le (PyData.shownAll [runD ps u st, runD ps u st])
  have b := run_le hN (u := u) (st := st) h hu
  simp only [PyData.shownAll, List.map_cons, List.map_nil, List.sum_cons, List.sum_nil] at a ⊢
  omega
theorem ints_showable : ∀ p : List Int, AllB 1000000 p → PyData.showableAll (p.map PyData.int) = true
  | [], _ => by simp [PyData.showableAll]
  | i :: r, h => by
    have a := h i (List.mem_cons_self ..)
    have b := ints_showable r fun z hz => h z (List.mem_cons_of_mem _ hz)
    rw [List.map_cons, PyData.showableAll, PyData.showable, b, Bool.and_true]
    refine decide_eq_true ?_
    obtain ⟨n, rfl⟩ := Int.eq_ofNat_of_zero_le a.1
    show (n : Nat).log2 < 1920
    have hn : n < 1000000 := by omega
    by_cases h0 : n = 0
    · rw [h0]; decide
    · exact Nat.lt_of_lt_of_le ((Nat.log2_lt h0).mpr (Nat.lt_of_lt_of_le hn (show 1000000 ≤ 2 ^ 20 by decide))) (by decide)
theorem pieces_showable : ∀ ps : List (List Int), (∀ p ∈ ps, AllB 1000000 p) → PyData.showableAll (ps.map pieceD) = true
  | [], _ => by simp [PyData.showableAll]
  | p :: r, h => by
    have a := ints_showable p (h p (List.mem_cons_self ..))
    have b := pieces_showable r fun z hz => h z (List.mem_cons_of_mem _ hz)
    rw [List.map_cons, PyData.showableAll, b, Bool.and_true]
    unfold pieceD
    rw [PyData.showable]
    exact a
theorem two_showable {ps : List (List Int)} {u : Nat} {st : Bool} (h : ∀ p ∈ ps, AllB 1000000 p) (hu : u < 1000000) : PyData.showable (twoD ps u st) = true := by
  have a := pieces_showable ps h
  have b := ints_showable [(u : Int)] fun i hi => by rw [List.mem_singleton.mp hi]; exact ⟨by omega, by omega⟩
  simp only [List.map_cons, List.map_nil, PyData.showableAll, Bool.and_true] at b
  simp only [twoD, runD, PyData.showable, PyData.showableAll, a, Bool.true_and, Bool.and_true]
  simp only [PyData.showable] at b
  rw [b]
  rfl
theorem ints_depth : ∀ p : List Int, PyData.depthAll (p.map PyData.int) ≤ 1
  | [] => by simp [PyData.depthAll]
  | x :: r => by
    have := ints_depth r
    simp only [List.map_cons, PyData.depthAll, PyData.depth] at this ⊢
    omega
theorem pieces_depth : ∀ ps : List (List Int), PyData.depthAll (ps.map pieceD) ≤ 2
  | [] => by simp [PyData.depthAll]
  | p :: r => by
    have := pieces_depth r
    have := ints_depth p
    simp only [List.map_cons, PyData.depthAll, PyData.depth, pieceD] at *
    omega
theorem two_depth (ps : List (List Int)) (u : Nat) (st : Bool) : PyData.depth (twoD ps u st) ≤ 64 := by
  have := pieces_depth ps
  simp only [twoD, runD, PyData.depth, PyData.depthAll]
  omega
end EM

/-! enumerate of a tuple, as a walk of the hand layer -/
namespace ETup
open PySem PySem.Spec PyProof.Rows L2
open Sem (wp)
/-- what enumerate(v) makes: the inner iterator, then itself -/
abbrev eo (n : Addr) : Obj := { cls := .type "enumerate", data := .fields #[.none, .bool false, .ref n, rawInt 0, .none, .none] }
theorem new1 {v : Value} {ob : Obj} {HP : Heap → Prop} (B : Begins v ob HP) :
    Meets (Builtin.«enumerate.__new__» ⟨[.type "enumerate", v], []⟩) (fun _ R st => HP st.heap ∧
      R (.ok (.ret (.ref (st.heap.push ob).objs.size))) { st with heap := (st.heap.push ob).push (eo st.heap.objs.size) }) :=
  .of_wp fun pr wo Ar R st hh => by
    obtain ⟨hp, g, dd, tk, os⟩ := st; obtain ⟨a1, a2⟩ := hh
    have subE := sub_enumerate
    have run : ∀ {A2 : Around} {E2 : Value → Shared → Prop} {Q2 : Value → Shared → Prop}, Q2 (.ref hp.objs.size) ⟨hp.push ob, g, dd, tk, os⟩ →
        wpAny (model pr wo) A2 (pyIter v) Q2 E2 ⟨hp, g, dd, tk, os⟩ := fun z => B.iter pr wo _ _ ⟨hp, g, dd, tk, os⟩ _ a1 z
    wp_walk using run
    refine wpAny_stack_any fun stk => wpAny_pure ?_
    split
    next c _ _ _ _ _ =>
      cases (c == Value.type "enumerate") <;> (wp_walk using run; exact ⟨_, rfl, a2⟩)
    next => wp_walk using run; exact ⟨_, rfl, a2⟩
section
variable {prog : Program} {w : World} {A : Around} {E : Value → Shared → Prop} {s : Shared}
theorem made {v : Value} {ob : Obj} {HP : Heap → Prop} {Q : Value → Shared → Prop} (B : Begins v ob HP) (h1 : HP s.heap)
    (k : ∀ hn, IsEnum hn (s.heap.objs.size + 1) s.heap.objs.size 0 .none → hn.get? s.heap.objs.size = some ob → (∀ b u, s.heap.get? b = some u → hn.get? b = some u) → Q (.ref (s.heap.objs.size + 1)) { s with heap := hn }) :
    wpAny (model prog w) A (call (.type "enumerate") [v]) Q E s := by
  refine callType_new F.called_enumerate (by decide) (F.typeCall_enumerate_1 _) (F.newCall_enumerate_1 _) (fun ob2 => F.args_object_init_2 ob2 _) F.entry_enumerate_new (new1 B) ⟨h1, ?_⟩
  have sz : (s.heap.push ob).objs.size = s.heap.objs.size + 1 := Heap.size_push ..
  show _ ∧ _
  rw [sz]
  have isE : IsEnum ((s.heap.push ob).push (eo s.heap.objs.size)) (s.heap.objs.size + 1) s.heap.objs.size 0 .none := by
    have g1 := Heap.get?_push_size (s.heap.push ob) (o := eo s.heap.objs.size) rfl
    rw [sz] at g1
    exact g1
  exact ⟨⟨_, isE, rfl⟩, k _ isE (Heap.get?_push_of_some _ (Heap.get?_push_size _ B.free)) fun b u x => Heap.get?_push_of_some _ (Heap.get?_push_of_some _ x)⟩
end
/-- the tuple at a, each item in a new pair with its place -/
def Itu (K : PySem.W.Frag) (a : Addr) : It :=
  ⟨fun i H => ∃ (xs : List V) (x : V), SqT K H a xs ∧ xs[i]? = some x,
   fun i H v H' => ∃ T x, v = .ref T ∧ H T = none ∧ H' = upd H T (.tup [.int (i : Nat), x]) ∧ ∀ xs, SqT K H a xs → xs[i]? = some x,
   fun i H => ∃ xs : List V, SqT K H a xs ∧ xs.length ≤ i⟩
theorem turn {P : Program} {w : World} {K : PySem.W.Frag} {elts : List Expr} {kk : Nat} {tpos : Pos} (a e it : Addr) :
    Turn P w K (.Tuple elts kk tpos) (Itu K a) [e, it] e (fun i h => (∃ old, IsEnum h e it ((i : Nat) : Int) old) ∧ h.IsTupleIter it a i ∧ e ≠ it ∧ a ≠ it ∧ e ≠ a) where
  mem := by simp
  obj := fun i h st b hb => by
    obtain ⟨⟨old, isE⟩, ⟨ob, ho, hc, hd⟩, _⟩ := st
    have two : b = e ∨ b = it := by simpa using hb
    rcases two with rfl | rfl
    · exact ⟨_, isE, fun v q => nomatch q⟩
    · exact ⟨ob, ho, fun v q => by rw [hd] at q; cases q⟩
  keep := fun i h h2 st k => let ⟨⟨old, isE⟩, isT, r⟩ := st; ⟨⟨old, k e (by simp) _ isE⟩, isT.at fun ob q => k it (by simp) ob q, r⟩
  item := by
    intro X hP hw hK hcalm i pins s σ H E I fpo st hg
    subst hP hw hK
    obtain ⟨⟨old, isE⟩, isT, nei, nai, nea⟩ := st
    obtain ⟨xs, x, hq, hx⟩ := hg
    obtain ⟨its, rv, tp, hz⟩ := I.tuple hq
    obtain ⟨u, hu, ru⟩ := rv.get hx
    have ltE : e < s.heap.objs.size := Heap.lt_size isE
    have ltI : it < s.heap.objs.size := by obtain ⟨_, q, _⟩ := isT; exact Heap.lt_size q
    have hsz : i < its.toArray.size := by
      have z := (List.getElem?_eq_some_iff.mp hu).1
      simpa using z
    have D := Draws.tuple (prog := X.prog) (w := X.w) (A := X.A.in1) (show X.A.in1.handled = none from I.ok.hd hcalm) it a nai its.toArray
    refine wpAny_pyNext_enum_itemD D isE ⟨isT, tp⟩ hsz nei (by simp [nei, nea]) fun y h2 tk hy ho st2 hT hsz2 hk => ?_
    have ey : y = u := by
      have z : its[i]? = some y := by simpa using hy
      rw [hu] at z
      exact (Option.some.inj z).symm
    subst ey
    refine ⟨_, rfl, wpAny_letOwnedTupleGo_enum (s := { s with heap := h2, toks := tk + 1 }) ho fun h3 isE3 sb => ?_⟩
    have hT3 : h3.get? s.heap.objs.size = some { cls := .type "tuple", data := .seq #[.int i tk, y] } := (sb.2 _ (Nat.ne_of_gt ltE)).trans hT
    have ok : ObjOk X.prog X.w (upd H s.heap.objs.size (.tup [.int (i : Nat), x])) h3 s.heap.objs.size (.tup [.int (i : Nat), x]) :=
      ⟨by show 2 ≤ sizeLine; decide, [.int i tk, y], .cons ⟨_, rfl⟩ (.cons ru .nil), ⟨_, hT3, rfl, _, rfl⟩⟩
    have J : Inv X pins σ (upd H s.heap.objs.size (.tup [.int (i : Nat), x])) { s with heap := h3, toks := tk + 1 } :=
      I.turnedNew (ch := [e, it]) (fun b ob hb q => (sb.2 b (fun z => hb (by simp [z]))).trans (hk b ob (fun z => hb (by simp [z])) (fun z => hb (by simp [z])) q)) fpo (Nat.le_refl _) ok
    refine ⟨.ref s.heap.objs.size, _, J, rfl, ⟨_, x, rfl, I.hok.fresh (Nat.le_refl _), rfl, fun ys hy => by rw [I.tuple_inj hy hq]; exact hx⟩, ⟨⟨y, ?_⟩, st2.1.at fun ob q => (sb.2 it (Ne.symm nei)).trans q, nei, nai, nea⟩, fun b hb => ?_⟩
    · have e1 : ((i + 1 : Nat) : Int) = (i : Int) + 1 := by omega
      rw [e1]
      exact isE3
    · have lt2 : b < s.heap.objs.size := by
        have two : b = e ∨ b = it := by simpa using hb
        rcases two with rfl | rfl
        · exact ltE
        · exact ltI
      rw [upd_ne (Nat.ne_of_lt lt2)]
      exact (fpo b hb).1
  done := by
    intro X hP hw hK hcalm i pins s σ H E I fpo st hg
    subst hP hw hK
    obtain ⟨⟨old, isE⟩, isT, nei, nai, nea⟩ := st
    obtain ⟨xs, hq, hx⟩ := hg
    obtain ⟨its, rv, tp, hz⟩ := I.tuple hq
    obtain ⟨f0, f1, f2, f3, f4, f5⟩ := fpo it (by simp)
    have hl := rv.length
    have hT : s.TypeIs (.ref e) "enumerate" := ⟨_, isE, rfl⟩
    unfold pyNext
    refine wpAny_bind (wpAny_attempt (wpAny_callSpecial?_slot (name := Str.ofString "__next__") hT F.slot_enumerate_next
      (wpAny_call_entry F.slot_enumerate_next hT F.entry_enumerate_next ?_ (F.args_enumerate_next_1 _))))
    show wpAny (model X.prog X.w) _ (field (Value.ref e) 2 >>= _) _ _ s
    refine wpAny_bind (wpAny_field isE rfl (x := .ref it) rfl ?_)
    refine wpAny_bind (wpAny_nextOf_tuple_end (show X.A.in1.handled = none from I.ok.hd hcalm) isT tp (by simp; omega) fun h2 x eb hx2 => ?_)
    obtain ⟨ob, ho, hc⟩ := hx2
    refine wpAny_bind (wpAny_isInstance (T := "StopIteration") (b := true) ⟨ob, ho, hc⟩ isSubtype_stop ?_)
    exact wpAny_pure ⟨rfl, I.turned (t' := s.toks) (fun b ob hb q => eb b ob hb q) f0 f1 f3 f4 f5⟩
  self := fun A i s Q E st h => let ⟨⟨_, isE⟩, _⟩ := st; wpAny_pyIter_enum isE h
def iEnumT (K : PySem.W.Frag) (ta : TA) : TI := fun σ H R => ta σ H fun vs H1 => ∃ a xs, vs = [.ref a] ∧ SqT K H1 a xs ∧ R (Itu K a) H1
/-- for i, x in enumerate(t), t a tuple -/
theorem pi_enumT {X : Cx} {e : Expr} {ta : TA} {p pos tpos : Pos} {elts : List Expr} {kk : Nat} (hg : Gl X "enumerate") (hm : X.mg "enumerate" = none) (ha : PA X [e] ta) (hs : starEach [e] X.env = [(false, eval e X.env)] := by rfl) :
    PI X (.Tuple elts kk tpos) (.Call (.Name "enumerate" p) [e] [] pos) (iEnumT X.K ta) := by
  refine ⟨fun pins s σ H R I h => ?_⟩
  refine Call_ (ld_blt I hg hm boot_enumerate (PyProof.Rows.callWith_type1 (thn (ha.run pos pins s σ H _ I h) fun us s1 ⟨vs, H1, I1, r1, q1⟩ => ?_) hs rfl))
  obtain ⟨a, xs, ex, hq, q⟩ := q1
  subst ex
  cases r1 with
  | cons r rr =>
    cases rr
    cases r
    obtain ⟨its, rv, tp, hz⟩ := I1.tuple hq
    have lta : a < s1.heap.objs.size := by obtain ⟨_, z, _⟩ := tp; exact Heap.lt_size z
    refine made (begins_tuple a its.toArray) tp fun hn isE isT hk => wpAny_pyIter_enum isE ?_
    have I2 : Inv X pins σ H1 { s1 with heap := hn } := I1.kept (t' := s1.toks) hk
    refine ⟨s1.heap.objs.size + 1, [s1.heap.objs.size + 1, s1.heap.objs.size], _, _, H1, rfl, I2, turn a (s1.heap.objs.size + 1) s1.heap.objs.size,
      ⟨⟨.none, isE⟩, ⟨_, isT, rfl, rfl⟩, Nat.succ_ne_self _, Nat.ne_of_lt lta, Nat.ne_of_gt (Nat.lt_succ_of_lt lta)⟩, fun b hb => ?_, q⟩
    have two : b = s1.heap.objs.size + 1 ∨ b = s1.heap.objs.size := by simpa using hb
    have hle : s1.heap.objs.size ≤ b := by rcases two with rfl | rfl <;> omega
    exact I1.fpOk hle (I1.hok.fresh hle)
/-- the loop's word -/
theorem for_enumT {K : PySem.W.Frag} {a : Addr} {xs : List V} {g : TG} {tb : TS} {D : Ends} {σ : L2.St} {H : Hp} (Pv : Nat → L2.St → Hp → Prop) (h0 : Pv 0 σ H) (hl : ∀ i σ H, i ≤ xs.length → Pv i σ H → SqT K H a xs)
    (hs : ∀ i x σ H T, xs[i]? = some x → Pv i σ H → H T = none → g (.ref T) σ (upd H T (.tup [.int (i : Nat), x])) fun σ2 H2 => tb { D with nx := Pv (i + 1), ct := Pv (i + 1), bk := D.nx } σ2 H2) (hd : ∀ σ H, Pv xs.length σ H → D.nx σ H) :
    ∃ W : Nat → Nat → L2.St → Hp → Prop, (∃ m, W 0 m σ H) ∧ ∀ i m σ H, W i m σ H →
      ((Itu K a).stop i H ∧ D.nx σ H) ∨ ((Itu K a).go i H ∧ ∃ N : L2.St → Hp → Prop, (∀ σ' H', N σ' H' → ∃ m', m' < m ∧ W (i + 1) m' σ' H') ∧ ∀ x H', (Itu K a).yld i H x H' → g x σ H' fun σ2 H2 => tb { D with nx := N, ct := N, bk := D.nx } σ2 H2) := by
  refine ⟨fun i m σ H => m = xs.length - i ∧ i ≤ xs.length ∧ Pv i σ H, ⟨xs.length, by simp, Nat.zero_le _, h0⟩, ?_⟩
  rintro i m σ H ⟨rfl, hi, p⟩
  have q := hl i σ H hi p
  rcases Nat.lt_or_ge i xs.length with lt | ge
  · refine .inr ⟨⟨xs, xs[i], q, by simp [lt]⟩, Pv (i + 1), fun σ2 H2 p2 => ⟨xs.length - (i + 1), by omega, rfl, lt, p2⟩, fun x H2 y => ?_⟩
    obtain ⟨T, z, rfl, nT, rfl, hz⟩ := y
    exact hs i z σ H T (hz xs q) p nT
  · obtain rfl : i = xs.length := by omega
    exact .inl ⟨⟨xs, q, Nat.le_refl _⟩, hd σ H p⟩
end ETup

/-! defs that are called where no repr is running, and repr of plain data there -/
namespace Gd
open PySem PySem.Spec PyProof.Rows L2
/-- a def's promise, for callers around whom no guard stands -/
structure FnG (P : Program) (w : World) (K : PySem.W.Frag) (mg : Str → Option Value) (base : Heap) (CX : CXT) (k : Nat) (f : Addr) (fd : FuncData) (ps : List Str) (sp : Sp) : Prop where
  len : ∀ vs H Q E, sp vs H Q E → vs.length = ps.length
  run : ∀ (A : Around) (outer : List Env) (s : Shared) (H : Hp) (args : Args) (us : List Value) (vs : List V) (Q : VK) (E : XK), A.guards = some [] → Room k A → Env0 P w K mg base A outer s H → BindsTo s fd args (ps.zip us) → Vals vs us → sp vs H Q E →
    codeAny (model P w) A (.call (.ref f) args) (CR CX outer P w H s Q E) s
section
variable {P : Program} {w : World} {K : PySem.W.Frag} {mg : Str → Option Value} {base : Heap}
/-- the rule of a def, its guards told -/
theorem okG {x qual : Str} {st : Stmt} {f : Addr} {fd : FuncData} {N ps : List Str} {k : Nat} {sp : Sp} (F : Fun K x qual st f fd) (S : FnScope N ps (defScope st)) (len : ∀ vs H Q E, sp vs H Q E → vs.length = ps.length)
    (hbody : ∀ (cdv : Value) (A : Around) (outer : List Env) (s : Shared) (H : Hp) (vs : List V) (Q : VK) (E : XK), K.lookup f ≠ none → PySem.W.codeIn K cdv qual = true → fd.code = cdv → A.guards = some [] → Room k (A.deeper (envOfC qual (defScope st) s.heap.objs.size f cdv)) → sp vs H Q E →
      ∃ t, PSs (cxOf CX0 P w K mg base N qual (defScope st) f cdv A outer s H E).nox (defBody st) t ∧ t { nx := fun _ H' => Q .non H', rt := Q } (L2.start N vs) H) : FnG P w K mg base CX0 (k + 1) f fd ps sp := by
  obtain ⟨oc, od, kV, doc, pm, an, cdv, ct, osl, rfl, lk, hcd⟩ := F.ex
  refine ⟨len, fun A outer s H args us vs Q E hg hr e0 hb r h => ?_⟩
  refine LamX.run_ofS lk hcd S hr e0 hb r (len _ _ _ _ h) fun hr2 => ?_
  obtain ⟨t, h1, q⟩ := hbody cdv A outer s H vs Q E (by rw [lk]; simp) hcd rfl hg hr2 h
  exact ⟨t, h1.nox, q⟩
end
section
variable {X : Cx} {CX : CXT} {k : Nat} {f : Addr} {fd : FuncData} {ps : List Str} {sp : Sp} {E : XK} {x : Str} {p pos : Pos} {e : Expr} {es : List Expr} {t : TA} {ds : List Value} {dvs : List V}
/-- f(e, ..) -/
theorem pe_callG (F : FnG X.prog X.w X.K X.mg X.base CX k f fd ps sp) (hgd : X.A.guards = some []) (hr : Room k X.A) (hg : Gl X x) (hm : X.mg x = some (.ref f)) (hk : PySem.W.keepIn X.K (.ref f) = true) (hb : L2.Binds X.K fd ps ds) (hd : Vals dvs ds) (hx : Passes CX X E) (ha : PA X (e :: es) t)
    (hdb : (x == ("__debug__" : Str)) = false := by decide) (he : starEach (e :: es) X.env = (false, eval e X.env) :: starEach es X.env := by rfl) (hpl : (backTo pos (starEach es X.env)).any (·.1) = false := by rfl) :
    PE X (.Call (.Name x p) (e :: es) [] pos) (tCall sp dvs E t) := by
  refine ⟨fun pins s σ H Q I h => ?_⟩
  refine wpAny_Call_Name_kw (ld_glob I hg hm ?_ hdb)
  refine PySem.W.callWith_K (h₀ := X.base) I.ok.mod.kin hk (thn (ha.run pos pins s σ H _ I h) fun us s1 ⟨vs, H1, I1, r, q⟩ => ⟨I1.kIn, ?_⟩) he hpl
  have r2 : Vals (vs ++ dvs) (us ++ ds) := r.append hd
  have hl : (us ++ ds).length = ps.length := by
    rw [← r2.length]
    exact F.len _ _ _ _ q
  refine wpAny_call (codeAny_mono (F.run X.A X.stack s1 H1 ⟨us, []⟩ (us ++ ds) (vs ++ dvs) Q E hgd hr I1.env0 (hb s1 us I1.kIn hl) r2 q) fun rr s2 hq => ?_)
  match rr, hq with
  | .error er, hq => exact hx pins σ H1 s1 er s2 I1 hq
  | .ok (.ret u), hq => exact I1.after hq
end
/-! ### plain data, all of it tracked -/
mutual
inductive Dq (H : Hp) : V → PyData → Prop
  | non : Dq H .non .none
  | bl (b : Bool) : Dq H (.bl b) (.bool b)
  | int (i : Int) : Dq H (.int i) (.int i)
  | str (x : Str) : Dq H (.str x) (.str x)
  | lst {a : Addr} {xs : List V} {ds : List PyData} : H a = some (.lst xs) → DqA H xs ds → Dq H (.ref a) (.list ds)
  | tup {a : Addr} {xs : List V} {ds : List PyData} : H a = some (.tup xs) → DqA H xs ds → Dq H (.ref a) (.tuple ds)
  | dct {a : Addr} : H a = some (.dK []) → Dq H (.ref a) (.dict [])
inductive DqA (H : Hp) : List V → List PyData → Prop
  | nil : DqA H [] []
  | cons {v : V} {vs : List V} {d : PyData} {ds : List PyData} : Dq H v d → DqA H vs ds → DqA H (v :: vs) (d :: ds)
end
section
variable {X : Cx} {pins : List (Addr × Obj)} {σ : L2.St} {H : Hp} {s : Shared}
mutual
theorem Dq.reads (I : Inv X pins σ H s) : ∀ {v : V} {d : PyData} {u : Value}, Dq H v d → RelV v u → ∃ as, Reads s.heap u d as ∧ ∀ b ∈ as, H b ≠ none
  | _, _, _, .non, r => by
    cases r
    exact ⟨_, .none, fun b h => nomatch h⟩
  | _, _, _, .bl b, r => by
    cases r
    exact ⟨_, .bool b, fun b h => nomatch h⟩
  | _, _, _, .int i, r => by
    obtain ⟨t, rfl⟩ := r
    exact ⟨_, .int i t, fun b h => nomatch h⟩
  | _, _, _, .str x, r => by
    obtain ⟨t, rfl⟩ := r
    exact ⟨_, .str x t, fun b h => nomatch h⟩
  | _, _, _, .lst (a := a) (xs := xs) ha hd, r => by
    cases r
    obtain ⟨_, its, n, rv, e⟩ := (show ObjOk X.prog X.w H s.heap a (.lst xs) from I.hok a _ ha)
    obtain ⟨as, h1, h2⟩ := DqA.reads I hd rv
    refine ⟨_, .list e rfl rfl (by simpa using h1), fun b hb => ?_⟩
    rcases List.mem_cons.mp hb with rfl | hb
    · rw [ha]; simp
    · exact h2 b hb
  | _, _, _, .tup (a := a) (xs := xs) ha hd, r => by
    cases r
    obtain ⟨_, its, rv, o, e, c, n, hn⟩ := (show ObjOk X.prog X.w H s.heap a (.tup xs) from I.hok a _ ha)
    obtain ⟨as, h1, h2⟩ := DqA.reads I hd rv
    exact ⟨_, .tuple e c hn (by simpa using h1), h2⟩
  | _, _, _, .dct (a := a) ha, r => by
    cases r
    obtain ⟨_, _, vs, kv, o, es, ep, e, hx, hdt, _, hes, _⟩ := (show ObjOk X.prog X.w H s.heap a (.dK []) from I.hok a _ ha)
    cases kv
    have e0 : es.toList = [] := by
      generalize es.toList = zs at hes
      cases hes
      rfl
    refine ⟨_, .dict (kvs := []) e hx.1 hdt (by rw [e0]; exact .nil) (by rw [e0]; exact .nil), fun b hb => ?_⟩
    have : b = a := by simpa using hb
    rw [this, ha]; simp
theorem DqA.reads (I : Inv X pins σ H s) : ∀ {vs : List V} {ds : List PyData} {us : List Value}, DqA H vs ds → Vals vs us → ∃ as, ReadsAll s.heap us ds as ∧ ∀ b ∈ as, H b ≠ none
  | _, _, _, .nil, r => by
    cases r
    exact ⟨_, .nil, fun b h => nomatch h⟩
  | _, _, _, .cons hd ht, .cons r rt => by
    obtain ⟨as, h1, h2⟩ := Dq.reads I hd r
    obtain ⟨bs, h3, h4⟩ := DqA.reads I ht rt
    exact ⟨_, .cons h1 h3, fun b hb => (List.mem_append.mp hb).elim (h2 b) (h4 b)⟩
end
end
mutual
theorem Dq.same {H H' : Hp} (s : Same H H') : ∀ {v : V} {d : PyData}, Dq H v d → Dq H' v d
  | _, _, .non => .non
  | _, _, .bl b => .bl b
  | _, _, .int i => .int i
  | _, _, .str x => .str x
  | _, _, .lst ha hd => .lst (s _ _ ha) (DqA.same s hd)
  | _, _, .tup ha hd => .tup (s _ _ ha) (DqA.same s hd)
  | _, _, .dct ha => .dct (s _ _ ha)
theorem DqA.same {H H' : Hp} (s : Same H H') : ∀ {vs : List V} {ds : List PyData}, DqA H vs ds → DqA H' vs ds
  | _, _, .nil => .nil
  | _, _, .cons a b => .cons (Dq.same s a) (DqA.same s b)
end
/-- repr of a list, a tuple or an empty dict of such data -/
def rReprD : List V → Hp → VK → Prop := fun xs H Q => ∃ (a : Addr) (d : PyData), xs = [.ref a] ∧ Dq H (.ref a) d ∧ d.showable = true ∧ d.depth ≤ 64 ∧ d.shown.length ≤ sizeLine ∧ Q (.str d.shown) H
theorem call_reprD {X : Cx} {k : Nat} {ob : Obj} (hg : X.A.guards = some []) (hr : Room k X.A) (sm : X.base.get? sysModules = some ob) : CallR X (.builtin "repr") rReprD := by
  intro pins s σ H xs us Q I r h
  obtain ⟨a, d, rfl, hd, hs, hdep, hz, q⟩ := h
  obtain ⟨u, rfl, ru⟩ := vals1 r
  cases (show u = Value.ref a from ru)
  obtain ⟨as, h1, h2⟩ := hd.reads I (u := .ref a) rfl
  have no : sysModules ∉ as := fun hm => h2 _ hm (I.env0.bs _ _ sm).2
  have hu := hr.un
  refine repr_of_reads' h1 hs (fun _ => no) hg (by omega) (fun _ _ e => e) (fun h' u tk hk => ?_) hz
  exact ⟨.str d.shown, H, I.kept (t' := tk) hk, ⟨_, rfl⟩, q⟩
/-! ### the end of a law, from such a promise -/
/-- at the law's call: the tables, and the script unless the module itself holds it -/
def H0 (K : PySem.W.Frag) (tabs : List Addr) (a : Addr) (u : HO) : Hp := fun b => if b ∈ tabs then some (.tbl #[]) else if b = a ∧ K.lookup a = none then some u else none
theorem H0_tab {K : PySem.W.Frag} {tabs : List Addr} {a b : Addr} {u : HO} (h : b ∈ tabs) : H0 K tabs a u b = some (.tbl #[]) := if_pos h
theorem H0_cases {K : PySem.W.Frag} {tabs : List Addr} {a b : Addr} {u o : HO} (h : H0 K tabs a u b = some o) : (b ∈ tabs ∧ o = .tbl #[]) ∨ (b ∉ tabs ∧ b = a ∧ K.lookup a = none ∧ o = u) := by
  unfold H0 at h
  split at h
  next hb => exact .inl ⟨hb, (Option.some.inj h).symm⟩
  next hb =>
    split at h
    next hc => exact .inr ⟨hb, hc.1, hc.2, (Option.some.inj h).symm⟩
    next => cases h
theorem law_callG {P : Program} {w : World} {K : PySem.W.Frag} {mg mb : Str → Option Value} {k : Nat} {fa a : Addr} {cs : List (Addr × Addr)} {fd : FuncData} {x : Str} {sp : Sp} {st : Shared} {vs : List Value} {ns : List Int}
    (KX : K.In st.heap) (gNs : st.heap.Ns mainGlobals mg) (bNs : st.heap.Ns builtinsNs mb) (bEq : ∀ x : Str, x ≠ "__name__" → mb x = bootBuiltins x) (lim : st.heap.NoLimit) (noG : st.gens = #[])
    (isT : ∀ p ∈ cs, st.heap.get? p.2 = some { cls := .none, data := .fields #[] }) (nK : ∀ p ∈ cs, K.lookup p.2 = none) (isC : ∀ p ∈ cs, PySem.W.CodeHd st.heap p.1 p.2)
    (bMain : ∃ (bm : Addr) (ob : Obj), mg "__builtins__" = some (.ref bm) ∧ bm ≠ builtinsNs ∧ st.heap.get? bm = some ob ∧ ob.cls = .type "module" ∧ ob.dict = some builtinsNs ∧ ob.data = .plain)
    (scr : st.heap.get? a = some { cls := .type "list", data := .seq vs.toArray }) (intsA : IntsAre vs ns) (few : ns.length ≤ sizeLine) (room : Room k callerA)
    (mods : ∃ mm, st.heap.Ns sysModules mm)
    (F : ∀ base : Heap, K.In base → base.Ns mainGlobals mg → (∃ ob, base.get? sysModules = some ob) → (∀ p ∈ cs, LamX.TabB base mg p.1 p.2) → FnG P w K mg base CX0 k fa fd [x] sp) (bind : ∀ (s : Shared) (u : Value), BindsTo s fd ⟨[u], []⟩ [(x, u)])
    (hsp : ∀ H : Hp, (∀ p ∈ cs, H p.2 = some (.tbl #[])) → SqL K H a (ns.map V.int) → sp [.ref a] H (fun v _ => v = .bl true) fun _ _ _ => False) :
    codeAny (model P w) callerA (.call (.ref fa) ⟨[.ref a], []⟩) (fun r s2 => r = .ok (.ret (.bool true)) ∧ OldK st.heap s2.heap ∧ s2.os = st.os ∧ AllBare s2.gens) st := by
  have vals := vals_ints intsA
  have tabAt : ∀ b ∈ cs.map (·.2), st.heap.get? b = some { cls := .none, data := .fields #[] } := fun b hb => by
    obtain ⟨p, hp, rfl⟩ := List.mem_map.mp hb
    exact isT p hp
  generalize hu : (HO.frz { cls := .type "list", data := .seq vs.toArray } (.lst (ns.map V.int))) = u
  generalize hH : H0 K (cs.map (·.2)) a u = H
  have tabH : ∀ p ∈ cs, H p.2 = some (.tbl #[]) := fun p hp => by
    rw [← hH]
    exact H0_tab (List.mem_map.mpr ⟨p, hp, rfl⟩)
  have what : ∀ b o, H b = some o → (b ∈ cs.map (·.2) ∧ o = .tbl #[]) ∨ (b ∉ cs.map (·.2) ∧ b = a ∧ K.lookup a = none ∧ o = u) := fun b o e => by
    rw [← hH] at e
    exact H0_cases e
  have held : HOk P w H st.heap := fun b o e => by
    rcases what b o e with ⟨h1, rfl⟩ | ⟨_, rfl, _, rfl⟩
    · exact tabAt b h1
    · rw [← hu]
      exact ⟨scr, by rw [List.length_map]; exact few, vs, _, vals, scr⟩
  have seen : SqL K H a (ns.map V.int) := by
    cases hk : K.lookup a with
    | some o =>
      have e := KX a o hk
      rw [scr] at e
      cases e
      exact .inr ⟨_, vs.toArray, _, hk, rfl, rfl, rfl, by rw [List.size_toArray, intsA.length]; exact few, by simpa using vals⟩
    | none =>
      refine .inl (.inr ⟨{ cls := .type "list", data := .seq vs.toArray }, ?_⟩)
      have nt : a ∉ cs.map (·.2) := fun z => by
        have q := tabAt a z
        rw [scr] at q
        cases congrArg Obj.data (Option.some.inj q)
      rw [← hH, ← hu]
      exact (if_neg nt).trans (if_pos ⟨rfl, hk⟩)
  -- what is neither a list nor an empty table is not tracked
  have untracked : ∀ {b : Addr} {o : Obj}, st.heap.get? b = some o → (∀ us m, o.data ≠ .seq us m) → o.data ≠ .fields #[] → H b = none := fun {b o} e h1 h2 => by
    cases q : H b with
    | none => rfl
    | some z =>
      rcases what b z q with ⟨hb, _⟩ | ⟨_, rfl, _⟩
      · rw [tabAt b hb] at e
        exact absurd (congrArg Obj.data (Option.some.inj e)).symm h2
      · rw [scr] at e
        exact absurd (congrArg Obj.data (Option.some.inj e)).symm (h1 _ _)
  have stays : ∀ {b : Addr} {o : Obj}, st.heap.get? b = some o → (∀ us m, o.data ≠ .seq us m) → o.data ≠ .fields #[] → (hidT st.heap H).get? b = some o := fun e h1 h2 => hidT_get e (untracked e h1 h2)
  have names : ∀ {b : Addr} {m : Str → Option Value}, st.heap.Ns b m → (hidT st.heap H).Ns b m := fun ⟨o, es, ep, e, dt, r⟩ =>
    ⟨o, es, ep, stays e (fun _ _ z => by rw [dt] at z; cases z) (fun z => by rw [dt] at z; cases z), dt, r⟩
  have inB : K.In (hidT st.heap H) := fun b o e => hidT_get (KX b o e) (by
    cases q : H b with
    | none => rfl
    | some z =>
      rcases what b z q with ⟨hb, _⟩ | ⟨_, rfl, hn, _⟩
      · obtain ⟨p, hp, rfl⟩ := List.mem_map.mp hb
        rw [nK p hp] at e
        cases e
      · rw [hn] at e
        cases e)
  obtain ⟨mc, lim1, lim2⟩ := lim
  have modu : L2.Mod K mg (hidT st.heap H) := ⟨inB, names gNs, ⟨mb, names bNs, bEq⟩, ⟨mc, names lim1, lim2⟩⟩
  have tabB : ∀ p ∈ cs, LamX.TabB (hidT st.heap H) mg p.1 p.2 := fun p hp => by
    have atP := isT p hp
    refine { code := ?_, bm := ?_, gP := fun z => ?_ }
    · obtain ⟨o, us, file, tf, flags, tg, inF, text, tt, e1, r1, r2, r3, r4⟩ := isC p hp
      exact ⟨o, us, file, tf, flags, tg, inF, text, tt, stays e1 (fun _ _ z => by rw [r2] at z; cases z) (fun z => by rw [r2] at z; cases z; simp at r3), r1, r2, r3, r4⟩
    · obtain ⟨bm, ob, b1, b2, b3, b4, b5, b6⟩ := bMain
      refine ⟨bm, ob, b1, b2, fun z => ?_, fun z => ?_, stays b3 (fun _ _ z => by rw [b6] at z; cases z) (fun z => by rw [b6] at z; cases z), b4, b5, b6⟩
      · obtain ⟨o, es, ep, e, dt, _⟩ := gNs
        rw [z, e] at b3
        cases b3
        rw [dt] at b6
        cases b6
      · rw [z, atP] at b3
        cases b3
        cases b6
    · obtain ⟨o, es, ep, e, dt, _⟩ := gNs
      rw [z, atP] at e
      cases e
      cases dt
  have env : Env0 P w K mg (hidT st.heap H) callerA [] st H := ⟨rfl, modu, fun b o e => of_hidT e, Nat.le_of_eq (hidT_size _ _), trivial, (fun b hb => absurd (show b ∈ ([] : List Addr) from hb) (by simp)), held, .of_eq noG⟩
  have hm : ∃ ob, (hidT st.heap H).get? sysModules = some ob := by
    obtain ⟨mm, hm⟩ := mods
    obtain ⟨o, es, ep, e, _⟩ := names hm
    exact ⟨o, e⟩
  refine codeAny_mono ((F _ inB (names gNs) hm tabB).run callerA [] st H ⟨[.ref a], []⟩ [.ref a] [.ref a] _ _ rfl room env (bind st (.ref a)) (.cons rfl .nil) (hsp H tabH seen)) fun r s2 h => ?_
  match r, h with
  | .error e, h => exact (show False from h).elim
  | .ok (.ret z), h =>
    obtain ⟨v, H2, os2, bare, un, held2, rz, q⟩ := h
    cases (show v = .bl true from q)
    cases (show z = Value.bool true from rz)
    have kept : ∀ b o, b ∉ cs.map (·.2) → st.heap.get? b = some o → s2.heap.get? b = some o := fun b o nb e => by
      cases q : H b with
      | none => exact un.keep b o e q (fun z => absurd (show b ∈ ([] : List Addr) from z) (by simp)) (by simp)
      | some y =>
        rcases what b y q with ⟨hb, _⟩ | ⟨_, rfl, _, rfl⟩
        · exact absurd hb nb
        · rw [← hu] at q
          have e1 := (held2 _ _ (un.frzs _ _ _ q)).1
          rw [scr] at e
          cases e
          exact e1
    have grew : ∀ p ∈ cs, ∃ more : Array Value, s2.heap.get? p.2 = some { cls := .none, data := .fields more } := fun p hp => by
      obtain ⟨more, z⟩ := un.tbls p.2 #[] (tabH p hp)
      exact ⟨_, held2 p.2 _ z⟩
    refine ⟨rfl, ⟨fun b o e => ?_, fun b o e => ?_⟩, os2, bare⟩
    · by_cases hb : b ∈ cs.map (·.2)
      · obtain ⟨p, hp, rfl⟩ := List.mem_map.mp hb
        obtain ⟨more, hm⟩ := grew p hp
        rw [isT p hp] at e
        cases e
        exact .inr (.inl ⟨((isC p hp).tab (isT p hp)).isCodeTable, rfl, #[], more, rfl, by rw [Array.empty_append]; exact hm⟩)
      · exact .inl (kept b o hb e)
    · by_cases hb : b ∈ cs.map (·.2)
      · obtain ⟨p, hp, rfl⟩ := List.mem_map.mp hb
        obtain ⟨more, hm⟩ := grew p hp
        exact ⟨_, hm⟩
      · exact ⟨o, kept b o hb e⟩
/-- what the law's def promises where the head has ended -/
def LawG (l : PySem.W.OpenLaw) (w : World) (K : PySem.W.Frag) (k n : Nat) (x : Str) (mg : Str → Option Value) (fa : Addr) (h : Heap) : Prop :=
  ∃ (fd : FuncData) (cs : List (Addr × Addr)) (sp : Sp), (∀ p ∈ cs, h.get? p.2 = some { cls := .none, data := .fields #[] }) ∧ (∀ p ∈ cs, K.lookup p.2 = none) ∧ (∀ p ∈ cs, PySem.W.CodeHd h p.1 p.2) ∧ (∀ (s : Shared) (u : Value), BindsTo s fd ⟨[u], []⟩ [(x, u)]) ∧
    (∀ (H : Hp) (a : Addr) (ns : List Int), ns.length ≤ n → (∀ p ∈ cs, H p.2 = some (.tbl #[])) → SqL K H a (ns.map V.int) → sp [.ref a] H (fun v _ => v = .bl true) fun _ _ _ => False) ∧
    ∀ base : Heap, K.In base → base.Ns mainGlobals mg → (∃ ob, base.get? sysModules = some ob) → (∀ p ∈ cs, LamX.TabB base mg p.1 p.2) → FnG l.prog w K mg base CX0 k fa fd [x] sp
theorem walk_ofG {l : PySem.W.OpenLaw} {n k : Nat} {q : Program} {loose : List Str} {XP : (Str → Option Value) → Heap → Prop} {YP : World → Heap → Prop} {d : DefRec} {K : Params → PySem.W.Frag} {x : Str}
    (hn : l.most = some n) (hn2 : n ≤ sizeLine) (hdf : d.params.defaults = []) (hi : importsNone q = true) (hr : Room k callerA) (hY : ∀ (w : World) (h : Heap), YP w h → (K w.params).In h)
    (F : ∀ (w : World) (mg : Str → Option Value) (fa : Addr) (h : Heap), YP w h → (K w.params).In h → h.Ns mainGlobals mg → mg d.name = some (.ref fa) → LawG l w (K w.params) k n x mg fa h) :
    PySem.W.WalkO q loose XP YP l.row.toRowW d [] (fun f vs => PySem.call f vs) := by
  refine Att.attach_call hn hdf fun w t0 t1 mg mb fa o pm cd doc a vs ns gr y1 ho hd hcd hmg hobj hints hlen hgen => ?_
  obtain ⟨fd, cs, sp, c1, c2, c3, c4, c5, c6⟩ := F w mg fa _ y1 (hY w _ y1) gr.T.g hmg
  exact law_callG (hY w _ y1) gr.T.g gr.T.b gr.T.builtins gr.T.nolimit hgen c1 c2 c3 gr.T.bmain hobj hints (Nat.le_trans hlen hn2) hr (let ⟨mm, hm, _⟩ := (gr.T.seer hi).mods; ⟨mm, hm⟩) c6 c4 fun H tabs sq => c5 H a ns hlen tabs sq
end Gd

/-! shown data as data: code points, lengths -/
namespace SkT
open PySem
theorem ok_of (s : String) : PyData.strOk (Str.ofString s) = true := by
  unfold PyData.strOk
  rw [Str.ofString_eq_toList, List.all_toArray, List.all_eq_true]
  intro n hn
  obtain ⟨c, _, rfl⟩ := List.mem_map.mp hn
  refine decide_eq_true ?_
  have := c.valid
  unfold Char.toNat
  rcases this with h | h
  · exact Nat.lt_trans h (by decide)
  · exact h.2
theorem ok_app {a b : Str} (h1 : PyData.strOk a = true) (h2 : PyData.strOk b = true) : PyData.strOk (a ++ b) = true := by
  unfold PyData.strOk at h1 h2 ⊢
  show (a.cps ++ b.cps).all _ = true
  rw [Array.all_append, h1, h2]
  rfl
theorem ok_join {sep : Str} (hs : PyData.strOk sep = true) : ∀ {ts : List Str}, (∀ t ∈ ts, PyData.strOk t = true) → PyData.strOk (Str.join sep ts) = true
  | [], _ => (by decide +kernel : PyData.strOk Str.empty = true)
  | [x], h => h x List.mem_cons_self
  | x :: y :: r, h => ok_app (ok_app (h x List.mem_cons_self) hs) (ok_join hs fun t ht => h t (List.mem_cons_of_mem _ ht))
theorem ok_from : ∀ {ts : List Str} {k : Nat} {acc : Str}, PyData.strOk acc = true → (∀ t ∈ ts, PyData.strOk t = true) → PyData.strOk (textFrom k acc ts) = true
  | [], _, _, ha, _ => ha
  | t :: r, k, acc, ha, h => by
    rw [textFrom]
    exact ok_from (ok_app (ok_app ha (ok_of _)) (h t List.mem_cons_self)) fun x hx => h x (List.mem_cons_of_mem _ hx)
theorem ok_list {ts : List Str} (h : ∀ t ∈ ts, PyData.strOk t = true) : PyData.strOk (listText ts) = true := ok_app (ok_from (ok_of _) h) (ok_of _)
theorem ok_tup {ts : List Str} (h : ∀ t ∈ ts, PyData.strOk t = true) : PyData.strOk (tupleText ts) = true := ok_app (ok_app (ok_of _) (ok_join (ok_of _) h)) (ok_of _)
theorem join_le : ∀ ts : List Str, (Str.join ", " ts).length ≤ (ts.map fun t => t.length + 2).sum
  | [] => Nat.le_refl _
  | [x] => by
    show x.length ≤ _
    simp
  | x :: y :: r => by
    show (x ++ ", " ++ Str.join ", " (y :: r)).length ≤ _
    rw [strLen_append, strLen_append, show (", " : Str).length = 2 by decide +kernel]
    have := join_le (y :: r)
    rw [List.map_cons, List.sum_cons]
    omega
theorem tup_le (ts : List Str) : (tupleText ts).length ≤ (ts.map fun t => t.length + 2).sum + 3 := by
  unfold tupleText
  rw [strLen_append, strLen_append, show ("(" : Str).length = 1 by decide +kernel]
  have := join_le ts
  have : (Str.ofString (if ts.length == 1 then ",)" else ")" : String)).length ≤ 2 := by
    split
    · decide +kernel
    · decide +kernel
  omega
theorem from_le : ∀ (ts : List Str) (k : Nat) (acc : Str), (textFrom k acc ts).length ≤ acc.length + (ts.map fun t => t.length + 2).sum
  | [], _, _ => by simp [textFrom]
  | t :: r, k, acc => by
    rw [textFrom]
    have ih := from_le r (k + 1) (acc ++ (if k > 0 then ", " else "" : String) ++ t)
    rw [strLen_append, strLen_append] at ih
    have : (Str.ofString (if k > 0 then ", " else "" : String)).length ≤ 2 := by
      split
      · decide +kernel
      · decide +kernel
    rw [List.map_cons, List.sum_cons]
    omega
theorem list_le (ts : List Str) : (listText ts).length ≤ (ts.map fun t => t.length + 2).sum + 2 := by
  unfold listText
  rw [strLen_append, show ("]" : Str).length = 1 by decide +kernel]
  have := from_le ts 0 "["
  rw [show ("[" : Str).length = 1 by decide +kernel] at this
  omega
/-- data that can be shown; n bounds its text, k its depth -/
structure Sw (n k : Nat) (d : PyData) : Prop where
  sh : d.showable = true
  dp : d.depth ≤ k
  ln : d.shown.length ≤ n
  ok : PyData.strOk d.shown = true
theorem Sw.mono {n m k j : Nat} {d : PyData} (h : Sw n k d) (a : n ≤ m) (b : k ≤ j) : Sw m j d := ⟨h.sh, Nat.le_trans h.dp b, Nat.le_trans h.ln a, h.ok⟩
theorem sw_all {n k : Nat} : ∀ {ds : List PyData}, (∀ x ∈ ds, Sw n k x) → PyData.showableAll ds = true ∧ PyData.depthAll ds ≤ k ∧ ((PyData.shownAll ds).map fun t => t.length + 2).sum ≤ (n + 2) * ds.length ∧ ∀ t ∈ PyData.shownAll ds, PyData.strOk t = true
  | [], _ => ⟨rfl, by simp [PyData.depthAll], by simp [PyData.shownAll], fun t h => by simp [PyData.shownAll] at h⟩
  | d :: r, h => by
    obtain ⟨a, b, c, e⟩ := sw_all (ds := r) fun x hx => h x (List.mem_cons_of_mem _ hx)
    have hd := h d List.mem_cons_self
    refine ⟨?_, ?_, ?_, ?_⟩
    · rw [PyData.showableAll, a, hd.sh]; rfl
    · rw [PyData.depthAll]; exact Nat.max_le.mpr ⟨hd.dp, b⟩
    · rw [PyData.shownAll, List.map_cons, List.sum_cons, List.length_cons, Nat.mul_succ]
      have := hd.ln
      omega
    · intro t ht
      rw [PyData.shownAll] at ht
      rcases List.mem_cons.mp ht with rfl | z
      · exact hd.ok
      · exact e t z
theorem sw_tup {n k : Nat} {ds : List PyData} (h : ∀ x ∈ ds, Sw n k x) : Sw ((n + 2) * ds.length + 3) (k + 1) (.tuple ds) := by
  obtain ⟨a, b, c, e⟩ := sw_all h
  refine ⟨by rw [PyData.showable]; exact a, by rw [PyData.depth]; omega, ?_, ?_⟩
  · rw [PyData.shown]
    exact Nat.le_trans (tup_le _) (by omega)
  · rw [PyData.shown]
    exact ok_tup e
theorem sw_lst {n k : Nat} {ds : List PyData} (h : ∀ x ∈ ds, Sw n k x) : Sw ((n + 2) * ds.length + 2) (k + 1) (.list ds) := by
  obtain ⟨a, b, c, e⟩ := sw_all h
  refine ⟨by rw [PyData.showable]; exact a, by rw [PyData.depth]; omega, ?_, ?_⟩
  · rw [PyData.shown]
    exact Nat.le_trans (list_le _) (by omega)
  · rw [PyData.shown]
    exact ok_list e
theorem log_nat {n : Nat} (h : n < 10 ^ 20) : (n : Nat).log2 < 1920 := by
  by_cases h0 : n = 0
  · rw [h0]; decide
  · exact Nat.lt_of_lt_of_le ((Nat.log2_lt h0).mpr (Nat.lt_of_lt_of_le h (show 10 ^ 20 ≤ 2 ^ 70 by decide))) (by decide)
theorem sw_int {i : Int} {n : Nat} (h : i.natAbs < 10 ^ 20) (hl : (PyData.shown (.int i)).length ≤ n) : Sw n 0 (.int i) := ⟨by simp only [PyData.showable, decide_eq_true_eq]; exact log_nat h, by simp [PyData.depth], hl, ok_of _⟩
theorem sw_bl (b : Bool) : Sw 5 0 (.bool b) := by cases b <;> exact ⟨rfl, by simp [PyData.depth], by decide +kernel, by decide +kernel⟩
theorem sw_non : Sw 4 0 .none := ⟨rfl, by simp [PyData.depth], by decide +kernel, by decide +kernel⟩
/-- two rows of two words as data -/
theorem shaped2 {a b : Str} (h1 : PyData.strOk a = true) (h2 : PyData.strOk b = true) : SeqAt.shaped (.list [.str a, .str b]) = true := by
  unfold SeqAt.shaped
  simp [PyData.canLay0, PyData.canLayAll0, h1, h2, PyData.depth, PyData.depthAll]
theorem shaped3 {a b : Str} {c : Bool} (h1 : PyData.strOk a = true) (h2 : PyData.strOk b = true) : SeqAt.shaped (.list [.str a, .str b, .bool c]) = true := by
  unfold SeqAt.shaped
  simp [PyData.canLay0, PyData.canLayAll0, h1, h2, PyData.depth, PyData.depthAll]
end SkT

/-! repr of any plain data, also behind a caught error; the types of plain data; slices of lists of counts -/
namespace RpA
open PySem L2 Gd
theorem ext_same {H H' : Hp} (s : Same H H') : LamX.ExtN H H' := fun b o e _ => s b o e
mutual
theorem dq_ext {H H' : Hp} (s : LamX.ExtN H H') : ∀ {v : V} {d : PyData}, Dq H v d → Dq H' v d
  | _, _, .non => .non
  | _, _, .bl b => .bl b
  | _, _, .int i => .int i
  | _, _, .str x => .str x
  | _, _, .lst ha hd => .lst (s _ _ ha (by intro ps z; cases z)) (dqa_ext s hd)
  | _, _, .tup ha hd => .tup (s _ _ ha (by intro ps z; cases z)) (dqa_ext s hd)
  | _, _, .dct ha => .dct (s _ _ ha (by intro ps z; cases z))
theorem dqa_ext {H H' : Hp} (s : LamX.ExtN H H') : ∀ {vs : List V} {ds : List PyData}, DqA H vs ds → DqA H' vs ds
  | _, _, .nil => .nil
  | _, _, .cons a b => .cons (dq_ext s a) (dqa_ext s b)
end
theorem dqa_app {H : Hp} : ∀ {vs ws : List V} {ds es : List PyData}, DqA H vs ds → DqA H ws es → DqA H (vs ++ ws) (ds ++ es)
  | _, _, _, _, .nil, b => b
  | _, _, _, _, .cons a t, b => .cons a (dqa_app t b)
theorem dqa_len {H : Hp} : ∀ {vs : List V} {ds : List PyData}, DqA H vs ds → vs.length = ds.length
  | _, _, .nil => rfl
  | _, _, .cons _ t => by rw [List.length_cons, List.length_cons, dqa_len t]
theorem dqa_mem {H : Hp} : ∀ {vs : List V} {ds : List PyData}, DqA H vs ds → ∀ x ∈ vs, ∃ d ∈ ds, Dq H x d
  | _, _, .nil, _, h => nomatch h
  | _, _, .cons a t, x, h => by
    rcases List.mem_cons.mp h with rfl | z
    · exact ⟨_, List.mem_cons_self, a⟩
    · obtain ⟨d, m, q⟩ := dqa_mem t x z
      exact ⟨d, List.mem_cons_of_mem _ m, q⟩
/-- the name of the type -/
def tyN : PyData → String
  | .none => "NoneType"
  | .bool _ => "bool"
  | .int _ => "int"
  | .str _ => "str"
  | .list _ => "list"
  | .tuple _ => "tuple"
  | .dict _ => "dict"
theorem dq_ty {K : PySem.W.Frag} {H : Hp} {v : V} {d : PyData} (q : Dq H v d) : TyX K H v (.type (tyN d)) := by
  cases q with
  | non => exact .base .non
  | bl b => exact .base (.bl b)
  | int i => exact .base (.int i)
  | str x => exact .base (.str x)
  | lst h _ => exact .base (.lst h)
  | tup h _ => exact .base (.tup h)
  | dct h => exact .base (.dK h)
/-- repr of such data -/
def rReprA : List V → Hp → VK → Prop := fun xs H Q => ∃ (v : V) (d : PyData) (n : Nat), xs = [v] ∧ Dq H v d ∧ SkT.Sw n 64 d ∧ n ≤ sizeLine ∧ Q (.str d.shown) H
theorem call_reprA {X : Cx} {ob : Obj} (hg : X.A.guards = some []) (hu : X.A.units + 66 < cLine) (sm : X.base.get? sysModules = some ob) : CallR X (.builtin "repr") rReprA := by
  intro pins s σ H xs us Q I r h
  obtain ⟨v, d, n, rfl, hd, hs, hn, q⟩ := h
  obtain ⟨u, rfl, ru⟩ := vals1 r
  have ref : ∀ a, v = .ref a → wpAny (model X.prog X.w) X.A (PySem.call (.builtin "repr") [u]) (fun u' s' => ∃ (v' : V) (H' : Hp), Inv X pins σ H' s' ∧ RelV v' u' ∧ Q v' H') X.xe s := fun a e => by
    subst e
    cases (show u = Value.ref a from ru)
    obtain ⟨as, h1, h2⟩ := hd.reads I (u := .ref a) rfl
    have no : sysModules ∉ as := fun hm => h2 _ hm (I.env0.bs _ _ sm).2
    have := hs.dp
    refine repr_of_reads' h1 hs.sh (fun _ => no) hg (by omega) (fun _ _ e => e) (fun h' u tk hk => ?_) (Nat.le_trans hs.ln hn)
    exact ⟨.str d.shown, H, I.kept (t' := tk) hk, ⟨_, rfl⟩, q⟩
  cases hd with
  | non =>
    cases ru
    exact PySem.P.repr_of_none ⟨.str _, H, I.tok _, ⟨_, rfl⟩, q⟩
  | bl b =>
    cases ru
    exact PySem.P.repr_of_bool ⟨.str _, H, I.tok _, ⟨_, rfl⟩, q⟩
  | int i =>
    obtain ⟨t, rfl⟩ := ru
    exact PySem.P.repr_of_int (by have := hs.sh; simpa [PyData.showable] using this) ⟨.str _, H, I.tok _, ⟨_, rfl⟩, q⟩
  | str x =>
    obtain ⟨t, rfl⟩ := ru
    exact PySem.P.repr_of_str ⟨.str _, H, I.tok _, ⟨_, rfl⟩, q⟩ (Nat.le_trans hs.ln hn)
  | lst ha hd => exact ref _ rfl
  | tup ha hd => exact ref _ rfl
  | dct ha => exact ref _ rfl
theorem sl_from {K : PySem.W.Frag} {Q : VK} {H : Hp} {l : Addr} {vs : List V} {n : Int} {k : Nat} (hl : H l = some (.lst vs)) (e : n = (k : Nat)) (h : ∀ z, H z = none → ∀ H', Same H H' → H' z = some (.lst (vs.drop k)) → Q (.ref z) H') : rSlL K (.ref l) (some n) none H Q := by
  refine ⟨l, vs, rfl, SqL.of hl, fun z nz => ?_⟩
  rw [e, Cm.cut_from]
  exact h z nz _ (fun b o q => by rw [upd_ne (ne_of_none q nz)]; exact q) upd_same
theorem sl_to {K : PySem.W.Frag} {Q : VK} {H : Hp} {l : Addr} {vs : List V} {n : Int} {k : Nat} (hl : H l = some (.lst vs)) (e : n = (k : Nat)) (hk : k ≤ vs.length) (h : ∀ z, H z = none → ∀ H', Same H H' → H' z = some (.lst (vs.take k)) → Q (.ref z) H') : rSlL K (.ref l) none (some n) H Q := by
  refine ⟨l, vs, rfl, SqL.of hl, fun z nz => ?_⟩
  rw [e, Cm.cut_to _ _ hk]
  exact h z nz _ (fun b o q => by rw [upd_ne (ne_of_none q nz)]; exact q) upd_same
theorem cat {Q : VK} {H : Hp} {p r : Addr} {xs ys : List V} (hp : H p = some (.lst xs)) (hr : H r = some (.lst ys)) (hl : xs.length + ys.length ≤ sizeLine) (k : ∀ z, H z = none → ∀ H', Same H H' → H' z = some (.lst (xs ++ ys)) → Q (.ref z) H') : rCat (.ref p) (.ref r) H Q :=
  ⟨p, r, xs, ys, rfl, rfl, hp, hr, hl, fun z nz => k z nz _ (fun b o q => by rw [upd_ne (ne_of_none q nz)]; exact q) upd_same⟩
end RpA

/-! try with several clauses `except C as n`, all of one name -/
namespace TryAs
open PySem PySem.Spec PyProof.Rows L2
/-- a clause: its class, and what its suite does -/
structure Cl where
  c : Value
  ts : Addr → Value → Option Addr → TS
/-- behind a suite the name is gone -/
def bare (i : Nat) (D : Ends) : Ends := ⟨fun σ H => D.nx (σ.set i none) H, D.rt, fun σ H => D.bk (σ.set i none) H, fun σ H => D.ct (σ.set i none) H⟩
def wish (K : PySem.W.Frag) (i : Nat) (out : WX) (D : Ends) : List Cl → WX
  | [] => out
  | k :: ks => fun cls d σ H => ∃ yes, PySem.W.exmOne K cls k.c = some yes ∧ cond yes (∀ e, H e = none → k.ts e cls d (bare i D) (σ.set i (some (.ref e))) H) (wish K i out D ks cls d σ H)
inductive Cls (X : Cx) (n : Str) : List ExceptHandler → List Cl → Prop
  | stop : Cls X n [] []
  | more {x : Str} {k : Cl} {st : Stmt} {sts : List Stmt} {p1 p2 : Pos} {hds : List ExceptHandler} {ks : List Cl} : Names X x k.c →
      (∀ (e : Addr) (o : Obj) (cls : Value) (d : Option Addr) (pn : List (Addr × Obj)), Zc cls d o → (∃ vs, o.data = .fields vs) → PSs (X.suite e ((e, o) :: pn)) (st :: sts) (k.ts e cls d)) → Cls X n hds ks →
      Cls X n (.ExceptHandler (some (.Name x p1)) (some n) (st :: sts) p2 :: hds) (k :: ks)
section
variable {X : Cx} {n : Str} {i : Nat} {out : WX} {D : Ends} {pins : List (Addr × Obj)} {σ : L2.St} {H : Hp} {sI : Shared} {B : Heap} {e : Addr} {cls : Value} {d : Option Addr}
/-- an error that has come down in X, sI is the state without it -/
structure Down (X : Cx) (pins : List (Addr × Obj)) (σ : L2.St) (H : Hp) (sI : Shared) (B : Heap) (e : Addr) (cls : Value) (d : Option Addr) (h : Heap) : Prop where
  J : Inv X pins σ H sI
  nb : ∀ b o, sI.heap.get? b = some o → b ∉ frs X.stack → B.get? b = some o
  up : sI.heap.UpToSlots h
  fl : HandSPX.FlyingZ B (X.env :: X.outer) e (Zc cls d) h
  na : H e = none
theorem Down.here {h : Heap} {s : Shared} (Z : Down X pins σ H sI B e cls d h) (os : s.os = sI.os) (ag : AllBare s.gens) : Inv X pins σ H { s with heap := h } := Z.J.landed Z.nb Z.fl.1 Z.up os ag
theorem Down.outside {h : Heap} (Z : Down X pins σ H sI B e cls d h) (hf : X.env.frame = some X.env.locals) : e ≠ X.env.locals ∧ e ∉ X.fs := by
  have no : e ∉ frs (X.env :: X.outer) := fun m => by
    obtain ⟨o1, vs, g1, _, f1⟩ := Z.fl.there
    obtain ⟨_, o2, g2, f2⟩ := Z.fl.2.2.1.mem m
    exact f2 vs ((congrArg Obj.data (Option.some.inj (g2.symm.trans g1))).trans f1)
  refine ⟨fun q => no ?_, fun q => no ?_⟩
  · exact q ▸ List.mem_filterMap.mpr ⟨X.env, List.mem_cons_self, hf⟩
  · obtain ⟨v, h1, h2⟩ := List.mem_filterMap.mp q
    exact List.mem_filterMap.mpr ⟨v, List.mem_cons_of_mem _ h1, h2⟩
/-- no clause has taken it: it goes on -/
theorem Down.on {h : Heap} {s : Shared} (Z : Down X pins σ H sI B e cls d h) (hs : X.stack = X.env :: X.outer) (hf : X.env.frame = some X.env.locals) (tk : Takes X out) (os : s.os = sI.os) (ag : AllBare s.gens) (w : out cls d σ H) :
    wpAny (model X.prog X.w) X.A (handleBy (.ref e) X.env []) (SP X pins D) X.xe { s with heap := h } := by
  refine wpAny_handleBy_nil ?_
  have last : wpAny (model X.prog X.w) X.A (setFlight (.ref e) X.env.frame) (fun _ t => wpAny (model X.prog X.w) X.A (throw (.ref e) : Sem Flow) (SP X pins D) X.xe t) X.xe { s with heap := h } := by
    rw [hf]
    exact HandSPX.setFlight_upZ Z.fl fun g held u => wpAny_throw (tk _ _ ⟨e, B, sI, pins, σ, H, cls, d, rfl, Z.J, Z.nb, Z.up.trans u, .inr (.inr (hs ▸ held)), Z.na, os, ag, w⟩)
  obtain ⟨_, _, _, o, vs, T, _, _, g1, _, g2, g3, _⟩ := id Z.fl
  unfold PySem.passOn
  refine wpAny_bind (wpAny_field g1 g2 g3 ?_)
  have ne : ¬ ((Value.ref T == Value.none) = true) := by simp
  rw [if_neg ne]
  first
    | exact wpAny_bind (wpAny_pure (wpAny_bind last))
    | exact wpAny_bind last
theorem Cls.run (hs : X.stack = X.env :: X.outer) (hf : X.env.frame = some X.env.locals) (nd : X.N.Nodup) (hi : X.N[i]? = some n) (ln : X.env.kindOf n = some .local) (tk : Takes X out) {h : Heap} {s : Shared} (Z : Down X pins σ H sI B e cls d h) (os : s.os = sI.os) (ag : AllBare s.gens) :
    ∀ {hds : List ExceptHandler} {ks : List Cl}, Cls X n hds ks → wish X.K i out D ks cls d σ H → wpAny (model X.prog X.w) X.A (handleBy (.ref e) X.env hds) (SP X pins D) X.xe { s with heap := h }
  | _, _, .stop, w => Z.on hs hf tk os ag w
  | _, _, .more (x := x) (k := k) (p1 := p1) (p2 := p2) nm ru re, w => by
    obtain ⟨yes, ex, w⟩ := w
    have I3 := Z.here os ag
    obtain ⟨n1, n2⟩ := Z.outside hf
    obtain ⟨o3, v3, g3, z3, f3⟩ := Z.fl.there
    have S3 := I3.suite g3 f3 Z.na n1 n2
    have ty : PySem.W.Looks (model X.prog X.w) h (typeOf (.ref e)) cls := fun _ _ _ _ kk q => wpAny_typeOf_ref (kk _ _ g3) (z3.1.symm ▸ q)
    have mt := PySem.W.exm_one (M := model X.prog X.w) I3.kIn ty ex
    have look : ∀ {Q E : Value → Shared → Prop}, Q k.c { s with heap := h } → wpAny (model X.prog X.w) (X.A.mark (some (.ref e))) (eval (.Name x p1) X.env) Q E { s with heap := h } := fun {Q E} q => by
      obtain ⟨gl, db, m1 | ⟨m1, m2, m3⟩⟩ := nm
      · exact ld_glob (X := X.suite e ((e, o3) :: (X.pn ++ pins))) S3 gl m1 q db
      · exact ld_blt (X := X.suite e ((e, o3) :: (X.pn ++ pins))) S3 gl m1 m2 q m3 db
    refine wpAny_handleBy_cons (codeAny_handlers_test (look (mt.here ?_))) fun q => nomatch q
    cases yes with
    | false => exact Cls.run hs hf nd hi ln tk Z os ag re w
    | true =>
      refine codeAny_handlers_suite_as (HandSPX.lands_againZ Z.fl fun g fl u => ?_)
      have Z4 : Down X pins σ H sI B e cls d g := ⟨Z.J, Z.nb, Z.up.trans u, fl, Z.na⟩
      have I4 := Z4.here os ag
      obtain ⟨o4, v4, g4, z4, f4⟩ := fl.there
      refine store_ok (X := X.suite e ((e, o4) :: (X.pn ++ pins))) (v := .ref e) (I4.suite g4 f4 Z.na n1 n2) nd hi (.inl ln) rfl (fun s5 S5 => ?_) (.inr ln)
      have run5 := (ru e o4 cls d (X.pn ++ pins) z4 ⟨v4, f4⟩).run [] s5 _ H (bare i D) S5 (w e Z.na)
      refine wpAny_mono run5 (fun fw s6 r6 => ?_) fun _ _ z => z.elim
      have gone : ∀ {σ6 : L2.St} {H6 : Hp} {q : Addr × Obj} {Q : Shared → Prop}, Inv (X.suite e (q :: (X.pn ++ pins))) [] σ6 H6 s6 → (∀ s7, Inv X pins (σ6.set i none) H6 s7 → Q s7) → wpAny (model X.prog X.w) X.A (do bindName X.env n .none; unbindBehindTheSuite X.env n p2) (fun _ s7 => Q s7) X.xe s6 :=
        fun S6 k => gone_ok (S6.unsuite Z.J.ok) nd hi ln k
      match fw, r6 with
      | .next, ⟨σ6, H6, S6, k6⟩ => exact gone S6 fun s7 I7 => ⟨_, _, I7, k6⟩
      | .brk, ⟨σ6, H6, S6, k6⟩ => exact gone S6 fun s7 I7 => ⟨_, _, I7, k6⟩
      | .cont, ⟨σ6, H6, S6, k6⟩ => exact gone S6 fun s7 I7 => ⟨_, _, I7, k6⟩
      | .ret v, ⟨v6, σ6, H6, S6, rv, k6⟩ => exact gone S6 fun s7 I7 => ⟨_, _, _, I7, rv, k6⟩
variable {body : List Stmt} {hd : ExceptHandler} {hds : List ExceptHandler} {ks : List Cl} {pos : Pos} {tb : WX → TS}
/-- the rule -/
theorem ps_try_asN (hs : X.stack = X.env :: X.outer) (hf : X.env.frame = some X.env.locals) (nd : X.N.Nodup) (hi : X.N[i]? = some n) (ln : X.env.kindOf n = some .local) (tk : Takes X out)
    (hb : ∀ (W : WX) (pn : List (Addr × Obj)) (xe : Value → Shared → Prop), Takes (X.tr pn xe) W → PassesOwn (model X.prog X.w) X.A X.env xe → PSs (X.tr pn xe) body (tb W)) (hh : Cls X n (hd :: hds) ks) :
    PS X (.Try body (hd :: hds) [] [] pos) fun D σ H => tb (wish X.K i out D ks) D σ H := by
  refine ⟨fun pins s σ H D I h => wpAny_Try_except ?_⟩
  have fr : X.A.frames = some (X.env :: X.outer) := I.ok.frames.trans (congrArg some hs)
  refine wpAny_mono ((hb _ (X.pn ++ pins) _ ?_ PassesOwn.looking).run [] s σ H D (I.toTry _) h) (fun fw t r => ?_) fun _ _ z => z
  · rintro _ t ⟨e, B, sI, _, σ1, H1, cls, d, rfl, J, nb, up, sky, na, os, ag, w⟩
    refine Sky.land Zc.steady fr hf (hs ▸ sky) fun g fl u => ?_
    exact Cls.run hs hf nd hi ln tk ⟨J.ofTry I.ok, nb, up.trans u, fl, na⟩ os ag hh w
  · match fw, r with
    | .next, ⟨_, _, J, q⟩ => exact wpAny_execs_nil ⟨_, _, J.ofTry I.ok, q⟩
    | .brk, ⟨_, _, J, q⟩ => exact ⟨_, _, J.ofTry I.ok, q⟩
    | .cont, ⟨_, _, J, q⟩ => exact ⟨_, _, J.ofTry I.ok, q⟩
    | .ret v, ⟨_, _, _, J, rv, q⟩ => exact ⟨_, _, _, J.ofTry I.ok, rv, q⟩
end
end TryAs

namespace IsX
open PySem L2
/-! ### isinstance of a caught error that bears a field -/
structure XiC (K : PySem.W.Frag) (D : Addr) : Prop where
  xf : XfC K D
  ic : (PySem.W.clsIn K D).isSome = true
  c1 : PySem.W.findIn K (.ref D) "__class__" = some (some (.builtin "object.__class__"))
  c2 : PySem.W.specialIn K (.builtin "object.__class__") "__get__" = some (some (.builtin "getset_descriptor.__get__"))
  c3 : PySem.W.takesIn K (.builtin "object.__class__") = some true
  c4 : PySem.W.mroIn K D (.type "object") = some true
def rIsX (K : PySem.W.Frag) (D a : Addr) (cls : Value) (d : Option Addr) : List V → Hp → VK → Prop := fun xs H Q => ∃ (c : V) (cv : Value) (b : Bool) (dd : Addr) (fs : List (Str × V)), xs = [.ref a, c] ∧ (∀ u, RelV c u → u = cv) ∧ cls = .ref D ∧ d = some dd ∧ H dd = some (.xd fs) ∧ PySem.W.kitOne K (.ref D) cv = some b ∧ Q (.bl b) H
theorem call_isX {X : Cx} {a D : Addr} {oe : Obj} {cls : Value} {d : Option Addr} {pn : List (Addr × Obj)} (C : XiC X.K D) (hz : Zc cls d oe) (hf : ∃ vs, oe.data = .fields vs) : CallR (X.suite a ((a, oe) :: pn)) (.builtin "isinstance") (rIsX X.K D a cls d) := by
  intro pins s σ H xs us Q I r h
  obtain ⟨c, cv, b, dd, fs, rfl, hcv, rfl, rfl, hdd, e, q⟩ := h
  cases r with
  | cons rx rr =>
    cases rr with
    | cons rt rr =>
      cases rr
      cases rx
      cases hcv _ rt
      obtain ⟨hget, _⟩ := I.pin (a, oe) (List.mem_append.mpr (.inl List.mem_cons_self))
      obtain ⟨vs, hv⟩ := hf
      have hx : ObjOk X.prog X.w H s.heap dd (.xd fs) := I.hok dd _ hdd
      obtain ⟨mA, hns, _⟩ := hx
      obtain ⟨od, ho, _⟩ := lookIn_ns hns
      have J : PySem.W.InstAt s.heap a oe D (some od) := ⟨hget, hz.1, by unfold PySem.W.notCls; rw [hv] <;> rfl, by rw [hz.2]; exact ho⟩
      exact PySem.W.kia_one (PySem.W.kitx_exc (gt := none) C.ic C.xf.ga C.xf.gg C.xf.exC C.c1 C.c2 C.c3 C.c4) I.kIn J e (fun z => nomatch z) fun tk => ⟨.bl b, H, I.kept (t' := tk) fun _ _ z => z, rfl, q⟩
/-- the slots are as many as the names -/
theorem takes_len {X : Cx} {W : WX} (tk : Takes X W) : Takes X (fun cls d σ H => σ.length = X.N.length → W cls d σ H) := fun u s2 ⟨a, B, sI, pins, σ, H, cls, d, e, I, nb, up, sky, na, os, ag, h⟩ =>
  tk u s2 ⟨a, B, sI, pins, σ, H, cls, d, e, I, nb, up, sky, na, os, ag, h I.len⟩
theorem len3 {σ : St} (h : σ.length = 3) : ∃ a b c, σ = [a, b, c] := by
  match σ, h with
  | [a, b, c], _ => exact ⟨a, b, c, rfl⟩
end IsX

/-! sum of a tuple of ints, a tuple times any count, xs += ys of lists -/
namespace RwR
open PySem PySem.Spec PyProof.Rows L2 Cm
section
variable {prog : Program} {w : World} {A : Around} {E : Value → Shared → Prop} {s : Shared} {l : Addr} {xs : Array (Int × Tok)}
theorem sum_intTupG {Q : Value → Shared → Prop} (hh : A.handled = none) (hl : s.heap.IsTuple l (intItems xs))
    (h : ∀ h' tk t', (∀ b o, s.heap.get? b = some o → h'.get? b = some o) → Q (.int (preSum (numAt xs) xs.size) t') { s with heap := h', toks := tk }) :
    wpAny (model prog w) A (call (.builtin "sum") [.ref l]) Q E s := by
  have hlt : l < s.heap.objs.size := by obtain ⟨_, e, _⟩ := hl; exact Heap.lt_size e
  refine call_sum_walkG (wpAny_pyIter_tuple hl ?_)
  refine ⟨_, [_, l], [_], _, _, _, numAt xs, rfl, Walks.tuple (A := A.in1) hh _ l (Nat.ne_of_lt hlt) (intItems xs), ⟨⟨_, Heap.get?_push_size _ rfl, rfl, rfl⟩, hl.push _⟩, fun c hc => ?_, (fun _ _ => intItems_at), fun h' tk t' hk => ?_⟩
  · show c < (s.heap.push _).objs.size
    rw [Heap.size_push]
    rcases List.mem_cons.mp hc with rfl | hc
    · exact Nat.lt_succ_self _
    · rcases List.mem_cons.mp hc with rfl | hc
      · exact Nat.lt_succ_of_lt hlt
      · cases hc
  · have hold : ∀ b o, s.heap.get? b = some o → h'.get? b = some o := fun b o e => by
      refine hk b o (fun hm => ?_) (Heap.get?_push_of_some _ e)
      rcases List.mem_cons.mp hm with e1 | hm
      · exact absurd (e1 ▸ Heap.lt_size e) (Nat.lt_irrefl _)
      · cases hm
    have := h h' tk t' hold
    simpa [intItems] using this
end
section
variable {X : Cx}
/-- sum(t) -/
def rSumT (K : PySem.W.Frag) : List V → Hp → VK → Prop := fun vs H Q => ∃ (a : Addr) (ns : List Int), vs = [V.ref a] ∧ SqT K H a (ns.map V.int) ∧ Q (.int ns.sum) H
theorem cr_sumT (hc : X.calm = true) : CallR X (.builtin "sum") (rSumT X.K) := by
  intro pins s σ H vs us Q I r h
  obtain ⟨a, ns, rfl, hs, q⟩ := h
  obtain ⟨its, rv, hl, _⟩ := I.tuple hs
  rw [Vals.ref1 r]
  have hi := rv.ints
  obtain ⟨xs, e⟩ := hi.allInts.items
  have hn : numsOf (intItems xs).toList = ns := by rw [← e]; exact hi.numsOf
  rw [nums_intItems] at hn
  rw [e] at hl
  refine sum_intTupG (I.ok.hd hc) hl fun h' tk t' hk => ?_
  rw [preSum_eq, List.take_of_length_le (by simp), hn]
  exact ⟨.int _, H, I.kept hk, ⟨_, rfl⟩, q⟩
/-- xs += ys -/
def rIadd : V → V → Hp → VK → Prop := fun x y H Q => ∃ l b xs zs, x = .ref l ∧ y = .ref b ∧ H l = some (.lst xs) ∧ H b = some (.lst zs) ∧ xs.length + zs.length ≤ sizeLine ∧ Q (.ref l) (upd H l (.lst (xs ++ zs)))
theorem ip_iadd : PIp X .Add rIadd := by
  intro pins s σ H x y v u Q I rx ry h
  obtain ⟨l, b, xs, zs, rfl, rfl, hH, hB, hz, q⟩ := h
  cases rx
  cases ry
  obtain ⟨z, its, n, r, hl, e⟩ := I.lstM hH
  obtain ⟨z2, its2, n2, r2, hl2, e2⟩ := I.lstM hB
  have hsz : its.toArray.size + its2.toArray.size ≤ sizeLine := by rw [List.size_toArray, List.size_toArray]; omega
  have hlong : ¬ (!its.toArray.isEmpty && Builtin.List.listTooLong (its.toArray.size + its2.toArray.size)) = true := by
    rw [notLongL hsz, Bool.and_false]
    exact Bool.false_ne_true
  have ta : s.TypeIs (.ref l) "list" := ⟨_, e, rfl⟩
  have tb : s.TypeIs (.ref b) "list" := ⟨_, e2, rfl⟩
  have hseq : isSeqSlot (some (.builtin "list.__iadd__")) = true := by decide +kernel
  have hfi : fillsInplaceSlot (.type "list") "add" (Operator.Add == .Add) = pure false := by
    unfold fillsInplaceSlot
    show (typeLookup (.type "list") (dunderI "add") >>= fun fi => pure (fi.isSome && !isSeqSlot fi)) = pure false
    rw [PySem.F.slot_list_iadd.lookup]
    show (pure (true && !isSeqSlot (some (.builtin "list.__iadd__"))) : Sem Bool) = pure false
    rw [hseq]
    rfl
  unfold inplaceOp
  refine wpAny_holding ?_
  refine wpAny_bind (wpAny_typeOf ta (wpAny_bind (wpAny_of_eq hfi ?_)))
  show wpAny _ _ (if false = true then _ else _) _ _ s
  rw [if_neg Bool.false_ne_true]
  refine wpAny_bind (PyProof.Rows.binaryOp1_none (nm := "add") ta tb PySem.noFill_list_add ?_)
  refine wpAny_bind (wpAny_of_eq (PySem.seqSlot_of (T := "list") (name := dunderI "add") (id := "list.__iadd__") PySem.F.slot_list_iadd.lookup hseq) ?_)
  refine wpAny_bind (wpAny_rule (call_meets PySem.F.slot_list_iadd ta PySem.F.entry_list_iadd (PySem.F.args_list_iadd_2 _ _)
    (AutoSeq1.list___iadd___list_list_0 l its.toArray n b its2.toArray n2 hlong (by rw [List.size_toArray]; omega) (by omega)) ⟨e, e2, ?_⟩))
  refine ⟨.ref l, _, I.lset (its' := its ++ its2) hH e (by simp) (r.append r2) ?_, rfl, q⟩
  rw [List.length_append]
  omega
/-- a tuple times any count -/
theorem tuple_mul_same (l : Addr) (items : Array Value) (n : Nat) (dd : Option Addr) (sl : Array (Option Value)) (x : Int) (u : Tok) (c0 : (decide (x < -(2 ^ 63)) || decide (x ≥ 2 ^ 63)) = false) (c1 : (items.isEmpty || x == 1) = true) :
    Meets (Builtin.«tuple.__mul__» ⟨[.ref l, .int x u], []⟩) (fun _ R s => s.heap.get? l = some { cls := .type "tuple", dict := dd, data := .seq items n, slots := sl } ∧ R (.ok (.ret (Value.ref l))) s) :=
  .of_wp fun prog w A R s h => by
    obtain ⟨hp, g, d, tk, os⟩ := s
    obtain ⟨hl, h⟩ := h
    have f1 := AutoSeq1.idx_int
    wp_walk using wpAny_loadPart' hl
    repeat (first
      | (refine wpAny_ite_false (decide_eq_false (by rw [c0]; exact Bool.false_ne_true)) ?_; wp_walk using wpAny_loadPart' hl)
      | (refine wpAny_ite_true (decide_eq_true c1) ?_; wp_walk using wpAny_loadPart' hl))
    exact ⟨_, rfl, h⟩
theorem tuple_mul_none (l : Addr) (items : Array Value) (n : Nat) (dd : Option Addr) (sl : Array (Option Value)) (x : Int) (u : Tok) (c0 : (decide (x < -(2 ^ 63)) || decide (x ≥ 2 ^ 63)) = false) (c1 : (items.isEmpty || x == 1) = false) (c2 : (decide (x ≤ 0) || items.isEmpty) = true) :
    Meets (Builtin.«tuple.__mul__» ⟨[.ref l, .int x u], []⟩) (fun _ R s => s.heap.get? l = some { cls := .type "tuple", dict := dd, data := .seq items n, slots := sl } ∧
      R (.ok (.ret (Value.ref s.heap.objs.size))) { s with heap := s.heap.push { cls := Value.type "tuple", data := Data.seq #[] }, toks := s.toks }) :=
  .of_wp fun prog w A R s h => by
    obtain ⟨hp, g, d, tk, os⟩ := s
    obtain ⟨hl, h⟩ := h
    have f1 := AutoSeq1.idx_int
    wp_walk using wpAny_loadPart' hl
    repeat (first
      | (refine wpAny_ite_false (decide_eq_false (by rw [c0]; exact Bool.false_ne_true)) ?_; wp_walk using wpAny_loadPart' hl)
      | (refine wpAny_ite_false (decide_eq_false (by rw [c1]; exact Bool.false_ne_true)) ?_; wp_walk using wpAny_loadPart' hl)
      | (refine wpAny_ite_true (decide_eq_true c2) ?_; wp_walk using wpAny_loadPart' hl)
      | (refine wpAny_ite_false (decide_eq_false (by decide)) ?_; wp_walk using wpAny_loadPart' hl))
    exact ⟨_, rfl, h⟩
def rRepN : R2 := fun x y H Q => ∃ (l : Addr) (k : Nat) (xs : List V), x = .ref l ∧ y = .int k ∧ H l = some (.tup xs) ∧ k < 2 ^ 62 ∧ xs.length ≤ 1000 ∧ (xs ≠ [] → k ≤ 1000) ∧ ∀ (H' : Hp) (q : Addr), Same H H' → H' q = some (.tup (List.replicate k xs).flatten) → Q (.ref q) H'
theorem flat_nil : ∀ k, (List.replicate k ([] : List V)).flatten = []
  | 0 => rfl
  | k + 1 => by rw [List.replicate_succ, List.flatten_cons, flat_nil k]; rfl
theorem op_repN : OpR X (binaryOp .Mult) rRepN := by
  intro pins s σ H x y v u Q I rx ry h
  obtain ⟨l, k, xs, rfl, rfl, hT, hk, hx, hl, q⟩ := h
  by_cases hne : xs ≠ [] ∧ 2 ≤ k
  · refine op_repT pins s σ H _ _ v u Q I rx ry ⟨l, k, xs, rfl, rfl, SqT.of hT, hne.1, by omega, by have := hl hne.1; omega, hx, fun p np => ?_⟩
    rw [Int.toNat_natCast]
    exact q _ p (same_new np) upd_same
  cases rx
  obtain ⟨t, rfl⟩ := ry
  obtain ⟨its, r, ⟨⟨cls, dd, data, sl⟩, ho, hc, n, hd⟩, hs⟩ := I.tuple (SqT.of hT)
  simp only at hc hd
  subst hc hd
  have hle : its.length = xs.length := r.length.symm
  have c0 : (decide ((k : Int) < -(2 ^ 63)) || decide ((k : Int) ≥ 2 ^ 63)) = false := by
    rw [decide_eq_false (by omega), decide_eq_false (by omega)]
    rfl
  by_cases hs1 : xs = [] ∨ k = 1
  · have c1 : (its.toArray.isEmpty || (k : Int) == 1) = true := by
      rcases hs1 with e | e
      · have : its = [] := List.eq_nil_of_length_eq_zero (by rw [hle, e]; rfl)
        rw [this]
        rfl
      · rw [e]
        simp
    refine wpAny_binaryOp_repeat_ref (T := "tuple") (U := "int") (by decide) ⟨_, ho, rfl⟩ (fun s' => typeIs_int s' k t) noFill_tuple_mul F.fills_int_mul F.slot_int_rmul repeat_tuple F.slot_int_index.lookup
      (call_meets F.slot_int_rmul (typeIs_int s k t) F.entry_int_rmul (F.args_int_rmul_2 _ _) (int_rmul_tuple k t l its.toArray n dd sl)
        ⟨ho, rfl, ⟨_, ho, rfl⟩, call_meets F.slot_tuple_mul ⟨_, ho, rfl⟩ F.entry_tuple_mul (F.args_tuple_mul_2 _ _) (tuple_mul_same l its.toArray n dd sl k t c0 c1) ⟨ho, ?_⟩⟩)
    refine ⟨.ref l, H, I, rfl, q H l (Same.refl _) ?_⟩
    rw [hT]
    rcases hs1 with e | e
    · rw [e, flat_nil]
    · rw [e]
      simp
  · have hx0 : xs ≠ [] := fun e => hs1 (.inl e)
    have k0 : k = 0 := by
      have : ¬ 2 ≤ k := fun e => hne ⟨hx0, e⟩
      have : k ≠ 1 := fun e => hs1 (.inr e)
      omega
    subst k0
    have hi : its.toArray.isEmpty = false := by
      cases its with
      | nil => exact absurd (List.eq_nil_of_length_eq_zero hle.symm) hx0
      | cons a b => rfl
    refine wpAny_binaryOp_repeat_ref (T := "tuple") (U := "int") (by decide) ⟨_, ho, rfl⟩ (fun s' => typeIs_int s' _ t) noFill_tuple_mul F.fills_int_mul F.slot_int_rmul repeat_tuple F.slot_int_index.lookup
      (call_meets F.slot_int_rmul (typeIs_int s _ t) F.entry_int_rmul (F.args_int_rmul_2 _ _) (int_rmul_tuple _ t l its.toArray n dd sl)
        ⟨ho, rfl, ⟨_, ho, rfl⟩, call_meets F.slot_tuple_mul ⟨_, ho, rfl⟩ F.entry_tuple_mul (F.args_tuple_mul_2 _ _) (tuple_mul_none l its.toArray n dd sl _ t c0 (by rw [hi]; rfl) rfl) ⟨ho, ?_⟩⟩)
    refine ⟨.ref s.heap.objs.size, _, I.laid (t' := s.toks) (o := .tup []) (fun b ob q => Heap.get?_push_of_some _ q) (Nat.le_refl _) ?_, rfl, q _ _ (same_new (I.hok.fresh (Nat.le_refl _))) upd_same⟩
    exact ⟨Nat.zero_le _, [], .nil, IsTup.new _ _⟩
end
end RwR
namespace RwR
open PySem PySem.Spec PyProof.Rows L2
section
variable {X : Cx} {d : Addr} {es : Array DictEntry} {n : Nat}
/-- d[key] of a dict of the module -/
theorem ix_kd (D : KDict X.K X.w d es n) : IxR X (fun x y H Q => ∃ (z : Str) (u0 : Value) (v0 : V), x = .ref d ∧ y = .str z ∧ PySem.W.nsIn X.K d z = some (some u0) ∧ RelV v0 u0 ∧ Q v0 H) := by
  intro value slice pins s σ H x y v u Q I rx ry h hs
  obtain ⟨z, u0, v0, rfl, rfl, e, r, q⟩ := h
  cases rx
  obtain ⟨t, rfl⟩ := ry
  refine tail_any (kd_type D I) PySem.F.slot_dict_getitem.lookup ?_ hs
  exact wpAny_getItem_of (PySem.strKind_is X.prog X.w z t) (PySem.W.mapOf_K (prog := X.prog) I.kIn D.at_ D.lit) (PySem.W.find_K D.at_ e) ⟨v0, H, I.tok _, r, q⟩
end
end RwR
namespace RwR
open PySem PySem.Spec PyProof.Rows L2
/-- a call of a local name that holds one of several defs of one row of parameters -/
def tCallI {ι : Type} (i : Nat) (fs : ι → Addr) (sps : ι → Sp) (E : XK) (t : TA) : TE := fun σ H Q => ∃ a : ι, σ[i]? = some (some (.ref (fs a))) ∧ t σ H fun vs H1 => sps a vs H1 Q E
theorem pe_callI {X : Cx} {ι : Type} {CX : CXT} {k i : Nat} {fs : ι → Addr} {fds : ι → FuncData} {ps : List Str} {sps : ι → Sp} {E : XK} {x : Str} {p pos : Pos} {e : Expr} {es : List Expr} {t : TA}
    (F : ∀ a, FnOk X.prog X.w X.K X.mg X.base CX k (fs a) (fds a) ps (sps a)) (hr : Room k X.A) (hN : X.N[i]? = some x) (hv : Vis X.env.scope x) (hk : ∀ a, PySem.W.keepIn X.K (.ref (fs a)) = true) (hb : ∀ a, Binds X.K (fds a) ps []) (hx : Passes CX X E) (ha : PA X (e :: es) t)
    (hdb : (x == ("__debug__" : Str)) = false := by decide) (hcd : (x == ("__classdict__" : Str)) = false := by decide)
    (he : starEach (e :: es) X.env = (false, eval e X.env) :: starEach es X.env := by rfl) (hpl : (backTo pos (starEach es X.env)).any (·.1) = false := by rfl) : PE X (.Call (.Name x p) (e :: es) [] pos) (tCallI i fs sps E t) := by
  refine ⟨fun pins s σ H Q I h => ?_⟩
  obtain ⟨a, hs, ht⟩ := h
  refine (pe_callL (i := i) (f := fs a) (sp := sps a) (dvs := []) (E := E) (F a) hr hN hv (hk a) (hb a) .nil hx ha hdb hcd he hpl).run pins s σ H Q I ⟨hs, ?_⟩
  have e0 : (fun (vs : List V) (H1 : Hp) => sps a (vs ++ []) H1 Q E) = fun vs H1 => sps a vs H1 Q E := by
    funext vs H1
    rw [List.append_nil]
  rw [e0]
  exact ht
end RwR

/-! how great counts are shown -/
namespace SH
open PySem L2
theorem log_nat {n : Nat} (h : n < 10 ^ 20) : (n : Nat).log2 < 1920 := by
  by_cases h0 : n = 0
  · rw [h0]; decide
  · exact Nat.lt_of_lt_of_le ((Nat.log2_lt h0).mpr (Nat.lt_of_lt_of_le h (show 10 ^ 20 ≤ 2 ^ 70 by decide))) (by decide)
theorem num_le {n : Nat} (h : n < 10 ^ 20) : (PyData.shown (.int (n : Int))).length ≤ 20 := by
  show (Str.ofString (toString ((n : Nat) : Int))).length ≤ 20
  rw [TL.len_tl, TL.tl_num]
  exact TL.numL_len (by decide) h
def pairD (a b : Nat) : PyData := .tuple [.int a, .int b]
theorem join_le : ∀ ts : List Str, (Str.join ", " ts).length ≤ (ts.map fun t => t.length + 2).sum
  | [] => Nat.le_refl _
  | [x] => by
    show x.length ≤ _
    simp
  | x :: y :: r => by
    show (x ++ ", " ++ Str.join ", " (y :: r)).length ≤ _
    rw [strLen_append, strLen_append, show (", " : Str).length = 2 by decide +kernel]
    have := join_le (y :: r)
    rw [List.map_cons, List.sum_cons]
    omega
theorem tup_le (ts : List Str) : (tupleText ts).length ≤ (ts.map fun t => t.length + 2).sum + 3 := by
  unfold tupleText
  rw [strLen_append, strLen_append, show ("(" : Str).length = 1 by decide +kernel]
  have := join_le ts
  have : (Str.ofString (if ts.length == 1 then ",)" else ")" : String)).length ≤ 2 := by
    split
    · decide +kernel
    · decide +kernel
  omega
theorem pair_ok {a b : Nat} (ha : a < 10 ^ 20) (hb : b < 10 ^ 20) : (pairD a b).showable = true ∧ (pairD a b).depth ≤ 64 ∧ (pairD a b).shown.length ≤ sizeLine := by
  refine ⟨?_, ?_, ?_⟩
  · simp only [pairD, PyData.showable, PyData.showableAll, Bool.and_true, Bool.and_eq_true, decide_eq_true_eq]
    exact ⟨by rw [Int.natAbs_natCast]; exact log_nat ha, by rw [Int.natAbs_natCast]; exact log_nat hb⟩
  · simp [pairD, PyData.depth, PyData.depthAll]
  · unfold pairD
    rw [PyData.shown]
    have := tup_le (PyData.shownAll [.int (a : Int), .int (b : Int)])
    have h1 := num_le ha
    have h2 := num_le hb
    simp only [PyData.shownAll, List.map_cons, List.map_nil, List.sum_cons, List.sum_nil] at this
    refine Nat.le_trans this (Nat.le_trans (show _ ≤ 100 by omega) (by decide))
end SH
namespace SH
open PySem L2
def tripD (a b c : Nat) : PyData := .list [.int a, .int b, .int c]
theorem from_le : ∀ (ts : List Str) (k : Nat) (acc : Str), (textFrom k acc ts).length ≤ acc.length + (ts.map fun t => t.length + 2).sum
  | [], _, _ => by simp [textFrom]
  | t :: r, k, acc => by
    rw [textFrom]
    have ih := from_le r (k + 1) (acc ++ (if k > 0 then ", " else "" : String) ++ t)
    rw [strLen_append, strLen_append] at ih
    have : (Str.ofString (if k > 0 then ", " else "" : String)).length ≤ 2 := by
      split
      · decide +kernel
      · decide +kernel
    rw [List.map_cons, List.sum_cons]
    omega
theorem list_le (ts : List Str) : (listText ts).length ≤ (ts.map fun t => t.length + 2).sum + 2 := by
  unfold listText
  rw [strLen_append, show ("]" : Str).length = 1 by decide +kernel]
  have := from_le ts 0 "["
  rw [show ("[" : Str).length = 1 by decide +kernel] at this
  omega
theorem trip_ok {a b c : Nat} (ha : a < 10 ^ 20) (hb : b < 10 ^ 20) (hc : c < 10 ^ 20) : (tripD a b c).showable = true ∧ (tripD a b c).depth ≤ 64 ∧ (tripD a b c).shown.length ≤ sizeLine := by
  refine ⟨?_, ?_, ?_⟩
  · simp only [tripD, PyData.showable, PyData.showableAll, Bool.and_true, Bool.and_eq_true, decide_eq_true_eq]
    exact ⟨by rw [Int.natAbs_natCast]; exact log_nat ha, by rw [Int.natAbs_natCast]; exact log_nat hb, by rw [Int.natAbs_natCast]; exact log_nat hc⟩
  · simp [tripD, PyData.depth, PyData.depthAll]
  · unfold tripD
    rw [PyData.shown]
    have := list_le (PyData.shownAll [.int (a : Int), .int (b : Int), .int (c : Int)])
    have h1 := num_le ha
    have h2 := num_le hb
    have h3 := num_le hc
    simp only [PyData.shownAll, List.map_cons, List.map_nil, List.sum_cons, List.sum_nil] at this
    refine Nat.le_trans this (Nat.le_trans (show _ ≤ 200 by omega) (by decide))
end SH

/-! lists of rows that a law gathers, and the heap without one place -/
namespace Sn
open PySem L2 Gd RpA SkT
/-! ### the heap without what stands at j -/
def Hj (j : Addr) (H : Hp) : Hp := fun b => if b = j then none else H b
theorem hj_at {j a : Addr} {H : Hp} {o : HO} (n : a ≠ j) (h : H a = some o) : Hj j H a = some o := by
  unfold Hj
  rw [if_neg n]
  exact h
theorem hj_of {j a : Addr} {H : Hp} {o : HO} (h : Hj j H a = some o) : a ≠ j ∧ H a = some o := by
  unfold Hj at h
  split at h
  · cases h
  · exact ⟨by assumption, h⟩
theorem hj_off {j : Addr} {H H' : Hp} (f : ∀ b o, b ≠ j → H b = some o → H' b = some o) : Same (Hj j H) (Hj j H') := fun b o h => by
  obtain ⟨n, e⟩ := hj_of h
  exact hj_at n (f b o n e)
theorem hj_same {j : Addr} {H H' : Hp} (s : Same H H') : Same (Hj j H) (Hj j H') := hj_off fun b o _ e => s b o e
theorem hj_up {j : Addr} {H : Hp} : Same (Hj j H) H := fun b o h => (hj_of h).2
/-! ### rows -/
inductive Rows (H : Hp) : List V → List (List V) → Prop
  | nil : Rows H [] []
  | cons {q : Addr} {r : List V} {xs : List V} {rs : List (List V)} (h : H q = some (.lst r)) (t : Rows H xs rs) : Rows H (.ref q :: xs) (r :: rs)
theorem Rows.ext {H H' : Hp} (s : LamX.ExtN H H') : ∀ {xs rs}, Rows H xs rs → Rows H' xs rs
  | _, _, .nil => .nil
  | _, _, .cons h t => .cons (s _ _ h (by intro ps z; cases z)) (t.ext s)
theorem Rows.len {H : Hp} : ∀ {xs rs}, Rows H xs rs → xs.length = rs.length
  | _, _, .nil => rfl
  | _, _, .cons _ t => congrArg (· + 1) t.len
theorem Rows.snoc {H : Hp} {q : Addr} {r : List V} (h : H q = some (.lst r)) : ∀ {xs rs}, Rows H xs rs → Rows H (xs ++ [.ref q]) (rs ++ [r])
  | _, _, .nil => .cons h .nil
  | _, _, .cons a t => .cons a (t.snoc h)
theorem Rows.app {H : Hp} : ∀ {xs ys rs ss}, Rows H xs rs → Rows H ys ss → Rows H (xs ++ ys) (rs ++ ss)
  | _, _, _, _, .nil, b => b
  | _, _, _, _, .cons a t, b => .cons a (t.app b)
/-- a row begins with a word -/
def Wd (r : List V) : Prop := ∃ (s : Str) (t : List V), r = .str s :: t
theorem Rows.ne {H : Hp} {D q : Addr} {acc r : List V} {as : List (List V)} (hD : H D = some (.lst acc)) (ha : Rows H acc as) (w : Wd r) (h : H q = some (.lst r)) : q ≠ D := fun z => by
  obtain ⟨s, t, rfl⟩ := w
  rw [z, hD] at h
  cases ha <;> cases h
theorem Rows.put {H : Hp} {D : Addr} {acc ys : List V} {as : List (List V)} (hD : H D = some (.lst acc)) (ha : Rows H acc as) : ∀ {xs rs}, (∀ r ∈ rs, Wd r) → Rows H xs rs → Rows (upd H D (.lst ys)) xs rs
  | _, _, _, .nil => .nil
  | _, _, w, .cons h t => .cons (by rw [upd_ne (Rows.ne hD ha (w _ List.mem_cons_self) h)]; exact h) (Rows.put hD ha (fun r hr => w r (List.mem_cons_of_mem _ hr)) t)
theorem tabs_put {T : List (Addr × Str)} {H : Hp} {q : Addr} {ys zs : List V} (hq : H q = some (.lst ys)) (h : LamX.Tabs T H) : LamX.Tabs T (upd H q (.lst zs)) := fun p hp => by
  obtain ⟨ps, a1, a2, a3⟩ := h p hp
  refine ⟨ps, by rw [upd_ne (ne_of a1 hq (by intro z; cases z))]; exact a1, a2, fun pos cv hcv => ?_⟩
  obtain ⟨c, e, hc⟩ := a3 pos cv hcv
  exact ⟨c, e, by rw [upd_ne (ne_of hc hq (by intro z; unfold LamX.CodeO at z; cases z))]; exact hc⟩
/-- the list of what came, so far -/
structure Seen (T : List (Addr × Str)) (Ha H : Hp) (sq : Addr) (xs : List V) (rs : List (List V)) : Prop where
  ext : LamX.ExtN Ha H
  tab : LamX.Tabs T H
  at_ : H sq = some (.lst xs)
  row : Rows H xs rs
  wd : ∀ r ∈ rs, Wd r
theorem new_ne {Ha Hb : Hp} {sq : Addr} (e : LamX.ExtN Ha Hb) (n : Hb sq = none) : ∀ b o, Ha b = some o → (∀ ps, o ≠ .tbl ps) → b ≠ sq := fun b o h t => ne_of_none (e b o h t) n
theorem Seen.first {T : List (Addr × Str)} {Ha Hb : Hp} {sq p : Addr} {r : List V} (e : LamX.ExtN Ha Hb) (t : LamX.Tabs T Hb) (hp : Hb p = some (.lst r)) (w : Wd r) (n : Hb sq = none) : Seen T Ha (upd Hb sq (.lst [.ref p])) sq [.ref p] [r] := by
  have s : Same Hb (upd Hb sq (.lst [.ref p])) := fun b o q => by rw [upd_ne (ne_of_none q n)]; exact q
  exact ⟨e.trans (ext_same s), t.ext s, upd_same, .cons (s _ _ hp) .nil, fun r' h => by rw [List.mem_singleton.mp h]; exact w⟩
theorem Seen.step {T : List (Addr × Str)} {Ha H H1 : Hp} {sq p : Addr} {xs r : List V} {rs : List (List V)} (s : Seen T Ha H sq xs rs) (nq : ∀ b o, Ha b = some o → (∀ ps, o ≠ .tbl ps) → b ≠ sq) (e1 : LamX.ExtN H H1) (T1 : LamX.Tabs T H1) (hp : H1 p = some (.lst r)) (w : Wd r) :
    H1 sq = some (.lst xs) ∧ Seen T Ha (upd H1 sq (.lst (xs ++ [.ref p]))) sq (xs ++ [.ref p]) (rs ++ [r]) := by
  have h1 : H1 sq = some (.lst xs) := e1 _ _ s.at_ (by intro ps z; cases z)
  have r1 := s.row.ext e1
  have w' : ∀ r' ∈ rs ++ [r], Wd r' := fun r' h => (List.mem_append.mp h).elim (s.wd r') fun z => by rw [List.mem_singleton.mp z]; exact w
  refine ⟨h1, fun b o h n => ?_, tabs_put h1 T1, upd_same, ?_, w'⟩
  · rw [upd_ne (nq b o h n)]
    exact e1 _ _ (s.ext b o h n) n
  · exact Rows.snoc (by rw [upd_ne (Rows.ne h1 r1 w hp)]; exact hp) (Rows.put h1 r1 s.wd r1)
/-- rows as data -/
inductive DqR (H : Hp) : List (List V) → List PyData → Prop
  | nil : DqR H [] []
  | cons {r : List V} {ds : List PyData} {rs : List (List V)} {es : List PyData} (h : DqA H r ds) (t : DqR H rs es) : DqR H (r :: rs) (.list ds :: es)
theorem Rows.dq {H : Hp} : ∀ {xs rs es}, Rows H xs rs → DqR H rs es → DqA H xs es
  | _, _, _, .nil, .nil => .nil
  | _, _, _, .cons h t, .cons a b => .cons (.lst h a) (t.dq b)
theorem DqR.ext {H H' : Hp} (s : LamX.ExtN H H') : ∀ {rs es}, DqR H rs es → DqR H' rs es
  | _, _, .nil => .nil
  | _, _, .cons h t => .cons (dqa_ext s h) (t.ext s)
end Sn

/-! the draws of the law: jar, sip, from -/
namespace My
open PySem L2
def top (i : Nat) : Stmt := PySem.Challenge.pw_lastshort_k09_runs_and_replies_refused.main.body.getD i (.Pass ⟨0, 0, 0, 0⟩)
abbrev sJar : Stmt := top 42
abbrev sSip : Stmt := top 43
abbrev sFrom : Stmt := top 44
/-! ### heaps -/
/-- all but what stands at j is as it was -/
def Off (j : Addr) (H H' : Hp) : Prop := ∀ b o, b ≠ j → H b = some o → H' b = some o
theorem Off.refl {j : Addr} {H : Hp} : Off j H H := fun _ _ _ e => e
theorem Off.trans {j : Addr} {H H1 H2 : Hp} (a : Off j H H1) (b : Off j H1 H2) : Off j H H2 := fun c o n e => b c o n (a c o n e)
theorem Off.new {j p : Addr} {H H1 : Hp} {o : HO} (a : Off j H H1) (n : H1 p = none) : Off j H (upd H1 p o) := fun b u nb e => by
  rw [upd_ne (ne_of_none (a b u nb e) n)]
  exact a b u nb e
theorem Off.put {j : Addr} {H H1 : Hp} {o : HO} (a : Off j H H1) : Off j H (upd H1 j o) := fun b u nb e => by
  rw [upd_ne nb]
  exact a b u nb e
theorem Off.seq {K : PySem.W.Frag} {j a : Addr} {H H' : Hp} {xs : List V} (e : Off j H H') (n : a ≠ j) (h : SqL K H a xs) : SqL K H' a xs := by
  rcases h with (h | ⟨o, h⟩) | h
  · exact .inl (.inl (e _ _ n h))
  · exact .inl (.inr ⟨o, e _ _ n h⟩)
  · exact .inr h
theorem Off.set {K : PySem.W.Frag} {j a : Addr} {H H' : Hp} {xs : List V} (e : Off j H H') (n : a ≠ j) (h : SqT K H a xs) : SqT K H' a xs := by
  rcases h with (h | ⟨o, h⟩) | h
  · exact .inl (.inl (e _ _ n h))
  · exact .inl (.inr ⟨o, e _ _ n h⟩)
  · exact .inr h
theorem Off.same {j : Addr} {H0 H H' : Hp} (e : Off j H H') (s : Same H0 H) (n : H0 j = none) : Same H0 H' := fun b o q => e b o (fun z => by rw [z, n] at q; cases q) (s b o q)
theorem same_upd {H : Hp} {p : Addr} {o : HO} (h : H p = none) : Same H (upd H p o) := fun b x e => by
  rw [upd_ne (ne_of_none e h)]
  exact e
theorem Same.off {j : Addr} {H H' : Hp} (s : Same H H') : Off j H H' := fun b o _ e => s b o e
/-- a jar: three whole numbers -/
def Jar (H : Hp) (j : Addr) : Prop := ∃ a b c : Int, H j = some (.lst [.int a, .int b, .int c])
theorem Jar.new {H : Hp} {j p : Addr} {o : HO} (a : Jar H j) (n : H p = none) : Jar (upd H p o) j := by
  obtain ⟨x, y, z, h⟩ := a
  exact ⟨x, y, z, by rw [upd_ne (ne_of_none h n)]; exact h⟩
theorem Jar.same {H H' : Hp} {j : Addr} (a : Jar H j) (s : Same H H') : Jar H' j := by
  obtain ⟨x, y, z, h⟩ := a
  exact ⟨x, y, z, s _ _ h⟩
/-! ### promises -/
def spSip : Sp := fun vs H Q _ => ∃ (j : Addr) (m : Int), vs = [.ref j, .int m] ∧ Jar H j ∧ 0 < m ∧ m < 1073741824 ∧
  ∀ (H' : Hp) (d : Int), 0 ≤ d → d < m → Off j H H' → Jar H' j → Q (.int d) H'
def spFrom (K : PySem.W.Frag) : Sp := fun vs H Q _ => ∃ (j p : Addr) (xs : List V), vs = [.ref j, .ref p] ∧ Jar H j ∧ p ≠ j ∧ SqL K H p xs ∧ 0 < xs.length ∧ xs.length < 1073741824 ∧
  ∀ (H' : Hp) (i : Nat) (x : V), xs[i]? = some x → Off j H H' → Jar H' j → Q x H'
def spJar (K : PySem.W.Frag) : Sp := fun vs H Q _ => ∃ (a : Addr) (ns : List Int) (k : Nat), vs = [.ref a, .int k] ∧ SqL K H a (ns.map V.int) ∧ ns.length ≤ 63 ∧
  ∀ (H' : Hp) (j : Addr), Same H H' → H j = none → Jar H' j → Q (.ref j) H'
/-- the built-ins of the draws are still the built-ins -/
structure TxtJ (mg : Str → Option Value) : Prop where
  len : mg "len" = none
  int : mg "int" = none
  abs : mg "abs" = none
  divmod : mg "divmod" = none
section
variable {P : Program} {w : World} {K : PySem.W.Frag} {mg : Str → Option Value} {base : Heap}
theorem scSip : FnScope ["_law_jar_here", "_law_many", "_law_digit"] ["_law_jar_here", "_law_many"] (defScope sSip) := ⟨rfl, rfl, rfl, by decide +kernel, rfl, by decide +kernel, by decide +kernel⟩
theorem ok_sip {f : Addr} {fd : FuncData} (F : Fun K "_law_sip" "_law_sip" sSip f fd) (T : TxtJ mg) : FnOk P w K mg base CX0 1 f fd ["_law_jar_here", "_law_many"] spSip := by
  refine F.ok scSip (fun vs H Q E h => ?_) (fun cdv A outer s H vs Q E hr h => ?_)
  · obtain ⟨j, m, rfl, _⟩ := h
    rfl
  · obtain ⟨j, m, rfl, ⟨a, b, c, hj⟩, m0, m1, k⟩ := h
    refine ⟨_, pss_cons (ps_asg (pe_op op_add (pe_ix ix_list (pv 0) pe_int (fun _ _ => rfl)) pe_int) (pg_sub (pv 0) pe_int set_list))
      (pss_cons (ps_if (pt_cmpR op_gt (pe_ix ix_list (pv 0) pe_int (fun _ _ => rfl)) pe_int (nomark _))
        (pss_cons (ps_asg (pe_callB call_divmod (by rfl) T.divmod (by decide +kernel) (pa_cons (pe_callTy call_int1 (by rfl) T.int (by decide +kernel) (pa_cons (pe_ix ix_list (pv 0) pe_int (fun _ _ => rfl)) pa_nil)) (pa_cons (pv 1) pa_nil)))
            (pg_tup (by rfl) (pgs_cons (pg_sub (pv 0) pe_int set_list) (pgs_cons (pg_name (i := 2) scSip.nd rfl (.inl rfl)) pgs_nil))))
          (pss_one (ps_ret (pv 2)))) pss_nil)
      (pss_cons (ps_asg (pe_op op_mod (pe_callTy call_int1 (by rfl) T.int (by decide +kernel) (pa_cons (pe_op op_add (pe_op op_add (pe_op op_mul (pe_ix ix_list (pv 0) pe_int (fun _ _ => rfl)) pe_int) (pe_op op_mul (pe_ix ix_list (pv 0) pe_int (fun _ _ => rfl)) pe_int))
            (pe_op op_mul (pe_op op_fdiv (pe_ix ix_list (pv 0) pe_int (fun _ _ => rfl)) pe_int) pe_int)) pa_nil)) pe_int) (pg_sub (pv 0) pe_int set_list))
      (pss_one (ps_ret (pe_op op_mod (pe_callTy call_int1 (by rfl) T.int (by decide +kernel) (pa_cons (pe_op op_fdiv (pe_ix ix_list (pv 0) pe_int (fun _ _ => rfl)) pe_int) pa_nil)) (pv 1)))))), ?_⟩
    -- jar[2] = jar[2] + 1
    refine ⟨_, rfl, j, _, 2, _, rfl, rfl, SqL.of hj, rfl, _, _, rfl, rfl, _, rfl, j, _, 2, 2, rfl, rfl, hj, rfl, ?_⟩
    -- if jar[0] > 0
    refine ⟨_, rfl, j, _, 0, _, rfl, rfl, SqL.of upd_same, rfl, _, _, rfl, rfl, _, rfl, ?_⟩
    have o1 : Off j H (upd H j (.lst [.int a, .int b, .int (c + 1)])) := Off.put Off.refl
    refine ite2 (fun _ => ?_) (fun _ => ?_)
    · refine ⟨_, rfl, j, _, 0, _, rfl, rfl, SqL.of upd_same, rfl, .inl ⟨_, rfl, _, rfl, a, m, rfl, ⟨m0, m1⟩, fun p np => ?_⟩⟩
      have npj : p ≠ j := fun e => by
        rw [e, upd_same] at np
        cases np
      refine ⟨p, _, rfl, SqT.of upd_same, rfl, _, _, rfl, _, rfl, j, _, 0, 0, rfl, rfl, (by rw [upd_ne npj.symm]; exact upd_same), rfl, _, _, rfl, rfl, ?_⟩
      refine ⟨_, rfl, ?_⟩
      exact k _ _ (Int.emod_nonneg _ (by omega)) (Int.emod_lt_of_pos _ m0) (Off.put (Off.new o1 np)) ⟨_, _, _, upd_same⟩
    · refine ⟨_, rfl, j, _, 1, _, rfl, rfl, SqL.of upd_same, rfl, _, _, rfl, rfl, .inr (by decide), ?_⟩
      refine ⟨_, rfl, j, _, 2, _, rfl, rfl, SqL.of upd_same, rfl, _, _, rfl, rfl, .inr (by decide), _, _, rfl, rfl, ?_⟩
      refine ⟨_, rfl, j, _, 1, _, rfl, rfl, SqL.of upd_same, rfl, _, _, rfl, rfl, ⟨by decide, by decide⟩, _, _, rfl, rfl, .inr (by decide), _, _, rfl, rfl, .inl ⟨_, rfl, _, _, rfl, rfl, (by show (0 : Int) < 1999999927; decide), ?_⟩⟩
      refine ⟨_, rfl, j, _, 1, 1, rfl, rfl, upd_same, rfl, ?_⟩
      refine ⟨_, rfl, j, _, 1, _, rfl, rfl, SqL.of upd_same, rfl, _, _, rfl, rfl, ⟨by decide, by decide⟩, .inl ⟨_, rfl, _, rfl, _, _, rfl, rfl, m0, ?_⟩⟩
      exact k _ _ (Int.emod_nonneg _ (by omega)) (Int.emod_lt_of_pos _ m0) (Off.put o1) ⟨_, _, _, upd_same⟩

/-! ### from -/
structure TxtS (K : PySem.W.Frag) (mg : Str → Option Value) (fS : Addr) : Prop where
  g : mg "_law_sip" = some (.ref fS)
  k : PySem.W.keepIn K (.ref fS) = true
theorem scFrom : FnScope ["_law_jar_here", "_law_things"] ["_law_jar_here", "_law_things"] (defScope sFrom) := ⟨rfl, rfl, rfl, by decide +kernel, rfl, by decide +kernel, by decide +kernel⟩
theorem ok_from {f fS : Addr} {fd fdS : FuncData} (F : Fun K "_law_from" "_law_from" sFrom f fd) (T : TxtJ mg) (S : TxtS K mg fS) (FS : Fun K "_law_sip" "_law_sip" sSip fS fdS) (bS : Binds K fdS ["_law_jar_here", "_law_many"] []) :
    FnOk P w K mg base CX0 2 f fd ["_law_jar_here", "_law_things"] (spFrom K) := by
  have GS : FnOk P w K mg base CX0 1 fS fdS ["_law_jar_here", "_law_many"] spSip := ok_sip FS T
  refine F.ok scFrom (fun vs H Q E h => ?_) (fun cdv A outer s H vs Q E hr h => ?_)
  · obtain ⟨j, p, xs, rfl, _⟩ := h
    rfl
  · obtain ⟨j, p, xs, rfl, hJ, npj, hS, l0, l1, k⟩ := h
    refine ⟨_, pss_one (ps_ret (pe_ix ix_list (pv 1) (pe_call GS hr rfl S.g S.k bS .nil pass0 (pa_cons (pv 0) (pa_cons (pe_callB call_len_seq (by rfl) T.len PySem.boot_len (pa_cons (pv 1) pa_nil)) pa_nil))) (fun _ _ => rfl))), ?_⟩
    refine ⟨_, rfl, _, rfl, _, rfl, p, xs, rfl, .inl hS, j, _, rfl, hJ, by omega, by omega, fun H' d d0 d1 o J => ?_⟩
    obtain ⟨n, rfl⟩ := Int.eq_ofNat_of_zero_le d0
    have hn : n < xs.length := by omega
    exact ⟨p, xs, _, xs[n], rfl, rfl, o.seq npj hS, atI_nat (List.getElem?_eq_getElem hn), k H' n _ (List.getElem?_eq_getElem hn) o J⟩
/-! ### jar -/
theorem scJar : FnScope ["_law_script", "_law_k", "_law_own", "_law_mixed", "_law_entry"] ["_law_script", "_law_k"] (defScope sJar) := ⟨rfl, rfl, rfl, by decide +kernel, rfl, by decide +kernel, by decide +kernel⟩
theorem int_of_map {ns : List Int} {i : Nat} {y : V} (h : (ns.map V.int)[i]? = some y) : ∃ u, y = V.int u := by
  rw [List.getElem?_map] at h
  cases e : ns[i]? with
  | none =>
    rw [e] at h
    cases h
  | some u =>
    rw [e] at h
    exact ⟨u, (Option.some.inj h).symm⟩
theorem cut_map (ns : List Int) (lo hi : Option Int) : ∃ ms : List Int, cutV (ns.map V.int) lo hi = ms.map V.int :=
  ⟨(ns.drop (HT.sIx (ns.map V.int).length 0 lo)).take (HT.sIx (ns.map V.int).length (ns.map V.int).length hi - HT.sIx (ns.map V.int).length 0 lo), by
    unfold cutV
    rw [List.map_take, List.map_drop]⟩
theorem ok_jar {f : Addr} {fd : FuncData} (F : Fun K "_law_jar" "_law_jar" sJar f fd) (T : TxtJ mg) : FnOk P w K mg base CX0 1 f fd ["_law_script", "_law_k"] (spJar K) := by
  refine F.ok scJar (fun vs H Q E h => ?_) (fun cdv A outer s H vs Q E hr h => ?_)
  · obtain ⟨a, ns, k, rfl, _⟩ := h
    rfl
  · obtain ⟨a, ns, k, rfl, hS, hl, q⟩ := h
    refine ⟨_, C8.pss_cut (ps_set (i := 2) scJar.nd rfl (.inl rfl) (pe_ifExp (pt_cmpR op_lt (pv 1) (pe_callB call_len_seq (by rfl) T.len PySem.boot_len (pa_cons (pv 0) pa_nil)) (nomark _))
          (pe_callTy call_int1 (by rfl) T.int (by decide +kernel) (pa_cons (pe_ix ix_list (pv 0) (pv 1) (fun _ _ => rfl)) pa_nil)) (pe_op op_add (pe_op op_mul pe_int (pv 1)) pe_int)))
      (pss_cons (ps_set (i := 3) scJar.nd rfl (.inl rfl) (pe_op op_add pe_int (pe_op op_mul pe_int (pv 1))))
      (pss_cons (ps_for PassesOwn.never rfl (pi_list (pe_slice sl_list (pv 0) po_none (po_some pe_int))) (pg_name (i := 4) scJar.nd rfl (.inl rfl))
        (pss_one (ps_set (i := 3) scJar.nd rfl (.inl rfl) (pe_op op_mod (pe_callTy call_int1 (by rfl) T.int (by decide +kernel) (pa_cons (pe_op op_add (pe_op op_mul (pv 3) pe_int) (pe_op op_mod (pe_callTy call_int1 (by rfl) T.int (by decide +kernel) (pa_cons (pv 4) pa_nil)) pe_int)) pa_nil)) pe_int))))
      (pss_one (ps_ret (pe_lst (pa_cons (pe_ifExp (PW.pt (pw_or (pt_cmpR op_lt (pv 2) pe_int (nomark _)) (pw_or1 (pt_cmpR op_ge (pv 2) (pe_op op_pow pe_int pe_int) (nomark _))))) (pe_callB call_abs (by rfl) T.abs (by decide +kernel) (pa_cons (pv 2) pa_nil)) pe_int)
        (pa_cons (pe_op op_mod (pe_callTy call_int1 (by rfl) T.int (by decide +kernel) (pa_cons (pe_op op_add (pe_op op_mul (pv 3) pe_int) (pe_op op_mod (pv 2) pe_int)) pa_nil)) pe_int) (pa_cons pe_int pa_nil)))))))), ?_⟩
    refine ⟨fun σ H' => H = H' ∧ ∃ own : Int, σ = [some (.ref a), some (.int k), some (.int own), none, none], ?_, ?_⟩
    · refine ⟨_, rfl, _, rfl, a, _, rfl, .inl hS, _, _, rfl, rfl, _, rfl, ?_⟩
      refine ite2 (fun c => ?_) (fun c => ?_)
      · have hk : k < ns.length := by
          have c' := of_decide_eq_true c
          rw [List.length_map] at c'
          omega
        exact ⟨_, rfl, _, rfl, a, _, _, .int ns[k], rfl, rfl, hS, atI_nat (by rw [List.getElem?_map, List.getElem?_eq_getElem hk]; rfl), .inl ⟨_, rfl, rfl, _, rfl⟩⟩
      · exact ⟨_, rfl, _, _, rfl, rfl, .inl (by decide), _, _, rfl, rfl, rfl, _, rfl⟩
    · rintro _ _ ⟨rfl, own, rfl⟩
      refine ⟨_, rfl, _, _, rfl, rfl, .inl (by decide), _, _, rfl, rfl, ?_⟩
      refine ⟨_, rfl, 13, rfl, a, _, rfl, hS, fun p np => ?_⟩
      obtain ⟨ms, ems⟩ := cut_map ns none (some 13)
      rw [ems]
      refine ⟨p, rfl, ⟨_, SqL.of upd_same⟩, for_list (K := K) (a := p) (xs := ms.map V.int) (fun i σ H' => ∃ (mx : Int) (v : Option V), σ = [some (.ref a), some (.int k), some (.int own), some (.int mx), v] ∧ H' = upd H p (.lst (ms.map V.int)))
        ⟨_, none, rfl, rfl⟩ (fun i σ H' _ ⟨_, _, _, e⟩ => by rw [e]; exact SqL.of upd_same) ?_ ?_⟩
      · rintro i y σ H' hi ⟨mx, v, rfl, rfl⟩
        obtain ⟨u, rfl⟩ := int_of_map hi
        refine ⟨_, rfl, _, _, rfl, rfl, .inr (by decide), ?_⟩
        refine ⟨_, rfl, .inl ⟨_, rfl, _, _, rfl, rfl, (by show (0 : Int) < 1999999927; decide), _, _, rfl, rfl, .inl ⟨_, rfl, _, _, rfl, rfl, (by show (0 : Int) < 1999999927; decide), ?_⟩⟩⟩
        exact ⟨_, _, rfl, rfl⟩
      · rintro σ H' ⟨mx, v, rfl, rfl⟩
        have fin : ∀ (x : Int), tCons (tOp (rI (fun x j => 0 < j) fun i j => V.int (i % j)) (tCB (fun xs H Q => (∃ i, xs = [V.int i] ∧ Q (V.int i) H) ∨ ∃ k, xs = [V.bl k] ∧ Q (V.int (if k = true then 1 else 0)) H)
            (tCons (tOp (rI0 fun i j => V.int (i + j)) (tOp (rI CMul fun i j => V.int (i * j)) (tVar 3) (tC (V.int 5))) (tOp (rI (fun x j => 0 < j) fun i j => V.int (i % j)) (tVar 2) (tC (V.int 1999999927)))) tNil)) (tC (V.int 1999999927)))
          (tCons (tC (V.int 0)) tNil) [some (.ref a), some (.int k), some (.int own), some (.int mx), v] (upd H p (.lst (ms.map V.int))) (fun xs H1 => (V.int x :: xs).length ≤ sizeLine ∧ ∀ p, H1 p = none → Q (.ref p) (upd H1 p (.lst (V.int x :: xs)))) := by
          intro x
          refine ⟨_, rfl, _, _, rfl, rfl, .inr (by decide), _, rfl, _, _, rfl, rfl, (by show (0 : Int) < 1999999927; decide), _, _, rfl, rfl, .inl ⟨_, rfl, _, _, rfl, rfl, (by show (0 : Int) < 1999999927; decide), ?_⟩⟩
          refine ⟨(by show 3 ≤ sizeLine; decide), fun jj nj => ?_⟩
          exact q _ jj (Same.trans (same_upd np) (same_upd nj)) ((same_upd np).free nj) ⟨_, _, _, upd_same⟩
        refine ⟨_, rfl, _, _, rfl, rfl, _, rfl, ?_⟩
        refine ite2 (fun _ => ?_) (fun _ => ?_)
        · refine iteT ?_
          exact ⟨_, rfl, _, rfl, fin _⟩
        · refine ⟨_, rfl, _, _, rfl, rfl, ⟨by decide, by decide, by decide⟩, _, _, rfl, rfl, _, rfl, ?_⟩
          refine ite2 (fun _ => ?_) (fun _ => ?_)
          · exact ⟨_, rfl, _, rfl, fin _⟩
          · exact fin _
end
end My

/-! what many parts want: the error about texts, small lemmas -/
namespace My
open PySem L2 Cm LM
abbrev sEI : Stmt := inClass (top 3) 0
theorem nz (n : Nat) : ((n : Int) != 0) = (n != 0) := by
  cases n with
  | zero => rfl
  | succ k => simp; omega
/-- no text is longer -/
def Bd (t : Str) : Prop := t.length ≤ 100000
theorem Bd.part {t : Str} (y : Str) (h : Bd t) : Bd (Txt.partition t y).1 ∧ Bd (Txt.partition t y).2.2 := ⟨Nat.le_trans (part_len t y).1 h, Nat.le_trans (part_len t y).2.2 h⟩
theorem Bd.line {t : Str} (h : Bd t) : t.length ≤ sizeLine := Nat.le_of_lt (szM (Nat.le_trans h (by decide)))
theorem Bd.line2 {t : Str} (h : Bd t) : t.length + 2 ≤ sizeLine := Nat.le_of_lt (szM (by unfold Bd at h; omega))
theorem svs_get {ws : List Str} {i : Nat} {x : V} (h : (svs ws)[i]? = some x) : ∃ z, ws[i]? = some z ∧ x = .str z := by
  unfold svs at h
  rw [List.getElem?_map] at h
  cases e : ws[i]? with
  | none => rw [e] at h; cases h
  | some z =>
    rw [e] at h
    exact ⟨z, rfl, (Option.some.inj h).symm⟩
theorem take_snoc {α : Type} {xs : List α} {i : Nat} {x : α} (h : xs[i]? = some x) : xs.take (i + 1) = xs.take i ++ [x] := by
  rw [List.take_succ, h]
  rfl
theorem lt_of_get {α : Type} {xs : List α} {i : Nat} {x : α} (h : xs[i]? = some x) : i < xs.length := (List.getElem?_eq_some_iff.mp h).1
/-- not many words, none too long -/
def BdW (ws : List Str) : Prop := (∀ z ∈ ws, Bd z) ∧ ws.length ≤ 100001
theorem made_same {H H' : Hp} {x dx C : Addr} (nx : H x = none) (ndx : H dx = none) (o : Off x (upd (upd H dx (.own x)) x (.ins C dx [])) H') : Same H H' := fun b u e => o b u (ne_of_none e nx) (by rw [upd_ne (ne_of_none e nx), upd_ne (ne_of_none e ndx)]; exact e)
/-- a special method of the class at C -/
structure Sm (K : PySem.W.Frag) (C : Addr) (x q : Str) (st : Stmt) (ps : List Str) where
  f : Addr
  fd : FuncData
  F : Fun K x q st f fd
  b : Binds K fd ps []
  i : PySem.W.findIn K (.ref C) x = some (some (.ref f))
  fn : PySem.W.isFn K (.ref f) = true
theorem TyX_same {K : PySem.W.Frag} {H H' : Hp} (s : Same H H') {x : V} {t : Value} (h : TyX K H x t) : TyX K H' x t := by
  cases h with
  | base b =>
    refine .base ?_
    cases b with
    | non => exact .non
    | bl x => exact .bl x
    | int i => exact .int i
    | str x => exact .str x
    | flt x => exact .flt x
    | lst e => exact .lst (s _ _ e)
    | frz e => exact .frz (s _ _ e)
    | tup e => exact .tup (s _ _ e)
    | dK e => exact .dK (s _ _ e)
    | dT e => exact .dT (s _ _ e)
    | ins e a b c d f => exact .ins (s _ _ e) a b c d f
  | byt b => exact .byt b
  | set e => exact .set (s _ _ e)
  | kList e c => exact .kList e c
  | kTuple e c => exact .kTuple e c
  | kDict e c => exact .kDict e c
  | fTuple e => exact .fTuple (s _ _ e)
  | fDict e => exact .fDict (s _ _ e)
theorem jar_ne {H : Hp} {j p : Addr} (a : Jar H j) (n : H p = none) : p ≠ j := fun z => by
  obtain ⟨_, _, _, q⟩ := a
  rw [z, q] at n
  cases n
theorem Jar.put {H : Hp} {j p : Addr} {o : HO} (a : Jar H j) (n : p ≠ j) : Jar (upd H p o) j := by
  obtain ⟨x, y, z, q⟩ := a
  exact ⟨x, y, z, by rw [upd_ne n.symm]; exact q⟩
/-- a store to what was not there at first -/
theorem Off.put2 {j q : Addr} {H H1 : Hp} {o : HO} (a : Off j H H1) (n : H q = none) : Off j H (upd H1 q o) := fun b u nb e => by
  rw [upd_ne (ne_of_none e n)]
  exact a b u nb e
/-- tuples that stand stay, if what is written is no tuple -/
theorem tup_stays {H : Hp} {x : Addr} {o o' : HO} (hx : H x = some o) (n : ∀ xs, o ≠ .tup xs) : ∀ (p : Addr) (xs : List V), H p = some (.tup xs) → (upd H x o') p = some (.tup xs) := fun p xs e => by
  rw [upd_ne]
  · exact e
  · intro z
    rw [z, hx] at e
    exact n xs (Option.some.inj e)
def isS : V → Bool
  | .str _ => true
  | _ => false
/-- its type is told -/
def Typed (K : PySem.W.Frag) (H : Hp) (x : V) : Prop := ∃ t, TyX K H x t ∧ PySem.W.kitOne K t (.type "str") = some (isS x)
theorem typed_str {K : PySem.W.Frag} {H : Hp} (x : Str) : Typed K H (.str x) := ⟨_, .base (.str x), kit_ty (show kitB "str" "str" = some true by decide +kernel)⟩
/-! ### the error -/
structure TxE (K : PySem.W.Frag) (mg : Str → Option Value) where
  C : Addr
  f : Addr
  fd : FuncData
  g : mg "InvalidText" = some (.ref C)
  o : OexC K C
  i : PySem.W.findIn K (.ref C) "__init__" = some (some (.ref f))
  t : PySem.W.typeIn K (.ref f) = some (.type "function")
  n : PySem.W.findIn K (.ref C) "value" = some none
  F : Fun K "__init__" "InvalidText.__init__" sEI f fd
  b : Binds K fd ["self", "value"] []
section
variable {P : Program} {w : World} {K : PySem.W.Frag} {mg : Str → Option Value} {base : Heap}
def spEI (CE : Addr) : Sp := fun vs H Q _ => ∃ (a : Addr) (v : V), vs = [.ref a, v] ∧ H a = some (exo a CE none) ∧ ∀ dx, H dx = none → dx ≠ a → Q .non (upd (upd H dx (exd dx [("value", v)])) a (exo a CE (some dx)))
theorem scEI : FnScope ["self", "value"] ["self", "value"] (defScope sEI) := ⟨rfl, rfl, rfl, by decide +kernel, rfl, by decide +kernel, by decide +kernel⟩
theorem ok_ei (T : TxE K mg) : FnOk P w K mg base CX0 1 T.f T.fd ["self", "value"] (spEI T.C) := by
  refine T.F.ok scEI (fun vs H Q E h => ?_) (fun cdv A outer s H vs Q E hr h => ?_)
  · obtain ⟨a, v, rfl, _⟩ := h
    rfl
  · obtain ⟨a, v, rfl, ha, k⟩ := h
    refine ⟨_, pss_one (ps_ost (pv 0) (pv 1)), ?_⟩
    exact ⟨_, rfl, _, rfl, a, T.C, rfl, T.o, T.n, .inl ⟨ha, fun dx n ne => k dx n ne⟩⟩
/-- raise X(x), as its making is read -/
theorem mk_err {CE : Addr} {ta : TA} {σ : St} {H : Hp} {Q : XK} {x : V} (h : ta σ H fun vs H1 => vs = [x] ∧ H1 = H) (mono : ∀ {R R' : List V → Hp → Prop}, ta σ H R → (∀ v H1, R v H1 → R' v H1) → ta σ H R')
    (q : ∀ d, H d = none → Q (.ref CE) (some d) (upd H d (.xd [("value", x)]))) : tMkO CE (spEI CE) [] ta σ H Q := by
  refine mono h fun vs H1 hh => ?_
  obtain ⟨rfl, rfl⟩ := hh
  refine ⟨by show 1 ≤ 1000; decide, fun a na => ⟨a, x, rfl, upd_same, fun dx ndx nda => ⟨rfl, dx, [("value", x)], upd_same, ?_, ?_, ?_⟩⟩⟩
  · rw [upd_ne nda, upd_same]
  · rw [upd_ne nda] at ndx
    exact ndx
  · have e : upd (del (upd (upd (upd H1 a (exo a CE none)) dx (exd dx [("value", x)])) a (exo a CE (some dx))) a) dx (.xd [("value", x)]) = upd H1 dx (.xd [("value", x)]) := by
      funext b
      by_cases h1 : b = dx
      · rw [h1, upd_same, upd_same]
      · rw [upd_ne h1, upd_ne h1]
        by_cases h2 : b = a
        · rw [h2, del_same, na]
        · rw [del_ne h2, upd_ne h2, upd_ne h1, upd_ne h2]
    rw [e]
    rw [upd_ne nda] at ndx
    exact q dx ndx
end
end My

/-! the defs about texts of loops -/
namespace My
open PySem L2 Cm LM
abbrev sWO : Stmt := top 25
abbrev sOO : Stmt := top 26
abbrev sIW : Stmt := top 27
abbrev sAW : Stmt := top 28
abbrev sIR : Stmt := top 29
abbrev sIE : Stmt := top 30
/-- what the module's top has for these defs -/
structure TxL (K : PySem.W.Frag) (mg : Str → Option Value) where
  tuple : mg "tuple" = none
  len : mg "len" = none
  all : mg "all" = none
  bar : ∃ t, mg "BAR" = some (.str " | " t)
  mr : ∃ t, mg "MOST_ROUND" = some (.int 12 t)
  me : ∃ t, mg "MOST_ENDING" = some (.int 6 t)
  pT : Addr
  pR : Addr
  pE : Addr
  gT : mg "TESTS" = some (.ref pT)
  gR : mg "ROUND_STEPS" = some (.ref pR)
  gE : mg "ENDING_STEPS" = some (.ref pE)
  lT : ∀ H, SqT K H pT (svs tests)
  lR : ∀ H, SqT K H pR (svs rsteps)
  lE : ∀ H, SqT K H pE (svs esteps)
  wo : Df K mg "words_of" sWO ["text"]
  oo : Df K mg "order_of" sOO ["word"]
  iw : Df K mg "is_word" sIW ["word", "steps"]
  aw : Df K mg "are_words" sAW ["words", "steps"]
  ir : Df K mg "is_round" sIR ["words"]
  ie : Df K mg "is_ending" sIE ["words"]
section
variable {P : Program} {w : World} {K : PySem.W.Frag} {mg : Str → Option Value} {base : Heap}
/-! ### words_of -/
def spWO : Sp := fun vs H Q _ => ∃ t : Str, vs = [.str t] ∧ Bd t ∧ ∀ (H' : Hp) (p a b : Addr), Same H H' → H' p = some (.tup [.ref a, .ref b]) → H' a = some (.tup (svs (wordsR t))) → H' b = some (.tup (svs (wordsE t))) → Q (.ref p) H'
theorem scWO : FnScope ["text", "head", "bar", "tail"] ["text"] (defScope sWO) := ⟨rfl, rfl, rfl, by decide +kernel, rfl, by decide +kernel, by decide +kernel⟩
theorem ok_wo (T : TxL K mg) : FnOk P w K mg base CX0 1 T.wo.f T.wo.fd ["text"] spWO := by
  obtain ⟨tb, hb⟩ := T.bar
  refine T.wo.F.ok scWO (fun vs H Q E h => ?_) (fun cdv A outer s H vs Q E hr h => ?_)
  · obtain ⟨t, rfl, _⟩ := h
    rfl
  · obtain ⟨t, rfl, bd, k⟩ := h
    refine ⟨_, pss_cons (ps_asg (pe_partition (pv 0) (pe_glob (v := .str " | ") rfl hb ⟨_, rfl⟩)) (pg_tup rfl (pgs_cons (pg_name (i := 1) scWO.nd rfl (.inl rfl)) (pgs_cons (pg_name (i := 2) scWO.nd rfl (.inl rfl)) (pgs_cons (pg_name (i := 3) scWO.nd rfl (.inl rfl)) pgs_nil)))))
      (pss_one (ps_ret (pe_tup (pa_cons (pe_callTy call_tuple_of (by rfl) T.tuple (by decide +kernel) (pa_cons (pe_split (pv 1) pe_str) pa_nil))
        (pa_cons (pe_ifExp (pt_truth (pv 2) (by intro _; rfl)) (pe_callTy call_tuple_of (by rfl) T.tuple (by decide +kernel) (pa_cons (pe_split (pv 3) pe_str) pa_nil)) (pe_tup pa_nil)) pa_nil))))), ?_⟩
    have bp := Bd.part " | " bd
    refine ⟨_, rfl, ⟨_, rfl⟩, t, " | ", rfl, rfl, by decide +kernel, bd.line, fun q nq => ?_⟩
    refine ⟨q, _, rfl, SqT.of upd_same, rfl, _, _, rfl, _, _, rfl, _, _, rfl, rfl, ?_⟩
    have s1 : Same H (upd H q (.tup [.str (Txt.partition t " | ").1, .str (Txt.partition t " | ").2.1, .str (Txt.partition t " | ").2.2])) := same_new nq
    generalize upd H q (.tup [.str (Txt.partition t " | ").1, .str (Txt.partition t " | ").2.1, .str (Txt.partition t " | ").2.2]) = H1 at s1 ⊢
    refine ⟨_, rfl, ⟨_, rfl⟩, _, " ", rfl, rfl, by decide +kernel, bp.1.line2, fun l nl => ?_⟩
    refine ⟨l, _, rfl, .inl ⟨SqL.of upd_same, fun a na => ?_⟩⟩
    have s2 : Same H1 (upd (upd H1 l (.lst (svs (wordsR t)))) a (.tup (svs (wordsR t)))) := Same.trans (same_new nl) (same_new na)
    have ha : (upd (upd H1 l (.lst (svs (wordsR t)))) a (.tup (svs (wordsR t)))) a = some (.tup (svs (wordsR t))) := upd_same
    show tCons _ _ _ (upd (upd H1 l (.lst (svs (wordsR t)))) a (.tup (svs (wordsR t)))) _
    generalize upd (upd H1 l (.lst (svs (wordsR t)))) a (.tup (svs (wordsR t))) = H2 at s2 ha ⊢
    refine ⟨_, rfl, _, ⟨Nat.le_trans (part_len t " | ").2.1 (by decide +kernel), rfl⟩, ?_⟩
    rw [nz]
    cases hc : ((Txt.partition t " | ").2.1.length != 0) with
    | true =>
      have e : wordsE t = Txt.split (Txt.partition t " | ").2.2 " " := by unfold wordsE; rw [if_pos hc]
      refine iteT ?_
      refine ⟨_, rfl, ⟨_, rfl⟩, _, " ", rfl, rfl, by decide +kernel, bp.2.line2, fun l2 nl2 => ?_⟩
      rw [← e]
      refine ⟨l2, _, rfl, .inl ⟨SqL.of upd_same, fun b nb => ?_⟩⟩
      refine ⟨(by show 2 ≤ sizeLine; decide), fun p np => ?_⟩
      exact k _ p a b (Same.trans s1 (Same.trans s2 (Same.trans (same_new nl2) (Same.trans (same_new nb) (same_new np))))) upd_same (same_new np _ _ (same_new nb _ _ (same_new nl2 _ _ ha))) (same_new np _ _ upd_same)
    | false =>
      have e : wordsE t = [] := by unfold wordsE; rw [if_neg (by rw [hc]; exact Bool.false_ne_true)]
      refine iteF ?_
      refine ⟨Nat.zero_le _, fun b nb => ?_⟩
      refine ⟨(by show 2 ≤ sizeLine; decide), fun p np => ?_⟩
      refine k _ p a b (Same.trans s1 (Same.trans s2 (Same.trans (same_new nb) (same_new np)))) upd_same (same_new np _ _ (same_new nb _ _ ha)) ?_
      rw [e]
      exact same_new np _ _ upd_same
/-! ### order_of -/
def spOO : Sp := fun vs H Q _ => ∃ t : Str, vs = [.str t] ∧ Bd t ∧ ∀ (H' : Hp) (p : Addr), Same H H' → H p = none → H' p = some (.tup [.str (orderOf t).1, .str (orderOf t).2]) → Q (.ref p) H'
theorem scOO : FnScope ["word", "test", "colon", "step"] ["word"] (defScope sOO) := ⟨rfl, rfl, rfl, by decide +kernel, rfl, by decide +kernel, by decide +kernel⟩
theorem ok_oo (T : TxL K mg) : FnOk P w K mg base CX0 1 T.oo.f T.oo.fd ["word"] spOO := by
  refine T.oo.F.ok scOO (fun vs H Q E h => ?_) (fun cdv A outer s H vs Q E hr h => ?_)
  · obtain ⟨t, rfl, _⟩ := h
    rfl
  · obtain ⟨t, rfl, bd, k⟩ := h
    refine ⟨_, pss_cons (ps_asg (pe_partition (pv 0) pe_str) (pg_tup rfl (pgs_cons (pg_name (i := 1) scOO.nd rfl (.inl rfl)) (pgs_cons (pg_name (i := 2) scOO.nd rfl (.inl rfl)) (pgs_cons (pg_name (i := 3) scOO.nd rfl (.inl rfl)) pgs_nil)))))
      (pss_one (ps_ret (pe_ifExp (pt_truth (pv 2) (by intro _; rfl)) (pe_tup (pa_cons (pv 1) (pa_cons (pv 3) pa_nil))) (pe_tup (pa_cons pe_str (pa_cons (pv 0) pa_nil)))))), ?_⟩
    refine ⟨_, rfl, ⟨_, rfl⟩, t, ":", rfl, rfl, by decide +kernel, bd.line, fun q nq => ?_⟩
    refine ⟨q, _, rfl, SqT.of upd_same, rfl, _, _, rfl, _, _, rfl, _, _, rfl, rfl, ?_⟩
    have s1 : Same H (upd H q (.tup [.str (Txt.partition t ":").1, .str (Txt.partition t ":").2.1, .str (Txt.partition t ":").2.2])) := same_new nq
    generalize upd H q (.tup [.str (Txt.partition t ":").1, .str (Txt.partition t ":").2.1, .str (Txt.partition t ":").2.2]) = H1 at s1 ⊢
    refine ⟨_, rfl, _, ⟨Nat.le_trans (part_len t ":").2.1 (by decide +kernel), rfl⟩, ?_⟩
    rw [nz]
    unfold orderOf at k
    cases hc : ((Txt.partition t ":").2.1.length != 0) with
    | true =>
      rw [if_pos hc] at k
      refine iteT ?_
      refine ⟨_, rfl, _, rfl, (by show 2 ≤ sizeLine; decide), fun p np => ?_⟩
      exact k _ p (Same.trans s1 (same_new np)) (s1.free np) upd_same
    | false =>
      rw [if_neg (by rw [hc]; exact Bool.false_ne_true)] at k
      refine iteF ?_
      refine ⟨_, rfl, (by show 2 ≤ sizeLine; decide), fun p np => ?_⟩
      exact k _ p (Same.trans s1 (same_new np)) (s1.free np) upd_same
/-! ### is_word -/
def spIW (K : PySem.W.Frag) : Sp := fun vs H Q _ => ∃ (t : Str) (p : Addr) (ss : List Str), vs = [.str t, .ref p] ∧ Bd t ∧ SqT K H p (svs ss) ∧ ∀ H' : Hp, Same H H' → Q (.bl (isWord t ss)) H'
theorem scIW : FnScope ["word", "steps", "test", "colon", "step"] ["word", "steps"] (defScope sIW) := ⟨rfl, rfl, rfl, by decide +kernel, rfl, by decide +kernel, by decide +kernel⟩
theorem ok_iw (T : TxL K mg) : FnOk P w K mg base CX0 1 T.iw.f T.iw.fd ["word", "steps"] (spIW K) := by
  refine T.iw.F.ok scIW (fun vs H Q E h => ?_) (fun cdv A outer s H vs Q E hr h => ?_)
  · obtain ⟨t, p, ss, rfl, _⟩ := h
    rfl
  · obtain ⟨t, p, ss, rfl, bd, hp, k⟩ := h
    refine ⟨_, pss_cons (ps_asg (pe_partition (pv 0) pe_str) (pg_tup rfl (pgs_cons (pg_name (i := 2) scIW.nd rfl (.inl rfl)) (pgs_cons (pg_name (i := 3) scIW.nd rfl (.inl rfl)) (pgs_cons (pg_name (i := 4) scIW.nd rfl (.inl rfl)) pgs_nil)))))
      (pss_one (ps_ret (pe_ifExp (pt_truth (pv 3) (by intro _; rfl)) (pe_and (pe_cmpR op_in_seq (pv 2) (pe_glob (v := .ref T.pT) rfl T.gT rfl) (by rfl)) (pe_one (pe_cmpR op_in_seq (pv 4) (pv 1) (by rfl)))) (pe_cmpR op_in_seq (pv 0) (pv 1) (by rfl))))), ?_⟩
    refine ⟨_, rfl, ⟨_, rfl⟩, t, ":", rfl, rfl, by decide +kernel, bd.line, fun q nq => ?_⟩
    refine ⟨q, _, rfl, SqT.of upd_same, rfl, _, _, rfl, _, _, rfl, _, _, rfl, rfl, ?_⟩
    have s1 : Same H (upd H q (.tup [.str (Txt.partition t ":").1, .str (Txt.partition t ":").2.1, .str (Txt.partition t ":").2.2])) := same_new nq
    generalize upd H q (.tup [.str (Txt.partition t ":").1, .str (Txt.partition t ":").2.1, .str (Txt.partition t ":").2.2]) = H1 at s1 ⊢
    refine ⟨_, rfl, _, ⟨Nat.le_trans (part_len t ":").2.1 (by decide +kernel), rfl⟩, ?_⟩
    rw [nz]
    have k1 := k H1 s1
    unfold isWord at k1
    cases hc : ((Txt.partition t ":").2.1.length != 0) with
    | true =>
      rw [if_pos hc] at k1
      refine iteT ?_
      refine ⟨_, rfl, T.pT, _, rfl, .inr (T.lT _), rfl, svs_flat _, _, rfl, ?_⟩
      show if (inV _ (svs tests)) = true then _ else _
      rw [inV_svs]
      by_cases h1 : (Txt.partition t ":").1 ∈ tests
      · rw [decide_eq_true h1] at k1 ⊢
        refine iteT ⟨_, rfl, _, rfl, p, _, rfl, .inr (Cm.Same.set s1 hp), rfl, svs_flat _, ?_⟩
        show _
        rw [Bool.true_and] at k1
        have := inV_svs (Txt.partition t ":").2.2 ss
        rw [← this] at k1
        exact k1
      · rw [decide_eq_false h1] at k1 ⊢
        exact iteF k1
    | false =>
      rw [if_neg (by rw [hc]; exact Bool.false_ne_true)] at k1
      refine iteF ?_
      refine ⟨_, rfl, _, rfl, p, _, rfl, .inr (Cm.Same.set s1 hp), rfl, svs_flat _, ?_⟩
      rw [← inV_svs] at k1
      exact k1
end
end My

namespace My
open PySem L2 Cm LM
section
variable {P : Program} {w : World} {K : PySem.W.Frag} {mg : Str → Option Value} {base : Heap}
/-! ### are_words -/
def spAW (K : PySem.W.Frag) : Sp := fun vs H Q _ => ∃ (a p : Addr) (ws ss : List Str), vs = [.ref a, .ref p] ∧ BdW ws ∧ SqT K H a (svs ws) ∧ SqT K H p (svs ss) ∧ ∀ H' : Hp, Same H H' → Q (.bl (areWords ws ss)) H'
theorem scAW : FnScope ["words", "steps", "word"] ["words", "steps"] (defScope sAW) := ⟨rfl, rfl, rfl, by decide +kernel, rfl, by decide +kernel, by decide +kernel⟩
theorem ok_aw (T : TxL K mg) : FnOk P w K mg base CX0 2 T.aw.f T.aw.fd ["words", "steps"] (spAW K) := by
  have G1 : FnOk P w K mg base CX0 1 T.iw.f T.iw.fd ["word", "steps"] (spIW K) := ok_iw T
  refine T.aw.F.ok scAW (fun vs H Q E h => ?_) (fun cdv A outer s H vs Q E hr h => ?_)
  · obtain ⟨a, p, ws, ss, rfl, _⟩ := h
    rfl
  · obtain ⟨a, p, ws, ss, rfl, bd, ha, hp, k⟩ := h
    refine ⟨_, pss_one (ps_ret (pe_callB (cr_all rfl) (by rfl) T.all (by decide +kernel) (pa_cons (pe_lc (own := [("word", 2)]) (g := gName 2) (tt := tYes) (te := tCall (spIW K) [] E0 (tCons (tVar 2) (tCons (tVar 1) tNil))) rfl scAW.nd (pi_tup (pv 0))
      (blkOk_by (own := [("word", 2)]) (N := ["words", "steps", "word"]) (sc := defScope sAW) (by decide +kernel)) (fun _ _ _ _ _ => pg_name (i := 2) scAW.nd rfl (Or.inl rfl)) (fun _ _ _ _ _ => pts_nil)
      (fun _ _ _ _ _ => by exact pe_call G1 hr rfl T.iw.g T.iw.k T.iw.b .nil pass0 (pa_cons (pv 2) (pa_cons (pv 1) pa_nil)))) pa_nil))), ?_⟩
    refine ⟨_, rfl, a, rfl, ⟨_, ha⟩, fun D nD => lc_tup (K := K) (a := a) (xs := svs ws) (fun i H' => Same H H' ∧ H' D = some (.lst (((ws.take i).map fun z => isWord z ss).map V.bl))) ⟨same_new nD, upd_same⟩ (fun i H' _ ⟨s', _⟩ => Cm.Same.set s' ha) ?_ ?_⟩
    · rintro i x H' hx ⟨s', hD⟩
      obtain ⟨z, hz, rfl⟩ := svs_get hx
      refine ⟨rfl, _, rfl, _, rfl, z, p, ss, rfl, bd.1 z (List.mem_of_getElem? hz), Cm.Same.set s' hp, fun H2 s2 => ?_⟩
      refine ⟨_, s2 _ _ hD, szM ?_, fun b o q => ?_, ?_⟩
      · rw [List.length_map, List.length_map, List.length_take]
        have := bd.2
        omega
      · rw [upd_ne (ne_of_none q nD)]
        exact s2 _ _ (s' _ _ q)
      · rw [upd_same, take_snoc hz]
        simp
    · rintro H' ⟨s', hD⟩
      have e : (svs ws).length = ws.length := List.length_map ..
      rw [e, List.take_length] at hD
      refine ⟨D, ws.map fun z => isWord z ss, rfl, SqL.of hD, ?_⟩
      have k1 := k H' s'
      unfold areWords at k1
      rw [List.all_map]
      exact k1
/-! ### is_round -/
def spIR (K : PySem.W.Frag) : Sp := fun vs H Q _ => ∃ (a : Addr) (ws : List Str), vs = [.ref a] ∧ ws ≠ [] ∧ BdW ws ∧ SqT K H a (svs ws) ∧ ∀ H' : Hp, Same H H' → Q (.bl (isRound ws)) H'
theorem scIR : FnScope ["words", "adding", "word"] ["words"] (defScope sIR) := ⟨rfl, rfl, rfl, by decide +kernel, rfl, by decide +kernel, by decide +kernel⟩
def ttAdd (K : PySem.W.Frag) : TT := tTest (tOp rEq (tOp (rIxT K) (tCall spOO [] E0 (tCons (tVar 2) tNil)) (tC (.int 1))) (tC (.str "add")))
theorem ok_ir (T : TxL K mg) : FnOk P w K mg base CX0 3 T.ir.f T.ir.fd ["words"] (spIR K) := by
  have GO : FnOk P w K mg base CX0 1 T.oo.f T.oo.fd ["word"] spOO := ok_oo T
  have GA : FnOk P w K mg base CX0 2 T.aw.f T.aw.fd ["words", "steps"] (spAW K) := ok_aw T
  obtain ⟨tm, mr⟩ := T.mr
  refine T.ir.F.ok scIR (fun vs H Q E h => ?_) (fun cdv A outer s H vs Q E hr h => ?_)
  · obtain ⟨a, ws, rfl, _⟩ := h
    rfl
  · obtain ⟨a, ws, rfl, ne, bd, ha, k⟩ := h
    have hr1 : Room 1 _ := hr.mono (by decide)
    refine ⟨_, pss_cons (ps_if (PW.pt (pw_or (pt_cmpR op_ne (pe_ix ix_tup (pv 0) pe_int (fun _ _ => rfl)) pe_str (nomark _)) (pw_or1 (pt_cmpR op_gt (pe_callB call_len_seq (by rfl) T.len PySem.boot_len (pa_cons (pv 0) pa_nil)) (pe_glob (v := .int 12) rfl mr ⟨_, rfl⟩) (nomark _))))) (pss_one (ps_ret pe_bl)) pss_nil)
      (pss_cons (ps_setLc (i := 1) (own := [("word", 2)]) (g := gName 2) (tt := ttAdd K) (te := tVar 2) rfl scIR.nd rfl rfl (sw_true rfl rfl rfl (by decide +kernel)) (pi_tup (pv 0)) (blkOk_by (own := [("word", 2)]) (N := ["words", "adding", "word"]) (sc := defScope sIR) (by decide +kernel)) (fun _ _ _ _ _ => pg_name (i := 2) scIR.nd rfl (Or.inl rfl))
          (fun _ _ _ _ _ => by exact pts_one (pt_cmpR op_eq (pe_ix ix_tup (pe_call (E := E0) GO hr1 rfl T.oo.g T.oo.k T.oo.b .nil pass0 (pa_cons (pv 2) pa_nil)) pe_int (fun _ _ => rfl)) pe_str (nomark _))) (fun _ _ _ _ _ => pv 2))
      (pss_one (ps_ret (pe_and (pe_cmpR op_le (pe_callB call_len_seq (by rfl) T.len PySem.boot_len (pa_cons (pv 1) pa_nil)) pe_int (nomark _)) (pe_one (pe_call GA hr rfl T.aw.g T.aw.k T.aw.b .nil pass0 (pa_cons (pe_slice sl_tupA (pv 0) (po_some pe_int) po_none) (pa_cons (pe_glob (v := .ref T.pR) rfl T.gR rfl) pa_nil))))))))
      , ?_⟩
    obtain ⟨w0, r, rfl⟩ : ∃ w0 r, ws = w0 :: r := by
      cases ws with
      | nil => exact absurd rfl ne
      | cons w0 r => exact ⟨w0, r, rfl⟩
    refine ⟨_, rfl, a, _, 0, .str w0, rfl, rfl, ha, (show atI (svs (w0 :: r)) ((0 : Nat) : Int) = some (V.str w0) from atI_nat rfl), rfl, _, rfl, ?_⟩
    unfold isRound at k
    rw [dS]
    by_cases h0 : w0 = "ask"
    · subst h0
      rw [show decide ((("ask" : Str) :: r).head? = some "ask") = true from decide_eq_true rfl, Bool.true_and] at k
      rw [decide_eq_true rfl]
      refine iteF ?_
      refine ⟨_, rfl, a, _, rfl, .inr ha, _, _, rfl, rfl, _, rfl, ?_⟩
      have el : (svs ((("ask" : Str)) :: r)).length = ((("ask" : Str)) :: r).length := List.length_map ..
      rw [el]
      by_cases h12 : ((("ask" : Str)) :: r).length ≤ 12
      · rw [decide_eq_false (show ¬ ((12 : Int) < ((("ask" : Str) :: r).length : Int)) by omega)]
        rw [decide_eq_true h12, Bool.true_and] at k
        refine iteF ?_
        refine ⟨_, rfl, a, rfl, ⟨_, ha⟩, fun D nD => lc_tup (K := K) (a := a) (xs := svs (("ask" : Str) :: r)) (fun i H' => Same H H' ∧ H' D = some (.lst (svs (((("ask" : Str) :: r).take i).filter isAdd)))) ⟨same_new nD, upd_same⟩ (fun i H' _ ⟨s', _⟩ => Cm.Same.set s' ha) ?_ ?_⟩
        · rintro i x H' hx ⟨s', hD⟩
          obtain ⟨z, hz, rfl⟩ := svs_get hx
          refine ⟨rfl, _, rfl, z, rfl, bd.1 z (List.mem_of_getElem? hz), fun H2 p s2 np hp => ?_⟩
          refine ⟨p, _, 1, _, rfl, rfl, SqT.of hp, rfl, rfl, _, rfl, ?_⟩
          rw [dS]
          have ed : decide ((orderOf z).2 = "add") = isAdd z := rfl
          rw [ed]
          rw [take_snoc hz, List.filter_append]
          cases hc : isAdd z with
          | true =>
            refine iteT ?_
            refine ⟨_, rfl, _, s2 _ _ hD, szM ?_, fun b o q => ?_, ?_⟩
            · rw [show (svs (List.filter isAdd (List.take i (("ask" : Str) :: r)))).length = _ from List.length_map ..]
              have := List.length_filter_le isAdd (List.take i (("ask" : Str) :: r))
              rw [List.length_take] at this
              have := bd.2
              omega
            · rw [upd_ne (ne_of_none q nD)]
              exact s2 _ _ (s' _ _ q)
            · rw [upd_same]
              simp [svs, hc]
          | false =>
            refine iteF ?_
            refine ⟨Same.trans s' s2, ?_⟩
            rw [s2 _ _ hD]
            simp [hc]
        · rintro H' ⟨s', hD⟩
          rw [el, List.take_length] at hD
          refine ⟨_, rfl, D, _, rfl, .inl (SqL.of hD), _, _, rfl, rfl, _, rfl, ?_⟩
          have ef : (svs (List.filter isAdd (("ask" : Str) :: r))).length = (List.filter isAdd (("ask" : Str) :: r)).length := List.length_map ..
          rw [ef]
          by_cases h1 : (List.filter isAdd (("ask" : Str) :: r)).length ≤ 1
          · rw [decide_eq_true (show (((List.filter isAdd (("ask" : Str) :: r)).length : Int) ≤ 1) by omega)]
            rw [decide_eq_true h1, Bool.true_and] at k
            refine iteT ?_
            have cut : cutV (svs (("ask" : Str) :: r)) (some 1) none = svs r := by
              unfold cutV
              rw [HT.sIx_none, show (some (1 : Int)) = some ((1 : Nat) : Int) from rfl, HT.sIx_nat, el]
              simp [svs]
              exact List.take_of_length_le (by simp)
            refine ⟨_, rfl, 1, rfl, a, _, rfl, Cm.Same.set s' ha, fun z => ?_, fun _ p np => ?_⟩
            · exfalso
              have := z.1
              rw [show (some (1 : Int)) = some ((1 : Nat) : Int) from rfl, HT.sIx_nat, el] at this
              simp at this
            · rw [cut]
              refine ⟨p, T.pR, r, rsteps, rfl, ⟨fun z hz => bd.1 z (List.mem_cons_of_mem _ hz), ?_⟩, SqT.of upd_same, T.lR _, fun H2 s2 => ?_⟩
              · have := bd.2
                rw [List.length_cons] at this
                omega
              · exact k _ (Same.trans s' (Same.trans (same_new np) s2))
          · rw [decide_eq_false (show ¬ (((List.filter isAdd (("ask" : Str) :: r)).length : Int) ≤ 1) by omega)]
            rw [decide_eq_false h1, Bool.false_and] at k
            exact iteF (k H' s')
      · rw [decide_eq_true (show ((12 : Int) < ((("ask" : Str) :: r).length : Int)) by omega)]
        rw [decide_eq_false h12, Bool.false_and] at k
        exact iteT (k H (Same.refl _))
    · rw [decide_eq_false h0]
      rw [show decide ((w0 :: r).head? = some "ask") = false from decide_eq_false (fun z => h0 (Option.some.inj z)), Bool.false_and] at k
      exact iteT (iteT (k H (Same.refl _)))
/-! ### is_ending -/
def spIE (K : PySem.W.Frag) : Sp := fun vs H Q _ => ∃ (a : Addr) (ws : List Str), vs = [.ref a] ∧ BdW ws ∧ SqT K H a (svs ws) ∧ ∀ H' : Hp, Same H H' → Q (.bl (isEnding ws)) H'
theorem scIE : FnScope ["words"] ["words"] (defScope sIE) := ⟨rfl, rfl, rfl, by decide +kernel, rfl, by decide +kernel, by decide +kernel⟩
theorem ok_ie (T : TxL K mg) : FnOk P w K mg base CX0 3 T.ie.f T.ie.fd ["words"] (spIE K) := by
  have GA : FnOk P w K mg base CX0 2 T.aw.f T.aw.fd ["words", "steps"] (spAW K) := ok_aw T
  obtain ⟨tm, me⟩ := T.me
  refine T.ie.F.ok scIE (fun vs H Q E h => ?_) (fun cdv A outer s H vs Q E hr h => ?_)
  · obtain ⟨a, ws, rfl, _⟩ := h
    rfl
  · obtain ⟨a, ws, rfl, bd, ha, k⟩ := h
    refine ⟨_, pss_one (ps_ret (pe_and (pe_cmpR op_le (pe_callB call_len_seq (by rfl) T.len PySem.boot_len (pa_cons (pv 0) pa_nil)) (pe_glob (v := .int 6) rfl me ⟨_, rfl⟩) (nomark _)) (pe_one (pe_call GA hr rfl T.aw.g T.aw.k T.aw.b .nil pass0 (pa_cons (pv 0) (pa_cons (pe_glob (v := .ref T.pE) rfl T.gE rfl) pa_nil)))))), ?_⟩
    refine ⟨_, rfl, a, _, rfl, .inr ha, _, _, rfl, rfl, _, rfl, ?_⟩
    have el : (svs ws).length = ws.length := List.length_map ..
    rw [el]
    unfold isEnding at k
    by_cases h6 : ws.length ≤ 6
    · rw [decide_eq_true (show ((ws.length : Int) ≤ 6) by omega)]
      rw [decide_eq_true h6, Bool.true_and] at k
      exact iteT ⟨_, rfl, a, T.pE, ws, esteps, rfl, bd, ha, T.lE _, k⟩
    · rw [decide_eq_false (show ¬ ((ws.length : Int) ≤ 6) by omega)]
      rw [decide_eq_false h6, Bool.false_and] at k
      exact iteF (k H (Same.refl _))
end
end My

/-! the class Loop: its making -/
namespace My
open PySem L2 Cm LM
abbrev sLI : Stmt := inClass (top 31) 0
section
variable {P : Program} {w : World} {K : PySem.W.Frag} {mg : Str → Option Value} {base : Heap}
/-! ### loops as objects -/
def lf (t : Str) (pr pe po pq : Addr) : List (Str × V) := putF "ending_orders" (.ref pq) (putF "round_orders" (.ref po) (putF "ending" (.ref pe) (putF "round" (.ref pr) (putF "text" (.str t) []))))
theorem lf_text (t : Str) (pr pe po pq : Addr) : (lf t pr pe po pq).lookup ("text" : Str) = some (.str t) := by
  unfold lf
  rw [lookup_putF, if_neg (by decide +kernel), lookup_putF, if_neg (by decide +kernel), lookup_putF, if_neg (by decide +kernel), lookup_putF, if_neg (by decide +kernel), lookup_putF, if_pos rfl]
theorem lf_round (t : Str) (pr pe po pq : Addr) : (lf t pr pe po pq).lookup ("round" : Str) = some (.ref pr) := by
  unfold lf
  rw [lookup_putF, if_neg (by decide +kernel), lookup_putF, if_neg (by decide +kernel), lookup_putF, if_neg (by decide +kernel), lookup_putF, if_pos rfl]
theorem lf_ending (t : Str) (pr pe po pq : Addr) : (lf t pr pe po pq).lookup ("ending" : Str) = some (.ref pe) := by
  unfold lf
  rw [lookup_putF, if_neg (by decide +kernel), lookup_putF, if_neg (by decide +kernel), lookup_putF, if_pos rfl]
theorem lf_ro (t : Str) (pr pe po pq : Addr) : (lf t pr pe po pq).lookup ("round_orders" : Str) = some (.ref po) := by
  unfold lf
  rw [lookup_putF, if_neg (by decide +kernel), lookup_putF, if_pos rfl]
theorem lf_eo (t : Str) (pr pe po pq : Addr) : (lf t pr pe po pq).lookup ("ending_orders" : Str) = some (.ref pq) := by
  unfold lf
  rw [lookup_putF, if_pos rfl]
theorem lf_no (t : Str) (pr pe po pq : Addr) {m : Str} (h1 : ¬ m = "ending_orders") (h2 : ¬ m = "round_orders") (h3 : ¬ m = "ending") (h4 : ¬ m = "round") (h5 : ¬ m = "text") : (lf t pr pe po pq).lookup m = none := by
  unfold lf
  rw [lookup_putF, if_neg h1, lookup_putF, if_neg h2, lookup_putF, if_neg h3, lookup_putF, if_neg h4, lookup_putF, if_neg h5]
  rfl
/-- rows of pairs of texts -/
inductive Prs (H : Hp) : List V → List (Str × Str) → Prop
  | nil : Prs H [] []
  | cons {p : Addr} {o : Str × Str} {xs : List V} {os : List (Str × Str)} (h : H p = some (.tup [.str o.1, .str o.2])) (t : Prs H xs os) : Prs H (.ref p :: xs) (o :: os)
theorem Prs.mono {H H' : Hp} (f : ∀ (p : Addr) (xs : List V), H p = some (.tup xs) → H' p = some (.tup xs)) : ∀ {xs os}, Prs H xs os → Prs H' xs os
  | _, _, .nil => .nil
  | _, _, .cons h t => .cons (f _ _ h) (t.mono f)
theorem Prs.same {H H' : Hp} (s : Same H H') {xs os} (h : Prs H xs os) : Prs H' xs os := h.mono fun _ _ q => s _ _ q
theorem Prs.snoc {H : Hp} {p : Addr} {o : Str × Str} (h : H p = some (.tup [.str o.1, .str o.2])) : ∀ {xs os}, Prs H xs os → Prs H (xs ++ [.ref p]) (os ++ [o])
  | _, _, .nil => .cons h .nil
  | _, _, .cons a t => .cons a (t.snoc h)
theorem Prs.len {H : Hp} : ∀ {xs os}, Prs H xs os → xs.length = os.length
  | _, _, .nil => rfl
  | _, _, .cons _ t => congrArg (· + 1) t.len
def Ords (H : Hp) (p : Addr) (ws : List Str) : Prop := ∃ xs, H p = some (.tup xs) ∧ Prs H xs (ws.map orderOf)
/-- a loop of this text stands at o -/
def LoopAt (C : Addr) (H : Hp) (o : Addr) (t : Str) : Prop := ∃ dx pr pe po pq, H o = some (.ins C dx (lf t pr pe po pq)) ∧ H pr = some (.tup (svs (wordsR t))) ∧ H pe = some (.tup (svs (wordsE t))) ∧ Ords H po (wordsR t) ∧ Ords H pq (wordsE t)
theorem Ords.mono {H H' : Hp} (f : ∀ (p : Addr) (xs : List V), H p = some (.tup xs) → H' p = some (.tup xs)) {p : Addr} {ws : List Str} (h : Ords H p ws) : Ords H' p ws := let ⟨xs, e, q⟩ := h; ⟨xs, f _ _ e, q.mono f⟩
theorem LoopAt.same {C : Addr} {H H' : Hp} {o : Addr} {t : Str} (s : Same H H') (h : LoopAt C H o t) : LoopAt C H' o t := let ⟨dx, pr, pe, po, pq, a, b, c, d, e⟩ := h; ⟨dx, pr, pe, po, pq, s _ _ a, s _ _ b, s _ _ c, d.mono fun _ _ z => s _ _ z, e.mono fun _ _ z => s _ _ z⟩
theorem LoopAt.off {C j : Addr} {H H' : Hp} {o : Addr} {t : Str} (s : Off j H H') (hj : Jar H j) (h : LoopAt C H o t) : LoopAt C H' o t := by
  obtain ⟨x, y, z, hj⟩ := hj
  have f : ∀ (p : Addr) (xs : List V), H p = some (.tup xs) → H' p = some (.tup xs) := fun p xs e => s _ _ (ne_of e hj (by intro z; cases z)) e
  obtain ⟨dx, pr, pe, po, pq, a, b, c, d, e⟩ := h
  exact ⟨dx, pr, pe, po, pq, s _ _ (ne_of a hj (by intro z; cases z)) a, f _ _ b, f _ _ c, d.mono f, e.mono f⟩
/-! ### the text of the class -/
structure TxC (K : PySem.W.Frag) (mg : Str → Option Value) where
  L : TxL K mg
  E : TxE K mg
  isi : mg "isinstance" = none
  str : mg "str" = none
  C : Addr
  gC : mg "Loop" = some (.ref C)
  cl : Cls K C
  nT : NoAttr K C "text"
  nR : NoAttr K C "round"
  nE : NoAttr K C "ending"
  nO : NoAttr K C "round_orders"
  nQ : NoAttr K C "ending_orders"
  fI : Addr
  fdI : FuncData
  FI : Fun K "__init__" "Loop.__init__" sLI fI fdI
  bI : Binds K fdI ["self", "text"] []
  MI : Mk K C fI
/-- v makes a loop -/
def good : V → Bool
  | .str t => goodText t
  | _ => false
def BdV : V → Prop
  | .str t => Bd t
  | _ => True
def spLI (K : PySem.W.Frag) (C CE : Addr) : Sp := fun vs H Q E => ∃ (x dx : Addr) (v : V), vs = [.ref x, v] ∧ H x = some (.ins C dx []) ∧ Typed K H v ∧ BdV v ∧
  (∀ t, v = .str t → goodText t = true → ∀ H' : Hp, Off x H H' → LoopAt C H' x t → Q .non H') ∧
  (good v = false → ∀ (H' : Hp) (d : Addr), Same H H' → H' d = none → E (.ref CE) (some d) (upd H' d (.xd [("value", v)])))
theorem scLI : FnScope ["self", "text", "first_words", "last_words", "word"] ["self", "text"] (defScope sLI) := ⟨rfl, rfl, rfl, by decide +kernel, rfl, by decide +kernel, by decide +kernel⟩
/-- [order_of(word) for word in words] -/
theorem ords_lc {K : PySem.W.Frag} {σ : St} {H1 : Hp} {D a : Addr} {ws : List Str} {Qd : Hp → Prop} (h4 : ∀ v, ((wipe σ [4]).set 4 (some v))[4]? = some (some v) ∧ wipe ((wipe σ [4]).set 4 (some v)) [4] = wipe σ [4])
    (ha : H1 a = some (.tup (svs ws))) (bd : BdW ws) (nD : H1 D = none) (hd : ∀ (H' : Hp) (xs : List V), Same H1 H' → H' D = some (.lst xs) → Prs H' xs (ws.map orderOf) → Qd H') :
    ∃ W : Nat → Nat → Hp → Prop, (∃ m, W 0 m (upd H1 D (.lst []))) ∧ ∀ (i m : Nat) (H : Hp), W i m H →
      ((Itt K a).stop i H ∧ Qd H) ∨ ((Itt K a).go i H ∧ ∃ Nx : Hp → Prop, (∀ H', Nx H' → ∃ m', m' < m ∧ W (i + 1) m' H') ∧ ∀ (x : V) (H' : Hp), (Itt K a).yld i H x H' → gName 4 x (wipe σ [4]) H' fun σ2 H2 => wipe σ2 [4] = wipe σ [4] ∧ tYes σ2 H2 fun b H3 =>
        if b = true then tCall spOO [] E0 (tCons (tVar 4) tNil) σ2 H3 fun y H4 => ∃ acc, H4 D = some (.lst acc) ∧ acc.length < sizeLine ∧ Nx (upd H4 D (.lst (acc ++ [y]))) else Nx H3) := by
  refine lc_tup (K := K) (a := a) (xs := svs ws) (fun i H' => Same H1 H' ∧ ∃ acc, H' D = some (.lst acc) ∧ Prs H' acc ((ws.take i).map orderOf)) ⟨same_new nD, [], upd_same, .nil⟩ (fun i H' _ ⟨s, _⟩ => SqT.of (s _ _ ha)) ?_ ?_
  · rintro i x H' hx ⟨s, acc, hD, hP⟩
    obtain ⟨z, hz, rfl⟩ := svs_get hx
    obtain ⟨z4, zw⟩ := h4 (.str z)
    refine ⟨zw, _, z4, z, rfl, bd.1 z (List.mem_of_getElem? hz), fun H2 p s2 np hp => ?_⟩
    have hD2 := s2 _ _ hD
    have st := tup_stays (o' := .lst (acc ++ [.ref p])) hD2 (by intro xs z; cases z)
    have la := hP.len
    rw [List.length_map, List.length_take] at la
    have := bd.2
    refine ⟨acc, hD2, szM (by omega), fun b o q => ?_, _, upd_same, ?_⟩
    · rw [upd_ne (ne_of_none q nD)]
      exact s2 _ _ (s _ _ q)
    · rw [take_snoc hz, List.map_append]
      exact Prs.snoc (st _ _ hp) ((hP.same s2).mono st)
  · rintro H' ⟨s, acc, hD, hP⟩
    have e : (svs ws).length = ws.length := List.length_map ..
    rw [e, List.take_length] at hP
    exact hd H' acc s hD hP
theorem ok_li (T : TxC K mg) : FnOk P w K mg base (L2.CX P w) 4 T.fI T.fdI ["self", "text"] (spLI K T.C T.E.C) := by
  have GW : FnOk P w K mg base CX0 1 T.L.wo.f T.L.wo.fd ["text"] spWO := ok_wo T.L
  have GO : FnOk P w K mg base CX0 1 T.L.oo.f T.L.oo.fd ["word"] spOO := ok_oo T.L
  have GR : FnOk P w K mg base CX0 3 T.L.ir.f T.L.ir.fd ["words"] (spIR K) := ok_ir T.L
  have GN : FnOk P w K mg base CX0 3 T.L.ie.f T.L.ie.fd ["words"] (spIE K) := ok_ie T.L
  have GE : FnOk P w K mg base CX0 1 T.E.f T.E.fd ["self", "value"] (spEI T.E.C) := ok_ei T.E
  refine T.FI.okX scLI (fun vs H Q E h => ?_) (fun cdv A outer s H vs Q E hr h => ?_)
  · obtain ⟨x, dx, v, rfl, _⟩ := h
    rfl
  · obtain ⟨x, dx, v, rfl, hx, ⟨t, ty, kt⟩, bd, kg, kb⟩ := h
    have hr1 : Room 1 _ := hr.mono (by decide)
    have hr2 : Room 2 _ := hr.mono (by decide)
    have ps : Bool := true
    refine ⟨_, pss_cons (ps_if (pt_not (pt_val (pe_callB call_isi (by rfl) T.isi (by decide +kernel) (pa_cons (pv 1) (pa_cons (pe_bltn (v := .ty "str") (by rfl) T.str (by decide +kernel) rfl) pa_nil))))) (pss_one (ps_raise rfl (takes_of rfl rfl rfl rfl) (pmk_oex T.E.o T.E.i T.E.t GE hr2 T.E.b .nil pass0 rfl T.E.g (pa_cons (pv 1) pa_nil)))) pss_nil)
      (pss_cons (ps_asg (pe_call GW hr1 rfl T.L.wo.g T.L.wo.k T.L.wo.b .nil pass0 (pa_cons (pv 1) pa_nil)) (pg_tup rfl (pgs_cons (pg_name (i := 2) scLI.nd rfl (.inl rfl)) (pgs_cons (pg_name (i := 3) scLI.nd rfl (.inl rfl)) pgs_nil))))
      (pss_cons (ps_if (PW.pt (pw_or (pt_not (pt_val (pe_call GR hr rfl T.L.ir.g T.L.ir.k T.L.ir.b .nil pass0 (pa_cons (pv 2) pa_nil)))) (pw_or1 (pt_not (pt_val (pe_call GN hr rfl T.L.ie.g T.L.ie.k T.L.ie.b .nil pass0 (pa_cons (pv 3) pa_nil)))))))
          (pss_one (ps_raise rfl (takes_of rfl rfl rfl rfl) (pmk_oex T.E.o T.E.i T.E.t GE hr2 T.E.b .nil pass0 rfl T.E.g (pa_cons (pv 1) pa_nil)))) pss_nil)
      (pss_cons (ps_fld (pv 0) (pv 1) rfl) (pss_cons (ps_fld (pv 0) (pv 2) rfl) (pss_cons (ps_fld (pv 0) (pv 3) rfl)
      (pss_cons (ps_fld (pv 0) (pe_callTy call_tuple_of (by rfl) T.L.tuple (by decide +kernel) (pa_cons (pe_lc (own := [("word", 4)]) (g := gName 4) (tt := tYes) (te := tCall spOO [] E0 (tCons (tVar 4) tNil)) rfl scLI.nd (pi_tup (pv 2)) (blkOk_by (own := [("word", 4)]) (N := ["self", "text", "first_words", "last_words", "word"]) (sc := defScope sLI) (by decide +kernel))
          (fun _ _ _ _ _ => pg_name (i := 4) scLI.nd rfl (Or.inl rfl)) (fun _ _ _ _ _ => pts_nil) (fun _ _ _ _ _ => by exact pe_call GO hr1 rfl T.L.oo.g T.L.oo.k T.L.oo.b .nil pass0 (pa_cons (pv 4) pa_nil))) pa_nil)) rfl)
      (pss_one (ps_fld (pv 0) (pe_callTy call_tuple_of (by rfl) T.L.tuple (by decide +kernel) (pa_cons (pe_lc (own := [("word", 4)]) (g := gName 4) (tt := tYes) (te := tCall spOO [] E0 (tCons (tVar 4) tNil)) rfl scLI.nd (pi_tup (pv 3)) (blkOk_by (own := [("word", 4)]) (N := ["self", "text", "first_words", "last_words", "word"]) (sc := defScope sLI) (by decide +kernel))
          (fun _ _ _ _ _ => pg_name (i := 4) scLI.nd rfl (Or.inl rfl)) (fun _ _ _ _ _ => pts_nil) (fun _ _ _ _ _ => by exact pe_call GO hr1 rfl T.L.oo.g T.L.oo.k T.L.oo.b .nil pass0 (pa_cons (pv 4) pa_nil))) pa_nil)) rfl)))))))), ?_⟩
    refine ⟨_, rfl, _, _, _, _, isS v, rfl, .ty "str", ty, kt, _, rfl, ?_⟩
    cases hs : isS v with
    | false =>
      refine iteT ?_
      have gv : good v = false := by
        cases v <;> first | rfl | cases hs
      exact mk_err (x := v) ⟨v, rfl, rfl, rfl⟩ (fun {R R'} ⟨v, e1, q⟩ f => ⟨v, e1, f _ _ q⟩) (kb gv H · (Same.refl _))
    | true =>
      obtain ⟨t, rfl⟩ : ∃ t, v = .str t := by
        cases v <;> first | exact ⟨_, rfl⟩ | cases hs
      have bd : Bd t := bd
      have kg := kg t rfl
      refine iteF ?_
      refine ⟨_, rfl, t, rfl, bd, fun H1 p a b s1 hp ha hb => ?_⟩
      refine ⟨p, _, rfl, SqT.of hp, rfl, _, _, rfl, _, _, rfl, rfl, ?_⟩
      have bR : BdW (wordsR t) := ⟨fun z hz => Nat.le_trans (wordsR_word hz) bd, Nat.le_trans (wordsR_len t) (by unfold Bd at bd; omega)⟩
      have bE : BdW (wordsE t) := ⟨fun z hz => Nat.le_trans (wordsE_word hz) bd, Nat.le_trans (wordsE_len t) (by unfold Bd at bd; omega)⟩
      refine ⟨_, rfl, a, wordsR t, rfl, wordsR_ne t, bR, SqT.of ha, fun H2 s2 => ?_⟩
      have gt : goodText t = (isRound (wordsR t) && isEnding (wordsE t)) := rfl
      have gv : good (.str t) = goodText t := rfl
      rw [gv] at kb
      refine ⟨_, rfl, ?_⟩
      cases h1 : isRound (wordsR t) with
      | false =>
        rw [gt, h1] at kb
        refine iteT (iteT ?_)
        exact mk_err (x := .str t) ⟨.str t, rfl, rfl, rfl⟩ (fun {R R'} ⟨v, e1, q⟩ f => ⟨v, e1, f _ _ q⟩) (kb rfl H2 · (Same.trans s1 s2))
      | true =>
        refine iteF ?_
        refine ⟨_, rfl, b, wordsE t, rfl, bE, SqT.of (s2 _ _ hb), fun H3 s3 => ?_⟩
        refine ⟨_, rfl, ?_⟩
        have s13 := Same.trans s1 (Same.trans s2 s3)
        cases h2 : isEnding (wordsE t) with
        | false =>
          rw [gt, h1, h2] at kb
          refine iteT ?_
          exact mk_err (x := .str t) ⟨.str t, rfl, rfl, rfl⟩ (fun {R R'} ⟨v, e1, q⟩ f => ⟨v, e1, f _ _ q⟩) (kb rfl H3 · s13)
        | true =>
          have kg := kg (by rw [gt, h1, h2]; rfl)
          refine iteF ?_
          have hx3 := s13 _ _ hx
          have ha3 := s3 _ _ (s2 _ _ ha)
          have hb3 := s3 _ _ (s2 _ _ hb)
          have o3 : Off x H H3 := Same.off s13
          clear s1 s2 s3 hp ha hb hx kb s13
          -- text
          refine ⟨_, rfl, _, rfl, x, T.C, dx, _, rfl, hx3, T.cl, T.nT, (by show 0 < 1000; decide), ?_⟩
          have st := tup_stays (o' := .ins T.C dx (putF "text" (.str t) [])) hx3 (by intro xs z; cases z)
          have hx4 : (upd H3 x (.ins T.C dx (putF "text" (.str t) []))) x = some (.ins T.C dx (putF "text" (.str t) [])) := upd_same
          have ha4 := st _ _ ha3
          have hb4 := st _ _ hb3
          have o4 : Off x H (upd H3 x (.ins T.C dx (putF "text" (.str t) []))) := o3.put
          generalize upd H3 x (.ins T.C dx (putF "text" (.str t) [])) = H4 at hx4 ha4 hb4 o4 ⊢
          clear st ha3 hb3 o3 hx3
          -- round
          refine ⟨_, rfl, _, rfl, x, T.C, dx, _, rfl, hx4, T.cl, T.nR, (by show 1 < 1000; decide), ?_⟩
          have st := tup_stays (o' := .ins T.C dx (putF "round" (.ref a) (putF "text" (.str t) []))) hx4 (by intro xs z; cases z)
          have hx5 : (upd H4 x (.ins T.C dx (putF "round" (.ref a) (putF "text" (.str t) [])))) x = some (.ins T.C dx (putF "round" (.ref a) (putF "text" (.str t) []))) := upd_same
          have ha5 := st _ _ ha4
          have hb5 := st _ _ hb4
          have o5 : Off x H (upd H4 x (.ins T.C dx (putF "round" (.ref a) (putF "text" (.str t) [])))) := o4.put
          generalize upd H4 x (.ins T.C dx (putF "round" (.ref a) (putF "text" (.str t) []))) = H5 at hx5 ha5 hb5 o5 ⊢
          clear st ha4 hb4 o4 hx4
          -- ending
          refine ⟨_, rfl, _, rfl, x, T.C, dx, _, rfl, hx5, T.cl, T.nE, Nat.lt_of_le_of_lt (putF_len _ _ _) (Nat.lt_of_le_of_lt (Nat.add_le_add_right (putF_len _ _ _) 1) (by decide)), ?_⟩
          have st := tup_stays (o' := .ins T.C dx (putF "ending" (.ref b) (putF "round" (.ref a) (putF "text" (.str t) [])))) hx5 (by intro xs z; cases z)
          have hx6 : (upd H5 x (.ins T.C dx (putF "ending" (.ref b) (putF "round" (.ref a) (putF "text" (.str t) []))))) x = some (.ins T.C dx (putF "ending" (.ref b) (putF "round" (.ref a) (putF "text" (.str t) [])))) := upd_same
          have ha6 := st _ _ ha5
          have hb6 := st _ _ hb5
          have o6 : Off x H (upd H5 x (.ins T.C dx (putF "ending" (.ref b) (putF "round" (.ref a) (putF "text" (.str t) []))))) := o5.put
          generalize upd H5 x (.ins T.C dx (putF "ending" (.ref b) (putF "round" (.ref a) (putF "text" (.str t) [])))) = H6 at hx6 ha6 hb6 o6 ⊢
          clear st ha5 hb5 o5 hx5
          -- round_orders
          refine ⟨_, rfl, a, rfl, ⟨_, SqT.of ha6⟩, fun D nD => ords_lc (K := K) (a := a) (ws := wordsR t) (fun v => ⟨rfl, rfl⟩) ha6 bR nD fun H7 os s7 hD hP => ?_⟩
          refine ⟨D, os, rfl, .inl ⟨SqL.of hD, fun po npo => ?_⟩⟩
          have s8 : Same H6 (upd H7 po (.tup os)) := Same.trans s7 (same_new npo)
          have hpo : (upd H7 po (.tup os)) po = some (.tup os) := upd_same
          have hP8 := hP.same (same_new (o := .tup os) npo)
          refine ⟨_, rfl, x, T.C, dx, _, rfl, s8 _ _ hx6, T.cl, T.nO, Nat.lt_of_le_of_lt (putF_len _ _ _) (Nat.lt_of_le_of_lt (Nat.add_le_add_right (putF_len _ _ _) 1) (Nat.lt_of_le_of_lt (Nat.add_le_add_right (Nat.add_le_add_right (putF_len _ _ _) 1) 1) (by decide))), ?_⟩
          generalize upd H7 po (.tup os) = H8 at s8 hpo hP8 ⊢
          have hx8 := s8 _ _ hx6
          have o8 : Off x H H8 := o6.trans (Same.off s8)
          have ha8 := s8 _ _ ha6
          have hb8 := s8 _ _ hb6
          clear ha6 hb6 o6 hx6 s8 hD hP npo s7 nD
          have st := tup_stays (o' := .ins T.C dx (putF "round_orders" (.ref po) (putF "ending" (.ref b) (putF "round" (.ref a) (putF "text" (.str t) []))))) hx8 (by intro xs z; cases z)
          have hx9 : (upd H8 x (.ins T.C dx (putF "round_orders" (.ref po) (putF "ending" (.ref b) (putF "round" (.ref a) (putF "text" (.str t) [])))))) x = some (.ins T.C dx (putF "round_orders" (.ref po) (putF "ending" (.ref b) (putF "round" (.ref a) (putF "text" (.str t) []))))) := upd_same
          have ha9 := st _ _ ha8
          have hb9 := st _ _ hb8
          have hpo9 : Ords _ po (wordsR t) := ⟨os, st _ _ hpo, hP8.mono st⟩
          have o9 : Off x H (upd H8 x (.ins T.C dx (putF "round_orders" (.ref po) (putF "ending" (.ref b) (putF "round" (.ref a) (putF "text" (.str t) [])))))) := o8.put
          generalize upd H8 x (.ins T.C dx (putF "round_orders" (.ref po) (putF "ending" (.ref b) (putF "round" (.ref a) (putF "text" (.str t) []))))) = H9 at hx9 ha9 hb9 o9 hpo9 ⊢
          clear st ha8 hb8 o8 hx8 hpo hP8
          -- ending_orders
          refine ⟨_, rfl, b, rfl, ⟨_, SqT.of hb9⟩, fun D nD => ords_lc (K := K) (a := b) (ws := wordsE t) (fun v => ⟨rfl, rfl⟩) hb9 bE nD fun H10 os2 s10 hD hP => ?_⟩
          refine ⟨D, os2, rfl, .inl ⟨SqL.of hD, fun pq npq => ?_⟩⟩
          have s11 : Same H9 (upd H10 pq (.tup os2)) := Same.trans s10 (same_new npq)
          have hpq : (upd H10 pq (.tup os2)) pq = some (.tup os2) := upd_same
          have hP11 := hP.same (same_new (o := .tup os2) npq)
          refine ⟨_, rfl, x, T.C, dx, _, rfl, s11 _ _ hx9, T.cl, T.nQ, Nat.lt_of_le_of_lt (putF_len _ _ _) (Nat.lt_of_le_of_lt (Nat.add_le_add_right (putF_len _ _ _) 1) (Nat.lt_of_le_of_lt (Nat.add_le_add_right (Nat.add_le_add_right (putF_len _ _ _) 1) 1) (Nat.lt_of_le_of_lt (Nat.add_le_add_right (Nat.add_le_add_right (Nat.add_le_add_right (putF_len _ _ _) 1) 1) 1) (by decide)))), ?_⟩
          generalize upd H10 pq (.tup os2) = H11 at s11 hpq hP11 ⊢
          have hx11 := s11 _ _ hx9
          have st := tup_stays (o' := .ins T.C dx (lf t a b po pq)) hx11 (by intro xs z; cases z)
          refine kg _ (Off.put (o9.trans (Same.off s11))) ⟨dx, a, b, po, pq, upd_same, st _ _ (s11 _ _ ha9), st _ _ (s11 _ _ hb9), (hpo9.mono fun _ _ z => s11 _ _ z).mono st, os2, st _ _ hpq, hP11.mono st⟩
end
end My

/-! the class Execution -/
namespace My
open PySem L2 Cm LM EM
abbrev sXI : Stmt := inClass (top 19) 0
abbrev sXA : Stmt := inClass (top 19) 1
abbrev sXF : Stmt := inClass (top 19) 3
abbrev sXP : Stmt := inClass (top 19) 4
abbrev sXR : Stmt := inClass (top 19) 5
abbrev sXC : Stmt := inClass (top 19) 6
/-! ### the data -/
def xf (ro eo : Addr) (ak sz : Nat) (h : Addr) (t : Bool) (r p : Addr) (st : Bool) : List (Str × V) := [("round_orders", .ref ro), ("ending_orders", .ref eo), ("size", .int sz), ("held", .ref h), ("told", .bl t), ("kept", .ref r), ("handed", .ref p), ("asked", .int ak), ("over", .bl st)]
section
variable (ro eo h r p h' : Addr) (ak ak' sz : Nat) (t st b : Bool)
theorem xf_ro : (xf ro eo ak sz h t r p st).lookup ("round_orders" : Str) = some (.ref ro) := by kernel_rfl
theorem xf_eo : (xf ro eo ak sz h t r p st).lookup ("ending_orders" : Str) = some (.ref eo) := by kernel_rfl
theorem xf_sz : (xf ro eo ak sz h t r p st).lookup ("size" : Str) = some (.int sz) := by kernel_rfl
theorem xf_h : (xf ro eo ak sz h t r p st).lookup ("held" : Str) = some (.ref h) := by kernel_rfl
theorem xf_t : (xf ro eo ak sz h t r p st).lookup ("told" : Str) = some (.bl t) := by kernel_rfl
theorem xf_r : (xf ro eo ak sz h t r p st).lookup ("kept" : Str) = some (.ref r) := by kernel_rfl
theorem xf_p : (xf ro eo ak sz h t r p st).lookup ("handed" : Str) = some (.ref p) := by kernel_rfl
theorem xf_st : (xf ro eo ak sz h t r p st).lookup ("over" : Str) = some (.bl st) := by kernel_rfl
theorem put_h : putF "held" (.ref h') (xf ro eo ak sz h t r p st) = xf ro eo ak sz h' t r p st := by kernel_rfl
theorem put_t : putF "told" (.bl b) (xf ro eo ak sz h t r p st) = xf ro eo ak sz h b r p st := by kernel_rfl
theorem put_r : putF "kept" (.ref h') (xf ro eo ak sz h t r p st) = xf ro eo ak sz h t h' p st := by kernel_rfl
theorem xf_ak : (xf ro eo ak sz h t r p st).lookup ("asked" : Str) = some (.int ak) := by kernel_rfl
theorem put_ak : putF "asked" (.int ak') (xf ro eo ak sz h t r p st) = xf ro eo ak' sz h t r p st := by kernel_rfl
theorem put_st : putF "over" (.bl b) (xf ro eo ak sz h t r p st) = xf ro eo ak sz h t r p b := by kernel_rfl
theorem xf_mk : putF "over" (.bl st) (putF "asked" (.int ak) (putF "handed" (.ref p) (putF "kept" (.ref r) (putF "told" (.bl t) (putF "held" (.ref h) (putF "size" (.int sz) (putF "ending_orders" (.ref eo) (putF "round_orders" (.ref ro) [])))))))) = xf ro eo ak sz h t r p st := by kernel_rfl
theorem xf_len : (xf ro eo ak sz h t r p st).length = 9 := rfl
theorem xf_noA : (xf ro eo ak sz h t r p st).lookup ("answer" : Str) = none ∧ (xf ro eo ak sz h t r p st).lookup ("finish" : Str) = none ∧ (xf ro eo ak sz h t r p st).lookup ("passes" : Str) = none ∧ (xf ro eo ak sz h t r p st).lookup ("perform" : Str) = none ∧ (xf ro eo ak sz h t r p st).lookup ("cut_off" : Str) = none ∧ (xf ro eo ak sz h t r p st).lookup ("answer_nothing" : Str) = none := ⟨by kernel_rfl, by kernel_rfl, by kernel_rfl, by kernel_rfl, by kernel_rfl, by kernel_rfl⟩
end
/-- rows of pieces -/
inductive Pcs (H : Hp) : List V → List (List Int) → Prop
  | nil : Pcs H [] []
  | cons {q : Addr} {x : List Int} {vs : List V} {xs : List (List Int)} (h : H q = some (.tup (ivs x))) (t : Pcs H vs xs) : Pcs H (.ref q :: vs) (x :: xs)
theorem Pcs.mono {H H' : Hp} (f : ∀ (p : Addr) (xs : List V), H p = some (.tup xs) → H' p = some (.tup xs)) : ∀ {vs xs}, Pcs H vs xs → Pcs H' vs xs
  | _, _, .nil => .nil
  | _, _, .cons h t => .cons (f _ _ h) (t.mono f)
theorem Pcs.snoc {H : Hp} {q : Addr} {x : List Int} (h : H q = some (.tup (ivs x))) : ∀ {vs xs}, Pcs H vs xs → Pcs H (vs ++ [.ref q]) (xs ++ [x])
  | _, _, .nil => .cons h .nil
  | _, _, .cons a t => .cons a (t.snoc h)
theorem Pcs.len {H : Hp} : ∀ {vs xs}, Pcs H vs xs → vs.length = xs.length
  | _, _, .nil => rfl
  | _, _, .cons _ t => congrArg (· + 1) t.len
/-- tuples stay -/
def TS (H H' : Hp) : Prop := ∀ (p : Addr) (xs : List V), H p = some (.tup xs) → H' p = some (.tup xs)
theorem TS.refl {H : Hp} : TS H H := fun _ _ e => e
theorem TS.trans {H H1 H2 : Hp} (a : TS H H1) (b : TS H1 H2) : TS H H2 := fun p xs e => b p xs (a p xs e)
theorem Same.ts {H H' : Hp} (s : Same H H') : TS H H' := fun _ _ e => s _ _ e
/-- an execution stands at o, its pieces at p -/
structure ExAt (C : Addr) (H : Hp) (o dx ro eo p : Addr) (ak sz : Nat) (held : List Int) (told : Bool) (x : RP) (st : Bool) : Prop where
  ex : ∃ h r vs, H o = some (.ins C dx (xf ro eo ak sz h told r p st)) ∧ H h = some (.tup (ivs held)) ∧ H r = some (.tup (ivs x.rest)) ∧ H p = some (.lst vs) ∧ Pcs H vs x.pieces
theorem ExAt.same {C : Addr} {H H' : Hp} {o dx ro eo p : Addr} {ak sz : Nat} {held : List Int} {told : Bool} {x : RP} {st : Bool} (s : Same H H') (h : ExAt C H o dx ro eo p ak sz held told x st) : ExAt C H' o dx ro eo p ak sz held told x st := by
  obtain ⟨h', r, vs, a, b, c, d, e⟩ := h.ex
  exact ⟨h', r, vs, s _ _ a, s _ _ b, s _ _ c, s _ _ d, e.mono fun _ _ q => s _ _ q⟩
/-- all but what stands at o and at p is as it was -/
def Off2 (o p : Addr) (H H' : Hp) : Prop := ∀ b u, b ≠ o → b ≠ p → H b = some u → H' b = some u
theorem Off2.refl {o p : Addr} {H : Hp} : Off2 o p H H := fun _ _ _ _ e => e
theorem Off2.trans {o p : Addr} {H H1 H2 : Hp} (a : Off2 o p H H1) (b : Off2 o p H1 H2) : Off2 o p H H2 := fun c u n m e => b c u n m (a c u n m e)
theorem Off2.same {o p : Addr} {H H1 H2 : Hp} (a : Off2 o p H H1) (s : Same H1 H2) : Off2 o p H H2 := fun c u n m e => s _ _ (a c u n m e)
theorem Off2.putO {o p : Addr} {H H1 : Hp} {u : HO} (a : Off2 o p H H1) : Off2 o p H (upd H1 o u) := fun c u n m e => by
  rw [upd_ne n]
  exact a c u n m e
theorem Off2.putP {o p : Addr} {H H1 : Hp} {u : HO} (a : Off2 o p H H1) : Off2 o p H (upd H1 p u) := fun c u n m e => by
  rw [upd_ne m]
  exact a c u n m e
structure TxX (K : PySem.W.Frag) (mg : Str → Option Value) where
  len : mg "len" = none
  range : mg "range" = none
  C : Addr
  gC : mg "Execution" = some (.ref C)
  cl : Cls K C
  nRo : NoAttr K C "round_orders"
  nEo : NoAttr K C "ending_orders"
  nSz : NoAttr K C "size"
  nH : NoAttr K C "held"
  nT : NoAttr K C "told"
  nR : NoAttr K C "kept"
  nP : NoAttr K C "handed"
  nA : NoAttr K C "asked"
  nSt : NoAttr K C "over"
  fI : Addr
  fdI : FuncData
  FI : Fun K "__init__" "Execution.__init__" sXI fI fdI
  bI : Binds K fdI ["self", "round_orders", "ending_orders", "size", "kept"] []
  MI : Mk K C fI
  an : Mt K C "answer" "Execution.answer" sXA ["self", "held", "told"]
  fi : Mt K C "finish" "Execution.finish" sXF ["self"]
  ps : Mt K C "passes" "Execution.passes" sXP ["self", "test"]
  pf : Mt K C "perform" "Execution.perform" sXR ["self", "step"]
  co : Mt K C "cut_off" "Execution.cut_off" sXC ["self"]
section
variable {P : Program} {w : World} {K : PySem.W.Frag} {mg : Str → Option Value} {base : Heap}
/-! ### __init__ -/
def spXI (C : Addr) : Sp := fun vs H Q _ => ∃ (o dx ro eo r : Addr) (sz : Nat) (rest : List Int), vs = [.ref o, .ref ro, .ref eo, .int sz, .ref r] ∧ H o = some (.ins C dx []) ∧ H r = some (.tup (ivs rest)) ∧
  ∀ (H' : Hp) (p : Addr), Off o H H' → H p = none → ExAt C H' o dx ro eo p 0 sz [] false ⟨rest, []⟩ false → Q .non H'
theorem scXI : FnScope ["self", "round_orders", "ending_orders", "size", "kept"] ["self", "round_orders", "ending_orders", "size", "kept"] (defScope sXI) := ⟨rfl, rfl, rfl, by decide +kernel, rfl, by decide +kernel, by decide +kernel⟩
theorem small8 {fs : List (Str × V)} (h : fs.length ≤ 8) : fs.length < 1000 := by omega
theorem putF8 {f : Str} {v : V} {fs : List (Str × V)} {n : Nat} (h : fs.length ≤ n) : (putF f v fs).length ≤ n + 1 := Nat.le_trans (putF_len f v fs) (by omega)
theorem ok_xi (T : TxX K mg) : FnOk P w K mg base CX0 1 T.fI T.fdI ["self", "round_orders", "ending_orders", "size", "kept"] (spXI T.C) := by
  refine T.FI.ok scXI (fun vs H Q E h => ?_) (fun cdv A outer s H vs Q E hr h => ?_)
  · obtain ⟨o, dx, ro, eo, r, sz, rest, rfl, _⟩ := h
    rfl
  · obtain ⟨o, dx, ro, eo, r, sz, rest, rfl, ho, hr', k⟩ := h
    refine ⟨_, pss_cons (ps_fld (pv 0) (pv 1) rfl) (pss_cons (ps_fld (pv 0) (pv 2) rfl) (pss_cons (ps_fld (pv 0) (pv 3) rfl) (pss_cons (ps_fld (pv 0) (pe_tup pa_nil) rfl) (pss_cons (ps_fld (pv 0) pe_bl rfl) (pss_cons (ps_fld (pv 0) (pv 4) rfl)
      (pss_cons (ps_fld (pv 0) (pe_lst pa_nil) rfl) (pss_cons (ps_fld (pv 0) pe_int rfl) (pss_one (ps_fld (pv 0) pe_bl rfl))))))))), ?_⟩
    have l0 : ([] : List (Str × V)).length ≤ 0 := Nat.le_refl _
    refine ⟨_, rfl, _, rfl, o, T.C, dx, _, rfl, ho, T.cl, T.nRo, by decide, ?_⟩
    refine ⟨_, rfl, _, rfl, o, T.C, dx, _, rfl, upd_same, T.cl, T.nEo, Nat.lt_of_le_of_lt (putF8 l0) (by decide), ?_⟩
    refine ⟨_, rfl, _, rfl, o, T.C, dx, _, rfl, upd_same, T.cl, T.nSz, Nat.lt_of_le_of_lt (putF8 (putF8 l0)) (by decide), ?_⟩
    refine ⟨Nat.zero_le _, fun h nh => ?_⟩
    have no : h ≠ o := fun z => by rw [z, upd_same] at nh; cases nh
    refine ⟨_, rfl, o, T.C, dx, _, rfl, (by rw [upd_ne no.symm]; exact upd_same), T.cl, T.nH, Nat.lt_of_le_of_lt (putF8 (putF8 (putF8 l0))) (by decide), ?_⟩
    refine ⟨_, rfl, o, T.C, dx, _, rfl, upd_same, T.cl, T.nT, Nat.lt_of_le_of_lt (putF8 (putF8 (putF8 (putF8 l0)))) (by decide), ?_⟩
    refine ⟨_, rfl, _, rfl, o, T.C, dx, _, rfl, upd_same, T.cl, T.nR, Nat.lt_of_le_of_lt (putF8 (putF8 (putF8 (putF8 (putF8 l0))))) (by decide), ?_⟩
    refine ⟨Nat.zero_le _, fun p np => ?_⟩
    have po : p ≠ o := fun z => by rw [z, upd_same] at np; cases np
    refine ⟨_, rfl, o, T.C, dx, _, rfl, (by rw [upd_ne po.symm]; exact upd_same), T.cl, T.nP, Nat.lt_of_le_of_lt (putF8 (putF8 (putF8 (putF8 (putF8 (putF8 l0)))))) (by decide), ?_⟩
    refine ⟨_, rfl, o, T.C, dx, _, rfl, upd_same, T.cl, T.nA, Nat.lt_of_le_of_lt (putF8 (putF8 (putF8 (putF8 (putF8 (putF8 (putF8 l0))))))) (by decide), ?_⟩
    refine ⟨_, rfl, o, T.C, dx, _, rfl, upd_same, T.cl, T.nSt, Nat.lt_of_le_of_lt (putF8 (putF8 (putF8 (putF8 (putF8 (putF8 (putF8 (putF8 l0)))))))) (by decide), ?_⟩
    rw [show V.int 0 = V.int ((0 : Nat) : Int) from rfl, xf_mk]
    rw [upd_ne po, upd_ne po, upd_ne po] at np
    have ph : p ≠ h := fun z => by rw [z, upd_same] at np; cases np
    rw [upd_ne ph, upd_ne po, upd_ne po, upd_ne po] at np
    rw [upd_ne no, upd_ne no, upd_ne no] at nh
    have r1 : r ≠ o := ne_of hr' ho (by intro z; cases z)
    have r2 : r ≠ h := ne_of_none hr' nh
    have r3 : r ≠ p := ne_of_none hr' np
    refine k _ p (fun b u nb e => ?_) np ⟨h, r, [], upd_same, ?_, ?_, ?_, .nil⟩
    · have b2 : b ≠ h := ne_of_none e nh
      have b3 : b ≠ p := ne_of_none e np
      rw [upd_ne nb, upd_ne nb, upd_ne nb, upd_ne b3, upd_ne nb, upd_ne nb, upd_ne nb, upd_ne b2, upd_ne nb, upd_ne nb, upd_ne nb]
      exact e
    · rw [upd_ne no, upd_ne no, upd_ne no, upd_ne ph.symm, upd_ne no, upd_ne no, upd_ne no, upd_same]
      rfl
    · rw [upd_ne r1, upd_ne r1, upd_ne r1, upd_ne r3, upd_ne r1, upd_ne r1, upd_ne r1, upd_ne r2, upd_ne r1, upd_ne r1, upd_ne r1]
      exact hr'
    · rw [upd_ne po, upd_ne po, upd_ne po, upd_same]
end
end My

namespace My
open PySem L2 Cm LM EM
theorem in2 (t a b : Str) : inV (.str t) [.str a, .str b] = decide (t = a ∨ t = b) := by
  have e : inV (.str t) [.str a, .str b] = decide (t ∈ [a, b]) := inV_svs t [a, b]
  rw [e]
  exact decide_eq_decide.mpr (by simp)
theorem rgC_up {q s : Nat} (hs : 1 ≤ s) (h1 : s ≤ 1000) (h2 : q * s ≤ 4000000) : RgC 0 ((q * s : Nat) : Int) (s : Int) q := by
  have sz : Builtin.Range.rangeSize 0 ((q * s : Nat) : Int) (s : Int) = (q : Int) := by
    rw [PyProof.Rows.rangeSize_pos (by omega) (by omega)]
    have e : ((q * s : Nat) : Int) + (s : Int) - 1 = ((s : Int) - 1) + (q : Int) * (s : Int) := by
      rw [Int.natCast_mul]
      omega
    rw [e, Int.add_mul_ediv_right _ _ (by omega), Int.ediv_eq_zero_of_lt (by omega) (by omega)]
    omega
  refine ⟨by omega, by omega, ?_, sz⟩
  have hq : q ≤ 4000000 := Nat.le_trans (Nat.le_mul_of_pos_right q hs) h2
  unfold Builtin.Range.small
  rw [sz]
  generalize q * s = m at h2 ⊢
  simp only [Builtin.Range.rangeFitsLong, Bool.and_eq_true, Bool.or_eq_true, decide_eq_true_eq, beq_iff_eq, show (s : Int) > 0 by omega, if_true]
  omega
section
variable {P : Program} {w : World} {K : PySem.W.Frag} {mg : Str → Option Value} {base : Heap}
/-! ### passes -/
def spXP (C : Addr) : Sp := fun vs H Q _ => ∃ (o dx ro eo p : Addr) (ak sz : Nat) (held : List Int) (told : Bool) (x : RP) (st : Bool) (t : Str), vs = [.ref o, .str t] ∧ ExAt C H o dx ro eo p ak sz held told x st ∧ ∀ H', Same H H' → Q (.bl (passM sz held told t x.rest)) H'
theorem scXP : FnScope ["self", "test"] ["self", "test"] (defScope sXP) := ⟨rfl, rfl, rfl, by decide +kernel, rfl, by decide +kernel, by decide +kernel⟩
theorem pos_dec (n : Nat) : decide ((n : Int) > 0) = decide (0 < n) := decide_eq_decide.mpr ⟨fun z => by omega, fun z => by omega⟩
theorem lt_dec (n m : Nat) : decide ((n : Int) < (m : Int)) = decide (n < m) := decide_eq_decide.mpr ⟨fun z => by omega, fun z => by omega⟩
theorem ok_xp (T : TxX K mg) : FnOk P w K mg base CX0 1 T.ps.f T.ps.fd ["self", "test"] (spXP T.C) := by
  refine T.ps.F.ok scXP (fun vs H Q E h => ?_) (fun cdv A outer s H vs Q E hr h => ?_)
  · obtain ⟨o, dx, ro, eo, p, ak, sz, held, told, x, st, t, rfl, _⟩ := h
    rfl
  · obtain ⟨o, dx, ro, eo, p, ak, sz, held, told, x, st, t, rfl, hX, k⟩ := h
    refine ⟨_, pss_cons (ps_if (pt_cmpR op_eq (pv 1) pe_str (nomark _)) (pss_one (ps_ret pe_bl)) pss_nil)
      (pss_cons (ps_if (pt_cmpR op_in_seq (pv 1) (pe_tup (pa_cons pe_str (pa_cons pe_str pa_nil))) (by rfl)) (pss_one (ps_ret (pe_cmpR op_eq (pe_fld (pv 0) rfl) (pe_cmpR op_eq (pv 1) pe_str (nomark _)) (nomark _)))) pss_nil)
      (pss_cons (ps_if (pt_cmpR op_in_seq (pv 1) (pe_tup (pa_cons pe_str (pa_cons pe_str pa_nil))) (by rfl)) (pss_one (ps_ret (pe_cmpR op_eq (pe_cmpR op_gt (pe_callB call_len_seq (by rfl) T.len PySem.boot_len (pa_cons (pe_fld (pv 0) rfl) pa_nil)) pe_int (nomark _)) (pe_cmpR op_eq (pv 1) pe_str (nomark _)) (nomark _)))) pss_nil)
      (pss_cons (ps_if (pt_cmpR op_in_seq (pv 1) (pe_tup (pa_cons pe_str (pa_cons pe_str pa_nil))) (by rfl)) (pss_one (ps_ret (pe_cmpR op_eq (pe_cmpR op_gt (pe_callB call_len_seq (by rfl) T.len PySem.boot_len (pa_cons (pe_fld (pv 0) rfl) pa_nil)) pe_int (nomark _)) (pe_cmpR op_eq (pv 1) pe_str (nomark _)) (nomark _)))) pss_nil)
      (pss_one (ps_ret (pe_cmpR op_eq (pe_cmpR op_lt (pe_callB call_len_seq (by rfl) T.len PySem.boot_len (pa_cons (pe_fld (pv 0) rfl) pa_nil)) (pe_fld (pv 0) rfl) (nomark _)) (pe_cmpR op_eq (pv 1) pe_str (nomark _)) (nomark _))))))), ?_⟩
    unfold passM at k
    refine ⟨_, rfl, rfl, _, rfl, ?_⟩
    rw [dS]
    by_cases h0 : t = ""
    · rw [decide_eq_true h0]
      rw [if_pos h0] at k
      exact iteT (k H (Same.refl _))
    rw [decide_eq_false h0]
    rw [if_neg h0] at k
    refine iteF ?_
    refine ⟨_, rfl, (by show 2 ≤ sizeLine; decide), fun t1 n1 => ⟨t1, _, rfl, .inr (SqT.of upd_same), rfl, rfl, _, rfl, ?_⟩⟩
    have s1 : Same H (upd H t1 (.tup [.str "told", .str "open"])) := same_new n1
    generalize upd H t1 (.tup [.str "told", .str "open"]) = H1 at s1 ⊢
    have X1 := hX.same s1
    obtain ⟨h, r, vs, eo1, hh1, hr1, hp1, _⟩ := id X1.ex
    rw [show (if false = true then !inV (V.str t) [V.str "told", V.str "open"] else inV (V.str t) [V.str "told", V.str "open"]) = decide (t = "told" ∨ t = "open") from in2 ..]
    by_cases h1 : t = "told" ∨ t = "open"
    · rw [decide_eq_true h1]
      rw [if_pos h1] at k
      refine iteT ⟨_, rfl, o, T.C, dx, _, _, rfl, eo1, T.cl, T.nT, xf_t .., _, rfl, rfl, rfl, ?_⟩
      rw [dS, dB]
      exact k H1 s1
    rw [decide_eq_false h1]
    rw [if_neg h1] at k
    refine iteF ?_
    refine ⟨_, rfl, (by show 2 ≤ sizeLine; decide), fun t2 n2 => ⟨t2, _, rfl, .inr (SqT.of upd_same), rfl, rfl, _, rfl, ?_⟩⟩
    have s2 : Same H (upd H1 t2 (.tup [.str "rest", .str "bare"])) := Same.trans s1 (same_new n2)
    generalize upd H1 t2 (.tup [.str "rest", .str "bare"]) = H2 at s2 ⊢
    have X2 := hX.same s2
    clear eo1 hh1 hr1 hp1 X1
    obtain ⟨h, r, vs, eo1, hh1, hr1, hp1, _⟩ := id X2.ex
    rw [show (if false = true then !inV (V.str t) [V.str "rest", V.str "bare"] else inV (V.str t) [V.str "rest", V.str "bare"]) = decide (t = "rest" ∨ t = "bare") from in2 ..]
    by_cases h2 : t = "rest" ∨ t = "bare"
    · rw [decide_eq_true h2]
      rw [if_pos h2] at k
      refine iteT ⟨_, rfl, o, T.C, dx, _, _, rfl, eo1, T.cl, T.nR, xf_r .., r, _, rfl, .inr (SqT.of hr1), _, _, rfl, rfl, _, rfl, rfl, rfl, ?_⟩
      rw [dS, dB, ivs_len, pos_dec]
      exact k H2 s2
    rw [decide_eq_false h2]
    rw [if_neg h2] at k
    refine iteF ?_
    refine ⟨_, rfl, (by show 2 ≤ sizeLine; decide), fun t3 n3 => ⟨t3, _, rfl, .inr (SqT.of upd_same), rfl, rfl, _, rfl, ?_⟩⟩
    have s3 : Same H (upd H2 t3 (.tup [.str "empty", .str "some"])) := Same.trans s2 (same_new n3)
    generalize upd H2 t3 (.tup [.str "empty", .str "some"]) = H3 at s3 ⊢
    have X3 := hX.same s3
    clear eo1 hh1 hr1 hp1 X2
    obtain ⟨h, r, vs, eo1, hh1, hr1, hp1, _⟩ := id X3.ex
    rw [show (if false = true then !inV (V.str t) [V.str "empty", V.str "some"] else inV (V.str t) [V.str "empty", V.str "some"]) = decide (t = "empty" ∨ t = "some") from in2 ..]
    by_cases h3 : t = "empty" ∨ t = "some"
    · rw [decide_eq_true h3]
      rw [if_pos h3] at k
      refine iteT ⟨_, rfl, o, T.C, dx, _, _, rfl, eo1, T.cl, T.nH, xf_h .., h, _, rfl, .inr (SqT.of hh1), _, _, rfl, rfl, _, rfl, rfl, rfl, ?_⟩
      rw [dS, dB, ivs_len, pos_dec]
      exact k H3 s3
    rw [decide_eq_false h3]
    rw [if_neg h3] at k
    refine iteF ?_
    refine ⟨_, rfl, o, T.C, dx, _, _, rfl, eo1, T.cl, T.nH, xf_h .., h, _, rfl, .inr (SqT.of hh1), _, rfl, o, T.C, dx, _, _, rfl, eo1, T.cl, T.nSz, xf_sz .., _, _, rfl, rfl, _, rfl, rfl, rfl, ?_⟩
    rw [dS, dB, ivs_len, lt_dec]
    exact k H3 s3
/-! ### cut_off -/
/-- not too much -/
structure Fit (sz : Nat) (held : List Int) (x : RP) : Prop where
  s1 : 1 ≤ sz
  s2 : sz ≤ 1000
  h : held.length ≤ sz
  r : x.rest.length ≤ 3000000
  p : x.pieces.length ≤ 8000000
def spXC (C : Addr) : Sp := fun vs H Q _ => ∃ (o dx ro eo p : Addr) (ak sz : Nat) (held : List Int) (told : Bool) (x : RP) (st : Bool), vs = [.ref o] ∧ ExAt C H o dx ro eo p ak sz held told x st ∧ Fit sz held x ∧
  ∀ H', Off2 o p H H' → ExAt C H' o dx ro eo p ak sz held told (perfM sz held "cut" x) st → Q .non H'
theorem scXC : FnScope ["self", "end", "start"] ["self"] (defScope sXC) := ⟨rfl, rfl, rfl, by decide +kernel, rfl, by decide +kernel, by decide +kernel⟩
theorem cutN_succ (sz : Nat) (xs : List Int) (i : Nat) : cutN sz xs (i + 1) = cutN sz xs i ++ [(xs.drop (i * sz)).take sz] := by
  unfold cutN
  rw [List.range_succ, List.map_append]
  rfl
theorem ok_xc (T : TxX K mg) : FnOk P w K mg base CX0 1 T.co.f T.co.fd ["self"] (spXC T.C) := by
  refine T.co.F.ok scXC (fun vs H Q E h => ?_) (fun cdv A outer s H vs Q E hr h => ?_)
  · obtain ⟨o, dx, ro, eo, p, ak, sz, held, told, x, st, rfl, _⟩ := h
    rfl
  · obtain ⟨o, dx, ro, eo, p, ak, sz, held, told, x, st, rfl, hX, hF, k⟩ := h
    refine ⟨_, pss_cons (ps_set (i := 1) scXC.nd rfl (.inl rfl) (pe_op op_mul (pe_op op_fdiv (pe_callB call_len_seq (by rfl) T.len PySem.boot_len (pa_cons (pe_fld (pv 0) rfl) pa_nil)) (pe_fld (pv 0) rfl)) (pe_fld (pv 0) rfl)))
      (pss_cons (ps_for PassesOwn.never rfl (pi_range3 rfl T.range (pa_cons pe_int (pa_cons (pv 1) (pa_cons (pe_fld (pv 0) rfl) pa_nil)))) (pg_name (i := 2) scXC.nd rfl (Or.inl rfl))
        (pss_one (ps_expr (pe_bm PySem.F.plainAttrs_list PySem.F.slot_list_append PySem.F.type_list_append mt_append (pe_fld (pv 0) rfl) (pa_cons (pe_slice sl_tupH (pe_fld (pv 0) rfl) (po_some (pv 2)) (po_some (pe_op op_add (pv 2) (pe_fld (pv 0) rfl)))) pa_nil)))))
      (pss_one (ps_fld (pv 0) (pe_slice sl_tupH (pe_fld (pv 0) rfl) (po_some (pv 1)) po_none) rfl))), ?_⟩
    obtain ⟨h0, r0, vs0, e0, hh0, hr0, hp0, hP0⟩ := id hX.ex
    have s1 := hF.s1
    have s2 := hF.s2
    have s3 := hF.r
    have s4 := hF.p
    refine ⟨_, rfl, o, T.C, dx, _, _, rfl, e0, T.cl, T.nR, xf_r .., r0, _, rfl, .inr (SqT.of hr0), _, rfl, o, T.C, dx, _, _, rfl, e0, T.cl, T.nSz, xf_sz .., _, _, rfl, rfl, ⟨by omega, by omega⟩, _, rfl, o, T.C, dx, _, _, rfl, e0, T.cl, T.nSz, xf_sz .., _, _, rfl, rfl, .inr ⟨by omega, by omega⟩, ?_⟩
    have eq : ((ivs x.rest).length : Int) / (sz : Int) * (sz : Int) = ((x.rest.length / sz * sz : Nat) : Int) := by
      rw [ivs_len, Int.natCast_mul, Int.natCast_ediv]
    simp only [eq]
    have le : x.rest.length / sz * sz ≤ x.rest.length := Nat.div_mul_le_self _ _
    generalize hq : x.rest.length / sz = q at le ⊢
    refine ⟨_, rfl, _, rfl, o, T.C, dx, _, _, rfl, e0, T.cl, T.nSz, xf_sz .., _, _, _, q, rfl, rgC_up s1 s2 (by omega), ?_⟩
    refine for_rangeC (lo := 0) (c := (sz : Int)) (n := q) (fun i σ H' => ∃ v2, σ = [some (.ref o), some (.int ((q * sz : Nat) : Int)), v2] ∧ Off2 o p H H' ∧ ExAt T.C H' o dx ro eo p ak sz held told ⟨x.rest, x.pieces ++ cutN sz x.rest i⟩ st) ⟨none, rfl, Off2.refl, ?_⟩ ?_ ?_
    · refine ⟨h0, r0, vs0, e0, hh0, hr0, hp0, ?_⟩
      rw [show x.pieces ++ cutN sz x.rest 0 = x.pieces from List.append_nil _]
      exact hP0
    · rintro i σ H' hi ⟨v2, rfl, o1, X1⟩
      obtain ⟨h1, r1, vs1, e1, hh1, hr1, hp1, hP1⟩ := id X1.ex
      have m1 : (i + 1) * sz ≤ x.rest.length := Nat.le_trans (Nat.mul_le_mul_right _ hi) le
      have m2 : (i + 1) * sz = i * sz + sz := Nat.succ_mul i sz
      refine ⟨_, rfl, o, T.C, dx, _, _, rfl, e1, T.cl, T.nP, xf_p .., .inl ⟨rfl, _, SqL.of hp1⟩, ?_⟩
      refine ⟨_, rfl, o, T.C, dx, _, _, rfl, e1, T.cl, T.nR, xf_r .., _, rfl, ((i * sz : Nat) : Int), by rw [Int.zero_add, Int.natCast_mul], _, rfl, _, rfl, o, T.C, dx, _, _, rfl, e1, T.cl, T.nSz, xf_sz .., _, _, rfl, rfl, ((i * sz + sz : Nat) : Int), by rw [Int.zero_add, Int.natCast_add, Int.natCast_mul], r1, _, rfl, hr1, fun H2 qq s2' hq2 => ?_⟩
      rw [cut_mid _ _ _ (by omega) (by rw [ivs_len]; show i * sz + sz ≤ x.rest.length; omega), show i * sz + sz - i * sz = sz by omega] at hq2
      have hp2 := s2' _ _ hp1
      have lp := hP1.len
      refine ⟨p, vs1, _, rfl, rfl, hp2, ?_, ?_⟩
      · rw [lp]
        show (x.pieces ++ cutN sz x.rest i).length < sizeLine
        rw [List.length_append, cutN, List.length_map, List.length_range]
        have : q ≤ x.rest.length := Nat.le_trans (Nat.le_mul_of_pos_right q s1) le
        exact Nat.lt_of_le_of_lt (show x.pieces.length + i ≤ 11000000 by omega) (by decide)
      have st := tup_stays (o' := .lst (vs1 ++ [.ref qq])) hp2 (by intro xs z; cases z)
      have po : o ≠ p := ne_of (s2' _ _ e1) hp2 (by intro z; cases z)
      refine ⟨_, rfl, (o1.same s2').putP, h1, r1, _, by rw [upd_ne po]; exact s2' _ _ e1, st _ _ (s2' _ _ hh1), st _ _ (s2' _ _ hr1), upd_same, ?_⟩
      rw [cutN_succ, ← List.append_assoc]
      refine Pcs.snoc ?_ ((hP1.mono fun _ _ z => s2' _ _ z).mono st)
      rw [st _ _ hq2]
      simp [ivs, List.map_take, List.map_drop]
    · rintro σ H' ⟨v2, rfl, o1, X1⟩
      obtain ⟨h1, r1, vs1, e1, hh1, hr1, hp1, hP1⟩ := id X1.ex
      refine ⟨_, rfl, o, T.C, dx, _, _, rfl, e1, T.cl, T.nR, xf_r .., _, rfl, ((q * sz : Nat) : Int), rfl, r1, _, rfl, hr1, fun H2 r2 s2' hq2 => ?_⟩
      rw [cut_from] at hq2
      refine ⟨_, rfl, o, T.C, dx, _, rfl, s2' _ _ e1, T.cl, T.nR, by rw [xf_len]; decide, ?_⟩
      rw [put_r]
      have st := tup_stays (o' := .ins T.C dx (xf ro eo ak sz h1 told r2 p st)) (s2' _ _ e1) (by intro xs z; cases z)
      have po : p ≠ o := ne_of hp1 e1 (by intro z; cases z)
      refine k _ (o1.same s2').putO ⟨h1, r2, vs1, upd_same, st _ _ (s2' _ _ hh1), ?_, by rw [upd_ne po]; exact s2' _ _ hp1, ?_⟩
      · rw [st _ _ hq2]
        unfold perfM
        rw [if_neg (by decide +kernel), if_neg (by decide +kernel), if_pos rfl, hq]
        simp [ivs, List.map_drop]
      · unfold perfM
        rw [if_neg (by decide +kernel), if_neg (by decide +kernel), if_pos rfl, hq]
        exact (hP1.mono fun _ _ z => s2' _ _ z).mono st
end
end My

namespace My
open PySem L2 Cm LM EM
section
variable {P : Program} {w : World} {K : PySem.W.Frag} {mg : Str → Option Value} {base : Heap}
/-! ### perform -/
def spXR (C : Addr) : Sp := fun vs H Q _ => ∃ (o dx ro eo p : Addr) (ak sz : Nat) (held : List Int) (told : Bool) (x : RP) (st : Bool) (s : Str), vs = [.ref o, .str s] ∧ ExAt C H o dx ro eo p ak sz held told x st ∧ Fit sz held x ∧
  ∀ H', Off2 o p H H' → ExAt C H' o dx ro eo p ak sz held told (perfM sz held s x) st → Q .non H'
theorem scXR : FnScope ["self", "step"] ["self", "step"] (defScope sXR) := ⟨rfl, rfl, rfl, by decide +kernel, rfl, by decide +kernel, by decide +kernel⟩
theorem ok_xr (T : TxX K mg) : FnOk P w K mg base CX0 2 T.pf.f T.pf.fd ["self", "step"] (spXR T.C) := by
  have GC : FnOk P w K mg base CX0 1 T.co.f T.co.fd ["self"] (spXC T.C) := ok_xc T
  refine T.pf.F.ok scXR (fun vs H Q E h => ?_) (fun cdv A outer s H vs Q E hr h => ?_)
  · obtain ⟨o, dx, ro, eo, p, ak, sz, held, told, x, st, s, rfl, _⟩ := h
    rfl
  · obtain ⟨o, dx, ro, eo, p, ak, sz, held, told, x, st, s, rfl, hX, hF, k⟩ := h
    refine ⟨_, pss_one (ps_if (pt_cmpR op_eq (pv 1) pe_str (nomark _)) (pss_one (ps_fld (pv 0) (pe_op op_catH (pe_fld (pv 0) rfl) (pe_fld (pv 0) rfl)) rfl))
      (pss_one (ps_if (pt_cmpR op_eq (pv 1) pe_str (nomark _)) (pss_one (ps_expr (pe_bm PySem.F.plainAttrs_list PySem.F.slot_list_append PySem.F.type_list_append mt_append (pe_fld (pv 0) rfl) (pa_cons (pe_fld (pv 0) rfl) pa_nil))))
      (pss_one (ps_if (pt_cmpR op_eq (pv 1) pe_str (nomark _)) (pss_one (ps_expr (pe_meth0 (pv 0) T.cl T.co.m GC hr T.co.b .nil pass0)))
      (pss_one (ps_if (pt_cmpR op_eq (pv 1) pe_str (nomark _)) (pss_cons (ps_expr (pe_bm PySem.F.plainAttrs_list PySem.F.slot_list_append PySem.F.type_list_append mt_append (pe_fld (pv 0) rfl) (pa_cons (pe_fld (pv 0) rfl) pa_nil))) (pss_one (ps_fld (pv 0) (pe_tup pa_nil) rfl))) pss_nil))))))), ?_⟩
    obtain ⟨h0, r0, vs0, e0, hh0, hr0, hp0, hP0⟩ := id hX.ex
    have s1 := hF.s1
    have s2 := hF.s2
    have s3 := hF.r
    have s4 := hF.p
    have s5 := hF.h
    have po : p ≠ o := ne_of hp0 e0 (by intro z; cases z)
    have lp := hP0.len
    refine ⟨_, rfl, rfl, _, rfl, ?_⟩
    rw [dS]
    by_cases h1 : s = "add"
    · rw [decide_eq_true h1]
      refine iteT ?_
      unfold perfM at k
      rw [if_pos h1] at k
      refine ⟨_, rfl, o, T.C, dx, _, _, rfl, e0, T.cl, T.nR, xf_r .., _, rfl, o, T.C, dx, _, _, rfl, e0, T.cl, T.nH, xf_h .., r0, h0, _, _, rfl, rfl, hr0, hh0, ?_, fun H2 q s2' hq => ?_⟩
      · rw [ivs_len, ivs_len]
        exact Nat.le_trans (show x.rest.length + held.length ≤ 4000000 by omega) (by decide)
      refine ⟨_, rfl, o, T.C, dx, _, rfl, s2' _ _ e0, T.cl, T.nR, by rw [xf_len]; decide, ?_⟩
      rw [put_r]
      have st' := tup_stays (o' := .ins T.C dx (xf ro eo ak sz h0 told q p st)) (s2' _ _ e0) (by intro xs z; cases z)
      refine k _ ((Off2.refl).same s2').putO ⟨h0, q, vs0, upd_same, st' _ _ (s2' _ _ hh0), ?_, by rw [upd_ne po]; exact s2' _ _ hp0, (hP0.mono fun _ _ z => s2' _ _ z).mono st'⟩
      rw [st' _ _ hq]
      simp [ivs]
    rw [decide_eq_false h1]
    refine iteF ⟨_, rfl, rfl, _, rfl, ?_⟩
    rw [dS]
    by_cases h2 : s = "hand"
    · rw [decide_eq_true h2]
      refine iteT ?_
      unfold perfM at k
      rw [if_neg h1, if_pos h2] at k
      refine ⟨_, rfl, o, T.C, dx, _, _, rfl, e0, T.cl, T.nP, xf_p .., .inl ⟨rfl, _, SqL.of hp0⟩, _, rfl, o, T.C, dx, _, _, rfl, e0, T.cl, T.nH, xf_h .., p, vs0, _, rfl, rfl, hp0, ?_, ?_⟩
      · rw [lp]
        exact Nat.lt_of_le_of_lt s4 (by decide)
      have st' := tup_stays (o' := .lst (vs0 ++ [.ref h0])) hp0 (by intro xs z; cases z)
      exact k _ Off2.refl.putP ⟨h0, r0, _, by rw [upd_ne po.symm]; exact e0, st' _ _ hh0, st' _ _ hr0, upd_same, Pcs.snoc (st' _ _ hh0) (hP0.mono st')⟩
    rw [decide_eq_false h2]
    refine iteF ⟨_, rfl, rfl, _, rfl, ?_⟩
    rw [dS]
    by_cases h3 : s = "cut"
    · rw [decide_eq_true h3]
      refine iteT ?_
      rw [h3] at k
      exact ⟨_, rfl, o, dx, _, rfl, e0, (xf_noA ..).2.2.2.2.1, o, dx, ro, eo, p, ak, sz, held, told, x, st, rfl, hX, hF, k⟩
    rw [decide_eq_false h3]
    refine iteF ⟨_, rfl, rfl, _, rfl, ?_⟩
    rw [dS]
    by_cases h4 : s = "flush"
    · rw [decide_eq_true h4]
      refine iteT ?_
      unfold perfM at k
      rw [if_neg h1, if_neg h2, if_neg h3, if_pos h4] at k
      refine ⟨_, rfl, o, T.C, dx, _, _, rfl, e0, T.cl, T.nP, xf_p .., .inl ⟨rfl, _, SqL.of hp0⟩, _, rfl, o, T.C, dx, _, _, rfl, e0, T.cl, T.nR, xf_r .., p, vs0, _, rfl, rfl, hp0, ?_, ?_⟩
      · rw [lp]
        exact Nat.lt_of_le_of_lt s4 (by decide)
      have st1 := tup_stays (o' := .lst (vs0 ++ [.ref r0])) hp0 (by intro xs z; cases z)
      refine ⟨Nat.zero_le _, fun q nq => ?_⟩
      have e1 : (upd (upd H p (.lst (vs0 ++ [.ref r0]))) q (.tup [])) o = some (.ins T.C dx (xf ro eo ak sz h0 told r0 p st)) := same_new nq _ _ (by rw [upd_ne po.symm]; exact e0)
      refine ⟨_, rfl, o, T.C, dx, _, rfl, e1, T.cl, T.nR, by rw [xf_len]; decide, ?_⟩
      rw [put_r]
      have st2 := tup_stays (o' := .ins T.C dx (xf ro eo ak sz h0 told q p st)) e1 (by intro xs z; cases z)
      have f : ∀ (a : Addr) (xs : List V), H a = some (.tup xs) → (upd (upd (upd H p (.lst (vs0 ++ [.ref r0]))) q (.tup [])) o (.ins T.C dx (xf ro eo ak sz h0 told q p st))) a = some (.tup xs) := fun a xs z => st2 _ _ (same_new nq _ _ (st1 _ _ z))
      refine k _ ((Off2.refl.putP).same (same_new nq)).putO ⟨h0, q, _, upd_same, f _ _ hh0, st2 _ _ upd_same, ?_, Pcs.snoc (f _ _ hr0) (hP0.mono f)⟩
      rw [upd_ne po]
      exact same_new nq _ _ upd_same
    rw [decide_eq_false h4]
    unfold perfM at k
    rw [if_neg h1, if_neg h2, if_neg h3, if_neg h4] at k
    exact iteF (k H Off2.refl hX)
/-! ### finish -/
theorem Off2.ts {C : Addr} {H H' : Hp} {o dx ro eo p : Addr} {ak sz : Nat} {held : List Int} {told : Bool} {x : RP} {st : Bool} (a : Off2 o p H H') (h : ExAt C H o dx ro eo p ak sz held told x st) : TS H H' := fun q xs e => by
  obtain ⟨h0, r0, vs0, e0, _, _, hp0, _⟩ := h.ex
  exact a _ _ (ne_of e e0 (by intro z; cases z)) (ne_of e hp0 (by intro z; cases z)) e
/-- a row of orders stands -/
def OrdT (H : Hp) (p : Addr) (os : List (Str × Str)) : Prop := ∃ xs, H p = some (.tup xs) ∧ Prs H xs os
theorem OrdT.ts {H H' : Hp} {p : Addr} {os : List (Str × Str)} (s : TS H H') (h : OrdT H p os) : OrdT H' p os := let ⟨xs, e, q⟩ := h; ⟨xs, s _ _ e, q.mono s⟩
theorem Prs.get {H : Hp} : ∀ {xs os} {i : Nat} {y : V}, Prs H xs os → xs[i]? = some y → ∃ (q : Addr) (o : Str × Str), os[i]? = some o ∧ y = .ref q ∧ H q = some (.tup [.str o.1, .str o.2])
  | _, _, i, y, .nil, h => by simp at h
  | _, _, 0, y, .cons h _, e => ⟨_, _, rfl, (Option.some.inj e).symm, h⟩
  | _, _, i + 1, y, .cons _ t, e => t.get (i := i) e
theorem endW_app (sz : Nat) (held : List Int) (told : Bool) : ∀ (a b : List (Str × Str)) (x : RP), endW sz held told (a ++ b) x = endW sz held told b (endW sz held told a x)
  | [], _, _ => rfl
  | (t, s) :: r, b, x => endW_app sz held told r b _
/-- enough room for a round and an ending -/
structure FitK (sz : Nat) (held : List Int) (k c : Nat) (x : RP) : Prop where
  s1 : 1 ≤ sz
  s2 : sz ≤ 1000
  h : held.length ≤ sz
  hk : k ≤ 2500
  hc : c ≤ 7900000
  f : Few sz k c x
theorem FitK.fit {sz : Nat} {held : List Int} {k c : Nat} {x : RP} (h : FitK sz held k c x) : Fit sz held x := by
  refine ⟨h.s1, h.s2, h.h, Nat.le_trans h.f.1 ?_, Nat.le_trans h.f.2 (Nat.le_trans h.hc (by decide))⟩
  exact Nat.le_trans (Nat.mul_le_mul h.hk h.s2) (by decide)
def spXF (C : Addr) : Sp := fun vs H Q _ => ∃ (o dx ro eo p : Addr) (ak sz : Nat) (held : List Int) (told : Bool) (x : RP) (st : Bool) (os : List (Str × Str)) (k c : Nat), vs = [.ref o] ∧ ExAt C H o dx ro eo p ak sz held told x st ∧ OrdT H eo os ∧ os.length ≤ 6 ∧ FitK sz held k c x ∧ k ≤ 2400 ∧ c ≤ 7800000 ∧
  ∀ H', Off2 o p H H' → ExAt C H' o dx ro eo p ak sz held told (endW sz held told os x) true → Q .non H'
theorem scXF : FnScope ["self", "test", "step"] ["self"] (defScope sXF) := ⟨rfl, rfl, rfl, by decide +kernel, rfl, by decide +kernel, by decide +kernel⟩
theorem ok_xfin (T : TxX K mg) : FnOk P w K mg base CX0 3 T.fi.f T.fi.fd ["self"] (spXF T.C) := by
  have GP : FnOk P w K mg base CX0 1 T.ps.f T.ps.fd ["self", "test"] (spXP T.C) := ok_xp T
  have GR : FnOk P w K mg base CX0 2 T.pf.f T.pf.fd ["self", "step"] (spXR T.C) := ok_xr T
  refine T.fi.F.ok scXF (fun vs H Q E h => ?_) (fun cdv A outer s H vs Q E hr h => ?_)
  · obtain ⟨o, dx, ro, eo, p, ak, sz, held, told, x, st, os, k, c, rfl, _⟩ := h
    rfl
  · obtain ⟨o, dx, ro, eo, p, ak, sz, held, told, x, st, os, kk, cc, rfl, hX, hO, hl, hF, hk, hc, k⟩ := h
    have hr1 : Room 1 _ := hr.mono (by decide)
    refine ⟨_, pss_cons (ps_for PassesOwn.never rfl (pi_tup (pe_fld (pv 0) rfl)) (pg_tup rfl (pgs_cons (pg_name (i := 1) scXF.nd rfl (.inl rfl)) (pgs_cons (pg_name (i := 2) scXF.nd rfl (.inl rfl)) pgs_nil)))
        (pss_one (ps_if (pt_val (pe_meth (pv 0) T.cl T.ps.m GP hr1 T.ps.b .nil pass0 (pa_cons (pv 1) pa_nil))) (pss_one (ps_expr (pe_meth (pv 0) T.cl T.pf.m GR hr T.pf.b .nil pass0 (pa_cons (pv 2) pa_nil)))) pss_nil)))
      (pss_one (ps_fld (pv 0) pe_bl rfl)), ?_⟩
    obtain ⟨h0, r0, vs0, e0, _⟩ := id hX.ex
    obtain ⟨xs, hxs, hPr⟩ := id hO
    have lx := hPr.len
    refine ⟨_, rfl, o, T.C, dx, _, _, rfl, e0, T.cl, T.nEo, xf_eo .., eo, rfl, ⟨_, SqT.of hxs⟩, ?_⟩
    refine for_tup (K := K) (a := eo) (xs := xs) (fun i σ H' => ∃ v1 v2, σ = [some (.ref o), v1, v2] ∧ Off2 o p H H' ∧ ExAt T.C H' o dx ro eo p ak sz held told (endW sz held told (os.take i) x) st) ⟨none, none, rfl, Off2.refl, hX⟩ (fun i σ H' _ ⟨_, _, _, o1, _⟩ => SqT.of (o1.ts hX _ _ hxs)) ?_ ?_
    · rintro i y σ H' hy ⟨v1, v2, rfl, o1, X1⟩
      obtain ⟨q, od, hod, rfl, hq⟩ := hPr.get hy
      have hq1 := o1.ts hX _ _ hq
      have li : i < os.length := lt_of_get hod
      refine ⟨q, _, rfl, SqT.of hq1, rfl, _, _, rfl, _, _, rfl, rfl, ?_⟩
      obtain ⟨h1, r1, vs1, e1, _⟩ := id X1.ex
      refine ⟨_, rfl, o, dx, _, rfl, e1, (xf_noA ..).2.2.1, _, rfl, o, dx, ro, eo, p, ak, sz, held, told, _, st, od.1, rfl, X1, fun H2 s2 => ⟨_, rfl, ?_⟩⟩
      have X2 := X1.same s2
      have tk : os.take (i + 1) = os.take i ++ [od] := take_snoc hod
      have ef : endW sz held told (os.take (i + 1)) x = (if passM sz held told od.1 (endW sz held told (os.take i) x).rest = true then perfM sz held od.2 (endW sz held told (os.take i) x) else endW sz held told (os.take i) x) := by
        rw [tk, endW_app]
        rfl
      have fe := few_end (told := told) hF.s1 hF.h (os.take i) kk cc x hF.f
      have lt : (os.take i).length ≤ 6 := by rw [List.length_take]; omega
      have fk : FitK sz held (kk + 6) (cc + 6 * (kk + 6)) (endW sz held told (os.take i) x) := ⟨hF.s1, hF.s2, hF.h, by omega, by omega, fe.mono (by omega) (Nat.add_le_add_left (Nat.mul_le_mul lt (by omega)) _)⟩
      obtain ⟨h2, r2, vs2, e2, _⟩ := id X2.ex
      refine ite2 (fun c => ?_) (fun c => ?_)
      · rw [if_pos c] at ef
        refine ⟨_, rfl, o, dx, _, rfl, e2, (xf_noA ..).2.2.2.1, _, rfl, o, dx, ro, eo, p, ak, sz, held, told, _, st, od.2, rfl, X2, fk.fit, fun H3 o3 X3 => ?_⟩
        exact ⟨_, _, rfl, (o1.same s2).trans o3, by rw [ef]; exact X3⟩
      · rw [if_neg c] at ef
        exact ⟨_, _, rfl, o1.same s2, by rw [ef]; exact X2⟩
    · rintro σ H' ⟨v1, v2, rfl, o1, X1⟩
      rw [lx, List.take_length] at X1
      obtain ⟨h1, r1, vs1, e1, hh1, hr1', hp1, hP1⟩ := id X1.ex
      refine ⟨_, rfl, o, T.C, dx, _, rfl, e1, T.cl, T.nSt, by rw [xf_len]; decide, ?_⟩
      rw [put_st]
      have st' := tup_stays (o' := .ins T.C dx (xf ro eo ak sz h1 told r1 p true)) e1 (by intro xs z; cases z)
      have po : p ≠ o := ne_of hp1 e1 (by intro z; cases z)
      exact k _ o1.putO ⟨h1, r1, vs1, upd_same, st' _ _ hh1, st' _ _ hr1', by rw [upd_ne po]; exact hp1, hP1.mono st'⟩
/-! ### answer -/
/-- not stopped and not left so far -/
def goes (sz : Nat) (held : List Int) (told : Bool) : List (Str × Str) → RP → Bool
  | [], _ => true
  | (t, s) :: r, x => if passM sz held told t x.rest = true then (if s = "again" then false else if s = "stop" then false else goes sz held told r (perfM sz held s x)) else goes sz held told r x
theorem runW_cons (sz : Nat) (held : List Int) (told : Bool) (t s : Str) (r : List (Str × Str)) (x : RP) : runW sz held told ((t, s) :: r) x = if passM sz held told t x.rest = true then (if s = "again" then (x, false) else if s = "stop" then (x, true) else runW sz held told r (perfM sz held s x)) else runW sz held told r x := rfl
theorem goes_cons (sz : Nat) (held : List Int) (told : Bool) (t s : Str) (r : List (Str × Str)) (x : RP) : goes sz held told ((t, s) :: r) x = if passM sz held told t x.rest = true then (if s = "again" then false else if s = "stop" then false else goes sz held told r (perfM sz held s x)) else goes sz held told r x := rfl
theorem run_goes (sz : Nat) (held : List Int) (told : Bool) : ∀ (a b : List (Str × Str)) (x : RP), goes sz held told a x = true →
    runW sz held told (a ++ b) x = runW sz held told b (runW sz held told a x).1 ∧ goes sz held told (a ++ b) x = goes sz held told b (runW sz held told a x).1 ∧ (runW sz held told a x).2 = false
  | [], _, _, _ => ⟨rfl, rfl, rfl⟩
  | (t, s) :: r, b, x, h => by
    rw [goes_cons] at h
    rw [List.cons_append, runW_cons, runW_cons, goes_cons]
    by_cases c : passM sz held told t x.rest = true
    · rw [if_pos c] at h
      rw [if_pos c, if_pos c, if_pos c]
      by_cases c1 : s = "again"
      · rw [if_pos c1] at h
        cases h
      rw [if_neg c1] at h
      rw [if_neg c1, if_neg c1, if_neg c1]
      by_cases c2 : s = "stop"
      · rw [if_pos c2] at h
        cases h
      rw [if_neg c2] at h
      rw [if_neg c2, if_neg c2, if_neg c2]
      exact run_goes sz held told r b _ h
    · rw [if_neg c] at h
      rw [if_neg c, if_neg c, if_neg c]
      exact run_goes sz held told r b _ h
def spXA (C : Addr) : Sp := fun vs H Q _ => ∃ (o dx ro eo p h : Addr) (ak sz : Nat) (held0 held : List Int) (told0 told : Bool) (x : RP) (rs es : List (Str × Str)) (k c : Nat), vs = [.ref o, .ref h, .bl told] ∧ ExAt C H o dx ro eo p ak sz held0 told0 x false ∧ H h = some (.tup (ivs held)) ∧ OrdT H ro rs ∧ OrdT H eo es ∧ rs.length ≤ 12 ∧ es.length ≤ 6 ∧ FitK sz held k c x ∧ k ≤ 2300 ∧ c ≤ 7700000 ∧
  ∀ H', Off2 o p H H' → ExAt C H' o dx ro eo p (ak + 1) sz held told (ansM sz rs es held told x).1 (ansM sz rs es held told x).2 → Q .non H'
theorem scXA : FnScope ["self", "held", "told", "test", "step"] ["self", "held", "told"] (defScope sXA) := ⟨rfl, rfl, rfl, by decide +kernel, rfl, by decide +kernel, by decide +kernel⟩
theorem ok_xa (T : TxX K mg) : FnOk P w K mg base CX0 4 T.an.f T.an.fd ["self", "held", "told"] (spXA T.C) := by
  have GP : FnOk P w K mg base CX0 1 T.ps.f T.ps.fd ["self", "test"] (spXP T.C) := ok_xp T
  have GR : FnOk P w K mg base CX0 2 T.pf.f T.pf.fd ["self", "step"] (spXR T.C) := ok_xr T
  have GF : FnOk P w K mg base CX0 3 T.fi.f T.fi.fd ["self"] (spXF T.C) := ok_xfin T
  refine T.an.F.ok scXA (fun vs H Q E h => ?_) (fun cdv A outer s H vs Q E hr h => ?_)
  · obtain ⟨o, dx, ro, eo, p, h, ak, sz, held0, held, told0, told, x, rs, es, k, c, rfl, _⟩ := h
    rfl
  · obtain ⟨o, dx, ro, eo, p, h, ak, sz, held0, held, told0, told, x, rs, es, kk, cc, rfl, hX, hh, hO, hE, l1, l2, hF, hk, hc, k⟩ := h
    have hr1 : Room 1 _ := hr.mono (by decide)
    have hr2 : Room 2 _ := hr.mono (by decide)
    refine ⟨_, pss_cons (ps_fld (pv 0) (pv 1) rfl) (pss_cons (ps_fld (pv 0) (pv 2) rfl) (pss_cons (ps_fldaug (pv 0) pe_int in_add)
      (pss_one (ps_for PassesOwn.never rfl (pi_tup (pe_fld (pv 0) rfl)) (pg_tup rfl (pgs_cons (pg_name (i := 3) scXA.nd rfl (.inl rfl)) (pgs_cons (pg_name (i := 4) scXA.nd rfl (.inl rfl)) pgs_nil)))
        (pss_one (ps_if (pt_val (pe_meth (pv 0) T.cl T.ps.m GP hr1 T.ps.b .nil pass0 (pa_cons (pv 3) pa_nil)))
          (pss_cons (ps_if (pt_cmpR op_eq (pv 4) pe_str (nomark _)) (pss_one ps_retN) pss_nil)
          (pss_cons (ps_if (pt_cmpR op_eq (pv 4) pe_str (nomark _)) (pss_cons (ps_expr (pe_meth0 (pv 0) T.cl T.fi.m GF hr T.fi.b .nil pass0)) (pss_one ps_retN)) pss_nil)
          (pss_one (ps_expr (pe_meth (pv 0) T.cl T.pf.m GR hr2 T.pf.b .nil pass0 (pa_cons (pv 4) pa_nil)))))) pss_nil)))))), ?_⟩
    obtain ⟨h0, r0, vs0, e0, hh0, hr0, hp0, hP0⟩ := id hX.ex
    refine ⟨_, rfl, _, rfl, o, T.C, dx, _, rfl, e0, T.cl, T.nH, by rw [xf_len]; decide, ?_⟩
    rw [put_h]
    refine ⟨_, rfl, _, rfl, o, T.C, dx, _, rfl, upd_same, T.cl, T.nT, by rw [xf_len]; decide, ?_⟩
    rw [put_t]
    refine ⟨_, rfl, o, T.C, dx, _, _, rfl, upd_same, T.cl, T.nA, xf_ak .., _, _, rfl, rfl, dx, _, upd_same, by rw [xf_len]; decide, ?_⟩
    rw [show V.int ((ak : Int) + 1) = V.int ((ak + 1 : Nat) : Int) from rfl, put_ak]
    have po : p ≠ o := ne_of hp0 e0 (by intro z; cases z)
    have ts0 : TS H (upd (upd (upd H o (.ins T.C dx (xf ro eo ak sz h told0 r0 p false))) o (.ins T.C dx (xf ro eo ak sz h told r0 p false))) o (.ins T.C dx (xf ro eo (ak + 1) sz h told r0 p false))) := fun q xs e => tup_stays (o := .ins T.C dx (xf ro eo ak sz h told r0 p false)) upd_same (by intro xs z; cases z) _ _ (tup_stays (o := .ins T.C dx (xf ro eo ak sz h told0 r0 p false)) upd_same (by intro xs z; cases z) _ _ (tup_stays e0 (by intro xs z; cases z) _ _ e))
    have X0 : ExAt T.C (upd (upd (upd H o (.ins T.C dx (xf ro eo ak sz h told0 r0 p false))) o (.ins T.C dx (xf ro eo ak sz h told r0 p false))) o (.ins T.C dx (xf ro eo (ak + 1) sz h told r0 p false))) o dx ro eo p (ak + 1) sz held told x false := ⟨h, r0, vs0, upd_same, ts0 _ _ hh, ts0 _ _ hr0, by rw [upd_ne po, upd_ne po, upd_ne po]; exact hp0, hP0.mono ts0⟩
    have o0 : Off2 o p H (upd (upd (upd H o (.ins T.C dx (xf ro eo ak sz h told0 r0 p false))) o (.ins T.C dx (xf ro eo ak sz h told r0 p false))) o (.ins T.C dx (xf ro eo (ak + 1) sz h told r0 p false))) := Off2.refl.putO.putO.putO
    have hO1 := hO.ts ts0
    have hE1 := hE.ts ts0
    generalize upd (upd (upd H o (.ins T.C dx (xf ro eo ak sz h told0 r0 p false))) o (.ins T.C dx (xf ro eo ak sz h told r0 p false))) o (.ins T.C dx (xf ro eo (ak + 1) sz h told r0 p false)) = H1 at X0 o0 hO1 hE1 ⊢
    clear ts0 hO hE
    obtain ⟨xs, hxs, hPr⟩ := id hO1
    have lx := hPr.len
    obtain ⟨h1, r1, vs1, e1, _⟩ := id X0.ex
    refine ⟨_, rfl, o, T.C, dx, _, _, rfl, e1, T.cl, T.nRo, xf_ro .., ro, rfl, ⟨_, SqT.of hxs⟩, ?_⟩
    refine for_tup (K := K) (a := ro) (xs := xs) (fun i σ H' => ∃ v1 v2, σ = [some (.ref o), some (.ref h), some (.bl told), v1, v2] ∧ Off2 o p H1 H' ∧ ExAt T.C H' o dx ro eo p (ak + 1) sz held told (runW sz held told (rs.take i) x).1 false ∧ goes sz held told (rs.take i) x = true) ⟨none, none, rfl, Off2.refl, X0, rfl⟩ (fun i σ H' _ ⟨_, _, _, o1, _⟩ => SqT.of (o1.ts X0 _ _ hxs)) ?_ ?_
    · rintro i y σ H' hy ⟨v1, v2, rfl, o1, X1, g1⟩
      obtain ⟨q, od, hod, rfl, hq⟩ := hPr.get hy
      have hq1 := o1.ts X0 _ _ hq
      have li : i < rs.length := lt_of_get hod
      refine ⟨q, _, rfl, SqT.of hq1, rfl, _, _, rfl, _, _, rfl, rfl, ?_⟩
      obtain ⟨h1, r1, vs1, e1, _⟩ := id X1.ex
      refine ⟨_, rfl, o, dx, _, rfl, e1, (xf_noA ..).2.2.1, _, rfl, o, dx, ro, eo, p, ak + 1, sz, held, told, _, false, od.1, rfl, X1, fun H2 s2 => ⟨_, rfl, ?_⟩⟩
      have X2 := X1.same s2
      have tk : rs.take (i + 1) = rs.take i ++ [od] := take_snoc hod
      have rg := run_goes sz held told (rs.take i) [od] x g1
      rw [← tk] at rg
      have rw1 : rs = rs.take i ++ (od :: rs.drop (i + 1)) := by
        have e := List.take_append_drop i rs
        rw [List.drop_eq_getElem_cons li] at e
        have : rs[i] = od := (List.getElem?_eq_some_iff.mp hod).2
        rw [this] at e
        exact e.symm
      have rgs := (run_goes sz held told (rs.take i) (od :: rs.drop (i + 1)) x g1).1
      rw [← rw1] at rgs
      have fe := few_run (told := told) hF.s1 hF.h (rs.take i) kk cc x hF.f
      have lt : (rs.take i).length ≤ 12 := by rw [List.length_take]; omega
      have fk : FitK sz held (kk + 12) (cc + 12 * (kk + 12)) (runW sz held told (rs.take i) x).1 := ⟨hF.s1, hF.s2, hF.h, by omega, by omega, fe.mono (by omega) (Nat.add_le_add_left (Nat.mul_le_mul lt (by omega)) _)⟩
      obtain ⟨h2, r2, vs2, e2, _⟩ := id X2.ex
      generalize hy0 : (runW sz held told (rs.take i) x).1 = y at rg rgs fk X1 X2 ⊢
      obtain ⟨t1, s1⟩ := od
      rw [runW_cons] at rgs
      have r1e := rg.1
      have r2e := rg.2.1
      rw [runW_cons] at r1e
      rw [goes_cons] at r2e
      refine ite2 (fun c => ?_) (fun c => ?_)
      · rw [if_pos c] at rgs r1e r2e
        refine ⟨_, rfl, rfl, _, rfl, ?_⟩
        rw [dS]
        by_cases c1 : s1 = "again"
        · rw [decide_eq_true c1]
          refine iteT ?_
          rw [if_pos c1] at rgs
          refine k _ (o0.trans (o1.same s2)) ?_
          unfold ansM
          rw [rgs]
          exact X2
        rw [decide_eq_false c1]
        rw [if_neg c1] at rgs r1e r2e
        refine iteF ⟨_, rfl, rfl, _, rfl, ?_⟩
        rw [dS]
        by_cases c2 : s1 = "stop"
        · rw [decide_eq_true c2]
          refine iteT ?_
          rw [if_pos c2] at rgs
          refine ⟨_, rfl, o, dx, _, rfl, e2, (xf_noA ..).2.1, o, dx, ro, eo, p, ak + 1, sz, held, told, y, false, es, _, _, rfl, X2, hE1.ts ((o1.same s2).ts X0), l2, fk, by omega, by omega, fun H3 o3 X3 => ?_⟩
          refine k _ ((o0.trans (o1.same s2)).trans o3) ?_
          unfold ansM
          rw [rgs]
          exact X3
        rw [decide_eq_false c2]
        rw [if_neg c2] at rgs r1e r2e
        refine iteF ?_
        refine ⟨_, rfl, o, dx, _, rfl, e2, (xf_noA ..).2.2.2.1, _, rfl, o, dx, ro, eo, p, ak + 1, sz, held, told, y, false, s1, rfl, X2, fk.fit, fun H3 o3 X3 => ?_⟩
        exact ⟨_, _, rfl, (o1.same s2).trans o3, by rw [r1e]; exact X3, r2e⟩
      · rw [if_neg c] at rgs r1e r2e
        exact ⟨_, _, rfl, o1.same s2, by rw [r1e]; exact X2, r2e⟩
    · rintro σ H' ⟨v1, v2, rfl, o1, X1, g1⟩
      rw [lx, List.take_length] at X1 g1
      refine k _ (o0.trans o1) ?_
      unfold ansM
      rw [(run_goes sz held told rs [] x g1).2.2]
      exact X1
end
end My

/-! the checks of sizes and replies -/
namespace My
open PySem L2 Cm LM
abbrev sIIB : Stmt := top 13
abbrev sISR : Stmt := top 14
abbrev sCKS : Stmt := top 16
abbrev sCKR : Stmt := top 17
abbrev sES : Stmt := inClass (top 6) 0
abbrev sER : Stmt := inClass (top 7) 0
structure TxEr (K : PySem.W.Frag) (mg : Str → Option Value) (name fld : Str) (st : Stmt) (qual : Str) where
  C : Addr
  f : Addr
  fd : FuncData
  g : mg name = some (.ref C)
  o : OexC K C
  i : PySem.W.findIn K (.ref C) "__init__" = some (some (.ref f))
  t : PySem.W.typeIn K (.ref f) = some (.type "function")
  n : PySem.W.findIn K (.ref C) fld = some none
  F : Fun K "__init__" qual st f fd
  b : Binds K fd ["self", fld] []
structure TxK (K : PySem.W.Frag) (mg : Str → Option Value) where
  isi : mg "isinstance" = none
  int : mg "int" = none
  bool : mg "bool" = none
  tuple : mg "tuple" = none
  len : mg "len" = none
  enum : mg "enumerate" = none
  mr : ∃ t, mg "MOST_REPLIES" = some (.int 100 t)
  mi : ∃ t, mg "MOST_ITEMS" = some (.int 1000 t)
  iib : Df K mg "is_integer_between" sIIB ["value", "low", "high"]
  isr : Df K mg "is_reply" sISR ["value", "most"]
  cks : Df K mg "check_size" sCKS ["size"]
  ckr : Df K mg "check_replies" sCKR ["replies", "most"]
  eS : TxEr K mg "InvalidSize" "value" sES "InvalidSize.__init__"
  eR : TxEr K mg "InvalidReplies" "index" sER "InvalidReplies.__init__"
section
variable {P : Program} {w : World} {K : PySem.W.Frag} {mg : Str → Option Value} {base : Heap}
def spER (fld : Str) (CE : Addr) : Sp := fun vs H Q _ => ∃ (a : Addr) (v : V), vs = [.ref a, v] ∧ H a = some (exo a CE none) ∧ ∀ dx, H dx = none → dx ≠ a → Q .non (upd (upd H dx (exd dx [(fld, v)])) a (exo a CE (some dx)))
theorem scES : FnScope ["self", "value"] ["self", "value"] (defScope sES) := ⟨rfl, rfl, rfl, by decide +kernel, rfl, by decide +kernel, by decide +kernel⟩
theorem scER : FnScope ["self", "index"] ["self", "index"] (defScope sER) := ⟨rfl, rfl, rfl, by decide +kernel, rfl, by decide +kernel, by decide +kernel⟩
theorem ok_eS (T : TxEr K mg "InvalidSize" "value" sES "InvalidSize.__init__") : FnOk P w K mg base CX0 1 T.f T.fd ["self", "value"] (spER "value" T.C) := by
  refine T.F.ok scES (fun vs H Q E h => ?_) (fun cdv A outer s H vs Q E hr h => ?_)
  · obtain ⟨a, v, rfl, _⟩ := h
    rfl
  · obtain ⟨a, v, rfl, ha, k⟩ := h
    exact ⟨_, pss_one (ps_ost (pv 0) (pv 1)), _, rfl, _, rfl, a, T.C, rfl, T.o, T.n, .inl ⟨ha, fun dx n ne => k dx n ne⟩⟩
theorem ok_eR (T : TxEr K mg "InvalidReplies" "index" sER "InvalidReplies.__init__") : FnOk P w K mg base CX0 1 T.f T.fd ["self", "index"] (spER "index" T.C) := by
  refine T.F.ok scER (fun vs H Q E h => ?_) (fun cdv A outer s H vs Q E hr h => ?_)
  · obtain ⟨a, v, rfl, _⟩ := h
    rfl
  · obtain ⟨a, v, rfl, ha, k⟩ := h
    exact ⟨_, pss_one (ps_ost (pv 0) (pv 1)), _, rfl, _, rfl, a, T.C, rfl, T.o, T.n, .inl ⟨ha, fun dx n ne => k dx n ne⟩⟩
theorem mk_er {fld : Str} {CE : Addr} {ta : TA} {σ : St} {H : Hp} {Q : XK} {x : V} (h : ta σ H fun vs H1 => vs = [x] ∧ H1 = H) (mono : ∀ {R R' : List V → Hp → Prop}, ta σ H R → (∀ v H1, R v H1 → R' v H1) → ta σ H R')
    (q : ∀ d, H d = none → Q (.ref CE) (some d) (upd H d (.xd [(fld, x)]))) : tMkO CE (spER fld CE) [] ta σ H Q := by
  refine mono h fun vs H1 hh => ?_
  obtain ⟨rfl, rfl⟩ := hh
  refine ⟨by show 1 ≤ 1000; decide, fun a na => ⟨a, x, rfl, upd_same, fun dx ndx nda => ⟨rfl, dx, [(fld, x)], upd_same, ?_, ?_, ?_⟩⟩⟩
  · rw [upd_ne nda, upd_same]
  · rw [upd_ne nda] at ndx
    exact ndx
  · have e : upd (del (upd (upd (upd H1 a (exo a CE none)) dx (exd dx [(fld, x)])) a (exo a CE (some dx))) a) dx (.xd [(fld, x)]) = upd H1 dx (.xd [(fld, x)]) := by
      funext b
      by_cases h1 : b = dx
      · rw [h1, upd_same, upd_same]
      · rw [upd_ne h1, upd_ne h1]
        by_cases h2 : b = a
        · rw [h2, del_same, na]
        · rw [del_ne h2, upd_ne h2, upd_ne h1, upd_ne h2]
    rw [e]
    rw [upd_ne nda] at ndx
    exact q dx ndx
/-! ### is_integer_between -/
def isI : V → Bool
  | .int _ => true
  | _ => false
def isB : V → Bool
  | .bl _ => true
  | _ => false
/-- an integer within these bounds -/
def btw (lo hi : Int) : V → Bool
  | .int i => decide (lo ≤ i ∧ i ≤ hi)
  | _ => false
def TypedI (K : PySem.W.Frag) (H : Hp) (x : V) : Prop := ∃ t, TyX K H x t ∧ PySem.W.kitOne K t (.type "int") = some (isI x || isB x) ∧ PySem.W.kitOne K t (.type "bool") = some (isB x)
theorem TypedI.same {H H' : Hp} {x : V} (s : Same H H') (h : TypedI K H x) : TypedI K H' x := let ⟨t, a, b⟩ := h; ⟨t, TyX_same s a, b⟩
theorem typed_int {H : Hp} (i : Int) : TypedI K H (.int i) := ⟨_, .base (.int i), kit_ty (show kitB "int" "int" = some true by decide +kernel), kit_ty (show kitB "int" "bool" = some false by decide +kernel)⟩
theorem typed_bl {H : Hp} (i : Bool) : TypedI K H (.bl i) := ⟨_, .base (.bl i), kit_ty (show kitB "bool" "int" = some true by decide +kernel), kit_ty (show kitB "bool" "bool" = some true by decide +kernel)⟩
def spIIB (K : PySem.W.Frag) : Sp := fun vs H Q _ => ∃ (v : V) (lo hi : Int), vs = [v, .int lo, .int hi] ∧ TypedI K H v ∧ Q (.bl (btw lo hi v)) H
theorem scIIB : FnScope ["value", "low", "high"] ["value", "low", "high"] (defScope sIIB) := ⟨rfl, rfl, rfl, by decide +kernel, rfl, by decide +kernel, by decide +kernel⟩
theorem ok_iib (M : TxK K mg) : FnOk P w K mg base CX0 1 M.iib.f M.iib.fd ["value", "low", "high"] (spIIB K) := by
  refine M.iib.F.ok scIIB (fun vs H Q E h => ?_) (fun cdv A outer s H vs Q E hr h => ?_)
  · obtain ⟨v, lo, hi, rfl, _⟩ := h
    rfl
  · obtain ⟨v, lo, hi, rfl, ⟨t, ty, k1, k2⟩, k⟩ := h
    refine ⟨_, pss_one (ps_ret (pe_and (pe_callB call_isi (by rfl) M.isi (by decide +kernel) (pa_cons (pv 0) (pa_cons (pe_bltn (v := .ty "int") (by rfl) M.int (by decide +kernel) rfl) pa_nil)))
      (pe_and (pe_not (pe_callB call_isi (by rfl) M.isi (by decide +kernel) (pa_cons (pv 0) (pa_cons (pe_bltn (v := .ty "bool") (by rfl) M.bool (by decide +kernel) rfl) pa_nil))))
        (pe_one (pe_chain op_le op_le (pv 1) (pv 0) (pv 2)))))), ?_⟩
    refine ⟨_, rfl, _, _, _, _, _, rfl, .ty "int", ty, k1, _, rfl, ?_⟩
    cases hv : (isI v || isB v) with
    | false =>
      refine iteF ?_
      have e : btw lo hi v = false := by
        cases v <;> first | rfl | cases hv
      rw [e] at k
      exact k
    | true =>
      refine iteT ?_
      refine ⟨_, rfl, _, _, _, _, _, rfl, .ty "bool", ty, k2, _, rfl, _, rfl, ?_⟩
      cases hb : isB v with
      | true =>
        have e : btw lo hi v = false := by
          cases v <;> first | rfl | cases hb
        rw [e] at k
        exact iteF k
      | false =>
        refine iteT ?_
        rw [hb, Bool.or_false] at hv
        obtain ⟨i, rfl⟩ : ∃ i, v = .int i := by
          cases v <;> first | exact ⟨_, rfl⟩ | cases hv
        refine ⟨_, rfl, _, rfl, _, _, rfl, rfl, _, rfl, ?_⟩
        have k : Q (.bl (decide (lo ≤ i ∧ i ≤ hi))) H := k
        refine ite2 (fun c => ?_) (fun c => ?_)
        · refine ⟨_, rfl, _, _, rfl, rfl, ?_⟩
          have c1 : lo ≤ i := of_decide_eq_true c
          have e : decide (lo ≤ i ∧ i ≤ hi) = decide (i ≤ hi) := decide_eq_decide.mpr ⟨fun z => z.2, fun z => ⟨c1, z⟩⟩
          rw [e] at k
          exact k
        · have c1 : ¬ lo ≤ i := fun z => c (decide_eq_true z)
          rw [show decide (lo ≤ i ∧ i ≤ hi) = false from decide_eq_false fun z => c1 z.1] at k
          exact k
/-! ### check_size -/
def spCKS (K : PySem.W.Frag) (CE : Addr) : Sp := fun vs H Q E => ∃ v : V, vs = [v] ∧ TypedI K H v ∧ (btw 1 1000 v = true → Q .non H) ∧ (btw 1 1000 v = false → ∀ d, H d = none → E (.ref CE) (some d) (upd H d (.xd [("value", v)])))
theorem scCKS : FnScope ["size"] ["size"] (defScope sCKS) := ⟨rfl, rfl, rfl, by decide +kernel, rfl, by decide +kernel, by decide +kernel⟩
theorem ok_cks (M : TxK K mg) : FnOk P w K mg base (L2.CX P w) 3 M.cks.f M.cks.fd ["size"] (spCKS K M.eS.C) := by
  have GI : FnOk P w K mg base CX0 1 M.iib.f M.iib.fd ["value", "low", "high"] (spIIB K) := ok_iib M
  have GE : FnOk P w K mg base CX0 1 M.eS.f M.eS.fd ["self", "value"] (spER "value" M.eS.C) := ok_eS M.eS
  obtain ⟨tm, mi⟩ := M.mi
  refine M.cks.F.okX scCKS (fun vs H Q E h => ?_) (fun cdv A outer s H vs Q E hr h => ?_)
  · obtain ⟨v, rfl, _⟩ := h
    rfl
  · obtain ⟨v, rfl, ty, k1, k2⟩ := h
    have hr1 : Room 1 _ := hr.mono (by decide)
    refine ⟨_, pss_one (ps_if (pt_not (pt_val (pe_call GI hr1 rfl M.iib.g M.iib.k M.iib.b .nil pass0 (pa_cons (pv 0) (pa_cons pe_int (pa_cons (pe_glob (v := .int 1000) rfl mi ⟨_, rfl⟩) pa_nil))))))
      (pss_one (ps_raise rfl (takes_of rfl rfl rfl rfl) (pmk_oex M.eS.o M.eS.i M.eS.t GE hr M.eS.b .nil pass0 rfl M.eS.g (pa_cons (pv 0) pa_nil)))) pss_nil), ?_⟩
    refine ⟨_, rfl, v, 1, 1000, rfl, ty, _, rfl, ?_⟩
    cases hb : btw 1 1000 v with
    | true => exact iteF (k1 hb)
    | false => exact iteT (mk_er (x := v) ⟨v, rfl, rfl, rfl⟩ (fun {R R'} ⟨v, e1, q⟩ f => ⟨v, e1, f _ _ q⟩) (k2 hb))
/-! ### is_reply -/
/-- it is no tuple -/
def NoTup (K : PySem.W.Frag) (H : Hp) (v : V) : Prop := ∃ t, TyX K H v t ∧ PySem.W.kitOne K t (.type "tuple") = some false
/-- whether it is a reply -/
inductive RepV (K : PySem.W.Frag) (H : Hp) (m : Int) : V → Bool → Prop
  | pair {t : Addr} {c b : V} (h : H t = some (.tup [c, b])) (hc : TypedI K H c) (hb : TypedI K H b) : RepV K H m (.ref t) (btw 0 m c && isB b)
  | long {t : Addr} {xs : List V} (h : H t = some (.tup xs)) (n : xs.length ≠ 2) : RepV K H m (.ref t) false
  | other {v : V} (h : NoTup K H v) : RepV K H m v false
theorem RepV.same {H H' : Hp} {m : Int} {v : V} {b : Bool} (s : Same H H') (h : RepV K H m v b) : RepV K H' m v b := by
  cases h with
  | pair h hc hb => exact .pair (s _ _ h) (hc.same s) (hb.same s)
  | long h n => exact .long (s _ _ h) n
  | other h => exact .other (let ⟨t, a, b⟩ := h; ⟨t, TyX_same s a, b⟩)
def spISR (K : PySem.W.Frag) : Sp := fun vs H Q _ => ∃ (v : V) (m : Int) (b : Bool), vs = [v, .int m] ∧ RepV K H m v b ∧ Q (.bl b) H
theorem scISR : FnScope ["value", "most", "count", "told"] ["value", "most"] (defScope sISR) := ⟨rfl, rfl, rfl, by decide +kernel, rfl, by decide +kernel, by decide +kernel⟩
theorem ok_isr (M : TxK K mg) : FnOk P w K mg base CX0 2 M.isr.f M.isr.fd ["value", "most"] (spISR K) := by
  have GI : FnOk P w K mg base CX0 1 M.iib.f M.iib.fd ["value", "low", "high"] (spIIB K) := ok_iib M
  refine M.isr.F.ok scISR (fun vs H Q E h => ?_) (fun cdv A outer s H vs Q E hr h => ?_)
  · obtain ⟨v, m, b, rfl, _⟩ := h
    rfl
  · obtain ⟨v, m, b, rfl, hR, k⟩ := h
    refine ⟨_, pss_cons (ps_if (PW.pt (pw_or (pt_not (pt_val (pe_callB call_isi (by rfl) M.isi (by decide +kernel) (pa_cons (pv 0) (pa_cons (pe_bltn (v := .ty "tuple") (by rfl) M.tuple (by decide +kernel) rfl) pa_nil)))))
          (pw_or1 (pt_cmpR op_ne (pe_callB call_len_seq (by rfl) M.len PySem.boot_len (pa_cons (pv 0) pa_nil)) pe_int (nomark _))))) (pss_one (ps_ret pe_bl)) pss_nil)
      (pss_cons (ps_asg (pv 0) (pg_tup rfl (pgs_cons (pg_name (i := 2) scISR.nd rfl (.inl rfl)) (pgs_cons (pg_name (i := 3) scISR.nd rfl (.inl rfl)) pgs_nil))))
      (pss_one (ps_ret (pe_and (pe_call GI hr rfl M.iib.g M.iib.k M.iib.b .nil pass0 (pa_cons (pv 2) (pa_cons pe_int (pa_cons (pv 1) pa_nil))))
        (pe_one (pe_callB call_isi (by rfl) M.isi (by decide +kernel) (pa_cons (pv 3) (pa_cons (pe_bltn (v := .ty "bool") (by rfl) M.bool (by decide +kernel) rfl) pa_nil)))))))), ?_⟩
    cases hR with
    | @pair t c b ht hc hb =>
      refine ⟨_, rfl, _, _, _, _, true, rfl, .ty "tuple", .base (.tup ht), kit_ty (by decide +kernel), true, rfl, iteF ?_⟩
      refine ⟨_, rfl, t, _, rfl, .inr (SqT.of ht), rfl, _, rfl, iteF ?_⟩
      refine ⟨_, rfl, t, _, rfl, SqT.of ht, rfl, _, _, rfl, _, _, rfl, rfl, ?_⟩
      refine ⟨_, rfl, _, rfl, c, 0, m, rfl, hc, _, rfl, ?_⟩
      cases hx : btw 0 m c with
      | false =>
        rw [hx] at k
        exact iteF k
      | true =>
        rw [hx, Bool.true_and] at k
        obtain ⟨tb, tyb, kb1, kb2⟩ := hb
        exact iteT ⟨_, rfl, _, _, _, _, _, rfl, .ty "bool", tyb, kb2, k⟩
    | @long t xs ht n =>
      refine ⟨_, rfl, _, _, _, _, true, rfl, .ty "tuple", .base (.tup ht), kit_ty (by decide +kernel), true, rfl, iteF ?_⟩
      refine ⟨_, rfl, t, _, rfl, .inr (SqT.of ht), rfl, _, rfl, ?_⟩
      rw [dI, decide_eq_false (show ¬ (xs.length : Int) = 2 by omega)]
      exact iteT k
    | other h =>
      obtain ⟨tt, ty, kt⟩ := h
      exact ⟨_, rfl, _, _, _, _, false, rfl, .ty "tuple", ty, kt, false, rfl, iteT (iteT k)⟩
/-! ### check_replies -/
inductive RepVs (K : PySem.W.Frag) (H : Hp) (m : Int) : List V → List Bool → Prop
  | nil : RepVs K H m [] []
  | cons {v : V} {b : Bool} {vs : List V} {bs : List Bool} (h : RepV K H m v b) (t : RepVs K H m vs bs) : RepVs K H m (v :: vs) (b :: bs)
theorem RepVs.len {H : Hp} {m : Int} : ∀ {vs bs}, RepVs K H m vs bs → vs.length = bs.length
  | _, _, .nil => rfl
  | _, _, .cons _ t => congrArg (· + 1) t.len
theorem RepVs.get {H : Hp} {m : Int} : ∀ {vs bs} {i : Nat} {x : V}, RepVs K H m vs bs → vs[i]? = some x → ∃ b, bs[i]? = some b ∧ RepV K H m x b
  | _, _, i, x, .nil, h => by simp at h
  | _, _, 0, x, .cons h _, e => ⟨_, rfl, by cases (Option.some.inj e); exact h⟩
  | _, _, i + 1, x, .cons _ t, e => t.get (i := i) e
/-- the first place that is wrong -/
def firstF (bs : List Bool) (i : Nat) : Prop := bs[i]? = some false ∧ ∀ k, k < i → bs[k]? = some true
def spCKR (K : PySem.W.Frag) (CE : Addr) : Sp := fun vs H Q E => ∃ (v : V) (m : Int), vs = [v, .int m] ∧
  (((NoTup K H v ∨ ∃ t xs, v = .ref t ∧ H t = some (.tup xs) ∧ 100 < xs.length) ∧ ∀ d, H d = none → E (.ref CE) (some d) (upd H d (.xd [("index", .non)]))) ∨
   ∃ (t : Addr) (xs : List V) (bs : List Bool), v = .ref t ∧ H t = some (.tup xs) ∧ xs.length ≤ 100 ∧ RepVs K H m xs bs ∧ ((∀ b ∈ bs, b = true) → ∀ H', Same H H' → Q .non H') ∧
     ∀ i, firstF bs i → ∀ (H' : Hp) (d : Addr), Same H H' → H' d = none → E (.ref CE) (some d) (upd H' d (.xd [("index", .int (i : Nat))])))
theorem scCKR : FnScope ["replies", "most", "index", "reply"] ["replies", "most"] (defScope sCKR) := ⟨rfl, rfl, rfl, by decide +kernel, rfl, by decide +kernel, by decide +kernel⟩
theorem ok_ckr (M : TxK K mg) : FnOk P w K mg base (L2.CX P w) 3 M.ckr.f M.ckr.fd ["replies", "most"] (spCKR K M.eR.C) := by
  have G2 : FnOk P w K mg base CX0 2 M.isr.f M.isr.fd ["value", "most"] (spISR K) := ok_isr M
  have GE : FnOk P w K mg base CX0 1 M.eR.f M.eR.fd ["self", "index"] (spER "index" M.eR.C) := ok_eR M.eR
  obtain ⟨tm, mr⟩ := M.mr
  refine M.ckr.F.okX scCKR (fun vs H Q E h => ?_) (fun cdv A outer s H vs Q E hr h => ?_)
  · obtain ⟨v, m, rfl, _⟩ := h
    rfl
  · obtain ⟨v, m, rfl, hh⟩ := h
    refine ⟨_, pss_cons (ps_if (PW.pt (pw_or (pt_not (pt_val (pe_callB call_isi (by rfl) M.isi (by decide +kernel) (pa_cons (pv 0) (pa_cons (pe_bltn (v := .ty "tuple") (by rfl) M.tuple (by decide +kernel) rfl) pa_nil)))))
          (pw_or1 (pt_cmpR op_gt (pe_callB call_len_seq (by rfl) M.len PySem.boot_len (pa_cons (pv 0) pa_nil)) (pe_glob (v := .int 100) rfl mr ⟨_, rfl⟩) (nomark _)))))
          (pss_one (ps_raise rfl (takes_of rfl rfl rfl rfl) (pmk_oex M.eR.o M.eR.i M.eR.t GE hr M.eR.b .nil pass0 rfl M.eR.g (pa_cons pe_non pa_nil)))) pss_nil)
      (pss_one (ps_for (passes_of rfl) rfl (ETup.pi_enumT (by rfl) M.enum (pa_cons (pv 0) pa_nil)) (pg_tup rfl (pgs_cons (pg_name (i := 2) scCKR.nd rfl (.inl rfl)) (pgs_cons (pg_name (i := 3) scCKR.nd rfl (.inl rfl)) pgs_nil)))
        (pss_one (ps_if (pt_not (pt_val (pe_call G2 hr rfl M.isr.g M.isr.k M.isr.b .nil pass0 (pa_cons (pv 3) (pa_cons (pv 1) pa_nil)))))
          (pss_one (ps_raise rfl (takes_of rfl rfl rfl rfl) (pmk_oex M.eR.o M.eR.i M.eR.t GE hr M.eR.b .nil pass0 rfl M.eR.g (pa_cons (pv 2) pa_nil)))) pss_nil)))), ?_⟩
    rcases hh with ⟨hv, k⟩ | ⟨t, xs, bs, rfl, ht, hl, hR, k1, k2⟩
    · rcases hv with ⟨tt, ty, kt⟩ | ⟨t, xs, rfl, ht, hl⟩
      · exact ⟨_, rfl, _, _, _, _, false, rfl, .ty "tuple", ty, kt, false, rfl, iteT (iteT (mk_er (x := .non) ⟨rfl, rfl⟩ (fun {R R'} q f => f _ _ q) k))⟩
      · refine ⟨_, rfl, _, _, _, _, true, rfl, .ty "tuple", .base (.tup ht), kit_ty (by decide +kernel), true, rfl, iteF ?_⟩
        refine ⟨_, rfl, t, _, rfl, .inr (SqT.of ht), _, _, rfl, rfl, _, rfl, ?_⟩
        rw [decide_eq_true (show (100 : Int) < (xs.length : Int) by omega)]
        exact iteT (mk_er (x := .non) ⟨rfl, rfl⟩ (fun {R R'} q f => f _ _ q) k)
    · refine ⟨_, rfl, _, _, _, _, true, rfl, .ty "tuple", .base (.tup ht), kit_ty (by decide +kernel), true, rfl, iteF ?_⟩
      refine ⟨_, rfl, t, _, rfl, .inr (SqT.of ht), _, _, rfl, rfl, _, rfl, ?_⟩
      rw [decide_eq_false (show ¬ (100 : Int) < (xs.length : Int) by omega)]
      refine iteF ?_
      have lx := hR.len
      refine ⟨_, rfl, t, xs, rfl, SqT.of ht, ETup.for_enumT (K := K) (a := t) (xs := xs) (fun i σ H' => Same H H' ∧ (∃ v v', σ = [some (.ref t), some (.int m), v, v']) ∧ ∀ k, k < i → bs[k]? = some true) ⟨Same.refl _, ⟨none, none, rfl⟩, fun k z => absurd z (Nat.not_lt_zero _)⟩ (fun i σ H' _ ⟨s', _⟩ => SqT.of (s' _ _ ht)) ?_ ?_⟩
      · rintro i x σ H' T' hx ⟨s', ⟨v, v', rfl⟩, hb⟩ nT
        obtain ⟨b, hb1, hr1⟩ := hR.get hx
        have s2 : Same H (upd H' T' (.tup [.int (i : Nat), x])) := Same.trans s' (same_new nT)
        refine ⟨T', _, rfl, SqT.of upd_same, rfl, _, _, rfl, _, _, rfl, rfl, ?_⟩
        refine ⟨_, rfl, _, rfl, x, m, b, rfl, hr1.same s2, _, rfl, ?_⟩
        cases b with
        | true =>
          refine iteF ⟨s2, ⟨_, _, rfl⟩, fun k hk => ?_⟩
          by_cases e : k < i
          · exact hb k e
          · rw [show k = i by omega]
            exact hb1
        | false => exact iteT (mk_er (x := .int (i : Nat)) ⟨_, rfl, rfl, rfl⟩ (fun {R R'} ⟨v, e1, q⟩ f => ⟨v, e1, f _ _ q⟩) fun d nd => k2 i ⟨hb1, hb⟩ _ d s2 nd)
      · rintro σ H' ⟨s', ⟨v, v', rfl⟩, hb⟩
        refine k1 (fun b hm => ?_) H' s'
        obtain ⟨i, hi, rfl⟩ := List.getElem_of_mem hm
        have := hb i (by omega)
        rw [List.getElem?_eq_getElem hi] at this
        exact Option.some.inj this
end
end My

/-! Loop.execution, Loop.run -/
namespace My
open PySem L2 Cm LM EM
abbrev sLX : Stmt := inClass (top 31) 8
abbrev sLN : Stmt := inClass (top 31) 6
abbrev sLT : Stmt := inClass (top 31) 7
/-! ### the mirror -/
def itemsF (f c : Nat) : List Int := (List.range c).map fun i => (f : Int) + (i : Nat)
theorem itemsF_len (f c : Nat) : (itemsF f c).length = c := by rw [itemsF, List.length_map, List.length_range]
theorem rgV_items (f c : Nat) : rgV (f : Int) ((f : Int) + (c : Int)) = ivs (itemsF f c) := by
  unfold rgV itemsF ivs
  rw [show ((f : Int) + (c : Int) - (f : Int)).toNat = c by omega, List.map_map]
  rfl
/-- what a run has done: the row, the first item that comes next, the replies used, whether it has stopped -/
structure RS where
  x : RP
  f : Nat
  u : Nat
  st : Bool
def stepM (sz : Nat) (ro eo : List (Str × Str)) (s : RS) (r : Nat × Bool) : RS := if s.st = true then s else ⟨(ansM sz ro eo (itemsF s.f r.1) r.2 s.x).1, s.f + r.1, s.u + 1, (ansM sz ro eo (itemsF s.f r.1) r.2 s.x).2⟩
def runM (sz : Nat) (ro eo : List (Str × Str)) (rs : List (Nat × Bool)) : RS := rs.foldl (stepM sz ro eo) ⟨⟨[], []⟩, 0, 0, false⟩
theorem runM_stop {sz : Nat} {ro eo : List (Str × Str)} : ∀ {rs : List (Nat × Bool)} {s : RS}, s.st = true → rs.foldl (stepM sz ro eo) s = s
  | [], _, _ => rfl
  | r :: rs, s, h => by
    rw [List.foldl_cons, show stepM sz ro eo s r = s by unfold stepM; rw [if_pos h]]
    exact runM_stop h
theorem fold_bound {sz : Nat} {ro eo : List (Str × Str)} (hs : 1 ≤ sz) (l1 : ro.length ≤ 12) (l2 : eo.length ≤ 6) : ∀ (rs : List (Nat × Bool)) (k : Nat) (s : RS), k + rs.length ≤ 100 → (∀ r ∈ rs, r.1 ≤ sz) → Few sz (18 * k) (k * 32724) s.x → s.f ≤ k * sz → s.u ≤ k →
    Few sz (18 * (k + rs.length)) ((k + rs.length) * 32724) (rs.foldl (stepM sz ro eo) s).x ∧ (rs.foldl (stepM sz ro eo) s).f ≤ (k + rs.length) * sz ∧ (rs.foldl (stepM sz ro eo) s).u ≤ k + rs.length
  | [], k, s, _, _, f1, f2, f3 => ⟨f1, f2, f3⟩
  | r :: rs, k, s, hn, hr, f1, f2, f3 => by
    rw [List.length_cons] at hn
    have em : (k + 1) * sz = k * sz + sz := Nat.succ_mul _ _
    have hr1 : r.1 ≤ sz := hr r (List.mem_cons_self ..)
    have st : Few sz (18 * (k + 1)) ((k + 1) * 32724) (stepM sz ro eo s r).x ∧ (stepM sz ro eo s r).f ≤ (k + 1) * sz ∧ (stepM sz ro eo s r).u ≤ k + 1 := by
      unfold stepM
      split
      · exact ⟨f1.mono (by omega) (by omega), by omega, by omega⟩
      · refine ⟨?_, by show s.f + r.1 ≤ _; omega, by show s.u + 1 ≤ _; omega⟩
        have := few_ans (ro := ro) (eo := eo) (held := itemsF s.f r.1) (told := r.2) hs (by rw [itemsF_len]; exact hr1) l1 l2 f1
        exact this.mono (by omega) (by omega)
    have ih := fold_bound hs l1 l2 rs (k + 1) (stepM sz ro eo s r) (by omega) (fun q hq => hr q (List.mem_cons_of_mem _ hq)) st.1 st.2.1 st.2.2
    rw [List.foldl_cons, List.length_cons, show k + (rs.length + 1) = k + 1 + rs.length by omega]
    exact ih
theorem runM_bound {sz : Nat} {ro eo : List (Str × Str)} (hs : 1 ≤ sz) (l1 : ro.length ≤ 12) (l2 : eo.length ≤ 6) (rs : List (Nat × Bool)) (hn : rs.length ≤ 100) (hr : ∀ r ∈ rs, r.1 ≤ sz) :
    Few sz (18 * rs.length) (rs.length * 32724) (runM sz ro eo rs).x ∧ (runM sz ro eo rs).f ≤ rs.length * sz ∧ (runM sz ro eo rs).u ≤ rs.length := by
  have := fold_bound (ro := ro) (eo := eo) hs l1 l2 rs 0 ⟨⟨[], []⟩, 0, 0, false⟩ (by omega) hr ⟨Nat.zero_le _, Nat.zero_le _⟩ (Nat.zero_le _) (Nat.zero_le _)
  rw [Nat.zero_add] at this
  exact this
/-- rows of replies -/
inductive Rps (H : Hp) : List V → List (Nat × Bool) → Prop
  | nil : Rps H [] []
  | cons {q : Addr} {r : Nat × Bool} {vs : List V} {rs : List (Nat × Bool)} (h : H q = some (.tup [.int r.1, .bl r.2])) (t : Rps H vs rs) : Rps H (.ref q :: vs) (r :: rs)
theorem Rps.mono {H H' : Hp} (f : ∀ (p : Addr) (xs : List V), H p = some (.tup xs) → H' p = some (.tup xs)) : ∀ {vs rs}, Rps H vs rs → Rps H' vs rs
  | _, _, .nil => .nil
  | _, _, .cons h t => .cons (f _ _ h) (t.mono f)
theorem Rps.same {H H' : Hp} (s : Same H H') {vs rs} (h : Rps H vs rs) : Rps H' vs rs := h.mono fun _ _ e => s _ _ e
theorem Rps.len {H : Hp} : ∀ {vs rs}, Rps H vs rs → vs.length = rs.length
  | _, _, .nil => rfl
  | _, _, .cons _ t => congrArg (· + 1) t.len
theorem Rps.get {H : Hp} : ∀ {vs rs} {i : Nat} {y : V}, Rps H vs rs → vs[i]? = some y → ∃ (q : Addr) (r : Nat × Bool), rs[i]? = some r ∧ y = .ref q ∧ H q = some (.tup [.int r.1, .bl r.2])
  | _, _, i, y, .nil, h => by simp at h
  | _, _, 0, y, .cons h _, e => ⟨_, _, rfl, (Option.some.inj e).symm, h⟩
  | _, _, i + 1, y, .cons _ t, e => t.get (i := i) e
theorem Rps.good {K : PySem.W.Frag} {H : Hp} {m : Nat} : ∀ {vs rs}, Rps H vs rs → (∀ r ∈ rs, r.1 ≤ m) → ∃ bs, RepVs K H (m : Int) vs bs ∧ ∀ b ∈ bs, b = true
  | _, _, .nil, _ => ⟨[], .nil, fun b h => nomatch h⟩
  | _, _, .cons (r := r) h t, hr => by
    obtain ⟨bs, h1, h2⟩ := t.good (K := K) fun q hq => hr q (List.mem_cons_of_mem _ hq)
    have h3 := hr r (List.mem_cons_self ..)
    refine ⟨_, .cons (.pair h (typed_int _) (typed_bl _)) h1, fun b hb => ?_⟩
    rcases List.mem_cons.mp hb with rfl | hb
    · show (decide ((0 : Int) ≤ (r.1 : Int) ∧ (r.1 : Int) ≤ (m : Int)) && true) = true
      rw [decide_eq_true ⟨by omega, by omega⟩]
      rfl
    · exact h2 b hb
structure TxN (K : PySem.W.Frag) (mg : Str → Option Value) where
  T : TxC K mg
  X : TxX K mg
  k : TxK K mg
  lx : Mt K T.C "execution" "Loop.execution" sLX ["self", "size", "kept"]
  lt : Mt K T.C "work_through" "Loop.work_through" sLT ["self", "size", "replies"]
  ln : Mt K T.C "run" "Loop.run" sLN ["self", "size", "replies"]
def ordsR (t : Str) : List (Str × Str) := (wordsR t).map orderOf
def ordsE (t : Str) : List (Str × Str) := (wordsE t).map orderOf
section
variable {P : Program} {w : World} {K : PySem.W.Frag} {mg : Str → Option Value} {base : Heap}
def spLX (CL CX : Addr) : Sp := fun vs H Q _ => ∃ (o r : Addr) (t : Str) (sz : Nat) (rest : List Int), vs = [.ref o, .int sz, .ref r] ∧ LoopAt CL H o t ∧ H r = some (.tup (ivs rest)) ∧
  ∀ (H' : Hp) (x dx ro eo p : Addr), Same H H' → H x = none → H p = none → ExAt CX H' x dx ro eo p 0 sz [] false ⟨rest, []⟩ false → OrdT H' ro (ordsR t) → OrdT H' eo (ordsE t) → Q (.ref x) H'
theorem scLX : FnScope ["self", "size", "kept"] ["self", "size", "kept"] (defScope sLX) := ⟨rfl, rfl, rfl, by decide +kernel, rfl, by decide +kernel, by decide +kernel⟩
theorem ok_lx (N : TxN K mg) : FnOk P w K mg base CX0 3 N.lx.f N.lx.fd ["self", "size", "kept"] (spLX N.T.C N.X.C) := by
  have GI : FnOk P w K mg base CX0 1 N.X.fI N.X.fdI ["self", "round_orders", "ending_orders", "size", "kept"] (spXI N.X.C) := ok_xi N.X
  refine N.lx.F.ok scLX (fun vs H Q E h => ?_) (fun cdv A outer s H vs Q E hr h => ?_)
  · obtain ⟨o, r, t, sz, rest, rfl, _⟩ := h
    rfl
  · obtain ⟨o, r, t, sz, rest, rfl, ⟨dx, pr, pe, po, pq, e, _, _, h1, h2⟩, hr', k⟩ := h
    refine ⟨_, pss_one (ps_ret (pe_make N.X.MI GI hr rfl N.X.gC N.X.bI .nil pass0 (pa_cons (pe_fld (pv 0) rfl) (pa_cons (pe_fld (pv 0) rfl) (pa_cons (pv 1) (pa_cons (pv 2) pa_nil)))))), ?_⟩
    refine ⟨_, rfl, o, N.T.C, dx, _, _, rfl, e, N.T.cl, N.T.nO, lf_ro .., _, rfl, o, N.T.C, dx, _, _, rfl, e, N.T.cl, N.T.nQ, lf_eo .., _, rfl, _, rfl, ?_⟩
    intro x dx' nx ndx nex
    refine ⟨x, dx', po, pq, r, sz, rest, rfl, upd_same, ?_, fun H2 p o2 np X2 => ⟨rfl, ?_⟩⟩
    · rw [upd_ne (ne_of_none hr' nx), upd_ne (ne_of_none hr' ndx)]
      exact hr'
    · have s2 := made_same nx ndx o2
      have np0 : H p = none := by
        by_cases e1 : p = x
        · rw [e1]; exact nx
        · rw [upd_ne e1] at np
          by_cases e2 : p = dx'
          · rw [e2]; exact ndx
          · rw [upd_ne e2] at np
            exact np
      exact k H2 x dx' po pq p s2 nx np0 X2 (h1.mono fun _ _ z => s2 _ _ z) (h2.mono fun _ _ z => s2 _ _ z)
/-! ### run -/
/-- the answer of a run -/
def Ran (H : Hp) (q : Addr) (s : RS) : Prop := ∃ pp vs, H q = some (.tup [.ref pp, .int s.u, .bl s.st]) ∧ H pp = some (.tup vs) ∧ Pcs H vs s.x.pieces
def spLN (K : PySem.W.Frag) (CL CS CR : Addr) : Sp := fun vs H Q E => ∃ (o : Addr) (t : Str) (v r : V), vs = [.ref o, v, r] ∧ LoopAt CL H o t ∧ goodText t = true ∧ TypedI K H v ∧
  ((btw 1 1000 v = false ∧ ∀ d, H d = none → E (.ref CS) (some d) (upd H d (.xd [("value", v)]))) ∨
   ∃ n : Nat, v = .int n ∧ 1 ≤ n ∧ n ≤ 1000 ∧
    (((NoTup K H r ∨ ∃ t xs, r = .ref t ∧ H t = some (.tup xs) ∧ 100 < xs.length) ∧ ∀ d, H d = none → E (.ref CR) (some d) (upd H d (.xd [("index", .non)]))) ∨
     (∃ (p : Addr) (xs : List V) (bs : List Bool) (i : Nat), r = .ref p ∧ H p = some (.tup xs) ∧ xs.length ≤ 100 ∧ RepVs K H n xs bs ∧ firstF bs i ∧ ∀ (H' : Hp) (d : Addr), Same H H' → H' d = none → E (.ref CR) (some d) (upd H' d (.xd [("index", .int (i : Nat))]))) ∨
     ∃ (p : Addr) (xs : List V) (rs : List (Nat × Bool)), r = .ref p ∧ H p = some (.tup xs) ∧ Rps H xs rs ∧ rs.length ≤ 100 ∧ (∀ r ∈ rs, r.1 ≤ n) ∧ ∀ (H' : Hp) (q : Addr), Same H H' → Ran H' q (runM n (ordsR t) (ordsE t) rs) → Q (.ref q) H'))
theorem off2_same {o p : Addr} {H0 H H' : Hp} (s : Same H0 H) (no : H0 o = none) (np : H0 p = none) (a : Off2 o p H H') : Same H0 H' := fun b u e => a b u (ne_of_none e no) (ne_of_none e np) (s b u e)
theorem firstF_not {bs : List Bool} {i : Nat} (h : firstF bs i) : ¬ ∀ b ∈ bs, b = true := fun z => by
  have := z false (List.mem_of_getElem? h.1)
  cases this
theorem firstF_uniq {bs : List Bool} {i j : Nat} (h1 : firstF bs i) (h2 : firstF bs j) : i = j := by
  rcases Nat.lt_trichotomy i j with h | h | h
  · have := h2.2 i h
    rw [h1.1] at this
    cases this
  · exact h
  · have := h1.2 j h
    rw [h2.1] at this
    cases this

/-! ### work_through -/
def spLT (CL CX : Addr) : Sp := fun vs H Q _ => ∃ (o p : Addr) (t : Str) (n : Nat) (xs : List V) (rs : List (Nat × Bool)), vs = [.ref o, .int n, .ref p] ∧ LoopAt CL H o t ∧ goodText t = true ∧ 1 ≤ n ∧ n ≤ 1000 ∧ H p = some (.tup xs) ∧ Rps H xs rs ∧ rs.length ≤ 100 ∧ (∀ r ∈ rs, r.1 ≤ n) ∧
  ∀ (H' : Hp) (x dx ro eo pp : Addr) (hd : List Int) (tl : Bool), Same H H' → H x = none → H pp = none → ExAt CX H' x dx ro eo pp (runM n (ordsR t) (ordsE t) rs).u n hd tl (runM n (ordsR t) (ordsE t) rs).x (runM n (ordsR t) (ordsE t) rs).st → OrdT H' ro (ordsR t) → OrdT H' eo (ordsE t) → Q (.ref x) H'
theorem scLT : FnScope ["self", "size", "replies", "work", "first", "count", "told"] ["self", "size", "replies"] (defScope sLT) := ⟨rfl, rfl, rfl, by decide +kernel, rfl, by decide +kernel, by decide +kernel⟩
theorem ok_lt (N : TxN K mg) : FnOk P w K mg base CX0 5 N.lt.f N.lt.fd ["self", "size", "replies"] (spLT N.T.C N.X.C) := by
  have GX : FnOk P w K mg base CX0 3 N.lx.f N.lx.fd ["self", "size", "kept"] (spLX N.T.C N.X.C) := ok_lx N
  have GA : FnOk P w K mg base CX0 4 N.X.an.f N.X.an.fd ["self", "held", "told"] (spXA N.X.C) := ok_xa N.X
  refine N.lt.F.ok scLT (fun vs H Q E h => ?_) (fun cdv A outer s H vs Q E hr h => ?_)
  · obtain ⟨o, p, t, n, xs, rs, rfl, _⟩ := h
    rfl
  · obtain ⟨o, p, t, n, xs, rs, rfl, hO, g, n1, n2, hp, hR, hl, hc, k⟩ := h
    have hr3 : Room 3 _ := hr.mono (by decide)
    refine ⟨_, pss_cons (ps_set (i := 3) scLT.nd rfl (.inl rfl) (pe_meth (pv 0) N.T.cl N.lx.m GX hr3 N.lx.b .nil pass0 (pa_cons (pv 1) (pa_cons (pe_tup pa_nil) pa_nil))))
      (pss_cons (ps_set (i := 4) scLT.nd rfl (.inl rfl) pe_int)
      (pss_cons (ps_for PassesOwn.never rfl (pi_tup (pv 2)) (pg_tup rfl (pgs_cons (pg_name (i := 5) scLT.nd rfl (.inl rfl)) (pgs_cons (pg_name (i := 6) scLT.nd rfl (.inl rfl)) pgs_nil)))
        (pss_cons (ps_if (pt_val (pe_fld (pv 3) rfl)) (pss_one ps_break) pss_nil)
        (pss_cons (ps_expr (pe_meth (pv 3) N.X.cl N.X.an.m GA hr N.X.an.b .nil pass0 (pa_cons (pe_tupRg rfl rfl N.k.tuple (prg_2 rfl N.X.range (pv 4) (pe_op op_add (pv 4) (pv 5)))) (pa_cons (pv 6) pa_nil))))
        (pss_one (ps_aug (i := 4) scLT.nd rfl (.inl rfl) (pv 5) ip_add)))))
      (pss_one (ps_ret (pv 3))))), ?_⟩
    have lx := hR.len
    obtain ⟨dx, pr, pe, po, pq, e1, _⟩ := id hO
    refine ⟨_, rfl, o, dx, _, rfl, e1, lf_no _ _ _ _ _ (by decide +kernel) (by decide +kernel) (by decide +kernel) (by decide +kernel) (by decide +kernel), _, rfl, Nat.zero_le _, fun t0 nt0 => ?_⟩
    have s2 : Same H (upd H t0 (.tup [])) := same_new nt0
    refine ⟨o, t0, t, n, [], rfl, hO.same s2, upd_same, fun H3 x dxx ro eo pp s3 nx np X3 hRo hEo => ?_⟩
    have s03 := Same.trans s2 s3
    have nx0 := s2.free nx
    have np0 := s2.free np
    have hp3 := s03 _ _ hp
    have hR3 := hR.same s03
    have gn := good_iff.mp g
    have lR : (ordsR t).length ≤ 12 := by rw [ordsR, List.length_map]; exact (round_sht gn.1).2
    have lE : (ordsE t).length ≤ 6 := by rw [ordsE, List.length_map]; exact (ending_sht gn.2).2
    refine ⟨_, rfl, p, rfl, ⟨_, SqT.of hp3⟩, ?_⟩
    -- what follows the loop
    have fin : ∀ (H' : Hp) (S : RS) (hd : List Int) (tl : Bool), Off2 x pp H3 H' → ExAt N.X.C H' x dxx ro eo pp S.u n hd tl S.x S.st → S = runM n (ordsR t) (ordsE t) rs → Q (.ref x) H' := by
      rintro H' S hd tl o1 X1 rfl
      exact k H' x dxx ro eo pp hd tl (off2_same s03 nx0 np0 o1) nx0 np0 X1 (hRo.ts (o1.ts X3)) (hEo.ts (o1.ts X3))
    refine for_tup (K := K) (a := p) (xs := xs) (fun i σ H' => ∃ (v6 v7 : Option V) (S : RS) (hd : List Int) (tl : Bool), σ = [some (.ref o), some (.int n), some (.ref p), some (.ref x), some (.int S.f), v6, v7] ∧ Off2 x pp H3 H' ∧ ExAt N.X.C H' x dxx ro eo pp S.u n hd tl S.x S.st ∧ S = runM n (ordsR t) (ordsE t) (rs.take i)) ⟨none, none, ⟨⟨[], []⟩, 0, 0, false⟩, [], false, rfl, Off2.refl, X3, rfl⟩ (fun i σ H' _ ⟨_, _, _, _, _, _, o1, _⟩ => SqT.of (o1.ts X3 _ _ hp3)) ?_ ?_
    · rintro i y σ H' hy ⟨v6, v7, S, hd, tl, rfl, o1, X1, eS⟩
      obtain ⟨q, rr, hrr, rfl, hq⟩ := hR3.get hy
      have hq1 := o1.ts X3 _ _ hq
      have li : i < rs.length := lt_of_get hrr
      refine ⟨q, _, rfl, SqT.of hq1, rfl, _, _, rfl, _, _, rfl, rfl, ?_⟩
      obtain ⟨h1, r1, vs1, ee1, _⟩ := id X1.ex
      refine ⟨_, rfl, x, N.X.C, dxx, _, _, rfl, ee1, N.X.cl, N.X.nSt, xf_st .., _, rfl, ?_⟩
      have tk : rs.take (i + 1) = rs.take i ++ [rr] := take_snoc hrr
      have eN : runM n (ordsR t) (ordsE t) (rs.take (i + 1)) = stepM n (ordsR t) (ordsE t) S rr := by
        rw [tk, eS]
        unfold runM
        rw [List.foldl_append]
        rfl
      cases hst : S.st with
      | true =>
        refine iteT ?_
        have eA : S = runM n (ordsR t) (ordsE t) rs := by
          have e5 : runM n (ordsR t) (ordsE t) rs = (rs.drop i).foldl (stepM n (ordsR t) (ordsE t)) S := by
            rw [eS]
            unfold runM
            rw [← List.foldl_append, List.take_append_drop]
          rw [e5, runM_stop hst]
        exact ⟨_, rfl, fin H' S hd tl o1 X1 eA⟩
      | false =>
        refine iteF ?_
        have bd := runM_bound (ro := ordsR t) (eo := ordsE t) n1 lR lE (rs.take i) (by rw [List.length_take]; omega) fun q hq => hc q (List.mem_of_mem_take hq)
        rw [← eS] at bd
        have lt : (rs.take i).length ≤ 99 := by rw [List.length_take]; omega
        have c1 : rr.1 ≤ n := hc rr (List.mem_of_getElem? hrr)
        have f1 : S.f ≤ 99 * 1000 := Nat.le_trans bd.2.1 (Nat.mul_le_mul lt n2)
        refine ⟨_, rfl, x, dxx, _, rfl, ee1, (xf_noA ..).1, _, rfl, _, rfl, _, rfl, _, _, rfl, rfl, _, _, rfl, rfl, RgOk.of_le (by omega) (by omega) (by omega) (by omega), fun z nz => ?_⟩
        rw [rgV_items]
        have s4 : Same H' (upd H' z (.tup (ivs (itemsF S.f rr.1)))) := same_new nz
        rw [hst] at X1
        refine ⟨_, rfl, x, dxx, ro, eo, pp, z, _, n, hd, itemsF S.f rr.1, tl, rr.2, S.x, ordsR t, ordsE t, 18 * 99, 99 * 32724, rfl, X1.same s4, upd_same, (hRo.ts (o1.ts X3)).ts fun _ _ e => s4 _ _ e, (hEo.ts (o1.ts X3)).ts fun _ _ e => s4 _ _ e, lR, lE, ⟨n1, n2, by rw [itemsF_len]; exact c1, by decide, by decide, bd.1.mono (Nat.mul_le_mul_left _ lt) (Nat.mul_le_mul_right _ lt)⟩, by decide, by decide, fun H5 o5 X5 => ?_⟩
        refine ⟨_, rfl, _, rfl, _, _, rfl, rfl, ?_⟩
        have eN2 : stepM n (ordsR t) (ordsE t) S rr = ⟨(ansM n (ordsR t) (ordsE t) (itemsF S.f rr.1) rr.2 S.x).1, S.f + rr.1, S.u + 1, (ansM n (ordsR t) (ordsE t) (itemsF S.f rr.1) rr.2 S.x).2⟩ := by
          unfold stepM
          rw [if_neg (by rw [hst]; exact Bool.false_ne_true)]
        refine ⟨some (.int rr.1), some (.bl rr.2), _, itemsF S.f rr.1, rr.2, ?_, (fun b u b1 b2 e => o5 b u b1 b2 (s4 _ _ (o1 b u b1 b2 e))), X5, (eN.trans eN2).symm⟩
        rfl
    · rintro σ H' ⟨v6, v7, S, hd, tl, rfl, o1, X1, eS⟩
      rw [lx, List.take_length] at eS
      exact ⟨_, rfl, fin H' S hd tl o1 X1 eS⟩
/-! ### run -/
theorem scLN : FnScope ["self", "size", "replies", "work"] ["self", "size", "replies"] (defScope sLN) := ⟨rfl, rfl, rfl, by decide +kernel, rfl, by decide +kernel, by decide +kernel⟩
theorem ok_ln (N : TxN K mg) : FnOk P w K mg base (L2.CX P w) 6 N.ln.f N.ln.fd ["self", "size", "replies"] (spLN K N.T.C N.k.eS.C N.k.eR.C) := by
  have GS : FnOk P w K mg base (L2.CX P w) 3 N.k.cks.f N.k.cks.fd ["size"] (spCKS K N.k.eS.C) := ok_cks N.k
  have GR : FnOk P w K mg base (L2.CX P w) 3 N.k.ckr.f N.k.ckr.fd ["replies", "most"] (spCKR K N.k.eR.C) := ok_ckr N.k
  have GT : FnOk P w K mg base CX0 5 N.lt.f N.lt.fd ["self", "size", "replies"] (spLT N.T.C N.X.C) := ok_lt N
  refine N.ln.F.okX scLN (fun vs H Q E h => ?_) (fun cdv A outer s H vs Q E hr h => ?_)
  · obtain ⟨o, t, v, r, rfl, _⟩ := h
    rfl
  · obtain ⟨o, t, v, r, rfl, hO, g, ty, hh⟩ := h
    have hr3 : Room 3 _ := hr.mono (by decide)
    refine ⟨_, pss_cons (ps_expr (pe_call (E := E) GS hr3 rfl N.k.cks.g N.k.cks.k N.k.cks.b .nil (passes_call (takes_of rfl rfl rfl rfl) fun _ _ _ _ z => z) (pa_cons (pv 1) pa_nil)))
      (pss_cons (ps_expr (pe_call (E := E) GR hr3 rfl N.k.ckr.g N.k.ckr.k N.k.ckr.b .nil (passes_call (takes_of rfl rfl rfl rfl) fun _ _ _ _ z => z) (pa_cons (pv 2) (pa_cons (pv 1) pa_nil))))
      (pss_cons (ps_set (i := 3) scLN.nd rfl (.inl rfl) (pe_meth (pv 0) N.T.cl N.lt.m GT hr N.lt.b .nil pass0 (pa_cons (pv 1) (pa_cons (pv 2) pa_nil))))
      (pss_one (ps_ret (pe_tup (pa_cons (pe_callTy call_tuple_of (by rfl) N.k.tuple (by decide +kernel) (pa_cons (pe_fld (pv 3) rfl) pa_nil)) (pa_cons (pe_fld (pv 3) rfl) (pa_cons (pe_fld (pv 3) rfl) pa_nil)))))))), ?_⟩
    rcases hh with ⟨hv, kE⟩ | ⟨n, rfl, n1, n2, hh⟩
    · exact ⟨_, rfl, v, rfl, ty, fun z => absurd (hv.symm.trans z) (by decide), fun _ => kE⟩
    have hb : btw 1 1000 (.int (n : Int)) = true := decide_eq_true (show (1 : Int) ≤ (n : Int) ∧ (n : Int) ≤ 1000 from ⟨by omega, by omega⟩)
    refine ⟨_, rfl, .int n, rfl, ty, fun _ => ?_, fun z => absurd (hb.symm.trans z) (by decide)⟩
    rcases hh with ⟨hv, kE⟩ | ⟨p, xs, bs, i, rfl, hp, hl, hR, hf, kE⟩ | ⟨p, xs, rs, rfl, hp, hR, hl, hc, k⟩
    · exact ⟨_, rfl, _, rfl, r, n, rfl, .inl ⟨hv, kE⟩⟩
    · exact ⟨_, rfl, _, rfl, .ref p, n, rfl, .inr ⟨p, xs, bs, rfl, hp, hl, hR, fun z => absurd z (firstF_not hf), fun i' hf' => by rw [firstF_uniq hf' hf]; exact kE⟩⟩
    obtain ⟨bs, hB, hall⟩ := hR.good (K := K) hc
    have lx := hR.len
    refine ⟨_, rfl, _, rfl, .ref p, n, rfl, .inr ⟨p, xs, bs, rfl, hp, by omega, hB, fun _ H1 s1 => ?_, fun i hf => absurd hall (firstF_not hf)⟩⟩
    have hO1 := hO.same s1
    obtain ⟨dx, pr, pe, po, pq, e1, _⟩ := id hO1
    refine ⟨_, rfl, o, dx, _, rfl, e1, lf_no _ _ _ _ _ (by decide +kernel) (by decide +kernel) (by decide +kernel) (by decide +kernel) (by decide +kernel), _, rfl, _, rfl, o, p, t, n, xs, rs, rfl, hO1, g, n1, n2, s1 _ _ hp, hR.same s1, hl, hc, fun H2 x dxx ro eo pp hd tl s2 nx np X1 _ _ => ?_⟩
    obtain ⟨h1, r1, vs1, ee1, hh1, hr1, hp1, hP1⟩ := id X1.ex
    refine ⟨_, rfl, x, N.X.C, dxx, _, _, rfl, ee1, N.X.cl, N.X.nP, xf_p .., pp, vs1, rfl, .inl ⟨SqL.of hp1, fun q nq => ?_⟩⟩
    refine ⟨_, rfl, x, N.X.C, dxx, _, _, rfl, same_new nq _ _ ee1, N.X.cl, N.X.nA, xf_ak .., _, rfl, x, N.X.C, dxx, _, _, rfl, same_new nq _ _ ee1, N.X.cl, N.X.nSt, xf_st .., (by show 3 ≤ sizeLine; decide), fun z nz => ?_⟩
    exact k _ z (Same.trans (Same.trans s1 s2) (Same.trans (same_new nq) (same_new nz))) ⟨q, vs1, upd_same, same_new nz _ _ upd_same, (hP1.mono fun _ _ e => same_new nq _ _ e).mono fun _ _ e => same_new nz _ _ e⟩
end
end My

/-! kinds of sources: check_items, check_word, Source.__init__, can_hand_out, must_tell, allows -/
namespace My
open PySem L2 Cm LM
abbrev sQI : Stmt := top 15
abbrev sQW : Stmt := top 36
abbrev sQE : Stmt := inClass (top 5) 0
abbrev sUI : Stmt := inClass (top 37) 0
abbrev sUA : Stmt := inClass (top 37) 4
abbrev sUC : Stmt := inClass (top 37) 5
abbrev sUM : Stmt := inClass (top 37) 6
/-! ### the mirror -/
def canU (A B : Str) (left size count : Int) : Bool :=
  if count = 0 then (if left = 0 then true else decide (B = "waiting")) else if A = "exact" then decide (count = if left < size then left else size) else decide (count ≤ if left < size then left else size)
def mustU (E : Str) (before after : Int) : Bool := if E = "empty" then false else if E = "behind" then decide (before = 0) else decide (after = 0)
def allowsU (A B E : Str) (size : Int) : Int → List (Nat × Bool) → Bool
  | _, [] => true
  | left, (c, t) :: r => if canU A B left size (c : Int) = true ∧ t = mustU E left (left - (c : Int)) then allowsU A B E size (left - (c : Int)) r else false
def sfU (A B E : Str) : List (Str × V) := [("amount", .str A), ("patience", .str B), ("end", .str E)]
/-- a kind of sources stands at o -/
def SrcU (C : Addr) (H : Hp) (o : Addr) (A B E : Str) : Prop := ∃ dx, H o = some (.ins C dx (sfU A B E))
theorem SrcU.same {C : Addr} {H H' : Hp} {o : Addr} {A B E : Str} (s : Same H H') (h : SrcU C H o A B E) : SrcU C H' o A B E := let ⟨dx, e⟩ := h; ⟨dx, s _ _ e⟩
structure TxU (K : PySem.W.Frag) (mg : Str → Option Value) where
  k : TxK K mg
  str : mg "str" = none
  min : mg "min" = none
  pA : Addr
  pP : Addr
  pE : Addr
  gA : mg "AMOUNTS" = some (.ref pA)
  gP : mg "PATIENCES" = some (.ref pP)
  gE : mg "ENDS" = some (.ref pE)
  lA : ∀ H, SqT K H pA [.str "exact", .str "short"]
  lP : ∀ H, SqT K H pP [.str "prompt", .str "waiting"]
  lE : ∀ H, SqT K H pE [.str "empty", .str "with", .str "behind"]
  cki : Df K mg "check_items" sQI ["items"]
  ckw : Df K mg "check_word" sQW ["word", "words"]
  eI : TxEr K mg "InvalidItems" "value" sQE "InvalidItems.__init__"
  C : Addr
  gC : mg "Source" = some (.ref C)
  cl : Cls K C
  nA : NoAttr K C "amount"
  nP : NoAttr K C "patience"
  nE : NoAttr K C "end"
  fI : Addr
  fdI : FuncData
  FI : Fun K "__init__" "Source.__init__" sUI fI fdI
  bI : Binds K fdI ["self", "amount", "patience", "end"] []
  MI : Mk K C fI
  al : Mt K C "allows" "Source.allows" sUA ["self", "items", "size", "replies"]
  ca : Mt K C "can_hand_out" "Source.can_hand_out" sUC ["self", "left", "size", "count"]
  mu : Mt K C "must_tell" "Source.must_tell" sUM ["self", "before", "after"]
section
variable {P : Program} {w : World} {K : PySem.W.Frag} {mg : Str → Option Value} {base : Heap}
/-! ### check_items -/
theorem scQE : FnScope ["self", "value"] ["self", "value"] (defScope sQE) := ⟨rfl, rfl, rfl, by decide +kernel, rfl, by decide +kernel, by decide +kernel⟩
theorem ok_eI (T : TxEr K mg "InvalidItems" "value" sQE "InvalidItems.__init__") : FnOk P w K mg base CX0 1 T.f T.fd ["self", "value"] (spER "value" T.C) := by
  refine T.F.ok scQE (fun vs H Q E h => ?_) (fun cdv A outer s H vs Q E hr h => ?_)
  · obtain ⟨a, v, rfl, _⟩ := h
    rfl
  · obtain ⟨a, v, rfl, ha, k⟩ := h
    exact ⟨_, pss_one (ps_ost (pv 0) (pv 1)), _, rfl, _, rfl, a, T.C, rfl, T.o, T.n, .inl ⟨ha, fun dx n ne => k dx n ne⟩⟩
def spCKI (K : PySem.W.Frag) (CE : Addr) : Sp := fun vs H Q E => ∃ v : V, vs = [v] ∧ TypedI K H v ∧ (btw 0 1000 v = true → Q .non H) ∧ (btw 0 1000 v = false → ∀ d, H d = none → E (.ref CE) (some d) (upd H d (.xd [("value", v)])))
theorem scQI : FnScope ["items"] ["items"] (defScope sQI) := ⟨rfl, rfl, rfl, by decide +kernel, rfl, by decide +kernel, by decide +kernel⟩
theorem ok_cki (M : TxU K mg) : FnOk P w K mg base (L2.CX P w) 3 M.cki.f M.cki.fd ["items"] (spCKI K M.eI.C) := by
  have GI : FnOk P w K mg base CX0 1 M.k.iib.f M.k.iib.fd ["value", "low", "high"] (spIIB K) := ok_iib M.k
  have GE : FnOk P w K mg base CX0 1 M.eI.f M.eI.fd ["self", "value"] (spER "value" M.eI.C) := ok_eI M.eI
  obtain ⟨tm, mi⟩ := M.k.mi
  refine M.cki.F.okX scQI (fun vs H Q E h => ?_) (fun cdv A outer s H vs Q E hr h => ?_)
  · obtain ⟨v, rfl, _⟩ := h
    rfl
  · obtain ⟨v, rfl, ty, k1, k2⟩ := h
    have hr1 : Room 1 _ := hr.mono (by decide)
    refine ⟨_, pss_one (ps_if (pt_not (pt_val (pe_call GI hr1 rfl M.k.iib.g M.k.iib.k M.k.iib.b .nil pass0 (pa_cons (pv 0) (pa_cons pe_int (pa_cons (pe_glob (v := .int 1000) rfl mi ⟨_, rfl⟩) pa_nil))))))
      (pss_one (ps_raise rfl (takes_of rfl rfl rfl rfl) (pmk_oex M.eI.o M.eI.i M.eI.t GE hr M.eI.b .nil pass0 rfl M.eI.g (pa_cons (pv 0) pa_nil)))) pss_nil), ?_⟩
    refine ⟨_, rfl, v, 0, 1000, rfl, ty, _, rfl, ?_⟩
    cases hb : btw 0 1000 v with
    | true => exact iteF (k1 hb)
    | false => exact iteT (mk_er (x := v) ⟨v, rfl, rfl, rfl⟩ (fun {R R'} ⟨v, e1, q⟩ f => ⟨v, e1, f _ _ q⟩) (k2 hb))
/-! ### check_word, __init__ of the right words -/
def spCKW (K : PySem.W.Frag) : Sp := fun vs H Q _ => ∃ (x : Str) (p : Addr) (xs : List V), vs = [.str x, .ref p] ∧ SqT K H p xs ∧ xs.all flatV = true ∧ inV (.str x) xs = true ∧ Q .non H
theorem scQW : FnScope ["word", "words"] ["word", "words"] (defScope sQW) := ⟨rfl, rfl, rfl, by decide +kernel, rfl, by decide +kernel, by decide +kernel⟩
theorem ok_ckw (M : TxU K mg) : FnOk P w K mg base CX0 1 M.ckw.f M.ckw.fd ["word", "words"] (spCKW K) := by
  refine M.ckw.F.ok scQW (fun vs H Q E h => ?_) (fun cdv A outer s H vs Q E hr h => ?_)
  · obtain ⟨x, p, xs, rfl, _⟩ := h
    rfl
  · obtain ⟨x, p, xs, rfl, hp, hf, hi, k⟩ := h
    refine ⟨_, pss_one (ps_if (PW.pt (pw_or (pt_not (pt_val (pe_callB call_isi (by rfl) M.k.isi (by decide +kernel) (pa_cons (pv 0) (pa_cons (pe_bltn (v := .ty "str") (by rfl) M.str (by decide +kernel) rfl) pa_nil)))))
          (pw_or1 (pt_cmpR op_notIn_seq (pv 0) (pv 1) (by rfl))))) (pss_one ps_never) pss_nil), ?_⟩
    refine ⟨_, rfl, _, _, _, _, true, rfl, .ty "str", .base (.str x), kit_ty (by decide +kernel), true, rfl, iteF ?_⟩
    refine ⟨_, rfl, _, rfl, p, xs, rfl, .inr hp, rfl, hf, _, rfl, ?_⟩
    rw [hi]
    exact iteF k
def isAm (A : Str) : Prop := A = "exact" ∨ A = "short"
def isPa (B : Str) : Prop := B = "prompt" ∨ B = "waiting"
def isEn (E : Str) : Prop := E = "empty" ∨ E = "with" ∨ E = "behind"
def spUI (C : Addr) : Sp := fun vs H Q _ => ∃ (x dx : Addr) (A B E : Str), vs = [.ref x, .str A, .str B, .str E] ∧ isAm A ∧ isPa B ∧ isEn E ∧ H x = some (.ins C dx []) ∧
  ∀ H' : Hp, (∀ b o, b ≠ x → H b = some o → H' b = some o) → H' x = some (.ins C dx (sfU A B E)) → Q .non H'
theorem scUI : FnScope ["self", "amount", "patience", "end"] ["self", "amount", "patience", "end"] (defScope sUI) := ⟨rfl, rfl, rfl, by decide +kernel, rfl, by decide +kernel, by decide +kernel⟩
theorem ok_ui (M : TxU K mg) : FnOk P w K mg base CX0 2 M.fI M.fdI ["self", "amount", "patience", "end"] (spUI M.C) := by
  have G1 : FnOk P w K mg base CX0 1 M.ckw.f M.ckw.fd ["word", "words"] (spCKW K) := ok_ckw M
  refine M.FI.ok scUI (fun vs H Q E h => ?_) (fun cdv A outer s H vs Q E hr h => ?_)
  · obtain ⟨x, dx, A, B, E, rfl, _⟩ := h
    rfl
  · obtain ⟨x, dx, A, B, E, rfl, hA, hB, hE, hx, k⟩ := h
    refine ⟨_, pss_cons (ps_expr (pe_call G1 hr rfl M.ckw.g M.ckw.k M.ckw.b .nil pass0 (pa_cons (pv 1) (pa_cons (pe_glob (v := .ref M.pA) rfl M.gA rfl) pa_nil))))
      (pss_cons (ps_expr (pe_call G1 hr rfl M.ckw.g M.ckw.k M.ckw.b .nil pass0 (pa_cons (pv 2) (pa_cons (pe_glob (v := .ref M.pP) rfl M.gP rfl) pa_nil))))
      (pss_cons (ps_expr (pe_call G1 hr rfl M.ckw.g M.ckw.k M.ckw.b .nil pass0 (pa_cons (pv 3) (pa_cons (pe_glob (v := .ref M.pE) rfl M.gE rfl) pa_nil))))
      (pss_cons (ps_fld (pv 0) (pv 1) rfl) (pss_cons (ps_fld (pv 0) (pv 2) rfl) (pss_one (ps_fld (pv 0) (pv 3) rfl)))))), ?_⟩
    refine ⟨_, rfl, A, M.pA, _, rfl, M.lA _, rfl, ?_, ?_⟩
    · rcases hA with rfl | rfl <;> decide +kernel
    refine ⟨_, rfl, B, M.pP, _, rfl, M.lP _, rfl, ?_, ?_⟩
    · rcases hB with rfl | rfl <;> decide +kernel
    refine ⟨_, rfl, E, M.pE, _, rfl, M.lE _, rfl, ?_, ?_⟩
    · rcases hE with rfl | rfl | rfl <;> decide +kernel
    refine ⟨_, rfl, _, rfl, x, M.C, dx, _, rfl, hx, M.cl, M.nA, (by show 0 < 1000; decide), ?_⟩
    refine ⟨_, rfl, _, rfl, x, M.C, dx, _, rfl, upd_same, M.cl, M.nP, (by show 1 < 1000; decide), ?_⟩
    refine ⟨_, rfl, _, rfl, x, M.C, dx, _, rfl, upd_same, M.cl, M.nE, ?_, ?_⟩
    · exact Nat.lt_of_le_of_lt (putF_len _ _ _) (Nat.lt_of_le_of_lt (Nat.add_le_add_right (putF_len _ _ _) 1) (by decide))
    · refine k _ (fun b o nb e => ?_) upd_same
      rw [upd_ne nb, upd_ne nb, upd_ne nb]
      exact e
/-! ### can_hand_out, must_tell -/
def spUC (C : Addr) : Sp := fun vs H Q _ => ∃ (o : Addr) (A B E : Str) (left size count : Int), vs = [.ref o, .int left, .int size, .int count] ∧ SrcU C H o A B E ∧ Q (.bl (canU A B left size count)) H
def spUM (C : Addr) : Sp := fun vs H Q _ => ∃ (o : Addr) (A B E : Str) (before after : Int), vs = [.ref o, .int before, .int after] ∧ SrcU C H o A B E ∧ Q (.bl (mustU E before after)) H
theorem scUC : FnScope ["self", "left", "size", "count"] ["self", "left", "size", "count"] (defScope sUC) := ⟨rfl, rfl, rfl, by decide +kernel, rfl, by decide +kernel, by decide +kernel⟩
theorem scUM : FnScope ["self", "before", "after"] ["self", "before", "after"] (defScope sUM) := ⟨rfl, rfl, rfl, by decide +kernel, rfl, by decide +kernel, by decide +kernel⟩
theorem uf_am (A B E : Str) : (sfU A B E).lookup ("amount" : Str) = some (.str A) := rfl
theorem uf_pa (A B E : Str) : (sfU A B E).lookup ("patience" : Str) = some (.str B) := rfl
theorem uf_en (A B E : Str) : (sfU A B E).lookup ("end" : Str) = some (.str E) := rfl
theorem ok_uc (M : TxU K mg) : FnOk P w K mg base CX0 1 M.ca.f M.ca.fd ["self", "left", "size", "count"] (spUC M.C) := by
  refine M.ca.F.ok scUC (fun vs H Q E h => ?_) (fun cdv A outer s H vs Q E hr h => ?_)
  · obtain ⟨o, A, B, E, l, z, c, rfl, _⟩ := h
    rfl
  · obtain ⟨o, A, B, E, l, z, c, rfl, ⟨dx, ho⟩, k⟩ := h
    refine ⟨_, pss_cons (ps_if (pt_cmpR op_eq (pv 3) pe_int (nomark _)) (pss_one (ps_ret (pe_or (pe_cmpR op_eq (pv 1) pe_int (nomark _)) (pe_one (pe_cmpR op_eq (pe_fld (pv 0) rfl) pe_str (nomark _)))))) pss_nil)
      (pss_cons (ps_if (pt_cmpR op_eq (pe_fld (pv 0) rfl) pe_str (nomark _)) (pss_one (ps_ret (pe_cmpR op_eq (pv 3) (pe_callB (call_min2 rfl) (by rfl) M.min (by decide +kernel) (pa_cons (pv 2) (pa_cons (pv 1) pa_nil))) (nomark _)))) pss_nil)
      (pss_one (ps_ret (pe_cmpR op_le (pv 3) (pe_callB (call_min2 rfl) (by rfl) M.min (by decide +kernel) (pa_cons (pv 2) (pa_cons (pv 1) pa_nil))) (nomark _))))), ?_⟩
    unfold canU at k
    refine ⟨_, rfl, rfl, _, rfl, ?_⟩
    rw [dI]
    refine ite2 (fun c1 => ?_) (fun c1 => ?_)
    · rw [if_pos (of_decide_eq_true c1)] at k
      refine ⟨_, rfl, rfl, _, rfl, ?_⟩
      rw [dI]
      refine ite2 (fun c2 => ?_) (fun c2 => ?_)
      · rw [if_pos (of_decide_eq_true c2)] at k
        exact k
      · rw [if_neg (fun e => c2 (decide_eq_true e))] at k
        refine ⟨_, rfl, o, M.C, dx, _, _, rfl, ho, M.cl, M.nP, uf_pa _ _ _, rfl, ?_⟩
        rw [dS]
        exact k
    · rw [if_neg (fun e => c1 (decide_eq_true e))] at k
      refine ⟨_, rfl, o, M.C, dx, _, _, rfl, ho, M.cl, M.nA, uf_am _ _ _, rfl, _, rfl, ?_⟩
      rw [dS]
      refine ite2 (fun c2 => ?_) (fun c2 => ?_)
      · rw [if_pos (of_decide_eq_true c2)] at k
        refine ⟨_, rfl, _, rfl, _, rfl, z, l, rfl, rfl, ?_⟩
        rw [dI]
        exact k
      · rw [if_neg (fun e => c2 (decide_eq_true e))] at k
        exact ⟨_, rfl, _, rfl, _, rfl, z, l, rfl, _, _, rfl, rfl, k⟩
theorem ok_um (M : TxU K mg) : FnOk P w K mg base CX0 1 M.mu.f M.mu.fd ["self", "before", "after"] (spUM M.C) := by
  refine M.mu.F.ok scUM (fun vs H Q E h => ?_) (fun cdv A outer s H vs Q E hr h => ?_)
  · obtain ⟨o, A, B, E, l, c, rfl, _⟩ := h
    rfl
  · obtain ⟨o, A, B, E, l, c, rfl, ⟨dx, ho⟩, k⟩ := h
    refine ⟨_, pss_cons (ps_if (pt_cmpR op_eq (pe_fld (pv 0) rfl) pe_str (nomark _)) (pss_one (ps_ret pe_bl)) pss_nil)
      (pss_cons (ps_if (pt_cmpR op_eq (pe_fld (pv 0) rfl) pe_str (nomark _)) (pss_one (ps_ret (pe_cmpR op_eq (pv 1) pe_int (nomark _)))) pss_nil)
      (pss_one (ps_ret (pe_cmpR op_eq (pv 2) pe_int (nomark _))))), ?_⟩
    unfold mustU at k
    refine ⟨_, rfl, o, M.C, dx, _, _, rfl, ho, M.cl, M.nE, uf_en _ _ _, rfl, _, rfl, ?_⟩
    rw [dS]
    refine ite2 (fun c1 => ?_) (fun c1 => ?_)
    · rw [if_pos (of_decide_eq_true c1)] at k
      exact k
    · rw [if_neg (fun e => c1 (decide_eq_true e))] at k
      refine ⟨_, rfl, o, M.C, dx, _, _, rfl, ho, M.cl, M.nE, uf_en _ _ _, rfl, _, rfl, ?_⟩
      rw [dS]
      refine ite2 (fun c2 => ?_) (fun c2 => ?_)
      · rw [if_pos (of_decide_eq_true c2)] at k
        refine ⟨_, rfl, rfl, ?_⟩
        rw [dI]
        exact k
      · rw [if_neg (fun e => c2 (decide_eq_true e))] at k
        refine ⟨_, rfl, rfl, ?_⟩
        rw [dI]
        exact k
/-! ### allows -/
def spUA (K : PySem.W.Frag) (C CI CS CR : Addr) : Sp := fun vs H Q E => ∃ (o : Addr) (A B En : Str) (n v r : V), vs = [.ref o, n, v, r] ∧ SrcU C H o A B En ∧ TypedI K H n ∧ TypedI K H v ∧
  ((btw 0 1000 n = false ∧ ∀ d, H d = none → E (.ref CI) (some d) (upd H d (.xd [("value", n)]))) ∨
   ∃ m : Nat, n = .int m ∧ m ≤ 1000 ∧
    ((btw 1 1000 v = false ∧ ∀ d, H d = none → E (.ref CS) (some d) (upd H d (.xd [("value", v)]))) ∨
     ∃ z : Nat, v = .int z ∧ 1 ≤ z ∧ z ≤ 1000 ∧
      (((NoTup K H r ∨ ∃ t xs, r = .ref t ∧ H t = some (.tup xs) ∧ 100 < xs.length) ∧ ∀ d, H d = none → E (.ref CR) (some d) (upd H d (.xd [("index", .non)]))) ∨
       (∃ (p : Addr) (xs : List V) (bs : List Bool) (i : Nat), r = .ref p ∧ H p = some (.tup xs) ∧ xs.length ≤ 100 ∧ RepVs K H 1000 xs bs ∧ firstF bs i ∧ ∀ (H' : Hp) (d : Addr), Same H H' → H' d = none → E (.ref CR) (some d) (upd H' d (.xd [("index", .int (i : Nat))]))) ∨
       ∃ (p : Addr) (xs : List V) (rs : List (Nat × Bool)), r = .ref p ∧ H p = some (.tup xs) ∧ Rps H xs rs ∧ rs.length ≤ 100 ∧ (∀ r ∈ rs, r.1 ≤ 1000) ∧ ∀ H' : Hp, Same H H' → Q (.bl (allowsU A B En z m rs)) H')))
theorem scUA : FnScope ["self", "items", "size", "replies", "left", "count", "told"] ["self", "items", "size", "replies"] (defScope sUA) := ⟨rfl, rfl, rfl, by decide +kernel, rfl, by decide +kernel, by decide +kernel⟩
theorem ok_ua (M : TxU K mg) : FnOk P w K mg base (L2.CX P w) 4 M.al.f M.al.fd ["self", "items", "size", "replies"] (spUA K M.C M.eI.C M.k.eS.C M.k.eR.C) := by
  have G0 : FnOk P w K mg base (L2.CX P w) 3 M.cki.f M.cki.fd ["items"] (spCKI K M.eI.C) := ok_cki M
  have GS : FnOk P w K mg base (L2.CX P w) 3 M.k.cks.f M.k.cks.fd ["size"] (spCKS K M.k.eS.C) := ok_cks M.k
  have GR : FnOk P w K mg base (L2.CX P w) 3 M.k.ckr.f M.k.ckr.fd ["replies", "most"] (spCKR K M.k.eR.C) := ok_ckr M.k
  have G8 : FnOk P w K mg base CX0 1 M.ca.f M.ca.fd ["self", "left", "size", "count"] (spUC M.C) := ok_uc M
  have G9 : FnOk P w K mg base CX0 1 M.mu.f M.mu.fd ["self", "before", "after"] (spUM M.C) := ok_um M
  obtain ⟨tm, mi⟩ := M.k.mi
  refine M.al.F.okX scUA (fun vs H Q E h => ?_) (fun cdv A outer s H vs Q E hr h => ?_)
  · obtain ⟨o, A, B, E, n, v, r, rfl, _⟩ := h
    rfl
  · obtain ⟨o, A', B, En, n, v, r, rfl, hO, tn, tv, hh⟩ := h
    have hr1 : Room 1 _ := hr.mono (by decide)
    refine ⟨_, pss_cons (ps_expr (pe_call (E := E) G0 hr rfl M.cki.g M.cki.k M.cki.b .nil (passes_call (takes_of rfl rfl rfl rfl) fun _ _ _ _ z => z) (pa_cons (pv 1) pa_nil)))
      (pss_cons (ps_expr (pe_call (E := E) GS hr rfl M.k.cks.g M.k.cks.k M.k.cks.b .nil (passes_call (takes_of rfl rfl rfl rfl) fun _ _ _ _ z => z) (pa_cons (pv 2) pa_nil)))
      (pss_cons (ps_expr (pe_call (E := E) GR hr rfl M.k.ckr.g M.k.ckr.k M.k.ckr.b .nil (passes_call (takes_of rfl rfl rfl rfl) fun _ _ _ _ z => z) (pa_cons (pv 3) (pa_cons (pe_glob (v := .int 1000) rfl mi ⟨_, rfl⟩) pa_nil))))
      (pss_cons (ps_set (i := 4) scUA.nd rfl (.inl rfl) (pv 1))
      (pss_cons (ps_for (passes_of rfl) rfl (pi_tup (pv 3)) (pg_tup rfl (pgs_cons (pg_name (i := 5) scUA.nd rfl (.inl rfl)) (pgs_cons (pg_name (i := 6) scUA.nd rfl (.inl rfl)) pgs_nil)))
        (pss_cons (ps_if (PW.pt (pw_or (pt_not (pt_val (pe_meth (pv 0) M.cl M.ca.m G8 hr1 M.ca.b .nil pass0 (pa_cons (pv 4) (pa_cons (pv 2) (pa_cons (pv 5) pa_nil))))))
            (pw_or1 (pt_cmpR op_ne (pv 6) (pe_meth (pv 0) M.cl M.mu.m G9 hr1 M.mu.b .nil pass0 (pa_cons (pv 4) (pa_cons (pe_op op_sub (pv 4) (pv 5)) pa_nil))) (nomark _))))) (pss_one (ps_ret pe_bl)) pss_nil)
          (pss_one (ps_aug (i := 4) scUA.nd rfl (.inl rfl) (pv 5) ip_sub))))
      (pss_one (ps_ret pe_bl)))))), ?_⟩
    rcases hh with ⟨hv, kE⟩ | ⟨m, rfl, m1, hh⟩
    · exact ⟨_, rfl, n, rfl, tn, fun z => absurd (hv.symm.trans z) (by decide), fun _ => kE⟩
    have hb : btw 0 1000 (.int (m : Int)) = true := decide_eq_true (show (0 : Int) ≤ (m : Int) ∧ (m : Int) ≤ 1000 from ⟨by omega, by omega⟩)
    refine ⟨_, rfl, .int m, rfl, tn, fun _ => ?_, fun z => absurd (hb.symm.trans z) (by decide)⟩
    rcases hh with ⟨hv, kE⟩ | ⟨z, rfl, z1, z2, hh⟩
    · exact ⟨_, rfl, v, rfl, tv, fun z => absurd (hv.symm.trans z) (by decide), fun _ => kE⟩
    have hb2 : btw 1 1000 (.int (z : Int)) = true := decide_eq_true (show (1 : Int) ≤ (z : Int) ∧ (z : Int) ≤ 1000 from ⟨by omega, by omega⟩)
    refine ⟨_, rfl, .int z, rfl, tv, fun _ => ?_, fun q => absurd (hb2.symm.trans q) (by decide)⟩
    rcases hh with ⟨hv, kE⟩ | ⟨p, xs, bs, i, rfl, hp, hl, hR, hf, kE⟩ | ⟨p, xs, rs, rfl, hp, hR, hl, hc, k⟩
    · exact ⟨_, rfl, r, 1000, rfl, .inl ⟨hv, kE⟩⟩
    · exact ⟨_, rfl, .ref p, 1000, rfl, .inr ⟨p, xs, bs, rfl, hp, hl, hR, fun z => absurd z (firstF_not hf), fun i' hf' => by rw [firstF_uniq hf' hf]; exact kE⟩⟩
    obtain ⟨bs, hB, hall⟩ := hR.good (K := K) (m := 1000) hc
    have lx := hR.len
    refine ⟨_, rfl, .ref p, 1000, rfl, .inr ⟨p, xs, bs, rfl, hp, by omega, hB, fun _ H1 s1 => ?_, fun i hf => absurd hall (firstF_not hf)⟩⟩
    refine ⟨_, rfl, ?_⟩
    refine ⟨_, rfl, p, rfl, ⟨_, SqT.of (s1 _ _ hp)⟩, for_tup (K := K) (a := p) (xs := xs) (fun i σ H' => Same H H' ∧ ∃ (left : Int) (v v' : Option V), σ = [some (.ref o), some (.int m), some (.int z), some (.ref p), some (.int left), v, v'] ∧ allowsU A' B En z m rs = allowsU A' B En z left (rs.drop i))
      ⟨s1, m, none, none, rfl, rfl⟩ (fun i σ H' _ ⟨s', _⟩ => SqT.of (s' _ _ hp)) ?_ ?_⟩
    · rintro i x σ H' hx ⟨s', left, v, v', rfl, e⟩
      obtain ⟨t0, r, hr0, rfl, ht0⟩ := hR.get hx
      obtain ⟨c, td⟩ := r
      have hO' := hO.same s'
      obtain ⟨dx, hdx⟩ := id hO'
      have ed : rs.drop i = (c, td) :: rs.drop (i + 1) := by
        obtain ⟨hi, hg⟩ := List.getElem?_eq_some_iff.mp hr0
        rw [List.drop_eq_getElem_cons hi, hg]
      rw [ed] at e
      refine ⟨t0, _, rfl, SqT.of (s' _ _ ht0), rfl, _, _, rfl, _, _, rfl, rfl, ?_⟩
      refine ⟨_, rfl, o, dx, _, rfl, hdx, rfl, _, rfl, _, rfl, _, rfl, o, A', B, En, left, z, c, rfl, hO', _, rfl, ?_⟩
      have e2 : allowsU A' B En z left ((c, td) :: rs.drop (i + 1)) = if canU A' B left z (c : Int) = true ∧ td = mustU En left (left - (c : Int)) then allowsU A' B En z (left - (c : Int)) (rs.drop (i + 1)) else false := rfl
      cases hc : canU A' B left z (c : Int) with
      | false =>
        refine iteT (iteT ?_)
        rw [e2, if_neg (by rw [hc]; intro q; exact Bool.false_ne_true q.1)] at e
        rw [e] at k
        exact k H' s'
      | true =>
        refine iteF ?_
        refine ⟨_, rfl, _, rfl, o, dx, _, rfl, hdx, rfl, _, rfl, _, rfl, _, rfl, left, c, rfl, rfl, o, A', B, En, left, left - c, rfl, hO', rfl, _, rfl, ?_⟩
        rw [dB]
        by_cases ht : td = mustU En left (left - (c : Int))
        · rw [decide_eq_true ht]
          refine iteF ?_
          rw [e2, if_pos ⟨hc, ht⟩] at e
          exact ⟨_, rfl, _, rfl, _, _, rfl, rfl, s', _, _, _, rfl, e⟩
        · rw [decide_eq_false ht]
          refine iteT ?_
          rw [e2, if_neg (fun q => ht q.2)] at e
          rw [e] at k
          exact k H' s'
    · rintro σ H' ⟨s', left, v, v', rfl, e⟩
      rw [hR.len, List.drop_length] at e
      rw [e] at k
      exact k H' s'
end
end My

namespace My
open PySem L2 Cm LM IsX
abbrev sCame : Stmt := top 45
/-- what the text says of a class that _law_came catches -/
structure TxH (K : PySem.W.Frag) (name fld : Str) (C CI : Addr) : Prop where
  x : XiC K C
  n : PySem.W.findIn K (.ref C) fld = some none
  k1 : PySem.W.kitOne K (.ref C) (.ref CI) = some true
  k2 : PySem.W.kitOne K (.ref C) (.type "ValueError") = some true
structure TxCm (K : PySem.W.Frag) (mg : Str → Option Value) where
  U : TxU K mg
  ve : mg "ValueError" = none
  CI : Addr
  gI : mg "InputError" = some (.ref CI)
  hI : TxH K "InvalidItems" "value" U.eI.C CI
  hR : TxH K "InvalidReplies" "index" U.k.eR.C CI
  hS : TxH K "InvalidSize" "value" U.k.eS.C CI
  ii : PySem.W.exmOne K (.ref U.eI.C) (.ref U.eI.C) = some true
  ri : PySem.W.exmOne K (.ref U.k.eR.C) (.ref U.eI.C) = some false
  rr : PySem.W.exmOne K (.ref U.k.eR.C) (.ref U.k.eR.C) = some true
  si : PySem.W.exmOne K (.ref U.k.eS.C) (.ref U.eI.C) = some false
  sr : PySem.W.exmOne K (.ref U.k.eS.C) (.ref U.k.eR.C) = some false
  ss : PySem.W.exmOne K (.ref U.k.eS.C) (.ref U.k.eS.C) = some true
  cm : Df K mg "_law_came" sCame ["_law_ask"]
theorem scCame : FnScope ["_law_ask", "_law_given", "e"] ["_law_ask"] (defScope sCame) := ⟨rfl, rfl, rfl, by decide +kernel, rfl, by decide +kernel, by decide +kernel⟩
/-- what a call that raises one of the three makes: the name and what it bears -/
def nmOf {K : PySem.W.Frag} {mg : Str → Option Value} (T : TxCm K mg) (cls : Value) (fs : List (Str × V)) (nm : Str) (v : V) : Prop :=
  (cls = .ref T.U.eI.C ∧ fs = [(("value" : Str), v)] ∧ nm = "InvalidItems") ∨ (cls = .ref T.U.k.eR.C ∧ fs = [(("index" : Str), v)] ∧ nm = "InvalidReplies") ∨ (cls = .ref T.U.k.eS.C ∧ fs = [(("value" : Str), v)] ∧ nm = "InvalidSize")
def TCame {K : PySem.W.Frag} {mg : Str → Option Value} (T : TxCm K mg) : (XK → Hp → VK → Prop) → Hp → VK → Prop := fun tl H Q =>
  tl (fun cls d H' => ∃ (dd : Addr) (fs : List (Str × V)) (nm : Str) (v : V), d = some dd ∧ H' dd = some (.xd fs) ∧ nmOf T cls fs nm v ∧ ∀ p, H' p = none → Q (.ref p) (upd H' p (.lst [.str nm, v, .bl true]))) H (fun _ _ => False)
theorem pss_imp {X : Cx} {ss : List Stmt} {t t' : L2.TS} (h : PSs X ss t) (f : ∀ D σ H, t' D σ H → t D σ H) : PSs X ss t' := ⟨fun pins s σ H D I q => h.run pins s σ H D I (f _ _ _ q)⟩
/-- what one clause makes -/
def tRow (D : Addr) (nm fld : Str) (a : Addr) (cls : Value) (d : Option Addr) : L2.TS := fun Z σ H => cls = .ref D ∧ ∃ (dd : Addr) (v : V), d = some dd ∧ H dd = some (.xd [(fld, v)]) ∧ σ[2]? = some (some (.ref a)) ∧ ∀ p, H p = none → Z.rt (.ref p) (upd H p (.lst [.str nm, v, .bl true]))
theorem came_gives {X : Cx} {cdg : Value} {q : Str} (T : TxCm X.K X.mg) : LamX.GivesTo X ["_law_ask", "_law_given", "e"] "_law_came" (defScope sCame) T.cm.f cdg (defBody sCame) "_law_ask" q (TCame T) := by
  intro f c' s H Q tl act hc h
  refine ⟨_, pss_cons (TryAs.ps_try_asN (X := (cxOf C8.CX0 X.prog X.w X.K X.mg X.base ["_law_ask", "_law_given", "e"] "_law_came" (defScope sCame) T.cm.f cdg X.A X.stack s H C8.E0).nox) (i := 2) (n := "e")
      (ks := [⟨.ref T.U.eI.C, tRow T.U.eI.C "InvalidItems" "value"⟩, ⟨.ref T.U.k.eR.C, tRow T.U.k.eR.C "InvalidReplies" "index"⟩, ⟨.ref T.U.k.eS.C, tRow T.U.k.eS.C "InvalidSize" "value"⟩])
      (tb := fun W D σ H => ∃ Ech : XK, (∀ (cls : Value) (d : Option Addr) (σ' : L2.St) (H' : Hp), Ech cls d H' → σ'.length = 3 → W cls d σ' H') ∧ σ[0]? = some (some (.ref f)) ∧ H c' = some (LamX.CodeO c' q) ∧ tl Ech H fun v H2 => gName 1 v σ H2 D.nx)
      (out := fun _ _ _ _ => False) rfl rfl scCame.nd rfl rfl LamX.takes0 (fun W pn xe tk _ => ?_)
      (.more ⟨rfl, by decide, .inl T.U.eI.g⟩ (fun a oe cls d pn hz hf => ?_) (.more ⟨rfl, by decide, .inl T.U.k.eR.g⟩ (fun a oe cls d pn hz hf => ?_) (.more ⟨rfl, by decide, .inl T.U.k.eS.g⟩ (fun a oe cls d pn hz hf => ?_) .stop))))
    (pss_one ps_never), ?_⟩
  · refine ⟨fun pins s2 σ H2 D I hh => ?_⟩
    obtain ⟨Ech, hW, h1, h2, h3⟩ := hh
    have hp := fun p1 p2 => act _ pn xe Ech p1 p2 (takes_len tk) (fun cls d σ' H' z => hW cls d σ' H' z)
    exact (pss_one (ps_set (i := 1) scCame.nd rfl (.inl rfl) (hp _ _))).run pins s2 σ H2 D I ⟨h1, h2, h3⟩
  · refine pss_imp (pss_one (ps_ret (pe_lst (pa_cons pe_str (pa_cons (pe_xf T.hI.x.xf T.hI.n hz hf (pv 2)) (pa_cons (pe_and (pe_callB (call_isX T.hI.x hz hf) (by rfl) T.U.k.isi (by decide +kernel) (pa_cons (pv 2) (pa_cons (pe_glob (v := .ref T.CI) rfl T.gI rfl) pa_nil)))
        (pe_one (pe_callB (call_isX T.hI.x hz hf) (by rfl) T.U.k.isi (by decide +kernel) (pa_cons (pv 2) (pa_cons (pe_bltn (v := .ty "ValueError") (by rfl) T.ve (by decide +kernel) rfl) pa_nil))))) pa_nil)))))) ?_
    rintro Z σ H ⟨rfl, dd, v, rfl, hdd, hσ, k⟩
    refine ⟨_, hσ, rfl, rfl, dd, _, v, rfl, hdd, by simp [List.lookup], ?_⟩
    refine ⟨_, hσ, .ref T.CI, .ref T.CI, true, dd, _, rfl, fun u z => z, rfl, rfl, hdd, T.hI.k1, true, rfl, iteT ?_⟩
    refine ⟨_, hσ, .ty "ValueError", .type "ValueError", true, dd, _, rfl, fun u z => z, rfl, rfl, hdd, T.hI.k2, ?_⟩
    exact ⟨by show 3 ≤ sizeLine; decide, k⟩
  · refine pss_imp (pss_one (ps_ret (pe_lst (pa_cons pe_str (pa_cons (pe_xf T.hR.x.xf T.hR.n hz hf (pv 2)) (pa_cons (pe_and (pe_callB (call_isX T.hR.x hz hf) (by rfl) T.U.k.isi (by decide +kernel) (pa_cons (pv 2) (pa_cons (pe_glob (v := .ref T.CI) rfl T.gI rfl) pa_nil)))
        (pe_one (pe_callB (call_isX T.hR.x hz hf) (by rfl) T.U.k.isi (by decide +kernel) (pa_cons (pv 2) (pa_cons (pe_bltn (v := .ty "ValueError") (by rfl) T.ve (by decide +kernel) rfl) pa_nil))))) pa_nil)))))) ?_
    rintro Z σ H ⟨rfl, dd, v, rfl, hdd, hσ, k⟩
    refine ⟨_, hσ, rfl, rfl, dd, _, v, rfl, hdd, by simp [List.lookup], ?_⟩
    refine ⟨_, hσ, .ref T.CI, .ref T.CI, true, dd, _, rfl, fun u z => z, rfl, rfl, hdd, T.hR.k1, true, rfl, iteT ?_⟩
    refine ⟨_, hσ, .ty "ValueError", .type "ValueError", true, dd, _, rfl, fun u z => z, rfl, rfl, hdd, T.hR.k2, ?_⟩
    exact ⟨by show 3 ≤ sizeLine; decide, k⟩
  · refine pss_imp (pss_one (ps_ret (pe_lst (pa_cons pe_str (pa_cons (pe_xf T.hS.x.xf T.hS.n hz hf (pv 2)) (pa_cons (pe_and (pe_callB (call_isX T.hS.x hz hf) (by rfl) T.U.k.isi (by decide +kernel) (pa_cons (pv 2) (pa_cons (pe_glob (v := .ref T.CI) rfl T.gI rfl) pa_nil)))
        (pe_one (pe_callB (call_isX T.hS.x hz hf) (by rfl) T.U.k.isi (by decide +kernel) (pa_cons (pv 2) (pa_cons (pe_bltn (v := .ty "ValueError") (by rfl) T.ve (by decide +kernel) rfl) pa_nil))))) pa_nil)))))) ?_
    rintro Z σ H ⟨rfl, dd, v, rfl, hdd, hσ, k⟩
    refine ⟨_, hσ, rfl, rfl, dd, _, v, rfl, hdd, by simp [List.lookup], ?_⟩
    refine ⟨_, hσ, .ref T.CI, .ref T.CI, true, dd, _, rfl, fun u z => z, rfl, rfl, hdd, T.hS.k1, true, rfl, iteT ?_⟩
    refine ⟨_, hσ, .ty "ValueError", .type "ValueError", true, dd, _, rfl, fun u z => z, rfl, rfl, hdd, T.hS.k2, ?_⟩
    exact ⟨by show 3 ≤ sizeLine; decide, k⟩
  · refine ⟨_, fun cls d σ' H' hh hl => ?_, rfl, hc, h⟩
    obtain ⟨dd, fs, nm, v, rfl, hdd, hn, k⟩ := hh
    obtain ⟨x0, x1, x2, rfl⟩ := len3 hl
    rcases hn with ⟨rfl, rfl, rfl⟩ | ⟨rfl, rfl, rfl⟩ | ⟨rfl, rfl, rfl⟩
    · exact ⟨true, T.ii, fun a na => ⟨rfl, dd, v, rfl, hdd, rfl, k⟩⟩
    · exact ⟨false, T.ri, true, T.rr, fun a na => ⟨rfl, dd, v, rfl, hdd, rfl, k⟩⟩
    · exact ⟨false, T.si, false, T.sr, true, T.ss, fun a na => ⟨rfl, dd, v, rfl, hdd, rfl, k⟩⟩
end My

/-! sample_loop, sample_source -/
namespace My
open PySem L2 Cm LM
abbrev sSL : Stmt := top 39
abbrev sSS : Stmt := top 40
def txS : Str := "ask empty:stop hand"
theorem txS_good : goodText txS = true := by decide +kernel
structure TxSm (K : PySem.W.Frag) (mg : Str → Option Value) where
  T : TxC K mg
  U : TxU K mg
  sl : Df K mg "sample_loop" sSL []
  ss : Df K mg "sample_source" sSS []
section
variable {P : Program} {w : World} {K : PySem.W.Frag} {mg : Str → Option Value} {base : Heap}
def spSL (C : Addr) : Sp := fun vs H Q _ => vs = [] ∧ ∀ (H' : Hp) (o : Addr), Same H H' → H o = none → LoopAt C H' o txS → Q (.ref o) H'
theorem scSL : FnScope [] [] (defScope sSL) := ⟨rfl, rfl, rfl, by decide +kernel, rfl, by decide +kernel, by decide +kernel⟩
theorem ok_sl (M : TxSm K mg) : FnOk P w K mg base CX0 6 M.sl.f M.sl.fd [] (spSL M.T.C) := by
  have GM : FnOk P w K mg base (L2.CX P w) 4 M.T.fI M.T.fdI ["self", "text"] (spLI K M.T.C M.T.E.C) := ok_li M.T
  refine M.sl.F.ok scSL (fun vs H Q E h => ?_) (fun cdv A outer s H vs Q E hr h => ?_)
  · obtain ⟨rfl, _⟩ := h
    rfl
  · obtain ⟨rfl, k⟩ := h
    refine ⟨_, pss_one (ps_ret (pe_make M.T.MI GM hr rfl M.T.gC M.T.bI .nil pass_none (pa_cons pe_str pa_nil))), ?_⟩
    intro x dx nx ndx nex
    refine ⟨x, dx, .str txS, rfl, upd_same, typed_str _, ?_, fun t e g H' o hL => ⟨rfl, ?_⟩, fun z => ?_⟩
    · exact (show txS.length ≤ 100000 by decide +kernel)
    · cases e
      exact k H' x (made_same nx ndx o) nx hL
    · have : good (.str txS) = true := txS_good
      rw [this] at z
      cases z
def spSS (C : Addr) : Sp := fun vs H Q _ => vs = [] ∧ ∀ (H' : Hp) (o : Addr), Same H H' → H o = none → SrcU C H' o "short" "prompt" "empty" → Q (.ref o) H'
theorem scSS : FnScope [] [] (defScope sSS) := ⟨rfl, rfl, rfl, by decide +kernel, rfl, by decide +kernel, by decide +kernel⟩
theorem ok_ss (M : TxSm K mg) : FnOk P w K mg base CX0 4 M.ss.f M.ss.fd [] (spSS M.U.C) := by
  have GM : FnOk P w K mg base CX0 2 M.U.fI M.U.fdI ["self", "amount", "patience", "end"] (spUI M.U.C) := ok_ui M.U
  refine M.ss.F.ok scSS (fun vs H Q E h => ?_) (fun cdv A outer s H vs Q E hr h => ?_)
  · obtain ⟨rfl, _⟩ := h
    rfl
  · obtain ⟨rfl, k⟩ := h
    have hr2 : Room 3 _ := hr.mono (by decide)
    refine ⟨_, pss_one (ps_ret (pe_make M.U.MI GM hr2 rfl M.U.gC M.U.bI .nil pass0 (pa_cons pe_str (pa_cons pe_str (pa_cons pe_str pa_nil))))), ?_⟩
    intro x dx nx ndx nex
    refine ⟨x, dx, "short", "prompt", "empty", rfl, .inr rfl, .inl rfl, .inl rfl, upd_same, fun H' f hx => ⟨rfl, ?_⟩⟩
    exact k H' x (made_same nx ndx fun b o nb e => f b o nb e) nx ⟨dx, hx⟩
end
end My

/-! laws that hand lambdas to _law_came: what stays, the tables of code -/
namespace My
open PySem L2
def qLam : Str := ("_law_right" : Str) ++ ".<locals>." ++ "<lambda>"
/-- all but the jar and the tables is as it was -/
def OffN (j : Addr) (H H' : Hp) : Prop := ∀ b o, b ≠ j → (∀ ps, o ≠ .tbl ps) → H b = some o → H' b = some o
theorem OffN.refl {j : Addr} {H : Hp} : OffN j H H := fun _ _ _ _ h => h
theorem OffN.trans {j : Addr} {H H1 H2 : Hp} (a : OffN j H H1) (b : OffN j H1 H2) : OffN j H H2 := fun c o n t h => b c o n t (a c o n t h)
theorem Off.offN {j : Addr} {H H' : Hp} (a : Off j H H') : OffN j H H' := fun c o n _ h => a c o n h
theorem extN_off {j : Addr} {H H' : Hp} (a : LamX.ExtN H H') : OffN j H H' := fun c o _ t h => a c o h t
theorem Jar.ext {j : Addr} {H H' : Hp} (h : Jar H j) (a : LamX.ExtN H H') : Jar H' j := by
  obtain ⟨x, y, z, e⟩ := h
  exact ⟨x, y, z, a _ _ e (by intro ps q; cases q)⟩
theorem tabs_off {T : List (Addr × Str)} {j : Addr} {H H' : Hp} (J : Jar H j) (o : Off j H H') (t : LamX.Tabs T H) : LamX.Tabs T H' := fun p hp => by
  obtain ⟨x, y, z, q⟩ := J
  obtain ⟨ps, a1, a2, a3⟩ := t p hp
  refine ⟨ps, o _ _ (fun e => ?_) a1, a2, fun pos cv hcv => ?_⟩
  · rw [e, q] at a1
    cases a1
  · obtain ⟨c, e, h⟩ := a3 pos cv hcv
    refine ⟨c, e, o _ _ (fun e => ?_) h⟩
    rw [e, q] at h
    cases h
def spRight (PR : Addr) : Sp := fun vs H Q _ => ∃ j : Addr, vs = [.ref j] ∧ Jar H j ∧ LamX.Tabs [(PR, qLam)] H ∧ ∀ H', OffN j H H' → LamX.Tabs [(PR, qLam)] H' → Q (.bl true) H'
/-- the state of a law's turns: the jar, the tables -/
structure Ts (PR j : Addr) (H0 H : Hp) : Prop where
  off : OffN j H0 H
  jar : Jar H j
  tab : LamX.Tabs [(PR, qLam)] H
theorem Ts.same {PR j : Addr} {H0 H H' : Hp} (t : Ts PR j H0 H) (s : Same H H') : Ts PR j H0 H' := ⟨t.off.trans (Same.off s).offN, t.jar.same s, t.tab.ext s⟩
theorem Ts.off' {PR j : Addr} {H0 H H' : Hp} (t : Ts PR j H0 H) (o : Off j H H') (J : Jar H' j) : Ts PR j H0 H' := ⟨t.off.trans o.offN, J, tabs_off t.jar o t.tab⟩
theorem Ts.ext {PR j : Addr} {H0 H H' : Hp} (t : Ts PR j H0 H) (o : LamX.ExtN H H') (T : LamX.Tabs [(PR, qLam)] H') : Ts PR j H0 H' := ⟨t.off.trans (extN_off o), t.jar.ext o, T⟩
end My

namespace My
open PySem L2 Cm LM Gd RpA SkT Sn
abbrev sBad : Stmt := top 46
section
variable {P : Program} {w : World} {K : PySem.W.Frag} {mg : Str → Option Value} {base : Heap}
theorem typedI_dq {H : Hp} {v : V} {d : PyData} (q : Dq H v d) : TypedI K H v := by
  have t := dq_ty (K := K) q
  cases q with
  | non => exact ⟨_, t, kit_ty (show kitB "NoneType" "int" = some false by decide +kernel), kit_ty (show kitB "NoneType" "bool" = some false by decide +kernel)⟩
  | bl b => exact typed_bl b
  | int i => exact typed_int i
  | str x => exact ⟨_, t, kit_ty (show kitB "str" "int" = some false by decide +kernel), kit_ty (show kitB "str" "bool" = some false by decide +kernel)⟩
  | lst h _ => exact ⟨_, t, kit_ty (show kitB "list" "int" = some false by decide +kernel), kit_ty (show kitB "list" "bool" = some false by decide +kernel)⟩
  | tup h _ => exact ⟨_, t, kit_ty (show kitB "tuple" "int" = some false by decide +kernel), kit_ty (show kitB "tuple" "bool" = some false by decide +kernel)⟩
  | dct h => exact ⟨_, t, kit_ty (show kitB "dict" "int" = some false by decide +kernel), kit_ty (show kitB "dict" "bool" = some false by decide +kernel)⟩
/-- a reply, as data -/
def repD (m : Int) : PyData → Bool
  | .tuple [.int c, .bool _] => decide ((0 : Int) ≤ c ∧ c ≤ m)
  | _ => false
theorem rep_dq {H : Hp} {m : Int} {v : V} {d : PyData} (q : Dq H v d) : RepV K H m v (repD m d) := by
  have t := dq_ty (K := K) q
  cases q with
  | non => exact .other ⟨_, t, kit_ty (show kitB "NoneType" "tuple" = some false by decide +kernel)⟩
  | bl b => exact .other ⟨_, t, kit_ty (show kitB "bool" "tuple" = some false by decide +kernel)⟩
  | int i => exact .other ⟨_, t, kit_ty (show kitB "int" "tuple" = some false by decide +kernel)⟩
  | str x => exact .other ⟨_, t, kit_ty (show kitB "str" "tuple" = some false by decide +kernel)⟩
  | lst h _ => exact .other ⟨_, t, kit_ty (show kitB "list" "tuple" = some false by decide +kernel)⟩
  | dct h => exact .other ⟨_, t, kit_ty (show kitB "dict" "tuple" = some false by decide +kernel)⟩
  | tup h a =>
    cases a with
    | nil => exact .long h (by decide)
    | cons c a =>
      cases a with
      | nil =>
        have e0 : ∀ a : PyData, repD m (.tuple [a]) = false := fun a => by cases a <;> rfl
        rw [e0]
        exact .long h (by simp)
      | cons b a =>
        cases a with
        | cons e a =>
          have e0 : ∀ (a b c : PyData) (r : List PyData), repD m (.tuple (a :: b :: c :: r)) = false := fun a b c r => by cases a <;> cases b <;> rfl
          rw [e0]
          exact .long h (by simp)
        | nil =>
          rename_i vc dc vb db
          have e : repD m (.tuple [dc, db]) = (btw 0 m vc && isB vb) := by
            cases c <;> cases b <;> simp [repD, btw, isB]
          rw [e]
          exact .pair h (typedI_dq c) (typedI_dq b)
theorem reps_dq {H : Hp} {m : Int} : ∀ {xs : List V} {ds : List PyData}, DqA H xs ds → RepVs K H m xs (ds.map (repD m))
  | _, _, .nil => .nil
  | _, _, .cons a t => .cons (rep_dq a) (reps_dq t)
/-- what the check of replies tells of data: nothing, None or the first place -/
def chkD (m : Int) : PyData → Option (Option Nat)
  | .tuple ds => if 100 < ds.length then some none else ((ds.map (repD m)).findIdx? fun b => !b).map some
  | _ => some none
theorem first_of {bs : List Bool} {i : Nat} (h : bs.findIdx? (fun b => !b) = some i) : firstF bs i := by
  obtain ⟨hi, hp, hq⟩ := List.findIdx?_eq_some_iff_getElem.mp h
  refine ⟨?_, fun k hk => ?_⟩
  · rw [List.getElem?_eq_getElem hi]
    simpa using hp
  · have := hq k hk
    rw [List.getElem?_eq_getElem (by omega)]
    simpa using this
theorem chk_bad {H : Hp} {m : Int} {v : V} {d : PyData} {sp : Option Nat} (q : Dq H v d) (h : chkD m d = some sp) :
    ((NoTup K H v ∨ ∃ t xs, v = .ref t ∧ H t = some (.tup xs) ∧ 100 < xs.length) ∧ sp = none) ∨
    ∃ (p : Addr) (xs : List V) (bs : List Bool) (i : Nat), v = .ref p ∧ H p = some (.tup xs) ∧ xs.length ≤ 100 ∧ RepVs K H m xs bs ∧ firstF bs i ∧ sp = some i := by
  have t := dq_ty (K := K) q
  cases q with
  | non => exact .inl ⟨.inl ⟨_, t, kit_ty (show kitB "NoneType" "tuple" = some false by decide +kernel)⟩, (Option.some.inj h).symm⟩
  | bl b => exact .inl ⟨.inl ⟨_, t, kit_ty (show kitB "bool" "tuple" = some false by decide +kernel)⟩, (Option.some.inj h).symm⟩
  | int i => exact .inl ⟨.inl ⟨_, t, kit_ty (show kitB "int" "tuple" = some false by decide +kernel)⟩, (Option.some.inj h).symm⟩
  | str x => exact .inl ⟨.inl ⟨_, t, kit_ty (show kitB "str" "tuple" = some false by decide +kernel)⟩, (Option.some.inj h).symm⟩
  | lst h' _ => exact .inl ⟨.inl ⟨_, t, kit_ty (show kitB "list" "tuple" = some false by decide +kernel)⟩, (Option.some.inj h).symm⟩
  | dct h' => exact .inl ⟨.inl ⟨_, t, kit_ty (show kitB "dict" "tuple" = some false by decide +kernel)⟩, (Option.some.inj h).symm⟩
  | tup h' a =>
    rename_i ad xs ds
    have hl := dqa_len a
    have h : (if 100 < ds.length then some none else ((ds.map (repD m)).findIdx? fun b => !b).map some) = some sp := h
    by_cases c : 100 < ds.length
    · rw [if_pos c] at h
      exact .inl ⟨.inr ⟨ad, xs, rfl, h', by omega⟩, (Option.some.inj h).symm⟩
    · rw [if_neg c] at h
      cases hf : (ds.map (repD m)).findIdx? fun b => !b with
      | none =>
        rw [hf] at h
        cases h
      | some i =>
        rw [hf] at h
        exact .inr ⟨ad, xs, _, i, rfl, h', by omega, reps_dq a, first_of hf, (Option.some.inj h).symm⟩
/-! ### _law_bad -/
def spD : Option Nat → PyData
  | none => .none
  | some i => .int (i : Nat)
def spV : Option Nat → V
  | none => .non
  | some i => .int (i : Nat)
theorem sp_dq {H : Hp} : ∀ sp, Dq H (spV sp) (spD sp)
  | none => .non
  | some i => .int _
theorem dq_sp {H : Hp} {v : V} {sp : Option Nat} (q : Dq H v (spD sp)) : v = spV sp := by
  cases sp with
  | none =>
    cases q
    rfl
  | some i =>
    cases q
    rfl
theorem jar_no {H : Hp} {j p : Addr} (a : Jar H j) (n : H p = none) : p ≠ j := fun z => by
  obtain ⟨x, y, w, h⟩ := a
  rw [z, h] at n
  cases n
theorem tup_no {H : Hp} {j p : Addr} {xs : List V} (a : Jar H j) (n : H p = some (.tup xs)) : p ≠ j := fun z => by
  obtain ⟨x, y, w, h⟩ := a
  rw [z, h] at n
  cases n
theorem dqa_rep {H : Hp} {v : V} {d : PyData} (q : Dq H v d) : ∀ k, DqA H (List.replicate k [v]).flatten (List.replicate k d)
  | 0 => .nil
  | k + 1 => .cons q (dqa_rep q k)
theorem chk_rep (m : Int) (d : PyData) : chkD m (.tuple (List.replicate 101 d)) = some none := by
  show (if 100 < (List.replicate 101 d).length then some none else (((List.replicate 101 d).map (repD m)).findIdx? fun b => !b).map some) = some none
  rw [List.length_replicate, if_pos (by decide)]
theorem sw_rep {d : PyData} (h : Sw 30 2 d) : Sw 4000 10 (.tuple (List.replicate 101 d)) := by
  refine (sw_tup (n := 30) (k := 2) fun x hx => ?_).mono ?_ (by decide)
  · rw [List.eq_of_mem_replicate hx]
    exact h
  · rw [List.length_replicate]
    decide
/-- a pair: what is no replies, and what the check tells of it -/
def BadP (j : Addr) (H : Hp) (v : V) : Prop := ∃ (d : PyData) (sp : Option Nat), Dq (Hj j H) v (.tuple [d, spD sp]) ∧ chkD 1000 d = some sp ∧ chkD 5 d = some sp ∧ Sw 4000 10 d ∧ Sw 30 2 (spD sp)
theorem BadP.same {j : Addr} {H H' : Hp} {v : V} (s : Same H H') (h : BadP j H v) : BadP j H' v := let ⟨d, sp, a, b⟩ := h; ⟨d, sp, a.same (hj_same s), b⟩
theorem BadP.off {j : Addr} {H H' : Hp} {v : V} (s : Off j H H') (h : BadP j H v) : BadP j H' v := let ⟨d, sp, a, b⟩ := h; ⟨d, sp, a.same (hj_off s), b⟩
def tBad (j : Addr) : TE := fun σ H Q => ∃ g : Addr, σ[1]? = some (some (.ref g)) ∧ g ≠ j ∧ H g = some (.tup [.int 1, .bl false]) ∧ Jar H j ∧ ∀ H' v, Same H H' → BadP j H' v → Q v H'
def spBad : Sp := fun vs H Q _ => ∃ j : Addr, vs = [.ref j] ∧ Jar H j ∧ ∀ (H' : Hp) (v : V), Off j H H' → Jar H' j → BadP j H' v → Q v H'
theorem scBad : FnScope ["_law_jar_here", "_law_good", "_law_some"] ["_law_jar_here"] (defScope sBad) := ⟨rfl, rfl, rfl, by decide +kernel, rfl, by decide +kernel, by decide +kernel⟩
theorem ok_bad (TJ : TxtJ mg) (S : Df K mg "_law_sip" sSip ["_law_jar_here", "_law_many"]) (Fr : Df K mg "_law_from" sFrom ["_law_jar_here", "_law_things"]) {f : Addr} {fd : FuncData} (F : Fun K "_law_bad" "_law_bad" sBad f fd) : FnOk P w K mg base CX0 3 f fd ["_law_jar_here"] spBad := by
  have GF : FnOk P w K mg base CX0 2 Fr.f Fr.fd ["_law_jar_here", "_law_things"] (spFrom K) := ok_from Fr.F TJ ⟨S.g, S.k⟩ S.F S.b
  refine F.ok scBad (fun vs H Q E h => ?_) (fun cdv A outer s H vs Q E hr h => ?_)
  · obtain ⟨j, rfl, _⟩ := h
    rfl
  · obtain ⟨j, rfl, hJ, k⟩ := h
    refine ⟨_, (pss_cons (ps_set (i := 1) scBad.nd rfl (.inl rfl) (pe_tup (pa_cons pe_int (pa_cons pe_bl pa_nil)))) (pss_cons (ps_set (i := 2) scBad.nd rfl (.inl rfl) (pe_lst (pa_cons (pe_imp (t' := tBad j) (pe_tup (pa_cons pe_non (pa_cons pe_non pa_nil))) (fun σ H Q ⟨g, h1, gj, hg, J0, k⟩ => by
        refine ⟨(by show 2 ≤ sizeLine; decide), fun a1 n1 => ?_⟩
        have s1 := same_new (o := .tup [.non, .non]) n1
        have nj1 := jar_no J0 n1
        have J1 := J0.same s1
        exact k _ _ s1 ⟨.none, none, (.tup (hj_at nj1 upd_same) (.cons .non (.cons .non .nil))), by decide +kernel, by decide +kernel, ⟨by decide +kernel, by decide +kernel, by decide +kernel, by decide +kernel⟩, ⟨by decide +kernel, by decide +kernel, by decide +kernel, by decide +kernel⟩⟩)) (pa_cons (pe_imp (t' := tBad j) (pe_tup (pa_cons (pe_lst (pa_cons (pv 1) pa_nil)) (pa_cons pe_non pa_nil))) (fun σ H Q ⟨g, h1, gj, hg, J0, k⟩ => by
        refine ⟨_, h1, ?_⟩
        refine ⟨(by show 1 ≤ sizeLine; decide), fun a1 n1 => ?_⟩
        have s1 := same_new (o := .lst [.ref g]) n1
        have nj1 := jar_no J0 n1
        have J1 := J0.same s1
        refine ⟨(by show 2 ≤ sizeLine; decide), fun a2 n2 => ?_⟩
        have s2 := same_new (o := .tup [.ref a1, .non]) n2
        have nj2 := jar_no J1 n2
        have J2 := J1.same s2
        exact k _ _ (Same.trans s1 s2) ⟨.list [.tuple [.int 1, .bool false]], none, (.tup (hj_at nj2 upd_same) (.cons (.lst (hj_at nj1 (s2 _ _ upd_same)) (.cons (.tup (hj_at gj (s2 _ _ (s1 _ _ hg))) (.cons (.int _) (.cons (.bl _) .nil))) .nil)) (.cons .non .nil))), by decide +kernel, by decide +kernel, ⟨by decide +kernel, by decide +kernel, by decide +kernel, by decide +kernel⟩, ⟨by decide +kernel, by decide +kernel, by decide +kernel, by decide +kernel⟩⟩)) (pa_cons (pe_imp (t' := tBad j) (pe_tup (pa_cons (pv 1) (pa_cons pe_int pa_nil))) (fun σ H Q ⟨g, h1, gj, hg, J0, k⟩ => by
        refine ⟨_, h1, ?_⟩
        refine ⟨(by show 2 ≤ sizeLine; decide), fun a1 n1 => ?_⟩
        have s1 := same_new (o := .tup [.ref g, .int 0]) n1
        have nj1 := jar_no J0 n1
        have J1 := J0.same s1
        exact k _ _ s1 ⟨.tuple [.int 1, .bool false], some 0, (.tup (hj_at nj1 upd_same) (.cons (.tup (hj_at gj (s1 _ _ hg)) (.cons (.int _) (.cons (.bl _) .nil))) (.cons (.int _) .nil))), by decide +kernel, by decide +kernel, ⟨by decide +kernel, by decide +kernel, by decide +kernel, by decide +kernel⟩, ⟨by decide +kernel, by decide +kernel, by decide +kernel, by decide +kernel⟩⟩)) (pa_cons (pe_imp (t' := tBad j) (pe_tup (pa_cons (pe_tup (pa_cons (pv 1) (pa_cons pe_non pa_nil))) (pa_cons pe_int pa_nil))) (fun σ H Q ⟨g, h1, gj, hg, J0, k⟩ => by
        refine ⟨_, h1, ?_⟩
        refine ⟨(by show 2 ≤ sizeLine; decide), fun a1 n1 => ?_⟩
        have s1 := same_new (o := .tup [.ref g, .non]) n1
        have nj1 := jar_no J0 n1
        have J1 := J0.same s1
        refine ⟨(by show 2 ≤ sizeLine; decide), fun a2 n2 => ?_⟩
        have s2 := same_new (o := .tup [.ref a1, .int 1]) n2
        have nj2 := jar_no J1 n2
        have J2 := J1.same s2
        exact k _ _ (Same.trans s1 s2) ⟨.tuple [.tuple [.int 1, .bool false], .none], some 1, (.tup (hj_at nj2 upd_same) (.cons (.tup (hj_at nj1 (s2 _ _ upd_same)) (.cons (.tup (hj_at gj (s2 _ _ (s1 _ _ hg))) (.cons (.int _) (.cons (.bl _) .nil))) (.cons .non .nil))) (.cons (.int _) .nil))), by decide +kernel, by decide +kernel, ⟨by decide +kernel, by decide +kernel, by decide +kernel, by decide +kernel⟩, ⟨by decide +kernel, by decide +kernel, by decide +kernel, by decide +kernel⟩⟩)) (pa_cons (pe_imp (t' := tBad j) (pe_tup (pa_cons (pe_tup (pa_cons (pv 1) (pa_cons (pv 1) (pa_cons (pe_tup (pa_cons pe_int (pa_cons pe_int pa_nil))) pa_nil)))) (pa_cons pe_int pa_nil))) (fun σ H Q ⟨g, h1, gj, hg, J0, k⟩ => by
        refine ⟨_, h1, ?_⟩
        refine ⟨_, h1, ?_⟩
        refine ⟨(by show 2 ≤ sizeLine; decide), fun a1 n1 => ?_⟩
        have s1 := same_new (o := .tup [.int 1, .int 0]) n1
        have nj1 := jar_no J0 n1
        have J1 := J0.same s1
        refine ⟨(by show 3 ≤ sizeLine; decide), fun a2 n2 => ?_⟩
        have s2 := same_new (o := .tup [.ref g, .ref g, .ref a1]) n2
        have nj2 := jar_no J1 n2
        have J2 := J1.same s2
        refine ⟨(by show 2 ≤ sizeLine; decide), fun a3 n3 => ?_⟩
        have s3 := same_new (o := .tup [.ref a2, .int 2]) n3
        have nj3 := jar_no J2 n3
        have J3 := J2.same s3
        exact k _ _ (Same.trans s1 (Same.trans s2 s3)) ⟨.tuple [.tuple [.int 1, .bool false], .tuple [.int 1, .bool false], .tuple [.int 1, .int 0]], some 2, (.tup (hj_at nj3 upd_same) (.cons (.tup (hj_at nj2 (s3 _ _ upd_same)) (.cons (.tup (hj_at gj (s3 _ _ (s2 _ _ (s1 _ _ hg)))) (.cons (.int _) (.cons (.bl _) .nil))) (.cons (.tup (hj_at gj (s3 _ _ (s2 _ _ (s1 _ _ hg)))) (.cons (.int _) (.cons (.bl _) .nil))) (.cons (.tup (hj_at nj1 (s3 _ _ (s2 _ _ upd_same))) (.cons (.int _) (.cons (.int _) .nil))) .nil)))) (.cons (.int _) .nil))), by decide +kernel, by decide +kernel, ⟨by decide +kernel, by decide +kernel, by decide +kernel, by decide +kernel⟩, ⟨by decide +kernel, by decide +kernel, by decide +kernel, by decide +kernel⟩⟩)) (pa_cons (pe_imp (t' := tBad j) (pe_tup (pa_cons (pe_tup (pa_cons (pe_tup (pa_cons pe_bl (pa_cons pe_bl pa_nil))) pa_nil)) (pa_cons pe_int pa_nil))) (fun σ H Q ⟨g, h1, gj, hg, J0, k⟩ => by
        refine ⟨(by show 2 ≤ sizeLine; decide), fun a1 n1 => ?_⟩
        have s1 := same_new (o := .tup [.bl true, .bl true]) n1
        have nj1 := jar_no J0 n1
        have J1 := J0.same s1
        refine ⟨(by show 1 ≤ sizeLine; decide), fun a2 n2 => ?_⟩
        have s2 := same_new (o := .tup [.ref a1]) n2
        have nj2 := jar_no J1 n2
        have J2 := J1.same s2
        refine ⟨(by show 2 ≤ sizeLine; decide), fun a3 n3 => ?_⟩
        have s3 := same_new (o := .tup [.ref a2, .int 0]) n3
        have nj3 := jar_no J2 n3
        have J3 := J2.same s3
        exact k _ _ (Same.trans s1 (Same.trans s2 s3)) ⟨.tuple [.tuple [.bool true, .bool true]], some 0, (.tup (hj_at nj3 upd_same) (.cons (.tup (hj_at nj2 (s3 _ _ upd_same)) (.cons (.tup (hj_at nj1 (s3 _ _ (s2 _ _ upd_same))) (.cons (.bl _) (.cons (.bl _) .nil))) .nil)) (.cons (.int _) .nil))), by decide +kernel, by decide +kernel, ⟨by decide +kernel, by decide +kernel, by decide +kernel, by decide +kernel⟩, ⟨by decide +kernel, by decide +kernel, by decide +kernel, by decide +kernel⟩⟩)) pa_nil)))))))) (pss_cons (ps_set (i := 2) scBad.nd rfl (.inl rfl) (pe_op op_cat (pv 2) (pe_lst (pa_cons (pe_imp (t' := tBad j) (pe_tup (pa_cons (pe_tup (pa_cons (pv 1) (pa_cons (pe_tup (pa_cons (pe_un un_neg pe_int) (pa_cons pe_bl pa_nil))) pa_nil))) (pa_cons pe_int pa_nil))) (fun σ H Q ⟨g, h1, gj, hg, J0, k⟩ => by
        refine ⟨_, h1, ?_⟩
        refine ⟨_, rfl, ?_⟩
        refine ⟨(by show 2 ≤ sizeLine; decide), fun a1 n1 => ?_⟩
        have s1 := same_new (o := .tup [.int (-1), .bl false]) n1
        have nj1 := jar_no J0 n1
        have J1 := J0.same s1
        refine ⟨(by show 2 ≤ sizeLine; decide), fun a2 n2 => ?_⟩
        have s2 := same_new (o := .tup [.ref g, .ref a1]) n2
        have nj2 := jar_no J1 n2
        have J2 := J1.same s2
        refine ⟨(by show 2 ≤ sizeLine; decide), fun a3 n3 => ?_⟩
        have s3 := same_new (o := .tup [.ref a2, .int 1]) n3
        have nj3 := jar_no J2 n3
        have J3 := J2.same s3
        exact k _ _ (Same.trans s1 (Same.trans s2 s3)) ⟨.tuple [.tuple [.int 1, .bool false], .tuple [.int (-1), .bool false]], some 1, (.tup (hj_at nj3 upd_same) (.cons (.tup (hj_at nj2 (s3 _ _ upd_same)) (.cons (.tup (hj_at gj (s3 _ _ (s2 _ _ (s1 _ _ hg)))) (.cons (.int _) (.cons (.bl _) .nil))) (.cons (.tup (hj_at nj1 (s3 _ _ (s2 _ _ upd_same))) (.cons (.int _) (.cons (.bl _) .nil))) .nil))) (.cons (.int _) .nil))), by decide +kernel, by decide +kernel, ⟨by decide +kernel, by decide +kernel, by decide +kernel, by decide +kernel⟩, ⟨by decide +kernel, by decide +kernel, by decide +kernel, by decide +kernel⟩⟩)) (pa_cons (pe_imp (t' := tBad j) (pe_tup (pa_cons (pe_tup (pa_cons (pe_tup (pa_cons pe_int (pa_cons pe_bl pa_nil))) pa_nil)) (pa_cons pe_int pa_nil))) (fun σ H Q ⟨g, h1, gj, hg, J0, k⟩ => by
        refine ⟨(by show 2 ≤ sizeLine; decide), fun a1 n1 => ?_⟩
        have s1 := same_new (o := .tup [.int 1001, .bl false]) n1
        have nj1 := jar_no J0 n1
        have J1 := J0.same s1
        refine ⟨(by show 1 ≤ sizeLine; decide), fun a2 n2 => ?_⟩
        have s2 := same_new (o := .tup [.ref a1]) n2
        have nj2 := jar_no J1 n2
        have J2 := J1.same s2
        refine ⟨(by show 2 ≤ sizeLine; decide), fun a3 n3 => ?_⟩
        have s3 := same_new (o := .tup [.ref a2, .int 0]) n3
        have nj3 := jar_no J2 n3
        have J3 := J2.same s3
        exact k _ _ (Same.trans s1 (Same.trans s2 s3)) ⟨.tuple [.tuple [.int 1001, .bool false]], some 0, (.tup (hj_at nj3 upd_same) (.cons (.tup (hj_at nj2 (s3 _ _ upd_same)) (.cons (.tup (hj_at nj1 (s3 _ _ (s2 _ _ upd_same))) (.cons (.int _) (.cons (.bl _) .nil))) .nil)) (.cons (.int _) .nil))), by decide +kernel, by decide +kernel, ⟨by decide +kernel, by decide +kernel, by decide +kernel, by decide +kernel⟩, ⟨by decide +kernel, by decide +kernel, by decide +kernel, by decide +kernel⟩⟩)) (pa_cons (pe_imp (t' := tBad j) (pe_tup (pa_cons (pe_tup (pa_cons (pv 1) (pa_cons (pe_tup (pa_cons pe_int (pa_cons pe_bl (pa_cons pe_int pa_nil)))) pa_nil))) (pa_cons pe_int pa_nil))) (fun σ H Q ⟨g, h1, gj, hg, J0, k⟩ => by
        refine ⟨_, h1, ?_⟩
        refine ⟨(by show 3 ≤ sizeLine; decide), fun a1 n1 => ?_⟩
        have s1 := same_new (o := .tup [.int 1, .bl false, .int 1]) n1
        have nj1 := jar_no J0 n1
        have J1 := J0.same s1
        refine ⟨(by show 2 ≤ sizeLine; decide), fun a2 n2 => ?_⟩
        have s2 := same_new (o := .tup [.ref g, .ref a1]) n2
        have nj2 := jar_no J1 n2
        have J2 := J1.same s2
        refine ⟨(by show 2 ≤ sizeLine; decide), fun a3 n3 => ?_⟩
        have s3 := same_new (o := .tup [.ref a2, .int 1]) n3
        have nj3 := jar_no J2 n3
        have J3 := J2.same s3
        exact k _ _ (Same.trans s1 (Same.trans s2 s3)) ⟨.tuple [.tuple [.int 1, .bool false], .tuple [.int 1, .bool false, .int 1]], some 1, (.tup (hj_at nj3 upd_same) (.cons (.tup (hj_at nj2 (s3 _ _ upd_same)) (.cons (.tup (hj_at gj (s3 _ _ (s2 _ _ (s1 _ _ hg)))) (.cons (.int _) (.cons (.bl _) .nil))) (.cons (.tup (hj_at nj1 (s3 _ _ (s2 _ _ upd_same))) (.cons (.int _) (.cons (.bl _) (.cons (.int _) .nil)))) .nil))) (.cons (.int _) .nil))), by decide +kernel, by decide +kernel, ⟨by decide +kernel, by decide +kernel, by decide +kernel, by decide +kernel⟩, ⟨by decide +kernel, by decide +kernel, by decide +kernel, by decide +kernel⟩⟩)) (pa_cons (pe_imp (t' := tBad j) (pe_tup (pa_cons (pe_tup (pa_cons (pe_tup (pa_cons pe_int pa_nil)) pa_nil)) (pa_cons pe_int pa_nil))) (fun σ H Q ⟨g, h1, gj, hg, J0, k⟩ => by
        refine ⟨(by show 1 ≤ sizeLine; decide), fun a1 n1 => ?_⟩
        have s1 := same_new (o := .tup [.int 1]) n1
        have nj1 := jar_no J0 n1
        have J1 := J0.same s1
        refine ⟨(by show 1 ≤ sizeLine; decide), fun a2 n2 => ?_⟩
        have s2 := same_new (o := .tup [.ref a1]) n2
        have nj2 := jar_no J1 n2
        have J2 := J1.same s2
        refine ⟨(by show 2 ≤ sizeLine; decide), fun a3 n3 => ?_⟩
        have s3 := same_new (o := .tup [.ref a2, .int 0]) n3
        have nj3 := jar_no J2 n3
        have J3 := J2.same s3
        exact k _ _ (Same.trans s1 (Same.trans s2 s3)) ⟨.tuple [.tuple [.int 1]], some 0, (.tup (hj_at nj3 upd_same) (.cons (.tup (hj_at nj2 (s3 _ _ upd_same)) (.cons (.tup (hj_at nj1 (s3 _ _ (s2 _ _ upd_same))) (.cons (.int _) .nil)) .nil)) (.cons (.int _) .nil))), by decide +kernel, by decide +kernel, ⟨by decide +kernel, by decide +kernel, by decide +kernel, by decide +kernel⟩, ⟨by decide +kernel, by decide +kernel, by decide +kernel, by decide +kernel⟩⟩)) pa_nil))))))) (pss_cons (ps_expr (pe_bm PySem.F.plainAttrs_list PySem.F.slot_list_append PySem.F.type_list_append mt_append (pv 2) (pa_cons (pe_tup (pa_cons pe_str (pa_cons pe_non pa_nil))) pa_nil))) (pss_one (ps_ret (pe_call GF hr rfl Fr.g Fr.k Fr.b .nil pass0 (pa_cons (pv 0) (pa_cons (pe_op op_cat (pv 2) (pe_lst (pa_cons (pe_imp (t' := tBad j) (pe_tup (pa_cons (pe_op RwR.op_repN (pe_tup (pa_cons (pv 1) pa_nil)) pe_int) (pa_cons pe_non pa_nil))) (fun σ H Q ⟨g, h1, gj, hg, J0, k⟩ => by
        refine ⟨_, h1, ?_⟩
        refine ⟨(by show 1 ≤ sizeLine; decide), fun a1 n1 => ?_⟩
        have s1 := same_new (o := .tup [.ref g]) n1
        have nj1 := jar_no J0 n1
        have J1 := J0.same s1
        refine ⟨a1, 101, _, rfl, rfl, upd_same, by decide, by show 1 ≤ 1000; decide, fun _ => by decide, fun H2 a2 s2 h2 => ?_⟩
        have J2 := J1.same s2
        have nj2 := tup_no J2 h2
        refine ⟨(by show 2 ≤ sizeLine; decide), fun a3 n3 => ?_⟩
        have s3 := same_new (o := .tup [.ref a2, .non]) n3
        have nj3 := jar_no J2 n3
        have J3 := J2.same s3
        exact k _ _ (Same.trans s1 (Same.trans s2 s3)) ⟨.tuple (List.replicate 101 (.tuple [.int 1, .bool false])), none, (.tup (hj_at nj3 upd_same) (.cons (.tup (hj_at nj2 (s3 _ _ h2)) (dqa_rep (.tup (hj_at gj (s3 _ _ (s2 _ _ (s1 _ _ hg)))) (.cons (.int _) (.cons (.bl _) .nil))) 101)) (.cons .non .nil))), chk_rep _ _, chk_rep _ _, sw_rep ⟨by decide +kernel, by decide +kernel, by decide +kernel, by decide +kernel⟩, ⟨by decide +kernel, by decide +kernel, by decide +kernel, by decide +kernel⟩⟩)) (pa_cons (pe_imp (t' := tBad j) (pe_tup (pa_cons (pe_tup (pa_cons (pv 1) (pa_cons (pe_lst (pa_cons pe_int (pa_cons pe_bl pa_nil))) pa_nil))) (pa_cons pe_int pa_nil))) (fun σ H Q ⟨g, h1, gj, hg, J0, k⟩ => by
        refine ⟨_, h1, ?_⟩
        refine ⟨(by show 2 ≤ sizeLine; decide), fun a1 n1 => ?_⟩
        have s1 := same_new (o := .lst [.int 1, .bl false]) n1
        have nj1 := jar_no J0 n1
        have J1 := J0.same s1
        refine ⟨(by show 2 ≤ sizeLine; decide), fun a2 n2 => ?_⟩
        have s2 := same_new (o := .tup [.ref g, .ref a1]) n2
        have nj2 := jar_no J1 n2
        have J2 := J1.same s2
        refine ⟨(by show 2 ≤ sizeLine; decide), fun a3 n3 => ?_⟩
        have s3 := same_new (o := .tup [.ref a2, .int 1]) n3
        have nj3 := jar_no J2 n3
        have J3 := J2.same s3
        exact k _ _ (Same.trans s1 (Same.trans s2 s3)) ⟨.tuple [.tuple [.int 1, .bool false], .list [.int 1, .bool false]], some 1, (.tup (hj_at nj3 upd_same) (.cons (.tup (hj_at nj2 (s3 _ _ upd_same)) (.cons (.tup (hj_at gj (s3 _ _ (s2 _ _ (s1 _ _ hg)))) (.cons (.int _) (.cons (.bl _) .nil))) (.cons (.lst (hj_at nj1 (s3 _ _ (s2 _ _ upd_same))) (.cons (.int _) (.cons (.bl _) .nil))) .nil))) (.cons (.int _) .nil))), by decide +kernel, by decide +kernel, ⟨by decide +kernel, by decide +kernel, by decide +kernel, by decide +kernel⟩, ⟨by decide +kernel, by decide +kernel, by decide +kernel, by decide +kernel⟩⟩)) (pa_cons (pe_imp (t' := tBad j) (pe_tup (pa_cons (pe_tup (pa_cons (pe_tup (pa_cons pe_non (pa_cons pe_bl pa_nil))) (pa_cons pe_int pa_nil))) (pa_cons pe_int pa_nil))) (fun σ H Q ⟨g, h1, gj, hg, J0, k⟩ => by
        refine ⟨(by show 2 ≤ sizeLine; decide), fun a1 n1 => ?_⟩
        have s1 := same_new (o := .tup [.non, .bl true]) n1
        have nj1 := jar_no J0 n1
        have J1 := J0.same s1
        refine ⟨(by show 2 ≤ sizeLine; decide), fun a2 n2 => ?_⟩
        have s2 := same_new (o := .tup [.ref a1, .int 5]) n2
        have nj2 := jar_no J1 n2
        have J2 := J1.same s2
        refine ⟨(by show 2 ≤ sizeLine; decide), fun a3 n3 => ?_⟩
        have s3 := same_new (o := .tup [.ref a2, .int 0]) n3
        have nj3 := jar_no J2 n3
        have J3 := J2.same s3
        exact k _ _ (Same.trans s1 (Same.trans s2 s3)) ⟨.tuple [.tuple [.none, .bool true], .int 5], some 0, (.tup (hj_at nj3 upd_same) (.cons (.tup (hj_at nj2 (s3 _ _ upd_same)) (.cons (.tup (hj_at nj1 (s3 _ _ (s2 _ _ upd_same))) (.cons .non (.cons (.bl _) .nil))) (.cons (.int _) .nil))) (.cons (.int _) .nil))), by decide +kernel, by decide +kernel, ⟨by decide +kernel, by decide +kernel, by decide +kernel, by decide +kernel⟩, ⟨by decide +kernel, by decide +kernel, by decide +kernel, by decide +kernel⟩⟩)) (pa_cons (pe_imp (t' := tBad j) (pe_tup (pa_cons pe_dnewK (pa_cons pe_non pa_nil))) (fun σ H Q ⟨g, h1, gj, hg, J0, k⟩ => by
        intro a1 n1
        have s1 := same_new (o := .dK []) n1
        have nj1 := jar_no J0 n1
        have J1 := J0.same s1
        refine ⟨(by show 2 ≤ sizeLine; decide), fun a2 n2 => ?_⟩
        have s2 := same_new (o := .tup [.ref a1, .non]) n2
        have nj2 := jar_no J1 n2
        have J2 := J1.same s2
        exact k _ _ (Same.trans s1 s2) ⟨.dict [], none, (.tup (hj_at nj2 upd_same) (.cons (.dct (hj_at nj1 (s2 _ _ upd_same))) (.cons .non .nil))), by decide +kernel, by decide +kernel, ⟨by decide +kernel, by decide +kernel, by decide +kernel, by decide +kernel⟩, ⟨by decide +kernel, by decide +kernel, by decide +kernel, by decide +kernel⟩⟩)) pa_nil)))))) pa_nil))))))))), ?_⟩
    refine ⟨(by show 2 ≤ sizeLine; decide), fun g ng => ?_⟩
    have gj := jar_no hJ ng
    have J1 := hJ.new (o := .tup [.int 1, .bl false]) ng
    have s1 := same_new (o := .tup [.int 1, .bl false]) ng
    have hg : (upd H g (.tup [.int 1, .bl false])) g = some (.tup [.int 1, .bl false]) := upd_same
    show tSeq _ _ _ _ (upd H g (.tup [.int 1, .bl false]))
    generalize upd H g (.tup [.int 1, .bl false]) = H1 at J1 s1 hg ⊢
    -- six
    refine ⟨g, rfl, gj, hg, J1, fun H2 x1 t2 b1 => ⟨g, rfl, gj, t2 _ _ hg, J1.same t2, fun H3 x2 t3 b2 => ?_⟩⟩
    have e3 := Same.trans t2 t3
    refine ⟨g, rfl, gj, e3 _ _ hg, J1.same e3, fun H4 x3 t4 b3 => ?_⟩
    have e4 := Same.trans e3 t4
    refine ⟨g, rfl, gj, e4 _ _ hg, J1.same e4, fun H5 x4 t5 b4 => ?_⟩
    have e5 := Same.trans e4 t5
    refine ⟨g, rfl, gj, e5 _ _ hg, J1.same e5, fun H6 x5 t6 b5 => ?_⟩
    have e6 := Same.trans e5 t6
    refine ⟨g, rfl, gj, e6 _ _ hg, J1.same e6, fun H7 x6 t7 b6 => ⟨(by show 6 ≤ sizeLine; decide), fun l nl => ?_⟩⟩
    have e7 := Same.trans e6 t7
    have s8 := same_new (o := .lst [x1, x2, x3, x4, x5, x6]) nl
    have A1 : ∀ x ∈ [x1, x2, x3, x4, x5, x6], BadP j (upd H7 l (.lst [x1, x2, x3, x4, x5, x6])) x := by
      have c2 := b1.same (Same.trans t3 (Same.trans t4 (Same.trans t5 (Same.trans t6 (Same.trans t7 s8)))))
      have c3 := b2.same (Same.trans t4 (Same.trans t5 (Same.trans t6 (Same.trans t7 s8))))
      have c4 := b3.same (Same.trans t5 (Same.trans t6 (Same.trans t7 s8)))
      have c5 := b4.same (Same.trans t6 (Same.trans t7 s8))
      have c6 := b5.same (Same.trans t7 s8)
      have c7 := b6.same s8
      intro x hx
      simp only [List.mem_cons, List.not_mem_nil, or_false] at hx
      rcases hx with rfl | rfl | rfl | rfl | rfl | rfl <;> assumption
    have hl : (upd H7 l (.lst [x1, x2, x3, x4, x5, x6])) l = some (.lst [x1, x2, x3, x4, x5, x6]) := upd_same
    have e8 := Same.trans e7 s8
    have nls : l ≠ j := jar_no (J1.same e7) nl
    show tSeq _ _ _ _ (upd H7 l (.lst [x1, x2, x3, x4, x5, x6]))
    generalize upd H7 l (.lst [x1, x2, x3, x4, x5, x6]) = H8 at hl e8 A1 ⊢
    generalize eX : [x1, x2, x3, x4, x5, x6] = X at hl A1
    have lX : X.length = 6 := by rw [← eX]; rfl
    clear eX b1 b2 b3 b4 b5 b6 t2 t3 t4 t5 t6 t7 e3 e4 e5 e6 e7 s8
    -- four more
    refine ⟨_, rfl, g, rfl, gj, e8 _ _ hg, J1.same e8, fun H9 y1 t9 b1 => ?_⟩
    have e9 := Same.trans e8 t9
    refine ⟨g, rfl, gj, e9 _ _ hg, J1.same e9, fun Ha y2 ta b2 => ?_⟩
    have ea := Same.trans e9 ta
    refine ⟨g, rfl, gj, ea _ _ hg, J1.same ea, fun Hb y3 tb b3 => ?_⟩
    have eb := Same.trans ea tb
    refine ⟨g, rfl, gj, eb _ _ hg, J1.same eb, fun Hc y4 tc b4 => ⟨(by show 4 ≤ sizeLine; decide), fun m nm => ?_⟩⟩
    have ec := Same.trans eb tc
    have sd := same_new (o := .lst [y1, y2, y3, y4]) nm
    have t8d := Same.trans t9 (Same.trans ta (Same.trans tb (Same.trans tc sd)))
    refine cat (t8d _ _ hl) upd_same (szl (by rw [lX]; show 6 + 4 ≤ 1000; decide)) fun z nz He se hz => ?_
    have ee := Same.trans (Same.trans ec sd) se
    have zj : z ≠ j := jar_no (J1.same (Same.trans ec sd)) nz
    have A2 : ∀ x ∈ X ++ [y1, y2, y3, y4], BadP j (upd Hc m (.lst [y1, y2, y3, y4])) x := by
      have c1 := b1.same (Same.trans ta (Same.trans tb (Same.trans tc sd)))
      have c2 := b2.same (Same.trans tb (Same.trans tc sd))
      have c3 := b3.same (Same.trans tc sd)
      have c4 := b4.same sd
      intro x hx
      rcases List.mem_append.mp hx with hx | hx
      · exact (A1 x hx).same t8d
      · simp only [List.mem_cons, List.not_mem_nil, or_false] at hx
        rcases hx with rfl | rfl | rfl | rfl <;> assumption
    have lY : (X ++ [y1, y2, y3, y4]).length = 10 := by rw [List.length_append, lX]; rfl
    have em := Same.trans ec sd
    generalize X ++ [y1, y2, y3, y4] = Y at hz A2 lY
    generalize upd Hc m (.lst [y1, y2, y3, y4]) = Hm at *
    clear b1 b2 b3 b4 t9 ta tb tc e9 ea eb A1 hl ec sd t8d
    -- one more
    refine ⟨_, rfl, .inl ⟨rfl, _, SqL.of hz⟩, (by show 2 ≤ sizeLine; decide), fun a na => ?_⟩
    have az : a ≠ z := fun q => by rw [q, hz] at na; cases na
    have aj : a ≠ j := jar_no (J1.same ee) na
    refine ⟨z, _, _, rfl, rfl, same_new na _ _ hz, small1000 (by rw [lY]; decide), ?_⟩
    have sg : Same Hm (upd (upd He a (.tup [.str "", .non])) z (.lst (Y ++ [.ref a]))) := fun b o e => by
      rw [upd_ne (ne_of_none e nz), upd_ne (ne_of_none (se _ _ e) na)]
      exact se _ _ e
    have hzg : (upd (upd He a (.tup [.str "", .non])) z (.lst (Y ++ [.ref a]))) z = some (.lst (Y ++ [.ref a])) := upd_same
    have hag : (upd (upd He a (.tup [.str "", .non])) z (.lst (Y ++ [.ref a]))) a = some (.tup [.str "", .non]) := by rw [upd_ne az]; exact upd_same
    show tSeq _ _ _ _ (upd (upd He a (.tup [.str "", .non])) z (.lst (Y ++ [.ref a])))
    generalize upd (upd He a (.tup [.str "", .non])) z (.lst (Y ++ [.ref a])) = Hg at sg hzg hag ⊢
    have A3 : ∀ x ∈ Y ++ [V.ref a], BadP j Hg x := fun x hx => by
      rcases List.mem_append.mp hx with hx | hx
      · exact (A2 x hx).same sg
      · rw [List.mem_singleton.mp hx]
        exact ⟨.str "", none, .tup (hj_at aj hag) (.cons (.str _) (.cons .non .nil)), by decide +kernel, by decide +kernel, ⟨by decide +kernel, by decide +kernel, by decide +kernel, by decide +kernel⟩, ⟨by decide +kernel, by decide +kernel, by decide +kernel, by decide +kernel⟩⟩
    have lZ : (Y ++ [V.ref a]).length = 11 := by rw [List.length_append, lY]; rfl
    have eg := Same.trans em sg
    generalize Y ++ [V.ref a] = Z at hzg A3 lZ
    clear A2 sg hag hz se ee
    -- four more, and one drawn
    refine ⟨_, rfl, _, rfl, g, rfl, gj, eg _ _ hg, J1.same eg, fun H9 y1 t9 b1 => ?_⟩
    have e9 := Same.trans eg t9
    refine ⟨g, rfl, gj, e9 _ _ hg, J1.same e9, fun Ha y2 ta b2 => ?_⟩
    have ea := Same.trans e9 ta
    refine ⟨g, rfl, gj, ea _ _ hg, J1.same ea, fun Hb y3 tb b3 => ?_⟩
    have eb := Same.trans ea tb
    refine ⟨g, rfl, gj, eb _ _ hg, J1.same eb, fun Hc y4 tc b4 => ⟨(by show 4 ≤ sizeLine; decide), fun m2 nm2 => ?_⟩⟩
    have ec := Same.trans eb tc
    have sd := same_new (o := .lst [y1, y2, y3, y4]) nm2
    have t8d := Same.trans t9 (Same.trans ta (Same.trans tb (Same.trans tc sd)))
    refine cat (t8d _ _ hzg) upd_same (szl (by rw [lZ]; show 11 + 4 ≤ 1000; decide)) fun z2 nz2 Hi si hz2 => ?_
    have A4 : ∀ x ∈ Z ++ [y1, y2, y3, y4], BadP j Hi x := by
      have c1 := b1.same (Same.trans ta (Same.trans tb (Same.trans tc (Same.trans sd si))))
      have c2 := b2.same (Same.trans tb (Same.trans tc (Same.trans sd si)))
      have c3 := b3.same (Same.trans tc (Same.trans sd si))
      have c4 := b4.same (Same.trans sd si)
      intro x hx
      rcases List.mem_append.mp hx with hx | hx
      · exact (A3 x hx).same (Same.trans t8d si)
      · simp only [List.mem_cons, List.not_mem_nil, or_false] at hx
        rcases hx with rfl | rfl | rfl | rfl <;> assumption
    have lW : (Z ++ [y1, y2, y3, y4]).length = 15 := by rw [List.length_append, lZ]; rfl
    have ei := Same.trans (Same.trans ec sd) si
    refine ⟨j, z2, _, rfl, J1.same ei, jar_no (J1.same (Same.trans ec sd)) nz2, SqL.of hz2, by rw [lW]; decide, by rw [lW]; decide, fun H' i x hx o' J' => ?_⟩
    exact k _ _ ((Same.off (Same.trans s1 ei)).trans o') J' ((A4 x (List.mem_of_getElem? hx)).off o')
end
end My

namespace My
open PySem L2 Cm LM EM Gd RpA SkT Sn IsX
section
variable {K : PySem.W.Frag} {mg : Str → Option Value}
theorem SrcU.ext {C : Addr} {H H' : Hp} {o : Addr} {A B E : Str} (s : LamX.ExtN H H') (h : SrcU C H o A B E) : SrcU C H' o A B E := let ⟨dx, e⟩ := h; ⟨dx, s _ _ e (by intro ps z; cases z)⟩
theorem SrcU.off {C j : Addr} {H H' : Hp} {o : Addr} {A B E : Str} (s : Off j H H') (hj : Jar H j) (h : SrcU C H o A B E) : SrcU C H' o A B E := by
  obtain ⟨dx, e⟩ := h
  obtain ⟨x, y, z, q⟩ := hj
  exact ⟨dx, s _ _ (ne_of e q (by intro z; cases z)) e⟩
theorem LoopAt.ext {C : Addr} {H H' : Hp} {o : Addr} {t : Str} (s : LamX.ExtN H H') (h : LoopAt C H o t) : LoopAt C H' o t := by
  have f : ∀ (p : Addr) (xs : List V), H p = some (.tup xs) → H' p = some (.tup xs) := fun p xs e => s _ _ e (by intro ps z; cases z)
  obtain ⟨dx, pr, pe, po, pq, a, b, c, d, e⟩ := h
  exact ⟨dx, pr, pe, po, pq, s _ _ a (by intro ps z; cases z), f _ _ b, f _ _ c, d.mono f, e.mono f⟩
/-! ### the calls that raise -/
/-- which error, and what it bears -/
def AlBad (n v : V) (dr : PyData) (nm : Str) (x : V) : Prop := (btw 0 1000 n = false ∧ nm = "InvalidItems" ∧ x = n) ∨ ∃ m : Nat, n = .int m ∧ m ≤ 1000 ∧
  ((btw 1 1000 v = false ∧ nm = "InvalidSize" ∧ x = v) ∨ ∃ z : Nat, v = .int z ∧ 1 ≤ z ∧ z ≤ 1000 ∧ ∃ sp, chkD 1000 dr = some sp ∧ nm = "InvalidReplies" ∧ x = spV sp)
def RnBad (v : V) (dr : PyData) (nm : Str) (x : V) : Prop := (btw 1 1000 v = false ∧ nm = "InvalidSize" ∧ x = v) ∨ ∃ z : Nat, v = .int z ∧ 1 ≤ z ∧ z ≤ 1000 ∧ ∃ sp, chkD z dr = some sp ∧ nm = "InvalidReplies" ∧ x = spV sp
theorem lam_al {T : List (Addr × Str)} (M : TxCm K mg) {i : Nat} {t : Addr} {A B En nm : Str} {targs : TA} {σ : L2.St} {H : Hp} {Q : VK} {n v r x : V} {dn dv dr : PyData} (hT : LamX.Tabs T H) (hσ : σ[i]? = some (some (.ref t))) (hO : SrcU M.U.C H t A B En)
    (fn : Dq H n dn) (fv : Dq H v dv) (fr : Dq H r dr) (args : ∀ (H1 : Hp) (R : List V → Hp → Prop), R [n, v, r] H1 → targs σ H1 R) (bad : AlBad n v dr nm x)
    (q : ∀ (H1 : Hp) (p : Addr), LamX.ExtN H H1 → LamX.Tabs T H1 → H1 p = some (.lst [.str nm, x, .bl true]) → Q (.ref p) H1) :
    LamX.tLam T (TCame M) (fun E => tMeth M.U.C "allows" (spUA K M.U.C M.U.eI.C M.U.k.eS.C M.U.k.eR.C) [] E (tVar i) targs) σ H Q := by
  refine ⟨hT, fun H1 e1 T1 => ?_⟩
  have hO1 := hO.ext e1
  obtain ⟨dx, ho⟩ := id hO1
  have fin : ∀ {H2 : Hp} (s2 : Same H1 H2) (d : Addr) (fs : List (Str × V)), H2 d = none → ∀ p, (upd H2 d (.xd fs)) p = none → Q (.ref p) (upd (upd H2 d (.xd fs)) p (.lst [.str nm, x, .bl true])) := fun {H2} s2 d fs nd p np => by
    have s3 := Same.trans s2 (Same.trans (same_new (o := .xd fs) nd) (same_new (o := .lst [.str nm, x, .bl true]) np))
    exact q _ p (e1.trans (ext_same s3)) (T1.ext s3) upd_same
  refine ⟨_, hσ, t, dx, _, rfl, ho, rfl, args H1 _ ?_⟩
  refine ⟨t, A, B, En, n, v, r, rfl, hO1, typedI_dq (dq_ext e1 fn), typedI_dq (dq_ext e1 fv), ?_⟩
  rcases bad with ⟨hb, rfl, rfl⟩ | ⟨m, rfl, hm, hb⟩
  · exact .inl ⟨hb, fun d nd => ⟨d, _, _, _, rfl, upd_same, .inl ⟨rfl, rfl, rfl⟩, fun p np => fin (Same.refl _) d _ nd p np⟩⟩
  refine .inr ⟨m, rfl, hm, ?_⟩
  rcases hb with ⟨hb, rfl, rfl⟩ | ⟨z, rfl, z1, z2, sp, hc, rfl, rfl⟩
  · exact .inl ⟨hb, fun d nd => ⟨d, _, _, _, rfl, upd_same, .inr (.inr ⟨rfl, rfl, rfl⟩), fun p np => fin (Same.refl _) d _ nd p np⟩⟩
  refine .inr ⟨z, rfl, z1, z2, ?_⟩
  rcases chk_bad (K := K) (dq_ext e1 fr) hc with ⟨hb, rfl⟩ | ⟨p0, xs, bs, i0, h1, h2, h3, h4, h5, rfl⟩
  · exact .inl ⟨hb, fun d nd => ⟨d, _, _, _, rfl, upd_same, .inr (.inl ⟨rfl, rfl, rfl⟩), fun p np => fin (Same.refl _) d _ nd p np⟩⟩
  · exact .inr (.inl ⟨p0, xs, bs, i0, h1, h2, h3, h4, h5, fun H2 d s2 nd => ⟨d, _, _, _, rfl, upd_same, .inr (.inl ⟨rfl, rfl, rfl⟩), fun p np => fin s2 d _ nd p np⟩⟩)
theorem lam_rn {T : List (Addr × Str)} (M : TxCm K mg) {CL : Addr} {i : Nat} {t : Addr} {txt nm : Str} {targs : TA} {σ : L2.St} {H : Hp} {Q : VK} {v r x : V} {dv dr : PyData} (hT : LamX.Tabs T H) (hσ : σ[i]? = some (some (.ref t))) (hO : LoopAt CL H t txt) (hg : goodText txt = true)
    (fv : Dq H v dv) (fr : Dq H r dr) (args : ∀ (H1 : Hp) (R : List V → Hp → Prop), R [v, r] H1 → targs σ H1 R) (bad : RnBad v dr nm x)
    (q : ∀ (H1 : Hp) (p : Addr), LamX.ExtN H H1 → LamX.Tabs T H1 → H1 p = some (.lst [.str nm, x, .bl true]) → Q (.ref p) H1) :
    LamX.tLam T (TCame M) (fun E => tMeth CL "run" (spLN K CL M.U.k.eS.C M.U.k.eR.C) [] E (tVar i) targs) σ H Q := by
  refine ⟨hT, fun H1 e1 T1 => ?_⟩
  have hO1 := hO.ext e1
  obtain ⟨dx, pr, pe, po, pq, ho, _⟩ := id hO1
  have fin : ∀ {H2 : Hp} (s2 : Same H1 H2) (d : Addr) (fs : List (Str × V)), H2 d = none → ∀ p, (upd H2 d (.xd fs)) p = none → Q (.ref p) (upd (upd H2 d (.xd fs)) p (.lst [.str nm, x, .bl true])) := fun {H2} s2 d fs nd p np => by
    have s3 := Same.trans s2 (Same.trans (same_new (o := .xd fs) nd) (same_new (o := .lst [.str nm, x, .bl true]) np))
    exact q _ p (e1.trans (ext_same s3)) (T1.ext s3) upd_same
  refine ⟨_, hσ, t, dx, _, rfl, ho, lf_no _ _ _ _ _ (by decide +kernel) (by decide +kernel) (by decide +kernel) (by decide +kernel) (by decide +kernel), args H1 _ ?_⟩
  refine ⟨t, txt, v, r, rfl, hO1, hg, typedI_dq (dq_ext e1 fv), ?_⟩
  rcases bad with ⟨hb, rfl, rfl⟩ | ⟨z, rfl, z1, z2, sp, hc, rfl, rfl⟩
  · exact .inl ⟨hb, fun d nd => ⟨d, _, _, _, rfl, upd_same, .inr (.inr ⟨rfl, rfl, rfl⟩), fun p np => fin (Same.refl _) d _ nd p np⟩⟩
  refine .inr ⟨z, rfl, z1, z2, ?_⟩
  rcases chk_bad (K := K) (dq_ext e1 fr) hc with ⟨hb, rfl⟩ | ⟨p0, xs, bs, i0, h1, h2, h3, h4, h5, rfl⟩
  · exact .inl ⟨hb, fun d nd => ⟨d, _, _, _, rfl, upd_same, .inr (.inl ⟨rfl, rfl, rfl⟩), fun p np => fin (Same.refl _) d _ nd p np⟩⟩
  · exact .inr (.inl ⟨p0, xs, bs, i0, h1, h2, h3, h4, h5, fun H2 d s2 nd => ⟨d, _, _, _, rfl, upd_same, .inr (.inl ⟨rfl, rfl, rfl⟩), fun p np => fin s2 d _ nd p np⟩⟩)
/-! ### odd sizes and items -/
def OdV (lo : Int) (j : Addr) (H : Hp) (v : V) : Prop := ∃ d, Dq (Hj j H) v d ∧ btw lo 1000 v = false ∧ Sw 30 2 d
theorem OdV.off {lo : Int} {j : Addr} {H H' : Hp} {v : V} (s : Off j H H') (h : OdV lo j H v) : OdV lo j H' v := let ⟨d, a, b⟩ := h; ⟨d, a.same (hj_off s), b⟩
theorem odd1 {H : Hp} {j : Addr} {i : Nat} {x : V} {t l : Addr} (ht : Hj j H t = some (.tup [.int 2])) (hl : Hj j H l = some (.lst [])) (hx : ([.non, .int 0, .int (-1), .bl true, .str "3", .ref t, .int 1001, .ref l, .int 10000000000000000000] : List V)[i]? = some x) : OdV 1 j H x := by
  match i, hx with
  | 0, hx => cases (Option.some.inj hx); exact ⟨_, .non, rfl, by decide +kernel, by decide +kernel, by decide +kernel, by decide +kernel⟩
  | 1, hx => cases (Option.some.inj hx); exact ⟨_, .int 0, by decide, by decide +kernel, by decide +kernel, by decide +kernel, by decide +kernel⟩
  | 2, hx => cases (Option.some.inj hx); exact ⟨_, .int (-1), by decide, by decide +kernel, by decide +kernel, by decide +kernel, by decide +kernel⟩
  | 3, hx => cases (Option.some.inj hx); exact ⟨_, .bl true, rfl, by decide +kernel, by decide +kernel, by decide +kernel, by decide +kernel⟩
  | 4, hx => cases (Option.some.inj hx); exact ⟨_, .str "3", rfl, by decide +kernel, by decide +kernel, by decide +kernel, by decide +kernel⟩
  | 5, hx => cases (Option.some.inj hx); exact ⟨_, .tup ht (.cons (.int 2) .nil), rfl, by decide +kernel, by decide +kernel, by decide +kernel, by decide +kernel⟩
  | 6, hx => cases (Option.some.inj hx); exact ⟨_, .int 1001, by decide, by decide +kernel, by decide +kernel, by decide +kernel, by decide +kernel⟩
  | 7, hx => cases (Option.some.inj hx); exact ⟨_, .lst hl .nil, rfl, by decide +kernel, by decide +kernel, by decide +kernel, by decide +kernel⟩
  | 8, hx => cases (Option.some.inj hx); exact ⟨_, .int 10000000000000000000, by decide, by decide +kernel, by decide +kernel, by decide +kernel, by decide +kernel⟩
theorem low1 {H : Hp} {j : Addr} {i : Nat} {x : V} {t l : Addr} (ht : Hj j H t = some (.tup [])) (hl : Hj j H l = some (.dK [])) (hx : ([.non, .int (-1), .bl false, .str "0", .int 1001, .ref t, .ref l, .int 10000000000000000000] : List V)[i]? = some x) : OdV 0 j H x := by
  match i, hx with
  | 0, hx => cases (Option.some.inj hx); exact ⟨_, .non, rfl, by decide +kernel, by decide +kernel, by decide +kernel, by decide +kernel⟩
  | 1, hx => cases (Option.some.inj hx); exact ⟨_, .int (-1), by decide, by decide +kernel, by decide +kernel, by decide +kernel, by decide +kernel⟩
  | 2, hx => cases (Option.some.inj hx); exact ⟨_, .bl false, rfl, by decide +kernel, by decide +kernel, by decide +kernel, by decide +kernel⟩
  | 3, hx => cases (Option.some.inj hx); exact ⟨_, .str "0", rfl, by decide +kernel, by decide +kernel, by decide +kernel, by decide +kernel⟩
  | 4, hx => cases (Option.some.inj hx); exact ⟨_, .int 1001, by decide, by decide +kernel, by decide +kernel, by decide +kernel, by decide +kernel⟩
  | 5, hx => cases (Option.some.inj hx); exact ⟨_, .tup ht .nil, rfl, by decide +kernel, by decide +kernel, by decide +kernel, by decide +kernel⟩
  | 6, hx => cases (Option.some.inj hx); exact ⟨_, .dct hl, rfl, by decide +kernel, by decide +kernel, by decide +kernel, by decide +kernel⟩
  | 7, hx => cases (Option.some.inj hx); exact ⟨_, .int 10000000000000000000, by decide, by decide +kernel, by decide +kernel, by decide +kernel, by decide +kernel⟩
theorem sw_nat {n : Nat} (h : n ≤ 1000) : Sw 30 2 (.int (n : Nat)) := (sw_int (by rw [Int.natAbs_natCast]; omega) (SH.num_le (by omega))).mono (by decide) (by decide)
/-! ### rows that the law compares -/
def rowD (nm : Str) (d : PyData) : PyData := .list [.str nm, d, .bool true]
theorem row_sw {nm : Str} {d : PyData} (hn : nm = "InvalidItems" ∨ nm = "InvalidSize" ∨ nm = "InvalidReplies") (h : Sw 30 2 d) : Sw 98 3 (rowD nm d) := by
  refine (sw_lst (n := 30) (k := 2) fun x hx => ?_).mono (by show 32 * 3 + 2 ≤ 98; decide) (by decide)
  simp only [List.mem_cons, List.not_mem_nil, or_false] at hx
  rcases hx with rfl | rfl | rfl
  · rcases hn with rfl | rfl | rfl <;> exact ⟨by decide +kernel, by decide +kernel, by decide +kernel, by decide +kernel⟩
  · exact h
  · exact (sw_bl true).mono (by decide) (by decide)
theorem rows_sw {dL dO dS : PyData} (h1 : Sw 30 2 dL) (h2 : Sw 30 2 dO) (h3 : Sw 30 2 dS) : Sw 1000 64 (.list [rowD "InvalidItems" dL, rowD "InvalidSize" dO, rowD "InvalidReplies" dS, rowD "InvalidSize" dO, rowD "InvalidReplies" dS]) := by
  refine (sw_lst (n := 98) (k := 3) fun x hx => ?_).mono (by show 100 * 5 + 2 ≤ 1000; decide) (by decide)
  simp only [List.mem_cons, List.not_mem_nil, or_false] at hx
  rcases hx with rfl | rfl | rfl | rfl | rfl
  · exact row_sw (.inl rfl) h1
  · exact row_sw (.inr (.inl rfl)) h2
  · exact row_sw (.inr (.inr rfl)) h3
  · exact row_sw (.inr (.inl rfl)) h2
  · exact row_sw (.inr (.inr rfl)) h3
/-! ### runs -/
theorem idx_at (r : List Bool) : ∀ n, (List.replicate n true ++ false :: r).findIdx? (fun b => !b) = some n
  | 0 => by simp [List.findIdx?_cons]
  | n + 1 => by
    rw [List.replicate_succ, List.cons_append, List.findIdx?_cons, idx_at r n]
    simp
theorem chk_at {w n e : Nat} (hn : n ≤ 50) : chkD w (.tuple (List.replicate n (.tuple [.int (w : Nat), .bool false]) ++ [.tuple [.int ((w : Int) + 1 + (e : Int)), .bool false], .tuple [.int 0, .bool false]])) = some (some n) := by
  show (if 100 < (List.replicate n _ ++ [_, _]).length then some none else ((List.map (repD w) (List.replicate n _ ++ [_, _])).findIdx? fun b => !b).map some) = some (some n)
  rw [if_neg (by rw [List.length_append, List.length_replicate]; simp; omega), List.map_append, List.map_replicate]
  have e1 : repD w (.tuple [.int (w : Nat), .bool false]) = true := decide_eq_true (show (0 : Int) ≤ (w : Int) ∧ (w : Int) ≤ (w : Int) from ⟨by omega, by omega⟩)
  have e2 : repD w (.tuple [.int ((w : Int) + 1 + (e : Int)), .bool false]) = false := decide_eq_false (show ¬ ((0 : Int) ≤ (w : Int) + 1 + (e : Int) ∧ (w : Int) + 1 + (e : Int) ≤ (w : Int)) from fun z => by omega)
  rw [e1, List.map_cons, e2, idx_at]
  rfl
theorem rps_rep {H : Hp} {a : Addr} {c : Nat} {b : Bool} (h : H a = some (.tup [.int c, .bl b])) : ∀ k, Rps H (List.replicate k [V.ref a]).flatten (List.replicate k (c, b))
  | 0 => .nil
  | k + 1 => .cons (r := (c, b)) h (rps_rep h k)
theorem Rps.app {H : Hp} : ∀ {xs ys rs ss}, Rps H xs rs → Rps H ys ss → Rps H (xs ++ ys) (rs ++ ss)
  | _, _, _, _, .nil, b => b
  | _, _, _, _, .cons a t, b => .cons a (t.app b)
theorem Rps.drop {H : Hp} : ∀ {xs rs} (k : Nat), Rps H xs rs → Rps H (xs.drop k) (rs.drop k)
  | _, _, 0, h => h
  | _, _, _ + 1, .nil => .nil
  | _, _, k + 1, .cons _ t => t.drop k
theorem al_zero (A B E : Str) (z : Int) (hE : E = "empty") : ∀ n, allowsU A B E z 0 (List.replicate n (0, false)) = true
  | 0 => rfl
  | n + 1 => by
    rw [List.replicate_succ, allowsU, if_pos ⟨rfl, by rw [hE]; rfl⟩]
    exact al_zero A B E z hE n
def far : List (Nat × Bool) := List.replicate 2 (1000, false) ++ List.replicate 98 (0, false)
theorem al_far : allowsU "short" "prompt" "empty" 1000 1000 (far.drop 1) = true := by
  have e : far.drop 1 = (1000, false) :: List.replicate 98 (0, false) := rfl
  rw [e, allowsU, if_pos ⟨by decide +kernel, by decide +kernel⟩]
  exact al_zero _ _ _ _ rfl 98
theorem al_far2 : allowsU "short" "prompt" "empty" 1 0 (far.drop 2) = true := al_zero _ _ _ _ rfl 98
theorem run_far : (runM 1000 (ordsR txS) (ordsE txS) far).x.pieces.length = 2 := by
  have e : far = [(1000, false), (1000, false), (0, false)] ++ List.replicate 97 (0, false) := rfl
  have h : (runM 1000 (ordsR txS) (ordsE txS) [(1000, false), (1000, false), (0, false)]).st = true ∧ (runM 1000 (ordsR txS) (ordsE txS) [(1000, false), (1000, false), (0, false)]).x.pieces.length = 2 := by decide +kernel
  rw [e]
  unfold runM at h ⊢
  rw [List.foldl_append, runM_stop h.1]
  exact h.2
theorem ask_step (s : RS) (h : s.st = false) : stepM 1 (ordsR "ask") (ordsE "ask") s (0, false) = ⟨s.x, s.f, s.u + 1, false⟩ := by
  have e : ∀ (held : List Int) (x : RP), ansM 1 (ordsR "ask") (ordsE "ask") held false x = (x, false) := fun held x => by
    have h1 : ordsR "ask" = [(("" : Str), ("ask" : Str))] := by decide +kernel
    have h2 : ordsE "ask" = [] := by decide +kernel
    have hp : perfM 1 held "ask" x = x := by
      unfold perfM
      rw [if_neg (by decide +kernel), if_neg (by decide +kernel), if_neg (by decide +kernel), if_neg (by decide +kernel)]
    have h3 : runW 1 held false [(("" : Str), ("ask" : Str))] x = (x, false) := by
      unfold runW
      rw [if_pos (show passM 1 held false "" x.rest = true from if_pos rfl), if_neg (by decide +kernel), if_neg (by decide +kernel), hp]
      rfl
    rw [h1, h2]
    unfold ansM
    rw [h3]
    rfl
  unfold stepM
  rw [if_neg (by rw [h]; decide), e]
  rfl
theorem ask_run : ∀ (n : Nat) (s : RS), s.st = false → (List.replicate n (0, false)).foldl (stepM 1 (ordsR "ask") (ordsE "ask")) s = ⟨s.x, s.f, s.u + n, false⟩
  | 0, s, h => by
    obtain ⟨x, f, u, st⟩ := s
    cases h
    rfl
  | n + 1, s, h => by
    rw [List.replicate_succ, List.foldl_cons, ask_step s h, ask_run n _ rfl]
    show RS.mk s.x s.f (s.u + 1 + n) false = _
    rw [Nat.add_assoc, Nat.add_comm 1 n]
theorem run_ask : runM 1 (ordsR "ask") (ordsE "ask") (far.drop 2) = ⟨⟨[], []⟩, 0, 98, false⟩ := by
  have e : far.drop 2 = List.replicate 98 (0, false) := rfl
  unfold runM
  rw [e, ask_run 98 _ rfl]
theorem ask_good : goodText "ask" = true := by decide +kernel
/-- an answer without pieces -/
theorem ran_dq {H : Hp} {q : Addr} {s : RS} (h : Ran H q s) (e : s.x.pieces = []) : Dq H (.ref q) (.tuple [.tuple [], .int (s.u : Nat), .bool s.st]) := by
  obtain ⟨pp, vs, h1, h2, h3⟩ := h
  rw [e] at h3
  cases h3
  exact .tup h1 (.cons (.tup h2 .nil) (.cons (.int _) (.cons (.bl _) .nil)))
end
end My

namespace My
open PySem L2 Cm LM EM Gd RpA SkT Sn IsX
abbrev sRight : Stmt := top 47
abbrev NR : List Str := ["_law_jar_here", "_law_mine", "_law_tap", "_law_bad_here", "_law_spot", "_law_odd", "_law_low", "_law_seen", "_law_due", "_law_wide", "_law_at", "_law_many", "_law_far", "_law_told_here"]
theorem scRight : FnScope NR ["_law_jar_here"] (defScope sRight) := ⟨rfl, rfl, rfl, by decide +kernel, rfl, by decide +kernel, by decide +kernel⟩
structure TxR (K : PySem.W.Frag) (mg : Str → Option Value) where
  N : TxN K mg
  C : TxCm K mg
  M : TxSm K mg
  eU : M.U = C.U
  eK : C.U.k = N.k
  eT : M.T = N.T
  J : TxtJ mg
  repr : mg "repr" = none
  sip : Df K mg "_law_sip" sSip ["_law_jar_here", "_law_many"]
  frm : Df K mg "_law_from" sFrom ["_law_jar_here", "_law_things"]
  bad : Df K mg "_law_bad" sBad ["_law_jar_here"]
section
variable {P : Program} {w : World} {K : PySem.W.Frag} {mg : Str → Option Value} {base : Heap}
theorem le1000 : 1000 ≤ sizeLine := szl (Nat.le_refl _)
theorem ok_right {f cR PR : Addr} {fd : FuncData} (F : Fun K "_law_right" "_law_right" sRight f fd) (R : TxR K mg) (hcd : fd.code = .ref cR) (sm : ∃ ob, base.get? sysModules = some ob) (TB : LamX.TabB base mg cR PR) : Gd.FnG P w K mg base CX0 12 f fd ["_law_jar_here"] (spRight PR) := by
  have GU : FnOk P w K mg base (L2.CX P w) 4 R.C.U.al.f R.C.U.al.fd ["self", "items", "size", "replies"] (spUA K R.C.U.C R.C.U.eI.C R.C.U.k.eS.C R.C.U.k.eR.C) := ok_ua R.C.U
  have GN : FnOk P w K mg base (L2.CX P w) 6 R.N.ln.f R.N.ln.fd ["self", "size", "replies"] (spLN K R.N.T.C R.C.U.k.eS.C R.C.U.k.eR.C) := by
    rw [R.eK]
    exact ok_ln R.N
  have GL : FnOk P w K mg base CX0 6 R.M.sl.f R.M.sl.fd [] (spSL R.N.T.C) := by
    rw [← R.eT]
    exact ok_sl R.M
  have GS : FnOk P w K mg base CX0 4 R.M.ss.f R.M.ss.fd [] (spSS R.C.U.C) := by
    rw [← R.eU]
    exact ok_ss R.M
  have GB : FnOk P w K mg base CX0 3 R.bad.f R.bad.fd ["_law_jar_here"] spBad := ok_bad R.J R.sip R.frm R.bad.F
  have GF : FnOk P w K mg base CX0 2 R.frm.f R.frm.fd ["_law_jar_here", "_law_things"] (spFrom K) := ok_from R.frm.F R.J ⟨R.sip.g, R.sip.k⟩ R.sip.F R.sip.b
  have GP : FnOk P w K mg base CX0 1 R.sip.f R.sip.fd ["_law_jar_here", "_law_many"] spSip := ok_sip R.sip.F R.J
  have GM : FnOk P w K mg base (L2.CX P w) 4 R.N.T.fI R.N.T.fdI ["self", "text"] (spLI K R.N.T.C R.N.T.E.C) := ok_li R.N.T
  obtain ⟨ob, sm⟩ := sm
  obtain ⟨oc, od, kV, doc, pm, an, cdv0, ct, osl, efd, lkC, hcgC⟩ := R.C.cm.F.ex
  have bC := R.C.cm.b
  rw [efd] at bC lkC
  refine Gd.okG F scRight (fun vs H Q E h => ?_) (fun cdv A outer s H vs Q E _ _ ecd hgd hr h => ?_)
  · obtain ⟨j, rfl, _⟩ := h
    rfl
  · obtain ⟨j, rfl, hJ, hT, k⟩ := h
    have ec : cdv = .ref cR := ecd.symm.trans hcd
    subst ec
    have hr1 : Room 1 _ := hr.mono (by decide)
    have hr2 : Room 2 _ := hr.mono (by decide)
    have hr3 : Room 3 _ := hr.mono (by decide)
    have hr4 : Room 4 _ := hr.mono (by decide)
    have hr5 : Room 5 _ := hr.mono (by decide)
    have hr6 : Room 6 _ := hr.mono (by decide)
    have hr9 : Room 9 _ := hr.mono (by decide)
    have hu : ((cxOf CX0 P w K mg base NR "_law_right" (defScope sRight) f (.ref cR) A outer s H E).nox).A.units + 100 < cLine := by
      have := hr.un
      show (A.deeper _).units + 100 < cLine
      omega
    have lam : ∀ {X : Cx} {params : Arguments} {body : Expr} {scope : Scope} {t : XK → L2.TE} {p lpos pos : Pos} (eX : X = (cxOf CX0 P w K mg base NR "_law_right" (defScope sRight) f (.ref cR) A outer s H E).nox) (L : LamX.LamS X.env.scope scope) (hdef : defaultsOf params X.env = ([], []))
        (hbind : ∀ (q : Str) (cl : List (Str × Addr)) (pm cv ctv : Value), bindArgs (PySem.W.kla_fn "<lambda>" q params body scope cl pm cv ctv) ⟨[], []⟩ = pure [])
        (hbody : ∀ (A : Around) (outer : List Env) (s : Shared) (H : Hp) (E : XK) (f c' : Addr), Room 7 (A.deeper (LamX.lamEnv X scope s.heap.objs.size f c')) → PE (LamX.lamCx X A outer s H E scope f c') body (t E)),
        PE X (.Call (.Name "_law_came" p) [.Lambda params body scope lpos] [] pos) (LamX.tLam [(PR, qLam)] (TCame R.C) t) := by
      intro X params body scope t p lpos pos eX L hdef hbind hbody
      subst eX
      exact LamX.pe_lamcall (k := 7) rfl R.C.cm.g R.C.cm.k lkC hcgC bC scCame rfl (.inl rfl) (came_gives (X := (cxOf CX0 P w K mg base NR "_law_right" (defScope sRight) f (.ref cR) A outer s H E).nox) R.C) TB rfl (List.mem_singleton.mpr rfl) (fun q hq _ => by rw [List.mem_singleton.mp hq]; rfl) hr9 L hdef hbind hbody
    refine ⟨_, (pss_cons (ps_asg (pe_tup (pa_cons (pe_call0 GL hr6 rfl R.M.sl.g R.M.sl.k R.M.sl.b .nil pass0) (pa_cons (pe_call0 GS hr4 rfl R.M.ss.g R.M.ss.k R.M.ss.b .nil pass0) pa_nil))) (pg_tup rfl (pgs_cons (pg_name (i := 1) scRight.nd rfl (.inr rfl)) (pgs_cons (pg_name (i := 2) scRight.nd rfl (.inr rfl)) pgs_nil)))) (pss_cons (ps_asg (pe_call GB hr3 rfl R.bad.g R.bad.k R.bad.b .nil pass0 (pa_cons (pv 0) pa_nil)) (pg_tup rfl (pgs_cons (pg_name (i := 3) scRight.nd rfl (.inr rfl)) (pgs_cons (pg_name (i := 4) scRight.nd rfl (.inl rfl)) pgs_nil)))) (pss_cons (ps_set (i := 5) scRight.nd rfl (.inr rfl) (pe_call GF hr2 rfl R.frm.g R.frm.k R.frm.b .nil pass0 (pa_cons (pv 0) (pa_cons (pe_lst (pa_cons pe_non (pa_cons pe_int (pa_cons (pe_un un_neg pe_int) (pa_cons pe_bl (pa_cons pe_str (pa_cons (pe_tup (pa_cons pe_int pa_nil)) (pa_cons pe_int (pa_cons (pe_lst pa_nil) (pa_cons (pe_op op_pow pe_int pe_int) pa_nil)))))))))) pa_nil)))) (pss_cons (ps_set (i := 6) scRight.nd rfl (.inr rfl) (pe_call GF hr2 rfl R.frm.g R.frm.k R.frm.b .nil pass0 (pa_cons (pv 0) (pa_cons (pe_lst (pa_cons pe_non (pa_cons (pe_un un_neg pe_int) (pa_cons pe_bl (pa_cons pe_str (pa_cons pe_int (pa_cons (pe_tup pa_nil) (pa_cons pe_dnewK (pa_cons (pe_op op_pow pe_int pe_int) pa_nil))))))))) pa_nil)))) (pss_cons (ps_set (i := 7) scRight.nd rfl (.inl rfl) (pe_lst (pa_cons (lam (t := fun E => tMeth R.C.U.C "allows" (spUA K R.C.U.C R.C.U.eI.C R.C.U.k.eS.C R.C.U.k.eR.C) [] E (tVar 2) (tCons (tVar 6) (tCons (tVar 5) (tCons (tVar 3) tNil)))) rfl (LamX.lamS_by (sc := defScope sRight) (by decide +kernel)) rfl (fun _ _ _ _ _ => rfl) (fun A outer s H E f c' hrl => pe_meth (pv 2) R.C.U.cl R.C.U.al.m GU (hrl.mono (by decide)) R.C.U.al.b .nil (passes_call (takes_of rfl rfl rfl rfl) fun _ _ _ _ z => z) (pa_cons (pv 6) (pa_cons (pv 5) (pa_cons (pv 3) pa_nil))))) pa_nil))) (pss_cons (ps_expr (pe_bm PySem.F.plainAttrs_list PySem.F.slot_list_append PySem.F.type_list_append mt_append (pv 7) (pa_cons (lam (t := fun E => tMeth R.C.U.C "allows" (spUA K R.C.U.C R.C.U.eI.C R.C.U.k.eS.C R.C.U.k.eR.C) [] E (tVar 2) (tCons (tC (.int 3)) (tCons (tVar 5) (tCons (tVar 3) tNil)))) rfl (LamX.lamS_by (sc := defScope sRight) (by decide +kernel)) rfl (fun _ _ _ _ _ => rfl) (fun A outer s H E f c' hrl => pe_meth (pv 2) R.C.U.cl R.C.U.al.m GU (hrl.mono (by decide)) R.C.U.al.b .nil (passes_call (takes_of rfl rfl rfl rfl) fun _ _ _ _ z => z) (pa_cons pe_int (pa_cons (pv 5) (pa_cons (pv 3) pa_nil))))) pa_nil))) (pss_cons (ps_expr (pe_bm PySem.F.plainAttrs_list PySem.F.slot_list_append PySem.F.type_list_append mt_append (pv 7) (pa_cons (lam (t := fun E => tMeth R.C.U.C "allows" (spUA K R.C.U.C R.C.U.eI.C R.C.U.k.eS.C R.C.U.k.eR.C) [] E (tVar 2) (tCons (tC (.int 3)) (tCons (tC (.int 2)) (tCons (tVar 3) tNil)))) rfl (LamX.lamS_by (sc := defScope sRight) (by decide +kernel)) rfl (fun _ _ _ _ _ => rfl) (fun A outer s H E f c' hrl => pe_meth (pv 2) R.C.U.cl R.C.U.al.m GU (hrl.mono (by decide)) R.C.U.al.b .nil (passes_call (takes_of rfl rfl rfl rfl) fun _ _ _ _ z => z) (pa_cons pe_int (pa_cons pe_int (pa_cons (pv 3) pa_nil))))) pa_nil))) (pss_cons (ps_expr (pe_bm PySem.F.plainAttrs_list PySem.F.slot_list_append PySem.F.type_list_append mt_append (pv 7) (pa_cons (lam (t := fun E => tMeth R.N.T.C "run" (spLN K R.N.T.C R.C.U.k.eS.C R.C.U.k.eR.C) [] E (tVar 1) (tCons (tVar 5) (tCons (tVar 3) tNil))) rfl (LamX.lamS_by (sc := defScope sRight) (by decide +kernel)) rfl (fun _ _ _ _ _ => rfl) (fun A outer s H E f c' hrl => pe_meth (pv 1) R.N.T.cl R.N.ln.m GN (hrl.mono (by decide)) R.N.ln.b .nil (passes_call (takes_of rfl rfl rfl rfl) fun _ _ _ _ z => z) (pa_cons (pv 5) (pa_cons (pv 3) pa_nil)))) pa_nil))) (pss_cons (ps_expr (pe_bm PySem.F.plainAttrs_list PySem.F.slot_list_append PySem.F.type_list_append mt_append (pv 7) (pa_cons (lam (t := fun E => tMeth R.N.T.C "run" (spLN K R.N.T.C R.C.U.k.eS.C R.C.U.k.eR.C) [] E (tVar 1) (tCons (tC (.int 5)) (tCons (tVar 3) tNil))) rfl (LamX.lamS_by (sc := defScope sRight) (by decide +kernel)) rfl (fun _ _ _ _ _ => rfl) (fun A outer s H E f c' hrl => pe_meth (pv 1) R.N.T.cl R.N.ln.m GN (hrl.mono (by decide)) R.N.ln.b .nil (passes_call (takes_of rfl rfl rfl rfl) fun _ _ _ _ z => z) (pa_cons pe_int (pa_cons (pv 3) pa_nil)))) pa_nil))) (pss_cons (ps_set (i := 8) scRight.nd rfl (.inl rfl) (pe_lst (pa_cons (pe_lst (pa_cons pe_str (pa_cons (pv 6) (pa_cons pe_bl pa_nil)))) (pa_cons (pe_lst (pa_cons pe_str (pa_cons (pv 5) (pa_cons pe_bl pa_nil)))) (pa_cons (pe_lst (pa_cons pe_str (pa_cons (pv 4) (pa_cons pe_bl pa_nil)))) pa_nil))))) (pss_cons (ps_if (pt_cmpR op_ne (pe_callB (call_reprA hgd (by omega) sm) (by rfl) R.repr (by decide +kernel) (pa_cons (pv 7) pa_nil)) (pe_callB (call_reprA hgd (by omega) sm) (by rfl) R.repr (by decide +kernel) (pa_cons (pe_op op_cat (pv 8) (pe_lst (pa_cons (pe_lst (pa_cons pe_str (pa_cons (pv 5) (pa_cons pe_bl pa_nil)))) (pa_cons (pe_lst (pa_cons pe_str (pa_cons (pv 4) (pa_cons pe_bl pa_nil)))) pa_nil)))) pa_nil)) (nomark _)) (pss_one (ps_ret pe_bl)) pss_nil) (pss_cons (ps_asg (pe_tup (pa_cons (pe_op op_add pe_int (pe_call GP hr1 rfl R.sip.g R.sip.k R.sip.b .nil pass0 (pa_cons (pv 0) (pa_cons pe_int pa_nil)))) (pa_cons (pe_call GP hr1 rfl R.sip.g R.sip.k R.sip.b .nil pass0 (pa_cons (pv 0) (pa_cons pe_int pa_nil))) pa_nil))) (pg_tup rfl (pgs_cons (pg_name (i := 9) scRight.nd rfl (.inr rfl)) (pgs_cons (pg_name (i := 10) scRight.nd rfl (.inl rfl)) pgs_nil)))) (pss_cons (ps_set (i := 11) scRight.nd rfl (.inr rfl) (pe_op op_catH (pe_op RwR.op_repN (pe_tup (pa_cons (pe_tup (pa_cons (pv 9) (pa_cons pe_bl pa_nil))) pa_nil)) (pv 10)) (pe_tup (pa_cons (pe_tup (pa_cons (pe_op op_add (pe_op op_add (pv 9) pe_int) (pe_call GP hr1 rfl R.sip.g R.sip.k R.sip.b .nil pass0 (pa_cons (pv 0) (pa_cons pe_int pa_nil)))) (pa_cons pe_bl pa_nil))) (pa_cons (pe_tup (pa_cons pe_int (pa_cons pe_bl pa_nil))) pa_nil))))) (pss_cons (ps_if (pt_cmpR op_ne (pe_callB (call_reprA hgd (by omega) sm) (by rfl) R.repr (by decide +kernel) (pa_cons (lam (t := fun E => tMeth R.N.T.C "run" (spLN K R.N.T.C R.C.U.k.eS.C R.C.U.k.eR.C) [] E (tVar 1) (tCons (tVar 9) (tCons (tVar 11) tNil))) rfl (LamX.lamS_by (sc := defScope sRight) (by decide +kernel)) rfl (fun _ _ _ _ _ => rfl) (fun A outer s H E f c' hrl => pe_meth (pv 1) R.N.T.cl R.N.ln.m GN (hrl.mono (by decide)) R.N.ln.b .nil (passes_call (takes_of rfl rfl rfl rfl) fun _ _ _ _ z => z) (pa_cons (pv 9) (pa_cons (pv 11) pa_nil)))) pa_nil)) (pe_callB (call_reprA hgd (by omega) sm) (by rfl) R.repr (by decide +kernel) (pa_cons (pe_lst (pa_cons pe_str (pa_cons (pv 10) (pa_cons pe_bl pa_nil)))) pa_nil)) (nomark _)) (pss_one (ps_ret pe_bl)) pss_nil) (pss_cons (ps_set (i := 12) scRight.nd rfl (.inl rfl) (pe_op op_catH (pe_op RwR.op_repN (pe_tup (pa_cons (pe_tup (pa_cons pe_int (pa_cons pe_bl pa_nil))) pa_nil)) pe_int) (pe_op RwR.op_repN (pe_tup (pa_cons (pe_tup (pa_cons pe_int (pa_cons pe_bl pa_nil))) pa_nil)) pe_int))) (pss_cons (ps_set (i := 13) scRight.nd rfl (.inl rfl) (pe_lst (pa_cons (pe_meth (pv 2) R.C.U.cl R.C.U.al.m GU hr4 R.C.U.al.b .nil pass_none (pa_cons pe_int (pa_cons pe_int (pa_cons (pe_slice sl_tupH (pv 12) (po_some pe_int) po_none) pa_nil)))) (pa_cons (pe_meth (pv 2) R.C.U.cl R.C.U.al.m GU hr4 R.C.U.al.b .nil pass_none (pa_cons pe_int (pa_cons pe_int (pa_cons (pe_slice sl_tupH (pv 12) (po_some pe_int) po_none) pa_nil)))) (pa_cons (pe_callB call_len_seq (by rfl) R.J.len PySem.boot_len (pa_cons (pe_ix ix_tup (pe_meth (pv 1) R.N.T.cl R.N.ln.m GN hr6 R.N.ln.b .nil pass_none (pa_cons pe_int (pa_cons (pv 12) pa_nil))) pe_int (fun _ _ => rfl)) pa_nil)) pa_nil))))) (C8.pss_cut (ps_expr (pe_bm PySem.F.plainAttrs_list PySem.F.slot_list_append PySem.F.type_list_append mt_append (pv 13) (pa_cons (pe_meth (pv 1) R.N.T.cl R.N.ln.m GN hr6 R.N.ln.b .nil pass_none (pa_cons pe_int (pa_cons (pe_tup pa_nil) pa_nil))) pa_nil))) (pss_one (ps_ret (pe_and (pe_cmpR op_eq (pe_callB (call_reprA hgd (by omega) sm) (by rfl) R.repr (by decide +kernel) (pa_cons (pv 13) pa_nil)) (pe_callB (call_reprA hgd (by omega) sm) (by rfl) R.repr (by decide +kernel) (pa_cons (pe_lst (pa_cons pe_bl (pa_cons pe_bl (pa_cons pe_int (pa_cons (pe_tup (pa_cons (pe_tup pa_nil) (pa_cons pe_int (pa_cons pe_bl pa_nil)))) pa_nil))))) pa_nil)) (nomark _)) (pe_one (pe_cmpR (op_eqD (hu64 hr)) (pe_meth (pe_make R.N.T.MI GM hr5 rfl R.N.T.gC R.N.T.bI .nil pass_none (pa_cons pe_str pa_nil)) R.N.T.cl R.N.ln.m GN hr6 R.N.ln.b .nil pass_none (pa_cons pe_int (pa_cons (pe_slice sl_tupH (pv 12) (po_some pe_int) po_none) pa_nil))) (pe_tup (pa_cons (pe_tup pa_nil) (pa_cons pe_int (pa_cons pe_bl pa_nil)))) (nomark _))))))))))))))))))))))), ?_⟩
    -- mine, tap
    refine ⟨rfl, fun H1 m s1 _ hm => ⟨rfl, fun H2 t s2 _ ht => ⟨(by show 2 ≤ sizeLine; decide), fun q nq => ⟨q, _, rfl, SqT.of upd_same, rfl, _, _, rfl, _, _, rfl, rfl, ?_⟩⟩⟩⟩
    have s3 := same_new (o := .tup [.ref m, .ref t]) nq
    have T3 : Ts PR j H (upd H2 q (.tup [.ref m, .ref t])) := (⟨OffN.refl, hJ, hT⟩ : Ts PR j H H).same (Same.trans s1 (Same.trans s2 s3))
    have hm3 := (hm.same s2).same s3
    have ht3 := ht.same s3
    generalize upd H2 q (.tup [.ref m, .ref t]) = H3 at s3 T3 hm3 ht3 ⊢
    -- bad, spot
    refine ⟨_, rfl, j, rfl, T3.jar, fun H4 vb o4 J4 hb => ?_⟩
    obtain ⟨dB, sp, qb, c1, c2, swB, swS⟩ := hb
    obtain ⟨tb, v3, v4, rfl, htb, q3, q4⟩ : ∃ tb v3 v4, vb = .ref tb ∧ H4 tb = some (.tup [v3, v4]) ∧ Dq (Hj j H4) v3 dB ∧ Dq (Hj j H4) v4 (spD sp) := by
      cases qb with
      | tup h a =>
        cases a with
        | cons a1 a =>
          cases a with
          | cons a2 a =>
            cases a
            exact ⟨_, _, _, rfl, (hj_of h).2, a1, a2⟩
    obtain rfl := dq_sp q4
    refine ⟨tb, _, rfl, SqT.of htb, rfl, _, _, rfl, _, _, rfl, rfl, ?_⟩
    have T4 := T3.off' o4 J4
    have hm4 := hm3.off o4 T3.jar
    have ht4 := ht3.off o4 T3.jar
    clear hm ht hm3 ht3 s3 s1 s2
    -- odd
    refine ⟨_, rfl, ?_⟩
    refine ⟨_, rfl, (by show 1 ≤ sizeLine; decide), fun t1 n1 => ⟨Nat.zero_le _, fun l1 nl1 => ⟨_, _, rfl, rfl, ⟨by decide, by decide, by decide⟩, (by show 9 ≤ sizeLine; decide), fun L nL => ?_⟩⟩⟩
    have u1 := same_new (o := .tup [.int 2]) n1
    have u2 := same_new (o := .lst []) nl1
    have u3 := same_new (o := .lst [.non, .int 0, .int (-1), .bl true, .str "3", .ref t1, .int 1001, .ref l1, .int 10000000000000000000]) nL
    refine ⟨j, L, [.non, .int 0, .int (-1), .bl true, .str "3", .ref t1, .int 1001, .ref l1, .int 10000000000000000000], rfl, J4.same (Same.trans u1 (Same.trans u2 u3)), jar_no (J4.same (Same.trans u1 u2)) nL, SqL.of upd_same, (by show 0 < 9; decide), (by show 9 < 1073741824; decide), fun H5 i5 x5 hx5 o5 J5 => ?_⟩
    have hod : OdV 1 j H5 x5 := odd1 (hj_at (jar_no J4 n1) (o5 _ _ (jar_no J4 n1) (u3 _ _ (u2 _ _ upd_same)))) (hj_at (jar_no (J4.same u1) nl1) (o5 _ _ (jar_no (J4.same u1) nl1) (u3 _ _ upd_same))) hx5
    have o45 : Off j H4 H5 := (Same.off (Same.trans u1 (Same.trans u2 u3))).trans o5
    clear u1 u2 u3 hx5 n1 nl1 nL o5
    -- low
    refine ⟨_, rfl, ?_⟩
    refine ⟨_, rfl, (by show 0 ≤ sizeLine; decide), fun t1 n1 dd ndd => ⟨_, _, rfl, rfl, ⟨by decide, by decide, by decide⟩, (by show 8 ≤ sizeLine; decide), fun L nL => ?_⟩⟩
    have u1 := same_new (o := .tup []) n1
    have u2 := same_new (o := .dK []) ndd
    have u3 := same_new (o := .lst [.non, .int (-1), .bl false, .str "0", .int 1001, .ref t1, .ref dd, .int 10000000000000000000]) nL
    refine ⟨j, L, [.non, .int (-1), .bl false, .str "0", .int 1001, .ref t1, .ref dd, .int 10000000000000000000], rfl, J5.same (Same.trans u1 (Same.trans u2 u3)), jar_no (J5.same (Same.trans u1 u2)) nL, SqL.of upd_same, (by show 0 < 8; decide), (by show 8 < 1073741824; decide), fun H6 i6 x6 hx6 o6 J6 => ?_⟩
    have hlo : OdV 0 j H6 x6 := low1 (hj_at (jar_no J5 n1) (o6 _ _ (jar_no J5 n1) (u3 _ _ (u2 _ _ upd_same)))) (hj_at (jar_no (J5.same u1) ndd) (o6 _ _ (jar_no (J5.same u1) ndd) (u3 _ _ upd_same))) hx6
    have o56 : Off j H5 H6 := (Same.off (Same.trans u1 (Same.trans u2 u3))).trans o6
    clear u1 u2 u3 hx6 n1 ndd nL o6
    have o46 := o45.trans o56
    have T6 := T4.off' o46 J6
    have hm6 := hm4.off o46 J4
    have ht6 := ht4.off o46 J4
    have qB : Dq H6 v3 dB := (q3.same (hj_off o46)).same hj_up
    obtain ⟨dO, qO', hO, swO⟩ := hod.off o56
    have qO : Dq H6 x5 dO := qO'.same hj_up
    obtain ⟨dL, qL', hL, swL⟩ := hlo
    have qL : Dq H6 x6 dL := qL'.same hj_up
    clear hod q3 qO' qL' o45 o56 o46
    -- what came
    refine lam_al R.C T6.tab rfl ht6 qL qO qB (fun H1 Rr r => ⟨_, rfl, _, rfl, _, rfl, r⟩) (.inl ⟨hL, rfl, rfl⟩) fun Hb p1 xb Tb hp1 => ?_
    refine ⟨(by show 1 ≤ sizeLine; decide), fun sq nsq => ?_⟩
    have nqs := new_ne xb nsq
    have st1 := Seen.first xb Tb hp1 ⟨_, _, rfl⟩ nsq
    show tSeq _ _ _ _ (upd Hb sq (.lst [.ref p1]))
    generalize upd Hb sq (.lst [.ref p1]) = Hc at st1 ⊢
    refine ⟨_, rfl, .inl ⟨rfl, _, SqL.of st1.at_⟩, ?_⟩
    refine lam_al R.C st1.tab rfl (ht6.ext st1.ext) (.int 3) (dq_ext st1.ext qO) (dq_ext st1.ext qB) (fun H1 Rr r => ⟨_, rfl, _, rfl, r⟩) (.inr ⟨3, rfl, by decide, .inl ⟨hO, rfl, rfl⟩⟩) fun Hd p2 xd Td hp2 => ?_
    obtain ⟨a2, st2⟩ := st1.step nqs xd Td hp2 ⟨_, _, rfl⟩
    refine ⟨sq, _, _, rfl, rfl, a2, small1000 (by show 1 ≤ 1000; decide), ?_⟩
    refine ⟨_, rfl, .inl ⟨rfl, _, SqL.of st2.at_⟩, ?_⟩
    refine lam_al R.C st2.tab rfl (ht6.ext st2.ext) (.int 3) (.int 2) (dq_ext st2.ext qB) (fun H1 Rr r => ⟨_, rfl, r⟩) (.inr ⟨3, rfl, by decide, .inr ⟨2, rfl, by decide, by decide, sp, c1, rfl, rfl⟩⟩) fun He p3 xe Te hp3 => ?_
    obtain ⟨a3, st3⟩ := st2.step nqs xe Te hp3 ⟨_, _, rfl⟩
    refine ⟨sq, _, _, rfl, rfl, a3, small1000 (by show 2 ≤ 1000; decide), ?_⟩
    refine ⟨_, rfl, .inl ⟨rfl, _, SqL.of st3.at_⟩, ?_⟩
    refine lam_rn R.C st3.tab rfl (hm6.ext st3.ext) txS_good (dq_ext st3.ext qO) (dq_ext st3.ext qB) (fun H1 Rr r => ⟨_, rfl, _, rfl, r⟩) (.inl ⟨hO, rfl, rfl⟩) fun Hf p4 xf Tf hp4 => ?_
    obtain ⟨a4, st4⟩ := st3.step nqs xf Tf hp4 ⟨_, _, rfl⟩
    refine ⟨sq, _, _, rfl, rfl, a4, small1000 (by show 3 ≤ 1000; decide), ?_⟩
    refine ⟨_, rfl, .inl ⟨rfl, _, SqL.of st4.at_⟩, ?_⟩
    refine lam_rn R.C st4.tab rfl (hm6.ext st4.ext) txS_good (.int 5) (dq_ext st4.ext qB) (fun H1 Rr r => ⟨_, rfl, r⟩) (.inr ⟨5, rfl, by decide, by decide, sp, c2, rfl, rfl⟩) fun Hg p5 xg Tg hp5 => ?_
    obtain ⟨a5, st5⟩ := st4.step nqs xg Tg hp5 ⟨_, _, rfl⟩
    refine ⟨sq, _, _, rfl, rfl, a5, small1000 (by show 4 ≤ 1000; decide), ?_⟩
    have st5' : Seen [(PR, qLam)] H6 (upd Hg sq (.lst ((([V.ref p1] ++ [.ref p2]) ++ [.ref p3]) ++ [.ref p4] ++ [.ref p5]))) sq [.ref p1, .ref p2, .ref p3, .ref p4, .ref p5] [[.str "InvalidItems", x6, .bl true], [.str "InvalidSize", x5, .bl true], [.str "InvalidReplies", spV sp, .bl true], [.str "InvalidSize", x5, .bl true], [.str "InvalidReplies", spV sp, .bl true]] := st5
    show tSeq _ _ _ _ (upd Hg sq (.lst ((([V.ref p1] ++ [.ref p2]) ++ [.ref p3]) ++ [.ref p4] ++ [.ref p5])))
    generalize upd Hg sq (.lst ((([V.ref p1] ++ [.ref p2]) ++ [.ref p3]) ++ [.ref p4] ++ [.ref p5])) = Hh at st5' ⊢
    clear st5 st4 st3 st2 st1 a2 a3 a4 a5 hp1 hp2 hp3 hp4 hp5 xb xd xe xf xg Tb Td Te Tf Tg
    have T7 := T6.ext st5'.ext st5'.tab
    have hm7 := hm6.ext st5'.ext
    have ht7 := ht6.ext st5'.ext
    have dqr : DqR Hh [[.str "InvalidItems", x6, .bl true], [.str "InvalidSize", x5, .bl true], [.str "InvalidReplies", spV sp, .bl true], [.str "InvalidSize", x5, .bl true], [.str "InvalidReplies", spV sp, .bl true]] [rowD "InvalidItems" dL, rowD "InvalidSize" dO, rowD "InvalidReplies" (spD sp), rowD "InvalidSize" dO, rowD "InvalidReplies" (spD sp)] :=
      .cons (.cons (.str _) (.cons (dq_ext st5'.ext qL) (.cons (.bl _) .nil))) (.cons (.cons (.str _) (.cons (dq_ext st5'.ext qO) (.cons (.bl _) .nil))) (.cons (.cons (.str _) (.cons (sp_dq sp) (.cons (.bl _) .nil))) (.cons (.cons (.str _) (.cons (dq_ext st5'.ext qO) (.cons (.bl _) .nil))) (.cons (.cons (.str _) (.cons (sp_dq sp) (.cons (.bl _) .nil))) .nil))))
    have hsq := st5'.at_
    have rsq := st5'.row
    clear st5' nqs nsq
    -- due
    refine ⟨_, rfl, (by show 3 ≤ sizeLine; decide), fun d1 nd1 => ⟨_, rfl, (by show 3 ≤ sizeLine; decide), fun d2 nd2 => ⟨_, rfl, (by show 3 ≤ sizeLine; decide), fun d3 nd3 => ⟨(by show 3 ≤ sizeLine; decide), fun D nD => ?_⟩⟩⟩⟩
    have u1 := same_new (o := .lst [.str "InvalidItems", x6, .bl true]) nd1
    have u2 := same_new (o := .lst [.str "InvalidSize", x5, .bl true]) nd2
    have u3 := same_new (o := .lst [.str "InvalidReplies", spV sp, .bl true]) nd3
    have u4 := same_new (o := .lst [.ref d1, .ref d2, .ref d3]) nD
    refine ⟨_, rfl, .ref sq, _, 1000, rfl, .lst (u4 _ _ (u3 _ _ (u2 _ _ (u1 _ _ hsq)))) ((rsq.ext (ext_same (Same.trans u1 (Same.trans u2 (Same.trans u3 u4))))).dq (dqr.ext (ext_same (Same.trans u1 (Same.trans u2 (Same.trans u3 u4)))))), rows_sw swL swO swS, le1000, ?_⟩
    refine ⟨_, rfl, _, rfl, (by show 3 ≤ sizeLine; decide), fun e1 ne1 => ⟨_, rfl, (by show 3 ≤ sizeLine; decide), fun e2 ne2 => ⟨(by show 2 ≤ sizeLine; decide), fun E2 nE2 => ?_⟩⟩⟩
    have u5 := same_new (o := .lst [.str "InvalidSize", x5, .bl true]) ne1
    have u6 := same_new (o := .lst [.str "InvalidReplies", spV sp, .bl true]) ne2
    have u7 := same_new (o := .lst [.ref e1, .ref e2]) nE2
    refine cat (u7 _ _ (u6 _ _ (u5 _ _ upd_same))) upd_same (by show 3 + 2 ≤ sizeLine; decide) fun z nz H8 s8 hz => ?_
    have s78 := Same.trans u1 (Same.trans u2 (Same.trans u3 (Same.trans u4 (Same.trans u5 (Same.trans u6 (Same.trans u7 s8))))))
    have rz : Rows H8 [.ref d1, .ref d2, .ref d3, .ref e1, .ref e2] [[.str "InvalidItems", x6, .bl true], [.str "InvalidSize", x5, .bl true], [.str "InvalidReplies", spV sp, .bl true], [.str "InvalidSize", x5, .bl true], [.str "InvalidReplies", spV sp, .bl true]] :=
      .cons (s8 _ _ (u7 _ _ (u6 _ _ (u5 _ _ (u4 _ _ (u3 _ _ (u2 _ _ upd_same))))))) (.cons (s8 _ _ (u7 _ _ (u6 _ _ (u5 _ _ (u4 _ _ (u3 _ _ upd_same)))))) (.cons (s8 _ _ (u7 _ _ (u6 _ _ (u5 _ _ (u4 _ _ upd_same))))) (.cons (s8 _ _ (u7 _ _ (u6 _ _ upd_same))) (.cons (s8 _ _ (u7 _ _ upd_same)) .nil))))
    refine ⟨.ref z, _, 1000, rfl, .lst hz (rz.dq (dqr.ext (ext_same s78))), rows_sw swL swO swS, le1000, rfl, _, rfl, ?_⟩
    rw [decide_eq_true rfl]
    refine iteF ?_
    have T8 := T7.same s78
    have hm8 := hm7.same s78
    have ht8 := ht7.same s78
    clear rz u1 u2 u3 u4 u5 u6 u7 s8 s78 dqr hsq rsq hz nd1 nd2 nd3 nD ne1 ne2 nE2 nz hm7 ht7 T7 qB qO qL
    -- wide, at
    refine ⟨_, rfl, j, 30, rfl, T8.jar, by decide, by decide, fun H9 e e0 e1' o9 J9 => ⟨_, _, rfl, rfl, _, rfl, j, 6, rfl, J9, by decide, by decide, fun Ha a a0 a1 oa Ja => ⟨(by show 2 ≤ sizeLine; decide), fun q nq => ⟨q, _, rfl, SqT.of upd_same, rfl, _, _, rfl, _, _, rfl, rfl, ?_⟩⟩⟩⟩
    obtain ⟨en, rfl⟩ := Int.eq_ofNat_of_zero_le e0
    obtain ⟨at_, rfl⟩ := Int.eq_ofNat_of_zero_le a0
    have ew : (1 : Int) + (en : Int) = ((1 + en : Nat) : Int) := by omega
    show tSeq _ _ _ [some (.ref j), some (.ref m), some (.ref t), some v3, some (spV sp), some x5, some x6, some (.ref sq), some (.ref D), some (.int ((1 + en : Nat) : Int)), some (.int (at_ : Nat)), none, none, none] (upd Ha q (.tup [.int ((1 + en : Nat) : Int), .int (at_ : Nat)]))
    have w1 : 1 ≤ 1 + en := by omega
    have w2 : 1 + en ≤ 30 := by omega
    have a5 : at_ ≤ 5 := by omega
    generalize 1 + en = wd at w1 w2 ⊢
    clear ew e0 e1' a0 a1
    have s10 := same_new (o := .tup [.int (wd : Nat), .int (at_ : Nat)]) nq
    have o8a := o9.trans oa
    have T9 := (T8.off' o8a Ja).same s10
    have hm9 := (hm8.off o8a T8.jar).same s10
    have ht9 := (ht8.off o8a T8.jar).same s10
    generalize upd Ha q (.tup [.int (wd : Nat), .int (at_ : Nat)]) = Hb at s10 T9 hm9 ht9 ⊢
    clear s10 o8a hm8 ht8 T8 J9 Ja o9 oa nq
    -- many
    refine ⟨_, rfl, (by show 2 ≤ sizeLine; decide), fun b1 m1 => ⟨(by show 1 ≤ sizeLine; decide), fun b2 m2 => ⟨_, rfl, b2, at_, [.ref b1], rfl, rfl, upd_same, by omega, (by show 1 ≤ 1000; decide), fun _ => by omega, fun Hc q3 s3 h3 => ?_⟩⟩⟩
    have u1 := same_new (o := .tup [.int (wd : Nat), .bl false]) m1
    have u2 := same_new (o := .tup [.ref b1]) m2
    have s11 := Same.trans u1 (Same.trans u2 s3)
    have T11 := T9.same s11
    have hb1 := s3 _ _ (u2 _ _ upd_same)
    refine ⟨_, rfl, _, _, rfl, rfl, _, rfl, j, 900, rfl, T11.jar, by decide, by decide, fun Hd x x0 x1 od Jd => ⟨_, _, rfl, rfl, (by show 2 ≤ sizeLine; decide), fun c1' k1 => ⟨(by show 2 ≤ sizeLine; decide), fun c2' k2 => ⟨(by show 2 ≤ sizeLine; decide), fun c3' k3 => ?_⟩⟩⟩⟩
    obtain ⟨ex, rfl⟩ := Int.eq_ofNat_of_zero_le x0
    have v1 := same_new (o := .tup [.int ((wd : Int) + 1 + (ex : Int)), .bl false]) k1
    have v2 := same_new (o := .tup [.int 0, .bl false]) k2
    have v3' := same_new (o := .tup [.ref c1', .ref c2']) k3
    have hqd := od _ _ (tup_no T11.jar h3) h3
    have hbd := od _ _ (tup_no T11.jar hb1) hb1
    refine ⟨q3, c3', _, _, rfl, rfl, v3' _ _ (v2 _ _ (v1 _ _ hqd)), upd_same, Nat.le_of_lt (szM (by simp; omega)), fun He q5 s5 h5 => ?_⟩
    have s12 := Same.trans v1 (Same.trans v2 (Same.trans v3' s5))
    have T12 := (T11.off' od Jd).same s12
    have hm12 := ((hm9.same s11).off od T11.jar).same s12
    have ht12 := ((ht9.same s11).off od T11.jar).same s12
    have dqM : Dq He (.ref q5) (.tuple (List.replicate at_ (.tuple [.int (wd : Nat), .bool false]) ++ [.tuple [.int ((wd : Int) + 1 + (ex : Int)), .bool false], .tuple [.int 0, .bool false]])) :=
      .tup h5 (dqa_app (dqa_rep (.tup (s12 _ _ hbd) (.cons (.int _) (.cons (.bl _) .nil))) at_) (.cons (.tup (s5 _ _ (v3' _ _ (v2 _ _ upd_same))) (.cons (.int _) (.cons (.bl _) .nil))) (.cons (.tup (s5 _ _ (v3' _ _ upd_same)) (.cons (.int _) (.cons (.bl _) .nil))) .nil)))
    clear u1 u2 s3 s11 v1 v2 v3' s5 s12 hqd hbd hb1 h3 h5 T11 hm9 ht9 T9 od Jd m1 m2 k1 k2 k3
    refine lam_rn R.C T12.tab rfl hm12 txS_good (.int (wd : Nat)) dqM (fun H1 Rr r => ⟨_, rfl, _, rfl, r⟩) (.inr ⟨wd, rfl, w1, by omega, some at_, chk_at (by omega), rfl, rfl⟩) fun Hf p6 xf Tf hp6 => ?_
    have swA : Sw 98 3 (rowD "InvalidReplies" (.int (at_ : Nat))) := row_sw (.inr (.inr rfl)) (sw_nat (by omega))
    refine ⟨.ref p6, rowD "InvalidReplies" (.int (at_ : Nat)), 98, rfl, .lst hp6 (.cons (.str _) (.cons (.int _) (.cons (.bl _) .nil))), swA.mono (Nat.le_refl _) (by decide), szl (by decide), ?_⟩
    refine ⟨_, rfl, (by show 3 ≤ sizeLine; decide), fun r1 nr1 => ⟨.ref r1, rowD "InvalidReplies" (.int (at_ : Nat)), 98, rfl, .lst upd_same (.cons (.str _) (.cons (.int _) (.cons (.bl _) .nil))), swA.mono (Nat.le_refl _) (by decide), szl (by decide), rfl, _, rfl, ?_⟩⟩
    rw [decide_eq_true rfl]
    refine iteF ?_
    have s13 := same_new (o := .lst [.str "InvalidReplies", .int (at_ : Nat), .bl true]) nr1
    have T13 := (T12.ext xf Tf).same s13
    have hm13 := (hm12.ext xf).same s13
    have ht13 := (ht12.ext xf).same s13
    generalize upd Hf r1 (.lst [.str "InvalidReplies", .int (at_ : Nat), .bl true]) = Hg at s13 T13 hm13 ht13 ⊢
    clear s13 hp6 dqM T12 hm12 ht12 xf Tf nr1
    -- far
    refine ⟨(by show 2 ≤ sizeLine; decide), fun b1 m1 => ⟨(by show 1 ≤ sizeLine; decide), fun b2 m2 => ⟨b2, 2, _, rfl, rfl, upd_same, by decide, by show 1 ≤ 1000; decide, fun _ => by decide, fun Hc q1 s1 h1 => ?_⟩⟩⟩
    have u1 := same_new (o := .tup [.int 1000, .bl false]) m1
    have u2 := same_new (o := .tup [.ref b1]) m2
    have hb1 := s1 _ _ (u2 _ _ upd_same)
    refine ⟨(by show 2 ≤ sizeLine; decide), fun b3 m3 => ⟨(by show 1 ≤ sizeLine; decide), fun b4 m4 => ⟨b4, 98, _, rfl, rfl, upd_same, by decide, by show 1 ≤ 1000; decide, fun _ => by decide, fun Hd q2 s2 h2 => ?_⟩⟩⟩
    have u3 := same_new (o := .tup [.int 0, .bl false]) m3
    have u4 := same_new (o := .tup [.ref b3]) m4
    have hb3 := s2 _ _ (u4 _ _ upd_same)
    refine ⟨q1, q2, _, _, rfl, rfl, s2 _ _ (u4 _ _ (u3 _ _ h1)), h2, Nat.le_of_lt (szM (by simp)), fun He qf s5 hf => ?_⟩
    have s14 := Same.trans u1 (Same.trans u2 (Same.trans s1 (Same.trans u3 (Same.trans u4 (Same.trans s2 s5)))))
    have rF : Rps He ((List.replicate 2 [V.ref b1]).flatten ++ (List.replicate 98 [V.ref b3]).flatten) far := Rps.app (rps_rep (c := 1000) (s5 _ _ (s2 _ _ (u4 _ _ (u3 _ _ hb1)))) 2) (rps_rep (c := 0) (s5 _ _ hb3) 98)
    have T14 := T13.same s14
    have hm14 := hm13.same s14
    have ht14 := ht13.same s14
    generalize (List.replicate 2 [V.ref b1]).flatten ++ (List.replicate 98 [V.ref b3]).flatten = xs at hf rF
    clear s14 u1 u2 u3 u4 s1 s2 s5 hb1 hb3 h1 h2 hm13 ht13 T13 m1 m2 m3 m4
    -- what is let
    obtain ⟨dt, hdt⟩ := id ht14
    refine ⟨_, rfl, t, dt, _, rfl, hdt, rfl, _, rfl, _, rfl, ?_⟩
    try unfold tNoPart
    refine ⟨qf, xs, rfl, hf, fun H1 r1 s1 hr1 => ?_⟩
    rw [show (1 : Int) = ((1 : Nat) : Int) from rfl, cut_from] at hr1
    refine ⟨t, "short", "prompt", "empty", .int 1000, .int 1000, .ref r1, rfl, ht14.same s1, typed_int _, typed_int _, .inr ⟨1000, rfl, by decide, .inr ⟨1000, rfl, by decide, by decide, .inr (.inr ⟨r1, _, far.drop 1, rfl, hr1, (rF.same s1).drop 1, by decide, by decide, fun H2 s2 => ?_⟩)⟩⟩⟩
    rw [show allowsU "short" "prompt" "empty" ((1000 : Nat) : Int) ((1000 : Nat) : Int) (far.drop 1) = true from al_far]
    have s02 := Same.trans s1 s2
    have ht15 := ht14.same s02
    obtain ⟨dt2, hdt2⟩ := id ht15
    refine ⟨_, rfl, t, dt2, _, rfl, hdt2, rfl, _, rfl, _, rfl, ?_⟩
    try unfold tNoPart
    refine ⟨qf, xs, rfl, s02 _ _ hf, fun H3 r3 s3 hr3 => ?_⟩
    rw [show (2 : Int) = ((2 : Nat) : Int) from rfl, cut_from] at hr3
    refine ⟨t, "short", "prompt", "empty", .int 0, .int 1, .ref r3, rfl, ht15.same s3, typed_int _, typed_int _, .inr ⟨0, rfl, by decide, .inr ⟨1, rfl, by decide, by decide, .inr (.inr ⟨r3, _, far.drop 2, rfl, hr3, (rF.same (Same.trans s02 s3)).drop 2, by decide, by decide, fun H4 s4 => ?_⟩)⟩⟩⟩
    rw [show allowsU "short" "prompt" "empty" ((1 : Nat) : Int) ((0 : Nat) : Int) (far.drop 2) = true from al_far2]
    have s04 := Same.trans s02 (Same.trans s3 s4)
    have hm16 := hm14.same s04
    obtain ⟨dx, pr, pe, po, pq, ho, _⟩ := id hm16
    refine ⟨_, rfl, m, dx, _, rfl, ho, lf_no _ _ _ _ _ (by decide +kernel) (by decide +kernel) (by decide +kernel) (by decide +kernel) (by decide +kernel), _, rfl, ?_⟩
    refine ⟨m, txS, .int 1000, .ref qf, rfl, hm16, txS_good, typed_int _, .inr ⟨1000, rfl, by decide, by decide, .inr (.inr ⟨qf, xs, far, rfl, s04 _ _ hf, rF.same s04, by decide, by decide, fun H5 q5 s5 ran => ?_⟩)⟩⟩
    obtain ⟨pp, vs, g1, g2, g3⟩ := ran
    refine ⟨q5, _, 0, _, rfl, rfl, SqT.of g1, rfl, pp, _, rfl, .inr (SqT.of g2), (by show 3 ≤ sizeLine; decide), fun tl ntl => ?_⟩
    have lv : vs.length = 2 := by rw [g3.len]; exact run_far
    rw [lv]
    have s05 := Same.trans s04 s5
    have T17 := T14.same s05
    have hm17 := hm14.same s05
    have hf17 := s05 _ _ hf
    have rF17 := rF.same s05
    clear g1 g2 g3 lv hm14 ht14 ht15 hm16 T14 s02 s04 s05 s1 s2 s3 s4 s5 hr1 hr3 hf rF hdt hdt2 ho
    have sT := same_new (o := .lst [.bl true, .bl true, .int ((2 : Nat) : Int)]) ntl
    have hT17 : (upd H5 tl (.lst [.bl true, .bl true, .int ((2 : Nat) : Int)])) tl = some (.lst [.bl true, .bl true, .int ((2 : Nat) : Int)]) := upd_same
    show tSeq _ _ _ _ (upd H5 tl (.lst [.bl true, .bl true, .int ((2 : Nat) : Int)]))
    generalize upd H5 tl (.lst [.bl true, .bl true, .int ((2 : Nat) : Int)]) = H6' at sT hT17 ⊢
    -- a run without replies
    have hm18 := hm17.same sT
    obtain ⟨dx, pr, pe, po, pq, ho, _⟩ := id hm18
    refine ⟨fun σ8 H8 => σ8[13]? = some (some (.ref tl)) ∧ σ8[12]? = some (some (.ref qf)) ∧ ∃ q7 pp : Addr, Same H5 H8 ∧ H8 q7 = some (.tup [.ref pp, .int ((0 : Nat) : Int), .bl false]) ∧ H8 pp = some (.tup []) ∧ H8 tl = some (.lst [.bl true, .bl true, .int ((2 : Nat) : Int), .ref q7]), ?_, ?_⟩
    · refine ⟨_, rfl, .inl ⟨rfl, _, SqL.of hT17⟩, _, rfl, m, dx, _, rfl, ho, lf_no _ _ _ _ _ (by decide +kernel) (by decide +kernel) (by decide +kernel) (by decide +kernel) (by decide +kernel), (by show 0 ≤ sizeLine; decide), fun t0 nt0 => ?_⟩
      have u0 := same_new (o := .tup []) nt0
      refine ⟨m, txS, .int 1, .ref t0, rfl, hm18.same u0, txS_good, typed_int _, .inr ⟨1, rfl, by decide, by decide, .inr (.inr ⟨t0, [], [], rfl, upd_same, .nil, by decide, (fun r h => nomatch h), fun H7 q7 s7 ran => ?_⟩)⟩⟩
      have s67 := Same.trans u0 s7
      obtain ⟨pp, vs, g1, g2, g3⟩ := ran
      have evs : vs = [] := by
        cases g3
        rfl
      subst evs
      refine ⟨tl, _, _, rfl, rfl, s67 _ _ hT17, small1000 (by show 3 ≤ 1000; decide), rfl, rfl, q7, pp, fun b o e => ?_, ?_, ?_, upd_same⟩
      · rw [upd_ne (ne_of_none e ntl)]
        exact s67 _ _ (sT _ _ e)
      · rw [upd_ne (ne_of g1 (s67 _ _ hT17) (by intro z; cases z))]
        exact g1
      · rw [upd_ne (ne_of g2 (s67 _ _ hT17) (by intro z; cases z))]
        exact g2
    rintro σ8 H8 ⟨h13, h12, q7, pp, s8, g1', g2', hT8⟩
    have T18 := T17.same s8
    have hf18 := s8 _ _ hf17
    have rF18 := rF17.same s8
    clear sT hT17 hm18 ho
    have swT : Sw 1000 64 (.list [.bool true, .bool true, .int 2, .tuple [.tuple [], .int 0, .bool false]]) := ⟨by decide +kernel, by decide +kernel, by decide +kernel, by decide +kernel⟩
    refine ⟨_, h13, .ref tl, .list [.bool true, .bool true, .int 2, .tuple [.tuple [], .int 0, .bool false]], 1000, rfl, .lst hT8 (.cons (.bl _) (.cons (.bl _) (.cons (.int _) (.cons (.tup g1' (.cons (.tup g2' .nil) (.cons (.int _) (.cons (.bl _) .nil)))) .nil)))), swT, le1000, ?_⟩
    refine ⟨(by show 0 ≤ sizeLine; decide), fun c1' k1 => ⟨(by show 3 ≤ sizeLine; decide), fun c2' k2 => ⟨(by show 4 ≤ sizeLine; decide), fun c3' k3 => ?_⟩⟩⟩
    have v1 := same_new (o := .tup []) k1
    have v2 := same_new (o := .tup [.ref c1', .int 0, .bl false]) k2
    have v3' := same_new (o := .lst [.bl true, .bl true, .int 2, .ref c2']) k3
    refine ⟨.ref c3', .list [.bool true, .bool true, .int 2, .tuple [.tuple [], .int 0, .bool false]], 1000, rfl, .lst upd_same (.cons (.bl _) (.cons (.bl _) (.cons (.int _) (.cons (.tup (v3' _ _ upd_same) (.cons (.tup (v3' _ _ (v2 _ _ upd_same)) .nil) (.cons (.int _) (.cons (.bl _) .nil)))) .nil)))), swT, le1000, rfl, _, rfl, ?_⟩
    rw [decide_eq_true rfl]
    refine iteT ?_
    have s9 := Same.trans v1 (Same.trans v2 v3')
    have T19 := T18.same s9
    have hf19 := s9 _ _ hf18
    have rF19 := rF18.same s9
    generalize upd (upd (upd H8 c1' (.tup [])) c2' (.tup [.ref c1', .int 0, .bl false])) c3' (.lst [.bl true, .bl true, .int 2, .ref c2']) = H9 at s9 T19 hf19 rF19 ⊢
    -- Loop('ask').run
    intro x dx nx ndx nex
    refine ⟨x, dx, .str "ask", rfl, upd_same, typed_str _, (show ("ask" : Str).length ≤ 100000 by decide +kernel), fun tt e g H10 o10 hL => ⟨rfl, ?_⟩, fun z => ?_⟩
    · cases e
      have s10 := made_same nx ndx o10
      obtain ⟨dx2, pr, pe, po, pq, ho, _⟩ := id hL
      refine ⟨x, dx2, _, rfl, ho, lf_no _ _ _ _ _ (by decide +kernel) (by decide +kernel) (by decide +kernel) (by decide +kernel) (by decide +kernel), _, h12, _, rfl, ?_⟩
      try unfold tNoPart
      refine ⟨qf, xs, rfl, s10 _ _ hf19, fun H11 r11 s11 hr11 => ?_⟩
      rw [show (2 : Int) = ((2 : Nat) : Int) from rfl, cut_from] at hr11
      refine ⟨x, "ask", .int 1, .ref r11, rfl, hL.same s11, ask_good, typed_int _, .inr ⟨1, rfl, by decide, by decide, .inr (.inr ⟨r11, _, far.drop 2, rfl, hr11, ((rF19.same s10).same s11).drop 2, by decide, by decide, fun H12 q12 s12 ran => ?_⟩)⟩⟩
      rw [run_ask] at ran
      obtain ⟨pp2, vs2, j1, j2, j3⟩ := ran
      have evs : vs2 = [] := by
        cases j3
        rfl
      subst evs
      refine ⟨(by show 0 ≤ sizeLine; decide), fun y1 n1 => ⟨(by show 3 ≤ sizeLine; decide), fun y2 n2 => ?_⟩⟩
      have w1' := same_new (o := .tup []) n1
      have w2' := same_new (o := .tup [.ref y1, .int 98, .bl false]) n2
      refine ⟨.tuple [.tuple [], .int 98, .bool false], .tuple [.tuple [], .int 98, .bool false], .tup (SqT.of (w2' _ _ (w1' _ _ j1))) (.cons (.tup (SqT.of (w2' _ _ (w1' _ _ j2))) .nil) (.cons (.int _) (.cons (.bl _) .nil))), .tup (SqT.of upd_same) (.cons (.tup (SqT.of (w2' _ _ upd_same)) .nil) (.cons (.int _) (.cons (.bl _) .nil))), by decide +kernel, by decide +kernel, ?_⟩
      rw [show PyData.eqv (.tuple [.tuple [], .int 98, .bool false]) (.tuple [.tuple [], .int 98, .bool false]) = true by decide +kernel]
      have T20 := T19.same (Same.trans s10 (Same.trans s11 (Same.trans s12 (Same.trans w1' w2'))))
      exact k _ T20.off T20.tab
    · have : good (.str "ask") = true := ask_good
      rw [this] at z
      cases z
end
end My

namespace My
open PySem L2 Cm LM
abbrev sLaw : Stmt := top 48
def spLaw (K : PySem.W.Frag) (PR : Addr) : Sp := fun vs H Q _ => ∃ (a : Addr) (ns : List Int), vs = [.ref a] ∧ SqL K H a (ns.map V.int) ∧ ns.length ≤ 63 ∧ LamX.Tabs [(PR, qLam)] H ∧ ∀ H', Q (.bl true) H'
theorem scLaw : FnScope ["_law_script", "_law_k"] ["_law_script"] (defScope sLaw) := ⟨rfl, rfl, rfl, by decide +kernel, rfl, by decide +kernel, by decide +kernel⟩
theorem all_true : ∀ n : Nat, (List.replicate n true).all id = true
  | 0 => rfl
  | n + 1 => all_true n
theorem extN_sq {K : PySem.W.Frag} {a : Addr} {H H' : Hp} {xs : List V} (e : LamX.ExtN H H') (h : SqL K H a xs) : SqL K H' a xs := by
  rcases h with (h | ⟨o, h⟩) | h
  · exact .inl (.inl (e _ _ h (by intro ps z; cases z)))
  · exact .inl (.inr ⟨o, e _ _ h (by intro ps z; cases z)⟩)
  · exact .inr h
section
variable {P : Program} {w : World} {K : PySem.W.Frag} {mg : Str → Option Value} {base : Heap} {PR : Addr}
theorem ok_law {f fJ fR : Addr} {fd fdJ fdR : FuncData} (F : Fun K "law" "law" sLaw f fd) (TJ : TxtJ mg) (mrange : mg "range" = none) (mall : mg "all" = none) (kR9 : Nat) (GR : Gd.FnG P w K mg base CX0 kR9 fR fdR ["_law_jar_here"] (spRight PR))
    (FJ : Fun K "_law_jar" "_law_jar" sJar fJ fdJ) (bJ : Binds K fdJ ["_law_script", "_law_k"] []) (gJ : mg "_law_jar" = some (.ref fJ)) (kJ : PySem.W.keepIn K (.ref fJ) = true) (k1 : 1 ≤ kR9)
    (bR : Binds K fdR ["_law_jar_here"] []) (gR : mg "_law_right" = some (.ref fR)) (kR : PySem.W.keepIn K (.ref fR) = true) (mmax : mg "max" = none) (mmin : mg "min" = none) :
    Gd.FnG P w K mg base CX0 (kR9 + 1) f fd ["_law_script"] (spLaw K PR) := by
  have GJ : FnOk P w K mg base CX0 1 fJ fdJ ["_law_script", "_law_k"] (spJar K) := ok_jar FJ TJ
  refine Gd.okG F scLaw (fun vs H Q E h => ?_) (fun cdv A outer s H vs Q E _ _ _ hgd hr h => ?_)
  · obtain ⟨a, ns, rfl, _⟩ := h
    rfl
  · obtain ⟨a, ns, rfl, hS, hl, hT, k⟩ := h
    have hr1 : Room 1 _ := hr.mono k1
    refine ⟨_, pss_one (ps_ret (pe_callB (cr_all rfl) (by rfl) mall (by decide +kernel) (pa_cons (pe_lc (own := [("_law_k", 1)]) (g := gName 1) (tt := tYes) rfl scLaw.nd
      (pi_range1 rfl mrange (pa_cons (pe_callB (call_max2 rfl) (by rfl) mmax (by decide +kernel) (pa_cons pe_int (pa_cons (pe_callB (call_min2 rfl) (by rfl) mmin (by decide +kernel) (pa_cons (pe_callB call_len_seq (by rfl) TJ.len PySem.boot_len (pa_cons (pv 0) pa_nil)) (pa_cons pe_int pa_nil))) pa_nil))) pa_nil))
      (blkOk_by (own := [("_law_k", 1)]) (N := ["_law_script", "_law_k"]) (sc := defScope sLaw) (by decide +kernel)) (fun _ _ _ _ _ => pg_name (i := 1) scLaw.nd rfl (Or.inl rfl)) (fun _ _ _ _ _ => pts_nil)
      (fun _ _ _ _ _ => Gd.pe_callG GR hgd hr rfl gR kR bR .nil pass0 (pa_cons (pe_call GJ hr1 rfl gJ kJ bJ .nil pass0 (pa_cons (pv 0) (pa_cons (pv 1) pa_nil))) pa_nil))) pa_nil))), ?_⟩
    refine ⟨_, rfl, a, _, rfl, .inl hS, _, _, rfl, _, _, rfl, ?_⟩
    rw [List.length_map]
    have hm : ∃ n : Nat, (if (if (5 : Int) < (ns.length : Int) then 5 else (ns.length : Int)) > 2 then (if (5 : Int) < (ns.length : Int) then 5 else (ns.length : Int)) else 2) = (n : Int) ∧ n ≤ 5 := by
      by_cases h5 : (5 : Int) < (ns.length : Int)
      · rw [if_pos h5]
        exact ⟨5, rfl, Nat.le_refl _⟩
      · rw [if_neg h5]
        by_cases h2 : (ns.length : Int) > 2
        · rw [if_pos h2]
          exact ⟨ns.length, rfl, by omega⟩
        · rw [if_neg h2]
          exact ⟨2, rfl, by omega⟩
    obtain ⟨n, en, hn⟩ := hm
    refine ⟨_, rfl, by rw [en]; omega, by rw [en]; omega, fun D nD => ?_⟩
    rw [en]
    refine lc_range (lo := 0) (n := ((n : Int)).toNat) (fun i H' => LamX.ExtN H H' ∧ LamX.Tabs [(PR, qLam)] H' ∧ H' D = some (.lst ((List.replicate i true).map V.bl))) ⟨LamX.ExtN.of (same_upd nD), hT.ext (same_upd nD), upd_same⟩ ?_ ?_
    · rintro i H1 hi ⟨x1, T1, hD⟩
      refine ⟨rfl, _, rfl, _, rfl, a, ns, i, by rw [Int.zero_add]; rfl, extN_sq x1 hS, hl, fun H2 j s2 nj J2 => ?_⟩
      refine ⟨j, rfl, J2, T1.ext s2, fun H3 o3 T3 => ?_⟩
      have x3 : LamX.ExtN H1 H3 := fun b o q n => o3 b o (fun z => by rw [z, nj] at q; cases q) n (s2 b o q)
      have hD3 := x3 _ _ hD (by intro ps z; cases z)
      refine ⟨_, hD3, small1000 (by rw [List.length_map, List.length_replicate]; omega), fun b o q n => ?_, ?_, ?_⟩
      · rw [upd_ne (ne_of_none q nD)]
        exact x3 _ _ (x1 b o q n) n
      · intro p hp
        obtain ⟨ps, a1, a2, a3⟩ := T3 p hp
        refine ⟨ps, by rw [upd_ne (ne_of a1 hD3 (by intro z; cases z))]; exact a1, a2, fun pos cv hcv => ?_⟩
        obtain ⟨c, e, hc⟩ := a3 pos cv hcv
        exact ⟨c, e, by rw [upd_ne (ne_of hc hD3 (by intro z; unfold LamX.CodeO at z; cases z))]; exact hc⟩
      · rw [upd_same, List.replicate_succ', List.map_append]
        rfl
    · rintro H1 ⟨x1, T1, hD⟩
      refine ⟨D, List.replicate _ true, rfl, SqL.of hD, ?_⟩
      rw [all_true]
      exact k H1
end
theorem all_mk {l : PySem.W.OpenLaw} {w : World} {K : PySem.W.Frag} {h : Heap} {mg : Str → Option Value} {fa pT pR pE fwo foo fiw faw fir fie CIT fIT CL fli fiib fisr fcks fckr CES fES CER fER CX fxi fxa fxq fxp fxr fxc flx flt fln pUA pUP pUE fcki fckw CEI fEI CU fui fual fuca fumu CInp fcm fsl fss fsip ffrm fbad fjar cR PR frt flaw : Addr} (X : K.In h) (G : h.Ns mainGlobals mg) (hfa : mg "law" = some (.ref fa))
    {odT odR odE odwo anwo odoo anoo odiw aniw odaw anaw odir anir odie anie odIT anIT odli anli odiib aniib odisr anisr odcks ancks odckr anckr odES anES odER anER odxi anxi odxa anxa odxq anxq odxp anxp odxr anxr odxc anxc odlx anlx odlt anlt odln anln odUA odUP odUE odcki ancki odckw anckw odEI anEI odui anui odual anual oduca anuca odumu anumu odcm ancm odsl ansl odss anss odsip ansip odfrm anfrm odbad anbad odjar anjar odC odrt anrt odlaw anlaw : Option Addr}
    {slT slR slE slwo sloo sliw slaw slir slie slIT slli sliib slisr slcks slckr slES slER slxi slxa slxq slxp slxr slxc sllx sllt slln slUA slUP slUE slcki slckw slEI slui slual sluca slumu slcm slsl slss slsip slfrm slbad sljar slC slrt sllaw : Array (Option Value)}
    {ocwo kVwo dcwo pmwo cdwo ctwo ocoo kVoo dcoo pmoo cdoo ctoo ociw kViw dciw pmiw cdiw ctiw ocaw kVaw dcaw pmaw cdaw ctaw ocir kVir dcir pmir cdir ctir ocie kVie dcie pmie cdie ctie ocIT kVIT dcIT pmIT cdIT ctIT ocli kVli dcli pmli cdli ctli ociib kViib dciib pmiib cdiib ctiib ocisr kVisr dcisr pmisr cdisr ctisr occks kVcks dccks pmcks cdcks ctcks occkr kVckr dcckr pmckr cdckr ctckr ocES kVES dcES pmES cdES ctES ocER kVER dcER pmER cdER ctER ocxi kVxi dcxi pmxi cdxi ctxi ocxa kVxa dcxa pmxa cdxa ctxa ocxq kVxq dcxq pmxq cdxq ctxq ocxp kVxp dcxp pmxp cdxp ctxp ocxr kVxr dcxr pmxr cdxr ctxr ocxc kVxc dcxc pmxc cdxc ctxc oclx kVlx dclx pmlx cdlx ctlx oclt kVlt dclt pmlt cdlt ctlt ocln kVln dcln pmln cdln ctln occki kVcki dccki pmcki cdcki ctcki occkw kVckw dcckw pmckw cdckw ctckw ocEI kVEI dcEI pmEI cdEI ctEI ocui kVui dcui pmui cdui ctui ocual kVual dcual pmual cdual ctual ocuca kVuca dcuca pmuca cduca ctuca ocumu kVumu dcumu pmumu cdumu ctumu occm kVcm dccm pmcm cdcm ctcm ocsl kVsl dcsl pmsl cdsl ctsl ocss kVss dcss pmss cdss ctss ocsip kVsip dcsip pmsip cdsip ctsip ocfrm kVfrm dcfrm pmfrm cdfrm ctfrm ocbad kVbad dcbad pmbad cdbad ctbad ocjar kVjar dcjar pmjar cdjar ctjar ocC ocrt kVrt dcrt pmrt ctrt oclaw kVlaw dclaw pmlaw cdlaw ctlaw : Value}
    {tkT0 tkT1 tkT2 tkT3 tkT4 tkT5 tkT6 tkT7 tkR0 tkR1 tkR2 tkR3 tkR4 tkR5 tkE0 tkE1 tkE2 tkB tkMR tkME tkMP tkMI tkUA0 tkUA1 tkUP0 tkUP1 tkUE0 tkUE1 tkUE2 : Tok}
    {nT nR nE nUA nUP nUE : Nat}
    {nmIT qIT : Str} {NIT : Addr} {bsIT bmIT : List Value} {snIT : List Str} {subIT : List Value} {abIT : Bool} {colIT : Option Bool} {ddIT : Option Addr} {m0IT m1IT m2IT m3IT m5IT : Option Value}
    {nmES qES : Str} {NES : Addr} {bsES bmES : List Value} {snES : List Str} {subES : List Value} {abES : Bool} {colES : Option Bool} {ddES : Option Addr} {m0ES m1ES m2ES m3ES m5ES : Option Value}
    {nmER qER : Str} {NER : Addr} {bsER bmER : List Value} {snER : List Str} {subER : List Value} {abER : Bool} {colER : Option Bool} {ddER : Option Addr} {m0ER m1ER m2ER m3ER m5ER : Option Value}
    {nmEI qEI : Str} {NEI : Addr} {bsEI bmEI : List Value} {snEI : List Str} {subEI : List Value} {abEI : Bool} {colEI : Option Bool} {ddEI : Option Addr} {m0EI m1EI m2EI m3EI m5EI : Option Value}
    {vsC : Array Value}
    (gT : PySem.W.nsIn K mainGlobals "TESTS" = some (some (.ref pT)))
    (tT : K.lookup pT = some ⟨.type "tuple", odT, .seq #[.str "empty" tkT0, .str "some" tkT1, .str "short" tkT2, .str "full" tkT3, .str "told" tkT4, .str "open" tkT5, .str "rest" tkT6, .str "bare" tkT7] nT, slT⟩)
    (gR : PySem.W.nsIn K mainGlobals "ROUND_STEPS" = some (some (.ref pR)))
    (tR : K.lookup pR = some ⟨.type "tuple", odR, .seq #[.str "add" tkR0, .str "hand" tkR1, .str "cut" tkR2, .str "flush" tkR3, .str "stop" tkR4, .str "again" tkR5] nR, slR⟩)
    (gE : PySem.W.nsIn K mainGlobals "ENDING_STEPS" = some (some (.ref pE)))
    (tE : K.lookup pE = some ⟨.type "tuple", odE, .seq #[.str "hand" tkE0, .str "cut" tkE1, .str "flush" tkE2] nE, slE⟩)
    (mB : PySem.W.nsIn K mainGlobals "BAR" = some (some (.str " | " tkB)))
    (mMR : PySem.W.nsIn K mainGlobals "MOST_ROUND" = some (some (.int 12 tkMR)))
    (mME : PySem.W.nsIn K mainGlobals "MOST_ENDING" = some (some (.int 6 tkME)))
    (awo : PySem.W.nsIn K mainGlobals "words_of" = some (some (.ref fwo)))
    (lwo : K.lookup fwo = some ⟨ocwo, odwo, .func (PySem.W.fnOf "words_of" "words_of" (defArgs sWO) (defBody sWO) (defScope sWO) .none kVwo dcwo pmwo anwo cdwo ctwo), slwo⟩)
    (cwo : PySem.W.codeIn K cdwo "words_of" = true)
    (kwo : PySem.W.keepIn K (.ref fwo) = true)
    (aoo : PySem.W.nsIn K mainGlobals "order_of" = some (some (.ref foo)))
    (loo : K.lookup foo = some ⟨ocoo, odoo, .func (PySem.W.fnOf "order_of" "order_of" (defArgs sOO) (defBody sOO) (defScope sOO) .none kVoo dcoo pmoo anoo cdoo ctoo), sloo⟩)
    (coo : PySem.W.codeIn K cdoo "order_of" = true)
    (koo : PySem.W.keepIn K (.ref foo) = true)
    (aiw : PySem.W.nsIn K mainGlobals "is_word" = some (some (.ref fiw)))
    (liw : K.lookup fiw = some ⟨ociw, odiw, .func (PySem.W.fnOf "is_word" "is_word" (defArgs sIW) (defBody sIW) (defScope sIW) .none kViw dciw pmiw aniw cdiw ctiw), sliw⟩)
    (ciw : PySem.W.codeIn K cdiw "is_word" = true)
    (kiw : PySem.W.keepIn K (.ref fiw) = true)
    (aaw : PySem.W.nsIn K mainGlobals "are_words" = some (some (.ref faw)))
    (law : K.lookup faw = some ⟨ocaw, odaw, .func (PySem.W.fnOf "are_words" "are_words" (defArgs sAW) (defBody sAW) (defScope sAW) .none kVaw dcaw pmaw anaw cdaw ctaw), slaw⟩)
    (caw : PySem.W.codeIn K cdaw "are_words" = true)
    (kaw : PySem.W.keepIn K (.ref faw) = true)
    (air : PySem.W.nsIn K mainGlobals "is_round" = some (some (.ref fir)))
    (lir : K.lookup fir = some ⟨ocir, odir, .func (PySem.W.fnOf "is_round" "is_round" (defArgs sIR) (defBody sIR) (defScope sIR) .none kVir dcir pmir anir cdir ctir), slir⟩)
    (cir : PySem.W.codeIn K cdir "is_round" = true)
    (kir : PySem.W.keepIn K (.ref fir) = true)
    (aie : PySem.W.nsIn K mainGlobals "is_ending" = some (some (.ref fie)))
    (lie : K.lookup fie = some ⟨ocie, odie, .func (PySem.W.fnOf "is_ending" "is_ending" (defArgs sIE) (defBody sIE) (defScope sIE) .none kVie dcie pmie anie cdie ctie), slie⟩)
    (cie : PySem.W.codeIn K cdie "is_ending" = true)
    (kie : PySem.W.keepIn K (.ref fie) = true)
    (aCIT : PySem.W.nsIn K mainGlobals "InvalidText" = some (some (.ref CIT)))
    (aIT : PySem.W.findIn K (.ref CIT) "__init__" = some (some (.ref fIT)))
    (iIT : PySem.W.isFn K (.ref fIT) = true)
    (lIT : K.lookup fIT = some ⟨ocIT, odIT, .func (PySem.W.fnOf "__init__" "InvalidText.__init__" (defArgs sEI) (defBody sEI) (defScope sEI) .none kVIT dcIT pmIT anIT cdIT ctIT), slIT⟩)
    (cIT : PySem.W.codeIn K cdIT "InvalidText.__init__" = true)
    (kIT : PySem.W.keepIn K (.ref fIT) = true)
    (xIT : K.lookup CIT = some (excClassObj nmIT qIT CIT NIT bsIT bmIT true snIT subIT abIT colIT ddIT m0IT m1IT m2IT m3IT m5IT "ValueError.__new__"))
    (xrIT : PySem.HandSPX.refsVE bmIT = true)
    (e1IT : PySem.W.findIn K (.ref CIT) "__setattr__" = some (some (.builtin "object.__setattr__")))
    (e2IT : PySem.W.subIn K (.ref CIT) (.type "BaseException") = some true)
    (e3IT : PySem.W.typeIn K (.ref CIT) = some (.type "type"))
    (e4IT : PySem.W.keepIn K (.ref CIT) = true)
    (e5IT : PySem.W.typeIn K (.ref fIT) = some (.type "function"))
    (e6IT : PySem.W.findIn K (.ref CIT) "value" = some none)
    (aCL : PySem.W.nsIn K mainGlobals "Loop" = some (some (.ref CL)))
    (pgL : PySem.W.plainGet K CL Str.empty = true)
    (hdL : PySem.W.hasDictIn K CL = true)
    (poL : PySem.W.plainOver K CL = true)
    (saL : PySem.W.findIn K (.ref CL) "__setattr__" = some (some (.builtin "object.__setattr__")))
    (mkL : PySem.W.makesIn K CL = true)
    (kcL : PySem.W.keepIn K (.ref CL) = true)
    (nL0 : PySem.W.findIn K (.ref CL) "text" = some none)
    (nL1 : PySem.W.findIn K (.ref CL) "round" = some none)
    (nL2 : PySem.W.findIn K (.ref CL) "ending" = some none)
    (nL3 : PySem.W.findIn K (.ref CL) "round_orders" = some none)
    (nL4 : PySem.W.findIn K (.ref CL) "ending_orders" = some none)
    (ali : PySem.W.findIn K (.ref CL) "__init__" = some (some (.ref fli)))
    (ili : PySem.W.isFn K (.ref fli) = true)
    (lli : K.lookup fli = some ⟨ocli, odli, .func (PySem.W.fnOf "__init__" "Loop.__init__" (defArgs sLI) (defBody sLI) (defScope sLI) .none kVli dcli pmli anli cdli ctli), slli⟩)
    (cli : PySem.W.codeIn K cdli "Loop.__init__" = true)
    (kli : PySem.W.keepIn K (.ref fli) = true)
    (mMP : PySem.W.nsIn K mainGlobals "MOST_REPLIES" = some (some (.int 100 tkMP)))
    (mMI : PySem.W.nsIn K mainGlobals "MOST_ITEMS" = some (some (.int 1000 tkMI)))
    (aiib : PySem.W.nsIn K mainGlobals "is_integer_between" = some (some (.ref fiib)))
    (liib : K.lookup fiib = some ⟨ociib, odiib, .func (PySem.W.fnOf "is_integer_between" "is_integer_between" (defArgs sIIB) (defBody sIIB) (defScope sIIB) .none kViib dciib pmiib aniib cdiib ctiib), sliib⟩)
    (ciib : PySem.W.codeIn K cdiib "is_integer_between" = true)
    (kiib : PySem.W.keepIn K (.ref fiib) = true)
    (aisr : PySem.W.nsIn K mainGlobals "is_reply" = some (some (.ref fisr)))
    (lisr : K.lookup fisr = some ⟨ocisr, odisr, .func (PySem.W.fnOf "is_reply" "is_reply" (defArgs sISR) (defBody sISR) (defScope sISR) .none kVisr dcisr pmisr anisr cdisr ctisr), slisr⟩)
    (cisr : PySem.W.codeIn K cdisr "is_reply" = true)
    (kisr : PySem.W.keepIn K (.ref fisr) = true)
    (acks : PySem.W.nsIn K mainGlobals "check_size" = some (some (.ref fcks)))
    (lcks : K.lookup fcks = some ⟨occks, odcks, .func (PySem.W.fnOf "check_size" "check_size" (defArgs sCKS) (defBody sCKS) (defScope sCKS) .none kVcks dccks pmcks ancks cdcks ctcks), slcks⟩)
    (ccks : PySem.W.codeIn K cdcks "check_size" = true)
    (kcks : PySem.W.keepIn K (.ref fcks) = true)
    (ackr : PySem.W.nsIn K mainGlobals "check_replies" = some (some (.ref fckr)))
    (lckr : K.lookup fckr = some ⟨occkr, odckr, .func (PySem.W.fnOf "check_replies" "check_replies" (defArgs sCKR) (defBody sCKR) (defScope sCKR) .none kVckr dcckr pmckr anckr cdckr ctckr), slckr⟩)
    (cckr : PySem.W.codeIn K cdckr "check_replies" = true)
    (kckr : PySem.W.keepIn K (.ref fckr) = true)
    (aCES : PySem.W.nsIn K mainGlobals "InvalidSize" = some (some (.ref CES)))
    (aES : PySem.W.findIn K (.ref CES) "__init__" = some (some (.ref fES)))
    (iES : PySem.W.isFn K (.ref fES) = true)
    (lES : K.lookup fES = some ⟨ocES, odES, .func (PySem.W.fnOf "__init__" "InvalidSize.__init__" (defArgs sES) (defBody sES) (defScope sES) .none kVES dcES pmES anES cdES ctES), slES⟩)
    (cES : PySem.W.codeIn K cdES "InvalidSize.__init__" = true)
    (kES : PySem.W.keepIn K (.ref fES) = true)
    (xES : K.lookup CES = some (excClassObj nmES qES CES NES bsES bmES true snES subES abES colES ddES m0ES m1ES m2ES m3ES m5ES "ValueError.__new__"))
    (xrES : PySem.HandSPX.refsVE bmES = true)
    (e1ES : PySem.W.findIn K (.ref CES) "__setattr__" = some (some (.builtin "object.__setattr__")))
    (e2ES : PySem.W.subIn K (.ref CES) (.type "BaseException") = some true)
    (e3ES : PySem.W.typeIn K (.ref CES) = some (.type "type"))
    (e4ES : PySem.W.keepIn K (.ref CES) = true)
    (e5ES : PySem.W.typeIn K (.ref fES) = some (.type "function"))
    (e6ES : PySem.W.findIn K (.ref CES) "value" = some none)
    (aCER : PySem.W.nsIn K mainGlobals "InvalidReplies" = some (some (.ref CER)))
    (aER : PySem.W.findIn K (.ref CER) "__init__" = some (some (.ref fER)))
    (iER : PySem.W.isFn K (.ref fER) = true)
    (lER : K.lookup fER = some ⟨ocER, odER, .func (PySem.W.fnOf "__init__" "InvalidReplies.__init__" (defArgs sER) (defBody sER) (defScope sER) .none kVER dcER pmER anER cdER ctER), slER⟩)
    (cER : PySem.W.codeIn K cdER "InvalidReplies.__init__" = true)
    (kER : PySem.W.keepIn K (.ref fER) = true)
    (xER : K.lookup CER = some (excClassObj nmER qER CER NER bsER bmER true snER subER abER colER ddER m0ER m1ER m2ER m3ER m5ER "ValueError.__new__"))
    (xrER : PySem.HandSPX.refsVE bmER = true)
    (e1ER : PySem.W.findIn K (.ref CER) "__setattr__" = some (some (.builtin "object.__setattr__")))
    (e2ER : PySem.W.subIn K (.ref CER) (.type "BaseException") = some true)
    (e3ER : PySem.W.typeIn K (.ref CER) = some (.type "type"))
    (e4ER : PySem.W.keepIn K (.ref CER) = true)
    (e5ER : PySem.W.typeIn K (.ref fER) = some (.type "function"))
    (e6ER : PySem.W.findIn K (.ref CER) "index" = some none)
    (aCX : PySem.W.nsIn K mainGlobals "Execution" = some (some (.ref CX)))
    (pgX : PySem.W.plainGet K CX Str.empty = true)
    (hdX : PySem.W.hasDictIn K CX = true)
    (poX : PySem.W.plainOver K CX = true)
    (saX : PySem.W.findIn K (.ref CX) "__setattr__" = some (some (.builtin "object.__setattr__")))
    (mkX : PySem.W.makesIn K CX = true)
    (kcX : PySem.W.keepIn K (.ref CX) = true)
    (nX0 : PySem.W.findIn K (.ref CX) "round_orders" = some none)
    (nX1 : PySem.W.findIn K (.ref CX) "ending_orders" = some none)
    (nX2 : PySem.W.findIn K (.ref CX) "size" = some none)
    (nX3 : PySem.W.findIn K (.ref CX) "held" = some none)
    (nX4 : PySem.W.findIn K (.ref CX) "told" = some none)
    (nX5 : PySem.W.findIn K (.ref CX) "kept" = some none)
    (nX6 : PySem.W.findIn K (.ref CX) "handed" = some none)
    (nX7 : PySem.W.findIn K (.ref CX) "asked" = some none)
    (nX8 : PySem.W.findIn K (.ref CX) "over" = some none)
    (axi : PySem.W.findIn K (.ref CX) "__init__" = some (some (.ref fxi)))
    (ixi : PySem.W.isFn K (.ref fxi) = true)
    (lxi : K.lookup fxi = some ⟨ocxi, odxi, .func (PySem.W.fnOf "__init__" "Execution.__init__" (defArgs sXI) (defBody sXI) (defScope sXI) .none kVxi dcxi pmxi anxi cdxi ctxi), slxi⟩)
    (cxi : PySem.W.codeIn K cdxi "Execution.__init__" = true)
    (kxi : PySem.W.keepIn K (.ref fxi) = true)
    (axa : PySem.W.findIn K (.ref CX) "answer" = some (some (.ref fxa)))
    (ixa : PySem.W.isFn K (.ref fxa) = true)
    (lxa : K.lookup fxa = some ⟨ocxa, odxa, .func (PySem.W.fnOf "answer" "Execution.answer" (defArgs sXA) (defBody sXA) (defScope sXA) .none kVxa dcxa pmxa anxa cdxa ctxa), slxa⟩)
    (cxa : PySem.W.codeIn K cdxa "Execution.answer" = true)
    (kxa : PySem.W.keepIn K (.ref fxa) = true)
    (axq : PySem.W.findIn K (.ref CX) "finish" = some (some (.ref fxq)))
    (ixq : PySem.W.isFn K (.ref fxq) = true)
    (lxq : K.lookup fxq = some ⟨ocxq, odxq, .func (PySem.W.fnOf "finish" "Execution.finish" (defArgs sXF) (defBody sXF) (defScope sXF) .none kVxq dcxq pmxq anxq cdxq ctxq), slxq⟩)
    (cxq : PySem.W.codeIn K cdxq "Execution.finish" = true)
    (kxq : PySem.W.keepIn K (.ref fxq) = true)
    (axp : PySem.W.findIn K (.ref CX) "passes" = some (some (.ref fxp)))
    (ixp : PySem.W.isFn K (.ref fxp) = true)
    (lxp : K.lookup fxp = some ⟨ocxp, odxp, .func (PySem.W.fnOf "passes" "Execution.passes" (defArgs sXP) (defBody sXP) (defScope sXP) .none kVxp dcxp pmxp anxp cdxp ctxp), slxp⟩)
    (cxp : PySem.W.codeIn K cdxp "Execution.passes" = true)
    (kxp : PySem.W.keepIn K (.ref fxp) = true)
    (axr : PySem.W.findIn K (.ref CX) "perform" = some (some (.ref fxr)))
    (ixr : PySem.W.isFn K (.ref fxr) = true)
    (lxr : K.lookup fxr = some ⟨ocxr, odxr, .func (PySem.W.fnOf "perform" "Execution.perform" (defArgs sXR) (defBody sXR) (defScope sXR) .none kVxr dcxr pmxr anxr cdxr ctxr), slxr⟩)
    (cxr : PySem.W.codeIn K cdxr "Execution.perform" = true)
    (kxr : PySem.W.keepIn K (.ref fxr) = true)
    (axc : PySem.W.findIn K (.ref CX) "cut_off" = some (some (.ref fxc)))
    (ixc : PySem.W.isFn K (.ref fxc) = true)
    (lxc : K.lookup fxc = some ⟨ocxc, odxc, .func (PySem.W.fnOf "cut_off" "Execution.cut_off" (defArgs sXC) (defBody sXC) (defScope sXC) .none kVxc dcxc pmxc anxc cdxc ctxc), slxc⟩)
    (cxc : PySem.W.codeIn K cdxc "Execution.cut_off" = true)
    (kxc : PySem.W.keepIn K (.ref fxc) = true)
    (alx : PySem.W.findIn K (.ref CL) "execution" = some (some (.ref flx)))
    (ilx : PySem.W.isFn K (.ref flx) = true)
    (llx : K.lookup flx = some ⟨oclx, odlx, .func (PySem.W.fnOf "execution" "Loop.execution" (defArgs sLX) (defBody sLX) (defScope sLX) .none kVlx dclx pmlx anlx cdlx ctlx), sllx⟩)
    (clx : PySem.W.codeIn K cdlx "Loop.execution" = true)
    (klx : PySem.W.keepIn K (.ref flx) = true)
    (alt : PySem.W.findIn K (.ref CL) "work_through" = some (some (.ref flt)))
    (ilt : PySem.W.isFn K (.ref flt) = true)
    (llt : K.lookup flt = some ⟨oclt, odlt, .func (PySem.W.fnOf "work_through" "Loop.work_through" (defArgs sLT) (defBody sLT) (defScope sLT) .none kVlt dclt pmlt anlt cdlt ctlt), sllt⟩)
    (clt : PySem.W.codeIn K cdlt "Loop.work_through" = true)
    (klt : PySem.W.keepIn K (.ref flt) = true)
    (aln : PySem.W.findIn K (.ref CL) "run" = some (some (.ref fln)))
    (iln : PySem.W.isFn K (.ref fln) = true)
    (lln : K.lookup fln = some ⟨ocln, odln, .func (PySem.W.fnOf "run" "Loop.run" (defArgs sLN) (defBody sLN) (defScope sLN) .none kVln dcln pmln anln cdln ctln), slln⟩)
    (cln : PySem.W.codeIn K cdln "Loop.run" = true)
    (kln : PySem.W.keepIn K (.ref fln) = true)
    (gUA : PySem.W.nsIn K mainGlobals "AMOUNTS" = some (some (.ref pUA)))
    (tUA : K.lookup pUA = some ⟨.type "tuple", odUA, .seq #[.str "exact" tkUA0, .str "short" tkUA1] nUA, slUA⟩)
    (gUP : PySem.W.nsIn K mainGlobals "PATIENCES" = some (some (.ref pUP)))
    (tUP : K.lookup pUP = some ⟨.type "tuple", odUP, .seq #[.str "prompt" tkUP0, .str "waiting" tkUP1] nUP, slUP⟩)
    (gUE : PySem.W.nsIn K mainGlobals "ENDS" = some (some (.ref pUE)))
    (tUE : K.lookup pUE = some ⟨.type "tuple", odUE, .seq #[.str "empty" tkUE0, .str "with" tkUE1, .str "behind" tkUE2] nUE, slUE⟩)
    (acki : PySem.W.nsIn K mainGlobals "check_items" = some (some (.ref fcki)))
    (lcki : K.lookup fcki = some ⟨occki, odcki, .func (PySem.W.fnOf "check_items" "check_items" (defArgs sQI) (defBody sQI) (defScope sQI) .none kVcki dccki pmcki ancki cdcki ctcki), slcki⟩)
    (ccki : PySem.W.codeIn K cdcki "check_items" = true)
    (kcki : PySem.W.keepIn K (.ref fcki) = true)
    (ackw : PySem.W.nsIn K mainGlobals "check_word" = some (some (.ref fckw)))
    (lckw : K.lookup fckw = some ⟨occkw, odckw, .func (PySem.W.fnOf "check_word" "check_word" (defArgs sQW) (defBody sQW) (defScope sQW) .none kVckw dcckw pmckw anckw cdckw ctckw), slckw⟩)
    (cckw : PySem.W.codeIn K cdckw "check_word" = true)
    (kckw : PySem.W.keepIn K (.ref fckw) = true)
    (aCEI : PySem.W.nsIn K mainGlobals "InvalidItems" = some (some (.ref CEI)))
    (aEI : PySem.W.findIn K (.ref CEI) "__init__" = some (some (.ref fEI)))
    (iEI : PySem.W.isFn K (.ref fEI) = true)
    (lEI : K.lookup fEI = some ⟨ocEI, odEI, .func (PySem.W.fnOf "__init__" "InvalidItems.__init__" (defArgs sQE) (defBody sQE) (defScope sQE) .none kVEI dcEI pmEI anEI cdEI ctEI), slEI⟩)
    (cEI : PySem.W.codeIn K cdEI "InvalidItems.__init__" = true)
    (kEI : PySem.W.keepIn K (.ref fEI) = true)
    (xEI : K.lookup CEI = some (excClassObj nmEI qEI CEI NEI bsEI bmEI true snEI subEI abEI colEI ddEI m0EI m1EI m2EI m3EI m5EI "ValueError.__new__"))
    (xrEI : PySem.HandSPX.refsVE bmEI = true)
    (e1EI : PySem.W.findIn K (.ref CEI) "__setattr__" = some (some (.builtin "object.__setattr__")))
    (e2EI : PySem.W.subIn K (.ref CEI) (.type "BaseException") = some true)
    (e3EI : PySem.W.typeIn K (.ref CEI) = some (.type "type"))
    (e4EI : PySem.W.keepIn K (.ref CEI) = true)
    (e5EI : PySem.W.typeIn K (.ref fEI) = some (.type "function"))
    (e6EI : PySem.W.findIn K (.ref CEI) "value" = some none)
    (aCU : PySem.W.nsIn K mainGlobals "Source" = some (some (.ref CU)))
    (pgU : PySem.W.plainGet K CU Str.empty = true)
    (hdU : PySem.W.hasDictIn K CU = true)
    (poU : PySem.W.plainOver K CU = true)
    (saU : PySem.W.findIn K (.ref CU) "__setattr__" = some (some (.builtin "object.__setattr__")))
    (mkU : PySem.W.makesIn K CU = true)
    (kcU : PySem.W.keepIn K (.ref CU) = true)
    (nU0 : PySem.W.findIn K (.ref CU) "amount" = some none)
    (nU1 : PySem.W.findIn K (.ref CU) "patience" = some none)
    (nU2 : PySem.W.findIn K (.ref CU) "end" = some none)
    (aui : PySem.W.findIn K (.ref CU) "__init__" = some (some (.ref fui)))
    (iui : PySem.W.isFn K (.ref fui) = true)
    (lui : K.lookup fui = some ⟨ocui, odui, .func (PySem.W.fnOf "__init__" "Source.__init__" (defArgs sUI) (defBody sUI) (defScope sUI) .none kVui dcui pmui anui cdui ctui), slui⟩)
    (cui : PySem.W.codeIn K cdui "Source.__init__" = true)
    (kui : PySem.W.keepIn K (.ref fui) = true)
    (aual : PySem.W.findIn K (.ref CU) "allows" = some (some (.ref fual)))
    (iual : PySem.W.isFn K (.ref fual) = true)
    (lual : K.lookup fual = some ⟨ocual, odual, .func (PySem.W.fnOf "allows" "Source.allows" (defArgs sUA) (defBody sUA) (defScope sUA) .none kVual dcual pmual anual cdual ctual), slual⟩)
    (cual : PySem.W.codeIn K cdual "Source.allows" = true)
    (kual : PySem.W.keepIn K (.ref fual) = true)
    (auca : PySem.W.findIn K (.ref CU) "can_hand_out" = some (some (.ref fuca)))
    (iuca : PySem.W.isFn K (.ref fuca) = true)
    (luca : K.lookup fuca = some ⟨ocuca, oduca, .func (PySem.W.fnOf "can_hand_out" "Source.can_hand_out" (defArgs sUC) (defBody sUC) (defScope sUC) .none kVuca dcuca pmuca anuca cduca ctuca), sluca⟩)
    (cuca : PySem.W.codeIn K cduca "Source.can_hand_out" = true)
    (kuca : PySem.W.keepIn K (.ref fuca) = true)
    (aumu : PySem.W.findIn K (.ref CU) "must_tell" = some (some (.ref fumu)))
    (iumu : PySem.W.isFn K (.ref fumu) = true)
    (lumu : K.lookup fumu = some ⟨ocumu, odumu, .func (PySem.W.fnOf "must_tell" "Source.must_tell" (defArgs sUM) (defBody sUM) (defScope sUM) .none kVumu dcumu pmumu anumu cdumu ctumu), slumu⟩)
    (cumu : PySem.W.codeIn K cdumu "Source.must_tell" = true)
    (kumu : PySem.W.keepIn K (.ref fumu) = true)
    (aCInp : PySem.W.nsIn K mainGlobals "InputError" = some (some (.ref CInp)))
    (x7EI : PySem.W.findIn K (.ref CEI) "__getattribute__" = some (some (.builtin "BaseException.__getattribute__")))
    (x8EI : PySem.W.findIn K (.ref CEI) "__getattr__" = some none)
    (x9EI : PySem.W.hasDictIn K CEI = true)
    (xAEI : (PySem.W.clsIn K CEI).isSome = true)
    (xBEI : PySem.W.findIn K (.ref CEI) "__class__" = some (some (.builtin "object.__class__")))
    (xg1 : PySem.W.specialIn K (.builtin "object.__class__") "__get__" = some (some (.builtin "getset_descriptor.__get__")))
    (xg2 : PySem.W.takesIn K (.builtin "object.__class__") = some true)
    (xCEI : PySem.W.mroIn K CEI (.type "object") = some true)
    (kAEI : PySem.W.kitOne K (.ref CEI) (.ref CInp) = some true)
    (kBEI : PySem.W.kitOne K (.ref CEI) (.type "ValueError") = some true)
    (x7ER : PySem.W.findIn K (.ref CER) "__getattribute__" = some (some (.builtin "BaseException.__getattribute__")))
    (x8ER : PySem.W.findIn K (.ref CER) "__getattr__" = some none)
    (x9ER : PySem.W.hasDictIn K CER = true)
    (xAER : (PySem.W.clsIn K CER).isSome = true)
    (xBER : PySem.W.findIn K (.ref CER) "__class__" = some (some (.builtin "object.__class__")))
    (xCER : PySem.W.mroIn K CER (.type "object") = some true)
    (kAER : PySem.W.kitOne K (.ref CER) (.ref CInp) = some true)
    (kBER : PySem.W.kitOne K (.ref CER) (.type "ValueError") = some true)
    (x7ES : PySem.W.findIn K (.ref CES) "__getattribute__" = some (some (.builtin "BaseException.__getattribute__")))
    (x8ES : PySem.W.findIn K (.ref CES) "__getattr__" = some none)
    (x9ES : PySem.W.hasDictIn K CES = true)
    (xAES : (PySem.W.clsIn K CES).isSome = true)
    (xBES : PySem.W.findIn K (.ref CES) "__class__" = some (some (.builtin "object.__class__")))
    (xCES : PySem.W.mroIn K CES (.type "object") = some true)
    (kAES : PySem.W.kitOne K (.ref CES) (.ref CInp) = some true)
    (kBES : PySem.W.kitOne K (.ref CES) (.type "ValueError") = some true)
    (xEIEI : PySem.W.exmOne K (.ref CEI) (.ref CEI) = some true)
    (xEREI : PySem.W.exmOne K (.ref CER) (.ref CEI) = some false)
    (xERER : PySem.W.exmOne K (.ref CER) (.ref CER) = some true)
    (xESEI : PySem.W.exmOne K (.ref CES) (.ref CEI) = some false)
    (xESER : PySem.W.exmOne K (.ref CES) (.ref CER) = some false)
    (xESES : PySem.W.exmOne K (.ref CES) (.ref CES) = some true)
    (acm : PySem.W.nsIn K mainGlobals "_law_came" = some (some (.ref fcm)))
    (lcm : K.lookup fcm = some ⟨occm, odcm, .func (PySem.W.fnOf "_law_came" "_law_came" (defArgs sCame) (defBody sCame) (defScope sCame) .none kVcm dccm pmcm ancm cdcm ctcm), slcm⟩)
    (ccm : PySem.W.codeIn K cdcm "_law_came" = true)
    (kcm : PySem.W.keepIn K (.ref fcm) = true)
    (asl : PySem.W.nsIn K mainGlobals "sample_loop" = some (some (.ref fsl)))
    (lsl : K.lookup fsl = some ⟨ocsl, odsl, .func (PySem.W.fnOf "sample_loop" "sample_loop" (defArgs sSL) (defBody sSL) (defScope sSL) .none kVsl dcsl pmsl ansl cdsl ctsl), slsl⟩)
    (csl : PySem.W.codeIn K cdsl "sample_loop" = true)
    (ksl : PySem.W.keepIn K (.ref fsl) = true)
    (ass : PySem.W.nsIn K mainGlobals "sample_source" = some (some (.ref fss)))
    (lss : K.lookup fss = some ⟨ocss, odss, .func (PySem.W.fnOf "sample_source" "sample_source" (defArgs sSS) (defBody sSS) (defScope sSS) .none kVss dcss pmss anss cdss ctss), slss⟩)
    (css : PySem.W.codeIn K cdss "sample_source" = true)
    (kss : PySem.W.keepIn K (.ref fss) = true)
    (asip : PySem.W.nsIn K mainGlobals "_law_sip" = some (some (.ref fsip)))
    (lsip : K.lookup fsip = some ⟨ocsip, odsip, .func (PySem.W.fnOf "_law_sip" "_law_sip" (defArgs sSip) (defBody sSip) (defScope sSip) .none kVsip dcsip pmsip ansip cdsip ctsip), slsip⟩)
    (csip : PySem.W.codeIn K cdsip "_law_sip" = true)
    (ksip : PySem.W.keepIn K (.ref fsip) = true)
    (afrm : PySem.W.nsIn K mainGlobals "_law_from" = some (some (.ref ffrm)))
    (lfrm : K.lookup ffrm = some ⟨ocfrm, odfrm, .func (PySem.W.fnOf "_law_from" "_law_from" (defArgs sFrom) (defBody sFrom) (defScope sFrom) .none kVfrm dcfrm pmfrm anfrm cdfrm ctfrm), slfrm⟩)
    (cfrm : PySem.W.codeIn K cdfrm "_law_from" = true)
    (kfrm : PySem.W.keepIn K (.ref ffrm) = true)
    (abad : PySem.W.nsIn K mainGlobals "_law_bad" = some (some (.ref fbad)))
    (lbad : K.lookup fbad = some ⟨ocbad, odbad, .func (PySem.W.fnOf "_law_bad" "_law_bad" (defArgs sBad) (defBody sBad) (defScope sBad) .none kVbad dcbad pmbad anbad cdbad ctbad), slbad⟩)
    (cbad : PySem.W.codeIn K cdbad "_law_bad" = true)
    (kbad : PySem.W.keepIn K (.ref fbad) = true)
    (ajar : PySem.W.nsIn K mainGlobals "_law_jar" = some (some (.ref fjar)))
    (ljar : K.lookup fjar = some ⟨ocjar, odjar, .func (PySem.W.fnOf "_law_jar" "_law_jar" (defArgs sJar) (defBody sJar) (defScope sJar) .none kVjar dcjar pmjar anjar cdjar ctjar), sljar⟩)
    (cjar : PySem.W.codeIn K cdjar "_law_jar" = true)
    (kjar : PySem.W.keepIn K (.ref fjar) = true)
    (art : PySem.W.nsIn K mainGlobals "_law_right" = some (some (.ref frt)))
    (lrt : K.lookup frt = some ⟨ocrt, odrt, .func (PySem.W.fnOf "_law_right" "_law_right" (defArgs sRight) (defBody sRight) (defScope sRight) .none kVrt dcrt pmrt anrt (.ref cR) ctrt), slrt⟩)
    (crt : PySem.W.codeIn K (.ref cR) "_law_right" = true)
    (krt : PySem.W.keepIn K (.ref frt) = true)
    (alaw : PySem.W.nsIn K mainGlobals "law" = some (some (.ref flaw)))
    (llaw : K.lookup flaw = some ⟨oclaw, odlaw, .func (PySem.W.fnOf "law" "law" (defArgs sLaw) (defBody sLaw) (defScope sLaw) .none kVlaw dclaw pmlaw anlaw cdlaw ctlaw), sllaw⟩)
    (claw : PySem.W.codeIn K cdlaw "law" = true)
    (klaw : PySem.W.keepIn K (.ref flaw) = true)
    (q1 : K.lookup cR = some ⟨ocC, odC, .fields vsC, slC⟩)
    (q2 : vsC[11]? = some (.ref PR))
    (q3 : PySem.W.codeHdIn K cR PR = true)
    (q4 : K.lookup PR = none)
    (q5 : h.get? PR = some { cls := .none, data := .fields #[] })
    (z_tuple : PySem.W.nsIn K mainGlobals "tuple" = some none)
    (z_len : PySem.W.nsIn K mainGlobals "len" = some none)
    (z_all : PySem.W.nsIn K mainGlobals "all" = some none)
    (z_isinstance : PySem.W.nsIn K mainGlobals "isinstance" = some none)
    (z_str : PySem.W.nsIn K mainGlobals "str" = some none)
    (z_int : PySem.W.nsIn K mainGlobals "int" = some none)
    (z_bool : PySem.W.nsIn K mainGlobals "bool" = some none)
    (z_enumerate : PySem.W.nsIn K mainGlobals "enumerate" = some none)
    (z_range : PySem.W.nsIn K mainGlobals "range" = some none)
    (z_min : PySem.W.nsIn K mainGlobals "min" = some none)
    (z_ValueError : PySem.W.nsIn K mainGlobals "ValueError" = some none)
    (z_abs : PySem.W.nsIn K mainGlobals "abs" = some none)
    (z_divmod : PySem.W.nsIn K mainGlobals "divmod" = some none)
    (z_repr : PySem.W.nsIn K mainGlobals "repr" = some none)
    (z_max : PySem.W.nsIn K mainGlobals "max" = some none) :
    Gd.LawG l w K 13 63 "_law_script" mg fa h := by
  have e := hfa.symm.trans (PySem.W.mg_of X G alaw)
  cases e
  have Fwo := fun_mk (st := sWO) lwo cwo kwo
  have bwo := Fwo.binds (ps := ["text"]) fun _ _ _ _ _ _ us hl => match us, hl with | [_], _ => rfl
  have Foo := fun_mk (st := sOO) loo coo koo
  have boo := Foo.binds (ps := ["word"]) fun _ _ _ _ _ _ us hl => match us, hl with | [_], _ => rfl
  have Fiw := fun_mk (st := sIW) liw ciw kiw
  have biw := Fiw.binds (ps := ["word", "steps"]) fun _ _ _ _ _ _ us hl => match us, hl with | [_, _], _ => rfl
  have Faw := fun_mk (st := sAW) law caw kaw
  have baw := Faw.binds (ps := ["words", "steps"]) fun _ _ _ _ _ _ us hl => match us, hl with | [_, _], _ => rfl
  have Fir := fun_mk (st := sIR) lir cir kir
  have bir := Fir.binds (ps := ["words"]) fun _ _ _ _ _ _ us hl => match us, hl with | [_], _ => rfl
  have Fie := fun_mk (st := sIE) lie cie kie
  have bie := Fie.binds (ps := ["words"]) fun _ _ _ _ _ _ us hl => match us, hl with | [_], _ => rfl
  let TL : TxL K mg := ⟨PySem.W.mg_none_of X G z_tuple, PySem.W.mg_none_of X G z_len, PySem.W.mg_none_of X G z_all, ⟨_, PySem.W.mg_of X G mB⟩, ⟨_, PySem.W.mg_of X G mMR⟩, ⟨_, PySem.W.mg_of X G mME⟩, pT, pR, pE, PySem.W.mg_of X G gT, PySem.W.mg_of X G gR, PySem.W.mg_of X G gE, fun H => .inr ⟨_, _, _, tT, rfl, rfl, (by show 8 ≤ sizeLine; decide), .cons ⟨_, rfl⟩ (.cons ⟨_, rfl⟩ (.cons ⟨_, rfl⟩ (.cons ⟨_, rfl⟩ (.cons ⟨_, rfl⟩ (.cons ⟨_, rfl⟩ (.cons ⟨_, rfl⟩ (.cons ⟨_, rfl⟩ (.nil))))))))⟩, fun H => .inr ⟨_, _, _, tR, rfl, rfl, (by show 6 ≤ sizeLine; decide), .cons ⟨_, rfl⟩ (.cons ⟨_, rfl⟩ (.cons ⟨_, rfl⟩ (.cons ⟨_, rfl⟩ (.cons ⟨_, rfl⟩ (.cons ⟨_, rfl⟩ (.nil))))))⟩, fun H => .inr ⟨_, _, _, tE, rfl, rfl, (by show 3 ≤ sizeLine; decide), .cons ⟨_, rfl⟩ (.cons ⟨_, rfl⟩ (.cons ⟨_, rfl⟩ (.nil)))⟩, ⟨fwo, _, Fwo, bwo, PySem.W.mg_of X G awo, kwo⟩, ⟨foo, _, Foo, boo, PySem.W.mg_of X G aoo, koo⟩, ⟨fiw, _, Fiw, biw, PySem.W.mg_of X G aiw, kiw⟩, ⟨faw, _, Faw, baw, PySem.W.mg_of X G aaw, kaw⟩, ⟨fir, _, Fir, bir, PySem.W.mg_of X G air, kir⟩, ⟨fie, _, Fie, bie, PySem.W.mg_of X G aie, kie⟩⟩
  have FIT := fun_mk (st := sEI) lIT cIT kIT
  have bIT := FIT.binds (ps := ["self", "value"]) fun _ _ _ _ _ _ us hl => match us, hl with | [_, _], _ => rfl
  have Fli := fun_mk (st := sLI) lli cli kli
  have bli := Fli.binds (ps := ["self", "text"]) fun _ _ _ _ _ _ us hl => match us, hl with | [_, _], _ => rfl
  let TC : TxC K mg := ⟨TL, ⟨CIT, fIT, _, PySem.W.mg_of X G aCIT, ⟨⟨nmIT, qIT, NIT, bsIT, bmIT, snIT, subIT, abIT, colIT, ddIT, m0IT, m1IT, m2IT, m3IT, m5IT, xIT, xrIT⟩, e1IT, e2IT, e3IT, e4IT⟩, aIT, e5IT, e6IT, FIT, bIT⟩, PySem.W.mg_none_of X G z_isinstance, PySem.W.mg_none_of X G z_str, CL, PySem.W.mg_of X G aCL, ⟨pgL, hdL, poL, saL⟩, nL0, nL1, nL2, nL3, nL4, fli, _, Fli, bli, ⟨mkL, ali, ili, kcL⟩⟩
  have Fiib := fun_mk (st := sIIB) liib ciib kiib
  have biib := Fiib.binds (ps := ["value", "low", "high"]) fun _ _ _ _ _ _ us hl => match us, hl with | [_, _, _], _ => rfl
  have Fisr := fun_mk (st := sISR) lisr cisr kisr
  have bisr := Fisr.binds (ps := ["value", "most"]) fun _ _ _ _ _ _ us hl => match us, hl with | [_, _], _ => rfl
  have Fcks := fun_mk (st := sCKS) lcks ccks kcks
  have bcks := Fcks.binds (ps := ["size"]) fun _ _ _ _ _ _ us hl => match us, hl with | [_], _ => rfl
  have Fckr := fun_mk (st := sCKR) lckr cckr kckr
  have bckr := Fckr.binds (ps := ["replies", "most"]) fun _ _ _ _ _ _ us hl => match us, hl with | [_, _], _ => rfl
  have FES := fun_mk (st := sES) lES cES kES
  have bES := FES.binds (ps := ["self", "value"]) fun _ _ _ _ _ _ us hl => match us, hl with | [_, _], _ => rfl
  have FER := fun_mk (st := sER) lER cER kER
  have bER := FER.binds (ps := ["self", "index"]) fun _ _ _ _ _ _ us hl => match us, hl with | [_, _], _ => rfl
  let TK : TxK K mg := ⟨PySem.W.mg_none_of X G z_isinstance, PySem.W.mg_none_of X G z_int, PySem.W.mg_none_of X G z_bool, PySem.W.mg_none_of X G z_tuple, PySem.W.mg_none_of X G z_len, PySem.W.mg_none_of X G z_enumerate, ⟨_, PySem.W.mg_of X G mMP⟩, ⟨_, PySem.W.mg_of X G mMI⟩, ⟨fiib, _, Fiib, biib, PySem.W.mg_of X G aiib, kiib⟩, ⟨fisr, _, Fisr, bisr, PySem.W.mg_of X G aisr, kisr⟩, ⟨fcks, _, Fcks, bcks, PySem.W.mg_of X G acks, kcks⟩, ⟨fckr, _, Fckr, bckr, PySem.W.mg_of X G ackr, kckr⟩, ⟨CES, fES, _, PySem.W.mg_of X G aCES, ⟨⟨nmES, qES, NES, bsES, bmES, snES, subES, abES, colES, ddES, m0ES, m1ES, m2ES, m3ES, m5ES, xES, xrES⟩, e1ES, e2ES, e3ES, e4ES⟩, aES, e5ES, e6ES, FES, bES⟩, ⟨CER, fER, _, PySem.W.mg_of X G aCER, ⟨⟨nmER, qER, NER, bsER, bmER, snER, subER, abER, colER, ddER, m0ER, m1ER, m2ER, m3ER, m5ER, xER, xrER⟩, e1ER, e2ER, e3ER, e4ER⟩, aER, e5ER, e6ER, FER, bER⟩⟩
  have Fxi := fun_mk (st := sXI) lxi cxi kxi
  have bxi := Fxi.binds (ps := ["self", "round_orders", "ending_orders", "size", "kept"]) fun _ _ _ _ _ _ us hl => match us, hl with | [_, _, _, _, _], _ => rfl
  have Fxa := fun_mk (st := sXA) lxa cxa kxa
  have bxa := Fxa.binds (ps := ["self", "held", "told"]) fun _ _ _ _ _ _ us hl => match us, hl with | [_, _, _], _ => rfl
  have Fxq := fun_mk (st := sXF) lxq cxq kxq
  have bxq := Fxq.binds (ps := ["self"]) fun _ _ _ _ _ _ us hl => match us, hl with | [_], _ => rfl
  have Fxp := fun_mk (st := sXP) lxp cxp kxp
  have bxp := Fxp.binds (ps := ["self", "test"]) fun _ _ _ _ _ _ us hl => match us, hl with | [_, _], _ => rfl
  have Fxr := fun_mk (st := sXR) lxr cxr kxr
  have bxr := Fxr.binds (ps := ["self", "step"]) fun _ _ _ _ _ _ us hl => match us, hl with | [_, _], _ => rfl
  have Fxc := fun_mk (st := sXC) lxc cxc kxc
  have bxc := Fxc.binds (ps := ["self"]) fun _ _ _ _ _ _ us hl => match us, hl with | [_], _ => rfl
  let TX : TxX K mg := ⟨PySem.W.mg_none_of X G z_len, PySem.W.mg_none_of X G z_range, CX, PySem.W.mg_of X G aCX, ⟨pgX, hdX, poX, saX⟩, nX0, nX1, nX2, nX3, nX4, nX5, nX6, nX7, nX8, fxi, _, Fxi, bxi, ⟨mkX, axi, ixi, kcX⟩, ⟨fxa, _, Fxa, bxa, ⟨axa, ixa, kxa⟩⟩, ⟨fxq, _, Fxq, bxq, ⟨axq, ixq, kxq⟩⟩, ⟨fxp, _, Fxp, bxp, ⟨axp, ixp, kxp⟩⟩, ⟨fxr, _, Fxr, bxr, ⟨axr, ixr, kxr⟩⟩, ⟨fxc, _, Fxc, bxc, ⟨axc, ixc, kxc⟩⟩⟩
  have Flx := fun_mk (st := sLX) llx clx klx
  have blx := Flx.binds (ps := ["self", "size", "kept"]) fun _ _ _ _ _ _ us hl => match us, hl with | [_, _, _], _ => rfl
  have Flt := fun_mk (st := sLT) llt clt klt
  have blt := Flt.binds (ps := ["self", "size", "replies"]) fun _ _ _ _ _ _ us hl => match us, hl with | [_, _, _], _ => rfl
  have Fln := fun_mk (st := sLN) lln cln kln
  have bln := Fln.binds (ps := ["self", "size", "replies"]) fun _ _ _ _ _ _ us hl => match us, hl with | [_, _, _], _ => rfl
  let TN : TxN K mg := ⟨TC, TX, TK, ⟨flx, _, Flx, blx, ⟨alx, ilx, klx⟩⟩, ⟨flt, _, Flt, blt, ⟨alt, ilt, klt⟩⟩, ⟨fln, _, Fln, bln, ⟨aln, iln, kln⟩⟩⟩
  have Fcki := fun_mk (st := sQI) lcki ccki kcki
  have bcki := Fcki.binds (ps := ["items"]) fun _ _ _ _ _ _ us hl => match us, hl with | [_], _ => rfl
  have Fckw := fun_mk (st := sQW) lckw cckw kckw
  have bckw := Fckw.binds (ps := ["word", "words"]) fun _ _ _ _ _ _ us hl => match us, hl with | [_, _], _ => rfl
  have FEI := fun_mk (st := sQE) lEI cEI kEI
  have bEI := FEI.binds (ps := ["self", "value"]) fun _ _ _ _ _ _ us hl => match us, hl with | [_, _], _ => rfl
  have Fui := fun_mk (st := sUI) lui cui kui
  have bui := Fui.binds (ps := ["self", "amount", "patience", "end"]) fun _ _ _ _ _ _ us hl => match us, hl with | [_, _, _, _], _ => rfl
  have Fual := fun_mk (st := sUA) lual cual kual
  have bual := Fual.binds (ps := ["self", "items", "size", "replies"]) fun _ _ _ _ _ _ us hl => match us, hl with | [_, _, _, _], _ => rfl
  have Fuca := fun_mk (st := sUC) luca cuca kuca
  have buca := Fuca.binds (ps := ["self", "left", "size", "count"]) fun _ _ _ _ _ _ us hl => match us, hl with | [_, _, _, _], _ => rfl
  have Fumu := fun_mk (st := sUM) lumu cumu kumu
  have bumu := Fumu.binds (ps := ["self", "before", "after"]) fun _ _ _ _ _ _ us hl => match us, hl with | [_, _, _], _ => rfl
  let TU : TxU K mg := ⟨TK, PySem.W.mg_none_of X G z_str, PySem.W.mg_none_of X G z_min, pUA, pUP, pUE, PySem.W.mg_of X G gUA, PySem.W.mg_of X G gUP, PySem.W.mg_of X G gUE, fun H => .inr ⟨_, _, _, tUA, rfl, rfl, (by show 2 ≤ sizeLine; decide), .cons ⟨_, rfl⟩ (.cons ⟨_, rfl⟩ (.nil))⟩, fun H => .inr ⟨_, _, _, tUP, rfl, rfl, (by show 2 ≤ sizeLine; decide), .cons ⟨_, rfl⟩ (.cons ⟨_, rfl⟩ (.nil))⟩, fun H => .inr ⟨_, _, _, tUE, rfl, rfl, (by show 3 ≤ sizeLine; decide), .cons ⟨_, rfl⟩ (.cons ⟨_, rfl⟩ (.cons ⟨_, rfl⟩ (.nil)))⟩, ⟨fcki, _, Fcki, bcki, PySem.W.mg_of X G acki, kcki⟩, ⟨fckw, _, Fckw, bckw, PySem.W.mg_of X G ackw, kckw⟩, ⟨CEI, fEI, _, PySem.W.mg_of X G aCEI, ⟨⟨nmEI, qEI, NEI, bsEI, bmEI, snEI, subEI, abEI, colEI, ddEI, m0EI, m1EI, m2EI, m3EI, m5EI, xEI, xrEI⟩, e1EI, e2EI, e3EI, e4EI⟩, aEI, e5EI, e6EI, FEI, bEI⟩, CU, PySem.W.mg_of X G aCU, ⟨pgU, hdU, poU, saU⟩, nU0, nU1, nU2, fui, _, Fui, bui, ⟨mkU, aui, iui, kcU⟩, ⟨fual, _, Fual, bual, ⟨aual, iual, kual⟩⟩, ⟨fuca, _, Fuca, buca, ⟨auca, iuca, kuca⟩⟩, ⟨fumu, _, Fumu, bumu, ⟨aumu, iumu, kumu⟩⟩⟩
  have Fcm := fun_mk (st := sCame) lcm ccm kcm
  have bcm := Fcm.binds (ps := ["_law_ask"]) fun _ _ _ _ _ _ us hl => match us, hl with | [_], _ => rfl
  let TCm : TxCm K mg := ⟨TU, PySem.W.mg_none_of X G z_ValueError, CInp, PySem.W.mg_of X G aCInp, ⟨⟨⟨x7EI, x8EI, e2EI, x9EI⟩, xAEI, xBEI, xg1, xg2, xCEI⟩, e6EI, kAEI, kBEI⟩, ⟨⟨⟨x7ER, x8ER, e2ER, x9ER⟩, xAER, xBER, xg1, xg2, xCER⟩, e6ER, kAER, kBER⟩, ⟨⟨⟨x7ES, x8ES, e2ES, x9ES⟩, xAES, xBES, xg1, xg2, xCES⟩, e6ES, kAES, kBES⟩, xEIEI, xEREI, xERER, xESEI, xESER, xESES, ⟨fcm, _, Fcm, bcm, PySem.W.mg_of X G acm, kcm⟩⟩
  have Fsl := fun_mk (st := sSL) lsl csl ksl
  have bsl := Fsl.binds (ps := []) fun _ _ _ _ _ _ us hl => match us, hl with | [], _ => rfl
  have Fss := fun_mk (st := sSS) lss css kss
  have bss := Fss.binds (ps := []) fun _ _ _ _ _ _ us hl => match us, hl with | [], _ => rfl
  let TSm : TxSm K mg := ⟨TC, TU, ⟨fsl, _, Fsl, bsl, PySem.W.mg_of X G asl, ksl⟩, ⟨fss, _, Fss, bss, PySem.W.mg_of X G ass, kss⟩⟩
  let TJ : TxtJ mg := ⟨PySem.W.mg_none_of X G z_len, PySem.W.mg_none_of X G z_int, PySem.W.mg_none_of X G z_abs, PySem.W.mg_none_of X G z_divmod⟩
  have Fsip := fun_mk (st := sSip) lsip csip ksip
  have bsip := Fsip.binds (ps := ["_law_jar_here", "_law_many"]) fun _ _ _ _ _ _ us hl => match us, hl with | [_, _], _ => rfl
  have Ffrm := fun_mk (st := sFrom) lfrm cfrm kfrm
  have bfrm := Ffrm.binds (ps := ["_law_jar_here", "_law_things"]) fun _ _ _ _ _ _ us hl => match us, hl with | [_, _], _ => rfl
  have Fbad := fun_mk (st := sBad) lbad cbad kbad
  have bbad := Fbad.binds (ps := ["_law_jar_here"]) fun _ _ _ _ _ _ us hl => match us, hl with | [_], _ => rfl
  have Fjar := fun_mk (st := sJar) ljar cjar kjar
  have bjar := Fjar.binds (ps := ["_law_script", "_law_k"]) fun _ _ _ _ _ _ us hl => match us, hl with | [_, _], _ => rfl
  have Frt := fun_mk (st := sRight) lrt crt krt
  have brt := Frt.binds (ps := ["_law_jar_here"]) fun _ _ _ _ _ _ us hl => match us, hl with | [_], _ => rfl
  have Flaw := fun_mk (st := sLaw) llaw claw klaw
  let R : TxR K mg := ⟨TN, TCm, TSm, rfl, rfl, rfl, TJ, PySem.W.mg_none_of X G z_repr, ⟨fsip, _, Fsip, bsip, PySem.W.mg_of X G asip, ksip⟩, ⟨ffrm, _, Ffrm, bfrm, PySem.W.mg_of X G afrm, kfrm⟩, ⟨fbad, _, Fbad, bbad, PySem.W.mg_of X G abad, kbad⟩⟩
  refine ⟨_, [(cR, PR)], spLaw K PR, fun p hp => ?_, fun p hp => ?_, fun p hp => ?_, fun s v => .of_eq rfl, fun H a ns hl hT hS => ?_, fun base _ _ sm hB => ok_law Flaw TJ (PySem.W.mg_none_of X G z_range) (PySem.W.mg_none_of X G z_all) 12 (ok_right Frt R rfl sm (hB (cR, PR) (List.mem_singleton.mpr rfl))) Fjar bjar (PySem.W.mg_of X G ajar) kjar (by decide) brt (PySem.W.mg_of X G art) krt (PySem.W.mg_none_of X G z_max) (PySem.W.mg_none_of X G z_min)⟩
  · cases List.mem_singleton.mp hp
    exact q5
  · cases List.mem_singleton.mp hp
    exact q4
  · cases List.mem_singleton.mp hp
    exact PySem.W.codeHd_of_K X q3
  · refine ⟨a, ns, rfl, hS, hl, fun p hp => ?_, fun _ => rfl⟩
    cases List.mem_singleton.mp hp
    exact LamX.TabS.nil (hT (cR, PR) (List.mem_singleton.mpr rfl))
end My
open PySem PySem.W PyProof.Rows in
set_option maxRecDepth 100000 in
set_option maxHeartbeats 0 in
theorem PySem.Challenge.cw_lastshort_k09_runs_and_replies_refused_holds : PySem.Challenge.rw_lastshort_k09_runs_and_replies_refused.Holds := by
  w_on; o_law; k_head; (case hw => w_witness2)
  k_fill
  refine Gd.walk_ofG (l := PySem.Challenge.rw_lastshort_k09_runs_and_replies_refused) (n := 63) (k := 13) (x := "_law_script") rfl (by decide) rfl (by decide +kernel) ⟨rfl, by decide, by decide⟩ (fun w h Y => PySem.W.km_in_of Y) ?F
  case F =>
    intro w mg fa h Y KX G hmg
    refine' My.all_mk KX G hmg ?gT ?tT ?gR ?tR ?gE ?tE ?mB ?mMR ?mME ?awo ?lwo ?cwo ?kwo ?aoo ?loo ?coo ?koo ?aiw ?liw ?ciw ?kiw ?aaw ?law ?caw ?kaw ?air ?lir ?cir ?kir ?aie ?lie ?cie ?kie ?aCIT ?aIT ?iIT ?lIT ?cIT ?kIT ?xIT ?xrIT ?e1IT ?e2IT ?e3IT ?e4IT ?e5IT ?e6IT ?aCL ?pgL ?hdL ?poL ?saL ?mkL ?kcL ?nL0 ?nL1 ?nL2 ?nL3 ?nL4 ?ali ?ili ?lli ?cli ?kli ?mMP ?mMI ?aiib ?liib ?ciib ?kiib ?aisr ?lisr ?cisr ?kisr ?acks ?lcks ?ccks ?kcks ?ackr ?lckr ?cckr ?kckr ?aCES ?aES ?iES ?lES ?cES ?kES ?xES ?xrES ?e1ES ?e2ES ?e3ES ?e4ES ?e5ES ?e6ES ?aCER ?aER ?iER ?lER ?cER ?kER ?xER ?xrER ?e1ER ?e2ER ?e3ER ?e4ER ?e5ER ?e6ER ?aCX ?pgX ?hdX ?poX ?saX ?mkX ?kcX ?nX0 ?nX1 ?nX2 ?nX3 ?nX4 ?nX5 ?nX6 ?nX7 ?nX8 ?axi ?ixi ?lxi ?cxi ?kxi ?axa ?ixa ?lxa ?cxa ?kxa ?axq ?ixq ?lxq ?cxq ?kxq ?axp ?ixp ?lxp ?cxp ?kxp ?axr ?ixr ?lxr ?cxr ?kxr ?axc ?ixc ?lxc ?cxc ?kxc ?alx ?ilx ?llx ?clx ?klx ?alt ?ilt ?llt ?clt ?klt ?aln ?iln ?lln ?cln ?kln ?gUA ?tUA ?gUP ?tUP ?gUE ?tUE ?acki ?lcki ?ccki ?kcki ?ackw ?lckw ?cckw ?kckw ?aCEI ?aEI ?iEI ?lEI ?cEI ?kEI ?xEI ?xrEI ?e1EI ?e2EI ?e3EI ?e4EI ?e5EI ?e6EI ?aCU ?pgU ?hdU ?poU ?saU ?mkU ?kcU ?nU0 ?nU1 ?nU2 ?aui ?iui ?lui ?cui ?kui ?aual ?iual ?lual ?cual ?kual ?auca ?iuca ?luca ?cuca ?kuca ?aumu ?iumu ?lumu ?cumu ?kumu ?aCInp ?x7EI ?x8EI ?x9EI ?xAEI ?xBEI ?xg1 ?xg2 ?xCEI ?kAEI ?kBEI ?x7ER ?x8ER ?x9ER ?xAER ?xBER ?xCER ?kAER ?kBER ?x7ES ?x8ES ?x9ES ?xAES ?xBES ?xCES ?kAES ?kBES ?xEIEI ?xEREI ?xERER ?xESEI ?xESER ?xESES ?acm ?lcm ?ccm ?kcm ?asl ?lsl ?csl ?ksl ?ass ?lss ?css ?kss ?asip ?lsip ?csip ?ksip ?afrm ?lfrm ?cfrm ?kfrm ?abad ?lbad ?cbad ?kbad ?ajar ?ljar ?cjar ?kjar ?art ?lrt ?crt ?krt ?alaw ?llaw ?claw ?klaw ?q1 ?q2 ?q3 ?q4 ?q5 ?z_tuple ?z_len ?z_all ?z_isinstance ?z_str ?z_int ?z_bool ?z_enumerate ?z_range ?z_min ?z_ValueError ?z_abs ?z_divmod ?z_repr ?z_max
    (case gT => k_is)
    (case tT => k_is)
    (case gR => k_is)
    (case tR => k_is)
    (case gE => k_is)
    (case tE => k_is)
    (case mB => k_is)
    (case mMR => k_is)
    (case mME => k_is)
    (case awo => k_is)
    (case lwo => k_is)
    (case cwo => k_is)
    (case kwo => k_is)
    (case aoo => k_is)
    (case loo => k_is)
    (case coo => k_is)
    (case koo => k_is)
    (case aiw => k_is)
    (case liw => k_is)
    (case ciw => k_is)
    (case kiw => k_is)
    (case aaw => k_is)
    (case law => k_is)
    (case caw => k_is)
    (case kaw => k_is)
    (case air => k_is)
    (case lir => k_is)
    (case cir => k_is)
    (case kir => k_is)
    (case aie => k_is)
    (case lie => k_is)
    (case cie => k_is)
    (case kie => k_is)
    (case aCIT => k_is)
    (case aIT => k_is)
    (case iIT => k_is)
    (case lIT => k_is)
    (case cIT => k_is)
    (case kIT => k_is)
    (case xIT => k_is)
    (case xrIT => decide +kernel)
    (case e1IT => k_is)
    (case e2IT => k_is)
    (case e3IT => k_is)
    (case e4IT => k_is)
    (case e5IT => k_is)
    (case e6IT => k_is)
    (case aCL => k_is)
    (case pgL => k_is)
    (case hdL => k_is)
    (case poL => k_is)
    (case saL => k_is)
    (case mkL => k_is)
    (case kcL => k_is)
    (case nL0 => k_is)
    (case nL1 => k_is)
    (case nL2 => k_is)
    (case nL3 => k_is)
    (case nL4 => k_is)
    (case ali => k_is)
    (case ili => k_is)
    (case lli => k_is)
    (case cli => k_is)
    (case kli => k_is)
    (case mMP => k_is)
    (case mMI => k_is)
    (case aiib => k_is)
    (case liib => k_is)
    (case ciib => k_is)
    (case kiib => k_is)
    (case aisr => k_is)
    (case lisr => k_is)
    (case cisr => k_is)
    (case kisr => k_is)
    (case acks => k_is)
    (case lcks => k_is)
    (case ccks => k_is)
    (case kcks => k_is)
    (case ackr => k_is)
    (case lckr => k_is)
    (case cckr => k_is)
    (case kckr => k_is)
    (case aCES => k_is)
    (case aES => k_is)
    (case iES => k_is)
    (case lES => k_is)
    (case cES => k_is)
    (case kES => k_is)
    (case xES => k_is)
    (case xrES => decide +kernel)
    (case e1ES => k_is)
    (case e2ES => k_is)
    (case e3ES => k_is)
    (case e4ES => k_is)
    (case e5ES => k_is)
    (case e6ES => k_is)
    (case aCER => k_is)
    (case aER => k_is)
    (case iER => k_is)
    (case lER => k_is)
    (case cER => k_is)
    (case kER => k_is)
    (case xER => k_is)
    (case xrER => decide +kernel)
    (case e1ER => k_is)
    (case e2ER => k_is)
    (case e3ER => k_is)
    (case e4ER => k_is)
    (case e5ER => k_is)
    (case e6ER => k_is)
    (case aCX => k_is)
    (case pgX => k_is)
    (case hdX => k_is)
    (case poX => k_is)
    (case saX => k_is)
    (case mkX => k_is)
    (case kcX => k_is)
    (case nX0 => k_is)
    (case nX1 => k_is)
    (case nX2 => k_is)
    (case nX3 => k_is)
    (case nX4 => k_is)
    (case nX5 => k_is)
    (case nX6 => k_is)
    (case nX7 => k_is)
    (case nX8 => k_is)
    (case axi => k_is)
    (case ixi => k_is)
    (case lxi => k_is)
    (case cxi => k_is)
    (case kxi => k_is)
    (case axa => k_is)
    (case ixa => k_is)
    (case lxa => k_is)
    (case cxa => k_is)
    (case kxa => k_is)
    (case axq => k_is)
    (case ixq => k_is)
    (case lxq => k_is)
    (case cxq => k_is)
    (case kxq => k_is)
    (case axp => k_is)
    (case ixp => k_is)
    (case lxp => k_is)
    (case cxp => k_is)
    (case kxp => k_is)
    (case axr => k_is)
    (case ixr => k_is)
    (case lxr => k_is)
    (case cxr => k_is)
    (case kxr => k_is)
    (case axc => k_is)
    (case ixc => k_is)
    (case lxc => k_is)
    (case cxc => k_is)
    (case kxc => k_is)
    (case alx => k_is)
    (case ilx => k_is)
    (case llx => k_is)
    (case clx => k_is)
    (case klx => k_is)
    (case alt => k_is)
    (case ilt => k_is)
    (case llt => k_is)
    (case clt => k_is)
    (case klt => k_is)
    (case aln => k_is)
    (case iln => k_is)
    (case lln => k_is)
    (case cln => k_is)
    (case kln => k_is)
    (case gUA => k_is)
    (case tUA => k_is)
    (case gUP => k_is)
    (case tUP => k_is)
    (case gUE => k_is)
    (case tUE => k_is)
    (case acki => k_is)
    (case lcki => k_is)
    (case ccki => k_is)
    (case kcki => k_is)
    (case ackw => k_is)
    (case lckw => k_is)
    (case cckw => k_is)
    (case kckw => k_is)
    (case aCEI => k_is)
    (case aEI => k_is)
    (case iEI => k_is)
    (case lEI => k_is)
    (case cEI => k_is)
    (case kEI => k_is)
    (case xEI => k_is)
    (case xrEI => decide +kernel)
    (case e1EI => k_is)
    (case e2EI => k_is)
    (case e3EI => k_is)
    (case e4EI => k_is)
    (case e5EI => k_is)
    (case e6EI => k_is)
    (case aCU => k_is)
    (case pgU => k_is)
    (case hdU => k_is)
    (case poU => k_is)
    (case saU => k_is)
    (case mkU => k_is)
    (case kcU => k_is)
    (case nU0 => k_is)
    (case nU1 => k_is)
    (case nU2 => k_is)
    (case aui => k_is)
    (case iui => k_is)
    (case lui => k_is)
    (case cui => k_is)
    (case kui => k_is)
    (case aual => k_is)
    (case iual => k_is)
    (case lual => k_is)
    (case cual => k_is)
    (case kual => k_is)
    (case auca => k_is)
    (case iuca => k_is)
    (case luca => k_is)
    (case cuca => k_is)
    (case kuca => k_is)
    (case aumu => k_is)
    (case iumu => k_is)
    (case lumu => k_is)
    (case cumu => k_is)
    (case kumu => k_is)
    (case aCInp => k_is)
    (case x7EI => k_is)
    (case x8EI => k_is)
    (case x9EI => k_is)
    (case xAEI => kernel_rfl)
    (case xBEI => k_is)
    (case xg1 => k_is)
    (case xg2 => k_is)
    (case xCEI => k_is)
    (case kAEI => kernel_rfl)
    (case kBEI => kernel_rfl)
    (case x7ER => k_is)
    (case x8ER => k_is)
    (case x9ER => k_is)
    (case xAER => kernel_rfl)
    (case xBER => k_is)
    (case xCER => k_is)
    (case kAER => kernel_rfl)
    (case kBER => kernel_rfl)
    (case x7ES => k_is)
    (case x8ES => k_is)
    (case x9ES => k_is)
    (case xAES => kernel_rfl)
    (case xBES => k_is)
    (case xCES => k_is)
    (case kAES => kernel_rfl)
    (case kBES => kernel_rfl)
    (case xEIEI => kernel_rfl)
    (case xEREI => kernel_rfl)
    (case xERER => kernel_rfl)
    (case xESEI => kernel_rfl)
    (case xESER => kernel_rfl)
    (case xESES => kernel_rfl)
    (case acm => k_is)
    (case lcm => k_is)
    (case ccm => k_is)
    (case kcm => k_is)
    (case asl => k_is)
    (case lsl => k_is)
    (case csl => k_is)
    (case ksl => k_is)
    (case ass => k_is)
    (case lss => k_is)
    (case css => k_is)
    (case kss => k_is)
    (case asip => k_is)
    (case lsip => k_is)
    (case csip => k_is)
    (case ksip => k_is)
    (case afrm => k_is)
    (case lfrm => k_is)
    (case cfrm => k_is)
    (case kfrm => k_is)
    (case abad => k_is)
    (case lbad => k_is)
    (case cbad => k_is)
    (case kbad => k_is)
    (case ajar => k_is)
    (case ljar => k_is)
    (case cjar => k_is)
    (case kjar => k_is)
    (case art => k_is)
    (case lrt => k_is)
    (case crt => k_is)
    (case krt => k_is)
    (case alaw => k_is)
    (case llaw => k_is)
    (case claw => k_is)
    (case klaw => k_is)
    (case q1 => k_is)
    (case q2 => rfl)
    (case q3 => kernel_rfl)
    (case q4 => kernel_rfl)
    (case q5 => exact PySem.W.km_tabs_of Y _ (by decide))
    (case z_tuple => k_is)
    (case z_len => k_is)
    (case z_all => k_is)
    (case z_isinstance => k_is)
    (case z_str => k_is)
    (case z_int => k_is)
    (case z_bool => k_is)
    (case z_enumerate => k_is)
    (case z_range => k_is)
    (case z_min => k_is)
    (case z_ValueError => k_is)
    (case z_abs => k_is)
    (case z_divmod => k_is)
    (case z_repr => k_is)
    (case z_max => k_is)
