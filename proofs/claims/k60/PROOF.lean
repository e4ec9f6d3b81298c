import PyProof.Rows.All
import Wide.All
import OpenK.AllK
import Wide.FinOn
import HandS.ForMost
import HandS.Codes
import HandS.IsInst
import HandS.TupAny
import HandS.SlotsOwn
import HandS.ExcInit
import HandS.ExcField
import HandS.WordsExc
import KE.KCallOwn
import OpenK.KOps
import HandS.FStr
import HandS.RaiseMore
import HandS.HeadHook3
import HandS.Deep
import PyProof.InstEq
import HandS.HotCalls
import PyProof.ReprRoads
import HandS.Lambda
import HandS.OwnEq
import HandS.TryMany
import KE.KExcIs
import HandS.ExcIs
import HandS.TupMul
import HandS.CallLocal
import PyProof.ReprReads
import PySem.Challenge.RW_lastshort_k60_chains_refused
set_option Elab.async false
set_option linter.all false
set_option maxRecDepth 100000
set_option maxHeartbeats 8000000
/-! the draws of the law: jar, sip, from -/
namespace My
open PySem L2
def top (i : Nat) : Stmt := PySem.Challenge.pw_lastshort_k60_chains_refused.main.body.getD i (.Pass ⟨0, 0, 0, 0⟩)
abbrev sJar : Stmt := top 46
abbrev sSip : Stmt := top 47
abbrev sFrom : Stmt := top 48
/-! ### heaps -/
/-- all but what stands at j is as it was -/
def Off (j : Addr) (H H' : Hp) : Prop := ∀ b o, b ≠ j → H b = some o → H' b = some o
theorem Off.refl {j : Addr} {H : Hp} : Off j H H := fun _ _ _ e => e
theorem Off.trans {j : Addr} {H H1 H2 : Hp} (a : Off j H H1) (b : Off j H1 H2) : Off j H H2 := fun c o n e => b c o n (a c o n e)
theorem Off.new {j p : Addr} {H H1 : Hp} {o : HO} (a : Off j H H1) (n : H1 p = none) : Off j H (upd H1 p o) := fun b u nb e => by
  rw [upd_ne (ne_of_none (a b u nb e) n)]
  exact a b u nb e
theorem Off.put {j : Addr} {H H1 : Hp} {o : HO} (a : Off j H H1) : Off j H (upd H1 j o) := fun b u nb e => by
  rw [upd_ne nb]
  exact a b u nb e
theorem Off.seq {K : PySem.W.Frag} {j a : Addr} {H H' : Hp} {xs : List V} (e : Off j H H') (n : a ≠ j) (h : SqL K H a xs) : SqL K H' a xs := by
  rcases h with (h | ⟨o, h⟩) | h
  · exact .inl (.inl (e _ _ n h))
  · exact .inl (.inr ⟨o, e _ _ n h⟩)
  · exact .inr h
theorem Off.set {K : PySem.W.Frag} {j a : Addr} {H H' : Hp} {xs : List V} (e : Off j H H') (n : a ≠ j) (h : SqT K H a xs) : SqT K H' a xs := by
  rcases h with (h | ⟨o, h⟩) | h
  · exact .inl (.inl (e _ _ n h))
  · exact .inl (.inr ⟨o, e _ _ n h⟩)
  · exact .inr h
theorem Off.same {j : Addr} {H0 H H' : Hp} (e : Off j H H') (s : Same H0 H) (n : H0 j = none) : Same H0 H' := fun b o q => e b o (fun z => by rw [z, n] at q; cases q) (s b o q)
theorem same_upd {H : Hp} {p : Addr} {o : HO} (h : H p = none) : Same H (upd H p o) := fun b x e => by
  rw [upd_ne (ne_of_none e h)]
  exact e
theorem Same.off {j : Addr} {H H' : Hp} (s : Same H H') : Off j H H' := fun b o _ e => s b o e
/-- a jar: three whole numbers -/
def Jar (H : Hp) (j : Addr) : Prop := ∃ a b c : Int, H j = some (.lst [.int a, .int b, .int c])
theorem Jar.new {H : Hp} {j p : Addr} {o : HO} (a : Jar H j) (n : H p = none) : Jar (upd H p o) j := by
  obtain ⟨x, y, z, h⟩ := a
  exact ⟨x, y, z, by rw [upd_ne (ne_of_none h n)]; exact h⟩
theorem Jar.same {H H' : Hp} {j : Addr} (a : Jar H j) (s : Same H H') : Jar H' j := by
  obtain ⟨x, y, z, h⟩ := a
  exact ⟨x, y, z, s _ _ h⟩
/-! ### promises -/
def spSip : Sp := fun vs H Q _ => ∃ (j : Addr) (m : Int), vs = [.ref j, .int m] ∧ Jar H j ∧ 0 < m ∧ m < 1073741824 ∧
  ∀ (H' : Hp) (d : Int), 0 ≤ d → d < m → Off j H H' → Jar H' j → Q (.int d) H'
def spFrom (K : PySem.W.Frag) : Sp := fun vs H Q _ => ∃ (j p : Addr) (xs : List V), vs = [.ref j, .ref p] ∧ Jar H j ∧ p ≠ j ∧ SqL K H p xs ∧ 0 < xs.length ∧ xs.length < 1073741824 ∧
  ∀ (H' : Hp) (i : Nat) (x : V), xs[i]? = some x → Off j H H' → Jar H' j → Q x H'
def spJar (K : PySem.W.Frag) : Sp := fun vs H Q _ => ∃ (a : Addr) (ns : List Int) (k : Nat), vs = [.ref a, .int k] ∧ SqL K H a (ns.map V.int) ∧ ns.length ≤ 63 ∧
  ∀ (H' : Hp) (j : Addr), Same H H' → H j = none → Jar H' j → Q (.ref j) H'
/-- the built-ins of the draws are still the built-ins -/
structure TxtJ (mg : Str → Option Value) : Prop where
  len : mg "len" = none
  int : mg "int" = none
  abs : mg "abs" = none
  divmod : mg "divmod" = none
section
variable {P : Program} {w : World} {K : PySem.W.Frag} {mg : Str → Option Value} {base : Heap}
theorem scSip : FnScope ["_law_jar_here", "_law_many", "_law_digit"] ["_law_jar_here", "_law_many"] (defScope sSip) := ⟨rfl, rfl, rfl, by decide +kernel, rfl, by decide +kernel, by decide +kernel⟩
theorem ok_sip {f : Addr} {fd : FuncData} (F : Fun K "_law_sip" "_law_sip" sSip f fd) (T : TxtJ mg) : FnOk P w K mg base CX0 1 f fd ["_law_jar_here", "_law_many"] spSip := by
  refine F.ok scSip (fun vs H Q E h => ?_) (fun cdv A outer s H vs Q E hr h => ?_)
  · obtain ⟨j, m, rfl, _⟩ := h
    rfl
  · obtain ⟨j, m, rfl, ⟨a, b, c, hj⟩, m0, m1, k⟩ := h
    refine ⟨_, pss_cons (ps_asg (pe_op op_add (pe_ix ix_list (pv 0) pe_int (fun _ _ => rfl)) pe_int) (pg_sub (pv 0) pe_int set_list))
      (pss_cons (ps_if (pt_cmpR op_gt (pe_ix ix_list (pv 0) pe_int (fun _ _ => rfl)) pe_int (nomark _))
        (pss_cons (ps_asg (pe_callB call_divmod (by rfl) T.divmod (by decide +kernel) (pa_cons (pe_callTy call_int1 (by rfl) T.int (by decide +kernel) (pa_cons (pe_ix ix_list (pv 0) pe_int (fun _ _ => rfl)) pa_nil)) (pa_cons (pv 1) pa_nil)))
            (pg_tup (by rfl) (pgs_cons (pg_sub (pv 0) pe_int set_list) (pgs_cons (pg_name (i := 2) scSip.nd rfl (.inl rfl)) pgs_nil))))
          (pss_one (ps_ret (pv 2)))) pss_nil)
      (pss_cons (ps_asg (pe_op op_mod (pe_callTy call_int1 (by rfl) T.int (by decide +kernel) (pa_cons (pe_op op_add (pe_op op_add (pe_op op_mul (pe_ix ix_list (pv 0) pe_int (fun _ _ => rfl)) pe_int) (pe_op op_mul (pe_ix ix_list (pv 0) pe_int (fun _ _ => rfl)) pe_int))
            (pe_op op_mul (pe_op op_fdiv (pe_ix ix_list (pv 0) pe_int (fun _ _ => rfl)) pe_int) pe_int)) pa_nil)) pe_int) (pg_sub (pv 0) pe_int set_list))
      (pss_one (ps_ret (pe_op op_mod (pe_callTy call_int1 (by rfl) T.int (by decide +kernel) (pa_cons (pe_op op_fdiv (pe_ix ix_list (pv 0) pe_int (fun _ _ => rfl)) pe_int) pa_nil)) (pv 1)))))), ?_⟩
    -- jar[2] = jar[2] + 1
    refine ⟨_, rfl, j, _, 2, _, rfl, rfl, SqL.of hj, rfl, _, _, rfl, rfl, _, rfl, j, _, 2, 2, rfl, rfl, hj, rfl, ?_⟩
    -- if jar[0] > 0
    refine ⟨_, rfl, j, _, 0, _, rfl, rfl, SqL.of upd_same, rfl, _, _, rfl, rfl, _, rfl, ?_⟩
    have o1 : Off j H (upd H j (.lst [.int a, .int b, .int (c + 1)])) := Off.put Off.refl
    refine ite2 (fun _ => ?_) (fun _ => ?_)
    · refine ⟨_, rfl, j, _, 0, _, rfl, rfl, SqL.of upd_same, rfl, .inl ⟨_, rfl, _, rfl, a, m, rfl, ⟨m0, m1⟩, fun p np => ?_⟩⟩
      have npj : p ≠ j := fun e => by
        rw [e, upd_same] at np
        cases np
      refine ⟨p, _, rfl, SqT.of upd_same, rfl, _, _, rfl, _, rfl, j, _, 0, 0, rfl, rfl, (by rw [upd_ne npj.symm]; exact upd_same), rfl, _, _, rfl, rfl, ?_⟩
      refine ⟨_, rfl, ?_⟩
      exact k _ _ (Int.emod_nonneg _ (by omega)) (Int.emod_lt_of_pos _ m0) (Off.put (Off.new o1 np)) ⟨_, _, _, upd_same⟩
    · refine ⟨_, rfl, j, _, 1, _, rfl, rfl, SqL.of upd_same, rfl, _, _, rfl, rfl, .inr (by decide), ?_⟩
      refine ⟨_, rfl, j, _, 2, _, rfl, rfl, SqL.of upd_same, rfl, _, _, rfl, rfl, .inr (by decide), _, _, rfl, rfl, ?_⟩
      refine ⟨_, rfl, j, _, 1, _, rfl, rfl, SqL.of upd_same, rfl, _, _, rfl, rfl, ⟨by decide, by decide⟩, _, _, rfl, rfl, .inr (by decide), _, _, rfl, rfl, .inl ⟨_, rfl, _, _, rfl, rfl, (by show (0 : Int) < 1999999927; decide), ?_⟩⟩
      refine ⟨_, rfl, j, _, 1, 1, rfl, rfl, upd_same, rfl, ?_⟩
      refine ⟨_, rfl, j, _, 1, _, rfl, rfl, SqL.of upd_same, rfl, _, _, rfl, rfl, ⟨by decide, by decide⟩, .inl ⟨_, rfl, _, rfl, _, _, rfl, rfl, m0, ?_⟩⟩
      exact k _ _ (Int.emod_nonneg _ (by omega)) (Int.emod_lt_of_pos _ m0) (Off.put o1) ⟨_, _, _, upd_same⟩

/-! ### from -/
structure TxtS (K : PySem.W.Frag) (mg : Str → Option Value) (fS : Addr) : Prop where
  g : mg "_law_sip" = some (.ref fS)
  k : PySem.W.keepIn K (.ref fS) = true
theorem scFrom : FnScope ["_law_jar_here", "_law_things"] ["_law_jar_here", "_law_things"] (defScope sFrom) := ⟨rfl, rfl, rfl, by decide +kernel, rfl, by decide +kernel, by decide +kernel⟩
theorem ok_from {f fS : Addr} {fd fdS : FuncData} (F : Fun K "_law_from" "_law_from" sFrom f fd) (T : TxtJ mg) (S : TxtS K mg fS) (FS : Fun K "_law_sip" "_law_sip" sSip fS fdS) (bS : Binds K fdS ["_law_jar_here", "_law_many"] []) :
    FnOk P w K mg base CX0 2 f fd ["_law_jar_here", "_law_things"] (spFrom K) := by
  have GS : FnOk P w K mg base CX0 1 fS fdS ["_law_jar_here", "_law_many"] spSip := ok_sip FS T
  refine F.ok scFrom (fun vs H Q E h => ?_) (fun cdv A outer s H vs Q E hr h => ?_)
  · obtain ⟨j, p, xs, rfl, _⟩ := h
    rfl
  · obtain ⟨j, p, xs, rfl, hJ, npj, hS, l0, l1, k⟩ := h
    refine ⟨_, pss_one (ps_ret (pe_ix ix_list (pv 1) (pe_call GS hr rfl S.g S.k bS .nil pass0 (pa_cons (pv 0) (pa_cons (pe_callB call_len_seq (by rfl) T.len PySem.boot_len (pa_cons (pv 1) pa_nil)) pa_nil))) (fun _ _ => rfl))), ?_⟩
    refine ⟨_, rfl, _, rfl, _, rfl, p, xs, rfl, .inl hS, j, _, rfl, hJ, by omega, by omega, fun H' d d0 d1 o J => ?_⟩
    obtain ⟨n, rfl⟩ := Int.eq_ofNat_of_zero_le d0
    have hn : n < xs.length := by omega
    exact ⟨p, xs, _, xs[n], rfl, rfl, o.seq npj hS, atI_nat (List.getElem?_eq_getElem hn), k H' n _ (List.getElem?_eq_getElem hn) o J⟩
/-! ### jar -/
theorem scJar : FnScope ["_law_script", "_law_k", "_law_own", "_law_mixed", "_law_entry"] ["_law_script", "_law_k"] (defScope sJar) := ⟨rfl, rfl, rfl, by decide +kernel, rfl, by decide +kernel, by decide +kernel⟩
theorem int_of_map {ns : List Int} {i : Nat} {y : V} (h : (ns.map V.int)[i]? = some y) : ∃ u, y = V.int u := by
  rw [List.getElem?_map] at h
  cases e : ns[i]? with
  | none =>
    rw [e] at h
    cases h
  | some u =>
    rw [e] at h
    exact ⟨u, (Option.some.inj h).symm⟩
theorem cut_map (ns : List Int) (lo hi : Option Int) : ∃ ms : List Int, cutV (ns.map V.int) lo hi = ms.map V.int :=
  ⟨(ns.drop (HT.sIx (ns.map V.int).length 0 lo)).take (HT.sIx (ns.map V.int).length (ns.map V.int).length hi - HT.sIx (ns.map V.int).length 0 lo), by
    unfold cutV
    rw [List.map_take, List.map_drop]⟩
theorem ok_jar {f : Addr} {fd : FuncData} (F : Fun K "_law_jar" "_law_jar" sJar f fd) (T : TxtJ mg) : FnOk P w K mg base CX0 1 f fd ["_law_script", "_law_k"] (spJar K) := by
  refine F.ok scJar (fun vs H Q E h => ?_) (fun cdv A outer s H vs Q E hr h => ?_)
  · obtain ⟨a, ns, k, rfl, _⟩ := h
    rfl
  · obtain ⟨a, ns, k, rfl, hS, hl, q⟩ := h
    refine ⟨_, C8.pss_cut (ps_set (i := 2) scJar.nd rfl (.inl rfl) (pe_ifExp (pt_cmpR op_lt (pv 1) (pe_callB call_len_seq (by rfl) T.len PySem.boot_len (pa_cons (pv 0) pa_nil)) (nomark _))
          (pe_callTy call_int1 (by rfl) T.int (by decide +kernel) (pa_cons (pe_ix ix_list (pv 0) (pv 1) (fun _ _ => rfl)) pa_nil)) (pe_op op_add (pe_op op_mul pe_int (pv 1)) pe_int)))
      (pss_cons (ps_set (i := 3) scJar.nd rfl (.inl rfl) (pe_op op_add pe_int (pe_op op_mul pe_int (pv 1))))
      (pss_cons (ps_for PassesOwn.never rfl (pi_list (pe_slice sl_list (pv 0) po_none (po_some pe_int))) (pg_name (i := 4) scJar.nd rfl (.inl rfl))
        (pss_one (ps_set (i := 3) scJar.nd rfl (.inl rfl) (pe_op op_mod (pe_callTy call_int1 (by rfl) T.int (by decide +kernel) (pa_cons (pe_op op_add (pe_op op_mul (pv 3) pe_int) (pe_op op_mod (pe_callTy call_int1 (by rfl) T.int (by decide +kernel) (pa_cons (pv 4) pa_nil)) pe_int)) pa_nil)) pe_int))))
      (pss_one (ps_ret (pe_lst (pa_cons (pe_ifExp (PW.pt (pw_or (pt_cmpR op_lt (pv 2) pe_int (nomark _)) (pw_or1 (pt_cmpR op_ge (pv 2) (pe_op op_pow pe_int pe_int) (nomark _))))) (pe_callB call_abs (by rfl) T.abs (by decide +kernel) (pa_cons (pv 2) pa_nil)) pe_int)
        (pa_cons (pe_op op_mod (pe_callTy call_int1 (by rfl) T.int (by decide +kernel) (pa_cons (pe_op op_add (pe_op op_mul (pv 3) pe_int) (pe_op op_mod (pv 2) pe_int)) pa_nil)) pe_int) (pa_cons pe_int pa_nil)))))))), ?_⟩
    refine ⟨fun σ H' => H = H' ∧ ∃ own : Int, σ = [some (.ref a), some (.int k), some (.int own), none, none], ?_, ?_⟩
    · refine ⟨_, rfl, _, rfl, a, _, rfl, .inl hS, _, _, rfl, rfl, _, rfl, ?_⟩
      refine ite2 (fun c => ?_) (fun c => ?_)
      · have hk : k < ns.length := by
          have c' := of_decide_eq_true c
          rw [List.length_map] at c'
          omega
        exact ⟨_, rfl, _, rfl, a, _, _, .int ns[k], rfl, rfl, hS, atI_nat (by rw [List.getElem?_map, List.getElem?_eq_getElem hk]; rfl), .inl ⟨_, rfl, rfl, _, rfl⟩⟩
      · exact ⟨_, rfl, _, _, rfl, rfl, .inl (by decide), _, _, rfl, rfl, rfl, _, rfl⟩
    · rintro _ _ ⟨rfl, own, rfl⟩
      refine ⟨_, rfl, _, _, rfl, rfl, .inl (by decide), _, _, rfl, rfl, ?_⟩
      refine ⟨_, rfl, 13, rfl, a, _, rfl, hS, fun p np => ?_⟩
      obtain ⟨ms, ems⟩ := cut_map ns none (some 13)
      rw [ems]
      refine ⟨p, rfl, ⟨_, SqL.of upd_same⟩, for_list (K := K) (a := p) (xs := ms.map V.int) (fun i σ H' => ∃ (mx : Int) (v : Option V), σ = [some (.ref a), some (.int k), some (.int own), some (.int mx), v] ∧ H' = upd H p (.lst (ms.map V.int)))
        ⟨_, none, rfl, rfl⟩ (fun i σ H' _ ⟨_, _, _, e⟩ => by rw [e]; exact SqL.of upd_same) ?_ ?_⟩
      · rintro i y σ H' hi ⟨mx, v, rfl, rfl⟩
        obtain ⟨u, rfl⟩ := int_of_map hi
        refine ⟨_, rfl, _, _, rfl, rfl, .inr (by decide), ?_⟩
        refine ⟨_, rfl, .inl ⟨_, rfl, _, _, rfl, rfl, (by show (0 : Int) < 1999999927; decide), _, _, rfl, rfl, .inl ⟨_, rfl, _, _, rfl, rfl, (by show (0 : Int) < 1999999927; decide), ?_⟩⟩⟩
        exact ⟨_, _, rfl, rfl⟩
      · rintro σ H' ⟨mx, v, rfl, rfl⟩
        have fin : ∀ (x : Int), tCons (tOp (rI (fun x j => 0 < j) fun i j => V.int (i % j)) (tCB (fun xs H Q => (∃ i, xs = [V.int i] ∧ Q (V.int i) H) ∨ ∃ k, xs = [V.bl k] ∧ Q (V.int (if k = true then 1 else 0)) H)
            (tCons (tOp (rI0 fun i j => V.int (i + j)) (tOp (rI CMul fun i j => V.int (i * j)) (tVar 3) (tC (V.int 5))) (tOp (rI (fun x j => 0 < j) fun i j => V.int (i % j)) (tVar 2) (tC (V.int 1999999927)))) tNil)) (tC (V.int 1999999927)))
          (tCons (tC (V.int 0)) tNil) [some (.ref a), some (.int k), some (.int own), some (.int mx), v] (upd H p (.lst (ms.map V.int))) (fun xs H1 => (V.int x :: xs).length ≤ sizeLine ∧ ∀ p, H1 p = none → Q (.ref p) (upd H1 p (.lst (V.int x :: xs)))) := by
          intro x
          refine ⟨_, rfl, _, _, rfl, rfl, .inr (by decide), _, rfl, _, _, rfl, rfl, (by show (0 : Int) < 1999999927; decide), _, _, rfl, rfl, .inl ⟨_, rfl, _, _, rfl, rfl, (by show (0 : Int) < 1999999927; decide), ?_⟩⟩
          refine ⟨(by show 3 ≤ sizeLine; decide), fun jj nj => ?_⟩
          exact q _ jj (Same.trans (same_upd np) (same_upd nj)) ((same_upd np).free nj) ⟨_, _, _, upd_same⟩
        refine ⟨_, rfl, _, _, rfl, rfl, _, rfl, ?_⟩
        refine ite2 (fun _ => ?_) (fun _ => ?_)
        · refine iteT ?_
          exact ⟨_, rfl, _, rfl, fin _⟩
        · refine ⟨_, rfl, _, _, rfl, rfl, ⟨by decide, by decide, by decide⟩, _, _, rfl, rfl, _, rfl, ?_⟩
          refine ite2 (fun _ => ?_) (fun _ => ?_)
          · exact ⟨_, rfl, _, rfl, fin _⟩
          · exact fin _
end
end My

/-! what every proof about a program of several defs wants -/
namespace Cm
open PySem PySem.Spec PyProof.Rows L2
/-- a def of the module -/
structure Df (K : PySem.W.Frag) (mg : Str → Option Value) (x : Str) (st : Stmt) (ps : List Str) where
  f : Addr
  fd : FuncData
  F : Fun K x x st f fd
  b : Binds K fd ps []
  g : mg x = some (.ref f)
  k : PySem.W.keepIn K (.ref f) = true
/-- a method of the class at C -/
structure Mt (K : PySem.W.Frag) (C : Addr) (x q : Str) (st : Stmt) (ps : List Str) where
  f : Addr
  fd : FuncData
  F : Fun K x q st f fd
  b : Binds K fd ps []
  m : Meth K C x f
theorem dI (a b : Int) : decide (V.int a = V.int b) = decide (a = b) := decide_eq_decide.mpr ⟨fun z => by cases z; rfl, fun z => by rw [z]⟩
theorem dS (a b : Str) : decide (V.str a = V.str b) = decide (a = b) := decide_eq_decide.mpr ⟨fun z => by cases z; rfl, fun z => by rw [z]⟩
theorem dB (a b : Bool) : decide (V.bl a = V.bl b) = decide (a = b) := decide_eq_decide.mpr ⟨fun z => by cases z; rfl, fun z => by rw [z]⟩
theorem putF_len (f : Str) (v : V) : ∀ fs : List (Str × V), (putF f v fs).length ≤ fs.length + 1
  | [] => Nat.le_refl _
  | (g, x) :: r => by
    unfold putF
    by_cases h : g = f
    · rw [if_pos h]
      exact Nat.le_succ _
    · rw [if_neg h]
      exact Nat.succ_le_succ (putF_len f v r)
theorem szl {n : Nat} (h : n ≤ 1000) : n ≤ sizeLine := Nat.le_of_lt (small1000 h)
theorem szM {n : Nat} (h : n ≤ 1000000) : n < sizeLine := Nat.lt_of_le_of_lt h (by decide)
theorem Same.set {K : PySem.W.Frag} {H H' : Hp} {a : Addr} {xs : List V} (e : Same H H') (h : SqT K H a xs) : SqT K H' a xs := by
  rcases h with (h | ⟨o, h⟩) | h
  · exact .inl (.inl (e _ _ h))
  · exact .inl (.inr ⟨o, e _ _ h⟩)
  · exact .inr h
theorem same_new {H : Hp} {p : Addr} {o : HO} (h : H p = none) : Same H (upd H p o) := fun b x e => by
  rw [upd_ne (ne_of_none e h)]
  exact e
theorem pass_none {P : Program} {w : World} {X : Cx} : Passes (L2.CX P w) X (fun _ _ _ => False) := fun pins σ H s e s2 I h => by
  obtain ⟨_, _, _, _, _, _, _, _, _, _, _, _, h⟩ := h
  exact h.elim
/-! ### len and truth of an instance with an own __len__ -/
section
variable {X : Cx} {C g : Addr} {n : Nat} {sp : Sp}
theorem inst_of {pins : List (Addr × Obj)} {σ : L2.St} {H : Hp} {s : Shared} {a dx : Addr} {fs : List (Str × V)} (I : Inv X pins σ H s) (e : H a = some (.ins C dx fs)) : ∃ (ox : Obj) (od : Option Obj), PySem.W.InstAt s.heap a ox C od := by
  obtain ⟨mA, O, _⟩ := ins_get I.hok e
  obtain ⟨od, J, _⟩ := O.look
  exact ⟨_, _, J⟩
def rLenO (C : Addr) (sp : Sp) : List V → Hp → VK → Prop := fun xs H Q => ∃ (a dx : Addr) (fs : List (Str × V)), xs = [.ref a] ∧ H a = some (.ins C dx fs) ∧ sp [.ref a] H (fun v H2 => ∃ k : Nat, v = .int k ∧ k ≤ 1000000 ∧ Q (.int k) H2) fun _ _ _ => False
theorem call_lenO (hs : PySem.W.findIn X.K (.ref C) "__len__" = some (some (.ref g))) (hf : PySem.W.isFn X.K (.ref g) = true) (F : FnR X.prog X.w X.K X.mg X.base CX0 n g sp) (hr : Room (n + 1) X.A) : CallR X (.builtin "len") (rLenO C sp) := by
  intro pins s σ H xs us Q I r h
  obtain ⟨a, dx, fs, rfl, ha, q⟩ := h
  obtain ⟨u, rfl, ru⟩ := vals1 r
  cases (show u = Value.ref a from ru)
  obtain ⟨ox, od, J⟩ := inst_of I ha
  obtain ⟨m, fr⟩ := I.fr
  refine PySem.W.len_K fr I.ok.mod.kin J hs hf ?_
  refine wpAny_mono (wpAny_call (SlX.run_at (us := [.ref a]) (ws := [.ref a]) F hr.in1 I.env0.in1 pass0 I (.cons rfl .nil) q)) (fun z s2 hz => ?_) fun _ _ e => e
  obtain ⟨z2, H2, I2, rz, k, rfl, hk, qz⟩ := hz
  obtain ⟨tk, rfl⟩ := (show ∃ tk, z = Value.int k tk from rz)
  exact ⟨⟨by omega, by omega⟩, .int k, H2, I2.tok _, ⟨_, rfl⟩, qz⟩
end
/-! ### bool of an instance with an own __len__ -/
section
variable {prog : Program} {w : World} {A : Around} {E : Value → Shared → Prop} {s : Shared} {K : PySem.W.Frag} {x C f : Addr} {ox : Obj} {od : Option Obj}
theorem len_bodyK {Q : Value → Shared → Prop} (X : K.In s.heap) (I : PySem.W.InstAt s.heap x ox C od) (hs : PySem.W.findIn K (.ref C) "__len__" = some (some (.ref f))) (hf : PySem.W.isFn K (.ref f) = true)
    (h : wpAny (model prog w) A (call (.ref f) [.ref x]) (PySem.W.LenBack Q) E s) : wpAny (model prog w) A (Builtin.«len» ⟨[.ref x], []⟩) (fun fin s' => ∃ r, fin = .done (.ret r) ∧ Q r s') E s := by
  unfold Builtin.«len»
  refine wpAny_bind (m := oneArg "len" _) (wpAny_pure ?_)
  refine wpAny_bind (m := callSpecial? (.ref x) (Str.ofString "__len__")) (PySem.W.special_fn X I hs (beq_iff_eq.mp hf) (wpAny_mono h (fun r s' hr => ?_) fun _ _ y => y))
  cases r <;> first | exact hr.elim | skip
  rename_i n u
  obtain ⟨⟨h0, h1⟩, hq⟩ := hr
  refine wpAny_bind (wpAny_holding (wpAny_pure ?_))
  refine wpAny_bind (wpAny_letGo ?_)
  show wpAny _ _ (if n < 0 then _ else _) _ _ _
  rw [if_neg (by omega)]
  show wpAny _ _ (if n ≥ 2 ^ 63 then _ else _) _ _ _
  rw [if_neg (by omega)]
  exact wpAny_bind (wpAny_mkInt (wpAny_pure ⟨_, rfl, hq⟩))
theorem truthy_KL {Q : Bool → Shared → Prop} (X : K.In s.heap) (I : PySem.W.InstAt s.heap x ox C od) (hb : PySem.W.findIn K (.ref C) "__bool__" = some none) (hl : PySem.W.findIn K (.ref C) "__len__" = some (some (.ref f))) (hf : PySem.W.isFn K (.ref f) = true)
    (h : wpAny (model prog w) A.in1 (call (.ref f) [.ref x]) (PySem.W.LenBack fun v s' => ∃ n t, v = .int n t ∧ Q (n != 0) s') E s) : wpAny (model prog w) A (truthy (.ref x)) Q E s := by
  have key : wpAny (model prog w) A (runValue (.builtin "len" ⟨[.ref x], []⟩)) (fun r s' => ∃ n t, r = .int n t ∧ Q (n != 0) s') E s := by
    refine wpAny_runValue (codeAny_builtin entry_len ?_)
    rw [Around.under_plainId plain_len _]
    exact wpAny_mono (len_bodyK X I hl hf h) (fun fin s' h' => by obtain ⟨r, rfl, hq⟩ := h'; exact hq) fun _ _ e => e
  unfold truthy
  refine wpAny_bind (m := callSpecial? (.ref x) (Str.ofString "__bool__")) (wpAny_bind (wpAny_bind (I.type.here ((PySem.W.looks_findIn X hb).here (wpAny_pure ?_)))))
  refine wpAny_bind (wpAny_bind (I.type.here ((PySem.W.looks_findIn X hl).here ?_)))
  exact wpAny_bind (wpAny_mono key (fun r s' h' => by obtain ⟨n, t, rfl, hq⟩ := h'; exact wpAny_pure hq) fun _ _ e => e)
theorem bool_KL {Q : Value → Shared → Prop} (X : K.In s.heap) (I : PySem.W.InstAt s.heap x ox C od) (hb : PySem.W.findIn K (.ref C) "__bool__" = some none) (hl : PySem.W.findIn K (.ref C) "__len__" = some (some (.ref f))) (hf : PySem.W.isFn K (.ref f) = true)
    (h : wpAny (model prog w) A.in1.in1.in1 (call (.ref f) [.ref x]) (PySem.W.LenBack fun v s' => ∃ n t, v = .int n t ∧ Q (.bool (n != 0)) s') E s) : wpAny (model prog w) A (call (.type "bool") [.ref x]) Q E s := by
  refine callType_codes (T := "bool") (Bi := Builtin.«object.__init__») (Q₁ := fun r s₁ => ∃ b, r = .bool b ∧ Q r s₁) PySem.F.called_bool (PySem.F.typeCall_bool_1 _) PySem.F.entry_object_init ?_ ?_
  · refine codeAny_of_tree ?_
    show wpAny _ A.in1.in1 (do checkBuiltinCall "bool.__new__" ⟨[.type "bool", .ref x], []⟩; again (.builtin "bool.__new__" ⟨[.type "bool", .ref x], []⟩)) _ _ s
    refine wpAny_bind (wpAny_of_eq (PySem.F.newCall_bool_1 _) (wpAny_pure ⟨plainId_quiet (by decide +kernel) _, codeAny_builtin PySem.F.entry_bool_new ?_⟩))
    rw [Around.under_plainId (by decide +kernel) _]
    have f1 := PySem.F.conv_sub_bool
    have key : wpAny (model prog w) A.in1.in1 (truthy (.ref x)) (fun b s1 => Q (.bool b) s1) E s := truthy_KL X I hb hl hf (wpAny_mono h (fun v s1 hv => by
      cases v <;> first | exact hv.elim | skip
      obtain ⟨h01, n, t, e, hq⟩ := hv
      cases e
      exact ⟨h01, _, _, rfl, hq⟩) fun _ _ z => z)
    unfold Builtin.«bool.__new__»
    show wpAny _ _ (isType (.type "bool") >>= _) _ _ s
    refine wpAny_bind (wpAny_pure ?_)
    refine wpAny_bind (wpAny_of_eq f1 ?_)
    refine wpAny_bind (wpAny_pure ?_)
    exact wpAny_bind (wpAny_mono key (fun b s1 hb1 => wpAny_pure ⟨_, rfl, hb1⟩) fun _ _ z => z)
  · rintro obj s₁ ⟨b, rfl, hq⟩
    exact ⟨rfl, PySem.F.args_object_init_2 _ _, object_init_meets PySem.F.called_bool.init.lookup PySem.F.called_bool.made (by decide) prog w A.in1 _ s₁ ⟨rfl, rfl, hq⟩⟩
end
section
variable {X : Cx} {C g : Addr} {n : Nat} {sp : Sp}
def rBoolL (C : Addr) (sp : Sp) : List V → Hp → VK → Prop := fun xs H Q => ∃ (a dx : Addr) (fs : List (Str × V)), xs = [.ref a] ∧ H a = some (.ins C dx fs) ∧ sp [.ref a] H (fun v H2 => ∃ k : Nat, v = .int k ∧ k ≤ 1000000 ∧ Q (.bl ((k : Int) != 0)) H2) fun _ _ _ => False
theorem call_boolLO (hb : PySem.W.findIn X.K (.ref C) "__bool__" = some none) (hs : PySem.W.findIn X.K (.ref C) "__len__" = some (some (.ref g))) (hf : PySem.W.isFn X.K (.ref g) = true) (F : FnR X.prog X.w X.K X.mg X.base CX0 n g sp) (hr : Room (n + 3) X.A) : CallR X (.type "bool") (rBoolL C sp) := by
  intro pins s σ H xs us Q I r h
  obtain ⟨a, dx, fs, rfl, ha, q⟩ := h
  obtain ⟨u, rfl, ru⟩ := vals1 r
  cases (show u = Value.ref a from ru)
  obtain ⟨ox, od, J⟩ := inst_of I ha
  have hr2 : Room (n + 2) X.A.in1 := hr.in1
  have hr1 : Room (n + 1) X.A.in1.in1 := hr2.in1
  refine bool_KL I.kIn J hb hs hf ?_
  refine wpAny_mono (wpAny_call (SlX.run_at (us := [.ref a]) (ws := [.ref a]) F hr1.in1 I.env0.in1.in1.in1 pass0 I (.cons rfl .nil) q)) (fun z s2 hz => ?_) fun _ _ e => e
  obtain ⟨z2, H2, I2, rz, k, rfl, hk, qz⟩ := hz
  obtain ⟨tk, rfl⟩ := (show ∃ tk, z = Value.int k tk from rz)
  exact ⟨⟨by omega, by omega⟩, _, _, rfl, .bl _, H2, I2.tok _, rfl, qz⟩
end
/-! ### tuples cut and put together -/
theorem cut_to (xs : List V) (k : Nat) (h : k ≤ xs.length) : cutV xs none (some (k : Int)) = xs.take k := by
  unfold cutV
  rw [HT.sIx_none, HT.sIx_nat, Nat.min_eq_left h]
  rfl
theorem cut_from (xs : List V) (k : Nat) : cutV xs (some (k : Int)) none = xs.drop k := by
  unfold cutV
  rw [HT.sIx_none, HT.sIx_nat]
  by_cases h : k ≤ xs.length
  · rw [Nat.min_eq_left h]
    exact List.take_of_length_le (by rw [List.length_drop]; omega)
  · rw [Nat.min_eq_right (by omega), List.drop_length, List.drop_eq_nil_of_le (by omega)]
    simp
section
variable {X : Cx}
def rSlS (K : PySem.W.Frag) : V → Option Int → Option Int → Hp → VK → Prop := fun x lo hi H Q => ∃ a xs, x = .ref a ∧ SqT K H a xs ∧ ∀ (H' : Hp) (q : Addr), Same H H' → SqT K H' q (cutV xs lo hi) → Q (.ref q) H'
theorem sl_tupS : SlR X (rSlS X.K) := by
  intro pins s σ H x v vl vu lo hi sl Q I rx hs pl pu h
  obtain ⟨a, xs, rfl, hx, q⟩ := h
  refine sl_tupA pins s σ H _ v vl vu lo hi sl Q I rx hs pl pu ⟨a, xs, rfl, hx, fun z => ?_, fun _ p np => q _ p (same_new np) (SqT.of upd_same)⟩
  refine q H a (Same.refl _) ?_
  have e : cutV xs lo hi = xs := by
    unfold cutV
    rw [z.1, z.2]
    simp
  rw [e]
  exact hx
def rCatS (K : PySem.W.Frag) : R2 := fun x y H Q => ∃ a b xs ys, x = .ref a ∧ y = .ref b ∧ SqT K H a xs ∧ SqT K H b ys ∧ xs.length + ys.length ≤ sizeLine ∧ ∀ (H' : Hp) (q : Addr), Same H H' → SqT K H' q (xs ++ ys) → Q (.ref q) H'
theorem op_catS : OpR X (binaryOp .Add) (rCatS X.K) := by
  intro pins s σ H x y v u Q I rx ry h
  obtain ⟨a, b, xs, ys, rfl, rfl, ha, hb, hz, q⟩ := h
  refine op_catA pins s σ H _ _ v u Q I rx ry ⟨a, b, xs, ys, rfl, rfl, ha, hb, hz, fun z => ?_, fun _ z => ?_, fun _ _ p np => q _ p (same_new np) (SqT.of upd_same)⟩
  · refine q H b (Same.refl _) ?_
    rw [z]
    exact hb
  · refine q H a (Same.refl _) ?_
    rw [z, List.append_nil]
    exact ha
end
/-! ### a reading may be asked for more -/
section
variable {X : Cx} {e : Expr} {es : List Expr} {st : Stmt} {sts : List Stmt}
theorem pe_imp {t t' : TE} (h : PE X e t) (k : ∀ σ H Q, t' σ H Q → t σ H Q) : PE X e t' := ⟨fun pins s σ H Q I q => h.run pins s σ H Q I (k σ H Q q)⟩
theorem pa_imp {t t' : TA} (h : PA X es t) (k : ∀ σ H Q, t' σ H Q → t σ H Q) : PA X es t' := ⟨fun pos pins s σ H Q I q => h.run pos pins s σ H Q I (k σ H Q q)⟩
theorem pt_imp {t t' : TT} (h : PT X e t) (k : ∀ σ H Q, t' σ H Q → t σ H Q) : PT X e t' := ⟨fun pins s σ H Q I q => h.run pins s σ H Q I (k σ H Q q)⟩
theorem ps_imp {t t' : TS} (h : PS X st t) (k : ∀ D σ H, t' D σ H → t D σ H) : PS X st t' := ⟨fun pins s σ H D I q => h.run pins s σ H D I (k D σ H q)⟩
theorem pss_imp {t t' : TS} (h : PSs X sts t) (k : ∀ D σ H, t' D σ H → t D σ H) : PSs X sts t' := ⟨fun pins s σ H D I q => h.run pins s σ H D I (k D σ H q)⟩
end
theorem hu64 {A : Around} {k : Nat} (hr : Room k A) : A.units + 64 < cLine := by
  have := hr.un
  omega
/-! ### the same, for tuples that are tracked -/
section
variable {X : Cx}
def rSlH : V → Option Int → Option Int → Hp → VK → Prop := fun x lo hi H Q => ∃ a xs, x = .ref a ∧ H a = some (.tup xs) ∧ ∀ (H' : Hp) (q : Addr), Same H H' → H' q = some (.tup (cutV xs lo hi)) → Q (.ref q) H'
theorem sl_tupH : SlR X rSlH := by
  intro pins s σ H x v vl vu lo hi sl Q I rx hs pl pu h
  obtain ⟨a, xs, rfl, hx, q⟩ := h
  refine sl_tupA pins s σ H _ v vl vu lo hi sl Q I rx hs pl pu ⟨a, xs, rfl, SqT.of hx, fun z => ?_, fun _ p np => q _ p (same_new np) upd_same⟩
  refine q H a (Same.refl _) ?_
  have e : cutV xs lo hi = xs := by
    unfold cutV
    rw [z.1, z.2]
    simp
  rw [e]
  exact hx
def rCatH : R2 := fun x y H Q => ∃ a b xs ys, x = .ref a ∧ y = .ref b ∧ H a = some (.tup xs) ∧ H b = some (.tup ys) ∧ xs.length + ys.length ≤ sizeLine ∧ ∀ (H' : Hp) (q : Addr), Same H H' → H' q = some (.tup (xs ++ ys)) → Q (.ref q) H'
theorem op_catH : OpR X (binaryOp .Add) rCatH := by
  intro pins s σ H x y v u Q I rx ry h
  obtain ⟨a, b, xs, ys, rfl, rfl, ha, hb, hz, q⟩ := h
  refine op_catA pins s σ H _ _ v u Q I rx ry ⟨a, b, xs, ys, rfl, rfl, SqT.of ha, SqT.of hb, hz, fun z => ?_, fun _ z => ?_, fun _ _ p np => q _ p (same_new np) upd_same⟩
  · refine q H b (Same.refl _) ?_
    rw [z]
    exact hb
  · refine q H a (Same.refl _) ?_
    rw [z, List.append_nil]
    exact ha
end
theorem cut_mid (xs : List V) (a b : Nat) (h1 : a ≤ b) (h2 : b ≤ xs.length) : cutV xs (some (a : Int)) (some (b : Int)) = (xs.drop a).take (b - a) := by
  unfold cutV
  rw [HT.sIx_nat, HT.sIx_nat, Nat.min_eq_left h2, Nat.min_eq_left (by omega)]
end Cm

/-! texts of loops: what their words are, and when they are right -/
namespace LM
open PySem L2 TL
def tests : List Str := ["empty", "some", "short", "full", "told", "open", "rest", "bare"]
def rsteps : List Str := ["add", "hand", "cut", "flush", "stop", "again"]
def esteps : List Str := ["hand", "cut", "flush"]
def wordsR (t : Str) : List Str := Txt.split (Txt.partition t " | ").1 " "
def wordsE (t : Str) : List Str := if (Txt.partition t " | ").2.1.length != 0 then Txt.split (Txt.partition t " | ").2.2 " " else []
def orderOf (w : Str) : Str × Str := if (Txt.partition w ":").2.1.length != 0 then ((Txt.partition w ":").1, (Txt.partition w ":").2.2) else ("", w)
def isWord (w : Str) (ss : List Str) : Bool := if (Txt.partition w ":").2.1.length != 0 then decide ((Txt.partition w ":").1 ∈ tests) && decide ((Txt.partition w ":").2.2 ∈ ss) else decide (w ∈ ss)
def areWords (ws ss : List Str) : Bool := ws.all fun w => isWord w ss
def isAdd (w : Str) : Bool := decide ((orderOf w).2 = "add")
def isRound (ws : List Str) : Bool := decide (ws.head? = some "ask") && (decide (ws.length ≤ 12) && (decide ((ws.filter isAdd).length ≤ 1) && areWords ws.tail rsteps))
def isEnding (ws : List Str) : Bool := decide (ws.length ≤ 6) && areWords ws esteps
def goodText (t : Str) : Bool := isRound (wordsR t) && isEnding (wordsE t)
def svs (ws : List Str) : List V := ws.map V.str
theorem svs_flat : ∀ ws : List Str, (svs ws).all flatV = true
  | [] => rfl
  | _ :: r => svs_flat r
theorem inV_svs (w : Str) : ∀ ws : List Str, inV (.str w) (svs ws) = decide (w ∈ ws)
  | [] => by simp [inV, svs]
  | x :: r => by
    have ih := inV_svs w r
    show (eqV (.str x) (.str w) || inV (.str w) (svs r)) = _
    rw [ih]
    show ((x == w) || decide (w ∈ r)) = _
    by_cases h : x = w
    · subst h
      simp
    · have h2 : (x == w) = false := by
        cases hh : (x == w) with
        | false => rfl
        | true => exact absurd (eq_of_beq hh) h
      rw [h2, Bool.false_or]
      refine decide_eq_decide.mpr ⟨fun z => List.mem_cons_of_mem _ z, fun z => ?_⟩
      rcases List.mem_cons.mp z with z | z
      · exact absurd z.symm h
      · exact z
theorem split_ne (x y : Str) : Txt.split x y ≠ [] := by
  unfold Txt.split
  split
  · simp
  · split
    · simp
    · rw [PySem.StrLaws.partsBetween_eq]
      cases Builtin.Str.occurrences x y 0 x.length (x.length + 1) <;> simp [PySem.StrLaws.partsFrom]
/-! ### drawn words -/
/-- a step of these, or a test before it -/
def Wd (ss : List Str) (w : Str) : Prop := ∃ s ∈ ss, w = s ∨ ∃ t ∈ tests, w = t ++ (":" : Str) ++ s
def allWd (ss : List Str) : List Str := ss ++ (tests.map fun t : Str => ss.map fun s : Str => t ++ (":" : Str) ++ s).flatten
theorem Wd.mem {ss : List Str} {w : Str} (h : Wd ss w) : w ∈ allWd ss := by
  obtain ⟨s, hs, rfl | ⟨t, ht, rfl⟩⟩ := h
  · exact List.mem_append.mpr (.inl hs)
  · exact List.mem_append.mpr (.inr (List.mem_flatten.mpr ⟨_, List.mem_map.mpr ⟨t, ht, rfl⟩, List.mem_map.mpr ⟨s, hs, rfl⟩⟩))
theorem Wd.mono {ss zs : List Str} {w : Str} (f : ∀ s ∈ ss, s ∈ zs) (h : Wd ss w) : Wd zs w := let ⟨s, hs, q⟩ := h; ⟨s, f s hs, q⟩
/-- what is known of a word -/
def wdOk (w : Str) : Bool := isWord w rsteps && (decide (32 ∉ tl w) && (decide (124 ∉ tl w) && decide (w.length ≤ 11)))
theorem wd_ok : ∀ w ∈ allWd rsteps, wdOk w = true := by decide +kernel
theorem wd_end : ∀ w ∈ allWd esteps, isWord w esteps = true := by decide +kernel
theorem wd_noadd : ∀ w ∈ allWd ["hand", "cut", "flush", "stop", "again"], isAdd w = false := by decide +kernel
/-! ### lines -/
def line (B E : List Str) : Str := if E = [] then Txt.join " " B else Txt.join " " (B ++ [("|" : Str)] ++ E)
def textOf (B E : List Str) : Str := if E = [] then Txt.join " " B else Txt.join " " B ++ " | " ++ Txt.join " " E
/-- no space and no bar is in it -/
def Fre (w : Str) : Prop := 32 ∉ tl w ∧ 124 ∉ tl w
theorem tlSp : tl (" " : Str) = [32] := by decide +kernel
theorem tlBar : tl (" | " : Str) = [32, 124, 32] := by decide +kernel
theorem tlB1 : tl ("|" : Str) = [124] := by decide +kernel
theorem joinL_app (S : List Nat) : ∀ (a b : List (List Nat)), a ≠ [] → b ≠ [] → joinL S (a ++ b) = joinL S a ++ (S ++ joinL S b)
  | [], _, h, _ => absurd rfl h
  | [p], b, _, hb => by
    cases b with
    | nil => exact absurd rfl hb
    | cons q r => rfl
  | p :: q :: r, b, _, hb => by
    show p ++ (S ++ joinL S (q :: r ++ b)) = p ++ (S ++ joinL S (q :: r)) ++ (S ++ joinL S b)
    rw [joinL_app S (q :: r) b (by simp) hb]
    simp [List.append_assoc]
theorem joinL_mem {S : List Nat} {c : Nat} : ∀ {a : List (List Nat)}, c ∈ joinL S a → c ∈ S ∨ ∃ p ∈ a, c ∈ p
  | [], h => nomatch h
  | [p], h => .inr ⟨p, List.mem_singleton.mpr rfl, h⟩
  | p :: q :: r, h => by
    rcases List.mem_append.mp (show c ∈ p ++ (S ++ joinL S (q :: r)) from h) with h | h
    · exact .inr ⟨p, List.mem_cons_self .., h⟩
    · rcases List.mem_append.mp h with h | h
      · exact .inl h
      · rcases joinL_mem h with h | ⟨z, hz, hc⟩
        · exact .inl h
        · exact .inr ⟨z, List.mem_cons_of_mem _ hz, hc⟩
theorem tl_joinSp (B : List Str) : tl (Txt.join " " B) = joinL [32] (B.map tl) := by rw [join_eq, tl_join, tlSp]
theorem nobar {B : List Str} (h : ∀ w ∈ B, Fre w) : 124 ∉ tl (Txt.join " " B) := by
  rw [tl_joinSp]
  intro hm
  rcases joinL_mem hm with hm | ⟨p, hp, hc⟩
  · exact absurd hm (by decide)
  · obtain ⟨w, hw, rfl⟩ := List.mem_map.mp hp
    exact (h w hw).2 hc
theorem line_text {B E : List Str} (hB : B ≠ []) : line B E = textOf B E := by
  unfold line textOf
  by_cases hE : E = []
  · rw [if_pos hE, if_pos hE]
  · rw [if_neg hE, if_neg hE]
    refine ext_tl ?_
    rw [tl_append, tl_append, tl_joinSp, tl_joinSp, tl_joinSp, tlBar, List.map_append, List.map_append, joinL_app _ _ _ (by simp) (by simpa using hE), joinL_app _ _ _ (by simpa using hB) (by simp)]
    simp [joinL, tlB1]
theorem pre_bar {l : List Nat} (h : pre [32, 124, 32] l = true) : ∃ r, l = 32 :: 124 :: 32 :: r := by
  have e : l.take 3 = [32, 124, 32] := eq_of_beq h
  match l, e with
  | a :: b :: c :: r, e =>
    simp at e
    obtain ⟨rfl, rfl, rfl⟩ := e
    exact ⟨r, rfl⟩
theorem no_bar {p q : List Nat} (h : 124 ∉ p) (hq : q = [] ∨ ∃ r, q = 32 :: r) : ∀ i, i < p.length → pre [32, 124, 32] ((p ++ q).drop i) = false := by
  intro i hi
  cases hp : pre [32, 124, 32] ((p ++ q).drop i) with
  | false => rfl
  | true =>
    obtain ⟨r, e⟩ := pre_bar hp
    have e1 : (p ++ q)[i + 1]? = some 124 := by
      have : ((p ++ q).drop i)[1]? = some 124 := by rw [e]; rfl
      rw [List.getElem?_drop] at this
      exact this
    by_cases h1 : i + 1 < p.length
    · rw [List.getElem?_append_left h1] at e1
      exact absurd (List.mem_of_getElem? e1) h
    · rw [List.getElem?_append_right (by omega)] at e1
      rcases hq with rfl | ⟨r, rfl⟩
      · simp at e1
      · have : i + 1 - p.length = 0 := by omega
        rw [this] at e1
        simp at e1
theorem part_no {x : Str} (h : 124 ∉ tl x) : Txt.partition x " | " = (x, Str.empty, Str.empty) := by
  rw [partition_par _ _ (by rw [tlBar]; simp), tlBar, par_none]
  intro i hi
  have := no_bar (q := []) h (.inl rfl) i hi
  rwa [List.append_nil] at this
theorem part_yes {x y : Str} (h : 124 ∉ tl x) : Txt.partition (x ++ " | " ++ y) " | " = (x, (" | " : Str), y) := by
  rw [partition_par _ _ (by rw [tlBar]; simp), tl_append, tl_append, List.append_assoc, tlBar, par_part (by simp) (no_bar h (.inr ⟨_, rfl⟩))]
  show ((⟨([] ++ tl x).toArray⟩ : Str), _, (⟨(tl y).toArray⟩ : Str)) = _
  rw [List.nil_append, mk_tl, mk_tl]
theorem split_words {B : List Str} (hB : B ≠ []) (h : ∀ w ∈ B, Fre w) : Txt.split (Txt.join " " B) " " = B :=
  split_join (s := 32) (S := []) tlSp (by decide +kernel) hB fun p hp => (h p hp).1
theorem words_text {B E : List Str} (hB : B ≠ []) (h1 : ∀ w ∈ B, Fre w) (h2 : ∀ w ∈ E, Fre w) : wordsR (textOf B E) = B ∧ wordsE (textOf B E) = E := by
  unfold wordsR wordsE textOf
  by_cases hE : E = []
  · rw [if_pos hE, part_no (nobar h1)]
    refine ⟨split_words hB h1, ?_⟩
    rw [hE]
    rfl
  · rw [if_neg hE, part_yes (nobar h1)]
    refine ⟨split_words hB h1, ?_⟩
    exact (if_pos (show ((" | " : Str).length != 0) = true by decide +kernel)).trans (split_words hE h2)
theorem words_line {B E : List Str} (hB : B ≠ []) (h1 : ∀ w ∈ B, Fre w) (h2 : ∀ w ∈ E, Fre w) : wordsR (line B E) = B ∧ wordsE (line B E) = E := by
  rw [line_text hB]
  exact words_text hB h1 h2
/-! ### lengths -/
theorem sum_le {n : Nat} : ∀ {B : List Str}, (∀ w ∈ B, w.length ≤ n) → (B.map (·.length)).sum ≤ n * B.length
  | [], _ => Nat.zero_le _
  | w :: r, h => by
    have a := h w (List.mem_cons_self ..)
    have b := sum_le (B := r) fun z hz => h z (List.mem_cons_of_mem _ hz)
    rw [List.map_cons, List.sum_cons, List.length_cons, Nat.mul_succ]
    omega
theorem join_len : ∀ B : List Str, (Txt.join " " B).length ≤ (B.map (·.length)).sum + B.length := by
  intro B
  rw [len_tl, tl_joinSp]
  induction B with
  | nil => simp [joinL]
  | cons w r ih =>
    cases r with
    | nil =>
      show (tl w).length ≤ _
      rw [← len_tl]
      simp
    | cons x r =>
      show (tl w ++ ([32] ++ joinL [32] ((x :: r).map tl))).length ≤ _
      rw [List.length_append, List.length_append, ← len_tl]
      simp only [List.map_cons, List.sum_cons, List.length_cons, List.length_nil] at ih ⊢
      omega
/-- short words, not many -/
def Sht (n : Nat) (B : List Str) : Prop := (∀ w ∈ B, w.length ≤ 11) ∧ B.length ≤ n
theorem Sht.sum {n : Nat} {B : List Str} (h : Sht n B) : (B.map (·.length)).sum + B.length * 1 ≤ 12 * n := by
  have := sum_le h.1
  have := h.2
  omega
theorem Sht.join {n : Nat} {B : List Str} (h : Sht n B) : (Txt.join " " B).length ≤ 12 * n := by
  have := h.sum
  have := join_len B
  omega
/-! ### bounds of what is cut -/
theorem spl_len (S : List Nat) : ∀ (k : Nat) (acc l : List Nat), (spl S k acc l).length ≤ l.length + 1
  | k, acc, [] => by rw [spl_nil]; simp
  | 0, acc, c :: r => by
    cases h : pre S (c :: r) with
    | true =>
      rw [spl_hit h, List.length_cons, List.length_cons]
      have := spl_len S (S.length - 1) [] r
      omega
    | false =>
      rw [spl_miss h, List.length_cons]
      have := spl_len S 0 (acc ++ [c]) r
      omega
  | k + 1, acc, _ :: r => by
    show (spl S k acc r).length ≤ _
    have := spl_len S k acc r
    rw [List.length_cons]
    omega
theorem spl_word (S : List Nat) : ∀ (k : Nat) (acc l : List Nat), ∀ p ∈ spl S k acc l, p.length ≤ acc.length + l.length
  | k, acc, [], p, hp => by
    rw [spl_nil] at hp
    rw [List.mem_singleton.mp hp]
    omega
  | 0, acc, c :: r, p, hp => by
    cases h : pre S (c :: r) with
    | true =>
      rw [spl_hit h] at hp
      rcases List.mem_cons.mp hp with rfl | hp
      · omega
      · have := spl_word S (S.length - 1) [] r p hp
        simp at this ⊢
        omega
    | false =>
      rw [spl_miss h] at hp
      have := spl_word S 0 (acc ++ [c]) r p hp
      simp at this ⊢
      omega
  | k + 1, acc, _ :: r, p, hp => by
    have := spl_word S k acc r p hp
    simp at this ⊢
    omega
theorem split_sp (x : Str) : (Txt.split x " ").map tl = spl [32] 0 [] (tl x) := by
  have := split_spl x " " (by rw [tlSp]; simp) (kind_ok (by decide +kernel))
  rwa [tlSp] at this
theorem split_len (x : Str) : (Txt.split x " ").length ≤ x.length + 1 := by
  have := spl_len [32] 0 [] (tl x)
  rw [← split_sp, List.length_map, ← len_tl] at this
  exact this
theorem split_word {x w : Str} (h : w ∈ Txt.split x " ") : w.length ≤ x.length := by
  have := spl_word [32] 0 [] (tl x) (tl w) (by rw [← split_sp]; exact List.mem_map.mpr ⟨w, h, rfl⟩)
  rw [← len_tl, ← len_tl] at this
  simpa using this
theorem part_len (x y : Str) : (Txt.partition x y).1.length ≤ x.length ∧ (Txt.partition x y).2.1.length ≤ y.length ∧ (Txt.partition x y).2.2.length ≤ x.length := by
  rcases PyProof.Rows.partition_whole x y with ⟨e, _⟩ | ⟨i, e, _, _⟩
  · rw [e]
    exact ⟨Nat.le_refl _, Nat.zero_le _, Nat.zero_le _⟩
  · rw [e]
    refine ⟨?_, Nat.le_refl _, ?_⟩
    · rw [len_tl, tl_strSub, List.length_take, List.length_drop, ← len_tl]
      omega
    · rw [len_tl, tl_strSub_end, List.length_drop, ← len_tl]
      omega
/-- the words of a text of at most n signs -/
theorem wordsR_len (t : Str) : (wordsR t).length ≤ t.length + 1 := by
  have := split_len (Txt.partition t " | ").1
  have := (part_len t " | ").1
  unfold wordsR
  omega
theorem wordsE_len (t : Str) : (wordsE t).length ≤ t.length + 1 := by
  unfold wordsE
  split
  · have := split_len (Txt.partition t " | ").2.2
    have := (part_len t " | ").2.2
    omega
  · simp
theorem wordsR_word {t w : Str} (h : w ∈ wordsR t) : w.length ≤ t.length := Nat.le_trans (split_word h) (part_len t " | ").1
theorem wordsE_word {t w : Str} (h : w ∈ wordsE t) : w.length ≤ t.length := by
  unfold wordsE at h
  split at h
  · exact Nat.le_trans (split_word h) (part_len t " | ").2.2
  · exact nomatch h
theorem wordsR_ne (t : Str) : wordsR t ≠ [] := split_ne _ _
end LM

/-! what many parts want: the error about texts, small lemmas -/
namespace My
open PySem L2 Cm LM
abbrev sEI : Stmt := inClass (top 4) 0
theorem nz (n : Nat) : ((n : Int) != 0) = (n != 0) := by
  cases n with
  | zero => rfl
  | succ k => simp; omega
/-- no text is longer -/
def Bd (t : Str) : Prop := t.length ≤ 100000
theorem Bd.part {t : Str} (y : Str) (h : Bd t) : Bd (Txt.partition t y).1 ∧ Bd (Txt.partition t y).2.2 := ⟨Nat.le_trans (part_len t y).1 h, Nat.le_trans (part_len t y).2.2 h⟩
theorem Bd.line {t : Str} (h : Bd t) : t.length ≤ sizeLine := Nat.le_of_lt (szM (Nat.le_trans h (by decide)))
theorem Bd.line2 {t : Str} (h : Bd t) : t.length + 2 ≤ sizeLine := Nat.le_of_lt (szM (by unfold Bd at h; omega))
theorem svs_get {ws : List Str} {i : Nat} {x : V} (h : (svs ws)[i]? = some x) : ∃ z, ws[i]? = some z ∧ x = .str z := by
  unfold svs at h
  rw [List.getElem?_map] at h
  cases e : ws[i]? with
  | none => rw [e] at h; cases h
  | some z =>
    rw [e] at h
    exact ⟨z, rfl, (Option.some.inj h).symm⟩
theorem take_snoc {α : Type} {xs : List α} {i : Nat} {x : α} (h : xs[i]? = some x) : xs.take (i + 1) = xs.take i ++ [x] := by
  rw [List.take_succ, h]
  rfl
theorem lt_of_get {α : Type} {xs : List α} {i : Nat} {x : α} (h : xs[i]? = some x) : i < xs.length := (List.getElem?_eq_some_iff.mp h).1
/-- not many words, none too long -/
def BdW (ws : List Str) : Prop := (∀ z ∈ ws, Bd z) ∧ ws.length ≤ 100001
theorem made_same {H H' : Hp} {x dx C : Addr} (nx : H x = none) (ndx : H dx = none) (o : Off x (upd (upd H dx (.own x)) x (.ins C dx [])) H') : Same H H' := fun b u e => o b u (ne_of_none e nx) (by rw [upd_ne (ne_of_none e nx), upd_ne (ne_of_none e ndx)]; exact e)
/-- a special method of the class at C -/
structure Sm (K : PySem.W.Frag) (C : Addr) (x q : Str) (st : Stmt) (ps : List Str) where
  f : Addr
  fd : FuncData
  F : Fun K x q st f fd
  b : Binds K fd ps []
  i : PySem.W.findIn K (.ref C) x = some (some (.ref f))
  fn : PySem.W.isFn K (.ref f) = true
theorem TyX_same {K : PySem.W.Frag} {H H' : Hp} (s : Same H H') {x : V} {t : Value} (h : TyX K H x t) : TyX K H' x t := by
  cases h with
  | base b =>
    refine .base ?_
    cases b with
    | non => exact .non
    | bl x => exact .bl x
    | int i => exact .int i
    | str x => exact .str x
    | flt x => exact .flt x
    | lst e => exact .lst (s _ _ e)
    | frz e => exact .frz (s _ _ e)
    | tup e => exact .tup (s _ _ e)
    | dK e => exact .dK (s _ _ e)
    | dT e => exact .dT (s _ _ e)
    | ins e a b c d f => exact .ins (s _ _ e) a b c d f
  | byt b => exact .byt b
  | set e => exact .set (s _ _ e)
  | kList e c => exact .kList e c
  | kTuple e c => exact .kTuple e c
  | kDict e c => exact .kDict e c
  | fTuple e => exact .fTuple (s _ _ e)
  | fDict e => exact .fDict (s _ _ e)
theorem jar_ne {H : Hp} {j p : Addr} (a : Jar H j) (n : H p = none) : p ≠ j := fun z => by
  obtain ⟨_, _, _, q⟩ := a
  rw [z, q] at n
  cases n
theorem Jar.put {H : Hp} {j p : Addr} {o : HO} (a : Jar H j) (n : p ≠ j) : Jar (upd H p o) j := by
  obtain ⟨x, y, z, q⟩ := a
  exact ⟨x, y, z, by rw [upd_ne n.symm]; exact q⟩
/-- a store to what was not there at first -/
theorem Off.put2 {j q : Addr} {H H1 : Hp} {o : HO} (a : Off j H H1) (n : H q = none) : Off j H (upd H1 q o) := fun b u nb e => by
  rw [upd_ne (ne_of_none e n)]
  exact a b u nb e
/-- tuples that stand stay, if what is written is no tuple -/
theorem tup_stays {H : Hp} {x : Addr} {o o' : HO} (hx : H x = some o) (n : ∀ xs, o ≠ .tup xs) : ∀ (p : Addr) (xs : List V), H p = some (.tup xs) → (upd H x o') p = some (.tup xs) := fun p xs e => by
  rw [upd_ne]
  · exact e
  · intro z
    rw [z, hx] at e
    exact n xs (Option.some.inj e)
def isS : V → Bool
  | .str _ => true
  | _ => false
/-- its type is told -/
def Typed (K : PySem.W.Frag) (H : Hp) (x : V) : Prop := ∃ t, TyX K H x t ∧ PySem.W.kitOne K t (.type "str") = some (isS x)
theorem typed_str {K : PySem.W.Frag} {H : Hp} (x : Str) : Typed K H (.str x) := ⟨_, .base (.str x), kit_ty (show kitB "str" "str" = some true by decide +kernel)⟩
/-! ### the error -/
structure TxE (K : PySem.W.Frag) (mg : Str → Option Value) where
  C : Addr
  f : Addr
  fd : FuncData
  g : mg "InvalidText" = some (.ref C)
  o : OexC K C
  i : PySem.W.findIn K (.ref C) "__init__" = some (some (.ref f))
  t : PySem.W.typeIn K (.ref f) = some (.type "function")
  n : PySem.W.findIn K (.ref C) "value" = some none
  F : Fun K "__init__" "InvalidText.__init__" sEI f fd
  b : Binds K fd ["self", "value"] []
section
variable {P : Program} {w : World} {K : PySem.W.Frag} {mg : Str → Option Value} {base : Heap}
def spEI (CE : Addr) : Sp := fun vs H Q _ => ∃ (a : Addr) (v : V), vs = [.ref a, v] ∧ H a = some (exo a CE none) ∧ ∀ dx, H dx = none → dx ≠ a → Q .non (upd (upd H dx (exd dx [("value", v)])) a (exo a CE (some dx)))
theorem scEI : FnScope ["self", "value"] ["self", "value"] (defScope sEI) := ⟨rfl, rfl, rfl, by decide +kernel, rfl, by decide +kernel, by decide +kernel⟩
theorem ok_ei (T : TxE K mg) : FnOk P w K mg base CX0 1 T.f T.fd ["self", "value"] (spEI T.C) := by
  refine T.F.ok scEI (fun vs H Q E h => ?_) (fun cdv A outer s H vs Q E hr h => ?_)
  · obtain ⟨a, v, rfl, _⟩ := h
    rfl
  · obtain ⟨a, v, rfl, ha, k⟩ := h
    refine ⟨_, pss_one (ps_ost (pv 0) (pv 1)), ?_⟩
    exact ⟨_, rfl, _, rfl, a, T.C, rfl, T.o, T.n, .inl ⟨ha, fun dx n ne => k dx n ne⟩⟩
/-- raise X(x), as its making is read -/
theorem mk_err {CE : Addr} {ta : TA} {σ : St} {H : Hp} {Q : XK} {x : V} (h : ta σ H fun vs H1 => vs = [x] ∧ H1 = H) (mono : ∀ {R R' : List V → Hp → Prop}, ta σ H R → (∀ v H1, R v H1 → R' v H1) → ta σ H R')
    (q : ∀ d, H d = none → Q (.ref CE) (some d) (upd H d (.xd [("value", x)]))) : tMkO CE (spEI CE) [] ta σ H Q := by
  refine mono h fun vs H1 hh => ?_
  obtain ⟨rfl, rfl⟩ := hh
  refine ⟨by show 1 ≤ 1000; decide, fun a na => ⟨a, x, rfl, upd_same, fun dx ndx nda => ⟨rfl, dx, [("value", x)], upd_same, ?_, ?_, ?_⟩⟩⟩
  · rw [upd_ne nda, upd_same]
  · rw [upd_ne nda] at ndx
    exact ndx
  · have e : upd (del (upd (upd (upd H1 a (exo a CE none)) dx (exd dx [("value", x)])) a (exo a CE (some dx))) a) dx (.xd [("value", x)]) = upd H1 dx (.xd [("value", x)]) := by
      funext b
      by_cases h1 : b = dx
      · rw [h1, upd_same, upd_same]
      · rw [upd_ne h1, upd_ne h1]
        by_cases h2 : b = a
        · rw [h2, del_same, na]
        · rw [del_ne h2, upd_ne h2, upd_ne h1, upd_ne h2]
    rw [e]
    rw [upd_ne nda] at ndx
    exact q dx ndx
end
end My

/-! right loops: their words, and loops without a word -/
namespace LM
open PySem L2 TL
theorem part_back {x y : Str} (h : ((Txt.partition x y).2.1.length != 0) = true) : x = (Txt.partition x y).1 ++ y ++ (Txt.partition x y).2.2 := by
  rcases PyProof.Rows.partition_whole x y with ⟨e, _⟩ | ⟨i, e, hi, _⟩
  · rw [e] at h
    exact absurd (show ((Str.empty).length != 0) = true from h) (by decide)
  · rw [e]
    refine ext_tl ?_
    rw [tl_append, tl_append, tl_strSub, tl_strSub_end, List.drop_zero, Nat.sub_zero]
    by_cases hy : tl y = []
    · have : y.length = 0 := by rw [len_tl, hy]; rfl
      rw [hy, this, List.append_nil, Nat.add_zero, List.take_append_drop]
    · have hp := (at_iff hy i).mp hi
      have e2 : ((tl x).drop i).take (tl y).length = tl y := eq_of_beq hp
      have e3 : tl y ++ (tl x).drop (i + y.length) = (tl x).drop i := by
        rw [len_tl y, ← drop_two]
        have := List.take_append_drop (tl y).length ((tl x).drop i)
        rw [e2] at this
        exact this
      rw [List.append_assoc, e3, List.take_append_drop]
theorem word_wd {w : Str} {ss : List Str} (h : isWord w ss = true) : Wd ss w := by
  unfold isWord at h
  cases hc : ((Txt.partition w ":").2.1.length != 0) with
  | true =>
    rw [if_pos hc] at h
    have h2 := Bool.and_eq_true_iff.mp h
    exact ⟨_, of_decide_eq_true h2.2, .inr ⟨_, of_decide_eq_true h2.1, part_back hc⟩⟩
  | false =>
    rw [if_neg (by rw [hc]; exact Bool.false_ne_true)] at h
    exact ⟨w, of_decide_eq_true h, .inl rfl⟩
/-- free and short -/
def FS (w : Str) : Prop := Fre w ∧ w.length ≤ 11
theorem wd_fs {w : Str} (h : Wd rsteps w) : FS w := by
  have := wd_ok w h.mem
  unfold wdOk at this
  simp only [Bool.and_eq_true, decide_eq_true_eq] at this
  exact ⟨⟨this.2.1, this.2.2.1⟩, this.2.2.2⟩
theorem e_r : ∀ s ∈ esteps, s ∈ rsteps := by decide +kernel
theorem ask_fs : FS "ask" := ⟨⟨by decide +kernel, by decide +kernel⟩, by decide +kernel⟩
theorem areWords_iff {ws ss : List Str} : areWords ws ss = true ↔ ∀ w ∈ ws, isWord w ss = true := List.all_eq_true
theorem isRound_iff {B : List Str} : isRound B = true ↔ ∃ r, B = ("ask" : Str) :: r ∧ B.length ≤ 12 ∧ (B.filter isAdd).length ≤ 1 ∧ ∀ w ∈ r, isWord w rsteps = true := by
  unfold isRound
  simp only [Bool.and_eq_true, decide_eq_true_eq, areWords_iff]
  constructor
  · rintro ⟨h1, h2, h3, h4⟩
    cases B with
    | nil => cases h1
    | cons x r =>
      have : x = "ask" := Option.some.inj h1
      subst this
      exact ⟨r, rfl, h2, h3, h4⟩
  · rintro ⟨r, rfl, h2, h3, h4⟩
    exact ⟨rfl, h2, h3, h4⟩
theorem isEnding_iff {E : List Str} : isEnding E = true ↔ E.length ≤ 6 ∧ ∀ w ∈ E, isWord w esteps = true := by
  unfold isEnding
  simp only [Bool.and_eq_true, decide_eq_true_eq, areWords_iff]
theorem round_fs {B : List Str} (h : isRound B = true) : ∀ w ∈ B, FS w := by
  obtain ⟨r, rfl, _, _, h4⟩ := isRound_iff.mp h
  intro w hw
  rcases List.mem_cons.mp hw with rfl | hw
  · exact ask_fs
  · exact wd_fs (word_wd (h4 w hw))
theorem ending_fs {E : List Str} (h : isEnding E = true) : ∀ w ∈ E, FS w := fun w hw => wd_fs ((word_wd ((isEnding_iff.mp h).2 w hw)).mono e_r)
theorem round_ne {B : List Str} (h : isRound B = true) : B ≠ [] := by
  obtain ⟨r, rfl, _⟩ := isRound_iff.mp h
  simp
theorem round_sht {B : List Str} (h : isRound B = true) : Sht 12 B := ⟨fun w hw => (round_fs h w hw).2, let ⟨_, _, h2, _⟩ := isRound_iff.mp h; h2⟩
theorem ending_sht {E : List Str} (h : isEnding E = true) : Sht 6 E := ⟨fun w hw => (ending_fs h w hw).2, (isEnding_iff.mp h).1⟩
theorem Sht.mono {n m : Nat} {B : List Str} (h : Sht n B) (l : n ≤ m) : Sht m B := ⟨h.1, Nat.le_trans h.2 l⟩
theorem text_words {B E : List Str} (hB : isRound B = true) (hE : isEnding E = true) : wordsR (textOf B E) = B ∧ wordsE (textOf B E) = E := words_text (round_ne hB) (fun w hw => (round_fs hB w hw).1) (fun w hw => (ending_fs hE w hw).1)
theorem text_good {B E : List Str} (hB : isRound B = true) (hE : isEnding E = true) : goodText (textOf B E) = true := by
  have := text_words hB hE
  unfold goodText
  rw [this.1, this.2, hB, hE]
  rfl
theorem text_len {B E : List Str} (hB : isRound B = true) (hE : isEnding E = true) : (textOf B E).length ≤ 300 := by
  have h1 := (round_sht hB).join
  have h2 := (ending_sht hE).join
  unfold textOf
  split
  · omega
  · rw [strLen_append, strLen_append]
    have : (" | " : Str).length = 3 := by decide +kernel
    omega
/-- without the word at i -/
theorem round_erase {B : List Str} {i : Nat} (hB : isRound B = true) (hi : 1 ≤ i) : isRound (B.eraseIdx i) = true := by
  obtain ⟨r, rfl, h2, h3, h4⟩ := isRound_iff.mp hB
  obtain ⟨k, rfl⟩ : ∃ k, i = k + 1 := ⟨i - 1, by omega⟩
  have sub : (("ask" : Str) :: r.eraseIdx k).Sublist (("ask" : Str) :: r) := (List.eraseIdx_sublist r k).cons_cons _
  refine isRound_iff.mpr ⟨r.eraseIdx k, rfl, Nat.le_trans sub.length_le h2, Nat.le_trans (sub.filter isAdd).length_le h3, fun w hw => h4 w ((List.eraseIdx_sublist r k).subset hw)⟩
theorem ending_erase {E : List Str} {i : Nat} (hE : isEnding E = true) : isEnding (E.eraseIdx i) = true := by
  have h := isEnding_iff.mp hE
  exact isEnding_iff.mpr ⟨Nat.le_trans (List.eraseIdx_sublist E i).length_le h.1, fun w hw => h.2 w ((List.eraseIdx_sublist E i).subset hw)⟩
theorem good_iff {t : Str} : goodText t = true ↔ isRound (wordsR t) = true ∧ isEnding (wordsE t) = true := Bool.and_eq_true_iff
end LM

/-! loops that are drawn -/
namespace LM
open PySem L2 TL
def sBar : Str := " | "
def sSp : Str := " "
def samples : List Str := ["ask empty:stop hand", "ask hand short:stop", "ask add cut told:stop | rest:flush", "ask told:stop hand", "ask add empty:stop | rest:flush", "ask add cut empty:stop | flush", "ask some:hand told:stop", "ask empty:stop add cut | rest:flush", "ask empty:again hand told:stop", "ask add full:flush told:stop"]
def sampP (s : Str) : List Str := Txt.split s " | "
def sampB (s : Str) : List Str := Txt.split ((sampP s).getD 0 Str.empty) " "
def sampE (s : Str) : List Str := if (sampP s).length > 1 then Txt.split ((sampP s).getD 1 Str.empty) " " else []
def sampOk (s : Str) : Bool := isRound (sampB s) && (isEnding (sampE s) && (decide ((sampB s).length ≤ 4) && (decide ((sampE s).length ≤ 1) && (decide (1 ≤ (sampP s).length) && (decide (s.length ≤ 100) && (sampP s).all fun p => decide (p.length ≤ 100))))))
theorem samp_ok : ∀ s ∈ samples, sampOk s = true := by decide +kernel
structure Samp (s : Str) : Prop where
  r : isRound (sampB s) = true
  e : isEnding (sampE s) = true
  lb : (sampB s).length ≤ 4
  le : (sampE s).length ≤ 1
  l1 : 1 ≤ (sampP s).length
  ls : s.length ≤ 100
  lp : ∀ p ∈ sampP s, p.length ≤ 100
theorem samp_of {s : Str} (h : s ∈ samples) : Samp s := by
  have := samp_ok s h
  unfold sampOk at this
  simp only [Bool.and_eq_true, decide_eq_true_eq, List.all_eq_true] at this
  exact ⟨this.1, this.2.1, this.2.2.1, this.2.2.2.1, this.2.2.2.2.1, this.2.2.2.2.2.1, this.2.2.2.2.2.2⟩
/-! ### a word more -/
def plain5 : List Str := ["hand", "cut", "flush", "stop", "again"]
theorem wd_round {w : Str} (h : Wd rsteps w) : isWord w rsteps = true := by
  have := wd_ok w h.mem
  unfold wdOk at this
  exact (Bool.and_eq_true_iff.mp this).1
theorem wd_ending {w : Str} (h : Wd esteps w) : isWord w esteps = true := wd_end w h.mem
theorem wd_plain {w : Str} (h : Wd plain5 w) : isAdd w = false := wd_noadd w h.mem
theorem ask_noadd : isAdd "ask" = false := by decide +kernel
theorem ins_round {B xs : List Str} {i : Nat} (hB : isRound B = true) (hi : 1 ≤ i) (hx : ∀ x ∈ xs, isWord x rsteps = true) (hl : B.length + xs.length ≤ 12) (ha : (B.filter isAdd).length + (xs.filter isAdd).length ≤ 1) :
    isRound (B.take i ++ xs ++ B.drop i) = true := by
  obtain ⟨r, rfl, h2, h3, h4⟩ := isRound_iff.mp hB
  obtain ⟨k, rfl⟩ : ∃ k, i = k + 1 := ⟨i - 1, by omega⟩
  refine isRound_iff.mpr ⟨r.take k ++ xs ++ r.drop k, rfl, ?_, ?_, fun w hw => ?_⟩
  · rw [List.length_append, List.length_append, List.length_take, List.length_drop]
    omega
  · rw [List.filter_append, List.filter_append, List.length_append, List.length_append]
    have e : (((("ask" : Str) :: r).take (k + 1)).filter isAdd).length + (((("ask" : Str) :: r).drop (k + 1)).filter isAdd).length = ((("ask" : Str) :: r).filter isAdd).length := by
      rw [← List.length_append, ← List.filter_append, List.take_append_drop]
    omega
  · rcases List.mem_append.mp hw with hw | hw
    · rcases List.mem_append.mp hw with hw | hw
      · exact h4 w (List.mem_of_mem_take hw)
      · exact hx w hw
    · exact h4 w (List.mem_of_mem_drop hw)
theorem ask_round {ws : List Str} (h : ∀ w ∈ ws, Wd plain5 w) (hl : ws.length ≤ 11) : isRound (("ask" : Str) :: ws) = true ∧ ((("ask" : Str) :: ws).filter isAdd).length = 0 := by
  have e : ((("ask" : Str) :: ws).filter isAdd) = [] := by
    refine List.filter_eq_nil_iff.mpr fun w hw => ?_
    rcases List.mem_cons.mp hw with rfl | hw
    · rw [ask_noadd]; exact Bool.false_ne_true
    · rw [wd_plain (h w hw)]; exact Bool.false_ne_true
  refine ⟨isRound_iff.mpr ⟨ws, rfl, by rw [List.length_cons]; omega, by rw [e]; exact Nat.zero_le _, fun w hw => wd_round ((h w hw).mono (by decide +kernel))⟩, by rw [e]; rfl⟩
theorem one_filter {xs : List Str} (h : xs.length = 1) : (xs.filter isAdd).length ≤ 1 := Nat.le_trans (List.length_filter_le ..) (by omega)
theorem none_filter {xs : List Str} (h : ∀ w ∈ xs, Wd plain5 w) : (xs.filter isAdd).length = 0 := by
  rw [show xs.filter isAdd = [] from List.filter_eq_nil_iff.mpr fun w hw => by rw [wd_plain (h w hw)]; exact Bool.false_ne_true]
  rfl
theorem round_adds {B : List Str} (h : isRound B = true) : (B.filter isAdd).length ≤ 1 := let ⟨_, _, _, h3, _⟩ := isRound_iff.mp h; h3
theorem words_ending {E : List Str} (h : ∀ w ∈ E, Wd esteps w) (hl : E.length ≤ 6) : isEnding E = true := isEnding_iff.mpr ⟨hl, fun w hw => wd_ending (h w hw)⟩
/-! ### signs that are signs -/
def Asc (w : Str) : Prop := PyData.strOk w = true
theorem asc_iff {w : Str} : Asc w ↔ ∀ c ∈ tl w, c < 1114112 := by
  unfold Asc PyData.strOk
  rw [← Array.all_toList, List.all_eq_true]
  simp
theorem Asc.app {a b : Str} (ha : Asc a) (hb : Asc b) : Asc (a ++ b) := by
  rw [asc_iff] at ha hb ⊢
  rw [tl_append]
  intro c hc
  exact (List.mem_append.mp hc).elim (ha c) (hb c)
theorem asc_join {B : List Str} (h : ∀ w ∈ B, Asc w) : Asc (Txt.join " " B) := by
  rw [asc_iff, tl_joinSp]
  intro c hc
  rcases joinL_mem hc with hc | ⟨p, hp, hc⟩
  · rw [List.mem_singleton.mp hc]
    decide
  · obtain ⟨w, hw, rfl⟩ := List.mem_map.mp hp
    exact asc_iff.mp (h w hw) c hc
theorem asc_bar : Asc " | " := by unfold Asc; decide +kernel
theorem asc_text {B E : List Str} (h1 : ∀ w ∈ B, Asc w) (h2 : ∀ w ∈ E, Asc w) : Asc (textOf B E) := by
  unfold textOf
  split
  · exact asc_join h1
  · exact ((asc_join h1).app asc_bar).app (asc_join h2)
theorem wd_asc' : ∀ w ∈ allWd rsteps, PyData.strOk w = true := by decide +kernel
theorem wd_asc {w : Str} (h : Wd rsteps w) : Asc w := wd_asc' w h.mem
theorem ask_asc : Asc "ask" := by unfold Asc; decide +kernel
theorem round_asc {B : List Str} (h : isRound B = true) : ∀ w ∈ B, Asc w := by
  obtain ⟨r, rfl, _, _, h4⟩ := isRound_iff.mp h
  intro w hw
  rcases List.mem_cons.mp hw with rfl | hw
  · exact ask_asc
  · exact wd_asc (word_wd (h4 w hw))
theorem ending_asc {E : List Str} (h : isEnding E = true) : ∀ w ∈ E, Asc w := fun w hw => wd_asc ((word_wd ((isEnding_iff.mp h).2 w hw)).mono e_r)
end LM

/-! rows of pieces: what cutters make of them -/
namespace CH
def evenly (n w : Nat) : List Nat := List.replicate (n / w) w ++ (if n % w = 0 then [] else [n % w])
def chop (xs : List Nat) (w : Nat) : List Nat := xs.flatMap fun x => evenly x w
def tailS (xs : List Nat) (w : Nat) : List Nat := if 2 ≤ xs.length ∧ xs.getD (xs.length - 1) 0 < w then xs.take (xs.length - 2) ++ [xs.getD (xs.length - 2) 0 + xs.getD (xs.length - 1) 0] else xs
inductive Kd | cut | fill | tail
  deriving DecidableEq
def applyS (n : Nat) (c : Kd × Nat) (xs : List Nat) : List Nat := match c.1 with
  | .cut => chop xs c.2
  | .fill => evenly n c.2
  | .tail => tailS xs c.2
def wholeS (n : Nat) : List Nat := if n = 0 then [] else [n]
/-- the sizes of the pieces -/
def lens (cs : List (Kd × Nat)) (n : Nat) : List Nat := cs.foldl (fun xs c => applyS n c xs) (wholeS n)
structure Rw where
  unit : List Nat
  times : Nat
  last : List Nat
def Rw.sizes (r : Rw) : List Nat := (List.replicate r.times r.unit).flatten ++ r.last
def Rw.many (r : Rw) : Nat := r.times * r.unit.length + r.last.length
def Rw.tot (r : Rw) : Nat := r.times * r.unit.sum + r.last.sum
def fillR (r : Rw) (w : Nat) : Rw := ⟨[w], r.tot / w, if r.tot % w = 0 then [] else [r.tot % w]⟩
def cutR (r : Rw) (w : Nat) : Rw := if r.many = 1 then fillR r w else ⟨chop r.unit w, r.times, chop r.last w⟩
def pull (u : List Nat) : Nat → List Nat → Nat × List Nat
  | 0, l => (0, l)
  | t + 1, l => if l.length < 2 then pull u t (u ++ l) else (t + 1, l)
def tailR (r : Rw) (w : Nat) : Rw := ⟨r.unit, (pull r.unit r.times r.last).1, tailS (pull r.unit r.times r.last).2 w⟩
def wholeR (n : Nat) : Rw := ⟨[], 0, wholeS n⟩
def applyR (c : Kd × Nat) (r : Rw) : Rw := match c.1 with
  | .cut => cutR r c.2
  | .fill => fillR r c.2
  | .tail => tailR r c.2
def rowOf (cs : List (Kd × Nat)) (n : Nat) : Rw := cs.foldl (fun r c => applyR c r) (wholeR n)
/-! ### lists -/
theorem rep_len (u : List Nat) : ∀ t, (List.replicate t u).flatten.length = t * u.length
  | 0 => by simp
  | t + 1 => by rw [List.replicate_succ, List.flatten_cons, List.length_append, rep_len u t, Nat.succ_mul]; omega
theorem rep_sum (u : List Nat) : ∀ t, (List.replicate t u).flatten.sum = t * u.sum
  | 0 => by simp
  | t + 1 => by rw [List.replicate_succ, List.flatten_cons, List.sum_append, rep_sum u t, Nat.succ_mul]; omega
theorem sizes_len (r : Rw) : r.sizes.length = r.many := by unfold Rw.sizes Rw.many; rw [List.length_append, rep_len]
theorem sizes_sum (r : Rw) : r.sizes.sum = r.tot := by unfold Rw.sizes Rw.tot; rw [List.sum_append, rep_sum]
theorem flat_one (w : Nat) : ∀ t, (List.replicate t [w]).flatten = List.replicate t w
  | 0 => rfl
  | t + 1 => by rw [List.replicate_succ, List.flatten_cons, flat_one w t, List.replicate_succ]; rfl
theorem fill_sizes (r : Rw) (w : Nat) : (fillR r w).sizes = evenly r.tot w := by
  unfold fillR Rw.sizes evenly
  rw [flat_one]
theorem evenly_sum (n w : Nat) : (evenly n w).sum = n := by
  unfold evenly
  rw [List.sum_append, List.sum_replicate_nat]
  have := Nat.div_add_mod n w
  split
  · rw [List.sum_nil]; rw [Nat.mul_comm]; omega
  · rw [List.sum_singleton, Nat.mul_comm]; omega
theorem chop_app (a b : List Nat) (w : Nat) : chop (a ++ b) w = chop a w ++ chop b w := by unfold chop; rw [List.flatMap_append]
theorem chop_rep (u : List Nat) (w : Nat) : ∀ t, chop (List.replicate t u).flatten w = (List.replicate t (chop u w)).flatten
  | 0 => rfl
  | t + 1 => by rw [List.replicate_succ, List.flatten_cons, chop_app, chop_rep u w t, List.replicate_succ, List.flatten_cons]
theorem chop_sum (w : Nat) : ∀ xs, (chop xs w).sum = xs.sum
  | [] => rfl
  | x :: r => by
    show (evenly x w ++ chop r w).sum = _
    rw [List.sum_append, evenly_sum, chop_sum w r, List.sum_cons]
theorem cut_sizes (r : Rw) (w : Nat) : (cutR r w).sizes = chop r.sizes w := by
  unfold cutR
  split
  · rename_i h
    rw [fill_sizes]
    rw [← sizes_len] at h
    rw [← sizes_sum]
    match r.sizes, h with
    | [x], _ =>
      show evenly (x + 0) w = evenly x w ++ []
      rw [List.append_nil]; rfl
  · show (List.replicate r.times (chop r.unit w)).flatten ++ chop r.last w = _
    unfold Rw.sizes
    rw [chop_app, chop_rep]
theorem pull_sizes (u : List Nat) : ∀ (t : Nat) (l : List Nat), (List.replicate (pull u t l).1 u).flatten ++ (pull u t l).2 = (List.replicate t u).flatten ++ l
  | 0, l => rfl
  | t + 1, l => by
    unfold pull
    split
    · rw [pull_sizes u t (u ++ l), List.replicate_succ', List.flatten_append, List.append_assoc]
      simp
    · rfl
theorem pull_end (u : List Nat) : ∀ (t : Nat) (l : List Nat), (pull u t l).1 = 0 ∨ 2 ≤ (pull u t l).2.length
  | 0, l => .inl rfl
  | t + 1, l => by
    unfold pull
    split
    · exact pull_end u t (u ++ l)
    · right; show 2 ≤ l.length; omega
theorem getD_app (a b : List Nat) (i : Nat) (h : a.length ≤ i) : (a ++ b).getD i 0 = b.getD (i - a.length) 0 := by
  rw [List.getD_eq_getElem?_getD, List.getD_eq_getElem?_getD, List.getElem?_append_right h]
theorem tailS_app (a b : List Nat) (w : Nat) (h : 2 ≤ b.length) : tailS (a ++ b) w = a ++ tailS b w := by
  unfold tailS
  rw [List.length_append, getD_app a b _ (by omega), getD_app a b _ (by omega), show a.length + b.length - 1 - a.length = b.length - 1 by omega, show a.length + b.length - 2 - a.length = b.length - 2 by omega]
  by_cases c : b.getD (b.length - 1) 0 < w
  · rw [if_pos ⟨by omega, c⟩, if_pos ⟨h, c⟩, List.take_append, List.take_of_length_le (by omega), List.append_assoc, show a.length + b.length - 2 - a.length = b.length - 2 by omega]
  · rw [if_neg fun z => c z.2, if_neg fun z => c z.2]
theorem tail_sizes (r : Rw) (w : Nat) : (tailR r w).sizes = tailS r.sizes w := by
  show (List.replicate (pull r.unit r.times r.last).1 r.unit).flatten ++ tailS (pull r.unit r.times r.last).2 w = _
  have e := pull_sizes r.unit r.times r.last
  unfold Rw.sizes
  rw [← e]
  rcases pull_end r.unit r.times r.last with h | h
  · rw [h]; rfl
  · rw [tailS_app _ _ _ h]
theorem getD_eq {xs : List Nat} {i : Nat} (h : i < xs.length) : xs.getD i 0 = xs[i] := by rw [List.getD_eq_getElem?_getD, List.getElem?_eq_getElem h]; rfl
theorem two_last {xs : List Nat} (h : 2 ≤ xs.length) : xs = xs.take (xs.length - 2) ++ [xs.getD (xs.length - 2) 0, xs.getD (xs.length - 1) 0] := by
  have e : xs.drop (xs.length - 2) = [xs.getD (xs.length - 2) 0, xs.getD (xs.length - 1) 0] := by
    rw [List.drop_eq_getElem_cons (by omega), List.drop_eq_getElem_cons (by omega), List.drop_of_length_le (by omega)]
    rw [getD_eq (by omega), getD_eq (by omega)]
    have e : xs.length - 2 + 1 = xs.length - 1 := by omega
    simp [e]
  rw [← e, List.take_append_drop]
theorem tailS_sum (xs : List Nat) (w : Nat) : (tailS xs w).sum = xs.sum := by
  unfold tailS
  split
  · rename_i h
    rw [List.sum_append]
    conv => rhs; rw [two_last h.1]
    rw [List.sum_append]
    simp
  · rfl
theorem wholeS_sum (n : Nat) : (wholeS n).sum = n := by
  unfold wholeS
  split
  · rename_i h; rw [h]; rfl
  · simp
theorem applyS_sum (n : Nat) (c : Kd × Nat) (xs : List Nat) (h : xs.sum = n) : (applyS n c xs).sum = n := by
  unfold applyS
  split
  · rw [chop_sum, h]
  · rw [evenly_sum]
  · rw [tailS_sum, h]
theorem fold_sizes (n : Nat) : ∀ (cs : List (Kd × Nat)) (r : Rw) (xs : List Nat), r.sizes = xs → xs.sum = n → (cs.foldl (fun r c => applyR c r) r).sizes = cs.foldl (fun xs c => applyS n c xs) xs ∧ (cs.foldl (fun xs c => applyS n c xs) xs).sum = n
  | [], r, xs, h1, h2 => ⟨h1, h2⟩
  | c :: cs, r, xs, h1, h2 => by
    refine fold_sizes n cs (applyR c r) (applyS n c xs) ?_ (applyS_sum n c xs h2)
    unfold applyR applyS
    split
    · rw [cut_sizes, h1]
    · rw [fill_sizes, ← sizes_sum, h1, h2]
    · rw [tail_sizes, h1]
theorem row_sizes (cs : List (Kd × Nat)) (n : Nat) : (rowOf cs n).sizes = lens cs n := (fold_sizes n cs (wholeR n) (wholeS n) rfl (wholeS_sum n)).1
theorem lens_sum (cs : List (Kd × Nat)) (n : Nat) : (lens cs n).sum = n := (fold_sizes n cs (wholeR n) (wholeS n) rfl (wholeS_sum n)).2
theorem row_many (cs : List (Kd × Nat)) (n : Nat) : (rowOf cs n).many = (lens cs n).length := by rw [← sizes_len, row_sizes]
theorem row_tot (cs : List (Kd × Nat)) (n : Nat) : (rowOf cs n).tot = n := by rw [← sizes_sum, row_sizes, lens_sum]
/-! ### all pieces have items -/
def Pos (xs : List Nat) : Prop := ∀ x ∈ xs, 0 < x
theorem Pos.app {a b : List Nat} (ha : Pos a) (hb : Pos b) : Pos (a ++ b) := fun x h => (List.mem_append.mp h).elim (ha x) (hb x)
theorem Pos.len {xs : List Nat} (h : Pos xs) : xs.length ≤ xs.sum := by
  induction xs with
  | nil => simp
  | cons x r ih =>
    have a := h x (List.mem_cons_self ..)
    have b := ih fun y hy => h y (List.mem_cons_of_mem _ hy)
    rw [List.length_cons, List.sum_cons]
    omega
theorem pos_evenly {n w : Nat} (hw : 0 < w) : Pos (evenly n w) := by
  intro x hx
  unfold evenly at hx
  rcases List.mem_append.mp hx with h | h
  · rw [(List.mem_replicate.mp h).2]; exact hw
  · split at h
    · cases h
    · rw [List.mem_singleton.mp h]; omega
theorem pos_chop {xs : List Nat} {w : Nat} (hw : 0 < w) : Pos (chop xs w) := by
  intro x hx
  obtain ⟨y, _, h⟩ := List.mem_flatMap.mp hx
  exact pos_evenly hw x h
theorem pos_tailS {xs : List Nat} {w : Nat} (h : Pos xs) : Pos (tailS xs w) := by
  unfold tailS
  split
  · rename_i c
    refine Pos.app (fun x hx => h x (List.mem_of_mem_take hx)) fun x hx => ?_
    rw [List.mem_singleton.mp hx]
    have := h (xs.getD (xs.length - 2) 0) (by rw [getD_eq (by omega)]; exact List.getElem_mem _)
    omega
  · exact h
theorem pos_wholeS (n : Nat) : Pos (wholeS n) := by
  unfold wholeS
  split
  · intro x h; cases h
  · intro x h; rw [List.mem_singleton.mp h]; omega
theorem pos_rep {u : List Nat} {t : Nat} (h : Pos u) : Pos (List.replicate t u).flatten := by
  intro x hx
  obtain ⟨l, hl, hx⟩ := List.mem_flatten.mp hx
  rw [(List.mem_replicate.mp hl).2] at hx
  exact h x hx
/-- what holds of a row behind k cutters -/
structure Inv (k : Nat) (r : Rw) : Prop where
  pu : Pos r.unit
  pl : Pos r.last
  f : (r.unit = [] ∧ r.times = 0 ∧ r.last.length ≤ 1) ∨ (r.unit ≠ [] ∧ r.unit.sum ≤ 12 ∧ r.last.sum ≤ 24 * k + 12)
theorem inv_whole (n : Nat) : Inv 0 (wholeR n) := ⟨fun x h => (nomatch h), pos_wholeS n, .inl ⟨rfl, rfl, by show (wholeS n).length ≤ 1; unfold wholeS; split <;> simp⟩⟩
theorem inv_fill {k : Nat} {r : Rw} {w : Nat} (hw : 0 < w) (h12 : w ≤ 12) : Inv (k + 1) (fillR r w) := by
  refine ⟨fun x h => ?_, fun x h => ?_, .inr ⟨by simp [fillR], by show [w].sum ≤ 12; simpa using h12, ?_⟩⟩
  · rw [List.mem_singleton.mp h]; exact hw
  · unfold fillR at h
    simp only at h
    split at h
    · cases h
    · rw [List.mem_singleton.mp h]; omega
  · show (if r.tot % w = 0 then [] else [r.tot % w]).sum ≤ _
    have := Nat.mod_lt r.tot hw
    split
    · simp
    · simp; omega
theorem evenly_ne {n w : Nat} (hn : 0 < n) : evenly n w ≠ [] := fun e => by
  have := evenly_sum n w
  rw [e] at this
  simp at this
  omega
theorem inv_cut {k : Nat} {r : Rw} {w : Nat} (hw : 0 < w) (h12 : w ≤ 12) (h : Inv k r) : Inv (k + 1) (cutR r w) := by
  unfold cutR
  split
  · exact inv_fill hw h12
  · rename_i hm
    refine ⟨pos_chop hw, pos_chop hw, ?_⟩
    rcases h.f with ⟨a, b, c⟩ | ⟨a, b, c⟩
    · left
      refine ⟨by rw [a]; rfl, b, ?_⟩
      have : r.last.length = 0 := by
        unfold Rw.many at hm
        rw [b] at hm
        omega
      rw [List.eq_nil_of_length_eq_zero this]
      simp [chop]
    · right
      refine ⟨fun e => ?_, by rw [chop_sum]; exact b, by rw [chop_sum]; show r.last.sum ≤ _; omega⟩
      obtain ⟨x, u, hu⟩ := List.exists_cons_of_ne_nil a
      rw [hu] at e
      have e2 : evenly x w ++ chop u w = [] := e
      exact evenly_ne (h.pu x (by rw [hu]; exact List.mem_cons_self ..)) (List.append_eq_nil_iff.mp e2).1
theorem pull_len (u : List Nat) (hu : u ≠ []) : ∀ (t : Nat) (l : List Nat), (pull u t l).2.sum ≤ l.sum + (2 - l.length) * u.sum
  | 0, l => by show l.sum ≤ _; omega
  | t + 1, l => by
    unfold pull
    split
    · have ih := pull_len u hu t (u ++ l)
      have hl : 1 ≤ u.length := List.length_pos_iff.mpr hu
      rw [List.sum_append, List.length_append] at ih
      have : (2 - (u.length + l.length)) * u.sum ≤ (1 - l.length) * u.sum := Nat.mul_le_mul_right _ (by omega)
      have e : (2 - l.length) * u.sum = (1 - l.length) * u.sum + u.sum := by
        rw [show 2 - l.length = (1 - l.length) + 1 by omega, Nat.succ_mul]
      omega
    · show l.sum ≤ _; omega
theorem pos_pull {u : List Nat} (hu : Pos u) : ∀ (t : Nat) {l : List Nat}, Pos l → Pos (pull u t l).2
  | 0, l, h => h
  | t + 1, l, h => by
    unfold pull
    split
    · exact pos_pull hu t (hu.app h)
    · exact h
theorem inv_tail {k : Nat} {r : Rw} {w : Nat} (h : Inv k r) : Inv (k + 1) (tailR r w) := by
  refine ⟨h.pu, pos_tailS (pos_pull h.pu _ h.pl), ?_⟩
  rcases h.f with ⟨a, b, c⟩ | ⟨a, b, c⟩
  · left
    refine ⟨a, ?_, ?_⟩
    · show (pull r.unit r.times r.last).1 = 0
      rw [b]; rfl
    · show (tailS (pull r.unit r.times r.last).2 w).length ≤ 1
      rw [b]
      show (tailS r.last w).length ≤ 1
      unfold tailS
      rw [if_neg (fun z => by have := z.1; omega)]
      exact c
  · right
    refine ⟨a, b, ?_⟩
    show (tailS (pull r.unit r.times r.last).2 w).sum ≤ _
    rw [tailS_sum]
    have := pull_len r.unit a r.times r.last
    have : (2 - r.last.length) * r.unit.sum ≤ 2 * 12 := Nat.mul_le_mul (by omega) b
    omega
theorem inv_apply {k : Nat} {r : Rw} {c : Kd × Nat} (h1 : 0 < c.2) (h2 : c.2 ≤ 12) (h : Inv k r) : Inv (k + 1) (applyR c r) := by
  unfold applyR
  split
  · exact inv_cut h1 h2 h
  · exact inv_fill h1 h2
  · exact inv_tail h
/-! ### pieces and places -/
theorem take_rep (u : List Nat) : ∀ (t i : Nat), i < t * u.length → ((List.replicate t u).flatten.take i).sum = i / u.length * u.sum + (u.take (i % u.length)).sum ∧ (List.replicate t u).flatten[i]? = u[i % u.length]?
  | 0, i, h => by omega
  | t + 1, i, h => by
    rw [List.replicate_succ, List.flatten_cons]
    rw [Nat.succ_mul] at h
    by_cases c : i < u.length
    · rw [Nat.div_eq_of_lt c, Nat.mod_eq_of_lt c, List.take_append, List.getElem?_append_left c, show i - u.length = 0 by omega]
      simp
    · have hp : 0 < u.length := by
        rcases Nat.eq_zero_or_pos u.length with z | z
        · rw [z] at h; omega
        · exact z
      obtain ⟨a, b⟩ := take_rep u t (i - u.length) (by omega)
      rw [List.take_append, List.take_of_length_le (by omega), List.sum_append, List.getElem?_append_right (by omega), a, b, Nat.mod_eq_sub_mod (by omega : u.length ≤ i), Nat.div_eq_sub_div hp (by omega : u.length ≤ i)]
      refine ⟨?_, rfl⟩
      rw [Nat.succ_mul]
      omega
/-- the place of the piece with this item -/
def placeA : List Nat → Nat → Nat
  | [], _ => 0
  | x :: r, i => if i < x then 0 else 1 + placeA r (i - x)
theorem placeA_app : ∀ (a b : List Nat) (i : Nat), placeA (a ++ b) i = if i < a.sum then placeA a i else a.length + placeA b (i - a.sum)
  | [], b, i => by simp
  | x :: r, b, i => by
    rw [List.cons_append, List.sum_cons, List.length_cons]
    show (if i < x then 0 else 1 + placeA (r ++ b) (i - x)) = _
    have e : placeA (x :: r) i = if i < x then 0 else 1 + placeA r (i - x) := rfl
    rw [placeA_app r b, e]
    by_cases h1 : i < x
    · rw [if_pos h1, if_pos (by omega), if_pos h1]
    · rw [if_neg h1]
      by_cases h2 : i < x + r.sum
      · rw [if_pos h2, if_neg h1, if_pos (by omega)]
      · rw [if_neg h2, if_neg (by omega), show i - x - r.sum = i - (x + r.sum) by omega]
        omega
theorem placeA_rep (u : List Nat) : ∀ (t i : Nat), i < t * u.sum → placeA (List.replicate t u).flatten i = i / u.sum * u.length + placeA u (i % u.sum)
  | 0, i, h => by omega
  | t + 1, i, h => by
    rw [List.replicate_succ, List.flatten_cons, placeA_app]
    rw [Nat.succ_mul] at h
    by_cases c : i < u.sum
    · rw [if_pos c, Nat.div_eq_of_lt c, Nat.mod_eq_of_lt c]
      omega
    · rw [if_neg c]
      have hp : 0 < u.sum := by
        rcases Nat.eq_zero_or_pos u.sum with z | z
        · rw [z] at h; omega
        · exact z
      rw [placeA_rep u t (i - u.sum) (by omega), Nat.mod_eq_sub_mod (by omega : u.sum ≤ i), Nat.div_eq_sub_div hp (by omega : u.sum ≤ i), Nat.succ_mul]
      omega
theorem placeA_lt : ∀ (xs : List Nat) (i : Nat), i < xs.sum → placeA xs i < xs.length ∧ (xs.take (placeA xs i)).sum ≤ i ∧ i < (xs.take (placeA xs i)).sum + xs.getD (placeA xs i) 0
  | [], i, h => by simp at h
  | x :: r, i, h => by
    rw [List.sum_cons] at h
    have e : placeA (x :: r) i = if i < x then 0 else 1 + placeA r (i - x) := rfl
    rw [e]
    by_cases c : i < x
    · rw [if_pos c]
      simp
      exact c
    · rw [if_neg c]
      obtain ⟨a, b, d⟩ := placeA_lt r (i - x) (by omega)
      rw [Nat.add_comm 1, List.take_succ_cons, List.sum_cons, List.length_cons]
      refine ⟨by omega, by omega, ?_⟩
      show i < x + _ + (r.getD _ 0)
      omega
/-- the answers of a row -/
def pieceR (r : Rw) (p : Nat) : Nat × Nat := if p < r.times * r.unit.length then (p / r.unit.length * r.unit.sum + (r.unit.take (p % r.unit.length)).sum, r.unit.getD (p % r.unit.length) 0)
  else (r.times * r.unit.sum + (r.last.take (p - r.times * r.unit.length)).sum, r.last.getD (p - r.times * r.unit.length) 0)
def placeR (r : Rw) (i : Nat) : Nat := if i < r.times * r.unit.sum then i / r.unit.sum * r.unit.length + placeA r.unit (i % r.unit.sum) else r.times * r.unit.length + placeA r.last (i - r.times * r.unit.sum)
theorem piece_sizes (r : Rw) (p : Nat) : pieceR r p = ((r.sizes.take p).sum, r.sizes.getD p 0) := by
  unfold pieceR Rw.sizes
  split
  · rename_i h
    obtain ⟨a, b⟩ := take_rep r.unit r.times p h
    rw [List.take_append, show p - (List.replicate r.times r.unit).flatten.length = 0 by rw [rep_len]; omega]
    rw [List.getD_eq_getElem?_getD, List.getD_eq_getElem?_getD, List.getElem?_append_left (by rw [rep_len]; exact h), b]
    simp [a]
  · rename_i h
    rw [List.take_append, List.take_of_length_le (l := (List.replicate r.times r.unit).flatten) (by rw [rep_len]; omega), List.sum_append, rep_sum, rep_len, getD_app _ _ _ (by rw [rep_len]; omega), rep_len]
theorem place_sizes (r : Rw) (i : Nat) : placeR r i = placeA r.sizes i := by
  unfold placeR Rw.sizes
  rw [placeA_app, rep_sum, rep_len]
  split
  · rename_i h
    rw [placeA_rep _ _ _ h]
  · rfl
end CH
namespace CH
/-! ### where an item is -/
theorem sum_take_succ {xs : List Nat} {a : Nat} (h : a < xs.length) : (xs.take (a + 1)).sum = (xs.take a).sum + xs.getD a 0 := by
  rw [List.take_succ, List.sum_append, getD_eq h, List.getElem?_eq_getElem h]
  simp
theorem sum_take_mono {xs : List Nat} {a b : Nat} (h : a ≤ b) : (xs.take a).sum ≤ (xs.take b).sum := by
  have e : xs.take a = (xs.take b).take a := by rw [List.take_take, Nat.min_eq_left h]
  rw [e]
  have := congrArg List.sum (List.take_append_drop a (xs.take b))
  rw [List.sum_append] at this
  omega
theorem getD_pos {xs : List Nat} (h : Pos xs) {a : Nat} (ha : a < xs.length) : 0 < xs.getD a 0 := by
  rw [getD_eq ha]
  exact h _ (List.getElem_mem _)
theorem placeA_at : ∀ {xs : List Nat} {a i : Nat}, a < xs.length → (xs.take a).sum ≤ i → i < (xs.take a).sum + xs.getD a 0 → placeA xs i = a
  | [], _, _, h, _, _ => by simp at h
  | x :: r, 0, i, _, _, h3 => by
    have h3 : i < 0 + x := h3
    show (if i < x then 0 else 1 + placeA r (i - x)) = 0
    rw [if_pos (by omega)]
  | x :: r, a + 1, i, h1, h2, h3 => by
    rw [List.take_succ_cons, List.sum_cons] at h2 h3
    have h3 : i < x + (r.take a).sum + r.getD a 0 := h3
    have h1 : a < r.length := by simpa using h1
    show (if i < x then 0 else 1 + placeA r (i - x)) = a + 1
    rw [if_neg (by omega), placeA_at h1 (by omega) (by omega)]
    omega
/-- a piece begins with item 0 just if it is the first, and it has the last item just if it is the last -/
theorem begins {xs : List Nat} (h : Pos xs) {a : Nat} (ha : a < xs.length) : (xs.take a).sum = 0 ↔ a = 0 := by
  constructor
  · intro e
    cases a with
    | zero => rfl
    | succ a =>
      have := sum_take_succ (xs := xs) (a := a) (by omega)
      have := getD_pos h (a := a) (by omega)
      omega
  · intro e
    rw [e]
    rfl
theorem ends {xs : List Nat} (h : Pos xs) {a : Nat} (ha : a < xs.length) : (xs.take a).sum + xs.getD a 0 ≤ xs.sum ∧ ((xs.take a).sum + xs.getD a 0 = xs.sum ↔ a = xs.length - 1) := by
  have e := sum_take_succ ha
  rw [← e]
  have l : (xs.take (a + 1)).sum ≤ (xs.take xs.length).sum := sum_take_mono (by omega)
  rw [List.take_length] at l
  refine ⟨l, fun z => ?_, fun z => ?_⟩
  · rcases Nat.lt_or_ge (a + 1) xs.length with c | c
    · have e2 := sum_take_succ c
      have p := getD_pos h c
      have l2 : (xs.take (a + 1 + 1)).sum ≤ (xs.take xs.length).sum := sum_take_mono (by omega)
      rw [List.take_length] at l2
      omega
    · omega
  · rw [List.take_of_length_le (by omega)]
end CH

/-! texts of chains -/
namespace CH
open PySem L2 TL
def kdS : Kd → Str
  | .cut => "cut"
  | .fill => "fill"
  | .tail => "tail"
def nS (n : Nat) : Str := Str.ofString (toString ((n : Nat) : Int))
def kds : List Str := ["cut", "fill", "tail"]
def widths : List Str := (List.range 12).map fun i => nS (i + 1)
def kdOf (w : Str) : Option Kd := if w = "cut" then some .cut else if w = "fill" then some .fill else if w = "tail" then some .tail else none
def numOf (d : Str) : Option Nat := (List.range 12).findSome? fun i => if d = nS (i + 1) then some (i + 1) else none
def cutterOf (t : Str) : Option (Kd × Nat) := match kdOf (Txt.partition t " ").1, numOf (Txt.partition t " ").2.2 with
  | some k, some n => some (k, n)
  | _, _ => none
def parts (t : Str) : List Str := Txt.split t ", "
def goodC (t : Str) : Bool := (parts t).all (fun p => (cutterOf p).isSome) && decide ((parts t).length ≤ 6)
def cuttersOf (t : Str) : List (Kd × Nat) := (parts t).filterMap cutterOf
def cutT (c : Kd × Nat) : Str := kdS c.1 ++ (" " : Str) ++ nS c.2
def cline (cs : List (Kd × Nat)) : Str := Txt.join ", " (cs.map cutT)
theorem kdOf_some {w : Str} {k : Kd} (h : kdOf w = some k) : w = kdS k := by
  unfold kdOf at h
  by_cases c1 : w = "cut"
  · rw [if_pos c1] at h; cases h; exact c1
  rw [if_neg c1] at h
  by_cases c2 : w = "fill"
  · rw [if_pos c2] at h; cases h; exact c2
  rw [if_neg c2] at h
  by_cases c3 : w = "tail"
  · rw [if_pos c3] at h; cases h; exact c3
  rw [if_neg c3] at h
  cases h
theorem kdOf_none {w : Str} (h : kdOf w = none) : w ∉ kds := by
  unfold kdOf at h
  by_cases c1 : w = "cut"
  · rw [if_pos c1] at h; cases h
  rw [if_neg c1] at h
  by_cases c2 : w = "fill"
  · rw [if_pos c2] at h; cases h
  rw [if_neg c2] at h
  by_cases c3 : w = "tail"
  · rw [if_pos c3] at h; cases h
  intro z
  simp [kds, c1, c2, c3] at z
theorem kdOf_kdS (k : Kd) : kdOf (kdS k) = some k := by cases k <;> decide +kernel
theorem numOf_some {d : Str} {n : Nat} (h : numOf d = some n) : d = nS n ∧ 1 ≤ n ∧ n ≤ 12 := by
  obtain ⟨i, hi, e⟩ := List.exists_of_findSome?_eq_some h
  have := List.mem_range.mp hi
  split at e
  · rename_i c
    cases e
    exact ⟨c, by omega, by omega⟩
  · cases e
theorem numOf_mem (d : Str) : decide (d ∈ widths) = (numOf d).isSome := by
  cases h : numOf d with
  | none =>
    refine decide_eq_false fun z => ?_
    obtain ⟨i, hi, e⟩ := List.mem_map.mp z
    have := List.findSome?_eq_none_iff.mp h i hi
    rw [if_pos e.symm] at this
    cases this
  | some n =>
    obtain ⟨e, h1, h2⟩ := numOf_some h
    refine decide_eq_true (List.mem_map.mpr ⟨n - 1, List.mem_range.mpr (by omega), ?_⟩)
    rw [e, show n - 1 + 1 = n by omega]
/-- all cutters -/
def allC : List (Kd × Nat) := [Kd.cut, Kd.fill, Kd.tail].flatMap fun k => (List.range 12).map fun i => (k, i + 1)
def Ct (c : Kd × Nat) : Prop := 1 ≤ c.2 ∧ c.2 ≤ 12
theorem Ct.mem {c : Kd × Nat} (h : Ct c) : c ∈ allC := by
  obtain ⟨k, n⟩ := c
  refine List.mem_flatMap.mpr ⟨k, by cases k <;> simp, List.mem_map.mpr ⟨n - 1, List.mem_range.mpr ?_, ?_⟩⟩
  · have := h.2
    have := h.1
    show n - 1 < 12
    omega
  · have := h.1
    show (k, n - 1 + 1) = (k, n)
    rw [show n - 1 + 1 = n by have : 1 ≤ n := h.1; omega]
def okC (c : Kd × Nat) : Bool := decide (cutterOf (cutT c) = some c) && (decide (44 ∉ tl (cutT c)) && (decide ((cutT c).length ≤ 7) && (PyData.strOk (cutT c) && (decide ((kdS c.1 ++ (" " : Str)).length ≤ 5) && decide (Txt.split (cutT c) " " = [kdS c.1, nS c.2])))))
theorem allC_ok : ∀ c ∈ allC, okC c = true := by decide +kernel
structure CtF (c : Kd × Nat) : Prop where
  p : cutterOf (cutT c) = some c
  m : 44 ∉ tl (cutT c)
  l : (cutT c).length ≤ 7
  a : PyData.strOk (cutT c) = true
  s : Txt.split (cutT c) " " = [kdS c.1, nS c.2]
theorem Ct.f {c : Kd × Nat} (h : Ct c) : CtF c := by
  have q := allC_ok c h.mem
  unfold okC at q
  simp only [Bool.and_eq_true, decide_eq_true_eq] at q
  exact ⟨q.1, q.2.1, q.2.2.1, q.2.2.2.1, q.2.2.2.2.2⟩
theorem nS_len {n : Nat} (h : n ≤ 12) : (nS n).length ≤ 2 := by
  have : ∀ i ∈ List.range 13, (nS i).length ≤ 2 := by decide +kernel
  exact this n (List.mem_range.mpr (by omega))
theorem cutter_ct {t : Str} {c : Kd × Nat} (h : cutterOf t = some c) : Ct c := by
  unfold cutterOf at h
  split at h
  · rename_i k n h1 h2
    cases h
    exact (numOf_some h2).2
  · cases h
theorem cutters_ct {t : Str} : ∀ c ∈ cuttersOf t, Ct c := fun c h => by
  obtain ⟨p, _, e⟩ := List.mem_filterMap.mp h
  exact cutter_ct e
theorem cutters_len {t : Str} (h : goodC t = true) : (cuttersOf t).length ≤ 6 ∧ (cuttersOf t).length = (parts t).length := by
  unfold goodC at h
  rw [Bool.and_eq_true, List.all_eq_true] at h
  have e : ∀ (l : List Str), (∀ p ∈ l, (cutterOf p).isSome = true) → (l.filterMap cutterOf).length = l.length := by
    intro l
    induction l with
    | nil => intro _; rfl
    | cons p r ih =>
      intro hp
      obtain ⟨c, hc⟩ := Option.isSome_iff_exists.mp (hp p (List.mem_cons_self ..))
      rw [List.filterMap_cons, hc, List.length_cons, List.length_cons, ih fun q hq => hp q (List.mem_cons_of_mem _ hq)]
  have := e (parts t) h.1
  have h2 := of_decide_eq_true h.2
  unfold cuttersOf
  omega
theorem tlCm : tl (", " : Str) = [44, 32] := by decide +kernel
theorem parts_line {cs : List (Kd × Nat)} (ne : cs ≠ []) (h : ∀ c ∈ cs, Ct c) : parts (cline cs) = cs.map cutT :=
  split_join (s := 44) (S := [32]) tlCm (by decide +kernel) (fun e => ne (List.map_eq_nil_iff.mp e)) fun p hp => by
    obtain ⟨c, hc, rfl⟩ := List.mem_map.mp hp
    exact (h c hc).f.m
theorem line_good {cs : List (Kd × Nat)} (ne : cs ≠ []) (h : ∀ c ∈ cs, Ct c) (hl : cs.length ≤ 6) : goodC (cline cs) = true := by
  unfold goodC
  rw [parts_line ne h, Bool.and_eq_true, List.all_eq_true, List.length_map]
  refine ⟨fun p hp => ?_, decide_eq_true hl⟩
  obtain ⟨c, hc, rfl⟩ := List.mem_map.mp hp
  rw [(h c hc).f.p]
  rfl
theorem line_cutters {cs : List (Kd × Nat)} (ne : cs ≠ []) (h : ∀ c ∈ cs, Ct c) : cuttersOf (cline cs) = cs := by
  unfold cuttersOf
  rw [parts_line ne h]
  clear ne
  induction cs with
  | nil => rfl
  | cons c r ih =>
    rw [List.map_cons, List.filterMap_cons, (h c (List.mem_cons_self ..)).f.p, ih fun q hq => h q (List.mem_cons_of_mem _ hq)]
theorem joinC_len : ∀ B : List Str, (Txt.join ", " B).length ≤ (B.map (·.length)).sum + B.length * 2 := by
  intro B
  rw [len_tl, join_eq, tl_join, tlCm]
  induction B with
  | nil => simp [joinL]
  | cons w r ih =>
    cases r with
    | nil =>
      show (tl w).length ≤ _
      rw [← len_tl]
      simp
    | cons x r =>
      show (tl w ++ ([44, 32] ++ joinL [44, 32] ((x :: r).map tl))).length ≤ _
      rw [List.length_append, List.length_append, ← len_tl]
      simp only [List.map_cons, List.sum_cons, List.length_cons, List.length_nil] at ih ⊢
      omega
theorem line_sum {cs : List (Kd × Nat)} (h : ∀ c ∈ cs, Ct c) : ((cs.map cutT).map (·.length)).sum ≤ 7 * cs.length := by
  have := LM.sum_le (n := 7) (B := cs.map cutT) fun w hw => by
    obtain ⟨c, hc, rfl⟩ := List.mem_map.mp hw
    exact (h c hc).f.l
  rwa [List.length_map] at this
theorem line_len {cs : List (Kd × Nat)} (h : ∀ c ∈ cs, Ct c) : (cline cs).length ≤ 9 * cs.length := by
  have a := joinC_len (cs.map cutT)
  have b := line_sum h
  rw [List.length_map] at a
  unfold cline
  omega
theorem splitC (x : Str) : (parts x).map tl = spl [44, 32] 0 [] (tl x) := by
  have := split_spl x ", " (by rw [tlCm]; simp) (kind_ok (by decide +kernel))
  rwa [tlCm] at this
theorem parts_len (x : Str) : (parts x).length ≤ x.length + 1 := by
  have := LM.spl_len [44, 32] 0 [] (tl x)
  rw [← splitC, List.length_map, ← len_tl] at this
  exact this
theorem parts_word {x w : Str} (h : w ∈ parts x) : w.length ≤ x.length := by
  have := LM.spl_word [44, 32] 0 [] (tl x) (tl w) (by rw [← splitC]; exact List.mem_map.mpr ⟨w, h, rfl⟩)
  rw [← len_tl, ← len_tl] at this
  simpa using this
/-- plain signs -/
theorem asc_joinC {B : List Str} (h : ∀ w ∈ B, LM.Asc w) : LM.Asc (Txt.join ", " B) := by
  rw [LM.asc_iff, join_eq, tl_join, tlCm]
  intro c hc
  rcases LM.joinL_mem hc with h1 | ⟨p, hp, h1⟩
  · have : c = 44 ∨ c = 32 := by simpa using h1
    omega
  · obtain ⟨w, hw, rfl⟩ := List.mem_map.mp hp
    exact LM.asc_iff.mp (h w hw) c h1
theorem line_asc {cs : List (Kd × Nat)} (h : ∀ c ∈ cs, Ct c) : LM.Asc (cline cs) := asc_joinC fun w hw => by
  obtain ⟨c, hc, rfl⟩ := List.mem_map.mp hw
  exact (h c hc).f.a
theorem line_inj {a b : List (Kd × Nat)} (na : a ≠ []) (nb : b ≠ []) (ha : ∀ c ∈ a, Ct c) (hb : ∀ c ∈ b, Ct c) (e : cline a = cline b) : a = b := by
  rw [← line_cutters na ha, e, line_cutters nb hb]
end CH

/-! a dict of the module with text keys: what it has not -/
namespace CD
open PySem L2
theorem no_key {P : Params} {z : Str} : ∀ {l : List DictEntry} {ks : List Str}, l.map He.keyOf = He.keysIn P ks → z ∉ ks → l.find? (·.key.isStr z) = none ∧ l.any (·.refKey) = false
  | [], _, _, _ => ⟨rfl, rfl⟩
  | e :: r, [], h, _ => by cases h
  | e :: r, k :: ks, h, hz => by
    have h1 : He.keyOf e :: r.map He.keyOf = some (k, PyData.keyHash P k) :: He.keysIn P ks := h
    injection h1 with h2 h3
    obtain ⟨a, b⟩ := no_key (z := z) h3 fun q => hz (List.mem_cons_of_mem _ q)
    unfold He.keyOf at h2
    split at h2
    · rename_i x t q
      obtain ⟨h5, h6⟩ := Prod.mk.inj (Option.some.inj h2)
      have ne : x ≠ z := fun q => hz (by rw [← q, h5]; exact List.mem_cons_self ..)
      have e1 : e.key.isStr z = false := by
        rw [q, PySem.W.isStr_of]
        show (x == z) = false
        exact beq_eq_false_iff_ne.mpr ne
      have e2 : e.refKey = false := by
        unfold PySem.DictEntry.refKey
        rw [q]
      rw [List.find?_cons, e1, List.any_cons, e2]
      exact ⟨a, by rw [b]; rfl⟩
    · cases h2
theorem dic_no {K : PySem.W.Frag} {P : Params} {a : Addr} {ks : List Str} (h : He.dicW K a = some (He.keysIn P ks)) {z : Str} (hz : z ∉ ks) : PySem.W.nsIn K a z = some none := by
  unfold He.dicW at h
  unfold PySem.W.nsIn
  cases q : K.lookup a with
  | none => rw [q] at h; cases h
  | some o =>
    obtain ⟨oc, od, dt, osl⟩ := o
    rw [q] at h
    cases oc with
    | type c =>
      cases od with
      | none =>
        cases dt with
        | dict es n =>
          have h1 : (match decide (c = "dict") && (osl.isEmpty && !(a == sysModules)) with
              | true => some (es.toList.map He.keyOf)
              | false => none) = some (He.keysIn P ks) := h
          split at h1
          · obtain ⟨e1, e2⟩ := no_key (Option.some.inj h1) hz
            show (match es.toList.find? (·.key.isStr z) with
              | some e => some (some e.val)
              | none => if es.toList.any (·.refKey) then none else some none) = _
            rw [e1, e2]
            rfl
          · cases h1
        | _ => cases h
      | some _ => cases h
    | _ => cases h
end CD

/-! chains: their texts and their making -/
namespace My
open PySem L2 Cm LM CH
abbrev sCO : Stmt := top 27
abbrev sAI : Stmt := inClass (top 30) 0
structure TxA (w : World) (K : PySem.W.Frag) (mg : Str → Option Value) where
  E : TxE K mg
  len : mg "len" = none
  str : mg "str" = none
  int : mg "int" = none
  range : mg "range" = none
  tuple : mg "tuple" = none
  isi : mg "isinstance" = none
  mw : ∃ t, mg "MOST_WIDTH" = some (.int 12 t)
  mc : ∃ t, mg "MOST_CUTTERS" = some (.int 6 t)
  dC : Addr
  gD : mg "CUTTERS" = some (.ref dC)
  dw : He.dicW K dC = some (He.keysIn w.params kds)
  fk : Kd → Addr
  nk : ∀ k, PySem.W.nsIn K dC (kdS k) = some (some (.ref (fk k)))
  co : Df K mg "cutter_of" sCO ["text"]
  C : Addr
  gC : mg "Chain" = some (.ref C)
  cl : Cls K C
  nT : NoAttr K C "text"
  nC : NoAttr K C "cutters"
  fI : Addr
  fdI : FuncData
  FI : Fun K "__init__" "Chain.__init__" sAI fI fdI
  bI : Binds K fdI ["self", "text"] []
  MI : Mk K C fI
/-- what cutter_of hands back -/
def CutV (H : Hp) (v : V) : Option (Kd × Nat) → Prop
  | none => v = .non
  | some c => ∃ p, v = .ref p ∧ H p = some (.tup [.str (kdS c.1), .int c.2])
theorem CutV.mono {H H' : Hp} (f : ∀ (p : Addr) (xs : List V), H p = some (.tup xs) → H' p = some (.tup xs)) {v : V} : ∀ {o}, CutV H v o → CutV H' v o
  | none, h => h
  | some _, ⟨p, e, h⟩ => ⟨p, e, f _ _ h⟩
inductive CutVs (H : Hp) : List V → List (Option (Kd × Nat)) → Prop
  | nil : CutVs H [] []
  | cons {v : V} {o : Option (Kd × Nat)} {vs : List V} {os : List (Option (Kd × Nat))} (h : CutV H v o) (t : CutVs H vs os) : CutVs H (v :: vs) (o :: os)
theorem CutVs.mono {H H' : Hp} (f : ∀ (p : Addr) (xs : List V), H p = some (.tup xs) → H' p = some (.tup xs)) : ∀ {vs os}, CutVs H vs os → CutVs H' vs os
  | _, _, .nil => .nil
  | _, _, .cons h t => .cons (h.mono f) (t.mono f)
theorem CutVs.snoc {H : Hp} {v : V} {o : Option (Kd × Nat)} (h : CutV H v o) : ∀ {vs os}, CutVs H vs os → CutVs H (vs ++ [v]) (os ++ [o])
  | _, _, .nil => .cons h .nil
  | _, _, .cons a t => .cons a (t.snoc h)
theorem CutVs.len {H : Hp} : ∀ {vs os}, CutVs H vs os → vs.length = os.length
  | _, _, .nil => rfl
  | _, _, .cons _ t => congrArg (· + 1) t.len
/-- rows of cutters -/
inductive Cuts (H : Hp) : List V → List (Kd × Nat) → Prop
  | nil : Cuts H [] []
  | cons {p : Addr} {c : Kd × Nat} {vs : List V} {cs : List (Kd × Nat)} (h : H p = some (.tup [.str (kdS c.1), .int c.2])) (t : Cuts H vs cs) : Cuts H (.ref p :: vs) (c :: cs)
theorem Cuts.mono {H H' : Hp} (f : ∀ (p : Addr) (xs : List V), H p = some (.tup xs) → H' p = some (.tup xs)) : ∀ {vs os}, Cuts H vs os → Cuts H' vs os
  | _, _, .nil => .nil
  | _, _, .cons h t => .cons (f _ _ h) (t.mono f)
theorem Cuts.same {H H' : Hp} (s : Same H H') {vs os} (h : Cuts H vs os) : Cuts H' vs os := h.mono fun _ _ q => s _ _ q
theorem Cuts.snoc {H : Hp} {p : Addr} {c : Kd × Nat} (h : H p = some (.tup [.str (kdS c.1), .int c.2])) : ∀ {vs os}, Cuts H vs os → Cuts H (vs ++ [.ref p]) (os ++ [c])
  | _, _, .nil => .cons h .nil
  | _, _, .cons a t => .cons a (t.snoc h)
theorem Cuts.len {H : Hp} : ∀ {vs os}, Cuts H vs os → vs.length = os.length
  | _, _, .nil => rfl
  | _, _, .cons _ t => congrArg (· + 1) t.len
theorem Cuts.get {H : Hp} : ∀ {xs os} {i : Nat} {y : V}, Cuts H xs os → xs[i]? = some y → ∃ (q : Addr) (o : Kd × Nat), os[i]? = some o ∧ y = .ref q ∧ H q = some (.tup [.str (kdS o.1), .int o.2])
  | _, _, i, y, .nil, h => by simp at h
  | _, _, 0, y, .cons h _, e => ⟨_, _, rfl, (Option.some.inj e).symm, h⟩
  | _, _, i + 1, y, .cons _ t, e => t.get (i := i) e
theorem CutVs.all {H : Hp} : ∀ {vs : List V} {ps : List Str}, CutVs H vs (ps.map cutterOf) → (ps.all fun p => (cutterOf p).isSome) = true → Cuts H vs (ps.filterMap cutterOf)
  | [], [], _, _ => .nil
  | v :: vs, p :: ps, h, q => by
    cases h with
    | cons h1 h2 =>
      rw [List.all_cons, Bool.and_eq_true] at q
      obtain ⟨c, hc⟩ := Option.isSome_iff_exists.mp q.1
      rw [hc] at h1
      obtain ⟨a, rfl, ha⟩ := h1
      rw [List.filterMap_cons, hc]
      exact .cons ha (h2.all q.2)
/-- as data -/
def dOf : Option (Kd × Nat) → PyData
  | none => .none
  | some c => .tuple [.str (kdS c.1), .int c.2]
theorem CutVs.dp {K : PySem.W.Frag} {H : Hp} : ∀ {vs os}, CutVs H vs os → DpAll K H vs (os.map dOf)
  | _, _, .nil => .nil
  | _, _, .cons (o := none) h t => by
    cases (show _ = V.non from h)
    exact .cons .non t.dp
  | _, _, .cons (o := some c) h t => by
    obtain ⟨p, rfl, hp⟩ := h
    exact .cons (.tup (SqT.of hp) (.cons (.str _) (.cons (.int _) .nil))) t.dp
theorem kd_ok (k : Kd) : PyData.strOk (kdS k) = true := by cases k <;> decide +kernel
theorem dOf_lay : ∀ os : List (Option (Kd × Nat)), PyData.canLayAll0 (os.map dOf) = true ∧ PyData.depthAll (os.map dOf) ≤ 1
  | [] => ⟨by simp [PyData.canLayAll0], by simp [PyData.depthAll]⟩
  | none :: r => by
    obtain ⟨a, b⟩ := dOf_lay r
    rw [List.map_cons]
    refine ⟨?_, ?_⟩
    · rw [PyData.canLayAll0, a]; simp [dOf, PyData.canLay0]
    · rw [PyData.depthAll]; simp [dOf, PyData.depth]; exact b
  | some c :: r => by
    obtain ⟨a, b⟩ := dOf_lay r
    rw [List.map_cons]
    refine ⟨?_, ?_⟩
    · rw [PyData.canLayAll0, a]; simp [dOf, PyData.canLay0, PyData.canLayAll0, kd_ok]
    · rw [PyData.depthAll]; simp [dOf, PyData.depth, PyData.depthAll]; omega
theorem dOf_shaped (os : List (Option (Kd × Nat))) : SeqAt.shaped (.list (os.map dOf)) = true := by
  obtain ⟨a, b⟩ := dOf_lay os
  unfold SeqAt.shaped
  rw [Bool.and_eq_true]
  refine ⟨by rw [PyData.canLay0]; exact a, decide_eq_true ?_⟩
  rw [PyData.depth]
  omega
theorem dOf_any (os : List (Option (Kd × Nat))) : ((os.map dOf).any fun z => PyData.eqv z .none) = os.any (·.isNone) := by
  rw [List.any_map]
  congr 1
  funext o
  cases o with
  | none => simp [dOf, PyData.eqv]
  | some c => simp [dOf, PyData.eqv]
section
variable {P : Program} {w : World} {K : PySem.W.Frag} {mg : Str → Option Value} {base : Heap}
theorem room65 {k : Nat} {A : Around} (r : Room k A) : A.units + 65 < cLine := by have := r.un; omega
theorem kd_in (T : TxA w K mg) (z : Str) : ∃ r, PySem.W.nsIn K T.dC z = some r ∧ r.isSome = (kdOf z).isSome := by
  cases h : kdOf z with
  | none => exact ⟨none, CD.dic_no T.dw (kdOf_none h), rfl⟩
  | some k => exact ⟨_, by rw [kdOf_some h]; exact T.nk k, rfl⟩
/-! ### cutter_of -/
def spCO : Sp := fun vs H Q _ => ∃ t : Str, vs = [.str t] ∧ Bd t ∧ ∀ (H' : Hp) (v : V), Same H H' → CutV H' v (cutterOf t) → Q v H'
theorem scCO : FnScope ["text", "word", "space", "digits", "widths", "width"] ["text"] (defScope sCO) := ⟨rfl, rfl, rfl, by decide +kernel, rfl, by decide +kernel, by decide +kernel⟩
def teW : TE := tCB (fun xs H Q => ∃ i, xs = [.int i] ∧ i.natAbs.log2 < 1920 ∧ Q (.str (toString i)) H) (tCons (tVar 5) tNil)
theorem int_nS {n : Nat} (h1 : 1 ≤ n) (h2 : n ≤ 12) : PySem.intText? (nS n) = some (n : Int) := by
  have : ∀ i ∈ List.range 13, PySem.intText? (nS i) = some (i : Int) := by decide +kernel
  exact this n (List.mem_range.mpr (by omega))
theorem ok_co (T : TxA w K mg) : FnOk P w K mg base CX0 1 T.co.f T.co.fd ["text"] spCO := by
  obtain ⟨tw, mw⟩ := T.mw
  obtain ⟨es, n, D⟩ := He.dicW_ok T.dw
  refine T.co.F.ok scCO (fun vs H Q E h => ?_) (fun cdv A outer s H vs Q E hr h => ?_)
  · obtain ⟨t, rfl, _⟩ := h
    rfl
  · obtain ⟨t, rfl, bd, k⟩ := h
    refine ⟨_, pss_cons (ps_asg (pe_partition (pv 0) pe_str) (pg_tup rfl (pgs_cons (pg_name (i := 1) scCO.nd rfl (.inl rfl)) (pgs_cons (pg_name (i := 2) scCO.nd rfl (.inl rfl)) (pgs_cons (pg_name (i := 3) scCO.nd rfl (.inl rfl)) pgs_nil)))))
      (pss_cons (ps_setLc (i := 4) (own := [("width", 5)]) (g := gName 5) (tt := tYes) (te := teW) rfl scCO.nd rfl rfl (sw_true rfl rfl rfl (by decide +kernel)) (pi_range2 rfl T.range (pa_cons pe_int (pa_cons (pe_op op_add (pe_glob (v := .int 12) rfl mw ⟨_, rfl⟩) pe_int) pa_nil))) (blkOk_by (own := [("width", 5)]) (N := ["text", "word", "space", "digits", "widths", "width"]) (sc := defScope sCO) (by decide +kernel)) (fun _ _ _ _ _ => pg_name (i := 5) scCO.nd rfl (Or.inl rfl))
          (fun _ _ _ _ _ => pts_nil) (fun _ _ _ _ _ => pe_callTy call_str_int (by rfl) T.str (by decide +kernel) (pa_cons (pv 5) pa_nil)))
      (pss_one (ps_ret (pe_ifExp (PW.pt (pw_and (pt_cmpR (op_in_kd D) (pv 1) (pe_glob (v := .ref T.dC) rfl T.gD rfl) (by rfl)) (pw_and1 (pt_cmpR op_in_seq (pv 3) (pv 4) (by rfl)))))
          (pe_tup (pa_cons (pv 1) (pa_cons (pe_callTy call_int_str (by rfl) T.int (by decide +kernel) (pa_cons (pv 3) pa_nil)) pa_nil))) pe_non)))), ?_⟩
    refine ⟨_, rfl, ⟨_, rfl⟩, t, " ", rfl, rfl, by decide +kernel, bd.line, fun q nq => ?_⟩
    refine ⟨q, _, rfl, SqT.of upd_same, rfl, _, _, rfl, _, _, rfl, _, _, rfl, rfl, ?_⟩
    have s1 : Same H (upd H q (.tup [.str (Txt.partition t " ").1, .str (Txt.partition t " ").2.1, .str (Txt.partition t " ").2.2])) := same_new nq
    generalize upd H q (.tup [.str (Txt.partition t " ").1, .str (Txt.partition t " ").2.1, .str (Txt.partition t " ").2.2]) = H1 at s1 ⊢
    refine ⟨_, _, rfl, rfl, 1, 13, rfl, by decide, fun Dd nD => lc_range (lo := 1) (n := 12) (fun i H' => Same H1 H' ∧ H' Dd = some (.lst (svs ((List.range i).map fun i => nS (i + 1))))) ⟨same_new nD, upd_same⟩ ?_ ?_⟩
    · rintro i H' hi ⟨s', hD⟩
      refine ⟨rfl, _, rfl, _, rfl, ?_, _, hD, ?_, ?_⟩
      · have : ((1 : Int) + (i : Int)).natAbs = 1 + i := by omega
        rw [this]
        exact Nat.lt_of_le_of_lt (Nat.log2_le_self _) (by omega)
      · rw [show (svs ((List.range i).map fun i => nS (i + 1))).length = i by simp [svs]]
        exact szM (by omega)
      · refine ⟨fun b o q => ?_, ?_⟩
        · rw [upd_ne (ne_of_none q nD)]
          exact s' _ _ q
        · rw [upd_same, List.range_succ, List.map_append]
          have e : (1 : Int) + (i : Int) = ((i + 1 : Nat) : Int) := by omega
          rw [e]
          simp [svs, nS]
    · rintro H2 ⟨s2, hD⟩
      have hD : H2 Dd = some (.lst (svs widths)) := hD
      obtain ⟨r, hr1, hr2⟩ := kd_in T (Txt.partition t " ").1
      refine ⟨_, rfl, _, _, rfl, rfl, hr1, _, rfl, ?_⟩
      rw [hr2]
      have k := k
      unfold cutterOf at k
      cases h1 : kdOf (Txt.partition t " ").1 with
      | none =>
        rw [h1] at k
        refine iteF (iteF ?_)
        exact k H2 .non (Same.trans s1 s2) rfl
      | some kk =>
        rw [h1] at k
        refine iteT ?_
        refine ⟨_, rfl, _, rfl, Dd, _, rfl, .inl (SqL.of hD), rfl, svs_flat _, _, rfl, ?_⟩
        show if (inV _ (svs widths)) = true then _ else _
        rw [inV_svs, numOf_mem]
        cases h2 : numOf (Txt.partition t " ").2.2 with
        | none =>
          rw [h2] at k
          exact iteF (k H2 .non (Same.trans s1 s2) rfl)
        | some m =>
          rw [h2] at k
          obtain ⟨e, m1, m2⟩ := numOf_some h2
          have e0 := kdOf_some h1
          refine iteT ⟨_, rfl, _, rfl, _, (m : Int), rfl, by rw [e]; exact int_nS m1 m2, by rw [e]; exact Nat.le_trans (nS_len m2) (by decide), (by show 2 ≤ sizeLine; decide), fun p np => ?_⟩
          exact k _ (.ref p) (Same.trans (Same.trans s1 s2) (same_new np)) ⟨p, rfl, by rw [upd_same, e0]⟩
/-! ### chains as objects -/
def cf (t : Str) (p : Addr) : List (Str × V) := [("text", .str t), ("cutters", .ref p)]
theorem cf_text (t : Str) (p : Addr) : (cf t p).lookup ("text" : Str) = some (.str t) := by kernel_rfl
theorem cf_cut (t : Str) (p : Addr) : (cf t p).lookup ("cutters" : Str) = some (.ref p) := by kernel_rfl
theorem cf_no (t : Str) (p : Addr) {m : Str} (h1 : ¬ m = "text") (h2 : ¬ m = "cutters") : (cf t p).lookup m = none := by
  unfold cf
  rw [List.lookup_cons, beq_eq_false_iff_ne.mpr h1, List.lookup_cons, beq_eq_false_iff_ne.mpr h2]
  rfl
theorem cf_mk (t : Str) (p : Addr) : putF "cutters" (.ref p) (putF "text" (.str t) []) = cf t p := by kernel_rfl
/-- a chain of this text stands at o -/
def ChainAt (C : Addr) (H : Hp) (o : Addr) (t : Str) : Prop := ∃ dx p vs, H o = some (.ins C dx (cf t p)) ∧ H p = some (.tup vs) ∧ Cuts H vs (cuttersOf t)
theorem ChainAt.same {C : Addr} {H H' : Hp} {o : Addr} {t : Str} (s : Same H H') (h : ChainAt C H o t) : ChainAt C H' o t := let ⟨dx, p, vs, a, b, c⟩ := h; ⟨dx, p, vs, s _ _ a, s _ _ b, c.same s⟩
theorem ChainAt.off {C j : Addr} {H H' : Hp} {o : Addr} {t : Str} (s : Off j H H') (hj : Jar H j) (h : ChainAt C H o t) : ChainAt C H' o t := by
  obtain ⟨x, y, z, hj⟩ := hj
  have f : ∀ (p : Addr) (xs : List V), H p = some (.tup xs) → H' p = some (.tup xs) := fun p xs e => s _ _ (ne_of e hj (by intro z; cases z)) e
  obtain ⟨dx, p, vs, a, b, c⟩ := h
  exact ⟨dx, p, vs, s _ _ (ne_of a hj (by intro z; cases z)) a, f _ _ b, c.mono f⟩
def goodCV : V → Bool
  | .str t => goodC t
  | _ => false
def BdS : V → Prop
  | .str t => Bd t
  | _ => True
def spAI (K : PySem.W.Frag) (C CE : Addr) : Sp := fun vs H Q E => ∃ (x dx : Addr) (v : V), vs = [.ref x, v] ∧ H x = some (.ins C dx []) ∧ Typed K H v ∧ BdS v ∧
  (∀ t, v = .str t → goodC t = true → ∀ H' : Hp, Off x H H' → ChainAt C H' x t → Q .non H') ∧
  (goodCV v = false → ∀ (H' : Hp) (d : Addr), Same H H' → H' d = none → E (.ref CE) (some d) (upd H' d (.xd [("value", v)])))
theorem scAI : FnScope ["self", "text", "cutters", "part"] ["self", "text"] (defScope sAI) := ⟨rfl, rfl, rfl, by decide +kernel, rfl, by decide +kernel, by decide +kernel⟩
theorem any_none (ps : List Str) : (ps.map cutterOf).any (·.isNone) = !(ps.all fun p => (cutterOf p).isSome) := by
  induction ps with
  | nil => rfl
  | cons p r ih =>
    rw [List.map_cons, List.any_cons, List.all_cons, ih]
    cases cutterOf p <;> rfl
theorem ok_ai (T : TxA w K mg) : FnOk P w K mg base (L2.CX P w) 3 T.fI T.fdI ["self", "text"] (spAI K T.C T.E.C) := by
  obtain ⟨tc, mc⟩ := T.mc
  have GC : FnOk P w K mg base CX0 1 T.co.f T.co.fd ["text"] spCO := ok_co T
  have GE : FnOk P w K mg base CX0 1 T.E.f T.E.fd ["self", "value"] (spEI T.E.C) := ok_ei T.E
  refine T.FI.okX scAI (fun vs H Q E h => ?_) (fun cdv A outer s H vs Q E hr h => ?_)
  · obtain ⟨x, dx, v, rfl, _⟩ := h
    rfl
  · obtain ⟨x, dx, v, rfl, hx, ⟨t, ty, kt⟩, bd, kg, kb⟩ := h
    have hr1 : Room 1 _ := hr.mono (by decide)
    refine ⟨_, pss_cons (ps_if (pt_not (pt_val (pe_callB call_isi (by rfl) T.isi (by decide +kernel) (pa_cons (pv 1) (pa_cons (pe_bltn (v := .ty "str") (by rfl) T.str (by decide +kernel) rfl) pa_nil))))) (pss_one (ps_raise rfl (takes_of rfl rfl rfl rfl) (pmk_oex T.E.o T.E.i T.E.t GE hr T.E.b .nil pass0 rfl T.E.g (pa_cons (pv 1) pa_nil)))) pss_nil)
      (pss_cons (ps_setLc (i := 2) (own := [("part", 3)]) (g := gName 3) (tt := tYes) (te := tCall spCO [] E0 (tCons (tVar 3) tNil)) rfl scAI.nd rfl rfl (sw_true rfl rfl rfl (by decide +kernel)) (pi_list (pe_split (pv 1) pe_str)) (blkOk_by (own := [("part", 3)]) (N := ["self", "text", "cutters", "part"]) (sc := defScope sAI) (by decide +kernel)) (fun _ _ _ _ _ => pg_name (i := 3) scAI.nd rfl (Or.inl rfl))
          (fun _ _ _ _ _ => pts_nil) (fun _ _ _ _ _ => by exact pe_call GC hr1 rfl T.co.g T.co.k T.co.b .nil pass0 (pa_cons (pv 3) pa_nil)))
      (pss_cons (ps_if (PW.pt (pw_or (pt_cmpR (op_inD (room65 hr)) pe_non (pv 2) (by rfl)) (pw_or1 (pt_cmpR op_gt (pe_callB call_len_seq (by rfl) T.len PySem.boot_len (pa_cons (pv 2) pa_nil)) (pe_glob (v := .int 6) rfl mc ⟨_, rfl⟩) (nomark _)))))
          (pss_one (ps_raise rfl (takes_of rfl rfl rfl rfl) (pmk_oex T.E.o T.E.i T.E.t GE hr T.E.b .nil pass0 rfl T.E.g (pa_cons (pv 1) pa_nil)))) pss_nil)
      (pss_cons (ps_fld (pv 0) (pv 1) rfl)
      (pss_one (ps_fld (pv 0) (pe_callTy call_tuple_of (by rfl) T.tuple (by decide +kernel) (pa_cons (pv 2) pa_nil)) rfl))))), ?_⟩
    refine ⟨_, rfl, _, _, _, _, isS v, rfl, .ty "str", ty, kt, _, rfl, ?_⟩
    cases hs : isS v with
    | false =>
      refine iteT ?_
      have gv : goodCV v = false := by
        cases v <;> first | rfl | cases hs
      exact mk_err (x := v) ⟨v, rfl, rfl, rfl⟩ (fun {R R'} ⟨v, e1, q⟩ f => ⟨v, e1, f _ _ q⟩) (kb gv H · (Same.refl _))
    | true =>
      obtain ⟨t, rfl⟩ : ∃ t, v = .str t := by
        cases v <;> first | exact ⟨_, rfl⟩ | cases hs
      have bd : Bd t := bd
      have kg := kg t rfl
      refine iteF ?_
      refine ⟨_, rfl, ⟨_, rfl⟩, t, ", ", rfl, rfl, by decide +kernel, bd.line2, fun l nl => ?_⟩
      have s1 : Same H (upd H l (.lst ((Txt.split t ", ").map V.str))) := same_new nl
      have hl1 : (upd H l (.lst ((Txt.split t ", ").map V.str))) l = some (.lst (svs (parts t))) := upd_same
      generalize upd H l (.lst ((Txt.split t ", ").map V.str)) = H1 at s1 hl1 ⊢
      refine ⟨l, rfl, ⟨_, SqL.of hl1⟩, fun Dd nD => lc_list (K := K) (a := l) (xs := svs (parts t)) (fun i H' => Same H1 H' ∧ ∃ acc, H' Dd = some (.lst acc) ∧ CutVs H' acc (((parts t).take i).map cutterOf)) ⟨same_new nD, [], upd_same, .nil⟩ (fun i H' _ ⟨s', _⟩ => SqL.of (s' _ _ hl1)) ?_ ?_⟩
      · rintro i y H' hy ⟨s', acc, hD, hP⟩
        obtain ⟨z, hz, rfl⟩ := svs_get hy
        refine ⟨rfl, _, rfl, z, rfl, Nat.le_trans (parts_word (List.mem_of_getElem? hz)) bd, fun H2 v s2 hv => ?_⟩
        have hD2 := s2 _ _ hD
        have st := tup_stays (o' := .lst (acc ++ [v])) hD2 (by intro xs z; cases z)
        have la := hP.len
        rw [List.length_map, List.length_take] at la
        have lp := parts_len t
        unfold Bd at bd
        refine ⟨acc, hD2, szM (by omega), fun b o q => ?_, _, upd_same, ?_⟩
        · rw [upd_ne (ne_of_none q nD)]
          exact s2 _ _ (s' _ _ q)
        · rw [take_snoc hz, List.map_append]
          exact CutVs.snoc (hv.mono st) ((hP.mono fun _ _ q => s2 _ _ q).mono st)
      · rintro H2 ⟨s2, acc, hD, hP⟩
        have e : (svs (parts t)).length = (parts t).length := List.length_map ..
        rw [e, List.take_length] at hP
        have s02 := Same.trans s1 s2
        have la := hP.len
        rw [List.length_map] at la
        refine ⟨_, rfl, .none, (((parts t).map cutterOf).map dOf), .non, .lst (SqL.of hD) hP.dp, by decide +kernel, dOf_shaped _, _, rfl, ?_⟩
        rw [dOf_any, any_none]
        have gt : goodCV (.str t) = goodC t := rfl
        have gt2 : goodC t = ((parts t).all (fun p => (cutterOf p).isSome) && decide ((parts t).length ≤ 6)) := rfl
        cases h1 : (parts t).all (fun p => (cutterOf p).isSome) with
        | false =>
          rw [gt, gt2, h1] at kb
          refine iteT (iteT ?_)
          exact mk_err (x := .str t) ⟨.str t, rfl, rfl, rfl⟩ (fun {R R'} ⟨v, e1, q⟩ f => ⟨v, e1, f _ _ q⟩) (kb rfl H2 · s02)
        | true =>
          refine iteF ?_
          refine ⟨_, rfl, Dd, _, rfl, .inl (SqL.of hD), _, _, rfl, rfl, _, rfl, ?_⟩
          rw [la]
          by_cases h2 : (parts t).length ≤ 6
          · rw [decide_eq_false (show ¬ ((6 : Int) < ((parts t).length : Int)) by omega)]
            have kg := kg (by rw [gt2, h1, decide_eq_true h2]; rfl)
            refine iteF ?_
            have hx2 := s02 _ _ hx
            refine ⟨_, rfl, _, rfl, x, T.C, dx, _, rfl, hx2, T.cl, T.nT, (by show 0 < 1000; decide), ?_⟩
            have xD : Dd ≠ x := fun q => by rw [q, hx2] at hD; cases hD
            refine ⟨_, rfl, Dd, acc, rfl, .inl ⟨SqL.of (by rw [upd_ne xD]; exact hD), fun q nq => ?_⟩⟩
            have qx : q ≠ x := fun z => by rw [z, upd_same] at nq; cases nq
            refine ⟨_, rfl, x, T.C, dx, _, rfl, (by rw [upd_ne qx.symm]; exact upd_same), T.cl, T.nC, Nat.lt_of_le_of_lt (putF_len _ _ _) (by decide), ?_⟩
            rw [cf_mk]
            have st1 := tup_stays (o' := .ins T.C dx (putF "text" (.str t) [])) hx2 (by intro xs z; cases z)
            have st2 : ∀ (p : Addr) (xs : List V), H2 p = some (.tup xs) → (upd (upd (upd H2 x (.ins T.C dx (putF "text" (.str t) []))) q (.tup acc)) x (.ins T.C dx (cf t q))) p = some (.tup xs) := fun p xs z =>
              tup_stays (o := .ins T.C dx (putF "text" (.str t) [])) (by rw [upd_ne qx.symm]; exact upd_same) (by intro xs z; cases z) _ _ (same_new nq _ _ (st1 _ _ z))
            have o2 : Off x H H2 := Same.off s02
            refine kg _ (Off.put (Off.trans (o2.put) (Same.off (same_new nq)))) ⟨dx, q, acc, upd_same, by rw [upd_ne qx]; exact upd_same, (hP.all h1).mono st2⟩
          · rw [decide_eq_true (show ((6 : Int) < ((parts t).length : Int)) by omega)]
            rw [gt, gt2, h1, decide_eq_false h2] at kb
            refine iteT ?_
            exact mk_err (x := .str t) ⟨.str t, rfl, rfl, rfl⟩ (fun {R R'} ⟨v, e1, q⟩ f => ⟨v, e1, f _ _ q⟩) (kb rfl H2 · s02)
end
end My

/-! instances of own classes: ==, != by an own __eq__; str, repr by own defs; bool -/
namespace Own
open PySem PySem.Spec PyProof.Rows L2
section
variable {M : Model} {prog : Program} {w : World} {A : Around} {E : Value → Shared → Prop} {s : Shared} {K : PySem.W.Frag} {x C f : Addr} {ox : Obj} {od : Option Obj} {b tb : Value}
theorem bound_ne {args : List Value} {Q : Option Value → Shared → Prop} (X : K.In s.heap) (I : PySem.W.InstAt s.heap x ox C od) (hn : PySem.W.findIn K (.ref C) "__ne__" = some (some (.builtin "object.__ne__")))
    (h : wpAny M A (call (.builtin "object.__ne__") (.ref x :: args)) (fun v => Q (some v)) E s) : wpAny M A (callSpecialIfBound? (.ref x) "__ne__" args) Q E s := by
  simp only [callSpecialIfBound?, bindSpecialIfBound?]
  refine wpAny_holding (wpAny_bind (wpAny_bind (wpAny_bind (I.type.here ((PySem.W.looks_findIn X hn).here (wpAny_bind (wpAny_askSetting (wpAny_ite ?_))))))))
  have last : wpAny M A (call (.builtin "object.__ne__") ([.ref x] ++ args) >>= fun v => pure (some v)) Q E s := wpAny_bind (wpAny_mono h (fun _ _ z => wpAny_pure z) fun _ _ z => z)
  split
  next => exact wpAny_bind (wpAny_of_eq (F.cmp_object.ne.bind _) (wpAny_pure (by exact last)))
  next => exact wpAny_tryCatch (wpAny_bind (wpAny_of_eq (F.cmp_object.ne.bind _) (wpAny_pure (by exact last))))
/-- object.__ne__ asks the own __eq__ and turns the answer round -/
theorem ne_body {Q : Fin → Shared → Prop} (hu : A.units < cLine) (X : K.In s.heap) (I : PySem.W.InstAt s.heap x ox C od) (hs : PySem.W.findIn K (.ref C) "__eq__" = some (some (.ref f))) (hf : PySem.W.isFn K (.ref f) = true)
    (h : wpAny (model prog w) A (call (.ref f) [.ref x, b]) (fun v s2 => ∃ z, v = .bool z ∧ Q (.done (.ret (.bool (!z)))) s2) E s) : wpAny (model prog w) A (Builtin.«object.__ne__» ⟨[.ref x, b], []⟩) Q E s := by
  unfold Builtin.«object.__ne__»
  refine wpAny_bind (wpAny_of_eq (a := ((Value.ref x : Value), [b])) (by first | rfl | (simp only [slotArgs]; rfl)) ?_)
  refine wpAny_bind (wpAny_cRoomFor hu ?_)
  refine wpAny_bind (m := callSpecialIfBound? (.ref x) (Str.ofString "__eq__") [b]) (PySem.W.ifBound_K X I hs hf (wpAny_mono h (fun r s2 hr => ?_) fun _ _ z => z))
  obtain ⟨z, rfl, hq⟩ := hr
  exact wpAny_bind (m := truthy (.bool z)) (wpAny_truthy_bool (wpAny_pure hq))
theorem ne_rich {Q : Value → Shared → Prop} (hu : A.units + 1 < cLine) (X : K.In s.heap) (I : PySem.W.InstAt s.heap x ox C od) (hm : PySem.W.mroIn K C (.type "object") = some true) (hn : PySem.W.findIn K (.ref C) "__ne__" = some (some (.builtin "object.__ne__")))
    (hs : PySem.W.findIn K (.ref C) "__eq__" = some (some (.ref f))) (hf : PySem.W.isFn K (.ref f) = true) (hb : PySem.W.Looks (model prog w) s.heap (typeOf b) tb) (nf : PySem.W.notFirst K C tb = true)
    (h : wpAny (model prog w) A.in1 (call (.ref f) [.ref x, b]) (fun v s2 => ∃ z, v = .bool z ∧ Q (.bool (!z)) s2) E s) : wpAny (model prog w) A (richCompare .NotEq (.ref x) b) Q E s := by
  have go : wpAny (model prog w) A (tryCompare (.ref x) "__ne__" b) (fun r s2 => ∃ v, r = some v ∧ Q v s2) E s := by
    unfold tryCompare
    refine wpAny_bind (bound_ne X I hn (wpAny_call (codeAny_call_builtin F.cmp_object.ne.plain F.cmpEntry_ne (PySem.W.check_slot F.cmpKind_ne F.cmpSplit_ne (I.type.andThen (PySem.W.looks_mroIn X hm)) (F.cmpArgs_ne _ _) ?_))))
    refine ne_body (by show A.units + 1 < cLine; exact hu) X I hs hf (wpAny_mono h (fun v s2 hv => ?_) fun _ _ z => z)
    obtain ⟨z, rfl, hq⟩ := hv
    exact ⟨z, rfl, wpAny_pure ⟨_, rfl, hq⟩⟩
  unfold richCompare
  simp only [oneThing_ref]
  refine wpAny_holding (wpAny_bind (wpAny_cRoomFor (by omega) (wpAny_bind (I.type.here (wpAny_bind (hb.here ?_))))))
  rw [cmpInfo_NotEq]
  dsimp only
  split
  next q =>
    have e : PySem.W.subIn K tb (.ref C) = some false := (Bool.or_eq_true_iff.mp nf).elim (fun z => by rw [beq_iff_eq.mp z] at q; simp at q) fun z => beq_iff_eq.mp z
    refine wpAny_bind ((PySem.W.looks_subIn X e).here ?_)
    simp only [Bool.false_eq_true, if_false]
    exact wpAny_bind (wpAny_mono go (fun r s2 ⟨v, e1, hq⟩ => by subst e1; exact wpAny_pure hq) fun _ _ z => z)
  next =>
    refine wpAny_bind (wpAny_pure ?_)
    simp only [Bool.false_eq_true, if_false]
    exact wpAny_bind (wpAny_mono go (fun r s2 ⟨v, e1, hq⟩ => by subst e1; exact wpAny_pure hq) fun _ _ z => z)
end
/-- the class at C has its own __eq__ at g, and no more of the kind -/
structure EqC (K : PySem.W.Frag) (C g : Addr) : Prop where
  eq : PySem.W.findIn K (.ref C) "__eq__" = some (some (.ref g))
  ne : PySem.W.findIn K (.ref C) "__ne__" = some (some (.builtin "object.__ne__"))
  fn : PySem.W.isFn K (.ref g) = true
  ob : PySem.W.mroIn K C (.type "object") = some true
section
variable {X : Cx} {C g : Addr} {n : Nat} {sp : Sp}
theorem inst_of {pins : List (Addr × Obj)} {σ : L2.St} {H : Hp} {s : Shared} {a dx : Addr} {fs : List (Str × V)} (I : Inv X pins σ H s) (e : H a = some (.ins C dx fs)) : ∃ (ox : Obj) (od : Option Obj), PySem.W.InstAt s.heap a ox C od := by
  obtain ⟨mA, O, _⟩ := ins_get I.hok e
  obtain ⟨od, J, _⟩ := O.look
  exact ⟨_, _, J⟩
/-- x == y: x an instance of C, y of a class that is not below C -/
def rEqO (K : PySem.W.Frag) (C : Addr) (sp : Sp) : R2 := fun x y H Q => ∃ (a dx : Addr) (fs : List (Str × V)) (t : Value), x = .ref a ∧ H a = some (.ins C dx fs) ∧ TyX K H y t ∧ PySem.W.notFirst K C t = true ∧ sp [x, y] H Q fun _ _ _ => False
def rNeO (K : PySem.W.Frag) (C : Addr) (sp : Sp) : R2 := fun x y H Q => ∃ (a dx : Addr) (fs : List (Str × V)) (t : Value), x = .ref a ∧ H a = some (.ins C dx fs) ∧ TyX K H y t ∧ PySem.W.notFirst K C t = true ∧ sp [x, y] H (fun v H2 => ∃ b, v = .bl b ∧ Q (.bl (!b)) H2) fun _ _ _ => False
theorem op_eqO (c : EqC X.K C g) (F : FnR X.prog X.w X.K X.mg X.base CX0 n g sp) (hr : Room n X.A) : OpR X (compareOp .Eq) (rEqO X.K C sp) := by
  intro pins s σ H x y v u Q I rx ry h
  obtain ⟨a, dx, fs, t, rfl, ha, ty, nf, q⟩ := h
  cases (show v = Value.ref a from rx)
  obtain ⟨ox, od, J⟩ := inst_of I ha
  obtain ⟨m, fr⟩ := I.fr
  obtain ⟨PP, Z, pz, _⟩ := kit_of I ry ty
  show wpAny (model X.prog X.w) X.A (richCompare .Eq (.ref a) u) _ _ s
  refine PySem.W.cmp_K (op := .Eq) hr.units0 fr I.ok.mod.kin J (Z.ty _ _ I.kIn pz) nf c.eq c.fn ?_
  refine wpAny_mono (wpAny_call (run_fnR (us := [.ref a, u]) (vs := [.ref a, y]) F hr pass0 I (.cons rfl (.cons ry .nil)) q)) (fun z s2 hz => ?_) fun _ _ e => e
  obtain ⟨z2, H2, I2, rz, qz⟩ := hz
  exact SlX.cmpback rz ⟨z2, H2, I2, rz, qz⟩
theorem op_neO (c : EqC X.K C g) (F : FnR X.prog X.w X.K X.mg X.base CX0 n g sp) (hr : Room (n + 1) X.A) : OpR X (compareOp .NotEq) (rNeO X.K C sp) := by
  intro pins s σ H x y v u Q I rx ry h
  obtain ⟨a, dx, fs, t, rfl, ha, ty, nf, q⟩ := h
  cases (show v = Value.ref a from rx)
  obtain ⟨ox, od, J⟩ := inst_of I ha
  obtain ⟨PP, Z, pz, _⟩ := kit_of I ry ty
  show wpAny (model X.prog X.w) X.A (richCompare .NotEq (.ref a) u) _ _ s
  refine ne_rich (by have := hr.un; omega) I.kIn J c.ob c.ne c.eq c.fn (Z.ty _ _ I.kIn pz) nf ?_
  refine wpAny_mono (wpAny_call (SlX.run_at (us := [.ref a, u]) (ws := [.ref a, y]) F hr.in1 I.env0.in1 pass0 I (.cons rfl (.cons ry .nil)) q)) (fun z s2 hz => ?_) fun _ _ e => e
  obtain ⟨z2, H2, I2, rz, bb, rfl, qz⟩ := hz
  cases (show z = Value.bool bb from rz)
  exact ⟨bb, rfl, .bl (!bb), H2, I2, rfl, qz⟩
/-- str(x), repr(x): the own def's text -/
def rTxtO (C : Addr) (sp : Sp) : List V → Hp → VK → Prop := fun xs H Q => ∃ (a dx : Addr) (fs : List (Str × V)), xs = [.ref a] ∧ H a = some (.ins C dx fs) ∧ sp [.ref a] H (fun v H2 => ∃ z, v = .str z ∧ Q (.str z) H2) fun _ _ _ => False
theorem call_strO (hs : PySem.W.findIn X.K (.ref C) "__str__" = some (some (.ref g))) (hf : PySem.W.isFn X.K (.ref g) = true) (F : FnR X.prog X.w X.K X.mg X.base CX0 n g sp) (hr : Room (n + 2) X.A) : CallR X (.type "str") (rTxtO C sp) := by
  intro pins s σ H xs us Q I r h
  obtain ⟨a, dx, fs, rfl, ha, q⟩ := h
  obtain ⟨u, rfl, ru⟩ := vals1 r
  cases (show u = Value.ref a from ru)
  obtain ⟨ox, od, J⟩ := inst_of I ha
  have hr1 : Room (n + 1) X.A.in1 := hr.in1
  refine PySem.W.kso_call (by have := hr.un; show X.A.units + 1 + 1 < cLine; omega) I.kIn J hs hf ?_
  refine wpAny_mono (wpAny_call (SlX.run_at (us := [.ref a]) (ws := [.ref a]) F hr1.in1 I.env0.in1.in1 pass0 I (.cons rfl .nil) q)) (fun z s2 hz => ?_) fun _ _ e => e
  obtain ⟨z2, H2, I2, rz, t, rfl, qz⟩ := hz
  obtain ⟨tk, rfl⟩ := (show ∃ tk, z = Value.str t tk from rz)
  exact ⟨.str t, H2, I2, ⟨_, rfl⟩, qz⟩
theorem call_reprO (hs : PySem.W.findIn X.K (.ref C) "__repr__" = some (some (.ref g))) (hf : PySem.W.isFn X.K (.ref g) = true) (F : FnR X.prog X.w X.K X.mg X.base CX0 n g sp) (hr : Room (n + 1) X.A) : CallR X (.builtin "repr") (rTxtO C sp) := by
  intro pins s σ H xs us Q I r h
  obtain ⟨a, dx, fs, rfl, ha, q⟩ := h
  obtain ⟨u, rfl, ru⟩ := vals1 r
  cases (show u = Value.ref a from ru)
  obtain ⟨ox, od, J⟩ := inst_of I ha
  obtain ⟨m, fr⟩ := I.fr
  refine PySem.W.repr_K (by have := hr.un; show X.A.units + 1 < cLine; omega) fr I.ok.mod.kin J hs hf ?_
  refine wpAny_mono (wpAny_call (SlX.run_at (us := [.ref a]) (ws := [.ref a]) F hr.in1 I.env0.in1 pass0 I (.cons rfl .nil) q)) (fun z s2 hz => ?_) fun _ _ e => e
  obtain ⟨z2, H2, I2, rz, t, rfl, qz⟩ := hz
  obtain ⟨tk, rfl⟩ := (show ∃ tk, z = Value.str t tk from rz)
  exact ⟨.str t, H2, I2, ⟨_, rfl⟩, qz⟩
/-- bool(x): no __bool__, no __len__ -/
def rBoolO (C : Addr) : List V → Hp → VK → Prop := fun xs H Q => ∃ (a dx : Addr) (fs : List (Str × V)), xs = [.ref a] ∧ H a = some (.ins C dx fs) ∧ Q (.bl true) H
theorem call_boolO (hb : PySem.W.findIn X.K (.ref C) "__bool__" = some none) (hl : PySem.W.findIn X.K (.ref C) "__len__" = some none) : CallR X (.type "bool") (rBoolO C) := by
  intro pins s σ H xs us Q I r h
  obtain ⟨a, dx, fs, rfl, ha, q⟩ := h
  obtain ⟨u, rfl, ru⟩ := vals1 r
  cases (show u = Value.ref a from ru)
  obtain ⟨ox, od, J⟩ := inst_of I ha
  obtain ⟨m, fr⟩ := I.fr
  have mt : Meets (Builtin.«bool.__new__» ⟨[.type "bool", .ref a], []⟩) (fun _ R st => (∃ m, Fr X.base X.env.locals st.heap m) ∧ PySem.W.InstAt st.heap a ox C od ∧ R (.ok (.ret (.bool true))) st) :=
    Meets.of_wp fun pr wo Ar R st hh => by
      obtain ⟨⟨m2, fr2⟩, J2, hR⟩ := hh
      obtain ⟨hp, gg, dd, tk, os⟩ := st
      have f1 := PySem.F.conv_sub_bool
      repeat (any_goals (first | assumption | (with_reducible refine PySem.W.truthy_K0 fr2 I.ok.mod.kin J2 hb hl ?_) | wp_step))
      all_goals first | exact ⟨_, rfl, hR⟩ | exact hR | skip
  exact call_bool_1 mt ⟨⟨m, fr⟩, J, rfl, .bl true, H, I, rfl, q⟩
end
end Own

/-! chains: ==, str, repr -/
namespace My
open PySem L2 Cm LM CH
abbrev sAE : Stmt := inClass (top 30) 1
abbrev sAS : Stmt := inClass (top 30) 2
abbrev sAR : Stmt := inClass (top 30) 3
/-- the class as a type -/
structure TyC (K : PySem.W.Frag) (C : Addr) : Prop where
  c1 : PySem.W.findIn K (.ref C) "__class__" = some (some (.builtin "object.__class__"))
  c2 : PySem.W.specialIn K (.builtin "object.__class__") "__get__" = some (some (.builtin "getset_descriptor.__get__"))
  c3 : PySem.W.takesIn K (.builtin "object.__class__") = some true
  c4 : PySem.W.mroIn K C (.type "object") = some true
  k1 : PySem.W.kitOne K (.ref C) (.ref C) = some true
structure TxAm (w : World) (K : PySem.W.Frag) (mg : Str → Option Value) where
  T : TxA w K mg
  ae : Sm K T.C "__eq__" "Chain.__eq__" sAE ["self", "other"]
  as : Sm K T.C "__str__" "Chain.__str__" sAS ["self"]
  ar : Sm K T.C "__repr__" "Chain.__repr__" sAR ["self"]
  ne : PySem.W.findIn K (.ref T.C) "__ne__" = some (some (.builtin "object.__ne__"))
  ty : TyC K T.C
section
variable {P : Program} {w : World} {K : PySem.W.Frag} {mg : Str → Option Value} {base : Heap}
theorem ChainAt.ty (T : TxA w K mg) (c : TyC K T.C) {H : Hp} {o : Addr} {t : Str} (h : ChainAt T.C H o t) : TyX K H (.ref o) (.ref T.C) := by
  obtain ⟨dx, p, vs, e, _⟩ := h
  exact .base (.ins e T.cl c.c1 c.c2 c.c3 c.c4)
def spAE (K : PySem.W.Frag) (C : Addr) : Sp := fun vs H Q _ => ∃ (o : Addr) (t : Str) (y : V), vs = [.ref o, y] ∧ ChainAt C H o t ∧
  ((∃ (o2 : Addr) (t2 : Str), y = .ref o2 ∧ ChainAt C H o2 t2 ∧ Q (.bl (decide (t = t2))) H) ∨ ∃ ty, TyX K H y ty ∧ PySem.W.kitOne K ty (.ref C) = some false ∧ Q (.bl false) H)
theorem scAE : FnScope ["self", "other"] ["self", "other"] (defScope sAE) := ⟨rfl, rfl, rfl, by decide +kernel, rfl, by decide +kernel, by decide +kernel⟩
theorem ok_ae (M : TxAm w K mg) : FnOk P w K mg base CX0 1 M.ae.f M.ae.fd ["self", "other"] (spAE K M.T.C) := by
  refine M.ae.F.ok scAE (fun vs H Q E h => ?_) (fun cdv A outer s H vs Q E hr h => ?_)
  · obtain ⟨o, t, y, rfl, _⟩ := h
    rfl
  · obtain ⟨o, t, y, rfl, hO, k⟩ := h
    refine ⟨_, pss_one (ps_ret (pe_and (pe_callB call_isi (by rfl) M.T.isi (by decide +kernel) (pa_cons (pv 1) (pa_cons (pe_glob (v := .ref M.T.C) rfl M.T.gC rfl) pa_nil)))
      (pe_one (pe_cmpR op_eq (pe_fld (pv 0) rfl) (pe_fld (pv 1) rfl) (nomark _))))), ?_⟩
    rcases k with ⟨o2, t2, rfl, hO2, k⟩ | ⟨ty, hty, kt, k⟩
    · have ty2 := hO2.ty M.T M.ty
      obtain ⟨dx, p, vs, e1, _⟩ := hO
      obtain ⟨dx2, p2, vs2, e2, _⟩ := hO2
      refine ⟨_, rfl, _, _, _, _, true, rfl, .own M.T.C, ty2, M.ty.k1, true, rfl, iteT ?_⟩
      refine ⟨_, rfl, o, M.T.C, dx, _, _, rfl, e1, M.T.cl, M.T.nT, cf_text .., _, rfl, o2, M.T.C, dx2, _, _, rfl, e2, M.T.cl, M.T.nT, cf_text .., rfl, ?_⟩
      rw [dS]
      exact k
    · exact ⟨_, rfl, _, _, _, _, false, rfl, .own M.T.C, hty, kt, false, rfl, iteF k⟩
def spAS (C : Addr) : Sp := fun vs H Q _ => ∃ (o : Addr) (t : Str), vs = [.ref o] ∧ ChainAt C H o t ∧ Q (.str t) H
theorem scAS : FnScope ["self"] ["self"] (defScope sAS) := ⟨rfl, rfl, rfl, by decide +kernel, rfl, by decide +kernel, by decide +kernel⟩
theorem ok_as (M : TxAm w K mg) : FnOk P w K mg base CX0 1 M.as.f M.as.fd ["self"] (spAS M.T.C) := by
  refine M.as.F.ok scAS (fun vs H Q E h => ?_) (fun cdv A outer s H vs Q E hr h => ?_)
  · obtain ⟨o, t, rfl, _⟩ := h
    rfl
  · obtain ⟨o, t, rfl, ⟨dx, p, vs, e, _⟩, k⟩ := h
    refine ⟨_, pss_one (ps_ret (pe_callTy SkE.call_str_str (by rfl) M.T.str (by decide +kernel) (pa_cons (pe_fld (pv 0) rfl) pa_nil))), ?_⟩
    exact ⟨_, rfl, o, M.T.C, dx, _, _, rfl, e, M.T.cl, M.T.nT, cf_text .., t, rfl, k⟩
def spAR (C : Addr) : Sp := fun vs H Q _ => ∃ (o : Addr) (t : Str), vs = [.ref o] ∧ ChainAt C H o t ∧ Bd t ∧ Q (.str (("Chain(" : Str) ++ t ++ ")")) H
theorem scAR : FnScope ["self"] ["self"] (defScope sAR) := ⟨rfl, rfl, rfl, by decide +kernel, rfl, by decide +kernel, by decide +kernel⟩
theorem empty_app' (x : Str) : Str.empty ++ x = x := TL.ext_tl (by rw [TL.tl_append]; rfl)
theorem ok_ar (M : TxAm w K mg) : FnOk P w K mg base CX0 1 M.ar.f M.ar.fd ["self"] (spAR M.T.C) := by
  refine M.ar.F.ok scAR (fun vs H Q E h => ?_) (fun cdv A outer s H vs Q E hr h => ?_)
  · obtain ⟨o, t, rfl, _⟩ := h
    rfl
  · obtain ⟨o, t, rfl, ⟨dx, p, vs, e, _⟩, bd, k⟩ := h
    refine ⟨_, pss_one (ps_ret (pe_joined (.cons pe_str (.cons (pe_fmt (pe_fld (pv 0) rfl)) (.cons pe_str .nil))))), ?_⟩
    have l0 : (Str.empty).length = 0 := rfl
    have l2 : ("Chain(" : Str).length = 6 := by decide +kernel
    have l3 : (")" : Str).length = 1 := by decide +kernel
    unfold Bd at bd
    refine ⟨_, rfl, szl (by rw [strLen_append]; omega), ?_⟩
    refine ⟨_, rfl, o, M.T.C, dx, _, _, rfl, e, M.T.cl, M.T.nT, cf_text .., .inl ⟨t, rfl, Nat.le_of_lt (szM (by omega)), t, rfl, Nat.le_of_lt (szM (by rw [strLen_append, strLen_append]; omega)), ?_⟩⟩
    refine ⟨_, rfl, Nat.le_of_lt (szM (by rw [strLen_append, strLen_append, strLen_append]; omega)), ?_⟩
    rw [empty_app']
    exact k
end
end My

/-! the defs about texts of loops -/
namespace My
open PySem L2 Cm LM
abbrev sWO : Stmt := top 38
abbrev sOO : Stmt := top 39
abbrev sIW : Stmt := top 40
abbrev sAW : Stmt := top 41
abbrev sIR : Stmt := top 42
abbrev sIE : Stmt := top 43
/-- what the module's top has for these defs -/
structure TxL (K : PySem.W.Frag) (mg : Str → Option Value) where
  tuple : mg "tuple" = none
  len : mg "len" = none
  all : mg "all" = none
  bar : ∃ t, mg "BAR" = some (.str " | " t)
  mr : ∃ t, mg "MOST_ROUND" = some (.int 12 t)
  me : ∃ t, mg "MOST_ENDING" = some (.int 6 t)
  pT : Addr
  pR : Addr
  pE : Addr
  gT : mg "TESTS" = some (.ref pT)
  gR : mg "ROUND_STEPS" = some (.ref pR)
  gE : mg "ENDING_STEPS" = some (.ref pE)
  lT : ∀ H, SqT K H pT (svs tests)
  lR : ∀ H, SqT K H pR (svs rsteps)
  lE : ∀ H, SqT K H pE (svs esteps)
  wo : Df K mg "words_of" sWO ["text"]
  oo : Df K mg "order_of" sOO ["word"]
  iw : Df K mg "is_word" sIW ["word", "steps"]
  aw : Df K mg "are_words" sAW ["words", "steps"]
  ir : Df K mg "is_round" sIR ["words"]
  ie : Df K mg "is_ending" sIE ["words"]
section
variable {P : Program} {w : World} {K : PySem.W.Frag} {mg : Str → Option Value} {base : Heap}
/-! ### words_of -/
def spWO : Sp := fun vs H Q _ => ∃ t : Str, vs = [.str t] ∧ Bd t ∧ ∀ (H' : Hp) (p a b : Addr), Same H H' → H' p = some (.tup [.ref a, .ref b]) → H' a = some (.tup (svs (wordsR t))) → H' b = some (.tup (svs (wordsE t))) → Q (.ref p) H'
theorem scWO : FnScope ["text", "head", "bar", "tail"] ["text"] (defScope sWO) := ⟨rfl, rfl, rfl, by decide +kernel, rfl, by decide +kernel, by decide +kernel⟩
theorem ok_wo (T : TxL K mg) : FnOk P w K mg base CX0 1 T.wo.f T.wo.fd ["text"] spWO := by
  obtain ⟨tb, hb⟩ := T.bar
  refine T.wo.F.ok scWO (fun vs H Q E h => ?_) (fun cdv A outer s H vs Q E hr h => ?_)
  · obtain ⟨t, rfl, _⟩ := h
    rfl
  · obtain ⟨t, rfl, bd, k⟩ := h
    refine ⟨_, pss_cons (ps_asg (pe_partition (pv 0) (pe_glob (v := .str " | ") rfl hb ⟨_, rfl⟩)) (pg_tup rfl (pgs_cons (pg_name (i := 1) scWO.nd rfl (.inl rfl)) (pgs_cons (pg_name (i := 2) scWO.nd rfl (.inl rfl)) (pgs_cons (pg_name (i := 3) scWO.nd rfl (.inl rfl)) pgs_nil)))))
      (pss_one (ps_ret (pe_tup (pa_cons (pe_callTy call_tuple_of (by rfl) T.tuple (by decide +kernel) (pa_cons (pe_split (pv 1) pe_str) pa_nil))
        (pa_cons (pe_ifExp (pt_truth (pv 2) (by intro _; rfl)) (pe_callTy call_tuple_of (by rfl) T.tuple (by decide +kernel) (pa_cons (pe_split (pv 3) pe_str) pa_nil)) (pe_tup pa_nil)) pa_nil))))), ?_⟩
    have bp := Bd.part " | " bd
    refine ⟨_, rfl, ⟨_, rfl⟩, t, " | ", rfl, rfl, by decide +kernel, bd.line, fun q nq => ?_⟩
    refine ⟨q, _, rfl, SqT.of upd_same, rfl, _, _, rfl, _, _, rfl, _, _, rfl, rfl, ?_⟩
    have s1 : Same H (upd H q (.tup [.str (Txt.partition t " | ").1, .str (Txt.partition t " | ").2.1, .str (Txt.partition t " | ").2.2])) := same_new nq
    generalize upd H q (.tup [.str (Txt.partition t " | ").1, .str (Txt.partition t " | ").2.1, .str (Txt.partition t " | ").2.2]) = H1 at s1 ⊢
    refine ⟨_, rfl, ⟨_, rfl⟩, _, " ", rfl, rfl, by decide +kernel, bp.1.line2, fun l nl => ?_⟩
    refine ⟨l, _, rfl, .inl ⟨SqL.of upd_same, fun a na => ?_⟩⟩
    have s2 : Same H1 (upd (upd H1 l (.lst (svs (wordsR t)))) a (.tup (svs (wordsR t)))) := Same.trans (same_new nl) (same_new na)
    have ha : (upd (upd H1 l (.lst (svs (wordsR t)))) a (.tup (svs (wordsR t)))) a = some (.tup (svs (wordsR t))) := upd_same
    show tCons _ _ _ (upd (upd H1 l (.lst (svs (wordsR t)))) a (.tup (svs (wordsR t)))) _
    generalize upd (upd H1 l (.lst (svs (wordsR t)))) a (.tup (svs (wordsR t))) = H2 at s2 ha ⊢
    refine ⟨_, rfl, _, ⟨Nat.le_trans (part_len t " | ").2.1 (by decide +kernel), rfl⟩, ?_⟩
    rw [nz]
    cases hc : ((Txt.partition t " | ").2.1.length != 0) with
    | true =>
      have e : wordsE t = Txt.split (Txt.partition t " | ").2.2 " " := by unfold wordsE; rw [if_pos hc]
      refine iteT ?_
      refine ⟨_, rfl, ⟨_, rfl⟩, _, " ", rfl, rfl, by decide +kernel, bp.2.line2, fun l2 nl2 => ?_⟩
      rw [← e]
      refine ⟨l2, _, rfl, .inl ⟨SqL.of upd_same, fun b nb => ?_⟩⟩
      refine ⟨(by show 2 ≤ sizeLine; decide), fun p np => ?_⟩
      exact k _ p a b (Same.trans s1 (Same.trans s2 (Same.trans (same_new nl2) (Same.trans (same_new nb) (same_new np))))) upd_same (same_new np _ _ (same_new nb _ _ (same_new nl2 _ _ ha))) (same_new np _ _ upd_same)
    | false =>
      have e : wordsE t = [] := by unfold wordsE; rw [if_neg (by rw [hc]; exact Bool.false_ne_true)]
      refine iteF ?_
      refine ⟨Nat.zero_le _, fun b nb => ?_⟩
      refine ⟨(by show 2 ≤ sizeLine; decide), fun p np => ?_⟩
      refine k _ p a b (Same.trans s1 (Same.trans s2 (Same.trans (same_new nb) (same_new np)))) upd_same (same_new np _ _ (same_new nb _ _ ha)) ?_
      rw [e]
      exact same_new np _ _ upd_same
/-! ### order_of -/
def spOO : Sp := fun vs H Q _ => ∃ t : Str, vs = [.str t] ∧ Bd t ∧ ∀ (H' : Hp) (p : Addr), Same H H' → H p = none → H' p = some (.tup [.str (orderOf t).1, .str (orderOf t).2]) → Q (.ref p) H'
theorem scOO : FnScope ["word", "test", "colon", "step"] ["word"] (defScope sOO) := ⟨rfl, rfl, rfl, by decide +kernel, rfl, by decide +kernel, by decide +kernel⟩
theorem ok_oo (T : TxL K mg) : FnOk P w K mg base CX0 1 T.oo.f T.oo.fd ["word"] spOO := by
  refine T.oo.F.ok scOO (fun vs H Q E h => ?_) (fun cdv A outer s H vs Q E hr h => ?_)
  · obtain ⟨t, rfl, _⟩ := h
    rfl
  · obtain ⟨t, rfl, bd, k⟩ := h
    refine ⟨_, pss_cons (ps_asg (pe_partition (pv 0) pe_str) (pg_tup rfl (pgs_cons (pg_name (i := 1) scOO.nd rfl (.inl rfl)) (pgs_cons (pg_name (i := 2) scOO.nd rfl (.inl rfl)) (pgs_cons (pg_name (i := 3) scOO.nd rfl (.inl rfl)) pgs_nil)))))
      (pss_one (ps_ret (pe_ifExp (pt_truth (pv 2) (by intro _; rfl)) (pe_tup (pa_cons (pv 1) (pa_cons (pv 3) pa_nil))) (pe_tup (pa_cons pe_str (pa_cons (pv 0) pa_nil)))))), ?_⟩
    refine ⟨_, rfl, ⟨_, rfl⟩, t, ":", rfl, rfl, by decide +kernel, bd.line, fun q nq => ?_⟩
    refine ⟨q, _, rfl, SqT.of upd_same, rfl, _, _, rfl, _, _, rfl, _, _, rfl, rfl, ?_⟩
    have s1 : Same H (upd H q (.tup [.str (Txt.partition t ":").1, .str (Txt.partition t ":").2.1, .str (Txt.partition t ":").2.2])) := same_new nq
    generalize upd H q (.tup [.str (Txt.partition t ":").1, .str (Txt.partition t ":").2.1, .str (Txt.partition t ":").2.2]) = H1 at s1 ⊢
    refine ⟨_, rfl, _, ⟨Nat.le_trans (part_len t ":").2.1 (by decide +kernel), rfl⟩, ?_⟩
    rw [nz]
    unfold orderOf at k
    cases hc : ((Txt.partition t ":").2.1.length != 0) with
    | true =>
      rw [if_pos hc] at k
      refine iteT ?_
      refine ⟨_, rfl, _, rfl, (by show 2 ≤ sizeLine; decide), fun p np => ?_⟩
      exact k _ p (Same.trans s1 (same_new np)) (s1.free np) upd_same
    | false =>
      rw [if_neg (by rw [hc]; exact Bool.false_ne_true)] at k
      refine iteF ?_
      refine ⟨_, rfl, (by show 2 ≤ sizeLine; decide), fun p np => ?_⟩
      exact k _ p (Same.trans s1 (same_new np)) (s1.free np) upd_same
/-! ### is_word -/
def spIW (K : PySem.W.Frag) : Sp := fun vs H Q _ => ∃ (t : Str) (p : Addr) (ss : List Str), vs = [.str t, .ref p] ∧ Bd t ∧ SqT K H p (svs ss) ∧ ∀ H' : Hp, Same H H' → Q (.bl (isWord t ss)) H'
theorem scIW : FnScope ["word", "steps", "test", "colon", "step"] ["word", "steps"] (defScope sIW) := ⟨rfl, rfl, rfl, by decide +kernel, rfl, by decide +kernel, by decide +kernel⟩
theorem ok_iw (T : TxL K mg) : FnOk P w K mg base CX0 1 T.iw.f T.iw.fd ["word", "steps"] (spIW K) := by
  refine T.iw.F.ok scIW (fun vs H Q E h => ?_) (fun cdv A outer s H vs Q E hr h => ?_)
  · obtain ⟨t, p, ss, rfl, _⟩ := h
    rfl
  · obtain ⟨t, p, ss, rfl, bd, hp, k⟩ := h
    refine ⟨_, pss_cons (ps_asg (pe_partition (pv 0) pe_str) (pg_tup rfl (pgs_cons (pg_name (i := 2) scIW.nd rfl (.inl rfl)) (pgs_cons (pg_name (i := 3) scIW.nd rfl (.inl rfl)) (pgs_cons (pg_name (i := 4) scIW.nd rfl (.inl rfl)) pgs_nil)))))
      (pss_one (ps_ret (pe_ifExp (pt_truth (pv 3) (by intro _; rfl)) (pe_and (pe_cmpR op_in_seq (pv 2) (pe_glob (v := .ref T.pT) rfl T.gT rfl) (by rfl)) (pe_one (pe_cmpR op_in_seq (pv 4) (pv 1) (by rfl)))) (pe_cmpR op_in_seq (pv 0) (pv 1) (by rfl))))), ?_⟩
    refine ⟨_, rfl, ⟨_, rfl⟩, t, ":", rfl, rfl, by decide +kernel, bd.line, fun q nq => ?_⟩
    refine ⟨q, _, rfl, SqT.of upd_same, rfl, _, _, rfl, _, _, rfl, _, _, rfl, rfl, ?_⟩
    have s1 : Same H (upd H q (.tup [.str (Txt.partition t ":").1, .str (Txt.partition t ":").2.1, .str (Txt.partition t ":").2.2])) := same_new nq
    generalize upd H q (.tup [.str (Txt.partition t ":").1, .str (Txt.partition t ":").2.1, .str (Txt.partition t ":").2.2]) = H1 at s1 ⊢
    refine ⟨_, rfl, _, ⟨Nat.le_trans (part_len t ":").2.1 (by decide +kernel), rfl⟩, ?_⟩
    rw [nz]
    have k1 := k H1 s1
    unfold isWord at k1
    cases hc : ((Txt.partition t ":").2.1.length != 0) with
    | true =>
      rw [if_pos hc] at k1
      refine iteT ?_
      refine ⟨_, rfl, T.pT, _, rfl, .inr (T.lT _), rfl, svs_flat _, _, rfl, ?_⟩
      show if (inV _ (svs tests)) = true then _ else _
      rw [inV_svs]
      by_cases h1 : (Txt.partition t ":").1 ∈ tests
      · rw [decide_eq_true h1] at k1 ⊢
        refine iteT ⟨_, rfl, _, rfl, p, _, rfl, .inr (Cm.Same.set s1 hp), rfl, svs_flat _, ?_⟩
        show _
        rw [Bool.true_and] at k1
        have := inV_svs (Txt.partition t ":").2.2 ss
        rw [← this] at k1
        exact k1
      · rw [decide_eq_false h1] at k1 ⊢
        exact iteF k1
    | false =>
      rw [if_neg (by rw [hc]; exact Bool.false_ne_true)] at k1
      refine iteF ?_
      refine ⟨_, rfl, _, rfl, p, _, rfl, .inr (Cm.Same.set s1 hp), rfl, svs_flat _, ?_⟩
      rw [← inV_svs] at k1
      exact k1
end
end My

namespace My
open PySem L2 Cm LM
section
variable {P : Program} {w : World} {K : PySem.W.Frag} {mg : Str → Option Value} {base : Heap}
/-! ### are_words -/
def spAW (K : PySem.W.Frag) : Sp := fun vs H Q _ => ∃ (a p : Addr) (ws ss : List Str), vs = [.ref a, .ref p] ∧ BdW ws ∧ SqT K H a (svs ws) ∧ SqT K H p (svs ss) ∧ ∀ H' : Hp, Same H H' → Q (.bl (areWords ws ss)) H'
theorem scAW : FnScope ["words", "steps", "word"] ["words", "steps"] (defScope sAW) := ⟨rfl, rfl, rfl, by decide +kernel, rfl, by decide +kernel, by decide +kernel⟩
theorem ok_aw (T : TxL K mg) : FnOk P w K mg base CX0 2 T.aw.f T.aw.fd ["words", "steps"] (spAW K) := by
  have G1 : FnOk P w K mg base CX0 1 T.iw.f T.iw.fd ["word", "steps"] (spIW K) := ok_iw T
  refine T.aw.F.ok scAW (fun vs H Q E h => ?_) (fun cdv A outer s H vs Q E hr h => ?_)
  · obtain ⟨a, p, ws, ss, rfl, _⟩ := h
    rfl
  · obtain ⟨a, p, ws, ss, rfl, bd, ha, hp, k⟩ := h
    refine ⟨_, pss_one (ps_ret (pe_callB (cr_all rfl) (by rfl) T.all (by decide +kernel) (pa_cons (pe_lc (own := [("word", 2)]) (g := gName 2) (tt := tYes) (te := tCall (spIW K) [] E0 (tCons (tVar 2) (tCons (tVar 1) tNil))) rfl scAW.nd (pi_tup (pv 0))
      (blkOk_by (own := [("word", 2)]) (N := ["words", "steps", "word"]) (sc := defScope sAW) (by decide +kernel)) (fun _ _ _ _ _ => pg_name (i := 2) scAW.nd rfl (Or.inl rfl)) (fun _ _ _ _ _ => pts_nil)
      (fun _ _ _ _ _ => by exact pe_call G1 hr rfl T.iw.g T.iw.k T.iw.b .nil pass0 (pa_cons (pv 2) (pa_cons (pv 1) pa_nil)))) pa_nil))), ?_⟩
    refine ⟨_, rfl, a, rfl, ⟨_, ha⟩, fun D nD => lc_tup (K := K) (a := a) (xs := svs ws) (fun i H' => Same H H' ∧ H' D = some (.lst (((ws.take i).map fun z => isWord z ss).map V.bl))) ⟨same_new nD, upd_same⟩ (fun i H' _ ⟨s', _⟩ => Cm.Same.set s' ha) ?_ ?_⟩
    · rintro i x H' hx ⟨s', hD⟩
      obtain ⟨z, hz, rfl⟩ := svs_get hx
      refine ⟨rfl, _, rfl, _, rfl, z, p, ss, rfl, bd.1 z (List.mem_of_getElem? hz), Cm.Same.set s' hp, fun H2 s2 => ?_⟩
      refine ⟨_, s2 _ _ hD, szM ?_, fun b o q => ?_, ?_⟩
      · rw [List.length_map, List.length_map, List.length_take]
        have := bd.2
        omega
      · rw [upd_ne (ne_of_none q nD)]
        exact s2 _ _ (s' _ _ q)
      · rw [upd_same, take_snoc hz]
        simp
    · rintro H' ⟨s', hD⟩
      have e : (svs ws).length = ws.length := List.length_map ..
      rw [e, List.take_length] at hD
      refine ⟨D, ws.map fun z => isWord z ss, rfl, SqL.of hD, ?_⟩
      have k1 := k H' s'
      unfold areWords at k1
      rw [List.all_map]
      exact k1
/-! ### is_round -/
def spIR (K : PySem.W.Frag) : Sp := fun vs H Q _ => ∃ (a : Addr) (ws : List Str), vs = [.ref a] ∧ ws ≠ [] ∧ BdW ws ∧ SqT K H a (svs ws) ∧ ∀ H' : Hp, Same H H' → Q (.bl (isRound ws)) H'
theorem scIR : FnScope ["words", "adding", "word"] ["words"] (defScope sIR) := ⟨rfl, rfl, rfl, by decide +kernel, rfl, by decide +kernel, by decide +kernel⟩
def ttAdd (K : PySem.W.Frag) : TT := tTest (tOp rEq (tOp (rIxT K) (tCall spOO [] E0 (tCons (tVar 2) tNil)) (tC (.int 1))) (tC (.str "add")))
theorem ok_ir (T : TxL K mg) : FnOk P w K mg base CX0 3 T.ir.f T.ir.fd ["words"] (spIR K) := by
  have GO : FnOk P w K mg base CX0 1 T.oo.f T.oo.fd ["word"] spOO := ok_oo T
  have GA : FnOk P w K mg base CX0 2 T.aw.f T.aw.fd ["words", "steps"] (spAW K) := ok_aw T
  obtain ⟨tm, mr⟩ := T.mr
  refine T.ir.F.ok scIR (fun vs H Q E h => ?_) (fun cdv A outer s H vs Q E hr h => ?_)
  · obtain ⟨a, ws, rfl, _⟩ := h
    rfl
  · obtain ⟨a, ws, rfl, ne, bd, ha, k⟩ := h
    have hr1 : Room 1 _ := hr.mono (by decide)
    refine ⟨_, pss_cons (ps_if (PW.pt (pw_or (pt_cmpR op_ne (pe_ix ix_tup (pv 0) pe_int (fun _ _ => rfl)) pe_str (nomark _)) (pw_or1 (pt_cmpR op_gt (pe_callB call_len_seq (by rfl) T.len PySem.boot_len (pa_cons (pv 0) pa_nil)) (pe_glob (v := .int 12) rfl mr ⟨_, rfl⟩) (nomark _))))) (pss_one (ps_ret pe_bl)) pss_nil)
      (pss_cons (ps_setLc (i := 1) (own := [("word", 2)]) (g := gName 2) (tt := ttAdd K) (te := tVar 2) rfl scIR.nd rfl rfl (sw_true rfl rfl rfl (by decide +kernel)) (pi_tup (pv 0)) (blkOk_by (own := [("word", 2)]) (N := ["words", "adding", "word"]) (sc := defScope sIR) (by decide +kernel)) (fun _ _ _ _ _ => pg_name (i := 2) scIR.nd rfl (Or.inl rfl))
          (fun _ _ _ _ _ => by exact pts_one (pt_cmpR op_eq (pe_ix ix_tup (pe_call (E := E0) GO hr1 rfl T.oo.g T.oo.k T.oo.b .nil pass0 (pa_cons (pv 2) pa_nil)) pe_int (fun _ _ => rfl)) pe_str (nomark _))) (fun _ _ _ _ _ => pv 2))
      (pss_one (ps_ret (pe_and (pe_cmpR op_le (pe_callB call_len_seq (by rfl) T.len PySem.boot_len (pa_cons (pv 1) pa_nil)) pe_int (nomark _)) (pe_one (pe_call GA hr rfl T.aw.g T.aw.k T.aw.b .nil pass0 (pa_cons (pe_slice sl_tupA (pv 0) (po_some pe_int) po_none) (pa_cons (pe_glob (v := .ref T.pR) rfl T.gR rfl) pa_nil))))))))
      , ?_⟩
    obtain ⟨w0, r, rfl⟩ : ∃ w0 r, ws = w0 :: r := by
      cases ws with
      | nil => exact absurd rfl ne
      | cons w0 r => exact ⟨w0, r, rfl⟩
    refine ⟨_, rfl, a, _, 0, .str w0, rfl, rfl, ha, (show atI (svs (w0 :: r)) ((0 : Nat) : Int) = some (V.str w0) from atI_nat rfl), rfl, _, rfl, ?_⟩
    unfold isRound at k
    rw [dS]
    by_cases h0 : w0 = "ask"
    · subst h0
      rw [show decide ((("ask" : Str) :: r).head? = some "ask") = true from decide_eq_true rfl, Bool.true_and] at k
      rw [decide_eq_true rfl]
      refine iteF ?_
      refine ⟨_, rfl, a, _, rfl, .inr ha, _, _, rfl, rfl, _, rfl, ?_⟩
      have el : (svs ((("ask" : Str)) :: r)).length = ((("ask" : Str)) :: r).length := List.length_map ..
      rw [el]
      by_cases h12 : ((("ask" : Str)) :: r).length ≤ 12
      · rw [decide_eq_false (show ¬ ((12 : Int) < ((("ask" : Str) :: r).length : Int)) by omega)]
        rw [decide_eq_true h12, Bool.true_and] at k
        refine iteF ?_
        refine ⟨_, rfl, a, rfl, ⟨_, ha⟩, fun D nD => lc_tup (K := K) (a := a) (xs := svs (("ask" : Str) :: r)) (fun i H' => Same H H' ∧ H' D = some (.lst (svs (((("ask" : Str) :: r).take i).filter isAdd)))) ⟨same_new nD, upd_same⟩ (fun i H' _ ⟨s', _⟩ => Cm.Same.set s' ha) ?_ ?_⟩
        · rintro i x H' hx ⟨s', hD⟩
          obtain ⟨z, hz, rfl⟩ := svs_get hx
          refine ⟨rfl, _, rfl, z, rfl, bd.1 z (List.mem_of_getElem? hz), fun H2 p s2 np hp => ?_⟩
          refine ⟨p, _, 1, _, rfl, rfl, SqT.of hp, rfl, rfl, _, rfl, ?_⟩
          rw [dS]
          have ed : decide ((orderOf z).2 = "add") = isAdd z := rfl
          rw [ed]
          rw [take_snoc hz, List.filter_append]
          cases hc : isAdd z with
          | true =>
            refine iteT ?_
            refine ⟨_, rfl, _, s2 _ _ hD, szM ?_, fun b o q => ?_, ?_⟩
            · rw [show (svs (List.filter isAdd (List.take i (("ask" : Str) :: r)))).length = _ from List.length_map ..]
              have := List.length_filter_le isAdd (List.take i (("ask" : Str) :: r))
              rw [List.length_take] at this
              have := bd.2
              omega
            · rw [upd_ne (ne_of_none q nD)]
              exact s2 _ _ (s' _ _ q)
            · rw [upd_same]
              simp [svs, hc]
          | false =>
            refine iteF ?_
            refine ⟨Same.trans s' s2, ?_⟩
            rw [s2 _ _ hD]
            simp [hc]
        · rintro H' ⟨s', hD⟩
          rw [el, List.take_length] at hD
          refine ⟨_, rfl, D, _, rfl, .inl (SqL.of hD), _, _, rfl, rfl, _, rfl, ?_⟩
          have ef : (svs (List.filter isAdd (("ask" : Str) :: r))).length = (List.filter isAdd (("ask" : Str) :: r)).length := List.length_map ..
          rw [ef]
          by_cases h1 : (List.filter isAdd (("ask" : Str) :: r)).length ≤ 1
          · rw [decide_eq_true (show (((List.filter isAdd (("ask" : Str) :: r)).length : Int) ≤ 1) by omega)]
            rw [decide_eq_true h1, Bool.true_and] at k
            refine iteT ?_
            have cut : cutV (svs (("ask" : Str) :: r)) (some 1) none = svs r := by
              unfold cutV
              rw [HT.sIx_none, show (some (1 : Int)) = some ((1 : Nat) : Int) from rfl, HT.sIx_nat, el]
              simp [svs]
              exact List.take_of_length_le (by simp)
            refine ⟨_, rfl, 1, rfl, a, _, rfl, Cm.Same.set s' ha, fun z => ?_, fun _ p np => ?_⟩
            · exfalso
              have := z.1
              rw [show (some (1 : Int)) = some ((1 : Nat) : Int) from rfl, HT.sIx_nat, el] at this
              simp at this
            · rw [cut]
              refine ⟨p, T.pR, r, rsteps, rfl, ⟨fun z hz => bd.1 z (List.mem_cons_of_mem _ hz), ?_⟩, SqT.of upd_same, T.lR _, fun H2 s2 => ?_⟩
              · have := bd.2
                rw [List.length_cons] at this
                omega
              · exact k _ (Same.trans s' (Same.trans (same_new np) s2))
          · rw [decide_eq_false (show ¬ (((List.filter isAdd (("ask" : Str) :: r)).length : Int) ≤ 1) by omega)]
            rw [decide_eq_false h1, Bool.false_and] at k
            exact iteF (k H' s')
      · rw [decide_eq_true (show ((12 : Int) < ((("ask" : Str) :: r).length : Int)) by omega)]
        rw [decide_eq_false h12, Bool.false_and] at k
        exact iteT (k H (Same.refl _))
    · rw [decide_eq_false h0]
      rw [show decide ((w0 :: r).head? = some "ask") = false from decide_eq_false (fun z => h0 (Option.some.inj z)), Bool.false_and] at k
      exact iteT (iteT (k H (Same.refl _)))
/-! ### is_ending -/
def spIE (K : PySem.W.Frag) : Sp := fun vs H Q _ => ∃ (a : Addr) (ws : List Str), vs = [.ref a] ∧ BdW ws ∧ SqT K H a (svs ws) ∧ ∀ H' : Hp, Same H H' → Q (.bl (isEnding ws)) H'
theorem scIE : FnScope ["words"] ["words"] (defScope sIE) := ⟨rfl, rfl, rfl, by decide +kernel, rfl, by decide +kernel, by decide +kernel⟩
theorem ok_ie (T : TxL K mg) : FnOk P w K mg base CX0 3 T.ie.f T.ie.fd ["words"] (spIE K) := by
  have GA : FnOk P w K mg base CX0 2 T.aw.f T.aw.fd ["words", "steps"] (spAW K) := ok_aw T
  obtain ⟨tm, me⟩ := T.me
  refine T.ie.F.ok scIE (fun vs H Q E h => ?_) (fun cdv A outer s H vs Q E hr h => ?_)
  · obtain ⟨a, ws, rfl, _⟩ := h
    rfl
  · obtain ⟨a, ws, rfl, bd, ha, k⟩ := h
    refine ⟨_, pss_one (ps_ret (pe_and (pe_cmpR op_le (pe_callB call_len_seq (by rfl) T.len PySem.boot_len (pa_cons (pv 0) pa_nil)) (pe_glob (v := .int 6) rfl me ⟨_, rfl⟩) (nomark _)) (pe_one (pe_call GA hr rfl T.aw.g T.aw.k T.aw.b .nil pass0 (pa_cons (pv 0) (pa_cons (pe_glob (v := .ref T.pE) rfl T.gE rfl) pa_nil)))))), ?_⟩
    refine ⟨_, rfl, a, _, rfl, .inr ha, _, _, rfl, rfl, _, rfl, ?_⟩
    have el : (svs ws).length = ws.length := List.length_map ..
    rw [el]
    unfold isEnding at k
    by_cases h6 : ws.length ≤ 6
    · rw [decide_eq_true (show ((ws.length : Int) ≤ 6) by omega)]
      rw [decide_eq_true h6, Bool.true_and] at k
      exact iteT ⟨_, rfl, a, T.pE, ws, esteps, rfl, bd, ha, T.lE _, k⟩
    · rw [decide_eq_false (show ¬ ((ws.length : Int) ≤ 6) by omega)]
      rw [decide_eq_false h6, Bool.false_and] at k
      exact iteF (k H (Same.refl _))
end
end My

/-! the class Loop: its making -/
namespace My
open PySem L2 Cm LM
abbrev sLI : Stmt := inClass (top 44) 0
section
variable {P : Program} {w : World} {K : PySem.W.Frag} {mg : Str → Option Value} {base : Heap}
/-! ### loops as objects -/
def lf (t : Str) (pr pe po pq : Addr) : List (Str × V) := putF "ending_orders" (.ref pq) (putF "round_orders" (.ref po) (putF "ending" (.ref pe) (putF "round" (.ref pr) (putF "text" (.str t) []))))
theorem lf_text (t : Str) (pr pe po pq : Addr) : (lf t pr pe po pq).lookup ("text" : Str) = some (.str t) := by
  unfold lf
  rw [lookup_putF, if_neg (by decide +kernel), lookup_putF, if_neg (by decide +kernel), lookup_putF, if_neg (by decide +kernel), lookup_putF, if_neg (by decide +kernel), lookup_putF, if_pos rfl]
theorem lf_round (t : Str) (pr pe po pq : Addr) : (lf t pr pe po pq).lookup ("round" : Str) = some (.ref pr) := by
  unfold lf
  rw [lookup_putF, if_neg (by decide +kernel), lookup_putF, if_neg (by decide +kernel), lookup_putF, if_neg (by decide +kernel), lookup_putF, if_pos rfl]
theorem lf_ending (t : Str) (pr pe po pq : Addr) : (lf t pr pe po pq).lookup ("ending" : Str) = some (.ref pe) := by
  unfold lf
  rw [lookup_putF, if_neg (by decide +kernel), lookup_putF, if_neg (by decide +kernel), lookup_putF, if_pos rfl]
theorem lf_ro (t : Str) (pr pe po pq : Addr) : (lf t pr pe po pq).lookup ("round_orders" : Str) = some (.ref po) := by
  unfold lf
  rw [lookup_putF, if_neg (by decide +kernel), lookup_putF, if_pos rfl]
theorem lf_eo (t : Str) (pr pe po pq : Addr) : (lf t pr pe po pq).lookup ("ending_orders" : Str) = some (.ref pq) := by
  unfold lf
  rw [lookup_putF, if_pos rfl]
theorem lf_no (t : Str) (pr pe po pq : Addr) {m : Str} (h1 : ¬ m = "ending_orders") (h2 : ¬ m = "round_orders") (h3 : ¬ m = "ending") (h4 : ¬ m = "round") (h5 : ¬ m = "text") : (lf t pr pe po pq).lookup m = none := by
  unfold lf
  rw [lookup_putF, if_neg h1, lookup_putF, if_neg h2, lookup_putF, if_neg h3, lookup_putF, if_neg h4, lookup_putF, if_neg h5]
  rfl
/-- rows of pairs of texts -/
inductive Prs (H : Hp) : List V → List (Str × Str) → Prop
  | nil : Prs H [] []
  | cons {p : Addr} {o : Str × Str} {xs : List V} {os : List (Str × Str)} (h : H p = some (.tup [.str o.1, .str o.2])) (t : Prs H xs os) : Prs H (.ref p :: xs) (o :: os)
theorem Prs.mono {H H' : Hp} (f : ∀ (p : Addr) (xs : List V), H p = some (.tup xs) → H' p = some (.tup xs)) : ∀ {xs os}, Prs H xs os → Prs H' xs os
  | _, _, .nil => .nil
  | _, _, .cons h t => .cons (f _ _ h) (t.mono f)
theorem Prs.same {H H' : Hp} (s : Same H H') {xs os} (h : Prs H xs os) : Prs H' xs os := h.mono fun _ _ q => s _ _ q
theorem Prs.snoc {H : Hp} {p : Addr} {o : Str × Str} (h : H p = some (.tup [.str o.1, .str o.2])) : ∀ {xs os}, Prs H xs os → Prs H (xs ++ [.ref p]) (os ++ [o])
  | _, _, .nil => .cons h .nil
  | _, _, .cons a t => .cons a (t.snoc h)
theorem Prs.len {H : Hp} : ∀ {xs os}, Prs H xs os → xs.length = os.length
  | _, _, .nil => rfl
  | _, _, .cons _ t => congrArg (· + 1) t.len
def Ords (H : Hp) (p : Addr) (ws : List Str) : Prop := ∃ xs, H p = some (.tup xs) ∧ Prs H xs (ws.map orderOf)
/-- a loop of this text stands at o -/
def LoopAt (C : Addr) (H : Hp) (o : Addr) (t : Str) : Prop := ∃ dx pr pe po pq, H o = some (.ins C dx (lf t pr pe po pq)) ∧ H pr = some (.tup (svs (wordsR t))) ∧ H pe = some (.tup (svs (wordsE t))) ∧ Ords H po (wordsR t) ∧ Ords H pq (wordsE t)
theorem Ords.mono {H H' : Hp} (f : ∀ (p : Addr) (xs : List V), H p = some (.tup xs) → H' p = some (.tup xs)) {p : Addr} {ws : List Str} (h : Ords H p ws) : Ords H' p ws := let ⟨xs, e, q⟩ := h; ⟨xs, f _ _ e, q.mono f⟩
theorem LoopAt.same {C : Addr} {H H' : Hp} {o : Addr} {t : Str} (s : Same H H') (h : LoopAt C H o t) : LoopAt C H' o t := let ⟨dx, pr, pe, po, pq, a, b, c, d, e⟩ := h; ⟨dx, pr, pe, po, pq, s _ _ a, s _ _ b, s _ _ c, d.mono fun _ _ z => s _ _ z, e.mono fun _ _ z => s _ _ z⟩
theorem LoopAt.off {C j : Addr} {H H' : Hp} {o : Addr} {t : Str} (s : Off j H H') (hj : Jar H j) (h : LoopAt C H o t) : LoopAt C H' o t := by
  obtain ⟨x, y, z, hj⟩ := hj
  have f : ∀ (p : Addr) (xs : List V), H p = some (.tup xs) → H' p = some (.tup xs) := fun p xs e => s _ _ (ne_of e hj (by intro z; cases z)) e
  obtain ⟨dx, pr, pe, po, pq, a, b, c, d, e⟩ := h
  exact ⟨dx, pr, pe, po, pq, s _ _ (ne_of a hj (by intro z; cases z)) a, f _ _ b, f _ _ c, d.mono f, e.mono f⟩
/-! ### the text of the class -/
structure TxC (K : PySem.W.Frag) (mg : Str → Option Value) where
  L : TxL K mg
  E : TxE K mg
  isi : mg "isinstance" = none
  str : mg "str" = none
  C : Addr
  gC : mg "Loop" = some (.ref C)
  cl : Cls K C
  nT : NoAttr K C "text"
  nR : NoAttr K C "round"
  nE : NoAttr K C "ending"
  nO : NoAttr K C "round_orders"
  nQ : NoAttr K C "ending_orders"
  fI : Addr
  fdI : FuncData
  FI : Fun K "__init__" "Loop.__init__" sLI fI fdI
  bI : Binds K fdI ["self", "text"] []
  MI : Mk K C fI
/-- v makes a loop -/
def good : V → Bool
  | .str t => goodText t
  | _ => false
def BdV : V → Prop
  | .str t => Bd t
  | _ => True
def spLI (K : PySem.W.Frag) (C CE : Addr) : Sp := fun vs H Q E => ∃ (x dx : Addr) (v : V), vs = [.ref x, v] ∧ H x = some (.ins C dx []) ∧ Typed K H v ∧ BdV v ∧
  (∀ t, v = .str t → goodText t = true → ∀ H' : Hp, Off x H H' → LoopAt C H' x t → Q .non H') ∧
  (good v = false → ∀ (H' : Hp) (d : Addr), Same H H' → H' d = none → E (.ref CE) (some d) (upd H' d (.xd [("value", v)])))
theorem scLI : FnScope ["self", "text", "first_words", "last_words", "word"] ["self", "text"] (defScope sLI) := ⟨rfl, rfl, rfl, by decide +kernel, rfl, by decide +kernel, by decide +kernel⟩
/-- [order_of(word) for word in words] -/
theorem ords_lc {K : PySem.W.Frag} {σ : St} {H1 : Hp} {D a : Addr} {ws : List Str} {Qd : Hp → Prop} (h4 : ∀ v, ((wipe σ [4]).set 4 (some v))[4]? = some (some v) ∧ wipe ((wipe σ [4]).set 4 (some v)) [4] = wipe σ [4])
    (ha : H1 a = some (.tup (svs ws))) (bd : BdW ws) (nD : H1 D = none) (hd : ∀ (H' : Hp) (xs : List V), Same H1 H' → H' D = some (.lst xs) → Prs H' xs (ws.map orderOf) → Qd H') :
    ∃ W : Nat → Nat → Hp → Prop, (∃ m, W 0 m (upd H1 D (.lst []))) ∧ ∀ (i m : Nat) (H : Hp), W i m H →
      ((Itt K a).stop i H ∧ Qd H) ∨ ((Itt K a).go i H ∧ ∃ Nx : Hp → Prop, (∀ H', Nx H' → ∃ m', m' < m ∧ W (i + 1) m' H') ∧ ∀ (x : V) (H' : Hp), (Itt K a).yld i H x H' → gName 4 x (wipe σ [4]) H' fun σ2 H2 => wipe σ2 [4] = wipe σ [4] ∧ tYes σ2 H2 fun b H3 =>
        if b = true then tCall spOO [] E0 (tCons (tVar 4) tNil) σ2 H3 fun y H4 => ∃ acc, H4 D = some (.lst acc) ∧ acc.length < sizeLine ∧ Nx (upd H4 D (.lst (acc ++ [y]))) else Nx H3) := by
  refine lc_tup (K := K) (a := a) (xs := svs ws) (fun i H' => Same H1 H' ∧ ∃ acc, H' D = some (.lst acc) ∧ Prs H' acc ((ws.take i).map orderOf)) ⟨same_new nD, [], upd_same, .nil⟩ (fun i H' _ ⟨s, _⟩ => SqT.of (s _ _ ha)) ?_ ?_
  · rintro i x H' hx ⟨s, acc, hD, hP⟩
    obtain ⟨z, hz, rfl⟩ := svs_get hx
    obtain ⟨z4, zw⟩ := h4 (.str z)
    refine ⟨zw, _, z4, z, rfl, bd.1 z (List.mem_of_getElem? hz), fun H2 p s2 np hp => ?_⟩
    have hD2 := s2 _ _ hD
    have st := tup_stays (o' := .lst (acc ++ [.ref p])) hD2 (by intro xs z; cases z)
    have la := hP.len
    rw [List.length_map, List.length_take] at la
    have := bd.2
    refine ⟨acc, hD2, szM (by omega), fun b o q => ?_, _, upd_same, ?_⟩
    · rw [upd_ne (ne_of_none q nD)]
      exact s2 _ _ (s _ _ q)
    · rw [take_snoc hz, List.map_append]
      exact Prs.snoc (st _ _ hp) ((hP.same s2).mono st)
  · rintro H' ⟨s, acc, hD, hP⟩
    have e : (svs ws).length = ws.length := List.length_map ..
    rw [e, List.take_length] at hP
    exact hd H' acc s hD hP
theorem ok_li (T : TxC K mg) : FnOk P w K mg base (L2.CX P w) 4 T.fI T.fdI ["self", "text"] (spLI K T.C T.E.C) := by
  have GW : FnOk P w K mg base CX0 1 T.L.wo.f T.L.wo.fd ["text"] spWO := ok_wo T.L
  have GO : FnOk P w K mg base CX0 1 T.L.oo.f T.L.oo.fd ["word"] spOO := ok_oo T.L
  have GR : FnOk P w K mg base CX0 3 T.L.ir.f T.L.ir.fd ["words"] (spIR K) := ok_ir T.L
  have GN : FnOk P w K mg base CX0 3 T.L.ie.f T.L.ie.fd ["words"] (spIE K) := ok_ie T.L
  have GE : FnOk P w K mg base CX0 1 T.E.f T.E.fd ["self", "value"] (spEI T.E.C) := ok_ei T.E
  refine T.FI.okX scLI (fun vs H Q E h => ?_) (fun cdv A outer s H vs Q E hr h => ?_)
  · obtain ⟨x, dx, v, rfl, _⟩ := h
    rfl
  · obtain ⟨x, dx, v, rfl, hx, ⟨t, ty, kt⟩, bd, kg, kb⟩ := h
    have hr1 : Room 1 _ := hr.mono (by decide)
    have hr2 : Room 2 _ := hr.mono (by decide)
    have ps : Bool := true
    refine ⟨_, pss_cons (ps_if (pt_not (pt_val (pe_callB call_isi (by rfl) T.isi (by decide +kernel) (pa_cons (pv 1) (pa_cons (pe_bltn (v := .ty "str") (by rfl) T.str (by decide +kernel) rfl) pa_nil))))) (pss_one (ps_raise rfl (takes_of rfl rfl rfl rfl) (pmk_oex T.E.o T.E.i T.E.t GE hr2 T.E.b .nil pass0 rfl T.E.g (pa_cons (pv 1) pa_nil)))) pss_nil)
      (pss_cons (ps_asg (pe_call GW hr1 rfl T.L.wo.g T.L.wo.k T.L.wo.b .nil pass0 (pa_cons (pv 1) pa_nil)) (pg_tup rfl (pgs_cons (pg_name (i := 2) scLI.nd rfl (.inl rfl)) (pgs_cons (pg_name (i := 3) scLI.nd rfl (.inl rfl)) pgs_nil))))
      (pss_cons (ps_if (PW.pt (pw_or (pt_not (pt_val (pe_call GR hr rfl T.L.ir.g T.L.ir.k T.L.ir.b .nil pass0 (pa_cons (pv 2) pa_nil)))) (pw_or1 (pt_not (pt_val (pe_call GN hr rfl T.L.ie.g T.L.ie.k T.L.ie.b .nil pass0 (pa_cons (pv 3) pa_nil)))))))
          (pss_one (ps_raise rfl (takes_of rfl rfl rfl rfl) (pmk_oex T.E.o T.E.i T.E.t GE hr2 T.E.b .nil pass0 rfl T.E.g (pa_cons (pv 1) pa_nil)))) pss_nil)
      (pss_cons (ps_fld (pv 0) (pv 1) rfl) (pss_cons (ps_fld (pv 0) (pv 2) rfl) (pss_cons (ps_fld (pv 0) (pv 3) rfl)
      (pss_cons (ps_fld (pv 0) (pe_callTy call_tuple_of (by rfl) T.L.tuple (by decide +kernel) (pa_cons (pe_lc (own := [("word", 4)]) (g := gName 4) (tt := tYes) (te := tCall spOO [] E0 (tCons (tVar 4) tNil)) rfl scLI.nd (pi_tup (pv 2)) (blkOk_by (own := [("word", 4)]) (N := ["self", "text", "first_words", "last_words", "word"]) (sc := defScope sLI) (by decide +kernel))
          (fun _ _ _ _ _ => pg_name (i := 4) scLI.nd rfl (Or.inl rfl)) (fun _ _ _ _ _ => pts_nil) (fun _ _ _ _ _ => by exact pe_call GO hr1 rfl T.L.oo.g T.L.oo.k T.L.oo.b .nil pass0 (pa_cons (pv 4) pa_nil))) pa_nil)) rfl)
      (pss_one (ps_fld (pv 0) (pe_callTy call_tuple_of (by rfl) T.L.tuple (by decide +kernel) (pa_cons (pe_lc (own := [("word", 4)]) (g := gName 4) (tt := tYes) (te := tCall spOO [] E0 (tCons (tVar 4) tNil)) rfl scLI.nd (pi_tup (pv 3)) (blkOk_by (own := [("word", 4)]) (N := ["self", "text", "first_words", "last_words", "word"]) (sc := defScope sLI) (by decide +kernel))
          (fun _ _ _ _ _ => pg_name (i := 4) scLI.nd rfl (Or.inl rfl)) (fun _ _ _ _ _ => pts_nil) (fun _ _ _ _ _ => by exact pe_call GO hr1 rfl T.L.oo.g T.L.oo.k T.L.oo.b .nil pass0 (pa_cons (pv 4) pa_nil))) pa_nil)) rfl)))))))), ?_⟩
    refine ⟨_, rfl, _, _, _, _, isS v, rfl, .ty "str", ty, kt, _, rfl, ?_⟩
    cases hs : isS v with
    | false =>
      refine iteT ?_
      have gv : good v = false := by
        cases v <;> first | rfl | cases hs
      exact mk_err (x := v) ⟨v, rfl, rfl, rfl⟩ (fun {R R'} ⟨v, e1, q⟩ f => ⟨v, e1, f _ _ q⟩) (kb gv H · (Same.refl _))
    | true =>
      obtain ⟨t, rfl⟩ : ∃ t, v = .str t := by
        cases v <;> first | exact ⟨_, rfl⟩ | cases hs
      have bd : Bd t := bd
      have kg := kg t rfl
      refine iteF ?_
      refine ⟨_, rfl, t, rfl, bd, fun H1 p a b s1 hp ha hb => ?_⟩
      refine ⟨p, _, rfl, SqT.of hp, rfl, _, _, rfl, _, _, rfl, rfl, ?_⟩
      have bR : BdW (wordsR t) := ⟨fun z hz => Nat.le_trans (wordsR_word hz) bd, Nat.le_trans (wordsR_len t) (by unfold Bd at bd; omega)⟩
      have bE : BdW (wordsE t) := ⟨fun z hz => Nat.le_trans (wordsE_word hz) bd, Nat.le_trans (wordsE_len t) (by unfold Bd at bd; omega)⟩
      refine ⟨_, rfl, a, wordsR t, rfl, wordsR_ne t, bR, SqT.of ha, fun H2 s2 => ?_⟩
      have gt : goodText t = (isRound (wordsR t) && isEnding (wordsE t)) := rfl
      have gv : good (.str t) = goodText t := rfl
      rw [gv] at kb
      refine ⟨_, rfl, ?_⟩
      cases h1 : isRound (wordsR t) with
      | false =>
        rw [gt, h1] at kb
        refine iteT (iteT ?_)
        exact mk_err (x := .str t) ⟨.str t, rfl, rfl, rfl⟩ (fun {R R'} ⟨v, e1, q⟩ f => ⟨v, e1, f _ _ q⟩) (kb rfl H2 · (Same.trans s1 s2))
      | true =>
        refine iteF ?_
        refine ⟨_, rfl, b, wordsE t, rfl, bE, SqT.of (s2 _ _ hb), fun H3 s3 => ?_⟩
        refine ⟨_, rfl, ?_⟩
        have s13 := Same.trans s1 (Same.trans s2 s3)
        cases h2 : isEnding (wordsE t) with
        | false =>
          rw [gt, h1, h2] at kb
          refine iteT ?_
          exact mk_err (x := .str t) ⟨.str t, rfl, rfl, rfl⟩ (fun {R R'} ⟨v, e1, q⟩ f => ⟨v, e1, f _ _ q⟩) (kb rfl H3 · s13)
        | true =>
          have kg := kg (by rw [gt, h1, h2]; rfl)
          refine iteF ?_
          have hx3 := s13 _ _ hx
          have ha3 := s3 _ _ (s2 _ _ ha)
          have hb3 := s3 _ _ (s2 _ _ hb)
          have o3 : Off x H H3 := Same.off s13
          clear s1 s2 s3 hp ha hb hx kb s13
          -- text
          refine ⟨_, rfl, _, rfl, x, T.C, dx, _, rfl, hx3, T.cl, T.nT, (by show 0 < 1000; decide), ?_⟩
          have st := tup_stays (o' := .ins T.C dx (putF "text" (.str t) [])) hx3 (by intro xs z; cases z)
          have hx4 : (upd H3 x (.ins T.C dx (putF "text" (.str t) []))) x = some (.ins T.C dx (putF "text" (.str t) [])) := upd_same
          have ha4 := st _ _ ha3
          have hb4 := st _ _ hb3
          have o4 : Off x H (upd H3 x (.ins T.C dx (putF "text" (.str t) []))) := o3.put
          generalize upd H3 x (.ins T.C dx (putF "text" (.str t) [])) = H4 at hx4 ha4 hb4 o4 ⊢
          clear st ha3 hb3 o3 hx3
          -- round
          refine ⟨_, rfl, _, rfl, x, T.C, dx, _, rfl, hx4, T.cl, T.nR, (by show 1 < 1000; decide), ?_⟩
          have st := tup_stays (o' := .ins T.C dx (putF "round" (.ref a) (putF "text" (.str t) []))) hx4 (by intro xs z; cases z)
          have hx5 : (upd H4 x (.ins T.C dx (putF "round" (.ref a) (putF "text" (.str t) [])))) x = some (.ins T.C dx (putF "round" (.ref a) (putF "text" (.str t) []))) := upd_same
          have ha5 := st _ _ ha4
          have hb5 := st _ _ hb4
          have o5 : Off x H (upd H4 x (.ins T.C dx (putF "round" (.ref a) (putF "text" (.str t) [])))) := o4.put
          generalize upd H4 x (.ins T.C dx (putF "round" (.ref a) (putF "text" (.str t) []))) = H5 at hx5 ha5 hb5 o5 ⊢
          clear st ha4 hb4 o4 hx4
          -- ending
          refine ⟨_, rfl, _, rfl, x, T.C, dx, _, rfl, hx5, T.cl, T.nE, Nat.lt_of_le_of_lt (putF_len _ _ _) (Nat.lt_of_le_of_lt (Nat.add_le_add_right (putF_len _ _ _) 1) (by decide)), ?_⟩
          have st := tup_stays (o' := .ins T.C dx (putF "ending" (.ref b) (putF "round" (.ref a) (putF "text" (.str t) [])))) hx5 (by intro xs z; cases z)
          have hx6 : (upd H5 x (.ins T.C dx (putF "ending" (.ref b) (putF "round" (.ref a) (putF "text" (.str t) []))))) x = some (.ins T.C dx (putF "ending" (.ref b) (putF "round" (.ref a) (putF "text" (.str t) [])))) := upd_same
          have ha6 := st _ _ ha5
          have hb6 := st _ _ hb5
          have o6 : Off x H (upd H5 x (.ins T.C dx (putF "ending" (.ref b) (putF "round" (.ref a) (putF "text" (.str t) []))))) := o5.put
          generalize upd H5 x (.ins T.C dx (putF "ending" (.ref b) (putF "round" (.ref a) (putF "text" (.str t) [])))) = H6 at hx6 ha6 hb6 o6 ⊢
          clear st ha5 hb5 o5 hx5
          -- round_orders
          refine ⟨_, rfl, a, rfl, ⟨_, SqT.of ha6⟩, fun D nD => ords_lc (K := K) (a := a) (ws := wordsR t) (fun v => ⟨rfl, rfl⟩) ha6 bR nD fun H7 os s7 hD hP => ?_⟩
          refine ⟨D, os, rfl, .inl ⟨SqL.of hD, fun po npo => ?_⟩⟩
          have s8 : Same H6 (upd H7 po (.tup os)) := Same.trans s7 (same_new npo)
          have hpo : (upd H7 po (.tup os)) po = some (.tup os) := upd_same
          have hP8 := hP.same (same_new (o := .tup os) npo)
          refine ⟨_, rfl, x, T.C, dx, _, rfl, s8 _ _ hx6, T.cl, T.nO, Nat.lt_of_le_of_lt (putF_len _ _ _) (Nat.lt_of_le_of_lt (Nat.add_le_add_right (putF_len _ _ _) 1) (Nat.lt_of_le_of_lt (Nat.add_le_add_right (Nat.add_le_add_right (putF_len _ _ _) 1) 1) (by decide))), ?_⟩
          generalize upd H7 po (.tup os) = H8 at s8 hpo hP8 ⊢
          have hx8 := s8 _ _ hx6
          have o8 : Off x H H8 := o6.trans (Same.off s8)
          have ha8 := s8 _ _ ha6
          have hb8 := s8 _ _ hb6
          clear ha6 hb6 o6 hx6 s8 hD hP npo s7 nD
          have st := tup_stays (o' := .ins T.C dx (putF "round_orders" (.ref po) (putF "ending" (.ref b) (putF "round" (.ref a) (putF "text" (.str t) []))))) hx8 (by intro xs z; cases z)
          have hx9 : (upd H8 x (.ins T.C dx (putF "round_orders" (.ref po) (putF "ending" (.ref b) (putF "round" (.ref a) (putF "text" (.str t) [])))))) x = some (.ins T.C dx (putF "round_orders" (.ref po) (putF "ending" (.ref b) (putF "round" (.ref a) (putF "text" (.str t) []))))) := upd_same
          have ha9 := st _ _ ha8
          have hb9 := st _ _ hb8
          have hpo9 : Ords _ po (wordsR t) := ⟨os, st _ _ hpo, hP8.mono st⟩
          have o9 : Off x H (upd H8 x (.ins T.C dx (putF "round_orders" (.ref po) (putF "ending" (.ref b) (putF "round" (.ref a) (putF "text" (.str t) [])))))) := o8.put
          generalize upd H8 x (.ins T.C dx (putF "round_orders" (.ref po) (putF "ending" (.ref b) (putF "round" (.ref a) (putF "text" (.str t) []))))) = H9 at hx9 ha9 hb9 o9 hpo9 ⊢
          clear st ha8 hb8 o8 hx8 hpo hP8
          -- ending_orders
          refine ⟨_, rfl, b, rfl, ⟨_, SqT.of hb9⟩, fun D nD => ords_lc (K := K) (a := b) (ws := wordsE t) (fun v => ⟨rfl, rfl⟩) hb9 bE nD fun H10 os2 s10 hD hP => ?_⟩
          refine ⟨D, os2, rfl, .inl ⟨SqL.of hD, fun pq npq => ?_⟩⟩
          have s11 : Same H9 (upd H10 pq (.tup os2)) := Same.trans s10 (same_new npq)
          have hpq : (upd H10 pq (.tup os2)) pq = some (.tup os2) := upd_same
          have hP11 := hP.same (same_new (o := .tup os2) npq)
          refine ⟨_, rfl, x, T.C, dx, _, rfl, s11 _ _ hx9, T.cl, T.nQ, Nat.lt_of_le_of_lt (putF_len _ _ _) (Nat.lt_of_le_of_lt (Nat.add_le_add_right (putF_len _ _ _) 1) (Nat.lt_of_le_of_lt (Nat.add_le_add_right (Nat.add_le_add_right (putF_len _ _ _) 1) 1) (Nat.lt_of_le_of_lt (Nat.add_le_add_right (Nat.add_le_add_right (Nat.add_le_add_right (putF_len _ _ _) 1) 1) 1) (by decide)))), ?_⟩
          generalize upd H10 pq (.tup os2) = H11 at s11 hpq hP11 ⊢
          have hx11 := s11 _ _ hx9
          have st := tup_stays (o' := .ins T.C dx (lf t a b po pq)) hx11 (by intro xs z; cases z)
          refine kg _ (Off.put (o9.trans (Same.off s11))) ⟨dx, a, b, po, pq, upd_same, st _ _ (s11 _ _ ha9), st _ _ (s11 _ _ hb9), (hpo9.mono fun _ _ z => s11 _ _ z).mono st, os2, st _ _ hpq, hP11.mono st⟩
end
end My

/-! repr of loops -/
namespace My
open PySem L2 Cm LM
abbrev sLR : Stmt := inClass (top 44) 4
structure TxLr (K : PySem.W.Frag) (mg : Str → Option Value) where
  T : TxC K mg
  lr : Sm K T.C "__repr__" "Loop.__repr__" sLR ["self"]
section
variable {P : Program} {w : World} {K : PySem.W.Frag} {mg : Str → Option Value} {base : Heap}
def spLR (C : Addr) : Sp := fun vs H Q _ => ∃ (o : Addr) (t : Str), vs = [.ref o] ∧ LoopAt C H o t ∧ Bd t ∧ Q (.str (("Loop(" : Str) ++ t ++ ")")) H
theorem scLR : FnScope ["self"] ["self"] (defScope sLR) := ⟨rfl, rfl, rfl, by decide +kernel, rfl, by decide +kernel, by decide +kernel⟩
theorem empty_app (x : Str) : Str.empty ++ x = x := TL.ext_tl (by rw [TL.tl_append]; rfl)
theorem ok_lr (M : TxLr K mg) : FnOk P w K mg base CX0 1 M.lr.f M.lr.fd ["self"] (spLR M.T.C) := by
  refine M.lr.F.ok scLR (fun vs H Q E h => ?_) (fun cdv A outer s H vs Q E hr h => ?_)
  · obtain ⟨o, t, rfl, _⟩ := h
    rfl
  · obtain ⟨o, t, rfl, ⟨dx, pr, pe, po, pq, e, _⟩, bd, k⟩ := h
    refine ⟨_, pss_one (ps_ret (pe_joined (.cons pe_str (.cons (pe_fmt (pe_fld (pv 0) rfl)) (.cons pe_str .nil))))), ?_⟩
    have l0 : (Str.empty).length = 0 := rfl
    have l2 : ("Loop(" : Str).length = 5 := by decide +kernel
    have l3 : (")" : Str).length = 1 := by decide +kernel
    unfold Bd at bd
    refine ⟨_, rfl, szl (by rw [strLen_append]; omega), ?_⟩
    refine ⟨_, rfl, o, M.T.C, dx, _, _, rfl, e, M.T.cl, M.T.nT, lf_text .., .inl ⟨t, rfl, Nat.le_of_lt (szM (by omega)), t, rfl, Nat.le_of_lt (szM (by rw [strLen_append, strLen_append]; omega)), ?_⟩⟩
    refine ⟨_, rfl, Nat.le_of_lt (szM (by rw [strLen_append, strLen_append, strLen_append]; omega)), ?_⟩
    rw [empty_app]
    exact k
end
end My

/-! an own __repr__ that is asked within an except suite: it raises nothing, so it does not matter what the handled error bears -/
namespace RpH
open PySem PySem.Spec PyProof.Rows L2
abbrev noE : XK := fun _ _ _ => False
/-- what such a def promises -/
def FnQ (P : Program) (w : World) (K : PySem.W.Frag) (mg : Str → Option Value) (base : Heap) (k : Nat) (g : Addr) (sp : Sp) : Prop :=
  ∀ (A : Around) (outer : List Env) (s : Shared) (H : Hp) (us : List Value) (vs : List V) (Q : VK) (p : Addr × Obj), L2H.RoomH k A → L2H.PinOk outer H s p → Env0 P w K mg base A outer s H → Vals vs us → sp vs H Q noE →
    codeAny (model P w) A (.call (.ref g) ⟨us, []⟩) (CR CX0 outer P w H s Q noE) s
section
variable {P : Program} {w : World} {K : PySem.W.Frag} {mg : Str → Option Value} {base : Heap}
theorem okQ {x qual : Str} {st : Stmt} {f : Addr} {fd : FuncData} {N ps : List Str} {k : Nat} {sp : Sp} (F : Fun K x qual st f fd) (bi : L2.Binds K fd ps []) (S : FnScope N ps (defScope st)) (len : ∀ vs H Q E, sp vs H Q E → vs.length = ps.length)
    (hbody : ∀ (cdv : Value) (A : Around) (outer : List Env) (s : Shared) (H : Hp) (vs : List V) (Q : VK) (p : Addr × Obj), L2H.RoomH k (A.deeper (envOfC qual (defScope st) s.heap.objs.size f cdv)) → sp vs H Q noE →
      ∃ t, PSs (L2H.cxH CX0 P w K mg base N qual (defScope st) f cdv A outer s H noE p) (defBody st) t ∧ t { nx := fun _ H' => Q .non H', rt := Q } (L2.start N vs) H) : FnQ P w K mg base (k + 1) f sp := by
  obtain ⟨oc, od, kV, doc, pm, an, cdv, ct, osl, rfl, lk, hcd⟩ := F.ex
  intro A outer s H us vs Q p hr pin e0 r h
  have ll := len _ _ _ _ h
  have inK : K.In s.heap := e0.mod.kin.keeps fun b o q => (e0.bs b o q).1
  have no : s.heap.NoLimit := e0.mod.nolimit.keeps fun b o q => (e0.bs b o q).1
  have bd := bi s us inK (by rw [List.append_nil, ← r.length]; exact ll)
  rw [List.append_nil] at bd
  have kinds : ∀ y ∈ ps.zip us, (defScope st).names.lookup y.1 = some .local ∨ ((defScope st).names.lookup y.1 = some .cell ∧ ((cellsFrom (s.heap.objs.size + 1) (defScope st).names []).lookup y.1).isSome = true) := by
    rintro ⟨n, v⟩ hy
    rcases S.par n (List.of_mem_zip hy).1 with z | z
    · exact Or.inl z
    · exact Or.inr ⟨z, PySem.W.cellsFrom_some _ _ _ (Or.inl z)⟩
  refine codeAny_call_function hr.depth (inK _ _ lk) rfl S.co S.gen rfl (PySem.W.codeRec_of inK hcd) (bd _ _ _ _ ?_)
  refine wpAny_newFunctionEnv_cells S.kind kinds fun env he s1 y => ?_
  subst he
  refine ⟨no.keeps y.toInCall.keep, codeAny_func ?_⟩
  obtain ⟨t, ht, hq⟩ := hbody cdv A outer s H vs Q p (hr.deeper _) h
  have I := L2H.inv_startH (CX := CX0) (E := noE) (mg := mg) (P := P) (w := w) (K := K) (base := base) S pin e0 ll r y
  refine wpAny_mono (ht.run [] s1 (L2.start N vs) H _ I hq) (fun fl s2 z => ?_) fun _ _ z => z
  have back : ∀ {σ' : L2.St} {H' : Hp} {v : V} {u : Value}, Inv (L2H.cxH CX0 P w K mg base N qual (defScope st) f cdv A outer s H noE p) [] σ' H' s2 → RelV v u → Q v H' → CE outer P w H s Q u s2 :=
    fun {_ H' v _} J rv q => ⟨v, H', J.os, J.bare, J.base, J.hok, rv, q⟩
  match fl, z with
  | .ret _, ⟨_, _, _, J, rv, q⟩ => exact back J rv q
  | .next, ⟨_, _, J, q⟩ => exact back (v := V.non) (u := Value.none) J rfl q
  | .brk, ⟨_, _, _, q⟩ => exact q.elim
  | .cont, ⟨_, _, _, q⟩ => exact q.elim
end
section
variable {X : Cx} {C g : Addr} {n : Nat} {sp : Sp}
theorem room_in1 {k : Nat} {A : Around} (r : L2H.RoomH (k + 1) A) : L2H.RoomH k A.in1 := ⟨by have := r.dp; show A.depth + 3 * k + 5 < _; omega, by have := r.un; show A.units + 1 + 16 * k + 200 < _; omega⟩
/-- repr(x) in a suite -/
theorem call_reprQ (hs : PySem.W.findIn X.K (.ref C) "__repr__" = some (some (.ref g))) (hf : PySem.W.isFn X.K (.ref g) = true) (F : FnQ X.prog X.w X.K X.mg X.base n g sp) (hr : L2H.RoomH (n + 1) X.A) (hp : ∃ p : Addr × Obj, p ∈ X.pn) : CallR X (.builtin "repr") (Own.rTxtO C sp) := by
  intro pins s σ H xs us Q I r h
  obtain ⟨a, dx, fs, rfl, ha, q⟩ := h
  obtain ⟨u, rfl, ru⟩ := vals1 r
  cases (show u = Value.ref a from ru)
  obtain ⟨ox, od, J⟩ := Own.inst_of I ha
  obtain ⟨m, fr⟩ := I.fr
  obtain ⟨p, pm⟩ := hp
  have P1 := I.pin p (List.mem_append_left _ pm)
  have pin : L2H.PinOk X.stack H s p := ⟨P1.1, P1.2.1, fun hm => (List.mem_cons.mp (I.stkSub p.1 hm)).elim P1.2.2.1 P1.2.2.2.1, P1.2.2.2.2⟩
  refine PySem.W.repr_K (by have := hr.un; show X.A.units + 1 < cLine; omega) fr I.ok.mod.kin J hs hf ?_
  have go : codeAny (model X.prog X.w) X.A.in1 (.call (.ref g) ⟨[.ref a], []⟩) (fun rr s' => match rr with | .ok (.ret v) => EP X pins σ (fun v H2 => ∃ z, v = .str z ∧ Q (.str z) H2) v s' | .ok _ => False | .error e => X.xe e s') s := by
    refine codeAny_mono (F X.A.in1 X.stack s H [.ref a] [.ref a] _ p (room_in1 hr) pin I.env0.in1 (.cons rfl .nil) q) fun rr s2 hq => ?_
    match rr, hq with
    | .error er, hq => exact pass0 pins σ H s er s2 I hq
    | .ok (.ret u), hq => exact I.after hq
  refine wpAny_mono (wpAny_call go) (fun z s2 hz => ?_) fun _ _ e => e
  obtain ⟨z2, H2, I2, rz, t, rfl, qz⟩ := hz
  obtain ⟨tk, rfl⟩ := (show ∃ tk, z = Value.str t tk from rz)
  exact ⟨.str t, H2, I2, ⟨_, rfl⟩, qz⟩
end
end RpH

/-! defs that are called where no repr is running, and repr of plain data there -/
namespace Gd
open PySem PySem.Spec PyProof.Rows L2
/-- a def's promise, for callers around whom no guard stands -/
structure FnG (P : Program) (w : World) (K : PySem.W.Frag) (mg : Str → Option Value) (base : Heap) (CX : CXT) (k : Nat) (f : Addr) (fd : FuncData) (ps : List Str) (sp : Sp) : Prop where
  len : ∀ vs H Q E, sp vs H Q E → vs.length = ps.length
  run : ∀ (A : Around) (outer : List Env) (s : Shared) (H : Hp) (args : Args) (us : List Value) (vs : List V) (Q : VK) (E : XK), A.guards = some [] → Room k A → Env0 P w K mg base A outer s H → BindsTo s fd args (ps.zip us) → Vals vs us → sp vs H Q E →
    codeAny (model P w) A (.call (.ref f) args) (CR CX outer P w H s Q E) s
section
variable {P : Program} {w : World} {K : PySem.W.Frag} {mg : Str → Option Value} {base : Heap}
/-- the rule of a def, its guards told -/
theorem okG {x qual : Str} {st : Stmt} {f : Addr} {fd : FuncData} {N ps : List Str} {k : Nat} {sp : Sp} (F : Fun K x qual st f fd) (S : FnScope N ps (defScope st)) (len : ∀ vs H Q E, sp vs H Q E → vs.length = ps.length)
    (hbody : ∀ (cdv : Value) (A : Around) (outer : List Env) (s : Shared) (H : Hp) (vs : List V) (Q : VK) (E : XK), K.lookup f ≠ none → PySem.W.codeIn K cdv qual = true → fd.code = cdv → A.guards = some [] → Room k (A.deeper (envOfC qual (defScope st) s.heap.objs.size f cdv)) → sp vs H Q E →
      ∃ t, PSs (cxOf CX0 P w K mg base N qual (defScope st) f cdv A outer s H E).nox (defBody st) t ∧ t { nx := fun _ H' => Q .non H', rt := Q } (L2.start N vs) H) : FnG P w K mg base CX0 (k + 1) f fd ps sp := by
  obtain ⟨oc, od, kV, doc, pm, an, cdv, ct, osl, rfl, lk, hcd⟩ := F.ex
  refine ⟨len, fun A outer s H args us vs Q E hg hr e0 hb r h => ?_⟩
  refine LamX.run_ofS lk hcd S hr e0 hb r (len _ _ _ _ h) fun hr2 => ?_
  obtain ⟨t, h1, q⟩ := hbody cdv A outer s H vs Q E (by rw [lk]; simp) hcd rfl hg hr2 h
  exact ⟨t, h1.nox, q⟩
end
section
variable {X : Cx} {CX : CXT} {k : Nat} {f : Addr} {fd : FuncData} {ps : List Str} {sp : Sp} {E : XK} {x : Str} {p pos : Pos} {e : Expr} {es : List Expr} {t : TA} {ds : List Value} {dvs : List V}
/-- f(e, ..) -/
theorem pe_callG (F : FnG X.prog X.w X.K X.mg X.base CX k f fd ps sp) (hgd : X.A.guards = some []) (hr : Room k X.A) (hg : Gl X x) (hm : X.mg x = some (.ref f)) (hk : PySem.W.keepIn X.K (.ref f) = true) (hb : L2.Binds X.K fd ps ds) (hd : Vals dvs ds) (hx : Passes CX X E) (ha : PA X (e :: es) t)
    (hdb : (x == ("__debug__" : Str)) = false := by decide) (he : starEach (e :: es) X.env = (false, eval e X.env) :: starEach es X.env := by rfl) (hpl : (backTo pos (starEach es X.env)).any (·.1) = false := by rfl) :
    PE X (.Call (.Name x p) (e :: es) [] pos) (tCall sp dvs E t) := by
  refine ⟨fun pins s σ H Q I h => ?_⟩
  refine wpAny_Call_Name_kw (ld_glob I hg hm ?_ hdb)
  refine PySem.W.callWith_K (h₀ := X.base) I.ok.mod.kin hk (thn (ha.run pos pins s σ H _ I h) fun us s1 ⟨vs, H1, I1, r, q⟩ => ⟨I1.kIn, ?_⟩) he hpl
  have r2 : Vals (vs ++ dvs) (us ++ ds) := r.append hd
  have hl : (us ++ ds).length = ps.length := by
    rw [← r2.length]
    exact F.len _ _ _ _ q
  refine wpAny_call (codeAny_mono (F.run X.A X.stack s1 H1 ⟨us, []⟩ (us ++ ds) (vs ++ dvs) Q E hgd hr I1.env0 (hb s1 us I1.kIn hl) r2 q) fun rr s2 hq => ?_)
  match rr, hq with
  | .error er, hq => exact hx pins σ H1 s1 er s2 I1 hq
  | .ok (.ret u), hq => exact I1.after hq
end
/-! ### plain data, all of it tracked -/
mutual
inductive Dq (H : Hp) : V → PyData → Prop
  | non : Dq H .non .none
  | bl (b : Bool) : Dq H (.bl b) (.bool b)
  | int (i : Int) : Dq H (.int i) (.int i)
  | str (x : Str) : Dq H (.str x) (.str x)
  | lst {a : Addr} {xs : List V} {ds : List PyData} : H a = some (.lst xs) → DqA H xs ds → Dq H (.ref a) (.list ds)
  | tup {a : Addr} {xs : List V} {ds : List PyData} : H a = some (.tup xs) → DqA H xs ds → Dq H (.ref a) (.tuple ds)
  | dct {a : Addr} : H a = some (.dK []) → Dq H (.ref a) (.dict [])
inductive DqA (H : Hp) : List V → List PyData → Prop
  | nil : DqA H [] []
  | cons {v : V} {vs : List V} {d : PyData} {ds : List PyData} : Dq H v d → DqA H vs ds → DqA H (v :: vs) (d :: ds)
end
section
variable {X : Cx} {pins : List (Addr × Obj)} {σ : L2.St} {H : Hp} {s : Shared}
mutual
theorem Dq.reads (I : Inv X pins σ H s) : ∀ {v : V} {d : PyData} {u : Value}, Dq H v d → RelV v u → ∃ as, Reads s.heap u d as ∧ ∀ b ∈ as, H b ≠ none
  | _, _, _, .non, r => by
    cases r
    exact ⟨_, .none, fun b h => nomatch h⟩
  | _, _, _, .bl b, r => by
    cases r
    exact ⟨_, .bool b, fun b h => nomatch h⟩
  | _, _, _, .int i, r => by
    obtain ⟨t, rfl⟩ := r
    exact ⟨_, .int i t, fun b h => nomatch h⟩
  | _, _, _, .str x, r => by
    obtain ⟨t, rfl⟩ := r
    exact ⟨_, .str x t, fun b h => nomatch h⟩
  | _, _, _, .lst (a := a) (xs := xs) ha hd, r => by
    cases r
    obtain ⟨_, its, n, rv, e⟩ := (show ObjOk X.prog X.w H s.heap a (.lst xs) from I.hok a _ ha)
    obtain ⟨as, h1, h2⟩ := DqA.reads I hd rv
    refine ⟨_, .list e rfl rfl (by simpa using h1), fun b hb => ?_⟩
    rcases List.mem_cons.mp hb with rfl | hb
    · rw [ha]; simp
    · exact h2 b hb
  | _, _, _, .tup (a := a) (xs := xs) ha hd, r => by
    cases r
    obtain ⟨_, its, rv, o, e, c, n, hn⟩ := (show ObjOk X.prog X.w H s.heap a (.tup xs) from I.hok a _ ha)
    obtain ⟨as, h1, h2⟩ := DqA.reads I hd rv
    exact ⟨_, .tuple e c hn (by simpa using h1), h2⟩
  | _, _, _, .dct (a := a) ha, r => by
    cases r
    obtain ⟨_, _, vs, kv, o, es, ep, e, hx, hdt, _, hes, _⟩ := (show ObjOk X.prog X.w H s.heap a (.dK []) from I.hok a _ ha)
    cases kv
    have e0 : es.toList = [] := by
      generalize es.toList = zs at hes
      cases hes
      rfl
    refine ⟨_, .dict (kvs := []) e hx.1 hdt (by rw [e0]; exact .nil) (by rw [e0]; exact .nil), fun b hb => ?_⟩
    have : b = a := by simpa using hb
    rw [this, ha]; simp
theorem DqA.reads (I : Inv X pins σ H s) : ∀ {vs : List V} {ds : List PyData} {us : List Value}, DqA H vs ds → Vals vs us → ∃ as, ReadsAll s.heap us ds as ∧ ∀ b ∈ as, H b ≠ none
  | _, _, _, .nil, r => by
    cases r
    exact ⟨_, .nil, fun b h => nomatch h⟩
  | _, _, _, .cons hd ht, .cons r rt => by
    obtain ⟨as, h1, h2⟩ := Dq.reads I hd r
    obtain ⟨bs, h3, h4⟩ := DqA.reads I ht rt
    exact ⟨_, .cons h1 h3, fun b hb => (List.mem_append.mp hb).elim (h2 b) (h4 b)⟩
end
end
mutual
theorem Dq.same {H H' : Hp} (s : Same H H') : ∀ {v : V} {d : PyData}, Dq H v d → Dq H' v d
  | _, _, .non => .non
  | _, _, .bl b => .bl b
  | _, _, .int i => .int i
  | _, _, .str x => .str x
  | _, _, .lst ha hd => .lst (s _ _ ha) (DqA.same s hd)
  | _, _, .tup ha hd => .tup (s _ _ ha) (DqA.same s hd)
  | _, _, .dct ha => .dct (s _ _ ha)
theorem DqA.same {H H' : Hp} (s : Same H H') : ∀ {vs : List V} {ds : List PyData}, DqA H vs ds → DqA H' vs ds
  | _, _, .nil => .nil
  | _, _, .cons a b => .cons (Dq.same s a) (DqA.same s b)
end
/-- repr of a list, a tuple or an empty dict of such data -/
def rReprD : List V → Hp → VK → Prop := fun xs H Q => ∃ (a : Addr) (d : PyData), xs = [.ref a] ∧ Dq H (.ref a) d ∧ d.showable = true ∧ d.depth ≤ 64 ∧ d.shown.length ≤ sizeLine ∧ Q (.str d.shown) H
theorem call_reprD {X : Cx} {k : Nat} {ob : Obj} (hg : X.A.guards = some []) (hr : Room k X.A) (sm : X.base.get? sysModules = some ob) : CallR X (.builtin "repr") rReprD := by
  intro pins s σ H xs us Q I r h
  obtain ⟨a, d, rfl, hd, hs, hdep, hz, q⟩ := h
  obtain ⟨u, rfl, ru⟩ := vals1 r
  cases (show u = Value.ref a from ru)
  obtain ⟨as, h1, h2⟩ := hd.reads I (u := .ref a) rfl
  have no : sysModules ∉ as := fun hm => h2 _ hm (I.env0.bs _ _ sm).2
  have hu := hr.un
  refine repr_of_reads' h1 hs (fun _ => no) hg (by omega) (fun _ _ e => e) (fun h' u tk hk => ?_) hz
  exact ⟨.str d.shown, H, I.kept (t' := tk) hk, ⟨_, rfl⟩, q⟩
/-! ### the end of a law, from such a promise -/
/-- at the law's call: the tables, and the script unless the module itself holds it -/
def H0 (K : PySem.W.Frag) (tabs : List Addr) (a : Addr) (u : HO) : Hp := fun b => if b ∈ tabs then some (.tbl #[]) else if b = a ∧ K.lookup a = none then some u else none
theorem H0_tab {K : PySem.W.Frag} {tabs : List Addr} {a b : Addr} {u : HO} (h : b ∈ tabs) : H0 K tabs a u b = some (.tbl #[]) := if_pos h
theorem H0_cases {K : PySem.W.Frag} {tabs : List Addr} {a b : Addr} {u o : HO} (h : H0 K tabs a u b = some o) : (b ∈ tabs ∧ o = .tbl #[]) ∨ (b ∉ tabs ∧ b = a ∧ K.lookup a = none ∧ o = u) := by
  unfold H0 at h
  split at h
  next hb => exact .inl ⟨hb, (Option.some.inj h).symm⟩
  next hb =>
    split at h
    next hc => exact .inr ⟨hb, hc.1, hc.2, (Option.some.inj h).symm⟩
    next => cases h
theorem law_callG {P : Program} {w : World} {K : PySem.W.Frag} {mg mb : Str → Option Value} {k : Nat} {fa a : Addr} {cs : List (Addr × Addr)} {fd : FuncData} {x : Str} {sp : Sp} {st : Shared} {vs : List Value} {ns : List Int}
    (KX : K.In st.heap) (gNs : st.heap.Ns mainGlobals mg) (bNs : st.heap.Ns builtinsNs mb) (bEq : ∀ x : Str, x ≠ "__name__" → mb x = bootBuiltins x) (lim : st.heap.NoLimit) (noG : st.gens = #[])
    (isT : ∀ p ∈ cs, st.heap.get? p.2 = some { cls := .none, data := .fields #[] }) (nK : ∀ p ∈ cs, K.lookup p.2 = none) (isC : ∀ p ∈ cs, PySem.W.CodeHd st.heap p.1 p.2)
    (bMain : ∃ (bm : Addr) (ob : Obj), mg "__builtins__" = some (.ref bm) ∧ bm ≠ builtinsNs ∧ st.heap.get? bm = some ob ∧ ob.cls = .type "module" ∧ ob.dict = some builtinsNs ∧ ob.data = .plain)
    (scr : st.heap.get? a = some { cls := .type "list", data := .seq vs.toArray }) (intsA : IntsAre vs ns) (few : ns.length ≤ sizeLine) (room : Room k callerA)
    (mods : ∃ mm, st.heap.Ns sysModules mm)
    (F : ∀ base : Heap, K.In base → base.Ns mainGlobals mg → (∃ ob, base.get? sysModules = some ob) → (∀ p ∈ cs, LamX.TabB base mg p.1 p.2) → FnG P w K mg base CX0 k fa fd [x] sp) (bind : ∀ (s : Shared) (u : Value), BindsTo s fd ⟨[u], []⟩ [(x, u)])
    (hsp : ∀ H : Hp, (∀ p ∈ cs, H p.2 = some (.tbl #[])) → SqL K H a (ns.map V.int) → sp [.ref a] H (fun v _ => v = .bl true) fun _ _ _ => False) :
    codeAny (model P w) callerA (.call (.ref fa) ⟨[.ref a], []⟩) (fun r s2 => r = .ok (.ret (.bool true)) ∧ OldK st.heap s2.heap ∧ s2.os = st.os ∧ AllBare s2.gens) st := by
  have vals := vals_ints intsA
  have tabAt : ∀ b ∈ cs.map (·.2), st.heap.get? b = some { cls := .none, data := .fields #[] } := fun b hb => by
    obtain ⟨p, hp, rfl⟩ := List.mem_map.mp hb
    exact isT p hp
  generalize hu : (HO.frz { cls := .type "list", data := .seq vs.toArray } (.lst (ns.map V.int))) = u
  generalize hH : H0 K (cs.map (·.2)) a u = H
  have tabH : ∀ p ∈ cs, H p.2 = some (.tbl #[]) := fun p hp => by
    rw [← hH]
    exact H0_tab (List.mem_map.mpr ⟨p, hp, rfl⟩)
  have what : ∀ b o, H b = some o → (b ∈ cs.map (·.2) ∧ o = .tbl #[]) ∨ (b ∉ cs.map (·.2) ∧ b = a ∧ K.lookup a = none ∧ o = u) := fun b o e => by
    rw [← hH] at e
    exact H0_cases e
  have held : HOk P w H st.heap := fun b o e => by
    rcases what b o e with ⟨h1, rfl⟩ | ⟨_, rfl, _, rfl⟩
    · exact tabAt b h1
    · rw [← hu]
      exact ⟨scr, by rw [List.length_map]; exact few, vs, _, vals, scr⟩
  have seen : SqL K H a (ns.map V.int) := by
    cases hk : K.lookup a with
    | some o =>
      have e := KX a o hk
      rw [scr] at e
      cases e
      exact .inr ⟨_, vs.toArray, _, hk, rfl, rfl, rfl, by rw [List.size_toArray, intsA.length]; exact few, by simpa using vals⟩
    | none =>
      refine .inl (.inr ⟨{ cls := .type "list", data := .seq vs.toArray }, ?_⟩)
      have nt : a ∉ cs.map (·.2) := fun z => by
        have q := tabAt a z
        rw [scr] at q
        cases congrArg Obj.data (Option.some.inj q)
      rw [← hH, ← hu]
      exact (if_neg nt).trans (if_pos ⟨rfl, hk⟩)
  -- what is neither a list nor an empty table is not tracked
  have untracked : ∀ {b : Addr} {o : Obj}, st.heap.get? b = some o → (∀ us m, o.data ≠ .seq us m) → o.data ≠ .fields #[] → H b = none := fun {b o} e h1 h2 => by
    cases q : H b with
    | none => rfl
    | some z =>
      rcases what b z q with ⟨hb, _⟩ | ⟨_, rfl, _⟩
      · rw [tabAt b hb] at e
        exact absurd (congrArg Obj.data (Option.some.inj e)).symm h2
      · rw [scr] at e
        exact absurd (congrArg Obj.data (Option.some.inj e)).symm (h1 _ _)
  have stays : ∀ {b : Addr} {o : Obj}, st.heap.get? b = some o → (∀ us m, o.data ≠ .seq us m) → o.data ≠ .fields #[] → (hidT st.heap H).get? b = some o := fun e h1 h2 => hidT_get e (untracked e h1 h2)
  have names : ∀ {b : Addr} {m : Str → Option Value}, st.heap.Ns b m → (hidT st.heap H).Ns b m := fun ⟨o, es, ep, e, dt, r⟩ =>
    ⟨o, es, ep, stays e (fun _ _ z => by rw [dt] at z; cases z) (fun z => by rw [dt] at z; cases z), dt, r⟩
  have inB : K.In (hidT st.heap H) := fun b o e => hidT_get (KX b o e) (by
    cases q : H b with
    | none => rfl
    | some z =>
      rcases what b z q with ⟨hb, _⟩ | ⟨_, rfl, hn, _⟩
      · obtain ⟨p, hp, rfl⟩ := List.mem_map.mp hb
        rw [nK p hp] at e
        cases e
      · rw [hn] at e
        cases e)
  obtain ⟨mc, lim1, lim2⟩ := lim
  have modu : L2.Mod K mg (hidT st.heap H) := ⟨inB, names gNs, ⟨mb, names bNs, bEq⟩, ⟨mc, names lim1, lim2⟩⟩
  have tabB : ∀ p ∈ cs, LamX.TabB (hidT st.heap H) mg p.1 p.2 := fun p hp => by
    have atP := isT p hp
    refine { code := ?_, bm := ?_, gP := fun z => ?_ }
    · obtain ⟨o, us, file, tf, flags, tg, inF, text, tt, e1, r1, r2, r3, r4⟩ := isC p hp
      exact ⟨o, us, file, tf, flags, tg, inF, text, tt, stays e1 (fun _ _ z => by rw [r2] at z; cases z) (fun z => by rw [r2] at z; cases z; simp at r3), r1, r2, r3, r4⟩
    · obtain ⟨bm, ob, b1, b2, b3, b4, b5, b6⟩ := bMain
      refine ⟨bm, ob, b1, b2, fun z => ?_, fun z => ?_, stays b3 (fun _ _ z => by rw [b6] at z; cases z) (fun z => by rw [b6] at z; cases z), b4, b5, b6⟩
      · obtain ⟨o, es, ep, e, dt, _⟩ := gNs
        rw [z, e] at b3
        cases b3
        rw [dt] at b6
        cases b6
      · rw [z, atP] at b3
        cases b3
        cases b6
    · obtain ⟨o, es, ep, e, dt, _⟩ := gNs
      rw [z, atP] at e
      cases e
      cases dt
  have env : Env0 P w K mg (hidT st.heap H) callerA [] st H := ⟨rfl, modu, fun b o e => of_hidT e, Nat.le_of_eq (hidT_size _ _), trivial, (fun b hb => absurd (show b ∈ ([] : List Addr) from hb) (by simp)), held, .of_eq noG⟩
  have hm : ∃ ob, (hidT st.heap H).get? sysModules = some ob := by
    obtain ⟨mm, hm⟩ := mods
    obtain ⟨o, es, ep, e, _⟩ := names hm
    exact ⟨o, e⟩
  refine codeAny_mono ((F _ inB (names gNs) hm tabB).run callerA [] st H ⟨[.ref a], []⟩ [.ref a] [.ref a] _ _ rfl room env (bind st (.ref a)) (.cons rfl .nil) (hsp H tabH seen)) fun r s2 h => ?_
  match r, h with
  | .error e, h => exact (show False from h).elim
  | .ok (.ret z), h =>
    obtain ⟨v, H2, os2, bare, un, held2, rz, q⟩ := h
    cases (show v = .bl true from q)
    cases (show z = Value.bool true from rz)
    have kept : ∀ b o, b ∉ cs.map (·.2) → st.heap.get? b = some o → s2.heap.get? b = some o := fun b o nb e => by
      cases q : H b with
      | none => exact un.keep b o e q (fun z => absurd (show b ∈ ([] : List Addr) from z) (by simp)) (by simp)
      | some y =>
        rcases what b y q with ⟨hb, _⟩ | ⟨_, rfl, _, rfl⟩
        · exact absurd hb nb
        · rw [← hu] at q
          have e1 := (held2 _ _ (un.frzs _ _ _ q)).1
          rw [scr] at e
          cases e
          exact e1
    have grew : ∀ p ∈ cs, ∃ more : Array Value, s2.heap.get? p.2 = some { cls := .none, data := .fields more } := fun p hp => by
      obtain ⟨more, z⟩ := un.tbls p.2 #[] (tabH p hp)
      exact ⟨_, held2 p.2 _ z⟩
    refine ⟨rfl, ⟨fun b o e => ?_, fun b o e => ?_⟩, os2, bare⟩
    · by_cases hb : b ∈ cs.map (·.2)
      · obtain ⟨p, hp, rfl⟩ := List.mem_map.mp hb
        obtain ⟨more, hm⟩ := grew p hp
        rw [isT p hp] at e
        cases e
        exact .inr (.inl ⟨((isC p hp).tab (isT p hp)).isCodeTable, rfl, #[], more, rfl, by rw [Array.empty_append]; exact hm⟩)
      · exact .inl (kept b o hb e)
    · by_cases hb : b ∈ cs.map (·.2)
      · obtain ⟨p, hp, rfl⟩ := List.mem_map.mp hb
        obtain ⟨more, hm⟩ := grew p hp
        exact ⟨_, hm⟩
      · exact ⟨o, kept b o hb e⟩
/-- what the law's def promises where the head has ended -/
def LawG (l : PySem.W.OpenLaw) (w : World) (K : PySem.W.Frag) (k n : Nat) (x : Str) (mg : Str → Option Value) (fa : Addr) (h : Heap) : Prop :=
  ∃ (fd : FuncData) (cs : List (Addr × Addr)) (sp : Sp), (∀ p ∈ cs, h.get? p.2 = some { cls := .none, data := .fields #[] }) ∧ (∀ p ∈ cs, K.lookup p.2 = none) ∧ (∀ p ∈ cs, PySem.W.CodeHd h p.1 p.2) ∧ (∀ (s : Shared) (u : Value), BindsTo s fd ⟨[u], []⟩ [(x, u)]) ∧
    (∀ (H : Hp) (a : Addr) (ns : List Int), ns.length ≤ n → (∀ p ∈ cs, H p.2 = some (.tbl #[])) → SqL K H a (ns.map V.int) → sp [.ref a] H (fun v _ => v = .bl true) fun _ _ _ => False) ∧
    ∀ base : Heap, K.In base → base.Ns mainGlobals mg → (∃ ob, base.get? sysModules = some ob) → (∀ p ∈ cs, LamX.TabB base mg p.1 p.2) → FnG l.prog w K mg base CX0 k fa fd [x] sp
theorem walk_ofG {l : PySem.W.OpenLaw} {n k : Nat} {q : Program} {loose : List Str} {XP : (Str → Option Value) → Heap → Prop} {YP : World → Heap → Prop} {d : DefRec} {K : Params → PySem.W.Frag} {x : Str}
    (hn : l.most = some n) (hn2 : n ≤ sizeLine) (hdf : d.params.defaults = []) (hi : importsNone q = true) (hr : Room k callerA) (hY : ∀ (w : World) (h : Heap), YP w h → (K w.params).In h)
    (F : ∀ (w : World) (mg : Str → Option Value) (fa : Addr) (h : Heap), YP w h → (K w.params).In h → h.Ns mainGlobals mg → mg d.name = some (.ref fa) → LawG l w (K w.params) k n x mg fa h) :
    PySem.W.WalkO q loose XP YP l.row.toRowW d [] (fun f vs => PySem.call f vs) := by
  refine Att.attach_call hn hdf fun w t0 t1 mg mb fa o pm cd doc a vs ns gr y1 ho hd hcd hmg hobj hints hlen hgen => ?_
  obtain ⟨fd, cs, sp, c1, c2, c3, c4, c5, c6⟩ := F w mg fa _ y1 (hY w _ y1) gr.T.g hmg
  exact law_callG (hY w _ y1) gr.T.g gr.T.b gr.T.builtins gr.T.nolimit hgen c1 c2 c3 gr.T.bmain hobj hints (Nat.le_trans hlen hn2) hr (let ⟨mm, hm, _⟩ := (gr.T.seer hi).mods; ⟨mm, hm⟩) c6 c4 fun H tabs sq => c5 H a ns hlen tabs sq
end Gd

/-! shown data as data: code points, lengths -/
namespace SkT
open PySem
theorem ok_of (s : String) : PyData.strOk (Str.ofString s) = true := by
  unfold PyData.strOk
  rw [Str.ofString_eq_toList, List.all_toArray, List.all_eq_true]
  intro n hn
  obtain ⟨c, _, rfl⟩ := List.mem_map.mp hn
  refine decide_eq_true ?_
  have := c.valid
  unfold Char.toNat
  rcases this with h | h
  · exact Nat.lt_trans h (by decide)
  · exact h.2
theorem ok_app {a b : Str} (h1 : PyData.strOk a = true) (h2 : PyData.strOk b = true) : PyData.strOk (a ++ b) = true := by
  unfold PyData.strOk at h1 h2 ⊢
  show (a.cps ++ b.cps).all _ = true
  rw [Array.all_append, h1, h2]
  rfl
theorem ok_join {sep : Str} (hs : PyData.strOk sep = true) : ∀ {ts : List Str}, (∀ t ∈ ts, PyData.strOk t = true) → PyData.strOk (Str.join sep ts) = true
  | [], _ => (by decide +kernel : PyData.strOk Str.empty = true)
  | [x], h => h x List.mem_cons_self
  | x :: y :: r, h => ok_app (ok_app (h x List.mem_cons_self) hs) (ok_join hs fun t ht => h t (List.mem_cons_of_mem _ ht))
theorem ok_from : ∀ {ts : List Str} {k : Nat} {acc : Str}, PyData.strOk acc = true → (∀ t ∈ ts, PyData.strOk t = true) → PyData.strOk (textFrom k acc ts) = true
  | [], _, _, ha, _ => ha
  | t :: r, k, acc, ha, h => by
    rw [textFrom]
    exact ok_from (ok_app (ok_app ha (ok_of _)) (h t List.mem_cons_self)) fun x hx => h x (List.mem_cons_of_mem _ hx)
theorem ok_list {ts : List Str} (h : ∀ t ∈ ts, PyData.strOk t = true) : PyData.strOk (listText ts) = true := ok_app (ok_from (ok_of _) h) (ok_of _)
theorem ok_tup {ts : List Str} (h : ∀ t ∈ ts, PyData.strOk t = true) : PyData.strOk (tupleText ts) = true := ok_app (ok_app (ok_of _) (ok_join (ok_of _) h)) (ok_of _)
theorem join_le : ∀ ts : List Str, (Str.join ", " ts).length ≤ (ts.map fun t => t.length + 2).sum
  | [] => Nat.le_refl _
  | [x] => by
    show x.length ≤ _
    simp
  | x :: y :: r => by
    show (x ++ ", " ++ Str.join ", " (y :: r)).length ≤ _
    rw [strLen_append, strLen_append, show (", " : Str).length = 2 by decide +kernel]
    have := join_le (y :: r)
    rw [List.map_cons, List.sum_cons]
    omega
theorem tup_le (ts : List Str) : (tupleText ts).length ≤ (ts.map fun t => t.length + 2).sum + 3 := by
  unfold tupleText
  rw [strLen_append, strLen_append, show ("(" : Str).length = 1 by decide +kernel]
  have := join_le ts
  have : (Str.ofString (if ts.length == 1 then ",)" else ")" : String)).length ≤ 2 := by
    split
    · decide +kernel
    · decide +kernel
  omega
theorem from_le : ∀ (ts : List Str) (k : Nat) (acc : Str), (textFrom k acc ts).length ≤ acc.length + (ts.map fun t => t.length + 2).sum
  | [], _, _ => by simp [textFrom]
  | t :: r, k, acc => by
    rw [textFrom]
    have ih := from_le r (k + 1) (acc ++ (if k > 0 then ", " else "" : String) ++ t)
    rw [strLen_append, strLen_append] at ih
    have : (Str.ofString (if k > 0 then ", " else "" : String)).length ≤ 2 := by
      split
      · decide +kernel
      · decide +kernel
    rw [List.map_cons, List.sum_cons]
    omega
theorem list_le (ts : List Str) : (listText ts).length ≤ (ts.map fun t => t.length + 2).sum + 2 := by
  unfold listText
  rw [strLen_append, show ("]" : Str).length = 1 by decide +kernel]
  have := from_le ts 0 "["
  rw [show ("[" : Str).length = 1 by decide +kernel] at this
  omega
/-- data that can be shown; n bounds its text, k its depth -/
structure Sw (n k : Nat) (d : PyData) : Prop where
  sh : d.showable = true
  dp : d.depth ≤ k
  ln : d.shown.length ≤ n
  ok : PyData.strOk d.shown = true
theorem Sw.mono {n m k j : Nat} {d : PyData} (h : Sw n k d) (a : n ≤ m) (b : k ≤ j) : Sw m j d := ⟨h.sh, Nat.le_trans h.dp b, Nat.le_trans h.ln a, h.ok⟩
theorem sw_all {n k : Nat} : ∀ {ds : List PyData}, (∀ x ∈ ds, Sw n k x) → PyData.showableAll ds = true ∧ PyData.depthAll ds ≤ k ∧ ((PyData.shownAll ds).map fun t => t.length + 2).sum ≤ (n + 2) * ds.length ∧ ∀ t ∈ PyData.shownAll ds, PyData.strOk t = true
  | [], _ => ⟨rfl, by simp [PyData.depthAll], by simp [PyData.shownAll], fun t h => by simp [PyData.shownAll] at h⟩
  | d :: r, h => by
    obtain ⟨a, b, c, e⟩ := sw_all (ds := r) fun x hx => h x (List.mem_cons_of_mem _ hx)
    have hd := h d List.mem_cons_self
    refine ⟨?_, ?_, ?_, ?_⟩
    · rw [PyData.showableAll, a, hd.sh]; rfl
    · rw [PyData.depthAll]; exact Nat.max_le.mpr ⟨hd.dp, b⟩
    · rw [PyData.shownAll, List.map_cons, List.sum_cons, List.length_cons, Nat.mul_succ]
      have := hd.ln
      omega
    · intro t ht
      rw [PyData.shownAll] at ht
      rcases List.mem_cons.mp ht with rfl | z
      · exact hd.ok
      · exact e t z
theorem sw_tup {n k : Nat} {ds : List PyData} (h : ∀ x ∈ ds, Sw n k x) : Sw ((n + 2) * ds.length + 3) (k + 1) (.tuple ds) := by
  obtain ⟨a, b, c, e⟩ := sw_all h
  refine ⟨by rw [PyData.showable]; exact a, by rw [PyData.depth]; omega, ?_, ?_⟩
  · rw [PyData.shown]
    exact Nat.le_trans (tup_le _) (by omega)
  · rw [PyData.shown]
    exact ok_tup e
theorem sw_lst {n k : Nat} {ds : List PyData} (h : ∀ x ∈ ds, Sw n k x) : Sw ((n + 2) * ds.length + 2) (k + 1) (.list ds) := by
  obtain ⟨a, b, c, e⟩ := sw_all h
  refine ⟨by rw [PyData.showable]; exact a, by rw [PyData.depth]; omega, ?_, ?_⟩
  · rw [PyData.shown]
    exact Nat.le_trans (list_le _) (by omega)
  · rw [PyData.shown]
    exact ok_list e
theorem log_nat {n : Nat} (h : n < 10 ^ 20) : (n : Nat).log2 < 1920 := by
  by_cases h0 : n = 0
  · rw [h0]; decide
  · exact Nat.lt_of_lt_of_le ((Nat.log2_lt h0).mpr (Nat.lt_of_lt_of_le h (show 10 ^ 20 ≤ 2 ^ 70 by decide))) (by decide)
theorem sw_int {i : Int} {n : Nat} (h : i.natAbs < 10 ^ 20) (hl : (PyData.shown (.int i)).length ≤ n) : Sw n 0 (.int i) := ⟨by simp only [PyData.showable, decide_eq_true_eq]; exact log_nat h, by simp [PyData.depth], hl, ok_of _⟩
theorem sw_bl (b : Bool) : Sw 5 0 (.bool b) := by cases b <;> exact ⟨rfl, by simp [PyData.depth], by decide +kernel, by decide +kernel⟩
theorem sw_non : Sw 4 0 .none := ⟨rfl, by simp [PyData.depth], by decide +kernel, by decide +kernel⟩
/-- two rows of two words as data -/
theorem shaped2 {a b : Str} (h1 : PyData.strOk a = true) (h2 : PyData.strOk b = true) : SeqAt.shaped (.list [.str a, .str b]) = true := by
  unfold SeqAt.shaped
  simp [PyData.canLay0, PyData.canLayAll0, h1, h2, PyData.depth, PyData.depthAll]
theorem shaped3 {a b : Str} {c : Bool} (h1 : PyData.strOk a = true) (h2 : PyData.strOk b = true) : SeqAt.shaped (.list [.str a, .str b, .bool c]) = true := by
  unfold SeqAt.shaped
  simp [PyData.canLay0, PyData.canLayAll0, h1, h2, PyData.depth, PyData.depthAll]
end SkT

/-! repr of any plain data, also behind a caught error; the types of plain data; slices of lists of counts -/
namespace RpA
open PySem L2 Gd
theorem ext_same {H H' : Hp} (s : Same H H') : LamX.ExtN H H' := fun b o e _ => s b o e
mutual
theorem dq_ext {H H' : Hp} (s : LamX.ExtN H H') : ∀ {v : V} {d : PyData}, Dq H v d → Dq H' v d
  | _, _, .non => .non
  | _, _, .bl b => .bl b
  | _, _, .int i => .int i
  | _, _, .str x => .str x
  | _, _, .lst ha hd => .lst (s _ _ ha (by intro ps z; cases z)) (dqa_ext s hd)
  | _, _, .tup ha hd => .tup (s _ _ ha (by intro ps z; cases z)) (dqa_ext s hd)
  | _, _, .dct ha => .dct (s _ _ ha (by intro ps z; cases z))
theorem dqa_ext {H H' : Hp} (s : LamX.ExtN H H') : ∀ {vs : List V} {ds : List PyData}, DqA H vs ds → DqA H' vs ds
  | _, _, .nil => .nil
  | _, _, .cons a b => .cons (dq_ext s a) (dqa_ext s b)
end
theorem dqa_app {H : Hp} : ∀ {vs ws : List V} {ds es : List PyData}, DqA H vs ds → DqA H ws es → DqA H (vs ++ ws) (ds ++ es)
  | _, _, _, _, .nil, b => b
  | _, _, _, _, .cons a t, b => .cons a (dqa_app t b)
theorem dqa_len {H : Hp} : ∀ {vs : List V} {ds : List PyData}, DqA H vs ds → vs.length = ds.length
  | _, _, .nil => rfl
  | _, _, .cons _ t => by rw [List.length_cons, List.length_cons, dqa_len t]
theorem dqa_mem {H : Hp} : ∀ {vs : List V} {ds : List PyData}, DqA H vs ds → ∀ x ∈ vs, ∃ d ∈ ds, Dq H x d
  | _, _, .nil, _, h => nomatch h
  | _, _, .cons a t, x, h => by
    rcases List.mem_cons.mp h with rfl | z
    · exact ⟨_, List.mem_cons_self, a⟩
    · obtain ⟨d, m, q⟩ := dqa_mem t x z
      exact ⟨d, List.mem_cons_of_mem _ m, q⟩
/-- the name of the type -/
def tyN : PyData → String
  | .none => "NoneType"
  | .bool _ => "bool"
  | .int _ => "int"
  | .str _ => "str"
  | .list _ => "list"
  | .tuple _ => "tuple"
  | .dict _ => "dict"
theorem dq_ty {K : PySem.W.Frag} {H : Hp} {v : V} {d : PyData} (q : Dq H v d) : TyX K H v (.type (tyN d)) := by
  cases q with
  | non => exact .base .non
  | bl b => exact .base (.bl b)
  | int i => exact .base (.int i)
  | str x => exact .base (.str x)
  | lst h _ => exact .base (.lst h)
  | tup h _ => exact .base (.tup h)
  | dct h => exact .base (.dK h)
/-- repr of such data -/
def rReprA : List V → Hp → VK → Prop := fun xs H Q => ∃ (v : V) (d : PyData) (n : Nat), xs = [v] ∧ Dq H v d ∧ SkT.Sw n 64 d ∧ n ≤ sizeLine ∧ Q (.str d.shown) H
theorem call_reprA {X : Cx} {ob : Obj} (hg : X.A.guards = some []) (hu : X.A.units + 66 < cLine) (sm : X.base.get? sysModules = some ob) : CallR X (.builtin "repr") rReprA := by
  intro pins s σ H xs us Q I r h
  obtain ⟨v, d, n, rfl, hd, hs, hn, q⟩ := h
  obtain ⟨u, rfl, ru⟩ := vals1 r
  have ref : ∀ a, v = .ref a → wpAny (model X.prog X.w) X.A (PySem.call (.builtin "repr") [u]) (fun u' s' => ∃ (v' : V) (H' : Hp), Inv X pins σ H' s' ∧ RelV v' u' ∧ Q v' H') X.xe s := fun a e => by
    subst e
    cases (show u = Value.ref a from ru)
    obtain ⟨as, h1, h2⟩ := hd.reads I (u := .ref a) rfl
    have no : sysModules ∉ as := fun hm => h2 _ hm (I.env0.bs _ _ sm).2
    have := hs.dp
    refine repr_of_reads' h1 hs.sh (fun _ => no) hg (by omega) (fun _ _ e => e) (fun h' u tk hk => ?_) (Nat.le_trans hs.ln hn)
    exact ⟨.str d.shown, H, I.kept (t' := tk) hk, ⟨_, rfl⟩, q⟩
  cases hd with
  | non =>
    cases ru
    exact PySem.P.repr_of_none ⟨.str _, H, I.tok _, ⟨_, rfl⟩, q⟩
  | bl b =>
    cases ru
    exact PySem.P.repr_of_bool ⟨.str _, H, I.tok _, ⟨_, rfl⟩, q⟩
  | int i =>
    obtain ⟨t, rfl⟩ := ru
    exact PySem.P.repr_of_int (by have := hs.sh; simpa [PyData.showable] using this) ⟨.str _, H, I.tok _, ⟨_, rfl⟩, q⟩
  | str x =>
    obtain ⟨t, rfl⟩ := ru
    exact PySem.P.repr_of_str ⟨.str _, H, I.tok _, ⟨_, rfl⟩, q⟩ (Nat.le_trans hs.ln hn)
  | lst ha hd => exact ref _ rfl
  | tup ha hd => exact ref _ rfl
  | dct ha => exact ref _ rfl
theorem sl_from {K : PySem.W.Frag} {Q : VK} {H : Hp} {l : Addr} {vs : List V} {n : Int} {k : Nat} (hl : H l = some (.lst vs)) (e : n = (k : Nat)) (h : ∀ z, H z = none → ∀ H', Same H H' → H' z = some (.lst (vs.drop k)) → Q (.ref z) H') : rSlL K (.ref l) (some n) none H Q := by
  refine ⟨l, vs, rfl, SqL.of hl, fun z nz => ?_⟩
  rw [e, Cm.cut_from]
  exact h z nz _ (fun b o q => by rw [upd_ne (ne_of_none q nz)]; exact q) upd_same
theorem sl_to {K : PySem.W.Frag} {Q : VK} {H : Hp} {l : Addr} {vs : List V} {n : Int} {k : Nat} (hl : H l = some (.lst vs)) (e : n = (k : Nat)) (hk : k ≤ vs.length) (h : ∀ z, H z = none → ∀ H', Same H H' → H' z = some (.lst (vs.take k)) → Q (.ref z) H') : rSlL K (.ref l) none (some n) H Q := by
  refine ⟨l, vs, rfl, SqL.of hl, fun z nz => ?_⟩
  rw [e, Cm.cut_to _ _ hk]
  exact h z nz _ (fun b o q => by rw [upd_ne (ne_of_none q nz)]; exact q) upd_same
theorem cat {Q : VK} {H : Hp} {p r : Addr} {xs ys : List V} (hp : H p = some (.lst xs)) (hr : H r = some (.lst ys)) (hl : xs.length + ys.length ≤ sizeLine) (k : ∀ z, H z = none → ∀ H', Same H H' → H' z = some (.lst (xs ++ ys)) → Q (.ref z) H') : rCat (.ref p) (.ref r) H Q :=
  ⟨p, r, xs, ys, rfl, rfl, hp, hr, hl, fun z nz => k z nz _ (fun b o q => by rw [upd_ne (ne_of_none q nz)]; exact q) upd_same⟩
end RpA

/-! repr of a list in which instances with an own __repr__ stand -/
namespace RpL
open PySem PySem.Spec PyProof.Rows L2 Builtin Builtin.List
section
variable {M : Model} {prog : Program} {w : World} {A : Around} {E : Value → Shared → Prop} {s : Shared} {K : PySem.W.Frag} {x C f : Addr} {ox : Obj} {od : Option Obj} {name : Str}
theorem boundBy_K {last : Value → List Value → Sem Value} {Q : Option Value → Shared → Prop} (X : K.In s.heap) (I : PySem.W.InstAt s.heap x ox C od) (hs : PySem.W.findIn K (.ref C) name = some (some (.ref f))) (hf : PySem.W.isFn K (.ref f) = true)
    (h : wpAny M A (last (.ref f) [.ref x]) (fun v => Q (some v)) E s) : wpAny M A (callSpecialIfBoundBy? last (.ref x) name) Q E s := by
  simp only [callSpecialIfBoundBy?, bindSpecialIfBound?]
  refine wpAny_holding (wpAny_bind (wpAny_bind (wpAny_bind (I.type.here ((PySem.W.looks_findIn X hs).here ?_)))))
  refine wpAny_bind (wpAny_askSetting (wpAny_ite ?_))
  have fin : wpAny M A (last (.ref f) [.ref x] >>= fun v => pure (some v)) Q E s := wpAny_bind (wpAny_mono h (fun v s' h' => wpAny_pure h') fun _ _ h' => h')
  split
  · exact wpAny_bind ((PySem.W.bind_fn X _ (beq_iff_eq.mp hf)).here (wpAny_pure (by exact fin)))
  · exact wpAny_tryCatch (wpAny_bind ((PySem.W.bind_fn X _ (beq_iff_eq.mp hf)).here (wpAny_pure (by exact fin))))
end
/-- it shows as t wherever one asks below the running body, and only makes objects -/
def It (X : Cx) (n : Nat) (H : Hp) (v : V) (t : Str) : Prop :=
  ∀ (H1 : Hp), Same H H1 → ∀ (A : Around), Sub X n A → ∀ (pins : List (Addr × Obj)) (s : Shared) (σ : L2.St) (u : Value) (base : Nat) (Q : Str → Shared → Prop) (E : Value → Shared → Prop), Inv X pins σ H1 s → RelV v u → base + t.length ≤ sizeLine →
    (∀ (s' : Shared) (H2 : Hp), Same H1 H2 → Inv X pins σ H2 s' → Q t s') → wpAny (model X.prog X.w) A (pyReprUnder base u) Q E s
section
variable {X : Cx} {n : Nat} {H : Hp}
theorem it_is {v : V} {t : Str} (h : ∀ u, RelV v u → ReprIs X.prog X.w u t) : It X n H v t := fun H1 _ A _ pins s σ u base Q E I ru hb hQ =>
  h u ru base hb A E s Q fun tk => hQ _ H1 (Same.refl _) (I.tok tk)
theorem it_str {x : Str} (h : (reprText x).length ≤ sizeLine) : It X n H (.str x) (reprText x) := it_is fun u ru => by
  obtain ⟨t, rfl⟩ := ru
  exact ReprIs.str x t h
theorem it_int {i : Int} (h : i.natAbs.log2 < 1920) : It X n H (.int i) (toString i) := it_is fun u ru => by
  obtain ⟨t, rfl⟩ := ru
  exact ReprIs.int t h
theorem it_bl (b : Bool) : It X n H (.bl b) (if b then "True" else "False") := it_is fun u ru => by
  cases ru
  exact ReprIs.bool b
theorem it_non : It X n H .non "None" := it_is fun u ru => by
  cases ru
  exact ReprIs.none
/-- an instance with an own __repr__ -/
theorem it_own {C g o dx : Addr} {fs : List (Str × V)} {sp : Sp} {t : Str} (hs : PySem.W.findIn X.K (.ref C) "__repr__" = some (some (.ref g))) (hf : PySem.W.isFn X.K (.ref g) = true) (F : FnR X.prog X.w X.K X.mg X.base CX0 n g sp) (ho : H o = some (.ins C dx fs))
    (hsp : ∀ H1, Same H H1 → sp [.ref o] H1 (fun v H2 => v = .str t ∧ Same H1 H2) fun _ _ _ => False) : It X n H (.ref o) t := by
  intro H1 s1 A sb pins s σ u base Q E I ru hb hQ
  cases (show u = Value.ref o from ru)
  obtain ⟨ox, od, J⟩ := Own.inst_of I (s1 _ _ ho)
  have hu := sb.room.un
  refine wpAny_pyReprUnder_ref (by omega) ?_
  unfold pyReprObjUnder pyReprObjBy
  refine wpAny_bind (wpAny_cRoomFor (by omega) ?_)
  refine wpAny_bind (wpAny_bind (J.type.here ((PySem.W.looks_findIn I.kIn hs).here ?_)))
  show wpAny _ _ (if (some (Value.ref g)).isNone = true then _ else _) _ _ _
  rw [if_neg (by simp)]
  have e0 : Env0 X.prog X.w X.K X.mg X.base A X.stack s H1 := ⟨sb.fr.trans I.env0.frames, I.env0.mod, I.env0.bs, I.env0.bsz, I.env0.funs, I.env0.frf, I.env0.hok, I.env0.bare⟩
  refine wpAny_bind (m := callSpecialIfBoundBy? _ (.ref o) (Str.ofString "__repr__")) (boundBy_K I.kIn J hs hf ?_)
  show wpAny _ _ (call (.ref g) ([Value.ref o] ++ [])) _ _ _
  refine wpAny_call (codeAny_mono (F A X.stack s H1 [.ref o] [.ref o] _ _ sb.room e0 (.cons rfl .nil) (hsp H1 s1)) fun r s' hq => ?_)
  cases r with
  | error e => exact (show False from hq).elim
  | ok fl =>
    cases fl with
    | ret u =>
      obtain ⟨v, H2, I2, rv, ev, s2⟩ := I.after hq
      subst ev
      obtain ⟨tk, rfl⟩ := (show ∃ tk, u = Value.str t tk from rv)
      exact wpAny_bind (wpAny_isInstance (T := "str") (b := true) rfl isSubtype_str_str (wpAny_pure ⟨_, _, rfl, hQ s' H2 s2 I2⟩))
    | next => exact False.elim hq
    | brk => exact False.elim hq
    | cont => exact False.elim hq
end
section
variable {X : Cx} {n : Nat} {H : Hp}
theorem sub_under {A : Around} {args : Args} (sb : Sub X (n + 1) A) : Sub X n (A.under (.builtin "list.__repr__.loop" args)) := by
  have h1 := sb.room.hd
  have h2 := sb.room.dp
  have h3 := sb.room.un
  have e1 : (A.under (.builtin "list.__repr__.loop" args)).handled = A.handled := by first | rfl | simp [Around.under]
  have e2 : (A.under (.builtin "list.__repr__.loop" args)).depth = A.depth + 1 := by
    show A.depth + (Code.builtin "list.__repr__.loop" args).weight = _
    have : (Code.builtin "list.__repr__.loop" args).weight = 1 := by
      unfold Code.weight
      rw [isGuard_list_loop]
      rfl
    rw [this]
  have e3 : (A.under (.builtin "list.__repr__.loop" args)).frames = A.frames := by first | rfl | simp [Around.under, Code.frames, Code.isFrame]
  have e4 := units_under_list_loop A args
  exact ⟨⟨e1.trans h1, by rw [e2]; omega, by rw [e4]; omega⟩, e3.trans sb.fr⟩
theorem loop {A : Around} {R : Result → Shared → Prop} {a P : Addr} {vs : List V} {ts : List Str} {base : Nat} {pins : List (Addr × Obj)} {σ : L2.St} (sb : Sub X (n + 1) A) (hP0 : H P = none) (ha : H a = some (.lst vs)) (hlen : ts.length = vs.length) (hT : ∀ (i : Nat) (v : V), vs[i]? = some v → ∃ t, ts[i]? = some t ∧ It X n H v t) (hsz : base + (listText ts).length ≤ sizeLine)
    (hR : ∀ (s' : Shared) (H2 : Hp) (tk : Tok), Same H H2 → Inv X pins σ H2 s' → R (.ok (.ret (.str (listText ts) tk))) s') :
    ∀ (k i : Nat) (s : Shared) (H1 : Hp), vs.length - i = k → i ≤ vs.length → Same H H1 → Inv X pins σ H1 s → H1 P = some (.lst ((ts.take i).map V.str)) →
    codeAny (model X.prog X.w) A (.builtin "list.__repr__.loop" ⟨[.ref a, rawInt i, .ref P, rawInt ((base + piled (ts.take i) : Nat) : Int)], []⟩) R s := by
  have hX : (listText ts).length = (textFrom 0 "[" ts).length + 1 := by
    show (textFrom 0 "[" ts ++ "]").length = _
    rw [strLen_append]; rfl
  have hL := textFrom_len ts 0 "["
  have hsz2 : ∀ t ∈ ts, t.length ≤ sizeLine := fun t ht => by
    have h2 := hL.2.1 t ht
    omega
  have hsz3 : (listText ts).length ≤ sizeLine := by omega
  have hp3 := piled_le_listText ts
  have vals_str : ∀ (l : List Str) (its : List Value), Vals (l.map V.str) its → ∃ d : List (Str × Tok), its = strValues d ∧ d.map (·.1) = l := by
    intro l
    induction l with
    | nil =>
      intro its h
      cases h
      exact ⟨[], rfl, rfl⟩
    | cons x r ih =>
      intro its h
      cases h with
      | cons a t =>
        obtain ⟨tk, rfl⟩ := a
        obtain ⟨d, rfl, e⟩ := ih _ t
        exact ⟨(x, tk) :: d, rfl, by rw [List.map_cons, e]⟩
  intro k
  induction k with
  | zero =>
    intro i s H1 hk hi s1 I hP
    have hin : i = vs.length := by omega
    obtain ⟨z, its, na, rv, lv, ea⟩ := I.lstM (s1 _ _ ha)
    obtain ⟨zP, itsP, nP, rP, lP, eP⟩ := I.lstM hP
    refine codeAny_builtin F.entry_list_repr_loop ?_
    show wpAny _ _ («list.__repr__.loop» ⟨[.ref a, .int i 0, .ref P, .int ((base + piled (ts.take i) : Nat) : Int) 0], []⟩) _ _ s
    rw [repr_loop_tree]
    refine wpAny_bind (wpAny_listItems ea rfl ?_)
    have hnone : its.toArray[(i : Int).toNat]? = none := by simp; omega
    simp only [hnone]
    unfold reprEnd
    refine wpAny_bind (wpAny_listItems eP rfl ?_)
    obtain ⟨d, rfl, ed⟩ := vals_str _ _ rP
    have hall : d.map (·.1) = ts := by rw [ed, hin, ← hlen, List.take_length]
    rw [List.toList_toArray, repr_fold]
    refine wpAny_bind (wpAny_pure ?_)
    rw [hall]
    refine wpAny_bind (wpAny_mkStr (wpAny_pure ?_) hsz3)
    exact hR _ H1 _ s1 (I.tok _)
  | succ k ih =>
    intro i s H1 hk hi s1 I hP
    have hlt : i < vs.length := by omega
    obtain ⟨z, its, na, rv, lv, ea⟩ := I.lstM (s1 _ _ ha)
    obtain ⟨t, ht, hit⟩ := hT i vs[i] (List.getElem?_eq_getElem hlt)
    have hp1 := piled_take_succ ht
    have hp2 := piled_take_le ts (i + 1)
    have hil : i < its.length := by omega
    have ru : RelV vs[i] its[i] := by
      obtain ⟨u, e, r⟩ := rv.get (List.getElem?_eq_getElem hlt)
      rw [List.getElem?_eq_getElem hil] at e
      cases e
      exact r
    refine codeAny_builtin F.entry_list_repr_loop ?_
    show wpAny _ _ («list.__repr__.loop» ⟨[.ref a, .int i 0, .ref P, .int ((base + piled (ts.take i) : Nat) : Int) 0], []⟩) _ _ s
    rw [repr_loop_tree]
    refine wpAny_bind (wpAny_listItems ea rfl ?_)
    have hsome : its.toArray[(i : Int).toNat]? = some its[i] := by simp [hil]
    simp only [hsome]
    rw [Int.toNat_natCast]
    refine wpAny_bind (wpAny_holding (hit H1 s1 _ (sub_under sb) pins s σ _ (base + piled (ts.take i) + 1) _ _ I ru (by omega) fun s' H2 s2 I2 => ?_))
    refine wpAny_bind (wpAny_mkStr ?_ (hsz2 t (List.mem_of_getElem? ht)))
    refine wpAny_bind ?_
    show wpAny _ _ (updateSeq P _) _ _ _
    have hP2 := s2 _ _ hP
    have I3 := I2.tok (s'.toks + 1)
    obtain ⟨zP, itsP, nP, rP, lP, eP⟩ := I3.lstM hP2
    have hasz : itsP.toArray.size ≤ sizeLine := by
      rw [List.size_toArray, ← lP, List.length_map, List.length_take]
      omega
    refine wpAny_updateSeq eP rfl (wpAny_pure ⟨F.quiet_list_repr_loop _, ?_⟩) hasz
    have e1 : ((i : Int) + 1) = ((i + 1 : Nat) : Int) := by omega
    have e2 : base + piled (ts.take i) + (t.length + 2) = base + piled (ts.take (i + 1)) := by omega
    rw [e1, e2]
    have tk : ts.take (i + 1) = ts.take i ++ [t] := by rw [List.take_add_one, ht]; rfl
    refine ih (i + 1) _ (upd H2 P (.lst ((ts.take (i + 1)).map V.str))) (by omega) hlt (fun b o e => ?_) ?_ upd_same
    · rw [upd_ne (ne_of_none e hP0)]
      exact s2 _ _ (s1 _ _ e)
    · have := I3.lset (its' := itsP ++ [Value.str t s'.toks]) (f := fun x => x.push (Value.str t s'.toks)) (ys := (ts.take (i + 1)).map V.str) (t' := s'.toks + 1) hP2 eP (by simp) (by rw [tk, List.map_append]; exact rP.append (.cons ⟨_, rfl⟩ .nil)) (by rw [List.length_map, List.length_take]; omega)
      exact this
end
/-- repr of such a list -/
def rReprL (X : Cx) (n : Nat) : List V → Hp → VK → Prop := fun xs H Q => ∃ (a : Addr) (vs : List V) (ts : List Str), xs = [.ref a] ∧ H a = some (.lst vs) ∧ vs ≠ [] ∧ ts.length = vs.length ∧ (∀ (i : Nat) (v : V), vs[i]? = some v → ∃ t, ts[i]? = some t ∧ It X n H v t) ∧ (listText ts).length ≤ sizeLine ∧ ∀ H', Same H H' → Q (.str (listText ts)) H'
theorem call_reprL {X : Cx} {n : Nat} (hg : X.A.guards = some []) (sb : Sub X (n + 1) X.A.in1) : CallR X (.builtin "repr") (rReprL X n) := by
  intro pins s σ H xs us Q I r h
  obtain ⟨a, vs, ts, rfl, ha, hne, hlen, hT, hsz, q⟩ := h
  obtain ⟨u, rfl, ru⟩ := vals1 r
  cases (show u = Value.ref a from ru)
  obtain ⟨z, its, na, rv, lv, ea⟩ := I.lstM ha
  obtain ⟨x, l, rfl⟩ : ∃ x l, its = x :: l := by
    cases its with
    | nil => cases vs with
      | nil => exact absurd rfl hne
      | cons => simp at lv
    | cons x l => exact ⟨x, l, rfl⟩
  have hTy : s.TypeIs (.ref a) "list" := ⟨_, ea, rfl⟩
  refine call_repr_slot (by have := sb.room.un; have : X.A.in1.units = X.A.units + 1 := rfl; omega) hTy F.slot_list_repr.toG ?_
  refine wpAny_call (codeAny_call_builtin F.slot_list_repr.plain F.entry_list_repr (F.slot_list_repr.check _ _ _ _ _ _ _ _ hTy (F.args_list_repr_1 _) ?_))
  show wpAny _ _ (Builtin.listReprAt 0 ⟨[.ref a], []⟩) _ _ _
  refine wpAny_list_repr_head (g := []) hg (fun v rest kw hm => nomatch hm) ea rfl ?_
  refine wpAny_bind (m := newList []) (wpAny_newObj_type ?_)
  refine wpAny_pure ⟨F.quiet_list_repr_loop _, ?_⟩
  have hP0 := I.fresh
  refine loop (base := 0) (R := fun r s' => match r with | .ok (.ret v) => ∃ x t, v = Value.str x t ∧ EP X pins σ Q v s' | .ok _ => False | .error e => X.xe e s') (pins := pins) (σ := σ) sb hP0 ha hlen hT (by omega) (fun s' H2 tk s2 I2 => ⟨_, _, rfl, .str (listText ts), H2, I2, ⟨tk, rfl⟩, q H2 s2⟩) vs.length 0 _ (upd H s.heap.objs.size (.lst [])) (by omega) (by omega) (fun b o e => by rw [upd_ne (ne_of_none e hP0)]; exact e) ?_ upd_same
  exact I.lnew .nil (by simp)
end RpL

/-! try with several clauses `except C as n`, all of one name -/
namespace TryAs
open PySem PySem.Spec PyProof.Rows L2
/-- a clause: its class, and what its suite does -/
structure Cl where
  c : Value
  ts : Addr → Value → Option Addr → TS
/-- behind a suite the name is gone -/
def bare (i : Nat) (D : Ends) : Ends := ⟨fun σ H => D.nx (σ.set i none) H, D.rt, fun σ H => D.bk (σ.set i none) H, fun σ H => D.ct (σ.set i none) H⟩
def wish (K : PySem.W.Frag) (i : Nat) (out : WX) (D : Ends) : List Cl → WX
  | [] => out
  | k :: ks => fun cls d σ H => ∃ yes, PySem.W.exmOne K cls k.c = some yes ∧ cond yes (∀ e, H e = none → k.ts e cls d (bare i D) (σ.set i (some (.ref e))) H) (wish K i out D ks cls d σ H)
inductive Cls (X : Cx) (n : Str) : List ExceptHandler → List Cl → Prop
  | stop : Cls X n [] []
  | more {x : Str} {k : Cl} {st : Stmt} {sts : List Stmt} {p1 p2 : Pos} {hds : List ExceptHandler} {ks : List Cl} : Names X x k.c →
      (∀ (e : Addr) (o : Obj) (cls : Value) (d : Option Addr) (pn : List (Addr × Obj)), Zc cls d o → (∃ vs, o.data = .fields vs) → PSs (X.suite e ((e, o) :: pn)) (st :: sts) (k.ts e cls d)) → Cls X n hds ks →
      Cls X n (.ExceptHandler (some (.Name x p1)) (some n) (st :: sts) p2 :: hds) (k :: ks)
section
variable {X : Cx} {n : Str} {i : Nat} {out : WX} {D : Ends} {pins : List (Addr × Obj)} {σ : L2.St} {H : Hp} {sI : Shared} {B : Heap} {e : Addr} {cls : Value} {d : Option Addr}
/-- an error that has come down in X, sI is the state without it -/
structure Down (X : Cx) (pins : List (Addr × Obj)) (σ : L2.St) (H : Hp) (sI : Shared) (B : Heap) (e : Addr) (cls : Value) (d : Option Addr) (h : Heap) : Prop where
  J : Inv X pins σ H sI
  nb : ∀ b o, sI.heap.get? b = some o → b ∉ frs X.stack → B.get? b = some o
  up : sI.heap.UpToSlots h
  fl : HandSPX.FlyingZ B (X.env :: X.outer) e (Zc cls d) h
  na : H e = none
theorem Down.here {h : Heap} {s : Shared} (Z : Down X pins σ H sI B e cls d h) (os : s.os = sI.os) (ag : AllBare s.gens) : Inv X pins σ H { s with heap := h } := Z.J.landed Z.nb Z.fl.1 Z.up os ag
theorem Down.outside {h : Heap} (Z : Down X pins σ H sI B e cls d h) (hf : X.env.frame = some X.env.locals) : e ≠ X.env.locals ∧ e ∉ X.fs := by
  have no : e ∉ frs (X.env :: X.outer) := fun m => by
    obtain ⟨o1, vs, g1, _, f1⟩ := Z.fl.there
    obtain ⟨_, o2, g2, f2⟩ := Z.fl.2.2.1.mem m
    exact f2 vs ((congrArg Obj.data (Option.some.inj (g2.symm.trans g1))).trans f1)
  refine ⟨fun q => no ?_, fun q => no ?_⟩
  · exact q ▸ List.mem_filterMap.mpr ⟨X.env, List.mem_cons_self, hf⟩
  · obtain ⟨v, h1, h2⟩ := List.mem_filterMap.mp q
    exact List.mem_filterMap.mpr ⟨v, List.mem_cons_of_mem _ h1, h2⟩
/-- no clause has taken it: it goes on -/
theorem Down.on {h : Heap} {s : Shared} (Z : Down X pins σ H sI B e cls d h) (hs : X.stack = X.env :: X.outer) (hf : X.env.frame = some X.env.locals) (tk : Takes X out) (os : s.os = sI.os) (ag : AllBare s.gens) (w : out cls d σ H) :
    wpAny (model X.prog X.w) X.A (handleBy (.ref e) X.env []) (SP X pins D) X.xe { s with heap := h } := by
  refine wpAny_handleBy_nil ?_
  have last : wpAny (model X.prog X.w) X.A (setFlight (.ref e) X.env.frame) (fun _ t => wpAny (model X.prog X.w) X.A (throw (.ref e) : Sem Flow) (SP X pins D) X.xe t) X.xe { s with heap := h } := by
    rw [hf]
    exact HandSPX.setFlight_upZ Z.fl fun g held u => wpAny_throw (tk _ _ ⟨e, B, sI, pins, σ, H, cls, d, rfl, Z.J, Z.nb, Z.up.trans u, .inr (.inr (hs ▸ held)), Z.na, os, ag, w⟩)
  obtain ⟨_, _, _, o, vs, T, _, _, g1, _, g2, g3, _⟩ := id Z.fl
  unfold PySem.passOn
  refine wpAny_bind (wpAny_field g1 g2 g3 ?_)
  have ne : ¬ ((Value.ref T == Value.none) = true) := by simp
  rw [if_neg ne]
  first
    | exact wpAny_bind (wpAny_pure (wpAny_bind last))
    | exact wpAny_bind last
theorem Cls.run (hs : X.stack = X.env :: X.outer) (hf : X.env.frame = some X.env.locals) (nd : X.N.Nodup) (hi : X.N[i]? = some n) (ln : X.env.kindOf n = some .local) (tk : Takes X out) {h : Heap} {s : Shared} (Z : Down X pins σ H sI B e cls d h) (os : s.os = sI.os) (ag : AllBare s.gens) :
    ∀ {hds : List ExceptHandler} {ks : List Cl}, Cls X n hds ks → wish X.K i out D ks cls d σ H → wpAny (model X.prog X.w) X.A (handleBy (.ref e) X.env hds) (SP X pins D) X.xe { s with heap := h }
  | _, _, .stop, w => Z.on hs hf tk os ag w
  | _, _, .more (x := x) (k := k) (p1 := p1) (p2 := p2) nm ru re, w => by
    obtain ⟨yes, ex, w⟩ := w
    have I3 := Z.here os ag
    obtain ⟨n1, n2⟩ := Z.outside hf
    obtain ⟨o3, v3, g3, z3, f3⟩ := Z.fl.there
    have S3 := I3.suite g3 f3 Z.na n1 n2
    have ty : PySem.W.Looks (model X.prog X.w) h (typeOf (.ref e)) cls := fun _ _ _ _ kk q => wpAny_typeOf_ref (kk _ _ g3) (z3.1.symm ▸ q)
    have mt := PySem.W.exm_one (M := model X.prog X.w) I3.kIn ty ex
    have look : ∀ {Q E : Value → Shared → Prop}, Q k.c { s with heap := h } → wpAny (model X.prog X.w) (X.A.mark (some (.ref e))) (eval (.Name x p1) X.env) Q E { s with heap := h } := fun {Q E} q => by
      obtain ⟨gl, db, m1 | ⟨m1, m2, m3⟩⟩ := nm
      · exact ld_glob (X := X.suite e ((e, o3) :: (X.pn ++ pins))) S3 gl m1 q db
      · exact ld_blt (X := X.suite e ((e, o3) :: (X.pn ++ pins))) S3 gl m1 m2 q m3 db
    refine wpAny_handleBy_cons (codeAny_handlers_test (look (mt.here ?_))) fun q => nomatch q
    cases yes with
    | false => exact Cls.run hs hf nd hi ln tk Z os ag re w
    | true =>
      refine codeAny_handlers_suite_as (HandSPX.lands_againZ Z.fl fun g fl u => ?_)
      have Z4 : Down X pins σ H sI B e cls d g := ⟨Z.J, Z.nb, Z.up.trans u, fl, Z.na⟩
      have I4 := Z4.here os ag
      obtain ⟨o4, v4, g4, z4, f4⟩ := fl.there
      refine store_ok (X := X.suite e ((e, o4) :: (X.pn ++ pins))) (v := .ref e) (I4.suite g4 f4 Z.na n1 n2) nd hi (.inl ln) rfl (fun s5 S5 => ?_) (.inr ln)
      have run5 := (ru e o4 cls d (X.pn ++ pins) z4 ⟨v4, f4⟩).run [] s5 _ H (bare i D) S5 (w e Z.na)
      refine wpAny_mono run5 (fun fw s6 r6 => ?_) fun _ _ z => z.elim
      have gone : ∀ {σ6 : L2.St} {H6 : Hp} {q : Addr × Obj} {Q : Shared → Prop}, Inv (X.suite e (q :: (X.pn ++ pins))) [] σ6 H6 s6 → (∀ s7, Inv X pins (σ6.set i none) H6 s7 → Q s7) → wpAny (model X.prog X.w) X.A (do bindName X.env n .none; unbindBehindTheSuite X.env n p2) (fun _ s7 => Q s7) X.xe s6 :=
        fun S6 k => gone_ok (S6.unsuite Z.J.ok) nd hi ln k
      match fw, r6 with
      | .next, ⟨σ6, H6, S6, k6⟩ => exact gone S6 fun s7 I7 => ⟨_, _, I7, k6⟩
      | .brk, ⟨σ6, H6, S6, k6⟩ => exact gone S6 fun s7 I7 => ⟨_, _, I7, k6⟩
      | .cont, ⟨σ6, H6, S6, k6⟩ => exact gone S6 fun s7 I7 => ⟨_, _, I7, k6⟩
      | .ret v, ⟨v6, σ6, H6, S6, rv, k6⟩ => exact gone S6 fun s7 I7 => ⟨_, _, _, I7, rv, k6⟩
variable {body : List Stmt} {hd : ExceptHandler} {hds : List ExceptHandler} {ks : List Cl} {pos : Pos} {tb : WX → TS}
/-- the rule -/
theorem ps_try_asN (hs : X.stack = X.env :: X.outer) (hf : X.env.frame = some X.env.locals) (nd : X.N.Nodup) (hi : X.N[i]? = some n) (ln : X.env.kindOf n = some .local) (tk : Takes X out)
    (hb : ∀ (W : WX) (pn : List (Addr × Obj)) (xe : Value → Shared → Prop), Takes (X.tr pn xe) W → PassesOwn (model X.prog X.w) X.A X.env xe → PSs (X.tr pn xe) body (tb W)) (hh : Cls X n (hd :: hds) ks) :
    PS X (.Try body (hd :: hds) [] [] pos) fun D σ H => tb (wish X.K i out D ks) D σ H := by
  refine ⟨fun pins s σ H D I h => wpAny_Try_except ?_⟩
  have fr : X.A.frames = some (X.env :: X.outer) := I.ok.frames.trans (congrArg some hs)
  refine wpAny_mono ((hb _ (X.pn ++ pins) _ ?_ PassesOwn.looking).run [] s σ H D (I.toTry _) h) (fun fw t r => ?_) fun _ _ z => z
  · rintro _ t ⟨e, B, sI, _, σ1, H1, cls, d, rfl, J, nb, up, sky, na, os, ag, w⟩
    refine Sky.land Zc.steady fr hf (hs ▸ sky) fun g fl u => ?_
    exact Cls.run hs hf nd hi ln tk ⟨J.ofTry I.ok, nb, up.trans u, fl, na⟩ os ag hh w
  · match fw, r with
    | .next, ⟨_, _, J, q⟩ => exact wpAny_execs_nil ⟨_, _, J.ofTry I.ok, q⟩
    | .brk, ⟨_, _, J, q⟩ => exact ⟨_, _, J.ofTry I.ok, q⟩
    | .cont, ⟨_, _, J, q⟩ => exact ⟨_, _, J.ofTry I.ok, q⟩
    | .ret v, ⟨_, _, _, J, rv, q⟩ => exact ⟨_, _, _, J.ofTry I.ok, rv, q⟩
end
end TryAs

namespace IsX
open PySem L2
/-! ### isinstance of a caught error that bears a field -/
structure XiC (K : PySem.W.Frag) (D : Addr) : Prop where
  xf : XfC K D
  ic : (PySem.W.clsIn K D).isSome = true
  c1 : PySem.W.findIn K (.ref D) "__class__" = some (some (.builtin "object.__class__"))
  c2 : PySem.W.specialIn K (.builtin "object.__class__") "__get__" = some (some (.builtin "getset_descriptor.__get__"))
  c3 : PySem.W.takesIn K (.builtin "object.__class__") = some true
  c4 : PySem.W.mroIn K D (.type "object") = some true
def rIsX (K : PySem.W.Frag) (D a : Addr) (cls : Value) (d : Option Addr) : List V → Hp → VK → Prop := fun xs H Q => ∃ (c : V) (cv : Value) (b : Bool) (dd : Addr) (fs : List (Str × V)), xs = [.ref a, c] ∧ (∀ u, RelV c u → u = cv) ∧ cls = .ref D ∧ d = some dd ∧ H dd = some (.xd fs) ∧ PySem.W.kitOne K (.ref D) cv = some b ∧ Q (.bl b) H
theorem call_isX {X : Cx} {a D : Addr} {oe : Obj} {cls : Value} {d : Option Addr} {pn : List (Addr × Obj)} (C : XiC X.K D) (hz : Zc cls d oe) (hf : ∃ vs, oe.data = .fields vs) : CallR (X.suite a ((a, oe) :: pn)) (.builtin "isinstance") (rIsX X.K D a cls d) := by
  intro pins s σ H xs us Q I r h
  obtain ⟨c, cv, b, dd, fs, rfl, hcv, rfl, rfl, hdd, e, q⟩ := h
  cases r with
  | cons rx rr =>
    cases rr with
    | cons rt rr =>
      cases rr
      cases rx
      cases hcv _ rt
      obtain ⟨hget, _⟩ := I.pin (a, oe) (List.mem_append.mpr (.inl List.mem_cons_self))
      obtain ⟨vs, hv⟩ := hf
      have hx : ObjOk X.prog X.w H s.heap dd (.xd fs) := I.hok dd _ hdd
      obtain ⟨mA, hns, _⟩ := hx
      obtain ⟨od, ho, _⟩ := lookIn_ns hns
      have J : PySem.W.InstAt s.heap a oe D (some od) := ⟨hget, hz.1, by unfold PySem.W.notCls; rw [hv] <;> rfl, by rw [hz.2]; exact ho⟩
      exact PySem.W.kia_one (PySem.W.kitx_exc (gt := none) C.ic C.xf.ga C.xf.gg C.xf.exC C.c1 C.c2 C.c3 C.c4) I.kIn J e (fun z => nomatch z) fun tk => ⟨.bl b, H, I.kept (t' := tk) fun _ _ z => z, rfl, q⟩
/-- the slots are as many as the names -/
theorem takes_len {X : Cx} {W : WX} (tk : Takes X W) : Takes X (fun cls d σ H => σ.length = X.N.length → W cls d σ H) := fun u s2 ⟨a, B, sI, pins, σ, H, cls, d, e, I, nb, up, sky, na, os, ag, h⟩ =>
  tk u s2 ⟨a, B, sI, pins, σ, H, cls, d, e, I, nb, up, sky, na, os, ag, h I.len⟩
theorem len3 {σ : St} (h : σ.length = 3) : ∃ a b c, σ = [a, b, c] := by
  match σ, h with
  | [a, b, c], _ => exact ⟨a, b, c, rfl⟩
end IsX

/-! repr of a chain and of a loop, also within an except suite; values that can be shown -/
namespace My
open PySem L2 Cm LM Gd RpA SkT CH
def txC : Str := "cut 1"
def txL : Str := "ask hand"
def shC : Str := ("Chain(" : Str) ++ txC ++ ")"
def shU : Str := ("Loop(" : Str) ++ txL ++ ")"
section
variable {P : Program} {w : World} {K : PySem.W.Frag} {mg : Str → Option Value} {base : Heap}
def spCh (C : Addr) : Sp := fun vs H Q _ => ∃ o : Addr, vs = [.ref o] ∧ ChainAt C H o txC ∧ Q (.str shC) H
def spSr (C : Addr) : Sp := fun vs H Q _ => ∃ o : Addr, vs = [.ref o] ∧ LoopAt C H o txL ∧ Q (.str shU) H
theorem ok_ch (M : TxAm w K mg) : FnOk P w K mg base CX0 1 M.ar.f M.ar.fd ["self"] (spCh M.T.C) := (ok_ar M).imp fun vs H Q E ⟨o, a, b, c⟩ => ⟨o, txC, a, b, (show txC.length ≤ 100000 by decide +kernel), c⟩
theorem ok_chQ (M : TxAm w K mg) : RpH.FnQ P w K mg base 1 M.ar.f (spCh M.T.C) := by
  refine RpH.okQ M.ar.F M.ar.b scAR (fun vs H Q E h => ?_) (fun cdv A outer s H vs Q p hr h => ?_)
  · obtain ⟨o, rfl, _⟩ := h
    rfl
  · obtain ⟨o, rfl, ⟨dx, p, vs, e, _⟩, k⟩ := h
    refine ⟨_, pss_one (ps_ret (pe_joined (.cons pe_str (.cons (pe_fmt (pe_fld (pv 0) rfl)) (.cons pe_str .nil))))), ?_⟩
    refine ⟨_, rfl, szl (by decide +kernel), ?_⟩
    refine ⟨_, rfl, o, M.T.C, dx, _, _, rfl, e, M.T.cl, M.T.nT, cf_text .., .inl ⟨txC, rfl, szl (by decide +kernel), txC, rfl, szl (by decide +kernel), ?_⟩⟩
    refine ⟨_, rfl, szl (by decide +kernel), ?_⟩
    rw [show Str.empty ++ ("Chain(" : Str) ++ txC ++ ")" = shC by decide +kernel]
    exact k
theorem ok_sr (M : TxLr K mg) : FnOk P w K mg base CX0 1 M.lr.f M.lr.fd ["self"] (spSr M.T.C) := (ok_lr M).imp fun vs H Q E ⟨o, a, b, c⟩ => ⟨o, txL, a, b, (show txL.length ≤ 100000 by decide +kernel), c⟩
theorem ok_srQ (M : TxLr K mg) : RpH.FnQ P w K mg base 1 M.lr.f (spSr M.T.C) := by
  refine RpH.okQ M.lr.F M.lr.b scLR (fun vs H Q E h => ?_) (fun cdv A outer s H vs Q p hr h => ?_)
  · obtain ⟨o, rfl, _⟩ := h
    rfl
  · obtain ⟨o, rfl, ⟨dx, pr, pe, po, pq, e, _⟩, k⟩ := h
    refine ⟨_, pss_one (ps_ret (pe_joined (.cons pe_str (.cons (pe_fmt (pe_fld (pv 0) rfl)) (.cons pe_str .nil))))), ?_⟩
    refine ⟨_, rfl, szl (by decide +kernel), ?_⟩
    refine ⟨_, rfl, o, M.T.C, dx, _, _, rfl, e, M.T.cl, M.T.nT, lf_text .., .inl ⟨txL, rfl, szl (by decide +kernel), txL, rfl, szl (by decide +kernel), ?_⟩⟩
    refine ⟨_, rfl, szl (by decide +kernel), ?_⟩
    rw [show Str.empty ++ ("Loop(" : Str) ++ txL ++ ")" = shU by decide +kernel]
    exact k
end
theorem pss_dead {X : Cx} {ss : List Stmt} : PSs X ss (fun _ _ _ => False) := ⟨fun _ _ _ _ _ _ z => z.elim⟩
/-! ### values that can be shown -/
inductive ShV (CA CU : Addr) (H : Hp) (v : V) : Str → Prop
  | dat {d : PyData} : Dq H v d → Sw 1000 64 d → ShV CA CU H v d.shown
  | chn {o : Addr} : v = .ref o → ChainAt CA H o txC → ShV CA CU H v shC
  | src {o : Addr} : v = .ref o → LoopAt CU H o txL → ShV CA CU H v shU
theorem ShV.same {CA CU : Addr} {H H' : Hp} {v : V} {t : Str} (s : Same H H') : ShV CA CU H v t → ShV CA CU H' v t
  | .dat q w => .dat (q.same s) w
  | .chn e h => .chn e (by
      obtain ⟨dx, p, vs, a, b, c⟩ := h
      exact ⟨dx, p, vs, s _ _ a, s _ _ b, c.same s⟩)
  | .src e h => .src e (h.same s)
/-- what is asked of repr's argument -/
def rRep (CA CU : Addr) : List V → Hp → VK → Prop := fun xs H Q => rReprA xs H Q ∨ Own.rTxtO CA (spCh CA) xs H Q ∨ Own.rTxtO CU (spSr CU) xs H Q
theorem rep_of {CA CU : Addr} {H : Hp} {v : V} {t : Str} {Q : VK} (h : ShV CA CU H v t) (q : Q (.str t) H) : rRep CA CU [v] H Q := by
  cases h with
  | dat a b => exact .inl ⟨v, _, 1000, rfl, a, b, szl (Nat.le_refl _), q⟩
  | chn e h =>
    obtain ⟨dx, p, vs, a, _⟩ := id h
    exact .inr (.inl ⟨_, dx, _, by rw [e], a, _, rfl, h, shC, rfl, q⟩)
  | src e h =>
    obtain ⟨dx, _, _, _, _, a, _⟩ := id h
    exact .inr (.inr ⟨_, dx, _, by rw [e], a, _, rfl, h, shU, rfl, q⟩)
section
variable {X : Cx} {ob : Obj}
theorem cr_or {bl : Value} {a b : List V → Hp → VK → Prop} (h1 : CallR X bl a) (h2 : CallR X bl b) : CallR X bl (fun xs H Q => a xs H Q ∨ b xs H Q) := fun pins s σ H xs us Q I r h => h.elim (h1 pins s σ H xs us Q I r) (h2 pins s σ H xs us Q I r)
/-- repr in a def -/
theorem call_rep (A : TxAm X.w X.K X.mg) (U : TxLr X.K X.mg) (hg : X.A.guards = some []) (hr : Room 2 X.A) (sm : X.base.get? sysModules = some ob) : CallR X (.builtin "repr") (rRep A.T.C U.T.C) := by
  have f1 : FnR X.prog X.w X.K X.mg X.base CX0 1 A.ar.f (spCh A.T.C) := ((ok_ch A).raw A.ar.b .nil).imp fun vs H Q E h => by rw [List.append_nil]; exact h
  have f2 : FnR X.prog X.w X.K X.mg X.base CX0 1 U.lr.f (spSr U.T.C) := ((ok_sr U).raw U.lr.b .nil).imp fun vs H Q E h => by rw [List.append_nil]; exact h
  exact cr_or (call_reprA hg (by have := hr.un; omega) sm) (cr_or (Own.call_reprO A.ar.i A.ar.fn f1 hr) (Own.call_reprO U.lr.i U.lr.fn f2 hr))
/-- repr in an except suite -/
theorem call_repQ (A : TxAm X.w X.K X.mg) (U : TxLr X.K X.mg) (hg : X.A.guards = some []) (hr : L2H.RoomH 2 X.A) (hp : ∃ p : Addr × Obj, p ∈ X.pn) (sm : X.base.get? sysModules = some ob) : CallR X (.builtin "repr") (rRep A.T.C U.T.C) :=
  cr_or (call_reprA hg (by have := hr.un; omega) sm) (cr_or (RpH.call_reprQ A.ar.i A.ar.fn (ok_chQ A) hr hp) (RpH.call_reprQ U.lr.i U.lr.fn (ok_srQ U) hr hp))
end
end My

/-! laws that hand lambdas to _law_came: what stays, the tables of code -/
namespace My
open PySem L2
def qLam : Str := ("_law_right" : Str) ++ ".<locals>." ++ "<lambda>"
/-- all but the jar and the tables is as it was -/
def OffN (j : Addr) (H H' : Hp) : Prop := ∀ b o, b ≠ j → (∀ ps, o ≠ .tbl ps) → H b = some o → H' b = some o
theorem OffN.refl {j : Addr} {H : Hp} : OffN j H H := fun _ _ _ _ h => h
theorem OffN.trans {j : Addr} {H H1 H2 : Hp} (a : OffN j H H1) (b : OffN j H1 H2) : OffN j H H2 := fun c o n t h => b c o n t (a c o n t h)
theorem Off.offN {j : Addr} {H H' : Hp} (a : Off j H H') : OffN j H H' := fun c o n _ h => a c o n h
theorem extN_off {j : Addr} {H H' : Hp} (a : LamX.ExtN H H') : OffN j H H' := fun c o _ t h => a c o h t
theorem Jar.ext {j : Addr} {H H' : Hp} (h : Jar H j) (a : LamX.ExtN H H') : Jar H' j := by
  obtain ⟨x, y, z, e⟩ := h
  exact ⟨x, y, z, a _ _ e (by intro ps q; cases q)⟩
theorem tabs_off {T : List (Addr × Str)} {j : Addr} {H H' : Hp} (J : Jar H j) (o : Off j H H') (t : LamX.Tabs T H) : LamX.Tabs T H' := fun p hp => by
  obtain ⟨x, y, z, q⟩ := J
  obtain ⟨ps, a1, a2, a3⟩ := t p hp
  refine ⟨ps, o _ _ (fun e => ?_) a1, a2, fun pos cv hcv => ?_⟩
  · rw [e, q] at a1
    cases a1
  · obtain ⟨c, e, h⟩ := a3 pos cv hcv
    refine ⟨c, e, o _ _ (fun e => ?_) h⟩
    rw [e, q] at h
    cases h
def spRight (PR : Addr) : Sp := fun vs H Q _ => ∃ j : Addr, vs = [.ref j] ∧ Jar H j ∧ LamX.Tabs [(PR, qLam)] H ∧ ∀ H', OffN j H H' → LamX.Tabs [(PR, qLam)] H' → Q (.bl true) H'
/-- the state of a law's turns: the jar, the tables -/
structure Ts (PR j : Addr) (H0 H : Hp) : Prop where
  off : OffN j H0 H
  jar : Jar H j
  tab : LamX.Tabs [(PR, qLam)] H
theorem Ts.same {PR j : Addr} {H0 H H' : Hp} (t : Ts PR j H0 H) (s : Same H H') : Ts PR j H0 H' := ⟨t.off.trans (Same.off s).offN, t.jar.same s, t.tab.ext s⟩
theorem Ts.off' {PR j : Addr} {H0 H H' : Hp} (t : Ts PR j H0 H) (o : Off j H H') (J : Jar H' j) : Ts PR j H0 H' := ⟨t.off.trans o.offN, J, tabs_off t.jar o t.tab⟩
theorem Ts.ext {PR j : Addr} {H0 H H' : Hp} (t : Ts PR j H0 H) (o : LamX.ExtN H H') (T : LamX.Tabs [(PR, qLam)] H') : Ts PR j H0 H' := ⟨t.off.trans (extN_off o), t.jar.ext o, T⟩
end My

/-! try with a clause `except (C1, C2) as n` or `except (C1, C2, C3) as n` -/
namespace TryAs
open PySem PySem.Spec PyProof.Rows L2
def wishT (K : PySem.W.Frag) (i : Nat) (out : WX) (D : Ends) (cs : List Value) (ts : Addr → Value → Option Addr → TS) : WX := fun cls d σ H => ∃ yes, PySem.W.exmAny K cls cs = some yes ∧ cond yes (∀ e, H e = none → ts e cls d (bare i D) (σ.set i (some (.ref e))) H) (out cls d σ H)
/-- a tuple of names, and what it gives -/
inductive TupN (X : Cx) : Expr → List Value → Prop
  | two {x1 x2 : Str} {c1 c2 : Value} {p1 p2 tp : Pos} {kk : Nat} : Names X x1 c1 → Names X x2 c2 → TupN X (.Tuple [.Name x1 p1, .Name x2 p2] kk tp) [c1, c2]
  | three {x1 x2 x3 : Str} {c1 c2 c3 : Value} {p1 p2 p3 tp : Pos} {kk : Nat} : Names X x1 c1 → Names X x2 c2 → Names X x3 c3 → TupN X (.Tuple [.Name x1 p1, .Name x2 p2, .Name x3 p3] kk tp) [c1, c2, c3]
section
variable {X : Cx} {n : Str} {i : Nat} {out : WX} {D : Ends} {pins : List (Addr × Obj)} {σ : L2.St} {H : Hp} {sI : Shared} {B : Heap} {e : Addr} {cls : Value} {d : Option Addr}
theorem flyZ_keeps {base : Heap} {l : List Env} {Z : Obj → Prop} {h h' : Heap} (R : HandSPX.FlyingZ base l e Z h) (k : ∀ b o, h.get? b = some o → h'.get? b = some o) : HandSPX.FlyingZ base l e Z h' := by
  obtain ⟨f1, f2, f3, o, vs, T, oT, ts, g1, g2, g3, g4, g5, g6, g7, g8⟩ := R
  exact ⟨fun b o q => k b o (f1 b o q), f2, f3.of_keeps fun b o q _ => ⟨o, k b o q, rfl⟩, o, vs, T, oT, ts, k _ _ g1, g2, g3, g4, g5, g6, k _ _ g7, g8⟩
theorem Down.keeps {h h' : Heap} (Z : Down X pins σ H sI B e cls d h) (k : ∀ b o, h.get? b = some o → h'.get? b = some o) : Down X pins σ H sI B e cls d h' :=
  ⟨Z.J, Z.nb, Z.up.trans (Heap.UpToSlots.of_keeps k), flyZ_keeps Z.fl k, Z.na⟩
theorem runT (hs : X.stack = X.env :: X.outer) (hf : X.env.frame = some X.env.locals) (nd : X.N.Nodup) (hi : X.N[i]? = some n) (ln : X.env.kindOf n = some .local) (tk : Takes X out) {h : Heap} {s : Shared} (Z : Down X pins σ H sI B e cls d h) (os : s.os = sI.os) (ag : AllBare s.gens)
    {te : Expr} {cs : List Value} {st : Stmt} {sts : List Stmt} {p2 : Pos} {ts : Addr → Value → Option Addr → TS} (tn : TupN X te cs)
    (ru : ∀ (e : Addr) (o : Obj) (cls : Value) (d : Option Addr) (pn : List (Addr × Obj)), Zc cls d o → (∃ vs, o.data = .fields vs) → PSs (X.suite e ((e, o) :: pn)) (st :: sts) (ts e cls d)) (w : wishT X.K i out D cs ts cls d σ H) :
    wpAny (model X.prog X.w) X.A (handleBy (.ref e) X.env [.ExceptHandler (some te) (some n) (st :: sts) p2]) (SP X pins D) X.xe { s with heap := h } := by
  obtain ⟨yes, ex, w⟩ := w
  have I3 := Z.here os ag
  obtain ⟨n1, n2⟩ := Z.outside hf
  obtain ⟨o3, v3, g3, z3, f3⟩ := Z.fl.there
  have S3 := I3.suite g3 f3 Z.na n1 n2
  have ty : PySem.W.Looks (model X.prog X.w) h (typeOf (.ref e)) cls := fun _ _ _ _ kk q => wpAny_typeOf_ref (kk _ _ g3) (z3.1.symm ▸ q)
  have look : ∀ {x : Str} {c : Value} {p1 : Pos} {Q E : Value → Shared → Prop}, Names X x c → Q c { s with heap := h } → wpAny (model X.prog X.w) (X.A.mark (some (.ref e))) (eval (.Name x p1) X.env) Q E { s with heap := h } := fun {x c p1 Q E} nm q => by
    obtain ⟨gl, db, m1 | ⟨m1, m2, m3⟩⟩ := nm
    · exact ld_glob (X := X.suite e ((e, o3) :: (X.pn ++ pins))) S3 gl m1 q db
    · exact ld_blt (X := X.suite e ((e, o3) :: (X.pn ++ pins))) S3 gl m1 m2 q m3 db
  -- behind the test
  have test : ∀ {Q : Bool → Shared → Prop} {E : Value → Shared → Prop}, (∀ h' : Heap, (∀ b o, h.get? b = some o → h'.get? b = some o) → Q yes { s with heap := h' }) →
      wpAny (model X.prog X.w) (X.A.mark (some (.ref e))) (eval te X.env) (fun c s1 => wpAny (model X.prog X.w) (X.A.mark (some (.ref e))) (excMatches (.ref e) c) Q E s1) E { s with heap := h } := fun {Q E} q => by
    cases tn with
    | @two x1 x2 c1 c2 p1 p2 tp kk a1 a2 =>
      refine wpAny_Tuple ?_
      refine wpAny_items_cons (look a1 ?_)
      refine wpAny_items_cons (look a2 ?_)
      refine wpAny_items_nil ⟨by size_fits, ?_⟩
      have kp : ∀ b o, h.get? b = some o → (h.push { cls := .type "tuple", data := .seq [c1, c2].toArray }).get? b = some o := fun _ _ z => Heap.get?_push_of_some _ z
      exact (PySem.W.exm_tup2 (I3.kIn.keeps kp) (ty.keeps kp) (Heap.get?_push_size h rfl) ex).here (q _ kp)
    | @three x1 x2 x3 c1 c2 c3 p1 p2 p3 tp kk a1 a2 a3 =>
      refine wpAny_Tuple ?_
      refine wpAny_items_cons (look a1 ?_)
      refine wpAny_items_cons (look a2 ?_)
      refine wpAny_items_cons (look a3 ?_)
      refine wpAny_items_nil ⟨by size_fits, ?_⟩
      have kp : ∀ b o, h.get? b = some o → (h.push { cls := .type "tuple", data := .seq [c1, c2, c3].toArray }).get? b = some o := fun _ _ z => Heap.get?_push_of_some _ z
      exact (PySem.W.exm_tup3 (I3.kIn.keeps kp) (ty.keeps kp) (Heap.get?_push_size h rfl) ex).here (q _ kp)
  refine wpAny_handleBy_cons (codeAny_handlers_test (test fun h' kp => ?_)) fun q => nomatch q
  have Z' := Z.keeps kp
  cases yes with
  | false => exact Z'.on hs hf tk os ag w
  | true =>
    refine codeAny_handlers_suite_as (HandSPX.lands_againZ Z'.fl fun g fl u => ?_)
    have Z4 : Down X pins σ H sI B e cls d g := ⟨Z'.J, Z'.nb, Z'.up.trans u, fl, Z'.na⟩
    have I4 := Z4.here os ag
    obtain ⟨o4, v4, g4, z4, f4⟩ := fl.there
    refine store_ok (X := X.suite e ((e, o4) :: (X.pn ++ pins))) (v := .ref e) (I4.suite g4 f4 Z.na n1 n2) nd hi (.inl ln) rfl (fun s5 S5 => ?_) (.inr ln)
    have run5 := (ru e o4 cls d (X.pn ++ pins) z4 ⟨v4, f4⟩).run [] s5 _ H (bare i D) S5 (w e Z.na)
    refine wpAny_mono run5 (fun fw s6 r6 => ?_) fun _ _ z => z.elim
    have gone : ∀ {σ6 : L2.St} {H6 : Hp} {q : Addr × Obj} {Q : Shared → Prop}, Inv (X.suite e (q :: (X.pn ++ pins))) [] σ6 H6 s6 → (∀ s7, Inv X pins (σ6.set i none) H6 s7 → Q s7) → wpAny (model X.prog X.w) X.A (do bindName X.env n .none; unbindBehindTheSuite X.env n p2) (fun _ s7 => Q s7) X.xe s6 :=
      fun S6 k => gone_ok (S6.unsuite Z.J.ok) nd hi ln k
    match fw, r6 with
    | .next, ⟨σ6, H6, S6, k6⟩ => exact gone S6 fun s7 I7 => ⟨_, _, I7, k6⟩
    | .brk, ⟨σ6, H6, S6, k6⟩ => exact gone S6 fun s7 I7 => ⟨_, _, I7, k6⟩
    | .cont, ⟨σ6, H6, S6, k6⟩ => exact gone S6 fun s7 I7 => ⟨_, _, I7, k6⟩
    | .ret v, ⟨v6, σ6, H6, S6, rv, k6⟩ => exact gone S6 fun s7 I7 => ⟨_, _, _, I7, rv, k6⟩
variable {body : List Stmt} {pos : Pos} {tb : WX → TS} {te : Expr} {cs : List Value} {st : Stmt} {sts : List Stmt} {p2 : Pos} {ts : Addr → Value → Option Addr → TS}
/-- the rule -/
theorem ps_try_asT (hs : X.stack = X.env :: X.outer) (hf : X.env.frame = some X.env.locals) (nd : X.N.Nodup) (hi : X.N[i]? = some n) (ln : X.env.kindOf n = some .local) (tk : Takes X out) (tn : TupN X te cs)
    (hb : ∀ (W : WX) (pn : List (Addr × Obj)) (xe : Value → Shared → Prop), Takes (X.tr pn xe) W → PassesOwn (model X.prog X.w) X.A X.env xe → PSs (X.tr pn xe) body (tb W))
    (ru : ∀ (e : Addr) (o : Obj) (cls : Value) (d : Option Addr) (pn : List (Addr × Obj)), Zc cls d o → (∃ vs, o.data = .fields vs) → PSs (X.suite e ((e, o) :: pn)) (st :: sts) (ts e cls d)) :
    PS X (.Try body [.ExceptHandler (some te) (some n) (st :: sts) p2] [] [] pos) fun D σ H => tb (wishT X.K i out D cs ts) D σ H := by
  refine ⟨fun pins s σ H D I h => wpAny_Try_except ?_⟩
  have fr : X.A.frames = some (X.env :: X.outer) := I.ok.frames.trans (congrArg some hs)
  refine wpAny_mono ((hb _ (X.pn ++ pins) _ ?_ PassesOwn.looking).run [] s σ H D (I.toTry _) h) (fun fw t r => ?_) fun _ _ z => z
  · rintro _ t ⟨e, B, sI, _, σ1, H1, cls, d, rfl, J, nb, up, sky, na, os, ag, w⟩
    refine Sky.land Zc.steady fr hf (hs ▸ sky) fun g fl u => ?_
    exact runT hs hf nd hi ln tk ⟨J.ofTry I.ok, nb, up.trans u, fl, na⟩ os ag tn ru w
  · match fw, r with
    | .next, ⟨_, _, J, q⟩ => exact wpAny_execs_nil ⟨_, _, J.ofTry I.ok, q⟩
    | .brk, ⟨_, _, J, q⟩ => exact ⟨_, _, J.ofTry I.ok, q⟩
    | .cont, ⟨_, _, J, q⟩ => exact ⟨_, _, J.ofTry I.ok, q⟩
    | .ret v, ⟨_, _, _, J, rv, q⟩ => exact ⟨_, _, _, J.ofTry I.ok, rv, q⟩
end
end TryAs

/-! what a law's _law_came asks of the classes that it catches -/
namespace CmH
open PySem L2 IsX
theorem ss_imp {X : Cx} {ss : List Stmt} {t t' : L2.TS} (h : PSs X ss t) (f : ∀ D σ H, t' D σ H → t D σ H) : PSs X ss t' := ⟨fun pins s σ H D I q => h.run pins s σ H D I (f _ _ _ q)⟩
/-- an error with a field; CB its own base, bt Python's -/
structure HF (K : PySem.W.Frag) (fld : Str) (bt : String) (C CB : Addr) : Prop where
  x : XiC K C
  n : PySem.W.findIn K (.ref C) fld = some none
  k1 : PySem.W.kitOne K (.ref C) (.ref CB) = some true
  k2 : PySem.W.kitOne K (.ref C) (.type bt) = some true
/-- an error without fields -/
structure HN (K : PySem.W.Frag) (bt : String) (C CB : Addr) : Prop where
  x : ExcC K C
  k1 : PySem.W.kitOne K (.ref C) (.ref CB) = some true
  k2 : PySem.W.kitOne K (.ref C) (.type bt) = some true
def tRowF (D : Addr) (nm fld : Str) (a : Addr) (cls : Value) (d : Option Addr) : L2.TS := fun Z σ H => cls = .ref D ∧ ∃ (dd : Addr) (v : V), d = some dd ∧ H dd = some (.xd [(fld, v)]) ∧ σ[2]? = some (some (.ref a)) ∧ ∀ p, H p = none → Z.rt (.ref p) (upd H p (.lst [.str nm, v, .bl true]))
def tRowN (D : Addr) (nm : Str) (a : Addr) (cls : Value) (d : Option Addr) : L2.TS := fun Z σ H => cls = .ref D ∧ d = none ∧ σ[2]? = some (some (.ref a)) ∧ ∀ p, H p = none → Z.rt (.ref p) (upd H p (.lst [.str nm, .bl true]))
def tGiv : L2.TS := fun D σ H => ∃ u : V, σ[1]? = some (some u) ∧ ∀ p, H p = none → D.rt (.ref p) (upd H p (.lst [.str "given", u]))
end CmH

/-! _law_came: one clause with three classes -/
namespace My
open PySem L2 Cm LM IsX CmH Gd RpA SkT
abbrev sCame : Stmt := top 53
/-- an error of one of the classes, and what isinstance tells of it -/
structure CFa (K : PySem.W.Frag) (n0 n1 n2 iE sE zE : Addr) (c : Addr) (b0 b1 b2 : Bool) : Prop where
  x : XiC K c
  n : PySem.W.findIn K (.ref c) "value" = some none
  k0 : PySem.W.kitOne K (.ref c) (.ref n0) = some b0
  k1 : PySem.W.kitOne K (.ref c) (.ref n1) = some b1
  k2 : PySem.W.kitOne K (.ref c) (.ref n2) = some b2
  kI : PySem.W.kitOne K (.ref c) (.ref iE) = some true
  kS : PySem.W.kitOne K (.ref c) (.ref sE) = some false
  kZ : PySem.W.kitOne K (.ref c) (.ref zE) = some false
  ex : PySem.W.exmAny K (.ref c) [.ref n0, .ref n1, .ref n2] = some true
structure TxCm (w : World) (K : PySem.W.Frag) (mg : Str → Option Value) (c0 c1 c2 : Addr) where
  A : TxAm w K mg
  U : TxLr K mg
  isi : mg "isinstance" = none
  repr : mg "repr" = none
  iE : Addr
  sE : Addr
  zE : Addr
  g0 : mg "NotAChain" = some (.ref c0)
  g1 : mg "InvalidItems" = some (.ref c1)
  g2 : mg "InvalidPlace" = some (.ref c2)
  gI : mg "InputError" = some (.ref iE)
  gS : mg "StateError" = some (.ref sE)
  gZ : mg "SizeError" = some (.ref zE)
  f0 : CFa K c0 c1 c2 iE sE zE c0 true false false
  f1 : CFa K c0 c1 c2 iE sE zE c1 false true false
  f2 : CFa K c0 c1 c2 iE sE zE c2 false false true
  cm : Df K mg "_law_came" sCame ["_law_ask"]
abbrev NCm : List Str := ["_law_ask", "_law_given", "e", "_law_kinds"]
theorem scCame : FnScope NCm ["_law_ask"] (defScope sCame) := ⟨rfl, rfl, rfl, by decide +kernel, rfl, by decide +kernel, by decide +kernel⟩
def rowV (b0 b1 b2 : Bool) (t : Str) : List V := [.bl b0, .bl b1, .bl b2, .bl true, .bl false, .bl false, .str t]
/-- what the suite is asked -/
def tRw {K : PySem.W.Frag} {w : World} {mg : Str → Option Value} {c0 c1 c2 : Addr} (T : TxCm w K mg c0 c1 c2) (a : Addr) (cls : Value) (d : Option Addr) : L2.TS := fun Z σ H => ∃ (c : Addr) (b0 b1 b2 : Bool), cls = .ref c ∧ CFa K c0 c1 c2 T.iE T.sE T.zE c b0 b1 b2 ∧
  ∃ (dd : Addr) (v : V) (t : Str), d = some dd ∧ H dd = some (.xd [("value", v)]) ∧ ShV T.A.T.C T.U.T.C H v t ∧ σ.length = 4 ∧ σ[2]? = some (some (.ref a)) ∧ ∀ (H' : Hp) (p : Addr), Same H H' → H p = none → H' p = some (.lst (rowV b0 b1 b2 t)) → Z.rt (.ref p) H'
/-- what _law_came makes of a call that is refused -/
def TCame {K : PySem.W.Frag} {w : World} {mg : Str → Option Value} {c0 c1 c2 : Addr} (T : TxCm w K mg c0 c1 c2) : (XK → Hp → VK → Prop) → Hp → VK → Prop := fun tl H Q =>
  tl (fun cls d H2 => ∃ (c : Addr) (b0 b1 b2 : Bool), cls = .ref c ∧ CFa K c0 c1 c2 T.iE T.sE T.zE c b0 b1 b2 ∧ ∃ (dd : Addr) (v : V) (t : Str), d = some dd ∧ H2 dd = some (.xd [("value", v)]) ∧ ShV T.A.T.C T.U.T.C H2 v t ∧ ∀ (H' : Hp) (p : Addr), Same H2 H' → H2 p = none → H' p = some (.lst (rowV b0 b1 b2 t)) → Q (.ref p) H') H
    (fun v H' => ∃ (u : V) (b : Bool), some (some v) = some (some u) ∧ u = .bl b ∧ ∀ p, H' p = none → Q (.ref p) (upd H' p (.lst [.str "given", .str (PyData.bool b).shown])))
def tGiv : L2.TS := fun D σ H => ∃ (u : V) (b : Bool), σ[1]? = some (some u) ∧ u = .bl b ∧ ∀ p, H p = none → D.rt (.ref p) (upd H p (.lst [.str "given", .str (PyData.bool b).shown]))
theorem len4 {α : Type} {xs : List α} (h : xs.length = 4) : ∃ a b c d, xs = [a, b, c, d] := by
  match xs, h with
  | [a, b, c, d], _ => exact ⟨a, b, c, d, rfl⟩
theorem came_gives {X : Cx} {c0 c1 c2 : Addr} {cdg : Value} {q : Str} {ob : Obj} (T : TxCm X.w X.K X.mg c0 c1 c2) (hg : X.A.guards = some []) (hr : Room 6 X.A) (sm : X.base.get? sysModules = some ob) :
    LamX.GivesTo X NCm "_law_came" (defScope sCame) T.cm.f cdg (defBody sCame) "_law_ask" q (TCame T) := by
  intro f c' s H Q tl act hc h
  have hg1 : (X.A.deeper (PyProof.Rows.envOfC "_law_came" (defScope sCame) s.heap.objs.size T.cm.f cdg)).guards = some [] := hg
  have hu1 : (X.A.deeper (PyProof.Rows.envOfC "_law_came" (defScope sCame) s.heap.objs.size T.cm.f cdg)).units + 66 < cLine := by
    have := hr.un
    show X.A.units + 3 + 66 < cLine
    omega
  refine ⟨_, pss_cons (TryAs.ps_try_asT (X := (cxOf C8.CX0 X.prog X.w X.K X.mg X.base NCm "_law_came" (defScope sCame) T.cm.f cdg X.A X.stack s H C8.E0).nox) (i := 2) (n := "e") (cs := [.ref c0, .ref c1, .ref c2]) (ts := tRw T)
      (tb := fun W D σ H => ∃ Ech : XK, (∀ (cls : Value) (d : Option Addr) (σ' : L2.St) (H' : Hp), Ech cls d H' → σ'.length = 4 → W cls d σ' H') ∧ σ[0]? = some (some (.ref f)) ∧ H c' = some (LamX.CodeO c' q) ∧ tl Ech H fun v H2 => gName 1 v σ H2 D.nx)
      (out := fun _ _ _ _ => False) rfl rfl scCame.nd rfl rfl LamX.takes0 (.three ⟨rfl, by decide, .inl T.g0⟩ ⟨rfl, by decide, .inl T.g1⟩ ⟨rfl, by decide, .inl T.g2⟩) (fun W pn xe tk _ => ?_) (fun a oe cls d pn hz hf => ?_))
    (ss_imp (t' := tGiv) (pss_one (ps_ret (pe_lst (pa_cons pe_str (pa_cons (pe_callB (call_reprA hg1 hu1 sm) (by rfl) T.repr (by decide +kernel) (pa_cons (pv 1) pa_nil)) pa_nil))))) (fun D σ H ⟨u, b, hσ, eb, k⟩ => ⟨_, hσ, u, .bool b, 1000, rfl, (by rw [eb]; exact .bl b), (SkT.sw_bl b).mono (by decide) (by decide), szl (Nat.le_refl _), (by show 2 ≤ sizeLine; decide), k⟩)), ?_⟩
  · refine ⟨fun pins s2 σ H2 D I hh => ?_⟩
    obtain ⟨Ech, hW, h1, h2, h3⟩ := hh
    have hp := fun p1 p2 => act _ pn xe Ech p1 p2 (takes_len tk) (fun cls d σ' H' z => hW cls d σ' H' z)
    exact (pss_one (ps_set (i := 1) scCame.nd rfl (.inl rfl) (hp _ _))).run pins s2 σ H2 D I ⟨h1, h2, h3⟩
  · by_cases hcl : ∃ (c : Addr) (b0 b1 b2 : Bool), cls = .ref c ∧ CFa X.K c0 c1 c2 T.iE T.sE T.zE c b0 b1 b2
    · obtain ⟨c, b0, b1, b2, rfl, F⟩ := hcl
      have hgS : ((cxOf C8.CX0 X.prog X.w X.K X.mg X.base NCm "_law_came" (defScope sCame) T.cm.f cdg X.A X.stack s H C8.E0).nox.suite a ((a, oe) :: pn)).A.guards = some [] := hg
      have hrS : L2H.RoomH 2 ((cxOf C8.CX0 X.prog X.w X.K X.mg X.base NCm "_law_came" (defScope sCame) T.cm.f cdg X.A X.stack s H C8.E0).nox.suite a ((a, oe) :: pn)).A := ⟨by have := hr.dp; show X.A.depth + 1 + 3 * 2 + 5 < _; omega, by have := hr.un; show X.A.units + 3 + 16 * 2 + 200 < _; omega⟩
      refine ss_imp (pss_cons (ps_set (i := 3) scCame.nd rfl (.inl rfl) (pe_lst (pa_cons (pe_callB (call_isX F.x hz hf) (by rfl) T.isi (by decide +kernel) (pa_cons (pv 2) (pa_cons (pe_glob (v := .ref c0) rfl T.g0 rfl) pa_nil))) (pa_cons (pe_callB (call_isX F.x hz hf) (by rfl) T.isi (by decide +kernel) (pa_cons (pv 2) (pa_cons (pe_glob (v := .ref c1) rfl T.g1 rfl) pa_nil))) (pa_cons (pe_callB (call_isX F.x hz hf) (by rfl) T.isi (by decide +kernel) (pa_cons (pv 2) (pa_cons (pe_glob (v := .ref c2) rfl T.g2 rfl) pa_nil))) pa_nil))))) (pss_one (ps_ret (pe_op op_cat (pv 3) (pe_lst (pa_cons (pe_callB (call_isX F.x hz hf) (by rfl) T.isi (by decide +kernel) (pa_cons (pv 2) (pa_cons (pe_glob (v := .ref T.iE) rfl T.gI rfl) pa_nil))) (pa_cons (pe_callB (call_isX F.x hz hf) (by rfl) T.isi (by decide +kernel) (pa_cons (pv 2) (pa_cons (pe_glob (v := .ref T.sE) rfl T.gS rfl) pa_nil))) (pa_cons (pe_callB (call_isX F.x hz hf) (by rfl) T.isi (by decide +kernel) (pa_cons (pv 2) (pa_cons (pe_glob (v := .ref T.zE) rfl T.gZ rfl) pa_nil))) (pa_cons (pe_callB (call_repQ (X := (cxOf C8.CX0 X.prog X.w X.K X.mg X.base NCm "_law_came" (defScope sCame) T.cm.f cdg X.A X.stack s H C8.E0).nox.suite a ((a, oe) :: pn)) T.A T.U hgS hrS ⟨_, List.mem_cons_self⟩ sm) (by rfl) T.repr (by decide +kernel) (pa_cons (pe_xf F.x.xf F.n hz hf (pv 2)) pa_nil)) pa_nil))))))))) ?_
      rintro Z σ H2 ⟨c', b0', b1', b2', ec, F', dd, v, t, rfl, hdd, hv, hl, hσ, k⟩
      have ecc : c = c' := by injection ec
      subst ecc
      have eb0 : b0' = b0 := Option.some.inj (F'.k0.symm.trans F.k0)
      have eb1 : b1' = b1 := Option.some.inj (F'.k1.symm.trans F.k1)
      have eb2 : b2' = b2 := Option.some.inj (F'.k2.symm.trans F.k2)
      subst eb0 eb1 eb2
      obtain ⟨x0, x1, x2, x3, rfl⟩ := len4 hl
      have e2 : x2 = some (.ref a) := Option.some.inj hσ
      subst e2
      refine ⟨_, rfl, .ref c0, .ref c0, _, dd, _, rfl, fun u z => z, rfl, rfl, hdd, F.k0, ?_⟩
      refine ⟨_, rfl, .ref c1, .ref c1, _, dd, _, rfl, fun u z => z, rfl, rfl, hdd, F.k1, ?_⟩
      refine ⟨_, rfl, .ref c2, .ref c2, _, dd, _, rfl, fun u z => z, rfl, rfl, hdd, F.k2, (by show 3 ≤ sizeLine; decide), fun p1 n1 => ?_⟩
      have s1 := same_new (o := .lst [.bl b0', .bl b1', .bl b2']) n1
      have hd1 := s1 _ _ hdd
      refine ⟨_, rfl, _, rfl, .ref T.iE, .ref T.iE, _, dd, _, rfl, fun u z => z, rfl, rfl, hd1, F.kI, ?_⟩
      refine ⟨_, rfl, .ref T.sE, .ref T.sE, _, dd, _, rfl, fun u z => z, rfl, rfl, hd1, F.kS, ?_⟩
      refine ⟨_, rfl, .ref T.zE, .ref T.zE, _, dd, _, rfl, fun u z => z, rfl, rfl, hd1, F.kZ, ?_⟩
      refine ⟨_, rfl, rfl, rfl, dd, _, v, rfl, hd1, by simp [List.lookup], ?_⟩
      refine rep_of (hv.same s1) ⟨(by show 4 ≤ sizeLine; decide), fun p2 n2 => ?_⟩
      have s2 := same_new (o := .lst [.bl true, .bl false, .bl false, .str t]) n2
      refine ⟨p1, p2, _, _, rfl, rfl, s2 _ _ upd_same, upd_same, (by show 7 ≤ sizeLine; decide), fun p np => ?_⟩
      exact k _ p (Same.trans s1 (Same.trans s2 (same_new np))) (s1.free (s2.free np)) upd_same
    · exact ⟨fun pins s σ H D I ⟨c, b0, b1, b2, e, F, _⟩ => absurd ⟨c, b0, b1, b2, e, F⟩ hcl⟩
  · refine ⟨_, fun cls d σ' H' hh hl => ?_, rfl, hc, h⟩
    obtain ⟨c, b0, b1, b2, rfl, F, dd, v, t, rfl, hdd, hv, k⟩ := hh
    obtain ⟨x0, x1, x2, x3, rfl⟩ := len4 hl
    exact ⟨true, F.ex, fun e ne => ⟨c, b0, b1, b2, rfl, F, dd, v, t, rfl, hdd, hv, rfl, rfl, k⟩⟩
end My

/-! sum of a tuple of ints, a tuple times any count, xs += ys of lists -/
namespace RwR
open PySem PySem.Spec PyProof.Rows L2 Cm
section
variable {prog : Program} {w : World} {A : Around} {E : Value → Shared → Prop} {s : Shared} {l : Addr} {xs : Array (Int × Tok)}
theorem sum_intTupG {Q : Value → Shared → Prop} (hh : A.handled = none) (hl : s.heap.IsTuple l (intItems xs))
    (h : ∀ h' tk t', (∀ b o, s.heap.get? b = some o → h'.get? b = some o) → Q (.int (preSum (numAt xs) xs.size) t') { s with heap := h', toks := tk }) :
    wpAny (model prog w) A (call (.builtin "sum") [.ref l]) Q E s := by
  have hlt : l < s.heap.objs.size := by obtain ⟨_, e, _⟩ := hl; exact Heap.lt_size e
  refine call_sum_walkG (wpAny_pyIter_tuple hl ?_)
  refine ⟨_, [_, l], [_], _, _, _, numAt xs, rfl, Walks.tuple (A := A.in1) hh _ l (Nat.ne_of_lt hlt) (intItems xs), ⟨⟨_, Heap.get?_push_size _ rfl, rfl, rfl⟩, hl.push _⟩, fun c hc => ?_, (fun _ _ => intItems_at), fun h' tk t' hk => ?_⟩
  · show c < (s.heap.push _).objs.size
    rw [Heap.size_push]
    rcases List.mem_cons.mp hc with rfl | hc
    · exact Nat.lt_succ_self _
    · rcases List.mem_cons.mp hc with rfl | hc
      · exact Nat.lt_succ_of_lt hlt
      · cases hc
  · have hold : ∀ b o, s.heap.get? b = some o → h'.get? b = some o := fun b o e => by
      refine hk b o (fun hm => ?_) (Heap.get?_push_of_some _ e)
      rcases List.mem_cons.mp hm with e1 | hm
      · exact absurd (e1 ▸ Heap.lt_size e) (Nat.lt_irrefl _)
      · cases hm
    have := h h' tk t' hold
    simpa [intItems] using this
end
section
variable {X : Cx}
/-- sum(t) -/
def rSumT (K : PySem.W.Frag) : List V → Hp → VK → Prop := fun vs H Q => ∃ (a : Addr) (ns : List Int), vs = [V.ref a] ∧ SqT K H a (ns.map V.int) ∧ Q (.int ns.sum) H
theorem cr_sumT (hc : X.calm = true) : CallR X (.builtin "sum") (rSumT X.K) := by
  intro pins s σ H vs us Q I r h
  obtain ⟨a, ns, rfl, hs, q⟩ := h
  obtain ⟨its, rv, hl, _⟩ := I.tuple hs
  rw [Vals.ref1 r]
  have hi := rv.ints
  obtain ⟨xs, e⟩ := hi.allInts.items
  have hn : numsOf (intItems xs).toList = ns := by rw [← e]; exact hi.numsOf
  rw [nums_intItems] at hn
  rw [e] at hl
  refine sum_intTupG (I.ok.hd hc) hl fun h' tk t' hk => ?_
  rw [preSum_eq, List.take_of_length_le (by simp), hn]
  exact ⟨.int _, H, I.kept hk, ⟨_, rfl⟩, q⟩
/-- xs += ys -/
def rIadd : V → V → Hp → VK → Prop := fun x y H Q => ∃ l b xs zs, x = .ref l ∧ y = .ref b ∧ H l = some (.lst xs) ∧ H b = some (.lst zs) ∧ xs.length + zs.length ≤ sizeLine ∧ Q (.ref l) (upd H l (.lst (xs ++ zs)))
theorem ip_iadd : PIp X .Add rIadd := by
  intro pins s σ H x y v u Q I rx ry h
  obtain ⟨l, b, xs, zs, rfl, rfl, hH, hB, hz, q⟩ := h
  cases rx
  cases ry
  obtain ⟨z, its, n, r, hl, e⟩ := I.lstM hH
  obtain ⟨z2, its2, n2, r2, hl2, e2⟩ := I.lstM hB
  have hsz : its.toArray.size + its2.toArray.size ≤ sizeLine := by rw [List.size_toArray, List.size_toArray]; omega
  have hlong : ¬ (!its.toArray.isEmpty && Builtin.List.listTooLong (its.toArray.size + its2.toArray.size)) = true := by
    rw [notLongL hsz, Bool.and_false]
    exact Bool.false_ne_true
  have ta : s.TypeIs (.ref l) "list" := ⟨_, e, rfl⟩
  have tb : s.TypeIs (.ref b) "list" := ⟨_, e2, rfl⟩
  have hseq : isSeqSlot (some (.builtin "list.__iadd__")) = true := by decide +kernel
  have hfi : fillsInplaceSlot (.type "list") "add" (Operator.Add == .Add) = pure false := by
    unfold fillsInplaceSlot
    show (typeLookup (.type "list") (dunderI "add") >>= fun fi => pure (fi.isSome && !isSeqSlot fi)) = pure false
    rw [PySem.F.slot_list_iadd.lookup]
    show (pure (true && !isSeqSlot (some (.builtin "list.__iadd__"))) : Sem Bool) = pure false
    rw [hseq]
    rfl
  unfold inplaceOp
  refine wpAny_holding ?_
  refine wpAny_bind (wpAny_typeOf ta (wpAny_bind (wpAny_of_eq hfi ?_)))
  show wpAny _ _ (if false = true then _ else _) _ _ s
  rw [if_neg Bool.false_ne_true]
  refine wpAny_bind (PyProof.Rows.binaryOp1_none (nm := "add") ta tb PySem.noFill_list_add ?_)
  refine wpAny_bind (wpAny_of_eq (PySem.seqSlot_of (T := "list") (name := dunderI "add") (id := "list.__iadd__") PySem.F.slot_list_iadd.lookup hseq) ?_)
  refine wpAny_bind (wpAny_rule (call_meets PySem.F.slot_list_iadd ta PySem.F.entry_list_iadd (PySem.F.args_list_iadd_2 _ _)
    (AutoSeq1.list___iadd___list_list_0 l its.toArray n b its2.toArray n2 hlong (by rw [List.size_toArray]; omega) (by omega)) ⟨e, e2, ?_⟩))
  refine ⟨.ref l, _, I.lset (its' := its ++ its2) hH e (by simp) (r.append r2) ?_, rfl, q⟩
  rw [List.length_append]
  omega
/-- a tuple times any count -/
theorem tuple_mul_same (l : Addr) (items : Array Value) (n : Nat) (dd : Option Addr) (sl : Array (Option Value)) (x : Int) (u : Tok) (c0 : (decide (x < -(2 ^ 63)) || decide (x ≥ 2 ^ 63)) = false) (c1 : (items.isEmpty || x == 1) = true) :
    Meets (Builtin.«tuple.__mul__» ⟨[.ref l, .int x u], []⟩) (fun _ R s => s.heap.get? l = some { cls := .type "tuple", dict := dd, data := .seq items n, slots := sl } ∧ R (.ok (.ret (Value.ref l))) s) :=
  .of_wp fun prog w A R s h => by
    obtain ⟨hp, g, d, tk, os⟩ := s
    obtain ⟨hl, h⟩ := h
    have f1 := AutoSeq1.idx_int
    wp_walk using wpAny_loadPart' hl
    repeat (first
      | (refine wpAny_ite_false (decide_eq_false (by rw [c0]; exact Bool.false_ne_true)) ?_; wp_walk using wpAny_loadPart' hl)
      | (refine wpAny_ite_true (decide_eq_true c1) ?_; wp_walk using wpAny_loadPart' hl))
    exact ⟨_, rfl, h⟩
theorem tuple_mul_none (l : Addr) (items : Array Value) (n : Nat) (dd : Option Addr) (sl : Array (Option Value)) (x : Int) (u : Tok) (c0 : (decide (x < -(2 ^ 63)) || decide (x ≥ 2 ^ 63)) = false) (c1 : (items.isEmpty || x == 1) = false) (c2 : (decide (x ≤ 0) || items.isEmpty) = true) :
    Meets (Builtin.«tuple.__mul__» ⟨[.ref l, .int x u], []⟩) (fun _ R s => s.heap.get? l = some { cls := .type "tuple", dict := dd, data := .seq items n, slots := sl } ∧
      R (.ok (.ret (Value.ref s.heap.objs.size))) { s with heap := s.heap.push { cls := Value.type "tuple", data := Data.seq #[] }, toks := s.toks }) :=
  .of_wp fun prog w A R s h => by
    obtain ⟨hp, g, d, tk, os⟩ := s
    obtain ⟨hl, h⟩ := h
    have f1 := AutoSeq1.idx_int
    wp_walk using wpAny_loadPart' hl
    repeat (first
      | (refine wpAny_ite_false (decide_eq_false (by rw [c0]; exact Bool.false_ne_true)) ?_; wp_walk using wpAny_loadPart' hl)
      | (refine wpAny_ite_false (decide_eq_false (by rw [c1]; exact Bool.false_ne_true)) ?_; wp_walk using wpAny_loadPart' hl)
      | (refine wpAny_ite_true (decide_eq_true c2) ?_; wp_walk using wpAny_loadPart' hl)
      | (refine wpAny_ite_false (decide_eq_false (by decide)) ?_; wp_walk using wpAny_loadPart' hl))
    exact ⟨_, rfl, h⟩
def rRepN : R2 := fun x y H Q => ∃ (l : Addr) (k : Nat) (xs : List V), x = .ref l ∧ y = .int k ∧ H l = some (.tup xs) ∧ k < 2 ^ 62 ∧ xs.length ≤ 1000 ∧ (xs ≠ [] → k ≤ 1000) ∧ ∀ (H' : Hp) (q : Addr), Same H H' → H' q = some (.tup (List.replicate k xs).flatten) → Q (.ref q) H'
theorem flat_nil : ∀ k, (List.replicate k ([] : List V)).flatten = []
  | 0 => rfl
  | k + 1 => by rw [List.replicate_succ, List.flatten_cons, flat_nil k]; rfl
theorem op_repN : OpR X (binaryOp .Mult) rRepN := by
  intro pins s σ H x y v u Q I rx ry h
  obtain ⟨l, k, xs, rfl, rfl, hT, hk, hx, hl, q⟩ := h
  by_cases hne : xs ≠ [] ∧ 2 ≤ k
  · refine op_repT pins s σ H _ _ v u Q I rx ry ⟨l, k, xs, rfl, rfl, SqT.of hT, hne.1, by omega, by have := hl hne.1; omega, hx, fun p np => ?_⟩
    rw [Int.toNat_natCast]
    exact q _ p (same_new np) upd_same
  cases rx
  obtain ⟨t, rfl⟩ := ry
  obtain ⟨its, r, ⟨⟨cls, dd, data, sl⟩, ho, hc, n, hd⟩, hs⟩ := I.tuple (SqT.of hT)
  simp only at hc hd
  subst hc hd
  have hle : its.length = xs.length := r.length.symm
  have c0 : (decide ((k : Int) < -(2 ^ 63)) || decide ((k : Int) ≥ 2 ^ 63)) = false := by
    rw [decide_eq_false (by omega), decide_eq_false (by omega)]
    rfl
  by_cases hs1 : xs = [] ∨ k = 1
  · have c1 : (its.toArray.isEmpty || (k : Int) == 1) = true := by
      rcases hs1 with e | e
      · have : its = [] := List.eq_nil_of_length_eq_zero (by rw [hle, e]; rfl)
        rw [this]
        rfl
      · rw [e]
        simp
    refine wpAny_binaryOp_repeat_ref (T := "tuple") (U := "int") (by decide) ⟨_, ho, rfl⟩ (fun s' => typeIs_int s' k t) noFill_tuple_mul F.fills_int_mul F.slot_int_rmul repeat_tuple F.slot_int_index.lookup
      (call_meets F.slot_int_rmul (typeIs_int s k t) F.entry_int_rmul (F.args_int_rmul_2 _ _) (int_rmul_tuple k t l its.toArray n dd sl)
        ⟨ho, rfl, ⟨_, ho, rfl⟩, call_meets F.slot_tuple_mul ⟨_, ho, rfl⟩ F.entry_tuple_mul (F.args_tuple_mul_2 _ _) (tuple_mul_same l its.toArray n dd sl k t c0 c1) ⟨ho, ?_⟩⟩)
    refine ⟨.ref l, H, I, rfl, q H l (Same.refl _) ?_⟩
    rw [hT]
    rcases hs1 with e | e
    · rw [e, flat_nil]
    · rw [e]
      simp
  · have hx0 : xs ≠ [] := fun e => hs1 (.inl e)
    have k0 : k = 0 := by
      have : ¬ 2 ≤ k := fun e => hne ⟨hx0, e⟩
      have : k ≠ 1 := fun e => hs1 (.inr e)
      omega
    subst k0
    have hi : its.toArray.isEmpty = false := by
      cases its with
      | nil => exact absurd (List.eq_nil_of_length_eq_zero hle.symm) hx0
      | cons a b => rfl
    refine wpAny_binaryOp_repeat_ref (T := "tuple") (U := "int") (by decide) ⟨_, ho, rfl⟩ (fun s' => typeIs_int s' _ t) noFill_tuple_mul F.fills_int_mul F.slot_int_rmul repeat_tuple F.slot_int_index.lookup
      (call_meets F.slot_int_rmul (typeIs_int s _ t) F.entry_int_rmul (F.args_int_rmul_2 _ _) (int_rmul_tuple _ t l its.toArray n dd sl)
        ⟨ho, rfl, ⟨_, ho, rfl⟩, call_meets F.slot_tuple_mul ⟨_, ho, rfl⟩ F.entry_tuple_mul (F.args_tuple_mul_2 _ _) (tuple_mul_none l its.toArray n dd sl _ t c0 (by rw [hi]; rfl) rfl) ⟨ho, ?_⟩⟩)
    refine ⟨.ref s.heap.objs.size, _, I.laid (t' := s.toks) (o := .tup []) (fun b ob q => Heap.get?_push_of_some _ q) (Nat.le_refl _) ?_, rfl, q _ _ (same_new (I.hok.fresh (Nat.le_refl _))) upd_same⟩
    exact ⟨Nat.zero_le _, [], .nil, IsTup.new _ _⟩
end
end RwR
namespace RwR
open PySem PySem.Spec PyProof.Rows L2
section
variable {X : Cx} {d : Addr} {es : Array DictEntry} {n : Nat}
/-- d[key] of a dict of the module -/
theorem ix_kd (D : KDict X.K X.w d es n) : IxR X (fun x y H Q => ∃ (z : Str) (u0 : Value) (v0 : V), x = .ref d ∧ y = .str z ∧ PySem.W.nsIn X.K d z = some (some u0) ∧ RelV v0 u0 ∧ Q v0 H) := by
  intro value slice pins s σ H x y v u Q I rx ry h hs
  obtain ⟨z, u0, v0, rfl, rfl, e, r, q⟩ := h
  cases rx
  obtain ⟨t, rfl⟩ := ry
  refine tail_any (kd_type D I) PySem.F.slot_dict_getitem.lookup ?_ hs
  exact wpAny_getItem_of (PySem.strKind_is X.prog X.w z t) (PySem.W.mapOf_K (prog := X.prog) I.kIn D.at_ D.lit) (PySem.W.find_K D.at_ e) ⟨v0, H, I.tok _, r, q⟩
end
end RwR
namespace RwR
open PySem PySem.Spec PyProof.Rows L2
/-- a call of a local name that holds one of several defs of one row of parameters -/
def tCallI {ι : Type} (i : Nat) (fs : ι → Addr) (sps : ι → Sp) (E : XK) (t : TA) : TE := fun σ H Q => ∃ a : ι, σ[i]? = some (some (.ref (fs a))) ∧ t σ H fun vs H1 => sps a vs H1 Q E
theorem pe_callI {X : Cx} {ι : Type} {CX : CXT} {k i : Nat} {fs : ι → Addr} {fds : ι → FuncData} {ps : List Str} {sps : ι → Sp} {E : XK} {x : Str} {p pos : Pos} {e : Expr} {es : List Expr} {t : TA}
    (F : ∀ a, FnOk X.prog X.w X.K X.mg X.base CX k (fs a) (fds a) ps (sps a)) (hr : Room k X.A) (hN : X.N[i]? = some x) (hv : Vis X.env.scope x) (hk : ∀ a, PySem.W.keepIn X.K (.ref (fs a)) = true) (hb : ∀ a, Binds X.K (fds a) ps []) (hx : Passes CX X E) (ha : PA X (e :: es) t)
    (hdb : (x == ("__debug__" : Str)) = false := by decide) (hcd : (x == ("__classdict__" : Str)) = false := by decide)
    (he : starEach (e :: es) X.env = (false, eval e X.env) :: starEach es X.env := by rfl) (hpl : (backTo pos (starEach es X.env)).any (·.1) = false := by rfl) : PE X (.Call (.Name x p) (e :: es) [] pos) (tCallI i fs sps E t) := by
  refine ⟨fun pins s σ H Q I h => ?_⟩
  obtain ⟨a, hs, ht⟩ := h
  refine (pe_callL (i := i) (f := fs a) (sp := sps a) (dvs := []) (E := E) (F a) hr hN hv (hk a) (hb a) .nil hx ha hdb hcd he hpl).run pins s σ H Q I ⟨hs, ?_⟩
  have e0 : (fun (vs : List V) (H1 : Hp) => sps a (vs ++ []) H1 Q E) = fun vs H1 => sps a vs H1 Q E := by
    funext vs H1
    rw [List.append_nil]
  rw [e0]
  exact ht
end RwR

/-! rows of pieces -/
namespace My
open PySem L2 Cm LM CH
abbrev sRI : Stmt := inClass (top 16) 0
abbrev sRM : Stmt := inClass (top 16) 1
abbrev sCS : Stmt := top 18
abbrev sWR : Stmt := top 19
abbrev sFR : Stmt := top 20
abbrev sCR : Stmt := top 21
abbrev sTR : Stmt := top 22
abbrev sRO : Stmt := inClass (top 30) 7
def nvs (xs : List Nat) : List V := (xs.map fun n => ((n : Nat) : Int)).map V.int
theorem nvs_len (xs : List Nat) : (nvs xs).length = xs.length := by simp [nvs]
theorem nvs_app (a b : List Nat) : nvs (a ++ b) = nvs a ++ nvs b := by simp [nvs]
theorem nvs_nil {xs : List Nat} : nvs xs = [] ↔ xs = [] := by simp [nvs]
theorem nvs_get {xs : List Nat} {i : Nat} {x : V} (h : (nvs xs)[i]? = some x) : ∃ n, xs[i]? = some n ∧ x = .int (n : Nat) := by
  unfold nvs at h
  rw [List.getElem?_map, List.getElem?_map] at h
  cases e : xs[i]? with
  | none => rw [e] at h; cases h
  | some n =>
    rw [e] at h
    exact ⟨n, rfl, (Option.some.inj h).symm⟩
theorem nvs_at {xs : List Nat} {i : Nat} (h : i < xs.length) : (nvs xs)[i]? = some (.int (xs.getD i 0 : Nat)) := by
  unfold nvs
  rw [List.getElem?_map, List.getElem?_map, List.getElem?_eq_getElem h, getD_eq h]
  rfl
theorem nvs_take (xs : List Nat) (k : Nat) : (nvs xs).take k = nvs (xs.take k) := by simp [nvs]
theorem isum (xs : List Nat) : (xs.map fun n => ((n : Nat) : Int)).sum = ((xs.sum : Nat) : Int) := by
  induction xs with
  | nil => rfl
  | cons x r ih => rw [List.map_cons, List.sum_cons, ih, List.sum_cons]; omega
/-! ### rows as objects -/
def rf (pu : Addr) (t : Nat) (pl : Addr) : List (Str × V) := [("unit", .ref pu), ("times", .int t), ("last", .ref pl)]
section
variable (pu pl : Addr) (t : Nat)
theorem rf_u : (rf pu t pl).lookup ("unit" : Str) = some (.ref pu) := by kernel_rfl
theorem rf_t : (rf pu t pl).lookup ("times" : Str) = some (.int t) := by kernel_rfl
theorem rf_l : (rf pu t pl).lookup ("last" : Str) = some (.ref pl) := by kernel_rfl
theorem rf_mk : putF "last" (.ref pl) (putF "times" (.int t) (putF "unit" (.ref pu) [])) = rf pu t pl := by kernel_rfl
theorem rf_no : (rf pu t pl).lookup ("many" : Str) = none ∧ (rf pu t pl).lookup ("sizes" : Str) = none ∧ (rf pu t pl).lookup ("piece_at" : Str) = none ∧ (rf pu t pl).lookup ("place_with" : Str) = none := ⟨by kernel_rfl, by kernel_rfl, by kernel_rfl, by kernel_rfl⟩
end
def RowAt (C : Addr) (H : Hp) (o : Addr) (r : Rw) : Prop := ∃ dx pu pl, H o = some (.ins C dx (rf pu r.times pl)) ∧ H pu = some (.tup (nvs r.unit)) ∧ H pl = some (.tup (nvs r.last))
theorem RowAt.same {C : Addr} {H H' : Hp} {o : Addr} {r : Rw} (s : Same H H') (h : RowAt C H o r) : RowAt C H' o r := let ⟨dx, pu, pl, a, b, c⟩ := h; ⟨dx, pu, pl, s _ _ a, s _ _ b, s _ _ c⟩
structure TxRw (w : World) (K : PySem.W.Frag) (mg : Str → Option Value) where
  A : TxA w K mg
  sum : mg "sum" = none
  C : Addr
  gC : mg "Row" = some (.ref C)
  cl : Cls K C
  nU : NoAttr K C "unit"
  nT : NoAttr K C "times"
  nL : NoAttr K C "last"
  fI : Addr
  fdI : FuncData
  FI : Fun K "__init__" "Row.__init__" sRI fI fdI
  bI : Binds K fdI ["self", "unit", "times", "last"] []
  MI : Mk K C fI
  mn : Mt K C "many" "Row.many" sRM ["self"]
  cs : Df K mg "cut_sizes" sCS ["sizes", "width"]
  wr : Df K mg "whole_row" sWR ["items"]
  fr : Df K mg "fill_row" sFR ["row", "width"]
  cr : Df K mg "cut_row" sCR ["row", "width"]
  tr : Df K mg "tail_row" sTR ["row", "width"]
  ro : Mt K A.C "row_of" "Chain.row_of" sRO ["self", "items"]
  e1 : A.fk .cut = cr.f
  e2 : A.fk .fill = fr.f
  e3 : A.fk .tail = tr.f
/-- a row behind at most six cutters, of at most 10 ^ 18 items -/
structure RB (r : Rw) : Prop where
  i : Inv 6 r
  t : r.tot ≤ 1000000000000000000
theorem RB.ul {r : Rw} (h : RB r) : r.unit.length ≤ 12 := by
  rcases h.i.f with ⟨a, _, _⟩ | ⟨_, b, _⟩
  · rw [a]; exact Nat.zero_le _
  · exact Nat.le_trans h.i.pu.len b
theorem RB.us {r : Rw} (h : RB r) : r.unit.sum ≤ 12 := by
  rcases h.i.f with ⟨a, _, _⟩ | ⟨_, b, _⟩
  · rw [a]; exact Nat.zero_le _
  · exact b
theorem RB.ll {r : Rw} (h : RB r) : r.last.length ≤ 156 := by
  rcases h.i.f with ⟨_, _, c⟩ | ⟨_, _, c⟩
  · omega
  · have := h.i.pl.len
    omega
theorem RB.tt {r : Rw} (h : RB r) : r.times ≤ r.tot := by
  rcases h.i.f with ⟨_, b, _⟩ | ⟨a, _, _⟩
  · rw [b]; exact Nat.zero_le _
  · have l1 : 1 ≤ r.unit.length := List.length_pos_iff.mpr a
    have := h.i.pu.len
    have : r.times * 1 ≤ r.times * r.unit.sum := Nat.mul_le_mul_left _ (by omega)
    unfold Rw.tot
    omega
section
variable {P : Program} {w : World} {K : PySem.W.Frag} {mg : Str → Option Value} {base : Heap}
/-! ### __init__, many -/
def spRI (C : Addr) : Sp := fun vs H Q _ => ∃ (o dx pu pl : Addr) (t : Nat) (u l : List Nat), vs = [.ref o, .ref pu, .int t, .ref pl] ∧ H o = some (.ins C dx []) ∧ H pu = some (.tup (nvs u)) ∧ H pl = some (.tup (nvs l)) ∧ ∀ H', Off o H H' → RowAt C H' o ⟨u, t, l⟩ → Q .non H'
theorem scRI : FnScope ["self", "unit", "times", "last"] ["self", "unit", "times", "last"] (defScope sRI) := ⟨rfl, rfl, rfl, by decide +kernel, rfl, by decide +kernel, by decide +kernel⟩
theorem ok_ri (T : TxRw w K mg) : FnOk P w K mg base CX0 1 T.fI T.fdI ["self", "unit", "times", "last"] (spRI T.C) := by
  refine T.FI.ok scRI (fun vs H Q E h => ?_) (fun cdv A outer s H vs Q E hr h => ?_)
  · obtain ⟨o, dx, pu, pl, t, u, l, rfl, _⟩ := h
    rfl
  · obtain ⟨o, dx, pu, pl, t, u, l, rfl, ho, hu, hl, k⟩ := h
    refine ⟨_, pss_cons (ps_fld (pv 0) (pv 1) rfl) (pss_cons (ps_fld (pv 0) (pv 2) rfl) (pss_one (ps_fld (pv 0) (pv 3) rfl))), ?_⟩
    refine ⟨_, rfl, _, rfl, o, T.C, dx, _, rfl, ho, T.cl, T.nU, by decide, ?_⟩
    refine ⟨_, rfl, _, rfl, o, T.C, dx, _, rfl, upd_same, T.cl, T.nT, Nat.lt_of_le_of_lt (putF_len _ _ _) (by decide), ?_⟩
    refine ⟨_, rfl, _, rfl, o, T.C, dx, _, rfl, upd_same, T.cl, T.nL, Nat.lt_of_le_of_lt (putF_len _ _ _) (Nat.lt_of_le_of_lt (Nat.add_le_add_right (putF_len _ _ _) 1) (by decide)), ?_⟩
    rw [rf_mk]
    have n1 : pu ≠ o := ne_of hu ho (by intro z; cases z)
    have n2 : pl ≠ o := ne_of hl ho (by intro z; cases z)
    exact k _ (Off.put (Off.put (Off.put Off.refl))) ⟨dx, pu, pl, upd_same, by rw [upd_ne n1, upd_ne n1, upd_ne n1]; exact hu, by rw [upd_ne n2, upd_ne n2, upd_ne n2]; exact hl⟩
/-- Row(u, t, l), made -/
theorem mk_row (T : TxRw w K mg) {H : Hp} {pu pl : Addr} {t : Nat} {u l : List Nat} {E : XK} {R : Hp → Prop} {x dx : Addr} (hu : H pu = some (.tup (nvs u))) (hl : H pl = some (.tup (nvs l))) (nx : H x = none) (ndx : H dx = none) (q : ∀ (H' : Hp), Same H H' → RowAt T.C H' x ⟨u, t, l⟩ → R H') :
    spRI T.C [.ref x, .ref pu, .int (t : Nat), .ref pl] (upd (upd H dx (.own x)) x (.ins T.C dx [])) (fun v H2 => v = .non ∧ R H2) E := by
  refine ⟨x, dx, pu, pl, t, u, l, rfl, upd_same, by rw [upd_ne (ne_of_none hu nx), upd_ne (ne_of_none hu ndx)]; exact hu, by rw [upd_ne (ne_of_none hl nx), upd_ne (ne_of_none hl ndx)]; exact hl, fun H' o h => ⟨rfl, q H' (made_same nx ndx o) h⟩⟩
def spRM (C : Addr) : Sp := fun vs H Q _ => ∃ (o : Addr) (r : Rw), vs = [.ref o] ∧ RowAt C H o r ∧ RB r ∧ Q (.int (r.many : Nat)) H
theorem scRM : FnScope ["self"] ["self"] (defScope sRM) := ⟨rfl, rfl, rfl, by decide +kernel, rfl, by decide +kernel, by decide +kernel⟩
theorem ok_rm (T : TxRw w K mg) : FnOk P w K mg base CX0 1 T.mn.f T.mn.fd ["self"] (spRM T.C) := by
  refine T.mn.F.ok scRM (fun vs H Q E h => ?_) (fun cdv A outer s H vs Q E hr h => ?_)
  · obtain ⟨o, r, rfl, _⟩ := h
    rfl
  · obtain ⟨o, r, rfl, ⟨dx, pu, pl, e, hu, hl⟩, b, k⟩ := h
    refine ⟨_, (pss_one (ps_ret (pe_op op_add (pe_op op_mul (pe_fld (pv 0) rfl) (pe_callB call_len_seq (by rfl) T.A.len PySem.boot_len (pa_cons (pe_fld (pv 0) rfl) pa_nil))) (pe_callB call_len_seq (by rfl) T.A.len PySem.boot_len (pa_cons (pe_fld (pv 0) rfl) pa_nil))))), ?_⟩
    have b1 := b.ul
    refine ⟨_, rfl, o, T.C, dx, _, _, rfl, e, T.cl, T.nT, rf_t .., _, rfl, o, T.C, dx, _, _, rfl, e, T.cl, T.nU, rf_u .., pu, _, rfl, .inr (SqT.of hu), _, _, rfl, rfl, .inr (by rw [nvs_len]; omega), ?_⟩
    refine ⟨_, rfl, o, T.C, dx, _, _, rfl, e, T.cl, T.nL, rf_l .., pl, _, rfl, .inr (SqT.of hl), _, _, rfl, rfl, ?_⟩
    rw [nvs_len, nvs_len]
    have : (r.times : Int) * (r.unit.length : Int) + (r.last.length : Int) = ((r.many : Nat) : Int) := by unfold Rw.many; rw [Int.natCast_add, Int.natCast_mul]
    have k2 : Q (.int ((r.times : Int) * (r.unit.length : Int) + (r.last.length : Int))) H := by rw [this]; exact k
    exact k2
/-! ### cut_sizes -/
def spCS : Sp := fun vs H Q _ => ∃ (p : Addr) (xs : List Nat) (d : Nat), vs = [.ref p, .int d] ∧ H p = some (.tup (nvs xs)) ∧ 1 ≤ d ∧ d ≤ 12 ∧ xs.sum ≤ 1000 ∧ xs.length ≤ 1000 ∧ ∀ (H' : Hp) (q : Addr), Same H H' → H' q = some (.tup (nvs (chop xs d))) → Q (.ref q) H'
theorem scCS : FnScope ["sizes", "width", "cut", "size"] ["sizes", "width"] (defScope sCS) := ⟨rfl, rfl, rfl, by decide +kernel, rfl, by decide +kernel, by decide +kernel⟩
theorem rep_nvs (d : Nat) : ∀ k, (List.replicate k [V.int (d : Int)]).flatten = nvs (List.replicate k d)
  | 0 => rfl
  | k + 1 => by rw [List.replicate_succ, List.flatten_cons, rep_nvs d k, List.replicate_succ]; rfl
theorem evenly_len {n d : Nat} : (evenly n d).length ≤ n / d + 1 := by
  unfold evenly
  rw [List.length_append, List.length_replicate]
  split <;> simp
theorem chop_len {d : Nat} (hd : 1 ≤ d) : ∀ xs, (chop xs d).length ≤ xs.sum + xs.length
  | [] => by simp [chop]
  | x :: r => by
    show (evenly x d ++ chop r d).length ≤ _
    rw [List.length_append, List.sum_cons, List.length_cons]
    have a := evenly_len (n := x) (d := d)
    have b := chop_len hd r
    have c : x / d ≤ x := Nat.div_le_self _ _
    omega
theorem le_sum {n : Nat} : ∀ {xs : List Nat}, n ∈ xs → n ≤ xs.sum
  | x :: r, h => by
    rw [List.sum_cons]
    rcases List.mem_cons.mp h with e | h
    · omega
    · have := le_sum h
      omega
theorem sum_take (xs : List Nat) (i : Nat) : (xs.take i).sum ≤ xs.sum := by
  have := congrArg List.sum (List.take_append_drop i xs)
  rw [List.sum_append] at this
  omega
theorem ok_cs (T : TxRw w K mg) : FnOk P w K mg base CX0 1 T.cs.f T.cs.fd ["sizes", "width"] spCS := by
  refine T.cs.F.ok scCS (fun vs H Q E h => ?_) (fun cdv A outer s H vs Q E hr h => ?_)
  · obtain ⟨p, xs, d, rfl, _⟩ := h
    rfl
  · obtain ⟨p, xs, d, rfl, hp, d1, d2, hs, hl, k⟩ := h
    refine ⟨_, (pss_cons (ps_set (i := 2) scCS.nd rfl (.inl rfl) (pe_lst pa_nil)) (pss_cons (ps_for PassesOwn.never rfl (pi_tup (pv 0)) (pg_name (i := 3) scCS.nd rfl (.inl rfl)) (pss_cons (ps_aug (i := 2) scCS.nd rfl (.inl rfl) (pe_op op_rep (pe_lst (pa_cons (pv 1) pa_nil)) (pe_op op_fdiv (pv 3) (pv 1))) RwR.ip_iadd) (pss_one (ps_if (pt_truth (pe_op op_mod (pv 3) (pv 1)) (by intro _; rfl)) (pss_one (ps_expr (pe_bm PySem.F.plainAttrs_list PySem.F.slot_list_append PySem.F.type_list_append mt_append (pv 2) (pa_cons (pe_op op_mod (pv 3) (pv 1)) pa_nil)))) pss_nil)))) (pss_one (ps_ret (pe_callTy call_tuple_of (by rfl) T.A.tuple (by decide +kernel) (pa_cons (pv 2) pa_nil)))))), ?_⟩
    refine ⟨Nat.zero_le _, fun c nc => ?_⟩
    refine ⟨_, rfl, p, rfl, ⟨_, SqT.of (same_new nc _ _ hp)⟩, ?_⟩
    refine for_tup (K := K) (a := p) (xs := nvs xs) (fun i σ H' => ∃ v3, σ = [some (.ref p), some (.int d), some (.ref c), v3] ∧ Same H H' ∧ H' c = some (.lst (nvs (chop (xs.take i) d)))) ⟨none, rfl, same_new nc, upd_same⟩ (fun i σ H' _ ⟨_, _, s', _⟩ => SqT.of (s' _ _ hp)) ?_ ?_
    · rintro i y σ H' hy ⟨v3, rfl, s', hc⟩
      obtain ⟨n, hn, rfl⟩ := nvs_get hy
      have hi := lt_of_get hn
      have mem := List.mem_of_getElem? hn
      have hn1 : n ≤ xs.sum := le_sum mem
      have lt : (chop (xs.take i) d).length ≤ 2000 := by
        have a := chop_len d1 (xs.take i)
        have b := sum_take xs i
        have c : (xs.take i).length ≤ xs.length := by rw [List.length_take]; omega
        omega
      have nd : n / d ≤ n := Nat.div_le_self _ _
      have enx : chop (xs.take (i + 1)) d = chop (xs.take i) d ++ evenly n d := by
        rw [take_snoc hn, chop_app]
        congr 1
        show evenly n d ++ [] = _
        rw [List.append_nil]
      refine ⟨_, rfl, _, rfl, (by show 1 ≤ sizeLine; decide), fun l nl => ?_⟩
      refine ⟨_, rfl, _, rfl, _, _, rfl, rfl, ⟨by omega, by omega⟩, l, _, _, rfl, rfl, upd_same, ?_, ?_, ?_, fun q nq => ?_⟩
      · have : (0 : Int) ≤ (n : Int) / (d : Int) := Int.ediv_nonneg (by omega) (by omega)
        omega
      · have : (n : Int) / (d : Int) = ((n / d : Nat) : Int) := (Int.natCast_ediv n d).symm
        rw [this]
        omega
      · have : (n : Int) / (d : Int) = ((n / d : Nat) : Int) := (Int.natCast_ediv n d).symm
        rw [this, Int.toNat_natCast]
        exact szl (by show 1 * (n / d) ≤ 1000; omega)
      have e1 : ((n : Int) / (d : Int)).toNat = n / d := by rw [← Int.natCast_ediv, Int.toNat_natCast]
      rw [e1, rep_nvs]
      have sq : Same H' (upd (upd H' l (.lst [.int d])) q (.lst (nvs (List.replicate (n / d) d)))) := Same.trans (same_new nl) (same_new nq)
      have hq : (upd (upd H' l (.lst [.int d])) q (.lst (nvs (List.replicate (n / d) d)))) q = some (.lst (nvs (List.replicate (n / d) d))) := upd_same
      generalize upd (upd H' l (.lst [.int d])) q (.lst (nvs (List.replicate (n / d) d))) = H2 at sq hq ⊢
      have hc2 := sq _ _ hc
      refine ⟨c, q, _, _, rfl, rfl, hc2, hq, Nat.le_of_lt (szM (by rw [nvs_len, nvs_len, List.length_replicate]; omega)), ?_⟩
      rw [← nvs_app]
      have f2 : ∀ (b : Addr) (o : HO), H b = some o → (upd H2 c (.lst (nvs (chop (xs.take i) d ++ List.replicate (n / d) d)))) b = some o := fun b o e => by
        rw [upd_ne (ne_of_none e nc)]
        exact sq _ _ (s' _ _ e)
      have hc3 : (upd H2 c (.lst (nvs (chop (xs.take i) d ++ List.replicate (n / d) d)))) c = some (.lst (nvs (chop (xs.take i) d ++ List.replicate (n / d) d))) := upd_same
      generalize upd H2 c (.lst (nvs (chop (xs.take i) d ++ List.replicate (n / d) d))) = H3 at f2 hc3 ⊢
      refine ⟨_, rfl, _, rfl, _, _, rfl, rfl, by omega, _, rfl, ?_⟩
      have em : (n : Int) % (d : Int) = ((n % d : Nat) : Int) := (Int.natCast_emod n d).symm
      rw [em]
      by_cases h0 : n % d = 0
      · rw [h0]
        refine iteF ⟨_, rfl, f2, ?_⟩
        rw [hc3, enx]
        unfold evenly
        rw [if_pos h0, List.append_nil]
      · have : (((n % d : Nat) : Int) != 0) = true := by simp; omega
        rw [this]
        refine iteT ?_
        refine ⟨_, rfl, .inl ⟨rfl, _, SqL.of hc3⟩, _, rfl, _, rfl, _, _, rfl, rfl, by omega, c, _, _, rfl, rfl, hc3, szM (by rw [nvs_len, List.length_append, List.length_replicate]; omega), ?_⟩
        refine ⟨_, rfl, fun b o e => ?_, ?_⟩
        · rw [upd_ne (ne_of_none e nc)]
          exact f2 _ _ e
        · rw [upd_same, enx]
          show some (HO.lst (nvs _ ++ [V.int ((n : Int) % (d : Int))])) = _
          rw [em]
          unfold evenly
          rw [if_neg h0, ← List.append_assoc]
          rw [show [V.int ((n % d : Nat) : Int)] = nvs [n % d] from rfl, ← nvs_app]
    · rintro σ H' ⟨v3, rfl, s', hc⟩
      rw [nvs_len, List.take_length] at hc
      refine ⟨_, rfl, c, _, rfl, .inl ⟨SqL.of hc, fun q nq => ?_⟩⟩
      exact k _ q (Same.trans s' (same_new nq)) upd_same
end
end My

/-! what the cutters make of a row -/
namespace My
open PySem L2 Cm LM CH
theorem nzN (n : Nat) : (((n : Nat) : Int) != 0) = !decide (n = 0) := by
  cases n with
  | zero => rfl
  | succ k => simp; omega
theorem neg_at {xs : List Nat} {k : Nat} (h1 : 1 ≤ k) (h2 : k ≤ xs.length) : atI (nvs xs) (-(k : Int)) = some (.int (xs.getD (xs.length - k) 0 : Nat)) := by
  unfold atI ixN
  rw [nvs_len, if_neg (by omega), if_pos (by omega)]
  have : (-(k : Int) + (xs.length : Int)).toNat = xs.length - k := by omega
  rw [this]
  exact nvs_at (by omega)
theorem cut_neg {xs : List Nat} {k : Nat} (h1 : 1 ≤ k) (h2 : k ≤ xs.length) : cutV (nvs xs) none (some (-(k : Int))) = nvs (xs.take (xs.length - k)) := by
  unfold cutV
  rw [HT.sIx_none]
  have : HT.sIx (nvs xs).length (nvs xs).length (some (-(k : Int))) = xs.length - k := by
    show (if (-(k : Int)) < 0 then ((-(k : Int)) + ((nvs xs).length : Int)).toNat else min (-(k : Int)).toNat (nvs xs).length) = _
    rw [if_pos (by omega), nvs_len]
    omega
  rw [this, List.drop_zero, Nat.sub_zero, nvs_take]
section
variable {P : Program} {w : World} {K : PySem.W.Frag} {mg : Str → Option Value} {base : Heap}
/-! ### whole_row -/
def spWR (C : Addr) : Sp := fun vs H Q _ => ∃ n : Nat, vs = [.int n] ∧ ∀ (H' : Hp) (x : Addr), Same H H' → RowAt C H' x (wholeR n) → Q (.ref x) H'
theorem scWR : FnScope ["items"] ["items"] (defScope sWR) := ⟨rfl, rfl, rfl, by decide +kernel, rfl, by decide +kernel, by decide +kernel⟩
theorem ok_wr (T : TxRw w K mg) : FnOk P w K mg base CX0 3 T.wr.f T.wr.fd ["items"] (spWR T.C) := by
  have GI : FnOk P w K mg base CX0 1 T.fI T.fdI ["self", "unit", "times", "last"] (spRI T.C) := ok_ri T
  refine T.wr.F.ok scWR (fun vs H Q E h => ?_) (fun cdv A outer s H vs Q E hr h => ?_)
  · obtain ⟨n, rfl, _⟩ := h
    rfl
  · obtain ⟨n, rfl, k⟩ := h
    refine ⟨_, (pss_one (ps_ret (pe_make T.MI GI hr rfl T.gC T.bI .nil pass0 (pa_cons (pe_tup pa_nil) (pa_cons pe_int (pa_cons (pe_ifExp (pt_truth (pv 0) (by intro _; rfl)) (pe_tup (pa_cons (pv 0) pa_nil)) (pe_tup pa_nil)) pa_nil)))))), ?_⟩
    refine ⟨Nat.zero_le _, fun pu nu => ⟨_, rfl, _, rfl, ?_⟩⟩
    have hu : (upd H pu (.tup [])) pu = some (.tup (nvs [])) := upd_same
    have s1 : Same H (upd H pu (.tup [])) := same_new nu
    generalize upd H pu (.tup []) = H1 at hu s1 ⊢
    rw [nzN]
    by_cases h0 : n = 0
    · rw [decide_eq_true h0]
      refine iteF ⟨Nat.zero_le _, fun pl nl => ?_⟩
      refine fun x dx nx ndx nex => mk_row T (t := 0) (u := []) (l := []) (same_new nl _ _ hu) upd_same nx ndx fun H3 s3 h3 => ?_
      refine k H3 x (Same.trans s1 (Same.trans (same_new nl) s3)) ?_
      have : wholeR n = ⟨[], 0, []⟩ := by unfold wholeR wholeS; rw [if_pos h0]
      rw [this]
      exact h3
    · rw [decide_eq_false h0]
      refine iteT ⟨_, rfl, (by show 1 ≤ sizeLine; decide), fun pl nl => ?_⟩
      refine fun x dx nx ndx nex => mk_row T (t := 0) (u := []) (l := [n]) (same_new nl _ _ hu) upd_same nx ndx fun H3 s3 h3 => ?_
      refine k H3 x (Same.trans s1 (Same.trans (same_new nl) s3)) ?_
      have : wholeR n = ⟨[], 0, [n]⟩ := by unfold wholeR wholeS; rw [if_neg h0]
      rw [this]
      exact h3
/-! ### fill_row -/
def spFR (C : Addr) : Sp := fun vs H Q _ => ∃ (o : Addr) (r : Rw) (d : Nat), vs = [.ref o, .int d] ∧ RowAt C H o r ∧ RB r ∧ 1 ≤ d ∧ d ≤ 12 ∧ ∀ (H' : Hp) (x : Addr), Same H H' → RowAt C H' x (fillR r d) → Q (.ref x) H'
theorem scFR : FnScope ["row", "width", "items", "left"] ["row", "width"] (defScope sFR) := ⟨rfl, rfl, rfl, by decide +kernel, rfl, by decide +kernel, by decide +kernel⟩
theorem ok_fr (T : TxRw w K mg) : FnOk P w K mg base CX0 3 T.fr.f T.fr.fd ["row", "width"] (spFR T.C) := by
  have GI : FnOk P w K mg base CX0 1 T.fI T.fdI ["self", "unit", "times", "last"] (spRI T.C) := ok_ri T
  refine T.fr.F.ok scFR (fun vs H Q E h => ?_) (fun cdv A outer s H vs Q E hr h => ?_)
  · obtain ⟨o, r, d, rfl, _⟩ := h
    rfl
  · obtain ⟨o, r, d, rfl, ⟨dx, pu, pl, e, hu, hl⟩, b, d1, d2, k⟩ := h
    refine ⟨_, (pss_cons (ps_set (i := 2) scFR.nd rfl (.inl rfl) (pe_op op_add (pe_op op_mul (pe_fld (pv 0) rfl) (pe_callB (RwR.cr_sumT rfl) (by rfl) T.sum (by decide +kernel) (pa_cons (pe_fld (pv 0) rfl) pa_nil))) (pe_callB (RwR.cr_sumT rfl) (by rfl) T.sum (by decide +kernel) (pa_cons (pe_fld (pv 0) rfl) pa_nil)))) (pss_cons (ps_set (i := 3) scFR.nd rfl (.inl rfl) (pe_op op_mod (pv 2) (pv 1))) (pss_one (ps_ret (pe_make T.MI GI hr rfl T.gC T.bI .nil pass0 (pa_cons (pe_tup (pa_cons (pv 1) pa_nil)) (pa_cons (pe_op op_fdiv (pv 2) (pv 1)) (pa_cons (pe_ifExp (pt_truth (pv 3) (by intro _; rfl)) (pe_tup (pa_cons (pv 3) pa_nil)) (pe_tup pa_nil)) pa_nil)))))))), ?_⟩
    have b1 := b.us
    have b2 := b.t
    refine ⟨_, rfl, o, T.C, dx, _, _, rfl, e, T.cl, T.nT, rf_t .., _, rfl, o, T.C, dx, _, _, rfl, e, T.cl, T.nU, rf_u .., pu, _, rfl, SqT.of hu, _, _, rfl, rfl, .inr (by rw [isum]; omega), ?_⟩
    refine ⟨_, rfl, o, T.C, dx, _, _, rfl, e, T.cl, T.nL, rf_l .., pl, _, rfl, SqT.of hl, _, _, rfl, rfl, ?_⟩
    have et : (r.times : Int) * (r.unit.map fun n => ((n : Nat) : Int)).sum + (r.last.map fun n => ((n : Nat) : Int)).sum = ((r.tot : Nat) : Int) := by
      rw [isum, isum]
      unfold Rw.tot
      rw [Int.natCast_add, Int.natCast_mul]
    simp only [et]
    refine ⟨_, rfl, _, rfl, _, _, rfl, rfl, by omega, ?_⟩
    have em : ((r.tot : Nat) : Int) % (d : Int) = ((r.tot % d : Nat) : Int) := (Int.natCast_emod _ _).symm
    have ed : ((r.tot : Nat) : Int) / (d : Int) = ((r.tot / d : Nat) : Int) := (Int.natCast_ediv _ _).symm
    simp only [em]
    refine ⟨_, rfl, (by show 1 ≤ sizeLine; decide), fun q nq => ?_⟩
    have hq : (upd H q (.tup [.int d])) q = some (.tup (nvs [d])) := upd_same
    have s1 : Same H (upd H q (.tup [.int d])) := same_new nq
    generalize upd H q (.tup [.int d]) = H1 at hq s1 ⊢
    refine ⟨_, rfl, _, rfl, _, _, rfl, rfl, ⟨by omega, by omega⟩, _, rfl, _, rfl, ?_⟩
    rw [nzN]
    unfold fillR at k
    by_cases h0 : r.tot % d = 0
    · rw [if_pos h0] at k
      rw [decide_eq_true h0]
      refine iteF ⟨Nat.zero_le _, fun z nz => ?_⟩
      simp only [ed]
      refine fun x dx nx ndx nex => mk_row T (t := r.tot / d) (u := [d]) (l := []) (same_new nz _ _ hq) upd_same nx ndx fun H3 s3 h3 => ?_
      exact k H3 x (Same.trans s1 (Same.trans (same_new nz) s3)) h3
    · rw [if_neg h0] at k
      rw [decide_eq_false h0]
      refine iteT ⟨_, rfl, (by show 1 ≤ sizeLine; decide), fun z nz => ?_⟩
      simp only [ed]
      refine fun x dx nx ndx nex => mk_row T (t := r.tot / d) (u := [d]) (l := [r.tot % d]) (same_new nz _ _ hq) upd_same nx ndx fun H3 s3 h3 => ?_
      exact k H3 x (Same.trans s1 (Same.trans (same_new nz) s3)) h3
/-! ### cut_row -/
def spCR (C : Addr) : Sp := fun vs H Q _ => ∃ (o : Addr) (r : Rw) (d : Nat), vs = [.ref o, .int d] ∧ RowAt C H o r ∧ RB r ∧ 1 ≤ d ∧ d ≤ 12 ∧ ∀ (H' : Hp) (x : Addr), Same H H' → RowAt C H' x (cutR r d) → Q (.ref x) H'
theorem scCR : FnScope ["row", "width"] ["row", "width"] (defScope sCR) := ⟨rfl, rfl, rfl, by decide +kernel, rfl, by decide +kernel, by decide +kernel⟩
theorem ok_cr (T : TxRw w K mg) : FnOk P w K mg base CX0 4 T.cr.f T.cr.fd ["row", "width"] (spCR T.C) := by
  have GI : FnOk P w K mg base CX0 1 T.fI T.fdI ["self", "unit", "times", "last"] (spRI T.C) := ok_ri T
  have GM : FnOk P w K mg base CX0 1 T.mn.f T.mn.fd ["self"] (spRM T.C) := ok_rm T
  have GF : FnOk P w K mg base CX0 3 T.fr.f T.fr.fd ["row", "width"] (spFR T.C) := ok_fr T
  have GC : FnOk P w K mg base CX0 1 T.cs.f T.cs.fd ["sizes", "width"] spCS := ok_cs T
  refine T.cr.F.ok scCR (fun vs H Q E h => ?_) (fun cdv A outer s H vs Q E hr h => ?_)
  · obtain ⟨o, r, d, rfl, _⟩ := h
    rfl
  · obtain ⟨o, r, d, rfl, hO, b, d1, d2, k⟩ := h
    have hr1 : Room 1 _ := hr.mono (by decide)
    have hr2 : Room 2 _ := hr.mono (by decide)
    refine ⟨_, (pss_cons (ps_if (pt_cmpR op_eq (pe_meth0 (pv 0) T.cl T.mn.m GM hr1 T.mn.b .nil pass0) pe_int (nomark _)) (pss_one (ps_ret (pe_call GF hr rfl T.fr.g T.fr.k T.fr.b .nil pass0 (pa_cons (pv 0) (pa_cons (pv 1) pa_nil))))) pss_nil) (pss_one (ps_ret (pe_make T.MI GI hr2 rfl T.gC T.bI .nil pass0 (pa_cons (pe_call GC hr1 rfl T.cs.g T.cs.k T.cs.b .nil pass0 (pa_cons (pe_fld (pv 0) rfl) (pa_cons (pv 1) pa_nil))) (pa_cons (pe_fld (pv 0) rfl) (pa_cons (pe_call GC hr1 rfl T.cs.g T.cs.k T.cs.b .nil pass0 (pa_cons (pe_fld (pv 0) rfl) (pa_cons (pv 1) pa_nil))) pa_nil))))))), ?_⟩
    obtain ⟨dx, pu, pl, e, hu, hl⟩ := id hO
    refine ⟨_, rfl, o, dx, _, rfl, e, (rf_no ..).1, o, r, rfl, hO, b, rfl, _, rfl, ?_⟩
    rw [dI]
    unfold cutR at k
    by_cases h1 : r.many = 1
    · rw [if_pos h1] at k
      rw [show decide (((r.many : Nat) : Int) = 1) = true from decide_eq_true (by omega)]
      exact iteT ⟨_, rfl, _, rfl, o, r, d, rfl, hO, b, d1, d2, k⟩
    · rw [if_neg h1] at k
      rw [show decide (((r.many : Nat) : Int) = 1) = false from decide_eq_false (by omega)]
      refine iteF ?_
      have hls : r.last.sum ≤ 156 := by
        rcases b.i.f with ⟨a1, a2, a3⟩ | ⟨_, _, c⟩
        · have : r.last.length = 0 := by
            unfold Rw.many at h1
            rw [a2] at h1
            omega
          rw [List.eq_nil_of_length_eq_zero this]
          exact Nat.zero_le _
        · exact c
      have b1 := b.us
      have b2 := b.ul
      have b3 := b.ll
      refine ⟨_, rfl, o, T.C, dx, _, _, rfl, e, T.cl, T.nU, rf_u .., _, rfl, pu, r.unit, d, rfl, hu, d1, d2, by omega, by omega, fun H1 q1 s1 hq1 => ?_⟩
      refine ⟨_, rfl, o, T.C, dx, _, _, rfl, s1 _ _ e, T.cl, T.nT, rf_t .., _, rfl, o, T.C, dx, _, _, rfl, s1 _ _ e, T.cl, T.nL, rf_l .., _, rfl, pl, r.last, d, rfl, s1 _ _ hl, d1, d2, by omega, by omega, fun H2 q2 s2 hq2 => ?_⟩
      refine fun x dx nx ndx nex => mk_row T (t := r.times) (s2 _ _ hq1) hq2 nx ndx fun H3 s3 h3 => ?_
      exact k H3 x (Same.trans s1 (Same.trans s2 s3)) h3
/-! ### tail_row -/
def spTR (C : Addr) : Sp := fun vs H Q _ => ∃ (o : Addr) (r : Rw) (d : Nat), vs = [.ref o, .int d] ∧ RowAt C H o r ∧ RB r ∧ 1 ≤ d ∧ d ≤ 12 ∧ ∀ (H' : Hp) (x : Addr), Same H H' → RowAt C H' x (tailR r d) → Q (.ref x) H'
theorem scTR : FnScope ["row", "width", "times", "last"] ["row", "width"] (defScope sTR) := ⟨rfl, rfl, rfl, by decide +kernel, rfl, by decide +kernel, by decide +kernel⟩
/-- times > 0 and len(last) < 2 -/
def tWh : TT := fun σ H Q => ∃ (t : Nat) (p : Addr) (l : List Nat), σ[2]? = some (some (.int t)) ∧ σ[3]? = some (some (.ref p)) ∧ H p = some (.tup (nvs l)) ∧ Q (decide (0 < t ∧ l.length < 2)) H
/-- what falls -/
def mT (σ : L2.St) : Nat := match σ[2]? with
  | some (some (V.int t)) => t.toNat
  | _ => 0
theorem pull_stop {u l : List Nat} {t : Nat} (h : ¬ (0 < t ∧ l.length < 2)) : pull u t l = (t, l) := by
  cases t with
  | zero => rfl
  | succ t =>
    unfold pull
    rw [if_neg (fun z => h ⟨by omega, z⟩)]
theorem ok_tr (T : TxRw w K mg) : FnOk P w K mg base CX0 3 T.tr.f T.tr.fd ["row", "width"] (spTR T.C) := by
  have GI : FnOk P w K mg base CX0 1 T.fI T.fdI ["self", "unit", "times", "last"] (spRI T.C) := ok_ri T
  refine T.tr.F.ok scTR (fun vs H Q E h => ?_) (fun cdv A outer s H vs Q E hr h => ?_)
  · obtain ⟨o, r, d, rfl, _⟩ := h
    rfl
  · obtain ⟨o, r, d, rfl, hO, b, d1, d2, k⟩ := h
    refine ⟨_, (pss_cons (ps_par (i := 2) (j := 3) rfl scTR.nd rfl rfl (by decide) rfl rfl (pa_cons (pe_fld (pv 0) rfl) (pa_cons (pe_fld (pv 0) rfl) pa_nil)) (by rfl)) (pss_cons (ps_while PassesOwn.never (pt_imp (t' := tWh) (PW.pt (pw_and (pt_cmpR op_gt (pv 2) pe_int (nomark _)) (pw_and1 (pt_cmpR op_lt (pe_callB call_len_seq (by rfl) T.A.len PySem.boot_len (pa_cons (pv 3) pa_nil)) pe_int (nomark _))))) ?imp) (pss_cons (ps_aug (i := 2) scTR.nd rfl (.inl rfl) pe_int ip_sub) (pss_one (ps_set (i := 3) scTR.nd rfl (.inl rfl) (pe_op op_catH (pe_fld (pv 0) rfl) (pv 3)))))) (C8.pss_cut (ps_if (PW.pt (pw_and (pt_cmpR op_ge (pe_callB call_len_seq (by rfl) T.A.len PySem.boot_len (pa_cons (pv 3) pa_nil)) pe_int (nomark _)) (pw_and1 (pt_cmpR op_lt (pe_ix ix_tup (pv 3) (pe_un un_neg pe_int) (fun _ _ => rfl)) (pv 1) (nomark _))))) (pss_one (ps_set (i := 3) scTR.nd rfl (.inl rfl) (pe_op op_catH (pe_slice sl_tupH (pv 3) po_none (po_some (pe_un un_neg pe_int))) (pe_tup (pa_cons (pe_op op_add (pe_ix ix_tup (pv 3) (pe_un un_neg pe_int) (fun _ _ => rfl)) (pe_ix ix_tup (pv 3) (pe_un un_neg pe_int) (fun _ _ => rfl))) pa_nil))))) pss_nil) (pss_one (ps_ret (pe_make T.MI GI hr rfl T.gC T.bI .nil pass0 (pa_cons (pe_fld (pv 0) rfl) (pa_cons (pv 2) (pa_cons (pv 3) pa_nil))))))))), ?_⟩
    case imp =>
      rintro σ H1 Q1 ⟨t, p, l, h2, h3, hp, q⟩
      refine ⟨_, h2, _, _, rfl, rfl, _, rfl, ?_⟩
      by_cases c1 : 0 < t
      · rw [show decide (((t : Nat) : Int) > 0) = true from decide_eq_true (by omega)]
        refine iteT ⟨_, h3, p, _, rfl, .inr (SqT.of hp), _, _, rfl, rfl, _, rfl, ?_⟩
        rw [nvs_len]
        have : decide (((l.length : Nat) : Int) < 2) = decide (0 < t ∧ l.length < 2) := decide_eq_decide.mpr ⟨fun z => ⟨c1, by omega⟩, fun z => by omega⟩
        rw [this]
        exact q
      · rw [show decide (((t : Nat) : Int) > 0) = false from decide_eq_false (by omega)]
        rw [show decide (0 < t ∧ l.length < 2) = false from decide_eq_false (fun z => c1 z.1)] at q
        exact iteF q
    obtain ⟨dx, pu, pl, e, hu, hl⟩ := id hO
    have b2 := b.ul
    have b3 := b.ll
    refine ⟨_, rfl, o, T.C, dx, _, _, rfl, e, T.cl, T.nT, rf_t .., _, rfl, o, T.C, dx, _, _, rfl, e, T.cl, T.nL, rf_l .., _, _, rfl, ?_⟩
    refine while_by (fun σ H' => ∃ (t : Nat) (p : Addr) (l : List Nat), σ = [some (.ref o), some (.int d), some (.int t), some (.ref p)] ∧ Same H H' ∧ H' p = some (.tup (nvs l)) ∧ pull r.unit t l = pull r.unit r.times r.last ∧ l.length ≤ 156)
      (fun σ _ => mT σ) ⟨r.times, pl, r.last, rfl, Same.refl _, hl, rfl, b3⟩ ?_ ?_
    · rintro _ H' ⟨t, p, l, rfl, s', hp, hpu, hll⟩
      refine ⟨t, p, l, rfl, rfl, hp, ?_⟩
      by_cases c : 0 < t ∧ l.length < 2
      · rw [decide_eq_true c]
        refine iteT ?_
        obtain ⟨t, rfl⟩ : ∃ t', t = t' + 1 := ⟨t - 1, by omega⟩
        refine ⟨_, rfl, _, _, rfl, rfl, ?_⟩
        refine ⟨_, rfl, o, T.C, dx, _, _, rfl, s' _ _ e, T.cl, T.nU, rf_u .., _, rfl, pu, p, _, _, rfl, rfl, s' _ _ hu, hp, ?_, fun H2 q s2 hq => ?_⟩
        · rw [nvs_len, nvs_len]
          exact szl (by omega)
        rw [← nvs_app] at hq
        have et : (((t + 1 : Nat) : Int) - 1) = ((t : Nat) : Int) := by omega
        refine ⟨⟨t, q, r.unit ++ l, by rw [← et]; rfl, Same.trans s' s2, hq, ?_, by rw [List.length_append]; omega⟩, ?_⟩
        · rw [← hpu]
          show _ = (if l.length < 2 then pull r.unit t (r.unit ++ l) else (t + 1, l))
          rw [if_pos c.2]
        · show (((t + 1 : Nat) : Int) - 1).toNat < ((t + 1 : Nat) : Int).toNat
          omega
      · rw [decide_eq_false c]
        refine iteF ?_
        rw [pull_stop c] at hpu
        -- the rest
        have ht : (tailR r d) = ⟨r.unit, t, tailS l d⟩ := by
          unfold tailR
          rw [← hpu]
        rw [ht] at k
        refine ⟨fun σ H2 => ∃ q, σ = [some (.ref o), some (.int d), some (.int t), some (.ref q)] ∧ Same H H2 ∧ H2 q = some (.tup (nvs (tailS l d))), ?_, ?_⟩
        · refine ⟨_, rfl, p, _, rfl, .inr (SqT.of hp), _, _, rfl, rfl, _, rfl, ?_⟩
          rw [nvs_len]
          by_cases c2 : 2 ≤ l.length
          · rw [show decide (((l.length : Nat) : Int) ≥ 2) = true from decide_eq_true (by omega)]
            refine iteT ?_
            refine ⟨_, rfl, _, rfl, p, _, -1, _, rfl, rfl, SqT.of hp, neg_at (k := 1) (by decide) (by omega), _, rfl, _, _, rfl, rfl, _, rfl, ?_⟩
            by_cases c3 : l.getD (l.length - 1) 0 < d
            · rw [show decide (((l.getD (l.length - 1) 0 : Nat) : Int) < (d : Int)) = true from decide_eq_true (by omega)]
              refine iteT ?_
              have ets : tailS l d = l.take (l.length - 2) ++ [l.getD (l.length - 2) 0 + l.getD (l.length - 1) 0] := by unfold tailS; rw [if_pos ⟨c2, c3⟩]
              refine ⟨_, rfl, _, rfl, -2, rfl, p, _, rfl, hp, fun H2 q s2 hq => ?_⟩
              rw [show (some (-2 : Int)) = some (-((2 : Nat) : Int)) from rfl, cut_neg (k := 2) (by decide) c2] at hq
              have hp2 := s2 _ _ hp
              refine ⟨_, rfl, _, rfl, p, _, -2, _, rfl, rfl, SqT.of hp2, neg_at (k := 2) (by decide) c2, _, rfl, _, rfl, p, _, -1, _, rfl, rfl, SqT.of hp2, neg_at (k := 1) (by decide) (by omega), _, _, rfl, rfl, (by show 1 ≤ sizeLine; decide), fun z nz => ?_⟩
              refine ⟨q, z, _, _, rfl, rfl, same_new nz _ _ hq, upd_same, ?_, fun H4 y s4 hy => ?_⟩
              · rw [nvs_len, List.length_take]
                exact szl (by show _ + 1 ≤ 1000; omega)
              refine ⟨y, rfl, Same.trans s' (Same.trans s2 (Same.trans (same_new nz) s4)), ?_⟩
              rw [hy, ets, nvs_app]
              rfl
            · rw [show decide (((l.getD (l.length - 1) 0 : Nat) : Int) < (d : Int)) = false from decide_eq_false (by omega)]
              have ets : tailS l d = l := by unfold tailS; rw [if_neg (fun z => c3 z.2)]
              exact iteF ⟨p, rfl, s', by rw [ets]; exact hp⟩
          · rw [show decide (((l.length : Nat) : Int) ≥ 2) = false from decide_eq_false (by omega)]
            have ets : tailS l d = l := by unfold tailS; rw [if_neg (fun z => c2 z.1)]
            exact iteF (iteF ⟨p, rfl, s', by rw [ets]; exact hp⟩)
        rintro _ H2 ⟨q, rfl, s2, hq⟩
        refine ⟨_, rfl, o, T.C, dx, _, _, rfl, s2 _ _ e, T.cl, T.nU, rf_u .., _, rfl, _, rfl, ?_⟩
        refine fun x dx nx ndx nex => mk_row T (t := t) (s2 _ _ hu) hq nx ndx fun H3 s3 h3 => ?_
        exact k H3 x (Same.trans s2 s3) h3
    · rintro σ H1 Q1 Q2 f ⟨t, p, l, a, b, c, d⟩
      exact ⟨t, p, l, a, b, c, f _ _ d⟩
end
end My

/-! Chain.row_of -/
namespace My
open PySem L2 Cm LM CH
theorem inv_mono {k m : Nat} {r : Rw} (h : Inv k r) (l : k ≤ m) : Inv m r := ⟨h.pu, h.pl, h.f.imp id fun ⟨a, b, c⟩ => ⟨a, b, by omega⟩⟩
theorem apply_tot (c : Kd × Nat) (r : Rw) : (applyR c r).tot = r.tot := by
  rw [← sizes_sum, ← sizes_sum]
  unfold applyR
  split
  · rw [cut_sizes, chop_sum]
  · rw [fill_sizes, evenly_sum, sizes_sum]
  · rw [tail_sizes, tailS_sum]
theorem fold_inv : ∀ (cs : List (Kd × Nat)) (k : Nat) (r : Rw), (∀ c ∈ cs, Ct c) → Inv k r → Inv (k + cs.length) (cs.foldl (fun r c => applyR c r) r) ∧ (cs.foldl (fun r c => applyR c r) r).tot = r.tot
  | [], k, r, _, h => ⟨h, rfl⟩
  | c :: cs, k, r, hc, h => by
    have c1 := hc c (List.mem_cons_self ..)
    obtain ⟨a, b⟩ := fold_inv cs (k + 1) (applyR c r) (fun q hq => hc q (List.mem_cons_of_mem _ hq)) (inv_apply c1.1 c1.2 h)
    rw [List.length_cons, show k + (cs.length + 1) = k + 1 + cs.length by omega]
    exact ⟨a, by rw [List.foldl_cons, b, apply_tot]⟩
theorem whole_tot (n : Nat) : (wholeR n).tot = n := by rw [← sizes_sum]; exact wholeS_sum n
theorem rb_row {cs : List (Kd × Nat)} {n : Nat} (hc : ∀ c ∈ cs, Ct c) (hl : cs.length ≤ 6) (hn : n ≤ 1000000000000000000) : RB (rowOf cs n) := by
  obtain ⟨a, b⟩ := fold_inv cs 0 (wholeR n) hc (inv_whole n)
  refine ⟨inv_mono a (by omega), ?_⟩
  show (cs.foldl (fun r c => applyR c r) (wholeR n)).tot ≤ _
  rw [b, whole_tot]
  exact hn
section
variable {P : Program} {w : World} {K : PySem.W.Frag} {mg : Str → Option Value} {base : Heap}
def fdK (T : TxRw w K mg) : Kd → FuncData
  | .cut => T.cr.fd
  | .fill => T.fr.fd
  | .tail => T.tr.fd
def spK (C : Addr) : Kd → Sp
  | .cut => spCR C
  | .fill => spFR C
  | .tail => spTR C
theorem ok_kd (T : TxRw w K mg) (k : Kd) : FnOk P w K mg base CX0 4 (T.A.fk k) (fdK T k) ["row", "width"] (spK T.C k) := by
  cases k with
  | cut => rw [T.e1]; exact ok_cr T
  | fill => rw [T.e2]; exact (ok_fr T).mono (by decide)
  | tail => rw [T.e3]; exact (ok_tr T).mono (by decide)
def spRO (CA CR : Addr) : Sp := fun vs H Q _ => ∃ (o : Addr) (t : Str) (n : Nat), vs = [.ref o, .int n] ∧ ChainAt CA H o t ∧ goodC t = true ∧ n ≤ 1000000000000000000 ∧ ∀ (H' : Hp) (x : Addr), Same H H' → RowAt CR H' x (rowOf (cuttersOf t) n) → Q (.ref x) H'
theorem scRO : FnScope ["self", "items", "row", "word", "width", "cutter"] ["self", "items"] (defScope sRO) := ⟨rfl, rfl, rfl, by decide +kernel, rfl, by decide +kernel, by decide +kernel⟩
theorem ok_ro (T : TxRw w K mg) : FnOk P w K mg base CX0 5 T.ro.f T.ro.fd ["self", "items"] (spRO T.A.C T.C) := by
  have GW : FnOk P w K mg base CX0 3 T.wr.f T.wr.fd ["items"] (spWR T.C) := ok_wr T
  have GK : ∀ k, FnOk P w K mg base CX0 4 (T.A.fk k) (fdK T k) ["row", "width"] (spK T.C k) := ok_kd T
  have hk : ∀ k, PySem.W.keepIn K (.ref (T.A.fk k)) = true := fun k => by
    cases k with
    | cut => rw [T.e1]; exact T.cr.k
    | fill => rw [T.e2]; exact T.fr.k
    | tail => rw [T.e3]; exact T.tr.k
  have hb : ∀ k, Binds K (fdK T k) ["row", "width"] [] := fun k => by
    cases k with
    | cut => exact T.cr.b
    | fill => exact T.fr.b
    | tail => exact T.tr.b
  obtain ⟨es, nd, D⟩ := He.dicW_ok T.A.dw
  refine T.ro.F.ok scRO (fun vs H Q E h => ?_) (fun cdv A outer s H vs Q E hr h => ?_)
  · obtain ⟨o, t, n, rfl, _⟩ := h
    rfl
  · obtain ⟨o, t, n, rfl, hO, g, hn, k⟩ := h
    have hr3 : Room 3 _ := hr.mono (by decide)
    refine ⟨_, (pss_cons (ps_set (i := 2) scRO.nd rfl (.inl rfl) (pe_call GW hr3 rfl T.wr.g T.wr.k T.wr.b .nil pass0 (pa_cons (pv 1) pa_nil))) (pss_cons (ps_for PassesOwn.never rfl (pi_tup (pe_fld (pv 0) rfl)) (pg_tup rfl (pgs_cons (pg_name (i := 3) scRO.nd rfl (.inl rfl)) (pgs_cons (pg_name (i := 4) scRO.nd rfl (.inl rfl)) pgs_nil))) (pss_cons (ps_set (i := 5) scRO.nd rfl (.inl rfl) (pe_ix (RwR.ix_kd D) (pe_glob (v := .ref T.A.dC) rfl T.A.gD rfl) (pv 3) (fun _ _ => rfl))) (pss_one (ps_set (i := 2) scRO.nd rfl (.inl rfl) (RwR.pe_callI (i := 5) (E := E0) GK hr rfl (.inl rfl) hk hb pass0 (pa_cons (pv 2) (pa_cons (pv 4) pa_nil))))))) (pss_one (ps_ret (pv 2))))), ?_⟩
    obtain ⟨dx, p, vs, e, hp, hC⟩ := id hO
    have cl := cutters_len g
    refine ⟨_, rfl, n, rfl, fun H1 x1 s1 h1 => ?_⟩
    refine ⟨_, rfl, o, T.A.C, dx, _, _, rfl, s1 _ _ e, T.A.cl, T.A.nC, cf_cut .., p, rfl, ⟨_, SqT.of (s1 _ _ hp)⟩, ?_⟩
    refine for_tup (K := K) (a := p) (xs := vs) (fun i σ H' => ∃ x v3 v4 v5, σ = [some (.ref o), some (.int n), some (.ref x), v3, v4, v5] ∧ Same H H' ∧ RowAt T.C H' x (rowOf ((cuttersOf t).take i) n)) ⟨x1, none, none, none, rfl, s1, h1⟩ (fun i σ H' _ ⟨_, _, _, _, _, s', _⟩ => SqT.of (s' _ _ hp)) ?_ ?_
    · rintro i y σ H' hy ⟨x, v3, v4, v5, rfl, s', hx⟩
      obtain ⟨q, c, hc, rfl, hq⟩ := hC.get hy
      have cc := cutters_ct c (List.mem_of_getElem? hc)
      have rb : RB (rowOf ((cuttersOf t).take i) n) := rb_row (fun q hq => cutters_ct q (List.mem_of_mem_take hq)) (by rw [List.length_take]; omega) hn
      refine ⟨q, _, rfl, SqT.of (s' _ _ hq), rfl, _, _, rfl, _, _, rfl, rfl, ?_⟩
      refine ⟨_, rfl, kdS c.1, _, .ref (T.A.fk c.1), rfl, rfl, T.A.nk c.1, rfl, ?_⟩
      have enx : rowOf ((cuttersOf t).take (i + 1)) n = applyR c (rowOf ((cuttersOf t).take i) n) := by
        unfold rowOf
        rw [take_snoc hc, List.foldl_append]
        rfl
      have fin : ∀ (H2 : Hp) (z : Addr), Same H' H2 → RowAt T.C H2 z (applyR c (rowOf ((cuttersOf t).take i) n)) → ∃ x v3 v4 v5, ([some (.ref o), some (.int n), some (.ref z), some (.str (kdS c.1)), some (.int c.2), some (.ref (T.A.fk c.1))] : List (Option V)) = [some (.ref o), some (.int n), some (.ref x), v3, v4, v5] ∧ Same H H2 ∧ RowAt T.C H2 x (rowOf ((cuttersOf t).take (i + 1)) n) := fun H2 z s2 hz => ⟨z, _, _, _, rfl, Same.trans s' s2, by rw [enx]; exact hz⟩
      refine ⟨c.1, rfl, _, rfl, _, rfl, ?_⟩
      obtain ⟨kd, d⟩ := c
      cases kd with
      | cut => exact ⟨x, _, d, rfl, hx, rb, cc.1, cc.2, fin⟩
      | fill => exact ⟨x, _, d, rfl, hx, rb, cc.1, cc.2, fin⟩
      | tail => exact ⟨x, _, d, rfl, hx, rb, cc.1, cc.2, fin⟩
    · rintro σ H' ⟨x, v3, v4, v5, rfl, s', hx⟩
      have lv := hC.len
      rw [lv, List.take_length] at hx
      exact ⟨_, rfl, k H' x s' hx⟩
end
end My

/-! is_integer_between, errors with one field -/
namespace My
open PySem L2 Cm LM
abbrev sIIB : Stmt := top 14
structure TxEr (K : PySem.W.Frag) (mg : Str → Option Value) (name fld : Str) (st : Stmt) (qual : Str) where
  C : Addr
  f : Addr
  fd : FuncData
  g : mg name = some (.ref C)
  o : OexC K C
  i : PySem.W.findIn K (.ref C) "__init__" = some (some (.ref f))
  t : PySem.W.typeIn K (.ref f) = some (.type "function")
  n : PySem.W.findIn K (.ref C) fld = some none
  F : Fun K "__init__" qual st f fd
  b : Binds K fd ["self", fld] []
structure TxI (K : PySem.W.Frag) (mg : Str → Option Value) where
  isi : mg "isinstance" = none
  int : mg "int" = none
  bool : mg "bool" = none
  iib : Df K mg "is_integer_between" sIIB ["value", "low", "high"]
section
variable {P : Program} {w : World} {K : PySem.W.Frag} {mg : Str → Option Value} {base : Heap}
def spER (fld : Str) (CE : Addr) : Sp := fun vs H Q _ => ∃ (a : Addr) (v : V), vs = [.ref a, v] ∧ H a = some (exo a CE none) ∧ ∀ dx, H dx = none → dx ≠ a → Q .non (upd (upd H dx (exd dx [(fld, v)])) a (exo a CE (some dx)))
theorem mk_er {fld : Str} {CE : Addr} {ta : TA} {σ : St} {H : Hp} {Q : XK} {x : V} (h : ta σ H fun vs H1 => vs = [x] ∧ H1 = H) (mono : ∀ {R R' : List V → Hp → Prop}, ta σ H R → (∀ v H1, R v H1 → R' v H1) → ta σ H R')
    (q : ∀ d, H d = none → Q (.ref CE) (some d) (upd H d (.xd [(fld, x)]))) : tMkO CE (spER fld CE) [] ta σ H Q := by
  refine mono h fun vs H1 hh => ?_
  obtain ⟨rfl, rfl⟩ := hh
  refine ⟨by show 1 ≤ 1000; decide, fun a na => ⟨a, x, rfl, upd_same, fun dx ndx nda => ⟨rfl, dx, [(fld, x)], upd_same, ?_, ?_, ?_⟩⟩⟩
  · rw [upd_ne nda, upd_same]
  · rw [upd_ne nda] at ndx
    exact ndx
  · have e : upd (del (upd (upd (upd H1 a (exo a CE none)) dx (exd dx [(fld, x)])) a (exo a CE (some dx))) a) dx (.xd [(fld, x)]) = upd H1 dx (.xd [(fld, x)]) := by
      funext b
      by_cases h1 : b = dx
      · rw [h1, upd_same, upd_same]
      · rw [upd_ne h1, upd_ne h1]
        by_cases h2 : b = a
        · rw [h2, del_same, na]
        · rw [del_ne h2, upd_ne h2, upd_ne h1, upd_ne h2]
    rw [e]
    rw [upd_ne nda] at ndx
    exact q dx ndx
/-! ### is_integer_between -/
def isI : V → Bool
  | .int _ => true
  | _ => false
def isB : V → Bool
  | .bl _ => true
  | _ => false
/-- an integer within these bounds -/
def btw (lo hi : Int) : V → Bool
  | .int i => decide (lo ≤ i ∧ i ≤ hi)
  | _ => false
def TypedI (K : PySem.W.Frag) (H : Hp) (x : V) : Prop := ∃ t, TyX K H x t ∧ PySem.W.kitOne K t (.type "int") = some (isI x || isB x) ∧ PySem.W.kitOne K t (.type "bool") = some (isB x)
theorem TypedI.same {H H' : Hp} {x : V} (s : Same H H') (h : TypedI K H x) : TypedI K H' x := let ⟨t, a, b⟩ := h; ⟨t, TyX_same s a, b⟩
theorem typed_int {H : Hp} (i : Int) : TypedI K H (.int i) := ⟨_, .base (.int i), kit_ty (show kitB "int" "int" = some true by decide +kernel), kit_ty (show kitB "int" "bool" = some false by decide +kernel)⟩
theorem typed_bl {H : Hp} (i : Bool) : TypedI K H (.bl i) := ⟨_, .base (.bl i), kit_ty (show kitB "bool" "int" = some true by decide +kernel), kit_ty (show kitB "bool" "bool" = some true by decide +kernel)⟩
def spIIB (K : PySem.W.Frag) : Sp := fun vs H Q _ => ∃ (v : V) (lo hi : Int), vs = [v, .int lo, .int hi] ∧ TypedI K H v ∧ Q (.bl (btw lo hi v)) H
theorem scIIB : FnScope ["value", "low", "high"] ["value", "low", "high"] (defScope sIIB) := ⟨rfl, rfl, rfl, by decide +kernel, rfl, by decide +kernel, by decide +kernel⟩
theorem ok_iib (M : TxI K mg) : FnOk P w K mg base CX0 1 M.iib.f M.iib.fd ["value", "low", "high"] (spIIB K) := by
  refine M.iib.F.ok scIIB (fun vs H Q E h => ?_) (fun cdv A outer s H vs Q E hr h => ?_)
  · obtain ⟨v, lo, hi, rfl, _⟩ := h
    rfl
  · obtain ⟨v, lo, hi, rfl, ⟨t, ty, k1, k2⟩, k⟩ := h
    refine ⟨_, pss_one (ps_ret (pe_and (pe_callB call_isi (by rfl) M.isi (by decide +kernel) (pa_cons (pv 0) (pa_cons (pe_bltn (v := .ty "int") (by rfl) M.int (by decide +kernel) rfl) pa_nil)))
      (pe_and (pe_not (pe_callB call_isi (by rfl) M.isi (by decide +kernel) (pa_cons (pv 0) (pa_cons (pe_bltn (v := .ty "bool") (by rfl) M.bool (by decide +kernel) rfl) pa_nil))))
        (pe_one (pe_chain op_le op_le (pv 1) (pv 0) (pv 2)))))), ?_⟩
    refine ⟨_, rfl, _, _, _, _, _, rfl, .ty "int", ty, k1, _, rfl, ?_⟩
    cases hv : (isI v || isB v) with
    | false =>
      refine iteF ?_
      have e : btw lo hi v = false := by
        cases v <;> first | rfl | cases hv
      rw [e] at k
      exact k
    | true =>
      refine iteT ?_
      refine ⟨_, rfl, _, _, _, _, _, rfl, .ty "bool", ty, k2, _, rfl, _, rfl, ?_⟩
      cases hb : isB v with
      | true =>
        have e : btw lo hi v = false := by
          cases v <;> first | rfl | cases hb
        rw [e] at k
        exact iteF k
      | false =>
        refine iteT ?_
        rw [hb, Bool.or_false] at hv
        obtain ⟨i, rfl⟩ : ∃ i, v = .int i := by
          cases v <;> first | exact ⟨_, rfl⟩ | cases hv
        refine ⟨_, rfl, _, rfl, _, _, rfl, rfl, _, rfl, ?_⟩
        have k : Q (.bl (decide (lo ≤ i ∧ i ≤ hi))) H := k
        refine ite2 (fun c => ?_) (fun c => ?_)
        · refine ⟨_, rfl, _, _, rfl, rfl, ?_⟩
          have c1 : lo ≤ i := of_decide_eq_true c
          have e : decide (lo ≤ i ∧ i ≤ hi) = decide (i ≤ hi) := decide_eq_decide.mpr ⟨fun z => z.2, fun z => ⟨c1, z⟩⟩
          rw [e] at k
          exact k
        · have c1 : ¬ lo ≤ i := fun z => c (decide_eq_true z)
          rw [show decide (lo ≤ i ∧ i ≤ hi) = false from decide_eq_false fun z => c1 z.1] at k
          exact k
end
end My

/-! Row.sizes, check_chain -/
namespace My
open PySem L2 Cm LM CH
abbrev sENC : Stmt := inClass (top 3) 0
theorem scENC : FnScope ["self", "value"] ["self", "value"] (defScope sENC) := ⟨rfl, rfl, rfl, by decide +kernel, rfl, by decide +kernel, by decide +kernel⟩
theorem ok_enc {P : Program} {w : World} {K : PySem.W.Frag} {mg : Str → Option Value} {base : Heap} (T : TxEr K mg "NotAChain" "value" sENC "NotAChain.__init__") : FnOk P w K mg base CX0 1 T.f T.fd ["self", "value"] (spER "value" T.C) := by
  refine T.F.ok scENC (fun vs H Q E h => ?_) (fun cdv A outer s H vs Q E hr h => ?_)
  · obtain ⟨a, v, rfl, _⟩ := h
    rfl
  · obtain ⟨a, v, rfl, ha, k⟩ := h
    exact ⟨_, pss_one (ps_ost (pv 0) (pv 1)), _, rfl, _, rfl, a, T.C, rfl, T.o, T.n, .inl ⟨ha, fun dx n ne => k dx n ne⟩⟩
abbrev sRS : Stmt := inClass (top 16) 2
abbrev sCC : Stmt := top 28
structure TxS (w : World) (K : PySem.W.Frag) (mg : Str → Option Value) where
  R : TxRw w K mg
  I : TxI K mg
  ty : TyC K R.A.C
  eC : TxEr K mg "NotAChain" "value" sENC "NotAChain.__init__"
  rs : Mt K R.C "sizes" "Row.sizes" sRS ["self"]
  cc : Df K mg "check_chain" sCC ["chain"]
theorem rep_flat (u : List Nat) : ∀ k, (List.replicate k (nvs u)).flatten = nvs (List.replicate k u).flatten
  | 0 => rfl
  | k + 1 => by rw [List.replicate_succ, List.flatten_cons, rep_flat u k, List.replicate_succ, List.flatten_cons, nvs_app]
section
variable {P : Program} {w : World} {K : PySem.W.Frag} {mg : Str → Option Value} {base : Heap}
def spRS (C : Addr) : Sp := fun vs H Q _ => ∃ (o : Addr) (r : Rw), vs = [.ref o] ∧ RowAt C H o r ∧ RB r ∧ r.tot ≤ 1000 ∧ ∀ (H' : Hp) (q : Addr), Same H H' → H' q = some (.tup (nvs r.sizes)) → Q (.ref q) H'
theorem scRS : FnScope ["self"] ["self"] (defScope sRS) := ⟨rfl, rfl, rfl, by decide +kernel, rfl, by decide +kernel, by decide +kernel⟩
theorem ok_rs (T : TxS w K mg) : FnOk P w K mg base CX0 1 T.rs.f T.rs.fd ["self"] (spRS T.R.C) := by
  refine T.rs.F.ok scRS (fun vs H Q E h => ?_) (fun cdv A outer s H vs Q E hr h => ?_)
  · obtain ⟨o, r, rfl, _⟩ := h
    rfl
  · obtain ⟨o, r, rfl, ⟨dx, pu, pl, e, hu, hl⟩, b, ht, k⟩ := h
    refine ⟨_, (pss_one (ps_ret (pe_op op_catH (pe_op RwR.op_repN (pe_fld (pv 0) rfl) (pe_fld (pv 0) rfl)) (pe_fld (pv 0) rfl)))), ?_⟩
    have b1 := b.ul
    have b2 := b.ll
    have b3 := b.tt
    refine ⟨_, rfl, o, T.R.C, dx, _, _, rfl, e, T.R.cl, T.R.nU, rf_u .., _, rfl, o, T.R.C, dx, _, _, rfl, e, T.R.cl, T.R.nT, rf_t .., pu, r.times, _, rfl, rfl, hu, by omega, by rw [nvs_len]; omega, fun _ => by omega, fun H1 q1 s1 hq1 => ?_⟩
    rw [rep_flat] at hq1
    refine ⟨_, rfl, o, T.R.C, dx, _, _, rfl, s1 _ _ e, T.R.cl, T.R.nL, rf_l .., q1, pl, _, _, rfl, rfl, hq1, s1 _ _ hl, ?_, fun H2 q2 s2 hq2 => ?_⟩
    · rw [nvs_len, nvs_len, rep_len]
      have : r.times * r.unit.length ≤ 1000 * 12 := Nat.mul_le_mul (by omega) b1
      exact Nat.le_of_lt (szM (by omega))
    · rw [← nvs_app] at hq2
      exact k H2 q2 (Same.trans s1 s2) hq2
def spCC (K : PySem.W.Frag) (C CE : Addr) : Sp := fun vs H Q E => ∃ v : V, vs = [v] ∧ ((∃ (o : Addr) (t : Str), v = .ref o ∧ ChainAt C H o t ∧ Q .non H) ∨ ∃ ty, TyX K H v ty ∧ PySem.W.kitOne K ty (.ref C) = some false ∧ ∀ d, H d = none → E (.ref CE) (some d) (upd H d (.xd [("value", v)])))
theorem scCC : FnScope ["chain"] ["chain"] (defScope sCC) := ⟨rfl, rfl, rfl, by decide +kernel, rfl, by decide +kernel, by decide +kernel⟩
theorem ok_cc (T : TxS w K mg) : FnOk P w K mg base (L2.CX P w) 3 T.cc.f T.cc.fd ["chain"] (spCC K T.R.A.C T.eC.C) := by
  have GE : FnOk P w K mg base CX0 1 T.eC.f T.eC.fd ["self", "value"] (spER "value" T.eC.C) := ok_enc T.eC
  refine T.cc.F.okX scCC (fun vs H Q E h => ?_) (fun cdv A outer s H vs Q E hr h => ?_)
  · obtain ⟨v, rfl, _⟩ := h
    rfl
  · obtain ⟨v, rfl, k⟩ := h
    refine ⟨_, pss_one (ps_if (pt_not (pt_val (pe_callB call_isi (by rfl) T.I.isi (by decide +kernel) (pa_cons (pv 0) (pa_cons (pe_glob (v := .ref T.R.A.C) rfl T.R.A.gC rfl) pa_nil)))))
      (pss_one (ps_raise rfl (takes_of rfl rfl rfl rfl) (pmk_oex T.eC.o T.eC.i T.eC.t GE hr T.eC.b .nil pass0 rfl T.eC.g (pa_cons (pv 0) pa_nil)))) pss_nil), ?_⟩
    rcases k with ⟨o, t, rfl, hO, k⟩ | ⟨ty, hty, kt, k⟩
    · exact ⟨_, rfl, _, _, _, _, true, rfl, .own T.R.A.C, hO.ty T.R.A T.ty, T.ty.k1, true, rfl, iteF k⟩
    · refine ⟨_, rfl, _, _, _, _, false, rfl, .own T.R.A.C, hty, kt, false, rfl, iteT ?_⟩
      exact mk_er (x := v) ⟨v, rfl, rfl, rfl⟩ (fun {R R'} ⟨v, e1, q⟩ f => ⟨v, e1, f _ _ q⟩) k
end
end My

/-! first_difference -/
namespace My
open PySem L2 Cm LM CH
abbrev sASp : Stmt := top 31
abbrev sFD : Stmt := top 32
structure TxF (w : World) (K : PySem.W.Frag) (mg : Str → Option Value) where
  S : TxS w K mg
  mt : ∃ t, mg "MOST_TELLING" = some (.int 216 t)
  asp : Df K mg "are_split" sASp ["chain", "other_chain", "items"]
  fd : Df K mg "first_difference" sFD ["chain", "other_chain"]
/-! ### rows of counts as data -/
def natD (xs : List Nat) : List PyData := xs.map fun n => PyData.int (n : Nat)
theorem dp_nat {K : PySem.W.Frag} {H : Hp} : ∀ xs : List Nat, DpAll K H (nvs xs) (natD xs)
  | [] => .nil
  | x :: r => .cons (.int _) (dp_nat r)
theorem natD_lay : ∀ xs : List Nat, PyData.canLayAll0 (natD xs) = true ∧ PyData.depthAll (natD xs) = 0
  | [] => ⟨by simp [natD, PyData.canLayAll0], by simp [natD, PyData.depthAll]⟩
  | x :: r => by
    obtain ⟨a, b⟩ := natD_lay r
    have e : natD (x :: r) = PyData.int (x : Nat) :: natD r := rfl
    rw [e]
    refine ⟨?_, ?_⟩
    · rw [PyData.canLayAll0, a]; simp [PyData.canLay0]
    · rw [PyData.depthAll, b]; simp [PyData.depth]
theorem natT_shaped (xs : List Nat) : SeqAt.shaped (.tuple (natD xs)) = true := by
  obtain ⟨a, b⟩ := natD_lay xs
  unfold SeqAt.shaped
  rw [Bool.and_eq_true]
  refine ⟨by rw [PyData.canLay0]; exact a, decide_eq_true ?_⟩
  rw [PyData.depth, b]
  decide
theorem natL_shaped (xs : List Nat) : SeqAt.shaped (.list (natD xs)) = true := by
  obtain ⟨a, b⟩ := natD_lay xs
  unfold SeqAt.shaped
  rw [Bool.and_eq_true]
  refine ⟨by rw [PyData.canLay0]; exact a, decide_eq_true ?_⟩
  rw [PyData.depth, b]
  decide
theorem nat_eqv : ∀ xs ys : List Nat, PyData.eqvAll (natD xs) (natD ys) = decide (xs = ys)
  | [], [] => by simp [natD, PyData.eqvAll]
  | [], y :: r => by simp [natD, PyData.eqvAll]
  | x :: r, [] => by simp [natD, PyData.eqvAll]
  | x :: r, y :: z => by
    have e1 : natD (x :: r) = PyData.int (x : Nat) :: natD r := rfl
    have e2 : natD (y :: z) = PyData.int (y : Nat) :: natD z := rfl
    rw [e1, e2, PyData.eqvAll, nat_eqv r z, PyData.eqv]
    by_cases h : x = y
    · subst h
      simp
    · have : ((x : Nat) : Int) ≠ ((y : Nat) : Int) := by omega
      simp [h, this]
/-- the least number of items up to this one for which the rows differ -/
def firstD (cs ds : List (Kd × Nat)) : Option Nat := (List.range 217).find? fun n => decide (lens cs n ≠ lens ds n)
theorem firstD_some {cs ds : List (Kd × Nat)} {n : Nat} : firstD cs ds = some n ↔ n ≤ 216 ∧ lens cs n ≠ lens ds n ∧ ∀ m, m < n → lens cs m = lens ds m := by
  unfold firstD
  rw [List.find?_range_eq_some]
  constructor
  · rintro ⟨a, b, c⟩
    refine ⟨by have := List.mem_range.mp b; omega, of_decide_eq_true a, fun m hm => ?_⟩
    have := c m hm
    simpa using this
  · rintro ⟨a, b, c⟩
    refine ⟨decide_eq_true b, List.mem_range.mpr (by omega), fun m hm => ?_⟩
    simpa using c m hm
theorem firstD_none {cs ds : List (Kd × Nat)} : firstD cs ds = none ↔ ∀ m, m ≤ 216 → lens cs m = lens ds m := by
  unfold firstD
  rw [List.find?_eq_none]
  constructor
  · intro h m hm
    simpa using h m (List.mem_range.mpr (by omega))
  · intro h m hm
    have := h m (by have := List.mem_range.mp hm; omega)
    simpa using this
def optV : Option Nat → V
  | none => .non
  | some n => .int (n : Nat)
section
variable {P : Program} {w : World} {K : PySem.W.Frag} {mg : Str → Option Value} {base : Heap}
def spASp (CA : Addr) : Sp := fun vs H Q _ => ∃ (o1 o2 : Addr) (t1 t2 : Str) (n : Nat), vs = [.ref o1, .ref o2, .int n] ∧ ChainAt CA H o1 t1 ∧ ChainAt CA H o2 t2 ∧ goodC t1 = true ∧ goodC t2 = true ∧ n ≤ 1000 ∧
  ∀ H', Same H H' → Q (.bl (!decide (lens (cuttersOf t1) n = lens (cuttersOf t2) n))) H'
theorem scASp : FnScope ["chain", "other_chain", "items"] ["chain", "other_chain", "items"] (defScope sASp) := ⟨rfl, rfl, rfl, by decide +kernel, rfl, by decide +kernel, by decide +kernel⟩
theorem ok_asp (T : TxF w K mg) : FnOk P w K mg base CX0 6 T.asp.f T.asp.fd ["chain", "other_chain", "items"] (spASp T.S.R.A.C) := by
  have GO : FnOk P w K mg base CX0 5 T.S.R.ro.f T.S.R.ro.fd ["self", "items"] (spRO T.S.R.A.C T.S.R.C) := ok_ro T.S.R
  have GS : FnOk P w K mg base CX0 1 T.S.rs.f T.S.rs.fd ["self"] (spRS T.S.R.C) := ok_rs T.S
  refine T.asp.F.ok scASp (fun vs H Q E h => ?_) (fun cdv A outer s H vs Q E hr h => ?_)
  · obtain ⟨o1, o2, t1, t2, n, rfl, _⟩ := h
    rfl
  · obtain ⟨o1, o2, t1, t2, n, rfl, h1, h2, g1, g2, hn, k⟩ := h
    have hr1 : Room 1 _ := hr.mono (by decide)
    refine ⟨_, (pss_one (ps_ret (pe_cmpR (op_neD (hu64 hr)) (pe_meth0 (pe_meth (pv 0) T.S.R.A.cl T.S.R.ro.m GO hr T.S.R.ro.b .nil pass0 (pa_cons (pv 2) pa_nil)) T.S.R.cl T.S.rs.m GS hr1 T.S.rs.b .nil pass0) (pe_meth0 (pe_meth (pv 1) T.S.R.A.cl T.S.R.ro.m GO hr T.S.R.ro.b .nil pass0 (pa_cons (pv 2) pa_nil)) T.S.R.cl T.S.rs.m GS hr1 T.S.rs.b .nil pass0) (nomark _)))), ?_⟩
    have no : ∀ {t : Str} {q : Addr}, (cf t q).lookup ("row_of" : Str) = none := cf_no _ _ (by decide +kernel) (by decide +kernel)
    have rb1 : RB (rowOf (cuttersOf t1) n) := rb_row cutters_ct (cutters_len g1).1 (by omega)
    have rb2 : RB (rowOf (cuttersOf t2) n) := rb_row cutters_ct (cutters_len g2).1 (by omega)
    obtain ⟨d1, p1, v1, e1, _⟩ := id h1
    refine ⟨_, rfl, o1, d1, _, rfl, e1, no, _, rfl, o1, t1, n, rfl, h1, g1, by omega, fun H1 x1 s1 hx1 => ?_⟩
    obtain ⟨dr, pu, pl, er, _⟩ := id hx1
    refine ⟨x1, dr, _, rfl, er, (rf_no ..).2.1, x1, _, rfl, hx1, rb1, by rw [row_tot]; exact hn, fun H2 q1 s2 hq1 => ?_⟩
    rw [row_sizes] at hq1
    have h22 := h2.same (Same.trans s1 s2)
    obtain ⟨d2, p2, v2, e2, _⟩ := id h22
    refine ⟨_, rfl, o2, d2, _, rfl, e2, no, _, rfl, o2, t2, n, rfl, h22, g2, by omega, fun H3 x2 s3 hx2 => ?_⟩
    obtain ⟨dr2, pu2, pl2, er2, _⟩ := id hx2
    refine ⟨x2, dr2, _, rfl, er2, (rf_no ..).2.1, x2, _, rfl, hx2, rb2, by rw [row_tot]; exact hn, fun H4 q2 s4 hq2 => ?_⟩
    rw [row_sizes] at hq2
    refine ⟨.tuple (natD (lens (cuttersOf t1) n)), .tuple (natD (lens (cuttersOf t2) n)), .tup (SqT.of (s4 _ _ (s3 _ _ hq1))) (dp_nat _), .tup (SqT.of hq2) (dp_nat _), natT_shaped _, natT_shaped _, ?_⟩
    rw [PyData.eqv, nat_eqv]
    exact k H4 (Same.trans (Same.trans s1 s2) (Same.trans s3 s4))
def spFD (K : PySem.W.Frag) (CA CE : Addr) : Sp := fun vs H Q E => ∃ v1 v2 : V, vs = [v1, v2] ∧
  ((∃ ty, TyX K H v1 ty ∧ PySem.W.kitOne K ty (.ref CA) = some false ∧ ∀ d, H d = none → E (.ref CE) (some d) (upd H d (.xd [("value", v1)]))) ∨
   ∃ (o1 : Addr) (t1 : Str), v1 = .ref o1 ∧ ChainAt CA H o1 t1 ∧ goodC t1 = true ∧
    ((∃ ty, TyX K H v2 ty ∧ PySem.W.kitOne K ty (.ref CA) = some false ∧ ∀ d, H d = none → E (.ref CE) (some d) (upd H d (.xd [("value", v2)]))) ∨
     ∃ (o2 : Addr) (t2 : Str), v2 = .ref o2 ∧ ChainAt CA H o2 t2 ∧ goodC t2 = true ∧ ∀ H', Same H H' → Q (optV (firstD (cuttersOf t1) (cuttersOf t2))) H'))
theorem scFD : FnScope ["chain", "other_chain", "items"] ["chain", "other_chain"] (defScope sFD) := ⟨rfl, rfl, rfl, by decide +kernel, rfl, by decide +kernel, by decide +kernel⟩
theorem ok_fd (T : TxF w K mg) : FnOk P w K mg base (L2.CX P w) 7 T.fd.f T.fd.fd ["chain", "other_chain"] (spFD K T.S.R.A.C T.S.eC.C) := by
  have GC : FnOk P w K mg base (L2.CX P w) 3 T.S.cc.f T.S.cc.fd ["chain"] (spCC K T.S.R.A.C T.S.eC.C) := ok_cc T.S
  have GA : FnOk P w K mg base CX0 6 T.asp.f T.asp.fd ["chain", "other_chain", "items"] (spASp T.S.R.A.C) := ok_asp T
  obtain ⟨tm, mm⟩ := T.mt
  refine T.fd.F.okX scFD (fun vs H Q E h => ?_) (fun cdv A outer s H vs Q E hr h => ?_)
  · obtain ⟨v1, v2, rfl, _⟩ := h
    rfl
  · obtain ⟨v1, v2, rfl, hh⟩ := h
    have hr3 : Room 3 _ := hr.mono (by decide)
    refine ⟨_, (pss_cons (ps_expr (pe_call (E := E) GC hr3 rfl T.S.cc.g T.S.cc.k T.S.cc.b .nil (passes_call (takes_of rfl rfl rfl rfl) fun _ _ _ _ z => z) (pa_cons (pv 0) pa_nil))) (pss_cons (ps_expr (pe_call (E := E) GC hr3 rfl T.S.cc.g T.S.cc.k T.S.cc.b .nil (passes_call (takes_of rfl rfl rfl rfl) fun _ _ _ _ z => z) (pa_cons (pv 1) pa_nil))) (pss_cons (ps_for (passes_of rfl) rfl (pi_range1 rfl T.S.R.A.range (pa_cons (pe_op op_add (pe_glob (v := .int 216) rfl mm ⟨_, rfl⟩) pe_int) pa_nil)) (pg_name (i := 2) scFD.nd rfl (.inl rfl)) (pss_one (ps_if (pt_val (pe_call GA hr rfl T.asp.g T.asp.k T.asp.b .nil pass0 (pa_cons (pv 0) (pa_cons (pv 1) (pa_cons (pv 2) pa_nil))))) (pss_one (ps_ret (pv 2))) pss_nil))) (pss_one (ps_ret pe_non))))), ?_⟩
    rcases hh with ⟨ty, hty, hk, kE⟩ | ⟨o1, t1, rfl, h1, g1, hh⟩
    · exact ⟨_, rfl, v1, rfl, .inr ⟨ty, hty, hk, kE⟩⟩
    refine ⟨_, rfl, .ref o1, rfl, .inl ⟨o1, t1, rfl, h1, ?_⟩⟩
    rcases hh with ⟨ty, hty, hk, kE⟩ | ⟨o2, t2, rfl, h2, g2, k⟩
    · exact ⟨_, rfl, v2, rfl, .inr ⟨ty, hty, hk, kE⟩⟩
    refine ⟨_, rfl, .ref o2, rfl, .inl ⟨o2, t2, rfl, h2, ?_⟩⟩
    refine ⟨_, _, rfl, rfl, 217, rfl, by decide, by decide, for_range (lo := 0) (n := 217) (fun i σ H' => (∃ v2, σ = [some (.ref o1), some (.ref o2), v2]) ∧ Same H H' ∧ ∀ m, m < i → lens (cuttersOf t1) m = lens (cuttersOf t2) m) ⟨⟨none, rfl⟩, Same.refl _, fun m h => by omega⟩ ?_ ?_⟩
    · rintro i σ H1 hi ⟨⟨v2, rfl⟩, s1, he⟩
      have e0 : (0 : Int) + (i : Int) = ((i : Nat) : Int) := by omega
      refine ⟨_, rfl, _, rfl, _, rfl, o1, o2, t1, t2, i, by rw [e0]; rfl, h1.same s1, h2.same s1, g1, g2, by omega, fun H2 s2 => ⟨_, rfl, ?_⟩⟩
      by_cases c : lens (cuttersOf t1) i = lens (cuttersOf t2) i
      · rw [decide_eq_true c]
        refine iteF ⟨⟨_, rfl⟩, Same.trans s1 s2, fun m hm => ?_⟩
        rcases Nat.lt_or_ge m i with z | z
        · exact he m z
        · rw [show m = i by omega]; exact c
      · rw [decide_eq_false c]
        refine iteT ⟨_, rfl, ?_⟩
        have : firstD (cuttersOf t1) (cuttersOf t2) = some i := firstD_some.mpr ⟨by omega, c, he⟩
        rw [this] at k
        rw [e0]
        exact k H2 (Same.trans s1 s2)
    · rintro σ H1 ⟨⟨v2, rfl⟩, s1, he⟩
      have : firstD (cuttersOf t1) (cuttersOf t2) = none := firstD_none.mpr fun m hm => he m (by omega)
      rw [this] at k
      exact k H1 s1
end
end My

/-! the pieces of a row, and Chain.number, piece, place_of -/
namespace My
open PySem L2 Cm LM CH
abbrev sEIt : Stmt := inClass (top 5) 0
theorem scEIt : FnScope ["self", "value"] ["self", "value"] (defScope sEIt) := ⟨rfl, rfl, rfl, by decide +kernel, rfl, by decide +kernel, by decide +kernel⟩
theorem ok_eit {P : Program} {w : World} {K : PySem.W.Frag} {mg : Str → Option Value} {base : Heap} (T : TxEr K mg "InvalidItems" "value" sEIt "InvalidItems.__init__") : FnOk P w K mg base CX0 1 T.f T.fd ["self", "value"] (spER "value" T.C) := by
  refine T.F.ok scEIt (fun vs H Q E h => ?_) (fun cdv A outer s H vs Q E hr h => ?_)
  · obtain ⟨a, v, rfl, _⟩ := h
    rfl
  · obtain ⟨a, v, rfl, ha, k⟩ := h
    exact ⟨_, pss_one (ps_ost (pv 0) (pv 1)), _, rfl, _, rfl, a, T.C, rfl, T.o, T.n, .inl ⟨ha, fun dx n ne => k dx n ne⟩⟩
abbrev sEPl : Stmt := inClass (top 6) 0
theorem scEPl : FnScope ["self", "value"] ["self", "value"] (defScope sEPl) := ⟨rfl, rfl, rfl, by decide +kernel, rfl, by decide +kernel, by decide +kernel⟩
theorem ok_epl {P : Program} {w : World} {K : PySem.W.Frag} {mg : Str → Option Value} {base : Heap} (T : TxEr K mg "InvalidPlace" "value" sEPl "InvalidPlace.__init__") : FnOk P w K mg base CX0 1 T.f T.fd ["self", "value"] (spER "value" T.C) := by
  refine T.F.ok scEPl (fun vs H Q E h => ?_) (fun cdv A outer s H vs Q E hr h => ?_)
  · obtain ⟨a, v, rfl, _⟩ := h
    rfl
  · obtain ⟨a, v, rfl, ha, k⟩ := h
    exact ⟨_, pss_one (ps_ost (pv 0) (pv 1)), _, rfl, _, rfl, a, T.C, rfl, T.o, T.n, .inl ⟨ha, fun dx n ne => k dx n ne⟩⟩
abbrev sPA : Stmt := inClass (top 16) 3
abbrev sPW : Stmt := inClass (top 16) 4
abbrev sPL : Stmt := top 17
abbrev sCCI : Stmt := top 29
abbrev sAN : Stmt := inClass (top 30) 4
abbrev sAP : Stmt := inClass (top 30) 5
abbrev sAO : Stmt := inClass (top 30) 6
structure TxP (w : World) (K : PySem.W.Frag) (mg : Str → Option Value) where
  R : TxRw w K mg
  I : TxI K mg
  divmod : mg "divmod" = none
  mci : ∃ t, mg "MOST_CHAIN_ITEMS" = some (.int 999999999999999999 t)
  eI : TxEr K mg "InvalidItems" "value" sEIt "InvalidItems.__init__"
  eP : TxEr K mg "InvalidPlace" "value" sEPl "InvalidPlace.__init__"
  pa : Mt K R.C "piece_at" "Row.piece_at" sPA ["self", "place"]
  pw : Mt K R.C "place_with" "Row.place_with" sPW ["self", "item"]
  pl : Df K mg "place_among" sPL ["sizes", "item"]
  cci : Df K mg "check_chain_items" sCCI ["items"]
  an : Mt K R.A.C "number" "Chain.number" sAN ["self", "items"]
  ap : Mt K R.A.C "piece" "Chain.piece" sAP ["self", "items", "place"]
  ao : Mt K R.A.C "place_of" "Chain.place_of" sAO ["self", "items", "item"]
section
variable {P : Program} {w : World} {K : PySem.W.Frag} {mg : Str → Option Value} {base : Heap}
/-! ### piece_at -/
/-- a pair of counts -/
def NPair (H : Hp) (q : Addr) (x : Nat × Nat) : Prop := H q = some (.tup [.int (x.1 : Nat), .int (x.2 : Nat)])
def spPA (C : Addr) : Sp := fun vs H Q _ => ∃ (o : Addr) (r : Rw) (p : Nat), vs = [.ref o, .int p] ∧ RowAt C H o r ∧ RB r ∧ p < r.many ∧ ∀ (H' : Hp) (q : Addr), Same H H' → NPair H' q (pieceR r p) → Q (.ref q) H'
theorem scPA : FnScope ["self", "place", "inside", "turn"] ["self", "place"] (defScope sPA) := ⟨rfl, rfl, rfl, by decide +kernel, rfl, by decide +kernel, by decide +kernel⟩
theorem cut_nat (xs : List Nat) (k : Nat) (h : k ≤ xs.length) : cutV (nvs xs) none (some (k : Int)) = nvs (xs.take k) := by rw [cut_to _ _ (by rw [nvs_len]; exact h), nvs_take]
theorem ok_pa (T : TxP w K mg) : FnOk P w K mg base CX0 1 T.pa.f T.pa.fd ["self", "place"] (spPA T.R.C) := by
  refine T.pa.F.ok scPA (fun vs H Q E h => ?_) (fun cdv A outer s H vs Q E hr h => ?_)
  · obtain ⟨o, r, p, rfl, _⟩ := h
    rfl
  · obtain ⟨o, r, p, rfl, ⟨dx, pu, pl, e, hu, hl⟩, b, hp, k⟩ := h
    refine ⟨_, (pss_cons (ps_set (i := 2) scPA.nd rfl (.inl rfl) (pe_op op_mul (pe_fld (pv 0) rfl) (pe_callB call_len_seq (by rfl) T.R.A.len PySem.boot_len (pa_cons (pe_fld (pv 0) rfl) pa_nil)))) (pss_cons (ps_if (pt_cmpR op_lt (pv 1) (pv 2) (nomark _)) (pss_cons (ps_asg (pe_callB call_divmod (by rfl) T.divmod (by decide +kernel) (pa_cons (pv 1) (pa_cons (pe_callB call_len_seq (by rfl) T.R.A.len PySem.boot_len (pa_cons (pe_fld (pv 0) rfl) pa_nil)) pa_nil))) (pg_tup rfl (pgs_cons (pg_name (i := 3) scPA.nd rfl (.inl rfl)) (pgs_cons (pg_name (i := 1) scPA.nd rfl (.inl rfl)) pgs_nil)))) (pss_one (ps_ret (pe_tup (pa_cons (pe_op op_add (pe_op op_mul (pv 3) (pe_callB (RwR.cr_sumT rfl) (by rfl) T.R.sum (by decide +kernel) (pa_cons (pe_fld (pv 0) rfl) pa_nil))) (pe_callB (RwR.cr_sumT rfl) (by rfl) T.R.sum (by decide +kernel) (pa_cons (pe_slice sl_tupH (pe_fld (pv 0) rfl) po_none (po_some (pv 1))) pa_nil))) (pa_cons (pe_ix ix_tup (pe_fld (pv 0) rfl) (pv 1) (fun _ _ => rfl)) pa_nil)))))) pss_nil) (pss_cons (ps_aug (i := 1) scPA.nd rfl (.inl rfl) (pv 2) ip_sub) (pss_one (ps_ret (pe_tup (pa_cons (pe_op op_add (pe_op op_mul (pe_fld (pv 0) rfl) (pe_callB (RwR.cr_sumT rfl) (by rfl) T.R.sum (by decide +kernel) (pa_cons (pe_fld (pv 0) rfl) pa_nil))) (pe_callB (RwR.cr_sumT rfl) (by rfl) T.R.sum (by decide +kernel) (pa_cons (pe_slice sl_tupH (pe_fld (pv 0) rfl) po_none (po_some (pv 1))) pa_nil))) (pa_cons (pe_ix ix_tup (pe_fld (pv 0) rfl) (pv 1) (fun _ _ => rfl)) pa_nil)))))))), ?_⟩
    have b1 := b.us
    have b2 := b.ul
    have b3 := b.tt
    have b4 := b.t
    refine ⟨_, rfl, o, T.R.C, dx, _, _, rfl, e, T.R.cl, T.R.nT, rf_t .., _, rfl, o, T.R.C, dx, _, _, rfl, e, T.R.cl, T.R.nU, rf_u .., pu, _, rfl, .inr (SqT.of hu), _, _, rfl, rfl, .inr (by rw [nvs_len]; omega), ?_⟩
    have ei : (r.times : Int) * ((nvs r.unit).length : Int) = ((r.times * r.unit.length : Nat) : Int) := by rw [nvs_len, Int.natCast_mul]
    simp only [ei]
    refine ⟨_, rfl, _, rfl, _, _, rfl, rfl, _, rfl, ?_⟩
    unfold pieceR at k
    by_cases c : p < r.times * r.unit.length
    · rw [if_pos c] at k
      rw [show decide (((p : Nat) : Int) < ((r.times * r.unit.length : Nat) : Int)) = true from decide_eq_true (by omega)]
      refine iteT ?_
      have l1 : 1 ≤ r.unit.length := by
        rcases Nat.eq_zero_or_pos r.unit.length with z | z
        · rw [z] at c; omega
        · exact z
      refine ⟨_, rfl, _, rfl, o, T.R.C, dx, _, _, rfl, e, T.R.cl, T.R.nU, rf_u .., pu, _, rfl, .inr (SqT.of hu), p, _, rfl, ⟨by rw [nvs_len]; omega, by rw [nvs_len]; omega⟩, fun q nq => ?_⟩
      have s1 := same_new (o := .tup [.int ((p : Int) / ((nvs r.unit).length : Int)), .int ((p : Int) % ((nvs r.unit).length : Int))]) nq
      refine ⟨q, _, rfl, SqT.of upd_same, rfl, _, _, rfl, _, _, rfl, rfl, ?_⟩
      have e1 : (p : Int) / ((nvs r.unit).length : Int) = ((p / r.unit.length : Nat) : Int) := by rw [nvs_len, Int.natCast_ediv]
      have e2 : (p : Int) % ((nvs r.unit).length : Int) = ((p % r.unit.length : Nat) : Int) := by rw [nvs_len, Int.natCast_emod]
      simp only [e1, e2] at s1 ⊢
      have m1 : p % r.unit.length < r.unit.length := Nat.mod_lt _ l1
      generalize upd H q (.tup [.int ((p / r.unit.length : Nat) : Int), .int ((p % r.unit.length : Nat) : Int)]) = H1 at s1 ⊢
      refine ⟨_, rfl, _, rfl, o, T.R.C, dx, _, _, rfl, s1 _ _ e, T.R.cl, T.R.nU, rf_u .., pu, _, rfl, SqT.of (s1 _ _ hu), _, _, rfl, rfl, .inr (by rw [isum]; omega), ?_⟩
      refine ⟨_, rfl, o, T.R.C, dx, _, _, rfl, s1 _ _ e, T.R.cl, T.R.nU, rf_u .., _, rfl, ((p % r.unit.length : Nat) : Int), rfl, pu, _, rfl, s1 _ _ hu, fun H2 z s2 hz => ?_⟩
      rw [cut_nat _ _ (by omega)] at hz
      refine ⟨z, _, rfl, SqT.of hz, _, _, rfl, rfl, ?_⟩
      refine ⟨_, rfl, o, T.R.C, dx, _, _, rfl, s2 _ _ (s1 _ _ e), T.R.cl, T.R.nU, rf_u .., _, rfl, pu, _, _, _, rfl, rfl, SqT.of (s2 _ _ (s1 _ _ hu)), atI_nat (nvs_at m1), (by show 2 ≤ sizeLine; decide), fun y ny => ?_⟩
      refine k _ y (Same.trans s1 (Same.trans s2 (same_new ny))) ?_
      unfold NPair
      rw [upd_same, isum, isum, Int.natCast_add, Int.natCast_mul]
    · rw [if_neg c] at k
      rw [show decide (((p : Nat) : Int) < ((r.times * r.unit.length : Nat) : Int)) = false from decide_eq_false (by omega)]
      refine iteF ?_
      refine ⟨_, rfl, _, rfl, _, _, rfl, rfl, ?_⟩
      unfold Rw.many at hp
      have e1 : (p : Int) - ((r.times * r.unit.length : Nat) : Int) = ((p - r.times * r.unit.length : Nat) : Int) := by omega
      simp only [e1]
      have m1 : p - r.times * r.unit.length < r.last.length := by omega
      refine ⟨_, rfl, o, T.R.C, dx, _, _, rfl, e, T.R.cl, T.R.nT, rf_t .., _, rfl, o, T.R.C, dx, _, _, rfl, e, T.R.cl, T.R.nU, rf_u .., pu, _, rfl, SqT.of hu, _, _, rfl, rfl, .inr (by rw [isum]; omega), ?_⟩
      refine ⟨_, rfl, o, T.R.C, dx, _, _, rfl, e, T.R.cl, T.R.nL, rf_l .., _, rfl, ((p - r.times * r.unit.length : Nat) : Int), rfl, pl, _, rfl, hl, fun H2 z s2 hz => ?_⟩
      rw [cut_nat _ _ (by omega)] at hz
      refine ⟨z, _, rfl, SqT.of hz, _, _, rfl, rfl, ?_⟩
      refine ⟨_, rfl, o, T.R.C, dx, _, _, rfl, s2 _ _ e, T.R.cl, T.R.nL, rf_l .., _, rfl, pl, _, _, _, rfl, rfl, SqT.of (s2 _ _ hl), atI_nat (nvs_at m1), (by show 2 ≤ sizeLine; decide), fun y ny => ?_⟩
      refine k _ y (Same.trans s2 (same_new ny)) ?_
      unfold NPair
      rw [upd_same, isum, isum, Int.natCast_add, Int.natCast_mul]
/-! ### place_among -/
def spPL : Sp := fun vs H Q _ => ∃ (p : Addr) (xs : List Nat) (i : Nat), vs = [.ref p, .int i] ∧ H p = some (.tup (nvs xs)) ∧ i < xs.sum ∧ Q (.int (placeA xs i : Nat)) H
theorem scPL : FnScope ["sizes", "item", "place"] ["sizes", "item"] (defScope sPL) := ⟨rfl, rfl, rfl, by decide +kernel, rfl, by decide +kernel, by decide +kernel⟩
/-- item >= sizes[place] -/
def tPl : TT := fun σ H Q => ∃ (p : Addr) (xs : List Nat) (i k : Nat), σ[0]? = some (some (.ref p)) ∧ σ[1]? = some (some (.int i)) ∧ σ[2]? = some (some (.int k)) ∧ H p = some (.tup (nvs xs)) ∧ k < xs.length ∧ Q (decide (xs.getD k 0 ≤ i)) H
def mP (n : Nat) (σ : L2.St) : Nat := match σ[2]? with
  | some (some (V.int t)) => n - t.toNat
  | _ => 0
theorem ok_pl (T : TxP w K mg) : FnOk P w K mg base CX0 1 T.pl.f T.pl.fd ["sizes", "item"] spPL := by
  refine T.pl.F.ok scPL (fun vs H Q E h => ?_) (fun cdv A outer s H vs Q E hr h => ?_)
  · obtain ⟨p, xs, i, rfl, _⟩ := h
    rfl
  · obtain ⟨p, xs, i, rfl, hp, hi, k⟩ := h
    refine ⟨_, (pss_cons (ps_set (i := 2) scPL.nd rfl (.inl rfl) pe_int) (pss_cons (ps_while PassesOwn.never (pt_imp (t' := tPl) (pt_cmpR op_ge (pv 1) (pe_ix ix_tup (pv 0) (pv 2) (fun _ _ => rfl)) (nomark _)) ?imp) (pss_cons (ps_aug (i := 1) scPL.nd rfl (.inl rfl) (pe_ix ix_tup (pv 0) (pv 2) (fun _ _ => rfl)) ip_sub) (pss_one (ps_aug (i := 2) scPL.nd rfl (.inl rfl) pe_int ip_add)))) (pss_one (ps_ret (pv 2))))), ?_⟩
    case imp =>
      rintro σ H1 Q1 ⟨p, xs, i, k, h0, h1, h2, hp, hk, q⟩
      refine ⟨_, h1, _, h0, _, h2, p, _, _, _, rfl, rfl, SqT.of hp, atI_nat (nvs_at hk), _, _, rfl, rfl, _, rfl, ?_⟩
      rw [show decide (((i : Nat) : Int) ≥ ((xs.getD k 0 : Nat) : Int)) = decide (xs.getD k 0 ≤ i) from decide_eq_decide.mpr ⟨fun z => by omega, fun z => by omega⟩]
      exact q
    refine while_by (fun σ H' => ∃ (i' n : Nat), σ = [some (.ref p), some (.int i'), some (.int n)] ∧ H = H' ∧ i' < (xs.drop n).sum ∧ placeA xs i = n + placeA (xs.drop n) i') (fun σ _ => mP xs.length σ) ⟨i, 0, rfl, rfl, hi, by simp⟩ ?_ ?_
    · rintro _ _ ⟨i', n, rfl, rfl, h1, h2⟩
      have hn : n < xs.length := by
        rcases Nat.lt_or_ge n xs.length with z | z
        · exact z
        · rw [List.drop_eq_nil_of_le z] at h1
          simp at h1
      have ed : xs.drop n = xs.getD n 0 :: xs.drop (n + 1) := by rw [List.drop_eq_getElem_cons hn, getD_eq hn]
      rw [ed, List.sum_cons] at h1
      rw [ed] at h2
      have h2 : placeA xs i = n + (if i' < xs.getD n 0 then 0 else 1 + placeA (xs.drop (n + 1)) (i' - xs.getD n 0)) := h2
      refine ⟨p, xs, i', n, rfl, rfl, rfl, hp, hn, ?_⟩
      by_cases c : xs.getD n 0 ≤ i'
      · rw [decide_eq_true c]
        rw [if_neg (by omega)] at h2
        refine iteT ?_
        refine ⟨_, rfl, _, rfl, _, rfl, p, _, _, _, rfl, rfl, SqT.of hp, atI_nat (nvs_at hn), _, _, rfl, rfl, ?_⟩
        refine ⟨_, rfl, _, _, rfl, rfl, ?_⟩
        have e1 : (i' : Int) - ((xs.getD n 0 : Nat) : Int) = ((i' - xs.getD n 0 : Nat) : Int) := by omega
        have e2 : (n : Int) + 1 = ((n + 1 : Nat) : Int) := rfl
        refine ⟨⟨i' - xs.getD n 0, n + 1, ?_, rfl, by omega, by omega⟩, ?_⟩
        · rw [← e1]
          rfl
        · show xs.length - ((n : Int) + 1).toNat < xs.length - ((n : Nat) : Int).toNat
          omega
      · rw [decide_eq_false c]
        rw [if_pos (by omega)] at h2
        refine iteF ⟨_, rfl, ?_⟩
        rw [Nat.add_zero] at h2
        rw [h2] at k
        exact k
    · rintro σ H1 Q1 Q2 f ⟨p, xs, i, k, a, b, c, d, e, g⟩
      exact ⟨p, xs, i, k, a, b, c, d, e, f _ _ g⟩
end
end My

namespace My
open PySem L2 Cm LM CH
section
variable {P : Program} {w : World} {K : PySem.W.Frag} {mg : Str → Option Value} {base : Heap}
/-! ### place_with -/
def spPW (C : Addr) : Sp := fun vs H Q _ => ∃ (o : Addr) (r : Rw) (i : Nat), vs = [.ref o, .int i] ∧ RowAt C H o r ∧ RB r ∧ i < r.tot ∧ ∀ H', Same H H' → Q (.int (placeR r i : Nat)) H'
theorem scPW : FnScope ["self", "item", "inside", "turn"] ["self", "item"] (defScope sPW) := ⟨rfl, rfl, rfl, by decide +kernel, rfl, by decide +kernel, by decide +kernel⟩
theorem ok_pw (T : TxP w K mg) : FnOk P w K mg base CX0 2 T.pw.f T.pw.fd ["self", "item"] (spPW T.R.C) := by
  have GL : FnOk P w K mg base CX0 1 T.pl.f T.pl.fd ["sizes", "item"] spPL := ok_pl T
  refine T.pw.F.ok scPW (fun vs H Q E h => ?_) (fun cdv A outer s H vs Q E hr h => ?_)
  · obtain ⟨o, r, p, rfl, _⟩ := h
    rfl
  · obtain ⟨o, r, i, rfl, ⟨dx, pu, pl, e, hu, hl⟩, b, hi, k⟩ := h
    refine ⟨_, (pss_cons (ps_set (i := 2) scPW.nd rfl (.inl rfl) (pe_op op_mul (pe_fld (pv 0) rfl) (pe_callB (RwR.cr_sumT rfl) (by rfl) T.R.sum (by decide +kernel) (pa_cons (pe_fld (pv 0) rfl) pa_nil)))) (pss_cons (ps_if (pt_cmpR op_lt (pv 1) (pv 2) (nomark _)) (pss_cons (ps_asg (pe_callB call_divmod (by rfl) T.divmod (by decide +kernel) (pa_cons (pv 1) (pa_cons (pe_callB (RwR.cr_sumT rfl) (by rfl) T.R.sum (by decide +kernel) (pa_cons (pe_fld (pv 0) rfl) pa_nil)) pa_nil))) (pg_tup rfl (pgs_cons (pg_name (i := 3) scPW.nd rfl (.inl rfl)) (pgs_cons (pg_name (i := 1) scPW.nd rfl (.inl rfl)) pgs_nil)))) (pss_one (ps_ret (pe_op op_add (pe_op op_mul (pv 3) (pe_callB call_len_seq (by rfl) T.R.A.len PySem.boot_len (pa_cons (pe_fld (pv 0) rfl) pa_nil))) (pe_call GL hr rfl T.pl.g T.pl.k T.pl.b .nil pass0 (pa_cons (pe_fld (pv 0) rfl) (pa_cons (pv 1) pa_nil))))))) pss_nil) (pss_one (ps_ret (pe_op op_add (pe_op op_mul (pe_fld (pv 0) rfl) (pe_callB call_len_seq (by rfl) T.R.A.len PySem.boot_len (pa_cons (pe_fld (pv 0) rfl) pa_nil))) (pe_call GL hr rfl T.pl.g T.pl.k T.pl.b .nil pass0 (pa_cons (pe_fld (pv 0) rfl) (pa_cons (pe_op op_sub (pv 1) (pv 2)) pa_nil)))))))), ?_⟩
    have b1 := b.us
    have b2 := b.ul
    have b3 := b.tt
    have b4 := b.t
    refine ⟨_, rfl, o, T.R.C, dx, _, _, rfl, e, T.R.cl, T.R.nT, rf_t .., _, rfl, o, T.R.C, dx, _, _, rfl, e, T.R.cl, T.R.nU, rf_u .., pu, _, rfl, SqT.of hu, _, _, rfl, rfl, .inr (by rw [isum]; omega), ?_⟩
    have ei : (r.times : Int) * (r.unit.map fun n => ((n : Nat) : Int)).sum = ((r.times * r.unit.sum : Nat) : Int) := by rw [isum, Int.natCast_mul]
    simp only [ei]
    refine ⟨_, rfl, _, rfl, _, _, rfl, rfl, _, rfl, ?_⟩
    unfold placeR at k
    by_cases c : i < r.times * r.unit.sum
    · rw [if_pos c] at k
      rw [show decide (((i : Nat) : Int) < ((r.times * r.unit.sum : Nat) : Int)) = true from decide_eq_true (by omega)]
      refine iteT ?_
      have l1 : 1 ≤ r.unit.sum := by
        rcases Nat.eq_zero_or_pos r.unit.sum with z | z
        · rw [z] at c; omega
        · exact z
      refine ⟨_, rfl, _, rfl, o, T.R.C, dx, _, _, rfl, e, T.R.cl, T.R.nU, rf_u .., pu, _, rfl, SqT.of hu, i, _, rfl, ⟨by rw [isum]; omega, by rw [isum]; omega⟩, fun q nq => ?_⟩
      have s1 := same_new (o := .tup [.int ((i : Int) / (r.unit.map fun n => ((n : Nat) : Int)).sum), .int ((i : Int) % (r.unit.map fun n => ((n : Nat) : Int)).sum)]) nq
      refine ⟨q, _, rfl, SqT.of upd_same, rfl, _, _, rfl, _, _, rfl, rfl, ?_⟩
      have e1 : (i : Int) / (r.unit.map fun n => ((n : Nat) : Int)).sum = ((i / r.unit.sum : Nat) : Int) := by rw [isum, Int.natCast_ediv]
      have e2 : (i : Int) % (r.unit.map fun n => ((n : Nat) : Int)).sum = ((i % r.unit.sum : Nat) : Int) := by rw [isum, Int.natCast_emod]
      simp only [e1, e2] at s1 ⊢
      have m1 : i % r.unit.sum < r.unit.sum := Nat.mod_lt _ l1
      generalize upd H q (.tup [.int ((i / r.unit.sum : Nat) : Int), .int ((i % r.unit.sum : Nat) : Int)]) = H1 at s1 ⊢
      refine ⟨_, rfl, _, rfl, o, T.R.C, dx, _, _, rfl, s1 _ _ e, T.R.cl, T.R.nU, rf_u .., pu, _, rfl, .inr (SqT.of (s1 _ _ hu)), _, _, rfl, rfl, .inr (by rw [nvs_len]; omega), ?_⟩
      refine ⟨_, rfl, o, T.R.C, dx, _, _, rfl, s1 _ _ e, T.R.cl, T.R.nU, rf_u .., _, rfl, pu, r.unit, _, rfl, s1 _ _ hu, m1, _, _, rfl, rfl, ?_⟩
      have e3 : ((i / r.unit.sum : Nat) : Int) * ((nvs r.unit).length : Int) + ((placeA r.unit (i % r.unit.sum) : Nat) : Int) = ((i / r.unit.sum * r.unit.length + placeA r.unit (i % r.unit.sum) : Nat) : Int) := by rw [nvs_len, Int.natCast_add, Int.natCast_mul]
      have k2 := k H1 s1
      rw [← e3] at k2
      exact k2
    · rw [if_neg c] at k
      rw [show decide (((i : Nat) : Int) < ((r.times * r.unit.sum : Nat) : Int)) = false from decide_eq_false (by omega)]
      refine iteF ?_
      unfold Rw.tot at hi
      have e1 : (i : Int) - ((r.times * r.unit.sum : Nat) : Int) = ((i - r.times * r.unit.sum : Nat) : Int) := by omega
      refine ⟨_, rfl, o, T.R.C, dx, _, _, rfl, e, T.R.cl, T.R.nT, rf_t .., _, rfl, o, T.R.C, dx, _, _, rfl, e, T.R.cl, T.R.nU, rf_u .., pu, _, rfl, .inr (SqT.of hu), _, _, rfl, rfl, .inr (by rw [nvs_len]; omega), ?_⟩
      refine ⟨_, rfl, o, T.R.C, dx, _, _, rfl, e, T.R.cl, T.R.nL, rf_l .., _, rfl, _, rfl, _, _, rfl, rfl, ?_⟩
      simp only [e1]
      refine ⟨pl, r.last, _, rfl, hl, by omega, _, _, rfl, rfl, ?_⟩
      have e3 : (r.times : Int) * ((nvs r.unit).length : Int) + ((placeA r.last (i - r.times * r.unit.sum) : Nat) : Int) = ((r.times * r.unit.length + placeA r.last (i - r.times * r.unit.sum) : Nat) : Int) := by rw [nvs_len, Int.natCast_add, Int.natCast_mul]
      have k2 := k H (Same.refl _)
      rw [← e3] at k2
      exact k2
/-! ### check_chain_items -/
abbrev mostI : Int := 999999999999999999
def spCCI (K : PySem.W.Frag) (CI : Addr) : Sp := fun vs H Q E => ∃ v : V, vs = [v] ∧ TypedI K H v ∧ (btw 0 mostI v = true → Q .non H) ∧ (btw 0 mostI v = false → ∀ d, H d = none → E (.ref CI) (some d) (upd H d (.xd [("value", v)])))
theorem scCCI : FnScope ["items"] ["items"] (defScope sCCI) := ⟨rfl, rfl, rfl, by decide +kernel, rfl, by decide +kernel, by decide +kernel⟩
theorem ok_cci (T : TxP w K mg) : FnOk P w K mg base (L2.CX P w) 3 T.cci.f T.cci.fd ["items"] (spCCI K T.eI.C) := by
  have GI : FnOk P w K mg base CX0 1 T.I.iib.f T.I.iib.fd ["value", "low", "high"] (spIIB K) := ok_iib T.I
  have GE : FnOk P w K mg base CX0 1 T.eI.f T.eI.fd ["self", "value"] (spER "value" T.eI.C) := ok_eit T.eI
  obtain ⟨tm, mm⟩ := T.mci
  refine T.cci.F.okX scCCI (fun vs H Q E h => ?_) (fun cdv A outer s H vs Q E hr h => ?_)
  · obtain ⟨v, rfl, _⟩ := h
    rfl
  · obtain ⟨v, rfl, ty, k1, k2⟩ := h
    have hr1 : Room 1 _ := hr.mono (by decide)
    refine ⟨_, pss_one (ps_if (pt_not (pt_val (pe_call GI hr1 rfl T.I.iib.g T.I.iib.k T.I.iib.b .nil pass0 (pa_cons (pv 0) (pa_cons pe_int (pa_cons (pe_glob (v := .int mostI) rfl mm ⟨_, rfl⟩) pa_nil))))))
      (pss_one (ps_raise rfl (takes_of rfl rfl rfl rfl) (pmk_oex T.eI.o T.eI.i T.eI.t GE hr T.eI.b .nil pass0 rfl T.eI.g (pa_cons (pv 0) pa_nil)))) pss_nil), ?_⟩
    refine ⟨_, rfl, v, 0, mostI, rfl, ty, _, rfl, ?_⟩
    cases hb : btw 0 mostI v with
    | true => exact iteF (k1 hb)
    | false =>
      refine iteT ?_
      exact mk_er (x := v) ⟨v, rfl, rfl, rfl⟩ (fun {R R'} ⟨v, e1, q⟩ f => ⟨v, e1, f _ _ q⟩) (k2 hb)
/-! ### number -/
theorem btw_nat {m : Int} {v : V} (h : btw 0 m v = true) : ∃ n : Nat, v = .int n ∧ (n : Int) ≤ m := by
  cases v with
  | int i =>
    have := of_decide_eq_true (show decide ((0 : Int) ≤ i ∧ i ≤ m) = true from h)
    obtain ⟨n, rfl⟩ := Int.eq_ofNat_of_zero_le this.1
    exact ⟨n, rfl, this.2⟩
  | _ => cases h
def spAN (K : PySem.W.Frag) (CA CI : Addr) : Sp := fun vs H Q E => ∃ (o : Addr) (t : Str) (v : V), vs = [.ref o, v] ∧ ChainAt CA H o t ∧ goodC t = true ∧ TypedI K H v ∧
  (∀ n : Nat, v = .int n → n ≤ 999999999999999999 → ∀ H', Same H H' → Q (.int ((lens (cuttersOf t) n).length : Nat)) H') ∧ (btw 0 mostI v = false → ∀ d, H d = none → E (.ref CI) (some d) (upd H d (.xd [("value", v)])))
theorem scAN : FnScope ["self", "items"] ["self", "items"] (defScope sAN) := ⟨rfl, rfl, rfl, by decide +kernel, rfl, by decide +kernel, by decide +kernel⟩
theorem ok_an (T : TxP w K mg) : FnOk P w K mg base (L2.CX P w) 6 T.an.f T.an.fd ["self", "items"] (spAN K T.R.A.C T.eI.C) := by
  have GC : FnOk P w K mg base (L2.CX P w) 3 T.cci.f T.cci.fd ["items"] (spCCI K T.eI.C) := ok_cci T
  have GO : FnOk P w K mg base CX0 5 T.R.ro.f T.R.ro.fd ["self", "items"] (spRO T.R.A.C T.R.C) := ok_ro T.R
  have GM : FnOk P w K mg base CX0 1 T.R.mn.f T.R.mn.fd ["self"] (spRM T.R.C) := ok_rm T.R
  refine T.an.F.okX scAN (fun vs H Q E h => ?_) (fun cdv A outer s H vs Q E hr h => ?_)
  · obtain ⟨o, t, v, rfl, _⟩ := h
    rfl
  · obtain ⟨o, t, v, rfl, hO, g, ty, k1, k2⟩ := h
    have hr1 : Room 1 _ := hr.mono (by decide)
    have hr3 : Room 3 _ := hr.mono (by decide)
    refine ⟨_, pss_cons (ps_expr (pe_call (E := E) GC hr3 rfl T.cci.g T.cci.k T.cci.b .nil (passes_call (takes_of rfl rfl rfl rfl) fun _ _ _ _ z => z) (pa_cons (pv 1) pa_nil)))
      (pss_one (ps_ret (pe_meth0 (pe_meth (pv 0) T.R.A.cl T.R.ro.m GO hr T.R.ro.b .nil pass0 (pa_cons (pv 1) pa_nil)) T.R.cl T.R.mn.m GM hr1 T.R.mn.b .nil pass0))), ?_⟩
    refine ⟨_, rfl, v, rfl, ty, fun hb => ?_, fun hb => k2 hb⟩
    obtain ⟨n, rfl, hn⟩ := btw_nat hb
    have hn : n ≤ 999999999999999999 := by have : (n : Int) ≤ 999999999999999999 := hn; omega
    obtain ⟨dx, p, vs, e, _⟩ := id hO
    have rb : RB (rowOf (cuttersOf t) n) := rb_row cutters_ct (cutters_len g).1 (by omega)
    refine ⟨_, rfl, o, dx, _, rfl, e, cf_no _ _ (by decide +kernel) (by decide +kernel), _, rfl, o, t, n, rfl, hO, g, by omega, fun H1 x s1 hx => ?_⟩
    obtain ⟨dr, pu, pl, er, _⟩ := id hx
    refine ⟨x, dr, _, rfl, er, (rf_no ..).1, x, _, rfl, hx, rb, ?_⟩
    rw [row_many]
    exact k1 n rfl hn H1 s1
/-! ### piece -/
def spAP (K : PySem.W.Frag) (CA CI CP : Addr) : Sp := fun vs H Q E => ∃ (o : Addr) (t : Str) (v p : V), vs = [.ref o, v, p] ∧ ChainAt CA H o t ∧ goodC t = true ∧ TypedI K H v ∧ TypedI K H p ∧
  (∀ n i : Nat, v = .int n → n ≤ 999999999999999999 → p = .int i → i < (lens (cuttersOf t) n).length → ∀ (H' : Hp) (q : Addr), Same H H' → NPair H' q (((lens (cuttersOf t) n).take i).sum, (lens (cuttersOf t) n).getD i 0) → Q (.ref q) H') ∧
  (btw 0 mostI v = false → ∀ d, H d = none → E (.ref CI) (some d) (upd H d (.xd [("value", v)]))) ∧
  (∀ n : Nat, v = .int n → n ≤ 999999999999999999 → btw 0 (((lens (cuttersOf t) n).length : Int) - 1) p = false → ∀ (H' : Hp) (d : Addr), Same H H' → H' d = none → E (.ref CP) (some d) (upd H' d (.xd [("value", p)])))
theorem scAP : FnScope ["self", "items", "place", "row"] ["self", "items", "place"] (defScope sAP) := ⟨rfl, rfl, rfl, by decide +kernel, rfl, by decide +kernel, by decide +kernel⟩
theorem TypedI.same' {K : PySem.W.Frag} {H H' : Hp} {x : V} (s : Same H H') (h : TypedI K H x) : TypedI K H' x := let ⟨t, a, b⟩ := h; ⟨t, TyX_same s a, b⟩
theorem ok_ap (T : TxP w K mg) : FnOk P w K mg base (L2.CX P w) 6 T.ap.f T.ap.fd ["self", "items", "place"] (spAP K T.R.A.C T.eI.C T.eP.C) := by
  have GC : FnOk P w K mg base (L2.CX P w) 3 T.cci.f T.cci.fd ["items"] (spCCI K T.eI.C) := ok_cci T
  have GO : FnOk P w K mg base CX0 5 T.R.ro.f T.R.ro.fd ["self", "items"] (spRO T.R.A.C T.R.C) := ok_ro T.R
  have GM : FnOk P w K mg base CX0 1 T.R.mn.f T.R.mn.fd ["self"] (spRM T.R.C) := ok_rm T.R
  have GA : FnOk P w K mg base CX0 1 T.pa.f T.pa.fd ["self", "place"] (spPA T.R.C) := ok_pa T
  have GI : FnOk P w K mg base CX0 1 T.I.iib.f T.I.iib.fd ["value", "low", "high"] (spIIB K) := ok_iib T.I
  have GE : FnOk P w K mg base CX0 1 T.eP.f T.eP.fd ["self", "value"] (spER "value" T.eP.C) := ok_epl T.eP
  refine T.ap.F.okX scAP (fun vs H Q E h => ?_) (fun cdv A outer s H vs Q E hr h => ?_)
  · obtain ⟨o, t, v, p, rfl, _⟩ := h
    rfl
  · obtain ⟨o, t, v, p, rfl, hO, g, ty, tp, k1, k2, k3⟩ := h
    have hr1 : Room 1 _ := hr.mono (by decide)
    have hr2 : Room 2 _ := hr.mono (by decide)
    have hr3 : Room 3 _ := hr.mono (by decide)
    refine ⟨_, pss_cons (ps_expr (pe_call (E := E) GC hr3 rfl T.cci.g T.cci.k T.cci.b .nil (passes_call (takes_of rfl rfl rfl rfl) fun _ _ _ _ z => z) (pa_cons (pv 1) pa_nil)))
      (pss_cons (ps_set (i := 3) scAP.nd rfl (.inl rfl) (pe_meth (pv 0) T.R.A.cl T.R.ro.m GO hr T.R.ro.b .nil pass0 (pa_cons (pv 1) pa_nil)))
      (pss_cons (ps_if (pt_not (pt_val (pe_call GI hr1 rfl T.I.iib.g T.I.iib.k T.I.iib.b .nil pass0 (pa_cons (pv 2) (pa_cons pe_int (pa_cons (pe_op op_sub (pe_meth0 (pv 3) T.R.cl T.R.mn.m GM hr1 T.R.mn.b .nil pass0) pe_int) pa_nil))))))
        (pss_one (ps_raise rfl (takes_of rfl rfl rfl rfl) (pmk_oex T.eP.o T.eP.i T.eP.t GE hr2 T.eP.b .nil pass0 rfl T.eP.g (pa_cons (pv 2) pa_nil)))) pss_nil)
      (pss_one (ps_ret (pe_meth (pv 3) T.R.cl T.pa.m GA hr1 T.pa.b .nil pass0 (pa_cons (pv 2) pa_nil)))))), ?_⟩
    refine ⟨_, rfl, v, rfl, ty, fun hb => ?_, fun hb => k2 hb⟩
    obtain ⟨n, rfl, hn⟩ := btw_nat hb
    have hn : n ≤ 999999999999999999 := by have : (n : Int) ≤ 999999999999999999 := hn; omega
    obtain ⟨dx, q, vs, e, _⟩ := id hO
    have rb : RB (rowOf (cuttersOf t) n) := rb_row cutters_ct (cutters_len g).1 (by omega)
    refine ⟨_, rfl, o, dx, _, rfl, e, cf_no _ _ (by decide +kernel) (by decide +kernel), _, rfl, o, t, n, rfl, hO, g, by omega, fun H1 x s1 hx => ?_⟩
    obtain ⟨dr, pu, pl, er, _⟩ := id hx
    refine ⟨_, rfl, _, rfl, x, dr, _, rfl, er, (rf_no ..).1, x, _, rfl, hx, rb, _, _, rfl, rfl, p, 0, _, rfl, tp.same' s1, _, rfl, ?_⟩
    rw [row_many]
    cases hp : btw 0 (((lens (cuttersOf t) n).length : Int) - 1) p with
    | false =>
      refine iteT ?_
      exact mk_er (x := p) ⟨p, rfl, rfl, rfl⟩ (fun {R R'} ⟨v, e1, q⟩ f => ⟨v, e1, f _ _ q⟩) (k3 n rfl hn hp H1 · s1)
    | true =>
      refine iteF ?_
      obtain ⟨i, rfl, hi⟩ := btw_nat hp
      have hi2 : i < (lens (cuttersOf t) n).length := by omega
      refine ⟨_, rfl, x, dr, _, rfl, er, (rf_no ..).2.2.1, _, rfl, x, _, i, rfl, hx, rb, by rw [row_many]; exact hi2, fun H2 y s2 hy => ?_⟩
      rw [piece_sizes, row_sizes] at hy
      exact k1 n i rfl hn rfl hi2 H2 y (Same.trans s1 s2) hy
/-! ### place_of -/
def spAO (K : PySem.W.Frag) (CA CI CP : Addr) : Sp := fun vs H Q E => ∃ (o : Addr) (t : Str) (v p : V), vs = [.ref o, v, p] ∧ ChainAt CA H o t ∧ goodC t = true ∧ TypedI K H v ∧ TypedI K H p ∧
  (∀ n i : Nat, v = .int n → n ≤ 999999999999999999 → p = .int i → i < n → ∀ H', Same H H' → Q (.int (placeA (lens (cuttersOf t) n) i : Nat)) H') ∧
  (btw 0 mostI v = false → ∀ d, H d = none → E (.ref CI) (some d) (upd H d (.xd [("value", v)]))) ∧
  (∀ n : Nat, v = .int n → n ≤ 999999999999999999 → btw 0 ((n : Int) - 1) p = false → ∀ d, H d = none → E (.ref CP) (some d) (upd H d (.xd [("value", p)])))
theorem scAO : FnScope ["self", "items", "item"] ["self", "items", "item"] (defScope sAO) := ⟨rfl, rfl, rfl, by decide +kernel, rfl, by decide +kernel, by decide +kernel⟩
theorem ok_ao (T : TxP w K mg) : FnOk P w K mg base (L2.CX P w) 6 T.ao.f T.ao.fd ["self", "items", "item"] (spAO K T.R.A.C T.eI.C T.eP.C) := by
  have GC : FnOk P w K mg base (L2.CX P w) 3 T.cci.f T.cci.fd ["items"] (spCCI K T.eI.C) := ok_cci T
  have GO : FnOk P w K mg base CX0 5 T.R.ro.f T.R.ro.fd ["self", "items"] (spRO T.R.A.C T.R.C) := ok_ro T.R
  have GW : FnOk P w K mg base CX0 2 T.pw.f T.pw.fd ["self", "item"] (spPW T.R.C) := ok_pw T
  have GI : FnOk P w K mg base CX0 1 T.I.iib.f T.I.iib.fd ["value", "low", "high"] (spIIB K) := ok_iib T.I
  have GE : FnOk P w K mg base CX0 1 T.eP.f T.eP.fd ["self", "value"] (spER "value" T.eP.C) := ok_epl T.eP
  refine T.ao.F.okX scAO (fun vs H Q E h => ?_) (fun cdv A outer s H vs Q E hr h => ?_)
  · obtain ⟨o, t, v, p, rfl, _⟩ := h
    rfl
  · obtain ⟨o, t, v, p, rfl, hO, g, ty, tp, k1, k2, k3⟩ := h
    have hr1 : Room 1 _ := hr.mono (by decide)
    have hr2 : Room 2 _ := hr.mono (by decide)
    have hr3 : Room 3 _ := hr.mono (by decide)
    refine ⟨_, pss_cons (ps_expr (pe_call (E := E) GC hr3 rfl T.cci.g T.cci.k T.cci.b .nil (passes_call (takes_of rfl rfl rfl rfl) fun _ _ _ _ z => z) (pa_cons (pv 1) pa_nil)))
      (pss_cons (ps_if (pt_not (pt_val (pe_call GI hr1 rfl T.I.iib.g T.I.iib.k T.I.iib.b .nil pass0 (pa_cons (pv 2) (pa_cons pe_int (pa_cons (pe_op op_sub (pv 1) pe_int) pa_nil))))))
        (pss_one (ps_raise rfl (takes_of rfl rfl rfl rfl) (pmk_oex T.eP.o T.eP.i T.eP.t GE hr2 T.eP.b .nil pass0 rfl T.eP.g (pa_cons (pv 2) pa_nil)))) pss_nil)
      (pss_one (ps_ret (pe_meth (pe_meth (pv 0) T.R.A.cl T.R.ro.m GO hr T.R.ro.b .nil pass0 (pa_cons (pv 1) pa_nil)) T.R.cl T.pw.m GW hr2 T.pw.b .nil pass0 (pa_cons (pv 2) pa_nil))))), ?_⟩
    refine ⟨_, rfl, v, rfl, ty, fun hb => ?_, fun hb => k2 hb⟩
    obtain ⟨n, rfl, hn⟩ := btw_nat hb
    have hn : n ≤ 999999999999999999 := by have : (n : Int) ≤ 999999999999999999 := hn; omega
    obtain ⟨dx, q, vs, e, _⟩ := id hO
    have rb : RB (rowOf (cuttersOf t) n) := rb_row cutters_ct (cutters_len g).1 (by omega)
    refine ⟨_, rfl, _, rfl, _, _, rfl, rfl, p, 0, _, rfl, tp, _, rfl, ?_⟩
    cases hp : btw 0 ((n : Int) - 1) p with
    | false =>
      refine iteT ?_
      exact mk_er (x := p) ⟨p, rfl, rfl, rfl⟩ (fun {R R'} ⟨v, e1, q⟩ f => ⟨v, e1, f _ _ q⟩) (k3 n rfl hn hp)
    | true =>
      refine iteF ?_
      obtain ⟨i, rfl, hi⟩ := btw_nat hp
      have hi2 : i < n := by omega
      refine ⟨_, rfl, o, dx, _, rfl, e, cf_no _ _ (by decide +kernel) (by decide +kernel), _, rfl, o, t, n, rfl, hO, g, by omega, fun H1 x s1 hx => ?_⟩
      obtain ⟨dr, pu, pl, er, _⟩ := id hx
      refine ⟨x, dr, _, rfl, er, (rf_no ..).2.2.2, _, rfl, x, _, i, rfl, hx, rb, by rw [row_tot]; exact hi2, fun H2 s2 => ?_⟩
      rw [place_sizes, row_sizes]
      exact k1 n i rfl hn rfl hi2 H2 (Same.trans s1 s2)
end
end My

/-! the chains that the law draws -/
namespace My
open PySem L2 Cm LM CH
abbrev sCuts : Stmt := top 49
abbrev sCLine : Stmt := top 50
structure TxAd (K : PySem.W.Frag) (mg : Str → Option Value) where
  J : TxtJ mg
  range : mg "range" = none
  str : mg "str" = none
  sip : Df K mg "_law_sip" sSip ["_law_jar_here", "_law_many"]
  frm : Df K mg "_law_from" sFrom ["_law_jar_here", "_law_things"]
  cts : Df K mg "_law_cutters" sCuts ["_law_jar_here", "_law_most"]
  lin : Df K mg "_law_chain_line" sCLine ["_law_cutters_here"]
/-- a row of drawn cutters stands at p, away from the jar -/
def CutL (H : Hp) (p : Addr) (cs : List (Kd × Nat)) : Prop := ∃ vs, H p = some (.lst vs) ∧ Cuts H vs cs
theorem CutL.same {H H' : Hp} {p : Addr} {cs : List (Kd × Nat)} (s : Same H H') (h : CutL H p cs) : CutL H' p cs := let ⟨vs, a, b⟩ := h; ⟨vs, s _ _ a, b.same s⟩
theorem jar_tup {H H' : Hp} {j : Addr} (s : Off j H H') (hj : Jar H j) : ∀ (p : Addr) (xs : List V), H p = some (.tup xs) → H' p = some (.tup xs) := by
  obtain ⟨x, y, z, hj⟩ := hj
  exact fun p xs e => s _ _ (ne_of e hj (by intro z; cases z)) e
theorem CutL.off {j : Addr} {H H' : Hp} {p : Addr} {cs : List (Kd × Nat)} (s : Off j H H') (hj : Jar H j) (n : p ≠ j) (h : CutL H p cs) : CutL H' p cs := let ⟨vs, a, b⟩ := h; ⟨vs, s _ _ n a, b.mono (jar_tup s hj)⟩
theorem kd_of {i : Nat} {x : V} (h : (svs kds)[i]? = some x) : ∃ k, x = .str (kdS k) := by
  match i, h with
  | 0, h => exact ⟨.cut, (Option.some.inj h).symm⟩
  | 1, h => exact ⟨.fill, (Option.some.inj h).symm⟩
  | 2, h => exact ⟨.tail, (Option.some.inj h).symm⟩
  | n + 3, h => simp [svs, kds] at h
section
variable {P : Program} {w : World} {K : PySem.W.Frag} {mg : Str → Option Value} {base : Heap}
theorem ga_sip (D : TxAd K mg) : FnOk P w K mg base CX0 1 D.sip.f D.sip.fd ["_law_jar_here", "_law_many"] spSip := ok_sip D.sip.F D.J
theorem ga_from (D : TxAd K mg) : FnOk P w K mg base CX0 2 D.frm.f D.frm.fd ["_law_jar_here", "_law_things"] (spFrom K) := ok_from D.frm.F D.J ⟨D.sip.g, D.sip.k⟩ D.sip.F D.sip.b
/-! ### _law_cutters -/
def spCuts : Sp := fun vs H Q _ => ∃ (j : Addr) (m : Nat), vs = [.ref j, .int m] ∧ Jar H j ∧ 0 < m ∧ m ≤ 6 ∧
  ∀ (H' : Hp) (q : Addr) (cs : List (Kd × Nat)), Off j H H' → Jar H' j → H q = none → q ≠ j → CutL H' q cs → cs ≠ [] → cs.length ≤ m → (∀ c ∈ cs, Ct c) → Q (.ref q) H'
theorem scCuts : FnScope ["_law_jar_here", "_law_most", "_law_many", "_law_found", "_law_turn", "_law_word_here"] ["_law_jar_here", "_law_most"] (defScope sCuts) := ⟨rfl, rfl, rfl, by decide +kernel, rfl, by decide +kernel, by decide +kernel⟩
theorem ok_cuts (D : TxAd K mg) : FnOk P w K mg base CX0 3 D.cts.f D.cts.fd ["_law_jar_here", "_law_most"] spCuts := by
  have GS : FnOk P w K mg base CX0 1 D.sip.f D.sip.fd ["_law_jar_here", "_law_many"] spSip := ga_sip D
  have GF : FnOk P w K mg base CX0 2 D.frm.f D.frm.fd ["_law_jar_here", "_law_things"] (spFrom K) := ga_from D
  refine D.cts.F.ok scCuts (fun vs H Q E h => ?_) (fun cdv A outer s H vs Q E hr h => ?_)
  · obtain ⟨j, m, rfl, _⟩ := h
    rfl
  · obtain ⟨j, m, rfl, hJ, m0, m6, k⟩ := h
    have hr1 : Room 1 _ := hr.mono (by decide)
    refine ⟨_, pss_cons (ps_set (i := 2) scCuts.nd rfl (.inl rfl) (pe_op op_add pe_int (pe_call GS hr1 rfl D.sip.g D.sip.k D.sip.b .nil pass0 (pa_cons (pv 0) (pa_cons (pv 1) pa_nil)))))
      (pss_cons (ps_set (i := 3) scCuts.nd rfl (.inl rfl) (pe_lst pa_nil))
      (pss_cons (ps_for PassesOwn.never rfl (pi_range1 rfl D.range (pa_cons (pv 2) pa_nil)) (pg_name (i := 4) scCuts.nd rfl (Or.inl rfl))
        (pss_cons (ps_set (i := 5) scCuts.nd rfl (.inl rfl) (pe_call GF hr rfl D.frm.g D.frm.k D.frm.b .nil pass0 (pa_cons (pv 0) (pa_cons (pe_lst (pa_cons pe_str (pa_cons pe_str (pa_cons pe_str pa_nil)))) pa_nil))))
        (pss_one (ps_expr (pe_bm PySem.F.plainAttrs_list PySem.F.slot_list_append PySem.F.type_list_append mt_append (pv 3) (pa_cons (pe_tup (pa_cons (pv 5) (pa_cons (pe_op op_add pe_int (pe_call GS hr1 rfl D.sip.g D.sip.k D.sip.b .nil pass0 (pa_cons (pv 0) (pa_cons pe_int pa_nil)))) pa_nil))) pa_nil))))))
      (pss_one (ps_ret (pv 3))))), ?_⟩
    refine ⟨_, rfl, _, rfl, j, _, rfl, hJ, by omega, by omega, fun H1 d d0 d1 o1 J1 => ⟨_, _, rfl, rfl, ?_⟩⟩
    obtain ⟨n0, rfl⟩ := Int.eq_ofNat_of_zero_le d0
    refine ⟨Nat.zero_le _, fun q nq => ?_⟩
    have qj := jar_ne J1 nq
    have nq0 : H q = none := by
      cases e : H q with
      | none => rfl
      | some u =>
        rw [o1 q u qj e] at nq
        cases nq
    have e0 : ((1 : Int) + (n0 : Int)).toNat = n0 + 1 := by omega
    refine ⟨_, rfl, _, rfl, by omega, by omega, ?_⟩
    rw [e0]
    refine for_range (n := n0 + 1) (fun i σ H' => ∃ v4 v5 cs, σ = [some (.ref j), some (.int m), some (.int (1 + (n0 : Int))), some (.ref q), v4, v5] ∧ Off j H H' ∧ Jar H' j ∧ CutL H' q cs ∧ cs.length = i ∧ ∀ c ∈ cs, Ct c)
      ⟨none, none, [], rfl, o1.new nq, J1.new nq, ⟨[], upd_same, .nil⟩, rfl, fun c h => nomatch h⟩ ?_ ?_
    · rintro i σ H' hi ⟨v4, v5, cs, rfl, o2, J2, ⟨vs, hq, hC⟩, lc, hc⟩
      refine ⟨_, rfl, (by show 3 ≤ sizeLine; decide), fun l nl => ?_⟩
      have lj := jar_ne J2 nl
      refine ⟨j, l, svs kds, rfl, J2.new nl, lj, SqL.of upd_same, by decide, by decide, fun H3 ix x hx o3 J3 => ?_⟩
      obtain ⟨kd, rfl⟩ := kd_of hx
      have o23 : Off j H' H3 := Off.trans (Same.off (same_new nl)) o3
      have hq3 := o23 _ _ qj hq
      refine ⟨_, rfl, .inl ⟨rfl, _, SqL.of hq3⟩, _, rfl, _, rfl, j, _, rfl, J3, by decide, by decide, fun H4 d4 d40 d41 o4 J4 => ⟨_, _, rfl, rfl, (by show 2 ≤ sizeLine; decide), fun t nt => ?_⟩⟩
      obtain ⟨n4, rfl⟩ := Int.eq_ofNat_of_zero_le d40
      have o24 := o23.trans o4
      have hq4 := o24 _ _ qj hq
      have s5 : Same H4 (upd H4 t (.tup [.str (kdS kd), .int (1 + (n4 : Int))])) := same_new nt
      have ht5 : (upd H4 t (.tup [.str (kdS kd), .int (1 + (n4 : Int))])) t = some (.tup [.str (kdS (kd, n4 + 1).1), .int ((kd, n4 + 1).2 : Nat)]) := by
        rw [upd_same]
        have : (1 : Int) + (n4 : Int) = ((n4 + 1 : Nat) : Int) := by omega
        rw [this]
      have J5 := J4.same s5
      generalize upd H4 t (.tup [.str (kdS kd), .int (1 + (n4 : Int))]) = H5 at s5 ht5 J5 ⊢
      have hq5 := s5 _ _ hq4
      have lv := hC.len
      have st := tup_stays (o' := .lst (vs ++ [.ref t])) hq5 (by intro xs z; cases z)
      refine ⟨q, vs, .ref t, rfl, rfl, hq5, szM (by omega), ?_⟩
      have f25 : ∀ (p : Addr) (xs : List V), H' p = some (.tup xs) → H5 p = some (.tup xs) := fun p xs e => s5 _ _ (jar_tup o24 J2 p xs e)
      refine ⟨_, _, cs ++ [(kd, n4 + 1)], rfl, Off.put2 ((o2.trans o24).trans (Same.off s5)) nq0, J5.put qj, ⟨_, upd_same, Cuts.snoc (st _ _ ht5) ((hC.mono f25).mono st)⟩, by rw [List.length_append, lc]; rfl, fun c h => ?_⟩
      rcases List.mem_append.mp h with h | h
      · exact hc c h
      · rw [List.mem_singleton.mp h]
        exact ⟨by show 1 ≤ n4 + 1; omega, by show n4 + 1 ≤ 12; omega⟩
    · rintro σ H' ⟨v4, v5, cs, rfl, o2, J2, hL, lc, hc⟩
      exact ⟨_, rfl, k H' q cs o2 J2 nq0 qj hL (fun e => by rw [e] at lc; cases lc) (by omega) hc⟩
/-! ### _law_chain_line -/
def spCLine : Sp := fun vs H Q _ => ∃ (p : Addr) (cs : List (Kd × Nat)), vs = [.ref p] ∧ CutL H p cs ∧ cs.length ≤ 100 ∧ (∀ c ∈ cs, Ct c) ∧ ∀ H', Same H H' → Q (.str (cline cs)) H'
theorem scCLine : FnScope ["_law_cutters_here", "_law_word_here", "_law_wide"] ["_law_cutters_here"] (defScope sCLine) := ⟨rfl, rfl, rfl, by decide +kernel, rfl, by decide +kernel, by decide +kernel⟩
theorem ok_cline (D : TxAd K mg) : FnOk P w K mg base CX0 1 D.lin.f D.lin.fd ["_law_cutters_here"] spCLine := by
  refine D.lin.F.ok scCLine (fun vs H Q E h => ?_) (fun cdv A outer s H vs Q E hr h => ?_)
  · obtain ⟨p, cs, rfl, _⟩ := h
    rfl
  · obtain ⟨p, cs, rfl, ⟨vs, hp, hC⟩, hl, hc, k⟩ := h
    refine ⟨_, pss_one (ps_ret (pe_join pe_str (pe_lc (own := [("_law_word_here", 1), ("_law_wide", 2)]) (g := gTup K 2 (gCons (gName 1) (gCons (gName 2) gNil))) (tt := tYes) rfl scCLine.nd (pi_list (pv 0))
      (blkOk_by (own := [("_law_word_here", 1), ("_law_wide", 2)]) (N := ["_law_cutters_here", "_law_word_here", "_law_wide"]) (sc := defScope sCLine) (by decide +kernel)) (fun _ _ _ _ _ => by exact pg_tup rfl (pgs_cons (pg_name (i := 1) scCLine.nd rfl (Or.inl rfl)) (pgs_cons (pg_name (i := 2) scCLine.nd rfl (Or.inl rfl)) pgs_nil))) (fun _ _ _ _ _ => pts_nil)
      (fun _ _ _ _ _ => pe_op op_add_str (pe_op op_add_str (pv 1) pe_str) (pe_callTy call_str_int (by rfl) D.str (by decide +kernel) (pa_cons (pv 2) pa_nil)))))), ?_⟩
    refine ⟨⟨_, rfl⟩, _, rfl, p, rfl, ⟨_, SqL.of hp⟩, fun Dd nD => lc_list (K := K) (a := p) (xs := vs) (fun i H' => Same H H' ∧ H' Dd = some (.lst (svs ((cs.take i).map cutT)))) ⟨same_new nD, upd_same⟩ (fun i H' _ ⟨s', _⟩ => SqL.of (s' _ _ hp)) ?_ ?_⟩
    · rintro i y H' hy ⟨s', hD⟩
      obtain ⟨q, c, hq, rfl, hqc⟩ := hC.get hy
      have cc := hc c (List.mem_of_getElem? hq)
      have f := cc.f
      have ll := f.l
      have l2 : (cutT c).length = (kdS c.1 ++ (" " : Str)).length + (nS c.2).length := by unfold cutT; rw [strLen_append]
      refine ⟨q, _, rfl, SqT.of (s' _ _ hqc), rfl, _, _, rfl, _, _, rfl, rfl, rfl, ?_⟩
      refine ⟨_, rfl, _, _, rfl, rfl, szl (by rw [strLen_append] at l2; omega), _, rfl, _, rfl, ?_, _, _, rfl, rfl, szl (by show (kdS c.1 ++ (" " : Str)).length + (nS c.2).length ≤ 1000; omega), ?_⟩
      · have c2 := cc.2
        show ((c.2 : Nat) : Int).natAbs.log2 < 1920
        rw [Int.natAbs_natCast]
        exact Nat.lt_of_le_of_lt (Nat.log2_le_self _) (by omega)
      · refine ⟨_, hD, ?_, fun b o z => ?_, ?_⟩
        · rw [show (svs ((cs.take i).map cutT)).length = (cs.take i).length by simp [svs], List.length_take]
          exact szM (by omega)
        · rw [upd_ne (ne_of_none z nD)]
          exact s' _ _ z
        · rw [upd_same, take_snoc hq, List.map_append]
          simp [svs, cutT, nS]
    · rintro H' ⟨s', hD⟩
      have lv := hC.len
      rw [lv, List.take_length] at hD
      refine ⟨", ", Dd, cs.map cutT, rfl, rfl, .inl (SqL.of hD), ?_, k H' s'⟩
      have := line_sum hc
      rw [List.length_map]
      have e : (", " : Str).length = 2 := by decide +kernel
      rw [e]
      omega
end
end My

/-! _law_great -/
namespace My
open PySem L2 Cm LM CH
abbrev sGrt : Stmt := top 52
structure TxGr (K : PySem.W.Frag) (mg : Str → Option Value) where
  D : TxAd K mg
  grt : Df K mg "_law_great" sGrt ["_law_jar_here"]
section
variable {P : Program} {w : World} {K : PySem.W.Frag} {mg : Str → Option Value} {base : Heap}
/-! ### _law_great -/
def spGrt : Sp := fun vs H Q _ => ∃ j : Addr, vs = [.ref j] ∧ Jar H j ∧ ∀ (H' : Hp) (g : Nat), g ≤ 999999999999999999 → Off j H H' → Jar H' j → Q (.int g) H'
theorem scGrt : FnScope ["_law_jar_here", "_law_way"] ["_law_jar_here"] (defScope sGrt) := ⟨rfl, rfl, rfl, by decide +kernel, rfl, by decide +kernel, by decide +kernel⟩
theorem ok_grt (R : TxGr K mg) : FnOk P w K mg base CX0 2 R.grt.f R.grt.fd ["_law_jar_here"] spGrt := by
  have GS : FnOk P w K mg base CX0 1 R.D.sip.f R.D.sip.fd ["_law_jar_here", "_law_many"] spSip := ga_sip R.D
  refine R.grt.F.ok scGrt (fun vs H Q E h => ?_) (fun cdv A outer s H vs Q E hr h => ?_)
  · obtain ⟨j, rfl, _⟩ := h
    rfl
  · obtain ⟨j, rfl, hJ, k⟩ := h
    refine ⟨_, (pss_cons (ps_set (i := 1) scGrt.nd rfl (.inl rfl) (pe_call GS hr rfl R.D.sip.g R.D.sip.k R.D.sip.b .nil pass0 (pa_cons (pv 0) (pa_cons pe_int pa_nil)))) (pss_cons (ps_if (pt_cmpR op_lt (pv 1) pe_int (nomark _)) (pss_one (ps_ret (pe_call GS hr rfl R.D.sip.g R.D.sip.k R.D.sip.b .nil pass0 (pa_cons (pv 0) (pa_cons (pe_ix ix_list (pe_lst (pa_cons pe_int (pa_cons pe_int pa_nil))) (pv 1) (fun _ _ => rfl)) pa_nil))))) pss_nil) (pss_cons (ps_if (pt_cmpR op_eq (pv 1) pe_int (nomark _)) (pss_one (ps_ret (pe_op op_add (pe_op op_mul pe_int (pe_call GS hr rfl R.D.sip.g R.D.sip.k R.D.sip.b .nil pass0 (pa_cons (pv 0) (pa_cons (pe_op op_pow pe_int pe_int) pa_nil)))) (pe_call GS hr rfl R.D.sip.g R.D.sip.k R.D.sip.b .nil pass0 (pa_cons (pv 0) (pa_cons pe_int pa_nil)))))) pss_nil) (pss_cons (ps_if (pt_cmpR op_eq (pv 1) pe_int (nomark _)) (pss_one (ps_ret (pe_op op_sub (pe_op op_sub (pe_op op_pow pe_int pe_int) pe_int) (pe_call GS hr rfl R.D.sip.g R.D.sip.k R.D.sip.b .nil pass0 (pa_cons (pv 0) (pa_cons pe_int pa_nil)))))) pss_nil) (pss_one (ps_ret (pe_op op_add (pe_op op_mul (pe_call GS hr rfl R.D.sip.g R.D.sip.k R.D.sip.b .nil pass0 (pa_cons (pv 0) (pa_cons (pe_op op_pow pe_int pe_int) pa_nil))) (pe_op op_pow pe_int pe_int)) (pe_call GS hr rfl R.D.sip.g R.D.sip.k R.D.sip.b .nil pass0 (pa_cons (pv 0) (pa_cons (pe_op op_pow pe_int pe_int) pa_nil)))))))))), ?_⟩
    refine ⟨_, rfl, j, 6, rfl, hJ, by decide, by decide, fun H1 d d0 d1 o1 J1 => ?_⟩
    obtain ⟨way, rfl⟩ := Int.eq_ofNat_of_zero_le d0
    refine ⟨_, rfl, _, _, rfl, rfl, _, rfl, ?_⟩
    refine ite2 (fun c => ?_) (fun c => ?_)
    · have c := of_decide_eq_true c
      refine ⟨_, rfl, (by show 2 ≤ sizeLine; decide), fun l nl => ?_⟩
      have s2 := same_new (o := .lst [.int 30, .int 300]) nl
      have hw : ∃ m : Int, ([.int 30, .int 300] : List V)[way]? = some (.int m) ∧ 0 < m ∧ m ≤ 300 := by
        match way, c with
        | 0, _ => exact ⟨30, rfl, by decide, by decide⟩
        | 1, _ => exact ⟨300, rfl, by decide, by decide⟩
        | n + 2, c => omega
      obtain ⟨m, hm, m1, m2⟩ := hw
      refine ⟨_, rfl, l, _, _, _, rfl, rfl, SqL.of upd_same, atI_nat hm, j, m, rfl, J1.same s2, m1, by omega, fun H3 d3 d30 d31 o3 J3 => ?_⟩
      obtain ⟨g, rfl⟩ := Int.eq_ofNat_of_zero_le d30
      exact k H3 g (by omega) (o1.trans (Off.trans (Same.off s2) o3)) J3
    refine ⟨_, rfl, rfl, _, rfl, ?_⟩
    refine ite2 (fun c2 => ?_) (fun c2 => ?_)
    · refine ⟨_, rfl, _, _, rfl, rfl, ⟨by decide, by decide, by decide⟩, j, _, rfl, J1, by decide, by decide, fun H3 d3 d30 d31 o3 J3 => ⟨_, _, rfl, rfl, .inl (by decide), ?_⟩⟩
      obtain ⟨a, rfl⟩ := Int.eq_ofNat_of_zero_le d30
      have d31 : (a : Int) < 1000000 := d31
      refine ⟨_, rfl, j, 30, rfl, J3, by decide, by decide, fun H4 d4 d40 d41 o4 J4 => ⟨_, _, rfl, rfl, ?_⟩⟩
      obtain ⟨b, rfl⟩ := Int.eq_ofNat_of_zero_le d40
      have e : (27720 : Int) * (a : Int) + (b : Int) = ((27720 * a + b : Nat) : Int) := by omega
      have := k H4 (27720 * a + b) (by omega) ((o1.trans o3).trans o4) J4
      rw [← e] at this
      exact this
    refine ⟨_, rfl, rfl, _, rfl, ?_⟩
    refine ite2 (fun c3 => ?_) (fun c3 => ?_)
    · refine ⟨_, _, rfl, rfl, ⟨by decide, by decide, by decide⟩, _, _, rfl, rfl, _, rfl, j, 60, rfl, J1, by decide, by decide, fun H3 d3 d30 d31 o3 J3 => ⟨_, _, rfl, rfl, ?_⟩⟩
      obtain ⟨a, rfl⟩ := Int.eq_ofNat_of_zero_le d30
      have e : (10 : Int) ^ 18 - 1 - (a : Int) = ((999999999999999999 - a : Nat) : Int) := by omega
      have := k H3 (999999999999999999 - a) (by omega) (o1.trans o3) J3
      rw [← e] at this
      exact this
    · refine ⟨_, rfl, _, _, rfl, rfl, ⟨by decide, by decide, by decide⟩, j, _, rfl, J1, by decide, by decide, fun H3 d3 d30 d31 o3 J3 => ⟨_, _, rfl, rfl, ⟨by decide, by decide, by decide⟩, _, _, rfl, rfl, .inr (by decide), ?_⟩⟩
      obtain ⟨a, rfl⟩ := Int.eq_ofNat_of_zero_le d30
      have d31 : (a : Int) < 1000000000 := d31
      refine ⟨_, rfl, _, _, rfl, rfl, ⟨by decide, by decide, by decide⟩, j, _, rfl, J3, by decide, by decide, fun H4 d4 d40 d41 o4 J4 => ⟨_, _, rfl, rfl, ?_⟩⟩
      obtain ⟨b, rfl⟩ := Int.eq_ofNat_of_zero_le d40
      have d41 : (b : Int) < 1000000000 := d41
      have e : (a : Int) * (10 : Int) ^ 9 + (b : Int) = ((a * 1000000000 + b : Nat) : Int) := by omega
      have := k H4 (a * 1000000000 + b) (by omega) ((o1.trans o3).trans o4) J4
      rw [← e] at this
      exact this
end
end My

/-! repr of lists within lists, in which instances with an own __repr__ stand: D is the part of the heap in which the value lives -/
namespace RpL
open PySem PySem.Spec PyProof.Rows L2 Builtin Builtin.List
def ItN (X : Cx) (n : Nat) (D : Hp) (v : V) (t : Str) : Prop :=
  ∀ (H1 : Hp), Same D H1 → ∀ (A : Around) (g : List Code), Sub X n A → A.guards = some g → (∀ b, D b ≠ none → Clear g b) → ∀ (pins : List (Addr × Obj)) (s : Shared) (σ : L2.St) (u : Value) (base : Nat) (Q : Str → Shared → Prop) (E : Value → Shared → Prop), Inv X pins σ H1 s → RelV v u → base + t.length ≤ sizeLine →
    (∀ (s' : Shared) (H2 : Hp), Same H1 H2 → Inv X pins σ H2 s' → Q t s') → wpAny (model X.prog X.w) A (pyReprUnder base u) Q E s
section
variable {X : Cx} {n : Nat} {H D : Hp}
theorem itN_of {v : V} {t : Str} (h : It X n D v t) : ItN X n D v t := fun H1 s1 A g sb _ _ pins s σ u base Q E I ru hb hQ => h H1 s1 A sb pins s σ u base Q E I ru hb hQ
theorem ItN.same {v : V} {t : Str} {D' : Hp} (h : ItN X n D v t) (sD : Same D D') : ItN X n D' v t := fun H1 s1 A g sb hg hc pins s σ u base Q E I ru hb hQ => h H1 (fun b o e => s1 _ _ (sD _ _ e)) A g sb hg (fun b hb => hc b (fun z => by
  cases e : D b with
  | none => exact hb e
  | some o =>
    rw [sD _ _ e] at z
    cases z)) pins s σ u base Q E I ru hb hQ
theorem ItN.mono {v : V} {t : Str} {m : Nat} (h : ItN X n D v t) (hm : n ≤ m) : ItN X m D v t := fun H1 s1 A g sb hg hc => h H1 s1 A g (sb.mono hm) hg hc
/-- what the library shows, over known places -/
theorem itN_k {v : V} {t : Str} (h : ∀ (pins : List (Addr × Obj)) (σ : L2.St) (s : Shared) (H1 : Hp) (u : Value), Inv X pins σ H1 s → Same D H1 → RelV v u → ∃ (as : List Addr) (d : Nat), ReprK X.prog X.w as s.heap d u t ∧ d ≤ 100 ∧ ∀ b ∈ as, D b ≠ none) : ItN X n D v t := by
  intro H1 s1 A g sb hg hc pins s σ u base Q E I ru hb hQ
  obtain ⟨as, d, hk, hd, ha⟩ := h pins σ s H1 u I s1 ru
  have hu := sb.room.un
  exact hk base hb A g E s Q hg (fun b hb => hc b (ha b hb)) (by omega) (fun _ _ e => e) fun h' tk hkp => hQ _ H1 (Same.refl _) (I.kept (t' := tk) hkp)
theorem loopN {g : List Code} {D0 : Hp} {A : Around} {R : Result → Shared → Prop} {a P : Addr} {vs : List V} {ts : List Str} {base : Nat} {pins : List (Addr × Obj)} {σ : L2.St} (sb : Sub X (n + 1) A) (hg : A.guards = some g) (hcl : ∀ b, D0 b ≠ none → Clear g b) (nA : D0 a = none) (sD : Same D0 H) (hP0 : H P = none) (ha : H a = some (.lst vs)) (hlen : ts.length = vs.length) (hT : ∀ (i : Nat) (v : V), vs[i]? = some v → ∃ t, ts[i]? = some t ∧ ItN X n D0 v t) (hsz : base + (listText ts).length ≤ sizeLine)
    (hR : ∀ (s' : Shared) (H2 : Hp) (tk : Tok), Same H H2 → Inv X pins σ H2 s' → R (.ok (.ret (.str (listText ts) tk))) s') :
    ∀ (k i : Nat) (s : Shared) (H1 : Hp), vs.length - i = k → i ≤ vs.length → Same H H1 → Inv X pins σ H1 s → H1 P = some (.lst ((ts.take i).map V.str)) →
    codeAny (model X.prog X.w) A (.builtin "list.__repr__.loop" ⟨[.ref a, rawInt i, .ref P, rawInt ((base + piled (ts.take i) : Nat) : Int)], []⟩) R s := by
  have hX : (listText ts).length = (textFrom 0 "[" ts).length + 1 := by
    show (textFrom 0 "[" ts ++ "]").length = _
    rw [strLen_append]; rfl
  have hL := textFrom_len ts 0 "["
  have hsz2 : ∀ t ∈ ts, t.length ≤ sizeLine := fun t ht => by
    have h2 := hL.2.1 t ht
    omega
  have hsz3 : (listText ts).length ≤ sizeLine := by omega
  have hp3 := piled_le_listText ts
  have vals_str : ∀ (l : List Str) (its : List Value), Vals (l.map V.str) its → ∃ d : List (Str × Tok), its = strValues d ∧ d.map (·.1) = l := by
    intro l
    induction l with
    | nil =>
      intro its h
      cases h
      exact ⟨[], rfl, rfl⟩
    | cons x r ih =>
      intro its h
      cases h with
      | cons a t =>
        obtain ⟨tk, rfl⟩ := a
        obtain ⟨d, rfl, e⟩ := ih _ t
        exact ⟨(x, tk) :: d, rfl, by rw [List.map_cons, e]⟩
  intro k
  induction k with
  | zero =>
    intro i s H1 hk hi s1 I hP
    have hin : i = vs.length := by omega
    obtain ⟨z, its, na, rv, lv, ea⟩ := I.lstM (s1 _ _ ha)
    obtain ⟨zP, itsP, nP, rP, lP, eP⟩ := I.lstM hP
    refine codeAny_builtin F.entry_list_repr_loop ?_
    show wpAny _ _ («list.__repr__.loop» ⟨[.ref a, .int i 0, .ref P, .int ((base + piled (ts.take i) : Nat) : Int) 0], []⟩) _ _ s
    rw [repr_loop_tree]
    refine wpAny_bind (wpAny_listItems ea rfl ?_)
    have hnone : its.toArray[(i : Int).toNat]? = none := by simp; omega
    simp only [hnone]
    unfold reprEnd
    refine wpAny_bind (wpAny_listItems eP rfl ?_)
    obtain ⟨d, rfl, ed⟩ := vals_str _ _ rP
    have hall : d.map (·.1) = ts := by rw [ed, hin, ← hlen, List.take_length]
    rw [List.toList_toArray, repr_fold]
    refine wpAny_bind (wpAny_pure ?_)
    rw [hall]
    refine wpAny_bind (wpAny_mkStr (wpAny_pure ?_) hsz3)
    exact hR _ H1 _ s1 (I.tok _)
  | succ k ih =>
    intro i s H1 hk hi s1 I hP
    have hlt : i < vs.length := by omega
    obtain ⟨z, its, na, rv, lv, ea⟩ := I.lstM (s1 _ _ ha)
    obtain ⟨t, ht, hit⟩ := hT i vs[i] (List.getElem?_eq_getElem hlt)
    have hp1 := piled_take_succ ht
    have hp2 := piled_take_le ts (i + 1)
    have hil : i < its.length := by omega
    have ru : RelV vs[i] its[i] := by
      obtain ⟨u, e, r⟩ := rv.get (List.getElem?_eq_getElem hlt)
      rw [List.getElem?_eq_getElem hil] at e
      cases e
      exact r
    refine codeAny_builtin F.entry_list_repr_loop ?_
    show wpAny _ _ («list.__repr__.loop» ⟨[.ref a, .int i 0, .ref P, .int ((base + piled (ts.take i) : Nat) : Int) 0], []⟩) _ _ s
    rw [repr_loop_tree]
    refine wpAny_bind (wpAny_listItems ea rfl ?_)
    have hsome : its.toArray[(i : Int).toNat]? = some its[i] := by simp [hil]
    simp only [hsome]
    rw [Int.toNat_natCast]
    refine wpAny_bind (wpAny_holding (hit H1 (Same.trans sD s1) _ _ (sub_under sb) (guards_under_guard (isGuard_list_loop _) hg) (fun b hb => (hcl b hb).cons (a := a) fun e => hb (by rw [← e]; exact nA)) pins s σ _ (base + piled (ts.take i) + 1) _ _ I ru (by omega) fun s' H2 s2 I2 => ?_))
    refine wpAny_bind (wpAny_mkStr ?_ (hsz2 t (List.mem_of_getElem? ht)))
    refine wpAny_bind ?_
    show wpAny _ _ (updateSeq P _) _ _ _
    have hP2 := s2 _ _ hP
    have I3 := I2.tok (s'.toks + 1)
    obtain ⟨zP, itsP, nP, rP, lP, eP⟩ := I3.lstM hP2
    have hasz : itsP.toArray.size ≤ sizeLine := by
      rw [List.size_toArray, ← lP, List.length_map, List.length_take]
      omega
    refine wpAny_updateSeq eP rfl (wpAny_pure ⟨F.quiet_list_repr_loop _, ?_⟩) hasz
    have e1 : ((i : Int) + 1) = ((i + 1 : Nat) : Int) := by omega
    have e2 : base + piled (ts.take i) + (t.length + 2) = base + piled (ts.take (i + 1)) := by omega
    rw [e1, e2]
    have tk : ts.take (i + 1) = ts.take i ++ [t] := by rw [List.take_add_one, ht]; rfl
    refine ih (i + 1) _ (upd H2 P (.lst ((ts.take (i + 1)).map V.str))) (by omega) hlt (fun b o e => ?_) ?_ upd_same
    · rw [upd_ne (ne_of_none e hP0)]
      exact s2 _ _ (s1 _ _ e)
    · have := I3.lset (its' := itsP ++ [Value.str t s'.toks]) (f := fun x => x.push (Value.str t s'.toks)) (ys := (ts.take (i + 1)).map V.str) (t' := s'.toks + 1) hP2 eP (by simp) (by rw [tk, List.map_append]; exact rP.append (.cons ⟨_, rfl⟩ .nil)) (by rw [List.length_map, List.length_take]; omega)
      exact this

/-- a list of such values, at a place in which they don't live -/
theorem itN_list {a : Addr} {vs : List V} {ts : List Str} (na : D a = none) (sD : Same D H) (ha : H a = some (.lst vs)) (hne : vs ≠ []) (hlen : ts.length = vs.length) (hT : ∀ (i : Nat) (v : V), vs[i]? = some v → ∃ t, ts[i]? = some t ∧ ItN X n D v t) : ItN X (n + 1) H (.ref a) (listText ts) := by
  intro H1 s1 A g sb hg hc pins s σ u base Q E I ru hb hQ
  cases (show u = Value.ref a from ru)
  have ha1 := s1 _ _ ha
  obtain ⟨z, its, nn, rv, lv, ea⟩ := I.lstM ha1
  obtain ⟨x, l, rfl⟩ : ∃ x l, its = x :: l := by
    cases its with
    | nil => cases vs with
      | nil => exact absurd rfl hne
      | cons => simp at lv
    | cons x l => exact ⟨x, l, rfl⟩
  have hTy : s.TypeIs (.ref a) "list" := ⟨_, ea, rfl⟩
  have hu := sb.room.un
  refine wpAny_pyReprUnder_ref (by omega) ?_
  refine wpAny_pyReprObjUnder_twin (twin := "list.__repr__.under") hTy F.slot_list_repr.toG rfl (by omega) ?_
  refine call_twin_plain F.plain_list_repr_under F.entry_list_repr_under F.check_list_repr_under hTy F.slot_list_repr.toG (F.args_list_repr_1 _) ?_
  refine wpAny_list_repr_head (g := g) hg (fun v rest kw hm => listSameRef_of_ne (hc a (by rw [ha]; simp) _ _ _ _ hm)) ea rfl ?_
  refine wpAny_bind (m := newList []) (wpAny_newObj_type ?_)
  refine wpAny_pure ⟨F.quiet_list_repr_loop _, ?_⟩
  have hP0 := I.fresh
  refine loopN (base := base) (g := g) (D0 := D) (H := H1) (R := callEnd (fun v s' => (∃ x u, v = Value.str x u) ∧ ∃ x u, v = Value.str x u ∧ Q x s') E) (pins := pins) (σ := σ) sb hg (fun b hb => hc b fun z => by
    cases e : D b with
    | none => exact hb e
    | some o =>
      rw [sD _ _ e] at z
      cases z) na (Same.trans sD s1) hP0 ha1 hlen hT hb (fun s' H2 tk s2 I2 => ⟨⟨_, _, rfl⟩, _, _, rfl, hQ s' H2 s2 I2⟩) vs.length 0 _ (upd H1 s.heap.objs.size (.lst [])) (by omega) (by omega) (fun b o e => by rw [upd_ne (ne_of_none e hP0)]; exact e) ?_ upd_same
  exact I.lnew .nil (by simp)
/-! ### flat data -/
theorem rk_all {prog : Program} {w : World} {h0 : Heap} : ∀ {vs : List V} {us : List Value} {ts : List Str}, (∀ (i : Nat) (v : V), vs[i]? = some v → ∃ t, ts[i]? = some t ∧ ∀ u, RelV v u → ReprIs prog w u t) → ts.length = vs.length → Vals vs us → ReprAllK prog w [] h0 0 us ts
  | [], _, ts, _, hl, .nil => by
    cases ts with
    | nil => exact .nil
    | cons _ _ => simp at hl
  | v :: vs, _, [], _, hl, .cons _ _ => by simp at hl
  | v :: vs, _, t :: ts, h, hl, .cons r rs => by
    obtain ⟨t', e, k⟩ := h 0 v rfl
    cases (Option.some.inj e)
    exact .cons (ReprK.of_is (k _ r) _ _ _) (rk_all (fun i v hv => h (i + 1) v hv) (by simpa using hl) rs)
theorem itN_tup {a : Addr} {vs : List V} {ts : List Str} (ha : D a = some (.tup vs)) (hlen : ts.length = vs.length) (hT : ∀ (i : Nat) (v : V), vs[i]? = some v → ∃ t, ts[i]? = some t ∧ ∀ u, RelV v u → ReprIs X.prog X.w u t) : ItN X n D (.ref a) (tupleText ts) := by
  refine itN_k fun pins σ s H1 u I sD ru => ?_
  cases (show u = Value.ref a from ru)
  obtain ⟨_, its, rv, o, e, c, m, hn⟩ := (show ObjOk X.prog X.w H1 s.heap a (.tup vs) from I.hok a _ (sD _ _ ha))
  exact ⟨[a], 1, ReprK.tuple e c hn (by simp) (by simpa using rk_all hT hlen rv), by decide, fun b hb => by rw [List.mem_singleton.mp hb, ha]; simp⟩
theorem itN_nil {a : Addr} (ha : D a = some (.lst [])) : ItN X n D (.ref a) "[]" := by
  refine itN_k fun pins σ s H1 u I sD ru => ?_
  cases (show u = Value.ref a from ru)
  obtain ⟨_, its, m, rv, e⟩ := (show ObjOk X.prog X.w H1 s.heap a (.lst []) from I.hok a _ (sD _ _ ha))
  cases rv
  exact ⟨[], 0, ReprK.listEmpty e rfl rfl, by decide, fun b hb => nomatch hb⟩
end
/-- repr of a list of such values -/
def rReprN (X : Cx) (n : Nat) : List V → Hp → VK → Prop := fun xs H Q => ∃ (a : Addr) (D : Hp) (vs : List V) (ts : List Str), xs = [.ref a] ∧ D a = none ∧ Same D H ∧ H a = some (.lst vs) ∧ vs ≠ [] ∧ ts.length = vs.length ∧ (∀ (i : Nat) (v : V), vs[i]? = some v → ∃ t, ts[i]? = some t ∧ ItN X n D v t) ∧ (listText ts).length ≤ sizeLine ∧ ∀ H', Same H H' → Q (.str (listText ts)) H'
theorem call_reprN {X : Cx} {n : Nat} (hg : X.A.guards = some []) (sb : Sub X (n + 1) X.A.in1) : CallR X (.builtin "repr") (rReprN X n) := by
  intro pins s σ H xs us Q I r h
  obtain ⟨a, D, vs, ts, rfl, na, sD, ha, hne, hlen, hT, hsz, q⟩ := h
  obtain ⟨u, rfl, ru⟩ := vals1 r
  cases (show u = Value.ref a from ru)
  obtain ⟨z, its, nn, rv, lv, ea⟩ := I.lstM ha
  obtain ⟨x, l, rfl⟩ : ∃ x l, its = x :: l := by
    cases its with
    | nil => cases vs with
      | nil => exact absurd rfl hne
      | cons => simp at lv
    | cons x l => exact ⟨x, l, rfl⟩
  have hTy : s.TypeIs (.ref a) "list" := ⟨_, ea, rfl⟩
  refine call_repr_slot (by have := sb.room.un; have : X.A.in1.units = X.A.units + 1 := rfl; omega) hTy F.slot_list_repr.toG ?_
  refine wpAny_call (codeAny_call_builtin F.slot_list_repr.plain F.entry_list_repr (F.slot_list_repr.check _ _ _ _ _ _ _ _ hTy (F.args_list_repr_1 _) ?_))
  show wpAny _ _ (Builtin.listReprAt 0 ⟨[.ref a], []⟩) _ _ _
  refine wpAny_list_repr_head (g := []) hg (fun v rest kw hm => nomatch hm) ea rfl ?_
  refine wpAny_bind (m := newList []) (wpAny_newObj_type ?_)
  refine wpAny_pure ⟨F.quiet_list_repr_loop _, ?_⟩
  have hP0 := I.fresh
  refine loopN (base := 0) (g := []) (D0 := D) (R := fun r s' => match r with | .ok (.ret v) => ∃ x t, v = Value.str x t ∧ EP X pins σ Q v s' | .ok _ => False | .error e => X.xe e s') (pins := pins) (σ := σ) sb hg (fun b _ => Clear.nil b) na sD hP0 ha hlen hT (by omega) (fun s' H2 tk s2 I2 => ⟨_, _, rfl, .str (listText ts), H2, I2, ⟨tk, rfl⟩, q H2 s2⟩) vs.length 0 _ (upd H s.heap.objs.size (.lst [])) (by omega) (by omega) (fun b o e => by rw [upd_ne (ne_of_none e hP0)]; exact e) ?_ upd_same
  exact I.lnew .nil (by simp)
end RpL

/-! plain data as it is shown within lists in which own instances stand; the part of a heap without its tables -/
namespace RpL
open PySem PySem.Spec PyProof.Rows L2 Builtin Builtin.List Gd
section
variable {X : Cx} {n : Nat} {D H1 : Hp} {pins : List (Addr × Obj)} {σ : L2.St} {s : Shared}
mutual
theorem dq_rk (I : Inv X pins σ H1 s) (sD : Same D H1) (no : D sysModules = none) : ∀ {v : V} {d : PyData} {u : Value}, Dq D v d → RelV v u → d.showable = true → d.shown.length ≤ sizeLine →
    ∃ bs, ReadAtMost s.heap d.depth bs ∧ ReprK X.prog X.w bs s.heap d.depth u d.shown ∧ ∀ b ∈ bs, D b ≠ none
  | _, _, _, .non, r, _, _ => by
    cases r
    refine ⟨[], (fun _ z => nomatch z), ?_, fun _ z => nomatch z⟩
    rw [PyData.shown]
    exact ReprK.of_is .none _ _ _
  | _, _, _, .bl b, r, _, _ => by
    cases r
    refine ⟨[], (fun _ z => nomatch z), ?_, fun _ z => nomatch z⟩
    rw [PyData.shown]
    exact ReprK.of_is (.bool b) _ _ _
  | _, _, _, .int i, r, sh, _ => by
    obtain ⟨t, rfl⟩ := r
    refine ⟨[], (fun _ z => nomatch z), ?_, fun _ z => nomatch z⟩
    rw [PyData.shown]
    exact ReprK.of_is (.int t (by simpa [PyData.showable] using sh)) _ _ _
  | _, _, _, .str x, r, _, ln => by
    obtain ⟨t, rfl⟩ := r
    refine ⟨[], (fun _ z => nomatch z), ?_, fun _ z => nomatch z⟩
    rw [PyData.shown] at ln ⊢
    exact ReprK.of_is (.str x t ln) _ _ _
  | _, _, u, .lst (a := a) (xs := xs) (ds := ds) ha hd, r, sh, ln => by
    cases (show u = Value.ref a from r)
    rw [PyData.shown] at ln
    obtain ⟨_, its, m, rv, e⟩ := (show ObjOk X.prog X.w H1 s.heap a (.lst xs) from I.hok a _ (sD _ _ ha))
    obtain ⟨bs, b1, b2, b3⟩ := dqa_rk I sD no hd rv (by simpa [PyData.showable] using sh) fun t ht => Nat.le_trans (listText_mem_le ht) ln
    obtain ⟨as, rr, _⟩ := Dq.reads I (u := .ref a) (Dq.same sD (.lst ha hd)) rfl
    have na : a ∉ bs := not_mem_of_deeper rr (by simp only [PyData.depth]; omega) b1
    refine ⟨a :: bs, ReadAtMost.cons rr (by simp only [PyData.depth]; omega) b1, ?_, fun b hb => ?_⟩
    · simp only [PyData.depth, PyData.shown]
      cases its with
      | nil =>
        cases rv
        cases hd
        simp only [PyData.shownAll, listText_nil]
        exact .listEmpty e rfl rfl
      | cons y l => exact .list e rfl rfl na (by simpa using b2.length_eq) fun i z q => b2.item i z (by simpa using q)
    · rcases List.mem_cons.mp hb with rfl | hb
      · rw [ha]; simp
      · exact b3 b hb
  | _, _, u, .tup (a := a) (xs := xs) (ds := ds) ha hd, r, sh, ln => by
    cases (show u = Value.ref a from r)
    rw [PyData.shown] at ln
    obtain ⟨_, its, rv, o, e, c, m, hn⟩ := (show ObjOk X.prog X.w H1 s.heap a (.tup xs) from I.hok a _ (sD _ _ ha))
    obtain ⟨bs, b1, b2, b3⟩ := dqa_rk I sD no hd rv (by simpa [PyData.showable] using sh) fun t ht => Nat.le_trans (tupleText_mem_le ht) ln
    obtain ⟨as, rr, _⟩ := Dq.reads I (u := .ref a) (Dq.same sD (.tup ha hd)) rfl
    have na : a ∉ bs := not_mem_of_deeper rr (by simp only [PyData.depth]; omega) b1
    refine ⟨a :: bs, ReadAtMost.cons rr (by simp only [PyData.depth]; omega) b1, ?_, fun b hb => ?_⟩
    · simp only [PyData.depth, PyData.shown]
      exact .tuple e c hn na (by simpa using b2)
    · rcases List.mem_cons.mp hb with rfl | hb
      · rw [ha]; simp
      · exact b3 b hb
  | _, _, u, .dct (a := a) ha, r, _, _ => by
    cases (show u = Value.ref a from r)
    obtain ⟨_, _, vs, kv, o, es, ep, e, hx, hdt, _, hes, _⟩ := (show ObjOk X.prog X.w H1 s.heap a (.dK []) from I.hok a _ (sD _ _ ha))
    cases kv
    have e0 : es.toList = [] := by
      generalize es.toList = zs at hes
      cases hes
      rfl
    have ns : (a == sysModules) = false := beq_eq_false_iff_ne.mpr fun z => by
      rw [z, no] at ha
      cases ha
    obtain ⟨as, rr, _⟩ := Dq.reads I (u := .ref a) (Dq.same sD (.dct ha)) rfl
    refine ⟨[a], ReadAtMost.cons rr (Nat.le_refl _) (fun _ z => nomatch z), ?_, fun b hb => by rw [List.mem_singleton.mp hb, ha]; simp⟩
    have k := ReprK.dict (prog := X.prog) (w := X.w) (as := []) (d := 0) (ps := []) e hx.1 hdt ns (by simp) (by rw [e0]; exact .nil)
    simp only [PyData.depth, PyData.shown, PyData.shownKv, PyData.depthKv]
    exact k
theorem dqa_rk (I : Inv X pins σ H1 s) (sD : Same D H1) (no : D sysModules = none) : ∀ {vs : List V} {ds : List PyData} {us : List Value}, DqA D vs ds → Vals vs us → PyData.showableAll ds = true → (∀ t ∈ PyData.shownAll ds, t.length ≤ sizeLine) →
    ∃ bs, ReadAtMost s.heap (PyData.depthAll ds) bs ∧ ReprAllK X.prog X.w bs s.heap (PyData.depthAll ds) us (PyData.shownAll ds) ∧ ∀ b ∈ bs, D b ≠ none
  | _, _, _, .nil, r, _, _ => by
    cases r
    refine ⟨[], (fun _ z => nomatch z), ?_, fun _ z => nomatch z⟩
    rw [PyData.shownAll]
    exact .nil
  | _, _, _, .cons (d := d) (ds := ds) hd ht, .cons r rt, sh, ln => by
    have sh2 : d.showable = true ∧ PyData.showableAll ds = true := by simpa [PyData.showableAll] using sh
    obtain ⟨b1, h1, k1, m1⟩ := dq_rk I sD no hd r sh2.1 (ln _ (by simp only [PyData.shownAll]; exact List.mem_cons_self))
    obtain ⟨b2, h2, k2, m2⟩ := dqa_rk I sD no ht rt sh2.2 fun t q => ln t (by simp only [PyData.shownAll]; exact List.mem_cons_of_mem _ q)
    refine ⟨b1 ++ b2, fun b q => ?_, ?_, fun b q => (List.mem_append.mp q).elim (m1 b) (m2 b)⟩
    · simp only [PyData.depthAll]
      rcases List.mem_append.mp q with q | q
      · obtain ⟨e, as, x, y⟩ := h1 b q
        exact ⟨e, as, x, Nat.le_trans y (Nat.le_max_left _ _)⟩
      · obtain ⟨e, as, x, y⟩ := h2 b q
        exact ⟨e, as, x, Nat.le_trans y (Nat.le_max_right _ _)⟩
    · simp only [PyData.depthAll, PyData.shownAll]
      exact .cons ((k1.more fun b q => List.mem_append_left _ q).level_le (Nat.le_max_left _ _)) (k2.more_le (fun b q => List.mem_append_right _ q) (Nat.le_max_right _ _))
end
end
/-- plain data -/
theorem itN_dq {X : Cx} {n : Nat} {D : Hp} {v : V} {d : PyData} {m k : Nat} {ob : Obj} (sm : X.base.get? sysModules = some ob) (h : Dq D v d) (sw : SkT.Sw m k d) (hm : m ≤ sizeLine) (hk : k ≤ 100) : ItN X n D v d.shown := by
  refine itN_k fun pins σ s H1 u I sD ru => ?_
  have no : D sysModules = none := by
    cases e : D sysModules with
    | none => rfl
    | some o =>
      have q := sD _ _ e
      rw [(I.env0.bs _ _ sm).2] at q
      cases q
  obtain ⟨bs, _, b2, b3⟩ := dq_rk I sD no h ru sw.sh (Nat.le_trans sw.ln hm)
  exact ⟨bs, _, b2, Nat.le_trans sw.dp hk, b3⟩
/-! ### the part of a heap without its tables and some places -/
def cut (as : List Addr) (H : Hp) : Hp := fun b => if b ∈ as then none else match H b with | some (.tbl _) => none | z => z
theorem cut_at {as : List Addr} {H : Hp} {b : Addr} {o : HO} (n : b ∉ as) (h : H b = some o) (t : ∀ ps, o ≠ .tbl ps) : cut as H b = some o := by
  unfold cut
  rw [if_neg n, h]
  cases o with
  | tbl ps => exact absurd rfl (t ps)
  | _ => rfl
theorem cut_of {as : List Addr} {H : Hp} {b : Addr} {o : HO} (h : cut as H b = some o) : b ∉ as ∧ H b = some o ∧ ∀ ps, o ≠ .tbl ps := by
  unfold cut at h
  split at h
  · cases h
  · rename_i n
    refine ⟨n, ?_⟩
    cases e : H b with
    | none => rw [e] at h; cases h
    | some q =>
      rw [e] at h
      cases q with
      | tbl ps => cases h
      | _ => cases h; exact ⟨rfl, by intro ps z; cases z⟩
theorem cut_up {as : List Addr} {H : Hp} : Same (cut as H) H := fun _ _ h => (cut_of h).2.1
theorem cut_no {as : List Addr} {H : Hp} {b : Addr} (h : b ∈ as) : cut as H b = none := if_pos h
theorem cut_none {as : List Addr} {H : Hp} {b : Addr} (h : H b = none) : cut as H b = none := by
  cases e : cut as H b with
  | none => rfl
  | some o => rw [(cut_of e).2.1] at h; cases h
theorem cut_same {as : List Addr} {H H' : Hp} (f : ∀ b o, b ∉ as → (∀ ps, o ≠ .tbl ps) → H b = some o → H' b = some o) : Same (cut as H) (cut as H') := fun b o h => by
  obtain ⟨n, e, t⟩ := cut_of h
  exact cut_at n (f b o n t e) t
theorem cut_keep {as : List Addr} {H H' : Hp} (f : ∀ b o, b ∉ as → (∀ ps, o ≠ .tbl ps) → H b = some o → H' b = some o) : Same (cut as H) H' := fun b o h => by
  obtain ⟨n, e, t⟩ := cut_of h
  exact f b o n t e
end RpL

/-! lists of rows that a law gathers, and the heap without one place -/
namespace Sn
open PySem L2 Gd RpA SkT
/-! ### the heap without what stands at j -/
def Hj (j : Addr) (H : Hp) : Hp := fun b => if b = j then none else H b
theorem hj_at {j a : Addr} {H : Hp} {o : HO} (n : a ≠ j) (h : H a = some o) : Hj j H a = some o := by
  unfold Hj
  rw [if_neg n]
  exact h
theorem hj_of {j a : Addr} {H : Hp} {o : HO} (h : Hj j H a = some o) : a ≠ j ∧ H a = some o := by
  unfold Hj at h
  split at h
  · cases h
  · exact ⟨by assumption, h⟩
theorem hj_off {j : Addr} {H H' : Hp} (f : ∀ b o, b ≠ j → H b = some o → H' b = some o) : Same (Hj j H) (Hj j H') := fun b o h => by
  obtain ⟨n, e⟩ := hj_of h
  exact hj_at n (f b o n e)
theorem hj_same {j : Addr} {H H' : Hp} (s : Same H H') : Same (Hj j H) (Hj j H') := hj_off fun b o _ e => s b o e
theorem hj_up {j : Addr} {H : Hp} : Same (Hj j H) H := fun b o h => (hj_of h).2
/-! ### rows -/
inductive Rows (H : Hp) : List V → List (List V) → Prop
  | nil : Rows H [] []
  | cons {q : Addr} {r : List V} {xs : List V} {rs : List (List V)} (h : H q = some (.lst r)) (t : Rows H xs rs) : Rows H (.ref q :: xs) (r :: rs)
theorem Rows.ext {H H' : Hp} (s : LamX.ExtN H H') : ∀ {xs rs}, Rows H xs rs → Rows H' xs rs
  | _, _, .nil => .nil
  | _, _, .cons h t => .cons (s _ _ h (by intro ps z; cases z)) (t.ext s)
theorem Rows.len {H : Hp} : ∀ {xs rs}, Rows H xs rs → xs.length = rs.length
  | _, _, .nil => rfl
  | _, _, .cons _ t => congrArg (· + 1) t.len
theorem Rows.snoc {H : Hp} {q : Addr} {r : List V} (h : H q = some (.lst r)) : ∀ {xs rs}, Rows H xs rs → Rows H (xs ++ [.ref q]) (rs ++ [r])
  | _, _, .nil => .cons h .nil
  | _, _, .cons a t => .cons a (t.snoc h)
theorem Rows.app {H : Hp} : ∀ {xs ys rs ss}, Rows H xs rs → Rows H ys ss → Rows H (xs ++ ys) (rs ++ ss)
  | _, _, _, _, .nil, b => b
  | _, _, _, _, .cons a t, b => .cons a (t.app b)
/-- a row begins with a word -/
def Wd (r : List V) : Prop := ∃ (s : Str) (t : List V), r = .str s :: t
theorem Rows.ne {H : Hp} {D q : Addr} {acc r : List V} {as : List (List V)} (hD : H D = some (.lst acc)) (ha : Rows H acc as) (w : Wd r) (h : H q = some (.lst r)) : q ≠ D := fun z => by
  obtain ⟨s, t, rfl⟩ := w
  rw [z, hD] at h
  cases ha <;> cases h
theorem Rows.put {H : Hp} {D : Addr} {acc ys : List V} {as : List (List V)} (hD : H D = some (.lst acc)) (ha : Rows H acc as) : ∀ {xs rs}, (∀ r ∈ rs, Wd r) → Rows H xs rs → Rows (upd H D (.lst ys)) xs rs
  | _, _, _, .nil => .nil
  | _, _, w, .cons h t => .cons (by rw [upd_ne (Rows.ne hD ha (w _ List.mem_cons_self) h)]; exact h) (Rows.put hD ha (fun r hr => w r (List.mem_cons_of_mem _ hr)) t)
theorem tabs_put {T : List (Addr × Str)} {H : Hp} {q : Addr} {ys zs : List V} (hq : H q = some (.lst ys)) (h : LamX.Tabs T H) : LamX.Tabs T (upd H q (.lst zs)) := fun p hp => by
  obtain ⟨ps, a1, a2, a3⟩ := h p hp
  refine ⟨ps, by rw [upd_ne (ne_of a1 hq (by intro z; cases z))]; exact a1, a2, fun pos cv hcv => ?_⟩
  obtain ⟨c, e, hc⟩ := a3 pos cv hcv
  exact ⟨c, e, by rw [upd_ne (ne_of hc hq (by intro z; unfold LamX.CodeO at z; cases z))]; exact hc⟩
/-- the list of what came, so far -/
structure Seen (T : List (Addr × Str)) (Ha H : Hp) (sq : Addr) (xs : List V) (rs : List (List V)) : Prop where
  ext : LamX.ExtN Ha H
  tab : LamX.Tabs T H
  at_ : H sq = some (.lst xs)
  row : Rows H xs rs
  wd : ∀ r ∈ rs, Wd r
theorem new_ne {Ha Hb : Hp} {sq : Addr} (e : LamX.ExtN Ha Hb) (n : Hb sq = none) : ∀ b o, Ha b = some o → (∀ ps, o ≠ .tbl ps) → b ≠ sq := fun b o h t => ne_of_none (e b o h t) n
theorem Seen.first {T : List (Addr × Str)} {Ha Hb : Hp} {sq p : Addr} {r : List V} (e : LamX.ExtN Ha Hb) (t : LamX.Tabs T Hb) (hp : Hb p = some (.lst r)) (w : Wd r) (n : Hb sq = none) : Seen T Ha (upd Hb sq (.lst [.ref p])) sq [.ref p] [r] := by
  have s : Same Hb (upd Hb sq (.lst [.ref p])) := fun b o q => by rw [upd_ne (ne_of_none q n)]; exact q
  exact ⟨e.trans (ext_same s), t.ext s, upd_same, .cons (s _ _ hp) .nil, fun r' h => by rw [List.mem_singleton.mp h]; exact w⟩
theorem Seen.step {T : List (Addr × Str)} {Ha H H1 : Hp} {sq p : Addr} {xs r : List V} {rs : List (List V)} (s : Seen T Ha H sq xs rs) (nq : ∀ b o, Ha b = some o → (∀ ps, o ≠ .tbl ps) → b ≠ sq) (e1 : LamX.ExtN H H1) (T1 : LamX.Tabs T H1) (hp : H1 p = some (.lst r)) (w : Wd r) :
    H1 sq = some (.lst xs) ∧ Seen T Ha (upd H1 sq (.lst (xs ++ [.ref p]))) sq (xs ++ [.ref p]) (rs ++ [r]) := by
  have h1 : H1 sq = some (.lst xs) := e1 _ _ s.at_ (by intro ps z; cases z)
  have r1 := s.row.ext e1
  have w' : ∀ r' ∈ rs ++ [r], Wd r' := fun r' h => (List.mem_append.mp h).elim (s.wd r') fun z => by rw [List.mem_singleton.mp z]; exact w
  refine ⟨h1, fun b o h n => ?_, tabs_put h1 T1, upd_same, ?_, w'⟩
  · rw [upd_ne (nq b o h n)]
    exact e1 _ _ (s.ext b o h n) n
  · exact Rows.snoc (by rw [upd_ne (Rows.ne h1 r1 w hp)]; exact hp) (Rows.put h1 r1 s.wd r1)
/-- rows as data -/
inductive DqR (H : Hp) : List (List V) → List PyData → Prop
  | nil : DqR H [] []
  | cons {r : List V} {ds : List PyData} {rs : List (List V)} {es : List PyData} (h : DqA H r ds) (t : DqR H rs es) : DqR H (r :: rs) (.list ds :: es)
theorem Rows.dq {H : Hp} : ∀ {xs rs es}, Rows H xs rs → DqR H rs es → DqA H xs es
  | _, _, _, .nil, .nil => .nil
  | _, _, _, .cons h t, .cons a b => .cons (.lst h a) (t.dq b)
theorem DqR.ext {H H' : Hp} (s : LamX.ExtN H H') : ∀ {rs es}, DqR H rs es → DqR H' rs es
  | _, _, .nil => .nil
  | _, _, .cons h t => .cons (dqa_ext s h) (t.ext s)
end Sn

/-! lists of rows that a law gathers, over the part D of the heap in which the values live; their repr -/
namespace RpL
open PySem PySem.Spec PyProof.Rows L2 Gd RpA SkT
def NoTb (D : Hp) : Prop := ∀ b ps, D b ≠ some (.tbl ps)
theorem cut_tb {as : List Addr} {H : Hp} : NoTb (cut as H) := fun _ ps z => (cut_of z).2.2 ps rfl
/-- p was free -/
def Fr (H : Hp) (p : Addr) : Prop := ∀ b o, H b = some o → (∀ ps, o ≠ .tbl ps) → b ≠ p
theorem Fr.none {D H : Hp} {p : Addr} (f : Fr H p) (s : Same D H) (t : NoTb D) : D p = none := by
  cases e : D p with
  | none => rfl
  | some o => exact absurd rfl (f _ _ (s _ _ e) fun ps z => t p ps (by rw [e, z]))
theorem free_of {D H : Hp} {p : Addr} (s : Same D H) (n : H p = none) : D p = none := by
  cases e : D p with
  | none => rfl
  | some o => rw [s _ _ e] at n; cases n
theorem sub_ext {D H H' : Hp} (t : NoTb D) (s : Same D H) (e : LamX.ExtN H H') : Same D H' := fun b o h => e _ _ (s _ _ h) fun ps z => t b ps (by rw [h, z])
/-- what a refused call gives: its row at a new place -/
def Got (Tb : List (Addr × Str)) (H : Hp) (row : List V) (Q : VK) : Prop := ∀ (H1 : Hp) (p : Addr), LamX.ExtN H H1 → LamX.Tabs Tb H1 → H1 p = some (.lst row) → Fr H p → Q (.ref p) H1
theorem got_of {Tb : List (Addr × Str)} {H H1 H2 : Hp} {row : List V} {Q : VK} {p : Addr} (g : Got Tb H row Q) (e1 : LamX.ExtN H H1) (T1 : LamX.Tabs Tb H1) (s : Same H1 H2) (np : H2 p = none) : Q (.ref p) (upd H2 p (.lst row)) := by
  have s2 : Same H2 (upd H2 p (.lst row)) := fun b o q => by rw [upd_ne (ne_of_none q np)]; exact q
  have s3 : Same H1 (upd H2 p (.lst row)) := fun b o q => s2 _ _ (s _ _ q)
  exact g _ p (e1.trans (ext_same s3)) (T1.ext s3) upd_same fun b o h t => ne_of_none (s _ _ (e1 _ _ h t)) np
/-- rows away from D and from the place of their list -/
inductive RowsD (D : Hp) (sq : Addr) (H : Hp) : List V → List (List V) → Prop
  | nil : RowsD D sq H [] []
  | cons {q : Addr} {r : List V} {xs : List V} {rs : List (List V)} (h : H q = some (.lst r)) (n : D q = none) (m : q ≠ sq) (t : RowsD D sq H xs rs) : RowsD D sq H (.ref q :: xs) (r :: rs)
theorem RowsD.mono {D : Hp} {sq : Addr} {H H' : Hp} (f : ∀ b xs, b ≠ sq → H b = some (.lst xs) → H' b = some (.lst xs)) : ∀ {xs rs}, RowsD D sq H xs rs → RowsD D sq H' xs rs
  | _, _, .nil => .nil
  | _, _, .cons h n m t => .cons (f _ _ m h) n m (t.mono f)
theorem RowsD.snoc {D : Hp} {sq : Addr} {H : Hp} {q : Addr} {r : List V} (h : H q = some (.lst r)) (n : D q = none) (m : q ≠ sq) : ∀ {xs rs}, RowsD D sq H xs rs → RowsD D sq H (xs ++ [.ref q]) (rs ++ [r])
  | _, _, .nil => .cons h n m .nil
  | _, _, .cons a b c t => .cons a b c (t.snoc h n m)
theorem RowsD.len {D : Hp} {sq : Addr} {H : Hp} : ∀ {xs rs}, RowsD D sq H xs rs → xs.length = rs.length
  | _, _, .nil => rfl
  | _, _, .cons _ _ _ t => congrArg (· + 1) t.len
structure SeenD (T : List (Addr × Str)) (D H : Hp) (sq : Addr) (xs : List V) (rs : List (List V)) : Prop where
  sub : Same D H
  tab : LamX.Tabs T H
  at_ : H sq = some (.lst xs)
  nsq : D sq = none
  row : RowsD D sq H xs rs
section
variable {T : List (Addr × Str)} {D Ha Hb H H1 : Hp} {sq p : Addr} {r xs : List V} {rs : List (List V)}
theorem SeenD.first (tb : NoTb D) (sD : Same D Ha) (e : LamX.ExtN Ha Hb) (t : LamX.Tabs T Hb) (hp : Hb p = some (.lst r)) (fr : Fr Ha p) (n : Hb sq = none) : SeenD T D (upd Hb sq (.lst [.ref p])) sq [.ref p] [r] := by
  have s : Same Hb (upd Hb sq (.lst [.ref p])) := fun b o q => by rw [upd_ne (ne_of_none q n)]; exact q
  have sb := sub_ext tb sD e
  exact ⟨fun b o h => s _ _ (sb _ _ h), t.ext s, upd_same, free_of sb n, .cons (s _ _ hp) (fr.none sD tb) (ne_of_none hp n) .nil⟩
theorem SeenD.step (tb : NoTb D) (s : SeenD T D H sq xs rs) (e1 : LamX.ExtN H H1) (T1 : LamX.Tabs T H1) (hp : H1 p = some (.lst r)) (fr : Fr H p) :
    H1 sq = some (.lst xs) ∧ SeenD T D (upd H1 sq (.lst (xs ++ [.ref p]))) sq (xs ++ [.ref p]) (rs ++ [r]) := by
  have h1 : H1 sq = some (.lst xs) := e1 _ _ s.at_ (by intro ps z; cases z)
  have ne : p ≠ sq := (fr _ _ s.at_ (by intro ps z; cases z)).symm
  refine ⟨h1, fun b o h => ?_, Sn.tabs_put h1 T1, upd_same, s.nsq, ?_⟩
  · rw [upd_ne (ne_of_none h s.nsq)]
    exact sub_ext tb s.sub e1 _ _ h
  · refine RowsD.snoc (by rw [upd_ne ne]; exact hp) (fr.none s.sub tb) ne (s.row.mono fun b ys m h => ?_)
    rw [upd_ne m]
    exact e1 _ _ h (by intro ps z; cases z)
end
/-- texts of rows -/
inductive TxtsD (X : Cx) (n : Nat) (D : Hp) : List (List V) → List (List Str) → Prop
  | nil : TxtsD X n D [] []
  | cons {r : List V} {ts : List Str} {rs : List (List V)} {tss : List (List Str)} (ne : r ≠ []) (l : ts.length = r.length) (h : ∀ (i : Nat) (v : V), r[i]? = some v → ∃ t, ts[i]? = some t ∧ ItN X n D v t) (t : TxtsD X n D rs tss) : TxtsD X n D (r :: rs) (ts :: tss)
theorem rows_it {X : Cx} {n : Nat} {D Hs : Hp} {sq : Addr} (sD : Same D (Sn.Hj sq Hs)) : ∀ {xs : List V} {rs : List (List V)} {tss : List (List Str)}, RowsD D sq Hs xs rs → TxtsD X n D rs tss → (tss.map listText).length = xs.length ∧ ∀ (i : Nat) (v : V), xs[i]? = some v → ∃ t, (tss.map listText)[i]? = some t ∧ ItN X (n + 1) (Sn.Hj sq Hs) v t
  | _, _, _, .nil, .nil => ⟨rfl, fun i v h => by simp at h⟩
  | _, _, _, .cons h n m t, .cons ne l hh tt => by
    obtain ⟨a, b⟩ := rows_it sD t tt
    refine ⟨by rw [List.map_cons, List.length_cons, a, List.length_cons], fun i v hv => ?_⟩
    cases i with
    | zero =>
      cases hv
      exact ⟨_, rfl, itN_list n sD (Sn.hj_at m h) ne l hh⟩
    | succ i => exact b i v hv
/-- repr of a list of rows -/
theorem repr_rows {X : Cx} {n : Nat} {D Hs : Hp} {sq : Addr} {xs : List V} {rs : List (List V)} {tss : List (List Str)} {Q : VK} (sD : Same D Hs) (nq : D sq = none) (hq : Hs sq = some (.lst xs)) (row : RowsD D sq Hs xs rs) (tx : TxtsD X n D rs tss) (ne : xs ≠ []) (sz : (listText (tss.map listText)).length ≤ sizeLine)
    (q : ∀ H', Same Hs H' → Q (.str (listText (tss.map listText))) H') : rReprN X (n + 1) [.ref sq] Hs Q := by
  have s' : Same D (Sn.Hj sq Hs) := fun b o e => Sn.hj_at (ne_of_none e nq) (sD _ _ e)
  obtain ⟨a, b⟩ := rows_it s' row tx
  exact ⟨sq, Sn.Hj sq Hs, xs, _, rfl, by simp [Sn.Hj], Sn.hj_up, hq, ne, a, b, sz, q⟩
/-- a row of a name, a value and True -/
theorem row3 {X : Cx} {n : Nat} {D : Hp} {nm : Str} {v : V} {t : Str} (hn : (reprText nm).length ≤ sizeLine) (h : ItN X n D v t) : ∀ (i : Nat) (y : V), ([.str nm, v, .bl true] : List V)[i]? = some y → ∃ u, ([reprText nm, t, "True"] : List Str)[i]? = some u ∧ ItN X n D y u := by
  intro i y hy
  match i, hy with
  | 0, h => cases h; exact ⟨_, rfl, itN_of (it_str hn)⟩
  | 1, e => cases e; exact ⟨_, rfl, h⟩
  | 2, h => cases h; exact ⟨("True" : Str), rfl, itN_of (it_bl true)⟩
  | k + 3, h => cases h
theorem row_len {nm t : Str} {a : Nat} (hn : (reprText nm).length ≤ 40) (ht : t.length ≤ a) : (listText [reprText nm, t, "True"]).length ≤ a + 100 := by
  have b1 := list_le [reprText nm, t, "True"]
  have b5 : ("True" : Str).length ≤ 30 := by decide +kernel
  simp only [List.map_cons, List.map_nil, List.sum_cons, List.sum_nil] at b1
  omega
theorem len2 {a b : Str} {n : Nat} (h1 : a.length ≤ n) (h2 : b.length ≤ n) (hn : n ≤ 200) : (listText [a, b]).length ≤ sizeLine := by
  have b1 := list_le [a, b]
  simp only [List.map_cons, List.map_nil, List.sum_cons, List.sum_nil] at b1
  exact Cm.szl (by omega)
theorem len3 {a b c : Str} {n : Nat} (h1 : a.length ≤ n) (h2 : b.length ≤ n) (h3 : c.length ≤ n) (hn : n ≤ 200) : (listText [a, b, c]).length ≤ sizeLine := by
  have b1 := list_le [a, b, c]
  simp only [List.map_cons, List.map_nil, List.sum_cons, List.sum_nil] at b1
  exact Cm.szl (by omega)
end RpL

/-! f(k = v, ..): a def called by keywords alone -/
namespace FKw
open PySem L2
def tCallK0 (sp : Sp) (gV : List V → List V → List V) (E : XK) (tk : TA) : TE := fun σ H Q => tk σ H fun zs H2 => sp (gV [] zs) H2 Q E
theorem pe_callK0 {X : Cx} {CX : CXT} {k : Nat} {f : Addr} {fd : FuncData} {ps ks : List Str} {sp : Sp} {E : XK} {x : Str} {p pos : Pos} {kws : List Keyword} {tk : TA} {g : List Value → List Value → List Value} {gV : List V → List V → List V}
    (F : FnOk X.prog X.w X.K X.mg X.base CX k f fd ps sp) (hr : Room k X.A) (hg : Gl X x) (hm : X.mg x = some (.ref f)) (hk : PySem.W.keepIn X.K (.ref f) = true) (hb : KBinds X.K fd ps ks g gV) (hx : Passes CX X E) (hkw : PK X kws tk)
    (hall : (backToKw pos (keywordEach kws X.env)).all (·.1.isSome) = true := by rfl) (hks : (backToKw pos (keywordEach kws X.env)).filterMap (·.1) = ks := by rfl) (hdb : (x == ("__debug__" : Str)) = false := by decide)
    (hpl : ((backTo pos (starEach [] X.env)).any (·.1) || (backToKw pos (keywordEach kws X.env)).any (·.1.isNone)) = false := by rfl) :
    PE X (.Call (.Name x p) [] kws pos) (tCallK0 sp gV E tk) := by
  refine ⟨fun pins s σ H Q I h => ?_⟩
  refine wpAny_Call_Name_kw (ld_glob I hg hm ?_ hdb)
  refine PySem.W.callWith_KW0 (first := []) (h₀ := X.base) I.ok.mod.kin hk hall ?_ hpl
  refine thn (hkw.run pos pins s σ H _ I h) fun ws s2 ⟨zs, H2, I2, rz, q2⟩ => ⟨I2.kIn, ?_⟩
  rw [hks]
  exact run_fnk (us := []) (vs := []) F hr hb hx I2 .nil rz q2
end FKw

/-! o.m(k = v, ..): a method called by keywords alone -/
namespace MKw
open PySem L2
/-- o, then the keywords' values, then the promise -/
def tMethK (C : Addr) (m : Str) (sp : Sp) (gV : List V → List V → List V) (E : XK) (ta : TE) (tk : TA) : TE := fun σ H Q => ta σ H fun x H1 => ∃ a dx fs, x = .ref a ∧ H1 a = some (.ins C dx fs) ∧ fs.lookup m = none ∧ tk σ H1 fun zs H2 => sp (gV [.ref a] zs) H2 Q E
theorem pe_methK {X : Cx} {CX : CXT} {k : Nat} {f C : Addr} {fd : FuncData} {ps ks : List Str} {sp : Sp} {E : XK} {m : Str} {pos apos : Pos} {o : Expr} {kws : List Keyword} {ta : TE} {tk : TA} {g : List Value → List Value → List Value} {gV : List V → List V → List V} {pl : Sem Bool}
    (ho : PE X o ta) (c : Cls X.K C) (hm : Meth X.K C m f) (F : FnOk X.prog X.w X.K X.mg X.base CX k f fd ps sp) (hr : Room k X.A) (hb : KBinds X.K fd ps ks g gV) (hx : Passes CX X E) (hkw : PK X kws tk)
    (hall : (backToKw pos (keywordEach kws X.env)).all (·.1.isSome) = true := by rfl) (hks : (backToKw pos (keywordEach kws X.env)).filterMap (·.1) = ks := by rfl)
    (hpl : ((backTo pos (starEach [] X.env)).any (·.1) || (backToKw pos (keywordEach kws X.env)).any (·.1.isNone)) = false := by rfl)
    (hev : eval (.Call (.Attribute o m apos) [] kws pos) X.env = (do
      let recv ← eval o X.env
      standAt apos.atName
      let (fn, firstOnes) ← holding [recv] (getMethod recv m pl)
      callWith pos fn firstOnes (backTo pos (starEach [] X.env)) (backToKw pos (keywordEach kws X.env))) := by rfl) :
    PE X (.Call (.Attribute o m apos) [] kws pos) (tMethK C m sp gV E ta tk) := by
  refine ⟨fun pins s σ H Q I h => ?_⟩
  refine PySem.W.methodCall_KW (pl := pl) (thn (ho.run pins s σ H _ I h) fun u s1 ⟨x, H1, I1, rx, a, dx, fs, ex, ea, l, q⟩ => ?_) hev
  subst ex
  obtain rfl : u = Value.ref a := rx
  refine getmeth_ok I1 ea c hm l ?_
  refine PySem.W.callWith_KW0 (first := [.ref a]) (h₀ := X.base) I.ok.mod.kin hm.kp hall ?_ hpl
  refine thn (hkw.run pos pins s1 σ H1 _ I1 q) fun ws s2 ⟨zs, H2, I2, rz, q2⟩ => ⟨I2.kIn, ?_⟩
  rw [hks]
  exact run_fnk (us := [.ref a]) (vs := [.ref a]) F hr hb hx I2 (.cons rfl .nil) rz q2
end MKw

/-! odd values, what is due -/
namespace My
open PySem L2 Cm LM IsX CmH Gd RpA SkT CH
abbrev sOdd : Stmt := top 55
abbrev sDue : Stmt := top 54
def NoB (K : PySem.W.Frag) (C : Addr) : Prop := ∀ d : PyData, PySem.W.kitOne K (.type (tyN d)) (.ref C) = some false
theorem cj {j : Addr} {H : Hp} {b : Addr} {o : HO} (n : b ≠ j) (h : H b = some o) (t : ∀ ps, o ≠ .tbl ps) : RpL.cut [j] H b = some o := RpL.cut_at (by simpa using n) h t
theorem in_cut {j : Addr} {H : Hp} (J : Jar H j) : ∀ b u, (∀ xs, u ≠ .lst xs) → (∀ ps, u ≠ .tbl ps) → H b = some u → RpL.cut [j] H b = some u := fun b u nl nt e => by
  obtain ⟨x, y, z, q⟩ := J
  exact cj (ne_of e q (nl _)) e nt
theorem chain_part {C : Addr} {H D : Hp} {o : Addr} {t : Str} (f : ∀ b u, (∀ xs, u ≠ .lst xs) → (∀ ps, u ≠ .tbl ps) → H b = some u → D b = some u) (h : ChainAt C H o t) : ChainAt C D o t := by
  have ft : ∀ (p : Addr) (xs : List V), H p = some (.tup xs) → D p = some (.tup xs) := fun p xs e => f _ _ (by intro xs z; cases z) (by intro ps z; cases z) e
  obtain ⟨dx, p, vs, a, b, c⟩ := h
  exact ⟨dx, p, vs, f _ _ (by intro xs z; cases z) (by intro ps z; cases z) a, ft _ _ b, c.mono ft⟩
theorem loop_part {C : Addr} {H D : Hp} {o : Addr} {t : Str} (f : ∀ b u, (∀ xs, u ≠ .lst xs) → (∀ ps, u ≠ .tbl ps) → H b = some u → D b = some u) (h : LoopAt C H o t) : LoopAt C D o t := by
  have ft : ∀ (p : Addr) (xs : List V), H p = some (.tup xs) → D p = some (.tup xs) := fun p xs e => f _ _ (by intro xs z; cases z) (by intro ps z; cases z) e
  obtain ⟨dx, pr, pe, po, pq, a, b, c, d, e⟩ := h
  exact ⟨dx, pr, pe, po, pq, f _ _ (by intro xs z; cases z) (by intro ps z; cases z) a, ft _ _ b, ft _ _ c, d.mono ft, e.mono ft⟩
theorem neg_no {m i : Int} (h : i < 0) : btw 0 m (.int i) = false := decide_eq_false fun z => by omega
theorem typedI_dq {K : PySem.W.Frag} {H : Hp} {v : V} {d : PyData} (q : Dq H v d) : TypedI K H v := by
  cases q with
  | non => exact ⟨_, .base .non, kit_ty (show kitB "NoneType" "int" = some false by decide +kernel), kit_ty (show kitB "NoneType" "bool" = some false by decide +kernel)⟩
  | bl b => exact typed_bl b
  | int i => exact typed_int i
  | str x => exact ⟨_, .base (.str x), kit_ty (show kitB "str" "int" = some false by decide +kernel), kit_ty (show kitB "str" "bool" = some false by decide +kernel)⟩
  | lst h _ => exact ⟨_, .base (.lst h), kit_ty (show kitB "list" "int" = some false by decide +kernel), kit_ty (show kitB "list" "bool" = some false by decide +kernel)⟩
  | tup h _ => exact ⟨_, .base (.tup h), kit_ty (show kitB "tuple" "int" = some false by decide +kernel), kit_ty (show kitB "tuple" "bool" = some false by decide +kernel)⟩
  | dct h => exact ⟨_, .base (.dK h), kit_ty (show kitB "dict" "int" = some false by decide +kernel), kit_ty (show kitB "dict" "bool" = some false by decide +kernel)⟩
theorem loop_ty {K : PySem.W.Frag} {mg : Str → Option Value} (T : TxC K mg) (c : TyC K T.C) {H : Hp} {o : Addr} {t : Str} (h : LoopAt T.C H o t) : TyX K H (.ref o) (.ref T.C) := by
  obtain ⟨dx, pr, pe, po, pq, e, _⟩ := h
  exact .base (.ins e T.cl c.c1 c.c2 c.c3 c.c4)
structure TxOd (w : World) (K : PySem.W.Frag) (mg : Str → Option Value) where
  P : TxP w K mg
  F : TxF w K mg
  G : TxGr K mg
  C : TxCm w K mg F.S.eC.C P.eI.C P.eP.C
  eF : F.S.R.A.C = P.R.A.C
  eA : C.A.T.C = P.R.A.C
  noC : NoB K P.R.A.C
  ly : TyC K C.U.T.C
  lc : PySem.W.kitOne K (.ref C.U.T.C) (.ref P.R.A.C) = some false
  ci : PySem.W.kitOne K (.ref C.A.T.C) (.type "int") = some false
  cb : PySem.W.kitOne K (.ref C.A.T.C) (.type "bool") = some false
  odd : Df K mg "_law_odd" sOdd ["_law_jar_here"]
  due : Df K mg "_law_due" sDue ["_law_spot", "_law_thing"]
section
variable {w : World} {K : PySem.W.Frag} {mg : Str → Option Value}
/-- a value that can be shown -/
abbrev Sv (T : TxOd w K mg) (D : Hp) (v : V) (t : Str) : Prop := ShV T.C.A.T.C T.C.U.T.C D v t
/-- no number within these bounds, and its text -/
structure BaI (T : TxOd w K mg) (m : Int) (D : Hp) (v : V) (t : Str) : Prop where
  sh : Sv T D v t
  ty : TypedI K D v
  no : btw 0 m v = false
theorem BaI.same {T : TxOd w K mg} {m : Int} {D D' : Hp} {v : V} {t : Str} (s : Same D D') (h : BaI T m D v t) : BaI T m D' v t := ⟨h.sh.same s, h.ty.same s, h.no⟩
/-- no chain, and its text -/
def NoC (T : TxOd w K mg) (D : Hp) (v : V) (t : Str) : Prop := Sv T D v t ∧ ∃ ty, TyX K D v ty ∧ PySem.W.kitOne K ty (.ref T.P.R.A.C) = some false
theorem NoC.same {T : TxOd w K mg} {D D' : Hp} {v : V} {t : Str} (s : Same D D') (h : NoC T D v t) : NoC T D' v t := ⟨h.1.same s, let ⟨ty, a, b⟩ := h.2; ⟨ty, TyX_same s a, b⟩⟩
end
section
variable {P : Program} {w : World} {K : PySem.W.Frag} {mg : Str → Option Value} {base : Heap}
/-! ### _law_odd -/
def spOdd (T : TxOd w K mg) : Sp := fun vs H Q _ => ∃ j : Addr, vs = [.ref j] ∧ Jar H j ∧ ∀ (H' : Hp) (v : V) (t : Str), Off j H H' → Jar H' j → (∀ m, BaI T m (RpL.cut [j] H') v t) → Q v H'
theorem scOdd : FnScope ["_law_jar_here"] ["_law_jar_here"] (defScope sOdd) := ⟨rfl, rfl, rfl, by decide +kernel, rfl, by decide +kernel, by decide +kernel⟩
theorem ok_odd (T : TxOd w K mg) : FnOk P w K mg base CX0 5 T.odd.f T.odd.fd ["_law_jar_here"] (spOdd T) := by
  have GF : FnOk P w K mg base CX0 2 T.G.D.frm.f T.G.D.frm.fd ["_law_jar_here", "_law_things"] (spFrom K) := ga_from T.G.D
  have GM : FnOk P w K mg base (L2.CX P w) 3 T.C.A.T.fI T.C.A.T.fdI ["self", "text"] (spAI K T.C.A.T.C T.C.A.T.E.C) := ok_ai T.C.A.T
  refine T.odd.F.ok scOdd (fun vs H Q E h => ?_) (fun cdv A outer s H vs Q E hr h => ?_)
  · obtain ⟨j, rfl, _⟩ := h
    rfl
  · obtain ⟨j, rfl, hJ, k⟩ := h
    have hr2 : Room 2 _ := hr.mono (by decide)
    refine ⟨_, (pss_one (ps_ret (pe_call GF hr2 rfl T.G.D.frm.g T.G.D.frm.k T.G.D.frm.b .nil pass0 (pa_cons (pv 0) (pa_cons (pe_lst (pa_cons pe_non (pa_cons pe_bl (pa_cons pe_bl (pa_cons pe_str (pa_cons (pe_tup (pa_cons pe_int pa_nil)) (pa_cons (pe_lst pa_nil) (pa_cons pe_dnewK (pa_cons (pe_un un_neg pe_int) (pa_cons (pe_un un_neg (pe_op op_pow pe_int pe_int)) (pa_cons (pe_make T.C.A.T.MI GM hr rfl T.C.A.T.gC T.C.A.T.bI .nil pass_none (pa_cons pe_str pa_nil)) (pa_cons pe_str pa_nil)))))))))))) pa_nil))))), ?_⟩
    refine ⟨_, rfl, (by show 1 ≤ sizeLine; decide), fun t1 n1 => ⟨Nat.zero_le _, fun l1 nl1 dd ndd => ?_⟩⟩
    have u1 := same_new (o := .tup [.int 5]) n1
    have u2 := same_new (o := .lst []) nl1
    have u3 := same_new (o := .dK []) ndd
    have u13 := Same.trans u1 (Same.trans u2 u3)
    have tj := jar_ne hJ n1
    have lj := jar_ne (hJ.same u1) nl1
    have dj := jar_ne (hJ.same (Same.trans u1 u2)) ndd
    have g1 := u3 _ _ (u2 _ _ (upd_same (H := H) (a := t1) (o := .tup [.int 5])))
    have g2 := u3 _ _ (upd_same (H := upd H t1 (.tup [.int 5])) (a := l1) (o := .lst []))
    have g3 := upd_same (H := upd (upd H t1 (.tup [.int 5])) l1 (.lst [])) (a := dd) (o := .dK [])
    generalize upd (upd (upd H t1 (.tup [.int 5])) l1 (.lst [])) dd (.dK []) = H3 at u13 g1 g2 g3 ⊢
    refine ⟨_, rfl, _, _, rfl, rfl, ⟨by decide, by decide, by decide⟩, _, rfl, ?_⟩
    intro x dx nx ndx nex
    refine ⟨x, dx, .str txC, rfl, upd_same, typed_str _, (show txC.length ≤ 100000 by decide +kernel), fun t' et _ H4 o4 h4 => ⟨rfl, ?_⟩, fun z => absurd ((show goodCV (.str txC) = true from (by decide +kernel : CH.goodC txC = true)).symm.trans z) (by decide)⟩
    cases et
    have s4 := made_same nx ndx o4
    refine ⟨(by show 11 ≤ sizeLine; decide), fun L nL => ?_⟩
    have v4 := same_new (o := .lst ([V.non, .bl true, .bl false, .str "5", .ref t1, .ref l1, .ref dd, .int (-1), .int (-(10 ^ Int.toNat 18)), .ref x, .str ""] : List V)) nL
    have v14 := Same.trans u13 (Same.trans s4 v4)
    refine ⟨j, L, ([V.non, .bl true, .bl false, .str "5", .ref t1, .ref l1, .ref dd, .int (-1), .int (-(10 ^ Int.toNat 18)), .ref x, .str ""] : List V), rfl, hJ.same v14, jar_ne (hJ.same (Same.trans u13 s4)) nL, SqL.of upd_same, (by show 0 < 11; decide), (by show 11 < 1073741824; decide), fun H6 i6 y hy o6 J6 => ?_⟩
    have q1 := cj tj (o6 _ _ tj (v4 _ _ (s4 _ _ g1))) (by intro ps z; cases z)
    have q2 := cj lj (o6 _ _ lj (v4 _ _ (s4 _ _ g2))) (by intro ps z; cases z)
    have q3 := cj dj (o6 _ _ dj (v4 _ _ (s4 _ _ g3))) (by intro ps z; cases z)
    have hx6 : ChainAt T.C.A.T.C (RpL.cut [j] H6) x txC := chain_part (in_cut J6) ((h4.same v4).off o6 (hJ.same v14))
    have o := (Same.off (j := j) v14).trans o6
    have kk : ∀ {v : V} {d : PyData}, Dq (RpL.cut [j] H6) v d → d.showable = true → d.depth ≤ 64 → d.shown.length ≤ 1000 → PyData.strOk d.shown = true → (∀ m, btw 0 m v = false) → Q v H6 := fun {v d} a b c e f g => k H6 v _ o J6 fun m => ⟨.dat a ⟨b, c, e, f⟩, typedI_dq a, g m⟩
    match i6, hy with
    | 0, h => cases h; exact kk .non (by decide +kernel) (by decide +kernel) (by decide +kernel) (by decide +kernel) (fun _ => rfl)
    | 1, h => cases h; exact kk (.bl _) (by decide +kernel) (by decide +kernel) (by decide +kernel) (by decide +kernel) (fun _ => rfl)
    | 2, h => cases h; exact kk (.bl _) (by decide +kernel) (by decide +kernel) (by decide +kernel) (by decide +kernel) (fun _ => rfl)
    | 3, h => cases h; exact kk (.str _) (by decide +kernel) (by decide +kernel) (by decide +kernel) (by decide +kernel) (fun _ => rfl)
    | 4, h => cases h; exact kk (.tup q1 (.cons (.int _) .nil)) (by decide +kernel) (by decide +kernel) (by decide +kernel) (by decide +kernel) (fun _ => rfl)
    | 5, h => cases h; exact kk (.lst q2 .nil) (by decide +kernel) (by decide +kernel) (by decide +kernel) (by decide +kernel) (fun _ => rfl)
    | 6, h => cases h; exact kk (.dct q3) (by decide +kernel) (by decide +kernel) (by decide +kernel) (by decide +kernel) (fun _ => rfl)
    | 7, h => cases h; exact kk (.int _) (by decide +kernel) (by decide +kernel) (by decide +kernel) (by decide +kernel) (fun m => neg_no (by decide))
    | 8, h => cases h; exact kk (.int _) (by decide +kernel) (by decide +kernel) (by decide +kernel) (by decide +kernel) (fun m => neg_no (by decide))
    | 9, h => cases h; exact k H6 _ _ o J6 fun m => ⟨.chn rfl hx6, ⟨_, hx6.ty T.C.A.T T.C.A.ty, T.ci, T.cb⟩, rfl⟩
    | 10, h => cases h; exact kk (.str _) (by decide +kernel) (by decide +kernel) (by decide +kernel) (by decide +kernel) (fun _ => rfl)
    | n + 11, h => cases h
/-! ### _law_due -/
def spDue (T : TxOd w K mg) : Sp := fun vs H Q _ => ∃ (n : Nat) (v : V) (t : Str), vs = [.int n, v] ∧ Sv T H v t ∧ ∀ (H' : Hp) (p : Addr), Same H H' → H p = none → H' p = some (.lst (rowV (decide (n = 0)) (decide (n = 1)) (decide (n = 2)) t)) → Q (.ref p) H'
theorem scDue : FnScope ["_law_spot", "_law_thing"] ["_law_spot", "_law_thing"] (defScope sDue) := ⟨rfl, rfl, rfl, by decide +kernel, rfl, by decide +kernel, by decide +kernel⟩
theorem spot_eq (n k : Nat) : decide (V.int (n : Int) = V.int (k : Int)) = decide (n = k) := decide_eq_decide.mpr ⟨fun h => by injection h with h; omega, fun h => by rw [h]⟩
theorem ok_due (T : TxOd w K mg) (sm : ∃ ob, base.get? sysModules = some ob) : Gd.FnG P w K mg base CX0 3 T.due.f T.due.fd ["_law_spot", "_law_thing"] (spDue T) := by
  obtain ⟨ob, sm⟩ := sm
  refine Gd.okG T.due.F scDue (fun vs H Q E h => ?_) (fun cdv A outer s H vs Q E _ _ _ hgd hr h => ?_)
  · obtain ⟨b, v, t, rfl, _⟩ := h
    rfl
  · obtain ⟨n, v, t, rfl, hv, k⟩ := h
    refine ⟨_, (pss_one (ps_ret (pe_lst (pa_cons (pe_cmpR op_eq (pv 0) pe_int (nomark _)) (pa_cons (pe_cmpR op_eq (pv 0) pe_int (nomark _)) (pa_cons (pe_cmpR op_eq (pv 0) pe_int (nomark _)) (pa_cons pe_bl (pa_cons pe_bl (pa_cons pe_bl (pa_cons (pe_callB (call_rep (X := (cxOf CX0 P w K mg base ["_law_spot", "_law_thing"] "_law_due" (defScope sDue) T.due.f cdv A outer s H E).nox) T.C.A T.C.U hgd hr sm) (by rfl) T.C.repr (by decide +kernel) (pa_cons (pv 1) pa_nil)) pa_nil)))))))))), ?_⟩
    have e0 := spot_eq n 0
    have e1 := spot_eq n 1
    have e2 := spot_eq n 2
    refine ⟨_, rfl, rfl, _, rfl, rfl, _, rfl, rfl, _, rfl, rep_of hv ⟨(by show 7 ≤ sizeLine; decide), fun p np => ?_⟩⟩
    rw [← e0, ← e1, ← e2] at k
    exact k _ p (same_new np) np upd_same
end
end My

/-! how great counts are shown -/
namespace SH
open PySem L2
theorem log_nat {n : Nat} (h : n < 10 ^ 20) : (n : Nat).log2 < 1920 := by
  by_cases h0 : n = 0
  · rw [h0]; decide
  · exact Nat.lt_of_lt_of_le ((Nat.log2_lt h0).mpr (Nat.lt_of_lt_of_le h (show 10 ^ 20 ≤ 2 ^ 70 by decide))) (by decide)
theorem num_le {n : Nat} (h : n < 10 ^ 20) : (PyData.shown (.int (n : Int))).length ≤ 20 := by
  show (Str.ofString (toString ((n : Nat) : Int))).length ≤ 20
  rw [TL.len_tl, TL.tl_num]
  exact TL.numL_len (by decide) h
def pairD (a b : Nat) : PyData := .tuple [.int a, .int b]
theorem join_le : ∀ ts : List Str, (Str.join ", " ts).length ≤ (ts.map fun t => t.length + 2).sum
  | [] => Nat.le_refl _
  | [x] => by
    show x.length ≤ _
    simp
  | x :: y :: r => by
    show (x ++ ", " ++ Str.join ", " (y :: r)).length ≤ _
    rw [strLen_append, strLen_append, show (", " : Str).length = 2 by decide +kernel]
    have := join_le (y :: r)
    rw [List.map_cons, List.sum_cons]
    omega
theorem tup_le (ts : List Str) : (tupleText ts).length ≤ (ts.map fun t => t.length + 2).sum + 3 := by
  unfold tupleText
  rw [strLen_append, strLen_append, show ("(" : Str).length = 1 by decide +kernel]
  have := join_le ts
  have : (Str.ofString (if ts.length == 1 then ",)" else ")" : String)).length ≤ 2 := by
    split
    · decide +kernel
    · decide +kernel
  omega
theorem pair_ok {a b : Nat} (ha : a < 10 ^ 20) (hb : b < 10 ^ 20) : (pairD a b).showable = true ∧ (pairD a b).depth ≤ 64 ∧ (pairD a b).shown.length ≤ sizeLine := by
  refine ⟨?_, ?_, ?_⟩
  · simp only [pairD, PyData.showable, PyData.showableAll, Bool.and_true, Bool.and_eq_true, decide_eq_true_eq]
    exact ⟨by rw [Int.natAbs_natCast]; exact log_nat ha, by rw [Int.natAbs_natCast]; exact log_nat hb⟩
  · simp [pairD, PyData.depth, PyData.depthAll]
  · unfold pairD
    rw [PyData.shown]
    have := tup_le (PyData.shownAll [.int (a : Int), .int (b : Int)])
    have h1 := num_le ha
    have h2 := num_le hb
    simp only [PyData.shownAll, List.map_cons, List.map_nil, List.sum_cons, List.sum_nil] at this
    refine Nat.le_trans this (Nat.le_trans (show _ ≤ 100 by omega) (by decide))
end SH
namespace SH
open PySem L2
def tripD (a b c : Nat) : PyData := .list [.int a, .int b, .int c]
theorem from_le : ∀ (ts : List Str) (k : Nat) (acc : Str), (textFrom k acc ts).length ≤ acc.length + (ts.map fun t => t.length + 2).sum
  | [], _, _ => by simp [textFrom]
  | t :: r, k, acc => by
    rw [textFrom]
    have ih := from_le r (k + 1) (acc ++ (if k > 0 then ", " else "" : String) ++ t)
    rw [strLen_append, strLen_append] at ih
    have : (Str.ofString (if k > 0 then ", " else "" : String)).length ≤ 2 := by
      split
      · decide +kernel
      · decide +kernel
    rw [List.map_cons, List.sum_cons]
    omega
theorem list_le (ts : List Str) : (listText ts).length ≤ (ts.map fun t => t.length + 2).sum + 2 := by
  unfold listText
  rw [strLen_append, show ("]" : Str).length = 1 by decide +kernel]
  have := from_le ts 0 "["
  rw [show ("[" : Str).length = 1 by decide +kernel] at this
  omega
theorem trip_ok {a b c : Nat} (ha : a < 10 ^ 20) (hb : b < 10 ^ 20) (hc : c < 10 ^ 20) : (tripD a b c).showable = true ∧ (tripD a b c).depth ≤ 64 ∧ (tripD a b c).shown.length ≤ sizeLine := by
  refine ⟨?_, ?_, ?_⟩
  · simp only [tripD, PyData.showable, PyData.showableAll, Bool.and_true, Bool.and_eq_true, decide_eq_true_eq]
    exact ⟨by rw [Int.natAbs_natCast]; exact log_nat ha, by rw [Int.natAbs_natCast]; exact log_nat hb, by rw [Int.natAbs_natCast]; exact log_nat hc⟩
  · simp [tripD, PyData.depth, PyData.depthAll]
  · unfold tripD
    rw [PyData.shown]
    have := list_le (PyData.shownAll [.int (a : Int), .int (b : Int), .int (c : Int)])
    have h1 := num_le ha
    have h2 := num_le hb
    have h3 := num_le hc
    simp only [PyData.shownAll, List.map_cons, List.map_nil, List.sum_cons, List.sum_nil] at this
    refine Nat.le_trans this (Nat.le_trans (show _ ≤ 200 by omega) (by decide))
end SH

/-! what comes of the refused calls, row by row -/
namespace My
open PySem L2 Cm LM IsX CmH Gd RpA SkT CH
abbrev sItR : Stmt := top 56
abbrev sPlR : Stmt := top 57
abbrev sPaR : Stmt := top 58
def qL1 : Str := ("_law_items_right" : Str) ++ ".<locals>." ++ "<lambda>"
def qL2 : Str := ("_law_places_right" : Str) ++ ".<locals>." ++ "<lambda>"
def qL3 : Str := ("_law_pairs_right" : Str) ++ ".<locals>." ++ "<lambda>"
abbrev Tb3 (P1 P2 P3 : Addr) : List (Addr × Str) := [(P1, qL1), (P2, qL2), (P3, qL3)]
/-! ### keywords -/
def gK1 (us ws : List Value) : List Value := match us, ws with | [s], [t] => [s, t] | _, _ => []
def gK1V (us ws : List V) : List V := match us, ws with | [s], [t] => [s, t] | _, _ => []
theorem gK1_rel {vs zs : List V} {us ws : List Value} (h1 : Vals vs us) (h2 : Vals zs ws) : Vals (gK1V vs zs) (gK1 us ws) := by
  cases h1 with
  | nil => exact .nil
  | cons a t1 =>
    cases t1 with
    | cons _ _ => exact .nil
    | nil =>
      cases h2 with
      | nil => exact .nil
      | cons b t2 =>
        cases t2 with
        | nil => exact .cons a (.cons b .nil)
        | cons _ _ => exact .nil
def gK2 (us ws : List Value) : List Value := match us, ws with | [s], [p, i] => [s, i, p] | _, _ => []
def gK2V (us ws : List V) : List V := match us, ws with | [s], [p, i] => [s, i, p] | _, _ => []
theorem gK2_rel {vs zs : List V} {us ws : List Value} (h1 : Vals vs us) (h2 : Vals zs ws) : Vals (gK2V vs zs) (gK2 us ws) := by
  cases h1 with
  | nil => exact .nil
  | cons a t1 =>
    cases t1 with
    | cons _ _ => exact .nil
    | nil =>
      cases h2 with
      | nil => exact .nil
      | cons b t2 =>
        cases t2 with
        | nil => exact .nil
        | cons c t3 =>
          cases t3 with
          | cons _ _ => exact .nil
          | nil => exact .cons a (.cons c (.cons b .nil))
def gK0 (us ws : List Value) : List Value := match us, ws with | [], [i, c] => [c, i] | _, _ => []
def gK0V (us ws : List V) : List V := match us, ws with | [], [i, c] => [c, i] | _, _ => []
theorem gK0_rel {vs zs : List V} {us ws : List Value} (h1 : Vals vs us) (h2 : Vals zs ws) : Vals (gK0V vs zs) (gK0 us ws) := by
  cases h1 with
  | cons _ _ => exact .nil
  | nil => cases h2 with
    | nil => exact .nil
    | cons a t => cases t with
      | nil => exact .nil
      | cons b t => cases t with
        | nil => exact .cons b (.cons a .nil)
        | cons _ _ => exact .nil
structure TxLR (w : World) (K : PySem.W.Frag) (mg : Str → Option Value) where
  T : TxOd w K mg
  KN : KBinds K T.P.an.fd ["self", "items"] ["items"] gK1 gK1V
  KP : KBinds K T.P.ap.fd ["self", "items", "place"] ["place", "items"] gK2 gK2V
  KO : KBinds K T.P.ao.fd ["self", "items", "item"] ["item", "items"] gK2 gK2V
  KF : KBinds K T.F.fd.fd ["chain", "other_chain"] ["other_chain", "chain"] gK0 gK0V
  ir : Df K mg "_law_items_right" sItR ["_law_jar_here", "_law_mine"]
  pr : Df K mg "_law_places_right" sPlR ["_law_jar_here", "_law_mine", "_law_many"]
  qr : Df K mg "_law_pairs_right" sPaR ["_law_jar_here", "_law_mine"]
/-! ### rows that are one -/
theorem ShV.ok {CA CU : Addr} {H : Hp} {v : V} {t : Str} (h : ShV CA CU H v t) : PyData.strOk t = true := by
  cases h with
  | dat _ s => exact s.ok
  | chn _ _ => decide +kernel
  | src _ _ => decide +kernel
def rowD (b0 b1 b2 : Bool) (t : Str) : List PyData := [.bool b0, .bool b1, .bool b2, .bool true, .bool false, .bool false, .str t]
theorem row_dp {K : PySem.W.Frag} {H : Hp} (b0 b1 b2 : Bool) (t : Str) : DpAll K H (rowV b0 b1 b2 t) (rowD b0 b1 b2 t) := .cons (.bl _) (.cons (.bl _) (.cons (.bl _) (.cons (.bl _) (.cons (.bl _) (.cons (.bl _) (.cons (.str _) .nil))))))
theorem rowD_lay {b0 b1 b2 : Bool} {t : Str} (h : PyData.strOk t = true) : PyData.canLayAll0 (rowD b0 b1 b2 t) = true ∧ PyData.depthAll (rowD b0 b1 b2 t) ≤ 1 := ⟨by simp [rowD, PyData.canLayAll0, PyData.canLay0, h], by simp [rowD, PyData.depthAll, PyData.depth]⟩
theorem rows_dp {K : PySem.W.Frag} {D H : Hp} {sq : Addr} {row : List V} {rd : List PyData} (hd : ∀ H, DpAll K H row rd) : ∀ (n : Nat) {xs : List V}, RpL.RowsD D sq H xs (List.replicate n row) → DpAll K H xs (List.replicate n (.list rd))
  | 0, _, .nil => .nil
  | n + 1, _, .cons h _ _ r => .cons (.lst (SqL.of h) (hd _)) (rows_dp hd n r)
theorem rep_dp {K : PySem.W.Frag} {H : Hp} {r : Addr} {row : List V} {rd : List PyData} (hd : ∀ H, DpAll K H row rd) (h : H r = some (.lst row)) : ∀ n : Nat, DpAll K H (List.replicate n (.ref r)) (List.replicate n (.list rd))
  | 0 => .nil
  | n + 1 => .cons (.lst (SqL.of h) (hd _)) (rep_dp hd h n)
theorem one_shaped {rd : List PyData} (h1 : PyData.canLayAll0 rd = true) (h2 : PyData.depthAll rd ≤ 1) : SeqAt.shaped (.list rd) = true := by
  unfold SeqAt.shaped
  rw [PyData.canLay0, h1, Bool.true_and]
  exact decide_eq_true (by rw [PyData.depth]; omega)
theorem rows_shaped {n : Nat} {rd : List PyData} (h1 : PyData.canLayAll0 rd = true) (h2 : PyData.depthAll rd ≤ 1) : SeqAt.shaped (.list (List.replicate n (.list rd))) = true := by
  have lay : ∀ n : Nat, PyData.canLayAll0 (List.replicate n (.list rd)) = true := fun n => by
    induction n with
    | zero => simp [PyData.canLayAll0]
    | succ n ih => rw [List.replicate_succ, PyData.canLayAll0, ih, PyData.canLay0, h1]; rfl
  have dep : ∀ n : Nat, PyData.depthAll (List.replicate n (.list rd)) ≤ 2 := fun n => by
    induction n with
    | zero => simp [PyData.depthAll]
    | succ n ih => rw [List.replicate_succ, PyData.depthAll]; exact Nat.max_le.mpr ⟨by rw [PyData.depth]; omega, ih⟩
  have := dep n
  unfold SeqAt.shaped
  rw [PyData.canLay0, lay, Bool.true_and]
  exact decide_eq_true (by rw [PyData.depth]; omega)
theorem flat_one (n : Nat) (v : V) : (List.replicate n [v]).flatten = List.replicate n v := by
  induction n with
  | zero => rfl
  | succ n ih => rw [List.replicate_succ, List.flatten_cons, ih, List.replicate_succ]; rfl
/-- the rows seen are those that are due -/
theorem seen_due {K : PySem.W.Frag} {Tb : List (Addr × Str)} {D H : Hp} {sq r z : Addr} {xs : List V} {n : Nat} {row : List V} {rd : List PyData} (hd : ∀ H, DpAll K H row rd) (h1 : PyData.canLayAll0 rd = true) (h2 : PyData.depthAll rd ≤ 1) (st : RpL.SeenD Tb D H sq xs (List.replicate n row))
    {H' : Hp} (s : Same H H') (hr : H' r = some (.lst row)) (hz : H' z = some (.lst (List.replicate n (.ref r)))) : ∃ d e, Dp K H' (.ref sq) d ∧ Dp K H' (.ref z) e ∧ SeqAt.shaped d = true ∧ SeqAt.shaped e = true ∧ PyData.eqv d e = true := by
  have sh := rows_shaped (n := n) h1 h2
  exact ⟨_, _, .lst (SqL.of (s _ _ st.at_)) (rows_dp hd n (st.row.mono fun b ys _ e => s _ _ e)), .lst (SqL.of hz) (rep_dp hd hr n), sh, sh, SeqAt.eqv_refl _ (Bool.and_eq_true_iff.mp sh).1⟩
section
variable {P : Program} {w : World} {K : PySem.W.Frag} {mg : Str → Option Value} {base : Heap}
def ErS (C : Addr) (v : V) (H : Hp) (E : XK) : Prop := ∀ H2 d, Same H H2 → H2 d = none → E (.ref C) (some d) (upd H2 d (.xd [("value", v)]))
theorem ErS.here {C : Addr} {v : V} {H : Hp} {E : XK} (h : ErS C v H E) : ∀ d, H d = none → E (.ref C) (some d) (upd H d (.xd [("value", v)])) := fun d n => h H d (Same.refl _) n
/-- a refused call in a lambda -/
theorem lam_bad {Tb : List (Addr × Str)} (T : TxOd w K mg) {c : Addr} {b0 b1 b2 : Bool} {v : V} {txt : Str} {t : XK → TE} {σ : L2.St} {D H : Hp} {Q : VK} (tb : RpL.NoTb D) (sD : Same D H) (hT : LamX.Tabs Tb H)
    (F : CFa K T.F.S.eC.C T.P.eI.C T.P.eP.C T.C.iE T.C.sE T.C.zE c b0 b1 b2) (hv : Sv T D v txt) (call : ∀ (H1 : Hp) (E : XK) (Q' : VK), Same D H1 → ErS c v H1 E → t E σ H1 Q')
    (g : RpL.Got Tb H (rowV b0 b1 b2 txt) Q) : LamX.tLam Tb (TCame T.C) t σ H Q := by
  refine ⟨hT, fun H1 e1 T1 => ?_⟩
  have s1 := RpL.sub_ext tb sD e1
  refine call H1 _ _ s1 fun H2 d s2 nd => ⟨c, b0, b1, b2, rfl, F, d, v, txt, rfl, upd_same, ((hv.same s1).same s2).same (same_new nd), fun H' p s np hp => ?_⟩
  have s3 : Same H1 H' := Same.trans s2 (Same.trans (same_new nd) s)
  exact g H' p (e1.trans (ext_same s3)) (T1.ext s3) hp fun b o h t => ne_of_none (same_new nd _ _ (s2 _ _ (e1 _ _ h t))) np
/-- a call in a lambda that gives a truth -/
theorem lam_giv {Tb : List (Addr × Str)} (T : TxOd w K mg) {b : Bool} {t : XK → TE} {σ : L2.St} {D H : Hp} {Q : VK} (tb : RpL.NoTb D) (sD : Same D H) (hT : LamX.Tabs Tb H)
    (call : ∀ (H1 : Hp) (E : XK) (Q' : VK), Same D H1 → (∀ H2, Same H1 H2 → Q' (.bl b) H2) → t E σ H1 Q')
    (g : RpL.Got Tb H [.str "given", .str (PyData.bool b).shown] Q) : LamX.tLam Tb (TCame T.C) t σ H Q := by
  refine ⟨hT, fun H1 e1 T1 => ?_⟩
  have s1 := RpL.sub_ext tb sD e1
  exact call H1 _ _ s1 fun H2 s2 => ⟨.bl b, b, rfl, rfl, fun p np => RpL.got_of g e1 T1 s2 np⟩
theorem no_int {m : Int} {v : V} {n : Nat} (h : btw 0 m v = false) (e : v = .int n) (hn : (n : Int) ≤ m) : False := by
  subst e
  exact absurd (⟨by omega, hn⟩ : (0 : Int) ≤ n ∧ (n : Int) ≤ m) (of_decide_eq_false h)
theorem cj_off {j : Addr} {H H' : Hp} (o : Off j H H') : Same (RpL.cut [j] H) (RpL.cut [j] H') := RpL.cut_same fun b u n _ e => o b u (by simpa using n) e
theorem cj_all {j : Addr} {H : Hp} : Same (RpL.cut [j] H) (RpL.cut [] H) := fun b o e => RpL.cut_at (by simp) (RpL.cut_up _ _ e) (RpL.cut_of e).2.2
theorem ex_of {Ha Hb : Hp} (s : Same (RpL.cut [] Ha) Hb) : LamX.ExtN Ha Hb := fun b o e t => s _ _ (RpL.cut_at (by simp) e t)
theorem big_no {m i : Int} (h : m < i) : btw 0 m (.int i) = false := decide_eq_false fun z => by omega
theorem sw_num {i : Int} (h0 : 0 ≤ i) (h : i < 10 ^ 20) : Sw 1000 64 (.int i) := by
  obtain ⟨n, rfl⟩ := Int.eq_ofNat_of_zero_le h0
  have h : n < 10 ^ 20 := by omega
  exact (SkT.sw_int (by rw [Int.natAbs_natCast]; exact h) (SH.num_le h)).mono (by decide) (by decide)
/-- a great number is none within the bounds -/
theorem bad_big (T : TxOd w K mg) {m : Int} {D : Hp} {i : Int} (h : m < i) (h0 : 0 ≤ i) (h1 : i < 10 ^ 20) : BaI T m D (.int i) (PyData.shown (.int i)) := ⟨.dat (.int i) (sw_num h0 h1), typed_int i, big_no h⟩
/-! ### the calls, refused -/
theorem an_bad (T : TxOd w K mg) {D H1 : Hp} {o : Addr} {t tx : Str} {v : V} {E : XK} {Q : VK} (hM : ChainAt T.P.R.A.C D o t) (g : goodC t = true) (hb : BaI T mostI D v tx) (s : Same D H1) (er : ErS T.P.eI.C v H1 E) : spAN K T.P.R.A.C T.P.eI.C [.ref o, v] H1 Q E :=
  ⟨o, t, v, rfl, hM.same s, g, hb.ty.same s, fun n en hn => (no_int hb.no en (by show (n : Int) ≤ 999999999999999999; omega)).elim, fun _ => er.here⟩
theorem ap_bad (T : TxOd w K mg) {D H1 : Hp} {o : Addr} {t tx : Str} {v p : V} {E : XK} {Q : VK} (hM : ChainAt T.P.R.A.C D o t) (g : goodC t = true) (hb : BaI T mostI D v tx) (tp : TypedI K H1 p) (s : Same D H1) (er : ErS T.P.eI.C v H1 E) : spAP K T.P.R.A.C T.P.eI.C T.P.eP.C [.ref o, v, p] H1 Q E :=
  ⟨o, t, v, p, rfl, hM.same s, g, hb.ty.same s, tp, fun n i en hn => (no_int hb.no en (by show (n : Int) ≤ 999999999999999999; omega)).elim, fun _ => er.here, fun n en hn => (no_int hb.no en (by show (n : Int) ≤ 999999999999999999; omega)).elim⟩
theorem ao_bad (T : TxOd w K mg) {D H1 : Hp} {o : Addr} {t tx : Str} {v p : V} {E : XK} {Q : VK} (hM : ChainAt T.P.R.A.C D o t) (g : goodC t = true) (hb : BaI T mostI D v tx) (tp : TypedI K H1 p) (s : Same D H1) (er : ErS T.P.eI.C v H1 E) : spAO K T.P.R.A.C T.P.eI.C T.P.eP.C [.ref o, v, p] H1 Q E :=
  ⟨o, t, v, p, rfl, hM.same s, g, hb.ty.same s, tp, fun n i en hn => (no_int hb.no en (by show (n : Int) ≤ 999999999999999999; omega)).elim, fun _ => er.here, fun n en hn => (no_int hb.no en (by show (n : Int) ≤ 999999999999999999; omega)).elim⟩
theorem ap_far (T : TxOd w K mg) {D H1 : Hp} {o : Addr} {t tx : Str} {n : Nat} {p : V} {E : XK} {Q : VK} (hM : ChainAt T.P.R.A.C D o t) (g : goodC t = true) (hn : n ≤ 999999999999999999) (hb : BaI T (((lens (cuttersOf t) n).length : Int) - 1) D p tx) (s : Same D H1) (er : ErS T.P.eP.C p H1 E) : spAP K T.P.R.A.C T.P.eI.C T.P.eP.C [.ref o, .int n, p] H1 Q E :=
  ⟨o, t, .int n, p, rfl, hM.same s, g, typed_int _, hb.ty.same s, fun m i en hm ei hi => by
      cases en
      exact (no_int hb.no ei (by omega)).elim, fun z => (no_int z rfl (by show (n : Int) ≤ 999999999999999999; omega)).elim, fun m en hm _ H' d s' nd => er H' d s' nd⟩
theorem ao_far (T : TxOd w K mg) {D H1 : Hp} {o : Addr} {t tx : Str} {n : Nat} {p : V} {E : XK} {Q : VK} (hM : ChainAt T.P.R.A.C D o t) (g : goodC t = true) (hn : n ≤ 999999999999999999) (hb : BaI T ((n : Int) - 1) D p tx) (s : Same D H1) (er : ErS T.P.eP.C p H1 E) : spAO K T.P.R.A.C T.P.eI.C T.P.eP.C [.ref o, .int n, p] H1 Q E :=
  ⟨o, t, .int n, p, rfl, hM.same s, g, typed_int _, hb.ty.same s, fun m i en hm ei hi => by
      cases en
      exact (no_int hb.no ei (by omega)).elim, fun z => (no_int z rfl (by show (n : Int) ≤ 999999999999999999; omega)).elim, fun m en hm _ => er.here⟩
end
end My

/-! what is no number of items is refused -/
namespace My
open PySem L2 Cm LM IsX CmH Gd RpA SkT CH
abbrev NIr : List Str := ["_law_jar_here", "_law_mine", "_law_bad", "_law_odd_here", "_law_seen"]
theorem scIr : FnScope NIr ["_law_jar_here", "_law_mine"] (defScope sItR) := ⟨rfl, rfl, rfl, by decide +kernel, rfl, by decide +kernel, by decide +kernel⟩
section
variable {P : Program} {w : World} {K : PySem.W.Frag} {mg : Str → Option Value} {base : Heap}
def spIr (T : TxOd w K mg) (Tb : List (Addr × Str)) : Sp := fun vs H Q _ => ∃ (j o : Addr) (t : Str), vs = [.ref j, .ref o] ∧ Jar H j ∧ LamX.Tabs Tb H ∧ ChainAt T.P.R.A.C H o t ∧ goodC t = true ∧ ∀ H', OffN j H H' → Jar H' j → LamX.Tabs Tb H' → Q (.bl true) H'
theorem ok_ir60 {c1 P1 : Addr} {Tb : List (Addr × Str)} (R : TxLR w K mg) (hcd : R.ir.fd.code = .ref c1) (mem : (P1, qL1) ∈ Tb) (uni : ∀ q ∈ Tb, q.1 = P1 → q.2 = qL1) (sm : ∃ ob, base.get? sysModules = some ob) (TB : LamX.TabB base mg c1 P1) : Gd.FnG P w K mg base CX0 10 R.ir.f R.ir.fd ["_law_jar_here", "_law_mine"] (spIr R.T Tb) := by
  have GO : FnOk P w K mg base CX0 5 R.T.odd.f R.T.odd.fd ["_law_jar_here"] (spOdd R.T) := ok_odd R.T
  have GD : Gd.FnG P w K mg base CX0 3 R.T.due.f R.T.due.fd ["_law_spot", "_law_thing"] (spDue R.T) := ok_due R.T sm
  have GF : FnOk P w K mg base CX0 2 R.T.G.D.frm.f R.T.G.D.frm.fd ["_law_jar_here", "_law_things"] (spFrom K) := ga_from R.T.G.D
  have GS : FnOk P w K mg base CX0 1 R.T.G.D.sip.f R.T.G.D.sip.fd ["_law_jar_here", "_law_many"] spSip := ga_sip R.T.G.D
  have GN : FnOk P w K mg base (L2.CX P w) 6 R.T.P.an.f R.T.P.an.fd ["self", "items"] (spAN K R.T.P.R.A.C R.T.P.eI.C) := ok_an R.T.P
  have GP : FnOk P w K mg base (L2.CX P w) 6 R.T.P.ap.f R.T.P.ap.fd ["self", "items", "place"] (spAP K R.T.P.R.A.C R.T.P.eI.C R.T.P.eP.C) := ok_ap R.T.P
  have GA : FnOk P w K mg base (L2.CX P w) 6 R.T.P.ao.f R.T.P.ao.fd ["self", "items", "item"] (spAO K R.T.P.R.A.C R.T.P.eI.C R.T.P.eP.C) := ok_ao R.T.P
  obtain ⟨ob, sm⟩ := sm
  obtain ⟨oc, od, kV, doc, pm, an, cdv0, ct, osl, efd, lkC, hcgC⟩ := R.T.C.cm.F.ex
  have bC := R.T.C.cm.b
  rw [efd] at bC lkC
  refine Gd.okG R.ir.F scIr (fun vs H Q E h => ?_) (fun cdv A outer s H vs Q E _ _ ecd hgd hr h => ?_)
  · obtain ⟨j, o, t, rfl, _⟩ := h
    rfl
  · obtain ⟨j, o, t, rfl, hJ, hT, hL, hg, k⟩ := h
    have ec : cdv = .ref c1 := ecd.symm.trans hcd
    subst ec
    have hr1 : Room 1 _ := hr.mono (by decide)
    have hr2 : Room 2 _ := hr.mono (by decide)
    have hr3 : Room 3 _ := hr.mono (by decide)
    have hr5 : Room 5 _ := hr.mono (by decide)
    have hr6 : Room 6 _ := hr.mono (by decide)
    have lam : ∀ {X : Cx} {params : Arguments} {body : Expr} {scope : Scope} {t : XK → L2.TE} {p lpos pos : Pos} (eX : X = (cxOf CX0 P w K mg base NIr "_law_items_right" (defScope sItR) R.ir.f (.ref c1) A outer s H E).nox) (L : LamX.LamS X.env.scope scope) (hdef : defaultsOf params X.env = ([], []))
        (hbind : ∀ (q : Str) (cl : List (Str × Addr)) (pm cv ctv : Value), bindArgs (PySem.W.kla_fn "<lambda>" q params body scope cl pm cv ctv) ⟨[], []⟩ = pure [])
        (hbody : ∀ (A : Around) (outer : List Env) (s : Shared) (H : Hp) (E : XK) (f c' : Addr), Room 7 (A.deeper (LamX.lamEnv X scope s.heap.objs.size f c')) → PE (LamX.lamCx X A outer s H E scope f c') body (t E)),
        PE X (.Call (.Name "_law_came" p) [.Lambda params body scope lpos] [] pos) (LamX.tLam Tb (TCame R.T.C) t) := by
      intro X params body scope t p lpos pos eX L hdef hbind hbody
      subst eX
      exact LamX.pe_lamcall (k := 7) rfl R.T.C.cm.g R.T.C.cm.k lkC hcgC bC scCame rfl (.inl rfl) (came_gives (X := (cxOf CX0 P w K mg base NIr "_law_items_right" (defScope sItR) R.ir.f (.ref c1) A outer s H E).nox) R.T.C hgd hr6 sm) TB rfl mem uni hr L hdef hbind hbody
    refine ⟨_, (C8.pss_cut (ps_set (i := 2) scIr.nd rfl (.inr rfl) (pe_call GF hr2 rfl R.T.G.D.frm.g R.T.G.D.frm.k R.T.G.D.frm.b .nil pass0 (pa_cons (pv 0) (pa_cons (pe_lst (pa_cons (pe_call GO hr5 rfl R.T.odd.g R.T.odd.k R.T.odd.b .nil pass0 (pa_cons (pv 0) pa_nil)) (pa_cons (pe_op op_pow pe_int pe_int) (pa_cons (pe_op op_add (pe_op op_pow pe_int pe_int) (pe_call GS hr1 rfl R.T.G.D.sip.g R.T.G.D.sip.k R.T.G.D.sip.b .nil pass0 (pa_cons (pv 0) (pa_cons (pe_op op_pow pe_int pe_int) pa_nil)))) (pa_cons (pe_op op_pow pe_int pe_int) pa_nil))))) pa_nil)))) (C8.pss_cut (ps_set (i := 3) scIr.nd rfl (.inr rfl) (pe_call GO hr5 rfl R.T.odd.g R.T.odd.k R.T.odd.b .nil pass0 (pa_cons (pv 0) pa_nil))) (pss_cons (ps_set (i := 4) scIr.nd rfl (.inl rfl) (pe_lst (pa_cons (lam (t := fun E => tMeth R.T.P.R.A.C "number" (spAN K R.T.P.R.A.C R.T.P.eI.C) [] E (tVar 1) (tCons (tVar 2) tNil)) rfl (LamX.lamS_by (sc := defScope sItR) (by decide +kernel)) rfl (fun _ _ _ _ _ => rfl) (fun A outer s H E f c' hrl => pe_meth (pv 1) R.T.P.R.A.cl R.T.P.an.m GN (hrl.mono (by decide)) R.T.P.an.b .nil (passes_call (takes_of rfl rfl rfl rfl) fun _ _ _ _ z => z) (pa_cons (pv 2) pa_nil))) pa_nil))) (pss_cons (ps_expr (pe_bm PySem.F.plainAttrs_list PySem.F.slot_list_append PySem.F.type_list_append mt_append (pv 4) (pa_cons (lam (t := fun E => MKw.tMethK R.T.P.R.A.C "number" (spAN K R.T.P.R.A.C R.T.P.eI.C) gK1V E (tVar 1) (tCons (tVar 2) tNil)) rfl (LamX.lamS_by (sc := defScope sItR) (by decide +kernel)) rfl (fun _ _ _ _ _ => rfl) (fun A outer s H E f c' hrl => MKw.pe_methK (pv 1) R.T.P.R.A.cl R.T.P.an.m GN (hrl.mono (by decide)) R.KN (passes_call (takes_of rfl rfl rfl rfl) fun _ _ _ _ z => z) (pk_cons (pv 2) pk_nil))) pa_nil))) (pss_cons (ps_expr (pe_bm PySem.F.plainAttrs_list PySem.F.slot_list_append PySem.F.type_list_append mt_append (pv 4) (pa_cons (lam (t := fun E => tMeth R.T.P.R.A.C "piece" (spAP K R.T.P.R.A.C R.T.P.eI.C R.T.P.eP.C) [] E (tVar 1) (tCons (tVar 2) (tCons (tVar 3) tNil))) rfl (LamX.lamS_by (sc := defScope sItR) (by decide +kernel)) rfl (fun _ _ _ _ _ => rfl) (fun A outer s H E f c' hrl => pe_meth (pv 1) R.T.P.R.A.cl R.T.P.ap.m GP (hrl.mono (by decide)) R.T.P.ap.b .nil (passes_call (takes_of rfl rfl rfl rfl) fun _ _ _ _ z => z) (pa_cons (pv 2) (pa_cons (pv 3) pa_nil)))) pa_nil))) (pss_cons (ps_expr (pe_bm PySem.F.plainAttrs_list PySem.F.slot_list_append PySem.F.type_list_append mt_append (pv 4) (pa_cons (lam (t := fun E => MKw.tMethK R.T.P.R.A.C "piece" (spAP K R.T.P.R.A.C R.T.P.eI.C R.T.P.eP.C) gK2V E (tVar 1) (tCons (tC (.int 0)) (tCons (tVar 2) tNil))) rfl (LamX.lamS_by (sc := defScope sItR) (by decide +kernel)) rfl (fun _ _ _ _ _ => rfl) (fun A outer s H E f c' hrl => MKw.pe_methK (pv 1) R.T.P.R.A.cl R.T.P.ap.m GP (hrl.mono (by decide)) R.KP (passes_call (takes_of rfl rfl rfl rfl) fun _ _ _ _ z => z) (pk_cons pe_int (pk_cons (pv 2) pk_nil)))) pa_nil))) (pss_cons (ps_expr (pe_bm PySem.F.plainAttrs_list PySem.F.slot_list_append PySem.F.type_list_append mt_append (pv 4) (pa_cons (lam (t := fun E => tMeth R.T.P.R.A.C "place_of" (spAO K R.T.P.R.A.C R.T.P.eI.C R.T.P.eP.C) [] E (tVar 1) (tCons (tVar 2) (tCons (tVar 3) tNil))) rfl (LamX.lamS_by (sc := defScope sItR) (by decide +kernel)) rfl (fun _ _ _ _ _ => rfl) (fun A outer s H E f c' hrl => pe_meth (pv 1) R.T.P.R.A.cl R.T.P.ao.m GA (hrl.mono (by decide)) R.T.P.ao.b .nil (passes_call (takes_of rfl rfl rfl rfl) fun _ _ _ _ z => z) (pa_cons (pv 2) (pa_cons (pv 3) pa_nil)))) pa_nil))) (pss_cons (ps_expr (pe_bm PySem.F.plainAttrs_list PySem.F.slot_list_append PySem.F.type_list_append mt_append (pv 4) (pa_cons (lam (t := fun E => MKw.tMethK R.T.P.R.A.C "place_of" (spAO K R.T.P.R.A.C R.T.P.eI.C R.T.P.eP.C) gK2V E (tVar 1) (tCons (tC (.int 0)) (tCons (tVar 2) tNil))) rfl (LamX.lamS_by (sc := defScope sItR) (by decide +kernel)) rfl (fun _ _ _ _ _ => rfl) (fun A outer s H E f c' hrl => MKw.pe_methK (pv 1) R.T.P.R.A.cl R.T.P.ao.m GA (hrl.mono (by decide)) R.KO (passes_call (takes_of rfl rfl rfl rfl) fun _ _ _ _ z => z) (pk_cons pe_int (pk_cons (pv 2) pk_nil)))) pa_nil))) (pss_one (ps_ret (pe_cmpR (op_eqD (hu64 hr)) (pv 4) (pe_op op_rep (pe_lst (pa_cons (Gd.pe_callG GD hgd hr3 rfl R.T.due.g R.T.due.k R.T.due.b .nil pass0 (pa_cons pe_int (pa_cons (pv 2) pa_nil))) pa_nil)) pe_int) (nomark _)))))))))))), ?_⟩
    -- bad
    refine ⟨fun σ H' => ∃ (bad : V) (tx : Str), σ = [some (.ref j), some (.ref o), some bad, none, none] ∧ Off j H H' ∧ Jar H' j ∧ BaI R.T mostI (RpL.cut [j] H') bad tx, ?_, ?_⟩
    · refine ⟨_, rfl, _, rfl, j, rfl, hJ, fun H1 bad0 tx o1 J1 hb1 => ?_⟩
      refine ⟨_, _, rfl, rfl, ⟨by decide, by decide, by decide⟩, _, _, rfl, rfl, ⟨by decide, by decide, by decide⟩, _, rfl, _, _, rfl, rfl, ⟨by decide, by decide, by decide⟩, j, _, rfl, J1, by decide, by decide, fun H2 d d0 d1 o2 J2 => ⟨_, _, rfl, rfl, ?_⟩⟩
      have d1 : d < 1000000 := d1
      refine ⟨_, _, rfl, rfl, ⟨by decide, by decide, by decide⟩, (by show 4 ≤ sizeLine; decide), fun L nL => ?_⟩
      refine ⟨j, L, [bad0, .int (10 ^ Int.toNat 18), .int (10 ^ Int.toNat 18 + d), .int (10 ^ Int.toNat 19)], rfl, J2.new nL, jar_ne J2 nL, SqL.of upd_same, (by show 0 < 4; decide), (by show 4 < 1073741824; decide), fun H6 i6 y hy o6 J6 => ?_⟩
      have o26 := (Same.off (j := j) (same_new (o := .lst [bad0, .int (10 ^ Int.toNat 18), .int (10 ^ Int.toNat 18 + d), .int (10 ^ Int.toNat 19)]) nL)).trans o6
      have o := (o1.trans o2).trans o26
      have big : ∀ {i : Int}, mostI < i → i < 10 ^ 20 → BaI R.T mostI (RpL.cut [j] H6) (.int i) (PyData.shown (.int i)) := fun {i} a b => bad_big R.T a (by have : (999999999999999999 : Int) < i := a; omega) b
      have e18 : (10 : Int) ^ Int.toNat 18 = 1000000000000000000 := by decide
      match i6, hy with
      | 0, h => cases h; exact ⟨bad0, tx, rfl, o, J6, (((hb1 mostI).same (cj_off o2)).same (cj_off o26))⟩
      | 1, h => cases h; exact ⟨_, _, rfl, o, J6, big (by decide) (by decide)⟩
      | 2, h => cases h; exact ⟨_, _, rfl, o, J6, big (by rw [e18]; show (999999999999999999 : Int) < _; omega) (by rw [e18]; show _ < (100000000000000000000 : Int); omega)⟩
      | 3, h => cases h; exact ⟨_, _, rfl, o, J6, big (by decide) (by decide)⟩
      | n + 4, h => cases h
    rintro _ H3 ⟨bad, tx, rfl, o3, J3, hb3⟩
    refine ⟨fun σ H' => ∃ (odd : V) (ty : Str), σ = [some (.ref j), some (.ref o), some bad, some odd, none] ∧ Off j H H' ∧ Jar H' j ∧ BaI R.T mostI (RpL.cut [j] H') bad tx ∧ BaI R.T mostI (RpL.cut [j] H') odd ty, ?_, ?_⟩
    · refine ⟨_, rfl, j, rfl, J3, fun H4 odd ty o4 J4 hO => ?_⟩
      exact ⟨odd, ty, rfl, o3.trans o4, J4, hb3.same (cj_off o4), hO mostI⟩
    rintro _ H4 ⟨odd, ty, rfl, o4, J4, hb4, hO4⟩
    clear hb3 o3 J3 H3
    have T4 := tabs_off hJ o4 hT
    have hb := hb4.same cj_all
    have hO := hO4.same cj_all
    have hM : ChainAt R.T.P.R.A.C (RpL.cut [] H4) o t := chain_part (fun b u _ nt e => RpL.cut_at (by simp) e nt) (hL.off o4 hJ)
    have ex4 : ∀ {Hb : Hp}, Same (RpL.cut [] H4) Hb → LamX.ExtN H4 Hb := ex_of
    have tb : RpL.NoTb (RpL.cut [] H4) := RpL.cut_tb
    have sub0 : Same (RpL.cut [] H4) H4 := RpL.cut_up
    have JD : Jar (RpL.cut [] H4) j := by
      obtain ⟨x, y, z, e⟩ := J4
      exact ⟨x, y, z, RpL.cut_at (by simp) e (by intro ps z; cases z)⟩
    have fin : ∀ {Hb : Hp}, Same (RpL.cut [] H4) Hb → LamX.Tabs Tb Hb → Q (.bl true) Hb := fun {Hb} s T => k Hb (o4.offN.trans (extN_off (ex4 s))) (JD.same s) T
    clear hb4 hO4
    generalize RpL.cut [] H4 = D at *
    have f1 := R.T.C.f1
    have okx := hb.sh.ok
    obtain ⟨dx0, px0, vx0, ex0, _⟩ := id hM
    have no1 : ∀ {t : Str} {q : Addr}, (cf t q).lookup ("number" : Str) = none := cf_no _ _ (by decide +kernel) (by decide +kernel)
    have no2 : ∀ {t : Str} {q : Addr}, (cf t q).lookup ("piece" : Str) = none := cf_no _ _ (by decide +kernel) (by decide +kernel)
    have no3 : ∀ {t : Str} {q : Addr}, (cf t q).lookup ("place_of" : Str) = none := cf_no _ _ (by decide +kernel) (by decide +kernel)
    refine lam_bad R.T tb sub0 T4 f1 hb.sh (fun H1 E Q' s1 er => ⟨_, rfl, o, dx0, _, rfl, s1 _ _ ex0, no1, _, rfl, an_bad R.T hM hg hb s1 er⟩) fun Ha p1 xe1 Ta hp1 fr1 => ?_
    refine ⟨(by show 1 ≤ sizeLine; decide), fun sq nsq => ?_⟩
    have st1 := RpL.SeenD.first tb sub0 xe1 Ta hp1 fr1 nsq
    show tSeq _ _ _ _ (upd Ha sq (.lst [.ref p1]))
    generalize upd Ha sq (.lst [.ref p1]) = Ha1 at st1 ⊢
    refine ⟨_, rfl, .inl ⟨rfl, _, SqL.of st1.at_⟩, ?_⟩
    refine lam_bad R.T tb st1.sub st1.tab f1 hb.sh (fun H1 E Q' s1 er => ⟨_, rfl, o, dx0, _, rfl, s1 _ _ ex0, no1, _, rfl, an_bad R.T hM hg hb s1 er⟩) fun Hb2 p2 xe2 tq2 hp2 fr2 => ?_
    obtain ⟨a2, st2⟩ := st1.step tb xe2 tq2 hp2 fr2
    refine ⟨sq, _, _, rfl, rfl, a2, small1000 (by show 1 ≤ 1000; decide), ?_⟩
    refine ⟨_, rfl, .inl ⟨rfl, _, SqL.of st2.at_⟩, ?_⟩
    refine lam_bad R.T tb st2.sub st2.tab f1 hb.sh (fun H1 E Q' s1 er => ⟨_, rfl, o, dx0, _, rfl, s1 _ _ ex0, no2, _, rfl, _, rfl, ap_bad R.T hM hg hb (hO.ty.same s1) s1 er⟩) fun Hb3 p3 xe3 tq3 hp3 fr3 => ?_
    obtain ⟨a3, st3⟩ := st2.step tb xe3 tq3 hp3 fr3
    refine ⟨sq, _, _, rfl, rfl, a3, small1000 (by show 2 ≤ 1000; decide), ?_⟩
    refine ⟨_, rfl, .inl ⟨rfl, _, SqL.of st3.at_⟩, ?_⟩
    refine lam_bad R.T tb st3.sub st3.tab f1 hb.sh (fun H1 E Q' s1 er => ⟨_, rfl, o, dx0, _, rfl, s1 _ _ ex0, no2, _, rfl, ap_bad R.T hM hg hb (typed_int 0) s1 er⟩) fun Hb4 p4 xe4 tq4 hp4 fr4 => ?_
    obtain ⟨a4, st4⟩ := st3.step tb xe4 tq4 hp4 fr4
    refine ⟨sq, _, _, rfl, rfl, a4, small1000 (by show 3 ≤ 1000; decide), ?_⟩
    refine ⟨_, rfl, .inl ⟨rfl, _, SqL.of st4.at_⟩, ?_⟩
    refine lam_bad R.T tb st4.sub st4.tab f1 hb.sh (fun H1 E Q' s1 er => ⟨_, rfl, o, dx0, _, rfl, s1 _ _ ex0, no3, _, rfl, _, rfl, ao_bad R.T hM hg hb (hO.ty.same s1) s1 er⟩) fun Hb5 p5 xe5 tq5 hp5 fr5 => ?_
    obtain ⟨a5, st5⟩ := st4.step tb xe5 tq5 hp5 fr5
    refine ⟨sq, _, _, rfl, rfl, a5, small1000 (by show 4 ≤ 1000; decide), ?_⟩
    refine ⟨_, rfl, .inl ⟨rfl, _, SqL.of st5.at_⟩, ?_⟩
    refine lam_bad R.T tb st5.sub st5.tab f1 hb.sh (fun H1 E Q' s1 er => ⟨_, rfl, o, dx0, _, rfl, s1 _ _ ex0, no3, _, rfl, ao_bad R.T hM hg hb (typed_int 0) s1 er⟩) fun Hb6 p6 xe6 tq6 hp6 fr6 => ?_
    obtain ⟨a6, st6⟩ := st5.step tb xe6 tq6 hp6 fr6
    refine ⟨sq, _, _, rfl, rfl, a6, small1000 (by show 5 ≤ 1000; decide), ?_⟩
    have s6' : RpL.SeenD Tb D (upd Hb6 sq (.lst ([V.ref p1] ++ [.ref p2] ++ [.ref p3] ++ [.ref p4] ++ [.ref p5] ++ [.ref p6]))) sq [.ref p1, .ref p2, .ref p3, .ref p4, .ref p5, .ref p6] (List.replicate 6 (rowV false true false tx)) := st6
    generalize upd Hb6 sq (.lst ([V.ref p1] ++ [.ref p2] ++ [.ref p3] ++ [.ref p4] ++ [.ref p5] ++ [.ref p6])) = Hs at s6' ⊢
    clear st1 st2 st3 st4 st5 st6 a2 a3 a4 a5 a6
    refine ⟨_, rfl, _, rfl, 1, bad, tx, rfl, hb.sh.same s6'.sub, fun H7 r s7 nr hr7 => ?_⟩
    refine ⟨(by show 1 ≤ sizeLine; decide), fun l nl => ⟨l, 6, [.ref r], rfl, rfl, upd_same, by decide, by decide, (by show 1 * 6 ≤ sizeLine; decide), fun z nz => ?_⟩⟩
    have u1 := same_new (o := .lst [.ref r]) nl
    have u2 := same_new (o := .lst (List.replicate (6 : Int).toNat [V.ref r]).flatten) nz
    have s78 := Same.trans s7 (Same.trans u1 u2)
    have ly := rowD_lay (b0 := false) (b1 := true) (b2 := false) okx
    obtain ⟨d, e, q1, q2, q3, q4, q5⟩ := seen_due (fun _ => row_dp _ _ _ _) ly.1 ly.2 s6' s78 (u2 _ _ (u1 _ _ hr7)) (z := z) (by rw [upd_same, flat_one]; rfl)
    refine ⟨d, e, q1, q2, q3, q4, ?_⟩
    rw [q5]
    exact fin (Same.trans s6'.sub s78) (s6'.tab.ext s78)
end
end My

/-! what is no place is refused -/
namespace My
open PySem L2 Cm LM IsX CmH Gd RpA SkT CH
/-! ### the rows of a chain -/
theorem lens_pos (n : Nat) : ∀ (cs : List (Kd × Nat)) (xs : List Nat), (∀ c ∈ cs, Ct c) → Pos xs → Pos (cs.foldl (fun xs c => applyS n c xs) xs)
  | [], _, _, h => h
  | c :: cs, xs, hc, h => lens_pos n cs _ (fun q hq => hc q (List.mem_cons_of_mem _ hq)) (by
    have c1 := hc c (List.mem_cons_self ..)
    show Pos (applyS n c xs)
    unfold applyS
    split
    · exact pos_chop c1.1
    · exact pos_evenly c1.1
    · exact pos_tailS h)
theorem lens_Pos {cs : List (Kd × Nat)} (n : Nat) (hc : ∀ c ∈ cs, Ct c) : Pos (lens cs n) := lens_pos n cs _ hc (pos_wholeS n)
theorem lens_len {cs : List (Kd × Nat)} {n : Nat} (hc : ∀ c ∈ cs, Ct c) : (lens cs n).length ≤ n := by
  have := (lens_Pos n hc).len
  rwa [lens_sum] at this
theorem last_one {xs : List Nat} (h : Pos xs) (ne : xs ≠ []) : (xs.take (xs.length - 1)).sum < xs.sum ∧ placeA xs (xs.sum - 1) = xs.length - 1 := by
  rcases List.eq_nil_or_concat xs with z | ⟨ys, y, rfl⟩
  · exact absurd z ne
  · rw [List.concat_eq_append] at *
    have p : 0 < y := h y (List.mem_append_right _ (List.mem_singleton.mpr rfl))
    have e1 : (ys ++ [y]).length - 1 = ys.length := by simp
    have e2 : (ys ++ [y]).take ys.length = ys := by simp
    have e3 : (ys ++ [y]).getD ys.length 0 = y := by simp
    have e4 : (ys ++ [y]).sum = ys.sum + y := by simp
    rw [e1]
    refine ⟨by rw [e2, e4]; omega, placeA_at (by simp) (by rw [e2, e4]; omega) (by rw [e2, e3, e4]; omega)⟩
theorem shT : (PyData.bool true).shown = "True" := by decide +kernel
def rowG : List V := [.str "given", .str "True"]
def rowGD : List PyData := [.str "given", .str "True"]
theorem rowG_dp {K : PySem.W.Frag} (H : Hp) : DpAll K H rowG rowGD := .cons (.str _) (.cons (.str _) .nil)
theorem rowG_lay : PyData.canLayAll0 rowGD = true ∧ PyData.depthAll rowGD ≤ 1 := ⟨by decide +kernel, by decide +kernel⟩
section
variable {P : Program} {w : World} {K : PySem.W.Frag} {mg : Str → Option Value} {base : Heap}
theorem lam_true {Tb : List (Addr × Str)} (T : TxOd w K mg) {t : XK → TE} {σ : L2.St} {D H : Hp} {Q : VK} (tb : RpL.NoTb D) (sD : Same D H) (hT : LamX.Tabs Tb H)
    (call : ∀ (H1 : Hp) (E : XK) (Q' : VK), Same D H1 → (∀ H2, Same H1 H2 → Q' (.bl true) H2) → t E σ H1 Q')
    (g : RpL.Got Tb H rowG Q) : LamX.tLam Tb (TCame T.C) t σ H Q := lam_giv (b := true) T tb sD hT call (by rw [shT]; exact g)
/-! ### the calls, answered -/
theorem an_ok (T : TxOd w K mg) {H1 : Hp} {o : Addr} {t : Str} {n : Nat} {E : XK} {Q : VK} (hM : ChainAt T.P.R.A.C H1 o t) (g : goodC t = true) (hn : n ≤ 999999999999999999) (k : ∀ H', Same H1 H' → Q (.int ((lens (cuttersOf t) n).length : Nat)) H') : spAN K T.P.R.A.C T.P.eI.C [.ref o, .int n] H1 Q E :=
  ⟨o, t, .int n, rfl, hM, g, typed_int _, fun m em hm => by cases em; exact k, fun z => (no_int z rfl (by show (n : Int) ≤ 999999999999999999; omega)).elim⟩
theorem ap_ok (T : TxOd w K mg) {H1 : Hp} {o : Addr} {t : Str} {n i : Nat} {E : XK} {Q : VK} (hM : ChainAt T.P.R.A.C H1 o t) (g : goodC t = true) (hn : n ≤ 999999999999999999) (hi : i < (lens (cuttersOf t) n).length) (k : ∀ (H' : Hp) (q : Addr), Same H1 H' → NPair H' q (((lens (cuttersOf t) n).take i).sum, (lens (cuttersOf t) n).getD i 0) → Q (.ref q) H') : spAP K T.P.R.A.C T.P.eI.C T.P.eP.C [.ref o, .int n, .int i] H1 Q E :=
  ⟨o, t, .int n, .int i, rfl, hM, g, typed_int _, typed_int _, fun m x em hm ex hx => by cases em; cases ex; exact k, fun z => (no_int z rfl (by show (n : Int) ≤ 999999999999999999; omega)).elim, fun m em hm z => by
      cases em
      exact (no_int z rfl (by omega)).elim⟩
theorem ao_ok (T : TxOd w K mg) {H1 : Hp} {o : Addr} {t : Str} {n i : Nat} {E : XK} {Q : VK} (hM : ChainAt T.P.R.A.C H1 o t) (g : goodC t = true) (hn : n ≤ 999999999999999999) (hi : i < n) (k : ∀ H' : Hp, Same H1 H' → Q (.int (placeA (lens (cuttersOf t) n) i : Nat)) H') : spAO K T.P.R.A.C T.P.eI.C T.P.eP.C [.ref o, .int n, .int i] H1 Q E :=
  ⟨o, t, .int n, .int i, rfl, hM, g, typed_int _, typed_int _, fun m x em hm ex hx => by cases em; cases ex; exact k, fun z => (no_int z rfl (by show (n : Int) ≤ 999999999999999999; omega)).elim, fun m em hm z => by
      cases em
      exact (no_int z rfl (by omega)).elim⟩
theorem tnil_of {σ : L2.St} {H : Hp} {R : List V → Hp → Prop} (h : R [] H) : tNil σ H R := h
theorem tci_of {v : V} {σ : L2.St} {H : Hp} {R : List V → Hp → Prop} (h : R [v] H) : tCons (tC v) tNil σ H R := h
/-- what the three last lambdas tell is true -/
def tTrue (T : TxOd w K mg) (E : XK) : TE := fun σ H Q => ∃ (o : Addr) (t : Str) (n m : Nat), σ[1]? = some (some (.ref o)) ∧ σ[2]? = some (some (.int n)) ∧ σ[3]? = some (some (.int m)) ∧ ChainAt T.P.R.A.C H o t ∧ goodC t = true ∧ n ≤ 999999999999999999 ∧ 0 < n ∧ m = (lens (cuttersOf t) n).length ∧ ∀ H', Same H H' → Q (.bl true) H'
theorem no_piece {t : Str} {q : Addr} : (cf t q).lookup ("piece" : Str) = none := cf_no _ _ (by decide +kernel) (by decide +kernel)
theorem no_place {t : Str} {q : Addr} : (cf t q).lookup ("place_of" : Str) = none := cf_no _ _ (by decide +kernel) (by decide +kernel)
theorem no_number {t : Str} {q : Addr} : (cf t q).lookup ("number" : Str) = none := cf_no _ _ (by decide +kernel) (by decide +kernel)
theorem lens_ne {t : Str} {n : Nat} (h : 0 < n) : 0 < (lens (cuttersOf t) n).length := by
  rcases Nat.eq_zero_or_pos (lens (cuttersOf t) n).length with z | z
  · have e := lens_sum (cuttersOf t) n
    rw [List.length_eq_zero_iff.mp z] at e
    have : (0 : Nat) = n := e
    omega
  · exact z
abbrev NPr : List Str := ["_law_jar_here", "_law_mine", "_law_many", "_law_most", "_law_bad", "_law_far", "_law_seen"]
theorem scPr : FnScope NPr ["_law_jar_here", "_law_mine", "_law_many"] (defScope sPlR) := ⟨rfl, rfl, rfl, by decide +kernel, rfl, by decide +kernel, by decide +kernel⟩
def spPr (T : TxOd w K mg) (Tb : List (Addr × Str)) : Sp := fun vs H Q _ => ∃ (j o : Addr) (t : Str) (n : Nat), vs = [.ref j, .ref o, .int n] ∧ Jar H j ∧ LamX.Tabs Tb H ∧ ChainAt T.P.R.A.C H o t ∧ goodC t = true ∧ n ≤ 999999999999999999 ∧ ∀ H', OffN j H H' → Jar H' j → LamX.Tabs Tb H' → Q (.bl true) H'
end
end My

namespace My
open PySem L2 Cm LM IsX CmH Gd RpA SkT CH
section
variable {P : Program} {w : World} {K : PySem.W.Frag} {mg : Str → Option Value} {base : Heap}
theorem ok_pr60 {c2 P2 : Addr} {Tb : List (Addr × Str)} (R : TxLR w K mg) (hcd : R.pr.fd.code = .ref c2) (mem : (P2, qL2) ∈ Tb) (uni : ∀ q ∈ Tb, q.1 = P2 → q.2 = qL2) (sm : ∃ ob, base.get? sysModules = some ob) (TB : LamX.TabB base mg c2 P2) : Gd.FnG P w K mg base CX0 10 R.pr.f R.pr.fd ["_law_jar_here", "_law_mine", "_law_many"] (spPr R.T Tb) := by
  have GO : FnOk P w K mg base CX0 5 R.T.odd.f R.T.odd.fd ["_law_jar_here"] (spOdd R.T) := ok_odd R.T
  have GD : Gd.FnG P w K mg base CX0 3 R.T.due.f R.T.due.fd ["_law_spot", "_law_thing"] (spDue R.T) := ok_due R.T sm
  have GF : FnOk P w K mg base CX0 2 R.T.G.D.frm.f R.T.G.D.frm.fd ["_law_jar_here", "_law_things"] (spFrom K) := ga_from R.T.G.D
  have GS : FnOk P w K mg base CX0 1 R.T.G.D.sip.f R.T.G.D.sip.fd ["_law_jar_here", "_law_many"] spSip := ga_sip R.T.G.D
  have GN : FnOk P w K mg base (L2.CX P w) 6 R.T.P.an.f R.T.P.an.fd ["self", "items"] (spAN K R.T.P.R.A.C R.T.P.eI.C) := ok_an R.T.P
  have GP : FnOk P w K mg base (L2.CX P w) 6 R.T.P.ap.f R.T.P.ap.fd ["self", "items", "place"] (spAP K R.T.P.R.A.C R.T.P.eI.C R.T.P.eP.C) := ok_ap R.T.P
  have GA : FnOk P w K mg base (L2.CX P w) 6 R.T.P.ao.f R.T.P.ao.fd ["self", "items", "item"] (spAO K R.T.P.R.A.C R.T.P.eI.C R.T.P.eP.C) := ok_ao R.T.P
  obtain ⟨ob, sm⟩ := sm
  obtain ⟨oc, od, kV, doc, pm, an, cdv0, ct, osl, efd, lkC, hcgC⟩ := R.T.C.cm.F.ex
  have bC := R.T.C.cm.b
  rw [efd] at bC lkC
  refine Gd.okG R.pr.F scPr (fun vs H Q E h => ?_) (fun cdv A outer s H vs Q E _ _ ecd hgd hr h => ?_)
  · obtain ⟨j, o, t, n, rfl, _⟩ := h
    rfl
  · obtain ⟨j, o, t, n, rfl, hJ, hT, hL, hg, hn, k⟩ := h
    have ec : cdv = .ref c2 := ecd.symm.trans hcd
    subst ec
    have hr1 : Room 1 _ := hr.mono (by decide)
    have hr2 : Room 2 _ := hr.mono (by decide)
    have hr3 : Room 3 _ := hr.mono (by decide)
    have hr5 : Room 5 _ := hr.mono (by decide)
    have hr6 : Room 6 _ := hr.mono (by decide)
    have lam : ∀ {X : Cx} {params : Arguments} {body : Expr} {scope : Scope} {t : XK → L2.TE} {p lpos pos : Pos} (eX : X = (cxOf CX0 P w K mg base NPr "_law_places_right" (defScope sPlR) R.pr.f (.ref c2) A outer s H E).nox) (L : LamX.LamS X.env.scope scope) (hdef : defaultsOf params X.env = ([], []))
        (hbind : ∀ (q : Str) (cl : List (Str × Addr)) (pm cv ctv : Value), bindArgs (PySem.W.kla_fn "<lambda>" q params body scope cl pm cv ctv) ⟨[], []⟩ = pure [])
        (hbody : ∀ (A : Around) (outer : List Env) (s : Shared) (H : Hp) (E : XK) (f c' : Addr), Room 7 (A.deeper (LamX.lamEnv X scope s.heap.objs.size f c')) → PE (LamX.lamCx X A outer s H E scope f c') body (t E)),
        PE X (.Call (.Name "_law_came" p) [.Lambda params body scope lpos] [] pos) (LamX.tLam Tb (TCame R.T.C) t) := by
      intro X params body scope t p lpos pos eX L hdef hbind hbody
      subst eX
      exact LamX.pe_lamcall (k := 7) rfl R.T.C.cm.g R.T.C.cm.k lkC hcgC bC scCame rfl (.inl rfl) (came_gives (X := (cxOf CX0 P w K mg base NPr "_law_places_right" (defScope sPlR) R.pr.f (.ref c2) A outer s H E).nox) R.T.C hgd hr6 sm) TB rfl mem uni hr L hdef hbind hbody
    refine ⟨_, (C8.pss_cut (ps_set (i := 3) scPr.nd rfl (.inr rfl) (pe_meth (pv 1) R.T.P.R.A.cl R.T.P.an.m GN hr6 R.T.P.an.b .nil pass_none (pa_cons (pv 2) pa_nil))) (C8.pss_cut (ps_set (i := 4) scPr.nd rfl (.inr rfl) (pe_call GF hr2 rfl R.T.G.D.frm.g R.T.G.D.frm.k R.T.G.D.frm.b .nil pass0 (pa_cons (pv 0) (pa_cons (pe_lst (pa_cons (pe_call GO hr5 rfl R.T.odd.g R.T.odd.k R.T.odd.b .nil pass0 (pa_cons (pv 0) pa_nil)) (pa_cons (pv 3) (pa_cons (pe_op op_add (pe_op op_add (pv 3) pe_int) (pe_call GS hr1 rfl R.T.G.D.sip.g R.T.G.D.sip.k R.T.G.D.sip.b .nil pass0 (pa_cons (pv 0) (pa_cons pe_int pa_nil)))) (pa_cons (pe_op op_pow pe_int pe_int) (pa_cons (pv 3) pa_nil)))))) pa_nil)))) (C8.pss_cut (ps_set (i := 5) scPr.nd rfl (.inr rfl) (pe_call GF hr2 rfl R.T.G.D.frm.g R.T.G.D.frm.k R.T.G.D.frm.b .nil pass0 (pa_cons (pv 0) (pa_cons (pe_lst (pa_cons (pe_call GO hr5 rfl R.T.odd.g R.T.odd.k R.T.odd.b .nil pass0 (pa_cons (pv 0) pa_nil)) (pa_cons (pv 2) (pa_cons (pe_op op_add (pe_op op_add (pv 2) pe_int) (pe_call GS hr1 rfl R.T.G.D.sip.g R.T.G.D.sip.k R.T.G.D.sip.b .nil pass0 (pa_cons (pv 0) (pa_cons pe_int pa_nil)))) (pa_cons (pe_op op_pow pe_int pe_int) (pa_cons (pv 2) pa_nil)))))) pa_nil)))) (pss_cons (ps_set (i := 6) scPr.nd rfl (.inl rfl) (pe_lst (pa_cons (lam (t := fun E => tMeth R.T.P.R.A.C "piece" (spAP K R.T.P.R.A.C R.T.P.eI.C R.T.P.eP.C) [] E (tVar 1) (tCons (tVar 2) (tCons (tVar 4) tNil))) rfl (LamX.lamS_by (sc := defScope sPlR) (by decide +kernel)) rfl (fun _ _ _ _ _ => rfl) (fun A outer s H E f c' hrl => pe_meth (pv 1) R.T.P.R.A.cl R.T.P.ap.m GP (hrl.mono (by decide)) R.T.P.ap.b .nil (passes_call (takes_of rfl rfl rfl rfl) fun _ _ _ _ z => z) (pa_cons (pv 2) (pa_cons (pv 4) pa_nil)))) pa_nil))) (pss_cons (ps_expr (pe_bm PySem.F.plainAttrs_list PySem.F.slot_list_append PySem.F.type_list_append mt_append (pv 6) (pa_cons (lam (t := fun E => MKw.tMethK R.T.P.R.A.C "piece" (spAP K R.T.P.R.A.C R.T.P.eI.C R.T.P.eP.C) gK2V E (tVar 1) (tCons (tVar 4) (tCons (tVar 2) tNil))) rfl (LamX.lamS_by (sc := defScope sPlR) (by decide +kernel)) rfl (fun _ _ _ _ _ => rfl) (fun A outer s H E f c' hrl => MKw.pe_methK (pv 1) R.T.P.R.A.cl R.T.P.ap.m GP (hrl.mono (by decide)) R.KP (passes_call (takes_of rfl rfl rfl rfl) fun _ _ _ _ z => z) (pk_cons (pv 4) (pk_cons (pv 2) pk_nil)))) pa_nil))) (C8.pss_cut (ps_if (pt_cmpR (op_neD (hu64 hr)) (pv 6) (pe_op op_rep (pe_lst (pa_cons (Gd.pe_callG GD hgd hr3 rfl R.T.due.g R.T.due.k R.T.due.b .nil pass0 (pa_cons pe_int (pa_cons (pv 4) pa_nil))) pa_nil)) pe_int) (nomark _)) (pss_one (ps_ret pe_bl)) pss_nil) (pss_cons (ps_set (i := 6) scPr.nd rfl (.inl rfl) (pe_lst (pa_cons (lam (t := fun E => tMeth R.T.P.R.A.C "place_of" (spAO K R.T.P.R.A.C R.T.P.eI.C R.T.P.eP.C) [] E (tVar 1) (tCons (tVar 2) (tCons (tVar 5) tNil))) rfl (LamX.lamS_by (sc := defScope sPlR) (by decide +kernel)) rfl (fun _ _ _ _ _ => rfl) (fun A outer s H E f c' hrl => pe_meth (pv 1) R.T.P.R.A.cl R.T.P.ao.m GA (hrl.mono (by decide)) R.T.P.ao.b .nil (passes_call (takes_of rfl rfl rfl rfl) fun _ _ _ _ z => z) (pa_cons (pv 2) (pa_cons (pv 5) pa_nil)))) pa_nil))) (pss_cons (ps_expr (pe_bm PySem.F.plainAttrs_list PySem.F.slot_list_append PySem.F.type_list_append mt_append (pv 6) (pa_cons (lam (t := fun E => MKw.tMethK R.T.P.R.A.C "place_of" (spAO K R.T.P.R.A.C R.T.P.eI.C R.T.P.eP.C) gK2V E (tVar 1) (tCons (tVar 5) (tCons (tVar 2) tNil))) rfl (LamX.lamS_by (sc := defScope sPlR) (by decide +kernel)) rfl (fun _ _ _ _ _ => rfl) (fun A outer s H E f c' hrl => MKw.pe_methK (pv 1) R.T.P.R.A.cl R.T.P.ao.m GA (hrl.mono (by decide)) R.KO (passes_call (takes_of rfl rfl rfl rfl) fun _ _ _ _ z => z) (pk_cons (pv 5) (pk_cons (pv 2) pk_nil)))) pa_nil))) (C8.pss_cut (ps_if (PW.pt (pw_or (pt_cmpR (op_neD (hu64 hr)) (pv 6) (pe_op op_rep (pe_lst (pa_cons (Gd.pe_callG GD hgd hr3 rfl R.T.due.g R.T.due.k R.T.due.b .nil pass0 (pa_cons pe_int (pa_cons (pv 5) pa_nil))) pa_nil)) pe_int) (nomark _)) (pw_or1 (pt_cmpR op_ne (pe_meth (pv 1) R.T.P.R.A.cl R.T.P.an.m GN hr6 R.T.P.an.b .nil pass_none (pa_cons (pv 2) pa_nil)) (pv 3) (nomark _))))) (pss_one (ps_ret pe_bl)) pss_nil) (C8.pss_cut (ps_if (pt_cmpR op_eq (pv 2) pe_int (nomark _)) (pss_one (ps_ret (pe_and (pe_cmpR op_eq (pv 3) pe_int (nomark _)) (pe_one (pe_cmpR (op_eqD (hu64 hr)) (lam (t := fun E => tMeth R.T.P.R.A.C "piece" (spAP K R.T.P.R.A.C R.T.P.eI.C R.T.P.eP.C) [] E (tVar 1) (tCons (tC (.int 0)) (tCons (tC (.int 0)) tNil))) rfl (LamX.lamS_by (sc := defScope sPlR) (by decide +kernel)) rfl (fun _ _ _ _ _ => rfl) (fun A outer s H E f c' hrl => pe_meth (pv 1) R.T.P.R.A.cl R.T.P.ap.m GP (hrl.mono (by decide)) R.T.P.ap.b .nil (passes_call (takes_of rfl rfl rfl rfl) fun _ _ _ _ z => z) (pa_cons pe_int (pa_cons pe_int pa_nil)))) (Gd.pe_callG GD hgd hr3 rfl R.T.due.g R.T.due.k R.T.due.b .nil pass0 (pa_cons pe_int (pa_cons pe_int pa_nil))) (nomark _)))))) pss_nil) (pss_cons (ps_set (i := 6) scPr.nd rfl (.inl rfl) (pe_lst (pa_cons (lam (t := tTrue R.T) rfl (LamX.lamS_by (sc := defScope sPlR) (by decide +kernel)) rfl (fun _ _ _ _ _ => rfl) (fun A outer s H E f c' hrl => pe_imp (t' := tTrue R.T E) (pe_cmpR op_lt (pe_ix ix_tup (pe_meth (pv 1) R.T.P.R.A.cl R.T.P.ap.m GP (hrl.mono (by decide)) R.T.P.ap.b .nil (passes_call (takes_of rfl rfl rfl rfl) fun _ _ _ _ z => z) (pa_cons (pv 2) (pa_cons (pe_op op_sub (pv 3) pe_int) pa_nil))) pe_int (fun _ _ => rfl)) (pv 2) (nomark _)) ?i1)) pa_nil))) (pss_cons (ps_expr (pe_bm PySem.F.plainAttrs_list PySem.F.slot_list_append PySem.F.type_list_append mt_append (pv 6) (pa_cons (lam (t := tTrue R.T) rfl (LamX.lamS_by (sc := defScope sPlR) (by decide +kernel)) rfl (fun _ _ _ _ _ => rfl) (fun A outer s H E f c' hrl => pe_imp (t' := tTrue R.T E) (pe_cmpR op_eq (pe_meth (pv 1) R.T.P.R.A.cl R.T.P.ao.m GA (hrl.mono (by decide)) R.T.P.ao.b .nil (passes_call (takes_of rfl rfl rfl rfl) fun _ _ _ _ z => z) (pa_cons (pv 2) (pa_cons (pe_op op_sub (pv 2) pe_int) pa_nil))) (pe_op op_sub (pv 3) pe_int) (nomark _)) ?i2)) pa_nil))) (pss_cons (ps_expr (pe_bm PySem.F.plainAttrs_list PySem.F.slot_list_append PySem.F.type_list_append mt_append (pv 6) (pa_cons (lam (t := tTrue R.T) rfl (LamX.lamS_by (sc := defScope sPlR) (by decide +kernel)) rfl (fun _ _ _ _ _ => rfl) (fun A outer s H E f c' hrl => pe_imp (t' := tTrue R.T E) (pe_cmpR op_eq (pe_ix ix_tup (pe_meth (pv 1) R.T.P.R.A.cl R.T.P.ap.m GP (hrl.mono (by decide)) R.T.P.ap.b .nil (passes_call (takes_of rfl rfl rfl rfl) fun _ _ _ _ z => z) (pa_cons (pv 2) (pa_cons pe_int pa_nil))) pe_int (fun _ _ => rfl)) pe_int (nomark _)) ?i3)) pa_nil))) (pss_one (ps_ret (pe_cmpR (op_eqD (hu64 hr)) (pv 6) (pe_op op_rep (pe_lst (pa_cons (pe_lst (pa_cons pe_str (pa_cons pe_str pa_nil))) pa_nil)) pe_int) (nomark _))))))))))))))))), ?_⟩
    case i1 =>
      rintro σ H Q ⟨o, t, n, m, h1, h2, h3, hM, g, hn, hp, rfl, k⟩
      obtain ⟨dx, px, vx, ex, _⟩ := id hM
      have l1 := lens_ne (t := t) hp
      have ne : lens (cuttersOf t) n ≠ [] := fun z => by rw [z] at l1; exact absurd l1 (by decide)
      obtain ⟨a1, _⟩ := last_one (lens_Pos n cutters_ct) ne
      rw [lens_sum] at a1
      have em : (((lens (cuttersOf t) n).length : Nat) : Int) - 1 = (((lens (cuttersOf t) n).length - 1 : Nat) : Int) := by omega
      refine ⟨_, h1, o, dx, _, rfl, ex, no_piece, _, h2, _, h3, _, _, rfl, rfl, ?_⟩
      refine tnil_of ?_
      show spAP K _ _ _ [V.ref o, V.int n, V.int ((((lens (cuttersOf t) n).length : Nat) : Int) - 1)] H _ E
      rw [em]
      refine ap_ok R.T hM g hn (by omega) fun H' q s' hq => ?_
      refine ⟨q, _, 0, _, rfl, rfl, SqT.of hq, rfl, _, h2, _, _, rfl, rfl, ?_⟩
      show Q (V.bl (decide (((((lens (cuttersOf t) n).take ((lens (cuttersOf t) n).length - 1)).sum : Nat) : Int) < (n : Int)))) H'
      rw [decide_eq_true (show (((lens (cuttersOf t) n).take ((lens (cuttersOf t) n).length - 1)).sum : Int) < (n : Int) by omega)]
      exact k H' s'
    case i2 =>
      rintro σ H Q ⟨o, t, n, m, h1, h2, h3, hM, g, hn, hp, rfl, k⟩
      obtain ⟨dx, px, vx, ex, _⟩ := id hM
      have l1 := lens_ne (t := t) hp
      have ne : lens (cuttersOf t) n ≠ [] := fun z => by rw [z] at l1; exact absurd l1 (by decide)
      obtain ⟨_, a2⟩ := last_one (lens_Pos n cutters_ct) ne
      rw [lens_sum] at a2
      have en : (n : Int) - 1 = ((n - 1 : Nat) : Int) := by omega
      refine ⟨_, h1, o, dx, _, rfl, ex, no_place, _, h2, _, h2, _, _, rfl, rfl, ?_⟩
      refine tnil_of ?_
      show spAO K _ _ _ [V.ref o, V.int n, V.int ((n : Int) - 1)] H _ E
      rw [en]
      refine ao_ok R.T hM g hn (by omega) fun H' s' => ?_
      refine ⟨_, h3, _, _, rfl, rfl, rfl, ?_⟩
      rw [a2, decide_eq_true (show V.int (((lens (cuttersOf t) n).length - 1 : Nat) : Int) = V.int ((((lens (cuttersOf t) n).length : Nat) : Int) - 1) from congrArg V.int (by omega))]
      exact k H' s'
    case i3 =>
      rintro σ H Q ⟨o, t, n, m, h1, h2, h3, hM, g, hn, hp, rfl, k⟩
      obtain ⟨dx, px, vx, ex, _⟩ := id hM
      refine ⟨_, h1, o, dx, _, rfl, ex, no_piece, _, h2, ?_⟩
      refine tci_of ?_
      refine ap_ok R.T (i := 0) hM g hn (lens_ne hp) fun H' q s' hq => ?_
      refine ⟨q, _, 0, _, rfl, rfl, SqT.of hq, rfl, rfl, ?_⟩
      exact k H' s'
    -- most
    obtain ⟨dxL, pxL, vxL, exL, _⟩ := id hL
    generalize hm : (lens (cuttersOf t) n).length = m
    have hm1 : m ≤ n := by rw [← hm]; exact lens_len cutters_ct
    refine ⟨fun σ H' => σ = [some (.ref j), some (.ref o), some (.int n), some (.int m), none, none, none] ∧ Same H H', ?_, ?_⟩
    · refine ⟨_, rfl, o, dxL, _, rfl, exL, no_number, _, rfl, ?_⟩
      refine tnil_of ?_
      refine an_ok R.T hL hg hn fun H1 s1 => ?_
      rw [hm]
      exact ⟨rfl, s1⟩
    rintro _ H1 ⟨rfl, s1⟩
    have J1 := hJ.same s1
    have big : ∀ {H6 : Hp} {i b : Int}, 0 ≤ i → b < i → i < 10 ^ 20 → BaI R.T b (RpL.cut [j] H6) (.int i) (PyData.shown (.int i)) := fun {H6 i b} c a d => bad_big R.T a c d
    -- bad, far
    refine ⟨fun σ H' => ∃ (bad : V) (tx : Str), σ = [some (.ref j), some (.ref o), some (.int n), some (.int m), some bad, none, none] ∧ Off j H H' ∧ Jar H' j ∧ BaI R.T ((m : Int) - 1) (RpL.cut [j] H') bad tx, ?_, ?_⟩
    · refine ⟨_, rfl, _, rfl, j, rfl, J1, fun H2 bad0 tx o2 J2 hb2 => ?_⟩
      refine ⟨_, rfl, _, rfl, _, _, rfl, rfl, _, rfl, j, _, rfl, J2, by decide, by decide, fun H3 d d0 d1 o3 J3 => ⟨_, _, rfl, rfl, ?_⟩⟩
      refine ⟨_, _, rfl, rfl, ⟨by decide, by decide, by decide⟩, _, rfl, (by show 5 ≤ sizeLine; decide), fun L nL => ?_⟩
      refine ⟨j, L, [bad0, .int m, .int ((m : Int) + 1 + d), .int (10 ^ Int.toNat 18), .int m], rfl, J3.new nL, jar_ne J3 nL, SqL.of upd_same, (by show 0 < 5; decide), (by show 5 < 1073741824; decide), fun H6 i6 y hy o6 J6 => ?_⟩
      have o36 := (Same.off (j := j) (same_new (o := .lst [bad0, .int m, .int ((m : Int) + 1 + d), .int (10 ^ Int.toNat 18), .int m]) nL)).trans o6
      have o := (((Same.off (j := j) s1).trans o2).trans o3).trans o36
      have e18 : (10 : Int) ^ Int.toNat 18 = 1000000000000000000 := by decide
      have e20 : (10 : Int) ^ 20 = 100000000000000000000 := by decide
      match i6, hy with
      | 0, h => cases h; exact ⟨bad0, tx, rfl, o, J6, (((hb2 _).same (cj_off o3)).same (cj_off o36))⟩
      | 1, h => cases h; exact ⟨_, _, rfl, o, J6, big (by omega) (by omega) (by rw [e20]; omega)⟩
      | 2, h => cases h; exact ⟨_, _, rfl, o, J6, big (by omega) (by omega) (by rw [e20]; omega)⟩
      | 3, h => cases h; exact ⟨_, _, rfl, o, J6, big (by decide) (by rw [e18]; omega) (by decide)⟩
      | 4, h => cases h; exact ⟨_, _, rfl, o, J6, big (by omega) (by omega) (by rw [e20]; omega)⟩
      | n + 5, h => cases h
    rintro _ H3 ⟨bad, tx, rfl, o3, J3, hb3⟩
    refine ⟨fun σ H' => ∃ (far : V) (ty : Str), σ = [some (.ref j), some (.ref o), some (.int n), some (.int m), some bad, some far, none] ∧ Off j H H' ∧ Jar H' j ∧ BaI R.T ((m : Int) - 1) (RpL.cut [j] H') bad tx ∧ BaI R.T ((n : Int) - 1) (RpL.cut [j] H') far ty, ?_, ?_⟩
    · refine ⟨_, rfl, _, rfl, j, rfl, J3, fun H2 bad0 ty o2 J2 hb2 => ?_⟩
      refine ⟨_, rfl, _, rfl, _, _, rfl, rfl, _, rfl, j, _, rfl, J2, by decide, by decide, fun H5 d d0 d1 o5 J5 => ⟨_, _, rfl, rfl, ?_⟩⟩
      refine ⟨_, _, rfl, rfl, ⟨by decide, by decide, by decide⟩, _, rfl, (by show 5 ≤ sizeLine; decide), fun L nL => ?_⟩
      refine ⟨j, L, [bad0, .int n, .int ((n : Int) + 1 + d), .int (10 ^ Int.toNat 19), .int n], rfl, J5.new nL, jar_ne J5 nL, SqL.of upd_same, (by show 0 < 5; decide), (by show 5 < 1073741824; decide), fun H6 i6 y hy o6 J6 => ?_⟩
      have o56 := (Same.off (j := j) (same_new (o := .lst [bad0, .int n, .int ((n : Int) + 1 + d), .int (10 ^ Int.toNat 19), .int n]) nL)).trans o6
      have o36 := (o2.trans o5).trans o56
      have o := o3.trans o36
      have hb := hb3.same (cj_off o36)
      have e19 : (10 : Int) ^ Int.toNat 19 = 10000000000000000000 := by decide
      have e20 : (10 : Int) ^ 20 = 100000000000000000000 := by decide
      match i6, hy with
      | 0, h => cases h; exact ⟨bad0, ty, rfl, o, J6, hb, (((hb2 _).same (cj_off o5)).same (cj_off o56))⟩
      | 1, h => cases h; exact ⟨_, _, rfl, o, J6, hb, big (by omega) (by omega) (by rw [e20]; omega)⟩
      | 2, h => cases h; exact ⟨_, _, rfl, o, J6, hb, big (by omega) (by omega) (by rw [e20]; omega)⟩
      | 3, h => cases h; exact ⟨_, _, rfl, o, J6, hb, big (by decide) (by rw [e19]; omega) (by decide)⟩
      | 4, h => cases h; exact ⟨_, _, rfl, o, J6, hb, big (by omega) (by omega) (by rw [e20]; omega)⟩
      | n + 5, h => cases h
    rintro _ H4 ⟨far, ty, rfl, o4, J4, hb4, hf4⟩
    clear hb3 o3 J3 H3
    have T4 := tabs_off hJ o4 hT
    have hb := hb4.same cj_all
    have hf := hf4.same cj_all
    have hM : ChainAt R.T.P.R.A.C (RpL.cut [] H4) o t := chain_part (fun b u _ nt e => RpL.cut_at (by simp) e nt) (hL.off o4 hJ)
    have ex4 : ∀ {Hb : Hp}, Same (RpL.cut [] H4) Hb → LamX.ExtN H4 Hb := ex_of
    have tb : RpL.NoTb (RpL.cut [] H4) := RpL.cut_tb
    have sub0 : Same (RpL.cut [] H4) H4 := RpL.cut_up
    have JD : Jar (RpL.cut [] H4) j := by
      obtain ⟨x, y, z, e⟩ := J4
      exact ⟨x, y, z, RpL.cut_at (by simp) e (by intro ps z; cases z)⟩
    have fin : ∀ {Hb : Hp}, Same (RpL.cut [] H4) Hb → LamX.Tabs Tb Hb → Q (.bl true) Hb := fun {Hb} s T => k Hb (o4.offN.trans (extN_off (ex4 s))) (JD.same s) T
    clear hb4 hf4
    generalize RpL.cut [] H4 = D at *
    have f2 := R.T.C.f2
    have okx := hb.sh.ok
    have oky := hf.sh.ok
    obtain ⟨dx0, px0, vx0, ex0, _⟩ := id hM
    subst hm
    -- bad
    refine lam_bad R.T tb sub0 T4 f2 hb.sh (fun H1 E Q' s1 er => ⟨_, rfl, o, dx0, _, rfl, s1 _ _ ex0, no_piece, _, rfl, _, rfl, ap_far R.T hM hg hn hb s1 er⟩) fun Ha p1 xe1 Ta hp1 fr1 => ?_
    refine ⟨(by show 1 ≤ sizeLine; decide), fun sq nsq => ?_⟩
    have st1 := RpL.SeenD.first tb sub0 xe1 Ta hp1 fr1 nsq
    show tSeq _ _ _ _ (upd Ha sq (.lst [.ref p1]))
    generalize upd Ha sq (.lst [.ref p1]) = Ha1 at st1 ⊢
    refine ⟨_, rfl, .inl ⟨rfl, _, SqL.of st1.at_⟩, ?_⟩
    refine lam_bad R.T tb st1.sub st1.tab f2 hb.sh (fun H1 E Q' s1 er => ⟨_, rfl, o, dx0, _, rfl, s1 _ _ ex0, no_piece, _, rfl, _, rfl, ap_far R.T hM hg hn hb s1 er⟩) fun Hb2 p2 xe2 tq2 hp2 fr2 => ?_
    obtain ⟨a2, st2⟩ := st1.step tb xe2 tq2 hp2 fr2
    refine ⟨sq, _, _, rfl, rfl, a2, small1000 (by show 1 ≤ 1000; decide), ?_⟩
    have s2' : RpL.SeenD Tb D (upd Hb2 sq (.lst ([V.ref p1] ++ [.ref p2]))) sq [.ref p1, .ref p2] (List.replicate 2 (rowV false false true tx)) := st2
    show C8.tCut _ _ _ _ (upd Hb2 sq (.lst ([V.ref p1] ++ [.ref p2])))
    generalize upd Hb2 sq (.lst ([V.ref p1] ++ [.ref p2])) = Hs at s2' ⊢
    clear st1 st2 a2
    refine ⟨fun σ H' => σ = [some (.ref j), some (.ref o), some (.int n), some (.int (lens (cuttersOf t) n).length), some bad, some far, some (.ref sq)] ∧ Same D H' ∧ LamX.Tabs Tb H', ?_, ?_⟩
    · refine ⟨_, rfl, _, rfl, 2, bad, tx, rfl, hb.sh.same s2'.sub, fun H7 r s7 nr hr7 => ?_⟩
      refine ⟨(by show 1 ≤ sizeLine; decide), fun l nl => ⟨l, 2, [.ref r], rfl, rfl, upd_same, by decide, by decide, (by show 1 * 2 ≤ sizeLine; decide), fun z nz => ?_⟩⟩
      have u1 := same_new (o := .lst [.ref r]) nl
      have u2 := same_new (o := .lst (List.replicate (2 : Int).toNat [V.ref r]).flatten) nz
      have s78 := Same.trans s7 (Same.trans u1 u2)
      have ly := rowD_lay (b0 := false) (b1 := false) (b2 := true) okx
      obtain ⟨d, e, q1, q2, q3, q4, q5⟩ := seen_due (fun _ => row_dp _ _ _ _) ly.1 ly.2 s2' s78 (u2 _ _ (u1 _ _ hr7)) (z := z) (by rw [upd_same, flat_one]; rfl)
      refine ⟨d, e, q1, q2, q3, q4, _, rfl, ?_⟩
      rw [q5]
      exact iteF ⟨rfl, Same.trans s2'.sub s78, s2'.tab.ext s78⟩
    rintro _ Hs2 ⟨rfl, sD2, Ts2⟩
    clear s2' Hs
    -- far
    refine lam_bad R.T tb sD2 Ts2 f2 hf.sh (fun H1 E Q' s1 er => ⟨_, rfl, o, dx0, _, rfl, s1 _ _ ex0, no_place, _, rfl, _, rfl, ao_far R.T hM hg hn hf s1 er⟩) fun Hc z1 xe1 Ta hp1 fr1 => ?_
    refine ⟨(by show 1 ≤ sizeLine; decide), fun sq2 nsq => ?_⟩
    have st1 := RpL.SeenD.first tb sD2 xe1 Ta hp1 fr1 nsq
    show tSeq _ _ _ _ (upd Hc sq2 (.lst [.ref z1]))
    generalize upd Hc sq2 (.lst [.ref z1]) = Hc1 at st1 ⊢
    refine ⟨_, rfl, .inl ⟨rfl, _, SqL.of st1.at_⟩, ?_⟩
    refine lam_bad R.T tb st1.sub st1.tab f2 hf.sh (fun H1 E Q' s1 er => ⟨_, rfl, o, dx0, _, rfl, s1 _ _ ex0, no_place, _, rfl, _, rfl, ao_far R.T hM hg hn hf s1 er⟩) fun Hd2 z2 xe2 tq2 hp2 fr2 => ?_
    obtain ⟨a2, st2⟩ := st1.step tb xe2 tq2 hp2 fr2
    refine ⟨sq2, _, _, rfl, rfl, a2, small1000 (by show 1 ≤ 1000; decide), ?_⟩
    have s2' : RpL.SeenD Tb D (upd Hd2 sq2 (.lst ([V.ref z1] ++ [.ref z2]))) sq2 [.ref z1, .ref z2] (List.replicate 2 (rowV false false true ty)) := st2
    show C8.tCut _ _ _ _ (upd Hd2 sq2 (.lst ([V.ref z1] ++ [.ref z2])))
    generalize upd Hd2 sq2 (.lst ([V.ref z1] ++ [.ref z2])) = Hs at s2' ⊢
    clear st1 st2 a2
    refine ⟨fun σ H' => σ = [some (.ref j), some (.ref o), some (.int n), some (.int (lens (cuttersOf t) n).length), some bad, some far, some (.ref sq2)] ∧ Same D H' ∧ LamX.Tabs Tb H', ?_, ?_⟩
    · refine ⟨_, rfl, _, rfl, 2, far, ty, rfl, hf.sh.same s2'.sub, fun H7 r s7 nr hr7 => ?_⟩
      refine ⟨(by show 1 ≤ sizeLine; decide), fun l nl => ⟨l, 2, [.ref r], rfl, rfl, upd_same, by decide, by decide, (by show 1 * 2 ≤ sizeLine; decide), fun z nz => ?_⟩⟩
      have u1 := same_new (o := .lst [.ref r]) nl
      have u2 := same_new (o := .lst (List.replicate (2 : Int).toNat [V.ref r]).flatten) nz
      have s78 := Same.trans s7 (Same.trans u1 u2)
      have ly := rowD_lay (b0 := false) (b1 := false) (b2 := true) oky
      obtain ⟨d, e, q1, q2, q3, q4, q5⟩ := seen_due (fun _ => row_dp _ _ _ _) ly.1 ly.2 s2' s78 (u2 _ _ (u1 _ _ hr7)) (z := z) (by rw [upd_same, flat_one]; rfl)
      refine ⟨d, e, q1, q2, q3, q4, _, rfl, ?_⟩
      rw [q5]
      have sD := Same.trans s2'.sub s78
      refine iteF ⟨_, rfl, o, dx0, _, rfl, sD _ _ ex0, no_number, _, rfl, ?_⟩
      refine tnil_of ?_
      refine an_ok R.T (hM.same sD) hg hn fun H9 s9 => ?_
      refine ⟨_, rfl, rfl, _, rfl, ?_⟩
      rw [decide_eq_true rfl]
      exact iteF ⟨rfl, Same.trans sD s9, s2'.tab.ext (Same.trans s78 s9)⟩
    rintro _ Hs3 ⟨rfl, sD3, Ts3⟩
    clear s2' Hs
    -- none
    have e0 : decide (V.int (n : Int) = V.int 0) = decide (n = 0) := spot_eq n 0
    refine ⟨fun σ H' => 0 < n ∧ σ = [some (.ref j), some (.ref o), some (.int n), some (.int (lens (cuttersOf t) n).length), some bad, some far, some (.ref sq2)] ∧ Same D H' ∧ LamX.Tabs Tb H', ?_, ?_⟩
    · refine ⟨_, rfl, rfl, _, rfl, ?_⟩
      rw [e0]
      refine ite2 (fun c => ?_) (fun c => ?_)
      · have c := of_decide_eq_true c
        subst c
        have l0 : (lens (cuttersOf t) 0).length = 0 := by omega
        have em : decide (V.int (((lens (cuttersOf t) 0).length : Nat) : Int) = V.int 0) = true := decide_eq_true (by rw [l0]; rfl)
        refine ⟨_, rfl, rfl, _, rfl, ?_⟩
        rw [em]
        have h0 : BaI R.T (((lens (cuttersOf t) 0).length : Int) - 1) D (.int 0) (PyData.shown (.int 0)) := bad_big R.T (by omega) (by decide) (by decide)
        refine iteT ?_
        refine lam_bad R.T tb sD3 Ts3 f2 h0.sh (fun H1 E Q' s1 er => ⟨_, rfl, o, dx0, _, rfl, s1 _ _ ex0, no_piece, ap_far R.T (n := 0) hM hg (by decide) h0 s1 er⟩) fun Hc z1 xe1 Ta hp1 fr1 => ?_
        have sc := RpL.sub_ext tb sD3 xe1
        refine ⟨2, .int 0, _, rfl, h0.sh.same sc, fun H7 r s7 nr hr7 => ?_⟩
        have ly := rowD_lay (b0 := false) (b1 := false) (b2 := true) h0.sh.ok
        have sh := one_shaped ly.1 ly.2
        have hr7 : H7 r = some (.lst (rowV false false true (PyData.shown (.int 0)))) := hr7
        refine ⟨_, _, .lst (SqL.of (s7 _ _ hp1)) (row_dp _ _ _ _), .lst (SqL.of hr7) (row_dp _ _ _ _), sh, sh, ?_⟩
        rw [SeqAt.eqv_refl _ (Bool.and_eq_true_iff.mp sh).1]
        exact fin (Same.trans sc s7) (Ta.ext s7)
      · have c := of_decide_eq_false (Bool.not_eq_true _ |>.mp c)
        exact ⟨by omega, rfl, sD3, Ts3⟩
    rintro _ Hs4 ⟨hp, rfl, sD4, Ts4⟩
    -- the three that are true
    have tt : ∀ {H1 : Hp} {E : XK} {Q' : VK}, Same D H1 → (∀ H2, Same H1 H2 → Q' (.bl true) H2) → tTrue R.T E [some (.ref j), some (.ref o), some (.int n), some (.int (lens (cuttersOf t) n).length), some bad, some far, some (.ref sq2)] H1 Q' := fun {H1 E Q'} s q => ⟨o, t, n, _, rfl, rfl, rfl, hM.same s, hg, hn, hp, rfl, q⟩
    refine lam_true R.T tb sD4 Ts4 (fun H1 E Q' s1 q => tt s1 q) fun Hc z1 xe1 Ta hp1 fr1 => ?_
    refine ⟨(by show 1 ≤ sizeLine; decide), fun sq3 nsq => ?_⟩
    have st1 := RpL.SeenD.first tb sD4 xe1 Ta hp1 fr1 nsq
    show tSeq _ _ _ _ (upd Hc sq3 (.lst [.ref z1]))
    generalize upd Hc sq3 (.lst [.ref z1]) = Hc1 at st1 ⊢
    have tt : ∀ {H1 : Hp} {E : XK} {Q' : VK}, Same D H1 → (∀ H2, Same H1 H2 → Q' (.bl true) H2) → tTrue R.T E [some (.ref j), some (.ref o), some (.int n), some (.int (lens (cuttersOf t) n).length), some bad, some far, some (.ref sq3)] H1 Q' := fun {H1 E Q'} s q => ⟨o, t, n, _, rfl, rfl, rfl, hM.same s, hg, hn, hp, rfl, q⟩
    refine ⟨_, rfl, .inl ⟨rfl, _, SqL.of st1.at_⟩, ?_⟩
    refine lam_true R.T tb st1.sub st1.tab (fun H1 E Q' s1 q => tt s1 q) fun Hd2 z2 xe2 tq2 hp2 fr2 => ?_
    obtain ⟨a2, st2⟩ := st1.step tb xe2 tq2 hp2 fr2
    refine ⟨sq3, _, _, rfl, rfl, a2, small1000 (by show 1 ≤ 1000; decide), ?_⟩
    refine ⟨_, rfl, .inl ⟨rfl, _, SqL.of st2.at_⟩, ?_⟩
    refine lam_true R.T tb st2.sub st2.tab (fun H1 E Q' s1 q => tt s1 q) fun Hd3 z3 xe3 tq3 hp3 fr3 => ?_
    obtain ⟨a3, st3⟩ := st2.step tb xe3 tq3 hp3 fr3
    refine ⟨sq3, _, _, rfl, rfl, a3, small1000 (by show 2 ≤ 1000; decide), ?_⟩
    have s3' : RpL.SeenD Tb D (upd Hd3 sq3 (.lst ([V.ref z1] ++ [.ref z2] ++ [.ref z3]))) sq3 [.ref z1, .ref z2, .ref z3] (List.replicate 3 rowG) := st3
    generalize upd Hd3 sq3 (.lst ([V.ref z1] ++ [.ref z2] ++ [.ref z3])) = Hs at s3' ⊢
    clear st1 st2 st3 a2 a3
    refine ⟨_, rfl, (by show 2 ≤ sizeLine; decide), fun r nr => ⟨(by show 1 ≤ sizeLine; decide), fun l nl => ⟨l, 3, [.ref r], rfl, rfl, upd_same, by decide, by decide, (by show 1 * 3 ≤ sizeLine; decide), fun z nz => ?_⟩⟩⟩
    have u0 := same_new (o := .lst rowG) nr
    have u1 := same_new (o := .lst [.ref r]) nl
    have u2 := same_new (o := .lst (List.replicate (3 : Int).toNat [V.ref r]).flatten) nz
    have s78 := Same.trans u0 (Same.trans u1 u2)
    obtain ⟨d, e, q1, q2, q3, q4, q5⟩ := seen_due rowG_dp rowG_lay.1 rowG_lay.2 s3' s78 (u2 _ _ (u1 _ _ upd_same)) (z := z) (by rw [upd_same, flat_one]; rfl)
    refine ⟨d, e, q1, q2, q3, q4, ?_⟩
    rw [q5]
    exact fin (Same.trans s3'.sub s78) (s3'.tab.ext s78)
end
end My

/-! what is no chain is refused -/
namespace My
open PySem L2 Cm LM IsX CmH Gd RpA SkT CH
theorem noC_dq {w : World} {K : PySem.W.Frag} {mg : Str → Option Value} (T : TxOd w K mg) {D : Hp} {v : V} {d : PyData} (a : Dq D v d) (b : d.showable = true) (c : d.depth ≤ 64) (e : d.shown.length ≤ 1000) (f : PyData.strOk d.shown = true) : ∃ tx, NoC T D v tx := ⟨_, .dat a ⟨b, c, e, f⟩, _, dq_ty a, T.noC d⟩
def some8 (t1 x l1 dd : Addr) : List V := [.non, .str "cut 3", .int 5, .ref t1, .ref x, .ref l1, .ref dd, .bl true]
theorem pick60 {w : World} {K : PySem.W.Frag} {mg : Str → Option Value} (T : TxOd w K mg) {D : Hp} {i : Nat} {v : V} {t1 x l1 dd : Addr} (q1 : D t1 = some (.tup [.str "cut 3"])) (hx : LoopAt T.C.U.T.C D x txL) (q2 : D l1 = some (.lst [])) (q3 : D dd = some (.dK [])) (h : (some8 t1 x l1 dd)[i]? = some v) : ∃ tx, NoC T D v tx := by
  match i, h with
  | 0, h => cases h; exact noC_dq T .non (by decide +kernel) (by decide +kernel) (by decide +kernel) (by decide +kernel)
  | 1, h => cases h; exact noC_dq T (.str _) (by decide +kernel) (by decide +kernel) (by decide +kernel) (by decide +kernel)
  | 2, h => cases h; exact noC_dq T (.int _) (by decide +kernel) (by decide +kernel) (by decide +kernel) (by decide +kernel)
  | 3, h => cases h; exact noC_dq T (.tup q1 (.cons (.str _) .nil)) (by decide +kernel) (by decide +kernel) (by decide +kernel) (by decide +kernel)
  | 4, h => cases h; exact ⟨_, .src rfl hx, _, loop_ty T.C.U.T T.ly hx, T.lc⟩
  | 5, h => cases h; exact noC_dq T (.lst q2 .nil) (by decide +kernel) (by decide +kernel) (by decide +kernel) (by decide +kernel)
  | 6, h => cases h; exact noC_dq T (.dct q3) (by decide +kernel) (by decide +kernel) (by decide +kernel) (by decide +kernel)
  | 7, h => cases h; exact noC_dq T (.bl _) (by decide +kernel) (by decide +kernel) (by decide +kernel) (by decide +kernel)
  | n + 8, h => cases h
abbrev NQr : List Str := ["_law_jar_here", "_law_mine", "_law_some", "_law_bad", "_law_worse", "_law_seen"]
theorem scQr : FnScope NQr ["_law_jar_here", "_law_mine"] (defScope sPaR) := ⟨rfl, rfl, rfl, by decide +kernel, rfl, by decide +kernel, by decide +kernel⟩
section
variable {P : Program} {w : World} {K : PySem.W.Frag} {mg : Str → Option Value} {base : Heap}
theorem fd_bad1 (T : TxOd w K mg) {D H1 : Hp} {tx : Str} {v x : V} {E : XK} {Q : VK} (hb : NoC T D v tx) (s : Same D H1) (er : ErS T.F.S.eC.C v H1 E) : spFD K T.P.R.A.C T.F.S.eC.C [v, x] H1 Q E :=
  let ⟨ty, a, b⟩ := hb.2
  ⟨v, x, rfl, .inl ⟨ty, TyX_same s a, b, er.here⟩⟩
theorem fd_bad2 (T : TxOd w K mg) {D H1 : Hp} {o : Addr} {t tx : Str} {v : V} {E : XK} {Q : VK} (hM : ChainAt T.P.R.A.C D o t) (g : goodC t = true) (hb : NoC T D v tx) (s : Same D H1) (er : ErS T.F.S.eC.C v H1 E) : spFD K T.P.R.A.C T.F.S.eC.C [.ref o, v] H1 Q E :=
  let ⟨ty, a, b⟩ := hb.2
  ⟨.ref o, v, rfl, .inr ⟨o, t, rfl, hM.same s, g, .inl ⟨ty, TyX_same s a, b, er.here⟩⟩⟩
theorem ok_qr60 {c3 P3 : Addr} {Tb : List (Addr × Str)} (R : TxLR w K mg) (hcd : R.qr.fd.code = .ref c3) (mem : (P3, qL3) ∈ Tb) (uni : ∀ q ∈ Tb, q.1 = P3 → q.2 = qL3) (sm : ∃ ob, base.get? sysModules = some ob) (TB : LamX.TabB base mg c3 P3) : Gd.FnG P w K mg base CX0 10 R.qr.f R.qr.fd ["_law_jar_here", "_law_mine"] (spIr R.T Tb) := by
  have GD : Gd.FnG P w K mg base CX0 3 R.T.due.f R.T.due.fd ["_law_spot", "_law_thing"] (spDue R.T) := ok_due R.T sm
  have GF : FnOk P w K mg base CX0 2 R.T.G.D.frm.f R.T.G.D.frm.fd ["_law_jar_here", "_law_things"] (spFrom K) := ga_from R.T.G.D
  have GL : FnOk P w K mg base (L2.CX P w) 4 R.T.C.U.T.fI R.T.C.U.T.fdI ["self", "text"] (spLI K R.T.C.U.T.C R.T.C.U.T.E.C) := ok_li R.T.C.U.T
  have GX : FnOk P w K mg base (L2.CX P w) 7 R.T.F.fd.f R.T.F.fd.fd ["chain", "other_chain"] (spFD K R.T.F.S.R.A.C R.T.F.S.eC.C) := ok_fd R.T.F
  rw [R.T.eF] at GX
  obtain ⟨ob, sm⟩ := sm
  obtain ⟨oc, od, kV, doc, pm, an, cdv0, ct, osl, efd, lkC, hcgC⟩ := R.T.C.cm.F.ex
  have bC := R.T.C.cm.b
  rw [efd] at bC lkC
  refine Gd.okG R.qr.F scQr (fun vs H Q E h => ?_) (fun cdv A outer s H vs Q E _ _ ecd hgd hr h => ?_)
  · obtain ⟨j, o, t, rfl, _⟩ := h
    rfl
  · obtain ⟨j, o, t, rfl, hJ, hT, hL, hg, k⟩ := h
    have ec : cdv = .ref c3 := ecd.symm.trans hcd
    subst ec
    have hr2 : Room 2 _ := hr.mono (by decide)
    have hr3 : Room 3 _ := hr.mono (by decide)
    have hr5 : Room 5 _ := hr.mono (by decide)
    have hr6 : Room 6 _ := hr.mono (by decide)
    have hr7 : Room 7 _ := hr.mono (by decide)
    have lam : ∀ {X : Cx} {params : Arguments} {body : Expr} {scope : Scope} {t : XK → L2.TE} {p lpos pos : Pos} (eX : X = (cxOf CX0 P w K mg base NQr "_law_pairs_right" (defScope sPaR) R.qr.f (.ref c3) A outer s H E).nox) (L : LamX.LamS X.env.scope scope) (hdef : defaultsOf params X.env = ([], []))
        (hbind : ∀ (q : Str) (cl : List (Str × Addr)) (pm cv ctv : Value), bindArgs (PySem.W.kla_fn "<lambda>" q params body scope cl pm cv ctv) ⟨[], []⟩ = pure [])
        (hbody : ∀ (A : Around) (outer : List Env) (s : Shared) (H : Hp) (E : XK) (f c' : Addr), Room 7 (A.deeper (LamX.lamEnv X scope s.heap.objs.size f c')) → PE (LamX.lamCx X A outer s H E scope f c') body (t E)),
        PE X (.Call (.Name "_law_came" p) [.Lambda params body scope lpos] [] pos) (LamX.tLam Tb (TCame R.T.C) t) := by
      intro X params body scope t p lpos pos eX L hdef hbind hbody
      subst eX
      exact LamX.pe_lamcall (k := 7) rfl R.T.C.cm.g R.T.C.cm.k lkC hcgC bC scCame rfl (.inl rfl) (came_gives (X := (cxOf CX0 P w K mg base NQr "_law_pairs_right" (defScope sPaR) R.qr.f (.ref c3) A outer s H E).nox) R.T.C hgd hr6 sm) TB rfl mem uni hr L hdef hbind hbody
    refine ⟨_, (C8.pss_cut (ps_set (i := 2) scQr.nd rfl (.inl rfl) (pe_lst (pa_cons pe_non (pa_cons pe_str (pa_cons pe_int (pa_cons (pe_tup (pa_cons pe_str pa_nil)) (pa_cons (pe_make R.T.C.U.T.MI GL hr5 rfl R.T.C.U.T.gC R.T.C.U.T.bI .nil pass_none (pa_cons pe_str pa_nil)) (pa_cons (pe_lst pa_nil) (pa_cons pe_dnewK (pa_cons pe_bl pa_nil)))))))))) (C8.pss_cut (ps_asg (pe_tup (pa_cons (pe_call GF hr2 rfl R.T.G.D.frm.g R.T.G.D.frm.k R.T.G.D.frm.b .nil pass0 (pa_cons (pv 0) (pa_cons (pv 2) pa_nil))) (pa_cons (pe_call GF hr2 rfl R.T.G.D.frm.g R.T.G.D.frm.k R.T.G.D.frm.b .nil pass0 (pa_cons (pv 0) (pa_cons (pv 2) pa_nil))) pa_nil))) (pg_tup rfl (pgs_cons (pg_name (i := 3) scQr.nd rfl (.inr rfl)) (pgs_cons (pg_name (i := 4) scQr.nd rfl (.inr rfl)) pgs_nil)))) (pss_cons (ps_set (i := 5) scQr.nd rfl (.inl rfl) (pe_lst (pa_cons (lam (t := fun E => tCall (spFD K R.T.P.R.A.C R.T.F.S.eC.C) [] E (tCons (tVar 3) (tCons (tVar 4) tNil))) rfl (LamX.lamS_by (sc := defScope sPaR) (by decide +kernel)) rfl (fun _ _ _ _ _ => rfl) (fun A outer s H E f c' hrl => pe_call GX hrl rfl R.T.F.fd.g R.T.F.fd.k R.T.F.fd.b .nil (passes_call (takes_of rfl rfl rfl rfl) fun _ _ _ _ z => z) (pa_cons (pv 3) (pa_cons (pv 4) pa_nil)))) pa_nil))) (pss_cons (ps_expr (pe_bm PySem.F.plainAttrs_list PySem.F.slot_list_append PySem.F.type_list_append mt_append (pv 5) (pa_cons (lam (t := fun E => FKw.tCallK0 (spFD K R.T.P.R.A.C R.T.F.S.eC.C) gK0V E (tCons (tVar 1) (tCons (tVar 3) tNil))) rfl (LamX.lamS_by (sc := defScope sPaR) (by decide +kernel)) rfl (fun _ _ _ _ _ => rfl) (fun A outer s H E f c' hrl => FKw.pe_callK0 GX hrl rfl R.T.F.fd.g R.T.F.fd.k R.KF (passes_call (takes_of rfl rfl rfl rfl) fun _ _ _ _ z => z) (pk_cons (pv 1) (pk_cons (pv 3) pk_nil)))) pa_nil))) (C8.pss_cut (ps_if (pt_cmpR (op_neD (hu64 hr)) (pv 5) (pe_op op_rep (pe_lst (pa_cons (Gd.pe_callG GD hgd hr3 rfl R.T.due.g R.T.due.k R.T.due.b .nil pass0 (pa_cons pe_int (pa_cons (pv 3) pa_nil))) pa_nil)) pe_int) (nomark _)) (pss_one (ps_ret pe_bl)) pss_nil) (pss_cons (ps_set (i := 5) scQr.nd rfl (.inl rfl) (pe_lst (pa_cons (lam (t := fun E => tCall (spFD K R.T.P.R.A.C R.T.F.S.eC.C) [] E (tCons (tVar 1) (tCons (tVar 4) tNil))) rfl (LamX.lamS_by (sc := defScope sPaR) (by decide +kernel)) rfl (fun _ _ _ _ _ => rfl) (fun A outer s H E f c' hrl => pe_call GX hrl rfl R.T.F.fd.g R.T.F.fd.k R.T.F.fd.b .nil (passes_call (takes_of rfl rfl rfl rfl) fun _ _ _ _ z => z) (pa_cons (pv 1) (pa_cons (pv 4) pa_nil)))) pa_nil))) (pss_cons (ps_expr (pe_bm PySem.F.plainAttrs_list PySem.F.slot_list_append PySem.F.type_list_append mt_append (pv 5) (pa_cons (lam (t := fun E => FKw.tCallK0 (spFD K R.T.P.R.A.C R.T.F.S.eC.C) gK0V E (tCons (tVar 4) (tCons (tVar 1) tNil))) rfl (LamX.lamS_by (sc := defScope sPaR) (by decide +kernel)) rfl (fun _ _ _ _ _ => rfl) (fun A outer s H E f c' hrl => FKw.pe_callK0 GX hrl rfl R.T.F.fd.g R.T.F.fd.k R.KF (passes_call (takes_of rfl rfl rfl rfl) fun _ _ _ _ z => z) (pk_cons (pv 4) (pk_cons (pv 1) pk_nil)))) pa_nil))) (pss_one (ps_ret (pe_and (pe_cmpR (op_eqD (hu64 hr)) (pv 5) (pe_op op_rep (pe_lst (pa_cons (Gd.pe_callG GD hgd hr3 rfl R.T.due.g R.T.due.k R.T.due.b .nil pass0 (pa_cons pe_int (pa_cons (pv 4) pa_nil))) pa_nil)) pe_int) (nomark _)) (pe_one (pe_cmpR op_isN (pe_call GX hr7 rfl R.T.F.fd.g R.T.F.fd.k R.T.F.fd.b .nil pass_none (pa_cons (pv 1) (pa_cons (pv 1) pa_nil))) pe_non (nomark _))))))))))))), ?_⟩
    -- the odd things
    refine ⟨fun σ H' => ∃ (L t1 x l1 dd : Addr), σ = [some (.ref j), some (.ref o), some (.ref L), none, none, none] ∧ Same H H' ∧ L ≠ j ∧ H' L = some (.lst (some8 t1 x l1 dd)) ∧ t1 ≠ j ∧ H' t1 = some (.tup [.str "cut 3"]) ∧ LoopAt R.T.C.U.T.C H' x txL ∧ l1 ≠ j ∧ H' l1 = some (.lst []) ∧ dd ≠ j ∧ H' dd = some (.dK []), ?_, ?_⟩
    · refine ⟨(by show 1 ≤ sizeLine; decide), fun t1 n1 => ?_⟩
      have u1 := same_new (o := .tup [.str "cut 3"]) n1
      have g1 := upd_same (H := H) (a := t1) (o := .tup [.str "cut 3"])
      have tj := jar_ne hJ n1
      generalize upd H t1 (.tup [.str "cut 3"]) = H1 at u1 g1 ⊢
      intro x dx nx ndx nex
      refine ⟨x, dx, .str txL, rfl, upd_same, typed_str _, (show txL.length ≤ 100000 by decide +kernel), fun t' et _ H4 o4 h4 => ⟨rfl, ?_⟩, fun z => absurd ((show good (.str txL) = true from (by decide +kernel : goodText txL = true)).symm.trans z) (by decide)⟩
      cases et
      have s4 := made_same nx ndx o4
      have s14 := Same.trans u1 s4
      refine ⟨Nat.zero_le _, fun l1 nl1 dd ndd => ⟨(by show 8 ≤ sizeLine; decide), fun L nL => ?_⟩⟩
      have v1 := same_new (o := .lst []) nl1
      have v2 := same_new (o := .dK []) ndd
      have v3 := same_new (o := .lst (some8 t1 x l1 dd)) nL
      have v12 := Same.trans v1 v2
      have v13 := Same.trans v1 (Same.trans v2 v3)
      refine ⟨L, t1, x, l1, dd, rfl, Same.trans s14 v13, jar_ne (hJ.same (Same.trans s14 v12)) nL, upd_same, tj, v13 _ _ (s4 _ _ g1), h4.same v13, jar_ne (hJ.same s14) nl1, v3 _ _ (v2 _ _ upd_same), jar_ne (hJ.same (Same.trans s14 v1)) ndd, v3 _ _ upd_same⟩
    rintro _ H1 ⟨L, t1, x, l1, dd, rfl, s1, Lj, hLs, tj, ht, hx, lj, hl, dj, hd⟩
    have J1 := hJ.same s1
    refine ⟨fun σ H' => ∃ (bad worse : V) (tx ty : Str), σ = [some (.ref j), some (.ref o), some (.ref L), some bad, some worse, none] ∧ Off j H H' ∧ Jar H' j ∧ NoC R.T (RpL.cut [j] H') bad tx ∧ NoC R.T (RpL.cut [j] H') worse ty, ?_, ?_⟩
    · refine ⟨_, rfl, _, rfl, j, L, _, rfl, J1, Lj, SqL.of hLs, (by show 0 < 8; decide), (by show 8 < 1073741824; decide), fun H2 i2 bad hi2 o2 J2 => ?_⟩
      have hLs2 := o2 _ _ Lj hLs
      refine ⟨_, rfl, _, rfl, j, L, _, rfl, J2, Lj, SqL.of hLs2, (by show 0 < 8; decide), (by show 8 < 1073741824; decide), fun H3 i3 worse hi3 o3 J3 => ⟨(by show 2 ≤ sizeLine; decide), fun q nq => ⟨q, _, rfl, SqT.of upd_same, rfl, _, _, rfl, _, _, rfl, rfl, ?_⟩⟩⟩
      have u3 := same_new (o := .tup [bad, worse]) nq
      have o23 := (o2.trans o3).trans (Same.off (j := j) u3)
      have J4 := J3.same u3
      have q1 := cj tj (o23 _ _ tj ht) (by intro ps z; cases z)
      have q2 := cj lj (o23 _ _ lj hl) (by intro ps z; cases z)
      have q3 := cj dj (o23 _ _ dj hd) (by intro ps z; cases z)
      have hx4 : LoopAt R.T.C.U.T.C (RpL.cut [j] (upd H3 q (.tup [bad, worse]))) x txL := loop_part (in_cut J4) (hx.off o23 J1)
      obtain ⟨tx, h1⟩ := pick60 R.T q1 hx4 q2 q3 hi2
      obtain ⟨ty, h2⟩ := pick60 R.T q1 hx4 q2 q3 hi3
      exact ⟨bad, worse, tx, ty, rfl, (Same.off (j := j) s1).trans o23, J4, h1, h2⟩
    rintro _ H4 ⟨bad, worse, tx, ty, rfl, o4, J4, hb4, hw4⟩
    have T4 := tabs_off hJ o4 hT
    have hb := hb4.same cj_all
    have hw := hw4.same cj_all
    have hM : ChainAt R.T.P.R.A.C (RpL.cut [] H4) o t := chain_part (fun b u _ nt e => RpL.cut_at (by simp) e nt) (hL.off o4 hJ)
    have ex4 : ∀ {Hb : Hp}, Same (RpL.cut [] H4) Hb → LamX.ExtN H4 Hb := ex_of
    have tb : RpL.NoTb (RpL.cut [] H4) := RpL.cut_tb
    have sub0 : Same (RpL.cut [] H4) H4 := RpL.cut_up
    have JD : Jar (RpL.cut [] H4) j := by
      obtain ⟨x, y, z, e⟩ := J4
      exact ⟨x, y, z, RpL.cut_at (by simp) e (by intro ps z; cases z)⟩
    have fin : ∀ {Hb : Hp}, Same (RpL.cut [] H4) Hb → LamX.Tabs Tb Hb → Q (.bl true) Hb := fun {Hb} s T => k Hb (o4.offN.trans (extN_off (ex4 s))) (JD.same s) T
    clear hb4 hw4
    generalize RpL.cut [] H4 = D at *
    have f0 := R.T.C.f0
    have okx := hb.1.ok
    have oky := hw.1.ok
    refine lam_bad R.T tb sub0 T4 f0 hb.1 (fun H1 E Q' s1 er => ⟨_, rfl, _, rfl, fd_bad1 R.T hb s1 er⟩) fun Ha p1 xe1 Ta hp1 fr1 => ?_
    refine ⟨(by show 1 ≤ sizeLine; decide), fun sq nsq => ?_⟩
    have st1 := RpL.SeenD.first tb sub0 xe1 Ta hp1 fr1 nsq
    show tSeq _ _ _ _ (upd Ha sq (.lst [.ref p1]))
    generalize upd Ha sq (.lst [.ref p1]) = Ha1 at st1 ⊢
    refine ⟨_, rfl, .inl ⟨rfl, _, SqL.of st1.at_⟩, ?_⟩
    refine lam_bad R.T tb st1.sub st1.tab f0 hb.1 (fun H1 E Q' s1 er => ⟨_, rfl, _, rfl, fd_bad1 R.T hb s1 er⟩) fun Hb2 p2 xe2 tq2 hp2 fr2 => ?_
    obtain ⟨a2, st2⟩ := st1.step tb xe2 tq2 hp2 fr2
    refine ⟨sq, _, _, rfl, rfl, a2, small1000 (by show 1 ≤ 1000; decide), ?_⟩
    have s2' : RpL.SeenD Tb D (upd Hb2 sq (.lst ([V.ref p1] ++ [.ref p2]))) sq [.ref p1, .ref p2] (List.replicate 2 (rowV true false false tx)) := st2
    show C8.tCut _ _ _ _ (upd Hb2 sq (.lst ([V.ref p1] ++ [.ref p2])))
    generalize upd Hb2 sq (.lst ([V.ref p1] ++ [.ref p2])) = Hs at s2' ⊢
    clear st1 st2 a2
    refine ⟨fun σ H' => σ = [some (.ref j), some (.ref o), some (.ref L), some bad, some worse, some (.ref sq)] ∧ Same D H' ∧ LamX.Tabs Tb H', ?_, ?_⟩
    · refine ⟨_, rfl, _, rfl, 0, bad, tx, rfl, hb.1.same s2'.sub, fun H7 r s7 nr hr7 => ?_⟩
      refine ⟨(by show 1 ≤ sizeLine; decide), fun l nl => ⟨l, 2, [.ref r], rfl, rfl, upd_same, by decide, by decide, (by show 1 * 2 ≤ sizeLine; decide), fun z nz => ?_⟩⟩
      have u1 := same_new (o := .lst [.ref r]) nl
      have u2 := same_new (o := .lst (List.replicate (2 : Int).toNat [V.ref r]).flatten) nz
      have s78 := Same.trans s7 (Same.trans u1 u2)
      have ly := rowD_lay (b0 := true) (b1 := false) (b2 := false) okx
      obtain ⟨d, e, q1, q2, q3, q4, q5⟩ := seen_due (fun _ => row_dp _ _ _ _) ly.1 ly.2 s2' s78 (u2 _ _ (u1 _ _ hr7)) (z := z) (by rw [upd_same, flat_one]; rfl)
      refine ⟨d, e, q1, q2, q3, q4, _, rfl, ?_⟩
      rw [q5]
      exact iteF ⟨rfl, Same.trans s2'.sub s78, s2'.tab.ext s78⟩
    rintro _ Hs2 ⟨rfl, sD2, Ts2⟩
    clear s2' Hs
    refine lam_bad R.T tb sD2 Ts2 f0 hw.1 (fun H1 E Q' s1 er => ⟨_, rfl, _, rfl, fd_bad2 R.T hM hg hw s1 er⟩) fun Hc z1 xe1 Ta hp1 fr1 => ?_
    refine ⟨(by show 1 ≤ sizeLine; decide), fun sq2 nsq => ?_⟩
    have st1 := RpL.SeenD.first tb sD2 xe1 Ta hp1 fr1 nsq
    show tSeq _ _ _ _ (upd Hc sq2 (.lst [.ref z1]))
    generalize upd Hc sq2 (.lst [.ref z1]) = Hc1 at st1 ⊢
    refine ⟨_, rfl, .inl ⟨rfl, _, SqL.of st1.at_⟩, ?_⟩
    refine lam_bad R.T tb st1.sub st1.tab f0 hw.1 (fun H1 E Q' s1 er => ⟨_, rfl, _, rfl, fd_bad2 R.T hM hg hw s1 er⟩) fun Hd2 z2 xe2 tq2 hp2 fr2 => ?_
    obtain ⟨a2, st2⟩ := st1.step tb xe2 tq2 hp2 fr2
    refine ⟨sq2, _, _, rfl, rfl, a2, small1000 (by show 1 ≤ 1000; decide), ?_⟩
    have s2' : RpL.SeenD Tb D (upd Hd2 sq2 (.lst ([V.ref z1] ++ [.ref z2]))) sq2 [.ref z1, .ref z2] (List.replicate 2 (rowV true false false ty)) := st2
    generalize upd Hd2 sq2 (.lst ([V.ref z1] ++ [.ref z2])) = Hs at s2' ⊢
    clear st1 st2 a2
    refine ⟨_, rfl, _, rfl, 0, worse, ty, rfl, hw.1.same s2'.sub, fun H7 r s7 nr hr7 => ?_⟩
    refine ⟨(by show 1 ≤ sizeLine; decide), fun l nl => ⟨l, 2, [.ref r], rfl, rfl, upd_same, by decide, by decide, (by show 1 * 2 ≤ sizeLine; decide), fun z nz => ?_⟩⟩
    have u1 := same_new (o := .lst [.ref r]) nl
    have u2 := same_new (o := .lst (List.replicate (2 : Int).toNat [V.ref r]).flatten) nz
    have s78 := Same.trans s7 (Same.trans u1 u2)
    have ly := rowD_lay (b0 := true) (b1 := false) (b2 := false) oky
    obtain ⟨d, e, q1, q2, q3, q4, q5⟩ := seen_due (fun _ => row_dp _ _ _ _) ly.1 ly.2 s2' s78 (u2 _ _ (u1 _ _ hr7)) (z := z) (by rw [upd_same, flat_one]; rfl)
    refine ⟨d, e, q1, q2, q3, q4, _, rfl, ?_⟩
    rw [q5]
    have sD := Same.trans s2'.sub s78
    have fn : firstD (cuttersOf t) (cuttersOf t) = none := firstD_none.mpr fun m _ => rfl
    refine iteT ⟨_, rfl, _, rfl, .ref o, .ref o, rfl, .inr ⟨o, t, rfl, hM.same sD, hg, .inr ⟨o, t, rfl, hM.same sD, hg, fun H9 s9 => ?_⟩⟩⟩
    rw [fn]
    refine ⟨rfl, ?_⟩
    exact fin (Same.trans sD s9) (s2'.tab.ext (Same.trans s78 s9))
end
end My

/-! loops filled up; rows without one word -/
namespace LM
open PySem L2 TL
theorem again_ok : isWord "again" rsteps = true ∧ isAdd "again" = false := by decide +kernel
theorem cut_ok : isWord "cut" esteps = true := by decide +kernel
theorem pad_round {B : List Str} (h : isRound B = true) (n : Nat) (hl : B.length + n ≤ 12) : isRound (B ++ List.replicate n ("again" : Str)) = true := by
  obtain ⟨r, rfl, h2, h3, h4⟩ := isRound_iff.mp h
  refine isRound_iff.mpr ⟨r ++ List.replicate n ("again" : Str), rfl, by rw [List.length_append, List.length_replicate]; exact hl, ?_, fun w hw => ?_⟩
  · rw [List.filter_append]
    have e : (List.replicate n ("again" : Str)).filter isAdd = [] := List.filter_eq_nil_iff.mpr fun w hw => by
      rw [List.eq_of_mem_replicate hw, again_ok.2]
      exact Bool.false_ne_true
    rw [e, List.append_nil]
    exact h3
  · rcases List.mem_append.mp hw with hw | hw
    · exact h4 w hw
    · rw [List.eq_of_mem_replicate hw]
      exact again_ok.1
theorem pad_ending {E : List Str} (h : isEnding E = true) (n : Nat) (hl : E.length + n ≤ 6) : isEnding (E ++ List.replicate n ("cut" : Str)) = true := by
  have q := isEnding_iff.mp h
  refine isEnding_iff.mpr ⟨by rw [List.length_append, List.length_replicate]; exact hl, fun w hw => ?_⟩
  rcases List.mem_append.mp hw with hw | hw
  · exact q.2 w hw
  · rw [List.eq_of_mem_replicate hw]
    exact cut_ok
/-- the two rows of a loop without the word at n -/
def outB (B : List Str) (n : Nat) : List Str := if n < B.length then B.eraseIdx n else B
def outE (B E : List Str) (n : Nat) : List Str := if n < B.length then E else E.eraseIdx (n - B.length)
theorem out_row (B E : List Str) (n m : Nat) (hm : m = B.length - (if n < B.length then 1 else 0)) : ((B ++ E).take n ++ (B ++ E).drop (n + 1)).take m = outB B n ∧ ((B ++ E).take n ++ (B ++ E).drop (n + 1)).drop m = outE B E n := by
  rw [← List.eraseIdx_eq_take_drop_succ]
  unfold outB outE
  by_cases h : n < B.length
  · rw [if_pos h] at hm ⊢
    rw [if_pos h, List.eraseIdx_append_of_lt_length h]
    have e : m = (B.eraseIdx n).length := by rw [List.length_eraseIdx, if_pos h]; exact hm
    rw [e, List.take_left, List.drop_left]
    exact ⟨rfl, rfl⟩
  · rw [if_neg h] at hm ⊢
    rw [if_neg h, List.eraseIdx_append_of_length_le (by omega)]
    have e : m = B.length := by omega
    rw [e, List.take_left, List.drop_left]
    exact ⟨rfl, rfl⟩
theorem outB_round {B : List Str} {n : Nat} (h : isRound B = true) (hn : 1 ≤ n) : isRound (outB B n) = true := by
  unfold outB
  split
  · exact round_erase h hn
  · exact h
theorem outE_ending {B E : List Str} {n : Nat} (h : isEnding E = true) : isEnding (outE B E n) = true := by
  unfold outE
  split
  · exact h
  · exact ending_erase h
theorem out_len {B E : List Str} {n : Nat} (h : n < B.length + E.length) : (outB B n).length + (outE B E n).length + 1 = B.length + E.length := by
  unfold outB outE
  by_cases hn : n < B.length
  · rw [if_pos hn, if_pos hn, List.length_eraseIdx, if_pos hn]
    omega
  · rw [if_neg hn, if_neg hn, List.length_eraseIdx, if_pos (by omega)]
    omega
end LM

/-! words taken apart by split -/
namespace LM
open PySem L2 TL
def partsOk (w : Str) : Bool := decide ((orderOf w).2 ∈ rsteps) && (if (orderOf w).1 = Str.empty then decide (Txt.split w ":" = [(orderOf w).2]) else decide (Txt.split w ":" = [(orderOf w).1, (orderOf w).2]) && decide ((orderOf w).1 ∈ tests))
theorem parts_ok : ∀ w ∈ allWd rsteps, partsOk w = true := by decide +kernel
structure Parts (w : Str) : Prop where
  s : (orderOf w).2 ∈ rsteps
  p : ((orderOf w).1 = Str.empty ∧ Txt.split w ":" = [(orderOf w).2]) ∨ ((orderOf w).1 ≠ Str.empty ∧ Txt.split w ":" = [(orderOf w).1, (orderOf w).2] ∧ (orderOf w).1 ∈ tests)
theorem parts_of {w : Str} (h : Wd rsteps w) : Parts w := by
  have q := parts_ok w h.mem
  unfold partsOk at q
  have q2 := Bool.and_eq_true_iff.mp q
  refine ⟨of_decide_eq_true q2.1, ?_⟩
  have q3 := q2.2
  split at q3
  next e => exact .inl ⟨e, of_decide_eq_true q3⟩
  next e =>
    have q4 := Bool.and_eq_true_iff.mp q3
    exact .inr ⟨e, of_decide_eq_true q4.1, of_decide_eq_true q4.2⟩
theorem emp : Str.empty = ("" : Str) := by decide +kernel
theorem esteps_flow : ∀ w ∈ allWd esteps, (orderOf w).2 ≠ "again" ∧ (orderOf w).2 ≠ "stop" := by decide +kernel
theorem ending_flow {E : List Str} (h : isEnding E = true) : ∀ o ∈ E.map orderOf, o.2 ≠ "again" ∧ o.2 ≠ "stop" := by
  intro o ho
  obtain ⟨w, hw, rfl⟩ := List.mem_map.mp ho
  exact esteps_flow w (word_wd ((isEnding_iff.mp h).2 w hw)).mem
theorem ask_order : orderOf "ask" = (("" : Str), ("ask" : Str)) := by decide +kernel
theorem round_tail_wd {B : List Str} (h : isRound B = true) : ∃ r, B = ("ask" : Str) :: r ∧ (∀ w ∈ r, Wd rsteps w) ∧ r.length ≤ 11 := by
  obtain ⟨r, rfl, h2, _, h4⟩ := isRound_iff.mp h
  rw [List.length_cons] at h2
  exact ⟨r, rfl, fun w hw => word_wd (h4 w hw), by omega⟩
theorem ending_wd {E : List Str} (h : isEnding E = true) : (∀ w ∈ E, Wd rsteps w) ∧ E.length ≤ 6 := ⟨fun w hw => (word_wd ((isEnding_iff.mp h).2 w hw)).mono e_r, (isEnding_iff.mp h).1⟩
end LM

namespace My
open PySem L2 Cm LM IsX CmH Gd RpA SkT CH
abbrev sLCh : Stmt := top 51
abbrev sRight : Stmt := top 59
structure TxR (w : World) (K : PySem.W.Frag) (mg : Str → Option Value) where
  L : TxLR w K mg
  ch : Df K mg "_law_chain" sLCh ["_law_cutters_here"]
theorem shown_ne {m : Nat} (h : 0 < m) : PyData.shown (.int (m : Int)) ≠ "0" := fun e => by
  have e0 : ("0" : Str) = PyData.shown (.int ((0 : Nat) : Int)) := by decide +kernel
  rw [e0] at e
  have e : Str.ofString (toString ((m : Nat) : Int)) = Str.ofString (toString ((0 : Nat) : Int)) := e
  have e2 := congrArg TL.tl e
  rw [TL.tl_num, TL.tl_num] at e2
  have := TL.numL_inj e2
  omega
section
variable {P : Program} {w : World} {K : PySem.W.Frag} {mg : Str → Option Value} {base : Heap}
/-! ### _law_chain -/
theorem mk_chain (T : TxA w K mg) {H : Hp} {t : Str} {E : XK} {R : Hp → Prop} {x dx : Addr} (g : goodC t = true) (bd : Bd t) (nx : H x = none) (ndx : H dx = none) (q : ∀ (H' : Hp), Same H H' → ChainAt T.C H' x t → R H') :
    spAI K T.C T.E.C [.ref x, .str t] (upd (upd H dx (.own x)) x (.ins T.C dx [])) (fun v H2 => v = .non ∧ R H2) E := by
  refine ⟨x, dx, _, rfl, upd_same, typed_str _, bd, fun t' et _ H5 o5 l5 => ⟨rfl, ?_⟩, fun z => absurd (g.symm.trans z) (by decide)⟩
  cases et
  exact q H5 (made_same nx ndx o5) l5
def spLCh (C : Addr) : Sp := fun vs H Q _ => ∃ (p : Addr) (cs : List (Kd × Nat)), vs = [.ref p] ∧ CutL H p cs ∧ cs ≠ [] ∧ cs.length ≤ 6 ∧ (∀ c ∈ cs, Ct c) ∧ ∀ (H' : Hp) (x : Addr), Same H H' → ChainAt C H' x (cline cs) → Q (.ref x) H'
theorem scLCh : FnScope ["_law_cutters_here"] ["_law_cutters_here"] (defScope sLCh) := ⟨rfl, rfl, rfl, by decide +kernel, rfl, by decide +kernel, by decide +kernel⟩
theorem ok_lch (A : TxA w K mg) (D : TxAd K mg) (ch : Df K mg "_law_chain" sLCh ["_law_cutters_here"]) : FnOk P w K mg base CX0 5 ch.f ch.fd ["_law_cutters_here"] (spLCh A.C) := by
  have GN : FnOk P w K mg base CX0 1 D.lin.f D.lin.fd ["_law_cutters_here"] spCLine := ok_cline D
  have GM : FnOk P w K mg base (L2.CX P w) 3 A.fI A.fdI ["self", "text"] (spAI K A.C A.E.C) := ok_ai A
  refine ch.F.ok scLCh (fun vs H Q E h => ?_) (fun cdv Ar outer s H vs Q E hr h => ?_)
  · obtain ⟨p, cs, rfl, _⟩ := h
    rfl
  · obtain ⟨p, cs, rfl, hL, ne, hl, hc, k⟩ := h
    have hr1 : Room 1 _ := hr.mono (by decide)
    refine ⟨_, (pss_one (ps_ret (pe_make A.MI GM hr rfl A.gC A.bI .nil pass_none (pa_cons (pe_call GN hr1 rfl D.lin.g D.lin.k D.lin.b .nil pass0 (pa_cons (pv 0) pa_nil)) pa_nil)))), ?_⟩
    refine ⟨_, rfl, p, cs, rfl, hL, by omega, hc, fun H1 s1 => ?_⟩
    refine fun x dx nx ndx nex => mk_chain A (line_good ne hc hl) (Nat.le_trans (line_len hc) (by omega)) nx ndx fun H2 s2 h2 => ?_
    exact k H2 x (Same.trans s1 s2) h2
/-! ### _law_right -/
abbrev NR : List Str := ["_law_jar_here", "_law_mine", "_law_turn"]
theorem scRight : FnScope NR ["_law_jar_here"] (defScope sRight) := ⟨rfl, rfl, rfl, by decide +kernel, rfl, by decide +kernel, by decide +kernel⟩
/-- the state of the turns -/
structure Tt (Tb : List (Addr × Str)) (j : Addr) (H0 H : Hp) : Prop where
  off : OffN j H0 H
  jar : Jar H j
  tab : LamX.Tabs Tb H
theorem ChainAt.offN {C j : Addr} {H H' : Hp} {o : Addr} {t : Str} (s : OffN j H H') (J : Jar H j) (h : ChainAt C H o t) : ChainAt C H' o t := by
  refine chain_part (fun b u nl nt e => s b u ?_ nt e) h
  obtain ⟨x, y, z, q⟩ := J
  exact ne_of e q (nl _)
def spRight3 (Tb : List (Addr × Str)) : Sp := fun vs H Q _ => ∃ j : Addr, vs = [.ref j] ∧ Jar H j ∧ LamX.Tabs Tb H ∧ ∀ H', OffN j H H' → LamX.Tabs Tb H' → Q (.bl true) H'
theorem ok_right {f c1 c2 c3 P1 P2 P3 : Addr} {fd : FuncData} (F : Fun K "_law_right" "_law_right" sRight f fd) (R : TxR w K mg) (h1 : R.L.ir.fd.code = .ref c1) (h2 : R.L.pr.fd.code = .ref c2) (h3 : R.L.qr.fd.code = .ref c3) (n12 : P1 ≠ P2) (n13 : P1 ≠ P3) (n23 : P2 ≠ P3) (sm : ∃ ob, base.get? sysModules = some ob) (TB1 : LamX.TabB base mg c1 P1) (TB2 : LamX.TabB base mg c2 P2) (TB3 : LamX.TabB base mg c3 P3) :
    Gd.FnG P w K mg base CX0 11 f fd ["_law_jar_here"] (spRight3 (Tb3 P1 P2 P3)) := by
  have u1 : ∀ q ∈ Tb3 P1 P2 P3, q.1 = P1 → q.2 = qL1 := fun q hq e => by
    rcases List.mem_cons.mp hq with rfl | hq
    · rfl
    rcases List.mem_cons.mp hq with rfl | hq
    · exact absurd e.symm n12
    · rw [List.mem_singleton.mp hq] at e
      exact absurd e.symm n13
  have u2 : ∀ q ∈ Tb3 P1 P2 P3, q.1 = P2 → q.2 = qL2 := fun q hq e => by
    rcases List.mem_cons.mp hq with rfl | hq
    · exact absurd e n12
    rcases List.mem_cons.mp hq with rfl | hq
    · rfl
    · rw [List.mem_singleton.mp hq] at e
      exact absurd e.symm n23
  have u3 : ∀ q ∈ Tb3 P1 P2 P3, q.1 = P3 → q.2 = qL3 := fun q hq e => by
    rcases List.mem_cons.mp hq with rfl | hq
    · exact absurd e n13
    rcases List.mem_cons.mp hq with rfl | hq
    · exact absurd e n23
    · rw [List.mem_singleton.mp hq]
  have m1 : (P1, qL1) ∈ Tb3 P1 P2 P3 := List.mem_cons_self
  have m2 : (P2, qL2) ∈ Tb3 P1 P2 P3 := List.mem_cons_of_mem _ List.mem_cons_self
  have m3 : (P3, qL3) ∈ Tb3 P1 P2 P3 := List.mem_cons_of_mem _ (List.mem_cons_of_mem _ List.mem_cons_self)
  have GI := ok_ir60 (P := P) R.L h1 m1 u1 sm TB1
  have GP := ok_pr60 (P := P) R.L h2 m2 u2 sm TB2
  have GQ := ok_qr60 (P := P) R.L h3 m3 u3 sm TB3
  have GC : FnOk P w K mg base CX0 3 R.L.T.G.D.cts.f R.L.T.G.D.cts.fd ["_law_jar_here", "_law_most"] spCuts := ok_cuts R.L.T.G.D
  have GH : FnOk P w K mg base CX0 5 R.ch.f R.ch.fd ["_law_cutters_here"] (spLCh R.L.T.P.R.A.C) := ok_lch R.L.T.P.R.A R.L.T.G.D R.ch
  have GG : FnOk P w K mg base CX0 2 R.L.T.G.grt.f R.L.T.G.grt.fd ["_law_jar_here"] spGrt := ok_grt R.L.T.G
  have GN : FnOk P w K mg base (L2.CX P w) 6 R.L.T.P.an.f R.L.T.P.an.fd ["self", "items"] (spAN K R.L.T.P.R.A.C R.L.T.P.eI.C) := ok_an R.L.T.P
  generalize Tb3 P1 P2 P3 = Tb at *
  obtain ⟨ob, sm⟩ := sm
  refine Gd.okG F scRight (fun vs H Q E h => ?_) (fun cdv A outer s H vs Q E _ _ _ hgd hr h => ?_)
  · obtain ⟨j, rfl, _⟩ := h
    rfl
  · obtain ⟨j, rfl, hJ, hT, k⟩ := h
    have hr2 : Room 2 _ := hr.mono (by decide)
    have hr3 : Room 3 _ := hr.mono (by decide)
    have hr5 : Room 5 _ := hr.mono (by decide)
    have hr6 : Room 6 _ := hr.mono (by decide)
    have hu : ((cxOf CX0 P w K mg base NR "_law_right" (defScope sRight) f cdv A outer s H E).nox).A.units + 100 < cLine := by
      have := hr.un
      show (A.deeper _).units + 100 < cLine
      omega
    refine ⟨_, (C8.pss_cut (ps_set (i := 1) scRight.nd rfl (.inl rfl) (pe_call GH hr5 rfl R.ch.g R.ch.k R.ch.b .nil pass0 (pa_cons (pe_call GC hr3 rfl R.L.T.G.D.cts.g R.L.T.G.D.cts.k R.L.T.G.D.cts.b .nil pass0 (pa_cons (pv 0) (pa_cons pe_int pa_nil))) pa_nil))) (C8.pss_cut (ps_for PassesOwn.never rfl (pi_range1 rfl R.L.T.G.D.range (pa_cons pe_int pa_nil)) (pg_name (i := 2) scRight.nd rfl (.inl rfl)) (C8.pss_cut (ps_if (PW.pt (pw_or (pt_not (pt_val (Gd.pe_callG GI hgd hr rfl R.L.ir.g R.L.ir.k R.L.ir.b .nil pass0 (pa_cons (pv 0) (pa_cons (pv 1) pa_nil))))) (pw_or1 (pt_not (pt_val (Gd.pe_callG GQ hgd hr rfl R.L.qr.g R.L.qr.k R.L.qr.b .nil pass0 (pa_cons (pv 0) (pa_cons (pv 1) pa_nil)))))))) (pss_one (ps_ret pe_bl)) pss_nil) (pss_one (ps_if (PW.pt (pw_or (pt_not (pt_val (Gd.pe_callG GP hgd hr rfl R.L.pr.g R.L.pr.k R.L.pr.b .nil pass0 (pa_cons (pv 0) (pa_cons (pv 1) (pa_cons (pe_call GG hr2 rfl R.L.T.G.grt.g R.L.T.G.grt.k R.L.T.G.grt.b .nil pass0 (pa_cons (pv 0) pa_nil)) pa_nil)))))) (pw_or1 (pt_not (pt_val (Gd.pe_callG GP hgd hr rfl R.L.pr.g R.L.pr.k R.L.pr.b .nil pass0 (pa_cons (pv 0) (pa_cons (pv 1) (pa_cons (pv 2) pa_nil))))))))) (pss_one (ps_ret pe_bl)) pss_nil)))) (pss_one (ps_ret (pe_cmpR op_ne (pe_callB (RpA.call_reprA hgd (by omega) sm) (by rfl) R.L.T.C.repr (by decide +kernel) (pa_cons (pe_meth (pv 1) R.L.T.P.R.A.cl R.L.T.P.an.m GN hr6 R.L.T.P.an.b .nil pass_none (pa_cons (pe_op op_sub (pe_op op_pow pe_int pe_int) pe_int) pa_nil)) pa_nil)) pe_str (nomark _)))))), ?_⟩
    refine ⟨fun σ H' => ∃ (o : Addr) (t : Str), σ = [some (.ref j), some (.ref o), none] ∧ Tt Tb j H H' ∧ ChainAt R.L.T.P.R.A.C H' o t ∧ goodC t = true, ?_, ?_⟩
    · refine ⟨_, rfl, j, 6, rfl, hJ, by decide, by decide, fun H1 p cs o1 J1 np pj hC ne hl hc => ?_⟩
      refine ⟨p, cs, rfl, hC, ne, hl, hc, fun H2 x s2 hx => ?_⟩
      have o := o1.trans (Same.off (j := j) s2)
      exact ⟨x, cline cs, rfl, ⟨o.offN, J1.same s2, tabs_off hJ o hT⟩, hx, line_good ne hc hl⟩
    rintro _ H1 ⟨o, t, rfl, T1, hx1, hg⟩
    refine ⟨fun σ H' => (∃ v2 : Option V, σ = [some (.ref j), some (.ref o), v2]) ∧ Tt Tb j H H' ∧ ChainAt R.L.T.P.R.A.C H' o t, ?_, ?_⟩
    · refine ⟨3, rfl, by decide, by decide, for_range (lo := 0) (n := 3) (fun i σ H' => (∃ v2 : Option V, σ = [some (.ref j), some (.ref o), v2]) ∧ Tt Tb j H H' ∧ ChainAt R.L.T.P.R.A.C H' o t) ⟨⟨none, rfl⟩, T1, hx1⟩ ?_ fun _ _ z => z⟩
      rintro i σ H2 hi ⟨⟨v2, rfl⟩, T2, hx2⟩
      have e0 : (0 : Int) + (i : Int) = ((i : Nat) : Int) := by omega
      refine ⟨fun σ H' => σ = [some (.ref j), some (.ref o), some (.int i)] ∧ Tt Tb j H H' ∧ ChainAt R.L.T.P.R.A.C H' o t, ?_, ?_⟩
      · refine ⟨_, rfl, _, rfl, j, o, t, rfl, T2.jar, T2.tab, hx2, hg, fun H3 o3 J3 t3 => ⟨_, rfl, iteF ?_⟩⟩
        have hx3 := ChainAt.offN o3 T2.jar hx2
        refine ⟨_, rfl, _, rfl, j, o, t, rfl, J3, t3, hx3, hg, fun H4 o4 J4 t4 => ⟨_, rfl, iteF ?_⟩⟩
        refine ⟨?_, ⟨T2.off.trans (o3.trans o4), J4, t4⟩, ChainAt.offN o4 J3 hx3⟩
        show [some (V.ref j), some (V.ref o), some (V.int (0 + (i : Int)))] = _
        rw [e0]
      rintro _ H3 ⟨rfl, T3, hx3⟩
      refine ⟨_, rfl, _, rfl, _, rfl, j, rfl, T3.jar, fun H4 g hgr o4 J4 => ?_⟩
      have hx4 := hx3.off o4 T3.jar
      refine ⟨j, o, t, g, rfl, J4, tabs_off T3.jar o4 T3.tab, hx4, hg, hgr, fun H5 o5 J5 t5 => ⟨_, rfl, iteF ?_⟩⟩
      have hx5 := ChainAt.offN o5 J4 hx4
      refine ⟨_, rfl, _, rfl, _, rfl, j, o, t, i, rfl, J5, t5, hx5, hg, by omega, fun H6 o6 J6 t6 => ⟨_, rfl, iteF ?_⟩⟩
      exact ⟨⟨_, rfl⟩, ⟨T3.off.trans (o4.offN.trans (o5.trans o6)), J6, t6⟩, ChainAt.offN o6 J5 hx5⟩
    rintro _ H2 ⟨⟨v2, rfl⟩, T2, hx2⟩
    obtain ⟨dx, px, vx, ex, _⟩ := id hx2
    have l1 := lens_ne (t := t) (n := 999999999999999999) (by decide)
    have l2 : (lens (cuttersOf t) 999999999999999999).length ≤ 999999999999999999 := lens_len cutters_ct
    refine ⟨_, rfl, o, dx, _, rfl, ex, no_number, _, _, rfl, rfl, ⟨by decide, by decide, by decide⟩, _, _, rfl, rfl, ?_⟩
    refine tnil_of ?_
    show spAN K _ _ [V.ref o, V.int ((10 : Int) ^ Int.toNat 18 - 1)] H2 _ _
    rw [show ((10 : Int) ^ Int.toNat 18 - 1) = ((999999999999999999 : Nat) : Int) by decide]
    refine an_ok R.L.T hx2 hg (Nat.le_refl _) fun H3 s3 => ?_
    generalize (lens (cuttersOf t) 999999999999999999).length = m at l1 l2 ⊢
    refine ⟨_, _, 1000, rfl, .int _, sw_num (by omega) (by have e20 : (10 : Int) ^ 20 = 100000000000000000000 := by decide
                                                           rw [e20]; omega), szl (Nat.le_refl _), rfl, ?_⟩
    rw [decide_eq_false (show V.str (PyData.shown (.int (m : Int))) ≠ V.str "0" from fun z => shown_ne l1 (by injection z))]
    exact k H3 (T2.off.trans (Same.off s3).offN) (T2.tab.ext s3)
end
end My

namespace My
open PySem L2 Cm LM
abbrev sLaw : Stmt := top 60
def spLaw (K : PySem.W.Frag) (P1 P2 P3 : Addr) : Sp := fun vs H Q _ => ∃ (a : Addr) (ns : List Int), vs = [.ref a] ∧ SqL K H a (ns.map V.int) ∧ ns.length ≤ 63 ∧ LamX.Tabs (Tb3 P1 P2 P3) H ∧ ∀ H', Q (.bl true) H'
theorem scLaw : FnScope ["_law_script", "_law_k"] ["_law_script"] (defScope sLaw) := ⟨rfl, rfl, rfl, by decide +kernel, rfl, by decide +kernel, by decide +kernel⟩
theorem all_true : ∀ n : Nat, (List.replicate n true).all id = true
  | 0 => rfl
  | n + 1 => all_true n
theorem extN_sq {K : PySem.W.Frag} {a : Addr} {H H' : Hp} {xs : List V} (e : LamX.ExtN H H') (h : SqL K H a xs) : SqL K H' a xs := by
  rcases h with (h | ⟨o, h⟩) | h
  · exact .inl (.inl (e _ _ h (by intro ps z; cases z)))
  · exact .inl (.inr ⟨o, e _ _ h (by intro ps z; cases z)⟩)
  · exact .inr h
section
variable {P : Program} {w : World} {K : PySem.W.Frag} {mg : Str → Option Value} {base : Heap} {P1 P2 P3 : Addr}
theorem ok_law {f fJ fR : Addr} {fd fdJ fdR : FuncData} (F : Fun K "law" "law" sLaw f fd) (TJ : TxtJ mg) (mrange : mg "range" = none) (mall : mg "all" = none) (kR9 : Nat) (GR : Gd.FnG P w K mg base CX0 kR9 fR fdR ["_law_jar_here"] (spRight3 (Tb3 P1 P2 P3)))
    (FJ : Fun K "_law_jar" "_law_jar" sJar fJ fdJ) (bJ : Binds K fdJ ["_law_script", "_law_k"] []) (gJ : mg "_law_jar" = some (.ref fJ)) (kJ : PySem.W.keepIn K (.ref fJ) = true) (k1 : 1 ≤ kR9)
    (bR : Binds K fdR ["_law_jar_here"] []) (gR : mg "_law_right" = some (.ref fR)) (kR : PySem.W.keepIn K (.ref fR) = true) (mmax : mg "max" = none) (mmin : mg "min" = none) :
    Gd.FnG P w K mg base CX0 (kR9 + 1) f fd ["_law_script"] (spLaw K P1 P2 P3) := by
  have GJ : FnOk P w K mg base CX0 1 fJ fdJ ["_law_script", "_law_k"] (spJar K) := ok_jar FJ TJ
  refine Gd.okG F scLaw (fun vs H Q E h => ?_) (fun cdv A outer s H vs Q E _ _ _ hgd hr h => ?_)
  · obtain ⟨a, ns, rfl, _⟩ := h
    rfl
  · obtain ⟨a, ns, rfl, hS, hl, hT, k⟩ := h
    have hr1 : Room 1 _ := hr.mono k1
    refine ⟨_, pss_one (ps_ret (pe_callB (cr_all rfl) (by rfl) mall (by decide +kernel) (pa_cons (pe_lc (own := [("_law_k", 1)]) (g := gName 1) (tt := tYes) rfl scLaw.nd
      (pi_range1 rfl mrange (pa_cons (pe_callB (call_max2 rfl) (by rfl) mmax (by decide +kernel) (pa_cons pe_int (pa_cons (pe_callB (call_min2 rfl) (by rfl) mmin (by decide +kernel) (pa_cons (pe_callB call_len_seq (by rfl) TJ.len PySem.boot_len (pa_cons (pv 0) pa_nil)) (pa_cons pe_int pa_nil))) pa_nil))) pa_nil))
      (blkOk_by (own := [("_law_k", 1)]) (N := ["_law_script", "_law_k"]) (sc := defScope sLaw) (by decide +kernel)) (fun _ _ _ _ _ => pg_name (i := 1) scLaw.nd rfl (Or.inl rfl)) (fun _ _ _ _ _ => pts_nil)
      (fun _ _ _ _ _ => Gd.pe_callG GR hgd hr rfl gR kR bR .nil pass0 (pa_cons (pe_call GJ hr1 rfl gJ kJ bJ .nil pass0 (pa_cons (pv 0) (pa_cons (pv 1) pa_nil))) pa_nil))) pa_nil))), ?_⟩
    refine ⟨_, rfl, a, _, rfl, .inl hS, _, _, rfl, _, _, rfl, ?_⟩
    rw [List.length_map]
    have hm : ∃ n : Nat, (if (if (5 : Int) < (ns.length : Int) then 5 else (ns.length : Int)) > 2 then (if (5 : Int) < (ns.length : Int) then 5 else (ns.length : Int)) else 2) = (n : Int) ∧ n ≤ 5 := by
      by_cases h5 : (5 : Int) < (ns.length : Int)
      · rw [if_pos h5]
        exact ⟨5, rfl, Nat.le_refl _⟩
      · rw [if_neg h5]
        by_cases h2 : (ns.length : Int) > 2
        · rw [if_pos h2]
          exact ⟨ns.length, rfl, by omega⟩
        · rw [if_neg h2]
          exact ⟨2, rfl, by omega⟩
    obtain ⟨n, en, hn⟩ := hm
    refine ⟨_, rfl, by rw [en]; omega, by rw [en]; omega, fun D nD => ?_⟩
    rw [en]
    refine lc_range (lo := 0) (n := ((n : Int)).toNat) (fun i H' => LamX.ExtN H H' ∧ LamX.Tabs (Tb3 P1 P2 P3) H' ∧ H' D = some (.lst ((List.replicate i true).map V.bl))) ⟨LamX.ExtN.of (same_upd nD), hT.ext (same_upd nD), upd_same⟩ ?_ ?_
    · rintro i H1 hi ⟨x1, T1, hD⟩
      refine ⟨rfl, _, rfl, _, rfl, a, ns, i, by rw [Int.zero_add]; rfl, extN_sq x1 hS, hl, fun H2 j s2 nj J2 => ?_⟩
      refine ⟨j, rfl, J2, T1.ext s2, fun H3 o3 T3 => ?_⟩
      have x3 : LamX.ExtN H1 H3 := fun b o q n => o3 b o (fun z => by rw [z, nj] at q; cases q) n (s2 b o q)
      have hD3 := x3 _ _ hD (by intro ps z; cases z)
      refine ⟨_, hD3, small1000 (by rw [List.length_map, List.length_replicate]; omega), fun b o q n => ?_, ?_, ?_⟩
      · rw [upd_ne (ne_of_none q nD)]
        exact x3 _ _ (x1 b o q n) n
      · intro p hp
        obtain ⟨ps, a1, a2, a3⟩ := T3 p hp
        refine ⟨ps, by rw [upd_ne (ne_of a1 hD3 (by intro z; cases z))]; exact a1, a2, fun pos cv hcv => ?_⟩
        obtain ⟨c, e, hc⟩ := a3 pos cv hcv
        exact ⟨c, e, by rw [upd_ne (ne_of hc hD3 (by intro z; unfold LamX.CodeO at z; cases z))]; exact hc⟩
      · rw [upd_same, List.replicate_succ', List.map_append]
        rfl
    · rintro H1 ⟨x1, T1, hD⟩
      refine ⟨D, List.replicate _ true, rfl, SqL.of hD, ?_⟩
      rw [all_true]
      exact k H1
end
theorem all_mk {l : PySem.W.OpenLaw} {w : World} {K : PySem.W.Frag} {h : Heap} {mg : Str → Option Value} {fa pT pR pE fwo foo fiw faw fir fie CIT fIT CL fli fcs fwr ffr fcr ftr dC fco CA fai CW fri fmn fro fiib CII fII CIP fIP fpa fpw fpl fcci fan fap fao fae fas far fsip ffrm fcts flin CNC fNC frs fcc fasp ffd fgrt flr CBI CBS CBZ fcm fodd fdue fjar cR1 PR1 firt cR2 PR2 fprt cR3 PR3 fqrt frt flaw flch : Addr} (X : K.In h) (G : h.Ns mainGlobals mg) (hfa : mg "law" = some (.ref fa))
    {odT odR odE odwo anwo odoo anoo odiw aniw odaw anaw odir anir odie anie odIT anIT odli anli odcs ancs odwr anwr odfr anfr odcr ancr odtr antr odco anco odai anai odri anri odmn anmn odro anro odiib aniib odII anII odIP anIP odpa anpa odpw anpw odpl anpl odcci ancci odan anan odap anap odao anao odae anae odas anas odar anar odsip ansip odfrm anfrm odcts ancts odlin anlin odNC anNC odrs anrs odcc ancc odasp anasp odfd anfd odgrt angrt odlr anlr odcm ancm ododd anodd oddue andue odjar anjar odC1 odirt anirt odC2 odprt anprt odC3 odqrt anqrt odrt anrt odlaw anlaw odlch anlch : Option Addr}
    {slT slR slE slwo sloo sliw slaw slir slie slIT slli slcs slwr slfr slcr sltr slco slai slri slmn slro sliib slII slIP slpa slpw slpl slcci slan slap slao slae slas slar slsip slfrm slcts sllin slNC slrs slcc slasp slfd slgrt sllr slcm slodd sldue sljar slC1 slirt slC2 slprt slC3 slqrt slrt sllaw sllch : Array (Option Value)}
    {ocwo kVwo dcwo pmwo cdwo ctwo ocoo kVoo dcoo pmoo cdoo ctoo ociw kViw dciw pmiw cdiw ctiw ocaw kVaw dcaw pmaw cdaw ctaw ocir kVir dcir pmir cdir ctir ocie kVie dcie pmie cdie ctie ocIT kVIT dcIT pmIT cdIT ctIT ocli kVli dcli pmli cdli ctli occs kVcs dccs pmcs cdcs ctcs ocwr kVwr dcwr pmwr cdwr ctwr ocfr kVfr dcfr pmfr cdfr ctfr occr kVcr dccr pmcr cdcr ctcr octr kVtr dctr pmtr cdtr cttr occo kVco dcco pmco cdco ctco ocai kVai dcai pmai cdai ctai ocri kVri dcri pmri cdri ctri ocmn kVmn dcmn pmmn cdmn ctmn ocro kVro dcro pmro cdro ctro ociib kViib dciib pmiib cdiib ctiib ocII kVII dcII pmII cdII ctII ocIP kVIP dcIP pmIP cdIP ctIP ocpa kVpa dcpa pmpa cdpa ctpa ocpw kVpw dcpw pmpw cdpw ctpw ocpl kVpl dcpl pmpl cdpl ctpl occci kVcci dccci pmcci cdcci ctcci ocan kVan dcan pman cdan ctan ocap kVap dcap pmap cdap ctap ocao kVao dcao pmao cdao ctao ocae kVae dcae pmae cdae ctae ocas kVas dcas pmas cdas ctas ocar kVar dcar pmar cdar ctar ocsip kVsip dcsip pmsip cdsip ctsip ocfrm kVfrm dcfrm pmfrm cdfrm ctfrm occts kVcts dccts pmcts cdcts ctcts oclin kVlin dclin pmlin cdlin ctlin ocNC kVNC dcNC pmNC cdNC ctNC ocrs kVrs dcrs pmrs cdrs ctrs occc kVcc dccc pmcc cdcc ctcc ocasp kVasp dcasp pmasp cdasp ctasp ocfd kVfd dcfd pmfd cdfd ctfd ocgrt kVgrt dcgrt pmgrt cdgrt ctgrt oclr kVlr dclr pmlr cdlr ctlr occm kVcm dccm pmcm cdcm ctcm ocodd kVodd dcodd pmodd cdodd ctodd ocdue kVdue dcdue pmdue cddue ctdue ocjar kVjar dcjar pmjar cdjar ctjar ocC1 ocirt kVirt dcirt pmirt ctirt ocC2 ocprt kVprt dcprt pmprt ctprt ocC3 ocqrt kVqrt dcqrt pmqrt ctqrt ocrt kVrt dcrt pmrt cdrt ctrt oclaw kVlaw dclaw pmlaw cdlaw ctlaw oclch kVlch dclch pmlch cdlch ctlch : Value}
    {tkT0 tkT1 tkT2 tkT3 tkT4 tkT5 tkT6 tkT7 tkR0 tkR1 tkR2 tkR3 tkR4 tkR5 tkE0 tkE1 tkE2 tkB tkMR tkME tkMW tkMC tkMCI tkMT : Tok}
    {nT nR nE : Nat}
    {nmIT qIT : Str} {NIT : Addr} {bsIT bmIT : List Value} {snIT : List Str} {subIT : List Value} {abIT : Bool} {colIT : Option Bool} {ddIT : Option Addr} {m0IT m1IT m2IT m3IT m5IT : Option Value}
    {nmII qII : Str} {NII : Addr} {bsII bmII : List Value} {snII : List Str} {subII : List Value} {abII : Bool} {colII : Option Bool} {ddII : Option Addr} {m0II m1II m2II m3II m5II : Option Value}
    {nmIP qIP : Str} {NIP : Addr} {bsIP bmIP : List Value} {snIP : List Str} {subIP : List Value} {abIP : Bool} {colIP : Option Bool} {ddIP : Option Addr} {m0IP m1IP m2IP m3IP m5IP : Option Value}
    {nmNC qNC : Str} {NNC : Addr} {bsNC bmNC : List Value} {snNC : List Str} {subNC : List Value} {abNC : Bool} {colNC : Option Bool} {ddNC : Option Addr} {m0NC m1NC m2NC m3NC m5NC : Option Value}
    {vsC1 : Array Value}
    {vsC2 : Array Value}
    {vsC3 : Array Value}
    (gT : PySem.W.nsIn K mainGlobals "TESTS" = some (some (.ref pT)))
    (tT : K.lookup pT = some ⟨.type "tuple", odT, .seq #[.str "empty" tkT0, .str "some" tkT1, .str "short" tkT2, .str "full" tkT3, .str "told" tkT4, .str "open" tkT5, .str "rest" tkT6, .str "bare" tkT7] nT, slT⟩)
    (gR : PySem.W.nsIn K mainGlobals "ROUND_STEPS" = some (some (.ref pR)))
    (tR : K.lookup pR = some ⟨.type "tuple", odR, .seq #[.str "add" tkR0, .str "hand" tkR1, .str "cut" tkR2, .str "flush" tkR3, .str "stop" tkR4, .str "again" tkR5] nR, slR⟩)
    (gE : PySem.W.nsIn K mainGlobals "ENDING_STEPS" = some (some (.ref pE)))
    (tE : K.lookup pE = some ⟨.type "tuple", odE, .seq #[.str "hand" tkE0, .str "cut" tkE1, .str "flush" tkE2] nE, slE⟩)
    (mB : PySem.W.nsIn K mainGlobals "BAR" = some (some (.str " | " tkB)))
    (mMR : PySem.W.nsIn K mainGlobals "MOST_ROUND" = some (some (.int 12 tkMR)))
    (mME : PySem.W.nsIn K mainGlobals "MOST_ENDING" = some (some (.int 6 tkME)))
    (awo : PySem.W.nsIn K mainGlobals "words_of" = some (some (.ref fwo)))
    (lwo : K.lookup fwo = some ⟨ocwo, odwo, .func (PySem.W.fnOf "words_of" "words_of" (defArgs sWO) (defBody sWO) (defScope sWO) .none kVwo dcwo pmwo anwo cdwo ctwo), slwo⟩)
    (cwo : PySem.W.codeIn K cdwo "words_of" = true)
    (kwo : PySem.W.keepIn K (.ref fwo) = true)
    (aoo : PySem.W.nsIn K mainGlobals "order_of" = some (some (.ref foo)))
    (loo : K.lookup foo = some ⟨ocoo, odoo, .func (PySem.W.fnOf "order_of" "order_of" (defArgs sOO) (defBody sOO) (defScope sOO) .none kVoo dcoo pmoo anoo cdoo ctoo), sloo⟩)
    (coo : PySem.W.codeIn K cdoo "order_of" = true)
    (koo : PySem.W.keepIn K (.ref foo) = true)
    (aiw : PySem.W.nsIn K mainGlobals "is_word" = some (some (.ref fiw)))
    (liw : K.lookup fiw = some ⟨ociw, odiw, .func (PySem.W.fnOf "is_word" "is_word" (defArgs sIW) (defBody sIW) (defScope sIW) .none kViw dciw pmiw aniw cdiw ctiw), sliw⟩)
    (ciw : PySem.W.codeIn K cdiw "is_word" = true)
    (kiw : PySem.W.keepIn K (.ref fiw) = true)
    (aaw : PySem.W.nsIn K mainGlobals "are_words" = some (some (.ref faw)))
    (law : K.lookup faw = some ⟨ocaw, odaw, .func (PySem.W.fnOf "are_words" "are_words" (defArgs sAW) (defBody sAW) (defScope sAW) .none kVaw dcaw pmaw anaw cdaw ctaw), slaw⟩)
    (caw : PySem.W.codeIn K cdaw "are_words" = true)
    (kaw : PySem.W.keepIn K (.ref faw) = true)
    (air : PySem.W.nsIn K mainGlobals "is_round" = some (some (.ref fir)))
    (lir : K.lookup fir = some ⟨ocir, odir, .func (PySem.W.fnOf "is_round" "is_round" (defArgs sIR) (defBody sIR) (defScope sIR) .none kVir dcir pmir anir cdir ctir), slir⟩)
    (cir : PySem.W.codeIn K cdir "is_round" = true)
    (kir : PySem.W.keepIn K (.ref fir) = true)
    (aie : PySem.W.nsIn K mainGlobals "is_ending" = some (some (.ref fie)))
    (lie : K.lookup fie = some ⟨ocie, odie, .func (PySem.W.fnOf "is_ending" "is_ending" (defArgs sIE) (defBody sIE) (defScope sIE) .none kVie dcie pmie anie cdie ctie), slie⟩)
    (cie : PySem.W.codeIn K cdie "is_ending" = true)
    (kie : PySem.W.keepIn K (.ref fie) = true)
    (aCIT : PySem.W.nsIn K mainGlobals "InvalidText" = some (some (.ref CIT)))
    (aIT : PySem.W.findIn K (.ref CIT) "__init__" = some (some (.ref fIT)))
    (iIT : PySem.W.isFn K (.ref fIT) = true)
    (lIT : K.lookup fIT = some ⟨ocIT, odIT, .func (PySem.W.fnOf "__init__" "InvalidText.__init__" (defArgs sEI) (defBody sEI) (defScope sEI) .none kVIT dcIT pmIT anIT cdIT ctIT), slIT⟩)
    (cIT : PySem.W.codeIn K cdIT "InvalidText.__init__" = true)
    (kIT : PySem.W.keepIn K (.ref fIT) = true)
    (xIT : K.lookup CIT = some (excClassObj nmIT qIT CIT NIT bsIT bmIT true snIT subIT abIT colIT ddIT m0IT m1IT m2IT m3IT m5IT "ValueError.__new__"))
    (xrIT : PySem.HandSPX.refsVE bmIT = true)
    (e1IT : PySem.W.findIn K (.ref CIT) "__setattr__" = some (some (.builtin "object.__setattr__")))
    (e2IT : PySem.W.subIn K (.ref CIT) (.type "BaseException") = some true)
    (e3IT : PySem.W.typeIn K (.ref CIT) = some (.type "type"))
    (e4IT : PySem.W.keepIn K (.ref CIT) = true)
    (e5IT : PySem.W.typeIn K (.ref fIT) = some (.type "function"))
    (e6IT : PySem.W.findIn K (.ref CIT) "value" = some none)
    (aCL : PySem.W.nsIn K mainGlobals "Loop" = some (some (.ref CL)))
    (pgL : PySem.W.plainGet K CL Str.empty = true)
    (hdL : PySem.W.hasDictIn K CL = true)
    (poL : PySem.W.plainOver K CL = true)
    (saL : PySem.W.findIn K (.ref CL) "__setattr__" = some (some (.builtin "object.__setattr__")))
    (mkL : PySem.W.makesIn K CL = true)
    (kcL : PySem.W.keepIn K (.ref CL) = true)
    (nL0 : PySem.W.findIn K (.ref CL) "text" = some none)
    (nL1 : PySem.W.findIn K (.ref CL) "round" = some none)
    (nL2 : PySem.W.findIn K (.ref CL) "ending" = some none)
    (nL3 : PySem.W.findIn K (.ref CL) "round_orders" = some none)
    (nL4 : PySem.W.findIn K (.ref CL) "ending_orders" = some none)
    (ali : PySem.W.findIn K (.ref CL) "__init__" = some (some (.ref fli)))
    (ili : PySem.W.isFn K (.ref fli) = true)
    (lli : K.lookup fli = some ⟨ocli, odli, .func (PySem.W.fnOf "__init__" "Loop.__init__" (defArgs sLI) (defBody sLI) (defScope sLI) .none kVli dcli pmli anli cdli ctli), slli⟩)
    (cli : PySem.W.codeIn K cdli "Loop.__init__" = true)
    (kli : PySem.W.keepIn K (.ref fli) = true)
    (acs : PySem.W.nsIn K mainGlobals "cut_sizes" = some (some (.ref fcs)))
    (lcs : K.lookup fcs = some ⟨occs, odcs, .func (PySem.W.fnOf "cut_sizes" "cut_sizes" (defArgs sCS) (defBody sCS) (defScope sCS) .none kVcs dccs pmcs ancs cdcs ctcs), slcs⟩)
    (ccs : PySem.W.codeIn K cdcs "cut_sizes" = true)
    (kcs : PySem.W.keepIn K (.ref fcs) = true)
    (awr : PySem.W.nsIn K mainGlobals "whole_row" = some (some (.ref fwr)))
    (lwr : K.lookup fwr = some ⟨ocwr, odwr, .func (PySem.W.fnOf "whole_row" "whole_row" (defArgs sWR) (defBody sWR) (defScope sWR) .none kVwr dcwr pmwr anwr cdwr ctwr), slwr⟩)
    (cwr : PySem.W.codeIn K cdwr "whole_row" = true)
    (kwr : PySem.W.keepIn K (.ref fwr) = true)
    (afr : PySem.W.nsIn K mainGlobals "fill_row" = some (some (.ref ffr)))
    (lfr : K.lookup ffr = some ⟨ocfr, odfr, .func (PySem.W.fnOf "fill_row" "fill_row" (defArgs sFR) (defBody sFR) (defScope sFR) .none kVfr dcfr pmfr anfr cdfr ctfr), slfr⟩)
    (cfr : PySem.W.codeIn K cdfr "fill_row" = true)
    (kfr : PySem.W.keepIn K (.ref ffr) = true)
    (acr : PySem.W.nsIn K mainGlobals "cut_row" = some (some (.ref fcr)))
    (lcr : K.lookup fcr = some ⟨occr, odcr, .func (PySem.W.fnOf "cut_row" "cut_row" (defArgs sCR) (defBody sCR) (defScope sCR) .none kVcr dccr pmcr ancr cdcr ctcr), slcr⟩)
    (ccr : PySem.W.codeIn K cdcr "cut_row" = true)
    (kcr : PySem.W.keepIn K (.ref fcr) = true)
    (atr : PySem.W.nsIn K mainGlobals "tail_row" = some (some (.ref ftr)))
    (ltr : K.lookup ftr = some ⟨octr, odtr, .func (PySem.W.fnOf "tail_row" "tail_row" (defArgs sTR) (defBody sTR) (defScope sTR) .none kVtr dctr pmtr antr cdtr cttr), sltr⟩)
    (ctr : PySem.W.codeIn K cdtr "tail_row" = true)
    (ktr : PySem.W.keepIn K (.ref ftr) = true)
    (mMW : PySem.W.nsIn K mainGlobals "MOST_WIDTH" = some (some (.int 12 tkMW)))
    (mMC : PySem.W.nsIn K mainGlobals "MOST_CUTTERS" = some (some (.int 6 tkMC)))
    (gdC : PySem.W.nsIn K mainGlobals "CUTTERS" = some (some (.ref dC)))
    (nkcut : PySem.W.nsIn K dC "cut" = some (some (.ref fcr)))
    (nkfill : PySem.W.nsIn K dC "fill" = some (some (.ref ffr)))
    (nktail : PySem.W.nsIn K dC "tail" = some (some (.ref ftr)))
    (dwC : He.dicW K dC = some (He.keysIn w.params CH.kds))
    (aco : PySem.W.nsIn K mainGlobals "cutter_of" = some (some (.ref fco)))
    (lco : K.lookup fco = some ⟨occo, odco, .func (PySem.W.fnOf "cutter_of" "cutter_of" (defArgs sCO) (defBody sCO) (defScope sCO) .none kVco dcco pmco anco cdco ctco), slco⟩)
    (cco : PySem.W.codeIn K cdco "cutter_of" = true)
    (kco : PySem.W.keepIn K (.ref fco) = true)
    (aCA : PySem.W.nsIn K mainGlobals "Chain" = some (some (.ref CA)))
    (pgA : PySem.W.plainGet K CA Str.empty = true)
    (hdA : PySem.W.hasDictIn K CA = true)
    (poA : PySem.W.plainOver K CA = true)
    (saA : PySem.W.findIn K (.ref CA) "__setattr__" = some (some (.builtin "object.__setattr__")))
    (mkA : PySem.W.makesIn K CA = true)
    (kcA : PySem.W.keepIn K (.ref CA) = true)
    (nA0 : PySem.W.findIn K (.ref CA) "text" = some none)
    (nA1 : PySem.W.findIn K (.ref CA) "cutters" = some none)
    (aai : PySem.W.findIn K (.ref CA) "__init__" = some (some (.ref fai)))
    (iai : PySem.W.isFn K (.ref fai) = true)
    (lai : K.lookup fai = some ⟨ocai, odai, .func (PySem.W.fnOf "__init__" "Chain.__init__" (defArgs sAI) (defBody sAI) (defScope sAI) .none kVai dcai pmai anai cdai ctai), slai⟩)
    (cai : PySem.W.codeIn K cdai "Chain.__init__" = true)
    (kai : PySem.W.keepIn K (.ref fai) = true)
    (aCW : PySem.W.nsIn K mainGlobals "Row" = some (some (.ref CW)))
    (pgW : PySem.W.plainGet K CW Str.empty = true)
    (hdW : PySem.W.hasDictIn K CW = true)
    (poW : PySem.W.plainOver K CW = true)
    (saW : PySem.W.findIn K (.ref CW) "__setattr__" = some (some (.builtin "object.__setattr__")))
    (mkW : PySem.W.makesIn K CW = true)
    (kcW : PySem.W.keepIn K (.ref CW) = true)
    (nW0 : PySem.W.findIn K (.ref CW) "unit" = some none)
    (nW1 : PySem.W.findIn K (.ref CW) "times" = some none)
    (nW2 : PySem.W.findIn K (.ref CW) "last" = some none)
    (ari : PySem.W.findIn K (.ref CW) "__init__" = some (some (.ref fri)))
    (iri : PySem.W.isFn K (.ref fri) = true)
    (lri : K.lookup fri = some ⟨ocri, odri, .func (PySem.W.fnOf "__init__" "Row.__init__" (defArgs sRI) (defBody sRI) (defScope sRI) .none kVri dcri pmri anri cdri ctri), slri⟩)
    (cri : PySem.W.codeIn K cdri "Row.__init__" = true)
    (kri : PySem.W.keepIn K (.ref fri) = true)
    (amn : PySem.W.findIn K (.ref CW) "many" = some (some (.ref fmn)))
    (imn : PySem.W.isFn K (.ref fmn) = true)
    (lmn : K.lookup fmn = some ⟨ocmn, odmn, .func (PySem.W.fnOf "many" "Row.many" (defArgs sRM) (defBody sRM) (defScope sRM) .none kVmn dcmn pmmn anmn cdmn ctmn), slmn⟩)
    (cmn : PySem.W.codeIn K cdmn "Row.many" = true)
    (kmn : PySem.W.keepIn K (.ref fmn) = true)
    (aro : PySem.W.findIn K (.ref CA) "row_of" = some (some (.ref fro)))
    (iro : PySem.W.isFn K (.ref fro) = true)
    (lro : K.lookup fro = some ⟨ocro, odro, .func (PySem.W.fnOf "row_of" "Chain.row_of" (defArgs sRO) (defBody sRO) (defScope sRO) .none kVro dcro pmro anro cdro ctro), slro⟩)
    (cro : PySem.W.codeIn K cdro "Chain.row_of" = true)
    (kro : PySem.W.keepIn K (.ref fro) = true)
    (aiib : PySem.W.nsIn K mainGlobals "is_integer_between" = some (some (.ref fiib)))
    (liib : K.lookup fiib = some ⟨ociib, odiib, .func (PySem.W.fnOf "is_integer_between" "is_integer_between" (defArgs sIIB) (defBody sIIB) (defScope sIIB) .none kViib dciib pmiib aniib cdiib ctiib), sliib⟩)
    (ciib : PySem.W.codeIn K cdiib "is_integer_between" = true)
    (kiib : PySem.W.keepIn K (.ref fiib) = true)
    (mMCI : PySem.W.nsIn K mainGlobals "MOST_CHAIN_ITEMS" = some (some (.int 999999999999999999 tkMCI)))
    (aCII : PySem.W.nsIn K mainGlobals "InvalidItems" = some (some (.ref CII)))
    (aII : PySem.W.findIn K (.ref CII) "__init__" = some (some (.ref fII)))
    (iII : PySem.W.isFn K (.ref fII) = true)
    (lII : K.lookup fII = some ⟨ocII, odII, .func (PySem.W.fnOf "__init__" "InvalidItems.__init__" (defArgs sEIt) (defBody sEIt) (defScope sEIt) .none kVII dcII pmII anII cdII ctII), slII⟩)
    (cII : PySem.W.codeIn K cdII "InvalidItems.__init__" = true)
    (kII : PySem.W.keepIn K (.ref fII) = true)
    (xII : K.lookup CII = some (excClassObj nmII qII CII NII bsII bmII true snII subII abII colII ddII m0II m1II m2II m3II m5II "ValueError.__new__"))
    (xrII : PySem.HandSPX.refsVE bmII = true)
    (e1II : PySem.W.findIn K (.ref CII) "__setattr__" = some (some (.builtin "object.__setattr__")))
    (e2II : PySem.W.subIn K (.ref CII) (.type "BaseException") = some true)
    (e3II : PySem.W.typeIn K (.ref CII) = some (.type "type"))
    (e4II : PySem.W.keepIn K (.ref CII) = true)
    (e5II : PySem.W.typeIn K (.ref fII) = some (.type "function"))
    (e6II : PySem.W.findIn K (.ref CII) "value" = some none)
    (aCIP : PySem.W.nsIn K mainGlobals "InvalidPlace" = some (some (.ref CIP)))
    (aIP : PySem.W.findIn K (.ref CIP) "__init__" = some (some (.ref fIP)))
    (iIP : PySem.W.isFn K (.ref fIP) = true)
    (lIP : K.lookup fIP = some ⟨ocIP, odIP, .func (PySem.W.fnOf "__init__" "InvalidPlace.__init__" (defArgs sEPl) (defBody sEPl) (defScope sEPl) .none kVIP dcIP pmIP anIP cdIP ctIP), slIP⟩)
    (cIP : PySem.W.codeIn K cdIP "InvalidPlace.__init__" = true)
    (kIP : PySem.W.keepIn K (.ref fIP) = true)
    (xIP : K.lookup CIP = some (excClassObj nmIP qIP CIP NIP bsIP bmIP true snIP subIP abIP colIP ddIP m0IP m1IP m2IP m3IP m5IP "ValueError.__new__"))
    (xrIP : PySem.HandSPX.refsVE bmIP = true)
    (e1IP : PySem.W.findIn K (.ref CIP) "__setattr__" = some (some (.builtin "object.__setattr__")))
    (e2IP : PySem.W.subIn K (.ref CIP) (.type "BaseException") = some true)
    (e3IP : PySem.W.typeIn K (.ref CIP) = some (.type "type"))
    (e4IP : PySem.W.keepIn K (.ref CIP) = true)
    (e5IP : PySem.W.typeIn K (.ref fIP) = some (.type "function"))
    (e6IP : PySem.W.findIn K (.ref CIP) "value" = some none)
    (apa : PySem.W.findIn K (.ref CW) "piece_at" = some (some (.ref fpa)))
    (ipa : PySem.W.isFn K (.ref fpa) = true)
    (lpa : K.lookup fpa = some ⟨ocpa, odpa, .func (PySem.W.fnOf "piece_at" "Row.piece_at" (defArgs sPA) (defBody sPA) (defScope sPA) .none kVpa dcpa pmpa anpa cdpa ctpa), slpa⟩)
    (cpa : PySem.W.codeIn K cdpa "Row.piece_at" = true)
    (kpa : PySem.W.keepIn K (.ref fpa) = true)
    (apw : PySem.W.findIn K (.ref CW) "place_with" = some (some (.ref fpw)))
    (ipw : PySem.W.isFn K (.ref fpw) = true)
    (lpw : K.lookup fpw = some ⟨ocpw, odpw, .func (PySem.W.fnOf "place_with" "Row.place_with" (defArgs sPW) (defBody sPW) (defScope sPW) .none kVpw dcpw pmpw anpw cdpw ctpw), slpw⟩)
    (cpw : PySem.W.codeIn K cdpw "Row.place_with" = true)
    (kpw : PySem.W.keepIn K (.ref fpw) = true)
    (apl : PySem.W.nsIn K mainGlobals "place_among" = some (some (.ref fpl)))
    (lpl : K.lookup fpl = some ⟨ocpl, odpl, .func (PySem.W.fnOf "place_among" "place_among" (defArgs sPL) (defBody sPL) (defScope sPL) .none kVpl dcpl pmpl anpl cdpl ctpl), slpl⟩)
    (cpl : PySem.W.codeIn K cdpl "place_among" = true)
    (kpl : PySem.W.keepIn K (.ref fpl) = true)
    (acci : PySem.W.nsIn K mainGlobals "check_chain_items" = some (some (.ref fcci)))
    (lcci : K.lookup fcci = some ⟨occci, odcci, .func (PySem.W.fnOf "check_chain_items" "check_chain_items" (defArgs sCCI) (defBody sCCI) (defScope sCCI) .none kVcci dccci pmcci ancci cdcci ctcci), slcci⟩)
    (ccci : PySem.W.codeIn K cdcci "check_chain_items" = true)
    (kcci : PySem.W.keepIn K (.ref fcci) = true)
    (aan : PySem.W.findIn K (.ref CA) "number" = some (some (.ref fan)))
    (ian : PySem.W.isFn K (.ref fan) = true)
    (lan : K.lookup fan = some ⟨ocan, odan, .func (PySem.W.fnOf "number" "Chain.number" (defArgs sAN) (defBody sAN) (defScope sAN) .none kVan dcan pman anan cdan ctan), slan⟩)
    (can : PySem.W.codeIn K cdan "Chain.number" = true)
    (kan : PySem.W.keepIn K (.ref fan) = true)
    (aap : PySem.W.findIn K (.ref CA) "piece" = some (some (.ref fap)))
    (iap : PySem.W.isFn K (.ref fap) = true)
    (lap : K.lookup fap = some ⟨ocap, odap, .func (PySem.W.fnOf "piece" "Chain.piece" (defArgs sAP) (defBody sAP) (defScope sAP) .none kVap dcap pmap anap cdap ctap), slap⟩)
    (cap : PySem.W.codeIn K cdap "Chain.piece" = true)
    (kap : PySem.W.keepIn K (.ref fap) = true)
    (aao : PySem.W.findIn K (.ref CA) "place_of" = some (some (.ref fao)))
    (iao : PySem.W.isFn K (.ref fao) = true)
    (lao : K.lookup fao = some ⟨ocao, odao, .func (PySem.W.fnOf "place_of" "Chain.place_of" (defArgs sAO) (defBody sAO) (defScope sAO) .none kVao dcao pmao anao cdao ctao), slao⟩)
    (cao : PySem.W.codeIn K cdao "Chain.place_of" = true)
    (kao : PySem.W.keepIn K (.ref fao) = true)
    (aae : PySem.W.findIn K (.ref CA) "__eq__" = some (some (.ref fae)))
    (iae : PySem.W.isFn K (.ref fae) = true)
    (lae : K.lookup fae = some ⟨ocae, odae, .func (PySem.W.fnOf "__eq__" "Chain.__eq__" (defArgs sAE) (defBody sAE) (defScope sAE) .none kVae dcae pmae anae cdae ctae), slae⟩)
    (cae : PySem.W.codeIn K cdae "Chain.__eq__" = true)
    (kae : PySem.W.keepIn K (.ref fae) = true)
    (aas : PySem.W.findIn K (.ref CA) "__str__" = some (some (.ref fas)))
    (ias : PySem.W.isFn K (.ref fas) = true)
    (las : K.lookup fas = some ⟨ocas, odas, .func (PySem.W.fnOf "__str__" "Chain.__str__" (defArgs sAS) (defBody sAS) (defScope sAS) .none kVas dcas pmas anas cdas ctas), slas⟩)
    (cas : PySem.W.codeIn K cdas "Chain.__str__" = true)
    (kas : PySem.W.keepIn K (.ref fas) = true)
    (aar : PySem.W.findIn K (.ref CA) "__repr__" = some (some (.ref far)))
    (iar : PySem.W.isFn K (.ref far) = true)
    (lar : K.lookup far = some ⟨ocar, odar, .func (PySem.W.fnOf "__repr__" "Chain.__repr__" (defArgs sAR) (defBody sAR) (defScope sAR) .none kVar dcar pmar anar cdar ctar), slar⟩)
    (car : PySem.W.codeIn K cdar "Chain.__repr__" = true)
    (kar : PySem.W.keepIn K (.ref far) = true)
    (nneA : PySem.W.findIn K (.ref CA) "__ne__" = some (some (.builtin "object.__ne__")))
    (y1A : PySem.W.findIn K (.ref CA) "__class__" = some (some (.builtin "object.__class__")))
    (y2A : PySem.W.specialIn K (.builtin "object.__class__") "__get__" = some (some (.builtin "getset_descriptor.__get__")))
    (y3A : PySem.W.takesIn K (.builtin "object.__class__") = some true)
    (y4A : PySem.W.mroIn K CA (.type "object") = some true)
    (y5A : PySem.W.kitOne K (.ref CA) (.ref CA) = some true)
    (asip : PySem.W.nsIn K mainGlobals "_law_sip" = some (some (.ref fsip)))
    (lsip : K.lookup fsip = some ⟨ocsip, odsip, .func (PySem.W.fnOf "_law_sip" "_law_sip" (defArgs sSip) (defBody sSip) (defScope sSip) .none kVsip dcsip pmsip ansip cdsip ctsip), slsip⟩)
    (csip : PySem.W.codeIn K cdsip "_law_sip" = true)
    (ksip : PySem.W.keepIn K (.ref fsip) = true)
    (afrm : PySem.W.nsIn K mainGlobals "_law_from" = some (some (.ref ffrm)))
    (lfrm : K.lookup ffrm = some ⟨ocfrm, odfrm, .func (PySem.W.fnOf "_law_from" "_law_from" (defArgs sFrom) (defBody sFrom) (defScope sFrom) .none kVfrm dcfrm pmfrm anfrm cdfrm ctfrm), slfrm⟩)
    (cfrm : PySem.W.codeIn K cdfrm "_law_from" = true)
    (kfrm : PySem.W.keepIn K (.ref ffrm) = true)
    (acts : PySem.W.nsIn K mainGlobals "_law_cutters" = some (some (.ref fcts)))
    (lcts : K.lookup fcts = some ⟨occts, odcts, .func (PySem.W.fnOf "_law_cutters" "_law_cutters" (defArgs sCuts) (defBody sCuts) (defScope sCuts) .none kVcts dccts pmcts ancts cdcts ctcts), slcts⟩)
    (ccts : PySem.W.codeIn K cdcts "_law_cutters" = true)
    (kcts : PySem.W.keepIn K (.ref fcts) = true)
    (alin : PySem.W.nsIn K mainGlobals "_law_chain_line" = some (some (.ref flin)))
    (llin : K.lookup flin = some ⟨oclin, odlin, .func (PySem.W.fnOf "_law_chain_line" "_law_chain_line" (defArgs sCLine) (defBody sCLine) (defScope sCLine) .none kVlin dclin pmlin anlin cdlin ctlin), sllin⟩)
    (clin : PySem.W.codeIn K cdlin "_law_chain_line" = true)
    (klin : PySem.W.keepIn K (.ref flin) = true)
    (aCNC : PySem.W.nsIn K mainGlobals "NotAChain" = some (some (.ref CNC)))
    (aNC : PySem.W.findIn K (.ref CNC) "__init__" = some (some (.ref fNC)))
    (iNC : PySem.W.isFn K (.ref fNC) = true)
    (lNC : K.lookup fNC = some ⟨ocNC, odNC, .func (PySem.W.fnOf "__init__" "NotAChain.__init__" (defArgs sENC) (defBody sENC) (defScope sENC) .none kVNC dcNC pmNC anNC cdNC ctNC), slNC⟩)
    (cNC : PySem.W.codeIn K cdNC "NotAChain.__init__" = true)
    (kNC : PySem.W.keepIn K (.ref fNC) = true)
    (xNC : K.lookup CNC = some (excClassObj nmNC qNC CNC NNC bsNC bmNC true snNC subNC abNC colNC ddNC m0NC m1NC m2NC m3NC m5NC "ValueError.__new__"))
    (xrNC : PySem.HandSPX.refsVE bmNC = true)
    (e1NC : PySem.W.findIn K (.ref CNC) "__setattr__" = some (some (.builtin "object.__setattr__")))
    (e2NC : PySem.W.subIn K (.ref CNC) (.type "BaseException") = some true)
    (e3NC : PySem.W.typeIn K (.ref CNC) = some (.type "type"))
    (e4NC : PySem.W.keepIn K (.ref CNC) = true)
    (e5NC : PySem.W.typeIn K (.ref fNC) = some (.type "function"))
    (e6NC : PySem.W.findIn K (.ref CNC) "value" = some none)
    (ars : PySem.W.findIn K (.ref CW) "sizes" = some (some (.ref frs)))
    (irs : PySem.W.isFn K (.ref frs) = true)
    (lrs : K.lookup frs = some ⟨ocrs, odrs, .func (PySem.W.fnOf "sizes" "Row.sizes" (defArgs sRS) (defBody sRS) (defScope sRS) .none kVrs dcrs pmrs anrs cdrs ctrs), slrs⟩)
    (crs : PySem.W.codeIn K cdrs "Row.sizes" = true)
    (krs : PySem.W.keepIn K (.ref frs) = true)
    (acc : PySem.W.nsIn K mainGlobals "check_chain" = some (some (.ref fcc)))
    (lcc : K.lookup fcc = some ⟨occc, odcc, .func (PySem.W.fnOf "check_chain" "check_chain" (defArgs sCC) (defBody sCC) (defScope sCC) .none kVcc dccc pmcc ancc cdcc ctcc), slcc⟩)
    (ccc : PySem.W.codeIn K cdcc "check_chain" = true)
    (kcc : PySem.W.keepIn K (.ref fcc) = true)
    (mMT : PySem.W.nsIn K mainGlobals "MOST_TELLING" = some (some (.int 216 tkMT)))
    (aasp : PySem.W.nsIn K mainGlobals "are_split" = some (some (.ref fasp)))
    (lasp : K.lookup fasp = some ⟨ocasp, odasp, .func (PySem.W.fnOf "are_split" "are_split" (defArgs sASp) (defBody sASp) (defScope sASp) .none kVasp dcasp pmasp anasp cdasp ctasp), slasp⟩)
    (casp : PySem.W.codeIn K cdasp "are_split" = true)
    (kasp : PySem.W.keepIn K (.ref fasp) = true)
    (afd : PySem.W.nsIn K mainGlobals "first_difference" = some (some (.ref ffd)))
    (lfd : K.lookup ffd = some ⟨ocfd, odfd, .func (PySem.W.fnOf "first_difference" "first_difference" (defArgs sFD) (defBody sFD) (defScope sFD) .none kVfd dcfd pmfd anfd cdfd ctfd), slfd⟩)
    (cfd : PySem.W.codeIn K cdfd "first_difference" = true)
    (kfd : PySem.W.keepIn K (.ref ffd) = true)
    (agrt : PySem.W.nsIn K mainGlobals "_law_great" = some (some (.ref fgrt)))
    (lgrt : K.lookup fgrt = some ⟨ocgrt, odgrt, .func (PySem.W.fnOf "_law_great" "_law_great" (defArgs sGrt) (defBody sGrt) (defScope sGrt) .none kVgrt dcgrt pmgrt angrt cdgrt ctgrt), slgrt⟩)
    (cgrt : PySem.W.codeIn K cdgrt "_law_great" = true)
    (kgrt : PySem.W.keepIn K (.ref fgrt) = true)
    (alr : PySem.W.findIn K (.ref CL) "__repr__" = some (some (.ref flr)))
    (ilr : PySem.W.isFn K (.ref flr) = true)
    (llr : K.lookup flr = some ⟨oclr, odlr, .func (PySem.W.fnOf "__repr__" "Loop.__repr__" (defArgs sLR) (defBody sLR) (defScope sLR) .none kVlr dclr pmlr anlr cdlr ctlr), sllr⟩)
    (clr : PySem.W.codeIn K cdlr "Loop.__repr__" = true)
    (klr : PySem.W.keepIn K (.ref flr) = true)
    (aCBI : PySem.W.nsIn K mainGlobals "InputError" = some (some (.ref CBI)))
    (aCBS : PySem.W.nsIn K mainGlobals "StateError" = some (some (.ref CBS)))
    (aCBZ : PySem.W.nsIn K mainGlobals "SizeError" = some (some (.ref CBZ)))
    (xaNC : PySem.W.exmAny K (.ref CNC) [.ref CNC, .ref CII, .ref CIP] = some true)
    (k0NC : PySem.W.kitOne K (.ref CNC) (.ref CNC) = some true)
    (k1NC : PySem.W.kitOne K (.ref CNC) (.ref CII) = some false)
    (k2NC : PySem.W.kitOne K (.ref CNC) (.ref CIP) = some false)
    (x7NC : PySem.W.findIn K (.ref CNC) "__getattribute__" = some (some (.builtin "BaseException.__getattribute__")))
    (x8NC : PySem.W.findIn K (.ref CNC) "__getattr__" = some none)
    (x9NC : PySem.W.hasDictIn K CNC = true)
    (xANC : (PySem.W.clsIn K CNC).isSome = true)
    (xBNC : PySem.W.findIn K (.ref CNC) "__class__" = some (some (.builtin "object.__class__")))
    (xg1 : PySem.W.specialIn K (.builtin "object.__class__") "__get__" = some (some (.builtin "getset_descriptor.__get__")))
    (xg2 : PySem.W.takesIn K (.builtin "object.__class__") = some true)
    (xCNC : PySem.W.mroIn K CNC (.type "object") = some true)
    (kcNC : PySem.W.kitOne K (.ref CNC) (.ref CBI) = some true)
    (kdNC : PySem.W.kitOne K (.ref CNC) (.ref CBS) = some false)
    (keNC : PySem.W.kitOne K (.ref CNC) (.ref CBZ) = some false)
    (xaII : PySem.W.exmAny K (.ref CII) [.ref CNC, .ref CII, .ref CIP] = some true)
    (k0II : PySem.W.kitOne K (.ref CII) (.ref CNC) = some false)
    (k1II : PySem.W.kitOne K (.ref CII) (.ref CII) = some true)
    (k2II : PySem.W.kitOne K (.ref CII) (.ref CIP) = some false)
    (x7II : PySem.W.findIn K (.ref CII) "__getattribute__" = some (some (.builtin "BaseException.__getattribute__")))
    (x8II : PySem.W.findIn K (.ref CII) "__getattr__" = some none)
    (x9II : PySem.W.hasDictIn K CII = true)
    (xAII : (PySem.W.clsIn K CII).isSome = true)
    (xBII : PySem.W.findIn K (.ref CII) "__class__" = some (some (.builtin "object.__class__")))
    (xCII : PySem.W.mroIn K CII (.type "object") = some true)
    (kcII : PySem.W.kitOne K (.ref CII) (.ref CBI) = some true)
    (kdII : PySem.W.kitOne K (.ref CII) (.ref CBS) = some false)
    (keII : PySem.W.kitOne K (.ref CII) (.ref CBZ) = some false)
    (xaIP : PySem.W.exmAny K (.ref CIP) [.ref CNC, .ref CII, .ref CIP] = some true)
    (k0IP : PySem.W.kitOne K (.ref CIP) (.ref CNC) = some false)
    (k1IP : PySem.W.kitOne K (.ref CIP) (.ref CII) = some false)
    (k2IP : PySem.W.kitOne K (.ref CIP) (.ref CIP) = some true)
    (x7IP : PySem.W.findIn K (.ref CIP) "__getattribute__" = some (some (.builtin "BaseException.__getattribute__")))
    (x8IP : PySem.W.findIn K (.ref CIP) "__getattr__" = some none)
    (x9IP : PySem.W.hasDictIn K CIP = true)
    (xAIP : (PySem.W.clsIn K CIP).isSome = true)
    (xBIP : PySem.W.findIn K (.ref CIP) "__class__" = some (some (.builtin "object.__class__")))
    (xCIP : PySem.W.mroIn K CIP (.type "object") = some true)
    (kcIP : PySem.W.kitOne K (.ref CIP) (.ref CBI) = some true)
    (kdIP : PySem.W.kitOne K (.ref CIP) (.ref CBS) = some false)
    (keIP : PySem.W.kitOne K (.ref CIP) (.ref CBZ) = some false)
    (acm : PySem.W.nsIn K mainGlobals "_law_came" = some (some (.ref fcm)))
    (lcm : K.lookup fcm = some ⟨occm, odcm, .func (PySem.W.fnOf "_law_came" "_law_came" (defArgs sCame) (defBody sCame) (defScope sCame) .none kVcm dccm pmcm ancm cdcm ctcm), slcm⟩)
    (ccm : PySem.W.codeIn K cdcm "_law_came" = true)
    (kcm : PySem.W.keepIn K (.ref fcm) = true)
    (nbANoneType : PySem.W.kitOne K (.type "NoneType") (.ref CA) = some false)
    (nbAbool : PySem.W.kitOne K (.type "bool") (.ref CA) = some false)
    (nbAint : PySem.W.kitOne K (.type "int") (.ref CA) = some false)
    (nbAstr : PySem.W.kitOne K (.type "str") (.ref CA) = some false)
    (nbAlist : PySem.W.kitOne K (.type "list") (.ref CA) = some false)
    (nbAtuple : PySem.W.kitOne K (.type "tuple") (.ref CA) = some false)
    (nbAdict : PySem.W.kitOne K (.type "dict") (.ref CA) = some false)
    (y1L : PySem.W.findIn K (.ref CL) "__class__" = some (some (.builtin "object.__class__")))
    (y2L : PySem.W.specialIn K (.builtin "object.__class__") "__get__" = some (some (.builtin "getset_descriptor.__get__")))
    (y3L : PySem.W.takesIn K (.builtin "object.__class__") = some true)
    (y4L : PySem.W.mroIn K CL (.type "object") = some true)
    (y5L : PySem.W.kitOne K (.ref CL) (.ref CL) = some true)
    (kLA : PySem.W.kitOne K (.ref CL) (.ref CA) = some false)
    (kAi : PySem.W.kitOne K (.ref CA) (.type "int") = some false)
    (kAb : PySem.W.kitOne K (.ref CA) (.type "bool") = some false)
    (aodd : PySem.W.nsIn K mainGlobals "_law_odd" = some (some (.ref fodd)))
    (lodd : K.lookup fodd = some ⟨ocodd, ododd, .func (PySem.W.fnOf "_law_odd" "_law_odd" (defArgs sOdd) (defBody sOdd) (defScope sOdd) .none kVodd dcodd pmodd anodd cdodd ctodd), slodd⟩)
    (codd : PySem.W.codeIn K cdodd "_law_odd" = true)
    (kodd : PySem.W.keepIn K (.ref fodd) = true)
    (adue : PySem.W.nsIn K mainGlobals "_law_due" = some (some (.ref fdue)))
    (ldue : K.lookup fdue = some ⟨ocdue, oddue, .func (PySem.W.fnOf "_law_due" "_law_due" (defArgs sDue) (defBody sDue) (defScope sDue) .none kVdue dcdue pmdue andue cddue ctdue), sldue⟩)
    (cdue : PySem.W.codeIn K cddue "_law_due" = true)
    (kdue : PySem.W.keepIn K (.ref fdue) = true)
    (ajar : PySem.W.nsIn K mainGlobals "_law_jar" = some (some (.ref fjar)))
    (ljar : K.lookup fjar = some ⟨ocjar, odjar, .func (PySem.W.fnOf "_law_jar" "_law_jar" (defArgs sJar) (defBody sJar) (defScope sJar) .none kVjar dcjar pmjar anjar cdjar ctjar), sljar⟩)
    (cjar : PySem.W.codeIn K cdjar "_law_jar" = true)
    (kjar : PySem.W.keepIn K (.ref fjar) = true)
    (airt : PySem.W.nsIn K mainGlobals "_law_items_right" = some (some (.ref firt)))
    (lirt : K.lookup firt = some ⟨ocirt, odirt, .func (PySem.W.fnOf "_law_items_right" "_law_items_right" (defArgs sItR) (defBody sItR) (defScope sItR) .none kVirt dcirt pmirt anirt (.ref cR1) ctirt), slirt⟩)
    (cirt : PySem.W.codeIn K (.ref cR1) "_law_items_right" = true)
    (kirt : PySem.W.keepIn K (.ref firt) = true)
    (aprt : PySem.W.nsIn K mainGlobals "_law_places_right" = some (some (.ref fprt)))
    (lprt : K.lookup fprt = some ⟨ocprt, odprt, .func (PySem.W.fnOf "_law_places_right" "_law_places_right" (defArgs sPlR) (defBody sPlR) (defScope sPlR) .none kVprt dcprt pmprt anprt (.ref cR2) ctprt), slprt⟩)
    (cprt : PySem.W.codeIn K (.ref cR2) "_law_places_right" = true)
    (kprt : PySem.W.keepIn K (.ref fprt) = true)
    (aqrt : PySem.W.nsIn K mainGlobals "_law_pairs_right" = some (some (.ref fqrt)))
    (lqrt : K.lookup fqrt = some ⟨ocqrt, odqrt, .func (PySem.W.fnOf "_law_pairs_right" "_law_pairs_right" (defArgs sPaR) (defBody sPaR) (defScope sPaR) .none kVqrt dcqrt pmqrt anqrt (.ref cR3) ctqrt), slqrt⟩)
    (cqrt : PySem.W.codeIn K (.ref cR3) "_law_pairs_right" = true)
    (kqrt : PySem.W.keepIn K (.ref fqrt) = true)
    (art : PySem.W.nsIn K mainGlobals "_law_right" = some (some (.ref frt)))
    (lrt : K.lookup frt = some ⟨ocrt, odrt, .func (PySem.W.fnOf "_law_right" "_law_right" (defArgs sRight) (defBody sRight) (defScope sRight) .none kVrt dcrt pmrt anrt cdrt ctrt), slrt⟩)
    (crt : PySem.W.codeIn K cdrt "_law_right" = true)
    (krt : PySem.W.keepIn K (.ref frt) = true)
    (alaw : PySem.W.nsIn K mainGlobals "law" = some (some (.ref flaw)))
    (llaw : K.lookup flaw = some ⟨oclaw, odlaw, .func (PySem.W.fnOf "law" "law" (defArgs sLaw) (defBody sLaw) (defScope sLaw) .none kVlaw dclaw pmlaw anlaw cdlaw ctlaw), sllaw⟩)
    (claw : PySem.W.codeIn K cdlaw "law" = true)
    (klaw : PySem.W.keepIn K (.ref flaw) = true)
    (q11 : K.lookup cR1 = some ⟨ocC1, odC1, .fields vsC1, slC1⟩)
    (q21 : vsC1[11]? = some (.ref PR1))
    (q31 : PySem.W.codeHdIn K cR1 PR1 = true)
    (q41 : K.lookup PR1 = none)
    (q51 : h.get? PR1 = some { cls := .none, data := .fields #[] })
    (q12 : K.lookup cR2 = some ⟨ocC2, odC2, .fields vsC2, slC2⟩)
    (q22 : vsC2[11]? = some (.ref PR2))
    (q32 : PySem.W.codeHdIn K cR2 PR2 = true)
    (q42 : K.lookup PR2 = none)
    (q52 : h.get? PR2 = some { cls := .none, data := .fields #[] })
    (q13 : K.lookup cR3 = some ⟨ocC3, odC3, .fields vsC3, slC3⟩)
    (q23 : vsC3[11]? = some (.ref PR3))
    (q33 : PySem.W.codeHdIn K cR3 PR3 = true)
    (q43 : K.lookup PR3 = none)
    (q53 : h.get? PR3 = some { cls := .none, data := .fields #[] })
    (neP : PR1 ≠ PR2)
    (ne13 : PR1 ≠ PR3)
    (ne23 : PR2 ≠ PR3)
    (alch : PySem.W.nsIn K mainGlobals "_law_chain" = some (some (.ref flch)))
    (llch : K.lookup flch = some ⟨oclch, odlch, .func (PySem.W.fnOf "_law_chain" "_law_chain" (defArgs sLCh) (defBody sLCh) (defScope sLCh) .none kVlch dclch pmlch anlch cdlch ctlch), sllch⟩)
    (clch : PySem.W.codeIn K cdlch "_law_chain" = true)
    (klch : PySem.W.keepIn K (.ref flch) = true)
    (z_tuple : PySem.W.nsIn K mainGlobals "tuple" = some none)
    (z_len : PySem.W.nsIn K mainGlobals "len" = some none)
    (z_all : PySem.W.nsIn K mainGlobals "all" = some none)
    (z_isinstance : PySem.W.nsIn K mainGlobals "isinstance" = some none)
    (z_str : PySem.W.nsIn K mainGlobals "str" = some none)
    (z_int : PySem.W.nsIn K mainGlobals "int" = some none)
    (z_range : PySem.W.nsIn K mainGlobals "range" = some none)
    (z_sum : PySem.W.nsIn K mainGlobals "sum" = some none)
    (z_bool : PySem.W.nsIn K mainGlobals "bool" = some none)
    (z_divmod : PySem.W.nsIn K mainGlobals "divmod" = some none)
    (z_abs : PySem.W.nsIn K mainGlobals "abs" = some none)
    (z_repr : PySem.W.nsIn K mainGlobals "repr" = some none)
    (z_max : PySem.W.nsIn K mainGlobals "max" = some none)
    (z_min : PySem.W.nsIn K mainGlobals "min" = some none) :
    Gd.LawG l w K 12 63 "_law_script" mg fa h := by
  have e := hfa.symm.trans (PySem.W.mg_of X G alaw)
  cases e
  have Fwo := fun_mk (st := sWO) lwo cwo kwo
  have bwo := Fwo.binds (ps := ["text"]) fun _ _ _ _ _ _ us hl => match us, hl with | [_], _ => rfl
  have Foo := fun_mk (st := sOO) loo coo koo
  have boo := Foo.binds (ps := ["word"]) fun _ _ _ _ _ _ us hl => match us, hl with | [_], _ => rfl
  have Fiw := fun_mk (st := sIW) liw ciw kiw
  have biw := Fiw.binds (ps := ["word", "steps"]) fun _ _ _ _ _ _ us hl => match us, hl with | [_, _], _ => rfl
  have Faw := fun_mk (st := sAW) law caw kaw
  have baw := Faw.binds (ps := ["words", "steps"]) fun _ _ _ _ _ _ us hl => match us, hl with | [_, _], _ => rfl
  have Fir := fun_mk (st := sIR) lir cir kir
  have bir := Fir.binds (ps := ["words"]) fun _ _ _ _ _ _ us hl => match us, hl with | [_], _ => rfl
  have Fie := fun_mk (st := sIE) lie cie kie
  have bie := Fie.binds (ps := ["words"]) fun _ _ _ _ _ _ us hl => match us, hl with | [_], _ => rfl
  let TL : TxL K mg := ⟨PySem.W.mg_none_of X G z_tuple, PySem.W.mg_none_of X G z_len, PySem.W.mg_none_of X G z_all, ⟨_, PySem.W.mg_of X G mB⟩, ⟨_, PySem.W.mg_of X G mMR⟩, ⟨_, PySem.W.mg_of X G mME⟩, pT, pR, pE, PySem.W.mg_of X G gT, PySem.W.mg_of X G gR, PySem.W.mg_of X G gE, fun H => .inr ⟨_, _, _, tT, rfl, rfl, (by show 8 ≤ sizeLine; decide), .cons ⟨_, rfl⟩ (.cons ⟨_, rfl⟩ (.cons ⟨_, rfl⟩ (.cons ⟨_, rfl⟩ (.cons ⟨_, rfl⟩ (.cons ⟨_, rfl⟩ (.cons ⟨_, rfl⟩ (.cons ⟨_, rfl⟩ (.nil))))))))⟩, fun H => .inr ⟨_, _, _, tR, rfl, rfl, (by show 6 ≤ sizeLine; decide), .cons ⟨_, rfl⟩ (.cons ⟨_, rfl⟩ (.cons ⟨_, rfl⟩ (.cons ⟨_, rfl⟩ (.cons ⟨_, rfl⟩ (.cons ⟨_, rfl⟩ (.nil))))))⟩, fun H => .inr ⟨_, _, _, tE, rfl, rfl, (by show 3 ≤ sizeLine; decide), .cons ⟨_, rfl⟩ (.cons ⟨_, rfl⟩ (.cons ⟨_, rfl⟩ (.nil)))⟩, ⟨fwo, _, Fwo, bwo, PySem.W.mg_of X G awo, kwo⟩, ⟨foo, _, Foo, boo, PySem.W.mg_of X G aoo, koo⟩, ⟨fiw, _, Fiw, biw, PySem.W.mg_of X G aiw, kiw⟩, ⟨faw, _, Faw, baw, PySem.W.mg_of X G aaw, kaw⟩, ⟨fir, _, Fir, bir, PySem.W.mg_of X G air, kir⟩, ⟨fie, _, Fie, bie, PySem.W.mg_of X G aie, kie⟩⟩
  have FIT := fun_mk (st := sEI) lIT cIT kIT
  have bIT := FIT.binds (ps := ["self", "value"]) fun _ _ _ _ _ _ us hl => match us, hl with | [_, _], _ => rfl
  have Fli := fun_mk (st := sLI) lli cli kli
  have bli := Fli.binds (ps := ["self", "text"]) fun _ _ _ _ _ _ us hl => match us, hl with | [_, _], _ => rfl
  let TC : TxC K mg := ⟨TL, ⟨CIT, fIT, _, PySem.W.mg_of X G aCIT, ⟨⟨nmIT, qIT, NIT, bsIT, bmIT, snIT, subIT, abIT, colIT, ddIT, m0IT, m1IT, m2IT, m3IT, m5IT, xIT, xrIT⟩, e1IT, e2IT, e3IT, e4IT⟩, aIT, e5IT, e6IT, FIT, bIT⟩, PySem.W.mg_none_of X G z_isinstance, PySem.W.mg_none_of X G z_str, CL, PySem.W.mg_of X G aCL, ⟨pgL, hdL, poL, saL⟩, nL0, nL1, nL2, nL3, nL4, fli, _, Fli, bli, ⟨mkL, ali, ili, kcL⟩⟩
  have Fcs := fun_mk (st := sCS) lcs ccs kcs
  have bcs := Fcs.binds (ps := ["sizes", "width"]) fun _ _ _ _ _ _ us hl => match us, hl with | [_, _], _ => rfl
  have Fwr := fun_mk (st := sWR) lwr cwr kwr
  have bwr := Fwr.binds (ps := ["items"]) fun _ _ _ _ _ _ us hl => match us, hl with | [_], _ => rfl
  have Ffr := fun_mk (st := sFR) lfr cfr kfr
  have bfr := Ffr.binds (ps := ["row", "width"]) fun _ _ _ _ _ _ us hl => match us, hl with | [_, _], _ => rfl
  have Fcr := fun_mk (st := sCR) lcr ccr kcr
  have bcr := Fcr.binds (ps := ["row", "width"]) fun _ _ _ _ _ _ us hl => match us, hl with | [_, _], _ => rfl
  have Ftr := fun_mk (st := sTR) ltr ctr ktr
  have btr := Ftr.binds (ps := ["row", "width"]) fun _ _ _ _ _ _ us hl => match us, hl with | [_, _], _ => rfl
  have Fco := fun_mk (st := sCO) lco cco kco
  have bco := Fco.binds (ps := ["text"]) fun _ _ _ _ _ _ us hl => match us, hl with | [_], _ => rfl
  have Fai := fun_mk (st := sAI) lai cai kai
  have bai := Fai.binds (ps := ["self", "text"]) fun _ _ _ _ _ _ us hl => match us, hl with | [_, _], _ => rfl
  let TA : TxA w K mg := ⟨⟨CIT, fIT, _, PySem.W.mg_of X G aCIT, ⟨⟨nmIT, qIT, NIT, bsIT, bmIT, snIT, subIT, abIT, colIT, ddIT, m0IT, m1IT, m2IT, m3IT, m5IT, xIT, xrIT⟩, e1IT, e2IT, e3IT, e4IT⟩, aIT, e5IT, e6IT, FIT, bIT⟩, PySem.W.mg_none_of X G z_len, PySem.W.mg_none_of X G z_str, PySem.W.mg_none_of X G z_int, PySem.W.mg_none_of X G z_range, PySem.W.mg_none_of X G z_tuple, PySem.W.mg_none_of X G z_isinstance, ⟨_, PySem.W.mg_of X G mMW⟩, ⟨_, PySem.W.mg_of X G mMC⟩, dC, PySem.W.mg_of X G gdC, dwC, fun k => (match k with | .cut => fcr | .fill => ffr | .tail => ftr), fun k => (match k with | .cut => nkcut | .fill => nkfill | .tail => nktail), ⟨fco, _, Fco, bco, PySem.W.mg_of X G aco, kco⟩, CA, PySem.W.mg_of X G aCA, ⟨pgA, hdA, poA, saA⟩, nA0, nA1, fai, _, Fai, bai, ⟨mkA, aai, iai, kcA⟩⟩
  have Fri := fun_mk (st := sRI) lri cri kri
  have bri := Fri.binds (ps := ["self", "unit", "times", "last"]) fun _ _ _ _ _ _ us hl => match us, hl with | [_, _, _, _], _ => rfl
  have Fmn := fun_mk (st := sRM) lmn cmn kmn
  have bmn := Fmn.binds (ps := ["self"]) fun _ _ _ _ _ _ us hl => match us, hl with | [_], _ => rfl
  have Fro := fun_mk (st := sRO) lro cro kro
  have bro := Fro.binds (ps := ["self", "items"]) fun _ _ _ _ _ _ us hl => match us, hl with | [_, _], _ => rfl
  let TRw : TxRw w K mg := ⟨TA, PySem.W.mg_none_of X G z_sum, CW, PySem.W.mg_of X G aCW, ⟨pgW, hdW, poW, saW⟩, nW0, nW1, nW2, fri, _, Fri, bri, ⟨mkW, ari, iri, kcW⟩, ⟨fmn, _, Fmn, bmn, ⟨amn, imn, kmn⟩⟩, ⟨fcs, _, Fcs, bcs, PySem.W.mg_of X G acs, kcs⟩, ⟨fwr, _, Fwr, bwr, PySem.W.mg_of X G awr, kwr⟩, ⟨ffr, _, Ffr, bfr, PySem.W.mg_of X G afr, kfr⟩, ⟨fcr, _, Fcr, bcr, PySem.W.mg_of X G acr, kcr⟩, ⟨ftr, _, Ftr, btr, PySem.W.mg_of X G atr, ktr⟩, ⟨fro, _, Fro, bro, ⟨aro, iro, kro⟩⟩, rfl, rfl, rfl⟩
  have Fiib := fun_mk (st := sIIB) liib ciib kiib
  have biib := Fiib.binds (ps := ["value", "low", "high"]) fun _ _ _ _ _ _ us hl => match us, hl with | [_, _, _], _ => rfl
  let TI : TxI K mg := ⟨PySem.W.mg_none_of X G z_isinstance, PySem.W.mg_none_of X G z_int, PySem.W.mg_none_of X G z_bool, ⟨fiib, _, Fiib, biib, PySem.W.mg_of X G aiib, kiib⟩⟩
  have FII := fun_mk (st := sEIt) lII cII kII
  have bII := FII.binds (ps := ["self", "value"]) fun _ _ _ _ _ _ us hl => match us, hl with | [_, _], _ => rfl
  have FIP := fun_mk (st := sEPl) lIP cIP kIP
  have bIP := FIP.binds (ps := ["self", "value"]) fun _ _ _ _ _ _ us hl => match us, hl with | [_, _], _ => rfl
  have Fpa := fun_mk (st := sPA) lpa cpa kpa
  have bpa := Fpa.binds (ps := ["self", "place"]) fun _ _ _ _ _ _ us hl => match us, hl with | [_, _], _ => rfl
  have Fpw := fun_mk (st := sPW) lpw cpw kpw
  have bpw := Fpw.binds (ps := ["self", "item"]) fun _ _ _ _ _ _ us hl => match us, hl with | [_, _], _ => rfl
  have Fpl := fun_mk (st := sPL) lpl cpl kpl
  have bpl := Fpl.binds (ps := ["sizes", "item"]) fun _ _ _ _ _ _ us hl => match us, hl with | [_, _], _ => rfl
  have Fcci := fun_mk (st := sCCI) lcci ccci kcci
  have bcci := Fcci.binds (ps := ["items"]) fun _ _ _ _ _ _ us hl => match us, hl with | [_], _ => rfl
  have Fan := fun_mk (st := sAN) lan can kan
  have ban := Fan.binds (ps := ["self", "items"]) fun _ _ _ _ _ _ us hl => match us, hl with | [_, _], _ => rfl
  have Fap := fun_mk (st := sAP) lap cap kap
  have bap := Fap.binds (ps := ["self", "items", "place"]) fun _ _ _ _ _ _ us hl => match us, hl with | [_, _, _], _ => rfl
  have Fao := fun_mk (st := sAO) lao cao kao
  have bao := Fao.binds (ps := ["self", "items", "item"]) fun _ _ _ _ _ _ us hl => match us, hl with | [_, _, _], _ => rfl
  let TP : TxP w K mg := ⟨TRw, TI, PySem.W.mg_none_of X G z_divmod, ⟨_, PySem.W.mg_of X G mMCI⟩, ⟨CII, fII, _, PySem.W.mg_of X G aCII, ⟨⟨nmII, qII, NII, bsII, bmII, snII, subII, abII, colII, ddII, m0II, m1II, m2II, m3II, m5II, xII, xrII⟩, e1II, e2II, e3II, e4II⟩, aII, e5II, e6II, FII, bII⟩, ⟨CIP, fIP, _, PySem.W.mg_of X G aCIP, ⟨⟨nmIP, qIP, NIP, bsIP, bmIP, snIP, subIP, abIP, colIP, ddIP, m0IP, m1IP, m2IP, m3IP, m5IP, xIP, xrIP⟩, e1IP, e2IP, e3IP, e4IP⟩, aIP, e5IP, e6IP, FIP, bIP⟩, ⟨fpa, _, Fpa, bpa, ⟨apa, ipa, kpa⟩⟩, ⟨fpw, _, Fpw, bpw, ⟨apw, ipw, kpw⟩⟩, ⟨fpl, _, Fpl, bpl, PySem.W.mg_of X G apl, kpl⟩, ⟨fcci, _, Fcci, bcci, PySem.W.mg_of X G acci, kcci⟩, ⟨fan, _, Fan, ban, ⟨aan, ian, kan⟩⟩, ⟨fap, _, Fap, bap, ⟨aap, iap, kap⟩⟩, ⟨fao, _, Fao, bao, ⟨aao, iao, kao⟩⟩⟩
  have Fae := fun_mk (st := sAE) lae cae kae
  have bae := Fae.binds (ps := ["self", "other"]) fun _ _ _ _ _ _ us hl => match us, hl with | [_, _], _ => rfl
  have Fas := fun_mk (st := sAS) las cas kas
  have bas := Fas.binds (ps := ["self"]) fun _ _ _ _ _ _ us hl => match us, hl with | [_], _ => rfl
  have Far := fun_mk (st := sAR) lar car kar
  have bar := Far.binds (ps := ["self"]) fun _ _ _ _ _ _ us hl => match us, hl with | [_], _ => rfl
  let TAm : TxAm w K mg := ⟨TA, ⟨fae, _, Fae, bae, aae, iae⟩, ⟨fas, _, Fas, bas, aas, ias⟩, ⟨far, _, Far, bar, aar, iar⟩, nneA, ⟨y1A, y2A, y3A, y4A, y5A⟩⟩
  have Fsip := fun_mk (st := sSip) lsip csip ksip
  have bsip := Fsip.binds (ps := ["_law_jar_here", "_law_many"]) fun _ _ _ _ _ _ us hl => match us, hl with | [_, _], _ => rfl
  have Ffrm := fun_mk (st := sFrom) lfrm cfrm kfrm
  have bfrm := Ffrm.binds (ps := ["_law_jar_here", "_law_things"]) fun _ _ _ _ _ _ us hl => match us, hl with | [_, _], _ => rfl
  have Fcts := fun_mk (st := sCuts) lcts ccts kcts
  have bcts := Fcts.binds (ps := ["_law_jar_here", "_law_most"]) fun _ _ _ _ _ _ us hl => match us, hl with | [_, _], _ => rfl
  have Flin := fun_mk (st := sCLine) llin clin klin
  have blin := Flin.binds (ps := ["_law_cutters_here"]) fun _ _ _ _ _ _ us hl => match us, hl with | [_], _ => rfl
  let TAd : TxAd K mg := ⟨⟨PySem.W.mg_none_of X G z_len, PySem.W.mg_none_of X G z_int, PySem.W.mg_none_of X G z_abs, PySem.W.mg_none_of X G z_divmod⟩, PySem.W.mg_none_of X G z_range, PySem.W.mg_none_of X G z_str, ⟨fsip, _, Fsip, bsip, PySem.W.mg_of X G asip, ksip⟩, ⟨ffrm, _, Ffrm, bfrm, PySem.W.mg_of X G afrm, kfrm⟩, ⟨fcts, _, Fcts, bcts, PySem.W.mg_of X G acts, kcts⟩, ⟨flin, _, Flin, blin, PySem.W.mg_of X G alin, klin⟩⟩
  have FNC := fun_mk (st := sENC) lNC cNC kNC
  have bNC := FNC.binds (ps := ["self", "value"]) fun _ _ _ _ _ _ us hl => match us, hl with | [_, _], _ => rfl
  have Frs := fun_mk (st := sRS) lrs crs krs
  have brs := Frs.binds (ps := ["self"]) fun _ _ _ _ _ _ us hl => match us, hl with | [_], _ => rfl
  have Fcc := fun_mk (st := sCC) lcc ccc kcc
  have bcc := Fcc.binds (ps := ["chain"]) fun _ _ _ _ _ _ us hl => match us, hl with | [_], _ => rfl
  let TS : TxS w K mg := ⟨TRw, TI, ⟨y1A, y2A, y3A, y4A, y5A⟩, ⟨CNC, fNC, _, PySem.W.mg_of X G aCNC, ⟨⟨nmNC, qNC, NNC, bsNC, bmNC, snNC, subNC, abNC, colNC, ddNC, m0NC, m1NC, m2NC, m3NC, m5NC, xNC, xrNC⟩, e1NC, e2NC, e3NC, e4NC⟩, aNC, e5NC, e6NC, FNC, bNC⟩, ⟨frs, _, Frs, brs, ⟨ars, irs, krs⟩⟩, ⟨fcc, _, Fcc, bcc, PySem.W.mg_of X G acc, kcc⟩⟩
  have Fasp := fun_mk (st := sASp) lasp casp kasp
  have basp := Fasp.binds (ps := ["chain", "other_chain", "items"]) fun _ _ _ _ _ _ us hl => match us, hl with | [_, _, _], _ => rfl
  have Ffd := fun_mk (st := sFD) lfd cfd kfd
  have bfd := Ffd.binds (ps := ["chain", "other_chain"]) fun _ _ _ _ _ _ us hl => match us, hl with | [_, _], _ => rfl
  let TF : TxF w K mg := ⟨TS, ⟨_, PySem.W.mg_of X G mMT⟩, ⟨fasp, _, Fasp, basp, PySem.W.mg_of X G aasp, kasp⟩, ⟨ffd, _, Ffd, bfd, PySem.W.mg_of X G afd, kfd⟩⟩
  have Fgrt := fun_mk (st := sGrt) lgrt cgrt kgrt
  have bgrt := Fgrt.binds (ps := ["_law_jar_here"]) fun _ _ _ _ _ _ us hl => match us, hl with | [_], _ => rfl
  have Flr := fun_mk (st := sLR) llr clr klr
  have blr := Flr.binds (ps := ["self"]) fun _ _ _ _ _ _ us hl => match us, hl with | [_], _ => rfl
  have Fcm := fun_mk (st := sCame) lcm ccm kcm
  have bcm := Fcm.binds (ps := ["_law_ask"]) fun _ _ _ _ _ _ us hl => match us, hl with | [_], _ => rfl
  let TCm : TxCm w K mg CNC CII CIP := ⟨TAm, ⟨TC, ⟨flr, _, Flr, blr, alr, ilr⟩⟩, PySem.W.mg_none_of X G z_isinstance, PySem.W.mg_none_of X G z_repr, CBI, CBS, CBZ, PySem.W.mg_of X G aCNC, PySem.W.mg_of X G aCII, PySem.W.mg_of X G aCIP, PySem.W.mg_of X G aCBI, PySem.W.mg_of X G aCBS, PySem.W.mg_of X G aCBZ, ⟨⟨⟨x7NC, x8NC, e2NC, x9NC⟩, xANC, xBNC, xg1, xg2, xCNC⟩, e6NC, k0NC, k1NC, k2NC, kcNC, kdNC, keNC, xaNC⟩, ⟨⟨⟨x7II, x8II, e2II, x9II⟩, xAII, xBII, xg1, xg2, xCII⟩, e6II, k0II, k1II, k2II, kcII, kdII, keII, xaII⟩, ⟨⟨⟨x7IP, x8IP, e2IP, x9IP⟩, xAIP, xBIP, xg1, xg2, xCIP⟩, e6IP, k0IP, k1IP, k2IP, kcIP, kdIP, keIP, xaIP⟩, ⟨fcm, _, Fcm, bcm, PySem.W.mg_of X G acm, kcm⟩⟩
  have Fodd := fun_mk (st := sOdd) lodd codd kodd
  have bodd := Fodd.binds (ps := ["_law_jar_here"]) fun _ _ _ _ _ _ us hl => match us, hl with | [_], _ => rfl
  have Fdue := fun_mk (st := sDue) ldue cdue kdue
  have bdue := Fdue.binds (ps := ["_law_spot", "_law_thing"]) fun _ _ _ _ _ _ us hl => match us, hl with | [_, _], _ => rfl
  let TOd : TxOd w K mg := ⟨TP, TF, ⟨TAd, ⟨fgrt, _, Fgrt, bgrt, PySem.W.mg_of X G agrt, kgrt⟩⟩, TCm, rfl, rfl, (fun d => match d with | .none => nbANoneType | .bool _ => nbAbool | .int _ => nbAint | .str _ => nbAstr | .list _ => nbAlist | .tuple _ => nbAtuple | .dict _ => nbAdict), ⟨y1L, y2L, y3L, y4L, y5L⟩, kLA, kAi, kAb, ⟨fodd, _, Fodd, bodd, PySem.W.mg_of X G aodd, kodd⟩, ⟨fdue, _, Fdue, bdue, PySem.W.mg_of X G adue, kdue⟩⟩
  have KN : KBinds K (PySem.W.fnOf "number" "Chain.number" (defArgs sAN) (defBody sAN) (defScope sAN) .none kVan dcan pman anan cdan ctan) ["self", "items"] ["items"] gK1 gK1V := ⟨fun s us ws _ hl => by
      match us, ws, hl with
      | [_], [_], _ => exact .of_eq rfl, fun h1 h2 => gK1_rel h1 h2⟩
  have KP : KBinds K (PySem.W.fnOf "piece" "Chain.piece" (defArgs sAP) (defBody sAP) (defScope sAP) .none kVap dcap pmap anap cdap ctap) ["self", "items", "place"] ["place", "items"] gK2 gK2V := ⟨fun s us ws _ hl => by
      match us, ws, hl with
      | [_], [_, _], _ => exact .of_eq rfl, fun h1 h2 => gK2_rel h1 h2⟩
  have KO : KBinds K (PySem.W.fnOf "place_of" "Chain.place_of" (defArgs sAO) (defBody sAO) (defScope sAO) .none kVao dcao pmao anao cdao ctao) ["self", "items", "item"] ["item", "items"] gK2 gK2V := ⟨fun s us ws _ hl => by
      match us, ws, hl with
      | [_], [_, _], _ => exact .of_eq rfl, fun h1 h2 => gK2_rel h1 h2⟩
  have KF : KBinds K (PySem.W.fnOf "first_difference" "first_difference" (defArgs sFD) (defBody sFD) (defScope sFD) .none kVfd dcfd pmfd anfd cdfd ctfd) ["chain", "other_chain"] ["other_chain", "chain"] gK0 gK0V := ⟨fun s us ws _ hl => by
      match us, ws, hl with
      | [], [_, _], _ => exact .of_eq rfl, fun h1 h2 => gK0_rel h1 h2⟩
  have Fjar := fun_mk (st := sJar) ljar cjar kjar
  have bjar := Fjar.binds (ps := ["_law_script", "_law_k"]) fun _ _ _ _ _ _ us hl => match us, hl with | [_, _], _ => rfl
  have Firt := fun_mk (st := sItR) lirt cirt kirt
  have birt := Firt.binds (ps := ["_law_jar_here", "_law_mine"]) fun _ _ _ _ _ _ us hl => match us, hl with | [_, _], _ => rfl
  have Fprt := fun_mk (st := sPlR) lprt cprt kprt
  have bprt := Fprt.binds (ps := ["_law_jar_here", "_law_mine", "_law_many"]) fun _ _ _ _ _ _ us hl => match us, hl with | [_, _, _], _ => rfl
  have Fqrt := fun_mk (st := sPaR) lqrt cqrt kqrt
  have bqrt := Fqrt.binds (ps := ["_law_jar_here", "_law_mine"]) fun _ _ _ _ _ _ us hl => match us, hl with | [_, _], _ => rfl
  have Frt := fun_mk (st := sRight) lrt crt krt
  have brt := Frt.binds (ps := ["_law_jar_here"]) fun _ _ _ _ _ _ us hl => match us, hl with | [_], _ => rfl
  have Flaw := fun_mk (st := sLaw) llaw claw klaw
  let TLR : TxLR w K mg := ⟨TOd, KN, KP, KO, KF, ⟨firt, _, Firt, birt, PySem.W.mg_of X G airt, kirt⟩, ⟨fprt, _, Fprt, bprt, PySem.W.mg_of X G aprt, kprt⟩, ⟨fqrt, _, Fqrt, bqrt, PySem.W.mg_of X G aqrt, kqrt⟩⟩
  have Flch := fun_mk (st := sLCh) llch clch klch
  have blch := Flch.binds (ps := ["_law_cutters_here"]) fun _ _ _ _ _ _ us hl => match us, hl with | [_], _ => rfl
  let R : TxR w K mg := ⟨TLR, ⟨flch, _, Flch, blch, PySem.W.mg_of X G alch, klch⟩⟩
  refine ⟨_, [(cR1, PR1), (cR2, PR2), (cR3, PR3)], spLaw K PR1 PR2 PR3, fun p hp => ?_, fun p hp => ?_, fun p hp => ?_, fun s v => .of_eq rfl, fun H a ns hl hT hS => ?_, fun base _ _ sm hB => ok_law Flaw TAd.J TAd.range (PySem.W.mg_none_of X G z_all) 11 (ok_right Frt R rfl rfl rfl neP ne13 ne23 sm (hB (cR1, PR1) List.mem_cons_self) (hB (cR2, PR2) (List.mem_cons_of_mem _ List.mem_cons_self)) (hB (cR3, PR3) (List.mem_cons_of_mem _ (List.mem_cons_of_mem _ List.mem_cons_self)))) Fjar bjar (PySem.W.mg_of X G ajar) kjar (by decide) brt (PySem.W.mg_of X G art) krt (PySem.W.mg_none_of X G z_max) (PySem.W.mg_none_of X G z_min)⟩
  · skip
    rcases List.mem_cons.mp hp with hp | hp
    · cases hp
      exact q51
    rcases List.mem_cons.mp hp with hp | hp
    · cases hp
      exact q52
    · cases List.mem_singleton.mp hp
      exact q53
  · skip
    rcases List.mem_cons.mp hp with hp | hp
    · cases hp
      exact q41
    rcases List.mem_cons.mp hp with hp | hp
    · cases hp
      exact q42
    · cases List.mem_singleton.mp hp
      exact q43
  · skip
    rcases List.mem_cons.mp hp with hp | hp
    · cases hp
      exact PySem.W.codeHd_of_K X q31
    rcases List.mem_cons.mp hp with hp | hp
    · cases hp
      exact PySem.W.codeHd_of_K X q32
    · cases List.mem_singleton.mp hp
      exact PySem.W.codeHd_of_K X q33
  · refine ⟨a, ns, rfl, hS, hl, fun p hp => ?_, fun _ => rfl⟩
    rcases List.mem_cons.mp hp with hp | hp
    · cases hp
      exact LamX.TabS.nil (hT (cR1, PR1) List.mem_cons_self)
    rcases List.mem_cons.mp hp with hp | hp
    · cases hp
      exact LamX.TabS.nil (hT (cR2, PR2) (List.mem_cons_of_mem _ List.mem_cons_self))
    · cases List.mem_singleton.mp hp
      exact LamX.TabS.nil (hT (cR3, PR3) (List.mem_cons_of_mem _ (List.mem_cons_of_mem _ List.mem_cons_self)))
end My
open PySem PySem.W PyProof.Rows in
set_option maxRecDepth 100000 in
set_option maxHeartbeats 0 in
theorem PySem.Challenge.cw_lastshort_k60_chains_refused_holds : PySem.Challenge.rw_lastshort_k60_chains_refused.Holds := by
  w_on; o_law; k_head; (case hw => w_witness2)
  k_fill
  refine Gd.walk_ofG (l := PySem.Challenge.rw_lastshort_k60_chains_refused) (n := 63) (k := 12) (x := "_law_script") rfl (by decide) rfl (by decide +kernel) ⟨rfl, by decide, by decide⟩ (fun w h Y => PySem.W.km_in_of Y) ?F
  case F =>
    intro w mg fa h Y KX G hmg
    refine' My.all_mk KX G hmg ?gT ?tT ?gR ?tR ?gE ?tE ?mB ?mMR ?mME ?awo ?lwo ?cwo ?kwo ?aoo ?loo ?coo ?koo ?aiw ?liw ?ciw ?kiw ?aaw ?law ?caw ?kaw ?air ?lir ?cir ?kir ?aie ?lie ?cie ?kie ?aCIT ?aIT ?iIT ?lIT ?cIT ?kIT ?xIT ?xrIT ?e1IT ?e2IT ?e3IT ?e4IT ?e5IT ?e6IT ?aCL ?pgL ?hdL ?poL ?saL ?mkL ?kcL ?nL0 ?nL1 ?nL2 ?nL3 ?nL4 ?ali ?ili ?lli ?cli ?kli ?acs ?lcs ?ccs ?kcs ?awr ?lwr ?cwr ?kwr ?afr ?lfr ?cfr ?kfr ?acr ?lcr ?ccr ?kcr ?atr ?ltr ?ctr ?ktr ?mMW ?mMC ?gdC ?nkcut ?nkfill ?nktail ?dwC ?aco ?lco ?cco ?kco ?aCA ?pgA ?hdA ?poA ?saA ?mkA ?kcA ?nA0 ?nA1 ?aai ?iai ?lai ?cai ?kai ?aCW ?pgW ?hdW ?poW ?saW ?mkW ?kcW ?nW0 ?nW1 ?nW2 ?ari ?iri ?lri ?cri ?kri ?amn ?imn ?lmn ?cmn ?kmn ?aro ?iro ?lro ?cro ?kro ?aiib ?liib ?ciib ?kiib ?mMCI ?aCII ?aII ?iII ?lII ?cII ?kII ?xII ?xrII ?e1II ?e2II ?e3II ?e4II ?e5II ?e6II ?aCIP ?aIP ?iIP ?lIP ?cIP ?kIP ?xIP ?xrIP ?e1IP ?e2IP ?e3IP ?e4IP ?e5IP ?e6IP ?apa ?ipa ?lpa ?cpa ?kpa ?apw ?ipw ?lpw ?cpw ?kpw ?apl ?lpl ?cpl ?kpl ?acci ?lcci ?ccci ?kcci ?aan ?ian ?lan ?can ?kan ?aap ?iap ?lap ?cap ?kap ?aao ?iao ?lao ?cao ?kao ?aae ?iae ?lae ?cae ?kae ?aas ?ias ?las ?cas ?kas ?aar ?iar ?lar ?car ?kar ?nneA ?y1A ?y2A ?y3A ?y4A ?y5A ?asip ?lsip ?csip ?ksip ?afrm ?lfrm ?cfrm ?kfrm ?acts ?lcts ?ccts ?kcts ?alin ?llin ?clin ?klin ?aCNC ?aNC ?iNC ?lNC ?cNC ?kNC ?xNC ?xrNC ?e1NC ?e2NC ?e3NC ?e4NC ?e5NC ?e6NC ?ars ?irs ?lrs ?crs ?krs ?acc ?lcc ?ccc ?kcc ?mMT ?aasp ?lasp ?casp ?kasp ?afd ?lfd ?cfd ?kfd ?agrt ?lgrt ?cgrt ?kgrt ?alr ?ilr ?llr ?clr ?klr ?aCBI ?aCBS ?aCBZ ?xaNC ?k0NC ?k1NC ?k2NC ?x7NC ?x8NC ?x9NC ?xANC ?xBNC ?xg1 ?xg2 ?xCNC ?kcNC ?kdNC ?keNC ?xaII ?k0II ?k1II ?k2II ?x7II ?x8II ?x9II ?xAII ?xBII ?xCII ?kcII ?kdII ?keII ?xaIP ?k0IP ?k1IP ?k2IP ?x7IP ?x8IP ?x9IP ?xAIP ?xBIP ?xCIP ?kcIP ?kdIP ?keIP ?acm ?lcm ?ccm ?kcm ?nbANoneType ?nbAbool ?nbAint ?nbAstr ?nbAlist ?nbAtuple ?nbAdict ?y1L ?y2L ?y3L ?y4L ?y5L ?kLA ?kAi ?kAb ?aodd ?lodd ?codd ?kodd ?adue ?ldue ?cdue ?kdue ?ajar ?ljar ?cjar ?kjar ?airt ?lirt ?cirt ?kirt ?aprt ?lprt ?cprt ?kprt ?aqrt ?lqrt ?cqrt ?kqrt ?art ?lrt ?crt ?krt ?alaw ?llaw ?claw ?klaw ?q11 ?q21 ?q31 ?q41 ?q51 ?q12 ?q22 ?q32 ?q42 ?q52 ?q13 ?q23 ?q33 ?q43 ?q53 ?neP ?ne13 ?ne23 ?alch ?llch ?clch ?klch ?z_tuple ?z_len ?z_all ?z_isinstance ?z_str ?z_int ?z_range ?z_sum ?z_bool ?z_divmod ?z_abs ?z_repr ?z_max ?z_min
    (case gT => k_is)
    (case tT => k_is)
    (case gR => k_is)
    (case tR => k_is)
    (case gE => k_is)
    (case tE => k_is)
    (case mB => k_is)
    (case mMR => k_is)
    (case mME => k_is)
    (case awo => k_is)
    (case lwo => k_is)
    (case cwo => k_is)
    (case kwo => k_is)
    (case aoo => k_is)
    (case loo => k_is)
    (case coo => k_is)
    (case koo => k_is)
    (case aiw => k_is)
    (case liw => k_is)
    (case ciw => k_is)
    (case kiw => k_is)
    (case aaw => k_is)
    (case law => k_is)
    (case caw => k_is)
    (case kaw => k_is)
    (case air => k_is)
    (case lir => k_is)
    (case cir => k_is)
    (case kir => k_is)
    (case aie => k_is)
    (case lie => k_is)
    (case cie => k_is)
    (case kie => k_is)
    (case aCIT => k_is)
    (case aIT => k_is)
    (case iIT => k_is)
    (case lIT => k_is)
    (case cIT => k_is)
    (case kIT => k_is)
    (case xIT => k_is)
    (case xrIT => decide +kernel)
    (case e1IT => k_is)
    (case e2IT => k_is)
    (case e3IT => k_is)
    (case e4IT => k_is)
    (case e5IT => k_is)
    (case e6IT => k_is)
    (case aCL => k_is)
    (case pgL => k_is)
    (case hdL => k_is)
    (case poL => k_is)
    (case saL => k_is)
    (case mkL => k_is)
    (case kcL => k_is)
    (case nL0 => k_is)
    (case nL1 => k_is)
    (case nL2 => k_is)
    (case nL3 => k_is)
    (case nL4 => k_is)
    (case ali => k_is)
    (case ili => k_is)
    (case lli => k_is)
    (case cli => k_is)
    (case kli => k_is)
    (case acs => k_is)
    (case lcs => k_is)
    (case ccs => k_is)
    (case kcs => k_is)
    (case awr => k_is)
    (case lwr => k_is)
    (case cwr => k_is)
    (case kwr => k_is)
    (case afr => k_is)
    (case lfr => k_is)
    (case cfr => k_is)
    (case kfr => k_is)
    (case acr => k_is)
    (case lcr => k_is)
    (case ccr => k_is)
    (case kcr => k_is)
    (case atr => k_is)
    (case ltr => k_is)
    (case ctr => k_is)
    (case ktr => k_is)
    (case mMW => k_is)
    (case mMC => k_is)
    (case gdC => k_is)
    (case nkcut => k_is)
    (case nkfill => k_is)
    (case nktail => k_is)
    (case dwC => kernel_rfl)
    (case aco => k_is)
    (case lco => k_is)
    (case cco => k_is)
    (case kco => k_is)
    (case aCA => k_is)
    (case pgA => k_is)
    (case hdA => k_is)
    (case poA => k_is)
    (case saA => k_is)
    (case mkA => k_is)
    (case kcA => k_is)
    (case nA0 => k_is)
    (case nA1 => k_is)
    (case aai => k_is)
    (case iai => k_is)
    (case lai => k_is)
    (case cai => k_is)
    (case kai => k_is)
    (case aCW => k_is)
    (case pgW => k_is)
    (case hdW => k_is)
    (case poW => k_is)
    (case saW => k_is)
    (case mkW => k_is)
    (case kcW => k_is)
    (case nW0 => k_is)
    (case nW1 => k_is)
    (case nW2 => k_is)
    (case ari => k_is)
    (case iri => k_is)
    (case lri => k_is)
    (case cri => k_is)
    (case kri => k_is)
    (case amn => k_is)
    (case imn => k_is)
    (case lmn => k_is)
    (case cmn => k_is)
    (case kmn => k_is)
    (case aro => k_is)
    (case iro => k_is)
    (case lro => k_is)
    (case cro => k_is)
    (case kro => k_is)
    (case aiib => k_is)
    (case liib => k_is)
    (case ciib => k_is)
    (case kiib => k_is)
    (case mMCI => k_is)
    (case aCII => k_is)
    (case aII => k_is)
    (case iII => k_is)
    (case lII => k_is)
    (case cII => k_is)
    (case kII => k_is)
    (case xII => k_is)
    (case xrII => decide +kernel)
    (case e1II => k_is)
    (case e2II => k_is)
    (case e3II => k_is)
    (case e4II => k_is)
    (case e5II => k_is)
    (case e6II => k_is)
    (case aCIP => k_is)
    (case aIP => k_is)
    (case iIP => k_is)
    (case lIP => k_is)
    (case cIP => k_is)
    (case kIP => k_is)
    (case xIP => k_is)
    (case xrIP => decide +kernel)
    (case e1IP => k_is)
    (case e2IP => k_is)
    (case e3IP => k_is)
    (case e4IP => k_is)
    (case e5IP => k_is)
    (case e6IP => k_is)
    (case apa => k_is)
    (case ipa => k_is)
    (case lpa => k_is)
    (case cpa => k_is)
    (case kpa => k_is)
    (case apw => k_is)
    (case ipw => k_is)
    (case lpw => k_is)
    (case cpw => k_is)
    (case kpw => k_is)
    (case apl => k_is)
    (case lpl => k_is)
    (case cpl => k_is)
    (case kpl => k_is)
    (case acci => k_is)
    (case lcci => k_is)
    (case ccci => k_is)
    (case kcci => k_is)
    (case aan => k_is)
    (case ian => k_is)
    (case lan => k_is)
    (case can => k_is)
    (case kan => k_is)
    (case aap => k_is)
    (case iap => k_is)
    (case lap => k_is)
    (case cap => k_is)
    (case kap => k_is)
    (case aao => k_is)
    (case iao => k_is)
    (case lao => k_is)
    (case cao => k_is)
    (case kao => k_is)
    (case aae => k_is)
    (case iae => k_is)
    (case lae => k_is)
    (case cae => k_is)
    (case kae => k_is)
    (case aas => k_is)
    (case ias => k_is)
    (case las => k_is)
    (case cas => k_is)
    (case kas => k_is)
    (case aar => k_is)
    (case iar => k_is)
    (case lar => k_is)
    (case car => k_is)
    (case kar => k_is)
    (case nneA => k_is)
    (case y1A => k_is)
    (case y2A => k_is)
    (case y3A => k_is)
    (case y4A => k_is)
    (case y5A => kernel_rfl)
    (case asip => k_is)
    (case lsip => k_is)
    (case csip => k_is)
    (case ksip => k_is)
    (case afrm => k_is)
    (case lfrm => k_is)
    (case cfrm => k_is)
    (case kfrm => k_is)
    (case acts => k_is)
    (case lcts => k_is)
    (case ccts => k_is)
    (case kcts => k_is)
    (case alin => k_is)
    (case llin => k_is)
    (case clin => k_is)
    (case klin => k_is)
    (case aCNC => k_is)
    (case aNC => k_is)
    (case iNC => k_is)
    (case lNC => k_is)
    (case cNC => k_is)
    (case kNC => k_is)
    (case xNC => k_is)
    (case xrNC => decide +kernel)
    (case e1NC => k_is)
    (case e2NC => k_is)
    (case e3NC => k_is)
    (case e4NC => k_is)
    (case e5NC => k_is)
    (case e6NC => k_is)
    (case ars => k_is)
    (case irs => k_is)
    (case lrs => k_is)
    (case crs => k_is)
    (case krs => k_is)
    (case acc => k_is)
    (case lcc => k_is)
    (case ccc => k_is)
    (case kcc => k_is)
    (case mMT => k_is)
    (case aasp => k_is)
    (case lasp => k_is)
    (case casp => k_is)
    (case kasp => k_is)
    (case afd => k_is)
    (case lfd => k_is)
    (case cfd => k_is)
    (case kfd => k_is)
    (case agrt => k_is)
    (case lgrt => k_is)
    (case cgrt => k_is)
    (case kgrt => k_is)
    (case alr => k_is)
    (case ilr => k_is)
    (case llr => k_is)
    (case clr => k_is)
    (case klr => k_is)
    (case aCBI => k_is)
    (case aCBS => k_is)
    (case aCBZ => k_is)
    (case xaNC => kernel_rfl)
    (case k0NC => kernel_rfl)
    (case k1NC => kernel_rfl)
    (case k2NC => kernel_rfl)
    (case x7NC => k_is)
    (case x8NC => k_is)
    (case x9NC => k_is)
    (case xANC => kernel_rfl)
    (case xBNC => k_is)
    (case xg1 => k_is)
    (case xg2 => k_is)
    (case xCNC => k_is)
    (case kcNC => kernel_rfl)
    (case kdNC => kernel_rfl)
    (case keNC => kernel_rfl)
    (case xaII => kernel_rfl)
    (case k0II => kernel_rfl)
    (case k1II => kernel_rfl)
    (case k2II => kernel_rfl)
    (case x7II => k_is)
    (case x8II => k_is)
    (case x9II => k_is)
    (case xAII => kernel_rfl)
    (case xBII => k_is)
    (case xCII => k_is)
    (case kcII => kernel_rfl)
    (case kdII => kernel_rfl)
    (case keII => kernel_rfl)
    (case xaIP => kernel_rfl)
    (case k0IP => kernel_rfl)
    (case k1IP => kernel_rfl)
    (case k2IP => kernel_rfl)
    (case x7IP => k_is)
    (case x8IP => k_is)
    (case x9IP => k_is)
    (case xAIP => kernel_rfl)
    (case xBIP => k_is)
    (case xCIP => k_is)
    (case kcIP => kernel_rfl)
    (case kdIP => kernel_rfl)
    (case keIP => kernel_rfl)
    (case acm => k_is)
    (case lcm => k_is)
    (case ccm => k_is)
    (case kcm => k_is)
    (case nbANoneType => kernel_rfl)
    (case nbAbool => kernel_rfl)
    (case nbAint => kernel_rfl)
    (case nbAstr => kernel_rfl)
    (case nbAlist => kernel_rfl)
    (case nbAtuple => kernel_rfl)
    (case nbAdict => kernel_rfl)
    (case y1L => k_is)
    (case y2L => k_is)
    (case y3L => k_is)
    (case y4L => k_is)
    (case y5L => kernel_rfl)
    (case kLA => kernel_rfl)
    (case kAi => kernel_rfl)
    (case kAb => kernel_rfl)
    (case aodd => k_is)
    (case lodd => k_is)
    (case codd => k_is)
    (case kodd => k_is)
    (case adue => k_is)
    (case ldue => k_is)
    (case cdue => k_is)
    (case kdue => k_is)
    (case ajar => k_is)
    (case ljar => k_is)
    (case cjar => k_is)
    (case kjar => k_is)
    (case airt => k_is)
    (case lirt => k_is)
    (case cirt => k_is)
    (case kirt => k_is)
    (case aprt => k_is)
    (case lprt => k_is)
    (case cprt => k_is)
    (case kprt => k_is)
    (case aqrt => k_is)
    (case lqrt => k_is)
    (case cqrt => k_is)
    (case kqrt => k_is)
    (case art => k_is)
    (case lrt => k_is)
    (case crt => k_is)
    (case krt => k_is)
    (case alaw => k_is)
    (case llaw => k_is)
    (case claw => k_is)
    (case klaw => k_is)
    (case q11 => k_is)
    (case q21 => rfl)
    (case q31 => kernel_rfl)
    (case q41 => kernel_rfl)
    (case q51 => exact PySem.W.km_tabs_of Y _ (by decide))
    (case q12 => k_is)
    (case q22 => rfl)
    (case q32 => kernel_rfl)
    (case q42 => kernel_rfl)
    (case q52 => exact PySem.W.km_tabs_of Y _ (by decide))
    (case q13 => k_is)
    (case q23 => rfl)
    (case q33 => kernel_rfl)
    (case q43 => kernel_rfl)
    (case q53 => exact PySem.W.km_tabs_of Y _ (by decide))
    (case neP => decide)
    (case ne13 => decide)
    (case ne23 => decide)
    (case alch => k_is)
    (case llch => k_is)
    (case clch => k_is)
    (case klch => k_is)
    (case z_tuple => k_is)
    (case z_len => k_is)
    (case z_all => k_is)
    (case z_isinstance => k_is)
    (case z_str => k_is)
    (case z_int => k_is)
    (case z_range => k_is)
    (case z_sum => k_is)
    (case z_bool => k_is)
    (case z_divmod => k_is)
    (case z_abs => k_is)
    (case z_repr => k_is)
    (case z_max => k_is)
    (case z_min => k_is)
