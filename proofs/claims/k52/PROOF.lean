import PyProof.Rows.All
import Wide.All
import OpenK.AllK
import Wide.FinOn
import HandS.ForMost
import HandS.Codes
import HandS.IsInst
import HandS.TupAny
import HandS.SlotsOwn
import HandS.ExcInit
import HandS.ExcField
import HandS.WordsExc
import KE.KCallOwn
import OpenK.KOps
import HandS.FStr
import HandS.RaiseMore
import HandS.HeadHook3
import HandS.Deep
import PyProof.InstEq
import PyProof.ReprRoads
import HandS.Lambda
import HandS.TryMany
import KE.KExcIs
import HandS.Text
import PyProof.StrBlock2
import HandS.Call
import HandS.OwnEq
import HandS.MakeKwOnly
import HandS.Conv
import PySem.Challenge.RW_lastshort_k52_whole_chain_texts
set_option Elab.async false
set_option linter.all false
set_option maxRecDepth 100000
set_option maxHeartbeats 8000000
/-! the draws of the law: jar, sip, from -/
namespace My
open PySem L2
def top (i : Nat) : Stmt := PySem.Challenge.pw_lastshort_k52_whole_chain_texts.main.body.getD i (.Pass ⟨0, 0, 0, 0⟩)
abbrev sJar : Stmt := top 17
abbrev sSip : Stmt := top 18
abbrev sFrom : Stmt := top 19
/-! ### heaps -/
/-- all but what stands at j is as it was -/
def Off (j : Addr) (H H' : Hp) : Prop := ∀ b o, b ≠ j → H b = some o → H' b = some o
theorem Off.refl {j : Addr} {H : Hp} : Off j H H := fun _ _ _ e => e
theorem Off.trans {j : Addr} {H H1 H2 : Hp} (a : Off j H H1) (b : Off j H1 H2) : Off j H H2 := fun c o n e => b c o n (a c o n e)
theorem Off.new {j p : Addr} {H H1 : Hp} {o : HO} (a : Off j H H1) (n : H1 p = none) : Off j H (upd H1 p o) := fun b u nb e => by
  rw [upd_ne (ne_of_none (a b u nb e) n)]
  exact a b u nb e
theorem Off.put {j : Addr} {H H1 : Hp} {o : HO} (a : Off j H H1) : Off j H (upd H1 j o) := fun b u nb e => by
  rw [upd_ne nb]
  exact a b u nb e
theorem Off.seq {K : PySem.W.Frag} {j a : Addr} {H H' : Hp} {xs : List V} (e : Off j H H') (n : a ≠ j) (h : SqL K H a xs) : SqL K H' a xs := by
  rcases h with (h | ⟨o, h⟩) | h
  · exact .inl (.inl (e _ _ n h))
  · exact .inl (.inr ⟨o, e _ _ n h⟩)
  · exact .inr h
theorem Off.set {K : PySem.W.Frag} {j a : Addr} {H H' : Hp} {xs : List V} (e : Off j H H') (n : a ≠ j) (h : SqT K H a xs) : SqT K H' a xs := by
  rcases h with (h | ⟨o, h⟩) | h
  · exact .inl (.inl (e _ _ n h))
  · exact .inl (.inr ⟨o, e _ _ n h⟩)
  · exact .inr h
theorem Off.same {j : Addr} {H0 H H' : Hp} (e : Off j H H') (s : Same H0 H) (n : H0 j = none) : Same H0 H' := fun b o q => e b o (fun z => by rw [z, n] at q; cases q) (s b o q)
theorem same_upd {H : Hp} {p : Addr} {o : HO} (h : H p = none) : Same H (upd H p o) := fun b x e => by
  rw [upd_ne (ne_of_none e h)]
  exact e
theorem Same.off {j : Addr} {H H' : Hp} (s : Same H H') : Off j H H' := fun b o _ e => s b o e
/-- a jar: three whole numbers -/
def Jar (H : Hp) (j : Addr) : Prop := ∃ a b c : Int, H j = some (.lst [.int a, .int b, .int c])
theorem Jar.new {H : Hp} {j p : Addr} {o : HO} (a : Jar H j) (n : H p = none) : Jar (upd H p o) j := by
  obtain ⟨x, y, z, h⟩ := a
  exact ⟨x, y, z, by rw [upd_ne (ne_of_none h n)]; exact h⟩
theorem Jar.same {H H' : Hp} {j : Addr} (a : Jar H j) (s : Same H H') : Jar H' j := by
  obtain ⟨x, y, z, h⟩ := a
  exact ⟨x, y, z, s _ _ h⟩
/-! ### promises -/
def spSip : Sp := fun vs H Q _ => ∃ (j : Addr) (m : Int), vs = [.ref j, .int m] ∧ Jar H j ∧ 0 < m ∧ m < 1073741824 ∧
  ∀ (H' : Hp) (d : Int), 0 ≤ d → d < m → Off j H H' → Jar H' j → Q (.int d) H'
def spFrom (K : PySem.W.Frag) : Sp := fun vs H Q _ => ∃ (j p : Addr) (xs : List V), vs = [.ref j, .ref p] ∧ Jar H j ∧ p ≠ j ∧ SqL K H p xs ∧ 0 < xs.length ∧ xs.length < 1073741824 ∧
  ∀ (H' : Hp) (i : Nat) (x : V), xs[i]? = some x → Off j H H' → Jar H' j → Q x H'
def spJar (K : PySem.W.Frag) : Sp := fun vs H Q _ => ∃ (a : Addr) (ns : List Int) (k : Nat), vs = [.ref a, .int k] ∧ SqL K H a (ns.map V.int) ∧ ns.length ≤ 63 ∧
  ∀ (H' : Hp) (j : Addr), Same H H' → H j = none → Jar H' j → Q (.ref j) H'
/-- the built-ins of the draws are still the built-ins -/
structure TxtJ (mg : Str → Option Value) : Prop where
  len : mg "len" = none
  int : mg "int" = none
  abs : mg "abs" = none
  divmod : mg "divmod" = none
section
variable {P : Program} {w : World} {K : PySem.W.Frag} {mg : Str → Option Value} {base : Heap}
theorem scSip : FnScope ["_law_jar_here", "_law_many", "_law_digit"] ["_law_jar_here", "_law_many"] (defScope sSip) := ⟨rfl, rfl, rfl, by decide +kernel, rfl, by decide +kernel, by decide +kernel⟩
theorem ok_sip {f : Addr} {fd : FuncData} (F : Fun K "_law_sip" "_law_sip" sSip f fd) (T : TxtJ mg) : FnOk P w K mg base CX0 1 f fd ["_law_jar_here", "_law_many"] spSip := by
  refine F.ok scSip (fun vs H Q E h => ?_) (fun cdv A outer s H vs Q E hr h => ?_)
  · obtain ⟨j, m, rfl, _⟩ := h
    rfl
  · obtain ⟨j, m, rfl, ⟨a, b, c, hj⟩, m0, m1, k⟩ := h
    refine ⟨_, pss_cons (ps_asg (pe_op op_add (pe_ix ix_list (pv 0) pe_int (fun _ _ => rfl)) pe_int) (pg_sub (pv 0) pe_int set_list))
      (pss_cons (ps_if (pt_cmpR op_gt (pe_ix ix_list (pv 0) pe_int (fun _ _ => rfl)) pe_int (nomark _))
        (pss_cons (ps_asg (pe_callB call_divmod (by rfl) T.divmod (by decide +kernel) (pa_cons (pe_callTy call_int1 (by rfl) T.int (by decide +kernel) (pa_cons (pe_ix ix_list (pv 0) pe_int (fun _ _ => rfl)) pa_nil)) (pa_cons (pv 1) pa_nil)))
            (pg_tup (by rfl) (pgs_cons (pg_sub (pv 0) pe_int set_list) (pgs_cons (pg_name (i := 2) scSip.nd rfl (.inl rfl)) pgs_nil))))
          (pss_one (ps_ret (pv 2)))) pss_nil)
      (pss_cons (ps_asg (pe_op op_mod (pe_callTy call_int1 (by rfl) T.int (by decide +kernel) (pa_cons (pe_op op_add (pe_op op_add (pe_op op_mul (pe_ix ix_list (pv 0) pe_int (fun _ _ => rfl)) pe_int) (pe_op op_mul (pe_ix ix_list (pv 0) pe_int (fun _ _ => rfl)) pe_int))
            (pe_op op_mul (pe_op op_fdiv (pe_ix ix_list (pv 0) pe_int (fun _ _ => rfl)) pe_int) pe_int)) pa_nil)) pe_int) (pg_sub (pv 0) pe_int set_list))
      (pss_one (ps_ret (pe_op op_mod (pe_callTy call_int1 (by rfl) T.int (by decide +kernel) (pa_cons (pe_op op_fdiv (pe_ix ix_list (pv 0) pe_int (fun _ _ => rfl)) pe_int) pa_nil)) (pv 1)))))), ?_⟩
    -- jar[2] = jar[2] + 1
    refine ⟨_, rfl, j, _, 2, _, rfl, rfl, SqL.of hj, rfl, _, _, rfl, rfl, _, rfl, j, _, 2, 2, rfl, rfl, hj, rfl, ?_⟩
    -- if jar[0] > 0
    refine ⟨_, rfl, j, _, 0, _, rfl, rfl, SqL.of upd_same, rfl, _, _, rfl, rfl, _, rfl, ?_⟩
    have o1 : Off j H (upd H j (.lst [.int a, .int b, .int (c + 1)])) := Off.put Off.refl
    refine ite2 (fun _ => ?_) (fun _ => ?_)
    · refine ⟨_, rfl, j, _, 0, _, rfl, rfl, SqL.of upd_same, rfl, .inl ⟨_, rfl, _, rfl, a, m, rfl, ⟨m0, m1⟩, fun p np => ?_⟩⟩
      have npj : p ≠ j := fun e => by
        rw [e, upd_same] at np
        cases np
      refine ⟨p, _, rfl, SqT.of upd_same, rfl, _, _, rfl, _, rfl, j, _, 0, 0, rfl, rfl, (by rw [upd_ne npj.symm]; exact upd_same), rfl, _, _, rfl, rfl, ?_⟩
      refine ⟨_, rfl, ?_⟩
      exact k _ _ (Int.emod_nonneg _ (by omega)) (Int.emod_lt_of_pos _ m0) (Off.put (Off.new o1 np)) ⟨_, _, _, upd_same⟩
    · refine ⟨_, rfl, j, _, 1, _, rfl, rfl, SqL.of upd_same, rfl, _, _, rfl, rfl, .inr (by decide), ?_⟩
      refine ⟨_, rfl, j, _, 2, _, rfl, rfl, SqL.of upd_same, rfl, _, _, rfl, rfl, .inr (by decide), _, _, rfl, rfl, ?_⟩
      refine ⟨_, rfl, j, _, 1, _, rfl, rfl, SqL.of upd_same, rfl, _, _, rfl, rfl, ⟨by decide, by decide⟩, _, _, rfl, rfl, .inr (by decide), _, _, rfl, rfl, .inl ⟨_, rfl, _, _, rfl, rfl, (by show (0 : Int) < 1999999927; decide), ?_⟩⟩
      refine ⟨_, rfl, j, _, 1, 1, rfl, rfl, upd_same, rfl, ?_⟩
      refine ⟨_, rfl, j, _, 1, _, rfl, rfl, SqL.of upd_same, rfl, _, _, rfl, rfl, ⟨by decide, by decide⟩, .inl ⟨_, rfl, _, rfl, _, _, rfl, rfl, m0, ?_⟩⟩
      exact k _ _ (Int.emod_nonneg _ (by omega)) (Int.emod_lt_of_pos _ m0) (Off.put o1) ⟨_, _, _, upd_same⟩

/-! ### from -/
structure TxtS (K : PySem.W.Frag) (mg : Str → Option Value) (fS : Addr) : Prop where
  g : mg "_law_sip" = some (.ref fS)
  k : PySem.W.keepIn K (.ref fS) = true
theorem scFrom : FnScope ["_law_jar_here", "_law_things"] ["_law_jar_here", "_law_things"] (defScope sFrom) := ⟨rfl, rfl, rfl, by decide +kernel, rfl, by decide +kernel, by decide +kernel⟩
theorem ok_from {f fS : Addr} {fd fdS : FuncData} (F : Fun K "_law_from" "_law_from" sFrom f fd) (T : TxtJ mg) (S : TxtS K mg fS) (FS : Fun K "_law_sip" "_law_sip" sSip fS fdS) (bS : Binds K fdS ["_law_jar_here", "_law_many"] []) :
    FnOk P w K mg base CX0 2 f fd ["_law_jar_here", "_law_things"] (spFrom K) := by
  have GS : FnOk P w K mg base CX0 1 fS fdS ["_law_jar_here", "_law_many"] spSip := ok_sip FS T
  refine F.ok scFrom (fun vs H Q E h => ?_) (fun cdv A outer s H vs Q E hr h => ?_)
  · obtain ⟨j, p, xs, rfl, _⟩ := h
    rfl
  · obtain ⟨j, p, xs, rfl, hJ, npj, hS, l0, l1, k⟩ := h
    refine ⟨_, pss_one (ps_ret (pe_ix ix_list (pv 1) (pe_call GS hr rfl S.g S.k bS .nil pass0 (pa_cons (pv 0) (pa_cons (pe_callB call_len_seq (by rfl) T.len PySem.boot_len (pa_cons (pv 1) pa_nil)) pa_nil))) (fun _ _ => rfl))), ?_⟩
    refine ⟨_, rfl, _, rfl, _, rfl, p, xs, rfl, .inl hS, j, _, rfl, hJ, by omega, by omega, fun H' d d0 d1 o J => ?_⟩
    obtain ⟨n, rfl⟩ := Int.eq_ofNat_of_zero_le d0
    have hn : n < xs.length := by omega
    exact ⟨p, xs, _, xs[n], rfl, rfl, o.seq npj hS, atI_nat (List.getElem?_eq_getElem hn), k H' n _ (List.getElem?_eq_getElem hn) o J⟩
/-! ### jar -/
theorem scJar : FnScope ["_law_script", "_law_k", "_law_own", "_law_mixed", "_law_entry"] ["_law_script", "_law_k"] (defScope sJar) := ⟨rfl, rfl, rfl, by decide +kernel, rfl, by decide +kernel, by decide +kernel⟩
theorem int_of_map {ns : List Int} {i : Nat} {y : V} (h : (ns.map V.int)[i]? = some y) : ∃ u, y = V.int u := by
  rw [List.getElem?_map] at h
  cases e : ns[i]? with
  | none =>
    rw [e] at h
    cases h
  | some u =>
    rw [e] at h
    exact ⟨u, (Option.some.inj h).symm⟩
theorem cut_map (ns : List Int) (lo hi : Option Int) : ∃ ms : List Int, cutV (ns.map V.int) lo hi = ms.map V.int :=
  ⟨(ns.drop (HT.sIx (ns.map V.int).length 0 lo)).take (HT.sIx (ns.map V.int).length (ns.map V.int).length hi - HT.sIx (ns.map V.int).length 0 lo), by
    unfold cutV
    rw [List.map_take, List.map_drop]⟩
theorem ok_jar {f : Addr} {fd : FuncData} (F : Fun K "_law_jar" "_law_jar" sJar f fd) (T : TxtJ mg) : FnOk P w K mg base CX0 1 f fd ["_law_script", "_law_k"] (spJar K) := by
  refine F.ok scJar (fun vs H Q E h => ?_) (fun cdv A outer s H vs Q E hr h => ?_)
  · obtain ⟨a, ns, k, rfl, _⟩ := h
    rfl
  · obtain ⟨a, ns, k, rfl, hS, hl, q⟩ := h
    refine ⟨_, C8.pss_cut (ps_set (i := 2) scJar.nd rfl (.inl rfl) (pe_ifExp (pt_cmpR op_lt (pv 1) (pe_callB call_len_seq (by rfl) T.len PySem.boot_len (pa_cons (pv 0) pa_nil)) (nomark _))
          (pe_callTy call_int1 (by rfl) T.int (by decide +kernel) (pa_cons (pe_ix ix_list (pv 0) (pv 1) (fun _ _ => rfl)) pa_nil)) (pe_op op_add (pe_op op_mul pe_int (pv 1)) pe_int)))
      (pss_cons (ps_set (i := 3) scJar.nd rfl (.inl rfl) (pe_op op_add pe_int (pe_op op_mul pe_int (pv 1))))
      (pss_cons (ps_for PassesOwn.never rfl (pi_list (pe_slice sl_list (pv 0) po_none (po_some pe_int))) (pg_name (i := 4) scJar.nd rfl (.inl rfl))
        (pss_one (ps_set (i := 3) scJar.nd rfl (.inl rfl) (pe_op op_mod (pe_callTy call_int1 (by rfl) T.int (by decide +kernel) (pa_cons (pe_op op_add (pe_op op_mul (pv 3) pe_int) (pe_op op_mod (pe_callTy call_int1 (by rfl) T.int (by decide +kernel) (pa_cons (pv 4) pa_nil)) pe_int)) pa_nil)) pe_int))))
      (pss_one (ps_ret (pe_lst (pa_cons (pe_ifExp (PW.pt (pw_or (pt_cmpR op_lt (pv 2) pe_int (nomark _)) (pw_or1 (pt_cmpR op_ge (pv 2) (pe_op op_pow pe_int pe_int) (nomark _))))) (pe_callB call_abs (by rfl) T.abs (by decide +kernel) (pa_cons (pv 2) pa_nil)) pe_int)
        (pa_cons (pe_op op_mod (pe_callTy call_int1 (by rfl) T.int (by decide +kernel) (pa_cons (pe_op op_add (pe_op op_mul (pv 3) pe_int) (pe_op op_mod (pv 2) pe_int)) pa_nil)) pe_int) (pa_cons pe_int pa_nil)))))))), ?_⟩
    refine ⟨fun σ H' => H = H' ∧ ∃ own : Int, σ = [some (.ref a), some (.int k), some (.int own), none, none], ?_, ?_⟩
    · refine ⟨_, rfl, _, rfl, a, _, rfl, .inl hS, _, _, rfl, rfl, _, rfl, ?_⟩
      refine ite2 (fun c => ?_) (fun c => ?_)
      · have hk : k < ns.length := by
          have c' := of_decide_eq_true c
          rw [List.length_map] at c'
          omega
        exact ⟨_, rfl, _, rfl, a, _, _, .int ns[k], rfl, rfl, hS, atI_nat (by rw [List.getElem?_map, List.getElem?_eq_getElem hk]; rfl), .inl ⟨_, rfl, rfl, _, rfl⟩⟩
      · exact ⟨_, rfl, _, _, rfl, rfl, .inl (by decide), _, _, rfl, rfl, rfl, _, rfl⟩
    · rintro _ _ ⟨rfl, own, rfl⟩
      refine ⟨_, rfl, _, _, rfl, rfl, .inl (by decide), _, _, rfl, rfl, ?_⟩
      refine ⟨_, rfl, 13, rfl, a, _, rfl, hS, fun p np => ?_⟩
      obtain ⟨ms, ems⟩ := cut_map ns none (some 13)
      rw [ems]
      refine ⟨p, rfl, ⟨_, SqL.of upd_same⟩, for_list (K := K) (a := p) (xs := ms.map V.int) (fun i σ H' => ∃ (mx : Int) (v : Option V), σ = [some (.ref a), some (.int k), some (.int own), some (.int mx), v] ∧ H' = upd H p (.lst (ms.map V.int)))
        ⟨_, none, rfl, rfl⟩ (fun i σ H' _ ⟨_, _, _, e⟩ => by rw [e]; exact SqL.of upd_same) ?_ ?_⟩
      · rintro i y σ H' hi ⟨mx, v, rfl, rfl⟩
        obtain ⟨u, rfl⟩ := int_of_map hi
        refine ⟨_, rfl, _, _, rfl, rfl, .inr (by decide), ?_⟩
        refine ⟨_, rfl, .inl ⟨_, rfl, _, _, rfl, rfl, (by show (0 : Int) < 1999999927; decide), _, _, rfl, rfl, .inl ⟨_, rfl, _, _, rfl, rfl, (by show (0 : Int) < 1999999927; decide), ?_⟩⟩⟩
        exact ⟨_, _, rfl, rfl⟩
      · rintro σ H' ⟨mx, v, rfl, rfl⟩
        have fin : ∀ (x : Int), tCons (tOp (rI (fun x j => 0 < j) fun i j => V.int (i % j)) (tCB (fun xs H Q => (∃ i, xs = [V.int i] ∧ Q (V.int i) H) ∨ ∃ k, xs = [V.bl k] ∧ Q (V.int (if k = true then 1 else 0)) H)
            (tCons (tOp (rI0 fun i j => V.int (i + j)) (tOp (rI CMul fun i j => V.int (i * j)) (tVar 3) (tC (V.int 5))) (tOp (rI (fun x j => 0 < j) fun i j => V.int (i % j)) (tVar 2) (tC (V.int 1999999927)))) tNil)) (tC (V.int 1999999927)))
          (tCons (tC (V.int 0)) tNil) [some (.ref a), some (.int k), some (.int own), some (.int mx), v] (upd H p (.lst (ms.map V.int))) (fun xs H1 => (V.int x :: xs).length ≤ sizeLine ∧ ∀ p, H1 p = none → Q (.ref p) (upd H1 p (.lst (V.int x :: xs)))) := by
          intro x
          refine ⟨_, rfl, _, _, rfl, rfl, .inr (by decide), _, rfl, _, _, rfl, rfl, (by show (0 : Int) < 1999999927; decide), _, _, rfl, rfl, .inl ⟨_, rfl, _, _, rfl, rfl, (by show (0 : Int) < 1999999927; decide), ?_⟩⟩
          refine ⟨(by show 3 ≤ sizeLine; decide), fun jj nj => ?_⟩
          exact q _ jj (Same.trans (same_upd np) (same_upd nj)) ((same_upd np).free nj) ⟨_, _, _, upd_same⟩
        refine ⟨_, rfl, _, _, rfl, rfl, _, rfl, ?_⟩
        refine ite2 (fun _ => ?_) (fun _ => ?_)
        · refine iteT ?_
          exact ⟨_, rfl, _, rfl, fin _⟩
        · refine ⟨_, rfl, _, _, rfl, rfl, ⟨by decide, by decide, by decide⟩, _, _, rfl, rfl, _, rfl, ?_⟩
          refine ite2 (fun _ => ?_) (fun _ => ?_)
          · exact ⟨_, rfl, _, rfl, fin _⟩
          · exact fin _
end
end My

/-! what every proof about a program of several defs wants -/
namespace Cm
open PySem PySem.Spec PyProof.Rows L2
/-- a def of the module -/
structure Df (K : PySem.W.Frag) (mg : Str → Option Value) (x : Str) (st : Stmt) (ps : List Str) where
  f : Addr
  fd : FuncData
  F : Fun K x x st f fd
  b : Binds K fd ps []
  g : mg x = some (.ref f)
  k : PySem.W.keepIn K (.ref f) = true
/-- a method of the class at C -/
structure Mt (K : PySem.W.Frag) (C : Addr) (x q : Str) (st : Stmt) (ps : List Str) where
  f : Addr
  fd : FuncData
  F : Fun K x q st f fd
  b : Binds K fd ps []
  m : Meth K C x f
theorem dI (a b : Int) : decide (V.int a = V.int b) = decide (a = b) := decide_eq_decide.mpr ⟨fun z => by cases z; rfl, fun z => by rw [z]⟩
theorem dS (a b : Str) : decide (V.str a = V.str b) = decide (a = b) := decide_eq_decide.mpr ⟨fun z => by cases z; rfl, fun z => by rw [z]⟩
theorem dB (a b : Bool) : decide (V.bl a = V.bl b) = decide (a = b) := decide_eq_decide.mpr ⟨fun z => by cases z; rfl, fun z => by rw [z]⟩
theorem putF_len (f : Str) (v : V) : ∀ fs : List (Str × V), (putF f v fs).length ≤ fs.length + 1
  | [] => Nat.le_refl _
  | (g, x) :: r => by
    unfold putF
    by_cases h : g = f
    · rw [if_pos h]
      exact Nat.le_succ _
    · rw [if_neg h]
      exact Nat.succ_le_succ (putF_len f v r)
theorem szl {n : Nat} (h : n ≤ 1000) : n ≤ sizeLine := Nat.le_of_lt (small1000 h)
theorem szM {n : Nat} (h : n ≤ 1000000) : n < sizeLine := Nat.lt_of_le_of_lt h (by decide)
theorem Same.set {K : PySem.W.Frag} {H H' : Hp} {a : Addr} {xs : List V} (e : Same H H') (h : SqT K H a xs) : SqT K H' a xs := by
  rcases h with (h | ⟨o, h⟩) | h
  · exact .inl (.inl (e _ _ h))
  · exact .inl (.inr ⟨o, e _ _ h⟩)
  · exact .inr h
theorem same_new {H : Hp} {p : Addr} {o : HO} (h : H p = none) : Same H (upd H p o) := fun b x e => by
  rw [upd_ne (ne_of_none e h)]
  exact e
theorem pass_none {P : Program} {w : World} {X : Cx} : Passes (L2.CX P w) X (fun _ _ _ => False) := fun pins σ H s e s2 I h => by
  obtain ⟨_, _, _, _, _, _, _, _, _, _, _, _, h⟩ := h
  exact h.elim
/-! ### len and truth of an instance with an own __len__ -/
section
variable {X : Cx} {C g : Addr} {n : Nat} {sp : Sp}
theorem inst_of {pins : List (Addr × Obj)} {σ : L2.St} {H : Hp} {s : Shared} {a dx : Addr} {fs : List (Str × V)} (I : Inv X pins σ H s) (e : H a = some (.ins C dx fs)) : ∃ (ox : Obj) (od : Option Obj), PySem.W.InstAt s.heap a ox C od := by
  obtain ⟨mA, O, _⟩ := ins_get I.hok e
  obtain ⟨od, J, _⟩ := O.look
  exact ⟨_, _, J⟩
def rLenO (C : Addr) (sp : Sp) : List V → Hp → VK → Prop := fun xs H Q => ∃ (a dx : Addr) (fs : List (Str × V)), xs = [.ref a] ∧ H a = some (.ins C dx fs) ∧ sp [.ref a] H (fun v H2 => ∃ k : Nat, v = .int k ∧ k ≤ 1000000 ∧ Q (.int k) H2) fun _ _ _ => False
theorem call_lenO (hs : PySem.W.findIn X.K (.ref C) "__len__" = some (some (.ref g))) (hf : PySem.W.isFn X.K (.ref g) = true) (F : FnR X.prog X.w X.K X.mg X.base CX0 n g sp) (hr : Room (n + 1) X.A) : CallR X (.builtin "len") (rLenO C sp) := by
  intro pins s σ H xs us Q I r h
  obtain ⟨a, dx, fs, rfl, ha, q⟩ := h
  obtain ⟨u, rfl, ru⟩ := vals1 r
  cases (show u = Value.ref a from ru)
  obtain ⟨ox, od, J⟩ := inst_of I ha
  obtain ⟨m, fr⟩ := I.fr
  refine PySem.W.len_K fr I.ok.mod.kin J hs hf ?_
  refine wpAny_mono (wpAny_call (SlX.run_at (us := [.ref a]) (ws := [.ref a]) F hr.in1 I.env0.in1 pass0 I (.cons rfl .nil) q)) (fun z s2 hz => ?_) fun _ _ e => e
  obtain ⟨z2, H2, I2, rz, k, rfl, hk, qz⟩ := hz
  obtain ⟨tk, rfl⟩ := (show ∃ tk, z = Value.int k tk from rz)
  exact ⟨⟨by omega, by omega⟩, .int k, H2, I2.tok _, ⟨_, rfl⟩, qz⟩
end
/-! ### bool of an instance with an own __len__ -/
section
variable {prog : Program} {w : World} {A : Around} {E : Value → Shared → Prop} {s : Shared} {K : PySem.W.Frag} {x C f : Addr} {ox : Obj} {od : Option Obj}
theorem len_bodyK {Q : Value → Shared → Prop} (X : K.In s.heap) (I : PySem.W.InstAt s.heap x ox C od) (hs : PySem.W.findIn K (.ref C) "__len__" = some (some (.ref f))) (hf : PySem.W.isFn K (.ref f) = true)
    (h : wpAny (model prog w) A (call (.ref f) [.ref x]) (PySem.W.LenBack Q) E s) : wpAny (model prog w) A (Builtin.«len» ⟨[.ref x], []⟩) (fun fin s' => ∃ r, fin = .done (.ret r) ∧ Q r s') E s := by
  unfold Builtin.«len»
  refine wpAny_bind (m := oneArg "len" _) (wpAny_pure ?_)
  refine wpAny_bind (m := callSpecial? (.ref x) (Str.ofString "__len__")) (PySem.W.special_fn X I hs (beq_iff_eq.mp hf) (wpAny_mono h (fun r s' hr => ?_) fun _ _ y => y))
  cases r <;> first | exact hr.elim | skip
  rename_i n u
  obtain ⟨⟨h0, h1⟩, hq⟩ := hr
  refine wpAny_bind (wpAny_holding (wpAny_pure ?_))
  refine wpAny_bind (wpAny_letGo ?_)
  show wpAny _ _ (if n < 0 then _ else _) _ _ _
  rw [if_neg (by omega)]
  show wpAny _ _ (if n ≥ 2 ^ 63 then _ else _) _ _ _
  rw [if_neg (by omega)]
  exact wpAny_bind (wpAny_mkInt (wpAny_pure ⟨_, rfl, hq⟩))
theorem truthy_KL {Q : Bool → Shared → Prop} (X : K.In s.heap) (I : PySem.W.InstAt s.heap x ox C od) (hb : PySem.W.findIn K (.ref C) "__bool__" = some none) (hl : PySem.W.findIn K (.ref C) "__len__" = some (some (.ref f))) (hf : PySem.W.isFn K (.ref f) = true)
    (h : wpAny (model prog w) A.in1 (call (.ref f) [.ref x]) (PySem.W.LenBack fun v s' => ∃ n t, v = .int n t ∧ Q (n != 0) s') E s) : wpAny (model prog w) A (truthy (.ref x)) Q E s := by
  have key : wpAny (model prog w) A (runValue (.builtin "len" ⟨[.ref x], []⟩)) (fun r s' => ∃ n t, r = .int n t ∧ Q (n != 0) s') E s := by
    refine wpAny_runValue (codeAny_builtin entry_len ?_)
    rw [Around.under_plainId plain_len _]
    exact wpAny_mono (len_bodyK X I hl hf h) (fun fin s' h' => by obtain ⟨r, rfl, hq⟩ := h'; exact hq) fun _ _ e => e
  unfold truthy
  refine wpAny_bind (m := callSpecial? (.ref x) (Str.ofString "__bool__")) (wpAny_bind (wpAny_bind (I.type.here ((PySem.W.looks_findIn X hb).here (wpAny_pure ?_)))))
  refine wpAny_bind (wpAny_bind (I.type.here ((PySem.W.looks_findIn X hl).here ?_)))
  exact wpAny_bind (wpAny_mono key (fun r s' h' => by obtain ⟨n, t, rfl, hq⟩ := h'; exact wpAny_pure hq) fun _ _ e => e)
theorem bool_KL {Q : Value → Shared → Prop} (X : K.In s.heap) (I : PySem.W.InstAt s.heap x ox C od) (hb : PySem.W.findIn K (.ref C) "__bool__" = some none) (hl : PySem.W.findIn K (.ref C) "__len__" = some (some (.ref f))) (hf : PySem.W.isFn K (.ref f) = true)
    (h : wpAny (model prog w) A.in1.in1.in1 (call (.ref f) [.ref x]) (PySem.W.LenBack fun v s' => ∃ n t, v = .int n t ∧ Q (.bool (n != 0)) s') E s) : wpAny (model prog w) A (call (.type "bool") [.ref x]) Q E s := by
  refine callType_codes (T := "bool") (Bi := Builtin.«object.__init__») (Q₁ := fun r s₁ => ∃ b, r = .bool b ∧ Q r s₁) PySem.F.called_bool (PySem.F.typeCall_bool_1 _) PySem.F.entry_object_init ?_ ?_
  · refine codeAny_of_tree ?_
    show wpAny _ A.in1.in1 (do checkBuiltinCall "bool.__new__" ⟨[.type "bool", .ref x], []⟩; again (.builtin "bool.__new__" ⟨[.type "bool", .ref x], []⟩)) _ _ s
    refine wpAny_bind (wpAny_of_eq (PySem.F.newCall_bool_1 _) (wpAny_pure ⟨plainId_quiet (by decide +kernel) _, codeAny_builtin PySem.F.entry_bool_new ?_⟩))
    rw [Around.under_plainId (by decide +kernel) _]
    have f1 := PySem.F.conv_sub_bool
    have key : wpAny (model prog w) A.in1.in1 (truthy (.ref x)) (fun b s1 => Q (.bool b) s1) E s := truthy_KL X I hb hl hf (wpAny_mono h (fun v s1 hv => by
      cases v <;> first | exact hv.elim | skip
      obtain ⟨h01, n, t, e, hq⟩ := hv
      cases e
      exact ⟨h01, _, _, rfl, hq⟩) fun _ _ z => z)
    unfold Builtin.«bool.__new__»
    show wpAny _ _ (isType (.type "bool") >>= _) _ _ s
    refine wpAny_bind (wpAny_pure ?_)
    refine wpAny_bind (wpAny_of_eq f1 ?_)
    refine wpAny_bind (wpAny_pure ?_)
    exact wpAny_bind (wpAny_mono key (fun b s1 hb1 => wpAny_pure ⟨_, rfl, hb1⟩) fun _ _ z => z)
  · rintro obj s₁ ⟨b, rfl, hq⟩
    exact ⟨rfl, PySem.F.args_object_init_2 _ _, object_init_meets PySem.F.called_bool.init.lookup PySem.F.called_bool.made (by decide) prog w A.in1 _ s₁ ⟨rfl, rfl, hq⟩⟩
end
section
variable {X : Cx} {C g : Addr} {n : Nat} {sp : Sp}
def rBoolL (C : Addr) (sp : Sp) : List V → Hp → VK → Prop := fun xs H Q => ∃ (a dx : Addr) (fs : List (Str × V)), xs = [.ref a] ∧ H a = some (.ins C dx fs) ∧ sp [.ref a] H (fun v H2 => ∃ k : Nat, v = .int k ∧ k ≤ 1000000 ∧ Q (.bl ((k : Int) != 0)) H2) fun _ _ _ => False
theorem call_boolLO (hb : PySem.W.findIn X.K (.ref C) "__bool__" = some none) (hs : PySem.W.findIn X.K (.ref C) "__len__" = some (some (.ref g))) (hf : PySem.W.isFn X.K (.ref g) = true) (F : FnR X.prog X.w X.K X.mg X.base CX0 n g sp) (hr : Room (n + 3) X.A) : CallR X (.type "bool") (rBoolL C sp) := by
  intro pins s σ H xs us Q I r h
  obtain ⟨a, dx, fs, rfl, ha, q⟩ := h
  obtain ⟨u, rfl, ru⟩ := vals1 r
  cases (show u = Value.ref a from ru)
  obtain ⟨ox, od, J⟩ := inst_of I ha
  have hr2 : Room (n + 2) X.A.in1 := hr.in1
  have hr1 : Room (n + 1) X.A.in1.in1 := hr2.in1
  refine bool_KL I.kIn J hb hs hf ?_
  refine wpAny_mono (wpAny_call (SlX.run_at (us := [.ref a]) (ws := [.ref a]) F hr1.in1 I.env0.in1.in1.in1 pass0 I (.cons rfl .nil) q)) (fun z s2 hz => ?_) fun _ _ e => e
  obtain ⟨z2, H2, I2, rz, k, rfl, hk, qz⟩ := hz
  obtain ⟨tk, rfl⟩ := (show ∃ tk, z = Value.int k tk from rz)
  exact ⟨⟨by omega, by omega⟩, _, _, rfl, .bl _, H2, I2.tok _, rfl, qz⟩
end
/-! ### tuples cut and put together -/
theorem cut_to (xs : List V) (k : Nat) (h : k ≤ xs.length) : cutV xs none (some (k : Int)) = xs.take k := by
  unfold cutV
  rw [HT.sIx_none, HT.sIx_nat, Nat.min_eq_left h]
  rfl
theorem cut_from (xs : List V) (k : Nat) : cutV xs (some (k : Int)) none = xs.drop k := by
  unfold cutV
  rw [HT.sIx_none, HT.sIx_nat]
  by_cases h : k ≤ xs.length
  · rw [Nat.min_eq_left h]
    exact List.take_of_length_le (by rw [List.length_drop]; omega)
  · rw [Nat.min_eq_right (by omega), List.drop_length, List.drop_eq_nil_of_le (by omega)]
    simp
section
variable {X : Cx}
def rSlS (K : PySem.W.Frag) : V → Option Int → Option Int → Hp → VK → Prop := fun x lo hi H Q => ∃ a xs, x = .ref a ∧ SqT K H a xs ∧ ∀ (H' : Hp) (q : Addr), Same H H' → SqT K H' q (cutV xs lo hi) → Q (.ref q) H'
theorem sl_tupS : SlR X (rSlS X.K) := by
  intro pins s σ H x v vl vu lo hi sl Q I rx hs pl pu h
  obtain ⟨a, xs, rfl, hx, q⟩ := h
  refine sl_tupA pins s σ H _ v vl vu lo hi sl Q I rx hs pl pu ⟨a, xs, rfl, hx, fun z => ?_, fun _ p np => q _ p (same_new np) (SqT.of upd_same)⟩
  refine q H a (Same.refl _) ?_
  have e : cutV xs lo hi = xs := by
    unfold cutV
    rw [z.1, z.2]
    simp
  rw [e]
  exact hx
def rCatS (K : PySem.W.Frag) : R2 := fun x y H Q => ∃ a b xs ys, x = .ref a ∧ y = .ref b ∧ SqT K H a xs ∧ SqT K H b ys ∧ xs.length + ys.length ≤ sizeLine ∧ ∀ (H' : Hp) (q : Addr), Same H H' → SqT K H' q (xs ++ ys) → Q (.ref q) H'
theorem op_catS : OpR X (binaryOp .Add) (rCatS X.K) := by
  intro pins s σ H x y v u Q I rx ry h
  obtain ⟨a, b, xs, ys, rfl, rfl, ha, hb, hz, q⟩ := h
  refine op_catA pins s σ H _ _ v u Q I rx ry ⟨a, b, xs, ys, rfl, rfl, ha, hb, hz, fun z => ?_, fun _ z => ?_, fun _ _ p np => q _ p (same_new np) (SqT.of upd_same)⟩
  · refine q H b (Same.refl _) ?_
    rw [z]
    exact hb
  · refine q H a (Same.refl _) ?_
    rw [z, List.append_nil]
    exact ha
end
/-! ### a reading may be asked for more -/
section
variable {X : Cx} {e : Expr} {es : List Expr} {st : Stmt} {sts : List Stmt}
theorem pe_imp {t t' : TE} (h : PE X e t) (k : ∀ σ H Q, t' σ H Q → t σ H Q) : PE X e t' := ⟨fun pins s σ H Q I q => h.run pins s σ H Q I (k σ H Q q)⟩
theorem pa_imp {t t' : TA} (h : PA X es t) (k : ∀ σ H Q, t' σ H Q → t σ H Q) : PA X es t' := ⟨fun pos pins s σ H Q I q => h.run pos pins s σ H Q I (k σ H Q q)⟩
theorem pt_imp {t t' : TT} (h : PT X e t) (k : ∀ σ H Q, t' σ H Q → t σ H Q) : PT X e t' := ⟨fun pins s σ H Q I q => h.run pins s σ H Q I (k σ H Q q)⟩
theorem ps_imp {t t' : TS} (h : PS X st t) (k : ∀ D σ H, t' D σ H → t D σ H) : PS X st t' := ⟨fun pins s σ H D I q => h.run pins s σ H D I (k D σ H q)⟩
theorem pss_imp {t t' : TS} (h : PSs X sts t) (k : ∀ D σ H, t' D σ H → t D σ H) : PSs X sts t' := ⟨fun pins s σ H D I q => h.run pins s σ H D I (k D σ H q)⟩
end
theorem hu64 {A : Around} {k : Nat} (hr : Room k A) : A.units + 64 < cLine := by
  have := hr.un
  omega
/-! ### the same, for tuples that are tracked -/
section
variable {X : Cx}
def rSlH : V → Option Int → Option Int → Hp → VK → Prop := fun x lo hi H Q => ∃ a xs, x = .ref a ∧ H a = some (.tup xs) ∧ ∀ (H' : Hp) (q : Addr), Same H H' → H' q = some (.tup (cutV xs lo hi)) → Q (.ref q) H'
theorem sl_tupH : SlR X rSlH := by
  intro pins s σ H x v vl vu lo hi sl Q I rx hs pl pu h
  obtain ⟨a, xs, rfl, hx, q⟩ := h
  refine sl_tupA pins s σ H _ v vl vu lo hi sl Q I rx hs pl pu ⟨a, xs, rfl, SqT.of hx, fun z => ?_, fun _ p np => q _ p (same_new np) upd_same⟩
  refine q H a (Same.refl _) ?_
  have e : cutV xs lo hi = xs := by
    unfold cutV
    rw [z.1, z.2]
    simp
  rw [e]
  exact hx
def rCatH : R2 := fun x y H Q => ∃ a b xs ys, x = .ref a ∧ y = .ref b ∧ H a = some (.tup xs) ∧ H b = some (.tup ys) ∧ xs.length + ys.length ≤ sizeLine ∧ ∀ (H' : Hp) (q : Addr), Same H H' → H' q = some (.tup (xs ++ ys)) → Q (.ref q) H'
theorem op_catH : OpR X (binaryOp .Add) rCatH := by
  intro pins s σ H x y v u Q I rx ry h
  obtain ⟨a, b, xs, ys, rfl, rfl, ha, hb, hz, q⟩ := h
  refine op_catA pins s σ H _ _ v u Q I rx ry ⟨a, b, xs, ys, rfl, rfl, SqT.of ha, SqT.of hb, hz, fun z => ?_, fun _ z => ?_, fun _ _ p np => q _ p (same_new np) upd_same⟩
  · refine q H b (Same.refl _) ?_
    rw [z]
    exact hb
  · refine q H a (Same.refl _) ?_
    rw [z, List.append_nil]
    exact ha
end
theorem cut_mid (xs : List V) (a b : Nat) (h1 : a ≤ b) (h2 : b ≤ xs.length) : cutV xs (some (a : Int)) (some (b : Int)) = (xs.drop a).take (b - a) := by
  unfold cutV
  rw [HT.sIx_nat, HT.sIx_nat, Nat.min_eq_left h2, Nat.min_eq_left (by omega)]
end Cm

/-! texts of loops: what their words are, and when they are right -/
namespace LM
open PySem L2 TL
def tests : List Str := ["empty", "some", "short", "full", "told", "open", "rest", "bare"]
def rsteps : List Str := ["add", "hand", "cut", "flush", "stop", "again"]
def esteps : List Str := ["hand", "cut", "flush"]
def wordsR (t : Str) : List Str := Txt.split (Txt.partition t " | ").1 " "
def wordsE (t : Str) : List Str := if (Txt.partition t " | ").2.1.length != 0 then Txt.split (Txt.partition t " | ").2.2 " " else []
def orderOf (w : Str) : Str × Str := if (Txt.partition w ":").2.1.length != 0 then ((Txt.partition w ":").1, (Txt.partition w ":").2.2) else ("", w)
def isWord (w : Str) (ss : List Str) : Bool := if (Txt.partition w ":").2.1.length != 0 then decide ((Txt.partition w ":").1 ∈ tests) && decide ((Txt.partition w ":").2.2 ∈ ss) else decide (w ∈ ss)
def areWords (ws ss : List Str) : Bool := ws.all fun w => isWord w ss
def isAdd (w : Str) : Bool := decide ((orderOf w).2 = "add")
def isRound (ws : List Str) : Bool := decide (ws.head? = some "ask") && (decide (ws.length ≤ 12) && (decide ((ws.filter isAdd).length ≤ 1) && areWords ws.tail rsteps))
def isEnding (ws : List Str) : Bool := decide (ws.length ≤ 6) && areWords ws esteps
def goodText (t : Str) : Bool := isRound (wordsR t) && isEnding (wordsE t)
def svs (ws : List Str) : List V := ws.map V.str
theorem svs_flat : ∀ ws : List Str, (svs ws).all flatV = true
  | [] => rfl
  | _ :: r => svs_flat r
theorem inV_svs (w : Str) : ∀ ws : List Str, inV (.str w) (svs ws) = decide (w ∈ ws)
  | [] => by simp [inV, svs]
  | x :: r => by
    have ih := inV_svs w r
    show (eqV (.str x) (.str w) || inV (.str w) (svs r)) = _
    rw [ih]
    show ((x == w) || decide (w ∈ r)) = _
    by_cases h : x = w
    · subst h
      simp
    · have h2 : (x == w) = false := by
        cases hh : (x == w) with
        | false => rfl
        | true => exact absurd (eq_of_beq hh) h
      rw [h2, Bool.false_or]
      refine decide_eq_decide.mpr ⟨fun z => List.mem_cons_of_mem _ z, fun z => ?_⟩
      rcases List.mem_cons.mp z with z | z
      · exact absurd z.symm h
      · exact z
theorem split_ne (x y : Str) : Txt.split x y ≠ [] := by
  unfold Txt.split
  split
  · simp
  · split
    · simp
    · rw [PySem.StrLaws.partsBetween_eq]
      cases Builtin.Str.occurrences x y 0 x.length (x.length + 1) <;> simp [PySem.StrLaws.partsFrom]
/-! ### drawn words -/
/-- a step of these, or a test before it -/
def Wd (ss : List Str) (w : Str) : Prop := ∃ s ∈ ss, w = s ∨ ∃ t ∈ tests, w = t ++ (":" : Str) ++ s
def allWd (ss : List Str) : List Str := ss ++ (tests.map fun t : Str => ss.map fun s : Str => t ++ (":" : Str) ++ s).flatten
theorem Wd.mem {ss : List Str} {w : Str} (h : Wd ss w) : w ∈ allWd ss := by
  obtain ⟨s, hs, rfl | ⟨t, ht, rfl⟩⟩ := h
  · exact List.mem_append.mpr (.inl hs)
  · exact List.mem_append.mpr (.inr (List.mem_flatten.mpr ⟨_, List.mem_map.mpr ⟨t, ht, rfl⟩, List.mem_map.mpr ⟨s, hs, rfl⟩⟩))
theorem Wd.mono {ss zs : List Str} {w : Str} (f : ∀ s ∈ ss, s ∈ zs) (h : Wd ss w) : Wd zs w := let ⟨s, hs, q⟩ := h; ⟨s, f s hs, q⟩
/-- what is known of a word -/
def wdOk (w : Str) : Bool := isWord w rsteps && (decide (32 ∉ tl w) && (decide (124 ∉ tl w) && decide (w.length ≤ 11)))
theorem wd_ok : ∀ w ∈ allWd rsteps, wdOk w = true := by decide +kernel
theorem wd_end : ∀ w ∈ allWd esteps, isWord w esteps = true := by decide +kernel
theorem wd_noadd : ∀ w ∈ allWd ["hand", "cut", "flush", "stop", "again"], isAdd w = false := by decide +kernel
/-! ### lines -/
def line (B E : List Str) : Str := if E = [] then Txt.join " " B else Txt.join " " (B ++ [("|" : Str)] ++ E)
def textOf (B E : List Str) : Str := if E = [] then Txt.join " " B else Txt.join " " B ++ " | " ++ Txt.join " " E
/-- no space and no bar is in it -/
def Fre (w : Str) : Prop := 32 ∉ tl w ∧ 124 ∉ tl w
theorem tlSp : tl (" " : Str) = [32] := by decide +kernel
theorem tlBar : tl (" | " : Str) = [32, 124, 32] := by decide +kernel
theorem tlB1 : tl ("|" : Str) = [124] := by decide +kernel
theorem joinL_app (S : List Nat) : ∀ (a b : List (List Nat)), a ≠ [] → b ≠ [] → joinL S (a ++ b) = joinL S a ++ (S ++ joinL S b)
  | [], _, h, _ => absurd rfl h
  | [p], b, _, hb => by
    cases b with
    | nil => exact absurd rfl hb
    | cons q r => rfl
  | p :: q :: r, b, _, hb => by
    show p ++ (S ++ joinL S (q :: r ++ b)) = p ++ (S ++ joinL S (q :: r)) ++ (S ++ joinL S b)
    rw [joinL_app S (q :: r) b (by simp) hb]
    simp [List.append_assoc]
theorem joinL_mem {S : List Nat} {c : Nat} : ∀ {a : List (List Nat)}, c ∈ joinL S a → c ∈ S ∨ ∃ p ∈ a, c ∈ p
  | [], h => nomatch h
  | [p], h => .inr ⟨p, List.mem_singleton.mpr rfl, h⟩
  | p :: q :: r, h => by
    rcases List.mem_append.mp (show c ∈ p ++ (S ++ joinL S (q :: r)) from h) with h | h
    · exact .inr ⟨p, List.mem_cons_self .., h⟩
    · rcases List.mem_append.mp h with h | h
      · exact .inl h
      · rcases joinL_mem h with h | ⟨z, hz, hc⟩
        · exact .inl h
        · exact .inr ⟨z, List.mem_cons_of_mem _ hz, hc⟩
theorem tl_joinSp (B : List Str) : tl (Txt.join " " B) = joinL [32] (B.map tl) := by rw [join_eq, tl_join, tlSp]
theorem nobar {B : List Str} (h : ∀ w ∈ B, Fre w) : 124 ∉ tl (Txt.join " " B) := by
  rw [tl_joinSp]
  intro hm
  rcases joinL_mem hm with hm | ⟨p, hp, hc⟩
  · exact absurd hm (by decide)
  · obtain ⟨w, hw, rfl⟩ := List.mem_map.mp hp
    exact (h w hw).2 hc
theorem line_text {B E : List Str} (hB : B ≠ []) : line B E = textOf B E := by
  unfold line textOf
  by_cases hE : E = []
  · rw [if_pos hE, if_pos hE]
  · rw [if_neg hE, if_neg hE]
    refine ext_tl ?_
    rw [tl_append, tl_append, tl_joinSp, tl_joinSp, tl_joinSp, tlBar, List.map_append, List.map_append, joinL_app _ _ _ (by simp) (by simpa using hE), joinL_app _ _ _ (by simpa using hB) (by simp)]
    simp [joinL, tlB1]
theorem pre_bar {l : List Nat} (h : pre [32, 124, 32] l = true) : ∃ r, l = 32 :: 124 :: 32 :: r := by
  have e : l.take 3 = [32, 124, 32] := eq_of_beq h
  match l, e with
  | a :: b :: c :: r, e =>
    simp at e
    obtain ⟨rfl, rfl, rfl⟩ := e
    exact ⟨r, rfl⟩
theorem no_bar {p q : List Nat} (h : 124 ∉ p) (hq : q = [] ∨ ∃ r, q = 32 :: r) : ∀ i, i < p.length → pre [32, 124, 32] ((p ++ q).drop i) = false := by
  intro i hi
  cases hp : pre [32, 124, 32] ((p ++ q).drop i) with
  | false => rfl
  | true =>
    obtain ⟨r, e⟩ := pre_bar hp
    have e1 : (p ++ q)[i + 1]? = some 124 := by
      have : ((p ++ q).drop i)[1]? = some 124 := by rw [e]; rfl
      rw [List.getElem?_drop] at this
      exact this
    by_cases h1 : i + 1 < p.length
    · rw [List.getElem?_append_left h1] at e1
      exact absurd (List.mem_of_getElem? e1) h
    · rw [List.getElem?_append_right (by omega)] at e1
      rcases hq with rfl | ⟨r, rfl⟩
      · simp at e1
      · have : i + 1 - p.length = 0 := by omega
        rw [this] at e1
        simp at e1
theorem part_no {x : Str} (h : 124 ∉ tl x) : Txt.partition x " | " = (x, Str.empty, Str.empty) := by
  rw [partition_par _ _ (by rw [tlBar]; simp), tlBar, par_none]
  intro i hi
  have := no_bar (q := []) h (.inl rfl) i hi
  rwa [List.append_nil] at this
theorem part_yes {x y : Str} (h : 124 ∉ tl x) : Txt.partition (x ++ " | " ++ y) " | " = (x, (" | " : Str), y) := by
  rw [partition_par _ _ (by rw [tlBar]; simp), tl_append, tl_append, List.append_assoc, tlBar, par_part (by simp) (no_bar h (.inr ⟨_, rfl⟩))]
  show ((⟨([] ++ tl x).toArray⟩ : Str), _, (⟨(tl y).toArray⟩ : Str)) = _
  rw [List.nil_append, mk_tl, mk_tl]
theorem split_words {B : List Str} (hB : B ≠ []) (h : ∀ w ∈ B, Fre w) : Txt.split (Txt.join " " B) " " = B :=
  split_join (s := 32) (S := []) tlSp (by decide +kernel) hB fun p hp => (h p hp).1
theorem words_text {B E : List Str} (hB : B ≠ []) (h1 : ∀ w ∈ B, Fre w) (h2 : ∀ w ∈ E, Fre w) : wordsR (textOf B E) = B ∧ wordsE (textOf B E) = E := by
  unfold wordsR wordsE textOf
  by_cases hE : E = []
  · rw [if_pos hE, part_no (nobar h1)]
    refine ⟨split_words hB h1, ?_⟩
    rw [hE]
    rfl
  · rw [if_neg hE, part_yes (nobar h1)]
    refine ⟨split_words hB h1, ?_⟩
    exact (if_pos (show ((" | " : Str).length != 0) = true by decide +kernel)).trans (split_words hE h2)
theorem words_line {B E : List Str} (hB : B ≠ []) (h1 : ∀ w ∈ B, Fre w) (h2 : ∀ w ∈ E, Fre w) : wordsR (line B E) = B ∧ wordsE (line B E) = E := by
  rw [line_text hB]
  exact words_text hB h1 h2
/-! ### lengths -/
theorem sum_le {n : Nat} : ∀ {B : List Str}, (∀ w ∈ B, w.length ≤ n) → (B.map (·.length)).sum ≤ n * B.length
  | [], _ => Nat.zero_le _
  | w :: r, h => by
    have a := h w (List.mem_cons_self ..)
    have b := sum_le (B := r) fun z hz => h z (List.mem_cons_of_mem _ hz)
    rw [List.map_cons, List.sum_cons, List.length_cons, Nat.mul_succ]
    omega
theorem join_len : ∀ B : List Str, (Txt.join " " B).length ≤ (B.map (·.length)).sum + B.length := by
  intro B
  rw [len_tl, tl_joinSp]
  induction B with
  | nil => simp [joinL]
  | cons w r ih =>
    cases r with
    | nil =>
      show (tl w).length ≤ _
      rw [← len_tl]
      simp
    | cons x r =>
      show (tl w ++ ([32] ++ joinL [32] ((x :: r).map tl))).length ≤ _
      rw [List.length_append, List.length_append, ← len_tl]
      simp only [List.map_cons, List.sum_cons, List.length_cons, List.length_nil] at ih ⊢
      omega
/-- short words, not many -/
def Sht (n : Nat) (B : List Str) : Prop := (∀ w ∈ B, w.length ≤ 11) ∧ B.length ≤ n
theorem Sht.sum {n : Nat} {B : List Str} (h : Sht n B) : (B.map (·.length)).sum + B.length * 1 ≤ 12 * n := by
  have := sum_le h.1
  have := h.2
  omega
theorem Sht.join {n : Nat} {B : List Str} (h : Sht n B) : (Txt.join " " B).length ≤ 12 * n := by
  have := h.sum
  have := join_len B
  omega
/-! ### bounds of what is cut -/
theorem spl_len (S : List Nat) : ∀ (k : Nat) (acc l : List Nat), (spl S k acc l).length ≤ l.length + 1
  | k, acc, [] => by rw [spl_nil]; simp
  | 0, acc, c :: r => by
    cases h : pre S (c :: r) with
    | true =>
      rw [spl_hit h, List.length_cons, List.length_cons]
      have := spl_len S (S.length - 1) [] r
      omega
    | false =>
      rw [spl_miss h, List.length_cons]
      have := spl_len S 0 (acc ++ [c]) r
      omega
  | k + 1, acc, _ :: r => by
    show (spl S k acc r).length ≤ _
    have := spl_len S k acc r
    rw [List.length_cons]
    omega
theorem spl_word (S : List Nat) : ∀ (k : Nat) (acc l : List Nat), ∀ p ∈ spl S k acc l, p.length ≤ acc.length + l.length
  | k, acc, [], p, hp => by
    rw [spl_nil] at hp
    rw [List.mem_singleton.mp hp]
    omega
  | 0, acc, c :: r, p, hp => by
    cases h : pre S (c :: r) with
    | true =>
      rw [spl_hit h] at hp
      rcases List.mem_cons.mp hp with rfl | hp
      · omega
      · have := spl_word S (S.length - 1) [] r p hp
        simp at this ⊢
        omega
    | false =>
      rw [spl_miss h] at hp
      have := spl_word S 0 (acc ++ [c]) r p hp
      simp at this ⊢
      omega
  | k + 1, acc, _ :: r, p, hp => by
    have := spl_word S k acc r p hp
    simp at this ⊢
    omega
theorem split_sp (x : Str) : (Txt.split x " ").map tl = spl [32] 0 [] (tl x) := by
  have := split_spl x " " (by rw [tlSp]; simp) (kind_ok (by decide +kernel))
  rwa [tlSp] at this
theorem split_len (x : Str) : (Txt.split x " ").length ≤ x.length + 1 := by
  have := spl_len [32] 0 [] (tl x)
  rw [← split_sp, List.length_map, ← len_tl] at this
  exact this
theorem split_word {x w : Str} (h : w ∈ Txt.split x " ") : w.length ≤ x.length := by
  have := spl_word [32] 0 [] (tl x) (tl w) (by rw [← split_sp]; exact List.mem_map.mpr ⟨w, h, rfl⟩)
  rw [← len_tl, ← len_tl] at this
  simpa using this
theorem part_len (x y : Str) : (Txt.partition x y).1.length ≤ x.length ∧ (Txt.partition x y).2.1.length ≤ y.length ∧ (Txt.partition x y).2.2.length ≤ x.length := by
  rcases PyProof.Rows.partition_whole x y with ⟨e, _⟩ | ⟨i, e, _, _⟩
  · rw [e]
    exact ⟨Nat.le_refl _, Nat.zero_le _, Nat.zero_le _⟩
  · rw [e]
    refine ⟨?_, Nat.le_refl _, ?_⟩
    · rw [len_tl, tl_strSub, List.length_take, List.length_drop, ← len_tl]
      omega
    · rw [len_tl, tl_strSub_end, List.length_drop, ← len_tl]
      omega
/-- the words of a text of at most n signs -/
theorem wordsR_len (t : Str) : (wordsR t).length ≤ t.length + 1 := by
  have := split_len (Txt.partition t " | ").1
  have := (part_len t " | ").1
  unfold wordsR
  omega
theorem wordsE_len (t : Str) : (wordsE t).length ≤ t.length + 1 := by
  unfold wordsE
  split
  · have := split_len (Txt.partition t " | ").2.2
    have := (part_len t " | ").2.2
    omega
  · simp
theorem wordsR_word {t w : Str} (h : w ∈ wordsR t) : w.length ≤ t.length := Nat.le_trans (split_word h) (part_len t " | ").1
theorem wordsE_word {t w : Str} (h : w ∈ wordsE t) : w.length ≤ t.length := by
  unfold wordsE at h
  split at h
  · exact Nat.le_trans (split_word h) (part_len t " | ").2.2
  · exact nomatch h
theorem wordsR_ne (t : Str) : wordsR t ≠ [] := split_ne _ _
end LM

/-! what many parts want: the error about texts, small lemmas -/
namespace My
open PySem L2 Cm LM
abbrev sEI : Stmt := inClass (top 3) 0
theorem nz (n : Nat) : ((n : Int) != 0) = (n != 0) := by
  cases n with
  | zero => rfl
  | succ k => simp; omega
/-- no text is longer -/
def Bd (t : Str) : Prop := t.length ≤ 100000
theorem Bd.part {t : Str} (y : Str) (h : Bd t) : Bd (Txt.partition t y).1 ∧ Bd (Txt.partition t y).2.2 := ⟨Nat.le_trans (part_len t y).1 h, Nat.le_trans (part_len t y).2.2 h⟩
theorem Bd.line {t : Str} (h : Bd t) : t.length ≤ sizeLine := Nat.le_of_lt (szM (Nat.le_trans h (by decide)))
theorem Bd.line2 {t : Str} (h : Bd t) : t.length + 2 ≤ sizeLine := Nat.le_of_lt (szM (by unfold Bd at h; omega))
theorem svs_get {ws : List Str} {i : Nat} {x : V} (h : (svs ws)[i]? = some x) : ∃ z, ws[i]? = some z ∧ x = .str z := by
  unfold svs at h
  rw [List.getElem?_map] at h
  cases e : ws[i]? with
  | none => rw [e] at h; cases h
  | some z =>
    rw [e] at h
    exact ⟨z, rfl, (Option.some.inj h).symm⟩
theorem take_snoc {α : Type} {xs : List α} {i : Nat} {x : α} (h : xs[i]? = some x) : xs.take (i + 1) = xs.take i ++ [x] := by
  rw [List.take_succ, h]
  rfl
theorem lt_of_get {α : Type} {xs : List α} {i : Nat} {x : α} (h : xs[i]? = some x) : i < xs.length := (List.getElem?_eq_some_iff.mp h).1
/-- not many words, none too long -/
def BdW (ws : List Str) : Prop := (∀ z ∈ ws, Bd z) ∧ ws.length ≤ 100001
theorem made_same {H H' : Hp} {x dx C : Addr} (nx : H x = none) (ndx : H dx = none) (o : Off x (upd (upd H dx (.own x)) x (.ins C dx [])) H') : Same H H' := fun b u e => o b u (ne_of_none e nx) (by rw [upd_ne (ne_of_none e nx), upd_ne (ne_of_none e ndx)]; exact e)
/-- a special method of the class at C -/
structure Sm (K : PySem.W.Frag) (C : Addr) (x q : Str) (st : Stmt) (ps : List Str) where
  f : Addr
  fd : FuncData
  F : Fun K x q st f fd
  b : Binds K fd ps []
  i : PySem.W.findIn K (.ref C) x = some (some (.ref f))
  fn : PySem.W.isFn K (.ref f) = true
theorem TyX_same {K : PySem.W.Frag} {H H' : Hp} (s : Same H H') {x : V} {t : Value} (h : TyX K H x t) : TyX K H' x t := by
  cases h with
  | base b =>
    refine .base ?_
    cases b with
    | non => exact .non
    | bl x => exact .bl x
    | int i => exact .int i
    | str x => exact .str x
    | flt x => exact .flt x
    | lst e => exact .lst (s _ _ e)
    | frz e => exact .frz (s _ _ e)
    | tup e => exact .tup (s _ _ e)
    | dK e => exact .dK (s _ _ e)
    | dT e => exact .dT (s _ _ e)
    | ins e a b c d f => exact .ins (s _ _ e) a b c d f
  | byt b => exact .byt b
  | set e => exact .set (s _ _ e)
  | kList e c => exact .kList e c
  | kTuple e c => exact .kTuple e c
  | kDict e c => exact .kDict e c
  | fTuple e => exact .fTuple (s _ _ e)
  | fDict e => exact .fDict (s _ _ e)
theorem jar_ne {H : Hp} {j p : Addr} (a : Jar H j) (n : H p = none) : p ≠ j := fun z => by
  obtain ⟨_, _, _, q⟩ := a
  rw [z, q] at n
  cases n
theorem Jar.put {H : Hp} {j p : Addr} {o : HO} (a : Jar H j) (n : p ≠ j) : Jar (upd H p o) j := by
  obtain ⟨x, y, z, q⟩ := a
  exact ⟨x, y, z, by rw [upd_ne n.symm]; exact q⟩
/-- a store to what was not there at first -/
theorem Off.put2 {j q : Addr} {H H1 : Hp} {o : HO} (a : Off j H H1) (n : H q = none) : Off j H (upd H1 q o) := fun b u nb e => by
  rw [upd_ne (ne_of_none e n)]
  exact a b u nb e
/-- tuples that stand stay, if what is written is no tuple -/
theorem tup_stays {H : Hp} {x : Addr} {o o' : HO} (hx : H x = some o) (n : ∀ xs, o ≠ .tup xs) : ∀ (p : Addr) (xs : List V), H p = some (.tup xs) → (upd H x o') p = some (.tup xs) := fun p xs e => by
  rw [upd_ne]
  · exact e
  · intro z
    rw [z, hx] at e
    exact n xs (Option.some.inj e)
def isS : V → Bool
  | .str _ => true
  | _ => false
/-- its type is told -/
def Typed (K : PySem.W.Frag) (H : Hp) (x : V) : Prop := ∃ t, TyX K H x t ∧ PySem.W.kitOne K t (.type "str") = some (isS x)
theorem typed_str {K : PySem.W.Frag} {H : Hp} (x : Str) : Typed K H (.str x) := ⟨_, .base (.str x), kit_ty (show kitB "str" "str" = some true by decide +kernel)⟩
/-! ### the error -/
structure TxE (K : PySem.W.Frag) (mg : Str → Option Value) where
  C : Addr
  f : Addr
  fd : FuncData
  g : mg "InvalidText" = some (.ref C)
  o : OexC K C
  i : PySem.W.findIn K (.ref C) "__init__" = some (some (.ref f))
  t : PySem.W.typeIn K (.ref f) = some (.type "function")
  n : PySem.W.findIn K (.ref C) "value" = some none
  F : Fun K "__init__" "InvalidText.__init__" sEI f fd
  b : Binds K fd ["self", "value"] []
section
variable {P : Program} {w : World} {K : PySem.W.Frag} {mg : Str → Option Value} {base : Heap}
def spEI (CE : Addr) : Sp := fun vs H Q _ => ∃ (a : Addr) (v : V), vs = [.ref a, v] ∧ H a = some (exo a CE none) ∧ ∀ dx, H dx = none → dx ≠ a → Q .non (upd (upd H dx (exd dx [("value", v)])) a (exo a CE (some dx)))
theorem scEI : FnScope ["self", "value"] ["self", "value"] (defScope sEI) := ⟨rfl, rfl, rfl, by decide +kernel, rfl, by decide +kernel, by decide +kernel⟩
theorem ok_ei (T : TxE K mg) : FnOk P w K mg base CX0 1 T.f T.fd ["self", "value"] (spEI T.C) := by
  refine T.F.ok scEI (fun vs H Q E h => ?_) (fun cdv A outer s H vs Q E hr h => ?_)
  · obtain ⟨a, v, rfl, _⟩ := h
    rfl
  · obtain ⟨a, v, rfl, ha, k⟩ := h
    refine ⟨_, pss_one (ps_ost (pv 0) (pv 1)), ?_⟩
    exact ⟨_, rfl, _, rfl, a, T.C, rfl, T.o, T.n, .inl ⟨ha, fun dx n ne => k dx n ne⟩⟩
/-- raise X(x), as its making is read -/
theorem mk_err {CE : Addr} {ta : TA} {σ : St} {H : Hp} {Q : XK} {x : V} (h : ta σ H fun vs H1 => vs = [x] ∧ H1 = H) (mono : ∀ {R R' : List V → Hp → Prop}, ta σ H R → (∀ v H1, R v H1 → R' v H1) → ta σ H R')
    (q : ∀ d, H d = none → Q (.ref CE) (some d) (upd H d (.xd [("value", x)]))) : tMkO CE (spEI CE) [] ta σ H Q := by
  refine mono h fun vs H1 hh => ?_
  obtain ⟨rfl, rfl⟩ := hh
  refine ⟨by show 1 ≤ 1000; decide, fun a na => ⟨a, x, rfl, upd_same, fun dx ndx nda => ⟨rfl, dx, [("value", x)], upd_same, ?_, ?_, ?_⟩⟩⟩
  · rw [upd_ne nda, upd_same]
  · rw [upd_ne nda] at ndx
    exact ndx
  · have e : upd (del (upd (upd (upd H1 a (exo a CE none)) dx (exd dx [("value", x)])) a (exo a CE (some dx))) a) dx (.xd [("value", x)]) = upd H1 dx (.xd [("value", x)]) := by
      funext b
      by_cases h1 : b = dx
      · rw [h1, upd_same, upd_same]
      · rw [upd_ne h1, upd_ne h1]
        by_cases h2 : b = a
        · rw [h2, del_same, na]
        · rw [del_ne h2, upd_ne h2, upd_ne h1, upd_ne h2]
    rw [e]
    rw [upd_ne nda] at ndx
    exact q dx ndx
end
end My

/-! right loops: their words, and loops without a word -/
namespace LM
open PySem L2 TL
theorem part_back {x y : Str} (h : ((Txt.partition x y).2.1.length != 0) = true) : x = (Txt.partition x y).1 ++ y ++ (Txt.partition x y).2.2 := by
  rcases PyProof.Rows.partition_whole x y with ⟨e, _⟩ | ⟨i, e, hi, _⟩
  · rw [e] at h
    exact absurd (show ((Str.empty).length != 0) = true from h) (by decide)
  · rw [e]
    refine ext_tl ?_
    rw [tl_append, tl_append, tl_strSub, tl_strSub_end, List.drop_zero, Nat.sub_zero]
    by_cases hy : tl y = []
    · have : y.length = 0 := by rw [len_tl, hy]; rfl
      rw [hy, this, List.append_nil, Nat.add_zero, List.take_append_drop]
    · have hp := (at_iff hy i).mp hi
      have e2 : ((tl x).drop i).take (tl y).length = tl y := eq_of_beq hp
      have e3 : tl y ++ (tl x).drop (i + y.length) = (tl x).drop i := by
        rw [len_tl y, ← drop_two]
        have := List.take_append_drop (tl y).length ((tl x).drop i)
        rw [e2] at this
        exact this
      rw [List.append_assoc, e3, List.take_append_drop]
theorem word_wd {w : Str} {ss : List Str} (h : isWord w ss = true) : Wd ss w := by
  unfold isWord at h
  cases hc : ((Txt.partition w ":").2.1.length != 0) with
  | true =>
    rw [if_pos hc] at h
    have h2 := Bool.and_eq_true_iff.mp h
    exact ⟨_, of_decide_eq_true h2.2, .inr ⟨_, of_decide_eq_true h2.1, part_back hc⟩⟩
  | false =>
    rw [if_neg (by rw [hc]; exact Bool.false_ne_true)] at h
    exact ⟨w, of_decide_eq_true h, .inl rfl⟩
/-- free and short -/
def FS (w : Str) : Prop := Fre w ∧ w.length ≤ 11
theorem wd_fs {w : Str} (h : Wd rsteps w) : FS w := by
  have := wd_ok w h.mem
  unfold wdOk at this
  simp only [Bool.and_eq_true, decide_eq_true_eq] at this
  exact ⟨⟨this.2.1, this.2.2.1⟩, this.2.2.2⟩
theorem e_r : ∀ s ∈ esteps, s ∈ rsteps := by decide +kernel
theorem ask_fs : FS "ask" := ⟨⟨by decide +kernel, by decide +kernel⟩, by decide +kernel⟩
theorem areWords_iff {ws ss : List Str} : areWords ws ss = true ↔ ∀ w ∈ ws, isWord w ss = true := List.all_eq_true
theorem isRound_iff {B : List Str} : isRound B = true ↔ ∃ r, B = ("ask" : Str) :: r ∧ B.length ≤ 12 ∧ (B.filter isAdd).length ≤ 1 ∧ ∀ w ∈ r, isWord w rsteps = true := by
  unfold isRound
  simp only [Bool.and_eq_true, decide_eq_true_eq, areWords_iff]
  constructor
  · rintro ⟨h1, h2, h3, h4⟩
    cases B with
    | nil => cases h1
    | cons x r =>
      have : x = "ask" := Option.some.inj h1
      subst this
      exact ⟨r, rfl, h2, h3, h4⟩
  · rintro ⟨r, rfl, h2, h3, h4⟩
    exact ⟨rfl, h2, h3, h4⟩
theorem isEnding_iff {E : List Str} : isEnding E = true ↔ E.length ≤ 6 ∧ ∀ w ∈ E, isWord w esteps = true := by
  unfold isEnding
  simp only [Bool.and_eq_true, decide_eq_true_eq, areWords_iff]
theorem round_fs {B : List Str} (h : isRound B = true) : ∀ w ∈ B, FS w := by
  obtain ⟨r, rfl, _, _, h4⟩ := isRound_iff.mp h
  intro w hw
  rcases List.mem_cons.mp hw with rfl | hw
  · exact ask_fs
  · exact wd_fs (word_wd (h4 w hw))
theorem ending_fs {E : List Str} (h : isEnding E = true) : ∀ w ∈ E, FS w := fun w hw => wd_fs ((word_wd ((isEnding_iff.mp h).2 w hw)).mono e_r)
theorem round_ne {B : List Str} (h : isRound B = true) : B ≠ [] := by
  obtain ⟨r, rfl, _⟩ := isRound_iff.mp h
  simp
theorem round_sht {B : List Str} (h : isRound B = true) : Sht 12 B := ⟨fun w hw => (round_fs h w hw).2, let ⟨_, _, h2, _⟩ := isRound_iff.mp h; h2⟩
theorem ending_sht {E : List Str} (h : isEnding E = true) : Sht 6 E := ⟨fun w hw => (ending_fs h w hw).2, (isEnding_iff.mp h).1⟩
theorem Sht.mono {n m : Nat} {B : List Str} (h : Sht n B) (l : n ≤ m) : Sht m B := ⟨h.1, Nat.le_trans h.2 l⟩
theorem text_words {B E : List Str} (hB : isRound B = true) (hE : isEnding E = true) : wordsR (textOf B E) = B ∧ wordsE (textOf B E) = E := words_text (round_ne hB) (fun w hw => (round_fs hB w hw).1) (fun w hw => (ending_fs hE w hw).1)
theorem text_good {B E : List Str} (hB : isRound B = true) (hE : isEnding E = true) : goodText (textOf B E) = true := by
  have := text_words hB hE
  unfold goodText
  rw [this.1, this.2, hB, hE]
  rfl
theorem text_len {B E : List Str} (hB : isRound B = true) (hE : isEnding E = true) : (textOf B E).length ≤ 300 := by
  have h1 := (round_sht hB).join
  have h2 := (ending_sht hE).join
  unfold textOf
  split
  · omega
  · rw [strLen_append, strLen_append]
    have : (" | " : Str).length = 3 := by decide +kernel
    omega
/-- without the word at i -/
theorem round_erase {B : List Str} {i : Nat} (hB : isRound B = true) (hi : 1 ≤ i) : isRound (B.eraseIdx i) = true := by
  obtain ⟨r, rfl, h2, h3, h4⟩ := isRound_iff.mp hB
  obtain ⟨k, rfl⟩ : ∃ k, i = k + 1 := ⟨i - 1, by omega⟩
  have sub : (("ask" : Str) :: r.eraseIdx k).Sublist (("ask" : Str) :: r) := (List.eraseIdx_sublist r k).cons_cons _
  refine isRound_iff.mpr ⟨r.eraseIdx k, rfl, Nat.le_trans sub.length_le h2, Nat.le_trans (sub.filter isAdd).length_le h3, fun w hw => h4 w ((List.eraseIdx_sublist r k).subset hw)⟩
theorem ending_erase {E : List Str} {i : Nat} (hE : isEnding E = true) : isEnding (E.eraseIdx i) = true := by
  have h := isEnding_iff.mp hE
  exact isEnding_iff.mpr ⟨Nat.le_trans (List.eraseIdx_sublist E i).length_le h.1, fun w hw => h.2 w ((List.eraseIdx_sublist E i).subset hw)⟩
theorem good_iff {t : Str} : goodText t = true ↔ isRound (wordsR t) = true ∧ isEnding (wordsE t) = true := Bool.and_eq_true_iff
end LM

/-! loops that are drawn -/
namespace LM
open PySem L2 TL
def sBar : Str := " | "
def sSp : Str := " "
def samples : List Str := ["ask empty:stop hand", "ask hand short:stop", "ask add cut told:stop | rest:flush", "ask told:stop hand", "ask add empty:stop | rest:flush", "ask add cut empty:stop | flush", "ask some:hand told:stop", "ask empty:stop add cut | rest:flush", "ask empty:again hand told:stop", "ask add full:flush told:stop"]
def sampP (s : Str) : List Str := Txt.split s " | "
def sampB (s : Str) : List Str := Txt.split ((sampP s).getD 0 Str.empty) " "
def sampE (s : Str) : List Str := if (sampP s).length > 1 then Txt.split ((sampP s).getD 1 Str.empty) " " else []
def sampOk (s : Str) : Bool := isRound (sampB s) && (isEnding (sampE s) && (decide ((sampB s).length ≤ 4) && (decide ((sampE s).length ≤ 1) && (decide (1 ≤ (sampP s).length) && (decide (s.length ≤ 100) && (sampP s).all fun p => decide (p.length ≤ 100))))))
theorem samp_ok : ∀ s ∈ samples, sampOk s = true := by decide +kernel
structure Samp (s : Str) : Prop where
  r : isRound (sampB s) = true
  e : isEnding (sampE s) = true
  lb : (sampB s).length ≤ 4
  le : (sampE s).length ≤ 1
  l1 : 1 ≤ (sampP s).length
  ls : s.length ≤ 100
  lp : ∀ p ∈ sampP s, p.length ≤ 100
theorem samp_of {s : Str} (h : s ∈ samples) : Samp s := by
  have := samp_ok s h
  unfold sampOk at this
  simp only [Bool.and_eq_true, decide_eq_true_eq, List.all_eq_true] at this
  exact ⟨this.1, this.2.1, this.2.2.1, this.2.2.2.1, this.2.2.2.2.1, this.2.2.2.2.2.1, this.2.2.2.2.2.2⟩
/-! ### a word more -/
def plain5 : List Str := ["hand", "cut", "flush", "stop", "again"]
theorem wd_round {w : Str} (h : Wd rsteps w) : isWord w rsteps = true := by
  have := wd_ok w h.mem
  unfold wdOk at this
  exact (Bool.and_eq_true_iff.mp this).1
theorem wd_ending {w : Str} (h : Wd esteps w) : isWord w esteps = true := wd_end w h.mem
theorem wd_plain {w : Str} (h : Wd plain5 w) : isAdd w = false := wd_noadd w h.mem
theorem ask_noadd : isAdd "ask" = false := by decide +kernel
theorem ins_round {B xs : List Str} {i : Nat} (hB : isRound B = true) (hi : 1 ≤ i) (hx : ∀ x ∈ xs, isWord x rsteps = true) (hl : B.length + xs.length ≤ 12) (ha : (B.filter isAdd).length + (xs.filter isAdd).length ≤ 1) :
    isRound (B.take i ++ xs ++ B.drop i) = true := by
  obtain ⟨r, rfl, h2, h3, h4⟩ := isRound_iff.mp hB
  obtain ⟨k, rfl⟩ : ∃ k, i = k + 1 := ⟨i - 1, by omega⟩
  refine isRound_iff.mpr ⟨r.take k ++ xs ++ r.drop k, rfl, ?_, ?_, fun w hw => ?_⟩
  · rw [List.length_append, List.length_append, List.length_take, List.length_drop]
    omega
  · rw [List.filter_append, List.filter_append, List.length_append, List.length_append]
    have e : (((("ask" : Str) :: r).take (k + 1)).filter isAdd).length + (((("ask" : Str) :: r).drop (k + 1)).filter isAdd).length = ((("ask" : Str) :: r).filter isAdd).length := by
      rw [← List.length_append, ← List.filter_append, List.take_append_drop]
    omega
  · rcases List.mem_append.mp hw with hw | hw
    · rcases List.mem_append.mp hw with hw | hw
      · exact h4 w (List.mem_of_mem_take hw)
      · exact hx w hw
    · exact h4 w (List.mem_of_mem_drop hw)
theorem ask_round {ws : List Str} (h : ∀ w ∈ ws, Wd plain5 w) (hl : ws.length ≤ 11) : isRound (("ask" : Str) :: ws) = true ∧ ((("ask" : Str) :: ws).filter isAdd).length = 0 := by
  have e : ((("ask" : Str) :: ws).filter isAdd) = [] := by
    refine List.filter_eq_nil_iff.mpr fun w hw => ?_
    rcases List.mem_cons.mp hw with rfl | hw
    · rw [ask_noadd]; exact Bool.false_ne_true
    · rw [wd_plain (h w hw)]; exact Bool.false_ne_true
  refine ⟨isRound_iff.mpr ⟨ws, rfl, by rw [List.length_cons]; omega, by rw [e]; exact Nat.zero_le _, fun w hw => wd_round ((h w hw).mono (by decide +kernel))⟩, by rw [e]; rfl⟩
theorem one_filter {xs : List Str} (h : xs.length = 1) : (xs.filter isAdd).length ≤ 1 := Nat.le_trans (List.length_filter_le ..) (by omega)
theorem none_filter {xs : List Str} (h : ∀ w ∈ xs, Wd plain5 w) : (xs.filter isAdd).length = 0 := by
  rw [show xs.filter isAdd = [] from List.filter_eq_nil_iff.mpr fun w hw => by rw [wd_plain (h w hw)]; exact Bool.false_ne_true]
  rfl
theorem round_adds {B : List Str} (h : isRound B = true) : (B.filter isAdd).length ≤ 1 := let ⟨_, _, _, h3, _⟩ := isRound_iff.mp h; h3
theorem words_ending {E : List Str} (h : ∀ w ∈ E, Wd esteps w) (hl : E.length ≤ 6) : isEnding E = true := isEnding_iff.mpr ⟨hl, fun w hw => wd_ending (h w hw)⟩
/-! ### signs that are signs -/
def Asc (w : Str) : Prop := PyData.strOk w = true
theorem asc_iff {w : Str} : Asc w ↔ ∀ c ∈ tl w, c < 1114112 := by
  unfold Asc PyData.strOk
  rw [← Array.all_toList, List.all_eq_true]
  simp
theorem Asc.app {a b : Str} (ha : Asc a) (hb : Asc b) : Asc (a ++ b) := by
  rw [asc_iff] at ha hb ⊢
  rw [tl_append]
  intro c hc
  exact (List.mem_append.mp hc).elim (ha c) (hb c)
theorem asc_join {B : List Str} (h : ∀ w ∈ B, Asc w) : Asc (Txt.join " " B) := by
  rw [asc_iff, tl_joinSp]
  intro c hc
  rcases joinL_mem hc with hc | ⟨p, hp, hc⟩
  · rw [List.mem_singleton.mp hc]
    decide
  · obtain ⟨w, hw, rfl⟩ := List.mem_map.mp hp
    exact asc_iff.mp (h w hw) c hc
theorem asc_bar : Asc " | " := by unfold Asc; decide +kernel
theorem asc_text {B E : List Str} (h1 : ∀ w ∈ B, Asc w) (h2 : ∀ w ∈ E, Asc w) : Asc (textOf B E) := by
  unfold textOf
  split
  · exact asc_join h1
  · exact ((asc_join h1).app asc_bar).app (asc_join h2)
theorem wd_asc' : ∀ w ∈ allWd rsteps, PyData.strOk w = true := by decide +kernel
theorem wd_asc {w : Str} (h : Wd rsteps w) : Asc w := wd_asc' w h.mem
theorem ask_asc : Asc "ask" := by unfold Asc; decide +kernel
theorem round_asc {B : List Str} (h : isRound B = true) : ∀ w ∈ B, Asc w := by
  obtain ⟨r, rfl, _, _, h4⟩ := isRound_iff.mp h
  intro w hw
  rcases List.mem_cons.mp hw with rfl | hw
  · exact ask_asc
  · exact wd_asc (word_wd (h4 w hw))
theorem ending_asc {E : List Str} (h : isEnding E = true) : ∀ w ∈ E, Asc w := fun w hw => wd_asc ((word_wd ((isEnding_iff.mp h).2 w hw)).mono e_r)
end LM

/-! rows of pieces: what cutters make of them -/
namespace CH
def evenly (n w : Nat) : List Nat := List.replicate (n / w) w ++ (if n % w = 0 then [] else [n % w])
def chop (xs : List Nat) (w : Nat) : List Nat := xs.flatMap fun x => evenly x w
def tailS (xs : List Nat) (w : Nat) : List Nat := if 2 ≤ xs.length ∧ xs.getD (xs.length - 1) 0 < w then xs.take (xs.length - 2) ++ [xs.getD (xs.length - 2) 0 + xs.getD (xs.length - 1) 0] else xs
inductive Kd | cut | fill | tail
  deriving DecidableEq
def applyS (n : Nat) (c : Kd × Nat) (xs : List Nat) : List Nat := match c.1 with
  | .cut => chop xs c.2
  | .fill => evenly n c.2
  | .tail => tailS xs c.2
def wholeS (n : Nat) : List Nat := if n = 0 then [] else [n]
/-- the sizes of the pieces -/
def lens (cs : List (Kd × Nat)) (n : Nat) : List Nat := cs.foldl (fun xs c => applyS n c xs) (wholeS n)
structure Rw where
  unit : List Nat
  times : Nat
  last : List Nat
def Rw.sizes (r : Rw) : List Nat := (List.replicate r.times r.unit).flatten ++ r.last
def Rw.many (r : Rw) : Nat := r.times * r.unit.length + r.last.length
def Rw.tot (r : Rw) : Nat := r.times * r.unit.sum + r.last.sum
def fillR (r : Rw) (w : Nat) : Rw := ⟨[w], r.tot / w, if r.tot % w = 0 then [] else [r.tot % w]⟩
def cutR (r : Rw) (w : Nat) : Rw := if r.many = 1 then fillR r w else ⟨chop r.unit w, r.times, chop r.last w⟩
def pull (u : List Nat) : Nat → List Nat → Nat × List Nat
  | 0, l => (0, l)
  | t + 1, l => if l.length < 2 then pull u t (u ++ l) else (t + 1, l)
def tailR (r : Rw) (w : Nat) : Rw := ⟨r.unit, (pull r.unit r.times r.last).1, tailS (pull r.unit r.times r.last).2 w⟩
def wholeR (n : Nat) : Rw := ⟨[], 0, wholeS n⟩
def applyR (c : Kd × Nat) (r : Rw) : Rw := match c.1 with
  | .cut => cutR r c.2
  | .fill => fillR r c.2
  | .tail => tailR r c.2
def rowOf (cs : List (Kd × Nat)) (n : Nat) : Rw := cs.foldl (fun r c => applyR c r) (wholeR n)
/-! ### lists -/
theorem rep_len (u : List Nat) : ∀ t, (List.replicate t u).flatten.length = t * u.length
  | 0 => by simp
  | t + 1 => by rw [List.replicate_succ, List.flatten_cons, List.length_append, rep_len u t, Nat.succ_mul]; omega
theorem rep_sum (u : List Nat) : ∀ t, (List.replicate t u).flatten.sum = t * u.sum
  | 0 => by simp
  | t + 1 => by rw [List.replicate_succ, List.flatten_cons, List.sum_append, rep_sum u t, Nat.succ_mul]; omega
theorem sizes_len (r : Rw) : r.sizes.length = r.many := by unfold Rw.sizes Rw.many; rw [List.length_append, rep_len]
theorem sizes_sum (r : Rw) : r.sizes.sum = r.tot := by unfold Rw.sizes Rw.tot; rw [List.sum_append, rep_sum]
theorem flat_one (w : Nat) : ∀ t, (List.replicate t [w]).flatten = List.replicate t w
  | 0 => rfl
  | t + 1 => by rw [List.replicate_succ, List.flatten_cons, flat_one w t, List.replicate_succ]; rfl
theorem fill_sizes (r : Rw) (w : Nat) : (fillR r w).sizes = evenly r.tot w := by
  unfold fillR Rw.sizes evenly
  rw [flat_one]
theorem evenly_sum (n w : Nat) : (evenly n w).sum = n := by
  unfold evenly
  rw [List.sum_append, List.sum_replicate_nat]
  have := Nat.div_add_mod n w
  split
  · rw [List.sum_nil]; rw [Nat.mul_comm]; omega
  · rw [List.sum_singleton, Nat.mul_comm]; omega
theorem chop_app (a b : List Nat) (w : Nat) : chop (a ++ b) w = chop a w ++ chop b w := by unfold chop; rw [List.flatMap_append]
theorem chop_rep (u : List Nat) (w : Nat) : ∀ t, chop (List.replicate t u).flatten w = (List.replicate t (chop u w)).flatten
  | 0 => rfl
  | t + 1 => by rw [List.replicate_succ, List.flatten_cons, chop_app, chop_rep u w t, List.replicate_succ, List.flatten_cons]
theorem chop_sum (w : Nat) : ∀ xs, (chop xs w).sum = xs.sum
  | [] => rfl
  | x :: r => by
    show (evenly x w ++ chop r w).sum = _
    rw [List.sum_append, evenly_sum, chop_sum w r, List.sum_cons]
theorem cut_sizes (r : Rw) (w : Nat) : (cutR r w).sizes = chop r.sizes w := by
  unfold cutR
  split
  · rename_i h
    rw [fill_sizes]
    rw [← sizes_len] at h
    rw [← sizes_sum]
    match r.sizes, h with
    | [x], _ =>
      show evenly (x + 0) w = evenly x w ++ []
      rw [List.append_nil]; rfl
  · show (List.replicate r.times (chop r.unit w)).flatten ++ chop r.last w = _
    unfold Rw.sizes
    rw [chop_app, chop_rep]
theorem pull_sizes (u : List Nat) : ∀ (t : Nat) (l : List Nat), (List.replicate (pull u t l).1 u).flatten ++ (pull u t l).2 = (List.replicate t u).flatten ++ l
  | 0, l => rfl
  | t + 1, l => by
    unfold pull
    split
    · rw [pull_sizes u t (u ++ l), List.replicate_succ', List.flatten_append, List.append_assoc]
      simp
    · rfl
theorem pull_end (u : List Nat) : ∀ (t : Nat) (l : List Nat), (pull u t l).1 = 0 ∨ 2 ≤ (pull u t l).2.length
  | 0, l => .inl rfl
  | t + 1, l => by
    unfold pull
    split
    · exact pull_end u t (u ++ l)
    · right; show 2 ≤ l.length; omega
theorem getD_app (a b : List Nat) (i : Nat) (h : a.length ≤ i) : (a ++ b).getD i 0 = b.getD (i - a.length) 0 := by
  rw [List.getD_eq_getElem?_getD, List.getD_eq_getElem?_getD, List.getElem?_append_right h]
theorem tailS_app (a b : List Nat) (w : Nat) (h : 2 ≤ b.length) : tailS (a ++ b) w = a ++ tailS b w := by
  unfold tailS
  rw [List.length_append, getD_app a b _ (by omega), getD_app a b _ (by omega), show a.length + b.length - 1 - a.length = b.length - 1 by omega, show a.length + b.length - 2 - a.length = b.length - 2 by omega]
  by_cases c : b.getD (b.length - 1) 0 < w
  · rw [if_pos ⟨by omega, c⟩, if_pos ⟨h, c⟩, List.take_append, List.take_of_length_le (by omega), List.append_assoc, show a.length + b.length - 2 - a.length = b.length - 2 by omega]
  · rw [if_neg fun z => c z.2, if_neg fun z => c z.2]
theorem tail_sizes (r : Rw) (w : Nat) : (tailR r w).sizes = tailS r.sizes w := by
  show (List.replicate (pull r.unit r.times r.last).1 r.unit).flatten ++ tailS (pull r.unit r.times r.last).2 w = _
  have e := pull_sizes r.unit r.times r.last
  unfold Rw.sizes
  rw [← e]
  rcases pull_end r.unit r.times r.last with h | h
  · rw [h]; rfl
  · rw [tailS_app _ _ _ h]
theorem getD_eq {xs : List Nat} {i : Nat} (h : i < xs.length) : xs.getD i 0 = xs[i] := by rw [List.getD_eq_getElem?_getD, List.getElem?_eq_getElem h]; rfl
theorem two_last {xs : List Nat} (h : 2 ≤ xs.length) : xs = xs.take (xs.length - 2) ++ [xs.getD (xs.length - 2) 0, xs.getD (xs.length - 1) 0] := by
  have e : xs.drop (xs.length - 2) = [xs.getD (xs.length - 2) 0, xs.getD (xs.length - 1) 0] := by
    rw [List.drop_eq_getElem_cons (by omega), List.drop_eq_getElem_cons (by omega), List.drop_of_length_le (by omega)]
    rw [getD_eq (by omega), getD_eq (by omega)]
    have e : xs.length - 2 + 1 = xs.length - 1 := by omega
    simp [e]
  rw [← e, List.take_append_drop]
theorem tailS_sum (xs : List Nat) (w : Nat) : (tailS xs w).sum = xs.sum := by
  unfold tailS
  split
  · rename_i h
    rw [List.sum_append]
    conv => rhs; rw [two_last h.1]
    rw [List.sum_append]
    simp
  · rfl
theorem wholeS_sum (n : Nat) : (wholeS n).sum = n := by
  unfold wholeS
  split
  · rename_i h; rw [h]; rfl
  · simp
theorem applyS_sum (n : Nat) (c : Kd × Nat) (xs : List Nat) (h : xs.sum = n) : (applyS n c xs).sum = n := by
  unfold applyS
  split
  · rw [chop_sum, h]
  · rw [evenly_sum]
  · rw [tailS_sum, h]
theorem fold_sizes (n : Nat) : ∀ (cs : List (Kd × Nat)) (r : Rw) (xs : List Nat), r.sizes = xs → xs.sum = n → (cs.foldl (fun r c => applyR c r) r).sizes = cs.foldl (fun xs c => applyS n c xs) xs ∧ (cs.foldl (fun xs c => applyS n c xs) xs).sum = n
  | [], r, xs, h1, h2 => ⟨h1, h2⟩
  | c :: cs, r, xs, h1, h2 => by
    refine fold_sizes n cs (applyR c r) (applyS n c xs) ?_ (applyS_sum n c xs h2)
    unfold applyR applyS
    split
    · rw [cut_sizes, h1]
    · rw [fill_sizes, ← sizes_sum, h1, h2]
    · rw [tail_sizes, h1]
theorem row_sizes (cs : List (Kd × Nat)) (n : Nat) : (rowOf cs n).sizes = lens cs n := (fold_sizes n cs (wholeR n) (wholeS n) rfl (wholeS_sum n)).1
theorem lens_sum (cs : List (Kd × Nat)) (n : Nat) : (lens cs n).sum = n := (fold_sizes n cs (wholeR n) (wholeS n) rfl (wholeS_sum n)).2
theorem row_many (cs : List (Kd × Nat)) (n : Nat) : (rowOf cs n).many = (lens cs n).length := by rw [← sizes_len, row_sizes]
theorem row_tot (cs : List (Kd × Nat)) (n : Nat) : (rowOf cs n).tot = n := by rw [← sizes_sum, row_sizes, lens_sum]
/-! ### all pieces have items -/
def Pos (xs : List Nat) : Prop := ∀ x ∈ xs, 0 < x
theorem Pos.app {a b : List Nat} (ha : Pos a) (hb : Pos b) : Pos (a ++ b) := fun x h => (List.mem_append.mp h).elim (ha x) (hb x)
theorem Pos.len {xs : List Nat} (h : Pos xs) : xs.length ≤ xs.sum := by
  induction xs with
  | nil => simp
  | cons x r ih =>
    have a := h x (List.mem_cons_self ..)
    have b := ih fun y hy => h y (List.mem_cons_of_mem _ hy)
    rw [List.length_cons, List.sum_cons]
    omega
theorem pos_evenly {n w : Nat} (hw : 0 < w) : Pos (evenly n w) := by
  intro x hx
  unfold evenly at hx
  rcases List.mem_append.mp hx with h | h
  · rw [(List.mem_replicate.mp h).2]; exact hw
  · split at h
    · cases h
    · rw [List.mem_singleton.mp h]; omega
theorem pos_chop {xs : List Nat} {w : Nat} (hw : 0 < w) : Pos (chop xs w) := by
  intro x hx
  obtain ⟨y, _, h⟩ := List.mem_flatMap.mp hx
  exact pos_evenly hw x h
theorem pos_tailS {xs : List Nat} {w : Nat} (h : Pos xs) : Pos (tailS xs w) := by
  unfold tailS
  split
  · rename_i c
    refine Pos.app (fun x hx => h x (List.mem_of_mem_take hx)) fun x hx => ?_
    rw [List.mem_singleton.mp hx]
    have := h (xs.getD (xs.length - 2) 0) (by rw [getD_eq (by omega)]; exact List.getElem_mem _)
    omega
  · exact h
theorem pos_wholeS (n : Nat) : Pos (wholeS n) := by
  unfold wholeS
  split
  · intro x h; cases h
  · intro x h; rw [List.mem_singleton.mp h]; omega
theorem pos_rep {u : List Nat} {t : Nat} (h : Pos u) : Pos (List.replicate t u).flatten := by
  intro x hx
  obtain ⟨l, hl, hx⟩ := List.mem_flatten.mp hx
  rw [(List.mem_replicate.mp hl).2] at hx
  exact h x hx
/-- what holds of a row behind k cutters -/
structure Inv (k : Nat) (r : Rw) : Prop where
  pu : Pos r.unit
  pl : Pos r.last
  f : (r.unit = [] ∧ r.times = 0 ∧ r.last.length ≤ 1) ∨ (r.unit ≠ [] ∧ r.unit.sum ≤ 12 ∧ r.last.sum ≤ 24 * k + 12)
theorem inv_whole (n : Nat) : Inv 0 (wholeR n) := ⟨fun x h => (nomatch h), pos_wholeS n, .inl ⟨rfl, rfl, by show (wholeS n).length ≤ 1; unfold wholeS; split <;> simp⟩⟩
theorem inv_fill {k : Nat} {r : Rw} {w : Nat} (hw : 0 < w) (h12 : w ≤ 12) : Inv (k + 1) (fillR r w) := by
  refine ⟨fun x h => ?_, fun x h => ?_, .inr ⟨by simp [fillR], by show [w].sum ≤ 12; simpa using h12, ?_⟩⟩
  · rw [List.mem_singleton.mp h]; exact hw
  · unfold fillR at h
    simp only at h
    split at h
    · cases h
    · rw [List.mem_singleton.mp h]; omega
  · show (if r.tot % w = 0 then [] else [r.tot % w]).sum ≤ _
    have := Nat.mod_lt r.tot hw
    split
    · simp
    · simp; omega
theorem evenly_ne {n w : Nat} (hn : 0 < n) : evenly n w ≠ [] := fun e => by
  have := evenly_sum n w
  rw [e] at this
  simp at this
  omega
theorem inv_cut {k : Nat} {r : Rw} {w : Nat} (hw : 0 < w) (h12 : w ≤ 12) (h : Inv k r) : Inv (k + 1) (cutR r w) := by
  unfold cutR
  split
  · exact inv_fill hw h12
  · rename_i hm
    refine ⟨pos_chop hw, pos_chop hw, ?_⟩
    rcases h.f with ⟨a, b, c⟩ | ⟨a, b, c⟩
    · left
      refine ⟨by rw [a]; rfl, b, ?_⟩
      have : r.last.length = 0 := by
        unfold Rw.many at hm
        rw [b] at hm
        omega
      rw [List.eq_nil_of_length_eq_zero this]
      simp [chop]
    · right
      refine ⟨fun e => ?_, by rw [chop_sum]; exact b, by rw [chop_sum]; show r.last.sum ≤ _; omega⟩
      obtain ⟨x, u, hu⟩ := List.exists_cons_of_ne_nil a
      rw [hu] at e
      have e2 : evenly x w ++ chop u w = [] := e
      exact evenly_ne (h.pu x (by rw [hu]; exact List.mem_cons_self ..)) (List.append_eq_nil_iff.mp e2).1
theorem pull_len (u : List Nat) (hu : u ≠ []) : ∀ (t : Nat) (l : List Nat), (pull u t l).2.sum ≤ l.sum + (2 - l.length) * u.sum
  | 0, l => by show l.sum ≤ _; omega
  | t + 1, l => by
    unfold pull
    split
    · have ih := pull_len u hu t (u ++ l)
      have hl : 1 ≤ u.length := List.length_pos_iff.mpr hu
      rw [List.sum_append, List.length_append] at ih
      have : (2 - (u.length + l.length)) * u.sum ≤ (1 - l.length) * u.sum := Nat.mul_le_mul_right _ (by omega)
      have e : (2 - l.length) * u.sum = (1 - l.length) * u.sum + u.sum := by
        rw [show 2 - l.length = (1 - l.length) + 1 by omega, Nat.succ_mul]
      omega
    · show l.sum ≤ _; omega
theorem pos_pull {u : List Nat} (hu : Pos u) : ∀ (t : Nat) {l : List Nat}, Pos l → Pos (pull u t l).2
  | 0, l, h => h
  | t + 1, l, h => by
    unfold pull
    split
    · exact pos_pull hu t (hu.app h)
    · exact h
theorem inv_tail {k : Nat} {r : Rw} {w : Nat} (h : Inv k r) : Inv (k + 1) (tailR r w) := by
  refine ⟨h.pu, pos_tailS (pos_pull h.pu _ h.pl), ?_⟩
  rcases h.f with ⟨a, b, c⟩ | ⟨a, b, c⟩
  · left
    refine ⟨a, ?_, ?_⟩
    · show (pull r.unit r.times r.last).1 = 0
      rw [b]; rfl
    · show (tailS (pull r.unit r.times r.last).2 w).length ≤ 1
      rw [b]
      show (tailS r.last w).length ≤ 1
      unfold tailS
      rw [if_neg (fun z => by have := z.1; omega)]
      exact c
  · right
    refine ⟨a, b, ?_⟩
    show (tailS (pull r.unit r.times r.last).2 w).sum ≤ _
    rw [tailS_sum]
    have := pull_len r.unit a r.times r.last
    have : (2 - r.last.length) * r.unit.sum ≤ 2 * 12 := Nat.mul_le_mul (by omega) b
    omega
theorem inv_apply {k : Nat} {r : Rw} {c : Kd × Nat} (h1 : 0 < c.2) (h2 : c.2 ≤ 12) (h : Inv k r) : Inv (k + 1) (applyR c r) := by
  unfold applyR
  split
  · exact inv_cut h1 h2 h
  · exact inv_fill h1 h2
  · exact inv_tail h
/-! ### pieces and places -/
theorem take_rep (u : List Nat) : ∀ (t i : Nat), i < t * u.length → ((List.replicate t u).flatten.take i).sum = i / u.length * u.sum + (u.take (i % u.length)).sum ∧ (List.replicate t u).flatten[i]? = u[i % u.length]?
  | 0, i, h => by omega
  | t + 1, i, h => by
    rw [List.replicate_succ, List.flatten_cons]
    rw [Nat.succ_mul] at h
    by_cases c : i < u.length
    · rw [Nat.div_eq_of_lt c, Nat.mod_eq_of_lt c, List.take_append, List.getElem?_append_left c, show i - u.length = 0 by omega]
      simp
    · have hp : 0 < u.length := by
        rcases Nat.eq_zero_or_pos u.length with z | z
        · rw [z] at h; omega
        · exact z
      obtain ⟨a, b⟩ := take_rep u t (i - u.length) (by omega)
      rw [List.take_append, List.take_of_length_le (by omega), List.sum_append, List.getElem?_append_right (by omega), a, b, Nat.mod_eq_sub_mod (by omega : u.length ≤ i), Nat.div_eq_sub_div hp (by omega : u.length ≤ i)]
      refine ⟨?_, rfl⟩
      rw [Nat.succ_mul]
      omega
/-- the place of the piece with this item -/
def placeA : List Nat → Nat → Nat
  | [], _ => 0
  | x :: r, i => if i < x then 0 else 1 + placeA r (i - x)
theorem placeA_app : ∀ (a b : List Nat) (i : Nat), placeA (a ++ b) i = if i < a.sum then placeA a i else a.length + placeA b (i - a.sum)
  | [], b, i => by simp
  | x :: r, b, i => by
    rw [List.cons_append, List.sum_cons, List.length_cons]
    show (if i < x then 0 else 1 + placeA (r ++ b) (i - x)) = _
    have e : placeA (x :: r) i = if i < x then 0 else 1 + placeA r (i - x) := rfl
    rw [placeA_app r b, e]
    by_cases h1 : i < x
    · rw [if_pos h1, if_pos (by omega), if_pos h1]
    · rw [if_neg h1]
      by_cases h2 : i < x + r.sum
      · rw [if_pos h2, if_neg h1, if_pos (by omega)]
      · rw [if_neg h2, if_neg (by omega), show i - x - r.sum = i - (x + r.sum) by omega]
        omega
theorem placeA_rep (u : List Nat) : ∀ (t i : Nat), i < t * u.sum → placeA (List.replicate t u).flatten i = i / u.sum * u.length + placeA u (i % u.sum)
  | 0, i, h => by omega
  | t + 1, i, h => by
    rw [List.replicate_succ, List.flatten_cons, placeA_app]
    rw [Nat.succ_mul] at h
    by_cases c : i < u.sum
    · rw [if_pos c, Nat.div_eq_of_lt c, Nat.mod_eq_of_lt c]
      omega
    · rw [if_neg c]
      have hp : 0 < u.sum := by
        rcases Nat.eq_zero_or_pos u.sum with z | z
        · rw [z] at h; omega
        · exact z
      rw [placeA_rep u t (i - u.sum) (by omega), Nat.mod_eq_sub_mod (by omega : u.sum ≤ i), Nat.div_eq_sub_div hp (by omega : u.sum ≤ i), Nat.succ_mul]
      omega
theorem placeA_lt : ∀ (xs : List Nat) (i : Nat), i < xs.sum → placeA xs i < xs.length ∧ (xs.take (placeA xs i)).sum ≤ i ∧ i < (xs.take (placeA xs i)).sum + xs.getD (placeA xs i) 0
  | [], i, h => by simp at h
  | x :: r, i, h => by
    rw [List.sum_cons] at h
    have e : placeA (x :: r) i = if i < x then 0 else 1 + placeA r (i - x) := rfl
    rw [e]
    by_cases c : i < x
    · rw [if_pos c]
      simp
      exact c
    · rw [if_neg c]
      obtain ⟨a, b, d⟩ := placeA_lt r (i - x) (by omega)
      rw [Nat.add_comm 1, List.take_succ_cons, List.sum_cons, List.length_cons]
      refine ⟨by omega, by omega, ?_⟩
      show i < x + _ + (r.getD _ 0)
      omega
/-- the answers of a row -/
def pieceR (r : Rw) (p : Nat) : Nat × Nat := if p < r.times * r.unit.length then (p / r.unit.length * r.unit.sum + (r.unit.take (p % r.unit.length)).sum, r.unit.getD (p % r.unit.length) 0)
  else (r.times * r.unit.sum + (r.last.take (p - r.times * r.unit.length)).sum, r.last.getD (p - r.times * r.unit.length) 0)
def placeR (r : Rw) (i : Nat) : Nat := if i < r.times * r.unit.sum then i / r.unit.sum * r.unit.length + placeA r.unit (i % r.unit.sum) else r.times * r.unit.length + placeA r.last (i - r.times * r.unit.sum)
theorem piece_sizes (r : Rw) (p : Nat) : pieceR r p = ((r.sizes.take p).sum, r.sizes.getD p 0) := by
  unfold pieceR Rw.sizes
  split
  · rename_i h
    obtain ⟨a, b⟩ := take_rep r.unit r.times p h
    rw [List.take_append, show p - (List.replicate r.times r.unit).flatten.length = 0 by rw [rep_len]; omega]
    rw [List.getD_eq_getElem?_getD, List.getD_eq_getElem?_getD, List.getElem?_append_left (by rw [rep_len]; exact h), b]
    simp [a]
  · rename_i h
    rw [List.take_append, List.take_of_length_le (l := (List.replicate r.times r.unit).flatten) (by rw [rep_len]; omega), List.sum_append, rep_sum, rep_len, getD_app _ _ _ (by rw [rep_len]; omega), rep_len]
theorem place_sizes (r : Rw) (i : Nat) : placeR r i = placeA r.sizes i := by
  unfold placeR Rw.sizes
  rw [placeA_app, rep_sum, rep_len]
  split
  · rename_i h
    rw [placeA_rep _ _ _ h]
  · rfl
end CH
namespace CH
/-! ### where an item is -/
theorem sum_take_succ {xs : List Nat} {a : Nat} (h : a < xs.length) : (xs.take (a + 1)).sum = (xs.take a).sum + xs.getD a 0 := by
  rw [List.take_succ, List.sum_append, getD_eq h, List.getElem?_eq_getElem h]
  simp
theorem sum_take_mono {xs : List Nat} {a b : Nat} (h : a ≤ b) : (xs.take a).sum ≤ (xs.take b).sum := by
  have e : xs.take a = (xs.take b).take a := by rw [List.take_take, Nat.min_eq_left h]
  rw [e]
  have := congrArg List.sum (List.take_append_drop a (xs.take b))
  rw [List.sum_append] at this
  omega
theorem getD_pos {xs : List Nat} (h : Pos xs) {a : Nat} (ha : a < xs.length) : 0 < xs.getD a 0 := by
  rw [getD_eq ha]
  exact h _ (List.getElem_mem _)
theorem placeA_at : ∀ {xs : List Nat} {a i : Nat}, a < xs.length → (xs.take a).sum ≤ i → i < (xs.take a).sum + xs.getD a 0 → placeA xs i = a
  | [], _, _, h, _, _ => by simp at h
  | x :: r, 0, i, _, _, h3 => by
    have h3 : i < 0 + x := h3
    show (if i < x then 0 else 1 + placeA r (i - x)) = 0
    rw [if_pos (by omega)]
  | x :: r, a + 1, i, h1, h2, h3 => by
    rw [List.take_succ_cons, List.sum_cons] at h2 h3
    have h3 : i < x + (r.take a).sum + r.getD a 0 := h3
    have h1 : a < r.length := by simpa using h1
    show (if i < x then 0 else 1 + placeA r (i - x)) = a + 1
    rw [if_neg (by omega), placeA_at h1 (by omega) (by omega)]
    omega
/-- a piece begins with item 0 just if it is the first, and it has the last item just if it is the last -/
theorem begins {xs : List Nat} (h : Pos xs) {a : Nat} (ha : a < xs.length) : (xs.take a).sum = 0 ↔ a = 0 := by
  constructor
  · intro e
    cases a with
    | zero => rfl
    | succ a =>
      have := sum_take_succ (xs := xs) (a := a) (by omega)
      have := getD_pos h (a := a) (by omega)
      omega
  · intro e
    rw [e]
    rfl
theorem ends {xs : List Nat} (h : Pos xs) {a : Nat} (ha : a < xs.length) : (xs.take a).sum + xs.getD a 0 ≤ xs.sum ∧ ((xs.take a).sum + xs.getD a 0 = xs.sum ↔ a = xs.length - 1) := by
  have e := sum_take_succ ha
  rw [← e]
  have l : (xs.take (a + 1)).sum ≤ (xs.take xs.length).sum := sum_take_mono (by omega)
  rw [List.take_length] at l
  refine ⟨l, fun z => ?_, fun z => ?_⟩
  · rcases Nat.lt_or_ge (a + 1) xs.length with c | c
    · have e2 := sum_take_succ c
      have p := getD_pos h c
      have l2 : (xs.take (a + 1 + 1)).sum ≤ (xs.take xs.length).sum := sum_take_mono (by omega)
      rw [List.take_length] at l2
      omega
    · omega
  · rw [List.take_of_length_le (by omega)]
end CH

/-! texts of chains -/
namespace CH
open PySem L2 TL
def kdS : Kd → Str
  | .cut => "cut"
  | .fill => "fill"
  | .tail => "tail"
def nS (n : Nat) : Str := Str.ofString (toString ((n : Nat) : Int))
def kds : List Str := ["cut", "fill", "tail"]
def widths : List Str := (List.range 12).map fun i => nS (i + 1)
def kdOf (w : Str) : Option Kd := if w = "cut" then some .cut else if w = "fill" then some .fill else if w = "tail" then some .tail else none
def numOf (d : Str) : Option Nat := (List.range 12).findSome? fun i => if d = nS (i + 1) then some (i + 1) else none
def cutterOf (t : Str) : Option (Kd × Nat) := match kdOf (Txt.partition t " ").1, numOf (Txt.partition t " ").2.2 with
  | some k, some n => some (k, n)
  | _, _ => none
def parts (t : Str) : List Str := Txt.split t ", "
def goodC (t : Str) : Bool := (parts t).all (fun p => (cutterOf p).isSome) && decide ((parts t).length ≤ 6)
def cuttersOf (t : Str) : List (Kd × Nat) := (parts t).filterMap cutterOf
def cutT (c : Kd × Nat) : Str := kdS c.1 ++ (" " : Str) ++ nS c.2
def cline (cs : List (Kd × Nat)) : Str := Txt.join ", " (cs.map cutT)
theorem kdOf_some {w : Str} {k : Kd} (h : kdOf w = some k) : w = kdS k := by
  unfold kdOf at h
  by_cases c1 : w = "cut"
  · rw [if_pos c1] at h; cases h; exact c1
  rw [if_neg c1] at h
  by_cases c2 : w = "fill"
  · rw [if_pos c2] at h; cases h; exact c2
  rw [if_neg c2] at h
  by_cases c3 : w = "tail"
  · rw [if_pos c3] at h; cases h; exact c3
  rw [if_neg c3] at h
  cases h
theorem kdOf_none {w : Str} (h : kdOf w = none) : w ∉ kds := by
  unfold kdOf at h
  by_cases c1 : w = "cut"
  · rw [if_pos c1] at h; cases h
  rw [if_neg c1] at h
  by_cases c2 : w = "fill"
  · rw [if_pos c2] at h; cases h
  rw [if_neg c2] at h
  by_cases c3 : w = "tail"
  · rw [if_pos c3] at h; cases h
  intro z
  simp [kds, c1, c2, c3] at z
theorem kdOf_kdS (k : Kd) : kdOf (kdS k) = some k := by cases k <;> decide +kernel
theorem numOf_some {d : Str} {n : Nat} (h : numOf d = some n) : d = nS n ∧ 1 ≤ n ∧ n ≤ 12 := by
  obtain ⟨i, hi, e⟩ := List.exists_of_findSome?_eq_some h
  have := List.mem_range.mp hi
  split at e
  · rename_i c
    cases e
    exact ⟨c, by omega, by omega⟩
  · cases e
theorem numOf_mem (d : Str) : decide (d ∈ widths) = (numOf d).isSome := by
  cases h : numOf d with
  | none =>
    refine decide_eq_false fun z => ?_
    obtain ⟨i, hi, e⟩ := List.mem_map.mp z
    have := List.findSome?_eq_none_iff.mp h i hi
    rw [if_pos e.symm] at this
    cases this
  | some n =>
    obtain ⟨e, h1, h2⟩ := numOf_some h
    refine decide_eq_true (List.mem_map.mpr ⟨n - 1, List.mem_range.mpr (by omega), ?_⟩)
    rw [e, show n - 1 + 1 = n by omega]
/-- all cutters -/
def allC : List (Kd × Nat) := [Kd.cut, Kd.fill, Kd.tail].flatMap fun k => (List.range 12).map fun i => (k, i + 1)
def Ct (c : Kd × Nat) : Prop := 1 ≤ c.2 ∧ c.2 ≤ 12
theorem Ct.mem {c : Kd × Nat} (h : Ct c) : c ∈ allC := by
  obtain ⟨k, n⟩ := c
  refine List.mem_flatMap.mpr ⟨k, by cases k <;> simp, List.mem_map.mpr ⟨n - 1, List.mem_range.mpr ?_, ?_⟩⟩
  · have := h.2
    have := h.1
    show n - 1 < 12
    omega
  · have := h.1
    show (k, n - 1 + 1) = (k, n)
    rw [show n - 1 + 1 = n by have : 1 ≤ n := h.1; omega]
def okC (c : Kd × Nat) : Bool := decide (cutterOf (cutT c) = some c) && (decide (44 ∉ tl (cutT c)) && (decide ((cutT c).length ≤ 7) && (PyData.strOk (cutT c) && (decide ((kdS c.1 ++ (" " : Str)).length ≤ 5) && decide (Txt.split (cutT c) " " = [kdS c.1, nS c.2])))))
theorem allC_ok : ∀ c ∈ allC, okC c = true := by decide +kernel
structure CtF (c : Kd × Nat) : Prop where
  p : cutterOf (cutT c) = some c
  m : 44 ∉ tl (cutT c)
  l : (cutT c).length ≤ 7
  a : PyData.strOk (cutT c) = true
  s : Txt.split (cutT c) " " = [kdS c.1, nS c.2]
theorem Ct.f {c : Kd × Nat} (h : Ct c) : CtF c := by
  have q := allC_ok c h.mem
  unfold okC at q
  simp only [Bool.and_eq_true, decide_eq_true_eq] at q
  exact ⟨q.1, q.2.1, q.2.2.1, q.2.2.2.1, q.2.2.2.2.2⟩
theorem nS_len {n : Nat} (h : n ≤ 12) : (nS n).length ≤ 2 := by
  have : ∀ i ∈ List.range 13, (nS i).length ≤ 2 := by decide +kernel
  exact this n (List.mem_range.mpr (by omega))
theorem cutter_ct {t : Str} {c : Kd × Nat} (h : cutterOf t = some c) : Ct c := by
  unfold cutterOf at h
  split at h
  · rename_i k n h1 h2
    cases h
    exact (numOf_some h2).2
  · cases h
theorem cutters_ct {t : Str} : ∀ c ∈ cuttersOf t, Ct c := fun c h => by
  obtain ⟨p, _, e⟩ := List.mem_filterMap.mp h
  exact cutter_ct e
theorem cutters_len {t : Str} (h : goodC t = true) : (cuttersOf t).length ≤ 6 ∧ (cuttersOf t).length = (parts t).length := by
  unfold goodC at h
  rw [Bool.and_eq_true, List.all_eq_true] at h
  have e : ∀ (l : List Str), (∀ p ∈ l, (cutterOf p).isSome = true) → (l.filterMap cutterOf).length = l.length := by
    intro l
    induction l with
    | nil => intro _; rfl
    | cons p r ih =>
      intro hp
      obtain ⟨c, hc⟩ := Option.isSome_iff_exists.mp (hp p (List.mem_cons_self ..))
      rw [List.filterMap_cons, hc, List.length_cons, List.length_cons, ih fun q hq => hp q (List.mem_cons_of_mem _ hq)]
  have := e (parts t) h.1
  have h2 := of_decide_eq_true h.2
  unfold cuttersOf
  omega
theorem tlCm : tl (", " : Str) = [44, 32] := by decide +kernel
theorem parts_line {cs : List (Kd × Nat)} (ne : cs ≠ []) (h : ∀ c ∈ cs, Ct c) : parts (cline cs) = cs.map cutT :=
  split_join (s := 44) (S := [32]) tlCm (by decide +kernel) (fun e => ne (List.map_eq_nil_iff.mp e)) fun p hp => by
    obtain ⟨c, hc, rfl⟩ := List.mem_map.mp hp
    exact (h c hc).f.m
theorem line_good {cs : List (Kd × Nat)} (ne : cs ≠ []) (h : ∀ c ∈ cs, Ct c) (hl : cs.length ≤ 6) : goodC (cline cs) = true := by
  unfold goodC
  rw [parts_line ne h, Bool.and_eq_true, List.all_eq_true, List.length_map]
  refine ⟨fun p hp => ?_, decide_eq_true hl⟩
  obtain ⟨c, hc, rfl⟩ := List.mem_map.mp hp
  rw [(h c hc).f.p]
  rfl
theorem line_cutters {cs : List (Kd × Nat)} (ne : cs ≠ []) (h : ∀ c ∈ cs, Ct c) : cuttersOf (cline cs) = cs := by
  unfold cuttersOf
  rw [parts_line ne h]
  clear ne
  induction cs with
  | nil => rfl
  | cons c r ih =>
    rw [List.map_cons, List.filterMap_cons, (h c (List.mem_cons_self ..)).f.p, ih fun q hq => h q (List.mem_cons_of_mem _ hq)]
theorem joinC_len : ∀ B : List Str, (Txt.join ", " B).length ≤ (B.map (·.length)).sum + B.length * 2 := by
  intro B
  rw [len_tl, join_eq, tl_join, tlCm]
  induction B with
  | nil => simp [joinL]
  | cons w r ih =>
    cases r with
    | nil =>
      show (tl w).length ≤ _
      rw [← len_tl]
      simp
    | cons x r =>
      show (tl w ++ ([44, 32] ++ joinL [44, 32] ((x :: r).map tl))).length ≤ _
      rw [List.length_append, List.length_append, ← len_tl]
      simp only [List.map_cons, List.sum_cons, List.length_cons, List.length_nil] at ih ⊢
      omega
theorem line_sum {cs : List (Kd × Nat)} (h : ∀ c ∈ cs, Ct c) : ((cs.map cutT).map (·.length)).sum ≤ 7 * cs.length := by
  have := LM.sum_le (n := 7) (B := cs.map cutT) fun w hw => by
    obtain ⟨c, hc, rfl⟩ := List.mem_map.mp hw
    exact (h c hc).f.l
  rwa [List.length_map] at this
theorem line_len {cs : List (Kd × Nat)} (h : ∀ c ∈ cs, Ct c) : (cline cs).length ≤ 9 * cs.length := by
  have a := joinC_len (cs.map cutT)
  have b := line_sum h
  rw [List.length_map] at a
  unfold cline
  omega
theorem splitC (x : Str) : (parts x).map tl = spl [44, 32] 0 [] (tl x) := by
  have := split_spl x ", " (by rw [tlCm]; simp) (kind_ok (by decide +kernel))
  rwa [tlCm] at this
theorem parts_len (x : Str) : (parts x).length ≤ x.length + 1 := by
  have := LM.spl_len [44, 32] 0 [] (tl x)
  rw [← splitC, List.length_map, ← len_tl] at this
  exact this
theorem parts_word {x w : Str} (h : w ∈ parts x) : w.length ≤ x.length := by
  have := LM.spl_word [44, 32] 0 [] (tl x) (tl w) (by rw [← splitC]; exact List.mem_map.mpr ⟨w, h, rfl⟩)
  rw [← len_tl, ← len_tl] at this
  simpa using this
/-- plain signs -/
theorem asc_joinC {B : List Str} (h : ∀ w ∈ B, LM.Asc w) : LM.Asc (Txt.join ", " B) := by
  rw [LM.asc_iff, join_eq, tl_join, tlCm]
  intro c hc
  rcases LM.joinL_mem hc with h1 | ⟨p, hp, h1⟩
  · have : c = 44 ∨ c = 32 := by simpa using h1
    omega
  · obtain ⟨w, hw, rfl⟩ := List.mem_map.mp hp
    exact LM.asc_iff.mp (h w hw) c h1
theorem line_asc {cs : List (Kd × Nat)} (h : ∀ c ∈ cs, Ct c) : LM.Asc (cline cs) := asc_joinC fun w hw => by
  obtain ⟨c, hc, rfl⟩ := List.mem_map.mp hw
  exact (h c hc).f.a
theorem line_inj {a b : List (Kd × Nat)} (na : a ≠ []) (nb : b ≠ []) (ha : ∀ c ∈ a, Ct c) (hb : ∀ c ∈ b, Ct c) (e : cline a = cline b) : a = b := by
  rw [← line_cutters na ha, e, line_cutters nb hb]
end CH

/-! a dict of the module with text keys: what it has not -/
namespace CD
open PySem L2
theorem no_key {P : Params} {z : Str} : ∀ {l : List DictEntry} {ks : List Str}, l.map He.keyOf = He.keysIn P ks → z ∉ ks → l.find? (·.key.isStr z) = none ∧ l.any (·.refKey) = false
  | [], _, _, _ => ⟨rfl, rfl⟩
  | e :: r, [], h, _ => by cases h
  | e :: r, k :: ks, h, hz => by
    have h1 : He.keyOf e :: r.map He.keyOf = some (k, PyData.keyHash P k) :: He.keysIn P ks := h
    injection h1 with h2 h3
    obtain ⟨a, b⟩ := no_key (z := z) h3 fun q => hz (List.mem_cons_of_mem _ q)
    unfold He.keyOf at h2
    split at h2
    · rename_i x t q
      obtain ⟨h5, h6⟩ := Prod.mk.inj (Option.some.inj h2)
      have ne : x ≠ z := fun q => hz (by rw [← q, h5]; exact List.mem_cons_self ..)
      have e1 : e.key.isStr z = false := by
        rw [q, PySem.W.isStr_of]
        show (x == z) = false
        exact beq_eq_false_iff_ne.mpr ne
      have e2 : e.refKey = false := by
        unfold PySem.DictEntry.refKey
        rw [q]
      rw [List.find?_cons, e1, List.any_cons, e2]
      exact ⟨a, by rw [b]; rfl⟩
    · cases h2
theorem dic_no {K : PySem.W.Frag} {P : Params} {a : Addr} {ks : List Str} (h : He.dicW K a = some (He.keysIn P ks)) {z : Str} (hz : z ∉ ks) : PySem.W.nsIn K a z = some none := by
  unfold He.dicW at h
  unfold PySem.W.nsIn
  cases q : K.lookup a with
  | none => rw [q] at h; cases h
  | some o =>
    obtain ⟨oc, od, dt, osl⟩ := o
    rw [q] at h
    cases oc with
    | type c =>
      cases od with
      | none =>
        cases dt with
        | dict es n =>
          have h1 : (match decide (c = "dict") && (osl.isEmpty && !(a == sysModules)) with
              | true => some (es.toList.map He.keyOf)
              | false => none) = some (He.keysIn P ks) := h
          split at h1
          · obtain ⟨e1, e2⟩ := no_key (Option.some.inj h1) hz
            show (match es.toList.find? (·.key.isStr z) with
              | some e => some (some e.val)
              | none => if es.toList.any (·.refKey) then none else some none) = _
            rw [e1, e2]
            rfl
          · cases h1
        | _ => cases h
      | some _ => cases h
    | _ => cases h
end CD

/-! chains: their texts and their making -/
namespace My
open PySem L2 Cm LM CH
abbrev sCO : Stmt := top 14
abbrev sAI : Stmt := inClass (top 15) 0
structure TxA (w : World) (K : PySem.W.Frag) (mg : Str → Option Value) where
  E : TxE K mg
  len : mg "len" = none
  str : mg "str" = none
  int : mg "int" = none
  range : mg "range" = none
  tuple : mg "tuple" = none
  isi : mg "isinstance" = none
  mw : ∃ t, mg "MOST_WIDTH" = some (.int 12 t)
  mc : ∃ t, mg "MOST_CUTTERS" = some (.int 6 t)
  dC : Addr
  gD : mg "CUTTERS" = some (.ref dC)
  dw : He.dicW K dC = some (He.keysIn w.params kds)
  fk : Kd → Addr
  nk : ∀ k, PySem.W.nsIn K dC (kdS k) = some (some (.ref (fk k)))
  co : Df K mg "cutter_of" sCO ["text"]
  C : Addr
  gC : mg "Chain" = some (.ref C)
  cl : Cls K C
  nT : NoAttr K C "text"
  nC : NoAttr K C "cutters"
  fI : Addr
  fdI : FuncData
  FI : Fun K "__init__" "Chain.__init__" sAI fI fdI
  bI : Binds K fdI ["self", "text"] []
  MI : Mk K C fI
/-- what cutter_of hands back -/
def CutV (H : Hp) (v : V) : Option (Kd × Nat) → Prop
  | none => v = .non
  | some c => ∃ p, v = .ref p ∧ H p = some (.tup [.str (kdS c.1), .int c.2])
theorem CutV.mono {H H' : Hp} (f : ∀ (p : Addr) (xs : List V), H p = some (.tup xs) → H' p = some (.tup xs)) {v : V} : ∀ {o}, CutV H v o → CutV H' v o
  | none, h => h
  | some _, ⟨p, e, h⟩ => ⟨p, e, f _ _ h⟩
inductive CutVs (H : Hp) : List V → List (Option (Kd × Nat)) → Prop
  | nil : CutVs H [] []
  | cons {v : V} {o : Option (Kd × Nat)} {vs : List V} {os : List (Option (Kd × Nat))} (h : CutV H v o) (t : CutVs H vs os) : CutVs H (v :: vs) (o :: os)
theorem CutVs.mono {H H' : Hp} (f : ∀ (p : Addr) (xs : List V), H p = some (.tup xs) → H' p = some (.tup xs)) : ∀ {vs os}, CutVs H vs os → CutVs H' vs os
  | _, _, .nil => .nil
  | _, _, .cons h t => .cons (h.mono f) (t.mono f)
theorem CutVs.snoc {H : Hp} {v : V} {o : Option (Kd × Nat)} (h : CutV H v o) : ∀ {vs os}, CutVs H vs os → CutVs H (vs ++ [v]) (os ++ [o])
  | _, _, .nil => .cons h .nil
  | _, _, .cons a t => .cons a (t.snoc h)
theorem CutVs.len {H : Hp} : ∀ {vs os}, CutVs H vs os → vs.length = os.length
  | _, _, .nil => rfl
  | _, _, .cons _ t => congrArg (· + 1) t.len
/-- rows of cutters -/
inductive Cuts (H : Hp) : List V → List (Kd × Nat) → Prop
  | nil : Cuts H [] []
  | cons {p : Addr} {c : Kd × Nat} {vs : List V} {cs : List (Kd × Nat)} (h : H p = some (.tup [.str (kdS c.1), .int c.2])) (t : Cuts H vs cs) : Cuts H (.ref p :: vs) (c :: cs)
theorem Cuts.mono {H H' : Hp} (f : ∀ (p : Addr) (xs : List V), H p = some (.tup xs) → H' p = some (.tup xs)) : ∀ {vs os}, Cuts H vs os → Cuts H' vs os
  | _, _, .nil => .nil
  | _, _, .cons h t => .cons (f _ _ h) (t.mono f)
theorem Cuts.same {H H' : Hp} (s : Same H H') {vs os} (h : Cuts H vs os) : Cuts H' vs os := h.mono fun _ _ q => s _ _ q
theorem Cuts.snoc {H : Hp} {p : Addr} {c : Kd × Nat} (h : H p = some (.tup [.str (kdS c.1), .int c.2])) : ∀ {vs os}, Cuts H vs os → Cuts H (vs ++ [.ref p]) (os ++ [c])
  | _, _, .nil => .cons h .nil
  | _, _, .cons a t => .cons a (t.snoc h)
theorem Cuts.len {H : Hp} : ∀ {vs os}, Cuts H vs os → vs.length = os.length
  | _, _, .nil => rfl
  | _, _, .cons _ t => congrArg (· + 1) t.len
theorem Cuts.get {H : Hp} : ∀ {xs os} {i : Nat} {y : V}, Cuts H xs os → xs[i]? = some y → ∃ (q : Addr) (o : Kd × Nat), os[i]? = some o ∧ y = .ref q ∧ H q = some (.tup [.str (kdS o.1), .int o.2])
  | _, _, i, y, .nil, h => by simp at h
  | _, _, 0, y, .cons h _, e => ⟨_, _, rfl, (Option.some.inj e).symm, h⟩
  | _, _, i + 1, y, .cons _ t, e => t.get (i := i) e
theorem CutVs.all {H : Hp} : ∀ {vs : List V} {ps : List Str}, CutVs H vs (ps.map cutterOf) → (ps.all fun p => (cutterOf p).isSome) = true → Cuts H vs (ps.filterMap cutterOf)
  | [], [], _, _ => .nil
  | v :: vs, p :: ps, h, q => by
    cases h with
    | cons h1 h2 =>
      rw [List.all_cons, Bool.and_eq_true] at q
      obtain ⟨c, hc⟩ := Option.isSome_iff_exists.mp q.1
      rw [hc] at h1
      obtain ⟨a, rfl, ha⟩ := h1
      rw [List.filterMap_cons, hc]
      exact .cons ha (h2.all q.2)
/-- as data -/
def dOf : Option (Kd × Nat) → PyData
  | none => .none
  | some c => .tuple [.str (kdS c.1), .int c.2]
theorem CutVs.dp {K : PySem.W.Frag} {H : Hp} : ∀ {vs os}, CutVs H vs os → DpAll K H vs (os.map dOf)
  | _, _, .nil => .nil
  | _, _, .cons (o := none) h t => by
    cases (show _ = V.non from h)
    exact .cons .non t.dp
  | _, _, .cons (o := some c) h t => by
    obtain ⟨p, rfl, hp⟩ := h
    exact .cons (.tup (SqT.of hp) (.cons (.str _) (.cons (.int _) .nil))) t.dp
theorem kd_ok (k : Kd) : PyData.strOk (kdS k) = true := by cases k <;> decide +kernel
theorem dOf_lay : ∀ os : List (Option (Kd × Nat)), PyData.canLayAll0 (os.map dOf) = true ∧ PyData.depthAll (os.map dOf) ≤ 1
  | [] => ⟨by simp [PyData.canLayAll0], by simp [PyData.depthAll]⟩
  | none :: r => by
    obtain ⟨a, b⟩ := dOf_lay r
    rw [List.map_cons]
    refine ⟨?_, ?_⟩
    · rw [PyData.canLayAll0, a]; simp [dOf, PyData.canLay0]
    · rw [PyData.depthAll]; simp [dOf, PyData.depth]; exact b
  | some c :: r => by
    obtain ⟨a, b⟩ := dOf_lay r
    rw [List.map_cons]
    refine ⟨?_, ?_⟩
    · rw [PyData.canLayAll0, a]; simp [dOf, PyData.canLay0, PyData.canLayAll0, kd_ok]
    · rw [PyData.depthAll]; simp [dOf, PyData.depth, PyData.depthAll]; omega
theorem dOf_shaped (os : List (Option (Kd × Nat))) : SeqAt.shaped (.list (os.map dOf)) = true := by
  obtain ⟨a, b⟩ := dOf_lay os
  unfold SeqAt.shaped
  rw [Bool.and_eq_true]
  refine ⟨by rw [PyData.canLay0]; exact a, decide_eq_true ?_⟩
  rw [PyData.depth]
  omega
theorem dOf_any (os : List (Option (Kd × Nat))) : ((os.map dOf).any fun z => PyData.eqv z .none) = os.any (·.isNone) := by
  rw [List.any_map]
  congr 1
  funext o
  cases o with
  | none => simp [dOf, PyData.eqv]
  | some c => simp [dOf, PyData.eqv]
section
variable {P : Program} {w : World} {K : PySem.W.Frag} {mg : Str → Option Value} {base : Heap}
theorem room65 {k : Nat} {A : Around} (r : Room k A) : A.units + 65 < cLine := by have := r.un; omega
theorem kd_in (T : TxA w K mg) (z : Str) : ∃ r, PySem.W.nsIn K T.dC z = some r ∧ r.isSome = (kdOf z).isSome := by
  cases h : kdOf z with
  | none => exact ⟨none, CD.dic_no T.dw (kdOf_none h), rfl⟩
  | some k => exact ⟨_, by rw [kdOf_some h]; exact T.nk k, rfl⟩
/-! ### cutter_of -/
def spCO : Sp := fun vs H Q _ => ∃ t : Str, vs = [.str t] ∧ Bd t ∧ ∀ (H' : Hp) (v : V), Same H H' → CutV H' v (cutterOf t) → Q v H'
theorem scCO : FnScope ["text", "word", "space", "digits", "widths", "width"] ["text"] (defScope sCO) := ⟨rfl, rfl, rfl, by decide +kernel, rfl, by decide +kernel, by decide +kernel⟩
def teW : TE := tCB (fun xs H Q => ∃ i, xs = [.int i] ∧ i.natAbs.log2 < 1920 ∧ Q (.str (toString i)) H) (tCons (tVar 5) tNil)
theorem int_nS {n : Nat} (h1 : 1 ≤ n) (h2 : n ≤ 12) : PySem.intText? (nS n) = some (n : Int) := by
  have : ∀ i ∈ List.range 13, PySem.intText? (nS i) = some (i : Int) := by decide +kernel
  exact this n (List.mem_range.mpr (by omega))
theorem ok_co (T : TxA w K mg) : FnOk P w K mg base CX0 1 T.co.f T.co.fd ["text"] spCO := by
  obtain ⟨tw, mw⟩ := T.mw
  obtain ⟨es, n, D⟩ := He.dicW_ok T.dw
  refine T.co.F.ok scCO (fun vs H Q E h => ?_) (fun cdv A outer s H vs Q E hr h => ?_)
  · obtain ⟨t, rfl, _⟩ := h
    rfl
  · obtain ⟨t, rfl, bd, k⟩ := h
    refine ⟨_, pss_cons (ps_asg (pe_partition (pv 0) pe_str) (pg_tup rfl (pgs_cons (pg_name (i := 1) scCO.nd rfl (.inl rfl)) (pgs_cons (pg_name (i := 2) scCO.nd rfl (.inl rfl)) (pgs_cons (pg_name (i := 3) scCO.nd rfl (.inl rfl)) pgs_nil)))))
      (pss_cons (ps_setLc (i := 4) (own := [("width", 5)]) (g := gName 5) (tt := tYes) (te := teW) rfl scCO.nd rfl rfl (sw_true rfl rfl rfl (by decide +kernel)) (pi_range2 rfl T.range (pa_cons pe_int (pa_cons (pe_op op_add (pe_glob (v := .int 12) rfl mw ⟨_, rfl⟩) pe_int) pa_nil))) (blkOk_by (own := [("width", 5)]) (N := ["text", "word", "space", "digits", "widths", "width"]) (sc := defScope sCO) (by decide +kernel)) (fun _ _ _ _ _ => pg_name (i := 5) scCO.nd rfl (Or.inl rfl))
          (fun _ _ _ _ _ => pts_nil) (fun _ _ _ _ _ => pe_callTy call_str_int (by rfl) T.str (by decide +kernel) (pa_cons (pv 5) pa_nil)))
      (pss_one (ps_ret (pe_ifExp (PW.pt (pw_and (pt_cmpR (op_in_kd D) (pv 1) (pe_glob (v := .ref T.dC) rfl T.gD rfl) (by rfl)) (pw_and1 (pt_cmpR op_in_seq (pv 3) (pv 4) (by rfl)))))
          (pe_tup (pa_cons (pv 1) (pa_cons (pe_callTy call_int_str (by rfl) T.int (by decide +kernel) (pa_cons (pv 3) pa_nil)) pa_nil))) pe_non)))), ?_⟩
    refine ⟨_, rfl, ⟨_, rfl⟩, t, " ", rfl, rfl, by decide +kernel, bd.line, fun q nq => ?_⟩
    refine ⟨q, _, rfl, SqT.of upd_same, rfl, _, _, rfl, _, _, rfl, _, _, rfl, rfl, ?_⟩
    have s1 : Same H (upd H q (.tup [.str (Txt.partition t " ").1, .str (Txt.partition t " ").2.1, .str (Txt.partition t " ").2.2])) := same_new nq
    generalize upd H q (.tup [.str (Txt.partition t " ").1, .str (Txt.partition t " ").2.1, .str (Txt.partition t " ").2.2]) = H1 at s1 ⊢
    refine ⟨_, _, rfl, rfl, 1, 13, rfl, by decide, fun Dd nD => lc_range (lo := 1) (n := 12) (fun i H' => Same H1 H' ∧ H' Dd = some (.lst (svs ((List.range i).map fun i => nS (i + 1))))) ⟨same_new nD, upd_same⟩ ?_ ?_⟩
    · rintro i H' hi ⟨s', hD⟩
      refine ⟨rfl, _, rfl, _, rfl, ?_, _, hD, ?_, ?_⟩
      · have : ((1 : Int) + (i : Int)).natAbs = 1 + i := by omega
        rw [this]
        exact Nat.lt_of_le_of_lt (Nat.log2_le_self _) (by omega)
      · rw [show (svs ((List.range i).map fun i => nS (i + 1))).length = i by simp [svs]]
        exact szM (by omega)
      · refine ⟨fun b o q => ?_, ?_⟩
        · rw [upd_ne (ne_of_none q nD)]
          exact s' _ _ q
        · rw [upd_same, List.range_succ, List.map_append]
          have e : (1 : Int) + (i : Int) = ((i + 1 : Nat) : Int) := by omega
          rw [e]
          simp [svs, nS]
    · rintro H2 ⟨s2, hD⟩
      have hD : H2 Dd = some (.lst (svs widths)) := hD
      obtain ⟨r, hr1, hr2⟩ := kd_in T (Txt.partition t " ").1
      refine ⟨_, rfl, _, _, rfl, rfl, hr1, _, rfl, ?_⟩
      rw [hr2]
      have k := k
      unfold cutterOf at k
      cases h1 : kdOf (Txt.partition t " ").1 with
      | none =>
        rw [h1] at k
        refine iteF (iteF ?_)
        exact k H2 .non (Same.trans s1 s2) rfl
      | some kk =>
        rw [h1] at k
        refine iteT ?_
        refine ⟨_, rfl, _, rfl, Dd, _, rfl, .inl (SqL.of hD), rfl, svs_flat _, _, rfl, ?_⟩
        show if (inV _ (svs widths)) = true then _ else _
        rw [inV_svs, numOf_mem]
        cases h2 : numOf (Txt.partition t " ").2.2 with
        | none =>
          rw [h2] at k
          exact iteF (k H2 .non (Same.trans s1 s2) rfl)
        | some m =>
          rw [h2] at k
          obtain ⟨e, m1, m2⟩ := numOf_some h2
          have e0 := kdOf_some h1
          refine iteT ⟨_, rfl, _, rfl, _, (m : Int), rfl, by rw [e]; exact int_nS m1 m2, by rw [e]; exact Nat.le_trans (nS_len m2) (by decide), (by show 2 ≤ sizeLine; decide), fun p np => ?_⟩
          exact k _ (.ref p) (Same.trans (Same.trans s1 s2) (same_new np)) ⟨p, rfl, by rw [upd_same, e0]⟩
/-! ### chains as objects -/
def cf (t : Str) (p : Addr) : List (Str × V) := [("text", .str t), ("cutters", .ref p)]
theorem cf_text (t : Str) (p : Addr) : (cf t p).lookup ("text" : Str) = some (.str t) := by kernel_rfl
theorem cf_cut (t : Str) (p : Addr) : (cf t p).lookup ("cutters" : Str) = some (.ref p) := by kernel_rfl
theorem cf_no (t : Str) (p : Addr) {m : Str} (h1 : ¬ m = "text") (h2 : ¬ m = "cutters") : (cf t p).lookup m = none := by
  unfold cf
  rw [List.lookup_cons, beq_eq_false_iff_ne.mpr h1, List.lookup_cons, beq_eq_false_iff_ne.mpr h2]
  rfl
theorem cf_mk (t : Str) (p : Addr) : putF "cutters" (.ref p) (putF "text" (.str t) []) = cf t p := by kernel_rfl
/-- a chain of this text stands at o -/
def ChainAt (C : Addr) (H : Hp) (o : Addr) (t : Str) : Prop := ∃ dx p vs, H o = some (.ins C dx (cf t p)) ∧ H p = some (.tup vs) ∧ Cuts H vs (cuttersOf t)
theorem ChainAt.same {C : Addr} {H H' : Hp} {o : Addr} {t : Str} (s : Same H H') (h : ChainAt C H o t) : ChainAt C H' o t := let ⟨dx, p, vs, a, b, c⟩ := h; ⟨dx, p, vs, s _ _ a, s _ _ b, c.same s⟩
theorem ChainAt.off {C j : Addr} {H H' : Hp} {o : Addr} {t : Str} (s : Off j H H') (hj : Jar H j) (h : ChainAt C H o t) : ChainAt C H' o t := by
  obtain ⟨x, y, z, hj⟩ := hj
  have f : ∀ (p : Addr) (xs : List V), H p = some (.tup xs) → H' p = some (.tup xs) := fun p xs e => s _ _ (ne_of e hj (by intro z; cases z)) e
  obtain ⟨dx, p, vs, a, b, c⟩ := h
  exact ⟨dx, p, vs, s _ _ (ne_of a hj (by intro z; cases z)) a, f _ _ b, c.mono f⟩
def goodCV : V → Bool
  | .str t => goodC t
  | _ => false
def BdS : V → Prop
  | .str t => Bd t
  | _ => True
def spAI (K : PySem.W.Frag) (C CE : Addr) : Sp := fun vs H Q E => ∃ (x dx : Addr) (v : V), vs = [.ref x, v] ∧ H x = some (.ins C dx []) ∧ Typed K H v ∧ BdS v ∧
  (∀ t, v = .str t → goodC t = true → ∀ H' : Hp, Off x H H' → ChainAt C H' x t → Q .non H') ∧
  (goodCV v = false → ∀ (H' : Hp) (d : Addr), Same H H' → H' d = none → E (.ref CE) (some d) (upd H' d (.xd [("value", v)])))
theorem scAI : FnScope ["self", "text", "cutters", "part"] ["self", "text"] (defScope sAI) := ⟨rfl, rfl, rfl, by decide +kernel, rfl, by decide +kernel, by decide +kernel⟩
theorem any_none (ps : List Str) : (ps.map cutterOf).any (·.isNone) = !(ps.all fun p => (cutterOf p).isSome) := by
  induction ps with
  | nil => rfl
  | cons p r ih =>
    rw [List.map_cons, List.any_cons, List.all_cons, ih]
    cases cutterOf p <;> rfl
theorem ok_ai (T : TxA w K mg) : FnOk P w K mg base (L2.CX P w) 3 T.fI T.fdI ["self", "text"] (spAI K T.C T.E.C) := by
  obtain ⟨tc, mc⟩ := T.mc
  have GC : FnOk P w K mg base CX0 1 T.co.f T.co.fd ["text"] spCO := ok_co T
  have GE : FnOk P w K mg base CX0 1 T.E.f T.E.fd ["self", "value"] (spEI T.E.C) := ok_ei T.E
  refine T.FI.okX scAI (fun vs H Q E h => ?_) (fun cdv A outer s H vs Q E hr h => ?_)
  · obtain ⟨x, dx, v, rfl, _⟩ := h
    rfl
  · obtain ⟨x, dx, v, rfl, hx, ⟨t, ty, kt⟩, bd, kg, kb⟩ := h
    have hr1 : Room 1 _ := hr.mono (by decide)
    refine ⟨_, pss_cons (ps_if (pt_not (pt_val (pe_callB call_isi (by rfl) T.isi (by decide +kernel) (pa_cons (pv 1) (pa_cons (pe_bltn (v := .ty "str") (by rfl) T.str (by decide +kernel) rfl) pa_nil))))) (pss_one (ps_raise rfl (takes_of rfl rfl rfl rfl) (pmk_oex T.E.o T.E.i T.E.t GE hr T.E.b .nil pass0 rfl T.E.g (pa_cons (pv 1) pa_nil)))) pss_nil)
      (pss_cons (ps_setLc (i := 2) (own := [("part", 3)]) (g := gName 3) (tt := tYes) (te := tCall spCO [] E0 (tCons (tVar 3) tNil)) rfl scAI.nd rfl rfl (sw_true rfl rfl rfl (by decide +kernel)) (pi_list (pe_split (pv 1) pe_str)) (blkOk_by (own := [("part", 3)]) (N := ["self", "text", "cutters", "part"]) (sc := defScope sAI) (by decide +kernel)) (fun _ _ _ _ _ => pg_name (i := 3) scAI.nd rfl (Or.inl rfl))
          (fun _ _ _ _ _ => pts_nil) (fun _ _ _ _ _ => by exact pe_call GC hr1 rfl T.co.g T.co.k T.co.b .nil pass0 (pa_cons (pv 3) pa_nil)))
      (pss_cons (ps_if (PW.pt (pw_or (pt_cmpR (op_inD (room65 hr)) pe_non (pv 2) (by rfl)) (pw_or1 (pt_cmpR op_gt (pe_callB call_len_seq (by rfl) T.len PySem.boot_len (pa_cons (pv 2) pa_nil)) (pe_glob (v := .int 6) rfl mc ⟨_, rfl⟩) (nomark _)))))
          (pss_one (ps_raise rfl (takes_of rfl rfl rfl rfl) (pmk_oex T.E.o T.E.i T.E.t GE hr T.E.b .nil pass0 rfl T.E.g (pa_cons (pv 1) pa_nil)))) pss_nil)
      (pss_cons (ps_fld (pv 0) (pv 1) rfl)
      (pss_one (ps_fld (pv 0) (pe_callTy call_tuple_of (by rfl) T.tuple (by decide +kernel) (pa_cons (pv 2) pa_nil)) rfl))))), ?_⟩
    refine ⟨_, rfl, _, _, _, _, isS v, rfl, .ty "str", ty, kt, _, rfl, ?_⟩
    cases hs : isS v with
    | false =>
      refine iteT ?_
      have gv : goodCV v = false := by
        cases v <;> first | rfl | cases hs
      exact mk_err (x := v) ⟨v, rfl, rfl, rfl⟩ (fun {R R'} ⟨v, e1, q⟩ f => ⟨v, e1, f _ _ q⟩) (kb gv H · (Same.refl _))
    | true =>
      obtain ⟨t, rfl⟩ : ∃ t, v = .str t := by
        cases v <;> first | exact ⟨_, rfl⟩ | cases hs
      have bd : Bd t := bd
      have kg := kg t rfl
      refine iteF ?_
      refine ⟨_, rfl, ⟨_, rfl⟩, t, ", ", rfl, rfl, by decide +kernel, bd.line2, fun l nl => ?_⟩
      have s1 : Same H (upd H l (.lst ((Txt.split t ", ").map V.str))) := same_new nl
      have hl1 : (upd H l (.lst ((Txt.split t ", ").map V.str))) l = some (.lst (svs (parts t))) := upd_same
      generalize upd H l (.lst ((Txt.split t ", ").map V.str)) = H1 at s1 hl1 ⊢
      refine ⟨l, rfl, ⟨_, SqL.of hl1⟩, fun Dd nD => lc_list (K := K) (a := l) (xs := svs (parts t)) (fun i H' => Same H1 H' ∧ ∃ acc, H' Dd = some (.lst acc) ∧ CutVs H' acc (((parts t).take i).map cutterOf)) ⟨same_new nD, [], upd_same, .nil⟩ (fun i H' _ ⟨s', _⟩ => SqL.of (s' _ _ hl1)) ?_ ?_⟩
      · rintro i y H' hy ⟨s', acc, hD, hP⟩
        obtain ⟨z, hz, rfl⟩ := svs_get hy
        refine ⟨rfl, _, rfl, z, rfl, Nat.le_trans (parts_word (List.mem_of_getElem? hz)) bd, fun H2 v s2 hv => ?_⟩
        have hD2 := s2 _ _ hD
        have st := tup_stays (o' := .lst (acc ++ [v])) hD2 (by intro xs z; cases z)
        have la := hP.len
        rw [List.length_map, List.length_take] at la
        have lp := parts_len t
        unfold Bd at bd
        refine ⟨acc, hD2, szM (by omega), fun b o q => ?_, _, upd_same, ?_⟩
        · rw [upd_ne (ne_of_none q nD)]
          exact s2 _ _ (s' _ _ q)
        · rw [take_snoc hz, List.map_append]
          exact CutVs.snoc (hv.mono st) ((hP.mono fun _ _ q => s2 _ _ q).mono st)
      · rintro H2 ⟨s2, acc, hD, hP⟩
        have e : (svs (parts t)).length = (parts t).length := List.length_map ..
        rw [e, List.take_length] at hP
        have s02 := Same.trans s1 s2
        have la := hP.len
        rw [List.length_map] at la
        refine ⟨_, rfl, .none, (((parts t).map cutterOf).map dOf), .non, .lst (SqL.of hD) hP.dp, by decide +kernel, dOf_shaped _, _, rfl, ?_⟩
        rw [dOf_any, any_none]
        have gt : goodCV (.str t) = goodC t := rfl
        have gt2 : goodC t = ((parts t).all (fun p => (cutterOf p).isSome) && decide ((parts t).length ≤ 6)) := rfl
        cases h1 : (parts t).all (fun p => (cutterOf p).isSome) with
        | false =>
          rw [gt, gt2, h1] at kb
          refine iteT (iteT ?_)
          exact mk_err (x := .str t) ⟨.str t, rfl, rfl, rfl⟩ (fun {R R'} ⟨v, e1, q⟩ f => ⟨v, e1, f _ _ q⟩) (kb rfl H2 · s02)
        | true =>
          refine iteF ?_
          refine ⟨_, rfl, Dd, _, rfl, .inl (SqL.of hD), _, _, rfl, rfl, _, rfl, ?_⟩
          rw [la]
          by_cases h2 : (parts t).length ≤ 6
          · rw [decide_eq_false (show ¬ ((6 : Int) < ((parts t).length : Int)) by omega)]
            have kg := kg (by rw [gt2, h1, decide_eq_true h2]; rfl)
            refine iteF ?_
            have hx2 := s02 _ _ hx
            refine ⟨_, rfl, _, rfl, x, T.C, dx, _, rfl, hx2, T.cl, T.nT, (by show 0 < 1000; decide), ?_⟩
            have xD : Dd ≠ x := fun q => by rw [q, hx2] at hD; cases hD
            refine ⟨_, rfl, Dd, acc, rfl, .inl ⟨SqL.of (by rw [upd_ne xD]; exact hD), fun q nq => ?_⟩⟩
            have qx : q ≠ x := fun z => by rw [z, upd_same] at nq; cases nq
            refine ⟨_, rfl, x, T.C, dx, _, rfl, (by rw [upd_ne qx.symm]; exact upd_same), T.cl, T.nC, Nat.lt_of_le_of_lt (putF_len _ _ _) (by decide), ?_⟩
            rw [cf_mk]
            have st1 := tup_stays (o' := .ins T.C dx (putF "text" (.str t) [])) hx2 (by intro xs z; cases z)
            have st2 : ∀ (p : Addr) (xs : List V), H2 p = some (.tup xs) → (upd (upd (upd H2 x (.ins T.C dx (putF "text" (.str t) []))) q (.tup acc)) x (.ins T.C dx (cf t q))) p = some (.tup xs) := fun p xs z =>
              tup_stays (o := .ins T.C dx (putF "text" (.str t) [])) (by rw [upd_ne qx.symm]; exact upd_same) (by intro xs z; cases z) _ _ (same_new nq _ _ (st1 _ _ z))
            have o2 : Off x H H2 := Same.off s02
            refine kg _ (Off.put (Off.trans (o2.put) (Same.off (same_new nq)))) ⟨dx, q, acc, upd_same, by rw [upd_ne qx]; exact upd_same, (hP.all h1).mono st2⟩
          · rw [decide_eq_true (show ((6 : Int) < ((parts t).length : Int)) by omega)]
            rw [gt, gt2, h1, decide_eq_false h2] at kb
            refine iteT ?_
            exact mk_err (x := .str t) ⟨.str t, rfl, rfl, rfl⟩ (fun {R R'} ⟨v, e1, q⟩ f => ⟨v, e1, f _ _ q⟩) (kb rfl H2 · s02)
end
end My

/-! instances of own classes: ==, != by an own __eq__; str, repr by own defs; bool -/
namespace Own
open PySem PySem.Spec PyProof.Rows L2
section
variable {M : Model} {prog : Program} {w : World} {A : Around} {E : Value → Shared → Prop} {s : Shared} {K : PySem.W.Frag} {x C f : Addr} {ox : Obj} {od : Option Obj} {b tb : Value}
theorem bound_ne {args : List Value} {Q : Option Value → Shared → Prop} (X : K.In s.heap) (I : PySem.W.InstAt s.heap x ox C od) (hn : PySem.W.findIn K (.ref C) "__ne__" = some (some (.builtin "object.__ne__")))
    (h : wpAny M A (call (.builtin "object.__ne__") (.ref x :: args)) (fun v => Q (some v)) E s) : wpAny M A (callSpecialIfBound? (.ref x) "__ne__" args) Q E s := by
  simp only [callSpecialIfBound?, bindSpecialIfBound?]
  refine wpAny_holding (wpAny_bind (wpAny_bind (wpAny_bind (I.type.here ((PySem.W.looks_findIn X hn).here (wpAny_bind (wpAny_askSetting (wpAny_ite ?_))))))))
  have last : wpAny M A (call (.builtin "object.__ne__") ([.ref x] ++ args) >>= fun v => pure (some v)) Q E s := wpAny_bind (wpAny_mono h (fun _ _ z => wpAny_pure z) fun _ _ z => z)
  split
  next => exact wpAny_bind (wpAny_of_eq (F.cmp_object.ne.bind _) (wpAny_pure (by exact last)))
  next => exact wpAny_tryCatch (wpAny_bind (wpAny_of_eq (F.cmp_object.ne.bind _) (wpAny_pure (by exact last))))
/-- object.__ne__ asks the own __eq__ and turns the answer round -/
theorem ne_body {Q : Fin → Shared → Prop} (hu : A.units < cLine) (X : K.In s.heap) (I : PySem.W.InstAt s.heap x ox C od) (hs : PySem.W.findIn K (.ref C) "__eq__" = some (some (.ref f))) (hf : PySem.W.isFn K (.ref f) = true)
    (h : wpAny (model prog w) A (call (.ref f) [.ref x, b]) (fun v s2 => ∃ z, v = .bool z ∧ Q (.done (.ret (.bool (!z)))) s2) E s) : wpAny (model prog w) A (Builtin.«object.__ne__» ⟨[.ref x, b], []⟩) Q E s := by
  unfold Builtin.«object.__ne__»
  refine wpAny_bind (wpAny_of_eq (a := ((Value.ref x : Value), [b])) (by first | rfl | (simp only [slotArgs]; rfl)) ?_)
  refine wpAny_bind (wpAny_cRoomFor hu ?_)
  refine wpAny_bind (m := callSpecialIfBound? (.ref x) (Str.ofString "__eq__") [b]) (PySem.W.ifBound_K X I hs hf (wpAny_mono h (fun r s2 hr => ?_) fun _ _ z => z))
  obtain ⟨z, rfl, hq⟩ := hr
  exact wpAny_bind (m := truthy (.bool z)) (wpAny_truthy_bool (wpAny_pure hq))
theorem ne_rich {Q : Value → Shared → Prop} (hu : A.units + 1 < cLine) (X : K.In s.heap) (I : PySem.W.InstAt s.heap x ox C od) (hm : PySem.W.mroIn K C (.type "object") = some true) (hn : PySem.W.findIn K (.ref C) "__ne__" = some (some (.builtin "object.__ne__")))
    (hs : PySem.W.findIn K (.ref C) "__eq__" = some (some (.ref f))) (hf : PySem.W.isFn K (.ref f) = true) (hb : PySem.W.Looks (model prog w) s.heap (typeOf b) tb) (nf : PySem.W.notFirst K C tb = true)
    (h : wpAny (model prog w) A.in1 (call (.ref f) [.ref x, b]) (fun v s2 => ∃ z, v = .bool z ∧ Q (.bool (!z)) s2) E s) : wpAny (model prog w) A (richCompare .NotEq (.ref x) b) Q E s := by
  have go : wpAny (model prog w) A (tryCompare (.ref x) "__ne__" b) (fun r s2 => ∃ v, r = some v ∧ Q v s2) E s := by
    unfold tryCompare
    refine wpAny_bind (bound_ne X I hn (wpAny_call (codeAny_call_builtin F.cmp_object.ne.plain F.cmpEntry_ne (PySem.W.check_slot F.cmpKind_ne F.cmpSplit_ne (I.type.andThen (PySem.W.looks_mroIn X hm)) (F.cmpArgs_ne _ _) ?_))))
    refine ne_body (by show A.units + 1 < cLine; exact hu) X I hs hf (wpAny_mono h (fun v s2 hv => ?_) fun _ _ z => z)
    obtain ⟨z, rfl, hq⟩ := hv
    exact ⟨z, rfl, wpAny_pure ⟨_, rfl, hq⟩⟩
  unfold richCompare
  simp only [oneThing_ref]
  refine wpAny_holding (wpAny_bind (wpAny_cRoomFor (by omega) (wpAny_bind (I.type.here (wpAny_bind (hb.here ?_))))))
  rw [cmpInfo_NotEq]
  dsimp only
  split
  next q =>
    have e : PySem.W.subIn K tb (.ref C) = some false := (Bool.or_eq_true_iff.mp nf).elim (fun z => by rw [beq_iff_eq.mp z] at q; simp at q) fun z => beq_iff_eq.mp z
    refine wpAny_bind ((PySem.W.looks_subIn X e).here ?_)
    simp only [Bool.false_eq_true, if_false]
    exact wpAny_bind (wpAny_mono go (fun r s2 ⟨v, e1, hq⟩ => by subst e1; exact wpAny_pure hq) fun _ _ z => z)
  next =>
    refine wpAny_bind (wpAny_pure ?_)
    simp only [Bool.false_eq_true, if_false]
    exact wpAny_bind (wpAny_mono go (fun r s2 ⟨v, e1, hq⟩ => by subst e1; exact wpAny_pure hq) fun _ _ z => z)
end
/-- the class at C has its own __eq__ at g, and no more of the kind -/
structure EqC (K : PySem.W.Frag) (C g : Addr) : Prop where
  eq : PySem.W.findIn K (.ref C) "__eq__" = some (some (.ref g))
  ne : PySem.W.findIn K (.ref C) "__ne__" = some (some (.builtin "object.__ne__"))
  fn : PySem.W.isFn K (.ref g) = true
  ob : PySem.W.mroIn K C (.type "object") = some true
section
variable {X : Cx} {C g : Addr} {n : Nat} {sp : Sp}
theorem inst_of {pins : List (Addr × Obj)} {σ : L2.St} {H : Hp} {s : Shared} {a dx : Addr} {fs : List (Str × V)} (I : Inv X pins σ H s) (e : H a = some (.ins C dx fs)) : ∃ (ox : Obj) (od : Option Obj), PySem.W.InstAt s.heap a ox C od := by
  obtain ⟨mA, O, _⟩ := ins_get I.hok e
  obtain ⟨od, J, _⟩ := O.look
  exact ⟨_, _, J⟩
/-- x == y: x an instance of C, y of a class that is not below C -/
def rEqO (K : PySem.W.Frag) (C : Addr) (sp : Sp) : R2 := fun x y H Q => ∃ (a dx : Addr) (fs : List (Str × V)) (t : Value), x = .ref a ∧ H a = some (.ins C dx fs) ∧ TyX K H y t ∧ PySem.W.notFirst K C t = true ∧ sp [x, y] H Q fun _ _ _ => False
def rNeO (K : PySem.W.Frag) (C : Addr) (sp : Sp) : R2 := fun x y H Q => ∃ (a dx : Addr) (fs : List (Str × V)) (t : Value), x = .ref a ∧ H a = some (.ins C dx fs) ∧ TyX K H y t ∧ PySem.W.notFirst K C t = true ∧ sp [x, y] H (fun v H2 => ∃ b, v = .bl b ∧ Q (.bl (!b)) H2) fun _ _ _ => False
theorem op_eqO (c : EqC X.K C g) (F : FnR X.prog X.w X.K X.mg X.base CX0 n g sp) (hr : Room n X.A) : OpR X (compareOp .Eq) (rEqO X.K C sp) := by
  intro pins s σ H x y v u Q I rx ry h
  obtain ⟨a, dx, fs, t, rfl, ha, ty, nf, q⟩ := h
  cases (show v = Value.ref a from rx)
  obtain ⟨ox, od, J⟩ := inst_of I ha
  obtain ⟨m, fr⟩ := I.fr
  obtain ⟨PP, Z, pz, _⟩ := kit_of I ry ty
  show wpAny (model X.prog X.w) X.A (richCompare .Eq (.ref a) u) _ _ s
  refine PySem.W.cmp_K (op := .Eq) hr.units0 fr I.ok.mod.kin J (Z.ty _ _ I.kIn pz) nf c.eq c.fn ?_
  refine wpAny_mono (wpAny_call (run_fnR (us := [.ref a, u]) (vs := [.ref a, y]) F hr pass0 I (.cons rfl (.cons ry .nil)) q)) (fun z s2 hz => ?_) fun _ _ e => e
  obtain ⟨z2, H2, I2, rz, qz⟩ := hz
  exact SlX.cmpback rz ⟨z2, H2, I2, rz, qz⟩
theorem op_neO (c : EqC X.K C g) (F : FnR X.prog X.w X.K X.mg X.base CX0 n g sp) (hr : Room (n + 1) X.A) : OpR X (compareOp .NotEq) (rNeO X.K C sp) := by
  intro pins s σ H x y v u Q I rx ry h
  obtain ⟨a, dx, fs, t, rfl, ha, ty, nf, q⟩ := h
  cases (show v = Value.ref a from rx)
  obtain ⟨ox, od, J⟩ := inst_of I ha
  obtain ⟨PP, Z, pz, _⟩ := kit_of I ry ty
  show wpAny (model X.prog X.w) X.A (richCompare .NotEq (.ref a) u) _ _ s
  refine ne_rich (by have := hr.un; omega) I.kIn J c.ob c.ne c.eq c.fn (Z.ty _ _ I.kIn pz) nf ?_
  refine wpAny_mono (wpAny_call (SlX.run_at (us := [.ref a, u]) (ws := [.ref a, y]) F hr.in1 I.env0.in1 pass0 I (.cons rfl (.cons ry .nil)) q)) (fun z s2 hz => ?_) fun _ _ e => e
  obtain ⟨z2, H2, I2, rz, bb, rfl, qz⟩ := hz
  cases (show z = Value.bool bb from rz)
  exact ⟨bb, rfl, .bl (!bb), H2, I2, rfl, qz⟩
/-- str(x), repr(x): the own def's text -/
def rTxtO (C : Addr) (sp : Sp) : List V → Hp → VK → Prop := fun xs H Q => ∃ (a dx : Addr) (fs : List (Str × V)), xs = [.ref a] ∧ H a = some (.ins C dx fs) ∧ sp [.ref a] H (fun v H2 => ∃ z, v = .str z ∧ Q (.str z) H2) fun _ _ _ => False
theorem call_strO (hs : PySem.W.findIn X.K (.ref C) "__str__" = some (some (.ref g))) (hf : PySem.W.isFn X.K (.ref g) = true) (F : FnR X.prog X.w X.K X.mg X.base CX0 n g sp) (hr : Room (n + 2) X.A) : CallR X (.type "str") (rTxtO C sp) := by
  intro pins s σ H xs us Q I r h
  obtain ⟨a, dx, fs, rfl, ha, q⟩ := h
  obtain ⟨u, rfl, ru⟩ := vals1 r
  cases (show u = Value.ref a from ru)
  obtain ⟨ox, od, J⟩ := inst_of I ha
  have hr1 : Room (n + 1) X.A.in1 := hr.in1
  refine PySem.W.kso_call (by have := hr.un; show X.A.units + 1 + 1 < cLine; omega) I.kIn J hs hf ?_
  refine wpAny_mono (wpAny_call (SlX.run_at (us := [.ref a]) (ws := [.ref a]) F hr1.in1 I.env0.in1.in1 pass0 I (.cons rfl .nil) q)) (fun z s2 hz => ?_) fun _ _ e => e
  obtain ⟨z2, H2, I2, rz, t, rfl, qz⟩ := hz
  obtain ⟨tk, rfl⟩ := (show ∃ tk, z = Value.str t tk from rz)
  exact ⟨.str t, H2, I2, ⟨_, rfl⟩, qz⟩
theorem call_reprO (hs : PySem.W.findIn X.K (.ref C) "__repr__" = some (some (.ref g))) (hf : PySem.W.isFn X.K (.ref g) = true) (F : FnR X.prog X.w X.K X.mg X.base CX0 n g sp) (hr : Room (n + 1) X.A) : CallR X (.builtin "repr") (rTxtO C sp) := by
  intro pins s σ H xs us Q I r h
  obtain ⟨a, dx, fs, rfl, ha, q⟩ := h
  obtain ⟨u, rfl, ru⟩ := vals1 r
  cases (show u = Value.ref a from ru)
  obtain ⟨ox, od, J⟩ := inst_of I ha
  obtain ⟨m, fr⟩ := I.fr
  refine PySem.W.repr_K (by have := hr.un; show X.A.units + 1 < cLine; omega) fr I.ok.mod.kin J hs hf ?_
  refine wpAny_mono (wpAny_call (SlX.run_at (us := [.ref a]) (ws := [.ref a]) F hr.in1 I.env0.in1 pass0 I (.cons rfl .nil) q)) (fun z s2 hz => ?_) fun _ _ e => e
  obtain ⟨z2, H2, I2, rz, t, rfl, qz⟩ := hz
  obtain ⟨tk, rfl⟩ := (show ∃ tk, z = Value.str t tk from rz)
  exact ⟨.str t, H2, I2, ⟨_, rfl⟩, qz⟩
/-- bool(x): no __bool__, no __len__ -/
def rBoolO (C : Addr) : List V → Hp → VK → Prop := fun xs H Q => ∃ (a dx : Addr) (fs : List (Str × V)), xs = [.ref a] ∧ H a = some (.ins C dx fs) ∧ Q (.bl true) H
theorem call_boolO (hb : PySem.W.findIn X.K (.ref C) "__bool__" = some none) (hl : PySem.W.findIn X.K (.ref C) "__len__" = some none) : CallR X (.type "bool") (rBoolO C) := by
  intro pins s σ H xs us Q I r h
  obtain ⟨a, dx, fs, rfl, ha, q⟩ := h
  obtain ⟨u, rfl, ru⟩ := vals1 r
  cases (show u = Value.ref a from ru)
  obtain ⟨ox, od, J⟩ := inst_of I ha
  obtain ⟨m, fr⟩ := I.fr
  have mt : Meets (Builtin.«bool.__new__» ⟨[.type "bool", .ref a], []⟩) (fun _ R st => (∃ m, Fr X.base X.env.locals st.heap m) ∧ PySem.W.InstAt st.heap a ox C od ∧ R (.ok (.ret (.bool true))) st) :=
    Meets.of_wp fun pr wo Ar R st hh => by
      obtain ⟨⟨m2, fr2⟩, J2, hR⟩ := hh
      obtain ⟨hp, gg, dd, tk, os⟩ := st
      have f1 := PySem.F.conv_sub_bool
      repeat (any_goals (first | assumption | (with_reducible refine PySem.W.truthy_K0 fr2 I.ok.mod.kin J2 hb hl ?_) | wp_step))
      all_goals first | exact ⟨_, rfl, hR⟩ | exact hR | skip
  exact call_bool_1 mt ⟨⟨m, fr⟩, J, rfl, .bl true, H, I, rfl, q⟩
end
end Own

/-! chains: ==, str, repr -/
namespace My
open PySem L2 Cm LM CH
abbrev sAE : Stmt := inClass (top 15) 1
abbrev sAS : Stmt := inClass (top 15) 2
abbrev sAR : Stmt := inClass (top 15) 3
/-- the class as a type -/
structure TyC (K : PySem.W.Frag) (C : Addr) : Prop where
  c1 : PySem.W.findIn K (.ref C) "__class__" = some (some (.builtin "object.__class__"))
  c2 : PySem.W.specialIn K (.builtin "object.__class__") "__get__" = some (some (.builtin "getset_descriptor.__get__"))
  c3 : PySem.W.takesIn K (.builtin "object.__class__") = some true
  c4 : PySem.W.mroIn K C (.type "object") = some true
  k1 : PySem.W.kitOne K (.ref C) (.ref C) = some true
structure TxAm (w : World) (K : PySem.W.Frag) (mg : Str → Option Value) where
  T : TxA w K mg
  ae : Sm K T.C "__eq__" "Chain.__eq__" sAE ["self", "other"]
  as : Sm K T.C "__str__" "Chain.__str__" sAS ["self"]
  ar : Sm K T.C "__repr__" "Chain.__repr__" sAR ["self"]
  ne : PySem.W.findIn K (.ref T.C) "__ne__" = some (some (.builtin "object.__ne__"))
  ty : TyC K T.C
section
variable {P : Program} {w : World} {K : PySem.W.Frag} {mg : Str → Option Value} {base : Heap}
theorem ChainAt.ty (T : TxA w K mg) (c : TyC K T.C) {H : Hp} {o : Addr} {t : Str} (h : ChainAt T.C H o t) : TyX K H (.ref o) (.ref T.C) := by
  obtain ⟨dx, p, vs, e, _⟩ := h
  exact .base (.ins e T.cl c.c1 c.c2 c.c3 c.c4)
def spAE (K : PySem.W.Frag) (C : Addr) : Sp := fun vs H Q _ => ∃ (o : Addr) (t : Str) (y : V), vs = [.ref o, y] ∧ ChainAt C H o t ∧
  ((∃ (o2 : Addr) (t2 : Str), y = .ref o2 ∧ ChainAt C H o2 t2 ∧ Q (.bl (decide (t = t2))) H) ∨ ∃ ty, TyX K H y ty ∧ PySem.W.kitOne K ty (.ref C) = some false ∧ Q (.bl false) H)
theorem scAE : FnScope ["self", "other"] ["self", "other"] (defScope sAE) := ⟨rfl, rfl, rfl, by decide +kernel, rfl, by decide +kernel, by decide +kernel⟩
theorem ok_ae (M : TxAm w K mg) : FnOk P w K mg base CX0 1 M.ae.f M.ae.fd ["self", "other"] (spAE K M.T.C) := by
  refine M.ae.F.ok scAE (fun vs H Q E h => ?_) (fun cdv A outer s H vs Q E hr h => ?_)
  · obtain ⟨o, t, y, rfl, _⟩ := h
    rfl
  · obtain ⟨o, t, y, rfl, hO, k⟩ := h
    refine ⟨_, pss_one (ps_ret (pe_and (pe_callB call_isi (by rfl) M.T.isi (by decide +kernel) (pa_cons (pv 1) (pa_cons (pe_glob (v := .ref M.T.C) rfl M.T.gC rfl) pa_nil)))
      (pe_one (pe_cmpR op_eq (pe_fld (pv 0) rfl) (pe_fld (pv 1) rfl) (nomark _))))), ?_⟩
    rcases k with ⟨o2, t2, rfl, hO2, k⟩ | ⟨ty, hty, kt, k⟩
    · have ty2 := hO2.ty M.T M.ty
      obtain ⟨dx, p, vs, e1, _⟩ := hO
      obtain ⟨dx2, p2, vs2, e2, _⟩ := hO2
      refine ⟨_, rfl, _, _, _, _, true, rfl, .own M.T.C, ty2, M.ty.k1, true, rfl, iteT ?_⟩
      refine ⟨_, rfl, o, M.T.C, dx, _, _, rfl, e1, M.T.cl, M.T.nT, cf_text .., _, rfl, o2, M.T.C, dx2, _, _, rfl, e2, M.T.cl, M.T.nT, cf_text .., rfl, ?_⟩
      rw [dS]
      exact k
    · exact ⟨_, rfl, _, _, _, _, false, rfl, .own M.T.C, hty, kt, false, rfl, iteF k⟩
def spAS (C : Addr) : Sp := fun vs H Q _ => ∃ (o : Addr) (t : Str), vs = [.ref o] ∧ ChainAt C H o t ∧ Q (.str t) H
theorem scAS : FnScope ["self"] ["self"] (defScope sAS) := ⟨rfl, rfl, rfl, by decide +kernel, rfl, by decide +kernel, by decide +kernel⟩
theorem ok_as (M : TxAm w K mg) : FnOk P w K mg base CX0 1 M.as.f M.as.fd ["self"] (spAS M.T.C) := by
  refine M.as.F.ok scAS (fun vs H Q E h => ?_) (fun cdv A outer s H vs Q E hr h => ?_)
  · obtain ⟨o, t, rfl, _⟩ := h
    rfl
  · obtain ⟨o, t, rfl, ⟨dx, p, vs, e, _⟩, k⟩ := h
    refine ⟨_, pss_one (ps_ret (pe_callTy SkE.call_str_str (by rfl) M.T.str (by decide +kernel) (pa_cons (pe_fld (pv 0) rfl) pa_nil))), ?_⟩
    exact ⟨_, rfl, o, M.T.C, dx, _, _, rfl, e, M.T.cl, M.T.nT, cf_text .., t, rfl, k⟩
def spAR (C : Addr) : Sp := fun vs H Q _ => ∃ (o : Addr) (t : Str), vs = [.ref o] ∧ ChainAt C H o t ∧ Bd t ∧ Q (.str (("Chain(" : Str) ++ t ++ ")")) H
theorem scAR : FnScope ["self"] ["self"] (defScope sAR) := ⟨rfl, rfl, rfl, by decide +kernel, rfl, by decide +kernel, by decide +kernel⟩
theorem empty_app' (x : Str) : Str.empty ++ x = x := TL.ext_tl (by rw [TL.tl_append]; rfl)
theorem ok_ar (M : TxAm w K mg) : FnOk P w K mg base CX0 1 M.ar.f M.ar.fd ["self"] (spAR M.T.C) := by
  refine M.ar.F.ok scAR (fun vs H Q E h => ?_) (fun cdv A outer s H vs Q E hr h => ?_)
  · obtain ⟨o, t, rfl, _⟩ := h
    rfl
  · obtain ⟨o, t, rfl, ⟨dx, p, vs, e, _⟩, bd, k⟩ := h
    refine ⟨_, pss_one (ps_ret (pe_joined (.cons pe_str (.cons (pe_fmt (pe_fld (pv 0) rfl)) (.cons pe_str .nil))))), ?_⟩
    have l0 : (Str.empty).length = 0 := rfl
    have l2 : ("Chain(" : Str).length = 6 := by decide +kernel
    have l3 : (")" : Str).length = 1 := by decide +kernel
    unfold Bd at bd
    refine ⟨_, rfl, szl (by rw [strLen_append]; omega), ?_⟩
    refine ⟨_, rfl, o, M.T.C, dx, _, _, rfl, e, M.T.cl, M.T.nT, cf_text .., .inl ⟨t, rfl, Nat.le_of_lt (szM (by omega)), t, rfl, Nat.le_of_lt (szM (by rw [strLen_append, strLen_append]; omega)), ?_⟩⟩
    refine ⟨_, rfl, Nat.le_of_lt (szM (by rw [strLen_append, strLen_append, strLen_append]; omega)), ?_⟩
    rw [empty_app']
    exact k
end
end My

/-! the chains that the law draws -/
namespace My
open PySem L2 Cm LM CH
abbrev sCuts : Stmt := top 20
abbrev sCLine : Stmt := top 21
structure TxAd (K : PySem.W.Frag) (mg : Str → Option Value) where
  J : TxtJ mg
  range : mg "range" = none
  str : mg "str" = none
  sip : Df K mg "_law_sip" sSip ["_law_jar_here", "_law_many"]
  frm : Df K mg "_law_from" sFrom ["_law_jar_here", "_law_things"]
  cts : Df K mg "_law_cutters" sCuts ["_law_jar_here", "_law_most"]
  lin : Df K mg "_law_chain_line" sCLine ["_law_cutters_here"]
/-- a row of drawn cutters stands at p, away from the jar -/
def CutL (H : Hp) (p : Addr) (cs : List (Kd × Nat)) : Prop := ∃ vs, H p = some (.lst vs) ∧ Cuts H vs cs
theorem CutL.same {H H' : Hp} {p : Addr} {cs : List (Kd × Nat)} (s : Same H H') (h : CutL H p cs) : CutL H' p cs := let ⟨vs, a, b⟩ := h; ⟨vs, s _ _ a, b.same s⟩
theorem jar_tup {H H' : Hp} {j : Addr} (s : Off j H H') (hj : Jar H j) : ∀ (p : Addr) (xs : List V), H p = some (.tup xs) → H' p = some (.tup xs) := by
  obtain ⟨x, y, z, hj⟩ := hj
  exact fun p xs e => s _ _ (ne_of e hj (by intro z; cases z)) e
theorem CutL.off {j : Addr} {H H' : Hp} {p : Addr} {cs : List (Kd × Nat)} (s : Off j H H') (hj : Jar H j) (n : p ≠ j) (h : CutL H p cs) : CutL H' p cs := let ⟨vs, a, b⟩ := h; ⟨vs, s _ _ n a, b.mono (jar_tup s hj)⟩
theorem kd_of {i : Nat} {x : V} (h : (svs kds)[i]? = some x) : ∃ k, x = .str (kdS k) := by
  match i, h with
  | 0, h => exact ⟨.cut, (Option.some.inj h).symm⟩
  | 1, h => exact ⟨.fill, (Option.some.inj h).symm⟩
  | 2, h => exact ⟨.tail, (Option.some.inj h).symm⟩
  | n + 3, h => simp [svs, kds] at h
section
variable {P : Program} {w : World} {K : PySem.W.Frag} {mg : Str → Option Value} {base : Heap}
theorem ga_sip (D : TxAd K mg) : FnOk P w K mg base CX0 1 D.sip.f D.sip.fd ["_law_jar_here", "_law_many"] spSip := ok_sip D.sip.F D.J
theorem ga_from (D : TxAd K mg) : FnOk P w K mg base CX0 2 D.frm.f D.frm.fd ["_law_jar_here", "_law_things"] (spFrom K) := ok_from D.frm.F D.J ⟨D.sip.g, D.sip.k⟩ D.sip.F D.sip.b
/-! ### _law_cutters -/
def spCuts : Sp := fun vs H Q _ => ∃ (j : Addr) (m : Nat), vs = [.ref j, .int m] ∧ Jar H j ∧ 0 < m ∧ m ≤ 6 ∧
  ∀ (H' : Hp) (q : Addr) (cs : List (Kd × Nat)), Off j H H' → Jar H' j → H q = none → q ≠ j → CutL H' q cs → cs ≠ [] → cs.length ≤ m → (∀ c ∈ cs, Ct c) → Q (.ref q) H'
theorem scCuts : FnScope ["_law_jar_here", "_law_most", "_law_many", "_law_found", "_law_turn", "_law_word_here"] ["_law_jar_here", "_law_most"] (defScope sCuts) := ⟨rfl, rfl, rfl, by decide +kernel, rfl, by decide +kernel, by decide +kernel⟩
theorem ok_cuts (D : TxAd K mg) : FnOk P w K mg base CX0 3 D.cts.f D.cts.fd ["_law_jar_here", "_law_most"] spCuts := by
  have GS : FnOk P w K mg base CX0 1 D.sip.f D.sip.fd ["_law_jar_here", "_law_many"] spSip := ga_sip D
  have GF : FnOk P w K mg base CX0 2 D.frm.f D.frm.fd ["_law_jar_here", "_law_things"] (spFrom K) := ga_from D
  refine D.cts.F.ok scCuts (fun vs H Q E h => ?_) (fun cdv A outer s H vs Q E hr h => ?_)
  · obtain ⟨j, m, rfl, _⟩ := h
    rfl
  · obtain ⟨j, m, rfl, hJ, m0, m6, k⟩ := h
    have hr1 : Room 1 _ := hr.mono (by decide)
    refine ⟨_, pss_cons (ps_set (i := 2) scCuts.nd rfl (.inl rfl) (pe_op op_add pe_int (pe_call GS hr1 rfl D.sip.g D.sip.k D.sip.b .nil pass0 (pa_cons (pv 0) (pa_cons (pv 1) pa_nil)))))
      (pss_cons (ps_set (i := 3) scCuts.nd rfl (.inl rfl) (pe_lst pa_nil))
      (pss_cons (ps_for PassesOwn.never rfl (pi_range1 rfl D.range (pa_cons (pv 2) pa_nil)) (pg_name (i := 4) scCuts.nd rfl (Or.inl rfl))
        (pss_cons (ps_set (i := 5) scCuts.nd rfl (.inl rfl) (pe_call GF hr rfl D.frm.g D.frm.k D.frm.b .nil pass0 (pa_cons (pv 0) (pa_cons (pe_lst (pa_cons pe_str (pa_cons pe_str (pa_cons pe_str pa_nil)))) pa_nil))))
        (pss_one (ps_expr (pe_bm PySem.F.plainAttrs_list PySem.F.slot_list_append PySem.F.type_list_append mt_append (pv 3) (pa_cons (pe_tup (pa_cons (pv 5) (pa_cons (pe_op op_add pe_int (pe_call GS hr1 rfl D.sip.g D.sip.k D.sip.b .nil pass0 (pa_cons (pv 0) (pa_cons pe_int pa_nil)))) pa_nil))) pa_nil))))))
      (pss_one (ps_ret (pv 3))))), ?_⟩
    refine ⟨_, rfl, _, rfl, j, _, rfl, hJ, by omega, by omega, fun H1 d d0 d1 o1 J1 => ⟨_, _, rfl, rfl, ?_⟩⟩
    obtain ⟨n0, rfl⟩ := Int.eq_ofNat_of_zero_le d0
    refine ⟨Nat.zero_le _, fun q nq => ?_⟩
    have qj := jar_ne J1 nq
    have nq0 : H q = none := by
      cases e : H q with
      | none => rfl
      | some u =>
        rw [o1 q u qj e] at nq
        cases nq
    have e0 : ((1 : Int) + (n0 : Int)).toNat = n0 + 1 := by omega
    refine ⟨_, rfl, _, rfl, by omega, by omega, ?_⟩
    rw [e0]
    refine for_range (n := n0 + 1) (fun i σ H' => ∃ v4 v5 cs, σ = [some (.ref j), some (.int m), some (.int (1 + (n0 : Int))), some (.ref q), v4, v5] ∧ Off j H H' ∧ Jar H' j ∧ CutL H' q cs ∧ cs.length = i ∧ ∀ c ∈ cs, Ct c)
      ⟨none, none, [], rfl, o1.new nq, J1.new nq, ⟨[], upd_same, .nil⟩, rfl, fun c h => nomatch h⟩ ?_ ?_
    · rintro i σ H' hi ⟨v4, v5, cs, rfl, o2, J2, ⟨vs, hq, hC⟩, lc, hc⟩
      refine ⟨_, rfl, (by show 3 ≤ sizeLine; decide), fun l nl => ?_⟩
      have lj := jar_ne J2 nl
      refine ⟨j, l, svs kds, rfl, J2.new nl, lj, SqL.of upd_same, by decide, by decide, fun H3 ix x hx o3 J3 => ?_⟩
      obtain ⟨kd, rfl⟩ := kd_of hx
      have o23 : Off j H' H3 := Off.trans (Same.off (same_new nl)) o3
      have hq3 := o23 _ _ qj hq
      refine ⟨_, rfl, .inl ⟨rfl, _, SqL.of hq3⟩, _, rfl, _, rfl, j, _, rfl, J3, by decide, by decide, fun H4 d4 d40 d41 o4 J4 => ⟨_, _, rfl, rfl, (by show 2 ≤ sizeLine; decide), fun t nt => ?_⟩⟩
      obtain ⟨n4, rfl⟩ := Int.eq_ofNat_of_zero_le d40
      have o24 := o23.trans o4
      have hq4 := o24 _ _ qj hq
      have s5 : Same H4 (upd H4 t (.tup [.str (kdS kd), .int (1 + (n4 : Int))])) := same_new nt
      have ht5 : (upd H4 t (.tup [.str (kdS kd), .int (1 + (n4 : Int))])) t = some (.tup [.str (kdS (kd, n4 + 1).1), .int ((kd, n4 + 1).2 : Nat)]) := by
        rw [upd_same]
        have : (1 : Int) + (n4 : Int) = ((n4 + 1 : Nat) : Int) := by omega
        rw [this]
      have J5 := J4.same s5
      generalize upd H4 t (.tup [.str (kdS kd), .int (1 + (n4 : Int))]) = H5 at s5 ht5 J5 ⊢
      have hq5 := s5 _ _ hq4
      have lv := hC.len
      have st := tup_stays (o' := .lst (vs ++ [.ref t])) hq5 (by intro xs z; cases z)
      refine ⟨q, vs, .ref t, rfl, rfl, hq5, szM (by omega), ?_⟩
      have f25 : ∀ (p : Addr) (xs : List V), H' p = some (.tup xs) → H5 p = some (.tup xs) := fun p xs e => s5 _ _ (jar_tup o24 J2 p xs e)
      refine ⟨_, _, cs ++ [(kd, n4 + 1)], rfl, Off.put2 ((o2.trans o24).trans (Same.off s5)) nq0, J5.put qj, ⟨_, upd_same, Cuts.snoc (st _ _ ht5) ((hC.mono f25).mono st)⟩, by rw [List.length_append, lc]; rfl, fun c h => ?_⟩
      rcases List.mem_append.mp h with h | h
      · exact hc c h
      · rw [List.mem_singleton.mp h]
        exact ⟨by show 1 ≤ n4 + 1; omega, by show n4 + 1 ≤ 12; omega⟩
    · rintro σ H' ⟨v4, v5, cs, rfl, o2, J2, hL, lc, hc⟩
      exact ⟨_, rfl, k H' q cs o2 J2 nq0 qj hL (fun e => by rw [e] at lc; cases lc) (by omega) hc⟩
/-! ### _law_chain_line -/
def spCLine : Sp := fun vs H Q _ => ∃ (p : Addr) (cs : List (Kd × Nat)), vs = [.ref p] ∧ CutL H p cs ∧ cs.length ≤ 100 ∧ (∀ c ∈ cs, Ct c) ∧ ∀ H', Same H H' → Q (.str (cline cs)) H'
theorem scCLine : FnScope ["_law_cutters_here", "_law_word_here", "_law_wide"] ["_law_cutters_here"] (defScope sCLine) := ⟨rfl, rfl, rfl, by decide +kernel, rfl, by decide +kernel, by decide +kernel⟩
theorem ok_cline (D : TxAd K mg) : FnOk P w K mg base CX0 1 D.lin.f D.lin.fd ["_law_cutters_here"] spCLine := by
  refine D.lin.F.ok scCLine (fun vs H Q E h => ?_) (fun cdv A outer s H vs Q E hr h => ?_)
  · obtain ⟨p, cs, rfl, _⟩ := h
    rfl
  · obtain ⟨p, cs, rfl, ⟨vs, hp, hC⟩, hl, hc, k⟩ := h
    refine ⟨_, pss_one (ps_ret (pe_join pe_str (pe_lc (own := [("_law_word_here", 1), ("_law_wide", 2)]) (g := gTup K 2 (gCons (gName 1) (gCons (gName 2) gNil))) (tt := tYes) rfl scCLine.nd (pi_list (pv 0))
      (blkOk_by (own := [("_law_word_here", 1), ("_law_wide", 2)]) (N := ["_law_cutters_here", "_law_word_here", "_law_wide"]) (sc := defScope sCLine) (by decide +kernel)) (fun _ _ _ _ _ => by exact pg_tup rfl (pgs_cons (pg_name (i := 1) scCLine.nd rfl (Or.inl rfl)) (pgs_cons (pg_name (i := 2) scCLine.nd rfl (Or.inl rfl)) pgs_nil))) (fun _ _ _ _ _ => pts_nil)
      (fun _ _ _ _ _ => pe_op op_add_str (pe_op op_add_str (pv 1) pe_str) (pe_callTy call_str_int (by rfl) D.str (by decide +kernel) (pa_cons (pv 2) pa_nil)))))), ?_⟩
    refine ⟨⟨_, rfl⟩, _, rfl, p, rfl, ⟨_, SqL.of hp⟩, fun Dd nD => lc_list (K := K) (a := p) (xs := vs) (fun i H' => Same H H' ∧ H' Dd = some (.lst (svs ((cs.take i).map cutT)))) ⟨same_new nD, upd_same⟩ (fun i H' _ ⟨s', _⟩ => SqL.of (s' _ _ hp)) ?_ ?_⟩
    · rintro i y H' hy ⟨s', hD⟩
      obtain ⟨q, c, hq, rfl, hqc⟩ := hC.get hy
      have cc := hc c (List.mem_of_getElem? hq)
      have f := cc.f
      have ll := f.l
      have l2 : (cutT c).length = (kdS c.1 ++ (" " : Str)).length + (nS c.2).length := by unfold cutT; rw [strLen_append]
      refine ⟨q, _, rfl, SqT.of (s' _ _ hqc), rfl, _, _, rfl, _, _, rfl, rfl, rfl, ?_⟩
      refine ⟨_, rfl, _, _, rfl, rfl, szl (by rw [strLen_append] at l2; omega), _, rfl, _, rfl, ?_, _, _, rfl, rfl, szl (by show (kdS c.1 ++ (" " : Str)).length + (nS c.2).length ≤ 1000; omega), ?_⟩
      · have c2 := cc.2
        show ((c.2 : Nat) : Int).natAbs.log2 < 1920
        rw [Int.natAbs_natCast]
        exact Nat.lt_of_le_of_lt (Nat.log2_le_self _) (by omega)
      · refine ⟨_, hD, ?_, fun b o z => ?_, ?_⟩
        · rw [show (svs ((cs.take i).map cutT)).length = (cs.take i).length by simp [svs], List.length_take]
          exact szM (by omega)
        · rw [upd_ne (ne_of_none z nD)]
          exact s' _ _ z
        · rw [upd_same, take_snoc hq, List.map_append]
          simp [svs, cutT, nS]
    · rintro H' ⟨s', hD⟩
      have lv := hC.len
      rw [lv, List.take_length] at hD
      refine ⟨", ", Dd, cs.map cutT, rfl, rfl, .inl (SqL.of hD), ?_, k H' s'⟩
      have := line_sum hc
      rw [List.length_map]
      have e : (", " : Str).length = 2 := by decide +kernel
      rw [e]
      omega
end
end My

/-! defs that are called where no repr is running, and repr of plain data there -/
namespace Gd
open PySem PySem.Spec PyProof.Rows L2
/-- a def's promise, for callers around whom no guard stands -/
structure FnG (P : Program) (w : World) (K : PySem.W.Frag) (mg : Str → Option Value) (base : Heap) (CX : CXT) (k : Nat) (f : Addr) (fd : FuncData) (ps : List Str) (sp : Sp) : Prop where
  len : ∀ vs H Q E, sp vs H Q E → vs.length = ps.length
  run : ∀ (A : Around) (outer : List Env) (s : Shared) (H : Hp) (args : Args) (us : List Value) (vs : List V) (Q : VK) (E : XK), A.guards = some [] → Room k A → Env0 P w K mg base A outer s H → BindsTo s fd args (ps.zip us) → Vals vs us → sp vs H Q E →
    codeAny (model P w) A (.call (.ref f) args) (CR CX outer P w H s Q E) s
section
variable {P : Program} {w : World} {K : PySem.W.Frag} {mg : Str → Option Value} {base : Heap}
/-- the rule of a def, its guards told -/
theorem okG {x qual : Str} {st : Stmt} {f : Addr} {fd : FuncData} {N ps : List Str} {k : Nat} {sp : Sp} (F : Fun K x qual st f fd) (S : FnScope N ps (defScope st)) (len : ∀ vs H Q E, sp vs H Q E → vs.length = ps.length)
    (hbody : ∀ (cdv : Value) (A : Around) (outer : List Env) (s : Shared) (H : Hp) (vs : List V) (Q : VK) (E : XK), K.lookup f ≠ none → PySem.W.codeIn K cdv qual = true → fd.code = cdv → A.guards = some [] → Room k (A.deeper (envOfC qual (defScope st) s.heap.objs.size f cdv)) → sp vs H Q E →
      ∃ t, PSs (cxOf CX0 P w K mg base N qual (defScope st) f cdv A outer s H E).nox (defBody st) t ∧ t { nx := fun _ H' => Q .non H', rt := Q } (L2.start N vs) H) : FnG P w K mg base CX0 (k + 1) f fd ps sp := by
  obtain ⟨oc, od, kV, doc, pm, an, cdv, ct, osl, rfl, lk, hcd⟩ := F.ex
  refine ⟨len, fun A outer s H args us vs Q E hg hr e0 hb r h => ?_⟩
  refine LamX.run_ofS lk hcd S hr e0 hb r (len _ _ _ _ h) fun hr2 => ?_
  obtain ⟨t, h1, q⟩ := hbody cdv A outer s H vs Q E (by rw [lk]; simp) hcd rfl hg hr2 h
  exact ⟨t, h1.nox, q⟩
end
section
variable {X : Cx} {CX : CXT} {k : Nat} {f : Addr} {fd : FuncData} {ps : List Str} {sp : Sp} {E : XK} {x : Str} {p pos : Pos} {e : Expr} {es : List Expr} {t : TA} {ds : List Value} {dvs : List V}
/-- f(e, ..) -/
theorem pe_callG (F : FnG X.prog X.w X.K X.mg X.base CX k f fd ps sp) (hgd : X.A.guards = some []) (hr : Room k X.A) (hg : Gl X x) (hm : X.mg x = some (.ref f)) (hk : PySem.W.keepIn X.K (.ref f) = true) (hb : L2.Binds X.K fd ps ds) (hd : Vals dvs ds) (hx : Passes CX X E) (ha : PA X (e :: es) t)
    (hdb : (x == ("__debug__" : Str)) = false := by decide) (he : starEach (e :: es) X.env = (false, eval e X.env) :: starEach es X.env := by rfl) (hpl : (backTo pos (starEach es X.env)).any (·.1) = false := by rfl) :
    PE X (.Call (.Name x p) (e :: es) [] pos) (tCall sp dvs E t) := by
  refine ⟨fun pins s σ H Q I h => ?_⟩
  refine wpAny_Call_Name_kw (ld_glob I hg hm ?_ hdb)
  refine PySem.W.callWith_K (h₀ := X.base) I.ok.mod.kin hk (thn (ha.run pos pins s σ H _ I h) fun us s1 ⟨vs, H1, I1, r, q⟩ => ⟨I1.kIn, ?_⟩) he hpl
  have r2 : Vals (vs ++ dvs) (us ++ ds) := r.append hd
  have hl : (us ++ ds).length = ps.length := by
    rw [← r2.length]
    exact F.len _ _ _ _ q
  refine wpAny_call (codeAny_mono (F.run X.A X.stack s1 H1 ⟨us, []⟩ (us ++ ds) (vs ++ dvs) Q E hgd hr I1.env0 (hb s1 us I1.kIn hl) r2 q) fun rr s2 hq => ?_)
  match rr, hq with
  | .error er, hq => exact hx pins σ H1 s1 er s2 I1 hq
  | .ok (.ret u), hq => exact I1.after hq
end
/-! ### plain data, all of it tracked -/
mutual
inductive Dq (H : Hp) : V → PyData → Prop
  | non : Dq H .non .none
  | bl (b : Bool) : Dq H (.bl b) (.bool b)
  | int (i : Int) : Dq H (.int i) (.int i)
  | str (x : Str) : Dq H (.str x) (.str x)
  | lst {a : Addr} {xs : List V} {ds : List PyData} : H a = some (.lst xs) → DqA H xs ds → Dq H (.ref a) (.list ds)
  | tup {a : Addr} {xs : List V} {ds : List PyData} : H a = some (.tup xs) → DqA H xs ds → Dq H (.ref a) (.tuple ds)
  | dct {a : Addr} : H a = some (.dK []) → Dq H (.ref a) (.dict [])
inductive DqA (H : Hp) : List V → List PyData → Prop
  | nil : DqA H [] []
  | cons {v : V} {vs : List V} {d : PyData} {ds : List PyData} : Dq H v d → DqA H vs ds → DqA H (v :: vs) (d :: ds)
end
section
variable {X : Cx} {pins : List (Addr × Obj)} {σ : L2.St} {H : Hp} {s : Shared}
mutual
theorem Dq.reads (I : Inv X pins σ H s) : ∀ {v : V} {d : PyData} {u : Value}, Dq H v d → RelV v u → ∃ as, Reads s.heap u d as ∧ ∀ b ∈ as, H b ≠ none
  | _, _, _, .non, r => by
    cases r
    exact ⟨_, .none, fun b h => nomatch h⟩
  | _, _, _, .bl b, r => by
    cases r
    exact ⟨_, .bool b, fun b h => nomatch h⟩
  | _, _, _, .int i, r => by
    obtain ⟨t, rfl⟩ := r
    exact ⟨_, .int i t, fun b h => nomatch h⟩
  | _, _, _, .str x, r => by
    obtain ⟨t, rfl⟩ := r
    exact ⟨_, .str x t, fun b h => nomatch h⟩
  | _, _, _, .lst (a := a) (xs := xs) ha hd, r => by
    cases r
    obtain ⟨_, its, n, rv, e⟩ := (show ObjOk X.prog X.w H s.heap a (.lst xs) from I.hok a _ ha)
    obtain ⟨as, h1, h2⟩ := DqA.reads I hd rv
    refine ⟨_, .list e rfl rfl (by simpa using h1), fun b hb => ?_⟩
    rcases List.mem_cons.mp hb with rfl | hb
    · rw [ha]; simp
    · exact h2 b hb
  | _, _, _, .tup (a := a) (xs := xs) ha hd, r => by
    cases r
    obtain ⟨_, its, rv, o, e, c, n, hn⟩ := (show ObjOk X.prog X.w H s.heap a (.tup xs) from I.hok a _ ha)
    obtain ⟨as, h1, h2⟩ := DqA.reads I hd rv
    exact ⟨_, .tuple e c hn (by simpa using h1), h2⟩
  | _, _, _, .dct (a := a) ha, r => by
    cases r
    obtain ⟨_, _, vs, kv, o, es, ep, e, hx, hdt, _, hes, _⟩ := (show ObjOk X.prog X.w H s.heap a (.dK []) from I.hok a _ ha)
    cases kv
    have e0 : es.toList = [] := by
      generalize es.toList = zs at hes
      cases hes
      rfl
    refine ⟨_, .dict (kvs := []) e hx.1 hdt (by rw [e0]; exact .nil) (by rw [e0]; exact .nil), fun b hb => ?_⟩
    have : b = a := by simpa using hb
    rw [this, ha]; simp
theorem DqA.reads (I : Inv X pins σ H s) : ∀ {vs : List V} {ds : List PyData} {us : List Value}, DqA H vs ds → Vals vs us → ∃ as, ReadsAll s.heap us ds as ∧ ∀ b ∈ as, H b ≠ none
  | _, _, _, .nil, r => by
    cases r
    exact ⟨_, .nil, fun b h => nomatch h⟩
  | _, _, _, .cons hd ht, .cons r rt => by
    obtain ⟨as, h1, h2⟩ := Dq.reads I hd r
    obtain ⟨bs, h3, h4⟩ := DqA.reads I ht rt
    exact ⟨_, .cons h1 h3, fun b hb => (List.mem_append.mp hb).elim (h2 b) (h4 b)⟩
end
end
mutual
theorem Dq.same {H H' : Hp} (s : Same H H') : ∀ {v : V} {d : PyData}, Dq H v d → Dq H' v d
  | _, _, .non => .non
  | _, _, .bl b => .bl b
  | _, _, .int i => .int i
  | _, _, .str x => .str x
  | _, _, .lst ha hd => .lst (s _ _ ha) (DqA.same s hd)
  | _, _, .tup ha hd => .tup (s _ _ ha) (DqA.same s hd)
  | _, _, .dct ha => .dct (s _ _ ha)
theorem DqA.same {H H' : Hp} (s : Same H H') : ∀ {vs : List V} {ds : List PyData}, DqA H vs ds → DqA H' vs ds
  | _, _, .nil => .nil
  | _, _, .cons a b => .cons (Dq.same s a) (DqA.same s b)
end
/-- repr of a list, a tuple or an empty dict of such data -/
def rReprD : List V → Hp → VK → Prop := fun xs H Q => ∃ (a : Addr) (d : PyData), xs = [.ref a] ∧ Dq H (.ref a) d ∧ d.showable = true ∧ d.depth ≤ 64 ∧ d.shown.length ≤ sizeLine ∧ Q (.str d.shown) H
theorem call_reprD {X : Cx} {k : Nat} {ob : Obj} (hg : X.A.guards = some []) (hr : Room k X.A) (sm : X.base.get? sysModules = some ob) : CallR X (.builtin "repr") rReprD := by
  intro pins s σ H xs us Q I r h
  obtain ⟨a, d, rfl, hd, hs, hdep, hz, q⟩ := h
  obtain ⟨u, rfl, ru⟩ := vals1 r
  cases (show u = Value.ref a from ru)
  obtain ⟨as, h1, h2⟩ := hd.reads I (u := .ref a) rfl
  have no : sysModules ∉ as := fun hm => h2 _ hm (I.env0.bs _ _ sm).2
  have hu := hr.un
  refine repr_of_reads' h1 hs (fun _ => no) hg (by omega) (fun _ _ e => e) (fun h' u tk hk => ?_) hz
  exact ⟨.str d.shown, H, I.kept (t' := tk) hk, ⟨_, rfl⟩, q⟩
/-! ### the end of a law, from such a promise -/
/-- at the law's call: the tables, and the script unless the module itself holds it -/
def H0 (K : PySem.W.Frag) (tabs : List Addr) (a : Addr) (u : HO) : Hp := fun b => if b ∈ tabs then some (.tbl #[]) else if b = a ∧ K.lookup a = none then some u else none
theorem H0_tab {K : PySem.W.Frag} {tabs : List Addr} {a b : Addr} {u : HO} (h : b ∈ tabs) : H0 K tabs a u b = some (.tbl #[]) := if_pos h
theorem H0_cases {K : PySem.W.Frag} {tabs : List Addr} {a b : Addr} {u o : HO} (h : H0 K tabs a u b = some o) : (b ∈ tabs ∧ o = .tbl #[]) ∨ (b ∉ tabs ∧ b = a ∧ K.lookup a = none ∧ o = u) := by
  unfold H0 at h
  split at h
  next hb => exact .inl ⟨hb, (Option.some.inj h).symm⟩
  next hb =>
    split at h
    next hc => exact .inr ⟨hb, hc.1, hc.2, (Option.some.inj h).symm⟩
    next => cases h
theorem law_callG {P : Program} {w : World} {K : PySem.W.Frag} {mg mb : Str → Option Value} {k : Nat} {fa a : Addr} {cs : List (Addr × Addr)} {fd : FuncData} {x : Str} {sp : Sp} {st : Shared} {vs : List Value} {ns : List Int}
    (KX : K.In st.heap) (gNs : st.heap.Ns mainGlobals mg) (bNs : st.heap.Ns builtinsNs mb) (bEq : ∀ x : Str, x ≠ "__name__" → mb x = bootBuiltins x) (lim : st.heap.NoLimit) (noG : st.gens = #[])
    (isT : ∀ p ∈ cs, st.heap.get? p.2 = some { cls := .none, data := .fields #[] }) (nK : ∀ p ∈ cs, K.lookup p.2 = none) (isC : ∀ p ∈ cs, PySem.W.CodeHd st.heap p.1 p.2)
    (bMain : ∃ (bm : Addr) (ob : Obj), mg "__builtins__" = some (.ref bm) ∧ bm ≠ builtinsNs ∧ st.heap.get? bm = some ob ∧ ob.cls = .type "module" ∧ ob.dict = some builtinsNs ∧ ob.data = .plain)
    (scr : st.heap.get? a = some { cls := .type "list", data := .seq vs.toArray }) (intsA : IntsAre vs ns) (few : ns.length ≤ sizeLine) (room : Room k callerA)
    (mods : ∃ mm, st.heap.Ns sysModules mm)
    (F : ∀ base : Heap, K.In base → base.Ns mainGlobals mg → (∃ ob, base.get? sysModules = some ob) → (∀ p ∈ cs, LamX.TabB base mg p.1 p.2) → FnG P w K mg base CX0 k fa fd [x] sp) (bind : ∀ (s : Shared) (u : Value), BindsTo s fd ⟨[u], []⟩ [(x, u)])
    (hsp : ∀ H : Hp, (∀ p ∈ cs, H p.2 = some (.tbl #[])) → SqL K H a (ns.map V.int) → sp [.ref a] H (fun v _ => v = .bl true) fun _ _ _ => False) :
    codeAny (model P w) callerA (.call (.ref fa) ⟨[.ref a], []⟩) (fun r s2 => r = .ok (.ret (.bool true)) ∧ OldK st.heap s2.heap ∧ s2.os = st.os ∧ AllBare s2.gens) st := by
  have vals := vals_ints intsA
  have tabAt : ∀ b ∈ cs.map (·.2), st.heap.get? b = some { cls := .none, data := .fields #[] } := fun b hb => by
    obtain ⟨p, hp, rfl⟩ := List.mem_map.mp hb
    exact isT p hp
  generalize hu : (HO.frz { cls := .type "list", data := .seq vs.toArray } (.lst (ns.map V.int))) = u
  generalize hH : H0 K (cs.map (·.2)) a u = H
  have tabH : ∀ p ∈ cs, H p.2 = some (.tbl #[]) := fun p hp => by
    rw [← hH]
    exact H0_tab (List.mem_map.mpr ⟨p, hp, rfl⟩)
  have what : ∀ b o, H b = some o → (b ∈ cs.map (·.2) ∧ o = .tbl #[]) ∨ (b ∉ cs.map (·.2) ∧ b = a ∧ K.lookup a = none ∧ o = u) := fun b o e => by
    rw [← hH] at e
    exact H0_cases e
  have held : HOk P w H st.heap := fun b o e => by
    rcases what b o e with ⟨h1, rfl⟩ | ⟨_, rfl, _, rfl⟩
    · exact tabAt b h1
    · rw [← hu]
      exact ⟨scr, by rw [List.length_map]; exact few, vs, _, vals, scr⟩
  have seen : SqL K H a (ns.map V.int) := by
    cases hk : K.lookup a with
    | some o =>
      have e := KX a o hk
      rw [scr] at e
      cases e
      exact .inr ⟨_, vs.toArray, _, hk, rfl, rfl, rfl, by rw [List.size_toArray, intsA.length]; exact few, by simpa using vals⟩
    | none =>
      refine .inl (.inr ⟨{ cls := .type "list", data := .seq vs.toArray }, ?_⟩)
      have nt : a ∉ cs.map (·.2) := fun z => by
        have q := tabAt a z
        rw [scr] at q
        cases congrArg Obj.data (Option.some.inj q)
      rw [← hH, ← hu]
      exact (if_neg nt).trans (if_pos ⟨rfl, hk⟩)
  -- what is neither a list nor an empty table is not tracked
  have untracked : ∀ {b : Addr} {o : Obj}, st.heap.get? b = some o → (∀ us m, o.data ≠ .seq us m) → o.data ≠ .fields #[] → H b = none := fun {b o} e h1 h2 => by
    cases q : H b with
    | none => rfl
    | some z =>
      rcases what b z q with ⟨hb, _⟩ | ⟨_, rfl, _⟩
      · rw [tabAt b hb] at e
        exact absurd (congrArg Obj.data (Option.some.inj e)).symm h2
      · rw [scr] at e
        exact absurd (congrArg Obj.data (Option.some.inj e)).symm (h1 _ _)
  have stays : ∀ {b : Addr} {o : Obj}, st.heap.get? b = some o → (∀ us m, o.data ≠ .seq us m) → o.data ≠ .fields #[] → (hidT st.heap H).get? b = some o := fun e h1 h2 => hidT_get e (untracked e h1 h2)
  have names : ∀ {b : Addr} {m : Str → Option Value}, st.heap.Ns b m → (hidT st.heap H).Ns b m := fun ⟨o, es, ep, e, dt, r⟩ =>
    ⟨o, es, ep, stays e (fun _ _ z => by rw [dt] at z; cases z) (fun z => by rw [dt] at z; cases z), dt, r⟩
  have inB : K.In (hidT st.heap H) := fun b o e => hidT_get (KX b o e) (by
    cases q : H b with
    | none => rfl
    | some z =>
      rcases what b z q with ⟨hb, _⟩ | ⟨_, rfl, hn, _⟩
      · obtain ⟨p, hp, rfl⟩ := List.mem_map.mp hb
        rw [nK p hp] at e
        cases e
      · rw [hn] at e
        cases e)
  obtain ⟨mc, lim1, lim2⟩ := lim
  have modu : L2.Mod K mg (hidT st.heap H) := ⟨inB, names gNs, ⟨mb, names bNs, bEq⟩, ⟨mc, names lim1, lim2⟩⟩
  have tabB : ∀ p ∈ cs, LamX.TabB (hidT st.heap H) mg p.1 p.2 := fun p hp => by
    have atP := isT p hp
    refine { code := ?_, bm := ?_, gP := fun z => ?_ }
    · obtain ⟨o, us, file, tf, flags, tg, inF, text, tt, e1, r1, r2, r3, r4⟩ := isC p hp
      exact ⟨o, us, file, tf, flags, tg, inF, text, tt, stays e1 (fun _ _ z => by rw [r2] at z; cases z) (fun z => by rw [r2] at z; cases z; simp at r3), r1, r2, r3, r4⟩
    · obtain ⟨bm, ob, b1, b2, b3, b4, b5, b6⟩ := bMain
      refine ⟨bm, ob, b1, b2, fun z => ?_, fun z => ?_, stays b3 (fun _ _ z => by rw [b6] at z; cases z) (fun z => by rw [b6] at z; cases z), b4, b5, b6⟩
      · obtain ⟨o, es, ep, e, dt, _⟩ := gNs
        rw [z, e] at b3
        cases b3
        rw [dt] at b6
        cases b6
      · rw [z, atP] at b3
        cases b3
        cases b6
    · obtain ⟨o, es, ep, e, dt, _⟩ := gNs
      rw [z, atP] at e
      cases e
      cases dt
  have env : Env0 P w K mg (hidT st.heap H) callerA [] st H := ⟨rfl, modu, fun b o e => of_hidT e, Nat.le_of_eq (hidT_size _ _), trivial, (fun b hb => absurd (show b ∈ ([] : List Addr) from hb) (by simp)), held, .of_eq noG⟩
  have hm : ∃ ob, (hidT st.heap H).get? sysModules = some ob := by
    obtain ⟨mm, hm⟩ := mods
    obtain ⟨o, es, ep, e, _⟩ := names hm
    exact ⟨o, e⟩
  refine codeAny_mono ((F _ inB (names gNs) hm tabB).run callerA [] st H ⟨[.ref a], []⟩ [.ref a] [.ref a] _ _ rfl room env (bind st (.ref a)) (.cons rfl .nil) (hsp H tabH seen)) fun r s2 h => ?_
  match r, h with
  | .error e, h => exact (show False from h).elim
  | .ok (.ret z), h =>
    obtain ⟨v, H2, os2, bare, un, held2, rz, q⟩ := h
    cases (show v = .bl true from q)
    cases (show z = Value.bool true from rz)
    have kept : ∀ b o, b ∉ cs.map (·.2) → st.heap.get? b = some o → s2.heap.get? b = some o := fun b o nb e => by
      cases q : H b with
      | none => exact un.keep b o e q (fun z => absurd (show b ∈ ([] : List Addr) from z) (by simp)) (by simp)
      | some y =>
        rcases what b y q with ⟨hb, _⟩ | ⟨_, rfl, _, rfl⟩
        · exact absurd hb nb
        · rw [← hu] at q
          have e1 := (held2 _ _ (un.frzs _ _ _ q)).1
          rw [scr] at e
          cases e
          exact e1
    have grew : ∀ p ∈ cs, ∃ more : Array Value, s2.heap.get? p.2 = some { cls := .none, data := .fields more } := fun p hp => by
      obtain ⟨more, z⟩ := un.tbls p.2 #[] (tabH p hp)
      exact ⟨_, held2 p.2 _ z⟩
    refine ⟨rfl, ⟨fun b o e => ?_, fun b o e => ?_⟩, os2, bare⟩
    · by_cases hb : b ∈ cs.map (·.2)
      · obtain ⟨p, hp, rfl⟩ := List.mem_map.mp hb
        obtain ⟨more, hm⟩ := grew p hp
        rw [isT p hp] at e
        cases e
        exact .inr (.inl ⟨((isC p hp).tab (isT p hp)).isCodeTable, rfl, #[], more, rfl, by rw [Array.empty_append]; exact hm⟩)
      · exact .inl (kept b o hb e)
    · by_cases hb : b ∈ cs.map (·.2)
      · obtain ⟨p, hp, rfl⟩ := List.mem_map.mp hb
        obtain ⟨more, hm⟩ := grew p hp
        exact ⟨_, hm⟩
      · exact ⟨o, kept b o hb e⟩
/-- what the law's def promises where the head has ended -/
def LawG (l : PySem.W.OpenLaw) (w : World) (K : PySem.W.Frag) (k n : Nat) (x : Str) (mg : Str → Option Value) (fa : Addr) (h : Heap) : Prop :=
  ∃ (fd : FuncData) (cs : List (Addr × Addr)) (sp : Sp), (∀ p ∈ cs, h.get? p.2 = some { cls := .none, data := .fields #[] }) ∧ (∀ p ∈ cs, K.lookup p.2 = none) ∧ (∀ p ∈ cs, PySem.W.CodeHd h p.1 p.2) ∧ (∀ (s : Shared) (u : Value), BindsTo s fd ⟨[u], []⟩ [(x, u)]) ∧
    (∀ (H : Hp) (a : Addr) (ns : List Int), ns.length ≤ n → (∀ p ∈ cs, H p.2 = some (.tbl #[])) → SqL K H a (ns.map V.int) → sp [.ref a] H (fun v _ => v = .bl true) fun _ _ _ => False) ∧
    ∀ base : Heap, K.In base → base.Ns mainGlobals mg → (∃ ob, base.get? sysModules = some ob) → (∀ p ∈ cs, LamX.TabB base mg p.1 p.2) → FnG l.prog w K mg base CX0 k fa fd [x] sp
theorem walk_ofG {l : PySem.W.OpenLaw} {n k : Nat} {q : Program} {loose : List Str} {XP : (Str → Option Value) → Heap → Prop} {YP : World → Heap → Prop} {d : DefRec} {K : Params → PySem.W.Frag} {x : Str}
    (hn : l.most = some n) (hn2 : n ≤ sizeLine) (hdf : d.params.defaults = []) (hi : importsNone q = true) (hr : Room k callerA) (hY : ∀ (w : World) (h : Heap), YP w h → (K w.params).In h)
    (F : ∀ (w : World) (mg : Str → Option Value) (fa : Addr) (h : Heap), YP w h → (K w.params).In h → h.Ns mainGlobals mg → mg d.name = some (.ref fa) → LawG l w (K w.params) k n x mg fa h) :
    PySem.W.WalkO q loose XP YP l.row.toRowW d [] (fun f vs => PySem.call f vs) := by
  refine Att.attach_call hn hdf fun w t0 t1 mg mb fa o pm cd doc a vs ns gr y1 ho hd hcd hmg hobj hints hlen hgen => ?_
  obtain ⟨fd, cs, sp, c1, c2, c3, c4, c5, c6⟩ := F w mg fa _ y1 (hY w _ y1) gr.T.g hmg
  exact law_callG (hY w _ y1) gr.T.g gr.T.b gr.T.builtins gr.T.nolimit hgen c1 c2 c3 gr.T.bmain hobj hints (Nat.le_trans hlen hn2) hr (let ⟨mm, hm, _⟩ := (gr.T.seer hi).mods; ⟨mm, hm⟩) c6 c4 fun H tabs sq => c5 H a ns hlen tabs sq
end Gd

/-! shown data as data: code points, lengths -/
namespace SkT
open PySem
theorem ok_of (s : String) : PyData.strOk (Str.ofString s) = true := by
  unfold PyData.strOk
  rw [Str.ofString_eq_toList, List.all_toArray, List.all_eq_true]
  intro n hn
  obtain ⟨c, _, rfl⟩ := List.mem_map.mp hn
  refine decide_eq_true ?_
  have := c.valid
  unfold Char.toNat
  rcases this with h | h
  · exact Nat.lt_trans h (by decide)
  · exact h.2
theorem ok_app {a b : Str} (h1 : PyData.strOk a = true) (h2 : PyData.strOk b = true) : PyData.strOk (a ++ b) = true := by
  unfold PyData.strOk at h1 h2 ⊢
  show (a.cps ++ b.cps).all _ = true
  rw [Array.all_append, h1, h2]
  rfl
theorem ok_join {sep : Str} (hs : PyData.strOk sep = true) : ∀ {ts : List Str}, (∀ t ∈ ts, PyData.strOk t = true) → PyData.strOk (Str.join sep ts) = true
  | [], _ => (by decide +kernel : PyData.strOk Str.empty = true)
  | [x], h => h x List.mem_cons_self
  | x :: y :: r, h => ok_app (ok_app (h x List.mem_cons_self) hs) (ok_join hs fun t ht => h t (List.mem_cons_of_mem _ ht))
theorem ok_from : ∀ {ts : List Str} {k : Nat} {acc : Str}, PyData.strOk acc = true → (∀ t ∈ ts, PyData.strOk t = true) → PyData.strOk (textFrom k acc ts) = true
  | [], _, _, ha, _ => ha
  | t :: r, k, acc, ha, h => by
    rw [textFrom]
    exact ok_from (ok_app (ok_app ha (ok_of _)) (h t List.mem_cons_self)) fun x hx => h x (List.mem_cons_of_mem _ hx)
theorem ok_list {ts : List Str} (h : ∀ t ∈ ts, PyData.strOk t = true) : PyData.strOk (listText ts) = true := ok_app (ok_from (ok_of _) h) (ok_of _)
theorem ok_tup {ts : List Str} (h : ∀ t ∈ ts, PyData.strOk t = true) : PyData.strOk (tupleText ts) = true := ok_app (ok_app (ok_of _) (ok_join (ok_of _) h)) (ok_of _)
theorem join_le : ∀ ts : List Str, (Str.join ", " ts).length ≤ (ts.map fun t => t.length + 2).sum
  | [] => Nat.le_refl _
  | [x] => by
    show x.length ≤ _
    simp
  | x :: y :: r => by
    show (x ++ ", " ++ Str.join ", " (y :: r)).length ≤ _
    rw [strLen_append, strLen_append, show (", " : Str).length = 2 by decide +kernel]
    have := join_le (y :: r)
    rw [List.map_cons, List.sum_cons]
    omega
theorem tup_le (ts : List Str) : (tupleText ts).length ≤ (ts.map fun t => t.length + 2).sum + 3 := by
  unfold tupleText
  rw [strLen_append, strLen_append, show ("(" : Str).length = 1 by decide +kernel]
  have := join_le ts
  have : (Str.ofString (if ts.length == 1 then ",)" else ")" : String)).length ≤ 2 := by
    split
    · decide +kernel
    · decide +kernel
  omega
theorem from_le : ∀ (ts : List Str) (k : Nat) (acc : Str), (textFrom k acc ts).length ≤ acc.length + (ts.map fun t => t.length + 2).sum
  | [], _, _ => by simp [textFrom]
  | t :: r, k, acc => by
    rw [textFrom]
    have ih := from_le r (k + 1) (acc ++ (if k > 0 then ", " else "" : String) ++ t)
    rw [strLen_append, strLen_append] at ih
    have : (Str.ofString (if k > 0 then ", " else "" : String)).length ≤ 2 := by
      split
      · decide +kernel
      · decide +kernel
    rw [List.map_cons, List.sum_cons]
    omega
theorem list_le (ts : List Str) : (listText ts).length ≤ (ts.map fun t => t.length + 2).sum + 2 := by
  unfold listText
  rw [strLen_append, show ("]" : Str).length = 1 by decide +kernel]
  have := from_le ts 0 "["
  rw [show ("[" : Str).length = 1 by decide +kernel] at this
  omega
/-- data that can be shown; n bounds its text, k its depth -/
structure Sw (n k : Nat) (d : PyData) : Prop where
  sh : d.showable = true
  dp : d.depth ≤ k
  ln : d.shown.length ≤ n
  ok : PyData.strOk d.shown = true
theorem Sw.mono {n m k j : Nat} {d : PyData} (h : Sw n k d) (a : n ≤ m) (b : k ≤ j) : Sw m j d := ⟨h.sh, Nat.le_trans h.dp b, Nat.le_trans h.ln a, h.ok⟩
theorem sw_all {n k : Nat} : ∀ {ds : List PyData}, (∀ x ∈ ds, Sw n k x) → PyData.showableAll ds = true ∧ PyData.depthAll ds ≤ k ∧ ((PyData.shownAll ds).map fun t => t.length + 2).sum ≤ (n + 2) * ds.length ∧ ∀ t ∈ PyData.shownAll ds, PyData.strOk t = true
  | [], _ => ⟨rfl, by simp [PyData.depthAll], by simp [PyData.shownAll], fun t h => by simp [PyData.shownAll] at h⟩
  | d :: r, h => by
    obtain ⟨a, b, c, e⟩ := sw_all (ds := r) fun x hx => h x (List.mem_cons_of_mem _ hx)
    have hd := h d List.mem_cons_self
    refine ⟨?_, ?_, ?_, ?_⟩
    · rw [PyData.showableAll, a, hd.sh]; rfl
    · rw [PyData.depthAll]; exact Nat.max_le.mpr ⟨hd.dp, b⟩
    · rw [PyData.shownAll, List.map_cons, List.sum_cons, List.length_cons, Nat.mul_succ]
      have := hd.ln
      omega
    · intro t ht
      rw [PyData.shownAll] at ht
      rcases List.mem_cons.mp ht with rfl | z
      · exact hd.ok
      · exact e t z
theorem sw_tup {n k : Nat} {ds : List PyData} (h : ∀ x ∈ ds, Sw n k x) : Sw ((n + 2) * ds.length + 3) (k + 1) (.tuple ds) := by
  obtain ⟨a, b, c, e⟩ := sw_all h
  refine ⟨by rw [PyData.showable]; exact a, by rw [PyData.depth]; omega, ?_, ?_⟩
  · rw [PyData.shown]
    exact Nat.le_trans (tup_le _) (by omega)
  · rw [PyData.shown]
    exact ok_tup e
theorem sw_lst {n k : Nat} {ds : List PyData} (h : ∀ x ∈ ds, Sw n k x) : Sw ((n + 2) * ds.length + 2) (k + 1) (.list ds) := by
  obtain ⟨a, b, c, e⟩ := sw_all h
  refine ⟨by rw [PyData.showable]; exact a, by rw [PyData.depth]; omega, ?_, ?_⟩
  · rw [PyData.shown]
    exact Nat.le_trans (list_le _) (by omega)
  · rw [PyData.shown]
    exact ok_list e
theorem log_nat {n : Nat} (h : n < 10 ^ 20) : (n : Nat).log2 < 1920 := by
  by_cases h0 : n = 0
  · rw [h0]; decide
  · exact Nat.lt_of_lt_of_le ((Nat.log2_lt h0).mpr (Nat.lt_of_lt_of_le h (show 10 ^ 20 ≤ 2 ^ 70 by decide))) (by decide)
theorem sw_int {i : Int} {n : Nat} (h : i.natAbs < 10 ^ 20) (hl : (PyData.shown (.int i)).length ≤ n) : Sw n 0 (.int i) := ⟨by simp only [PyData.showable, decide_eq_true_eq]; exact log_nat h, by simp [PyData.depth], hl, ok_of _⟩
theorem sw_bl (b : Bool) : Sw 5 0 (.bool b) := by cases b <;> exact ⟨rfl, by simp [PyData.depth], by decide +kernel, by decide +kernel⟩
theorem sw_non : Sw 4 0 .none := ⟨rfl, by simp [PyData.depth], by decide +kernel, by decide +kernel⟩
/-- two rows of two words as data -/
theorem shaped2 {a b : Str} (h1 : PyData.strOk a = true) (h2 : PyData.strOk b = true) : SeqAt.shaped (.list [.str a, .str b]) = true := by
  unfold SeqAt.shaped
  simp [PyData.canLay0, PyData.canLayAll0, h1, h2, PyData.depth, PyData.depthAll]
theorem shaped3 {a b : Str} {c : Bool} (h1 : PyData.strOk a = true) (h2 : PyData.strOk b = true) : SeqAt.shaped (.list [.str a, .str b, .bool c]) = true := by
  unfold SeqAt.shaped
  simp [PyData.canLay0, PyData.canLayAll0, h1, h2, PyData.depth, PyData.depthAll]
end SkT

/-! repr of any plain data, also behind a caught error; the types of plain data; slices of lists of counts -/
namespace RpA
open PySem L2 Gd
theorem ext_same {H H' : Hp} (s : Same H H') : LamX.ExtN H H' := fun b o e _ => s b o e
mutual
theorem dq_ext {H H' : Hp} (s : LamX.ExtN H H') : ∀ {v : V} {d : PyData}, Dq H v d → Dq H' v d
  | _, _, .non => .non
  | _, _, .bl b => .bl b
  | _, _, .int i => .int i
  | _, _, .str x => .str x
  | _, _, .lst ha hd => .lst (s _ _ ha (by intro ps z; cases z)) (dqa_ext s hd)
  | _, _, .tup ha hd => .tup (s _ _ ha (by intro ps z; cases z)) (dqa_ext s hd)
  | _, _, .dct ha => .dct (s _ _ ha (by intro ps z; cases z))
theorem dqa_ext {H H' : Hp} (s : LamX.ExtN H H') : ∀ {vs : List V} {ds : List PyData}, DqA H vs ds → DqA H' vs ds
  | _, _, .nil => .nil
  | _, _, .cons a b => .cons (dq_ext s a) (dqa_ext s b)
end
theorem dqa_app {H : Hp} : ∀ {vs ws : List V} {ds es : List PyData}, DqA H vs ds → DqA H ws es → DqA H (vs ++ ws) (ds ++ es)
  | _, _, _, _, .nil, b => b
  | _, _, _, _, .cons a t, b => .cons a (dqa_app t b)
theorem dqa_len {H : Hp} : ∀ {vs : List V} {ds : List PyData}, DqA H vs ds → vs.length = ds.length
  | _, _, .nil => rfl
  | _, _, .cons _ t => by rw [List.length_cons, List.length_cons, dqa_len t]
theorem dqa_mem {H : Hp} : ∀ {vs : List V} {ds : List PyData}, DqA H vs ds → ∀ x ∈ vs, ∃ d ∈ ds, Dq H x d
  | _, _, .nil, _, h => nomatch h
  | _, _, .cons a t, x, h => by
    rcases List.mem_cons.mp h with rfl | z
    · exact ⟨_, List.mem_cons_self, a⟩
    · obtain ⟨d, m, q⟩ := dqa_mem t x z
      exact ⟨d, List.mem_cons_of_mem _ m, q⟩
/-- the name of the type -/
def tyN : PyData → String
  | .none => "NoneType"
  | .bool _ => "bool"
  | .int _ => "int"
  | .str _ => "str"
  | .list _ => "list"
  | .tuple _ => "tuple"
  | .dict _ => "dict"
theorem dq_ty {K : PySem.W.Frag} {H : Hp} {v : V} {d : PyData} (q : Dq H v d) : TyX K H v (.type (tyN d)) := by
  cases q with
  | non => exact .base .non
  | bl b => exact .base (.bl b)
  | int i => exact .base (.int i)
  | str x => exact .base (.str x)
  | lst h _ => exact .base (.lst h)
  | tup h _ => exact .base (.tup h)
  | dct h => exact .base (.dK h)
/-- repr of such data -/
def rReprA : List V → Hp → VK → Prop := fun xs H Q => ∃ (v : V) (d : PyData) (n : Nat), xs = [v] ∧ Dq H v d ∧ SkT.Sw n 64 d ∧ n ≤ sizeLine ∧ Q (.str d.shown) H
theorem call_reprA {X : Cx} {ob : Obj} (hg : X.A.guards = some []) (hu : X.A.units + 66 < cLine) (sm : X.base.get? sysModules = some ob) : CallR X (.builtin "repr") rReprA := by
  intro pins s σ H xs us Q I r h
  obtain ⟨v, d, n, rfl, hd, hs, hn, q⟩ := h
  obtain ⟨u, rfl, ru⟩ := vals1 r
  have ref : ∀ a, v = .ref a → wpAny (model X.prog X.w) X.A (PySem.call (.builtin "repr") [u]) (fun u' s' => ∃ (v' : V) (H' : Hp), Inv X pins σ H' s' ∧ RelV v' u' ∧ Q v' H') X.xe s := fun a e => by
    subst e
    cases (show u = Value.ref a from ru)
    obtain ⟨as, h1, h2⟩ := hd.reads I (u := .ref a) rfl
    have no : sysModules ∉ as := fun hm => h2 _ hm (I.env0.bs _ _ sm).2
    have := hs.dp
    refine repr_of_reads' h1 hs.sh (fun _ => no) hg (by omega) (fun _ _ e => e) (fun h' u tk hk => ?_) (Nat.le_trans hs.ln hn)
    exact ⟨.str d.shown, H, I.kept (t' := tk) hk, ⟨_, rfl⟩, q⟩
  cases hd with
  | non =>
    cases ru
    exact PySem.P.repr_of_none ⟨.str _, H, I.tok _, ⟨_, rfl⟩, q⟩
  | bl b =>
    cases ru
    exact PySem.P.repr_of_bool ⟨.str _, H, I.tok _, ⟨_, rfl⟩, q⟩
  | int i =>
    obtain ⟨t, rfl⟩ := ru
    exact PySem.P.repr_of_int (by have := hs.sh; simpa [PyData.showable] using this) ⟨.str _, H, I.tok _, ⟨_, rfl⟩, q⟩
  | str x =>
    obtain ⟨t, rfl⟩ := ru
    exact PySem.P.repr_of_str ⟨.str _, H, I.tok _, ⟨_, rfl⟩, q⟩ (Nat.le_trans hs.ln hn)
  | lst ha hd => exact ref _ rfl
  | tup ha hd => exact ref _ rfl
  | dct ha => exact ref _ rfl
theorem sl_from {K : PySem.W.Frag} {Q : VK} {H : Hp} {l : Addr} {vs : List V} {n : Int} {k : Nat} (hl : H l = some (.lst vs)) (e : n = (k : Nat)) (h : ∀ z, H z = none → ∀ H', Same H H' → H' z = some (.lst (vs.drop k)) → Q (.ref z) H') : rSlL K (.ref l) (some n) none H Q := by
  refine ⟨l, vs, rfl, SqL.of hl, fun z nz => ?_⟩
  rw [e, Cm.cut_from]
  exact h z nz _ (fun b o q => by rw [upd_ne (ne_of_none q nz)]; exact q) upd_same
theorem sl_to {K : PySem.W.Frag} {Q : VK} {H : Hp} {l : Addr} {vs : List V} {n : Int} {k : Nat} (hl : H l = some (.lst vs)) (e : n = (k : Nat)) (hk : k ≤ vs.length) (h : ∀ z, H z = none → ∀ H', Same H H' → H' z = some (.lst (vs.take k)) → Q (.ref z) H') : rSlL K (.ref l) none (some n) H Q := by
  refine ⟨l, vs, rfl, SqL.of hl, fun z nz => ?_⟩
  rw [e, Cm.cut_to _ _ hk]
  exact h z nz _ (fun b o q => by rw [upd_ne (ne_of_none q nz)]; exact q) upd_same
theorem cat {Q : VK} {H : Hp} {p r : Addr} {xs ys : List V} (hp : H p = some (.lst xs)) (hr : H r = some (.lst ys)) (hl : xs.length + ys.length ≤ sizeLine) (k : ∀ z, H z = none → ∀ H', Same H H' → H' z = some (.lst (xs ++ ys)) → Q (.ref z) H') : rCat (.ref p) (.ref r) H Q :=
  ⟨p, r, xs, ys, rfl, rfl, hp, hr, hl, fun z nz => k z nz _ (fun b o q => by rw [upd_ne (ne_of_none q nz)]; exact q) upd_same⟩
end RpA

/-! try with several clauses `except C as n`, all of one name -/
namespace TryAs
open PySem PySem.Spec PyProof.Rows L2
/-- a clause: its class, and what its suite does -/
structure Cl where
  c : Value
  ts : Addr → Value → Option Addr → TS
/-- behind a suite the name is gone -/
def bare (i : Nat) (D : Ends) : Ends := ⟨fun σ H => D.nx (σ.set i none) H, D.rt, fun σ H => D.bk (σ.set i none) H, fun σ H => D.ct (σ.set i none) H⟩
def wish (K : PySem.W.Frag) (i : Nat) (out : WX) (D : Ends) : List Cl → WX
  | [] => out
  | k :: ks => fun cls d σ H => ∃ yes, PySem.W.exmOne K cls k.c = some yes ∧ cond yes (∀ e, H e = none → k.ts e cls d (bare i D) (σ.set i (some (.ref e))) H) (wish K i out D ks cls d σ H)
inductive Cls (X : Cx) (n : Str) : List ExceptHandler → List Cl → Prop
  | stop : Cls X n [] []
  | more {x : Str} {k : Cl} {st : Stmt} {sts : List Stmt} {p1 p2 : Pos} {hds : List ExceptHandler} {ks : List Cl} : Names X x k.c →
      (∀ (e : Addr) (o : Obj) (cls : Value) (d : Option Addr) (pn : List (Addr × Obj)), Zc cls d o → (∃ vs, o.data = .fields vs) → PSs (X.suite e ((e, o) :: pn)) (st :: sts) (k.ts e cls d)) → Cls X n hds ks →
      Cls X n (.ExceptHandler (some (.Name x p1)) (some n) (st :: sts) p2 :: hds) (k :: ks)
section
variable {X : Cx} {n : Str} {i : Nat} {out : WX} {D : Ends} {pins : List (Addr × Obj)} {σ : L2.St} {H : Hp} {sI : Shared} {B : Heap} {e : Addr} {cls : Value} {d : Option Addr}
/-- an error that has come down in X, sI is the state without it -/
structure Down (X : Cx) (pins : List (Addr × Obj)) (σ : L2.St) (H : Hp) (sI : Shared) (B : Heap) (e : Addr) (cls : Value) (d : Option Addr) (h : Heap) : Prop where
  J : Inv X pins σ H sI
  nb : ∀ b o, sI.heap.get? b = some o → b ∉ frs X.stack → B.get? b = some o
  up : sI.heap.UpToSlots h
  fl : HandSPX.FlyingZ B (X.env :: X.outer) e (Zc cls d) h
  na : H e = none
theorem Down.here {h : Heap} {s : Shared} (Z : Down X pins σ H sI B e cls d h) (os : s.os = sI.os) (ag : AllBare s.gens) : Inv X pins σ H { s with heap := h } := Z.J.landed Z.nb Z.fl.1 Z.up os ag
theorem Down.outside {h : Heap} (Z : Down X pins σ H sI B e cls d h) (hf : X.env.frame = some X.env.locals) : e ≠ X.env.locals ∧ e ∉ X.fs := by
  have no : e ∉ frs (X.env :: X.outer) := fun m => by
    obtain ⟨o1, vs, g1, _, f1⟩ := Z.fl.there
    obtain ⟨_, o2, g2, f2⟩ := Z.fl.2.2.1.mem m
    exact f2 vs ((congrArg Obj.data (Option.some.inj (g2.symm.trans g1))).trans f1)
  refine ⟨fun q => no ?_, fun q => no ?_⟩
  · exact q ▸ List.mem_filterMap.mpr ⟨X.env, List.mem_cons_self, hf⟩
  · obtain ⟨v, h1, h2⟩ := List.mem_filterMap.mp q
    exact List.mem_filterMap.mpr ⟨v, List.mem_cons_of_mem _ h1, h2⟩
/-- no clause has taken it: it goes on -/
theorem Down.on {h : Heap} {s : Shared} (Z : Down X pins σ H sI B e cls d h) (hs : X.stack = X.env :: X.outer) (hf : X.env.frame = some X.env.locals) (tk : Takes X out) (os : s.os = sI.os) (ag : AllBare s.gens) (w : out cls d σ H) :
    wpAny (model X.prog X.w) X.A (handleBy (.ref e) X.env []) (SP X pins D) X.xe { s with heap := h } := by
  refine wpAny_handleBy_nil ?_
  have last : wpAny (model X.prog X.w) X.A (setFlight (.ref e) X.env.frame) (fun _ t => wpAny (model X.prog X.w) X.A (throw (.ref e) : Sem Flow) (SP X pins D) X.xe t) X.xe { s with heap := h } := by
    rw [hf]
    exact HandSPX.setFlight_upZ Z.fl fun g held u => wpAny_throw (tk _ _ ⟨e, B, sI, pins, σ, H, cls, d, rfl, Z.J, Z.nb, Z.up.trans u, .inr (.inr (hs ▸ held)), Z.na, os, ag, w⟩)
  obtain ⟨_, _, _, o, vs, T, _, _, g1, _, g2, g3, _⟩ := id Z.fl
  unfold PySem.passOn
  refine wpAny_bind (wpAny_field g1 g2 g3 ?_)
  have ne : ¬ ((Value.ref T == Value.none) = true) := by simp
  rw [if_neg ne]
  first
    | exact wpAny_bind (wpAny_pure (wpAny_bind last))
    | exact wpAny_bind last
theorem Cls.run (hs : X.stack = X.env :: X.outer) (hf : X.env.frame = some X.env.locals) (nd : X.N.Nodup) (hi : X.N[i]? = some n) (ln : X.env.kindOf n = some .local) (tk : Takes X out) {h : Heap} {s : Shared} (Z : Down X pins σ H sI B e cls d h) (os : s.os = sI.os) (ag : AllBare s.gens) :
    ∀ {hds : List ExceptHandler} {ks : List Cl}, Cls X n hds ks → wish X.K i out D ks cls d σ H → wpAny (model X.prog X.w) X.A (handleBy (.ref e) X.env hds) (SP X pins D) X.xe { s with heap := h }
  | _, _, .stop, w => Z.on hs hf tk os ag w
  | _, _, .more (x := x) (k := k) (p1 := p1) (p2 := p2) nm ru re, w => by
    obtain ⟨yes, ex, w⟩ := w
    have I3 := Z.here os ag
    obtain ⟨n1, n2⟩ := Z.outside hf
    obtain ⟨o3, v3, g3, z3, f3⟩ := Z.fl.there
    have S3 := I3.suite g3 f3 Z.na n1 n2
    have ty : PySem.W.Looks (model X.prog X.w) h (typeOf (.ref e)) cls := fun _ _ _ _ kk q => wpAny_typeOf_ref (kk _ _ g3) (z3.1.symm ▸ q)
    have mt := PySem.W.exm_one (M := model X.prog X.w) I3.kIn ty ex
    have look : ∀ {Q E : Value → Shared → Prop}, Q k.c { s with heap := h } → wpAny (model X.prog X.w) (X.A.mark (some (.ref e))) (eval (.Name x p1) X.env) Q E { s with heap := h } := fun {Q E} q => by
      obtain ⟨gl, db, m1 | ⟨m1, m2, m3⟩⟩ := nm
      · exact ld_glob (X := X.suite e ((e, o3) :: (X.pn ++ pins))) S3 gl m1 q db
      · exact ld_blt (X := X.suite e ((e, o3) :: (X.pn ++ pins))) S3 gl m1 m2 q m3 db
    refine wpAny_handleBy_cons (codeAny_handlers_test (look (mt.here ?_))) fun q => nomatch q
    cases yes with
    | false => exact Cls.run hs hf nd hi ln tk Z os ag re w
    | true =>
      refine codeAny_handlers_suite_as (HandSPX.lands_againZ Z.fl fun g fl u => ?_)
      have Z4 : Down X pins σ H sI B e cls d g := ⟨Z.J, Z.nb, Z.up.trans u, fl, Z.na⟩
      have I4 := Z4.here os ag
      obtain ⟨o4, v4, g4, z4, f4⟩ := fl.there
      refine store_ok (X := X.suite e ((e, o4) :: (X.pn ++ pins))) (v := .ref e) (I4.suite g4 f4 Z.na n1 n2) nd hi (.inl ln) rfl (fun s5 S5 => ?_) (.inr ln)
      have run5 := (ru e o4 cls d (X.pn ++ pins) z4 ⟨v4, f4⟩).run [] s5 _ H (bare i D) S5 (w e Z.na)
      refine wpAny_mono run5 (fun fw s6 r6 => ?_) fun _ _ z => z.elim
      have gone : ∀ {σ6 : L2.St} {H6 : Hp} {q : Addr × Obj} {Q : Shared → Prop}, Inv (X.suite e (q :: (X.pn ++ pins))) [] σ6 H6 s6 → (∀ s7, Inv X pins (σ6.set i none) H6 s7 → Q s7) → wpAny (model X.prog X.w) X.A (do bindName X.env n .none; unbindBehindTheSuite X.env n p2) (fun _ s7 => Q s7) X.xe s6 :=
        fun S6 k => gone_ok (S6.unsuite Z.J.ok) nd hi ln k
      match fw, r6 with
      | .next, ⟨σ6, H6, S6, k6⟩ => exact gone S6 fun s7 I7 => ⟨_, _, I7, k6⟩
      | .brk, ⟨σ6, H6, S6, k6⟩ => exact gone S6 fun s7 I7 => ⟨_, _, I7, k6⟩
      | .cont, ⟨σ6, H6, S6, k6⟩ => exact gone S6 fun s7 I7 => ⟨_, _, I7, k6⟩
      | .ret v, ⟨v6, σ6, H6, S6, rv, k6⟩ => exact gone S6 fun s7 I7 => ⟨_, _, _, I7, rv, k6⟩
variable {body : List Stmt} {hd : ExceptHandler} {hds : List ExceptHandler} {ks : List Cl} {pos : Pos} {tb : WX → TS}
/-- the rule -/
theorem ps_try_asN (hs : X.stack = X.env :: X.outer) (hf : X.env.frame = some X.env.locals) (nd : X.N.Nodup) (hi : X.N[i]? = some n) (ln : X.env.kindOf n = some .local) (tk : Takes X out)
    (hb : ∀ (W : WX) (pn : List (Addr × Obj)) (xe : Value → Shared → Prop), Takes (X.tr pn xe) W → PassesOwn (model X.prog X.w) X.A X.env xe → PSs (X.tr pn xe) body (tb W)) (hh : Cls X n (hd :: hds) ks) :
    PS X (.Try body (hd :: hds) [] [] pos) fun D σ H => tb (wish X.K i out D ks) D σ H := by
  refine ⟨fun pins s σ H D I h => wpAny_Try_except ?_⟩
  have fr : X.A.frames = some (X.env :: X.outer) := I.ok.frames.trans (congrArg some hs)
  refine wpAny_mono ((hb _ (X.pn ++ pins) _ ?_ PassesOwn.looking).run [] s σ H D (I.toTry _) h) (fun fw t r => ?_) fun _ _ z => z
  · rintro _ t ⟨e, B, sI, _, σ1, H1, cls, d, rfl, J, nb, up, sky, na, os, ag, w⟩
    refine Sky.land Zc.steady fr hf (hs ▸ sky) fun g fl u => ?_
    exact Cls.run hs hf nd hi ln tk ⟨J.ofTry I.ok, nb, up.trans u, fl, na⟩ os ag hh w
  · match fw, r with
    | .next, ⟨_, _, J, q⟩ => exact wpAny_execs_nil ⟨_, _, J.ofTry I.ok, q⟩
    | .brk, ⟨_, _, J, q⟩ => exact ⟨_, _, J.ofTry I.ok, q⟩
    | .cont, ⟨_, _, J, q⟩ => exact ⟨_, _, J.ofTry I.ok, q⟩
    | .ret v, ⟨_, _, _, J, rv, q⟩ => exact ⟨_, _, _, J.ofTry I.ok, rv, q⟩
end
end TryAs

namespace IsX
open PySem L2
/-! ### isinstance of a caught error that bears a field -/
structure XiC (K : PySem.W.Frag) (D : Addr) : Prop where
  xf : XfC K D
  ic : (PySem.W.clsIn K D).isSome = true
  c1 : PySem.W.findIn K (.ref D) "__class__" = some (some (.builtin "object.__class__"))
  c2 : PySem.W.specialIn K (.builtin "object.__class__") "__get__" = some (some (.builtin "getset_descriptor.__get__"))
  c3 : PySem.W.takesIn K (.builtin "object.__class__") = some true
  c4 : PySem.W.mroIn K D (.type "object") = some true
def rIsX (K : PySem.W.Frag) (D a : Addr) (cls : Value) (d : Option Addr) : List V → Hp → VK → Prop := fun xs H Q => ∃ (c : V) (cv : Value) (b : Bool) (dd : Addr) (fs : List (Str × V)), xs = [.ref a, c] ∧ (∀ u, RelV c u → u = cv) ∧ cls = .ref D ∧ d = some dd ∧ H dd = some (.xd fs) ∧ PySem.W.kitOne K (.ref D) cv = some b ∧ Q (.bl b) H
theorem call_isX {X : Cx} {a D : Addr} {oe : Obj} {cls : Value} {d : Option Addr} {pn : List (Addr × Obj)} (C : XiC X.K D) (hz : Zc cls d oe) (hf : ∃ vs, oe.data = .fields vs) : CallR (X.suite a ((a, oe) :: pn)) (.builtin "isinstance") (rIsX X.K D a cls d) := by
  intro pins s σ H xs us Q I r h
  obtain ⟨c, cv, b, dd, fs, rfl, hcv, rfl, rfl, hdd, e, q⟩ := h
  cases r with
  | cons rx rr =>
    cases rr with
    | cons rt rr =>
      cases rr
      cases rx
      cases hcv _ rt
      obtain ⟨hget, _⟩ := I.pin (a, oe) (List.mem_append.mpr (.inl List.mem_cons_self))
      obtain ⟨vs, hv⟩ := hf
      have hx : ObjOk X.prog X.w H s.heap dd (.xd fs) := I.hok dd _ hdd
      obtain ⟨mA, hns, _⟩ := hx
      obtain ⟨od, ho, _⟩ := lookIn_ns hns
      have J : PySem.W.InstAt s.heap a oe D (some od) := ⟨hget, hz.1, by unfold PySem.W.notCls; rw [hv] <;> rfl, by rw [hz.2]; exact ho⟩
      exact PySem.W.kia_one (PySem.W.kitx_exc (gt := none) C.ic C.xf.ga C.xf.gg C.xf.exC C.c1 C.c2 C.c3 C.c4) I.kIn J e (fun z => nomatch z) fun tk => ⟨.bl b, H, I.kept (t' := tk) fun _ _ z => z, rfl, q⟩
/-- the slots are as many as the names -/
theorem takes_len {X : Cx} {W : WX} (tk : Takes X W) : Takes X (fun cls d σ H => σ.length = X.N.length → W cls d σ H) := fun u s2 ⟨a, B, sI, pins, σ, H, cls, d, e, I, nb, up, sky, na, os, ag, h⟩ =>
  tk u s2 ⟨a, B, sI, pins, σ, H, cls, d, e, I, nb, up, sky, na, os, ag, h I.len⟩
theorem len3 {σ : St} (h : σ.length = 3) : ∃ a b c, σ = [a, b, c] := by
  match σ, h with
  | [a, b, c], _ => exact ⟨a, b, c, rfl⟩
end IsX

/-! laws that hand lambdas to _law_came: what stays, the tables of code -/
namespace My
open PySem L2
def qLam : Str := ("_law_right" : Str) ++ ".<locals>." ++ "<lambda>"
/-- all but the jar and the tables is as it was -/
def OffN (j : Addr) (H H' : Hp) : Prop := ∀ b o, b ≠ j → (∀ ps, o ≠ .tbl ps) → H b = some o → H' b = some o
theorem OffN.refl {j : Addr} {H : Hp} : OffN j H H := fun _ _ _ _ h => h
theorem OffN.trans {j : Addr} {H H1 H2 : Hp} (a : OffN j H H1) (b : OffN j H1 H2) : OffN j H H2 := fun c o n t h => b c o n t (a c o n t h)
theorem Off.offN {j : Addr} {H H' : Hp} (a : Off j H H') : OffN j H H' := fun c o n _ h => a c o n h
theorem extN_off {j : Addr} {H H' : Hp} (a : LamX.ExtN H H') : OffN j H H' := fun c o _ t h => a c o h t
theorem Jar.ext {j : Addr} {H H' : Hp} (h : Jar H j) (a : LamX.ExtN H H') : Jar H' j := by
  obtain ⟨x, y, z, e⟩ := h
  exact ⟨x, y, z, a _ _ e (by intro ps q; cases q)⟩
theorem tabs_off {T : List (Addr × Str)} {j : Addr} {H H' : Hp} (J : Jar H j) (o : Off j H H') (t : LamX.Tabs T H) : LamX.Tabs T H' := fun p hp => by
  obtain ⟨x, y, z, q⟩ := J
  obtain ⟨ps, a1, a2, a3⟩ := t p hp
  refine ⟨ps, o _ _ (fun e => ?_) a1, a2, fun pos cv hcv => ?_⟩
  · rw [e, q] at a1
    cases a1
  · obtain ⟨c, e, h⟩ := a3 pos cv hcv
    refine ⟨c, e, o _ _ (fun e => ?_) h⟩
    rw [e, q] at h
    cases h
def spRight (PR : Addr) : Sp := fun vs H Q _ => ∃ j : Addr, vs = [.ref j] ∧ Jar H j ∧ LamX.Tabs [(PR, qLam)] H ∧ ∀ H', OffN j H H' → LamX.Tabs [(PR, qLam)] H' → Q (.bl true) H'
/-- the state of a law's turns: the jar, the tables -/
structure Ts (PR j : Addr) (H0 H : Hp) : Prop where
  off : OffN j H0 H
  jar : Jar H j
  tab : LamX.Tabs [(PR, qLam)] H
theorem Ts.same {PR j : Addr} {H0 H H' : Hp} (t : Ts PR j H0 H) (s : Same H H') : Ts PR j H0 H' := ⟨t.off.trans (Same.off s).offN, t.jar.same s, t.tab.ext s⟩
theorem Ts.off' {PR j : Addr} {H0 H H' : Hp} (t : Ts PR j H0 H) (o : Off j H H') (J : Jar H' j) : Ts PR j H0 H' := ⟨t.off.trans o.offN, J, tabs_off t.jar o t.tab⟩
theorem Ts.ext {PR j : Addr} {H0 H H' : Hp} (t : Ts PR j H0 H) (o : LamX.ExtN H H') (T : LamX.Tabs [(PR, qLam)] H') : Ts PR j H0 H' := ⟨t.off.trans (extN_off o), t.jar.ext o, T⟩
end My

/-! texts of chains, read by splitting at spaces; changed texts -/
namespace CH
open PySem L2 TL
def pieceOk (p : Str) : Bool := match Txt.split p " " with
  | [a, b] => decide (a ∈ kds) && decide (b ∈ widths)
  | _ => false
theorem nS_ne {n : Nat} (h1 : 1 ≤ n) (h2 : n ≤ 12) : nS n ≠ Str.empty := by
  have : ∀ i ∈ List.range 13, 1 ≤ i → nS i ≠ Str.empty := by decide +kernel
  exact this n (List.mem_range.mpr (by omega)) h1
theorem kdS_mem (k : Kd) : kdS k ∈ kds := by cases k <;> decide +kernel
theorem mem_kds {w : Str} (h : w ∈ kds) : ∃ k, w = kdS k := by
  cases e : kdOf w with
  | none => exact absurd h (kdOf_none e)
  | some k => exact ⟨k, kdOf_some e⟩
theorem mem_wid {d : Str} (h : d ∈ widths) : ∃ n, d = nS n ∧ 1 ≤ n ∧ n ≤ 12 := by
  have q := numOf_mem d
  rw [decide_eq_true h] at q
  obtain ⟨n, e⟩ := Option.isSome_iff_exists.mp q.symm
  exact ⟨n, numOf_some e⟩
theorem wid_mem {n : Nat} (h1 : 1 ≤ n) (h2 : n ≤ 12) : nS n ∈ widths := List.mem_map.mpr ⟨n - 1, List.mem_range.mpr (by omega), by rw [show n - 1 + 1 = n by omega]⟩
theorem cutter_text {p : Str} {c : Kd × Nat} (h : cutterOf p = some c) : p = cutT c := by
  unfold cutterOf at h
  cases h1 : kdOf (Txt.partition p " ").1 with
  | none => rw [h1] at h; cases h
  | some k =>
    cases h2 : numOf (Txt.partition p " ").2.2 with
    | none => rw [h1, h2] at h; cases h
    | some n =>
      rw [h1, h2] at h
      cases h
      obtain ⟨e, n1, n2⟩ := numOf_some h2
      have e0 := kdOf_some h1
      have hne : ((Txt.partition p " ").2.1.length != 0) = true := by
        rcases PyProof.Rows.partition_whole p " " with ⟨z, _⟩ | ⟨i, z, _⟩
        · rw [z] at e
          exact absurd e.symm (nS_ne n1 n2)
        · rw [z]
          show ((" " : Str).length != 0) = true
          decide +kernel
      have := LM.part_back hne
      rw [e0, e] at this
      exact this
theorem piece_iff (p : Str) : pieceOk p = (cutterOf p).isSome := by
  cases h : cutterOf p with
  | some c =>
    have ct := cutter_ct h
    unfold pieceOk
    rw [cutter_text h, ct.f.s]
    show (decide (kdS c.1 ∈ kds) && decide (nS c.2 ∈ widths)) = true
    rw [decide_eq_true (kdS_mem _), decide_eq_true (wid_mem ct.1 ct.2)]
    rfl
  | none =>
    cases hp : pieceOk p with
    | false => rfl
    | true =>
      unfold pieceOk at hp
      split at hp
      · rename_i a b e
        rw [Bool.and_eq_true] at hp
        obtain ⟨k, rfl⟩ := mem_kds (of_decide_eq_true hp.1)
        obtain ⟨n, rfl, n1, n2⟩ := mem_wid (of_decide_eq_true hp.2)
        have j := PySem.StrLaws.join_split p " "
        rw [e] at j
        have j : kdS k ++ (" " : Str) ++ nS n = p := j
        have ct : Ct (k, n) := ⟨n1, n2⟩
        have := ct.f.p
        rw [show cutT (k, n) = p from j, h] at this
        cases this
      · cases hp
theorem good_line (t : Str) : goodC t = (decide ((parts t).length ≤ 6) && (parts t).all pieceOk) := by
  unfold goodC
  rw [Bool.and_comm]
  congr 1
  congr 1
  funext p
  exact (piece_iff p).symm
/-! ### signs of changed texts -/
theorem asc_cut {z : Str} (h : LM.Asc z) (lo hi : Option Int) : LM.Asc (cutS z lo hi) := by
  rw [LM.asc_iff] at h ⊢
  intro c hc
  refine h c ?_
  have : tl (cutS z lo hi) = ((tl z).drop (HT.sIx z.length 0 lo)).take (HT.sIx z.length z.length hi - HT.sIx z.length 0 lo) := rfl
  rw [this] at hc
  exact List.mem_of_mem_drop (List.mem_of_mem_take hc)
theorem spl_in (S : List Nat) : ∀ (k : Nat) (acc l : List Nat), ∀ p ∈ spl S k acc l, ∀ c ∈ p, c ∈ acc ∨ c ∈ l
  | k, acc, [], p, hp, c, hc => by
    rw [spl_nil] at hp
    rw [List.mem_singleton.mp hp] at hc
    exact .inl hc
  | 0, acc, x :: r, p, hp, c, hc => by
    cases h : pre S (x :: r) with
    | true =>
      rw [spl_hit h] at hp
      rcases List.mem_cons.mp hp with rfl | hp
      · exact .inl hc
      · rcases spl_in S (S.length - 1) [] r p hp c hc with h | h
        · exact nomatch h
        · exact .inr (List.mem_cons_of_mem _ h)
    | false =>
      rw [spl_miss h] at hp
      rcases spl_in S 0 (acc ++ [x]) r p hp c hc with h | h
      · rcases List.mem_append.mp h with h | h
        · exact .inl h
        · rw [List.mem_singleton.mp h]
          exact .inr List.mem_cons_self
      · exact .inr (List.mem_cons_of_mem _ h)
  | k + 1, acc, x :: r, p, hp, c, hc => by
    have hp : p ∈ spl S k acc r := hp
    rcases spl_in S k acc r p hp c hc with h | h
    · exact .inl h
    · exact .inr (List.mem_cons_of_mem _ h)
theorem asc_parts {z : Str} (h : LM.Asc z) : ∀ p ∈ parts z, LM.Asc p := fun p hp => by
  rw [LM.asc_iff] at h ⊢
  intro c hc
  rcases spl_in [44, 32] 0 [] (tl z) (tl p) (by rw [← splitC]; exact List.mem_map.mpr ⟨p, hp, rfl⟩) c hc with q | q
  · exact nomatch q
  · exact h c q
theorem parts_ne (z : Str) : parts z ≠ [] := fun e => by
  have := splitC z
  rw [e] at this
  have l := congrArg List.length this
  have : ∀ (k : Nat) (acc l : List Nat), spl [44, 32] k acc l ≠ [] := by
    intro k acc l
    induction l generalizing k acc with
    | nil => rw [spl_nil]; simp
    | cons x r ih =>
      cases k with
      | zero =>
        cases h : pre [44, 32] (x :: r) with
        | true => rw [spl_hit h]; simp
        | false => rw [spl_miss h]; exact ih _ _
      | succ k => exact ih _ _
  exact this 0 [] (tl z) (List.length_eq_zero_iff.mp l.symm)
/-- a changed text: plain signs, not long -/
structure Chg (t : Str) : Prop where
  a : LM.Asc t
  l : t.length ≤ 50000
/-- rows of such pieces -/
structure ChgL (n k : Nat) (ws : List Str) : Prop where
  a : ∀ w ∈ ws, LM.Asc w ∧ w.length ≤ k
  l : ws.length ≤ n
theorem ChgL.sum {n k : Nat} {ws : List Str} (h : ChgL n k ws) : (ws.map (·.length)).sum ≤ k * n := by
  have := LM.sum_le (n := k) (B := ws) fun w hw => (h.a w hw).2
  exact Nat.le_trans this (Nat.mul_le_mul_left _ h.l)
theorem ChgL.join {n k : Nat} {ws : List Str} (h : ChgL n k ws) (hz : k * n + n * 2 ≤ 50000) : Chg (Txt.join ", " ws) := by
  refine ⟨asc_joinC fun w hw => (h.a w hw).1, ?_⟩
  have a := joinC_len ws
  have b := h.sum
  have c := h.l
  omega
theorem ChgL.take {n k m : Nat} {ws : List Str} (h : ChgL n k ws) : ChgL n k (ws.take m) := ⟨fun w hw => h.a w (List.mem_of_mem_take hw), by rw [List.length_take]; have := h.l; omega⟩
theorem ChgL.drop {n k m : Nat} {ws : List Str} (h : ChgL n k ws) : ChgL n k (ws.drop m) := ⟨fun w hw => h.a w (List.mem_of_mem_drop hw), by rw [List.length_drop]; have := h.l; omega⟩
theorem ChgL.app {n m k : Nat} {ws us : List Str} (h : ChgL n k ws) (h2 : ChgL m k us) : ChgL (n + m) k (ws ++ us) := ⟨fun w hw => (List.mem_append.mp hw).elim (h.a w) (h2.a w), by rw [List.length_append]; have := h.l; have := h2.l; omega⟩
theorem parts_chg {z : Str} (h : LM.Asc z) (hl : z.length ≤ 100) : ChgL 101 100 (parts z) := ⟨fun w hw => ⟨asc_parts h w hw, Nat.le_trans (parts_word hw) hl⟩, by have := parts_len z; omega⟩
end CH
namespace CH
open PySem L2
/-- a text times an int -/
theorem op_mulS {X : Cx} : OpR X (binaryOp .Mult) (fun x y H Q => ∃ a n, x = .str a ∧ y = .int n ∧ MulOk a n ∧ Q (.str (Txt.mul a n)) H) := by
  intro pins s σ H x y v u Q I rx ry h
  obtain ⟨a, n, rfl, rfl, hok, q⟩ := h
  obtain ⟨t, rfl⟩ := rx
  obtain ⟨t', rfl⟩ := ry
  exact SB.mul hok fun t' tk => ⟨.str (Txt.mul a n), H, I.tok _, ⟨_, rfl⟩, q⟩
end CH

/-! the law's reading of a line, what came -/
namespace My
open PySem L2 Cm LM CH IsX
abbrev sIl : Stmt := top 23
abbrev sCame : Stmt := top 22
/-- what the text says for _law_came -/
structure TxCm (K : PySem.W.Frag) (mg : Str → Option Value) (CE : Addr) where
  CI : Addr
  isi : mg "isinstance" = none
  ve : mg "ValueError" = none
  gE : mg "InvalidText" = some (.ref CE)
  gI : mg "InputError" = some (.ref CI)
  x : XiC K CE
  nV : PySem.W.findIn K (.ref CE) "value" = some none
  te : PySem.W.exmOne K (.ref CE) (.ref CE) = some true
  k1 : PySem.W.kitOne K (.ref CE) (.ref CI) = some true
  k2 : PySem.W.kitOne K (.ref CE) (.type "ValueError") = some true
  cm : Df K mg "_law_came" sCame ["_law_ask"]
theorem scCame : FnScope ["_law_ask", "_law_given", "e"] ["_law_ask"] (defScope sCame) := ⟨rfl, rfl, rfl, by decide +kernel, rfl, by decide +kernel, by decide +kernel⟩
/-- what _law_came makes of a call -/
def TCame (CE : Addr) : (XK → Hp → VK → Prop) → Hp → VK → Prop := fun tl H Q =>
  tl (fun cls d H' => cls = .ref CE ∧ ∃ (dd : Addr) (v : V), d = some dd ∧ H' dd = some (.xd [("value", v)]) ∧ ∀ p, H' p = none → Q (.ref p) (upd H' p (.lst [.str "InvalidText", v, .bl true]))) H
    (fun v H' => ∃ u : V, some (some v) = some (some u) ∧ ∀ p, H' p = none → Q (.ref p) (upd H' p (.lst [.str "given", u])))
theorem pss_imp {X : Cx} {ss : List Stmt} {t t' : L2.TS} (h : PSs X ss t) (f : ∀ D σ H, t' D σ H → t D σ H) : PSs X ss t' := ⟨fun pins s σ H D I q => h.run pins s σ H D I (f _ _ _ q)⟩
def tGiv : L2.TS := fun D σ H => ∃ u : V, σ[1]? = some (some u) ∧ ∀ p, H p = none → D.rt (.ref p) (upd H p (.lst [.str "given", u]))
theorem came_gives {X : Cx} {CE : Addr} {cdg : Value} {q : Str} (T : TxCm X.K X.mg CE) :
    LamX.GivesTo X ["_law_ask", "_law_given", "e"] "_law_came" (defScope sCame) T.cm.f cdg (defBody sCame) "_law_ask" q (TCame CE) := by
  intro f c' s H Q tl act hc h
  refine ⟨_, pss_cons (ps_try_as (X := (cxOf C8.CX0 X.prog X.w X.K X.mg X.base ["_law_ask", "_law_given", "e"] "_law_came" (defScope sCame) T.cm.f cdg X.A X.stack s H C8.E0).nox) (i := 2) (c := .ref CE)
      (tb := fun W D σ H => ∃ Ech : XK, (∀ (cls : Value) (d : Option Addr) (σ' : L2.St) (H' : Hp), Ech cls d H' → σ'.length = 3 → W cls d σ' H') ∧ σ[0]? = some (some (.ref f)) ∧ H c' = some (LamX.CodeO c' q) ∧ tl Ech H fun v H2 => gName 1 v σ H2 D.nx)
      (Wout := fun _ _ _ _ => False) rfl rfl scCame.nd rfl rfl ⟨rfl, by decide, .inl T.gE⟩ LamX.takes0 (fun W pn xe tk _ => ?_)
      (fun a oe cls d pn hz hf => pss_one (ps_ret (pe_lst (pa_cons pe_str (pa_cons (pe_xf T.x.xf T.nV hz hf (pv 2)) (pa_cons (pe_and (pe_callB (call_isX T.x hz hf) (by rfl) T.isi (by decide +kernel) (pa_cons (pv 2) (pa_cons (pe_glob (v := .ref T.CI) rfl T.gI rfl) pa_nil)))
        (pe_one (pe_callB (call_isX T.x hz hf) (by rfl) T.isi (by decide +kernel) (pa_cons (pv 2) (pa_cons (pe_bltn (v := .ty "ValueError") (by rfl) T.ve (by decide +kernel) rfl) pa_nil))))) pa_nil)))))))
    (pss_imp (t' := tGiv) (pss_one (ps_ret (pe_lst (pa_cons pe_str (pa_cons (pv 1) pa_nil))))) (fun D σ H ⟨u, hσ, k⟩ => ⟨_, hσ, (by show 2 ≤ sizeLine; decide), k⟩)), ?_⟩
  · refine ⟨fun pins s2 σ H2 D I hh => ?_⟩
    obtain ⟨Ech, hW, h1, h2, h3⟩ := hh
    have hp := fun p1 p2 => act _ pn xe Ech p1 p2 (takes_len tk) (fun cls d σ' H' z => hW cls d σ' H' z)
    exact (pss_one (ps_set (i := 1) scCame.nd rfl (.inl rfl) (hp _ _))).run pins s2 σ H2 D I ⟨h1, h2, h3⟩
  · refine ⟨_, fun cls d σ' H' hh hl => ?_, rfl, hc, h⟩
    obtain ⟨rfl, dd, v, rfl, hdd, k⟩ := hh
    obtain ⟨x0, x1, x2, rfl⟩ := len3 hl
    refine ⟨true, T.te, fun _ a na => ?_, fun z => Bool.noConfusion z⟩
    refine ⟨_, rfl, rfl, rfl, dd, _, v, rfl, hdd, by simp [List.lookup], ?_⟩
    refine ⟨_, rfl, .ref T.CI, .ref T.CI, true, dd, _, rfl, fun u z => z, rfl, rfl, hdd, T.k1, true, rfl, iteT ?_⟩
    refine ⟨_, rfl, .ty "ValueError", .type "ValueError", true, dd, _, rfl, fun u z => z, rfl, rfl, hdd, T.k2, ?_⟩
    exact ⟨by show 3 ≤ sizeLine; decide, k⟩
section
variable {P : Program} {w : World} {K : PySem.W.Frag} {mg : Str → Option Value} {base : Heap}
/-! ### _law_is_line -/
def spIl : Sp := fun vs H Q _ => ∃ t : Str, vs = [.str t] ∧ t.length ≤ 50000 ∧ ∀ H', Same H H' → Q (.bl (goodC t)) H'
theorem scIl : FnScope ["_law_line", "_law_cutters_here", "_law_each", "_law_halves", "_law_k"] ["_law_line"] (defScope sIl) := ⟨rfl, rfl, rfl, by decide +kernel, rfl, by decide +kernel, by decide +kernel⟩
def teK : TE := fun σ H Q => ∃ i : Int, σ[4]? = some (some (.int i)) ∧ (1 + i).natAbs.log2 < 1920 ∧ Q (.str (toString (1 + i))) H
theorem good_no {t p : Str} (hp : p ∈ parts t) (h : pieceOk p = false) : goodC t = false := by
  rw [good_line, Bool.and_eq_false_iff]
  refine .inr ?_
  rw [List.all_eq_false]
  exact ⟨p, hp, by rw [h]; exact Bool.false_ne_true⟩
theorem ok_il (D : TxAd K mg) {f : Addr} {fd : FuncData} (F : Fun K "_law_is_line" "_law_is_line" sIl f fd) : FnOk P w K mg base CX0 2 f fd ["_law_line"] spIl := by
  refine F.ok scIl (fun vs H Q E h => ?_) (fun cdv A outer s H vs Q E hr h => ?_)
  · obtain ⟨t, rfl, _⟩ := h
    rfl
  · obtain ⟨t, rfl, hl, k⟩ := h
    refine ⟨_, (pss_cons (ps_set (i := 1) scIl.nd rfl (.inl rfl) (pe_split (pv 0) pe_str)) (pss_cons (ps_if (pt_cmpR op_gt (pe_callB call_len_seq (by rfl) D.J.len PySem.boot_len (pa_cons (pv 1) pa_nil)) pe_int (nomark _)) (pss_one (ps_ret pe_bl)) pss_nil) (pss_cons (ps_for PassesOwn.never rfl (pi_list (pv 1)) (pg_name (i := 2) scIl.nd rfl (.inl rfl)) (pss_cons (ps_set (i := 3) scIl.nd rfl (.inl rfl) (pe_split (pv 2) pe_str)) (pss_cons (ps_if (PW.pt (pw_or (pt_cmpR op_ne (pe_callB call_len_seq (by rfl) D.J.len PySem.boot_len (pa_cons (pv 3) pa_nil)) pe_int (nomark _)) (pw_or1 (pt_cmpR op_notIn_seq (pe_ix ix_list (pv 3) pe_int (fun _ _ => rfl)) (pe_lst (pa_cons pe_str (pa_cons pe_str (pa_cons pe_str pa_nil)))) (by rfl))))) (pss_one (ps_ret pe_bl)) pss_nil) (pss_one (ps_if (pt_cmpR op_notIn_seq (pe_ix ix_list (pv 3) pe_int (fun _ _ => rfl)) (pe_lc (own := [("_law_k", 4)]) (g := gName 4) (tt := tYes) (te := teK) rfl scIl.nd (pi_range1 rfl D.range (pa_cons pe_int pa_nil)) (blkOk_by (own := [("_law_k", 4)]) (N := ["_law_line", "_law_cutters_here", "_law_each", "_law_halves", "_law_k"]) (sc := defScope sIl) (by decide +kernel)) (fun _ _ _ _ _ => pg_name (i := 4) scIl.nd rfl (Or.inl rfl)) (fun _ _ _ _ _ => pts_nil) (fun _ _ _ _ _ => by exact pe_imp (t' := teK) (pe_callTy call_str_int (by rfl) D.str (by decide +kernel) (pa_cons (pe_op op_add pe_int (pv 4)) pa_nil)) (fun σ H Q ⟨i, h, hb, q⟩ => ⟨_, h, _, _, rfl, rfl, _, rfl, hb, q⟩))) (by rfl)) (pss_one (ps_ret pe_bl)) pss_nil))))) (pss_one (ps_ret pe_bl))))), ?_⟩
    have bd : Bd t := Nat.le_trans hl (by decide)
    have lp := parts_len t
    refine ⟨_, rfl, ⟨_, rfl⟩, t, ", ", rfl, rfl, by decide +kernel, bd.line2, fun l nl => ?_⟩
    have s1 : Same H (upd H l (.lst ((Txt.split t ", ").map V.str))) := same_new nl
    have hl1 : (upd H l (.lst ((Txt.split t ", ").map V.str))) l = some (.lst (svs (parts t))) := upd_same
    generalize upd H l (.lst ((Txt.split t ", ").map V.str)) = H1 at s1 hl1 ⊢
    have e1 : (svs (parts t)).length = (parts t).length := List.length_map ..
    refine ⟨_, rfl, l, _, rfl, .inl (SqL.of hl1), _, _, rfl, rfl, _, rfl, ?_⟩
    rw [e1]
    refine ite2 (fun c => ?_) (fun c => ?_)
    · have : goodC t = false := by
        rw [good_line, decide_eq_false (by have := of_decide_eq_true c; omega)]
        rfl
      rw [this] at k
      exact k _ s1
    have c : (parts t).length ≤ 6 := by
      have := mt decide_eq_true c
      omega
    refine ⟨_, rfl, l, rfl, ⟨_, SqL.of hl1⟩, for_list (K := K) (a := l) (xs := svs (parts t)) (fun i σ H' => (∃ v2 v3 v4 : Option V, σ = [some (.str t), some (.ref l), v2, v3, v4]) ∧ Same H1 H' ∧ ((parts t).take i).all pieceOk = true) ⟨⟨_, _, _, rfl⟩, Same.refl _, rfl⟩ (fun i σ H' _ ⟨_, s', _⟩ => SqL.of (s' _ _ hl1)) ?_ ?_⟩
    · rintro i y σ H2 hy ⟨⟨v2, v3, v4, rfl⟩, s2, al⟩
      obtain ⟨p, hp, rfl⟩ := svs_get hy
      have mp := List.mem_of_getElem? hp
      have bp : Bd p := Nat.le_trans (parts_word mp) bd
      refine ⟨_, rfl, ⟨_, rfl⟩, p, " ", rfl, rfl, by decide +kernel, bp.line2, fun h nh => ?_⟩
      have s3 : Same H2 (upd H2 h (.lst ((Txt.split p " ").map V.str))) := same_new nh
      have hh : (upd H2 h (.lst ((Txt.split p " ").map V.str))) h = some (.lst (svs (Txt.split p " "))) := upd_same
      generalize upd H2 h (.lst ((Txt.split p " ").map V.str)) = H3 at s3 hh ⊢
      have s13 := Same.trans s2 s3
      have e2 : (svs (Txt.split p " ")).length = (Txt.split p " ").length := List.length_map ..
      have bad : ∀ H', Same H3 H' → pieceOk p = false → Q (.bl false) H' := fun H' s' z => by
        rw [good_no mp z] at k
        exact k _ (Same.trans s1 (Same.trans s13 s'))
      refine ⟨_, rfl, h, _, rfl, .inl (SqL.of hh), rfl, _, rfl, ?_⟩
      rw [e2]
      by_cases c2 : (Txt.split p " ").length = 2
      · obtain ⟨a, b, hab⟩ : ∃ a b, Txt.split p " " = [a, b] := by
          match hx : Txt.split p " ", c2 with
          | [a, b], _ => exact ⟨a, b, rfl⟩
        have pk : pieceOk p = (decide (a ∈ kds) && decide (b ∈ widths)) := by
          unfold pieceOk
          rw [hab]
        rw [hab] at hh ⊢
        refine iteF ?_
        refine ⟨_, rfl, h, _, _, .str a, rfl, rfl, SqL.of hh, rfl, (by show 3 ≤ sizeLine; decide), fun q nq => ?_⟩
        refine ⟨q, svs kds, rfl, .inl (SqL.of upd_same), rfl, svs_flat _, _, rfl, ?_⟩
        show if (!inV (.str a) (svs kds)) = true then _ else _
        rw [inV_svs]
        have s4 : Same H3 (upd H3 q (.lst [.str "cut", .str "fill", .str "tail"])) := same_new nq
        by_cases ca : a ∈ kds
        · rw [decide_eq_true ca] at pk ⊢
          refine iteF ?_
          refine ⟨_, rfl, h, _, _, .str b, rfl, rfl, SqL.of (s4 _ _ hh), rfl, 12, rfl, by decide, by decide, fun Dd nD => ?_⟩
          generalize upd H3 q (.lst [.str "cut", .str "fill", .str "tail"]) = H4 at s4 nD ⊢
          refine lc_range (lo := 0) (n := 12) (fun i H' => Same H4 H' ∧ H' Dd = some (.lst (svs ((List.range i).map fun i => nS (i + 1))))) ⟨same_new nD, upd_same⟩ ?_ ?_
          · rintro i H' hi ⟨s', hD⟩
            refine ⟨rfl, _, rfl, ?_, _, hD, ?_, ?_⟩
            · have : ((1 : Int) + (0 + (i : Int))).natAbs = 1 + i := by omega
              rw [this]
              exact Nat.lt_of_le_of_lt (Nat.log2_le_self _) (by omega)
            · rw [show (svs ((List.range i).map fun i => nS (i + 1))).length = i by simp [svs]]
              exact szM (by omega)
            · refine ⟨fun b o q => ?_, ?_⟩
              · rw [upd_ne (ne_of_none q nD)]
                exact s' _ _ q
              · rw [upd_same, List.range_succ, List.map_append]
                have e : (1 : Int) + (0 + (i : Int)) = ((i + 1 : Nat) : Int) := by omega
                rw [e]
                simp [svs, nS]
          · rintro H5 ⟨s5, hD⟩
            have hD : H5 Dd = some (.lst (svs widths)) := hD
            refine ⟨Dd, _, rfl, .inl (SqL.of hD), rfl, svs_flat _, _, rfl, ?_⟩
            show if (!inV (.str b) (svs widths)) = true then _ else _
            rw [inV_svs]
            by_cases cb : b ∈ widths
            · rw [decide_eq_true cb] at pk ⊢
              refine iteF ⟨⟨_, _, _, rfl⟩, Same.trans s13 (Same.trans s4 s5), ?_⟩
              rw [take_snoc hp, List.all_append, al, Bool.true_and, List.all_cons, pk]
              rfl
            · rw [decide_eq_false cb] at pk ⊢
              exact iteT (bad _ (Same.trans s4 s5) pk)
        · rw [decide_eq_false ca] at pk ⊢
          exact iteT (bad _ s4 pk)
      · have z : pieceOk p = false := by
          unfold pieceOk
          split
          · rename_i a b e
            rw [e] at c2
            exact absurd rfl c2
          · rfl
        refine ite2 (fun _ => bad _ (Same.refl _) z) (fun c => absurd ?_ c)
        simp
        omega
    · rintro σ H2 ⟨⟨v2, v3, v4, rfl⟩, s2, al⟩
      rw [e1, List.take_length] at al
      have : goodC t = true := by
        rw [good_line, al, decide_eq_true c]
        rfl
      rw [this] at k
      exact k _ (Same.trans s1 s2)
end
end My

/-! how great counts are shown -/
namespace SH
open PySem L2
theorem log_nat {n : Nat} (h : n < 10 ^ 20) : (n : Nat).log2 < 1920 := by
  by_cases h0 : n = 0
  · rw [h0]; decide
  · exact Nat.lt_of_lt_of_le ((Nat.log2_lt h0).mpr (Nat.lt_of_lt_of_le h (show 10 ^ 20 ≤ 2 ^ 70 by decide))) (by decide)
theorem num_le {n : Nat} (h : n < 10 ^ 20) : (PyData.shown (.int (n : Int))).length ≤ 20 := by
  show (Str.ofString (toString ((n : Nat) : Int))).length ≤ 20
  rw [TL.len_tl, TL.tl_num]
  exact TL.numL_len (by decide) h
def pairD (a b : Nat) : PyData := .tuple [.int a, .int b]
theorem join_le : ∀ ts : List Str, (Str.join ", " ts).length ≤ (ts.map fun t => t.length + 2).sum
  | [] => Nat.le_refl _
  | [x] => by
    show x.length ≤ _
    simp
  | x :: y :: r => by
    show (x ++ ", " ++ Str.join ", " (y :: r)).length ≤ _
    rw [strLen_append, strLen_append, show (", " : Str).length = 2 by decide +kernel]
    have := join_le (y :: r)
    rw [List.map_cons, List.sum_cons]
    omega
theorem tup_le (ts : List Str) : (tupleText ts).length ≤ (ts.map fun t => t.length + 2).sum + 3 := by
  unfold tupleText
  rw [strLen_append, strLen_append, show ("(" : Str).length = 1 by decide +kernel]
  have := join_le ts
  have : (Str.ofString (if ts.length == 1 then ",)" else ")" : String)).length ≤ 2 := by
    split
    · decide +kernel
    · decide +kernel
  omega
theorem pair_ok {a b : Nat} (ha : a < 10 ^ 20) (hb : b < 10 ^ 20) : (pairD a b).showable = true ∧ (pairD a b).depth ≤ 64 ∧ (pairD a b).shown.length ≤ sizeLine := by
  refine ⟨?_, ?_, ?_⟩
  · simp only [pairD, PyData.showable, PyData.showableAll, Bool.and_true, Bool.and_eq_true, decide_eq_true_eq]
    exact ⟨by rw [Int.natAbs_natCast]; exact log_nat ha, by rw [Int.natAbs_natCast]; exact log_nat hb⟩
  · simp [pairD, PyData.depth, PyData.depthAll]
  · unfold pairD
    rw [PyData.shown]
    have := tup_le (PyData.shownAll [.int (a : Int), .int (b : Int)])
    have h1 := num_le ha
    have h2 := num_le hb
    simp only [PyData.shownAll, List.map_cons, List.map_nil, List.sum_cons, List.sum_nil] at this
    refine Nat.le_trans this (Nat.le_trans (show _ ≤ 100 by omega) (by decide))
end SH
namespace SH
open PySem L2
def tripD (a b c : Nat) : PyData := .list [.int a, .int b, .int c]
theorem from_le : ∀ (ts : List Str) (k : Nat) (acc : Str), (textFrom k acc ts).length ≤ acc.length + (ts.map fun t => t.length + 2).sum
  | [], _, _ => by simp [textFrom]
  | t :: r, k, acc => by
    rw [textFrom]
    have ih := from_le r (k + 1) (acc ++ (if k > 0 then ", " else "" : String) ++ t)
    rw [strLen_append, strLen_append] at ih
    have : (Str.ofString (if k > 0 then ", " else "" : String)).length ≤ 2 := by
      split
      · decide +kernel
      · decide +kernel
    rw [List.map_cons, List.sum_cons]
    omega
theorem list_le (ts : List Str) : (listText ts).length ≤ (ts.map fun t => t.length + 2).sum + 2 := by
  unfold listText
  rw [strLen_append, show ("]" : Str).length = 1 by decide +kernel]
  have := from_le ts 0 "["
  rw [show ("[" : Str).length = 1 by decide +kernel] at this
  omega
theorem trip_ok {a b c : Nat} (ha : a < 10 ^ 20) (hb : b < 10 ^ 20) (hc : c < 10 ^ 20) : (tripD a b c).showable = true ∧ (tripD a b c).depth ≤ 64 ∧ (tripD a b c).shown.length ≤ sizeLine := by
  refine ⟨?_, ?_, ?_⟩
  · simp only [tripD, PyData.showable, PyData.showableAll, Bool.and_true, Bool.and_eq_true, decide_eq_true_eq]
    exact ⟨by rw [Int.natAbs_natCast]; exact log_nat ha, by rw [Int.natAbs_natCast]; exact log_nat hb, by rw [Int.natAbs_natCast]; exact log_nat hc⟩
  · simp [tripD, PyData.depth, PyData.depthAll]
  · unfold tripD
    rw [PyData.shown]
    have := list_le (PyData.shownAll [.int (a : Int), .int (b : Int), .int (c : Int)])
    have h1 := num_le ha
    have h2 := num_le hb
    have h3 := num_le hc
    simp only [PyData.shownAll, List.map_cons, List.map_nil, List.sum_cons, List.sum_nil] at this
    refine Nat.le_trans this (Nat.le_trans (show _ ≤ 200 by omega) (by decide))
end SH

/-! changed lines -/
namespace My
open PySem L2 Cm LM CH RpA
abbrev sChg : Stmt := top 24
section
variable {P : Program} {w : World} {K : PySem.W.Frag} {mg : Str → Option Value} {base : Heap}
theorem svs_app (a b : List Str) : svs a ++ svs b = svs (a ++ b) := (List.map_append ..).symm
def litOk (ws : List Str) : Bool := ws.all fun w => PyData.strOk w && decide (w.length ≤ 100)
theorem lit_get {ws : List Str} (h : litOk ws = true) {i : Nat} {x : V} (hx : (svs ws)[i]? = some x) : ∃ z, x = .str z ∧ Asc z ∧ z.length ≤ 100 := by
  obtain ⟨z, hz, rfl⟩ := svs_get hx
  have := List.all_eq_true.mp h z (List.mem_of_getElem? hz)
  rw [Bool.and_eq_true] at this
  exact ⟨z, rfl, this.1, of_decide_eq_true this.2⟩
def lSome : List Str := [" ", ",", ", ", "0", "1", "2", "c", "T", "-", "\n", "+", "cut"]
def lOdd1 : List Str := ["cut 0", "fill 13", "tail 01", "cut", "5", "cut  3", "Fill 2", "cut -1", "cut 1 2", "", "fill 12"]
def lOdd2 : List Str := ["tail 100", "tail 12", "cut +3", "cut 1,2"]
def lTail : List Str := [", ", ",", " ", ", cut 3", ",fill 3", ",  cut 3", "; cut 3", "\n"]
def lEnd1 : List Str := ["", " ", ", ", Txt.mul "cut 3," 2, Txt.mul "cut 1, " 6 ++ "cut 1", Txt.mul "cut 1, " 5 ++ "cut 1"]
def lEnd2 : List Str := ["3 cut", " cut 3"]
theorem lits : litOk lSome = true ∧ litOk (lOdd1 ++ lOdd2) = true ∧ litOk lTail = true ∧ litOk (lEnd1 ++ lEnd2) = true := by decide +kernel
theorem muls : MulOk "cut 3," 2 ∧ MulOk "cut 1, " 6 ∧ MulOk "cut 1, " 5 := by
  refine ⟨⟨?_, ?_, ?_⟩, ⟨?_, ?_, ?_⟩, ⟨?_, ?_, ?_⟩⟩ <;> decide +kernel
def spChg : Sp := fun vs H Q _ => ∃ (j : Addr) (t : Str), vs = [.ref j, .str t] ∧ Jar H j ∧ Asc t ∧ t.length ≤ 100 ∧ ∀ (H' : Hp) (t' : Str), Off j H H' → Jar H' j → Chg t' → Q (.str t') H'
abbrev NC : List Str := ["_law_jar_here", "_law_line", "_law_way", "_law_at", "_law_some", "_law_cutters_here", "_law_spot", "_law_odd", "_law_after"]
theorem scChg : FnScope NC ["_law_jar_here", "_law_line"] (defScope sChg) := ⟨rfl, rfl, rfl, by decide +kernel, rfl, by decide +kernel, by decide +kernel⟩
theorem ok_chg (D : TxAd K mg) {f : Addr} {fd : FuncData} (F : Fun K "_law_changed" "_law_changed" sChg f fd) : FnOk P w K mg base CX0 3 f fd ["_law_jar_here", "_law_line"] spChg := by
  have GS : FnOk P w K mg base CX0 1 D.sip.f D.sip.fd ["_law_jar_here", "_law_many"] spSip := ga_sip D
  have GF : FnOk P w K mg base CX0 2 D.frm.f D.frm.fd ["_law_jar_here", "_law_things"] (spFrom K) := ga_from D
  refine F.ok scChg (fun vs H Q E h => ?_) (fun cdv A outer s H vs Q E hr h => ?_)
  · obtain ⟨j, t, rfl, _⟩ := h
    rfl
  · obtain ⟨j, t, rfl, hJ, ha, hl, k⟩ := h
    have hr1 : Room 1 _ := hr.mono (by decide)
    have bd : Bd t := Nat.le_trans hl (by decide)
    refine ⟨_, (pss_cons (ps_par (i := 2) (j := 3) rfl scChg.nd rfl rfl (by decide) rfl rfl (pa_cons (pe_call GS hr1 rfl D.sip.g D.sip.k D.sip.b .nil pass0 (pa_cons (pv 0) (pa_cons pe_int pa_nil))) (pa_cons (pe_call GS hr1 rfl D.sip.g D.sip.k D.sip.b .nil pass0 (pa_cons (pv 0) (pa_cons (pe_op op_add (pe_callB call_len_str (by rfl) D.J.len PySem.boot_len (pa_cons (pv 1) pa_nil)) pe_int) pa_nil))) pa_nil)) (by rfl)) (pss_cons (ps_set (i := 4) scChg.nd rfl (.inl rfl) (pe_lst (pa_cons pe_str (pa_cons pe_str (pa_cons pe_str (pa_cons pe_str (pa_cons pe_str (pa_cons pe_str (pa_cons pe_str (pa_cons pe_str (pa_cons pe_str (pa_cons pe_str (pa_cons pe_str (pa_cons pe_str pa_nil)))))))))))))) (pss_cons (ps_if (pt_cmpR op_lt (pv 2) pe_int (nomark _)) (pss_one (ps_ret (pe_op op_add_str (pe_op op_add_str (pe_slice sl_str (pv 1) po_none (po_some (pv 3))) (pe_call GF hr rfl D.frm.g D.frm.k D.frm.b .nil pass0 (pa_cons (pv 0) (pa_cons (pv 4) pa_nil)))) (pe_slice sl_str (pv 1) (po_some (pv 3)) po_none)))) pss_nil) (pss_cons (ps_if (pt_cmpR op_lt (pv 2) pe_int (nomark _)) (pss_one (ps_ret (pe_op op_add_str (pe_slice sl_str (pv 1) po_none (po_some (pv 3))) (pe_slice sl_str (pv 1) (po_some (pe_op op_add (pv 3) pe_int)) po_none)))) pss_nil) (pss_cons (ps_if (pt_cmpR op_eq (pv 2) pe_int (nomark _)) (pss_one (ps_ret (pe_op op_add_str (pe_op op_add_str (pe_slice sl_str (pv 1) po_none (po_some (pv 3))) (pe_call GF hr rfl D.frm.g D.frm.k D.frm.b .nil pass0 (pa_cons (pv 0) (pa_cons (pv 4) pa_nil)))) (pe_slice sl_str (pv 1) (po_some (pe_op op_add (pv 3) pe_int)) po_none)))) pss_nil) (pss_cons (ps_set (i := 5) scChg.nd rfl (.inl rfl) (pe_split (pv 1) pe_str)) (pss_cons (ps_set (i := 6) scChg.nd rfl (.inl rfl) (pe_call GS hr1 rfl D.sip.g D.sip.k D.sip.b .nil pass0 (pa_cons (pv 0) (pa_cons (pe_callB call_len_seq (by rfl) D.J.len PySem.boot_len (pa_cons (pv 5) pa_nil)) pa_nil)))) (pss_cons (ps_set (i := 7) scChg.nd rfl (.inl rfl) (pe_lst (pa_cons pe_str (pa_cons pe_str (pa_cons pe_str (pa_cons pe_str (pa_cons pe_str (pa_cons pe_str (pa_cons pe_str (pa_cons pe_str (pa_cons pe_str (pa_cons pe_str (pa_cons pe_str pa_nil))))))))))))) (pss_cons (ps_set (i := 7) scChg.nd rfl (.inl rfl) (pe_op op_cat (pv 7) (pe_lst (pa_cons pe_str (pa_cons pe_str (pa_cons pe_str (pa_cons pe_str pa_nil))))))) (pss_cons (ps_if (pt_cmpR op_lt (pv 2) pe_int (nomark _)) (pss_cons (ps_set (i := 8) scChg.nd rfl (.inl rfl) (pe_slice sl_list (pv 5) (po_some (pe_op op_add (pv 6) (pe_callTy call_int1 (by rfl) D.J.int (by decide +kernel) (pa_cons (pe_cmpR op_gt (pv 2) pe_int (nomark _)) pa_nil)))) po_none)) (pss_one (ps_ret (pe_join pe_str (pe_op op_cat (pe_op op_cat (pe_slice sl_list (pv 5) po_none (po_some (pv 6))) (pe_lst (pa_cons (pe_call GF hr rfl D.frm.g D.frm.k D.frm.b .nil pass0 (pa_cons (pv 0) (pa_cons (pv 7) pa_nil))) pa_nil))) (pv 8)))))) pss_nil) (pss_cons (ps_if (pt_cmpR op_eq (pv 2) pe_int (nomark _)) (pss_one (ps_ret (pe_op op_add_str (pv 1) (pe_call GF hr rfl D.frm.g D.frm.k D.frm.b .nil pass0 (pa_cons (pv 0) (pa_cons (pe_lst (pa_cons pe_str (pa_cons pe_str (pa_cons pe_str (pa_cons pe_str (pa_cons pe_str (pa_cons pe_str (pa_cons pe_str (pa_cons pe_str pa_nil))))))))) pa_nil)))))) pss_nil) (pss_cons (ps_set (i := 4) scChg.nd rfl (.inl rfl) (pe_lst (pa_cons pe_str (pa_cons pe_str (pa_cons pe_str (pa_cons (pe_op op_mulS pe_str pe_int) (pa_cons (pe_op op_add_str (pe_op op_mulS pe_str pe_int) pe_str) (pa_cons (pe_op op_add_str (pe_op op_mulS pe_str pe_int) pe_str) pa_nil)))))))) (pss_one (ps_ret (pe_call GF hr rfl D.frm.g D.frm.k D.frm.b .nil pass0 (pa_cons (pv 0) (pa_cons (pe_op op_cat (pv 4) (pe_lst (pa_cons pe_str (pa_cons pe_str pa_nil)))) pa_nil))))))))))))))))), ?_⟩
    unfold tNoPart
    refine ⟨_, rfl, j, 9, rfl, hJ, by decide, by decide, fun H1 y y0 y1 o1 J1 => ?_⟩
    refine ⟨_, rfl, _, rfl, t, rfl, bd.line, _, _, rfl, rfl, j, _, rfl, J1, by omega, by omega, fun H2 a a0 a1 o2 J2 => ⟨_, _, rfl, ?_⟩⟩
    refine ⟨(by show 12 ≤ sizeLine; decide), fun l nl => ?_⟩
    have lj := jar_ne J2 nl
    have s3 := same_new (o := .lst (svs lSome)) nl
    have hl3 : (upd H2 l (.lst (svs lSome))) l = some (.lst (svs lSome)) := upd_same
    have o3 : Off j H (upd H2 l (.lst (svs lSome))) := (o1.trans o2).trans (Same.off s3)
    have J3 := J2.same s3
    have hl3' : (upd H2 l (.lst (svs lSome))) = upd H2 l (.lst [.str " ", .str ",", .str ", ", .str "0", .str "1", .str "2", .str "c", .str "T", .str "-", .str "\n", .str "+", .str "cut"]) := rfl
    rw [hl3'] at hl3 o3 J3
    clear hl3' s3
    generalize upd H2 l (.lst [.str " ", .str ",", .str ", ", .str "0", .str "1", .str "2", .str "c", .str "T", .str "-", .str "\n", .str "+", .str "cut"]) = H3 at hl3 o3 J3 ⊢
    have cl := fun lo hi => cutS_length t lo hi
    have ca := fun lo hi => asc_cut ha lo hi
    refine ⟨_, rfl, _, _, rfl, rfl, _, rfl, ite2 (fun c => ?_) (fun c => ?_)⟩
    · refine ⟨_, rfl, _, rfl, a, rfl, t, rfl, bd.line, _, rfl, _, rfl, j, l, svs lSome, rfl, J3, lj, SqL.of hl3, by decide, by decide, fun H4 ix x hx o4 J4 => ?_⟩
      obtain ⟨z, rfl, az, lz⟩ := lit_get lits.1 hx
      have l1 := cl none (some a)
      have l2 := cl (some a) none
      refine ⟨_, _, rfl, rfl, szl (by omega), _, rfl, _, rfl, a, rfl, t, rfl, bd.line, _, _, rfl, rfl, szl (by rw [strLen_append]; omega), k _ _ (o3.trans o4) J4 ⟨((ca _ _).app az).app (ca _ _), ?_⟩⟩
      rw [strLen_append, strLen_append]
      omega
    refine ⟨_, rfl, _, _, rfl, rfl, _, rfl, ite2 (fun c => ?_) (fun c => ?_)⟩
    · have l1 := cl none (some a)
      have l2 := cl (some (a + 1)) none
      refine ⟨_, rfl, _, rfl, a, rfl, t, rfl, bd.line, _, rfl, _, rfl, _, _, rfl, rfl, _, rfl, t, rfl, bd.line, _, _, rfl, rfl, szl (by omega), k _ _ o3 J3 ⟨(ca _ _).app (ca _ _), ?_⟩⟩
      rw [strLen_append]
      omega
    refine ⟨_, rfl, rfl, _, rfl, ite2 (fun c => ?_) (fun c => ?_)⟩
    · refine ⟨_, rfl, _, rfl, a, rfl, t, rfl, bd.line, _, rfl, _, rfl, j, l, svs lSome, rfl, J3, lj, SqL.of hl3, by decide, by decide, fun H4 ix x hx o4 J4 => ?_⟩
      obtain ⟨z, rfl, az, lz⟩ := lit_get lits.1 hx
      have l1 := cl none (some a)
      have l2 := cl (some (a + 1)) none
      refine ⟨_, _, rfl, rfl, szl (by omega), _, rfl, _, rfl, _, _, rfl, rfl, _, rfl, t, rfl, bd.line, _, _, rfl, rfl, szl (by rw [strLen_append]; omega), k _ _ (o3.trans o4) J4 ⟨((ca _ _).app az).app (ca _ _), ?_⟩⟩
      rw [strLen_append, strLen_append]
      omega
    -- pieces
    refine ⟨_, rfl, ⟨_, rfl⟩, t, ", ", rfl, rfl, by decide +kernel, bd.line2, fun q nq => ?_⟩
    have pc := parts_chg ha hl
    have pne := parts_ne t
    have s4 : Same H3 (upd H3 q (.lst ((Txt.split t ", ").map V.str))) := same_new nq
    have hq4 : (upd H3 q (.lst ((Txt.split t ", ").map V.str))) q = some (.lst (svs (parts t))) := upd_same
    generalize upd H3 q (.lst ((Txt.split t ", ").map V.str)) = H4 at s4 hq4 ⊢
    have qj := jar_ne J3 nq
    have J4 := J3.same s4
    have o4 : Off j H H4 := o3.trans (Same.off s4)
    have e1 : (svs (parts t)).length = (parts t).length := List.length_map ..
    have pl := pc.l
    have p0 : 0 < (parts t).length := List.length_pos_iff.mpr pne
    refine ⟨_, rfl, _, rfl, q, _, rfl, .inl (SqL.of hq4), j, _, rfl, J4, by rw [e1]; omega, by rw [e1]; omega, fun H5 b b0 b1 o5 J5 => ?_⟩
    obtain ⟨bn, rfl⟩ := Int.eq_ofNat_of_zero_le b0
    rw [e1] at b1
    have hq5 := o5 _ _ qj hq4
    refine ⟨(by show 11 ≤ sizeLine; decide), fun d1 nd1 => ?_⟩
    refine ⟨_, rfl, (by show 4 ≤ sizeLine; decide), fun d2 nd2 => cat (xs := svs lOdd1) (ys := svs lOdd2) (same_new nd2 _ _ upd_same) upd_same (by decide) fun od nod H6 s6 hod => ?_⟩
    rw [svs_app] at hod
    have s56 : Same H5 H6 := Same.trans (same_new nd1) (Same.trans (same_new nd2) s6)
    have J6a := (J5.same (same_new nd1)).same (same_new (o := .lst (svs lOdd2)) nd2)
    have odj := jar_ne J6a nod
    have J6 := J5.same s56
    have o6 : Off j H H6 := (o4.trans o5).trans (Same.off s56)
    have hq6 := s56 _ _ hq5
    clear J6a s6 nod nd2 nd1 s56
    refine ⟨_, rfl, _, _, rfl, rfl, _, rfl, ite2 (fun c => ?_) (fun c => ?_)⟩
    · refine ⟨_, rfl, _, rfl, _, rfl, _, _, rfl, rfl, .inr ⟨_, rfl, _, _, rfl, rfl, _, rfl, ?_⟩⟩
      refine sl_from (k := bn + (if decide (5 < y) = true then 1 else 0)) hq6 (by split <;> omega) fun z8 nz8 H7 s7 hz8 => ?_
      generalize bn + (if decide (5 < y) = true then 1 else 0) = kk at hz8
      have z8j := jar_ne J6 nz8
      have J7 := J6.same s7
      have o7 : Off j H H7 := o6.trans (Same.off s7)
      have hq7 := s7 _ _ hq6
      have hod7 := s7 _ _ hod
      refine ⟨⟨_, rfl⟩, _, rfl, _, rfl, _, rfl, ?_⟩
      refine sl_to (k := bn) hq7 rfl (by rw [e1]; omega) fun z9 nz9 H8 s8 hz9 => ?_
      have z9j := jar_ne J7 nz9
      have J8 := J7.same s8
      refine ⟨_, rfl, _, rfl, j, od, svs (lOdd1 ++ lOdd2), rfl, J8, odj, SqL.of (s8 _ _ hod7), by decide, by decide, fun H9 ix x hx o9 J9 => ?_⟩
      obtain ⟨z, rfl, az, lz⟩ := lit_get lits.2.1 hx
      have hz9' := o9 _ _ z9j hz9
      have hz8' := o9 _ _ z8j (s8 _ _ hz8)
      refine ⟨(by show 1 ≤ sizeLine; decide), fun r nr => ?_⟩
      have m1 : svs (parts t) = (parts t).map V.str := rfl
      rw [m1, ← List.map_take] at hz9'
      rw [m1, ← List.map_drop] at hz8'
      have c1 : ChgL 101 100 ((parts t).take bn) := pc.take
      have c2 : ChgL 101 100 ((parts t).drop kk) := pc.drop
      have c3 : ChgL 1 100 [z] := ⟨fun w hw => by rw [List.mem_singleton.mp hw]; exact ⟨az, lz⟩, Nat.le_refl _⟩
      have cc := (c1.app c3).app c2
      refine cat (xs := ((parts t).take bn).map V.str) (ys := [z].map V.str) (same_new nr _ _ hz9') upd_same ?_ fun u nu H10 s10 hu => ?_
      · have := c1.l
        rw [List.length_map]
        exact szl (by simp; omega)
      have hz8'' := s10 _ _ (same_new (o := .lst [.str z]) nr _ _ hz8')
      refine ⟨_, rfl, cat (xs := ((parts t).take bn ++ [z]).map V.str) (ys := ((parts t).drop kk).map V.str) (by rw [hu, List.map_append]) hz8'' ?_ fun u2 nu2 H11 s11 hu2 => ?_⟩
      · have := (c1.app c3).l
        have := c2.l
        rw [List.length_map, List.length_map]
        exact szl (by omega)
      refine ⟨", ", u2, (parts t).take bn ++ [z] ++ (parts t).drop kk, rfl, rfl, .inl (SqL.of (by rw [hu2, ← List.map_append])), ?_, ?_⟩
      · have := cc.sum
        have := cc.l
        rw [show (", " : Str).length = 2 by decide +kernel]
        omega
      · have s911 := Same.trans (same_new (o := .lst [.str z]) nr) (Same.trans s10 s11)
        exact k _ _ (((o7.trans (Same.off s8)).trans o9).trans (Same.off s911)) (J9.same s911) (cc.join (by decide))
    refine ⟨_, rfl, rfl, _, rfl, ite2 (fun c => ?_) (fun c => ?_)⟩
    · refine ⟨_, rfl, _, rfl, (by show 8 ≤ sizeLine; decide), fun l8 n8 => ?_⟩
      have s7 := same_new (o := .lst (svs lTail)) n8
      refine ⟨j, l8, svs lTail, rfl, J6.same s7, jar_ne J6 n8, SqL.of upd_same, by decide, by decide, fun H9 ix x hx o9 J9 => ?_⟩
      obtain ⟨z, rfl, az, lz⟩ := lit_get lits.2.2.1 hx
      refine ⟨_, _, rfl, rfl, szl (by omega), k _ _ ((o6.trans (Same.off s7)).trans o9) J9 ⟨ha.app az, ?_⟩⟩
      rw [strLen_append]
      omega
    obtain ⟨m1, m2, m3⟩ := muls
    refine ⟨_, _, rfl, rfl, m1, _, _, rfl, rfl, m2, _, _, rfl, rfl, ?_, _, _, rfl, rfl, m3, _, _, rfl, rfl, ?_, (by show 6 ≤ sizeLine; decide), fun l8 n8 => ?_⟩
    · exact szl (by decide +kernel)
    · exact szl (by decide +kernel)
    have s7 := same_new (o := .lst (svs lEnd1)) n8
    refine ⟨_, rfl, _, rfl, (by show 2 ≤ sizeLine; decide), fun l9 n9 => ?_⟩
    refine cat (xs := svs lEnd1) (ys := svs lEnd2) (same_new n9 _ _ upd_same) upd_same (by decide) fun l10 n10 H10 s10 h10 => ?_
    rw [svs_app] at h10
    have s9 := same_new (o := .lst (svs lEnd2)) n9
    have s610 := Same.trans s7 (Same.trans s9 s10)
    refine ⟨j, l10, svs (lEnd1 ++ lEnd2), rfl, J6.same s610, jar_ne (J6.same (Same.trans s7 s9)) n10, SqL.of h10, by decide, by decide, fun H11 ix x hx o11 J11 => ?_⟩
    obtain ⟨z, rfl, az, lz⟩ := lit_get lits.2.2.2 hx
    exact k _ _ ((o6.trans (Same.off s610)).trans o11) J11 ⟨az, by omega⟩
end
end My

/-! repr of a list in which instances with an own __repr__ stand -/
namespace RpL
open PySem PySem.Spec PyProof.Rows L2 Builtin Builtin.List
section
variable {M : Model} {prog : Program} {w : World} {A : Around} {E : Value → Shared → Prop} {s : Shared} {K : PySem.W.Frag} {x C f : Addr} {ox : Obj} {od : Option Obj} {name : Str}
theorem boundBy_K {last : Value → List Value → Sem Value} {Q : Option Value → Shared → Prop} (X : K.In s.heap) (I : PySem.W.InstAt s.heap x ox C od) (hs : PySem.W.findIn K (.ref C) name = some (some (.ref f))) (hf : PySem.W.isFn K (.ref f) = true)
    (h : wpAny M A (last (.ref f) [.ref x]) (fun v => Q (some v)) E s) : wpAny M A (callSpecialIfBoundBy? last (.ref x) name) Q E s := by
  simp only [callSpecialIfBoundBy?, bindSpecialIfBound?]
  refine wpAny_holding (wpAny_bind (wpAny_bind (wpAny_bind (I.type.here ((PySem.W.looks_findIn X hs).here ?_)))))
  refine wpAny_bind (wpAny_askSetting (wpAny_ite ?_))
  have fin : wpAny M A (last (.ref f) [.ref x] >>= fun v => pure (some v)) Q E s := wpAny_bind (wpAny_mono h (fun v s' h' => wpAny_pure h') fun _ _ h' => h')
  split
  · exact wpAny_bind ((PySem.W.bind_fn X _ (beq_iff_eq.mp hf)).here (wpAny_pure (by exact fin)))
  · exact wpAny_tryCatch (wpAny_bind ((PySem.W.bind_fn X _ (beq_iff_eq.mp hf)).here (wpAny_pure (by exact fin))))
end
/-- it shows as t wherever one asks below the running body, and only makes objects -/
def It (X : Cx) (n : Nat) (H : Hp) (v : V) (t : Str) : Prop :=
  ∀ (H1 : Hp), Same H H1 → ∀ (A : Around), Sub X n A → ∀ (pins : List (Addr × Obj)) (s : Shared) (σ : L2.St) (u : Value) (base : Nat) (Q : Str → Shared → Prop) (E : Value → Shared → Prop), Inv X pins σ H1 s → RelV v u → base + t.length ≤ sizeLine →
    (∀ (s' : Shared) (H2 : Hp), Same H1 H2 → Inv X pins σ H2 s' → Q t s') → wpAny (model X.prog X.w) A (pyReprUnder base u) Q E s
section
variable {X : Cx} {n : Nat} {H : Hp}
theorem it_is {v : V} {t : Str} (h : ∀ u, RelV v u → ReprIs X.prog X.w u t) : It X n H v t := fun H1 _ A _ pins s σ u base Q E I ru hb hQ =>
  h u ru base hb A E s Q fun tk => hQ _ H1 (Same.refl _) (I.tok tk)
theorem it_str {x : Str} (h : (reprText x).length ≤ sizeLine) : It X n H (.str x) (reprText x) := it_is fun u ru => by
  obtain ⟨t, rfl⟩ := ru
  exact ReprIs.str x t h
theorem it_int {i : Int} (h : i.natAbs.log2 < 1920) : It X n H (.int i) (toString i) := it_is fun u ru => by
  obtain ⟨t, rfl⟩ := ru
  exact ReprIs.int t h
theorem it_bl (b : Bool) : It X n H (.bl b) (if b then "True" else "False") := it_is fun u ru => by
  cases ru
  exact ReprIs.bool b
theorem it_non : It X n H .non "None" := it_is fun u ru => by
  cases ru
  exact ReprIs.none
/-- an instance with an own __repr__ -/
theorem it_own {C g o dx : Addr} {fs : List (Str × V)} {sp : Sp} {t : Str} (hs : PySem.W.findIn X.K (.ref C) "__repr__" = some (some (.ref g))) (hf : PySem.W.isFn X.K (.ref g) = true) (F : FnR X.prog X.w X.K X.mg X.base CX0 n g sp) (ho : H o = some (.ins C dx fs))
    (hsp : ∀ H1, Same H H1 → sp [.ref o] H1 (fun v H2 => v = .str t ∧ Same H1 H2) fun _ _ _ => False) : It X n H (.ref o) t := by
  intro H1 s1 A sb pins s σ u base Q E I ru hb hQ
  cases (show u = Value.ref o from ru)
  obtain ⟨ox, od, J⟩ := Own.inst_of I (s1 _ _ ho)
  have hu := sb.room.un
  refine wpAny_pyReprUnder_ref (by omega) ?_
  unfold pyReprObjUnder pyReprObjBy
  refine wpAny_bind (wpAny_cRoomFor (by omega) ?_)
  refine wpAny_bind (wpAny_bind (J.type.here ((PySem.W.looks_findIn I.kIn hs).here ?_)))
  show wpAny _ _ (if (some (Value.ref g)).isNone = true then _ else _) _ _ _
  rw [if_neg (by simp)]
  have e0 : Env0 X.prog X.w X.K X.mg X.base A X.stack s H1 := ⟨sb.fr.trans I.env0.frames, I.env0.mod, I.env0.bs, I.env0.bsz, I.env0.funs, I.env0.frf, I.env0.hok, I.env0.bare⟩
  refine wpAny_bind (m := callSpecialIfBoundBy? _ (.ref o) (Str.ofString "__repr__")) (boundBy_K I.kIn J hs hf ?_)
  show wpAny _ _ (call (.ref g) ([Value.ref o] ++ [])) _ _ _
  refine wpAny_call (codeAny_mono (F A X.stack s H1 [.ref o] [.ref o] _ _ sb.room e0 (.cons rfl .nil) (hsp H1 s1)) fun r s' hq => ?_)
  cases r with
  | error e => exact (show False from hq).elim
  | ok fl =>
    cases fl with
    | ret u =>
      obtain ⟨v, H2, I2, rv, ev, s2⟩ := I.after hq
      subst ev
      obtain ⟨tk, rfl⟩ := (show ∃ tk, u = Value.str t tk from rv)
      exact wpAny_bind (wpAny_isInstance (T := "str") (b := true) rfl isSubtype_str_str (wpAny_pure ⟨_, _, rfl, hQ s' H2 s2 I2⟩))
    | next => exact False.elim hq
    | brk => exact False.elim hq
    | cont => exact False.elim hq
end
section
variable {X : Cx} {n : Nat} {H : Hp}
theorem sub_under {A : Around} {args : Args} (sb : Sub X (n + 1) A) : Sub X n (A.under (.builtin "list.__repr__.loop" args)) := by
  have h1 := sb.room.hd
  have h2 := sb.room.dp
  have h3 := sb.room.un
  have e1 : (A.under (.builtin "list.__repr__.loop" args)).handled = A.handled := by first | rfl | simp [Around.under]
  have e2 : (A.under (.builtin "list.__repr__.loop" args)).depth = A.depth + 1 := by
    show A.depth + (Code.builtin "list.__repr__.loop" args).weight = _
    have : (Code.builtin "list.__repr__.loop" args).weight = 1 := by
      unfold Code.weight
      rw [isGuard_list_loop]
      rfl
    rw [this]
  have e3 : (A.under (.builtin "list.__repr__.loop" args)).frames = A.frames := by first | rfl | simp [Around.under, Code.frames, Code.isFrame]
  have e4 := units_under_list_loop A args
  exact ⟨⟨e1.trans h1, by rw [e2]; omega, by rw [e4]; omega⟩, e3.trans sb.fr⟩
theorem loop {A : Around} {R : Result → Shared → Prop} {a P : Addr} {vs : List V} {ts : List Str} {base : Nat} {pins : List (Addr × Obj)} {σ : L2.St} (sb : Sub X (n + 1) A) (hP0 : H P = none) (ha : H a = some (.lst vs)) (hlen : ts.length = vs.length) (hT : ∀ (i : Nat) (v : V), vs[i]? = some v → ∃ t, ts[i]? = some t ∧ It X n H v t) (hsz : base + (listText ts).length ≤ sizeLine)
    (hR : ∀ (s' : Shared) (H2 : Hp) (tk : Tok), Same H H2 → Inv X pins σ H2 s' → R (.ok (.ret (.str (listText ts) tk))) s') :
    ∀ (k i : Nat) (s : Shared) (H1 : Hp), vs.length - i = k → i ≤ vs.length → Same H H1 → Inv X pins σ H1 s → H1 P = some (.lst ((ts.take i).map V.str)) →
    codeAny (model X.prog X.w) A (.builtin "list.__repr__.loop" ⟨[.ref a, rawInt i, .ref P, rawInt ((base + piled (ts.take i) : Nat) : Int)], []⟩) R s := by
  have hX : (listText ts).length = (textFrom 0 "[" ts).length + 1 := by
    show (textFrom 0 "[" ts ++ "]").length = _
    rw [strLen_append]; rfl
  have hL := textFrom_len ts 0 "["
  have hsz2 : ∀ t ∈ ts, t.length ≤ sizeLine := fun t ht => by
    have h2 := hL.2.1 t ht
    omega
  have hsz3 : (listText ts).length ≤ sizeLine := by omega
  have hp3 := piled_le_listText ts
  have vals_str : ∀ (l : List Str) (its : List Value), Vals (l.map V.str) its → ∃ d : List (Str × Tok), its = strValues d ∧ d.map (·.1) = l := by
    intro l
    induction l with
    | nil =>
      intro its h
      cases h
      exact ⟨[], rfl, rfl⟩
    | cons x r ih =>
      intro its h
      cases h with
      | cons a t =>
        obtain ⟨tk, rfl⟩ := a
        obtain ⟨d, rfl, e⟩ := ih _ t
        exact ⟨(x, tk) :: d, rfl, by rw [List.map_cons, e]⟩
  intro k
  induction k with
  | zero =>
    intro i s H1 hk hi s1 I hP
    have hin : i = vs.length := by omega
    obtain ⟨z, its, na, rv, lv, ea⟩ := I.lstM (s1 _ _ ha)
    obtain ⟨zP, itsP, nP, rP, lP, eP⟩ := I.lstM hP
    refine codeAny_builtin F.entry_list_repr_loop ?_
    show wpAny _ _ («list.__repr__.loop» ⟨[.ref a, .int i 0, .ref P, .int ((base + piled (ts.take i) : Nat) : Int) 0], []⟩) _ _ s
    rw [repr_loop_tree]
    refine wpAny_bind (wpAny_listItems ea rfl ?_)
    have hnone : its.toArray[(i : Int).toNat]? = none := by simp; omega
    simp only [hnone]
    unfold reprEnd
    refine wpAny_bind (wpAny_listItems eP rfl ?_)
    obtain ⟨d, rfl, ed⟩ := vals_str _ _ rP
    have hall : d.map (·.1) = ts := by rw [ed, hin, ← hlen, List.take_length]
    rw [List.toList_toArray, repr_fold]
    refine wpAny_bind (wpAny_pure ?_)
    rw [hall]
    refine wpAny_bind (wpAny_mkStr (wpAny_pure ?_) hsz3)
    exact hR _ H1 _ s1 (I.tok _)
  | succ k ih =>
    intro i s H1 hk hi s1 I hP
    have hlt : i < vs.length := by omega
    obtain ⟨z, its, na, rv, lv, ea⟩ := I.lstM (s1 _ _ ha)
    obtain ⟨t, ht, hit⟩ := hT i vs[i] (List.getElem?_eq_getElem hlt)
    have hp1 := piled_take_succ ht
    have hp2 := piled_take_le ts (i + 1)
    have hil : i < its.length := by omega
    have ru : RelV vs[i] its[i] := by
      obtain ⟨u, e, r⟩ := rv.get (List.getElem?_eq_getElem hlt)
      rw [List.getElem?_eq_getElem hil] at e
      cases e
      exact r
    refine codeAny_builtin F.entry_list_repr_loop ?_
    show wpAny _ _ («list.__repr__.loop» ⟨[.ref a, .int i 0, .ref P, .int ((base + piled (ts.take i) : Nat) : Int) 0], []⟩) _ _ s
    rw [repr_loop_tree]
    refine wpAny_bind (wpAny_listItems ea rfl ?_)
    have hsome : its.toArray[(i : Int).toNat]? = some its[i] := by simp [hil]
    simp only [hsome]
    rw [Int.toNat_natCast]
    refine wpAny_bind (wpAny_holding (hit H1 s1 _ (sub_under sb) pins s σ _ (base + piled (ts.take i) + 1) _ _ I ru (by omega) fun s' H2 s2 I2 => ?_))
    refine wpAny_bind (wpAny_mkStr ?_ (hsz2 t (List.mem_of_getElem? ht)))
    refine wpAny_bind ?_
    show wpAny _ _ (updateSeq P _) _ _ _
    have hP2 := s2 _ _ hP
    have I3 := I2.tok (s'.toks + 1)
    obtain ⟨zP, itsP, nP, rP, lP, eP⟩ := I3.lstM hP2
    have hasz : itsP.toArray.size ≤ sizeLine := by
      rw [List.size_toArray, ← lP, List.length_map, List.length_take]
      omega
    refine wpAny_updateSeq eP rfl (wpAny_pure ⟨F.quiet_list_repr_loop _, ?_⟩) hasz
    have e1 : ((i : Int) + 1) = ((i + 1 : Nat) : Int) := by omega
    have e2 : base + piled (ts.take i) + (t.length + 2) = base + piled (ts.take (i + 1)) := by omega
    rw [e1, e2]
    have tk : ts.take (i + 1) = ts.take i ++ [t] := by rw [List.take_add_one, ht]; rfl
    refine ih (i + 1) _ (upd H2 P (.lst ((ts.take (i + 1)).map V.str))) (by omega) hlt (fun b o e => ?_) ?_ upd_same
    · rw [upd_ne (ne_of_none e hP0)]
      exact s2 _ _ (s1 _ _ e)
    · have := I3.lset (its' := itsP ++ [Value.str t s'.toks]) (f := fun x => x.push (Value.str t s'.toks)) (ys := (ts.take (i + 1)).map V.str) (t' := s'.toks + 1) hP2 eP (by simp) (by rw [tk, List.map_append]; exact rP.append (.cons ⟨_, rfl⟩ .nil)) (by rw [List.length_map, List.length_take]; omega)
      exact this
end
/-- repr of such a list -/
def rReprL (X : Cx) (n : Nat) : List V → Hp → VK → Prop := fun xs H Q => ∃ (a : Addr) (vs : List V) (ts : List Str), xs = [.ref a] ∧ H a = some (.lst vs) ∧ vs ≠ [] ∧ ts.length = vs.length ∧ (∀ (i : Nat) (v : V), vs[i]? = some v → ∃ t, ts[i]? = some t ∧ It X n H v t) ∧ (listText ts).length ≤ sizeLine ∧ ∀ H', Same H H' → Q (.str (listText ts)) H'
theorem call_reprL {X : Cx} {n : Nat} (hg : X.A.guards = some []) (sb : Sub X (n + 1) X.A.in1) : CallR X (.builtin "repr") (rReprL X n) := by
  intro pins s σ H xs us Q I r h
  obtain ⟨a, vs, ts, rfl, ha, hne, hlen, hT, hsz, q⟩ := h
  obtain ⟨u, rfl, ru⟩ := vals1 r
  cases (show u = Value.ref a from ru)
  obtain ⟨z, its, na, rv, lv, ea⟩ := I.lstM ha
  obtain ⟨x, l, rfl⟩ : ∃ x l, its = x :: l := by
    cases its with
    | nil => cases vs with
      | nil => exact absurd rfl hne
      | cons => simp at lv
    | cons x l => exact ⟨x, l, rfl⟩
  have hTy : s.TypeIs (.ref a) "list" := ⟨_, ea, rfl⟩
  refine call_repr_slot (by have := sb.room.un; have : X.A.in1.units = X.A.units + 1 := rfl; omega) hTy F.slot_list_repr.toG ?_
  refine wpAny_call (codeAny_call_builtin F.slot_list_repr.plain F.entry_list_repr (F.slot_list_repr.check _ _ _ _ _ _ _ _ hTy (F.args_list_repr_1 _) ?_))
  show wpAny _ _ (Builtin.listReprAt 0 ⟨[.ref a], []⟩) _ _ _
  refine wpAny_list_repr_head (g := []) hg (fun v rest kw hm => nomatch hm) ea rfl ?_
  refine wpAny_bind (m := newList []) (wpAny_newObj_type ?_)
  refine wpAny_pure ⟨F.quiet_list_repr_loop _, ?_⟩
  have hP0 := I.fresh
  refine loop (base := 0) (R := fun r s' => match r with | .ok (.ret v) => ∃ x t, v = Value.str x t ∧ EP X pins σ Q v s' | .ok _ => False | .error e => X.xe e s') (pins := pins) (σ := σ) sb hP0 ha hlen hT (by omega) (fun s' H2 tk s2 I2 => ⟨_, _, rfl, .str (listText ts), H2, I2, ⟨tk, rfl⟩, q H2 s2⟩) vs.length 0 _ (upd H s.heap.objs.size (.lst [])) (by omega) (by omega) (fun b o e => by rw [upd_ne (ne_of_none e hP0)]; exact e) ?_ upd_same
  exact I.lnew .nil (by simp)
end RpL

/-! o.m(k = v, ..): a method called by keywords alone -/
namespace MKw
open PySem L2
/-- o, then the keywords' values, then the promise -/
def tMethK (C : Addr) (m : Str) (sp : Sp) (gV : List V → List V → List V) (E : XK) (ta : TE) (tk : TA) : TE := fun σ H Q => ta σ H fun x H1 => ∃ a dx fs, x = .ref a ∧ H1 a = some (.ins C dx fs) ∧ fs.lookup m = none ∧ tk σ H1 fun zs H2 => sp (gV [.ref a] zs) H2 Q E
theorem pe_methK {X : Cx} {CX : CXT} {k : Nat} {f C : Addr} {fd : FuncData} {ps ks : List Str} {sp : Sp} {E : XK} {m : Str} {pos apos : Pos} {o : Expr} {kws : List Keyword} {ta : TE} {tk : TA} {g : List Value → List Value → List Value} {gV : List V → List V → List V} {pl : Sem Bool}
    (ho : PE X o ta) (c : Cls X.K C) (hm : Meth X.K C m f) (F : FnOk X.prog X.w X.K X.mg X.base CX k f fd ps sp) (hr : Room k X.A) (hb : KBinds X.K fd ps ks g gV) (hx : Passes CX X E) (hkw : PK X kws tk)
    (hall : (backToKw pos (keywordEach kws X.env)).all (·.1.isSome) = true := by rfl) (hks : (backToKw pos (keywordEach kws X.env)).filterMap (·.1) = ks := by rfl)
    (hpl : ((backTo pos (starEach [] X.env)).any (·.1) || (backToKw pos (keywordEach kws X.env)).any (·.1.isNone)) = false := by rfl)
    (hev : eval (.Call (.Attribute o m apos) [] kws pos) X.env = (do
      let recv ← eval o X.env
      standAt apos.atName
      let (fn, firstOnes) ← holding [recv] (getMethod recv m pl)
      callWith pos fn firstOnes (backTo pos (starEach [] X.env)) (backToKw pos (keywordEach kws X.env))) := by rfl) :
    PE X (.Call (.Attribute o m apos) [] kws pos) (tMethK C m sp gV E ta tk) := by
  refine ⟨fun pins s σ H Q I h => ?_⟩
  refine PySem.W.methodCall_KW (pl := pl) (thn (ho.run pins s σ H _ I h) fun u s1 ⟨x, H1, I1, rx, a, dx, fs, ex, ea, l, q⟩ => ?_) hev
  subst ex
  obtain rfl : u = Value.ref a := rx
  refine getmeth_ok I1 ea c hm l ?_
  refine PySem.W.callWith_KW0 (first := [.ref a]) (h₀ := X.base) I.ok.mod.kin hm.kp hall ?_ hpl
  refine thn (hkw.run pos pins s1 σ H1 _ I1 q) fun ws s2 ⟨zs, H2, I2, rz, q2⟩ => ⟨I2.kIn, ?_⟩
  rw [hks]
  exact run_fnk (us := [.ref a]) (vs := [.ref a]) F hr hb hx I2 (.cons rfl .nil) rz q2
end MKw

/-! the lambdas, odd values -/
namespace My
open PySem L2 Cm LM CH Gd RpA SkT IsX RpL
def gKw (us ws : List Value) : List Value := match us, ws with | [s], [t] => [s, t] | _, _ => []
def gKwV (us ws : List V) : List V := match us, ws with | [s], [t] => [s, t] | _, _ => []
theorem gKw_rel {vs zs : List V} {us ws : List Value} (h1 : Vals vs us) (h2 : Vals zs ws) : Vals (gKwV vs zs) (gKw us ws) := by
  cases h1 with
  | nil => exact .nil
  | cons a t1 =>
    cases t1 with
    | cons _ _ => exact .nil
    | nil =>
      cases h2 with
      | nil => exact .nil
      | cons b t2 =>
        cases t2 with
        | nil => exact .cons a (.cons b .nil)
        | cons _ _ => exact .nil
section
variable {P : Program} {w : World} {K : PySem.W.Frag} {mg : Str → Option Value} {base : Heap}
theorem mk_chain (T : TxA w K mg) {H : Hp} {t : Str} {E : XK} {R : Hp → Prop} {x dx : Addr} (g : goodC t = true) (bd : Bd t) (nx : H x = none) (ndx : H dx = none) (q : ∀ (H' : Hp), Same H H' → ChainAt T.C H' x t → R H') :
    spAI K T.C T.E.C [.ref x, .str t] (upd (upd H dx (.own x)) x (.ins T.C dx [])) (fun v H2 => v = .non ∧ R H2) E := by
  refine ⟨x, dx, _, rfl, upd_same, typed_str _, bd, fun t' et _ H5 o5 l5 => ⟨rfl, ?_⟩, fun z => absurd (g.symm.trans z) (by decide)⟩
  cases et
  exact q H5 (made_same nx ndx o5) l5
theorem new2 {H : Hp} {x dx C : Addr} (nx : H x = none) (ndx : H dx = none) : Same H (upd (upd H dx (.own x)) x (.ins C dx [])) := fun z o h => by
  rw [upd_ne (ne_of_none h nx), upd_ne (ne_of_none h ndx)]
  exact h
/-- the making of a chain, and its text -/
def tMk (CE : Addr) (i : Nat) : XK → TE := fun E σ H Q => ∃ tx : Str, σ[i]? = some (some (.str tx)) ∧ Bd tx ∧ (goodC tx = true → ∀ H', Same H H' → Q (.str tx) H') ∧
  (goodC tx = false → ∀ (H' : Hp) (d : Addr), Same H H' → H' d = none → E (.ref CE) (some d) (upd H' d (.xd [("value", .str tx)])))
def tMkO (K : PySem.W.Frag) (CE : Addr) (i : Nat) : XK → TE := fun E σ H Q => ∃ v : V, σ[i]? = some (some v) ∧ Typed K H v ∧ BdS v ∧ goodCV v = false ∧ ∀ (H' : Hp) (d : Addr), Same H H' → H' d = none → E (.ref CE) (some d) (upd H' d (.xd [("value", v)]))
theorem lam_g {T : List (Addr × Str)} {CE : Addr} {tx : Str} {σ : L2.St} {H : Hp} {Q : VK} {i : Nat} (hT : LamX.Tabs T H) (hσ : σ[i]? = some (some (.str tx))) (bd : Bd tx) (g : goodC tx = true)
    (q : ∀ (H1 : Hp) (p : Addr), LamX.ExtN H H1 → LamX.Tabs T H1 → H1 p = some (.lst [.str "given", .str tx]) → Q (.ref p) H1) :
    LamX.tLam T (TCame CE) (tMk CE i) σ H Q := by
  refine ⟨hT, fun H1 e1 T1 => ⟨tx, hσ, bd, fun _ H2 s2 => ⟨_, rfl, fun p np => ?_⟩, fun z => absurd (g.symm.trans z) (by decide)⟩⟩
  have s3 := Same.trans s2 (same_new (o := .lst [.str "given", .str tx]) np)
  exact q _ p (e1.trans (ext_same s3)) (T1.ext s3) upd_same
theorem lam_b {T : List (Addr × Str)} {CE : Addr} {tx : Str} {σ : L2.St} {H : Hp} {Q : VK} {i : Nat} (hT : LamX.Tabs T H) (hσ : σ[i]? = some (some (.str tx))) (bd : Bd tx) (g : goodC tx = false)
    (q : ∀ (H1 : Hp) (p : Addr), LamX.ExtN H H1 → LamX.Tabs T H1 → H1 p = some (.lst [.str "InvalidText", .str tx, .bl true]) → Q (.ref p) H1) :
    LamX.tLam T (TCame CE) (tMk CE i) σ H Q := by
  refine ⟨hT, fun H1 e1 T1 => ⟨tx, hσ, bd, fun z => absurd (z.symm.trans g) (by decide), fun _ H2 d s2 nd => ⟨rfl, d, _, rfl, upd_same, fun p np => ?_⟩⟩⟩
  have s3 := Same.trans s2 (Same.trans (same_new (o := .xd [("value", .str tx)]) nd) (same_new (o := .lst [.str "InvalidText", .str tx, .bl true]) np))
  exact q _ p (e1.trans (ext_same s3)) (T1.ext s3) upd_same
/-! ### odd values -/
def noS : PyData → Bool
  | .str _ => false
  | _ => true
theorem typed_of {H : Hp} {v : V} {d : PyData} (q : Dq H v d) (h : noS d = true) : Typed K H v := by
  refine ⟨_, dq_ty q, ?_⟩
  cases q with
  | non => exact kit_ty (show kitB "NoneType" "str" = some false by decide +kernel)
  | bl b => exact kit_ty (show kitB "bool" "str" = some false by decide +kernel)
  | int i => exact kit_ty (show kitB "int" "str" = some false by decide +kernel)
  | str x => cases h
  | lst _ _ => exact kit_ty (show kitB "list" "str" = some false by decide +kernel)
  | tup _ _ => exact kit_ty (show kitB "tuple" "str" = some false by decide +kernel)
  | dct _ => exact kit_ty (show kitB "dict" "str" = some false by decide +kernel)
theorem good_of {H : Hp} {v : V} {d : PyData} (q : Dq H v d) (h : noS d = true) : BdS v ∧ goodCV v = false := by
  cases q with
  | str x => cases h
  | _ => exact ⟨trivial, rfl⟩
theorem ChainAt.ext {C : Addr} {H H' : Hp} {o : Addr} {t : Str} (s : LamX.ExtN H H') (h : ChainAt C H o t) : ChainAt C H' o t := by
  obtain ⟨dx, p, vs, a, b, c⟩ := h
  exact ⟨dx, p, vs, s _ _ a (by intro ps z; cases z), s _ _ b (by intro ps z; cases z), c.mono fun p xs e => s _ _ e (by intro ps z; cases z)⟩
/-- a value that is no text -/
def OddV (C : Addr) (H : Hp) (v : V) : Prop := (∃ d, Dq H v d ∧ noS d = true ∧ Sw 100 10 d) ∨ ∃ o, v = .ref o ∧ ChainAt C H o "cut 3"
theorem lam_o {T : List (Addr × Str)} (M : TxAm w K mg) (kS : PySem.W.kitOne K (.ref M.T.C) (.type "str") = some false) {v : V} {σ : L2.St} {H : Hp} {Q : VK} {i : Nat} (hT : LamX.Tabs T H) (hσ : σ[i]? = some (some v)) (hv : OddV M.T.C H v)
    (q : ∀ (H1 : Hp) (p : Addr), LamX.ExtN H H1 → LamX.Tabs T H1 → H1 p = some (.lst [.str "InvalidText", v, .bl true]) → Q (.ref p) H1) :
    LamX.tLam T (TCame M.T.E.C) (tMkO K M.T.E.C i) σ H Q := by
  refine ⟨hT, fun H1 e1 T1 => ?_⟩
  have fin : ∀ (H' : Hp) (d : Addr), Same H1 H' → H' d = none → ∀ p, (upd H' d (.xd [("value", v)])) p = none → Q (.ref p) (upd (upd H' d (.xd [("value", v)])) p (.lst [.str "InvalidText", v, .bl true])) := fun H2 d s2 nd p np => by
    have s3 := Same.trans s2 (Same.trans (same_new (o := .xd [("value", v)]) nd) (same_new (o := .lst [.str "InvalidText", v, .bl true]) np))
    exact q _ p (e1.trans (ext_same s3)) (T1.ext s3) upd_same
  rcases hv with ⟨d, hd, hn, _⟩ | ⟨o, rfl, ho⟩
  · have hd1 := dq_ext e1 hd
    exact ⟨v, hσ, typed_of hd1 hn, (good_of hd1 hn).1, (good_of hd1 hn).2, fun H2 d s2 nd => ⟨rfl, d, v, rfl, upd_same, fin H2 d s2 nd⟩⟩
  · exact ⟨_, hσ, ⟨_, (ho.ext e1).ty M.T M.ty, kS⟩, trivial, rfl, fun H2 d s2 nd => ⟨rfl, d, _, rfl, upd_same, fin H2 d s2 nd⟩⟩
/-! ### the bodies of the lambdas -/
section
variable {X : Cx} {E : XK}
theorem rd_text (T : TxA w K mg) {i : Nat} {σ : L2.St} {H : Hp} {Q : VK} (h : tMk T.E.C i E σ H Q) : tFld K (tMake T.C (spAI K T.C T.E.C) [] E (tCons (tVar i) tNil)) "text" σ H Q := by
  obtain ⟨tx, hσ, bd, kg, kb⟩ := h
  refine ⟨_, hσ, fun x dx nx ndx nex => ⟨x, dx, _, rfl, upd_same, typed_str _, bd, fun t' et g H5 o5 l5 => ⟨rfl, ?_⟩, fun z H5 d s5 nd => kb z H5 d (Same.trans (new2 nx ndx) s5) nd⟩⟩
  cases et
  obtain ⟨dx', p, vs, ex, _⟩ := id l5
  exact ⟨x, T.C, dx', _, _, rfl, ex, T.cl, T.nT, cf_text .., kg g _ (made_same nx ndx o5)⟩
end
end
end My

namespace My
open PySem L2 Cm LM CH Gd RpA SkT IsX RpL
abbrev sRight : Stmt := top 25
abbrev NR : List Str := ["_law_jar_here", "_law_turn", "_law_line", "_law_again", "_law_bent", "_law_due", "_law_odd"]
theorem scRight : FnScope NR ["_law_jar_here"] (defScope sRight) := ⟨rfl, rfl, rfl, by decide +kernel, rfl, by decide +kernel, by decide +kernel⟩
structure TxR (w : World) (K : PySem.W.Frag) (mg : Str → Option Value) where
  M : TxAm w K mg
  D : TxAd K mg
  C : TxCm K mg M.T.E.C
  repr : mg "repr" = none
  il : Df K mg "_law_is_line" sIl ["_law_line"]
  chg : Df K mg "_law_changed" sChg ["_law_jar_here", "_law_line"]
  KI : KBn K M.T.fdI ["self", "text"] 1 ["text"] gKw gKwV
  kS : PySem.W.kitOne K (.ref M.T.C) (.type "str") = some false
section
variable {P : Program} {w : World} {K : PySem.W.Frag} {mg : Str → Option Value} {base : Heap}
section
variable {E : XK} {i : Nat} {σ : L2.St} {H : Hp} {Q : VK}
theorem rd_str (M : TxAm w K mg) (h : tMk M.T.E.C i E σ H Q) : tCB (Own.rTxtO M.T.C (fun vs H Q E => spAS M.T.C (vs ++ []) H Q E)) (tCons (tMake M.T.C (spAI K M.T.C M.T.E.C) [] E (tCons (tVar i) tNil)) tNil) σ H Q := by
  obtain ⟨tx, hσ, bd, kg, kb⟩ := h
  refine ⟨_, hσ, fun x dx nx ndx nex => ⟨x, dx, _, rfl, upd_same, typed_str _, bd, fun t' et g H5 o5 l5 => ⟨rfl, ?_⟩, fun z H5 d s5 nd => kb z H5 d (Same.trans (new2 nx ndx) s5) nd⟩⟩
  cases et
  obtain ⟨dx', p, vs, ex, _⟩ := id l5
  exact ⟨x, dx', _, rfl, ex, x, _, rfl, l5, _, rfl, kg g _ (made_same nx ndx o5)⟩
theorem rd_odd (M : TxAm w K mg) (h : tMkO K M.T.E.C i E σ H Q) : tMakeK M.T.C 0 1 (spAI K M.T.C M.T.E.C) gKwV E tNil (tCons (tVar i) tNil) σ H Q := by
  obtain ⟨v, hσ, ty, bd, g, kb⟩ := h
  refine ⟨_, hσ, rfl, rfl, fun x dx nx ndx nex => ⟨x, dx, v, rfl, upd_same, ?_, bd, fun t' et g2 => ?_, fun z H5 d s5 nd => kb H5 d (Same.trans (new2 nx ndx) s5) nd⟩⟩
  · obtain ⟨t, a, b⟩ := ty
    exact ⟨t, TyX_same (new2 nx ndx) a, b⟩
  · subst et
    exact absurd (g2.symm.trans g) (by decide)
end
theorem given_eqv (s : Str) : PyData.eqv (.list [.str "given", .str s]) (.list [.str "given", .str s]) = true := by simp [PyData.eqv, PyData.eqvAll]
theorem bad_eqv (s : Str) : PyData.eqv (.list [.str "InvalidText", .str s, .bool true]) (.list [.str "InvalidText", .str s, .bool true]) = true := by simp [PyData.eqv, PyData.eqvAll]
/-- repr of plain data, or of a list with chains -/
theorem call_or {X : Cx} {f : Value} {r1 r2 : List V → Hp → VK → Prop} (h1 : CallR X f r1) (h2 : CallR X f r2) : CallR X f (fun xs H Q => r1 xs H Q ∨ r2 xs H Q) := by
  intro pins s σ H xs us Q I r h
  rcases h with h | h
  · exact h1 pins s σ H xs us Q I r h
  · exact h2 pins s σ H xs us Q I r h
theorem ok_right {f cR PR : Addr} {fd : FuncData} (F : Fun K "_law_right" "_law_right" sRight f fd) (R : TxR w K mg) (hcd : fd.code = .ref cR) (sm : ∃ ob, base.get? sysModules = some ob) (TB : LamX.TabB base mg cR PR) : Gd.FnG P w K mg base CX0 10 f fd ["_law_jar_here"] (spRight PR) := by
  have GF : FnOk P w K mg base CX0 2 R.D.frm.f R.D.frm.fd ["_law_jar_here", "_law_things"] (spFrom K) := ga_from R.D
  have GC : FnOk P w K mg base CX0 3 R.D.cts.f R.D.cts.fd ["_law_jar_here", "_law_most"] spCuts := ok_cuts R.D
  have GN : FnOk P w K mg base CX0 1 R.D.lin.f R.D.lin.fd ["_law_cutters_here"] spCLine := ok_cline R.D
  have GM : FnOk P w K mg base (L2.CX P w) 3 R.M.T.fI R.M.T.fdI ["self", "text"] (spAI K R.M.T.C R.M.T.E.C) := ok_ai R.M.T
  have GT : FnR P w K mg base CX0 1 R.M.as.f (fun vs H Q E => spAS R.M.T.C (vs ++ []) H Q E) := (ok_as R.M).raw R.M.as.b .nil
  have GR : FnR P w K mg base CX0 1 R.M.ar.f (fun vs H Q E => spAR R.M.T.C (vs ++ []) H Q E) := (ok_ar R.M).raw R.M.ar.b .nil
  have GI : FnOk P w K mg base CX0 2 R.il.f R.il.fd ["_law_line"] spIl := ok_il R.D R.il.F
  have GX : FnOk P w K mg base CX0 3 R.chg.f R.chg.fd ["_law_jar_here", "_law_line"] spChg := ok_chg R.D R.chg.F
  obtain ⟨ob, sm⟩ := sm
  obtain ⟨oc, od, kV, doc, pm, an, cdv0, ct, osl, efd, lkC, hcgC⟩ := R.C.cm.F.ex
  have bC := R.C.cm.b
  rw [efd] at bC lkC
  refine Gd.okG F scRight (fun vs H Q E h => ?_) (fun cdv A outer s H vs Q E _ _ ecd hgd hr h => ?_)
  · obtain ⟨j, rfl, _⟩ := h
    rfl
  · obtain ⟨j, rfl, hJ, hT, k⟩ := h
    have ec : cdv = .ref cR := ecd.symm.trans hcd
    subst ec
    have hr1 : Room 1 _ := hr.mono (by decide)
    have hr2 : Room 2 _ := hr.mono (by decide)
    have hr3 : Room 3 _ := hr.mono (by decide)
    have hr4 : Room 4 _ := hr.mono (by decide)
    have hr8 : Room 8 _ := hr.mono (by decide)
    have hu : ((cxOf CX0 P w K mg base NR "_law_right" (defScope sRight) f (.ref cR) A outer s H E).nox).A.units + 100 < cLine := by
      have := hr.un
      show (A.deeper _).units + 100 < cLine
      omega
    have sb : L2.Sub (cxOf CX0 P w K mg base NR "_law_right" (defScope sRight) f (.ref cR) A outer s H E).nox 2 ((cxOf CX0 P w K mg base NR "_law_right" (defScope sRight) f (.ref cR) A outer s H E).nox).A.in1 := ⟨hr3.in1, rfl⟩
    have lam : ∀ {X : Cx} {params : Arguments} {body : Expr} {scope : Scope} {t : XK → L2.TE} {p lpos pos : Pos} (eX : X = (cxOf CX0 P w K mg base NR "_law_right" (defScope sRight) f (.ref cR) A outer s H E).nox) (L : LamX.LamS X.env.scope scope) (hdef : defaultsOf params X.env = ([], []))
        (hbind : ∀ (q : Str) (cl : List (Str × Addr)) (pm cv ctv : Value), bindArgs (PySem.W.kla_fn "<lambda>" q params body scope cl pm cv ctv) ⟨[], []⟩ = pure [])
        (hbody : ∀ (A : Around) (outer : List Env) (s : Shared) (H : Hp) (E : XK) (f c' : Addr), Room 6 (A.deeper (LamX.lamEnv X scope s.heap.objs.size f c')) → PE (LamX.lamCx X A outer s H E scope f c') body (t E)),
        PE X (.Call (.Name "_law_came" p) [.Lambda params body scope lpos] [] pos) (LamX.tLam [(PR, qLam)] (TCame R.M.T.E.C) t) := by
      intro X params body scope t p lpos pos eX L hdef hbind hbody
      subst eX
      exact LamX.pe_lamcall (k := 6) rfl R.C.cm.g R.C.cm.k lkC hcgC bC scCame rfl (.inl rfl) (came_gives (X := (cxOf CX0 P w K mg base NR "_law_right" (defScope sRight) f (.ref cR) A outer s H E).nox) R.C) TB rfl (List.mem_singleton.mpr rfl) (fun q hq _ => by rw [List.mem_singleton.mp hq]; rfl) hr8 L hdef hbind hbody
    refine ⟨_, (pss_cons (ps_for PassesOwn.never rfl (pi_range1 rfl R.D.range (pa_cons pe_int pa_nil)) (pg_name (i := 1) scRight.nd rfl (.inl rfl)) (pss_cons (ps_set (i := 2) scRight.nd rfl (.inr rfl) (pe_call GN hr1 rfl R.D.lin.g R.D.lin.k R.D.lin.b .nil pass0 (pa_cons (pe_call GC hr3 rfl R.D.cts.g R.D.cts.k R.D.cts.b .nil pass0 (pa_cons (pv 0) (pa_cons pe_int pa_nil))) pa_nil))) (pss_cons (ps_if (pt_cmpR (op_neD (hu64 hr)) (lam (t := tMk R.M.T.E.C 2) rfl (LamX.lamS_by (sc := defScope sRight) (by decide +kernel)) rfl (fun _ _ _ _ _ => rfl) (fun A outer s H E f c' hrl => by exact (pe_imp (t' := tMk R.M.T.E.C 2 E) (pe_fld (pe_make R.M.T.MI GM (hrl.mono (by decide)) rfl R.M.T.gC R.M.T.bI .nil (passes_call (takes_of rfl rfl rfl rfl) fun _ _ _ _ z => z) (pa_cons (pv 2) pa_nil)) rfl) (fun σ H Q h => rd_text R.M.T h)))) (pe_lst (pa_cons pe_str (pa_cons (pv 2) pa_nil))) (nomark _)) (pss_one (ps_ret pe_bl)) pss_nil) (pss_one (ps_for PassesOwn.never rfl (pi_range1 rfl R.D.range (pa_cons pe_int pa_nil)) (pg_name (i := 3) scRight.nd rfl (.inl rfl)) (pss_cons (ps_set (i := 4) scRight.nd rfl (.inr rfl) (pe_call GX hr3 rfl R.chg.g R.chg.k R.chg.b .nil pass0 (pa_cons (pv 0) (pa_cons (pv 2) pa_nil)))) (pss_cons (ps_set (i := 5) scRight.nd rfl (.inl rfl) (pe_ifExp (pt_val (pe_call GI hr2 rfl R.il.g R.il.k R.il.b .nil pass0 (pa_cons (pv 4) pa_nil))) (pe_lst (pa_cons pe_str (pa_cons (pv 4) pa_nil))) (pe_lst (pa_cons pe_str (pa_cons (pv 4) (pa_cons pe_bl pa_nil)))))) (pss_one (ps_if (pt_cmpR (op_neD (hu64 hr)) (lam (t := tMk R.M.T.E.C 4) rfl (LamX.lamS_by (sc := defScope sRight) (by decide +kernel)) rfl (fun _ _ _ _ _ => rfl) (fun A outer s H E f c' hrl => by exact (pe_imp (t' := tMk R.M.T.E.C 4 E) (pe_callTy (Own.call_strO R.M.as.i R.M.as.fn GT (hrl.mono (by decide))) (by rfl) R.D.str (by decide +kernel) (pa_cons (pe_make R.M.T.MI GM (hrl.mono (by decide)) rfl R.M.T.gC R.M.T.bI .nil (passes_call (takes_of rfl rfl rfl rfl) fun _ _ _ _ z => z) (pa_cons (pv 4) pa_nil)) pa_nil)) (fun σ H Q h => rd_str R.M h)))) (pv 5) (nomark _)) (pss_one (ps_ret pe_bl)) pss_nil))))))))) (pss_cons (ps_set (i := 6) scRight.nd rfl (.inr rfl) (pe_call GF hr2 rfl R.D.frm.g R.D.frm.k R.D.frm.b .nil pass0 (pa_cons (pv 0) (pa_cons (pe_lst (pa_cons pe_non (pa_cons pe_int (pa_cons (pe_tup (pa_cons pe_str pa_nil)) (pa_cons (pe_lst (pa_cons pe_str pa_nil)) (pa_cons pe_bl (pa_cons pe_dnewK (pa_cons (pe_make R.M.T.MI GM hr4 rfl R.M.T.gC R.M.T.bI .nil pass_none (pa_cons pe_str pa_nil)) (pa_cons (pe_op op_pow pe_int pe_int) pa_nil))))))))) pa_nil)))) (pss_one (ps_ret (pe_cmpR op_eq (pe_callB (call_or (call_reprA hgd (by omega) sm) (call_reprL hgd sb)) (by rfl) R.repr (by decide +kernel) (pa_cons (lam (t := tMkO K R.M.T.E.C 6) rfl (LamX.lamS_by (sc := defScope sRight) (by decide +kernel)) rfl (fun _ _ _ _ _ => rfl) (fun A outer s H E f c' hrl => by exact (pe_imp (t' := tMkO K R.M.T.E.C 6 E) (pe_makeK0 R.M.T.MI GM (hrl.mono (by decide)) rfl R.M.T.gC R.KI (passes_call (takes_of rfl rfl rfl rfl) fun _ _ _ _ z => z) (pk_cons (pv 6) pk_nil)) (fun σ H Q h => rd_odd R.M h)))) pa_nil)) (pe_callB (call_or (call_reprA hgd (by omega) sm) (call_reprL hgd sb)) (by rfl) R.repr (by decide +kernel) (pa_cons (pe_lst (pa_cons pe_str (pa_cons (pv 6) (pa_cons pe_bl pa_nil)))) pa_nil)) (nomark _)))))), ?_⟩
    refine ⟨3, rfl, by decide, by decide, for_range (lo := 0) (n := 3) (fun i σ H' => (∃ v1 v2 v3 v4 v5 v6 : Option V, σ = [some (.ref j), v1, v2, v3, v4, v5, v6]) ∧ Ts PR j H H')
      ⟨⟨none, none, none, none, none, none, rfl⟩, OffN.refl, hJ, hT⟩ ?_ ?_⟩
    · rintro i σ H1 hi ⟨⟨v1, v2, v3, v4, v5, v6, rfl⟩, T1⟩
      refine ⟨_, rfl, j, 6, rfl, T1.jar, by decide, by decide, fun H2 q cs o2 J2 nq qj hL hne hlen hct => ⟨q, cs, rfl, hL, by omega, hct, fun H3 s3 => ?_⟩⟩
      have T3 := (T1.off' o2 J2).same s3
      have g1 := line_good hne hct hlen
      have l1 : (cline cs).length ≤ 100 := Nat.le_trans (line_len hct) (by omega)
      have b1 : Bd (cline cs) := Nat.le_trans l1 (by decide)
      have a1 : Asc (cline cs) := line_asc hct
      generalize cline cs = ln at g1 l1 b1 a1 ⊢
      refine lam_g T3.tab rfl b1 g1 fun H4 p4 e4 T4' hp4 => ?_
      have T4 := T3.ext e4 T4'
      refine ⟨_, rfl, (by show 2 ≤ sizeLine; decide), fun q5 n5 => ?_⟩
      have s5 := same_new (o := .lst [.str "given", .str ln]) n5
      refine ⟨_, _, .lst (SqL.of (s5 _ _ hp4)) (.cons (.str _) (.cons (.str _) .nil)), .lst (SqL.of upd_same) (.cons (.str _) (.cons (.str _) .nil)), shaped2 (by decide +kernel) a1, shaped2 (by decide +kernel) a1, _, rfl, ?_⟩
      rw [given_eqv]
      refine iteF ?_
      have T5 := T4.same s5
      generalize upd H4 q5 (.lst [.str "given", .str ln]) = H5 at s5 T5 ⊢
      refine ⟨8, rfl, by decide, by decide, for_range (lo := 0) (n := 8) (fun m σ H' => (∃ v3 v4 v5 : Option V, σ = [some (.ref j), some (.int (0 + (i : Int))), some (.str ln), v3, v4, v5, v6]) ∧ Ts PR j H H')
        ⟨⟨_, _, _, rfl⟩, T5⟩ ?_ ?_⟩
      · rintro m σ H6 hm ⟨⟨v3, v4, v5, rfl⟩, T6⟩
        refine ⟨_, rfl, _, rfl, j, _, rfl, T6.jar, a1, l1, fun H7 b o7 J7 hb => ?_⟩
        have T7 := T6.off' o7 J7
        have bb : Bd b := Nat.le_trans hb.l (by decide)
        refine ⟨_, rfl, b, rfl, hb.l, fun H8 s8 => ?_⟩
        have T8 := T7.same s8
        cases hg : goodC b with
        | true =>
          refine ⟨_, rfl, iteT ⟨_, rfl, (by show 2 ≤ sizeLine; decide), fun q9 n9 => ?_⟩⟩
          have s9 := same_new (o := .lst [.str "given", .str b]) n9
          have T9 := T8.same s9
          have h9 : (upd H8 q9 (.lst [.str "given", .str b])) q9 = some (.lst [.str "given", .str b]) := upd_same
          generalize upd H8 q9 (.lst [.str "given", .str b]) = H9 at s9 T9 h9 ⊢
          refine lam_g T9.tab rfl bb hg fun H10 p10 e10 T10' hp10 => ?_
          have T10 := T9.ext e10 T10'
          have h10 := e10 _ _ h9 (by intro ps z; cases z)
          refine ⟨_, rfl, _, _, .lst (SqL.of hp10) (.cons (.str _) (.cons (.str _) .nil)), .lst (SqL.of h10) (.cons (.str _) (.cons (.str _) .nil)), shaped2 (by decide +kernel) hb.a, shaped2 (by decide +kernel) hb.a, _, rfl, ?_⟩
          rw [given_eqv]
          exact iteF ⟨⟨_, _, _, rfl⟩, T10⟩
        | false =>
          refine ⟨_, rfl, iteF ⟨_, rfl, (by show 3 ≤ sizeLine; decide), fun q9 n9 => ?_⟩⟩
          have s9 := same_new (o := .lst [.str "InvalidText", .str b, .bl true]) n9
          have T9 := T8.same s9
          have h9 : (upd H8 q9 (.lst [.str "InvalidText", .str b, .bl true])) q9 = some (.lst [.str "InvalidText", .str b, .bl true]) := upd_same
          generalize upd H8 q9 (.lst [.str "InvalidText", .str b, .bl true]) = H9 at s9 T9 h9 ⊢
          refine lam_b T9.tab rfl bb hg fun H10 p10 e10 T10' hp10 => ?_
          have T10 := T9.ext e10 T10'
          have h10 := e10 _ _ h9 (by intro ps z; cases z)
          refine ⟨_, rfl, _, _, .lst (SqL.of hp10) (.cons (.str _) (.cons (.str _) (.cons (.bl _) .nil))), .lst (SqL.of h10) (.cons (.str _) (.cons (.str _) (.cons (.bl _) .nil))), shaped3 (by decide +kernel) hb.a, shaped3 (by decide +kernel) hb.a, _, rfl, ?_⟩
          rw [bad_eqv]
          exact iteF ⟨⟨_, _, _, rfl⟩, T10⟩
      · rintro σ H6 ⟨⟨v3, v4, v5, rfl⟩, T6⟩
        exact ⟨⟨_, _, _, _, _, _, rfl⟩, T6⟩
    · rintro σ H1 ⟨⟨v1, v2, v3, v4, v5, v6, rfl⟩, T1⟩
      have bC : Bd "cut 3" := show ("cut 3" : Str).length ≤ 100000 by decide +kernel
      refine ⟨_, rfl, (by show 1 ≤ sizeLine; decide), fun t1 n1 => ⟨(by show 1 ≤ sizeLine; decide), fun l1 nl1 dd ndd x dx nx ndx nex => mk_chain R.M.T (by decide +kernel) bC nx ndx fun H5 s5 hx => ⟨_, _, rfl, rfl, ⟨by decide, by decide, by decide⟩, (by show 8 ≤ sizeLine; decide), fun L nL => ?_⟩⟩⟩
      have u1 := same_new (o := .tup [.str "cut 3"]) n1
      have u2 := same_new (o := .lst [.str "cut 3"]) nl1
      have u3 := same_new (o := .dK []) ndd
      have u6 := same_new (o := .lst [.non, .int 5, .ref t1, .ref l1, .bl true, .ref dd, .ref x, .int 10000000000000000000]) nL
      have u56 := Same.trans s5 u6
      have u16 := Same.trans u1 (Same.trans u2 (Same.trans u3 u56))
      have J1 := T1.jar
      have J6a := J1.same u16
      refine ⟨j, L, [.non, .int 5, .ref t1, .ref l1, .bl true, .ref dd, .ref x, .int 10000000000000000000], rfl, J6a, jar_ne (J1.same (Same.trans u1 (Same.trans u2 (Same.trans u3 s5)))) nL, SqL.of upd_same, (by show 0 < 8; decide), (by show 8 < 1073741824; decide), fun H6 ix v hv o6 J6 => ?_⟩
      have e1 : H6 t1 = some (.tup [.str "cut 3"]) := o6 _ _ (jar_ne J1 n1) (u56 _ _ (u3 _ _ (u2 _ _ upd_same)))
      have e2 : H6 l1 = some (.lst [.str "cut 3"]) := o6 _ _ (jar_ne (J1.same u1) nl1) (u56 _ _ (u3 _ _ upd_same))
      have e3 : H6 dd = some (.dK []) := o6 _ _ (jar_ne (J1.same (Same.trans u1 u2)) ndd) (u56 _ _ upd_same)
      have e4 : ChainAt R.M.T.C H6 x "cut 3" := (hx.same u6).off o6 J6a
      have T6 := (T1.same u16).off' o6 J6
      have hod : OddV R.M.T.C H6 v := by
        match ix, hv with
        | 0, h => cases h; exact .inl ⟨_, .non, rfl, sw_non.mono (by decide) (by decide)⟩
        | 1, h => cases h; exact .inl ⟨_, .int _, rfl, (sw_int (by decide) (by decide +kernel)).mono (Nat.le_refl _) (by decide)⟩
        | 2, h => cases h; exact .inl ⟨_, .tup e1 (.cons (.str _) .nil), rfl, by decide +kernel, by decide +kernel, by decide +kernel, by decide +kernel⟩
        | 3, h => cases h; exact .inl ⟨_, .lst e2 (.cons (.str _) .nil), rfl, by decide +kernel, by decide +kernel, by decide +kernel, by decide +kernel⟩
        | 4, h => cases h; exact .inl ⟨_, .bl _, rfl, (sw_bl true).mono (by decide) (by decide)⟩
        | 5, h => cases h; exact .inl ⟨_, .dct e3, rfl, by decide +kernel, by decide +kernel, by decide +kernel, by decide +kernel⟩
        | 6, h => cases h; exact .inr ⟨x, rfl, e4⟩
        | 7, h => cases h; exact .inl ⟨_, .int _, rfl, (sw_int (by decide) (by decide +kernel)).mono (Nat.le_refl _) (by decide)⟩
        | n + 8, h => cases h
      clear e1 e2 e3 e4 hv u1 u2 u3 u56 u16 u6 hx s5
      refine lam_o R.M R.kS T6.tab rfl hod fun H7 p7 e7 T7' hp7 => ?_
      have T7 := T6.ext e7 T7'
      rcases hod with ⟨d, hd, hn, sw⟩ | ⟨o, rfl, ho⟩
      · have hd7 := dq_ext e7 hd
        have sw3 : Sw 1000 64 (.list [.str "InvalidText", d, .bool true]) := by
          refine (sw_lst (n := 100) (k := 10) (ds := [.str "InvalidText", d, .bool true]) fun y hy => ?_).mono (by simp) (by decide)
          rcases List.mem_cons.mp hy with rfl | hy
          · exact ⟨by decide +kernel, by decide +kernel, by decide +kernel, by decide +kernel⟩
          rcases List.mem_cons.mp hy with rfl | hy
          · exact sw
          rw [List.mem_singleton.mp hy]
          exact (sw_bl true).mono (by decide) (by decide)
        refine .inl ⟨.ref p7, _, 1000, rfl, .lst hp7 (.cons (.str _) (.cons hd7 (.cons (.bl _) .nil))), sw3, szl (Nat.le_refl _), ?_⟩
        refine ⟨_, rfl, (by show 3 ≤ sizeLine; decide), fun q8 n8 => .inl ⟨.ref q8, _, 1000, rfl, .lst upd_same (.cons (.str _) (.cons (hd7.same (same_new n8)) (.cons (.bl _) .nil))), sw3, szl (Nat.le_refl _), rfl, ?_⟩⟩
        rw [decide_eq_true rfl]
        have T8 := T7.same (same_new (o := .lst [.str "InvalidText", v, .bl true]) n8)
        exact k _ T8.off T8.tab
      · have items : ∀ (H8 : Hp), Same H7 H8 → ∀ (i : Nat) (v : V), ([.str "InvalidText", .ref o, .bl true] : List V)[i]? = some v → ∃ t, ([reprText "InvalidText", ("Chain(" : Str) ++ "cut 3" ++ ")", "True"] : List Str)[i]? = some t ∧ It (cxOf CX0 P w K mg base NR "_law_right" (defScope sRight) f (.ref cR) A outer s H E).nox 1 H8 v t := by
          intro H8 s8 i v hv
          have h8 := (ho.ext e7).same s8
          obtain ⟨dx', p', vs', ex, _⟩ := id h8
          match i, hv with
          | 0, h => cases h; exact ⟨_, rfl, it_str (by decide +kernel)⟩
          | 1, h => cases h; exact ⟨_, rfl, it_own R.M.ar.i R.M.ar.fn GR ex fun H9 s9 => ⟨o, "cut 3", rfl, h8.same s9, bC, rfl, Same.refl _⟩⟩
          | 2, h => cases h; exact ⟨("True" : Str), rfl, it_bl true⟩
          | n + 3, h => cases h
        have sz : (listText [reprText "InvalidText", ("Chain(" : Str) ++ "cut 3" ++ ")", "True"]).length ≤ sizeLine := szl (by decide +kernel)
        refine .inr ⟨p7, _, _, rfl, hp7, by simp, rfl, items H7 (Same.refl _), sz, fun H8 s8 => ?_⟩
        refine ⟨_, rfl, (by show 3 ≤ sizeLine; decide), fun q8 n8 => .inr ⟨q8, _, _, rfl, upd_same, by simp, rfl, items _ (Same.trans s8 (same_new n8)), sz, fun H9 s9 => ⟨rfl, ?_⟩⟩⟩
        rw [decide_eq_true rfl]
        have T9 := ((T7.same s8).same (same_new (o := .lst [.str "InvalidText", .ref o, .bl true]) n8)).same s9
        exact k _ T9.off T9.tab
end
end My

namespace My
open PySem L2 Cm LM
abbrev sLaw : Stmt := top 26
def spLaw (K : PySem.W.Frag) (PR : Addr) : Sp := fun vs H Q _ => ∃ (a : Addr) (ns : List Int), vs = [.ref a] ∧ SqL K H a (ns.map V.int) ∧ ns.length ≤ 63 ∧ LamX.Tabs [(PR, qLam)] H ∧ ∀ H', Q (.bl true) H'
theorem scLaw : FnScope ["_law_script", "_law_k"] ["_law_script"] (defScope sLaw) := ⟨rfl, rfl, rfl, by decide +kernel, rfl, by decide +kernel, by decide +kernel⟩
theorem all_true : ∀ n : Nat, (List.replicate n true).all id = true
  | 0 => rfl
  | n + 1 => all_true n
theorem extN_sq {K : PySem.W.Frag} {a : Addr} {H H' : Hp} {xs : List V} (e : LamX.ExtN H H') (h : SqL K H a xs) : SqL K H' a xs := by
  rcases h with (h | ⟨o, h⟩) | h
  · exact .inl (.inl (e _ _ h (by intro ps z; cases z)))
  · exact .inl (.inr ⟨o, e _ _ h (by intro ps z; cases z)⟩)
  · exact .inr h
section
variable {P : Program} {w : World} {K : PySem.W.Frag} {mg : Str → Option Value} {base : Heap} {PR : Addr}
theorem ok_law {f fJ fR : Addr} {fd fdJ fdR : FuncData} (F : Fun K "law" "law" sLaw f fd) (TJ : TxtJ mg) (mrange : mg "range" = none) (mall : mg "all" = none) (kR9 : Nat) (GR : Gd.FnG P w K mg base CX0 kR9 fR fdR ["_law_jar_here"] (spRight PR))
    (FJ : Fun K "_law_jar" "_law_jar" sJar fJ fdJ) (bJ : Binds K fdJ ["_law_script", "_law_k"] []) (gJ : mg "_law_jar" = some (.ref fJ)) (kJ : PySem.W.keepIn K (.ref fJ) = true) (k1 : 1 ≤ kR9)
    (bR : Binds K fdR ["_law_jar_here"] []) (gR : mg "_law_right" = some (.ref fR)) (kR : PySem.W.keepIn K (.ref fR) = true) (mmax : mg "max" = none) (mmin : mg "min" = none) :
    Gd.FnG P w K mg base CX0 (kR9 + 1) f fd ["_law_script"] (spLaw K PR) := by
  have GJ : FnOk P w K mg base CX0 1 fJ fdJ ["_law_script", "_law_k"] (spJar K) := ok_jar FJ TJ
  refine Gd.okG F scLaw (fun vs H Q E h => ?_) (fun cdv A outer s H vs Q E _ _ _ hgd hr h => ?_)
  · obtain ⟨a, ns, rfl, _⟩ := h
    rfl
  · obtain ⟨a, ns, rfl, hS, hl, hT, k⟩ := h
    have hr1 : Room 1 _ := hr.mono k1
    refine ⟨_, pss_one (ps_ret (pe_callB (cr_all rfl) (by rfl) mall (by decide +kernel) (pa_cons (pe_lc (own := [("_law_k", 1)]) (g := gName 1) (tt := tYes) rfl scLaw.nd
      (pi_range1 rfl mrange (pa_cons (pe_callB (call_max2 rfl) (by rfl) mmax (by decide +kernel) (pa_cons pe_int (pa_cons (pe_callB (call_min2 rfl) (by rfl) mmin (by decide +kernel) (pa_cons (pe_callB call_len_seq (by rfl) TJ.len PySem.boot_len (pa_cons (pv 0) pa_nil)) (pa_cons pe_int pa_nil))) pa_nil))) pa_nil))
      (blkOk_by (own := [("_law_k", 1)]) (N := ["_law_script", "_law_k"]) (sc := defScope sLaw) (by decide +kernel)) (fun _ _ _ _ _ => pg_name (i := 1) scLaw.nd rfl (Or.inl rfl)) (fun _ _ _ _ _ => pts_nil)
      (fun _ _ _ _ _ => Gd.pe_callG GR hgd hr rfl gR kR bR .nil pass0 (pa_cons (pe_call GJ hr1 rfl gJ kJ bJ .nil pass0 (pa_cons (pv 0) (pa_cons (pv 1) pa_nil))) pa_nil))) pa_nil))), ?_⟩
    refine ⟨_, rfl, a, _, rfl, .inl hS, _, _, rfl, _, _, rfl, ?_⟩
    rw [List.length_map]
    have hm : ∃ n : Nat, (if (if (5 : Int) < (ns.length : Int) then 5 else (ns.length : Int)) > 2 then (if (5 : Int) < (ns.length : Int) then 5 else (ns.length : Int)) else 2) = (n : Int) ∧ n ≤ 5 := by
      by_cases h5 : (5 : Int) < (ns.length : Int)
      · rw [if_pos h5]
        exact ⟨5, rfl, Nat.le_refl _⟩
      · rw [if_neg h5]
        by_cases h2 : (ns.length : Int) > 2
        · rw [if_pos h2]
          exact ⟨ns.length, rfl, by omega⟩
        · rw [if_neg h2]
          exact ⟨2, rfl, by omega⟩
    obtain ⟨n, en, hn⟩ := hm
    refine ⟨_, rfl, by rw [en]; omega, by rw [en]; omega, fun D nD => ?_⟩
    rw [en]
    refine lc_range (lo := 0) (n := ((n : Int)).toNat) (fun i H' => LamX.ExtN H H' ∧ LamX.Tabs [(PR, qLam)] H' ∧ H' D = some (.lst ((List.replicate i true).map V.bl))) ⟨LamX.ExtN.of (same_upd nD), hT.ext (same_upd nD), upd_same⟩ ?_ ?_
    · rintro i H1 hi ⟨x1, T1, hD⟩
      refine ⟨rfl, _, rfl, _, rfl, a, ns, i, by rw [Int.zero_add]; rfl, extN_sq x1 hS, hl, fun H2 j s2 nj J2 => ?_⟩
      refine ⟨j, rfl, J2, T1.ext s2, fun H3 o3 T3 => ?_⟩
      have x3 : LamX.ExtN H1 H3 := fun b o q n => o3 b o (fun z => by rw [z, nj] at q; cases q) n (s2 b o q)
      have hD3 := x3 _ _ hD (by intro ps z; cases z)
      refine ⟨_, hD3, small1000 (by rw [List.length_map, List.length_replicate]; omega), fun b o q n => ?_, ?_, ?_⟩
      · rw [upd_ne (ne_of_none q nD)]
        exact x3 _ _ (x1 b o q n) n
      · intro p hp
        obtain ⟨ps, a1, a2, a3⟩ := T3 p hp
        refine ⟨ps, by rw [upd_ne (ne_of a1 hD3 (by intro z; cases z))]; exact a1, a2, fun pos cv hcv => ?_⟩
        obtain ⟨c, e, hc⟩ := a3 pos cv hcv
        exact ⟨c, e, by rw [upd_ne (ne_of hc hD3 (by intro z; unfold LamX.CodeO at z; cases z))]; exact hc⟩
      · rw [upd_same, List.replicate_succ', List.map_append]
        rfl
    · rintro H1 ⟨x1, T1, hD⟩
      refine ⟨D, List.replicate _ true, rfl, SqL.of hD, ?_⟩
      rw [all_true]
      exact k H1
end
theorem all_mk {l : PySem.W.OpenLaw} {w : World} {K : PySem.W.Frag} {h : Heap} {mg : Str → Option Value} {fa CIT fIT dC kcut kfill ktail fco CA fai fae fas far fsip ffrm fcts flin CInp fcm fil fchg fjar cR PR frt flaw : Addr} (X : K.In h) (G : h.Ns mainGlobals mg) (hfa : mg "law" = some (.ref fa))
    {odIT anIT odco anco odai anai odae anae odas anas odar anar odsip ansip odfrm anfrm odcts ancts odlin anlin odcm ancm odil anil odchg anchg odjar anjar odC odrt anrt odlaw anlaw : Option Addr}
    {slIT slco slai slae slas slar slsip slfrm slcts sllin slcm slil slchg sljar slC slrt sllaw : Array (Option Value)}
    {ocIT kVIT dcIT pmIT cdIT ctIT occo kVco dcco pmco cdco ctco ocai kVai dcai pmai cdai ctai ocae kVae dcae pmae cdae ctae ocas kVas dcas pmas cdas ctas ocar kVar dcar pmar cdar ctar ocsip kVsip dcsip pmsip cdsip ctsip ocfrm kVfrm dcfrm pmfrm cdfrm ctfrm occts kVcts dccts pmcts cdcts ctcts oclin kVlin dclin pmlin cdlin ctlin occm kVcm dccm pmcm cdcm ctcm ocil kVil dcil pmil cdil ctil occhg kVchg dcchg pmchg cdchg ctchg ocjar kVjar dcjar pmjar cdjar ctjar ocC ocrt kVrt dcrt pmrt ctrt oclaw kVlaw dclaw pmlaw cdlaw ctlaw : Value}
    {tkMW tkMC : Tok}
    {nmIT qIT : Str} {NIT : Addr} {bsIT bmIT : List Value} {snIT : List Str} {subIT : List Value} {abIT : Bool} {colIT : Option Bool} {ddIT : Option Addr} {m0IT m1IT m2IT m3IT m5IT : Option Value}
    {vsC : Array Value}
    (aCIT : PySem.W.nsIn K mainGlobals "InvalidText" = some (some (.ref CIT)))
    (aIT : PySem.W.findIn K (.ref CIT) "__init__" = some (some (.ref fIT)))
    (iIT : PySem.W.isFn K (.ref fIT) = true)
    (lIT : K.lookup fIT = some ⟨ocIT, odIT, .func (PySem.W.fnOf "__init__" "InvalidText.__init__" (defArgs sEI) (defBody sEI) (defScope sEI) .none kVIT dcIT pmIT anIT cdIT ctIT), slIT⟩)
    (cIT : PySem.W.codeIn K cdIT "InvalidText.__init__" = true)
    (kIT : PySem.W.keepIn K (.ref fIT) = true)
    (xIT : K.lookup CIT = some (excClassObj nmIT qIT CIT NIT bsIT bmIT true snIT subIT abIT colIT ddIT m0IT m1IT m2IT m3IT m5IT "ValueError.__new__"))
    (xrIT : PySem.HandSPX.refsVE bmIT = true)
    (e1IT : PySem.W.findIn K (.ref CIT) "__setattr__" = some (some (.builtin "object.__setattr__")))
    (e2IT : PySem.W.subIn K (.ref CIT) (.type "BaseException") = some true)
    (e3IT : PySem.W.typeIn K (.ref CIT) = some (.type "type"))
    (e4IT : PySem.W.keepIn K (.ref CIT) = true)
    (e5IT : PySem.W.typeIn K (.ref fIT) = some (.type "function"))
    (e6IT : PySem.W.findIn K (.ref CIT) "value" = some none)
    (mMW : PySem.W.nsIn K mainGlobals "MOST_WIDTH" = some (some (.int 12 tkMW)))
    (mMC : PySem.W.nsIn K mainGlobals "MOST_CUTTERS" = some (some (.int 6 tkMC)))
    (gdC : PySem.W.nsIn K mainGlobals "CUTTERS" = some (some (.ref dC)))
    (nkcut : PySem.W.nsIn K dC "cut" = some (some (.ref kcut)))
    (nkfill : PySem.W.nsIn K dC "fill" = some (some (.ref kfill)))
    (nktail : PySem.W.nsIn K dC "tail" = some (some (.ref ktail)))
    (dwC : He.dicW K dC = some (He.keysIn w.params CH.kds))
    (aco : PySem.W.nsIn K mainGlobals "cutter_of" = some (some (.ref fco)))
    (lco : K.lookup fco = some ⟨occo, odco, .func (PySem.W.fnOf "cutter_of" "cutter_of" (defArgs sCO) (defBody sCO) (defScope sCO) .none kVco dcco pmco anco cdco ctco), slco⟩)
    (cco : PySem.W.codeIn K cdco "cutter_of" = true)
    (kco : PySem.W.keepIn K (.ref fco) = true)
    (aCA : PySem.W.nsIn K mainGlobals "Chain" = some (some (.ref CA)))
    (pgA : PySem.W.plainGet K CA Str.empty = true)
    (hdA : PySem.W.hasDictIn K CA = true)
    (poA : PySem.W.plainOver K CA = true)
    (saA : PySem.W.findIn K (.ref CA) "__setattr__" = some (some (.builtin "object.__setattr__")))
    (mkA : PySem.W.makesIn K CA = true)
    (kcA : PySem.W.keepIn K (.ref CA) = true)
    (nA0 : PySem.W.findIn K (.ref CA) "text" = some none)
    (nA1 : PySem.W.findIn K (.ref CA) "cutters" = some none)
    (aai : PySem.W.findIn K (.ref CA) "__init__" = some (some (.ref fai)))
    (iai : PySem.W.isFn K (.ref fai) = true)
    (lai : K.lookup fai = some ⟨ocai, odai, .func (PySem.W.fnOf "__init__" "Chain.__init__" (defArgs sAI) (defBody sAI) (defScope sAI) .none kVai dcai pmai anai cdai ctai), slai⟩)
    (cai : PySem.W.codeIn K cdai "Chain.__init__" = true)
    (kai : PySem.W.keepIn K (.ref fai) = true)
    (aae : PySem.W.findIn K (.ref CA) "__eq__" = some (some (.ref fae)))
    (iae : PySem.W.isFn K (.ref fae) = true)
    (lae : K.lookup fae = some ⟨ocae, odae, .func (PySem.W.fnOf "__eq__" "Chain.__eq__" (defArgs sAE) (defBody sAE) (defScope sAE) .none kVae dcae pmae anae cdae ctae), slae⟩)
    (cae : PySem.W.codeIn K cdae "Chain.__eq__" = true)
    (kae : PySem.W.keepIn K (.ref fae) = true)
    (aas : PySem.W.findIn K (.ref CA) "__str__" = some (some (.ref fas)))
    (ias : PySem.W.isFn K (.ref fas) = true)
    (las : K.lookup fas = some ⟨ocas, odas, .func (PySem.W.fnOf "__str__" "Chain.__str__" (defArgs sAS) (defBody sAS) (defScope sAS) .none kVas dcas pmas anas cdas ctas), slas⟩)
    (cas : PySem.W.codeIn K cdas "Chain.__str__" = true)
    (kas : PySem.W.keepIn K (.ref fas) = true)
    (aar : PySem.W.findIn K (.ref CA) "__repr__" = some (some (.ref far)))
    (iar : PySem.W.isFn K (.ref far) = true)
    (lar : K.lookup far = some ⟨ocar, odar, .func (PySem.W.fnOf "__repr__" "Chain.__repr__" (defArgs sAR) (defBody sAR) (defScope sAR) .none kVar dcar pmar anar cdar ctar), slar⟩)
    (car : PySem.W.codeIn K cdar "Chain.__repr__" = true)
    (kar : PySem.W.keepIn K (.ref far) = true)
    (nneA : PySem.W.findIn K (.ref CA) "__ne__" = some (some (.builtin "object.__ne__")))
    (y1A : PySem.W.findIn K (.ref CA) "__class__" = some (some (.builtin "object.__class__")))
    (y2A : PySem.W.specialIn K (.builtin "object.__class__") "__get__" = some (some (.builtin "getset_descriptor.__get__")))
    (y3A : PySem.W.takesIn K (.builtin "object.__class__") = some true)
    (y4A : PySem.W.mroIn K CA (.type "object") = some true)
    (y5A : PySem.W.kitOne K (.ref CA) (.ref CA) = some true)
    (asip : PySem.W.nsIn K mainGlobals "_law_sip" = some (some (.ref fsip)))
    (lsip : K.lookup fsip = some ⟨ocsip, odsip, .func (PySem.W.fnOf "_law_sip" "_law_sip" (defArgs sSip) (defBody sSip) (defScope sSip) .none kVsip dcsip pmsip ansip cdsip ctsip), slsip⟩)
    (csip : PySem.W.codeIn K cdsip "_law_sip" = true)
    (ksip : PySem.W.keepIn K (.ref fsip) = true)
    (afrm : PySem.W.nsIn K mainGlobals "_law_from" = some (some (.ref ffrm)))
    (lfrm : K.lookup ffrm = some ⟨ocfrm, odfrm, .func (PySem.W.fnOf "_law_from" "_law_from" (defArgs sFrom) (defBody sFrom) (defScope sFrom) .none kVfrm dcfrm pmfrm anfrm cdfrm ctfrm), slfrm⟩)
    (cfrm : PySem.W.codeIn K cdfrm "_law_from" = true)
    (kfrm : PySem.W.keepIn K (.ref ffrm) = true)
    (acts : PySem.W.nsIn K mainGlobals "_law_cutters" = some (some (.ref fcts)))
    (lcts : K.lookup fcts = some ⟨occts, odcts, .func (PySem.W.fnOf "_law_cutters" "_law_cutters" (defArgs sCuts) (defBody sCuts) (defScope sCuts) .none kVcts dccts pmcts ancts cdcts ctcts), slcts⟩)
    (ccts : PySem.W.codeIn K cdcts "_law_cutters" = true)
    (kcts : PySem.W.keepIn K (.ref fcts) = true)
    (alin : PySem.W.nsIn K mainGlobals "_law_chain_line" = some (some (.ref flin)))
    (llin : K.lookup flin = some ⟨oclin, odlin, .func (PySem.W.fnOf "_law_chain_line" "_law_chain_line" (defArgs sCLine) (defBody sCLine) (defScope sCLine) .none kVlin dclin pmlin anlin cdlin ctlin), sllin⟩)
    (clin : PySem.W.codeIn K cdlin "_law_chain_line" = true)
    (klin : PySem.W.keepIn K (.ref flin) = true)
    (aCInp : PySem.W.nsIn K mainGlobals "InputError" = some (some (.ref CInp)))
    (x7IT : PySem.W.findIn K (.ref CIT) "__getattribute__" = some (some (.builtin "BaseException.__getattribute__")))
    (x8IT : PySem.W.findIn K (.ref CIT) "__getattr__" = some none)
    (x9IT : PySem.W.hasDictIn K CIT = true)
    (xAIT : (PySem.W.clsIn K CIT).isSome = true)
    (xBIT : PySem.W.findIn K (.ref CIT) "__class__" = some (some (.builtin "object.__class__")))
    (xg1 : PySem.W.specialIn K (.builtin "object.__class__") "__get__" = some (some (.builtin "getset_descriptor.__get__")))
    (xg2 : PySem.W.takesIn K (.builtin "object.__class__") = some true)
    (xCIT : PySem.W.mroIn K CIT (.type "object") = some true)
    (te : PySem.W.exmOne K (.ref CIT) (.ref CIT) = some true)
    (k1e : PySem.W.kitOne K (.ref CIT) (.ref CInp) = some true)
    (k2e : PySem.W.kitOne K (.ref CIT) (.type "ValueError") = some true)
    (acm : PySem.W.nsIn K mainGlobals "_law_came" = some (some (.ref fcm)))
    (lcm : K.lookup fcm = some ⟨occm, odcm, .func (PySem.W.fnOf "_law_came" "_law_came" (defArgs sCame) (defBody sCame) (defScope sCame) .none kVcm dccm pmcm ancm cdcm ctcm), slcm⟩)
    (ccm : PySem.W.codeIn K cdcm "_law_came" = true)
    (kcm : PySem.W.keepIn K (.ref fcm) = true)
    (ail : PySem.W.nsIn K mainGlobals "_law_is_line" = some (some (.ref fil)))
    (lil : K.lookup fil = some ⟨ocil, odil, .func (PySem.W.fnOf "_law_is_line" "_law_is_line" (defArgs sIl) (defBody sIl) (defScope sIl) .none kVil dcil pmil anil cdil ctil), slil⟩)
    (cil : PySem.W.codeIn K cdil "_law_is_line" = true)
    (kil : PySem.W.keepIn K (.ref fil) = true)
    (achg : PySem.W.nsIn K mainGlobals "_law_changed" = some (some (.ref fchg)))
    (lchg : K.lookup fchg = some ⟨occhg, odchg, .func (PySem.W.fnOf "_law_changed" "_law_changed" (defArgs sChg) (defBody sChg) (defScope sChg) .none kVchg dcchg pmchg anchg cdchg ctchg), slchg⟩)
    (cchg : PySem.W.codeIn K cdchg "_law_changed" = true)
    (kchg : PySem.W.keepIn K (.ref fchg) = true)
    (kSA : PySem.W.kitOne K (.ref CA) (.type "str") = some false)
    (ajar : PySem.W.nsIn K mainGlobals "_law_jar" = some (some (.ref fjar)))
    (ljar : K.lookup fjar = some ⟨ocjar, odjar, .func (PySem.W.fnOf "_law_jar" "_law_jar" (defArgs sJar) (defBody sJar) (defScope sJar) .none kVjar dcjar pmjar anjar cdjar ctjar), sljar⟩)
    (cjar : PySem.W.codeIn K cdjar "_law_jar" = true)
    (kjar : PySem.W.keepIn K (.ref fjar) = true)
    (art : PySem.W.nsIn K mainGlobals "_law_right" = some (some (.ref frt)))
    (lrt : K.lookup frt = some ⟨ocrt, odrt, .func (PySem.W.fnOf "_law_right" "_law_right" (defArgs sRight) (defBody sRight) (defScope sRight) .none kVrt dcrt pmrt anrt (.ref cR) ctrt), slrt⟩)
    (crt : PySem.W.codeIn K (.ref cR) "_law_right" = true)
    (krt : PySem.W.keepIn K (.ref frt) = true)
    (alaw : PySem.W.nsIn K mainGlobals "law" = some (some (.ref flaw)))
    (llaw : K.lookup flaw = some ⟨oclaw, odlaw, .func (PySem.W.fnOf "law" "law" (defArgs sLaw) (defBody sLaw) (defScope sLaw) .none kVlaw dclaw pmlaw anlaw cdlaw ctlaw), sllaw⟩)
    (claw : PySem.W.codeIn K cdlaw "law" = true)
    (klaw : PySem.W.keepIn K (.ref flaw) = true)
    (q1 : K.lookup cR = some ⟨ocC, odC, .fields vsC, slC⟩)
    (q2 : vsC[11]? = some (.ref PR))
    (q3 : PySem.W.codeHdIn K cR PR = true)
    (q4 : K.lookup PR = none)
    (q5 : h.get? PR = some { cls := .none, data := .fields #[] })
    (z_len : PySem.W.nsIn K mainGlobals "len" = some none)
    (z_str : PySem.W.nsIn K mainGlobals "str" = some none)
    (z_int : PySem.W.nsIn K mainGlobals "int" = some none)
    (z_range : PySem.W.nsIn K mainGlobals "range" = some none)
    (z_tuple : PySem.W.nsIn K mainGlobals "tuple" = some none)
    (z_isinstance : PySem.W.nsIn K mainGlobals "isinstance" = some none)
    (z_abs : PySem.W.nsIn K mainGlobals "abs" = some none)
    (z_divmod : PySem.W.nsIn K mainGlobals "divmod" = some none)
    (z_ValueError : PySem.W.nsIn K mainGlobals "ValueError" = some none)
    (z_repr : PySem.W.nsIn K mainGlobals "repr" = some none)
    (z_all : PySem.W.nsIn K mainGlobals "all" = some none)
    (z_max : PySem.W.nsIn K mainGlobals "max" = some none)
    (z_min : PySem.W.nsIn K mainGlobals "min" = some none) :
    Gd.LawG l w K 11 63 "_law_script" mg fa h := by
  have e := hfa.symm.trans (PySem.W.mg_of X G alaw)
  cases e
  have FIT := fun_mk (st := sEI) lIT cIT kIT
  have bIT := FIT.binds (ps := ["self", "value"]) fun _ _ _ _ _ _ us hl => match us, hl with | [_, _], _ => rfl
  have Fco := fun_mk (st := sCO) lco cco kco
  have bco := Fco.binds (ps := ["text"]) fun _ _ _ _ _ _ us hl => match us, hl with | [_], _ => rfl
  have Fai := fun_mk (st := sAI) lai cai kai
  have bai := Fai.binds (ps := ["self", "text"]) fun _ _ _ _ _ _ us hl => match us, hl with | [_, _], _ => rfl
  let TA : TxA w K mg := ⟨⟨CIT, fIT, _, PySem.W.mg_of X G aCIT, ⟨⟨nmIT, qIT, NIT, bsIT, bmIT, snIT, subIT, abIT, colIT, ddIT, m0IT, m1IT, m2IT, m3IT, m5IT, xIT, xrIT⟩, e1IT, e2IT, e3IT, e4IT⟩, aIT, e5IT, e6IT, FIT, bIT⟩, PySem.W.mg_none_of X G z_len, PySem.W.mg_none_of X G z_str, PySem.W.mg_none_of X G z_int, PySem.W.mg_none_of X G z_range, PySem.W.mg_none_of X G z_tuple, PySem.W.mg_none_of X G z_isinstance, ⟨_, PySem.W.mg_of X G mMW⟩, ⟨_, PySem.W.mg_of X G mMC⟩, dC, PySem.W.mg_of X G gdC, dwC, fun k => (match k with | .cut => kcut | .fill => kfill | .tail => ktail), fun k => (match k with | .cut => nkcut | .fill => nkfill | .tail => nktail), ⟨fco, _, Fco, bco, PySem.W.mg_of X G aco, kco⟩, CA, PySem.W.mg_of X G aCA, ⟨pgA, hdA, poA, saA⟩, nA0, nA1, fai, _, Fai, bai, ⟨mkA, aai, iai, kcA⟩⟩
  have Fae := fun_mk (st := sAE) lae cae kae
  have bae := Fae.binds (ps := ["self", "other"]) fun _ _ _ _ _ _ us hl => match us, hl with | [_, _], _ => rfl
  have Fas := fun_mk (st := sAS) las cas kas
  have bas := Fas.binds (ps := ["self"]) fun _ _ _ _ _ _ us hl => match us, hl with | [_], _ => rfl
  have Far := fun_mk (st := sAR) lar car kar
  have bar := Far.binds (ps := ["self"]) fun _ _ _ _ _ _ us hl => match us, hl with | [_], _ => rfl
  let TAm : TxAm w K mg := ⟨TA, ⟨fae, _, Fae, bae, aae, iae⟩, ⟨fas, _, Fas, bas, aas, ias⟩, ⟨far, _, Far, bar, aar, iar⟩, nneA, ⟨y1A, y2A, y3A, y4A, y5A⟩⟩
  have Fsip := fun_mk (st := sSip) lsip csip ksip
  have bsip := Fsip.binds (ps := ["_law_jar_here", "_law_many"]) fun _ _ _ _ _ _ us hl => match us, hl with | [_, _], _ => rfl
  have Ffrm := fun_mk (st := sFrom) lfrm cfrm kfrm
  have bfrm := Ffrm.binds (ps := ["_law_jar_here", "_law_things"]) fun _ _ _ _ _ _ us hl => match us, hl with | [_, _], _ => rfl
  have Fcts := fun_mk (st := sCuts) lcts ccts kcts
  have bcts := Fcts.binds (ps := ["_law_jar_here", "_law_most"]) fun _ _ _ _ _ _ us hl => match us, hl with | [_, _], _ => rfl
  have Flin := fun_mk (st := sCLine) llin clin klin
  have blin := Flin.binds (ps := ["_law_cutters_here"]) fun _ _ _ _ _ _ us hl => match us, hl with | [_], _ => rfl
  let TAd : TxAd K mg := ⟨⟨PySem.W.mg_none_of X G z_len, PySem.W.mg_none_of X G z_int, PySem.W.mg_none_of X G z_abs, PySem.W.mg_none_of X G z_divmod⟩, PySem.W.mg_none_of X G z_range, PySem.W.mg_none_of X G z_str, ⟨fsip, _, Fsip, bsip, PySem.W.mg_of X G asip, ksip⟩, ⟨ffrm, _, Ffrm, bfrm, PySem.W.mg_of X G afrm, kfrm⟩, ⟨fcts, _, Fcts, bcts, PySem.W.mg_of X G acts, kcts⟩, ⟨flin, _, Flin, blin, PySem.W.mg_of X G alin, klin⟩⟩
  have Fcm := fun_mk (st := sCame) lcm ccm kcm
  have bcm := Fcm.binds (ps := ["_law_ask"]) fun _ _ _ _ _ _ us hl => match us, hl with | [_], _ => rfl
  let TCm : TxCm K mg CIT := ⟨CInp, PySem.W.mg_none_of X G z_isinstance, PySem.W.mg_none_of X G z_ValueError, PySem.W.mg_of X G aCIT, PySem.W.mg_of X G aCInp, ⟨⟨x7IT, x8IT, e2IT, x9IT⟩, xAIT, xBIT, xg1, xg2, xCIT⟩, e6IT, te, k1e, k2e, ⟨fcm, _, Fcm, bcm, PySem.W.mg_of X G acm, kcm⟩⟩
  have Fil := fun_mk (st := sIl) lil cil kil
  have bil := Fil.binds (ps := ["_law_line"]) fun _ _ _ _ _ _ us hl => match us, hl with | [_], _ => rfl
  have Fchg := fun_mk (st := sChg) lchg cchg kchg
  have bchg := Fchg.binds (ps := ["_law_jar_here", "_law_line"]) fun _ _ _ _ _ _ us hl => match us, hl with | [_, _], _ => rfl
  have KI : KBn K (PySem.W.fnOf "__init__" "Chain.__init__" (defArgs sAI) (defBody sAI) (defScope sAI) .none kVai dcai pmai anai cdai ctai) ["self", "text"] 1 ["text"] gKw gKwV := ⟨fun s us ws _ h1 h2 => by
      match us, ws, h1, h2 with
      | [_], [_], _, _ => exact .of_eq rfl, fun h1 h2 => gKw_rel h1 h2⟩
  have Fjar := fun_mk (st := sJar) ljar cjar kjar
  have bjar := Fjar.binds (ps := ["_law_script", "_law_k"]) fun _ _ _ _ _ _ us hl => match us, hl with | [_, _], _ => rfl
  have Frt := fun_mk (st := sRight) lrt crt krt
  have brt := Frt.binds (ps := ["_law_jar_here"]) fun _ _ _ _ _ _ us hl => match us, hl with | [_], _ => rfl
  have Flaw := fun_mk (st := sLaw) llaw claw klaw
  let R : TxR w K mg := ⟨TAm, TAd, TCm, PySem.W.mg_none_of X G z_repr, ⟨fil, _, Fil, bil, PySem.W.mg_of X G ail, kil⟩, ⟨fchg, _, Fchg, bchg, PySem.W.mg_of X G achg, kchg⟩, KI, kSA⟩
  refine ⟨_, [(cR, PR)], spLaw K PR, fun p hp => ?_, fun p hp => ?_, fun p hp => ?_, fun s v => .of_eq rfl, fun H a ns hl hT hS => ?_, fun base _ _ sm hB => ok_law Flaw TAd.J TAd.range (PySem.W.mg_none_of X G z_all) 10 (ok_right Frt R rfl sm (hB (cR, PR) (List.mem_singleton.mpr rfl))) Fjar bjar (PySem.W.mg_of X G ajar) kjar (by decide) brt (PySem.W.mg_of X G art) krt (PySem.W.mg_none_of X G z_max) (PySem.W.mg_none_of X G z_min)⟩
  · cases List.mem_singleton.mp hp
    exact q5
  · cases List.mem_singleton.mp hp
    exact q4
  · cases List.mem_singleton.mp hp
    exact PySem.W.codeHd_of_K X q3
  · refine ⟨a, ns, rfl, hS, hl, fun p hp => ?_, fun _ => rfl⟩
    cases List.mem_singleton.mp hp
    exact LamX.TabS.nil (hT (cR, PR) (List.mem_singleton.mpr rfl))
end My
open PySem PySem.W PyProof.Rows in
set_option maxRecDepth 100000 in
set_option maxHeartbeats 0 in
theorem PySem.Challenge.cw_lastshort_k52_whole_chain_texts_holds : PySem.Challenge.rw_lastshort_k52_whole_chain_texts.Holds := by
  w_on; o_law; k_head; (case hw => w_witness2)
  k_fill
  refine Gd.walk_ofG (l := PySem.Challenge.rw_lastshort_k52_whole_chain_texts) (n := 63) (k := 11) (x := "_law_script") rfl (by decide) rfl (by decide +kernel) ⟨rfl, by decide, by decide⟩ (fun w h Y => PySem.W.km_in_of Y) ?F
  case F =>
    intro w mg fa h Y KX G hmg
    refine' My.all_mk KX G hmg ?aCIT ?aIT ?iIT ?lIT ?cIT ?kIT ?xIT ?xrIT ?e1IT ?e2IT ?e3IT ?e4IT ?e5IT ?e6IT ?mMW ?mMC ?gdC ?nkcut ?nkfill ?nktail ?dwC ?aco ?lco ?cco ?kco ?aCA ?pgA ?hdA ?poA ?saA ?mkA ?kcA ?nA0 ?nA1 ?aai ?iai ?lai ?cai ?kai ?aae ?iae ?lae ?cae ?kae ?aas ?ias ?las ?cas ?kas ?aar ?iar ?lar ?car ?kar ?nneA ?y1A ?y2A ?y3A ?y4A ?y5A ?asip ?lsip ?csip ?ksip ?afrm ?lfrm ?cfrm ?kfrm ?acts ?lcts ?ccts ?kcts ?alin ?llin ?clin ?klin ?aCInp ?x7IT ?x8IT ?x9IT ?xAIT ?xBIT ?xg1 ?xg2 ?xCIT ?te ?k1e ?k2e ?acm ?lcm ?ccm ?kcm ?ail ?lil ?cil ?kil ?achg ?lchg ?cchg ?kchg ?kSA ?ajar ?ljar ?cjar ?kjar ?art ?lrt ?crt ?krt ?alaw ?llaw ?claw ?klaw ?q1 ?q2 ?q3 ?q4 ?q5 ?z_len ?z_str ?z_int ?z_range ?z_tuple ?z_isinstance ?z_abs ?z_divmod ?z_ValueError ?z_repr ?z_all ?z_max ?z_min
    (case aCIT => k_is)
    (case aIT => k_is)
    (case iIT => k_is)
    (case lIT => k_is)
    (case cIT => k_is)
    (case kIT => k_is)
    (case xIT => k_is)
    (case xrIT => decide +kernel)
    (case e1IT => k_is)
    (case e2IT => k_is)
    (case e3IT => k_is)
    (case e4IT => k_is)
    (case e5IT => k_is)
    (case e6IT => k_is)
    (case mMW => k_is)
    (case mMC => k_is)
    (case gdC => k_is)
    (case nkcut => k_is)
    (case nkfill => k_is)
    (case nktail => k_is)
    (case dwC => kernel_rfl)
    (case aco => k_is)
    (case lco => k_is)
    (case cco => k_is)
    (case kco => k_is)
    (case aCA => k_is)
    (case pgA => k_is)
    (case hdA => k_is)
    (case poA => k_is)
    (case saA => k_is)
    (case mkA => k_is)
    (case kcA => k_is)
    (case nA0 => k_is)
    (case nA1 => k_is)
    (case aai => k_is)
    (case iai => k_is)
    (case lai => k_is)
    (case cai => k_is)
    (case kai => k_is)
    (case aae => k_is)
    (case iae => k_is)
    (case lae => k_is)
    (case cae => k_is)
    (case kae => k_is)
    (case aas => k_is)
    (case ias => k_is)
    (case las => k_is)
    (case cas => k_is)
    (case kas => k_is)
    (case aar => k_is)
    (case iar => k_is)
    (case lar => k_is)
    (case car => k_is)
    (case kar => k_is)
    (case nneA => k_is)
    (case y1A => k_is)
    (case y2A => k_is)
    (case y3A => k_is)
    (case y4A => k_is)
    (case y5A => kernel_rfl)
    (case asip => k_is)
    (case lsip => k_is)
    (case csip => k_is)
    (case ksip => k_is)
    (case afrm => k_is)
    (case lfrm => k_is)
    (case cfrm => k_is)
    (case kfrm => k_is)
    (case acts => k_is)
    (case lcts => k_is)
    (case ccts => k_is)
    (case kcts => k_is)
    (case alin => k_is)
    (case llin => k_is)
    (case clin => k_is)
    (case klin => k_is)
    (case aCInp => k_is)
    (case x7IT => k_is)
    (case x8IT => k_is)
    (case x9IT => k_is)
    (case xAIT => kernel_rfl)
    (case xBIT => k_is)
    (case xg1 => k_is)
    (case xg2 => k_is)
    (case xCIT => k_is)
    (case te => kernel_rfl)
    (case k1e => kernel_rfl)
    (case k2e => kernel_rfl)
    (case acm => k_is)
    (case lcm => k_is)
    (case ccm => k_is)
    (case kcm => k_is)
    (case ail => k_is)
    (case lil => k_is)
    (case cil => k_is)
    (case kil => k_is)
    (case achg => k_is)
    (case lchg => k_is)
    (case cchg => k_is)
    (case kchg => k_is)
    (case kSA => kernel_rfl)
    (case ajar => k_is)
    (case ljar => k_is)
    (case cjar => k_is)
    (case kjar => k_is)
    (case art => k_is)
    (case lrt => k_is)
    (case crt => k_is)
    (case krt => k_is)
    (case alaw => k_is)
    (case llaw => k_is)
    (case claw => k_is)
    (case klaw => k_is)
    (case q1 => k_is)
    (case q2 => rfl)
    (case q3 => kernel_rfl)
    (case q4 => kernel_rfl)
    (case q5 => exact PySem.W.km_tabs_of Y _ (by decide))
    (case z_len => k_is)
    (case z_str => k_is)
    (case z_int => k_is)
    (case z_range => k_is)
    (case z_tuple => k_is)
    (case z_isinstance => k_is)
    (case z_abs => k_is)
    (case z_divmod => k_is)
    (case z_ValueError => k_is)
    (case z_repr => k_is)
    (case z_all => k_is)
    (case z_max => k_is)
    (case z_min => k_is)
