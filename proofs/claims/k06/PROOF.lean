import PyProof.Rows.All
import Wide.All
import OpenK.AllK
import Wide.FinOn
import HandS.ForMost
import HandS.Codes
import HandS.IsInst
import HandS.TupAny
import HandS.SlotsOwn
import HandS.ExcInit
import HandS.ExcField
import HandS.WordsExc
import KE.KCallOwn
import OpenK.KOps
import HandS.FStr
import HandS.RaiseMore
import PyProof.InstEq
import HandS.TryMany
import HandS.Lambda
import KE.KExcIs
import PyProof.ReprRoads
import HandS.ExcIs
import HandS.OwnEq
import PyProof.ReprReads
import HandS.TupMul
import HandS.CallLocal
import HandS.Conv
import PySem.Challenge.RW_lastshort_k06_places_and_properties_refu
set_option Elab.async false
set_option linter.all false
set_option maxRecDepth 100000
set_option maxHeartbeats 8000000
/-! the draws of the law: jar, sip, from -/
namespace My
open PySem L2
def top (i : Nat) : Stmt := PySem.Challenge.pw_lastshort_k06_places_and_properties_refu.main.body.getD i (.Pass ⟨0, 0, 0, 0⟩)
abbrev sJar : Stmt := top 68
abbrev sSip : Stmt := top 69
abbrev sFrom : Stmt := top 70
/-! ### heaps -/
/-- all but what stands at j is as it was -/
def Off (j : Addr) (H H' : Hp) : Prop := ∀ b o, b ≠ j → H b = some o → H' b = some o
theorem Off.refl {j : Addr} {H : Hp} : Off j H H := fun _ _ _ e => e
theorem Off.trans {j : Addr} {H H1 H2 : Hp} (a : Off j H H1) (b : Off j H1 H2) : Off j H H2 := fun c o n e => b c o n (a c o n e)
theorem Off.new {j p : Addr} {H H1 : Hp} {o : HO} (a : Off j H H1) (n : H1 p = none) : Off j H (upd H1 p o) := fun b u nb e => by
  rw [upd_ne (ne_of_none (a b u nb e) n)]
  exact a b u nb e
theorem Off.put {j : Addr} {H H1 : Hp} {o : HO} (a : Off j H H1) : Off j H (upd H1 j o) := fun b u nb e => by
  rw [upd_ne nb]
  exact a b u nb e
theorem Off.seq {K : PySem.W.Frag} {j a : Addr} {H H' : Hp} {xs : List V} (e : Off j H H') (n : a ≠ j) (h : SqL K H a xs) : SqL K H' a xs := by
  rcases h with (h | ⟨o, h⟩) | h
  · exact .inl (.inl (e _ _ n h))
  · exact .inl (.inr ⟨o, e _ _ n h⟩)
  · exact .inr h
theorem Off.set {K : PySem.W.Frag} {j a : Addr} {H H' : Hp} {xs : List V} (e : Off j H H') (n : a ≠ j) (h : SqT K H a xs) : SqT K H' a xs := by
  rcases h with (h | ⟨o, h⟩) | h
  · exact .inl (.inl (e _ _ n h))
  · exact .inl (.inr ⟨o, e _ _ n h⟩)
  · exact .inr h
theorem Off.same {j : Addr} {H0 H H' : Hp} (e : Off j H H') (s : Same H0 H) (n : H0 j = none) : Same H0 H' := fun b o q => e b o (fun z => by rw [z, n] at q; cases q) (s b o q)
theorem same_upd {H : Hp} {p : Addr} {o : HO} (h : H p = none) : Same H (upd H p o) := fun b x e => by
  rw [upd_ne (ne_of_none e h)]
  exact e
theorem Same.off {j : Addr} {H H' : Hp} (s : Same H H') : Off j H H' := fun b o _ e => s b o e
/-- a jar: three whole numbers -/
def Jar (H : Hp) (j : Addr) : Prop := ∃ a b c : Int, H j = some (.lst [.int a, .int b, .int c])
theorem Jar.new {H : Hp} {j p : Addr} {o : HO} (a : Jar H j) (n : H p = none) : Jar (upd H p o) j := by
  obtain ⟨x, y, z, h⟩ := a
  exact ⟨x, y, z, by rw [upd_ne (ne_of_none h n)]; exact h⟩
theorem Jar.same {H H' : Hp} {j : Addr} (a : Jar H j) (s : Same H H') : Jar H' j := by
  obtain ⟨x, y, z, h⟩ := a
  exact ⟨x, y, z, s _ _ h⟩
/-! ### promises -/
def spSip : Sp := fun vs H Q _ => ∃ (j : Addr) (m : Int), vs = [.ref j, .int m] ∧ Jar H j ∧ 0 < m ∧ m < 1073741824 ∧
  ∀ (H' : Hp) (d : Int), 0 ≤ d → d < m → Off j H H' → Jar H' j → Q (.int d) H'
def spFrom (K : PySem.W.Frag) : Sp := fun vs H Q _ => ∃ (j p : Addr) (xs : List V), vs = [.ref j, .ref p] ∧ Jar H j ∧ p ≠ j ∧ SqL K H p xs ∧ 0 < xs.length ∧ xs.length < 1073741824 ∧
  ∀ (H' : Hp) (i : Nat) (x : V), xs[i]? = some x → Off j H H' → Jar H' j → Q x H'
def spJar (K : PySem.W.Frag) : Sp := fun vs H Q _ => ∃ (a : Addr) (ns : List Int) (k : Nat), vs = [.ref a, .int k] ∧ SqL K H a (ns.map V.int) ∧ ns.length ≤ 63 ∧
  ∀ (H' : Hp) (j : Addr), Same H H' → H j = none → Jar H' j → Q (.ref j) H'
/-- the built-ins of the draws are still the built-ins -/
structure TxtJ (mg : Str → Option Value) : Prop where
  len : mg "len" = none
  int : mg "int" = none
  abs : mg "abs" = none
  divmod : mg "divmod" = none
section
variable {P : Program} {w : World} {K : PySem.W.Frag} {mg : Str → Option Value} {base : Heap}
theorem scSip : FnScope ["_law_jar_here", "_law_many", "_law_digit"] ["_law_jar_here", "_law_many"] (defScope sSip) := ⟨rfl, rfl, rfl, by decide +kernel, rfl, by decide +kernel, by decide +kernel⟩
theorem ok_sip {f : Addr} {fd : FuncData} (F : Fun K "_law_sip" "_law_sip" sSip f fd) (T : TxtJ mg) : FnOk P w K mg base CX0 1 f fd ["_law_jar_here", "_law_many"] spSip := by
  refine F.ok scSip (fun vs H Q E h => ?_) (fun cdv A outer s H vs Q E hr h => ?_)
  · obtain ⟨j, m, rfl, _⟩ := h
    rfl
  · obtain ⟨j, m, rfl, ⟨a, b, c, hj⟩, m0, m1, k⟩ := h
    refine ⟨_, pss_cons (ps_asg (pe_op op_add (pe_ix ix_list (pv 0) pe_int (fun _ _ => rfl)) pe_int) (pg_sub (pv 0) pe_int set_list))
      (pss_cons (ps_if (pt_cmpR op_gt (pe_ix ix_list (pv 0) pe_int (fun _ _ => rfl)) pe_int (nomark _))
        (pss_cons (ps_asg (pe_callB call_divmod (by rfl) T.divmod (by decide +kernel) (pa_cons (pe_callTy call_int1 (by rfl) T.int (by decide +kernel) (pa_cons (pe_ix ix_list (pv 0) pe_int (fun _ _ => rfl)) pa_nil)) (pa_cons (pv 1) pa_nil)))
            (pg_tup (by rfl) (pgs_cons (pg_sub (pv 0) pe_int set_list) (pgs_cons (pg_name (i := 2) scSip.nd rfl (.inl rfl)) pgs_nil))))
          (pss_one (ps_ret (pv 2)))) pss_nil)
      (pss_cons (ps_asg (pe_op op_mod (pe_callTy call_int1 (by rfl) T.int (by decide +kernel) (pa_cons (pe_op op_add (pe_op op_add (pe_op op_mul (pe_ix ix_list (pv 0) pe_int (fun _ _ => rfl)) pe_int) (pe_op op_mul (pe_ix ix_list (pv 0) pe_int (fun _ _ => rfl)) pe_int))
            (pe_op op_mul (pe_op op_fdiv (pe_ix ix_list (pv 0) pe_int (fun _ _ => rfl)) pe_int) pe_int)) pa_nil)) pe_int) (pg_sub (pv 0) pe_int set_list))
      (pss_one (ps_ret (pe_op op_mod (pe_callTy call_int1 (by rfl) T.int (by decide +kernel) (pa_cons (pe_op op_fdiv (pe_ix ix_list (pv 0) pe_int (fun _ _ => rfl)) pe_int) pa_nil)) (pv 1)))))), ?_⟩
    -- jar[2] = jar[2] + 1
    refine ⟨_, rfl, j, _, 2, _, rfl, rfl, SqL.of hj, rfl, _, _, rfl, rfl, _, rfl, j, _, 2, 2, rfl, rfl, hj, rfl, ?_⟩
    -- if jar[0] > 0
    refine ⟨_, rfl, j, _, 0, _, rfl, rfl, SqL.of upd_same, rfl, _, _, rfl, rfl, _, rfl, ?_⟩
    have o1 : Off j H (upd H j (.lst [.int a, .int b, .int (c + 1)])) := Off.put Off.refl
    refine ite2 (fun _ => ?_) (fun _ => ?_)
    · refine ⟨_, rfl, j, _, 0, _, rfl, rfl, SqL.of upd_same, rfl, .inl ⟨_, rfl, _, rfl, a, m, rfl, ⟨m0, m1⟩, fun p np => ?_⟩⟩
      have npj : p ≠ j := fun e => by
        rw [e, upd_same] at np
        cases np
      refine ⟨p, _, rfl, SqT.of upd_same, rfl, _, _, rfl, _, rfl, j, _, 0, 0, rfl, rfl, (by rw [upd_ne npj.symm]; exact upd_same), rfl, _, _, rfl, rfl, ?_⟩
      refine ⟨_, rfl, ?_⟩
      exact k _ _ (Int.emod_nonneg _ (by omega)) (Int.emod_lt_of_pos _ m0) (Off.put (Off.new o1 np)) ⟨_, _, _, upd_same⟩
    · refine ⟨_, rfl, j, _, 1, _, rfl, rfl, SqL.of upd_same, rfl, _, _, rfl, rfl, .inr (by decide), ?_⟩
      refine ⟨_, rfl, j, _, 2, _, rfl, rfl, SqL.of upd_same, rfl, _, _, rfl, rfl, .inr (by decide), _, _, rfl, rfl, ?_⟩
      refine ⟨_, rfl, j, _, 1, _, rfl, rfl, SqL.of upd_same, rfl, _, _, rfl, rfl, ⟨by decide, by decide⟩, _, _, rfl, rfl, .inr (by decide), _, _, rfl, rfl, .inl ⟨_, rfl, _, _, rfl, rfl, (by show (0 : Int) < 1999999927; decide), ?_⟩⟩
      refine ⟨_, rfl, j, _, 1, 1, rfl, rfl, upd_same, rfl, ?_⟩
      refine ⟨_, rfl, j, _, 1, _, rfl, rfl, SqL.of upd_same, rfl, _, _, rfl, rfl, ⟨by decide, by decide⟩, .inl ⟨_, rfl, _, rfl, _, _, rfl, rfl, m0, ?_⟩⟩
      exact k _ _ (Int.emod_nonneg _ (by omega)) (Int.emod_lt_of_pos _ m0) (Off.put o1) ⟨_, _, _, upd_same⟩

/-! ### from -/
structure TxtS (K : PySem.W.Frag) (mg : Str → Option Value) (fS : Addr) : Prop where
  g : mg "_law_sip" = some (.ref fS)
  k : PySem.W.keepIn K (.ref fS) = true
theorem scFrom : FnScope ["_law_jar_here", "_law_things"] ["_law_jar_here", "_law_things"] (defScope sFrom) := ⟨rfl, rfl, rfl, by decide +kernel, rfl, by decide +kernel, by decide +kernel⟩
theorem ok_from {f fS : Addr} {fd fdS : FuncData} (F : Fun K "_law_from" "_law_from" sFrom f fd) (T : TxtJ mg) (S : TxtS K mg fS) (FS : Fun K "_law_sip" "_law_sip" sSip fS fdS) (bS : Binds K fdS ["_law_jar_here", "_law_many"] []) :
    FnOk P w K mg base CX0 2 f fd ["_law_jar_here", "_law_things"] (spFrom K) := by
  have GS : FnOk P w K mg base CX0 1 fS fdS ["_law_jar_here", "_law_many"] spSip := ok_sip FS T
  refine F.ok scFrom (fun vs H Q E h => ?_) (fun cdv A outer s H vs Q E hr h => ?_)
  · obtain ⟨j, p, xs, rfl, _⟩ := h
    rfl
  · obtain ⟨j, p, xs, rfl, hJ, npj, hS, l0, l1, k⟩ := h
    refine ⟨_, pss_one (ps_ret (pe_ix ix_list (pv 1) (pe_call GS hr rfl S.g S.k bS .nil pass0 (pa_cons (pv 0) (pa_cons (pe_callB call_len_seq (by rfl) T.len PySem.boot_len (pa_cons (pv 1) pa_nil)) pa_nil))) (fun _ _ => rfl))), ?_⟩
    refine ⟨_, rfl, _, rfl, _, rfl, p, xs, rfl, .inl hS, j, _, rfl, hJ, by omega, by omega, fun H' d d0 d1 o J => ?_⟩
    obtain ⟨n, rfl⟩ := Int.eq_ofNat_of_zero_le d0
    have hn : n < xs.length := by omega
    exact ⟨p, xs, _, xs[n], rfl, rfl, o.seq npj hS, atI_nat (List.getElem?_eq_getElem hn), k H' n _ (List.getElem?_eq_getElem hn) o J⟩
/-! ### jar -/
theorem scJar : FnScope ["_law_script", "_law_k", "_law_own", "_law_mixed", "_law_entry"] ["_law_script", "_law_k"] (defScope sJar) := ⟨rfl, rfl, rfl, by decide +kernel, rfl, by decide +kernel, by decide +kernel⟩
theorem int_of_map {ns : List Int} {i : Nat} {y : V} (h : (ns.map V.int)[i]? = some y) : ∃ u, y = V.int u := by
  rw [List.getElem?_map] at h
  cases e : ns[i]? with
  | none =>
    rw [e] at h
    cases h
  | some u =>
    rw [e] at h
    exact ⟨u, (Option.some.inj h).symm⟩
theorem cut_map (ns : List Int) (lo hi : Option Int) : ∃ ms : List Int, cutV (ns.map V.int) lo hi = ms.map V.int :=
  ⟨(ns.drop (HT.sIx (ns.map V.int).length 0 lo)).take (HT.sIx (ns.map V.int).length (ns.map V.int).length hi - HT.sIx (ns.map V.int).length 0 lo), by
    unfold cutV
    rw [List.map_take, List.map_drop]⟩
theorem ok_jar {f : Addr} {fd : FuncData} (F : Fun K "_law_jar" "_law_jar" sJar f fd) (T : TxtJ mg) : FnOk P w K mg base CX0 1 f fd ["_law_script", "_law_k"] (spJar K) := by
  refine F.ok scJar (fun vs H Q E h => ?_) (fun cdv A outer s H vs Q E hr h => ?_)
  · obtain ⟨a, ns, k, rfl, _⟩ := h
    rfl
  · obtain ⟨a, ns, k, rfl, hS, hl, q⟩ := h
    refine ⟨_, C8.pss_cut (ps_set (i := 2) scJar.nd rfl (.inl rfl) (pe_ifExp (pt_cmpR op_lt (pv 1) (pe_callB call_len_seq (by rfl) T.len PySem.boot_len (pa_cons (pv 0) pa_nil)) (nomark _))
          (pe_callTy call_int1 (by rfl) T.int (by decide +kernel) (pa_cons (pe_ix ix_list (pv 0) (pv 1) (fun _ _ => rfl)) pa_nil)) (pe_op op_add (pe_op op_mul pe_int (pv 1)) pe_int)))
      (pss_cons (ps_set (i := 3) scJar.nd rfl (.inl rfl) (pe_op op_add pe_int (pe_op op_mul pe_int (pv 1))))
      (pss_cons (ps_for PassesOwn.never rfl (pi_list (pe_slice sl_list (pv 0) po_none (po_some pe_int))) (pg_name (i := 4) scJar.nd rfl (.inl rfl))
        (pss_one (ps_set (i := 3) scJar.nd rfl (.inl rfl) (pe_op op_mod (pe_callTy call_int1 (by rfl) T.int (by decide +kernel) (pa_cons (pe_op op_add (pe_op op_mul (pv 3) pe_int) (pe_op op_mod (pe_callTy call_int1 (by rfl) T.int (by decide +kernel) (pa_cons (pv 4) pa_nil)) pe_int)) pa_nil)) pe_int))))
      (pss_one (ps_ret (pe_lst (pa_cons (pe_ifExp (PW.pt (pw_or (pt_cmpR op_lt (pv 2) pe_int (nomark _)) (pw_or1 (pt_cmpR op_ge (pv 2) (pe_op op_pow pe_int pe_int) (nomark _))))) (pe_callB call_abs (by rfl) T.abs (by decide +kernel) (pa_cons (pv 2) pa_nil)) pe_int)
        (pa_cons (pe_op op_mod (pe_callTy call_int1 (by rfl) T.int (by decide +kernel) (pa_cons (pe_op op_add (pe_op op_mul (pv 3) pe_int) (pe_op op_mod (pv 2) pe_int)) pa_nil)) pe_int) (pa_cons pe_int pa_nil)))))))), ?_⟩
    refine ⟨fun σ H' => H = H' ∧ ∃ own : Int, σ = [some (.ref a), some (.int k), some (.int own), none, none], ?_, ?_⟩
    · refine ⟨_, rfl, _, rfl, a, _, rfl, .inl hS, _, _, rfl, rfl, _, rfl, ?_⟩
      refine ite2 (fun c => ?_) (fun c => ?_)
      · have hk : k < ns.length := by
          have c' := of_decide_eq_true c
          rw [List.length_map] at c'
          omega
        exact ⟨_, rfl, _, rfl, a, _, _, .int ns[k], rfl, rfl, hS, atI_nat (by rw [List.getElem?_map, List.getElem?_eq_getElem hk]; rfl), .inl ⟨_, rfl, rfl, _, rfl⟩⟩
      · exact ⟨_, rfl, _, _, rfl, rfl, .inl (by decide), _, _, rfl, rfl, rfl, _, rfl⟩
    · rintro _ _ ⟨rfl, own, rfl⟩
      refine ⟨_, rfl, _, _, rfl, rfl, .inl (by decide), _, _, rfl, rfl, ?_⟩
      refine ⟨_, rfl, 13, rfl, a, _, rfl, hS, fun p np => ?_⟩
      obtain ⟨ms, ems⟩ := cut_map ns none (some 13)
      rw [ems]
      refine ⟨p, rfl, ⟨_, SqL.of upd_same⟩, for_list (K := K) (a := p) (xs := ms.map V.int) (fun i σ H' => ∃ (mx : Int) (v : Option V), σ = [some (.ref a), some (.int k), some (.int own), some (.int mx), v] ∧ H' = upd H p (.lst (ms.map V.int)))
        ⟨_, none, rfl, rfl⟩ (fun i σ H' _ ⟨_, _, _, e⟩ => by rw [e]; exact SqL.of upd_same) ?_ ?_⟩
      · rintro i y σ H' hi ⟨mx, v, rfl, rfl⟩
        obtain ⟨u, rfl⟩ := int_of_map hi
        refine ⟨_, rfl, _, _, rfl, rfl, .inr (by decide), ?_⟩
        refine ⟨_, rfl, .inl ⟨_, rfl, _, _, rfl, rfl, (by show (0 : Int) < 1999999927; decide), _, _, rfl, rfl, .inl ⟨_, rfl, _, _, rfl, rfl, (by show (0 : Int) < 1999999927; decide), ?_⟩⟩⟩
        exact ⟨_, _, rfl, rfl⟩
      · rintro σ H' ⟨mx, v, rfl, rfl⟩
        have fin : ∀ (x : Int), tCons (tOp (rI (fun x j => 0 < j) fun i j => V.int (i % j)) (tCB (fun xs H Q => (∃ i, xs = [V.int i] ∧ Q (V.int i) H) ∨ ∃ k, xs = [V.bl k] ∧ Q (V.int (if k = true then 1 else 0)) H)
            (tCons (tOp (rI0 fun i j => V.int (i + j)) (tOp (rI CMul fun i j => V.int (i * j)) (tVar 3) (tC (V.int 5))) (tOp (rI (fun x j => 0 < j) fun i j => V.int (i % j)) (tVar 2) (tC (V.int 1999999927)))) tNil)) (tC (V.int 1999999927)))
          (tCons (tC (V.int 0)) tNil) [some (.ref a), some (.int k), some (.int own), some (.int mx), v] (upd H p (.lst (ms.map V.int))) (fun xs H1 => (V.int x :: xs).length ≤ sizeLine ∧ ∀ p, H1 p = none → Q (.ref p) (upd H1 p (.lst (V.int x :: xs)))) := by
          intro x
          refine ⟨_, rfl, _, _, rfl, rfl, .inr (by decide), _, rfl, _, _, rfl, rfl, (by show (0 : Int) < 1999999927; decide), _, _, rfl, rfl, .inl ⟨_, rfl, _, _, rfl, rfl, (by show (0 : Int) < 1999999927; decide), ?_⟩⟩
          refine ⟨(by show 3 ≤ sizeLine; decide), fun jj nj => ?_⟩
          exact q _ jj (Same.trans (same_upd np) (same_upd nj)) ((same_upd np).free nj) ⟨_, _, _, upd_same⟩
        refine ⟨_, rfl, _, _, rfl, rfl, _, rfl, ?_⟩
        refine ite2 (fun _ => ?_) (fun _ => ?_)
        · refine iteT ?_
          exact ⟨_, rfl, _, rfl, fin _⟩
        · refine ⟨_, rfl, _, _, rfl, rfl, ⟨by decide, by decide, by decide⟩, _, _, rfl, rfl, _, rfl, ?_⟩
          refine ite2 (fun _ => ?_) (fun _ => ?_)
          · exact ⟨_, rfl, _, rfl, fin _⟩
          · exact fin _
end
end My

/-! what every proof about a program of several defs wants -/
namespace Cm
open PySem PySem.Spec PyProof.Rows L2
/-- a def of the module -/
structure Df (K : PySem.W.Frag) (mg : Str → Option Value) (x : Str) (st : Stmt) (ps : List Str) where
  f : Addr
  fd : FuncData
  F : Fun K x x st f fd
  b : Binds K fd ps []
  g : mg x = some (.ref f)
  k : PySem.W.keepIn K (.ref f) = true
/-- a method of the class at C -/
structure Mt (K : PySem.W.Frag) (C : Addr) (x q : Str) (st : Stmt) (ps : List Str) where
  f : Addr
  fd : FuncData
  F : Fun K x q st f fd
  b : Binds K fd ps []
  m : Meth K C x f
theorem dI (a b : Int) : decide (V.int a = V.int b) = decide (a = b) := decide_eq_decide.mpr ⟨fun z => by cases z; rfl, fun z => by rw [z]⟩
theorem dS (a b : Str) : decide (V.str a = V.str b) = decide (a = b) := decide_eq_decide.mpr ⟨fun z => by cases z; rfl, fun z => by rw [z]⟩
theorem dB (a b : Bool) : decide (V.bl a = V.bl b) = decide (a = b) := decide_eq_decide.mpr ⟨fun z => by cases z; rfl, fun z => by rw [z]⟩
theorem putF_len (f : Str) (v : V) : ∀ fs : List (Str × V), (putF f v fs).length ≤ fs.length + 1
  | [] => Nat.le_refl _
  | (g, x) :: r => by
    unfold putF
    by_cases h : g = f
    · rw [if_pos h]
      exact Nat.le_succ _
    · rw [if_neg h]
      exact Nat.succ_le_succ (putF_len f v r)
theorem szl {n : Nat} (h : n ≤ 1000) : n ≤ sizeLine := Nat.le_of_lt (small1000 h)
theorem szM {n : Nat} (h : n ≤ 1000000) : n < sizeLine := Nat.lt_of_le_of_lt h (by decide)
theorem Same.set {K : PySem.W.Frag} {H H' : Hp} {a : Addr} {xs : List V} (e : Same H H') (h : SqT K H a xs) : SqT K H' a xs := by
  rcases h with (h | ⟨o, h⟩) | h
  · exact .inl (.inl (e _ _ h))
  · exact .inl (.inr ⟨o, e _ _ h⟩)
  · exact .inr h
theorem same_new {H : Hp} {p : Addr} {o : HO} (h : H p = none) : Same H (upd H p o) := fun b x e => by
  rw [upd_ne (ne_of_none e h)]
  exact e
theorem pass_none {P : Program} {w : World} {X : Cx} : Passes (L2.CX P w) X (fun _ _ _ => False) := fun pins σ H s e s2 I h => by
  obtain ⟨_, _, _, _, _, _, _, _, _, _, _, _, h⟩ := h
  exact h.elim
/-! ### len and truth of an instance with an own __len__ -/
section
variable {X : Cx} {C g : Addr} {n : Nat} {sp : Sp}
theorem inst_of {pins : List (Addr × Obj)} {σ : L2.St} {H : Hp} {s : Shared} {a dx : Addr} {fs : List (Str × V)} (I : Inv X pins σ H s) (e : H a = some (.ins C dx fs)) : ∃ (ox : Obj) (od : Option Obj), PySem.W.InstAt s.heap a ox C od := by
  obtain ⟨mA, O, _⟩ := ins_get I.hok e
  obtain ⟨od, J, _⟩ := O.look
  exact ⟨_, _, J⟩
def rLenO (C : Addr) (sp : Sp) : List V → Hp → VK → Prop := fun xs H Q => ∃ (a dx : Addr) (fs : List (Str × V)), xs = [.ref a] ∧ H a = some (.ins C dx fs) ∧ sp [.ref a] H (fun v H2 => ∃ k : Nat, v = .int k ∧ k ≤ 1000000 ∧ Q (.int k) H2) fun _ _ _ => False
theorem call_lenO (hs : PySem.W.findIn X.K (.ref C) "__len__" = some (some (.ref g))) (hf : PySem.W.isFn X.K (.ref g) = true) (F : FnR X.prog X.w X.K X.mg X.base CX0 n g sp) (hr : Room (n + 1) X.A) : CallR X (.builtin "len") (rLenO C sp) := by
  intro pins s σ H xs us Q I r h
  obtain ⟨a, dx, fs, rfl, ha, q⟩ := h
  obtain ⟨u, rfl, ru⟩ := vals1 r
  cases (show u = Value.ref a from ru)
  obtain ⟨ox, od, J⟩ := inst_of I ha
  obtain ⟨m, fr⟩ := I.fr
  refine PySem.W.len_K fr I.ok.mod.kin J hs hf ?_
  refine wpAny_mono (wpAny_call (SlX.run_at (us := [.ref a]) (ws := [.ref a]) F hr.in1 I.env0.in1 pass0 I (.cons rfl .nil) q)) (fun z s2 hz => ?_) fun _ _ e => e
  obtain ⟨z2, H2, I2, rz, k, rfl, hk, qz⟩ := hz
  obtain ⟨tk, rfl⟩ := (show ∃ tk, z = Value.int k tk from rz)
  exact ⟨⟨by omega, by omega⟩, .int k, H2, I2.tok _, ⟨_, rfl⟩, qz⟩
end
/-! ### bool of an instance with an own __len__ -/
section
variable {prog : Program} {w : World} {A : Around} {E : Value → Shared → Prop} {s : Shared} {K : PySem.W.Frag} {x C f : Addr} {ox : Obj} {od : Option Obj}
theorem len_bodyK {Q : Value → Shared → Prop} (X : K.In s.heap) (I : PySem.W.InstAt s.heap x ox C od) (hs : PySem.W.findIn K (.ref C) "__len__" = some (some (.ref f))) (hf : PySem.W.isFn K (.ref f) = true)
    (h : wpAny (model prog w) A (call (.ref f) [.ref x]) (PySem.W.LenBack Q) E s) : wpAny (model prog w) A (Builtin.«len» ⟨[.ref x], []⟩) (fun fin s' => ∃ r, fin = .done (.ret r) ∧ Q r s') E s := by
  unfold Builtin.«len»
  refine wpAny_bind (m := oneArg "len" _) (wpAny_pure ?_)
  refine wpAny_bind (m := callSpecial? (.ref x) (Str.ofString "__len__")) (PySem.W.special_fn X I hs (beq_iff_eq.mp hf) (wpAny_mono h (fun r s' hr => ?_) fun _ _ y => y))
  cases r <;> first | exact hr.elim | skip
  rename_i n u
  obtain ⟨⟨h0, h1⟩, hq⟩ := hr
  refine wpAny_bind (wpAny_holding (wpAny_pure ?_))
  refine wpAny_bind (wpAny_letGo ?_)
  show wpAny _ _ (if n < 0 then _ else _) _ _ _
  rw [if_neg (by omega)]
  show wpAny _ _ (if n ≥ 2 ^ 63 then _ else _) _ _ _
  rw [if_neg (by omega)]
  exact wpAny_bind (wpAny_mkInt (wpAny_pure ⟨_, rfl, hq⟩))
theorem truthy_KL {Q : Bool → Shared → Prop} (X : K.In s.heap) (I : PySem.W.InstAt s.heap x ox C od) (hb : PySem.W.findIn K (.ref C) "__bool__" = some none) (hl : PySem.W.findIn K (.ref C) "__len__" = some (some (.ref f))) (hf : PySem.W.isFn K (.ref f) = true)
    (h : wpAny (model prog w) A.in1 (call (.ref f) [.ref x]) (PySem.W.LenBack fun v s' => ∃ n t, v = .int n t ∧ Q (n != 0) s') E s) : wpAny (model prog w) A (truthy (.ref x)) Q E s := by
  have key : wpAny (model prog w) A (runValue (.builtin "len" ⟨[.ref x], []⟩)) (fun r s' => ∃ n t, r = .int n t ∧ Q (n != 0) s') E s := by
    refine wpAny_runValue (codeAny_builtin entry_len ?_)
    rw [Around.under_plainId plain_len _]
    exact wpAny_mono (len_bodyK X I hl hf h) (fun fin s' h' => by obtain ⟨r, rfl, hq⟩ := h'; exact hq) fun _ _ e => e
  unfold truthy
  refine wpAny_bind (m := callSpecial? (.ref x) (Str.ofString "__bool__")) (wpAny_bind (wpAny_bind (I.type.here ((PySem.W.looks_findIn X hb).here (wpAny_pure ?_)))))
  refine wpAny_bind (wpAny_bind (I.type.here ((PySem.W.looks_findIn X hl).here ?_)))
  exact wpAny_bind (wpAny_mono key (fun r s' h' => by obtain ⟨n, t, rfl, hq⟩ := h'; exact wpAny_pure hq) fun _ _ e => e)
theorem bool_KL {Q : Value → Shared → Prop} (X : K.In s.heap) (I : PySem.W.InstAt s.heap x ox C od) (hb : PySem.W.findIn K (.ref C) "__bool__" = some none) (hl : PySem.W.findIn K (.ref C) "__len__" = some (some (.ref f))) (hf : PySem.W.isFn K (.ref f) = true)
    (h : wpAny (model prog w) A.in1.in1.in1 (call (.ref f) [.ref x]) (PySem.W.LenBack fun v s' => ∃ n t, v = .int n t ∧ Q (.bool (n != 0)) s') E s) : wpAny (model prog w) A (call (.type "bool") [.ref x]) Q E s := by
  refine callType_codes (T := "bool") (Bi := Builtin.«object.__init__») (Q₁ := fun r s₁ => ∃ b, r = .bool b ∧ Q r s₁) PySem.F.called_bool (PySem.F.typeCall_bool_1 _) PySem.F.entry_object_init ?_ ?_
  · refine codeAny_of_tree ?_
    show wpAny _ A.in1.in1 (do checkBuiltinCall "bool.__new__" ⟨[.type "bool", .ref x], []⟩; again (.builtin "bool.__new__" ⟨[.type "bool", .ref x], []⟩)) _ _ s
    refine wpAny_bind (wpAny_of_eq (PySem.F.newCall_bool_1 _) (wpAny_pure ⟨plainId_quiet (by decide +kernel) _, codeAny_builtin PySem.F.entry_bool_new ?_⟩))
    rw [Around.under_plainId (by decide +kernel) _]
    have f1 := PySem.F.conv_sub_bool
    have key : wpAny (model prog w) A.in1.in1 (truthy (.ref x)) (fun b s1 => Q (.bool b) s1) E s := truthy_KL X I hb hl hf (wpAny_mono h (fun v s1 hv => by
      cases v <;> first | exact hv.elim | skip
      obtain ⟨h01, n, t, e, hq⟩ := hv
      cases e
      exact ⟨h01, _, _, rfl, hq⟩) fun _ _ z => z)
    unfold Builtin.«bool.__new__»
    show wpAny _ _ (isType (.type "bool") >>= _) _ _ s
    refine wpAny_bind (wpAny_pure ?_)
    refine wpAny_bind (wpAny_of_eq f1 ?_)
    refine wpAny_bind (wpAny_pure ?_)
    exact wpAny_bind (wpAny_mono key (fun b s1 hb1 => wpAny_pure ⟨_, rfl, hb1⟩) fun _ _ z => z)
  · rintro obj s₁ ⟨b, rfl, hq⟩
    exact ⟨rfl, PySem.F.args_object_init_2 _ _, object_init_meets PySem.F.called_bool.init.lookup PySem.F.called_bool.made (by decide) prog w A.in1 _ s₁ ⟨rfl, rfl, hq⟩⟩
end
section
variable {X : Cx} {C g : Addr} {n : Nat} {sp : Sp}
def rBoolL (C : Addr) (sp : Sp) : List V → Hp → VK → Prop := fun xs H Q => ∃ (a dx : Addr) (fs : List (Str × V)), xs = [.ref a] ∧ H a = some (.ins C dx fs) ∧ sp [.ref a] H (fun v H2 => ∃ k : Nat, v = .int k ∧ k ≤ 1000000 ∧ Q (.bl ((k : Int) != 0)) H2) fun _ _ _ => False
theorem call_boolLO (hb : PySem.W.findIn X.K (.ref C) "__bool__" = some none) (hs : PySem.W.findIn X.K (.ref C) "__len__" = some (some (.ref g))) (hf : PySem.W.isFn X.K (.ref g) = true) (F : FnR X.prog X.w X.K X.mg X.base CX0 n g sp) (hr : Room (n + 3) X.A) : CallR X (.type "bool") (rBoolL C sp) := by
  intro pins s σ H xs us Q I r h
  obtain ⟨a, dx, fs, rfl, ha, q⟩ := h
  obtain ⟨u, rfl, ru⟩ := vals1 r
  cases (show u = Value.ref a from ru)
  obtain ⟨ox, od, J⟩ := inst_of I ha
  have hr2 : Room (n + 2) X.A.in1 := hr.in1
  have hr1 : Room (n + 1) X.A.in1.in1 := hr2.in1
  refine bool_KL I.kIn J hb hs hf ?_
  refine wpAny_mono (wpAny_call (SlX.run_at (us := [.ref a]) (ws := [.ref a]) F hr1.in1 I.env0.in1.in1.in1 pass0 I (.cons rfl .nil) q)) (fun z s2 hz => ?_) fun _ _ e => e
  obtain ⟨z2, H2, I2, rz, k, rfl, hk, qz⟩ := hz
  obtain ⟨tk, rfl⟩ := (show ∃ tk, z = Value.int k tk from rz)
  exact ⟨⟨by omega, by omega⟩, _, _, rfl, .bl _, H2, I2.tok _, rfl, qz⟩
end
/-! ### tuples cut and put together -/
theorem cut_to (xs : List V) (k : Nat) (h : k ≤ xs.length) : cutV xs none (some (k : Int)) = xs.take k := by
  unfold cutV
  rw [HT.sIx_none, HT.sIx_nat, Nat.min_eq_left h]
  rfl
theorem cut_from (xs : List V) (k : Nat) : cutV xs (some (k : Int)) none = xs.drop k := by
  unfold cutV
  rw [HT.sIx_none, HT.sIx_nat]
  by_cases h : k ≤ xs.length
  · rw [Nat.min_eq_left h]
    exact List.take_of_length_le (by rw [List.length_drop]; omega)
  · rw [Nat.min_eq_right (by omega), List.drop_length, List.drop_eq_nil_of_le (by omega)]
    simp
section
variable {X : Cx}
def rSlS (K : PySem.W.Frag) : V → Option Int → Option Int → Hp → VK → Prop := fun x lo hi H Q => ∃ a xs, x = .ref a ∧ SqT K H a xs ∧ ∀ (H' : Hp) (q : Addr), Same H H' → SqT K H' q (cutV xs lo hi) → Q (.ref q) H'
theorem sl_tupS : SlR X (rSlS X.K) := by
  intro pins s σ H x v vl vu lo hi sl Q I rx hs pl pu h
  obtain ⟨a, xs, rfl, hx, q⟩ := h
  refine sl_tupA pins s σ H _ v vl vu lo hi sl Q I rx hs pl pu ⟨a, xs, rfl, hx, fun z => ?_, fun _ p np => q _ p (same_new np) (SqT.of upd_same)⟩
  refine q H a (Same.refl _) ?_
  have e : cutV xs lo hi = xs := by
    unfold cutV
    rw [z.1, z.2]
    simp
  rw [e]
  exact hx
def rCatS (K : PySem.W.Frag) : R2 := fun x y H Q => ∃ a b xs ys, x = .ref a ∧ y = .ref b ∧ SqT K H a xs ∧ SqT K H b ys ∧ xs.length + ys.length ≤ sizeLine ∧ ∀ (H' : Hp) (q : Addr), Same H H' → SqT K H' q (xs ++ ys) → Q (.ref q) H'
theorem op_catS : OpR X (binaryOp .Add) (rCatS X.K) := by
  intro pins s σ H x y v u Q I rx ry h
  obtain ⟨a, b, xs, ys, rfl, rfl, ha, hb, hz, q⟩ := h
  refine op_catA pins s σ H _ _ v u Q I rx ry ⟨a, b, xs, ys, rfl, rfl, ha, hb, hz, fun z => ?_, fun _ z => ?_, fun _ _ p np => q _ p (same_new np) (SqT.of upd_same)⟩
  · refine q H b (Same.refl _) ?_
    rw [z]
    exact hb
  · refine q H a (Same.refl _) ?_
    rw [z, List.append_nil]
    exact ha
end
/-! ### a reading may be asked for more -/
section
variable {X : Cx} {e : Expr} {es : List Expr} {st : Stmt} {sts : List Stmt}
theorem pe_imp {t t' : TE} (h : PE X e t) (k : ∀ σ H Q, t' σ H Q → t σ H Q) : PE X e t' := ⟨fun pins s σ H Q I q => h.run pins s σ H Q I (k σ H Q q)⟩
theorem pa_imp {t t' : TA} (h : PA X es t) (k : ∀ σ H Q, t' σ H Q → t σ H Q) : PA X es t' := ⟨fun pos pins s σ H Q I q => h.run pos pins s σ H Q I (k σ H Q q)⟩
theorem pt_imp {t t' : TT} (h : PT X e t) (k : ∀ σ H Q, t' σ H Q → t σ H Q) : PT X e t' := ⟨fun pins s σ H Q I q => h.run pins s σ H Q I (k σ H Q q)⟩
theorem ps_imp {t t' : TS} (h : PS X st t) (k : ∀ D σ H, t' D σ H → t D σ H) : PS X st t' := ⟨fun pins s σ H D I q => h.run pins s σ H D I (k D σ H q)⟩
theorem pss_imp {t t' : TS} (h : PSs X sts t) (k : ∀ D σ H, t' D σ H → t D σ H) : PSs X sts t' := ⟨fun pins s σ H D I q => h.run pins s σ H D I (k D σ H q)⟩
end
theorem hu64 {A : Around} {k : Nat} (hr : Room k A) : A.units + 64 < cLine := by
  have := hr.un
  omega
/-! ### the same, for tuples that are tracked -/
section
variable {X : Cx}
def rSlH : V → Option Int → Option Int → Hp → VK → Prop := fun x lo hi H Q => ∃ a xs, x = .ref a ∧ H a = some (.tup xs) ∧ ∀ (H' : Hp) (q : Addr), Same H H' → H' q = some (.tup (cutV xs lo hi)) → Q (.ref q) H'
theorem sl_tupH : SlR X rSlH := by
  intro pins s σ H x v vl vu lo hi sl Q I rx hs pl pu h
  obtain ⟨a, xs, rfl, hx, q⟩ := h
  refine sl_tupA pins s σ H _ v vl vu lo hi sl Q I rx hs pl pu ⟨a, xs, rfl, SqT.of hx, fun z => ?_, fun _ p np => q _ p (same_new np) upd_same⟩
  refine q H a (Same.refl _) ?_
  have e : cutV xs lo hi = xs := by
    unfold cutV
    rw [z.1, z.2]
    simp
  rw [e]
  exact hx
def rCatH : R2 := fun x y H Q => ∃ a b xs ys, x = .ref a ∧ y = .ref b ∧ H a = some (.tup xs) ∧ H b = some (.tup ys) ∧ xs.length + ys.length ≤ sizeLine ∧ ∀ (H' : Hp) (q : Addr), Same H H' → H' q = some (.tup (xs ++ ys)) → Q (.ref q) H'
theorem op_catH : OpR X (binaryOp .Add) rCatH := by
  intro pins s σ H x y v u Q I rx ry h
  obtain ⟨a, b, xs, ys, rfl, rfl, ha, hb, hz, q⟩ := h
  refine op_catA pins s σ H _ _ v u Q I rx ry ⟨a, b, xs, ys, rfl, rfl, SqT.of ha, SqT.of hb, hz, fun z => ?_, fun _ z => ?_, fun _ _ p np => q _ p (same_new np) upd_same⟩
  · refine q H b (Same.refl _) ?_
    rw [z]
    exact hb
  · refine q H a (Same.refl _) ?_
    rw [z, List.append_nil]
    exact ha
end
theorem cut_mid (xs : List V) (a b : Nat) (h1 : a ≤ b) (h2 : b ≤ xs.length) : cutV xs (some (a : Int)) (some (b : Int)) = (xs.drop a).take (b - a) := by
  unfold cutV
  rw [HT.sIx_nat, HT.sIx_nat, Nat.min_eq_left h2, Nat.min_eq_left (by omega)]
end Cm

/-! texts of loops: what their words are, and when they are right -/
namespace LM
open PySem L2 TL
def tests : List Str := ["empty", "some", "short", "full", "told", "open", "rest", "bare"]
def rsteps : List Str := ["add", "hand", "cut", "flush", "stop", "again"]
def esteps : List Str := ["hand", "cut", "flush"]
def wordsR (t : Str) : List Str := Txt.split (Txt.partition t " | ").1 " "
def wordsE (t : Str) : List Str := if (Txt.partition t " | ").2.1.length != 0 then Txt.split (Txt.partition t " | ").2.2 " " else []
def orderOf (w : Str) : Str × Str := if (Txt.partition w ":").2.1.length != 0 then ((Txt.partition w ":").1, (Txt.partition w ":").2.2) else ("", w)
def isWord (w : Str) (ss : List Str) : Bool := if (Txt.partition w ":").2.1.length != 0 then decide ((Txt.partition w ":").1 ∈ tests) && decide ((Txt.partition w ":").2.2 ∈ ss) else decide (w ∈ ss)
def areWords (ws ss : List Str) : Bool := ws.all fun w => isWord w ss
def isAdd (w : Str) : Bool := decide ((orderOf w).2 = "add")
def isRound (ws : List Str) : Bool := decide (ws.head? = some "ask") && (decide (ws.length ≤ 12) && (decide ((ws.filter isAdd).length ≤ 1) && areWords ws.tail rsteps))
def isEnding (ws : List Str) : Bool := decide (ws.length ≤ 6) && areWords ws esteps
def goodText (t : Str) : Bool := isRound (wordsR t) && isEnding (wordsE t)
def svs (ws : List Str) : List V := ws.map V.str
theorem svs_flat : ∀ ws : List Str, (svs ws).all flatV = true
  | [] => rfl
  | _ :: r => svs_flat r
theorem inV_svs (w : Str) : ∀ ws : List Str, inV (.str w) (svs ws) = decide (w ∈ ws)
  | [] => by simp [inV, svs]
  | x :: r => by
    have ih := inV_svs w r
    show (eqV (.str x) (.str w) || inV (.str w) (svs r)) = _
    rw [ih]
    show ((x == w) || decide (w ∈ r)) = _
    by_cases h : x = w
    · subst h
      simp
    · have h2 : (x == w) = false := by
        cases hh : (x == w) with
        | false => rfl
        | true => exact absurd (eq_of_beq hh) h
      rw [h2, Bool.false_or]
      refine decide_eq_decide.mpr ⟨fun z => List.mem_cons_of_mem _ z, fun z => ?_⟩
      rcases List.mem_cons.mp z with z | z
      · exact absurd z.symm h
      · exact z
theorem split_ne (x y : Str) : Txt.split x y ≠ [] := by
  unfold Txt.split
  split
  · simp
  · split
    · simp
    · rw [PySem.StrLaws.partsBetween_eq]
      cases Builtin.Str.occurrences x y 0 x.length (x.length + 1) <;> simp [PySem.StrLaws.partsFrom]
/-! ### drawn words -/
/-- a step of these, or a test before it -/
def Wd (ss : List Str) (w : Str) : Prop := ∃ s ∈ ss, w = s ∨ ∃ t ∈ tests, w = t ++ (":" : Str) ++ s
def allWd (ss : List Str) : List Str := ss ++ (tests.map fun t : Str => ss.map fun s : Str => t ++ (":" : Str) ++ s).flatten
theorem Wd.mem {ss : List Str} {w : Str} (h : Wd ss w) : w ∈ allWd ss := by
  obtain ⟨s, hs, rfl | ⟨t, ht, rfl⟩⟩ := h
  · exact List.mem_append.mpr (.inl hs)
  · exact List.mem_append.mpr (.inr (List.mem_flatten.mpr ⟨_, List.mem_map.mpr ⟨t, ht, rfl⟩, List.mem_map.mpr ⟨s, hs, rfl⟩⟩))
theorem Wd.mono {ss zs : List Str} {w : Str} (f : ∀ s ∈ ss, s ∈ zs) (h : Wd ss w) : Wd zs w := let ⟨s, hs, q⟩ := h; ⟨s, f s hs, q⟩
/-- what is known of a word -/
def wdOk (w : Str) : Bool := isWord w rsteps && (decide (32 ∉ tl w) && (decide (124 ∉ tl w) && decide (w.length ≤ 11)))
theorem wd_ok : ∀ w ∈ allWd rsteps, wdOk w = true := by decide +kernel
theorem wd_end : ∀ w ∈ allWd esteps, isWord w esteps = true := by decide +kernel
theorem wd_noadd : ∀ w ∈ allWd ["hand", "cut", "flush", "stop", "again"], isAdd w = false := by decide +kernel
/-! ### lines -/
def line (B E : List Str) : Str := if E = [] then Txt.join " " B else Txt.join " " (B ++ [("|" : Str)] ++ E)
def textOf (B E : List Str) : Str := if E = [] then Txt.join " " B else Txt.join " " B ++ " | " ++ Txt.join " " E
/-- no space and no bar is in it -/
def Fre (w : Str) : Prop := 32 ∉ tl w ∧ 124 ∉ tl w
theorem tlSp : tl (" " : Str) = [32] := by decide +kernel
theorem tlBar : tl (" | " : Str) = [32, 124, 32] := by decide +kernel
theorem tlB1 : tl ("|" : Str) = [124] := by decide +kernel
theorem joinL_app (S : List Nat) : ∀ (a b : List (List Nat)), a ≠ [] → b ≠ [] → joinL S (a ++ b) = joinL S a ++ (S ++ joinL S b)
  | [], _, h, _ => absurd rfl h
  | [p], b, _, hb => by
    cases b with
    | nil => exact absurd rfl hb
    | cons q r => rfl
  | p :: q :: r, b, _, hb => by
    show p ++ (S ++ joinL S (q :: r ++ b)) = p ++ (S ++ joinL S (q :: r)) ++ (S ++ joinL S b)
    rw [joinL_app S (q :: r) b (by simp) hb]
    simp [List.append_assoc]
theorem joinL_mem {S : List Nat} {c : Nat} : ∀ {a : List (List Nat)}, c ∈ joinL S a → c ∈ S ∨ ∃ p ∈ a, c ∈ p
  | [], h => nomatch h
  | [p], h => .inr ⟨p, List.mem_singleton.mpr rfl, h⟩
  | p :: q :: r, h => by
    rcases List.mem_append.mp (show c ∈ p ++ (S ++ joinL S (q :: r)) from h) with h | h
    · exact .inr ⟨p, List.mem_cons_self .., h⟩
    · rcases List.mem_append.mp h with h | h
      · exact .inl h
      · rcases joinL_mem h with h | ⟨z, hz, hc⟩
        · exact .inl h
        · exact .inr ⟨z, List.mem_cons_of_mem _ hz, hc⟩
theorem tl_joinSp (B : List Str) : tl (Txt.join " " B) = joinL [32] (B.map tl) := by rw [join_eq, tl_join, tlSp]
theorem nobar {B : List Str} (h : ∀ w ∈ B, Fre w) : 124 ∉ tl (Txt.join " " B) := by
  rw [tl_joinSp]
  intro hm
  rcases joinL_mem hm with hm | ⟨p, hp, hc⟩
  · exact absurd hm (by decide)
  · obtain ⟨w, hw, rfl⟩ := List.mem_map.mp hp
    exact (h w hw).2 hc
theorem line_text {B E : List Str} (hB : B ≠ []) : line B E = textOf B E := by
  unfold line textOf
  by_cases hE : E = []
  · rw [if_pos hE, if_pos hE]
  · rw [if_neg hE, if_neg hE]
    refine ext_tl ?_
    rw [tl_append, tl_append, tl_joinSp, tl_joinSp, tl_joinSp, tlBar, List.map_append, List.map_append, joinL_app _ _ _ (by simp) (by simpa using hE), joinL_app _ _ _ (by simpa using hB) (by simp)]
    simp [joinL, tlB1]
theorem pre_bar {l : List Nat} (h : pre [32, 124, 32] l = true) : ∃ r, l = 32 :: 124 :: 32 :: r := by
  have e : l.take 3 = [32, 124, 32] := eq_of_beq h
  match l, e with
  | a :: b :: c :: r, e =>
    simp at e
    obtain ⟨rfl, rfl, rfl⟩ := e
    exact ⟨r, rfl⟩
theorem no_bar {p q : List Nat} (h : 124 ∉ p) (hq : q = [] ∨ ∃ r, q = 32 :: r) : ∀ i, i < p.length → pre [32, 124, 32] ((p ++ q).drop i) = false := by
  intro i hi
  cases hp : pre [32, 124, 32] ((p ++ q).drop i) with
  | false => rfl
  | true =>
    obtain ⟨r, e⟩ := pre_bar hp
    have e1 : (p ++ q)[i + 1]? = some 124 := by
      have : ((p ++ q).drop i)[1]? = some 124 := by rw [e]; rfl
      rw [List.getElem?_drop] at this
      exact this
    by_cases h1 : i + 1 < p.length
    · rw [List.getElem?_append_left h1] at e1
      exact absurd (List.mem_of_getElem? e1) h
    · rw [List.getElem?_append_right (by omega)] at e1
      rcases hq with rfl | ⟨r, rfl⟩
      · simp at e1
      · have : i + 1 - p.length = 0 := by omega
        rw [this] at e1
        simp at e1
theorem part_no {x : Str} (h : 124 ∉ tl x) : Txt.partition x " | " = (x, Str.empty, Str.empty) := by
  rw [partition_par _ _ (by rw [tlBar]; simp), tlBar, par_none]
  intro i hi
  have := no_bar (q := []) h (.inl rfl) i hi
  rwa [List.append_nil] at this
theorem part_yes {x y : Str} (h : 124 ∉ tl x) : Txt.partition (x ++ " | " ++ y) " | " = (x, (" | " : Str), y) := by
  rw [partition_par _ _ (by rw [tlBar]; simp), tl_append, tl_append, List.append_assoc, tlBar, par_part (by simp) (no_bar h (.inr ⟨_, rfl⟩))]
  show ((⟨([] ++ tl x).toArray⟩ : Str), _, (⟨(tl y).toArray⟩ : Str)) = _
  rw [List.nil_append, mk_tl, mk_tl]
theorem split_words {B : List Str} (hB : B ≠ []) (h : ∀ w ∈ B, Fre w) : Txt.split (Txt.join " " B) " " = B :=
  split_join (s := 32) (S := []) tlSp (by decide +kernel) hB fun p hp => (h p hp).1
theorem words_text {B E : List Str} (hB : B ≠ []) (h1 : ∀ w ∈ B, Fre w) (h2 : ∀ w ∈ E, Fre w) : wordsR (textOf B E) = B ∧ wordsE (textOf B E) = E := by
  unfold wordsR wordsE textOf
  by_cases hE : E = []
  · rw [if_pos hE, part_no (nobar h1)]
    refine ⟨split_words hB h1, ?_⟩
    rw [hE]
    rfl
  · rw [if_neg hE, part_yes (nobar h1)]
    refine ⟨split_words hB h1, ?_⟩
    exact (if_pos (show ((" | " : Str).length != 0) = true by decide +kernel)).trans (split_words hE h2)
theorem words_line {B E : List Str} (hB : B ≠ []) (h1 : ∀ w ∈ B, Fre w) (h2 : ∀ w ∈ E, Fre w) : wordsR (line B E) = B ∧ wordsE (line B E) = E := by
  rw [line_text hB]
  exact words_text hB h1 h2
/-! ### lengths -/
theorem sum_le {n : Nat} : ∀ {B : List Str}, (∀ w ∈ B, w.length ≤ n) → (B.map (·.length)).sum ≤ n * B.length
  | [], _ => Nat.zero_le _
  | w :: r, h => by
    have a := h w (List.mem_cons_self ..)
    have b := sum_le (B := r) fun z hz => h z (List.mem_cons_of_mem _ hz)
    rw [List.map_cons, List.sum_cons, List.length_cons, Nat.mul_succ]
    omega
theorem join_len : ∀ B : List Str, (Txt.join " " B).length ≤ (B.map (·.length)).sum + B.length := by
  intro B
  rw [len_tl, tl_joinSp]
  induction B with
  | nil => simp [joinL]
  | cons w r ih =>
    cases r with
    | nil =>
      show (tl w).length ≤ _
      rw [← len_tl]
      simp
    | cons x r =>
      show (tl w ++ ([32] ++ joinL [32] ((x :: r).map tl))).length ≤ _
      rw [List.length_append, List.length_append, ← len_tl]
      simp only [List.map_cons, List.sum_cons, List.length_cons, List.length_nil] at ih ⊢
      omega
/-- short words, not many -/
def Sht (n : Nat) (B : List Str) : Prop := (∀ w ∈ B, w.length ≤ 11) ∧ B.length ≤ n
theorem Sht.sum {n : Nat} {B : List Str} (h : Sht n B) : (B.map (·.length)).sum + B.length * 1 ≤ 12 * n := by
  have := sum_le h.1
  have := h.2
  omega
theorem Sht.join {n : Nat} {B : List Str} (h : Sht n B) : (Txt.join " " B).length ≤ 12 * n := by
  have := h.sum
  have := join_len B
  omega
/-! ### bounds of what is cut -/
theorem spl_len (S : List Nat) : ∀ (k : Nat) (acc l : List Nat), (spl S k acc l).length ≤ l.length + 1
  | k, acc, [] => by rw [spl_nil]; simp
  | 0, acc, c :: r => by
    cases h : pre S (c :: r) with
    | true =>
      rw [spl_hit h, List.length_cons, List.length_cons]
      have := spl_len S (S.length - 1) [] r
      omega
    | false =>
      rw [spl_miss h, List.length_cons]
      have := spl_len S 0 (acc ++ [c]) r
      omega
  | k + 1, acc, _ :: r => by
    show (spl S k acc r).length ≤ _
    have := spl_len S k acc r
    rw [List.length_cons]
    omega
theorem spl_word (S : List Nat) : ∀ (k : Nat) (acc l : List Nat), ∀ p ∈ spl S k acc l, p.length ≤ acc.length + l.length
  | k, acc, [], p, hp => by
    rw [spl_nil] at hp
    rw [List.mem_singleton.mp hp]
    omega
  | 0, acc, c :: r, p, hp => by
    cases h : pre S (c :: r) with
    | true =>
      rw [spl_hit h] at hp
      rcases List.mem_cons.mp hp with rfl | hp
      · omega
      · have := spl_word S (S.length - 1) [] r p hp
        simp at this ⊢
        omega
    | false =>
      rw [spl_miss h] at hp
      have := spl_word S 0 (acc ++ [c]) r p hp
      simp at this ⊢
      omega
  | k + 1, acc, _ :: r, p, hp => by
    have := spl_word S k acc r p hp
    simp at this ⊢
    omega
theorem split_sp (x : Str) : (Txt.split x " ").map tl = spl [32] 0 [] (tl x) := by
  have := split_spl x " " (by rw [tlSp]; simp) (kind_ok (by decide +kernel))
  rwa [tlSp] at this
theorem split_len (x : Str) : (Txt.split x " ").length ≤ x.length + 1 := by
  have := spl_len [32] 0 [] (tl x)
  rw [← split_sp, List.length_map, ← len_tl] at this
  exact this
theorem split_word {x w : Str} (h : w ∈ Txt.split x " ") : w.length ≤ x.length := by
  have := spl_word [32] 0 [] (tl x) (tl w) (by rw [← split_sp]; exact List.mem_map.mpr ⟨w, h, rfl⟩)
  rw [← len_tl, ← len_tl] at this
  simpa using this
theorem part_len (x y : Str) : (Txt.partition x y).1.length ≤ x.length ∧ (Txt.partition x y).2.1.length ≤ y.length ∧ (Txt.partition x y).2.2.length ≤ x.length := by
  rcases PyProof.Rows.partition_whole x y with ⟨e, _⟩ | ⟨i, e, _, _⟩
  · rw [e]
    exact ⟨Nat.le_refl _, Nat.zero_le _, Nat.zero_le _⟩
  · rw [e]
    refine ⟨?_, Nat.le_refl _, ?_⟩
    · rw [len_tl, tl_strSub, List.length_take, List.length_drop, ← len_tl]
      omega
    · rw [len_tl, tl_strSub_end, List.length_drop, ← len_tl]
      omega
/-- the words of a text of at most n signs -/
theorem wordsR_len (t : Str) : (wordsR t).length ≤ t.length + 1 := by
  have := split_len (Txt.partition t " | ").1
  have := (part_len t " | ").1
  unfold wordsR
  omega
theorem wordsE_len (t : Str) : (wordsE t).length ≤ t.length + 1 := by
  unfold wordsE
  split
  · have := split_len (Txt.partition t " | ").2.2
    have := (part_len t " | ").2.2
    omega
  · simp
theorem wordsR_word {t w : Str} (h : w ∈ wordsR t) : w.length ≤ t.length := Nat.le_trans (split_word h) (part_len t " | ").1
theorem wordsE_word {t w : Str} (h : w ∈ wordsE t) : w.length ≤ t.length := by
  unfold wordsE at h
  split at h
  · exact Nat.le_trans (split_word h) (part_len t " | ").2.2
  · exact nomatch h
theorem wordsR_ne (t : Str) : wordsR t ≠ [] := split_ne _ _
end LM

/-! what many parts want: the error about texts, small lemmas -/
namespace My
open PySem L2 Cm LM
abbrev sEI : Stmt := inClass (top 5) 0
theorem nz (n : Nat) : ((n : Int) != 0) = (n != 0) := by
  cases n with
  | zero => rfl
  | succ k => simp; omega
/-- no text is longer -/
def Bd (t : Str) : Prop := t.length ≤ 100000
theorem Bd.part {t : Str} (y : Str) (h : Bd t) : Bd (Txt.partition t y).1 ∧ Bd (Txt.partition t y).2.2 := ⟨Nat.le_trans (part_len t y).1 h, Nat.le_trans (part_len t y).2.2 h⟩
theorem Bd.line {t : Str} (h : Bd t) : t.length ≤ sizeLine := Nat.le_of_lt (szM (Nat.le_trans h (by decide)))
theorem Bd.line2 {t : Str} (h : Bd t) : t.length + 2 ≤ sizeLine := Nat.le_of_lt (szM (by unfold Bd at h; omega))
theorem svs_get {ws : List Str} {i : Nat} {x : V} (h : (svs ws)[i]? = some x) : ∃ z, ws[i]? = some z ∧ x = .str z := by
  unfold svs at h
  rw [List.getElem?_map] at h
  cases e : ws[i]? with
  | none => rw [e] at h; cases h
  | some z =>
    rw [e] at h
    exact ⟨z, rfl, (Option.some.inj h).symm⟩
theorem take_snoc {α : Type} {xs : List α} {i : Nat} {x : α} (h : xs[i]? = some x) : xs.take (i + 1) = xs.take i ++ [x] := by
  rw [List.take_succ, h]
  rfl
theorem lt_of_get {α : Type} {xs : List α} {i : Nat} {x : α} (h : xs[i]? = some x) : i < xs.length := (List.getElem?_eq_some_iff.mp h).1
/-- not many words, none too long -/
def BdW (ws : List Str) : Prop := (∀ z ∈ ws, Bd z) ∧ ws.length ≤ 100001
theorem made_same {H H' : Hp} {x dx C : Addr} (nx : H x = none) (ndx : H dx = none) (o : Off x (upd (upd H dx (.own x)) x (.ins C dx [])) H') : Same H H' := fun b u e => o b u (ne_of_none e nx) (by rw [upd_ne (ne_of_none e nx), upd_ne (ne_of_none e ndx)]; exact e)
/-- a special method of the class at C -/
structure Sm (K : PySem.W.Frag) (C : Addr) (x q : Str) (st : Stmt) (ps : List Str) where
  f : Addr
  fd : FuncData
  F : Fun K x q st f fd
  b : Binds K fd ps []
  i : PySem.W.findIn K (.ref C) x = some (some (.ref f))
  fn : PySem.W.isFn K (.ref f) = true
theorem TyX_same {K : PySem.W.Frag} {H H' : Hp} (s : Same H H') {x : V} {t : Value} (h : TyX K H x t) : TyX K H' x t := by
  cases h with
  | base b =>
    refine .base ?_
    cases b with
    | non => exact .non
    | bl x => exact .bl x
    | int i => exact .int i
    | str x => exact .str x
    | flt x => exact .flt x
    | lst e => exact .lst (s _ _ e)
    | frz e => exact .frz (s _ _ e)
    | tup e => exact .tup (s _ _ e)
    | dK e => exact .dK (s _ _ e)
    | dT e => exact .dT (s _ _ e)
    | ins e a b c d f => exact .ins (s _ _ e) a b c d f
  | byt b => exact .byt b
  | set e => exact .set (s _ _ e)
  | kList e c => exact .kList e c
  | kTuple e c => exact .kTuple e c
  | kDict e c => exact .kDict e c
  | fTuple e => exact .fTuple (s _ _ e)
  | fDict e => exact .fDict (s _ _ e)
theorem jar_ne {H : Hp} {j p : Addr} (a : Jar H j) (n : H p = none) : p ≠ j := fun z => by
  obtain ⟨_, _, _, q⟩ := a
  rw [z, q] at n
  cases n
theorem Jar.put {H : Hp} {j p : Addr} {o : HO} (a : Jar H j) (n : p ≠ j) : Jar (upd H p o) j := by
  obtain ⟨x, y, z, q⟩ := a
  exact ⟨x, y, z, by rw [upd_ne n.symm]; exact q⟩
/-- a store to what was not there at first -/
theorem Off.put2 {j q : Addr} {H H1 : Hp} {o : HO} (a : Off j H H1) (n : H q = none) : Off j H (upd H1 q o) := fun b u nb e => by
  rw [upd_ne (ne_of_none e n)]
  exact a b u nb e
/-- tuples that stand stay, if what is written is no tuple -/
theorem tup_stays {H : Hp} {x : Addr} {o o' : HO} (hx : H x = some o) (n : ∀ xs, o ≠ .tup xs) : ∀ (p : Addr) (xs : List V), H p = some (.tup xs) → (upd H x o') p = some (.tup xs) := fun p xs e => by
  rw [upd_ne]
  · exact e
  · intro z
    rw [z, hx] at e
    exact n xs (Option.some.inj e)
def isS : V → Bool
  | .str _ => true
  | _ => false
/-- its type is told -/
def Typed (K : PySem.W.Frag) (H : Hp) (x : V) : Prop := ∃ t, TyX K H x t ∧ PySem.W.kitOne K t (.type "str") = some (isS x)
theorem typed_str {K : PySem.W.Frag} {H : Hp} (x : Str) : Typed K H (.str x) := ⟨_, .base (.str x), kit_ty (show kitB "str" "str" = some true by decide +kernel)⟩
/-! ### the error -/
structure TxE (K : PySem.W.Frag) (mg : Str → Option Value) where
  C : Addr
  f : Addr
  fd : FuncData
  g : mg "InvalidText" = some (.ref C)
  o : OexC K C
  i : PySem.W.findIn K (.ref C) "__init__" = some (some (.ref f))
  t : PySem.W.typeIn K (.ref f) = some (.type "function")
  n : PySem.W.findIn K (.ref C) "value" = some none
  F : Fun K "__init__" "InvalidText.__init__" sEI f fd
  b : Binds K fd ["self", "value"] []
section
variable {P : Program} {w : World} {K : PySem.W.Frag} {mg : Str → Option Value} {base : Heap}
def spEI (CE : Addr) : Sp := fun vs H Q _ => ∃ (a : Addr) (v : V), vs = [.ref a, v] ∧ H a = some (exo a CE none) ∧ ∀ dx, H dx = none → dx ≠ a → Q .non (upd (upd H dx (exd dx [("value", v)])) a (exo a CE (some dx)))
theorem scEI : FnScope ["self", "value"] ["self", "value"] (defScope sEI) := ⟨rfl, rfl, rfl, by decide +kernel, rfl, by decide +kernel, by decide +kernel⟩
theorem ok_ei (T : TxE K mg) : FnOk P w K mg base CX0 1 T.f T.fd ["self", "value"] (spEI T.C) := by
  refine T.F.ok scEI (fun vs H Q E h => ?_) (fun cdv A outer s H vs Q E hr h => ?_)
  · obtain ⟨a, v, rfl, _⟩ := h
    rfl
  · obtain ⟨a, v, rfl, ha, k⟩ := h
    refine ⟨_, pss_one (ps_ost (pv 0) (pv 1)), ?_⟩
    exact ⟨_, rfl, _, rfl, a, T.C, rfl, T.o, T.n, .inl ⟨ha, fun dx n ne => k dx n ne⟩⟩
/-- raise X(x), as its making is read -/
theorem mk_err {CE : Addr} {ta : TA} {σ : St} {H : Hp} {Q : XK} {x : V} (h : ta σ H fun vs H1 => vs = [x] ∧ H1 = H) (mono : ∀ {R R' : List V → Hp → Prop}, ta σ H R → (∀ v H1, R v H1 → R' v H1) → ta σ H R')
    (q : ∀ d, H d = none → Q (.ref CE) (some d) (upd H d (.xd [("value", x)]))) : tMkO CE (spEI CE) [] ta σ H Q := by
  refine mono h fun vs H1 hh => ?_
  obtain ⟨rfl, rfl⟩ := hh
  refine ⟨by show 1 ≤ 1000; decide, fun a na => ⟨a, x, rfl, upd_same, fun dx ndx nda => ⟨rfl, dx, [("value", x)], upd_same, ?_, ?_, ?_⟩⟩⟩
  · rw [upd_ne nda, upd_same]
  · rw [upd_ne nda] at ndx
    exact ndx
  · have e : upd (del (upd (upd (upd H1 a (exo a CE none)) dx (exd dx [("value", x)])) a (exo a CE (some dx))) a) dx (.xd [("value", x)]) = upd H1 dx (.xd [("value", x)]) := by
      funext b
      by_cases h1 : b = dx
      · rw [h1, upd_same, upd_same]
      · rw [upd_ne h1, upd_ne h1]
        by_cases h2 : b = a
        · rw [h2, del_same, na]
        · rw [del_ne h2, upd_ne h2, upd_ne h1, upd_ne h2]
    rw [e]
    rw [upd_ne nda] at ndx
    exact q dx ndx
end
end My

/-! the defs about texts of loops -/
namespace My
open PySem L2 Cm LM
abbrev sWO : Stmt := top 20
abbrev sOO : Stmt := top 22
abbrev sIW : Stmt := top 23
abbrev sAW : Stmt := top 24
abbrev sIR : Stmt := top 25
abbrev sIE : Stmt := top 26
/-- what the module's top has for these defs -/
structure TxL (K : PySem.W.Frag) (mg : Str → Option Value) where
  tuple : mg "tuple" = none
  len : mg "len" = none
  all : mg "all" = none
  bar : ∃ t, mg "BAR" = some (.str " | " t)
  mr : ∃ t, mg "MOST_ROUND" = some (.int 12 t)
  me : ∃ t, mg "MOST_ENDING" = some (.int 6 t)
  pT : Addr
  pR : Addr
  pE : Addr
  gT : mg "TESTS" = some (.ref pT)
  gR : mg "ROUND_STEPS" = some (.ref pR)
  gE : mg "ENDING_STEPS" = some (.ref pE)
  lT : ∀ H, SqT K H pT (svs tests)
  lR : ∀ H, SqT K H pR (svs rsteps)
  lE : ∀ H, SqT K H pE (svs esteps)
  wo : Df K mg "words_of" sWO ["text"]
  oo : Df K mg "order_of" sOO ["word"]
  iw : Df K mg "is_word" sIW ["word", "steps"]
  aw : Df K mg "are_words" sAW ["words", "steps"]
  ir : Df K mg "is_round" sIR ["words"]
  ie : Df K mg "is_ending" sIE ["words"]
section
variable {P : Program} {w : World} {K : PySem.W.Frag} {mg : Str → Option Value} {base : Heap}
/-! ### words_of -/
def spWO : Sp := fun vs H Q _ => ∃ t : Str, vs = [.str t] ∧ Bd t ∧ ∀ (H' : Hp) (p a b : Addr), Same H H' → H' p = some (.tup [.ref a, .ref b]) → H' a = some (.tup (svs (wordsR t))) → H' b = some (.tup (svs (wordsE t))) → Q (.ref p) H'
theorem scWO : FnScope ["text", "head", "bar", "tail"] ["text"] (defScope sWO) := ⟨rfl, rfl, rfl, by decide +kernel, rfl, by decide +kernel, by decide +kernel⟩
theorem ok_wo (T : TxL K mg) : FnOk P w K mg base CX0 1 T.wo.f T.wo.fd ["text"] spWO := by
  obtain ⟨tb, hb⟩ := T.bar
  refine T.wo.F.ok scWO (fun vs H Q E h => ?_) (fun cdv A outer s H vs Q E hr h => ?_)
  · obtain ⟨t, rfl, _⟩ := h
    rfl
  · obtain ⟨t, rfl, bd, k⟩ := h
    refine ⟨_, pss_cons (ps_asg (pe_partition (pv 0) (pe_glob (v := .str " | ") rfl hb ⟨_, rfl⟩)) (pg_tup rfl (pgs_cons (pg_name (i := 1) scWO.nd rfl (.inl rfl)) (pgs_cons (pg_name (i := 2) scWO.nd rfl (.inl rfl)) (pgs_cons (pg_name (i := 3) scWO.nd rfl (.inl rfl)) pgs_nil)))))
      (pss_one (ps_ret (pe_tup (pa_cons (pe_callTy call_tuple_of (by rfl) T.tuple (by decide +kernel) (pa_cons (pe_split (pv 1) pe_str) pa_nil))
        (pa_cons (pe_ifExp (pt_truth (pv 2) (by intro _; rfl)) (pe_callTy call_tuple_of (by rfl) T.tuple (by decide +kernel) (pa_cons (pe_split (pv 3) pe_str) pa_nil)) (pe_tup pa_nil)) pa_nil))))), ?_⟩
    have bp := Bd.part " | " bd
    refine ⟨_, rfl, ⟨_, rfl⟩, t, " | ", rfl, rfl, by decide +kernel, bd.line, fun q nq => ?_⟩
    refine ⟨q, _, rfl, SqT.of upd_same, rfl, _, _, rfl, _, _, rfl, _, _, rfl, rfl, ?_⟩
    have s1 : Same H (upd H q (.tup [.str (Txt.partition t " | ").1, .str (Txt.partition t " | ").2.1, .str (Txt.partition t " | ").2.2])) := same_new nq
    generalize upd H q (.tup [.str (Txt.partition t " | ").1, .str (Txt.partition t " | ").2.1, .str (Txt.partition t " | ").2.2]) = H1 at s1 ⊢
    refine ⟨_, rfl, ⟨_, rfl⟩, _, " ", rfl, rfl, by decide +kernel, bp.1.line2, fun l nl => ?_⟩
    refine ⟨l, _, rfl, .inl ⟨SqL.of upd_same, fun a na => ?_⟩⟩
    have s2 : Same H1 (upd (upd H1 l (.lst (svs (wordsR t)))) a (.tup (svs (wordsR t)))) := Same.trans (same_new nl) (same_new na)
    have ha : (upd (upd H1 l (.lst (svs (wordsR t)))) a (.tup (svs (wordsR t)))) a = some (.tup (svs (wordsR t))) := upd_same
    show tCons _ _ _ (upd (upd H1 l (.lst (svs (wordsR t)))) a (.tup (svs (wordsR t)))) _
    generalize upd (upd H1 l (.lst (svs (wordsR t)))) a (.tup (svs (wordsR t))) = H2 at s2 ha ⊢
    refine ⟨_, rfl, _, ⟨Nat.le_trans (part_len t " | ").2.1 (by decide +kernel), rfl⟩, ?_⟩
    rw [nz]
    cases hc : ((Txt.partition t " | ").2.1.length != 0) with
    | true =>
      have e : wordsE t = Txt.split (Txt.partition t " | ").2.2 " " := by unfold wordsE; rw [if_pos hc]
      refine iteT ?_
      refine ⟨_, rfl, ⟨_, rfl⟩, _, " ", rfl, rfl, by decide +kernel, bp.2.line2, fun l2 nl2 => ?_⟩
      rw [← e]
      refine ⟨l2, _, rfl, .inl ⟨SqL.of upd_same, fun b nb => ?_⟩⟩
      refine ⟨(by show 2 ≤ sizeLine; decide), fun p np => ?_⟩
      exact k _ p a b (Same.trans s1 (Same.trans s2 (Same.trans (same_new nl2) (Same.trans (same_new nb) (same_new np))))) upd_same (same_new np _ _ (same_new nb _ _ (same_new nl2 _ _ ha))) (same_new np _ _ upd_same)
    | false =>
      have e : wordsE t = [] := by unfold wordsE; rw [if_neg (by rw [hc]; exact Bool.false_ne_true)]
      refine iteF ?_
      refine ⟨Nat.zero_le _, fun b nb => ?_⟩
      refine ⟨(by show 2 ≤ sizeLine; decide), fun p np => ?_⟩
      refine k _ p a b (Same.trans s1 (Same.trans s2 (Same.trans (same_new nb) (same_new np)))) upd_same (same_new np _ _ (same_new nb _ _ ha)) ?_
      rw [e]
      exact same_new np _ _ upd_same
/-! ### order_of -/
def spOO : Sp := fun vs H Q _ => ∃ t : Str, vs = [.str t] ∧ Bd t ∧ ∀ (H' : Hp) (p : Addr), Same H H' → H p = none → H' p = some (.tup [.str (orderOf t).1, .str (orderOf t).2]) → Q (.ref p) H'
theorem scOO : FnScope ["word", "test", "colon", "step"] ["word"] (defScope sOO) := ⟨rfl, rfl, rfl, by decide +kernel, rfl, by decide +kernel, by decide +kernel⟩
theorem ok_oo (T : TxL K mg) : FnOk P w K mg base CX0 1 T.oo.f T.oo.fd ["word"] spOO := by
  refine T.oo.F.ok scOO (fun vs H Q E h => ?_) (fun cdv A outer s H vs Q E hr h => ?_)
  · obtain ⟨t, rfl, _⟩ := h
    rfl
  · obtain ⟨t, rfl, bd, k⟩ := h
    refine ⟨_, pss_cons (ps_asg (pe_partition (pv 0) pe_str) (pg_tup rfl (pgs_cons (pg_name (i := 1) scOO.nd rfl (.inl rfl)) (pgs_cons (pg_name (i := 2) scOO.nd rfl (.inl rfl)) (pgs_cons (pg_name (i := 3) scOO.nd rfl (.inl rfl)) pgs_nil)))))
      (pss_one (ps_ret (pe_ifExp (pt_truth (pv 2) (by intro _; rfl)) (pe_tup (pa_cons (pv 1) (pa_cons (pv 3) pa_nil))) (pe_tup (pa_cons pe_str (pa_cons (pv 0) pa_nil)))))), ?_⟩
    refine ⟨_, rfl, ⟨_, rfl⟩, t, ":", rfl, rfl, by decide +kernel, bd.line, fun q nq => ?_⟩
    refine ⟨q, _, rfl, SqT.of upd_same, rfl, _, _, rfl, _, _, rfl, _, _, rfl, rfl, ?_⟩
    have s1 : Same H (upd H q (.tup [.str (Txt.partition t ":").1, .str (Txt.partition t ":").2.1, .str (Txt.partition t ":").2.2])) := same_new nq
    generalize upd H q (.tup [.str (Txt.partition t ":").1, .str (Txt.partition t ":").2.1, .str (Txt.partition t ":").2.2]) = H1 at s1 ⊢
    refine ⟨_, rfl, _, ⟨Nat.le_trans (part_len t ":").2.1 (by decide +kernel), rfl⟩, ?_⟩
    rw [nz]
    unfold orderOf at k
    cases hc : ((Txt.partition t ":").2.1.length != 0) with
    | true =>
      rw [if_pos hc] at k
      refine iteT ?_
      refine ⟨_, rfl, _, rfl, (by show 2 ≤ sizeLine; decide), fun p np => ?_⟩
      exact k _ p (Same.trans s1 (same_new np)) (s1.free np) upd_same
    | false =>
      rw [if_neg (by rw [hc]; exact Bool.false_ne_true)] at k
      refine iteF ?_
      refine ⟨_, rfl, (by show 2 ≤ sizeLine; decide), fun p np => ?_⟩
      exact k _ p (Same.trans s1 (same_new np)) (s1.free np) upd_same
/-! ### is_word -/
def spIW (K : PySem.W.Frag) : Sp := fun vs H Q _ => ∃ (t : Str) (p : Addr) (ss : List Str), vs = [.str t, .ref p] ∧ Bd t ∧ SqT K H p (svs ss) ∧ ∀ H' : Hp, Same H H' → Q (.bl (isWord t ss)) H'
theorem scIW : FnScope ["word", "steps", "test", "colon", "step"] ["word", "steps"] (defScope sIW) := ⟨rfl, rfl, rfl, by decide +kernel, rfl, by decide +kernel, by decide +kernel⟩
theorem ok_iw (T : TxL K mg) : FnOk P w K mg base CX0 1 T.iw.f T.iw.fd ["word", "steps"] (spIW K) := by
  refine T.iw.F.ok scIW (fun vs H Q E h => ?_) (fun cdv A outer s H vs Q E hr h => ?_)
  · obtain ⟨t, p, ss, rfl, _⟩ := h
    rfl
  · obtain ⟨t, p, ss, rfl, bd, hp, k⟩ := h
    refine ⟨_, pss_cons (ps_asg (pe_partition (pv 0) pe_str) (pg_tup rfl (pgs_cons (pg_name (i := 2) scIW.nd rfl (.inl rfl)) (pgs_cons (pg_name (i := 3) scIW.nd rfl (.inl rfl)) (pgs_cons (pg_name (i := 4) scIW.nd rfl (.inl rfl)) pgs_nil)))))
      (pss_one (ps_ret (pe_ifExp (pt_truth (pv 3) (by intro _; rfl)) (pe_and (pe_cmpR op_in_seq (pv 2) (pe_glob (v := .ref T.pT) rfl T.gT rfl) (by rfl)) (pe_one (pe_cmpR op_in_seq (pv 4) (pv 1) (by rfl)))) (pe_cmpR op_in_seq (pv 0) (pv 1) (by rfl))))), ?_⟩
    refine ⟨_, rfl, ⟨_, rfl⟩, t, ":", rfl, rfl, by decide +kernel, bd.line, fun q nq => ?_⟩
    refine ⟨q, _, rfl, SqT.of upd_same, rfl, _, _, rfl, _, _, rfl, _, _, rfl, rfl, ?_⟩
    have s1 : Same H (upd H q (.tup [.str (Txt.partition t ":").1, .str (Txt.partition t ":").2.1, .str (Txt.partition t ":").2.2])) := same_new nq
    generalize upd H q (.tup [.str (Txt.partition t ":").1, .str (Txt.partition t ":").2.1, .str (Txt.partition t ":").2.2]) = H1 at s1 ⊢
    refine ⟨_, rfl, _, ⟨Nat.le_trans (part_len t ":").2.1 (by decide +kernel), rfl⟩, ?_⟩
    rw [nz]
    have k1 := k H1 s1
    unfold isWord at k1
    cases hc : ((Txt.partition t ":").2.1.length != 0) with
    | true =>
      rw [if_pos hc] at k1
      refine iteT ?_
      refine ⟨_, rfl, T.pT, _, rfl, .inr (T.lT _), rfl, svs_flat _, _, rfl, ?_⟩
      show if (inV _ (svs tests)) = true then _ else _
      rw [inV_svs]
      by_cases h1 : (Txt.partition t ":").1 ∈ tests
      · rw [decide_eq_true h1] at k1 ⊢
        refine iteT ⟨_, rfl, _, rfl, p, _, rfl, .inr (Cm.Same.set s1 hp), rfl, svs_flat _, ?_⟩
        show _
        rw [Bool.true_and] at k1
        have := inV_svs (Txt.partition t ":").2.2 ss
        rw [← this] at k1
        exact k1
      · rw [decide_eq_false h1] at k1 ⊢
        exact iteF k1
    | false =>
      rw [if_neg (by rw [hc]; exact Bool.false_ne_true)] at k1
      refine iteF ?_
      refine ⟨_, rfl, _, rfl, p, _, rfl, .inr (Cm.Same.set s1 hp), rfl, svs_flat _, ?_⟩
      rw [← inV_svs] at k1
      exact k1
end
end My

namespace My
open PySem L2 Cm LM
section
variable {P : Program} {w : World} {K : PySem.W.Frag} {mg : Str → Option Value} {base : Heap}
/-! ### are_words -/
def spAW (K : PySem.W.Frag) : Sp := fun vs H Q _ => ∃ (a p : Addr) (ws ss : List Str), vs = [.ref a, .ref p] ∧ BdW ws ∧ SqT K H a (svs ws) ∧ SqT K H p (svs ss) ∧ ∀ H' : Hp, Same H H' → Q (.bl (areWords ws ss)) H'
theorem scAW : FnScope ["words", "steps", "word"] ["words", "steps"] (defScope sAW) := ⟨rfl, rfl, rfl, by decide +kernel, rfl, by decide +kernel, by decide +kernel⟩
theorem ok_aw (T : TxL K mg) : FnOk P w K mg base CX0 2 T.aw.f T.aw.fd ["words", "steps"] (spAW K) := by
  have G1 : FnOk P w K mg base CX0 1 T.iw.f T.iw.fd ["word", "steps"] (spIW K) := ok_iw T
  refine T.aw.F.ok scAW (fun vs H Q E h => ?_) (fun cdv A outer s H vs Q E hr h => ?_)
  · obtain ⟨a, p, ws, ss, rfl, _⟩ := h
    rfl
  · obtain ⟨a, p, ws, ss, rfl, bd, ha, hp, k⟩ := h
    refine ⟨_, pss_one (ps_ret (pe_callB (cr_all rfl) (by rfl) T.all (by decide +kernel) (pa_cons (pe_lc (own := [("word", 2)]) (g := gName 2) (tt := tYes) (te := tCall (spIW K) [] E0 (tCons (tVar 2) (tCons (tVar 1) tNil))) rfl scAW.nd (pi_tup (pv 0))
      (blkOk_by (own := [("word", 2)]) (N := ["words", "steps", "word"]) (sc := defScope sAW) (by decide +kernel)) (fun _ _ _ _ _ => pg_name (i := 2) scAW.nd rfl (Or.inl rfl)) (fun _ _ _ _ _ => pts_nil)
      (fun _ _ _ _ _ => by exact pe_call G1 hr rfl T.iw.g T.iw.k T.iw.b .nil pass0 (pa_cons (pv 2) (pa_cons (pv 1) pa_nil)))) pa_nil))), ?_⟩
    refine ⟨_, rfl, a, rfl, ⟨_, ha⟩, fun D nD => lc_tup (K := K) (a := a) (xs := svs ws) (fun i H' => Same H H' ∧ H' D = some (.lst (((ws.take i).map fun z => isWord z ss).map V.bl))) ⟨same_new nD, upd_same⟩ (fun i H' _ ⟨s', _⟩ => Cm.Same.set s' ha) ?_ ?_⟩
    · rintro i x H' hx ⟨s', hD⟩
      obtain ⟨z, hz, rfl⟩ := svs_get hx
      refine ⟨rfl, _, rfl, _, rfl, z, p, ss, rfl, bd.1 z (List.mem_of_getElem? hz), Cm.Same.set s' hp, fun H2 s2 => ?_⟩
      refine ⟨_, s2 _ _ hD, szM ?_, fun b o q => ?_, ?_⟩
      · rw [List.length_map, List.length_map, List.length_take]
        have := bd.2
        omega
      · rw [upd_ne (ne_of_none q nD)]
        exact s2 _ _ (s' _ _ q)
      · rw [upd_same, take_snoc hz]
        simp
    · rintro H' ⟨s', hD⟩
      have e : (svs ws).length = ws.length := List.length_map ..
      rw [e, List.take_length] at hD
      refine ⟨D, ws.map fun z => isWord z ss, rfl, SqL.of hD, ?_⟩
      have k1 := k H' s'
      unfold areWords at k1
      rw [List.all_map]
      exact k1
/-! ### is_round -/
def spIR (K : PySem.W.Frag) : Sp := fun vs H Q _ => ∃ (a : Addr) (ws : List Str), vs = [.ref a] ∧ ws ≠ [] ∧ BdW ws ∧ SqT K H a (svs ws) ∧ ∀ H' : Hp, Same H H' → Q (.bl (isRound ws)) H'
theorem scIR : FnScope ["words", "adding", "word"] ["words"] (defScope sIR) := ⟨rfl, rfl, rfl, by decide +kernel, rfl, by decide +kernel, by decide +kernel⟩
def ttAdd (K : PySem.W.Frag) : TT := tTest (tOp rEq (tOp (rIxT K) (tCall spOO [] E0 (tCons (tVar 2) tNil)) (tC (.int 1))) (tC (.str "add")))
theorem ok_ir (T : TxL K mg) : FnOk P w K mg base CX0 3 T.ir.f T.ir.fd ["words"] (spIR K) := by
  have GO : FnOk P w K mg base CX0 1 T.oo.f T.oo.fd ["word"] spOO := ok_oo T
  have GA : FnOk P w K mg base CX0 2 T.aw.f T.aw.fd ["words", "steps"] (spAW K) := ok_aw T
  obtain ⟨tm, mr⟩ := T.mr
  refine T.ir.F.ok scIR (fun vs H Q E h => ?_) (fun cdv A outer s H vs Q E hr h => ?_)
  · obtain ⟨a, ws, rfl, _⟩ := h
    rfl
  · obtain ⟨a, ws, rfl, ne, bd, ha, k⟩ := h
    have hr1 : Room 1 _ := hr.mono (by decide)
    refine ⟨_, pss_cons (ps_if (PW.pt (pw_or (pt_cmpR op_ne (pe_ix ix_tup (pv 0) pe_int (fun _ _ => rfl)) pe_str (nomark _)) (pw_or1 (pt_cmpR op_gt (pe_callB call_len_seq (by rfl) T.len PySem.boot_len (pa_cons (pv 0) pa_nil)) (pe_glob (v := .int 12) rfl mr ⟨_, rfl⟩) (nomark _))))) (pss_one (ps_ret pe_bl)) pss_nil)
      (pss_cons (ps_setLc (i := 1) (own := [("word", 2)]) (g := gName 2) (tt := ttAdd K) (te := tVar 2) rfl scIR.nd rfl rfl (sw_true rfl rfl rfl (by decide +kernel)) (pi_tup (pv 0)) (blkOk_by (own := [("word", 2)]) (N := ["words", "adding", "word"]) (sc := defScope sIR) (by decide +kernel)) (fun _ _ _ _ _ => pg_name (i := 2) scIR.nd rfl (Or.inl rfl))
          (fun _ _ _ _ _ => by exact pts_one (pt_cmpR op_eq (pe_ix ix_tup (pe_call (E := E0) GO hr1 rfl T.oo.g T.oo.k T.oo.b .nil pass0 (pa_cons (pv 2) pa_nil)) pe_int (fun _ _ => rfl)) pe_str (nomark _))) (fun _ _ _ _ _ => pv 2))
      (pss_one (ps_ret (pe_and (pe_cmpR op_le (pe_callB call_len_seq (by rfl) T.len PySem.boot_len (pa_cons (pv 1) pa_nil)) pe_int (nomark _)) (pe_one (pe_call GA hr rfl T.aw.g T.aw.k T.aw.b .nil pass0 (pa_cons (pe_slice sl_tupA (pv 0) (po_some pe_int) po_none) (pa_cons (pe_glob (v := .ref T.pR) rfl T.gR rfl) pa_nil))))))))
      , ?_⟩
    obtain ⟨w0, r, rfl⟩ : ∃ w0 r, ws = w0 :: r := by
      cases ws with
      | nil => exact absurd rfl ne
      | cons w0 r => exact ⟨w0, r, rfl⟩
    refine ⟨_, rfl, a, _, 0, .str w0, rfl, rfl, ha, (show atI (svs (w0 :: r)) ((0 : Nat) : Int) = some (V.str w0) from atI_nat rfl), rfl, _, rfl, ?_⟩
    unfold isRound at k
    rw [dS]
    by_cases h0 : w0 = "ask"
    · subst h0
      rw [show decide ((("ask" : Str) :: r).head? = some "ask") = true from decide_eq_true rfl, Bool.true_and] at k
      rw [decide_eq_true rfl]
      refine iteF ?_
      refine ⟨_, rfl, a, _, rfl, .inr ha, _, _, rfl, rfl, _, rfl, ?_⟩
      have el : (svs ((("ask" : Str)) :: r)).length = ((("ask" : Str)) :: r).length := List.length_map ..
      rw [el]
      by_cases h12 : ((("ask" : Str)) :: r).length ≤ 12
      · rw [decide_eq_false (show ¬ ((12 : Int) < ((("ask" : Str) :: r).length : Int)) by omega)]
        rw [decide_eq_true h12, Bool.true_and] at k
        refine iteF ?_
        refine ⟨_, rfl, a, rfl, ⟨_, ha⟩, fun D nD => lc_tup (K := K) (a := a) (xs := svs (("ask" : Str) :: r)) (fun i H' => Same H H' ∧ H' D = some (.lst (svs (((("ask" : Str) :: r).take i).filter isAdd)))) ⟨same_new nD, upd_same⟩ (fun i H' _ ⟨s', _⟩ => Cm.Same.set s' ha) ?_ ?_⟩
        · rintro i x H' hx ⟨s', hD⟩
          obtain ⟨z, hz, rfl⟩ := svs_get hx
          refine ⟨rfl, _, rfl, z, rfl, bd.1 z (List.mem_of_getElem? hz), fun H2 p s2 np hp => ?_⟩
          refine ⟨p, _, 1, _, rfl, rfl, SqT.of hp, rfl, rfl, _, rfl, ?_⟩
          rw [dS]
          have ed : decide ((orderOf z).2 = "add") = isAdd z := rfl
          rw [ed]
          rw [take_snoc hz, List.filter_append]
          cases hc : isAdd z with
          | true =>
            refine iteT ?_
            refine ⟨_, rfl, _, s2 _ _ hD, szM ?_, fun b o q => ?_, ?_⟩
            · rw [show (svs (List.filter isAdd (List.take i (("ask" : Str) :: r)))).length = _ from List.length_map ..]
              have := List.length_filter_le isAdd (List.take i (("ask" : Str) :: r))
              rw [List.length_take] at this
              have := bd.2
              omega
            · rw [upd_ne (ne_of_none q nD)]
              exact s2 _ _ (s' _ _ q)
            · rw [upd_same]
              simp [svs, hc]
          | false =>
            refine iteF ?_
            refine ⟨Same.trans s' s2, ?_⟩
            rw [s2 _ _ hD]
            simp [hc]
        · rintro H' ⟨s', hD⟩
          rw [el, List.take_length] at hD
          refine ⟨_, rfl, D, _, rfl, .inl (SqL.of hD), _, _, rfl, rfl, _, rfl, ?_⟩
          have ef : (svs (List.filter isAdd (("ask" : Str) :: r))).length = (List.filter isAdd (("ask" : Str) :: r)).length := List.length_map ..
          rw [ef]
          by_cases h1 : (List.filter isAdd (("ask" : Str) :: r)).length ≤ 1
          · rw [decide_eq_true (show (((List.filter isAdd (("ask" : Str) :: r)).length : Int) ≤ 1) by omega)]
            rw [decide_eq_true h1, Bool.true_and] at k
            refine iteT ?_
            have cut : cutV (svs (("ask" : Str) :: r)) (some 1) none = svs r := by
              unfold cutV
              rw [HT.sIx_none, show (some (1 : Int)) = some ((1 : Nat) : Int) from rfl, HT.sIx_nat, el]
              simp [svs]
              exact List.take_of_length_le (by simp)
            refine ⟨_, rfl, 1, rfl, a, _, rfl, Cm.Same.set s' ha, fun z => ?_, fun _ p np => ?_⟩
            · exfalso
              have := z.1
              rw [show (some (1 : Int)) = some ((1 : Nat) : Int) from rfl, HT.sIx_nat, el] at this
              simp at this
            · rw [cut]
              refine ⟨p, T.pR, r, rsteps, rfl, ⟨fun z hz => bd.1 z (List.mem_cons_of_mem _ hz), ?_⟩, SqT.of upd_same, T.lR _, fun H2 s2 => ?_⟩
              · have := bd.2
                rw [List.length_cons] at this
                omega
              · exact k _ (Same.trans s' (Same.trans (same_new np) s2))
          · rw [decide_eq_false (show ¬ (((List.filter isAdd (("ask" : Str) :: r)).length : Int) ≤ 1) by omega)]
            rw [decide_eq_false h1, Bool.false_and] at k
            exact iteF (k H' s')
      · rw [decide_eq_true (show ((12 : Int) < ((("ask" : Str) :: r).length : Int)) by omega)]
        rw [decide_eq_false h12, Bool.false_and] at k
        exact iteT (k H (Same.refl _))
    · rw [decide_eq_false h0]
      rw [show decide ((w0 :: r).head? = some "ask") = false from decide_eq_false (fun z => h0 (Option.some.inj z)), Bool.false_and] at k
      exact iteT (iteT (k H (Same.refl _)))
/-! ### is_ending -/
def spIE (K : PySem.W.Frag) : Sp := fun vs H Q _ => ∃ (a : Addr) (ws : List Str), vs = [.ref a] ∧ BdW ws ∧ SqT K H a (svs ws) ∧ ∀ H' : Hp, Same H H' → Q (.bl (isEnding ws)) H'
theorem scIE : FnScope ["words"] ["words"] (defScope sIE) := ⟨rfl, rfl, rfl, by decide +kernel, rfl, by decide +kernel, by decide +kernel⟩
theorem ok_ie (T : TxL K mg) : FnOk P w K mg base CX0 3 T.ie.f T.ie.fd ["words"] (spIE K) := by
  have GA : FnOk P w K mg base CX0 2 T.aw.f T.aw.fd ["words", "steps"] (spAW K) := ok_aw T
  obtain ⟨tm, me⟩ := T.me
  refine T.ie.F.ok scIE (fun vs H Q E h => ?_) (fun cdv A outer s H vs Q E hr h => ?_)
  · obtain ⟨a, ws, rfl, _⟩ := h
    rfl
  · obtain ⟨a, ws, rfl, bd, ha, k⟩ := h
    refine ⟨_, pss_one (ps_ret (pe_and (pe_cmpR op_le (pe_callB call_len_seq (by rfl) T.len PySem.boot_len (pa_cons (pv 0) pa_nil)) (pe_glob (v := .int 6) rfl me ⟨_, rfl⟩) (nomark _)) (pe_one (pe_call GA hr rfl T.aw.g T.aw.k T.aw.b .nil pass0 (pa_cons (pv 0) (pa_cons (pe_glob (v := .ref T.pE) rfl T.gE rfl) pa_nil)))))), ?_⟩
    refine ⟨_, rfl, a, _, rfl, .inr ha, _, _, rfl, rfl, _, rfl, ?_⟩
    have el : (svs ws).length = ws.length := List.length_map ..
    rw [el]
    unfold isEnding at k
    by_cases h6 : ws.length ≤ 6
    · rw [decide_eq_true (show ((ws.length : Int) ≤ 6) by omega)]
      rw [decide_eq_true h6, Bool.true_and] at k
      exact iteT ⟨_, rfl, a, T.pE, ws, esteps, rfl, bd, ha, T.lE _, k⟩
    · rw [decide_eq_false (show ¬ ((ws.length : Int) ≤ 6) by omega)]
      rw [decide_eq_false h6, Bool.false_and] at k
      exact iteF (k H (Same.refl _))
end
end My

/-! the class Loop: its making -/
namespace My
open PySem L2 Cm LM
abbrev sLI : Stmt := inClass (top 28) 0
section
variable {P : Program} {w : World} {K : PySem.W.Frag} {mg : Str → Option Value} {base : Heap}
/-! ### loops as objects -/
def lf (t : Str) (pr pe po pq : Addr) : List (Str × V) := putF "ending_orders" (.ref pq) (putF "round_orders" (.ref po) (putF "ending" (.ref pe) (putF "round" (.ref pr) (putF "text" (.str t) []))))
theorem lf_text (t : Str) (pr pe po pq : Addr) : (lf t pr pe po pq).lookup ("text" : Str) = some (.str t) := by
  unfold lf
  rw [lookup_putF, if_neg (by decide +kernel), lookup_putF, if_neg (by decide +kernel), lookup_putF, if_neg (by decide +kernel), lookup_putF, if_neg (by decide +kernel), lookup_putF, if_pos rfl]
theorem lf_round (t : Str) (pr pe po pq : Addr) : (lf t pr pe po pq).lookup ("round" : Str) = some (.ref pr) := by
  unfold lf
  rw [lookup_putF, if_neg (by decide +kernel), lookup_putF, if_neg (by decide +kernel), lookup_putF, if_neg (by decide +kernel), lookup_putF, if_pos rfl]
theorem lf_ending (t : Str) (pr pe po pq : Addr) : (lf t pr pe po pq).lookup ("ending" : Str) = some (.ref pe) := by
  unfold lf
  rw [lookup_putF, if_neg (by decide +kernel), lookup_putF, if_neg (by decide +kernel), lookup_putF, if_pos rfl]
theorem lf_ro (t : Str) (pr pe po pq : Addr) : (lf t pr pe po pq).lookup ("round_orders" : Str) = some (.ref po) := by
  unfold lf
  rw [lookup_putF, if_neg (by decide +kernel), lookup_putF, if_pos rfl]
theorem lf_eo (t : Str) (pr pe po pq : Addr) : (lf t pr pe po pq).lookup ("ending_orders" : Str) = some (.ref pq) := by
  unfold lf
  rw [lookup_putF, if_pos rfl]
theorem lf_no (t : Str) (pr pe po pq : Addr) {m : Str} (h1 : ¬ m = "ending_orders") (h2 : ¬ m = "round_orders") (h3 : ¬ m = "ending") (h4 : ¬ m = "round") (h5 : ¬ m = "text") : (lf t pr pe po pq).lookup m = none := by
  unfold lf
  rw [lookup_putF, if_neg h1, lookup_putF, if_neg h2, lookup_putF, if_neg h3, lookup_putF, if_neg h4, lookup_putF, if_neg h5]
  rfl
/-- rows of pairs of texts -/
inductive Prs (H : Hp) : List V → List (Str × Str) → Prop
  | nil : Prs H [] []
  | cons {p : Addr} {o : Str × Str} {xs : List V} {os : List (Str × Str)} (h : H p = some (.tup [.str o.1, .str o.2])) (t : Prs H xs os) : Prs H (.ref p :: xs) (o :: os)
theorem Prs.mono {H H' : Hp} (f : ∀ (p : Addr) (xs : List V), H p = some (.tup xs) → H' p = some (.tup xs)) : ∀ {xs os}, Prs H xs os → Prs H' xs os
  | _, _, .nil => .nil
  | _, _, .cons h t => .cons (f _ _ h) (t.mono f)
theorem Prs.same {H H' : Hp} (s : Same H H') {xs os} (h : Prs H xs os) : Prs H' xs os := h.mono fun _ _ q => s _ _ q
theorem Prs.snoc {H : Hp} {p : Addr} {o : Str × Str} (h : H p = some (.tup [.str o.1, .str o.2])) : ∀ {xs os}, Prs H xs os → Prs H (xs ++ [.ref p]) (os ++ [o])
  | _, _, .nil => .cons h .nil
  | _, _, .cons a t => .cons a (t.snoc h)
theorem Prs.len {H : Hp} : ∀ {xs os}, Prs H xs os → xs.length = os.length
  | _, _, .nil => rfl
  | _, _, .cons _ t => congrArg (· + 1) t.len
def Ords (H : Hp) (p : Addr) (ws : List Str) : Prop := ∃ xs, H p = some (.tup xs) ∧ Prs H xs (ws.map orderOf)
/-- a loop of this text stands at o -/
def LoopAt (C : Addr) (H : Hp) (o : Addr) (t : Str) : Prop := ∃ dx pr pe po pq, H o = some (.ins C dx (lf t pr pe po pq)) ∧ H pr = some (.tup (svs (wordsR t))) ∧ H pe = some (.tup (svs (wordsE t))) ∧ Ords H po (wordsR t) ∧ Ords H pq (wordsE t)
theorem Ords.mono {H H' : Hp} (f : ∀ (p : Addr) (xs : List V), H p = some (.tup xs) → H' p = some (.tup xs)) {p : Addr} {ws : List Str} (h : Ords H p ws) : Ords H' p ws := let ⟨xs, e, q⟩ := h; ⟨xs, f _ _ e, q.mono f⟩
theorem LoopAt.same {C : Addr} {H H' : Hp} {o : Addr} {t : Str} (s : Same H H') (h : LoopAt C H o t) : LoopAt C H' o t := let ⟨dx, pr, pe, po, pq, a, b, c, d, e⟩ := h; ⟨dx, pr, pe, po, pq, s _ _ a, s _ _ b, s _ _ c, d.mono fun _ _ z => s _ _ z, e.mono fun _ _ z => s _ _ z⟩
theorem LoopAt.off {C j : Addr} {H H' : Hp} {o : Addr} {t : Str} (s : Off j H H') (hj : Jar H j) (h : LoopAt C H o t) : LoopAt C H' o t := by
  obtain ⟨x, y, z, hj⟩ := hj
  have f : ∀ (p : Addr) (xs : List V), H p = some (.tup xs) → H' p = some (.tup xs) := fun p xs e => s _ _ (ne_of e hj (by intro z; cases z)) e
  obtain ⟨dx, pr, pe, po, pq, a, b, c, d, e⟩ := h
  exact ⟨dx, pr, pe, po, pq, s _ _ (ne_of a hj (by intro z; cases z)) a, f _ _ b, f _ _ c, d.mono f, e.mono f⟩
/-! ### the text of the class -/
structure TxC (K : PySem.W.Frag) (mg : Str → Option Value) where
  L : TxL K mg
  E : TxE K mg
  isi : mg "isinstance" = none
  str : mg "str" = none
  C : Addr
  gC : mg "Loop" = some (.ref C)
  cl : Cls K C
  nT : NoAttr K C "text"
  nR : NoAttr K C "round"
  nE : NoAttr K C "ending"
  nO : NoAttr K C "round_orders"
  nQ : NoAttr K C "ending_orders"
  fI : Addr
  fdI : FuncData
  FI : Fun K "__init__" "Loop.__init__" sLI fI fdI
  bI : Binds K fdI ["self", "text"] []
  MI : Mk K C fI
/-- v makes a loop -/
def good : V → Bool
  | .str t => goodText t
  | _ => false
def BdV : V → Prop
  | .str t => Bd t
  | _ => True
def spLI (K : PySem.W.Frag) (C CE : Addr) : Sp := fun vs H Q E => ∃ (x dx : Addr) (v : V), vs = [.ref x, v] ∧ H x = some (.ins C dx []) ∧ Typed K H v ∧ BdV v ∧
  (∀ t, v = .str t → goodText t = true → ∀ H' : Hp, Off x H H' → LoopAt C H' x t → Q .non H') ∧
  (good v = false → ∀ (H' : Hp) (d : Addr), Same H H' → H' d = none → E (.ref CE) (some d) (upd H' d (.xd [("value", v)])))
theorem scLI : FnScope ["self", "text", "first_words", "last_words", "word"] ["self", "text"] (defScope sLI) := ⟨rfl, rfl, rfl, by decide +kernel, rfl, by decide +kernel, by decide +kernel⟩
/-- [order_of(word) for word in words] -/
theorem ords_lc {K : PySem.W.Frag} {σ : St} {H1 : Hp} {D a : Addr} {ws : List Str} {Qd : Hp → Prop} (h4 : ∀ v, ((wipe σ [4]).set 4 (some v))[4]? = some (some v) ∧ wipe ((wipe σ [4]).set 4 (some v)) [4] = wipe σ [4])
    (ha : H1 a = some (.tup (svs ws))) (bd : BdW ws) (nD : H1 D = none) (hd : ∀ (H' : Hp) (xs : List V), Same H1 H' → H' D = some (.lst xs) → Prs H' xs (ws.map orderOf) → Qd H') :
    ∃ W : Nat → Nat → Hp → Prop, (∃ m, W 0 m (upd H1 D (.lst []))) ∧ ∀ (i m : Nat) (H : Hp), W i m H →
      ((Itt K a).stop i H ∧ Qd H) ∨ ((Itt K a).go i H ∧ ∃ Nx : Hp → Prop, (∀ H', Nx H' → ∃ m', m' < m ∧ W (i + 1) m' H') ∧ ∀ (x : V) (H' : Hp), (Itt K a).yld i H x H' → gName 4 x (wipe σ [4]) H' fun σ2 H2 => wipe σ2 [4] = wipe σ [4] ∧ tYes σ2 H2 fun b H3 =>
        if b = true then tCall spOO [] E0 (tCons (tVar 4) tNil) σ2 H3 fun y H4 => ∃ acc, H4 D = some (.lst acc) ∧ acc.length < sizeLine ∧ Nx (upd H4 D (.lst (acc ++ [y]))) else Nx H3) := by
  refine lc_tup (K := K) (a := a) (xs := svs ws) (fun i H' => Same H1 H' ∧ ∃ acc, H' D = some (.lst acc) ∧ Prs H' acc ((ws.take i).map orderOf)) ⟨same_new nD, [], upd_same, .nil⟩ (fun i H' _ ⟨s, _⟩ => SqT.of (s _ _ ha)) ?_ ?_
  · rintro i x H' hx ⟨s, acc, hD, hP⟩
    obtain ⟨z, hz, rfl⟩ := svs_get hx
    obtain ⟨z4, zw⟩ := h4 (.str z)
    refine ⟨zw, _, z4, z, rfl, bd.1 z (List.mem_of_getElem? hz), fun H2 p s2 np hp => ?_⟩
    have hD2 := s2 _ _ hD
    have st := tup_stays (o' := .lst (acc ++ [.ref p])) hD2 (by intro xs z; cases z)
    have la := hP.len
    rw [List.length_map, List.length_take] at la
    have := bd.2
    refine ⟨acc, hD2, szM (by omega), fun b o q => ?_, _, upd_same, ?_⟩
    · rw [upd_ne (ne_of_none q nD)]
      exact s2 _ _ (s _ _ q)
    · rw [take_snoc hz, List.map_append]
      exact Prs.snoc (st _ _ hp) ((hP.same s2).mono st)
  · rintro H' ⟨s, acc, hD, hP⟩
    have e : (svs ws).length = ws.length := List.length_map ..
    rw [e, List.take_length] at hP
    exact hd H' acc s hD hP
theorem ok_li (T : TxC K mg) : FnOk P w K mg base (L2.CX P w) 4 T.fI T.fdI ["self", "text"] (spLI K T.C T.E.C) := by
  have GW : FnOk P w K mg base CX0 1 T.L.wo.f T.L.wo.fd ["text"] spWO := ok_wo T.L
  have GO : FnOk P w K mg base CX0 1 T.L.oo.f T.L.oo.fd ["word"] spOO := ok_oo T.L
  have GR : FnOk P w K mg base CX0 3 T.L.ir.f T.L.ir.fd ["words"] (spIR K) := ok_ir T.L
  have GN : FnOk P w K mg base CX0 3 T.L.ie.f T.L.ie.fd ["words"] (spIE K) := ok_ie T.L
  have GE : FnOk P w K mg base CX0 1 T.E.f T.E.fd ["self", "value"] (spEI T.E.C) := ok_ei T.E
  refine T.FI.okX scLI (fun vs H Q E h => ?_) (fun cdv A outer s H vs Q E hr h => ?_)
  · obtain ⟨x, dx, v, rfl, _⟩ := h
    rfl
  · obtain ⟨x, dx, v, rfl, hx, ⟨t, ty, kt⟩, bd, kg, kb⟩ := h
    have hr1 : Room 1 _ := hr.mono (by decide)
    have hr2 : Room 2 _ := hr.mono (by decide)
    have ps : Bool := true
    refine ⟨_, pss_cons (ps_if (pt_not (pt_val (pe_callB call_isi (by rfl) T.isi (by decide +kernel) (pa_cons (pv 1) (pa_cons (pe_bltn (v := .ty "str") (by rfl) T.str (by decide +kernel) rfl) pa_nil))))) (pss_one (ps_raise rfl (takes_of rfl rfl rfl rfl) (pmk_oex T.E.o T.E.i T.E.t GE hr2 T.E.b .nil pass0 rfl T.E.g (pa_cons (pv 1) pa_nil)))) pss_nil)
      (pss_cons (ps_asg (pe_call GW hr1 rfl T.L.wo.g T.L.wo.k T.L.wo.b .nil pass0 (pa_cons (pv 1) pa_nil)) (pg_tup rfl (pgs_cons (pg_name (i := 2) scLI.nd rfl (.inl rfl)) (pgs_cons (pg_name (i := 3) scLI.nd rfl (.inl rfl)) pgs_nil))))
      (pss_cons (ps_if (PW.pt (pw_or (pt_not (pt_val (pe_call GR hr rfl T.L.ir.g T.L.ir.k T.L.ir.b .nil pass0 (pa_cons (pv 2) pa_nil)))) (pw_or1 (pt_not (pt_val (pe_call GN hr rfl T.L.ie.g T.L.ie.k T.L.ie.b .nil pass0 (pa_cons (pv 3) pa_nil)))))))
          (pss_one (ps_raise rfl (takes_of rfl rfl rfl rfl) (pmk_oex T.E.o T.E.i T.E.t GE hr2 T.E.b .nil pass0 rfl T.E.g (pa_cons (pv 1) pa_nil)))) pss_nil)
      (pss_cons (ps_fld (pv 0) (pv 1) rfl) (pss_cons (ps_fld (pv 0) (pv 2) rfl) (pss_cons (ps_fld (pv 0) (pv 3) rfl)
      (pss_cons (ps_fld (pv 0) (pe_callTy call_tuple_of (by rfl) T.L.tuple (by decide +kernel) (pa_cons (pe_lc (own := [("word", 4)]) (g := gName 4) (tt := tYes) (te := tCall spOO [] E0 (tCons (tVar 4) tNil)) rfl scLI.nd (pi_tup (pv 2)) (blkOk_by (own := [("word", 4)]) (N := ["self", "text", "first_words", "last_words", "word"]) (sc := defScope sLI) (by decide +kernel))
          (fun _ _ _ _ _ => pg_name (i := 4) scLI.nd rfl (Or.inl rfl)) (fun _ _ _ _ _ => pts_nil) (fun _ _ _ _ _ => by exact pe_call GO hr1 rfl T.L.oo.g T.L.oo.k T.L.oo.b .nil pass0 (pa_cons (pv 4) pa_nil))) pa_nil)) rfl)
      (pss_one (ps_fld (pv 0) (pe_callTy call_tuple_of (by rfl) T.L.tuple (by decide +kernel) (pa_cons (pe_lc (own := [("word", 4)]) (g := gName 4) (tt := tYes) (te := tCall spOO [] E0 (tCons (tVar 4) tNil)) rfl scLI.nd (pi_tup (pv 3)) (blkOk_by (own := [("word", 4)]) (N := ["self", "text", "first_words", "last_words", "word"]) (sc := defScope sLI) (by decide +kernel))
          (fun _ _ _ _ _ => pg_name (i := 4) scLI.nd rfl (Or.inl rfl)) (fun _ _ _ _ _ => pts_nil) (fun _ _ _ _ _ => by exact pe_call GO hr1 rfl T.L.oo.g T.L.oo.k T.L.oo.b .nil pass0 (pa_cons (pv 4) pa_nil))) pa_nil)) rfl)))))))), ?_⟩
    refine ⟨_, rfl, _, _, _, _, isS v, rfl, .ty "str", ty, kt, _, rfl, ?_⟩
    cases hs : isS v with
    | false =>
      refine iteT ?_
      have gv : good v = false := by
        cases v <;> first | rfl | cases hs
      exact mk_err (x := v) ⟨v, rfl, rfl, rfl⟩ (fun {R R'} ⟨v, e1, q⟩ f => ⟨v, e1, f _ _ q⟩) (kb gv H · (Same.refl _))
    | true =>
      obtain ⟨t, rfl⟩ : ∃ t, v = .str t := by
        cases v <;> first | exact ⟨_, rfl⟩ | cases hs
      have bd : Bd t := bd
      have kg := kg t rfl
      refine iteF ?_
      refine ⟨_, rfl, t, rfl, bd, fun H1 p a b s1 hp ha hb => ?_⟩
      refine ⟨p, _, rfl, SqT.of hp, rfl, _, _, rfl, _, _, rfl, rfl, ?_⟩
      have bR : BdW (wordsR t) := ⟨fun z hz => Nat.le_trans (wordsR_word hz) bd, Nat.le_trans (wordsR_len t) (by unfold Bd at bd; omega)⟩
      have bE : BdW (wordsE t) := ⟨fun z hz => Nat.le_trans (wordsE_word hz) bd, Nat.le_trans (wordsE_len t) (by unfold Bd at bd; omega)⟩
      refine ⟨_, rfl, a, wordsR t, rfl, wordsR_ne t, bR, SqT.of ha, fun H2 s2 => ?_⟩
      have gt : goodText t = (isRound (wordsR t) && isEnding (wordsE t)) := rfl
      have gv : good (.str t) = goodText t := rfl
      rw [gv] at kb
      refine ⟨_, rfl, ?_⟩
      cases h1 : isRound (wordsR t) with
      | false =>
        rw [gt, h1] at kb
        refine iteT (iteT ?_)
        exact mk_err (x := .str t) ⟨.str t, rfl, rfl, rfl⟩ (fun {R R'} ⟨v, e1, q⟩ f => ⟨v, e1, f _ _ q⟩) (kb rfl H2 · (Same.trans s1 s2))
      | true =>
        refine iteF ?_
        refine ⟨_, rfl, b, wordsE t, rfl, bE, SqT.of (s2 _ _ hb), fun H3 s3 => ?_⟩
        refine ⟨_, rfl, ?_⟩
        have s13 := Same.trans s1 (Same.trans s2 s3)
        cases h2 : isEnding (wordsE t) with
        | false =>
          rw [gt, h1, h2] at kb
          refine iteT ?_
          exact mk_err (x := .str t) ⟨.str t, rfl, rfl, rfl⟩ (fun {R R'} ⟨v, e1, q⟩ f => ⟨v, e1, f _ _ q⟩) (kb rfl H3 · s13)
        | true =>
          have kg := kg (by rw [gt, h1, h2]; rfl)
          refine iteF ?_
          have hx3 := s13 _ _ hx
          have ha3 := s3 _ _ (s2 _ _ ha)
          have hb3 := s3 _ _ (s2 _ _ hb)
          have o3 : Off x H H3 := Same.off s13
          clear s1 s2 s3 hp ha hb hx kb s13
          -- text
          refine ⟨_, rfl, _, rfl, x, T.C, dx, _, rfl, hx3, T.cl, T.nT, (by show 0 < 1000; decide), ?_⟩
          have st := tup_stays (o' := .ins T.C dx (putF "text" (.str t) [])) hx3 (by intro xs z; cases z)
          have hx4 : (upd H3 x (.ins T.C dx (putF "text" (.str t) []))) x = some (.ins T.C dx (putF "text" (.str t) [])) := upd_same
          have ha4 := st _ _ ha3
          have hb4 := st _ _ hb3
          have o4 : Off x H (upd H3 x (.ins T.C dx (putF "text" (.str t) []))) := o3.put
          generalize upd H3 x (.ins T.C dx (putF "text" (.str t) [])) = H4 at hx4 ha4 hb4 o4 ⊢
          clear st ha3 hb3 o3 hx3
          -- round
          refine ⟨_, rfl, _, rfl, x, T.C, dx, _, rfl, hx4, T.cl, T.nR, (by show 1 < 1000; decide), ?_⟩
          have st := tup_stays (o' := .ins T.C dx (putF "round" (.ref a) (putF "text" (.str t) []))) hx4 (by intro xs z; cases z)
          have hx5 : (upd H4 x (.ins T.C dx (putF "round" (.ref a) (putF "text" (.str t) [])))) x = some (.ins T.C dx (putF "round" (.ref a) (putF "text" (.str t) []))) := upd_same
          have ha5 := st _ _ ha4
          have hb5 := st _ _ hb4
          have o5 : Off x H (upd H4 x (.ins T.C dx (putF "round" (.ref a) (putF "text" (.str t) [])))) := o4.put
          generalize upd H4 x (.ins T.C dx (putF "round" (.ref a) (putF "text" (.str t) []))) = H5 at hx5 ha5 hb5 o5 ⊢
          clear st ha4 hb4 o4 hx4
          -- ending
          refine ⟨_, rfl, _, rfl, x, T.C, dx, _, rfl, hx5, T.cl, T.nE, Nat.lt_of_le_of_lt (putF_len _ _ _) (Nat.lt_of_le_of_lt (Nat.add_le_add_right (putF_len _ _ _) 1) (by decide)), ?_⟩
          have st := tup_stays (o' := .ins T.C dx (putF "ending" (.ref b) (putF "round" (.ref a) (putF "text" (.str t) [])))) hx5 (by intro xs z; cases z)
          have hx6 : (upd H5 x (.ins T.C dx (putF "ending" (.ref b) (putF "round" (.ref a) (putF "text" (.str t) []))))) x = some (.ins T.C dx (putF "ending" (.ref b) (putF "round" (.ref a) (putF "text" (.str t) [])))) := upd_same
          have ha6 := st _ _ ha5
          have hb6 := st _ _ hb5
          have o6 : Off x H (upd H5 x (.ins T.C dx (putF "ending" (.ref b) (putF "round" (.ref a) (putF "text" (.str t) []))))) := o5.put
          generalize upd H5 x (.ins T.C dx (putF "ending" (.ref b) (putF "round" (.ref a) (putF "text" (.str t) [])))) = H6 at hx6 ha6 hb6 o6 ⊢
          clear st ha5 hb5 o5 hx5
          -- round_orders
          refine ⟨_, rfl, a, rfl, ⟨_, SqT.of ha6⟩, fun D nD => ords_lc (K := K) (a := a) (ws := wordsR t) (fun v => ⟨rfl, rfl⟩) ha6 bR nD fun H7 os s7 hD hP => ?_⟩
          refine ⟨D, os, rfl, .inl ⟨SqL.of hD, fun po npo => ?_⟩⟩
          have s8 : Same H6 (upd H7 po (.tup os)) := Same.trans s7 (same_new npo)
          have hpo : (upd H7 po (.tup os)) po = some (.tup os) := upd_same
          have hP8 := hP.same (same_new (o := .tup os) npo)
          refine ⟨_, rfl, x, T.C, dx, _, rfl, s8 _ _ hx6, T.cl, T.nO, Nat.lt_of_le_of_lt (putF_len _ _ _) (Nat.lt_of_le_of_lt (Nat.add_le_add_right (putF_len _ _ _) 1) (Nat.lt_of_le_of_lt (Nat.add_le_add_right (Nat.add_le_add_right (putF_len _ _ _) 1) 1) (by decide))), ?_⟩
          generalize upd H7 po (.tup os) = H8 at s8 hpo hP8 ⊢
          have hx8 := s8 _ _ hx6
          have o8 : Off x H H8 := o6.trans (Same.off s8)
          have ha8 := s8 _ _ ha6
          have hb8 := s8 _ _ hb6
          clear ha6 hb6 o6 hx6 s8 hD hP npo s7 nD
          have st := tup_stays (o' := .ins T.C dx (putF "round_orders" (.ref po) (putF "ending" (.ref b) (putF "round" (.ref a) (putF "text" (.str t) []))))) hx8 (by intro xs z; cases z)
          have hx9 : (upd H8 x (.ins T.C dx (putF "round_orders" (.ref po) (putF "ending" (.ref b) (putF "round" (.ref a) (putF "text" (.str t) [])))))) x = some (.ins T.C dx (putF "round_orders" (.ref po) (putF "ending" (.ref b) (putF "round" (.ref a) (putF "text" (.str t) []))))) := upd_same
          have ha9 := st _ _ ha8
          have hb9 := st _ _ hb8
          have hpo9 : Ords _ po (wordsR t) := ⟨os, st _ _ hpo, hP8.mono st⟩
          have o9 : Off x H (upd H8 x (.ins T.C dx (putF "round_orders" (.ref po) (putF "ending" (.ref b) (putF "round" (.ref a) (putF "text" (.str t) [])))))) := o8.put
          generalize upd H8 x (.ins T.C dx (putF "round_orders" (.ref po) (putF "ending" (.ref b) (putF "round" (.ref a) (putF "text" (.str t) []))))) = H9 at hx9 ha9 hb9 o9 hpo9 ⊢
          clear st ha8 hb8 o8 hx8 hpo hP8
          -- ending_orders
          refine ⟨_, rfl, b, rfl, ⟨_, SqT.of hb9⟩, fun D nD => ords_lc (K := K) (a := b) (ws := wordsE t) (fun v => ⟨rfl, rfl⟩) hb9 bE nD fun H10 os2 s10 hD hP => ?_⟩
          refine ⟨D, os2, rfl, .inl ⟨SqL.of hD, fun pq npq => ?_⟩⟩
          have s11 : Same H9 (upd H10 pq (.tup os2)) := Same.trans s10 (same_new npq)
          have hpq : (upd H10 pq (.tup os2)) pq = some (.tup os2) := upd_same
          have hP11 := hP.same (same_new (o := .tup os2) npq)
          refine ⟨_, rfl, x, T.C, dx, _, rfl, s11 _ _ hx9, T.cl, T.nQ, Nat.lt_of_le_of_lt (putF_len _ _ _) (Nat.lt_of_le_of_lt (Nat.add_le_add_right (putF_len _ _ _) 1) (Nat.lt_of_le_of_lt (Nat.add_le_add_right (Nat.add_le_add_right (putF_len _ _ _) 1) 1) (Nat.lt_of_le_of_lt (Nat.add_le_add_right (Nat.add_le_add_right (Nat.add_le_add_right (putF_len _ _ _) 1) 1) 1) (by decide)))), ?_⟩
          generalize upd H10 pq (.tup os2) = H11 at s11 hpq hP11 ⊢
          have hx11 := s11 _ _ hx9
          have st := tup_stays (o' := .ins T.C dx (lf t a b po pq)) hx11 (by intro xs z; cases z)
          refine kg _ (Off.put (o9.trans (Same.off s11))) ⟨dx, a, b, po, pq, upd_same, st _ _ (s11 _ _ ha9), st _ _ (s11 _ _ hb9), (hpo9.mono fun _ _ z => s11 _ _ z).mono st, os2, st _ _ hpq, hP11.mono st⟩
end
end My

/-! right loops: their words, and loops without a word -/
namespace LM
open PySem L2 TL
theorem part_back {x y : Str} (h : ((Txt.partition x y).2.1.length != 0) = true) : x = (Txt.partition x y).1 ++ y ++ (Txt.partition x y).2.2 := by
  rcases PyProof.Rows.partition_whole x y with ⟨e, _⟩ | ⟨i, e, hi, _⟩
  · rw [e] at h
    exact absurd (show ((Str.empty).length != 0) = true from h) (by decide)
  · rw [e]
    refine ext_tl ?_
    rw [tl_append, tl_append, tl_strSub, tl_strSub_end, List.drop_zero, Nat.sub_zero]
    by_cases hy : tl y = []
    · have : y.length = 0 := by rw [len_tl, hy]; rfl
      rw [hy, this, List.append_nil, Nat.add_zero, List.take_append_drop]
    · have hp := (at_iff hy i).mp hi
      have e2 : ((tl x).drop i).take (tl y).length = tl y := eq_of_beq hp
      have e3 : tl y ++ (tl x).drop (i + y.length) = (tl x).drop i := by
        rw [len_tl y, ← drop_two]
        have := List.take_append_drop (tl y).length ((tl x).drop i)
        rw [e2] at this
        exact this
      rw [List.append_assoc, e3, List.take_append_drop]
theorem word_wd {w : Str} {ss : List Str} (h : isWord w ss = true) : Wd ss w := by
  unfold isWord at h
  cases hc : ((Txt.partition w ":").2.1.length != 0) with
  | true =>
    rw [if_pos hc] at h
    have h2 := Bool.and_eq_true_iff.mp h
    exact ⟨_, of_decide_eq_true h2.2, .inr ⟨_, of_decide_eq_true h2.1, part_back hc⟩⟩
  | false =>
    rw [if_neg (by rw [hc]; exact Bool.false_ne_true)] at h
    exact ⟨w, of_decide_eq_true h, .inl rfl⟩
/-- free and short -/
def FS (w : Str) : Prop := Fre w ∧ w.length ≤ 11
theorem wd_fs {w : Str} (h : Wd rsteps w) : FS w := by
  have := wd_ok w h.mem
  unfold wdOk at this
  simp only [Bool.and_eq_true, decide_eq_true_eq] at this
  exact ⟨⟨this.2.1, this.2.2.1⟩, this.2.2.2⟩
theorem e_r : ∀ s ∈ esteps, s ∈ rsteps := by decide +kernel
theorem ask_fs : FS "ask" := ⟨⟨by decide +kernel, by decide +kernel⟩, by decide +kernel⟩
theorem areWords_iff {ws ss : List Str} : areWords ws ss = true ↔ ∀ w ∈ ws, isWord w ss = true := List.all_eq_true
theorem isRound_iff {B : List Str} : isRound B = true ↔ ∃ r, B = ("ask" : Str) :: r ∧ B.length ≤ 12 ∧ (B.filter isAdd).length ≤ 1 ∧ ∀ w ∈ r, isWord w rsteps = true := by
  unfold isRound
  simp only [Bool.and_eq_true, decide_eq_true_eq, areWords_iff]
  constructor
  · rintro ⟨h1, h2, h3, h4⟩
    cases B with
    | nil => cases h1
    | cons x r =>
      have : x = "ask" := Option.some.inj h1
      subst this
      exact ⟨r, rfl, h2, h3, h4⟩
  · rintro ⟨r, rfl, h2, h3, h4⟩
    exact ⟨rfl, h2, h3, h4⟩
theorem isEnding_iff {E : List Str} : isEnding E = true ↔ E.length ≤ 6 ∧ ∀ w ∈ E, isWord w esteps = true := by
  unfold isEnding
  simp only [Bool.and_eq_true, decide_eq_true_eq, areWords_iff]
theorem round_fs {B : List Str} (h : isRound B = true) : ∀ w ∈ B, FS w := by
  obtain ⟨r, rfl, _, _, h4⟩ := isRound_iff.mp h
  intro w hw
  rcases List.mem_cons.mp hw with rfl | hw
  · exact ask_fs
  · exact wd_fs (word_wd (h4 w hw))
theorem ending_fs {E : List Str} (h : isEnding E = true) : ∀ w ∈ E, FS w := fun w hw => wd_fs ((word_wd ((isEnding_iff.mp h).2 w hw)).mono e_r)
theorem round_ne {B : List Str} (h : isRound B = true) : B ≠ [] := by
  obtain ⟨r, rfl, _⟩ := isRound_iff.mp h
  simp
theorem round_sht {B : List Str} (h : isRound B = true) : Sht 12 B := ⟨fun w hw => (round_fs h w hw).2, let ⟨_, _, h2, _⟩ := isRound_iff.mp h; h2⟩
theorem ending_sht {E : List Str} (h : isEnding E = true) : Sht 6 E := ⟨fun w hw => (ending_fs h w hw).2, (isEnding_iff.mp h).1⟩
theorem Sht.mono {n m : Nat} {B : List Str} (h : Sht n B) (l : n ≤ m) : Sht m B := ⟨h.1, Nat.le_trans h.2 l⟩
theorem text_words {B E : List Str} (hB : isRound B = true) (hE : isEnding E = true) : wordsR (textOf B E) = B ∧ wordsE (textOf B E) = E := words_text (round_ne hB) (fun w hw => (round_fs hB w hw).1) (fun w hw => (ending_fs hE w hw).1)
theorem text_good {B E : List Str} (hB : isRound B = true) (hE : isEnding E = true) : goodText (textOf B E) = true := by
  have := text_words hB hE
  unfold goodText
  rw [this.1, this.2, hB, hE]
  rfl
theorem text_len {B E : List Str} (hB : isRound B = true) (hE : isEnding E = true) : (textOf B E).length ≤ 300 := by
  have h1 := (round_sht hB).join
  have h2 := (ending_sht hE).join
  unfold textOf
  split
  · omega
  · rw [strLen_append, strLen_append]
    have : (" | " : Str).length = 3 := by decide +kernel
    omega
/-- without the word at i -/
theorem round_erase {B : List Str} {i : Nat} (hB : isRound B = true) (hi : 1 ≤ i) : isRound (B.eraseIdx i) = true := by
  obtain ⟨r, rfl, h2, h3, h4⟩ := isRound_iff.mp hB
  obtain ⟨k, rfl⟩ : ∃ k, i = k + 1 := ⟨i - 1, by omega⟩
  have sub : (("ask" : Str) :: r.eraseIdx k).Sublist (("ask" : Str) :: r) := (List.eraseIdx_sublist r k).cons_cons _
  refine isRound_iff.mpr ⟨r.eraseIdx k, rfl, Nat.le_trans sub.length_le h2, Nat.le_trans (sub.filter isAdd).length_le h3, fun w hw => h4 w ((List.eraseIdx_sublist r k).subset hw)⟩
theorem ending_erase {E : List Str} {i : Nat} (hE : isEnding E = true) : isEnding (E.eraseIdx i) = true := by
  have h := isEnding_iff.mp hE
  exact isEnding_iff.mpr ⟨Nat.le_trans (List.eraseIdx_sublist E i).length_le h.1, fun w hw => h.2 w ((List.eraseIdx_sublist E i).subset hw)⟩
theorem good_iff {t : Str} : goodText t = true ↔ isRound (wordsR t) = true ∧ isEnding (wordsE t) = true := Bool.and_eq_true_iff
end LM

/-! instances of own classes: ==, != by an own __eq__; str, repr by own defs; bool -/
namespace Own
open PySem PySem.Spec PyProof.Rows L2
section
variable {M : Model} {prog : Program} {w : World} {A : Around} {E : Value → Shared → Prop} {s : Shared} {K : PySem.W.Frag} {x C f : Addr} {ox : Obj} {od : Option Obj} {b tb : Value}
theorem bound_ne {args : List Value} {Q : Option Value → Shared → Prop} (X : K.In s.heap) (I : PySem.W.InstAt s.heap x ox C od) (hn : PySem.W.findIn K (.ref C) "__ne__" = some (some (.builtin "object.__ne__")))
    (h : wpAny M A (call (.builtin "object.__ne__") (.ref x :: args)) (fun v => Q (some v)) E s) : wpAny M A (callSpecialIfBound? (.ref x) "__ne__" args) Q E s := by
  simp only [callSpecialIfBound?, bindSpecialIfBound?]
  refine wpAny_holding (wpAny_bind (wpAny_bind (wpAny_bind (I.type.here ((PySem.W.looks_findIn X hn).here (wpAny_bind (wpAny_askSetting (wpAny_ite ?_))))))))
  have last : wpAny M A (call (.builtin "object.__ne__") ([.ref x] ++ args) >>= fun v => pure (some v)) Q E s := wpAny_bind (wpAny_mono h (fun _ _ z => wpAny_pure z) fun _ _ z => z)
  split
  next => exact wpAny_bind (wpAny_of_eq (F.cmp_object.ne.bind _) (wpAny_pure (by exact last)))
  next => exact wpAny_tryCatch (wpAny_bind (wpAny_of_eq (F.cmp_object.ne.bind _) (wpAny_pure (by exact last))))
/-- object.__ne__ asks the own __eq__ and turns the answer round -/
theorem ne_body {Q : Fin → Shared → Prop} (hu : A.units < cLine) (X : K.In s.heap) (I : PySem.W.InstAt s.heap x ox C od) (hs : PySem.W.findIn K (.ref C) "__eq__" = some (some (.ref f))) (hf : PySem.W.isFn K (.ref f) = true)
    (h : wpAny (model prog w) A (call (.ref f) [.ref x, b]) (fun v s2 => ∃ z, v = .bool z ∧ Q (.done (.ret (.bool (!z)))) s2) E s) : wpAny (model prog w) A (Builtin.«object.__ne__» ⟨[.ref x, b], []⟩) Q E s := by
  unfold Builtin.«object.__ne__»
  refine wpAny_bind (wpAny_of_eq (a := ((Value.ref x : Value), [b])) (by first | rfl | (simp only [slotArgs]; rfl)) ?_)
  refine wpAny_bind (wpAny_cRoomFor hu ?_)
  refine wpAny_bind (m := callSpecialIfBound? (.ref x) (Str.ofString "__eq__") [b]) (PySem.W.ifBound_K X I hs hf (wpAny_mono h (fun r s2 hr => ?_) fun _ _ z => z))
  obtain ⟨z, rfl, hq⟩ := hr
  exact wpAny_bind (m := truthy (.bool z)) (wpAny_truthy_bool (wpAny_pure hq))
theorem ne_rich {Q : Value → Shared → Prop} (hu : A.units + 1 < cLine) (X : K.In s.heap) (I : PySem.W.InstAt s.heap x ox C od) (hm : PySem.W.mroIn K C (.type "object") = some true) (hn : PySem.W.findIn K (.ref C) "__ne__" = some (some (.builtin "object.__ne__")))
    (hs : PySem.W.findIn K (.ref C) "__eq__" = some (some (.ref f))) (hf : PySem.W.isFn K (.ref f) = true) (hb : PySem.W.Looks (model prog w) s.heap (typeOf b) tb) (nf : PySem.W.notFirst K C tb = true)
    (h : wpAny (model prog w) A.in1 (call (.ref f) [.ref x, b]) (fun v s2 => ∃ z, v = .bool z ∧ Q (.bool (!z)) s2) E s) : wpAny (model prog w) A (richCompare .NotEq (.ref x) b) Q E s := by
  have go : wpAny (model prog w) A (tryCompare (.ref x) "__ne__" b) (fun r s2 => ∃ v, r = some v ∧ Q v s2) E s := by
    unfold tryCompare
    refine wpAny_bind (bound_ne X I hn (wpAny_call (codeAny_call_builtin F.cmp_object.ne.plain F.cmpEntry_ne (PySem.W.check_slot F.cmpKind_ne F.cmpSplit_ne (I.type.andThen (PySem.W.looks_mroIn X hm)) (F.cmpArgs_ne _ _) ?_))))
    refine ne_body (by show A.units + 1 < cLine; exact hu) X I hs hf (wpAny_mono h (fun v s2 hv => ?_) fun _ _ z => z)
    obtain ⟨z, rfl, hq⟩ := hv
    exact ⟨z, rfl, wpAny_pure ⟨_, rfl, hq⟩⟩
  unfold richCompare
  simp only [oneThing_ref]
  refine wpAny_holding (wpAny_bind (wpAny_cRoomFor (by omega) (wpAny_bind (I.type.here (wpAny_bind (hb.here ?_))))))
  rw [cmpInfo_NotEq]
  dsimp only
  split
  next q =>
    have e : PySem.W.subIn K tb (.ref C) = some false := (Bool.or_eq_true_iff.mp nf).elim (fun z => by rw [beq_iff_eq.mp z] at q; simp at q) fun z => beq_iff_eq.mp z
    refine wpAny_bind ((PySem.W.looks_subIn X e).here ?_)
    simp only [Bool.false_eq_true, if_false]
    exact wpAny_bind (wpAny_mono go (fun r s2 ⟨v, e1, hq⟩ => by subst e1; exact wpAny_pure hq) fun _ _ z => z)
  next =>
    refine wpAny_bind (wpAny_pure ?_)
    simp only [Bool.false_eq_true, if_false]
    exact wpAny_bind (wpAny_mono go (fun r s2 ⟨v, e1, hq⟩ => by subst e1; exact wpAny_pure hq) fun _ _ z => z)
end
/-- the class at C has its own __eq__ at g, and no more of the kind -/
structure EqC (K : PySem.W.Frag) (C g : Addr) : Prop where
  eq : PySem.W.findIn K (.ref C) "__eq__" = some (some (.ref g))
  ne : PySem.W.findIn K (.ref C) "__ne__" = some (some (.builtin "object.__ne__"))
  fn : PySem.W.isFn K (.ref g) = true
  ob : PySem.W.mroIn K C (.type "object") = some true
section
variable {X : Cx} {C g : Addr} {n : Nat} {sp : Sp}
theorem inst_of {pins : List (Addr × Obj)} {σ : L2.St} {H : Hp} {s : Shared} {a dx : Addr} {fs : List (Str × V)} (I : Inv X pins σ H s) (e : H a = some (.ins C dx fs)) : ∃ (ox : Obj) (od : Option Obj), PySem.W.InstAt s.heap a ox C od := by
  obtain ⟨mA, O, _⟩ := ins_get I.hok e
  obtain ⟨od, J, _⟩ := O.look
  exact ⟨_, _, J⟩
/-- x == y: x an instance of C, y of a class that is not below C -/
def rEqO (K : PySem.W.Frag) (C : Addr) (sp : Sp) : R2 := fun x y H Q => ∃ (a dx : Addr) (fs : List (Str × V)) (t : Value), x = .ref a ∧ H a = some (.ins C dx fs) ∧ TyX K H y t ∧ PySem.W.notFirst K C t = true ∧ sp [x, y] H Q fun _ _ _ => False
def rNeO (K : PySem.W.Frag) (C : Addr) (sp : Sp) : R2 := fun x y H Q => ∃ (a dx : Addr) (fs : List (Str × V)) (t : Value), x = .ref a ∧ H a = some (.ins C dx fs) ∧ TyX K H y t ∧ PySem.W.notFirst K C t = true ∧ sp [x, y] H (fun v H2 => ∃ b, v = .bl b ∧ Q (.bl (!b)) H2) fun _ _ _ => False
theorem op_eqO (c : EqC X.K C g) (F : FnR X.prog X.w X.K X.mg X.base CX0 n g sp) (hr : Room n X.A) : OpR X (compareOp .Eq) (rEqO X.K C sp) := by
  intro pins s σ H x y v u Q I rx ry h
  obtain ⟨a, dx, fs, t, rfl, ha, ty, nf, q⟩ := h
  cases (show v = Value.ref a from rx)
  obtain ⟨ox, od, J⟩ := inst_of I ha
  obtain ⟨m, fr⟩ := I.fr
  obtain ⟨PP, Z, pz, _⟩ := kit_of I ry ty
  show wpAny (model X.prog X.w) X.A (richCompare .Eq (.ref a) u) _ _ s
  refine PySem.W.cmp_K (op := .Eq) hr.units0 fr I.ok.mod.kin J (Z.ty _ _ I.kIn pz) nf c.eq c.fn ?_
  refine wpAny_mono (wpAny_call (run_fnR (us := [.ref a, u]) (vs := [.ref a, y]) F hr pass0 I (.cons rfl (.cons ry .nil)) q)) (fun z s2 hz => ?_) fun _ _ e => e
  obtain ⟨z2, H2, I2, rz, qz⟩ := hz
  exact SlX.cmpback rz ⟨z2, H2, I2, rz, qz⟩
theorem op_neO (c : EqC X.K C g) (F : FnR X.prog X.w X.K X.mg X.base CX0 n g sp) (hr : Room (n + 1) X.A) : OpR X (compareOp .NotEq) (rNeO X.K C sp) := by
  intro pins s σ H x y v u Q I rx ry h
  obtain ⟨a, dx, fs, t, rfl, ha, ty, nf, q⟩ := h
  cases (show v = Value.ref a from rx)
  obtain ⟨ox, od, J⟩ := inst_of I ha
  obtain ⟨PP, Z, pz, _⟩ := kit_of I ry ty
  show wpAny (model X.prog X.w) X.A (richCompare .NotEq (.ref a) u) _ _ s
  refine ne_rich (by have := hr.un; omega) I.kIn J c.ob c.ne c.eq c.fn (Z.ty _ _ I.kIn pz) nf ?_
  refine wpAny_mono (wpAny_call (SlX.run_at (us := [.ref a, u]) (ws := [.ref a, y]) F hr.in1 I.env0.in1 pass0 I (.cons rfl (.cons ry .nil)) q)) (fun z s2 hz => ?_) fun _ _ e => e
  obtain ⟨z2, H2, I2, rz, bb, rfl, qz⟩ := hz
  cases (show z = Value.bool bb from rz)
  exact ⟨bb, rfl, .bl (!bb), H2, I2, rfl, qz⟩
/-- str(x), repr(x): the own def's text -/
def rTxtO (C : Addr) (sp : Sp) : List V → Hp → VK → Prop := fun xs H Q => ∃ (a dx : Addr) (fs : List (Str × V)), xs = [.ref a] ∧ H a = some (.ins C dx fs) ∧ sp [.ref a] H (fun v H2 => ∃ z, v = .str z ∧ Q (.str z) H2) fun _ _ _ => False
theorem call_strO (hs : PySem.W.findIn X.K (.ref C) "__str__" = some (some (.ref g))) (hf : PySem.W.isFn X.K (.ref g) = true) (F : FnR X.prog X.w X.K X.mg X.base CX0 n g sp) (hr : Room (n + 2) X.A) : CallR X (.type "str") (rTxtO C sp) := by
  intro pins s σ H xs us Q I r h
  obtain ⟨a, dx, fs, rfl, ha, q⟩ := h
  obtain ⟨u, rfl, ru⟩ := vals1 r
  cases (show u = Value.ref a from ru)
  obtain ⟨ox, od, J⟩ := inst_of I ha
  have hr1 : Room (n + 1) X.A.in1 := hr.in1
  refine PySem.W.kso_call (by have := hr.un; show X.A.units + 1 + 1 < cLine; omega) I.kIn J hs hf ?_
  refine wpAny_mono (wpAny_call (SlX.run_at (us := [.ref a]) (ws := [.ref a]) F hr1.in1 I.env0.in1.in1 pass0 I (.cons rfl .nil) q)) (fun z s2 hz => ?_) fun _ _ e => e
  obtain ⟨z2, H2, I2, rz, t, rfl, qz⟩ := hz
  obtain ⟨tk, rfl⟩ := (show ∃ tk, z = Value.str t tk from rz)
  exact ⟨.str t, H2, I2, ⟨_, rfl⟩, qz⟩
theorem call_reprO (hs : PySem.W.findIn X.K (.ref C) "__repr__" = some (some (.ref g))) (hf : PySem.W.isFn X.K (.ref g) = true) (F : FnR X.prog X.w X.K X.mg X.base CX0 n g sp) (hr : Room (n + 1) X.A) : CallR X (.builtin "repr") (rTxtO C sp) := by
  intro pins s σ H xs us Q I r h
  obtain ⟨a, dx, fs, rfl, ha, q⟩ := h
  obtain ⟨u, rfl, ru⟩ := vals1 r
  cases (show u = Value.ref a from ru)
  obtain ⟨ox, od, J⟩ := inst_of I ha
  obtain ⟨m, fr⟩ := I.fr
  refine PySem.W.repr_K (by have := hr.un; show X.A.units + 1 < cLine; omega) fr I.ok.mod.kin J hs hf ?_
  refine wpAny_mono (wpAny_call (SlX.run_at (us := [.ref a]) (ws := [.ref a]) F hr.in1 I.env0.in1 pass0 I (.cons rfl .nil) q)) (fun z s2 hz => ?_) fun _ _ e => e
  obtain ⟨z2, H2, I2, rz, t, rfl, qz⟩ := hz
  obtain ⟨tk, rfl⟩ := (show ∃ tk, z = Value.str t tk from rz)
  exact ⟨.str t, H2, I2, ⟨_, rfl⟩, qz⟩
/-- bool(x): no __bool__, no __len__ -/
def rBoolO (C : Addr) : List V → Hp → VK → Prop := fun xs H Q => ∃ (a dx : Addr) (fs : List (Str × V)), xs = [.ref a] ∧ H a = some (.ins C dx fs) ∧ Q (.bl true) H
theorem call_boolO (hb : PySem.W.findIn X.K (.ref C) "__bool__" = some none) (hl : PySem.W.findIn X.K (.ref C) "__len__" = some none) : CallR X (.type "bool") (rBoolO C) := by
  intro pins s σ H xs us Q I r h
  obtain ⟨a, dx, fs, rfl, ha, q⟩ := h
  obtain ⟨u, rfl, ru⟩ := vals1 r
  cases (show u = Value.ref a from ru)
  obtain ⟨ox, od, J⟩ := inst_of I ha
  obtain ⟨m, fr⟩ := I.fr
  have mt : Meets (Builtin.«bool.__new__» ⟨[.type "bool", .ref a], []⟩) (fun _ R st => (∃ m, Fr X.base X.env.locals st.heap m) ∧ PySem.W.InstAt st.heap a ox C od ∧ R (.ok (.ret (.bool true))) st) :=
    Meets.of_wp fun pr wo Ar R st hh => by
      obtain ⟨⟨m2, fr2⟩, J2, hR⟩ := hh
      obtain ⟨hp, gg, dd, tk, os⟩ := st
      have f1 := PySem.F.conv_sub_bool
      repeat (any_goals (first | assumption | (with_reducible refine PySem.W.truthy_K0 fr2 I.ok.mod.kin J2 hb hl ?_) | wp_step))
      all_goals first | exact ⟨_, rfl, hR⟩ | exact hR | skip
  exact call_bool_1 mt ⟨⟨m, fr⟩, J, rfl, .bl true, H, I, rfl, q⟩
end
end Own

/-! the class Loop: its other methods -/
namespace My
open PySem L2 Cm LM
abbrev sEP : Stmt := inClass (top 8) 0
abbrev sIIB : Stmt := top 12
abbrev sTO : Stmt := top 21
abbrev sLL : Stmt := inClass (top 28) 1
abbrev sLE : Stmt := inClass (top 28) 2
abbrev sLS : Stmt := inClass (top 28) 3
abbrev sLR : Stmt := inClass (top 28) 4
abbrev sLW : Stmt := inClass (top 28) 5
structure TxP (K : PySem.W.Frag) (mg : Str → Option Value) where
  C : Addr
  f : Addr
  fd : FuncData
  g : mg "InvalidPlace" = some (.ref C)
  o : OexC K C
  i : PySem.W.findIn K (.ref C) "__init__" = some (some (.ref f))
  t : PySem.W.typeIn K (.ref f) = some (.type "function")
  n : PySem.W.findIn K (.ref C) "value" = some none
  F : Fun K "__init__" "InvalidPlace.__init__" sEP f fd
  b : Binds K fd ["self", "value"] []
structure TxM (K : PySem.W.Frag) (mg : Str → Option Value) where
  T : TxC K mg
  ip : TxP K mg
  int : mg "int" = none
  bool : mg "bool" = none
  iib : Df K mg "is_integer_between" sIIB ["value", "low", "high"]
  to : Df K mg "text_of" sTO ["first_words", "last_words"]
  ll : Sm K T.C "__len__" "Loop.__len__" sLL ["self"]
  le : Sm K T.C "__eq__" "Loop.__eq__" sLE ["self", "other"]
  ls : Sm K T.C "__str__" "Loop.__str__" sLS ["self"]
  lr : Sm K T.C "__repr__" "Loop.__repr__" sLR ["self"]
  lw : Mt K T.C "without" "Loop.without" sLW ["self", "place"]
  nb : PySem.W.findIn K (.ref T.C) "__bool__" = some none
  ne : PySem.W.findIn K (.ref T.C) "__ne__" = some (some (.builtin "object.__ne__"))
  c1 : PySem.W.findIn K (.ref T.C) "__class__" = some (some (.builtin "object.__class__"))
  c2 : PySem.W.specialIn K (.builtin "object.__class__") "__get__" = some (some (.builtin "getset_descriptor.__get__"))
  c3 : PySem.W.takesIn K (.builtin "object.__class__") = some true
  c4 : PySem.W.mroIn K T.C (.type "object") = some true
  k1 : PySem.W.kitOne K (.ref T.C) (.ref T.C) = some true
section
variable {P : Program} {w : World} {K : PySem.W.Frag} {mg : Str → Option Value} {base : Heap}
theorem scEP : FnScope ["self", "value"] ["self", "value"] (defScope sEP) := ⟨rfl, rfl, rfl, by decide +kernel, rfl, by decide +kernel, by decide +kernel⟩
theorem ok_ep (T : TxP K mg) : FnOk P w K mg base CX0 1 T.f T.fd ["self", "value"] (spEI T.C) := by
  refine T.F.ok scEP (fun vs H Q E h => ?_) (fun cdv A outer s H vs Q E hr h => ?_)
  · obtain ⟨a, v, rfl, _⟩ := h
    rfl
  · obtain ⟨a, v, rfl, ha, k⟩ := h
    refine ⟨_, pss_one (ps_ost (pv 0) (pv 1)), ?_⟩
    exact ⟨_, rfl, _, rfl, a, T.C, rfl, T.o, T.n, .inl ⟨ha, fun dx n ne => k dx n ne⟩⟩
/-! ### is_integer_between -/
def isI : V → Bool
  | .int _ => true
  | _ => false
def isB : V → Bool
  | .bl _ => true
  | _ => false
/-- an integer within these bounds -/
def btw (lo hi : Int) : V → Bool
  | .int i => decide (lo ≤ i ∧ i ≤ hi)
  | _ => false
def TypedI (K : PySem.W.Frag) (H : Hp) (x : V) : Prop := ∃ t, TyX K H x t ∧ PySem.W.kitOne K t (.type "int") = some (isI x || isB x) ∧ PySem.W.kitOne K t (.type "bool") = some (isB x)
theorem typed_int {H : Hp} (i : Int) : TypedI K H (.int i) := ⟨_, .base (.int i), kit_ty (show kitB "int" "int" = some true by decide +kernel), kit_ty (show kitB "int" "bool" = some false by decide +kernel)⟩
def spIIB (K : PySem.W.Frag) : Sp := fun vs H Q _ => ∃ (v : V) (lo hi : Int), vs = [v, .int lo, .int hi] ∧ TypedI K H v ∧ Q (.bl (btw lo hi v)) H
theorem scIIB : FnScope ["value", "low", "high"] ["value", "low", "high"] (defScope sIIB) := ⟨rfl, rfl, rfl, by decide +kernel, rfl, by decide +kernel, by decide +kernel⟩
theorem ok_iib (M : TxM K mg) : FnOk P w K mg base CX0 1 M.iib.f M.iib.fd ["value", "low", "high"] (spIIB K) := by
  refine M.iib.F.ok scIIB (fun vs H Q E h => ?_) (fun cdv A outer s H vs Q E hr h => ?_)
  · obtain ⟨v, lo, hi, rfl, _⟩ := h
    rfl
  · obtain ⟨v, lo, hi, rfl, ⟨t, ty, k1, k2⟩, k⟩ := h
    refine ⟨_, pss_one (ps_ret (pe_and (pe_callB call_isi (by rfl) M.T.isi (by decide +kernel) (pa_cons (pv 0) (pa_cons (pe_bltn (v := .ty "int") (by rfl) M.int (by decide +kernel) rfl) pa_nil)))
      (pe_and (pe_not (pe_callB call_isi (by rfl) M.T.isi (by decide +kernel) (pa_cons (pv 0) (pa_cons (pe_bltn (v := .ty "bool") (by rfl) M.bool (by decide +kernel) rfl) pa_nil))))
        (pe_one (pe_chain op_le op_le (pv 1) (pv 0) (pv 2)))))), ?_⟩
    refine ⟨_, rfl, _, _, _, _, _, rfl, .ty "int", ty, k1, _, rfl, ?_⟩
    cases hv : (isI v || isB v) with
    | false =>
      refine iteF ?_
      have e : btw lo hi v = false := by
        cases v <;> first | rfl | cases hv
      rw [e] at k
      exact k
    | true =>
      refine iteT ?_
      refine ⟨_, rfl, _, _, _, _, _, rfl, .ty "bool", ty, k2, _, rfl, _, rfl, ?_⟩
      cases hb : isB v with
      | true =>
        have e : btw lo hi v = false := by
          cases v <;> first | rfl | cases hb
        rw [e] at k
        exact iteF k
      | false =>
        refine iteT ?_
        rw [hb, Bool.or_false] at hv
        obtain ⟨i, rfl⟩ : ∃ i, v = .int i := by
          cases v <;> first | exact ⟨_, rfl⟩ | cases hv
        refine ⟨_, rfl, _, rfl, _, _, rfl, rfl, _, rfl, ?_⟩
        have k : Q (.bl (decide (lo ≤ i ∧ i ≤ hi))) H := k
        refine ite2 (fun c => ?_) (fun c => ?_)
        · refine ⟨_, rfl, _, _, rfl, rfl, ?_⟩
          have c1 : lo ≤ i := of_decide_eq_true c
          have e : decide (lo ≤ i ∧ i ≤ hi) = decide (i ≤ hi) := decide_eq_decide.mpr ⟨fun z => z.2, fun z => ⟨c1, z⟩⟩
          rw [e] at k
          exact k
        · have c1 : ¬ lo ≤ i := fun z => c (decide_eq_true z)
          rw [show decide (lo ≤ i ∧ i ≤ hi) = false from decide_eq_false fun z => c1 z.1] at k
          exact k
/-! ### text_of -/
def spTO (K : PySem.W.Frag) : Sp := fun vs H Q _ => ∃ (a b : Addr) (B E : List Str), vs = [.ref a, .ref b] ∧ SqT K H a (svs B) ∧ SqT K H b (svs E) ∧ Sht 100 B ∧ Sht 100 E ∧ Q (.str (textOf B E)) H
theorem scTO : FnScope ["first_words", "last_words", "text"] ["first_words", "last_words"] (defScope sTO) := ⟨rfl, rfl, rfl, by decide +kernel, rfl, by decide +kernel, by decide +kernel⟩
theorem sp1 : (" " : Str).length = 1 := by decide +kernel
theorem bar3 : (" | " : Str).length = 3 := by decide +kernel
theorem ok_to (M : TxM K mg) : FnOk P w K mg base CX0 1 M.to.f M.to.fd ["first_words", "last_words"] (spTO K) := by
  obtain ⟨tb, hb⟩ := M.T.L.bar
  refine M.to.F.ok scTO (fun vs H Q E h => ?_) (fun cdv A outer s H vs Q E hr h => ?_)
  · obtain ⟨a, b, B, E, rfl, _⟩ := h
    rfl
  · obtain ⟨a, b, B, E, rfl, ha, hb', sB, sE, k⟩ := h
    refine ⟨_, pss_cons (ps_set (i := 2) scTO.nd rfl (.inl rfl) (pe_join pe_str (pv 0)))
      (pss_one (ps_ret (pe_ifExp (pt_truth (pv 1) (by intro _; rfl)) (pe_op op_add_str (pe_op op_add_str (pv 2) (pe_glob (v := .str " | ") rfl hb ⟨_, rfl⟩)) (pe_join pe_str (pv 1))) (pv 2)))), ?_⟩
    refine ⟨⟨_, rfl⟩, _, rfl, " ", a, B, rfl, rfl, .inr ha, ?_, ?_⟩
    · rw [sp1]
      have := sB.sum
      omega
    refine ⟨_, rfl, _, .inr (.inl ⟨_, hb', rfl⟩), ?_⟩
    unfold textOf at k
    cases E with
    | nil =>
      refine iteF ⟨_, rfl, ?_⟩
      exact k
    | cons e0 er =>
      rw [if_neg (by simp)] at k
      have l1 := sB.join
      have l2 := sE.join
      refine iteT ⟨_, rfl, _, _, rfl, rfl, Nat.le_of_lt (szM (n := (Txt.join " " B).length + (" | " : Str).length) (by rw [bar3]; omega)), ?_⟩
      refine ⟨⟨_, rfl⟩, _, rfl, " ", b, e0 :: er, rfl, rfl, .inr hb', ?_, _, _, rfl, rfl, ?_, k⟩
      · rw [sp1]
        have := sE.sum
        omega
      · refine Nat.le_of_lt (szM ?_)
        rw [strLen_append, bar3]
        omega
/-! ### len, ==, str, repr -/
theorem LoopAt.ty (M : TxM K mg) {H : Hp} {o : Addr} {t : Str} (h : LoopAt M.T.C H o t) : TyX K H (.ref o) (.ref M.T.C) := by
  obtain ⟨dx, pr, pe, po, pq, e, _⟩ := h
  exact .base (.ins e M.T.cl M.c1 M.c2 M.c3 M.c4)
/-- how many words -/
def nw (t : Str) : Nat := (wordsR t).length + (wordsE t).length
theorem good_nw {t : Str} (h : goodText t = true) : (wordsR t).length ≤ 12 ∧ (wordsE t).length ≤ 6 ∧ 1 ≤ (wordsR t).length := by
  have g := good_iff.mp h
  exact ⟨(round_sht g.1).2, (ending_sht g.2).2, List.length_pos_iff.mpr (round_ne g.1)⟩
theorem svs_len (ws : List Str) : (svs ws).length = ws.length := List.length_map ..
theorem svs_nil {ws : List Str} : svs ws = [] ↔ ws = [] := List.map_eq_nil_iff
def spLL (C : Addr) : Sp := fun vs H Q _ => ∃ (o : Addr) (t : Str), vs = [.ref o] ∧ LoopAt C H o t ∧ goodText t = true ∧ ∀ H', Same H H' → Q (.int (nw t)) H'
theorem scLL : FnScope ["self"] ["self"] (defScope sLL) := ⟨rfl, rfl, rfl, by decide +kernel, rfl, by decide +kernel, by decide +kernel⟩
theorem ok_ll (M : TxM K mg) : FnOk P w K mg base CX0 1 M.ll.f M.ll.fd ["self"] (spLL M.T.C) := by
  refine M.ll.F.ok scLL (fun vs H Q E h => ?_) (fun cdv A outer s H vs Q E hr h => ?_)
  · obtain ⟨o, t, rfl, _⟩ := h
    rfl
  · obtain ⟨o, t, rfl, ⟨dx, pr, pe, po, pq, e, h1, h2, _⟩, g, k⟩ := h
    refine ⟨_, pss_one (ps_ret (pe_callB call_len_seq (by rfl) M.T.L.len PySem.boot_len (pa_cons (pe_op op_catA (pe_fld (pv 0) rfl) (pe_fld (pv 0) rfl)) pa_nil))), ?_⟩
    have n := good_nw g
    refine ⟨_, rfl, o, M.T.C, dx, _, _, rfl, e, M.T.cl, M.T.nR, lf_round .., _, rfl, o, M.T.C, dx, _, _, rfl, e, M.T.cl, M.T.nE, lf_ending .., pr, pe, _, _, rfl, rfl, SqT.of h1, SqT.of h2, szl (by rw [svs_len, svs_len]; omega), fun z => ?_, fun _ z => ?_, fun _ _ p np => ?_⟩
    · exact absurd (svs_nil.mp z) (wordsR_ne t)
    · refine ⟨pr, _, rfl, .inr (SqT.of h1), ?_⟩
      have : nw t = (svs (wordsR t)).length := by unfold nw; rw [svs_nil.mp z, svs_len]; rfl
      rw [← this]
      exact k H (Same.refl _)
    · refine ⟨p, _, rfl, .inr (SqT.of upd_same), ?_⟩
      have : nw t = (svs (wordsR t) ++ svs (wordsE t)).length := by unfold nw; rw [List.length_append, svs_len, svs_len]
      rw [← this]
      exact k _ (same_new np)
def spLE (K : PySem.W.Frag) (C : Addr) : Sp := fun vs H Q _ => ∃ (o : Addr) (t : Str) (y : V), vs = [.ref o, y] ∧ LoopAt C H o t ∧
  ((∃ (o2 : Addr) (t2 : Str), y = .ref o2 ∧ LoopAt C H o2 t2 ∧ Q (.bl (decide (t = t2))) H) ∨ ∃ ty, TyX K H y ty ∧ PySem.W.kitOne K ty (.ref C) = some false ∧ Q (.bl false) H)
theorem scLE : FnScope ["self", "other"] ["self", "other"] (defScope sLE) := ⟨rfl, rfl, rfl, by decide +kernel, rfl, by decide +kernel, by decide +kernel⟩
theorem ok_le (M : TxM K mg) : FnOk P w K mg base CX0 1 M.le.f M.le.fd ["self", "other"] (spLE K M.T.C) := by
  refine M.le.F.ok scLE (fun vs H Q E h => ?_) (fun cdv A outer s H vs Q E hr h => ?_)
  · obtain ⟨o, t, y, rfl, _⟩ := h
    rfl
  · obtain ⟨o, t, y, rfl, hO, k⟩ := h
    refine ⟨_, pss_one (ps_ret (pe_and (pe_callB call_isi (by rfl) M.T.isi (by decide +kernel) (pa_cons (pv 1) (pa_cons (pe_glob (v := .ref M.T.C) rfl M.T.gC rfl) pa_nil)))
      (pe_one (pe_cmpR op_eq (pe_fld (pv 0) rfl) (pe_fld (pv 1) rfl) (nomark _))))), ?_⟩
    rcases k with ⟨o2, t2, rfl, hO2, k⟩ | ⟨ty, hty, kt, k⟩
    · have ty2 := hO2.ty M
      obtain ⟨dx, pr, pe, po, pq, e1, _⟩ := hO
      obtain ⟨dx2, pr2, pe2, po2, pq2, e2, _⟩ := hO2
      refine ⟨_, rfl, _, _, _, _, true, rfl, .own M.T.C, ty2, M.k1, true, rfl, iteT ?_⟩
      refine ⟨_, rfl, o, M.T.C, dx, _, _, rfl, e1, M.T.cl, M.T.nT, lf_text .., _, rfl, o2, M.T.C, dx2, _, _, rfl, e2, M.T.cl, M.T.nT, lf_text .., rfl, ?_⟩
      rw [dS]
      exact k
    · exact ⟨_, rfl, _, _, _, _, false, rfl, .own M.T.C, hty, kt, false, rfl, iteF k⟩
def spLS (C : Addr) : Sp := fun vs H Q _ => ∃ (o : Addr) (t : Str), vs = [.ref o] ∧ LoopAt C H o t ∧ Q (.str t) H
theorem scLS : FnScope ["self"] ["self"] (defScope sLS) := ⟨rfl, rfl, rfl, by decide +kernel, rfl, by decide +kernel, by decide +kernel⟩
theorem ok_ls (M : TxM K mg) : FnOk P w K mg base CX0 1 M.ls.f M.ls.fd ["self"] (spLS M.T.C) := by
  refine M.ls.F.ok scLS (fun vs H Q E h => ?_) (fun cdv A outer s H vs Q E hr h => ?_)
  · obtain ⟨o, t, rfl, _⟩ := h
    rfl
  · obtain ⟨o, t, rfl, ⟨dx, pr, pe, po, pq, e, _⟩, k⟩ := h
    refine ⟨_, pss_one (ps_ret (pe_callTy SkE.call_str_str (by rfl) M.T.str (by decide +kernel) (pa_cons (pe_fld (pv 0) rfl) pa_nil))), ?_⟩
    exact ⟨_, rfl, o, M.T.C, dx, _, _, rfl, e, M.T.cl, M.T.nT, lf_text .., t, rfl, k⟩
def spLR (C : Addr) : Sp := fun vs H Q _ => ∃ (o : Addr) (t : Str), vs = [.ref o] ∧ LoopAt C H o t ∧ Bd t ∧ Q (.str (("Loop(" : Str) ++ t ++ ")")) H
theorem scLR : FnScope ["self"] ["self"] (defScope sLR) := ⟨rfl, rfl, rfl, by decide +kernel, rfl, by decide +kernel, by decide +kernel⟩
theorem empty_app (x : Str) : Str.empty ++ x = x := TL.ext_tl (by rw [TL.tl_append]; rfl)
theorem ok_lr (M : TxM K mg) : FnOk P w K mg base CX0 1 M.lr.f M.lr.fd ["self"] (spLR M.T.C) := by
  refine M.lr.F.ok scLR (fun vs H Q E h => ?_) (fun cdv A outer s H vs Q E hr h => ?_)
  · obtain ⟨o, t, rfl, _⟩ := h
    rfl
  · obtain ⟨o, t, rfl, ⟨dx, pr, pe, po, pq, e, _⟩, bd, k⟩ := h
    refine ⟨_, pss_one (ps_ret (pe_joined (.cons pe_str (.cons (pe_fmt (pe_fld (pv 0) rfl)) (.cons pe_str .nil))))), ?_⟩
    have l0 : (Str.empty).length = 0 := rfl
    have l2 : ("Loop(" : Str).length = 5 := by decide +kernel
    have l3 : (")" : Str).length = 1 := by decide +kernel
    unfold Bd at bd
    refine ⟨_, rfl, szl (by rw [strLen_append]; omega), ?_⟩
    refine ⟨_, rfl, o, M.T.C, dx, _, _, rfl, e, M.T.cl, M.T.nT, lf_text .., .inl ⟨t, rfl, Nat.le_of_lt (szM (by omega)), t, rfl, Nat.le_of_lt (szM (by rw [strLen_append, strLen_append]; omega)), ?_⟩⟩
    refine ⟨_, rfl, Nat.le_of_lt (szM (by rw [strLen_append, strLen_append, strLen_append]; omega)), ?_⟩
    rw [empty_app]
    exact k
end
end My

/-! Loop.without -/
namespace My
open PySem L2 Cm LM
/-- the text without the word at n -/
def outText (t : Str) (n : Nat) : Str := if n < (wordsR t).length then textOf ((wordsR t).eraseIdx n) (wordsE t) else textOf (wordsR t) ((wordsE t).eraseIdx (n - (wordsR t).length))
theorem cut_out (ws : List Str) (n : Nat) (h : n ≤ ws.length) : (svs ws).take n ++ (svs ws).drop (n + 1) = svs (ws.eraseIdx n) := by
  unfold svs
  rw [List.eraseIdx_eq_take_drop_succ, List.map_append, List.map_take, List.map_drop]
section
variable {P : Program} {w : World} {K : PySem.W.Frag} {mg : Str → Option Value} {base : Heap}
def spLW (K : PySem.W.Frag) (C CP : Addr) : Sp := fun vs H Q E => ∃ (o : Addr) (t : Str) (v : V), vs = [.ref o, v] ∧ LoopAt C H o t ∧ goodText t = true ∧ TypedI K H v ∧
  (∀ n : Nat, v = .int n → 1 ≤ n → n < nw t → ∀ (H' : Hp) (o' : Addr), Same H H' → LoopAt C H' o' (outText t n) → Q (.ref o') H') ∧
  (btw 1 ((nw t : Int) - 1) v = false → ∀ (H' : Hp) (d : Addr), Same H H' → H' d = none → E (.ref CP) (some d) (upd H' d (.xd [("value", v)])))
theorem scLW : FnScope ["self", "place", "many"] ["self", "place"] (defScope sLW) := ⟨rfl, rfl, rfl, by decide +kernel, rfl, by decide +kernel, by decide +kernel⟩
theorem out_good {t : Str} {n : Nat} (g : goodText t = true) (h1 : 1 ≤ n) : goodText (outText t n) = true ∧ Bd (outText t n) := by
  have gg := good_iff.mp g
  unfold outText Bd
  split
  · exact ⟨text_good (round_erase gg.1 h1) gg.2, Nat.le_trans (text_len (round_erase gg.1 h1) gg.2) (by decide)⟩
  · exact ⟨text_good gg.1 (ending_erase gg.2), Nat.le_trans (text_len gg.1 (ending_erase gg.2)) (by decide)⟩
theorem ok_lw (M : TxM K mg) : FnOk P w K mg base (L2.CX P w) 6 M.lw.f M.lw.fd ["self", "place"] (spLW K M.T.C M.ip.C) := by
  have GI : FnOk P w K mg base CX0 1 M.iib.f M.iib.fd ["value", "low", "high"] (spIIB K) := ok_iib M
  have GT : FnOk P w K mg base CX0 1 M.to.f M.to.fd ["first_words", "last_words"] (spTO K) := ok_to M
  have GP : FnOk P w K mg base CX0 1 M.ip.f M.ip.fd ["self", "value"] (spEI M.ip.C) := ok_ep M.ip
  have GM : FnOk P w K mg base (L2.CX P w) 4 M.T.fI M.T.fdI ["self", "text"] (spLI K M.T.C M.T.E.C) := ok_li M.T
  have GL : FnR P w K mg base CX0 1 M.ll.f (fun vs H Q E => spLL M.T.C (vs ++ []) H Q E) := (ok_ll M).raw M.ll.b .nil
  refine M.lw.F.okX scLW (fun vs H Q E h => ?_) (fun cdv A outer s H vs Q E hr h => ?_)
  · obtain ⟨o, t, v, rfl, _⟩ := h
    rfl
  · obtain ⟨o, t, v, rfl, hO, g, ty, kg, kb⟩ := h
    have hr1 : Room 1 _ := hr.mono (by decide)
    have hr2 : Room 2 _ := hr.mono (by decide)
    refine ⟨_, pss_cons (ps_if (pt_not (pt_val (pe_call GI hr1 rfl M.iib.g M.iib.k M.iib.b .nil pass0 (pa_cons (pv 1) (pa_cons pe_int (pa_cons (pe_op op_sub (pe_callB (call_lenO M.ll.i M.ll.fn GL hr2) (by rfl) M.T.L.len PySem.boot_len (pa_cons (pv 0) pa_nil)) pe_int) pa_nil))))))
          (pss_one (ps_raise rfl (takes_of rfl rfl rfl rfl) (pmk_oex M.ip.o M.ip.i M.ip.t GP hr2 M.ip.b .nil pass0 rfl M.ip.g (pa_cons (pv 1) pa_nil)))) pss_nil)
      (pss_cons (ps_set (i := 2) scLW.nd rfl (.inl rfl) (pe_callB call_len_seq (by rfl) M.T.L.len PySem.boot_len (pa_cons (pe_fld (pv 0) rfl) pa_nil)))
      (pss_cons (ps_if (pt_cmpR op_lt (pv 1) (pv 2) (nomark _)) (pss_one (ps_ret (pe_make (E := E) M.T.MI GM hr rfl M.T.gC M.T.bI .nil (passes_call (takes_of rfl rfl rfl rfl) fun _ _ _ _ z => z) (pa_cons (pe_call GT hr1 rfl M.to.g M.to.k M.to.b .nil pass0
          (pa_cons (pe_op op_catS (pe_slice sl_tupS (pe_fld (pv 0) rfl) po_none (po_some (pv 1))) (pe_slice sl_tupS (pe_fld (pv 0) rfl) (po_some (pe_op op_add (pv 1) pe_int)) po_none)) (pa_cons (pe_fld (pv 0) rfl) pa_nil))) pa_nil)))) pss_nil)
      (pss_cons (ps_aug (i := 1) scLW.nd rfl (.inl rfl) (pv 2) ip_sub)
      (pss_one (ps_ret (pe_make (E := E) M.T.MI GM hr rfl M.T.gC M.T.bI .nil (passes_call (takes_of rfl rfl rfl rfl) fun _ _ _ _ z => z) (pa_cons (pe_call GT hr1 rfl M.to.g M.to.k M.to.b .nil pass0
          (pa_cons (pe_fld (pv 0) rfl) (pa_cons (pe_op op_catS (pe_slice sl_tupS (pe_fld (pv 0) rfl) po_none (po_some (pv 1))) (pe_slice sl_tupS (pe_fld (pv 0) rfl) (po_some (pe_op op_add (pv 1) pe_int)) po_none)) pa_nil))) pa_nil))))))), ?_⟩
    have n := good_nw g
    have gg := good_iff.mp g
    obtain ⟨dx, pr, pe, po, pq, e, h1, h2, h3⟩ := id hO
    refine ⟨_, rfl, _, rfl, o, dx, _, rfl, e, o, t, rfl, hO, g, fun H1 s1 => ⟨nw t, rfl, by unfold nw; omega, ?_⟩⟩
    have ty1 : TypedI K H1 v := by
      obtain ⟨tt, a, b⟩ := ty
      exact ⟨tt, TyX_same s1 a, b⟩
    refine ⟨_, _, rfl, rfl, v, 1, _, rfl, ty1, _, rfl, ?_⟩
    cases hb : btw 1 ((nw t : Int) - 1) v with
    | false =>
      refine iteT ?_
      exact mk_err (x := v) ⟨v, rfl, rfl, rfl⟩ (fun {R R'} ⟨v, e1, q⟩ f => ⟨v, e1, f _ _ q⟩) (kb hb H1 · s1)
    | true =>
      refine iteF ?_
      obtain ⟨k, rfl, k1, k2⟩ : ∃ k : Nat, v = .int k ∧ 1 ≤ k ∧ k < nw t := by
        cases v with
        | int i =>
          have := of_decide_eq_true (show decide ((1 : Int) ≤ i ∧ i ≤ (nw t : Int) - 1) = true from hb)
          obtain ⟨k, rfl⟩ := Int.eq_ofNat_of_zero_le (show 0 ≤ i by omega)
          exact ⟨k, rfl, by omega, by omega⟩
        | _ => cases hb
      have kg := kg k rfl k1 k2
      clear kb hb
      have e1 := s1 _ _ e
      have h11 := s1 _ _ h1
      have h21 := s1 _ _ h2
      have og := out_good g k1
      refine ⟨_, rfl, o, M.T.C, dx, _, _, rfl, e1, M.T.cl, M.T.nR, lf_round .., pr, _, rfl, .inr (SqT.of h11), ?_⟩
      refine ⟨_, rfl, _, rfl, _, _, rfl, rfl, _, rfl, ?_⟩
      rw [svs_len]
      have mk : ∀ (H2 : Hp), Same H1 H2 → ∀ (x dx : Addr), H2 x = none → H2 dx = none → spLI K M.T.C M.T.E.C [.ref x, .str (outText t k)] (upd (upd H2 dx (.own x)) x (.ins M.T.C dx [])) (fun v H3 => v = .non ∧ Q (.ref x) H3) E := fun H2 s2 x dx nx ndx =>
        ⟨x, dx, _, rfl, upd_same, typed_str _, og.2, fun t' et _ H3 o3 l3 => ⟨rfl, by
          cases et
          exact kg H3 x (Same.trans s1 (Same.trans s2 (made_same nx ndx o3))) l3⟩, fun z => by
          have z : goodText (outText t k) = false := z
          rw [og.1] at z
          cases z⟩
      by_cases hk : k < (wordsR t).length
      · rw [decide_eq_true (show ((k : Int) < ((wordsR t).length : Int)) by omega)]
        refine iteT ?_
        have ot : outText t k = textOf ((wordsR t).eraseIdx k) (wordsE t) := by unfold outText; rw [if_pos hk]
        refine ⟨_, rfl, o, M.T.C, dx, _, _, rfl, e1, M.T.cl, M.T.nR, lf_round .., _, rfl, k, rfl, pr, _, rfl, SqT.of h11, fun H2 q2 s2 hq2 => ?_⟩
        rw [cut_to _ _ (by rw [svs_len]; omega)] at hq2
        refine ⟨_, rfl, o, M.T.C, dx, _, _, rfl, s2 _ _ e1, M.T.cl, M.T.nR, lf_round .., _, rfl, _, _, rfl, rfl, ((k + 1 : Nat) : Int), rfl, pr, _, rfl, SqT.of (s2 _ _ h11), fun H3 q3 s3 hq3 => ?_⟩
        rw [cut_from] at hq3
        refine ⟨q2, q3, _, _, rfl, rfl, Cm.Same.set s3 hq2, hq3, ?_, fun H4 q4 s4 hq4 => ?_⟩
        · rw [List.length_take, List.length_drop, svs_len]
          exact szl (by omega)
        rw [cut_out _ _ (by omega)] at hq4
        have s14 := Same.trans s2 (Same.trans s3 s4)
        refine ⟨_, rfl, o, M.T.C, dx, _, _, rfl, s14 _ _ e1, M.T.cl, M.T.nE, lf_ending .., q4, pe, _, _, rfl, hq4, SqT.of (s14 _ _ h21), (round_sht (round_erase gg.1 k1)).mono (by decide), (ending_sht gg.2).mono (by decide), ?_⟩
        intro x dx' nx ndx nex
        rw [← ot]
        exact mk H4 s14 x dx' nx ndx
      · rw [decide_eq_false (show ¬ ((k : Int) < ((wordsR t).length : Int)) by omega)]
        refine iteF ?_
        have ot : outText t k = textOf (wordsR t) ((wordsE t).eraseIdx (k - (wordsR t).length)) := by unfold outText; rw [if_neg hk]
        have sb : (k : Int) - ((wordsR t).length : Int) = ((k - (wordsR t).length : Nat) : Int) := by omega
        refine ⟨_, rfl, _, rfl, _, _, rfl, rfl, ?_⟩
        simp only [sb]
        generalize hm : k - (wordsR t).length = m at ot sb ⊢
        have hm2 : m < (wordsE t).length := by unfold nw at k2; omega
        refine ⟨_, rfl, o, M.T.C, dx, _, _, rfl, e1, M.T.cl, M.T.nR, lf_round .., ?_⟩
        refine ⟨_, rfl, o, M.T.C, dx, _, _, rfl, e1, M.T.cl, M.T.nE, lf_ending .., _, rfl, m, rfl, pe, _, rfl, SqT.of h21, fun H2 q2 s2 hq2 => ?_⟩
        rw [cut_to _ _ (by rw [svs_len]; omega)] at hq2
        refine ⟨_, rfl, o, M.T.C, dx, _, _, rfl, s2 _ _ e1, M.T.cl, M.T.nE, lf_ending .., _, rfl, _, _, rfl, rfl, ((m + 1 : Nat) : Int), rfl, pe, _, rfl, SqT.of (s2 _ _ h21), fun H3 q3 s3 hq3 => ?_⟩
        rw [cut_from] at hq3
        refine ⟨q2, q3, _, _, rfl, rfl, Cm.Same.set s3 hq2, hq3, ?_, fun H4 q4 s4 hq4 => ?_⟩
        · rw [List.length_take, List.length_drop, svs_len]
          exact szl (by omega)
        rw [cut_out _ _ (by omega)] at hq4
        have s14 := Same.trans s2 (Same.trans s3 s4)
        refine ⟨pr, q4, _, _, rfl, SqT.of (s14 _ _ h11), hq4, (round_sht gg.1).mono (by decide), (ending_sht (ending_erase gg.2)).mono (by decide), ?_⟩
        intro x dx' nx ndx nex
        rw [← ot]
        exact mk H4 s14 x dx' nx ndx
end
end My

/-! kinds of sources: check_word, Source.__init__, Source.__repr__ -/
namespace My
open PySem L2 Cm LM
abbrev sQW : Stmt := top 55
abbrev sUI : Stmt := inClass (top 57) 0
abbrev sUR : Stmt := inClass (top 57) 3
def sfU (A B E : Str) : List (Str × V) := [("amount", .str A), ("patience", .str B), ("end", .str E)]
/-- a kind of sources stands at o -/
def SrcU (C : Addr) (H : Hp) (o : Addr) (A B E : Str) : Prop := ∃ dx, H o = some (.ins C dx (sfU A B E))
theorem SrcU.same {C : Addr} {H H' : Hp} {o : Addr} {A B E : Str} (s : Same H H') (h : SrcU C H o A B E) : SrcU C H' o A B E := let ⟨dx, e⟩ := h; ⟨dx, s _ _ e⟩
structure TxU (K : PySem.W.Frag) (mg : Str → Option Value) where
  isi : mg "isinstance" = none
  str : mg "str" = none
  pA : Addr
  pP : Addr
  pE : Addr
  gA : mg "AMOUNTS" = some (.ref pA)
  gP : mg "PATIENCES" = some (.ref pP)
  gE : mg "ENDS" = some (.ref pE)
  lA : ∀ H, SqT K H pA [.str "exact", .str "short"]
  lP : ∀ H, SqT K H pP [.str "prompt", .str "waiting"]
  lE : ∀ H, SqT K H pE [.str "empty", .str "with", .str "behind"]
  ckw : Df K mg "check_word" sQW ["word", "words"]
  C : Addr
  gC : mg "Source" = some (.ref C)
  cl : Cls K C
  nA : NoAttr K C "amount"
  nP : NoAttr K C "patience"
  nE : NoAttr K C "end"
  fI : Addr
  fdI : FuncData
  FI : Fun K "__init__" "Source.__init__" sUI fI fdI
  bI : Binds K fdI ["self", "amount", "patience", "end"] []
  MI : Mk K C fI
  ur : Sm K C "__repr__" "Source.__repr__" sUR ["self"]
  y1 : PySem.W.findIn K (.ref C) "__class__" = some (some (.builtin "object.__class__"))
  y2 : PySem.W.specialIn K (.builtin "object.__class__") "__get__" = some (some (.builtin "getset_descriptor.__get__"))
  y3 : PySem.W.takesIn K (.builtin "object.__class__") = some true
  y4 : PySem.W.mroIn K C (.type "object") = some true
  y5 : PySem.W.kitOne K (.ref C) (.ref C) = some true
section
variable {P : Program} {w : World} {K : PySem.W.Frag} {mg : Str → Option Value} {base : Heap}
theorem SrcU.ty (M : TxU K mg) {H : Hp} {o : Addr} {A B E : Str} (h : SrcU M.C H o A B E) : TyX K H (.ref o) (.ref M.C) := by
  obtain ⟨dx, e⟩ := h
  exact .base (.ins e M.cl M.y1 M.y2 M.y3 M.y4)
/-! ### check_word, __init__ of the right words -/
def spCKW (K : PySem.W.Frag) : Sp := fun vs H Q _ => ∃ (x : Str) (p : Addr) (xs : List V), vs = [.str x, .ref p] ∧ SqT K H p xs ∧ xs.all flatV = true ∧ inV (.str x) xs = true ∧ Q .non H
theorem scQW : FnScope ["word", "words"] ["word", "words"] (defScope sQW) := ⟨rfl, rfl, rfl, by decide +kernel, rfl, by decide +kernel, by decide +kernel⟩
theorem ok_ckw (M : TxU K mg) : FnOk P w K mg base CX0 1 M.ckw.f M.ckw.fd ["word", "words"] (spCKW K) := by
  refine M.ckw.F.ok scQW (fun vs H Q E h => ?_) (fun cdv A outer s H vs Q E hr h => ?_)
  · obtain ⟨x, p, xs, rfl, _⟩ := h
    rfl
  · obtain ⟨x, p, xs, rfl, hp, hf, hi, k⟩ := h
    refine ⟨_, pss_one (ps_if (PW.pt (pw_or (pt_not (pt_val (pe_callB call_isi (by rfl) M.isi (by decide +kernel) (pa_cons (pv 0) (pa_cons (pe_bltn (v := .ty "str") (by rfl) M.str (by decide +kernel) rfl) pa_nil)))))
          (pw_or1 (pt_cmpR op_notIn_seq (pv 0) (pv 1) (by rfl))))) (pss_one ps_never) pss_nil), ?_⟩
    refine ⟨_, rfl, _, _, _, _, true, rfl, .ty "str", .base (.str x), kit_ty (by decide +kernel), true, rfl, iteF ?_⟩
    refine ⟨_, rfl, _, rfl, p, xs, rfl, .inr hp, rfl, hf, _, rfl, ?_⟩
    rw [hi]
    exact iteF k
def isAm (A : Str) : Prop := A = "exact" ∨ A = "short"
def isPa (B : Str) : Prop := B = "prompt" ∨ B = "waiting"
def isEn (E : Str) : Prop := E = "empty" ∨ E = "with" ∨ E = "behind"
def spUI (C : Addr) : Sp := fun vs H Q _ => ∃ (x dx : Addr) (A B E : Str), vs = [.ref x, .str A, .str B, .str E] ∧ isAm A ∧ isPa B ∧ isEn E ∧ H x = some (.ins C dx []) ∧
  ∀ H' : Hp, (∀ b o, b ≠ x → H b = some o → H' b = some o) → H' x = some (.ins C dx (sfU A B E)) → Q .non H'
theorem scUI : FnScope ["self", "amount", "patience", "end"] ["self", "amount", "patience", "end"] (defScope sUI) := ⟨rfl, rfl, rfl, by decide +kernel, rfl, by decide +kernel, by decide +kernel⟩
theorem ok_ui (M : TxU K mg) : FnOk P w K mg base CX0 2 M.fI M.fdI ["self", "amount", "patience", "end"] (spUI M.C) := by
  have G1 : FnOk P w K mg base CX0 1 M.ckw.f M.ckw.fd ["word", "words"] (spCKW K) := ok_ckw M
  refine M.FI.ok scUI (fun vs H Q E h => ?_) (fun cdv A outer s H vs Q E hr h => ?_)
  · obtain ⟨x, dx, A, B, E, rfl, _⟩ := h
    rfl
  · obtain ⟨x, dx, A, B, E, rfl, hA, hB, hE, hx, k⟩ := h
    refine ⟨_, pss_cons (ps_expr (pe_call G1 hr rfl M.ckw.g M.ckw.k M.ckw.b .nil pass0 (pa_cons (pv 1) (pa_cons (pe_glob (v := .ref M.pA) rfl M.gA rfl) pa_nil))))
      (pss_cons (ps_expr (pe_call G1 hr rfl M.ckw.g M.ckw.k M.ckw.b .nil pass0 (pa_cons (pv 2) (pa_cons (pe_glob (v := .ref M.pP) rfl M.gP rfl) pa_nil))))
      (pss_cons (ps_expr (pe_call G1 hr rfl M.ckw.g M.ckw.k M.ckw.b .nil pass0 (pa_cons (pv 3) (pa_cons (pe_glob (v := .ref M.pE) rfl M.gE rfl) pa_nil))))
      (pss_cons (ps_fld (pv 0) (pv 1) rfl) (pss_cons (ps_fld (pv 0) (pv 2) rfl) (pss_one (ps_fld (pv 0) (pv 3) rfl)))))), ?_⟩
    refine ⟨_, rfl, A, M.pA, _, rfl, M.lA _, rfl, ?_, ?_⟩
    · rcases hA with rfl | rfl <;> decide +kernel
    refine ⟨_, rfl, B, M.pP, _, rfl, M.lP _, rfl, ?_, ?_⟩
    · rcases hB with rfl | rfl <;> decide +kernel
    refine ⟨_, rfl, E, M.pE, _, rfl, M.lE _, rfl, ?_, ?_⟩
    · rcases hE with rfl | rfl | rfl <;> decide +kernel
    refine ⟨_, rfl, _, rfl, x, M.C, dx, _, rfl, hx, M.cl, M.nA, (by show 0 < 1000; decide), ?_⟩
    refine ⟨_, rfl, _, rfl, x, M.C, dx, _, rfl, upd_same, M.cl, M.nP, (by show 1 < 1000; decide), ?_⟩
    refine ⟨_, rfl, _, rfl, x, M.C, dx, _, rfl, upd_same, M.cl, M.nE, ?_, ?_⟩
    · exact Nat.lt_of_le_of_lt (putF_len _ _ _) (Nat.lt_of_le_of_lt (Nat.add_le_add_right (putF_len _ _ _) 1) (by decide))
    · refine k _ (fun b o nb e => ?_) upd_same
      rw [upd_ne nb, upd_ne nb, upd_ne nb]
      exact e
theorem uf_am (A B E : Str) : (sfU A B E).lookup ("amount" : Str) = some (.str A) := rfl
theorem uf_pa (A B E : Str) : (sfU A B E).lookup ("patience" : Str) = some (.str B) := rfl
theorem uf_en (A B E : Str) : (sfU A B E).lookup ("end" : Str) = some (.str E) := rfl
/-! ### __repr__ -/
def srS : Str := ("Source(" : Str) ++ "short" ++ " " ++ "prompt" ++ " " ++ "empty" ++ ")"
def spUR (C : Addr) : Sp := fun vs H Q _ => ∃ o : Addr, vs = [.ref o] ∧ SrcU C H o "short" "prompt" "empty" ∧ Q (.str srS) H
theorem scUR : FnScope ["self"] ["self"] (defScope sUR) := ⟨rfl, rfl, rfl, by decide +kernel, rfl, by decide +kernel, by decide +kernel⟩
theorem ok_ur (M : TxU K mg) : FnOk P w K mg base CX0 1 M.ur.f M.ur.fd ["self"] (spUR M.C) := by
  refine M.ur.F.ok scUR (fun vs H Q E h => ?_) (fun cdv A outer s H vs Q E hr h => ?_)
  · obtain ⟨o, rfl, _⟩ := h
    rfl
  · obtain ⟨o, rfl, ⟨dx, e⟩, k⟩ := h
    refine ⟨_, pss_one (ps_ret (pe_joined (.cons pe_str (.cons (pe_fmt (pe_fld (pv 0) rfl)) (.cons pe_str (.cons (pe_fmt (pe_fld (pv 0) rfl)) (.cons pe_str (.cons (pe_fmt (pe_fld (pv 0) rfl)) (.cons pe_str .nil))))))))), ?_⟩
    refine ⟨_, rfl, szl (by decide +kernel), ?_⟩
    refine ⟨_, rfl, o, M.C, dx, _, _, rfl, e, M.cl, M.nA, uf_am .., .inl ⟨"short", rfl, szl (by decide +kernel), _, rfl, szl (by decide +kernel), ?_⟩⟩
    refine ⟨_, rfl, szl (by decide +kernel), ?_⟩
    refine ⟨_, rfl, o, M.C, dx, _, _, rfl, e, M.cl, M.nP, uf_pa .., .inl ⟨"prompt", rfl, szl (by decide +kernel), _, rfl, szl (by decide +kernel), ?_⟩⟩
    refine ⟨_, rfl, szl (by decide +kernel), ?_⟩
    refine ⟨_, rfl, o, M.C, dx, _, _, rfl, e, M.cl, M.nE, uf_en .., .inl ⟨"empty", rfl, szl (by decide +kernel), _, rfl, szl (by decide +kernel), ?_⟩⟩
    refine ⟨_, rfl, szl (by decide +kernel), ?_⟩
    rw [show Str.empty ++ ("Source(" : Str) ++ "short" ++ " " ++ "prompt" ++ " " ++ "empty" ++ ")" = srS by decide +kernel]
    exact k
end
end My

/-! sample_loop, sample_source -/
namespace My
open PySem L2 Cm LM
abbrev sSL : Stmt := top 65
abbrev sSS : Stmt := top 66
def txS : Str := "ask empty:stop hand"
theorem txS_good : goodText txS = true := by decide +kernel
structure TxSm (K : PySem.W.Frag) (mg : Str → Option Value) where
  T : TxC K mg
  U : TxU K mg
  sl : Df K mg "sample_loop" sSL []
  ss : Df K mg "sample_source" sSS []
section
variable {P : Program} {w : World} {K : PySem.W.Frag} {mg : Str → Option Value} {base : Heap}
def spSL (C : Addr) : Sp := fun vs H Q _ => vs = [] ∧ ∀ (H' : Hp) (o : Addr), Same H H' → H o = none → LoopAt C H' o txS → Q (.ref o) H'
theorem scSL : FnScope [] [] (defScope sSL) := ⟨rfl, rfl, rfl, by decide +kernel, rfl, by decide +kernel, by decide +kernel⟩
theorem ok_sl (M : TxSm K mg) : FnOk P w K mg base CX0 6 M.sl.f M.sl.fd [] (spSL M.T.C) := by
  have GM : FnOk P w K mg base (L2.CX P w) 4 M.T.fI M.T.fdI ["self", "text"] (spLI K M.T.C M.T.E.C) := ok_li M.T
  refine M.sl.F.ok scSL (fun vs H Q E h => ?_) (fun cdv A outer s H vs Q E hr h => ?_)
  · obtain ⟨rfl, _⟩ := h
    rfl
  · obtain ⟨rfl, k⟩ := h
    refine ⟨_, pss_one (ps_ret (pe_make M.T.MI GM hr rfl M.T.gC M.T.bI .nil pass_none (pa_cons pe_str pa_nil))), ?_⟩
    intro x dx nx ndx nex
    refine ⟨x, dx, .str txS, rfl, upd_same, typed_str _, ?_, fun t e g H' o hL => ⟨rfl, ?_⟩, fun z => ?_⟩
    · exact (show txS.length ≤ 100000 by decide +kernel)
    · cases e
      exact k H' x (made_same nx ndx o) nx hL
    · have : good (.str txS) = true := txS_good
      rw [this] at z
      cases z
def spSS (C : Addr) : Sp := fun vs H Q _ => vs = [] ∧ ∀ (H' : Hp) (o : Addr), Same H H' → H o = none → SrcU C H' o "short" "prompt" "empty" → Q (.ref o) H'
theorem scSS : FnScope [] [] (defScope sSS) := ⟨rfl, rfl, rfl, by decide +kernel, rfl, by decide +kernel, by decide +kernel⟩
theorem ok_ss (M : TxSm K mg) : FnOk P w K mg base CX0 4 M.ss.f M.ss.fd [] (spSS M.U.C) := by
  have GM : FnOk P w K mg base CX0 2 M.U.fI M.U.fdI ["self", "amount", "patience", "end"] (spUI M.U.C) := ok_ui M.U
  refine M.ss.F.ok scSS (fun vs H Q E h => ?_) (fun cdv A outer s H vs Q E hr h => ?_)
  · obtain ⟨rfl, _⟩ := h
    rfl
  · obtain ⟨rfl, k⟩ := h
    have hr2 : Room 3 _ := hr.mono (by decide)
    refine ⟨_, pss_one (ps_ret (pe_make M.U.MI GM hr2 rfl M.U.gC M.U.bI .nil pass0 (pa_cons pe_str (pa_cons pe_str (pa_cons pe_str pa_nil))))), ?_⟩
    intro x dx nx ndx nex
    refine ⟨x, dx, "short", "prompt", "empty", rfl, .inr rfl, .inl rfl, .inl rfl, upd_same, fun H' f hx => ⟨rfl, ?_⟩⟩
    exact k H' x (made_same nx ndx fun b o nb e => f b o nb e) nx ⟨dx, hx⟩
end
end My

/-! try with several clauses `except C as n`, all of one name -/
namespace TryAs
open PySem PySem.Spec PyProof.Rows L2
/-- a clause: its class, and what its suite does -/
structure Cl where
  c : Value
  ts : Addr → Value → Option Addr → TS
/-- behind a suite the name is gone -/
def bare (i : Nat) (D : Ends) : Ends := ⟨fun σ H => D.nx (σ.set i none) H, D.rt, fun σ H => D.bk (σ.set i none) H, fun σ H => D.ct (σ.set i none) H⟩
def wish (K : PySem.W.Frag) (i : Nat) (out : WX) (D : Ends) : List Cl → WX
  | [] => out
  | k :: ks => fun cls d σ H => ∃ yes, PySem.W.exmOne K cls k.c = some yes ∧ cond yes (∀ e, H e = none → k.ts e cls d (bare i D) (σ.set i (some (.ref e))) H) (wish K i out D ks cls d σ H)
inductive Cls (X : Cx) (n : Str) : List ExceptHandler → List Cl → Prop
  | stop : Cls X n [] []
  | more {x : Str} {k : Cl} {st : Stmt} {sts : List Stmt} {p1 p2 : Pos} {hds : List ExceptHandler} {ks : List Cl} : Names X x k.c →
      (∀ (e : Addr) (o : Obj) (cls : Value) (d : Option Addr) (pn : List (Addr × Obj)), Zc cls d o → (∃ vs, o.data = .fields vs) → PSs (X.suite e ((e, o) :: pn)) (st :: sts) (k.ts e cls d)) → Cls X n hds ks →
      Cls X n (.ExceptHandler (some (.Name x p1)) (some n) (st :: sts) p2 :: hds) (k :: ks)
section
variable {X : Cx} {n : Str} {i : Nat} {out : WX} {D : Ends} {pins : List (Addr × Obj)} {σ : L2.St} {H : Hp} {sI : Shared} {B : Heap} {e : Addr} {cls : Value} {d : Option Addr}
/-- an error that has come down in X, sI is the state without it -/
structure Down (X : Cx) (pins : List (Addr × Obj)) (σ : L2.St) (H : Hp) (sI : Shared) (B : Heap) (e : Addr) (cls : Value) (d : Option Addr) (h : Heap) : Prop where
  J : Inv X pins σ H sI
  nb : ∀ b o, sI.heap.get? b = some o → b ∉ frs X.stack → B.get? b = some o
  up : sI.heap.UpToSlots h
  fl : HandSPX.FlyingZ B (X.env :: X.outer) e (Zc cls d) h
  na : H e = none
theorem Down.here {h : Heap} {s : Shared} (Z : Down X pins σ H sI B e cls d h) (os : s.os = sI.os) (ag : AllBare s.gens) : Inv X pins σ H { s with heap := h } := Z.J.landed Z.nb Z.fl.1 Z.up os ag
theorem Down.outside {h : Heap} (Z : Down X pins σ H sI B e cls d h) (hf : X.env.frame = some X.env.locals) : e ≠ X.env.locals ∧ e ∉ X.fs := by
  have no : e ∉ frs (X.env :: X.outer) := fun m => by
    obtain ⟨o1, vs, g1, _, f1⟩ := Z.fl.there
    obtain ⟨_, o2, g2, f2⟩ := Z.fl.2.2.1.mem m
    exact f2 vs ((congrArg Obj.data (Option.some.inj (g2.symm.trans g1))).trans f1)
  refine ⟨fun q => no ?_, fun q => no ?_⟩
  · exact q ▸ List.mem_filterMap.mpr ⟨X.env, List.mem_cons_self, hf⟩
  · obtain ⟨v, h1, h2⟩ := List.mem_filterMap.mp q
    exact List.mem_filterMap.mpr ⟨v, List.mem_cons_of_mem _ h1, h2⟩
/-- no clause has taken it: it goes on -/
theorem Down.on {h : Heap} {s : Shared} (Z : Down X pins σ H sI B e cls d h) (hs : X.stack = X.env :: X.outer) (hf : X.env.frame = some X.env.locals) (tk : Takes X out) (os : s.os = sI.os) (ag : AllBare s.gens) (w : out cls d σ H) :
    wpAny (model X.prog X.w) X.A (handleBy (.ref e) X.env []) (SP X pins D) X.xe { s with heap := h } := by
  refine wpAny_handleBy_nil ?_
  have last : wpAny (model X.prog X.w) X.A (setFlight (.ref e) X.env.frame) (fun _ t => wpAny (model X.prog X.w) X.A (throw (.ref e) : Sem Flow) (SP X pins D) X.xe t) X.xe { s with heap := h } := by
    rw [hf]
    exact HandSPX.setFlight_upZ Z.fl fun g held u => wpAny_throw (tk _ _ ⟨e, B, sI, pins, σ, H, cls, d, rfl, Z.J, Z.nb, Z.up.trans u, .inr (.inr (hs ▸ held)), Z.na, os, ag, w⟩)
  obtain ⟨_, _, _, o, vs, T, _, _, g1, _, g2, g3, _⟩ := id Z.fl
  unfold PySem.passOn
  refine wpAny_bind (wpAny_field g1 g2 g3 ?_)
  have ne : ¬ ((Value.ref T == Value.none) = true) := by simp
  rw [if_neg ne]
  first
    | exact wpAny_bind (wpAny_pure (wpAny_bind last))
    | exact wpAny_bind last
theorem Cls.run (hs : X.stack = X.env :: X.outer) (hf : X.env.frame = some X.env.locals) (nd : X.N.Nodup) (hi : X.N[i]? = some n) (ln : X.env.kindOf n = some .local) (tk : Takes X out) {h : Heap} {s : Shared} (Z : Down X pins σ H sI B e cls d h) (os : s.os = sI.os) (ag : AllBare s.gens) :
    ∀ {hds : List ExceptHandler} {ks : List Cl}, Cls X n hds ks → wish X.K i out D ks cls d σ H → wpAny (model X.prog X.w) X.A (handleBy (.ref e) X.env hds) (SP X pins D) X.xe { s with heap := h }
  | _, _, .stop, w => Z.on hs hf tk os ag w
  | _, _, .more (x := x) (k := k) (p1 := p1) (p2 := p2) nm ru re, w => by
    obtain ⟨yes, ex, w⟩ := w
    have I3 := Z.here os ag
    obtain ⟨n1, n2⟩ := Z.outside hf
    obtain ⟨o3, v3, g3, z3, f3⟩ := Z.fl.there
    have S3 := I3.suite g3 f3 Z.na n1 n2
    have ty : PySem.W.Looks (model X.prog X.w) h (typeOf (.ref e)) cls := fun _ _ _ _ kk q => wpAny_typeOf_ref (kk _ _ g3) (z3.1.symm ▸ q)
    have mt := PySem.W.exm_one (M := model X.prog X.w) I3.kIn ty ex
    have look : ∀ {Q E : Value → Shared → Prop}, Q k.c { s with heap := h } → wpAny (model X.prog X.w) (X.A.mark (some (.ref e))) (eval (.Name x p1) X.env) Q E { s with heap := h } := fun {Q E} q => by
      obtain ⟨gl, db, m1 | ⟨m1, m2, m3⟩⟩ := nm
      · exact ld_glob (X := X.suite e ((e, o3) :: (X.pn ++ pins))) S3 gl m1 q db
      · exact ld_blt (X := X.suite e ((e, o3) :: (X.pn ++ pins))) S3 gl m1 m2 q m3 db
    refine wpAny_handleBy_cons (codeAny_handlers_test (look (mt.here ?_))) fun q => nomatch q
    cases yes with
    | false => exact Cls.run hs hf nd hi ln tk Z os ag re w
    | true =>
      refine codeAny_handlers_suite_as (HandSPX.lands_againZ Z.fl fun g fl u => ?_)
      have Z4 : Down X pins σ H sI B e cls d g := ⟨Z.J, Z.nb, Z.up.trans u, fl, Z.na⟩
      have I4 := Z4.here os ag
      obtain ⟨o4, v4, g4, z4, f4⟩ := fl.there
      refine store_ok (X := X.suite e ((e, o4) :: (X.pn ++ pins))) (v := .ref e) (I4.suite g4 f4 Z.na n1 n2) nd hi (.inl ln) rfl (fun s5 S5 => ?_) (.inr ln)
      have run5 := (ru e o4 cls d (X.pn ++ pins) z4 ⟨v4, f4⟩).run [] s5 _ H (bare i D) S5 (w e Z.na)
      refine wpAny_mono run5 (fun fw s6 r6 => ?_) fun _ _ z => z.elim
      have gone : ∀ {σ6 : L2.St} {H6 : Hp} {q : Addr × Obj} {Q : Shared → Prop}, Inv (X.suite e (q :: (X.pn ++ pins))) [] σ6 H6 s6 → (∀ s7, Inv X pins (σ6.set i none) H6 s7 → Q s7) → wpAny (model X.prog X.w) X.A (do bindName X.env n .none; unbindBehindTheSuite X.env n p2) (fun _ s7 => Q s7) X.xe s6 :=
        fun S6 k => gone_ok (S6.unsuite Z.J.ok) nd hi ln k
      match fw, r6 with
      | .next, ⟨σ6, H6, S6, k6⟩ => exact gone S6 fun s7 I7 => ⟨_, _, I7, k6⟩
      | .brk, ⟨σ6, H6, S6, k6⟩ => exact gone S6 fun s7 I7 => ⟨_, _, I7, k6⟩
      | .cont, ⟨σ6, H6, S6, k6⟩ => exact gone S6 fun s7 I7 => ⟨_, _, I7, k6⟩
      | .ret v, ⟨v6, σ6, H6, S6, rv, k6⟩ => exact gone S6 fun s7 I7 => ⟨_, _, _, I7, rv, k6⟩
variable {body : List Stmt} {hd : ExceptHandler} {hds : List ExceptHandler} {ks : List Cl} {pos : Pos} {tb : WX → TS}
/-- the rule -/
theorem ps_try_asN (hs : X.stack = X.env :: X.outer) (hf : X.env.frame = some X.env.locals) (nd : X.N.Nodup) (hi : X.N[i]? = some n) (ln : X.env.kindOf n = some .local) (tk : Takes X out)
    (hb : ∀ (W : WX) (pn : List (Addr × Obj)) (xe : Value → Shared → Prop), Takes (X.tr pn xe) W → PassesOwn (model X.prog X.w) X.A X.env xe → PSs (X.tr pn xe) body (tb W)) (hh : Cls X n (hd :: hds) ks) :
    PS X (.Try body (hd :: hds) [] [] pos) fun D σ H => tb (wish X.K i out D ks) D σ H := by
  refine ⟨fun pins s σ H D I h => wpAny_Try_except ?_⟩
  have fr : X.A.frames = some (X.env :: X.outer) := I.ok.frames.trans (congrArg some hs)
  refine wpAny_mono ((hb _ (X.pn ++ pins) _ ?_ PassesOwn.looking).run [] s σ H D (I.toTry _) h) (fun fw t r => ?_) fun _ _ z => z
  · rintro _ t ⟨e, B, sI, _, σ1, H1, cls, d, rfl, J, nb, up, sky, na, os, ag, w⟩
    refine Sky.land Zc.steady fr hf (hs ▸ sky) fun g fl u => ?_
    exact Cls.run hs hf nd hi ln tk ⟨J.ofTry I.ok, nb, up.trans u, fl, na⟩ os ag hh w
  · match fw, r with
    | .next, ⟨_, _, J, q⟩ => exact wpAny_execs_nil ⟨_, _, J.ofTry I.ok, q⟩
    | .brk, ⟨_, _, J, q⟩ => exact ⟨_, _, J.ofTry I.ok, q⟩
    | .cont, ⟨_, _, J, q⟩ => exact ⟨_, _, J.ofTry I.ok, q⟩
    | .ret v, ⟨_, _, _, J, rv, q⟩ => exact ⟨_, _, _, J.ofTry I.ok, rv, q⟩
end
end TryAs

namespace IsX
open PySem L2
/-! ### isinstance of a caught error that bears a field -/
structure XiC (K : PySem.W.Frag) (D : Addr) : Prop where
  xf : XfC K D
  ic : (PySem.W.clsIn K D).isSome = true
  c1 : PySem.W.findIn K (.ref D) "__class__" = some (some (.builtin "object.__class__"))
  c2 : PySem.W.specialIn K (.builtin "object.__class__") "__get__" = some (some (.builtin "getset_descriptor.__get__"))
  c3 : PySem.W.takesIn K (.builtin "object.__class__") = some true
  c4 : PySem.W.mroIn K D (.type "object") = some true
def rIsX (K : PySem.W.Frag) (D a : Addr) (cls : Value) (d : Option Addr) : List V → Hp → VK → Prop := fun xs H Q => ∃ (c : V) (cv : Value) (b : Bool) (dd : Addr) (fs : List (Str × V)), xs = [.ref a, c] ∧ (∀ u, RelV c u → u = cv) ∧ cls = .ref D ∧ d = some dd ∧ H dd = some (.xd fs) ∧ PySem.W.kitOne K (.ref D) cv = some b ∧ Q (.bl b) H
theorem call_isX {X : Cx} {a D : Addr} {oe : Obj} {cls : Value} {d : Option Addr} {pn : List (Addr × Obj)} (C : XiC X.K D) (hz : Zc cls d oe) (hf : ∃ vs, oe.data = .fields vs) : CallR (X.suite a ((a, oe) :: pn)) (.builtin "isinstance") (rIsX X.K D a cls d) := by
  intro pins s σ H xs us Q I r h
  obtain ⟨c, cv, b, dd, fs, rfl, hcv, rfl, rfl, hdd, e, q⟩ := h
  cases r with
  | cons rx rr =>
    cases rr with
    | cons rt rr =>
      cases rr
      cases rx
      cases hcv _ rt
      obtain ⟨hget, _⟩ := I.pin (a, oe) (List.mem_append.mpr (.inl List.mem_cons_self))
      obtain ⟨vs, hv⟩ := hf
      have hx : ObjOk X.prog X.w H s.heap dd (.xd fs) := I.hok dd _ hdd
      obtain ⟨mA, hns, _⟩ := hx
      obtain ⟨od, ho, _⟩ := lookIn_ns hns
      have J : PySem.W.InstAt s.heap a oe D (some od) := ⟨hget, hz.1, by unfold PySem.W.notCls; rw [hv] <;> rfl, by rw [hz.2]; exact ho⟩
      exact PySem.W.kia_one (PySem.W.kitx_exc (gt := none) C.ic C.xf.ga C.xf.gg C.xf.exC C.c1 C.c2 C.c3 C.c4) I.kIn J e (fun z => nomatch z) fun tk => ⟨.bl b, H, I.kept (t' := tk) fun _ _ z => z, rfl, q⟩
/-- the slots are as many as the names -/
theorem takes_len {X : Cx} {W : WX} (tk : Takes X W) : Takes X (fun cls d σ H => σ.length = X.N.length → W cls d σ H) := fun u s2 ⟨a, B, sI, pins, σ, H, cls, d, e, I, nb, up, sky, na, os, ag, h⟩ =>
  tk u s2 ⟨a, B, sI, pins, σ, H, cls, d, e, I, nb, up, sky, na, os, ag, h I.len⟩
theorem len3 {σ : St} (h : σ.length = 3) : ∃ a b c, σ = [a, b, c] := by
  match σ, h with
  | [a, b, c], _ => exact ⟨a, b, c, rfl⟩
end IsX

/-! always, fault, failing, needless, where they refuse -/
namespace My
open PySem L2 Cm LM
abbrev sNL : Stmt := inClass (top 3) 0
abbrev sNS : Stmt := inClass (top 4) 0
abbrev sIN : Stmt := inClass (top 7) 0
abbrev sCKL : Stmt := top 27
abbrev sCKU : Stmt := top 56
abbrev sCKN : Stmt := top 59
abbrev sAlw : Stmt := top 60
abbrev sFlt : Stmt := top 62
abbrev sFai : Stmt := top 61
abbrev sNee : Stmt := top 63
structure TxEv (K : PySem.W.Frag) (mg : Str → Option Value) (name : Str) (st : Stmt) (qual : Str) where
  C : Addr
  f : Addr
  fd : FuncData
  g : mg name = some (.ref C)
  o : OexC K C
  i : PySem.W.findIn K (.ref C) "__init__" = some (some (.ref f))
  t : PySem.W.typeIn K (.ref f) = some (.type "function")
  n : PySem.W.findIn K (.ref C) "value" = some none
  F : Fun K "__init__" qual st f fd
  b : Binds K fd ["self", "value"] []
structure TxJg (K : PySem.W.Frag) (mg : Str → Option Value) where
  M : TxM K mg
  U : TxU K mg
  eL : TxEv K mg "NotALoop" sNL "NotALoop.__init__"
  eS : TxEv K mg "NotASource" sNS "NotASource.__init__"
  eN : TxEv K mg "InvalidName" sIN "InvalidName.__init__"
  ckl : Df K mg "check_loop" sCKL ["loop"]
  cku : Df K mg "check_source" sCKU ["source"]
  ckn : Df K mg "check_name" sCKN ["name"]
  alw : Df K mg "always" sAlw ["loop", "source", "name"]
  flt : Df K mg "fault" sFlt ["loop", "source", "name"]
  fai : Df K mg "failing" sFai ["loop", "source"]
  nee : Df K mg "needless" sNee ["loop", "source"]
  pN : Addr
  gN : mg "NAMES" = some (.ref pN)
  lN : ∀ H, SqT K H pN [.str "whole", .str "filled", .str "even", .str "quiet", .str "ends"]
/-- it is told to be no instance of the class at C -/
def NoIn (K : PySem.W.Frag) (C : Addr) (H : Hp) (v : V) : Prop := ∃ t, TyX K H v t ∧ PySem.W.kitOne K t (.ref C) = some false
theorem NoIn.same {K : PySem.W.Frag} {C : Addr} {H H' : Hp} {v : V} (s : Same H H') (h : NoIn K C H v) : NoIn K C H' v := let ⟨t, a, b⟩ := h; ⟨t, TyX_same s a, b⟩
/-- it is no name -/
def noName : V → Bool
  | .str x => !inV (.str x) [.str "whole", .str "filled", .str "even", .str "quiet", .str "ends"]
  | _ => true
section
variable {P : Program} {w : World} {K : PySem.W.Frag} {mg : Str → Option Value} {base : Heap}
theorem scNL : FnScope ["self", "value"] ["self", "value"] (defScope sNL) := ⟨rfl, rfl, rfl, by decide +kernel, rfl, by decide +kernel, by decide +kernel⟩
theorem scNS : FnScope ["self", "value"] ["self", "value"] (defScope sNS) := ⟨rfl, rfl, rfl, by decide +kernel, rfl, by decide +kernel, by decide +kernel⟩
theorem scIN : FnScope ["self", "value"] ["self", "value"] (defScope sIN) := ⟨rfl, rfl, rfl, by decide +kernel, rfl, by decide +kernel, by decide +kernel⟩
theorem ok_nl (T : TxEv K mg "NotALoop" sNL "NotALoop.__init__") : FnOk P w K mg base CX0 1 T.f T.fd ["self", "value"] (spEI T.C) := by
  refine T.F.ok scNL (fun vs H Q E h => ?_) (fun cdv A outer s H vs Q E hr h => ?_)
  · obtain ⟨a, v, rfl, _⟩ := h
    rfl
  · obtain ⟨a, v, rfl, ha, k⟩ := h
    exact ⟨_, pss_one (ps_ost (pv 0) (pv 1)), _, rfl, _, rfl, a, T.C, rfl, T.o, T.n, .inl ⟨ha, fun dx n ne => k dx n ne⟩⟩
theorem ok_ns (T : TxEv K mg "NotASource" sNS "NotASource.__init__") : FnOk P w K mg base CX0 1 T.f T.fd ["self", "value"] (spEI T.C) := by
  refine T.F.ok scNS (fun vs H Q E h => ?_) (fun cdv A outer s H vs Q E hr h => ?_)
  · obtain ⟨a, v, rfl, _⟩ := h
    rfl
  · obtain ⟨a, v, rfl, ha, k⟩ := h
    exact ⟨_, pss_one (ps_ost (pv 0) (pv 1)), _, rfl, _, rfl, a, T.C, rfl, T.o, T.n, .inl ⟨ha, fun dx n ne => k dx n ne⟩⟩
theorem ok_in (T : TxEv K mg "InvalidName" sIN "InvalidName.__init__") : FnOk P w K mg base CX0 1 T.f T.fd ["self", "value"] (spEI T.C) := by
  refine T.F.ok scIN (fun vs H Q E h => ?_) (fun cdv A outer s H vs Q E hr h => ?_)
  · obtain ⟨a, v, rfl, _⟩ := h
    rfl
  · obtain ⟨a, v, rfl, ha, k⟩ := h
    exact ⟨_, pss_one (ps_ost (pv 0) (pv 1)), _, rfl, _, rfl, a, T.C, rfl, T.o, T.n, .inl ⟨ha, fun dx n ne => k dx n ne⟩⟩
/-- an error of the class at C with v -/
def Er (C : Addr) (v : V) (H : Hp) (E : XK) : Prop := ∀ d, H d = none → E (.ref C) (some d) (upd H d (.xd [("value", v)]))
def spCkl (T : TxJg K mg) : Sp := fun vs H Q E => ∃ v : V, vs = [v] ∧ ((NoIn K T.M.T.C H v ∧ Er T.eL.C v H E) ∨ ∃ (o : Addr) (t : Str), v = .ref o ∧ LoopAt T.M.T.C H o t ∧ Q .non H)
theorem scCKL : FnScope ["loop"] ["loop"] (defScope sCKL) := ⟨rfl, rfl, rfl, by decide +kernel, rfl, by decide +kernel, by decide +kernel⟩
theorem loop_ty (T : TxJg K mg) {H : Hp} {o : Addr} {t : Str} (h : LoopAt T.M.T.C H o t) : TyX K H (.ref o) (.ref T.M.T.C) := by
  obtain ⟨dx, pr, pe, po, pq, e, _⟩ := h
  exact .base (.ins e T.M.T.cl T.M.c1 T.M.c2 T.M.c3 T.M.c4)
theorem ok_ckl (T : TxJg K mg) : FnOk P w K mg base (L2.CX P w) 3 T.ckl.f T.ckl.fd ["loop"] (spCkl T) := by
  have GE : FnOk P w K mg base CX0 1 T.eL.f T.eL.fd ["self", "value"] (spEI T.eL.C) := ok_nl T.eL
  refine T.ckl.F.okX scCKL (fun vs H Q E h => ?_) (fun cdv A outer s H vs Q E hr h => ?_)
  · obtain ⟨v, rfl, _⟩ := h
    rfl
  · obtain ⟨v, rfl, h⟩ := h
    refine ⟨_, (pss_one (ps_if (pt_not (pt_val (pe_callB call_isi (by rfl) T.M.T.isi (by decide +kernel) (pa_cons (pv 0) (pa_cons (pe_glob (v := .ref T.M.T.C) rfl T.M.T.gC rfl) pa_nil))))) (pss_one (ps_raise rfl (takes_of rfl rfl rfl rfl) (pmk_oex T.eL.o T.eL.i T.eL.t GE hr T.eL.b .nil pass0 rfl T.eL.g (pa_cons (pv 0) pa_nil)))) pss_nil)), ?_⟩
    rcases h with ⟨⟨t, ty, kt⟩, k⟩ | ⟨o, t, rfl, hL, k⟩
    · exact ⟨_, rfl, _, _, _, _, false, rfl, .own T.M.T.C, ty, kt, false, rfl, iteT (mk_err (x := v) ⟨v, rfl, rfl, rfl⟩ (fun {R R'} ⟨v, e1, q⟩ f => ⟨v, e1, f _ _ q⟩) k)⟩
    · exact ⟨_, rfl, _, _, _, _, true, rfl, .own T.M.T.C, loop_ty T hL, T.M.k1, true, rfl, iteF k⟩
def spCku (T : TxJg K mg) : Sp := fun vs H Q E => ∃ v : V, vs = [v] ∧ ((NoIn K T.U.C H v ∧ Er T.eS.C v H E) ∨ ∃ (o : Addr) (A B D : Str), v = .ref o ∧ SrcU T.U.C H o A B D ∧ Q .non H)
theorem scCKU : FnScope ["source"] ["source"] (defScope sCKU) := ⟨rfl, rfl, rfl, by decide +kernel, rfl, by decide +kernel, by decide +kernel⟩
theorem ok_cku (T : TxJg K mg) : FnOk P w K mg base (L2.CX P w) 3 T.cku.f T.cku.fd ["source"] (spCku T) := by
  have GE : FnOk P w K mg base CX0 1 T.eS.f T.eS.fd ["self", "value"] (spEI T.eS.C) := ok_ns T.eS
  refine T.cku.F.okX scCKU (fun vs H Q E h => ?_) (fun cdv A outer s H vs Q E hr h => ?_)
  · obtain ⟨v, rfl, _⟩ := h
    rfl
  · obtain ⟨v, rfl, h⟩ := h
    refine ⟨_, (pss_one (ps_if (pt_not (pt_val (pe_callB call_isi (by rfl) T.M.T.isi (by decide +kernel) (pa_cons (pv 0) (pa_cons (pe_glob (v := .ref T.U.C) rfl T.U.gC rfl) pa_nil))))) (pss_one (ps_raise rfl (takes_of rfl rfl rfl rfl) (pmk_oex T.eS.o T.eS.i T.eS.t GE hr T.eS.b .nil pass0 rfl T.eS.g (pa_cons (pv 0) pa_nil)))) pss_nil)), ?_⟩
    rcases h with ⟨⟨t, ty, kt⟩, k⟩ | ⟨o, A', B', D', rfl, hL, k⟩
    · exact ⟨_, rfl, _, _, _, _, false, rfl, .own T.U.C, ty, kt, false, rfl, iteT (mk_err (x := v) ⟨v, rfl, rfl, rfl⟩ (fun {R R'} ⟨v, e1, q⟩ f => ⟨v, e1, f _ _ q⟩) k)⟩
    · exact ⟨_, rfl, _, _, _, _, true, rfl, .own T.U.C, hL.ty T.U, T.U.y5, true, rfl, iteF k⟩
def spCkn (T : TxJg K mg) : Sp := fun vs H _ E => ∃ v : V, vs = [v] ∧ Typed K H v ∧ noName v = true ∧ Er T.eN.C v H E
theorem scCKN : FnScope ["name"] ["name"] (defScope sCKN) := ⟨rfl, rfl, rfl, by decide +kernel, rfl, by decide +kernel, by decide +kernel⟩
theorem ok_ckn (T : TxJg K mg) : FnOk P w K mg base (L2.CX P w) 3 T.ckn.f T.ckn.fd ["name"] (spCkn T) := by
  have GE : FnOk P w K mg base CX0 1 T.eN.f T.eN.fd ["self", "value"] (spEI T.eN.C) := ok_in T.eN
  refine T.ckn.F.okX scCKN (fun vs H Q E h => ?_) (fun cdv A outer s H vs Q E hr h => ?_)
  · obtain ⟨v, rfl, _⟩ := h
    rfl
  · obtain ⟨v, rfl, ⟨t, ty, kt⟩, nn, k⟩ := h
    refine ⟨_, pss_one (ps_if (PW.pt (pw_or (pt_not (pt_val (pe_callB call_isi (by rfl) T.M.T.isi (by decide +kernel) (pa_cons (pv 0) (pa_cons (pe_bltn (v := .ty "str") (by rfl) T.M.T.str (by decide +kernel) rfl) pa_nil)))))
          (pw_or1 (pt_cmpR op_notIn_seq (pv 0) (pe_glob (v := .ref T.pN) rfl T.gN rfl) (by rfl))))) (pss_one (ps_raise rfl (takes_of rfl rfl rfl rfl) (pmk_oex T.eN.o T.eN.i T.eN.t GE hr T.eN.b .nil pass0 rfl T.eN.g (pa_cons (pv 0) pa_nil)))) pss_nil), ?_⟩
    have fin := mk_err (CE := T.eN.C) (ta := tCons (tVar 0) tNil) (σ := L2.start ["name"] [v]) (H := H) (Q := E) (x := v) ⟨v, rfl, rfl, rfl⟩ (fun {R R'} ⟨v, e1, q⟩ f => ⟨v, e1, f _ _ q⟩) k
    refine ⟨_, rfl, _, _, _, _, isS v, rfl, .ty "str", ty, kt, _, rfl, ?_⟩
    cases hs : isS v with
    | false => exact iteT (iteT fin)
    | true =>
      refine iteF ?_
      obtain ⟨x, rfl⟩ : ∃ x, v = .str x := by
        cases v <;> first | exact ⟨_, rfl⟩ | cases hs
      refine ⟨_, rfl, T.pN, _, rfl, .inr (T.lN _), rfl, rfl, _, rfl, ?_⟩
      have e : inV (.str x) [.str "whole", .str "filled", .str "even", .str "quiet", .str "ends"] = false := by
        have : (!inV (.str x) [.str "whole", .str "filled", .str "even", .str "quiet", .str "ends"]) = true := nn
        simpa using this
      rw [e]
      exact iteT fin
/-! ### the functions -/
def JBad (T : TxJg K mg) (l u : V) (H : Hp) (E : XK) (more : Prop) : Prop := (NoIn K T.M.T.C H l ∧ Er T.eL.C l H E) ∨ ∃ (o : Addr) (t : Str), l = .ref o ∧ LoopAt T.M.T.C H o t ∧ ((NoIn K T.U.C H u ∧ Er T.eS.C u H E) ∨ (∃ (p : Addr) (A B D : Str), u = .ref p ∧ SrcU T.U.C H p A B D) ∧ more)
def sp3 (T : TxJg K mg) : Sp := fun vs H _ E => ∃ l u n : V, vs = [l, u, n] ∧ JBad T l u H E (Typed K H n ∧ noName n = true ∧ Er T.eN.C n H E)
def sp2 (T : TxJg K mg) : Sp := fun vs H _ E => ∃ l u : V, vs = [l, u] ∧ JBad T l u H E False
theorem scAlw : FnScope ["loop", "source", "name"] ["loop", "source", "name"] (defScope sAlw) := ⟨rfl, rfl, rfl, by decide +kernel, rfl, by decide +kernel, by decide +kernel⟩
theorem scFlt : FnScope ["loop", "source", "name"] ["loop", "source", "name"] (defScope sFlt) := ⟨rfl, rfl, rfl, by decide +kernel, rfl, by decide +kernel, by decide +kernel⟩
theorem scFai : FnScope ["loop", "source", "name"] ["loop", "source"] (defScope sFai) := ⟨rfl, rfl, rfl, by decide +kernel, rfl, by decide +kernel, by decide +kernel⟩
theorem scNee : FnScope ["loop", "source", "names", "place"] ["loop", "source"] (defScope sNee) := ⟨rfl, rfl, rfl, by decide +kernel, rfl, by decide +kernel, by decide +kernel⟩
theorem ok_alw (T : TxJg K mg) : FnOk P w K mg base (L2.CX P w) 4 T.alw.f T.alw.fd ["loop", "source", "name"] (sp3 T) := by
  have G1 : FnOk P w K mg base (L2.CX P w) 3 T.ckl.f T.ckl.fd ["loop"] (spCkl T) := ok_ckl T
  have G2 : FnOk P w K mg base (L2.CX P w) 3 T.cku.f T.cku.fd ["source"] (spCku T) := ok_cku T
  have G3 : FnOk P w K mg base (L2.CX P w) 3 T.ckn.f T.ckn.fd ["name"] (spCkn T) := ok_ckn T
  refine T.alw.F.okX scAlw (fun vs H Q E h => ?_) (fun cdv A outer s H vs Q E hr h => ?_)
  · obtain ⟨l, u, n, rfl, _⟩ := h
    rfl
  · obtain ⟨l, u, n, rfl, h⟩ := h
    refine ⟨_, (pss_cons (ps_expr (pe_call (E := E) G1 hr rfl T.ckl.g T.ckl.k T.ckl.b .nil (passes_call (takes_of rfl rfl rfl rfl) fun _ _ _ _ z => z) (pa_cons (pv 0) pa_nil))) (pss_cons (ps_expr (pe_call (E := E) G2 hr rfl T.cku.g T.cku.k T.cku.b .nil (passes_call (takes_of rfl rfl rfl rfl) fun _ _ _ _ z => z) (pa_cons (pv 1) pa_nil))) (pss_cons (ps_expr (pe_call (E := E) G3 hr rfl T.ckn.g T.ckn.k T.ckn.b .nil (passes_call (takes_of rfl rfl rfl rfl) fun _ _ _ _ z => z) (pa_cons (pv 2) pa_nil))) (pss_one ps_never)))), ?_⟩
    rcases h with ⟨a, k⟩ | ⟨o, t, rfl, hL, h⟩
    · exact ⟨_, rfl, l, rfl, .inl ⟨a, k⟩⟩
    refine ⟨_, rfl, .ref o, rfl, .inr ⟨o, t, rfl, hL, ?_⟩⟩
    rcases h with ⟨a, k⟩ | ⟨⟨p, A', B', D', rfl, hU⟩, ty, nn, k⟩
    · exact ⟨_, rfl, u, rfl, .inl ⟨a, k⟩⟩
    · exact ⟨_, rfl, .ref p, rfl, .inr ⟨p, A', B', D', rfl, hU, _, rfl, n, rfl, ty, nn, k⟩⟩
theorem ok_flt (T : TxJg K mg) : FnOk P w K mg base (L2.CX P w) 5 T.flt.f T.flt.fd ["loop", "source", "name"] (sp3 T) := by
  have G1 : FnOk P w K mg base (L2.CX P w) 4 T.alw.f T.alw.fd ["loop", "source", "name"] (sp3 T) := ok_alw T
  refine T.flt.F.okX scFlt (fun vs H Q E h => ?_) (fun cdv A outer s H vs Q E hr h => ?_)
  · obtain ⟨l, u, n, rfl, _⟩ := h
    rfl
  · obtain ⟨l, u, n, rfl, h⟩ := h
    exact ⟨_, (pss_cons (ps_if (pt_val (pe_call (E := E) G1 hr rfl T.alw.g T.alw.k T.alw.b .nil (passes_call (takes_of rfl rfl rfl rfl) fun _ _ _ _ z => z) (pa_cons (pv 0) (pa_cons (pv 1) (pa_cons (pv 2) pa_nil))))) (pss_one ps_never) pss_nil) (pss_one ps_never)), _, rfl, _, rfl, _, rfl, l, u, n, rfl, h⟩
theorem ok_fai (T : TxJg K mg) : FnOk P w K mg base (L2.CX P w) 4 T.fai.f T.fai.fd ["loop", "source"] (sp2 T) := by
  have G1 : FnOk P w K mg base (L2.CX P w) 3 T.ckl.f T.ckl.fd ["loop"] (spCkl T) := ok_ckl T
  have G2 : FnOk P w K mg base (L2.CX P w) 3 T.cku.f T.cku.fd ["source"] (spCku T) := ok_cku T
  refine T.fai.F.okX scFai (fun vs H Q E h => ?_) (fun cdv A outer s H vs Q E hr h => ?_)
  · obtain ⟨l, u, rfl, _⟩ := h
    rfl
  · obtain ⟨l, u, rfl, h⟩ := h
    refine ⟨_, (pss_cons (ps_expr (pe_call (E := E) G1 hr rfl T.ckl.g T.ckl.k T.ckl.b .nil (passes_call (takes_of rfl rfl rfl rfl) fun _ _ _ _ z => z) (pa_cons (pv 0) pa_nil))) (pss_cons (ps_expr (pe_call (E := E) G2 hr rfl T.cku.g T.cku.k T.cku.b .nil (passes_call (takes_of rfl rfl rfl rfl) fun _ _ _ _ z => z) (pa_cons (pv 1) pa_nil))) (pss_one ps_never))), ?_⟩
    rcases h with ⟨a, k⟩ | ⟨o, t, rfl, hL, h⟩
    · exact ⟨_, rfl, l, rfl, .inl ⟨a, k⟩⟩
    refine ⟨_, rfl, .ref o, rfl, .inr ⟨o, t, rfl, hL, ?_⟩⟩
    rcases h with ⟨a, k⟩ | ⟨_, f⟩
    · exact ⟨_, rfl, u, rfl, .inl ⟨a, k⟩⟩
    · exact f.elim
theorem ok_nee (T : TxJg K mg) : FnOk P w K mg base (L2.CX P w) 5 T.nee.f T.nee.fd ["loop", "source"] (sp2 T) := by
  have G1 : FnOk P w K mg base (L2.CX P w) 4 T.fai.f T.fai.fd ["loop", "source"] (sp2 T) := ok_fai T
  refine T.nee.F.okX scNee (fun vs H Q E h => ?_) (fun cdv A outer s H vs Q E hr h => ?_)
  · obtain ⟨l, u, rfl, _⟩ := h
    rfl
  · obtain ⟨l, u, rfl, h⟩ := h
    exact ⟨_, pss_cons (ps_set (i := 2) scNee.nd rfl (.inr rfl) (pe_call (E := E) G1 hr rfl T.fai.g T.fai.k T.fai.b .nil (passes_call (takes_of rfl rfl rfl rfl) fun _ _ _ _ z => z) (pa_cons (pv 0) (pa_cons (pv 1) pa_nil)))) (pss_one ps_never), _, rfl, _, rfl, l, u, rfl, h⟩
end
end My

/-! defs that are called where no repr is running, and repr of plain data there -/
namespace Gd
open PySem PySem.Spec PyProof.Rows L2
/-- a def's promise, for callers around whom no guard stands -/
structure FnG (P : Program) (w : World) (K : PySem.W.Frag) (mg : Str → Option Value) (base : Heap) (CX : CXT) (k : Nat) (f : Addr) (fd : FuncData) (ps : List Str) (sp : Sp) : Prop where
  len : ∀ vs H Q E, sp vs H Q E → vs.length = ps.length
  run : ∀ (A : Around) (outer : List Env) (s : Shared) (H : Hp) (args : Args) (us : List Value) (vs : List V) (Q : VK) (E : XK), A.guards = some [] → Room k A → Env0 P w K mg base A outer s H → BindsTo s fd args (ps.zip us) → Vals vs us → sp vs H Q E →
    codeAny (model P w) A (.call (.ref f) args) (CR CX outer P w H s Q E) s
section
variable {P : Program} {w : World} {K : PySem.W.Frag} {mg : Str → Option Value} {base : Heap}
/-- the rule of a def, its guards told -/
theorem okG {x qual : Str} {st : Stmt} {f : Addr} {fd : FuncData} {N ps : List Str} {k : Nat} {sp : Sp} (F : Fun K x qual st f fd) (S : FnScope N ps (defScope st)) (len : ∀ vs H Q E, sp vs H Q E → vs.length = ps.length)
    (hbody : ∀ (cdv : Value) (A : Around) (outer : List Env) (s : Shared) (H : Hp) (vs : List V) (Q : VK) (E : XK), K.lookup f ≠ none → PySem.W.codeIn K cdv qual = true → fd.code = cdv → A.guards = some [] → Room k (A.deeper (envOfC qual (defScope st) s.heap.objs.size f cdv)) → sp vs H Q E →
      ∃ t, PSs (cxOf CX0 P w K mg base N qual (defScope st) f cdv A outer s H E).nox (defBody st) t ∧ t { nx := fun _ H' => Q .non H', rt := Q } (L2.start N vs) H) : FnG P w K mg base CX0 (k + 1) f fd ps sp := by
  obtain ⟨oc, od, kV, doc, pm, an, cdv, ct, osl, rfl, lk, hcd⟩ := F.ex
  refine ⟨len, fun A outer s H args us vs Q E hg hr e0 hb r h => ?_⟩
  refine LamX.run_ofS lk hcd S hr e0 hb r (len _ _ _ _ h) fun hr2 => ?_
  obtain ⟨t, h1, q⟩ := hbody cdv A outer s H vs Q E (by rw [lk]; simp) hcd rfl hg hr2 h
  exact ⟨t, h1.nox, q⟩
end
section
variable {X : Cx} {CX : CXT} {k : Nat} {f : Addr} {fd : FuncData} {ps : List Str} {sp : Sp} {E : XK} {x : Str} {p pos : Pos} {e : Expr} {es : List Expr} {t : TA} {ds : List Value} {dvs : List V}
/-- f(e, ..) -/
theorem pe_callG (F : FnG X.prog X.w X.K X.mg X.base CX k f fd ps sp) (hgd : X.A.guards = some []) (hr : Room k X.A) (hg : Gl X x) (hm : X.mg x = some (.ref f)) (hk : PySem.W.keepIn X.K (.ref f) = true) (hb : L2.Binds X.K fd ps ds) (hd : Vals dvs ds) (hx : Passes CX X E) (ha : PA X (e :: es) t)
    (hdb : (x == ("__debug__" : Str)) = false := by decide) (he : starEach (e :: es) X.env = (false, eval e X.env) :: starEach es X.env := by rfl) (hpl : (backTo pos (starEach es X.env)).any (·.1) = false := by rfl) :
    PE X (.Call (.Name x p) (e :: es) [] pos) (tCall sp dvs E t) := by
  refine ⟨fun pins s σ H Q I h => ?_⟩
  refine wpAny_Call_Name_kw (ld_glob I hg hm ?_ hdb)
  refine PySem.W.callWith_K (h₀ := X.base) I.ok.mod.kin hk (thn (ha.run pos pins s σ H _ I h) fun us s1 ⟨vs, H1, I1, r, q⟩ => ⟨I1.kIn, ?_⟩) he hpl
  have r2 : Vals (vs ++ dvs) (us ++ ds) := r.append hd
  have hl : (us ++ ds).length = ps.length := by
    rw [← r2.length]
    exact F.len _ _ _ _ q
  refine wpAny_call (codeAny_mono (F.run X.A X.stack s1 H1 ⟨us, []⟩ (us ++ ds) (vs ++ dvs) Q E hgd hr I1.env0 (hb s1 us I1.kIn hl) r2 q) fun rr s2 hq => ?_)
  match rr, hq with
  | .error er, hq => exact hx pins σ H1 s1 er s2 I1 hq
  | .ok (.ret u), hq => exact I1.after hq
end
/-! ### plain data, all of it tracked -/
mutual
inductive Dq (H : Hp) : V → PyData → Prop
  | non : Dq H .non .none
  | bl (b : Bool) : Dq H (.bl b) (.bool b)
  | int (i : Int) : Dq H (.int i) (.int i)
  | str (x : Str) : Dq H (.str x) (.str x)
  | lst {a : Addr} {xs : List V} {ds : List PyData} : H a = some (.lst xs) → DqA H xs ds → Dq H (.ref a) (.list ds)
  | tup {a : Addr} {xs : List V} {ds : List PyData} : H a = some (.tup xs) → DqA H xs ds → Dq H (.ref a) (.tuple ds)
  | dct {a : Addr} : H a = some (.dK []) → Dq H (.ref a) (.dict [])
inductive DqA (H : Hp) : List V → List PyData → Prop
  | nil : DqA H [] []
  | cons {v : V} {vs : List V} {d : PyData} {ds : List PyData} : Dq H v d → DqA H vs ds → DqA H (v :: vs) (d :: ds)
end
section
variable {X : Cx} {pins : List (Addr × Obj)} {σ : L2.St} {H : Hp} {s : Shared}
mutual
theorem Dq.reads (I : Inv X pins σ H s) : ∀ {v : V} {d : PyData} {u : Value}, Dq H v d → RelV v u → ∃ as, Reads s.heap u d as ∧ ∀ b ∈ as, H b ≠ none
  | _, _, _, .non, r => by
    cases r
    exact ⟨_, .none, fun b h => nomatch h⟩
  | _, _, _, .bl b, r => by
    cases r
    exact ⟨_, .bool b, fun b h => nomatch h⟩
  | _, _, _, .int i, r => by
    obtain ⟨t, rfl⟩ := r
    exact ⟨_, .int i t, fun b h => nomatch h⟩
  | _, _, _, .str x, r => by
    obtain ⟨t, rfl⟩ := r
    exact ⟨_, .str x t, fun b h => nomatch h⟩
  | _, _, _, .lst (a := a) (xs := xs) ha hd, r => by
    cases r
    obtain ⟨_, its, n, rv, e⟩ := (show ObjOk X.prog X.w H s.heap a (.lst xs) from I.hok a _ ha)
    obtain ⟨as, h1, h2⟩ := DqA.reads I hd rv
    refine ⟨_, .list e rfl rfl (by simpa using h1), fun b hb => ?_⟩
    rcases List.mem_cons.mp hb with rfl | hb
    · rw [ha]; simp
    · exact h2 b hb
  | _, _, _, .tup (a := a) (xs := xs) ha hd, r => by
    cases r
    obtain ⟨_, its, rv, o, e, c, n, hn⟩ := (show ObjOk X.prog X.w H s.heap a (.tup xs) from I.hok a _ ha)
    obtain ⟨as, h1, h2⟩ := DqA.reads I hd rv
    exact ⟨_, .tuple e c hn (by simpa using h1), h2⟩
  | _, _, _, .dct (a := a) ha, r => by
    cases r
    obtain ⟨_, _, vs, kv, o, es, ep, e, hx, hdt, _, hes, _⟩ := (show ObjOk X.prog X.w H s.heap a (.dK []) from I.hok a _ ha)
    cases kv
    have e0 : es.toList = [] := by
      generalize es.toList = zs at hes
      cases hes
      rfl
    refine ⟨_, .dict (kvs := []) e hx.1 hdt (by rw [e0]; exact .nil) (by rw [e0]; exact .nil), fun b hb => ?_⟩
    have : b = a := by simpa using hb
    rw [this, ha]; simp
theorem DqA.reads (I : Inv X pins σ H s) : ∀ {vs : List V} {ds : List PyData} {us : List Value}, DqA H vs ds → Vals vs us → ∃ as, ReadsAll s.heap us ds as ∧ ∀ b ∈ as, H b ≠ none
  | _, _, _, .nil, r => by
    cases r
    exact ⟨_, .nil, fun b h => nomatch h⟩
  | _, _, _, .cons hd ht, .cons r rt => by
    obtain ⟨as, h1, h2⟩ := Dq.reads I hd r
    obtain ⟨bs, h3, h4⟩ := DqA.reads I ht rt
    exact ⟨_, .cons h1 h3, fun b hb => (List.mem_append.mp hb).elim (h2 b) (h4 b)⟩
end
end
mutual
theorem Dq.same {H H' : Hp} (s : Same H H') : ∀ {v : V} {d : PyData}, Dq H v d → Dq H' v d
  | _, _, .non => .non
  | _, _, .bl b => .bl b
  | _, _, .int i => .int i
  | _, _, .str x => .str x
  | _, _, .lst ha hd => .lst (s _ _ ha) (DqA.same s hd)
  | _, _, .tup ha hd => .tup (s _ _ ha) (DqA.same s hd)
  | _, _, .dct ha => .dct (s _ _ ha)
theorem DqA.same {H H' : Hp} (s : Same H H') : ∀ {vs : List V} {ds : List PyData}, DqA H vs ds → DqA H' vs ds
  | _, _, .nil => .nil
  | _, _, .cons a b => .cons (Dq.same s a) (DqA.same s b)
end
/-- repr of a list, a tuple or an empty dict of such data -/
def rReprD : List V → Hp → VK → Prop := fun xs H Q => ∃ (a : Addr) (d : PyData), xs = [.ref a] ∧ Dq H (.ref a) d ∧ d.showable = true ∧ d.depth ≤ 64 ∧ d.shown.length ≤ sizeLine ∧ Q (.str d.shown) H
theorem call_reprD {X : Cx} {k : Nat} {ob : Obj} (hg : X.A.guards = some []) (hr : Room k X.A) (sm : X.base.get? sysModules = some ob) : CallR X (.builtin "repr") rReprD := by
  intro pins s σ H xs us Q I r h
  obtain ⟨a, d, rfl, hd, hs, hdep, hz, q⟩ := h
  obtain ⟨u, rfl, ru⟩ := vals1 r
  cases (show u = Value.ref a from ru)
  obtain ⟨as, h1, h2⟩ := hd.reads I (u := .ref a) rfl
  have no : sysModules ∉ as := fun hm => h2 _ hm (I.env0.bs _ _ sm).2
  have hu := hr.un
  refine repr_of_reads' h1 hs (fun _ => no) hg (by omega) (fun _ _ e => e) (fun h' u tk hk => ?_) hz
  exact ⟨.str d.shown, H, I.kept (t' := tk) hk, ⟨_, rfl⟩, q⟩
/-! ### the end of a law, from such a promise -/
/-- at the law's call: the tables, and the script unless the module itself holds it -/
def H0 (K : PySem.W.Frag) (tabs : List Addr) (a : Addr) (u : HO) : Hp := fun b => if b ∈ tabs then some (.tbl #[]) else if b = a ∧ K.lookup a = none then some u else none
theorem H0_tab {K : PySem.W.Frag} {tabs : List Addr} {a b : Addr} {u : HO} (h : b ∈ tabs) : H0 K tabs a u b = some (.tbl #[]) := if_pos h
theorem H0_cases {K : PySem.W.Frag} {tabs : List Addr} {a b : Addr} {u o : HO} (h : H0 K tabs a u b = some o) : (b ∈ tabs ∧ o = .tbl #[]) ∨ (b ∉ tabs ∧ b = a ∧ K.lookup a = none ∧ o = u) := by
  unfold H0 at h
  split at h
  next hb => exact .inl ⟨hb, (Option.some.inj h).symm⟩
  next hb =>
    split at h
    next hc => exact .inr ⟨hb, hc.1, hc.2, (Option.some.inj h).symm⟩
    next => cases h
theorem law_callG {P : Program} {w : World} {K : PySem.W.Frag} {mg mb : Str → Option Value} {k : Nat} {fa a : Addr} {cs : List (Addr × Addr)} {fd : FuncData} {x : Str} {sp : Sp} {st : Shared} {vs : List Value} {ns : List Int}
    (KX : K.In st.heap) (gNs : st.heap.Ns mainGlobals mg) (bNs : st.heap.Ns builtinsNs mb) (bEq : ∀ x : Str, x ≠ "__name__" → mb x = bootBuiltins x) (lim : st.heap.NoLimit) (noG : st.gens = #[])
    (isT : ∀ p ∈ cs, st.heap.get? p.2 = some { cls := .none, data := .fields #[] }) (nK : ∀ p ∈ cs, K.lookup p.2 = none) (isC : ∀ p ∈ cs, PySem.W.CodeHd st.heap p.1 p.2)
    (bMain : ∃ (bm : Addr) (ob : Obj), mg "__builtins__" = some (.ref bm) ∧ bm ≠ builtinsNs ∧ st.heap.get? bm = some ob ∧ ob.cls = .type "module" ∧ ob.dict = some builtinsNs ∧ ob.data = .plain)
    (scr : st.heap.get? a = some { cls := .type "list", data := .seq vs.toArray }) (intsA : IntsAre vs ns) (few : ns.length ≤ sizeLine) (room : Room k callerA)
    (mods : ∃ mm, st.heap.Ns sysModules mm)
    (F : ∀ base : Heap, K.In base → base.Ns mainGlobals mg → (∃ ob, base.get? sysModules = some ob) → (∀ p ∈ cs, LamX.TabB base mg p.1 p.2) → FnG P w K mg base CX0 k fa fd [x] sp) (bind : ∀ (s : Shared) (u : Value), BindsTo s fd ⟨[u], []⟩ [(x, u)])
    (hsp : ∀ H : Hp, (∀ p ∈ cs, H p.2 = some (.tbl #[])) → SqL K H a (ns.map V.int) → sp [.ref a] H (fun v _ => v = .bl true) fun _ _ _ => False) :
    codeAny (model P w) callerA (.call (.ref fa) ⟨[.ref a], []⟩) (fun r s2 => r = .ok (.ret (.bool true)) ∧ OldK st.heap s2.heap ∧ s2.os = st.os ∧ AllBare s2.gens) st := by
  have vals := vals_ints intsA
  have tabAt : ∀ b ∈ cs.map (·.2), st.heap.get? b = some { cls := .none, data := .fields #[] } := fun b hb => by
    obtain ⟨p, hp, rfl⟩ := List.mem_map.mp hb
    exact isT p hp
  generalize hu : (HO.frz { cls := .type "list", data := .seq vs.toArray } (.lst (ns.map V.int))) = u
  generalize hH : H0 K (cs.map (·.2)) a u = H
  have tabH : ∀ p ∈ cs, H p.2 = some (.tbl #[]) := fun p hp => by
    rw [← hH]
    exact H0_tab (List.mem_map.mpr ⟨p, hp, rfl⟩)
  have what : ∀ b o, H b = some o → (b ∈ cs.map (·.2) ∧ o = .tbl #[]) ∨ (b ∉ cs.map (·.2) ∧ b = a ∧ K.lookup a = none ∧ o = u) := fun b o e => by
    rw [← hH] at e
    exact H0_cases e
  have held : HOk P w H st.heap := fun b o e => by
    rcases what b o e with ⟨h1, rfl⟩ | ⟨_, rfl, _, rfl⟩
    · exact tabAt b h1
    · rw [← hu]
      exact ⟨scr, by rw [List.length_map]; exact few, vs, _, vals, scr⟩
  have seen : SqL K H a (ns.map V.int) := by
    cases hk : K.lookup a with
    | some o =>
      have e := KX a o hk
      rw [scr] at e
      cases e
      exact .inr ⟨_, vs.toArray, _, hk, rfl, rfl, rfl, by rw [List.size_toArray, intsA.length]; exact few, by simpa using vals⟩
    | none =>
      refine .inl (.inr ⟨{ cls := .type "list", data := .seq vs.toArray }, ?_⟩)
      have nt : a ∉ cs.map (·.2) := fun z => by
        have q := tabAt a z
        rw [scr] at q
        cases congrArg Obj.data (Option.some.inj q)
      rw [← hH, ← hu]
      exact (if_neg nt).trans (if_pos ⟨rfl, hk⟩)
  -- what is neither a list nor an empty table is not tracked
  have untracked : ∀ {b : Addr} {o : Obj}, st.heap.get? b = some o → (∀ us m, o.data ≠ .seq us m) → o.data ≠ .fields #[] → H b = none := fun {b o} e h1 h2 => by
    cases q : H b with
    | none => rfl
    | some z =>
      rcases what b z q with ⟨hb, _⟩ | ⟨_, rfl, _⟩
      · rw [tabAt b hb] at e
        exact absurd (congrArg Obj.data (Option.some.inj e)).symm h2
      · rw [scr] at e
        exact absurd (congrArg Obj.data (Option.some.inj e)).symm (h1 _ _)
  have stays : ∀ {b : Addr} {o : Obj}, st.heap.get? b = some o → (∀ us m, o.data ≠ .seq us m) → o.data ≠ .fields #[] → (hidT st.heap H).get? b = some o := fun e h1 h2 => hidT_get e (untracked e h1 h2)
  have names : ∀ {b : Addr} {m : Str → Option Value}, st.heap.Ns b m → (hidT st.heap H).Ns b m := fun ⟨o, es, ep, e, dt, r⟩ =>
    ⟨o, es, ep, stays e (fun _ _ z => by rw [dt] at z; cases z) (fun z => by rw [dt] at z; cases z), dt, r⟩
  have inB : K.In (hidT st.heap H) := fun b o e => hidT_get (KX b o e) (by
    cases q : H b with
    | none => rfl
    | some z =>
      rcases what b z q with ⟨hb, _⟩ | ⟨_, rfl, hn, _⟩
      · obtain ⟨p, hp, rfl⟩ := List.mem_map.mp hb
        rw [nK p hp] at e
        cases e
      · rw [hn] at e
        cases e)
  obtain ⟨mc, lim1, lim2⟩ := lim
  have modu : L2.Mod K mg (hidT st.heap H) := ⟨inB, names gNs, ⟨mb, names bNs, bEq⟩, ⟨mc, names lim1, lim2⟩⟩
  have tabB : ∀ p ∈ cs, LamX.TabB (hidT st.heap H) mg p.1 p.2 := fun p hp => by
    have atP := isT p hp
    refine { code := ?_, bm := ?_, gP := fun z => ?_ }
    · obtain ⟨o, us, file, tf, flags, tg, inF, text, tt, e1, r1, r2, r3, r4⟩ := isC p hp
      exact ⟨o, us, file, tf, flags, tg, inF, text, tt, stays e1 (fun _ _ z => by rw [r2] at z; cases z) (fun z => by rw [r2] at z; cases z; simp at r3), r1, r2, r3, r4⟩
    · obtain ⟨bm, ob, b1, b2, b3, b4, b5, b6⟩ := bMain
      refine ⟨bm, ob, b1, b2, fun z => ?_, fun z => ?_, stays b3 (fun _ _ z => by rw [b6] at z; cases z) (fun z => by rw [b6] at z; cases z), b4, b5, b6⟩
      · obtain ⟨o, es, ep, e, dt, _⟩ := gNs
        rw [z, e] at b3
        cases b3
        rw [dt] at b6
        cases b6
      · rw [z, atP] at b3
        cases b3
        cases b6
    · obtain ⟨o, es, ep, e, dt, _⟩ := gNs
      rw [z, atP] at e
      cases e
      cases dt
  have env : Env0 P w K mg (hidT st.heap H) callerA [] st H := ⟨rfl, modu, fun b o e => of_hidT e, Nat.le_of_eq (hidT_size _ _), trivial, (fun b hb => absurd (show b ∈ ([] : List Addr) from hb) (by simp)), held, .of_eq noG⟩
  have hm : ∃ ob, (hidT st.heap H).get? sysModules = some ob := by
    obtain ⟨mm, hm⟩ := mods
    obtain ⟨o, es, ep, e, _⟩ := names hm
    exact ⟨o, e⟩
  refine codeAny_mono ((F _ inB (names gNs) hm tabB).run callerA [] st H ⟨[.ref a], []⟩ [.ref a] [.ref a] _ _ rfl room env (bind st (.ref a)) (.cons rfl .nil) (hsp H tabH seen)) fun r s2 h => ?_
  match r, h with
  | .error e, h => exact (show False from h).elim
  | .ok (.ret z), h =>
    obtain ⟨v, H2, os2, bare, un, held2, rz, q⟩ := h
    cases (show v = .bl true from q)
    cases (show z = Value.bool true from rz)
    have kept : ∀ b o, b ∉ cs.map (·.2) → st.heap.get? b = some o → s2.heap.get? b = some o := fun b o nb e => by
      cases q : H b with
      | none => exact un.keep b o e q (fun z => absurd (show b ∈ ([] : List Addr) from z) (by simp)) (by simp)
      | some y =>
        rcases what b y q with ⟨hb, _⟩ | ⟨_, rfl, _, rfl⟩
        · exact absurd hb nb
        · rw [← hu] at q
          have e1 := (held2 _ _ (un.frzs _ _ _ q)).1
          rw [scr] at e
          cases e
          exact e1
    have grew : ∀ p ∈ cs, ∃ more : Array Value, s2.heap.get? p.2 = some { cls := .none, data := .fields more } := fun p hp => by
      obtain ⟨more, z⟩ := un.tbls p.2 #[] (tabH p hp)
      exact ⟨_, held2 p.2 _ z⟩
    refine ⟨rfl, ⟨fun b o e => ?_, fun b o e => ?_⟩, os2, bare⟩
    · by_cases hb : b ∈ cs.map (·.2)
      · obtain ⟨p, hp, rfl⟩ := List.mem_map.mp hb
        obtain ⟨more, hm⟩ := grew p hp
        rw [isT p hp] at e
        cases e
        exact .inr (.inl ⟨((isC p hp).tab (isT p hp)).isCodeTable, rfl, #[], more, rfl, by rw [Array.empty_append]; exact hm⟩)
      · exact .inl (kept b o hb e)
    · by_cases hb : b ∈ cs.map (·.2)
      · obtain ⟨p, hp, rfl⟩ := List.mem_map.mp hb
        obtain ⟨more, hm⟩ := grew p hp
        exact ⟨_, hm⟩
      · exact ⟨o, kept b o hb e⟩
/-- what the law's def promises where the head has ended -/
def LawG (l : PySem.W.OpenLaw) (w : World) (K : PySem.W.Frag) (k n : Nat) (x : Str) (mg : Str → Option Value) (fa : Addr) (h : Heap) : Prop :=
  ∃ (fd : FuncData) (cs : List (Addr × Addr)) (sp : Sp), (∀ p ∈ cs, h.get? p.2 = some { cls := .none, data := .fields #[] }) ∧ (∀ p ∈ cs, K.lookup p.2 = none) ∧ (∀ p ∈ cs, PySem.W.CodeHd h p.1 p.2) ∧ (∀ (s : Shared) (u : Value), BindsTo s fd ⟨[u], []⟩ [(x, u)]) ∧
    (∀ (H : Hp) (a : Addr) (ns : List Int), ns.length ≤ n → (∀ p ∈ cs, H p.2 = some (.tbl #[])) → SqL K H a (ns.map V.int) → sp [.ref a] H (fun v _ => v = .bl true) fun _ _ _ => False) ∧
    ∀ base : Heap, K.In base → base.Ns mainGlobals mg → (∃ ob, base.get? sysModules = some ob) → (∀ p ∈ cs, LamX.TabB base mg p.1 p.2) → FnG l.prog w K mg base CX0 k fa fd [x] sp
theorem walk_ofG {l : PySem.W.OpenLaw} {n k : Nat} {q : Program} {loose : List Str} {XP : (Str → Option Value) → Heap → Prop} {YP : World → Heap → Prop} {d : DefRec} {K : Params → PySem.W.Frag} {x : Str}
    (hn : l.most = some n) (hn2 : n ≤ sizeLine) (hdf : d.params.defaults = []) (hi : importsNone q = true) (hr : Room k callerA) (hY : ∀ (w : World) (h : Heap), YP w h → (K w.params).In h)
    (F : ∀ (w : World) (mg : Str → Option Value) (fa : Addr) (h : Heap), YP w h → (K w.params).In h → h.Ns mainGlobals mg → mg d.name = some (.ref fa) → LawG l w (K w.params) k n x mg fa h) :
    PySem.W.WalkO q loose XP YP l.row.toRowW d [] (fun f vs => PySem.call f vs) := by
  refine Att.attach_call hn hdf fun w t0 t1 mg mb fa o pm cd doc a vs ns gr y1 ho hd hcd hmg hobj hints hlen hgen => ?_
  obtain ⟨fd, cs, sp, c1, c2, c3, c4, c5, c6⟩ := F w mg fa _ y1 (hY w _ y1) gr.T.g hmg
  exact law_callG (hY w _ y1) gr.T.g gr.T.b gr.T.builtins gr.T.nolimit hgen c1 c2 c3 gr.T.bmain hobj hints (Nat.le_trans hlen hn2) hr (let ⟨mm, hm, _⟩ := (gr.T.seer hi).mods; ⟨mm, hm⟩) c6 c4 fun H tabs sq => c5 H a ns hlen tabs sq
end Gd

/-! shown data as data: code points, lengths -/
namespace SkT
open PySem
theorem ok_of (s : String) : PyData.strOk (Str.ofString s) = true := by
  unfold PyData.strOk
  rw [Str.ofString_eq_toList, List.all_toArray, List.all_eq_true]
  intro n hn
  obtain ⟨c, _, rfl⟩ := List.mem_map.mp hn
  refine decide_eq_true ?_
  have := c.valid
  unfold Char.toNat
  rcases this with h | h
  · exact Nat.lt_trans h (by decide)
  · exact h.2
theorem ok_app {a b : Str} (h1 : PyData.strOk a = true) (h2 : PyData.strOk b = true) : PyData.strOk (a ++ b) = true := by
  unfold PyData.strOk at h1 h2 ⊢
  show (a.cps ++ b.cps).all _ = true
  rw [Array.all_append, h1, h2]
  rfl
theorem ok_join {sep : Str} (hs : PyData.strOk sep = true) : ∀ {ts : List Str}, (∀ t ∈ ts, PyData.strOk t = true) → PyData.strOk (Str.join sep ts) = true
  | [], _ => (by decide +kernel : PyData.strOk Str.empty = true)
  | [x], h => h x List.mem_cons_self
  | x :: y :: r, h => ok_app (ok_app (h x List.mem_cons_self) hs) (ok_join hs fun t ht => h t (List.mem_cons_of_mem _ ht))
theorem ok_from : ∀ {ts : List Str} {k : Nat} {acc : Str}, PyData.strOk acc = true → (∀ t ∈ ts, PyData.strOk t = true) → PyData.strOk (textFrom k acc ts) = true
  | [], _, _, ha, _ => ha
  | t :: r, k, acc, ha, h => by
    rw [textFrom]
    exact ok_from (ok_app (ok_app ha (ok_of _)) (h t List.mem_cons_self)) fun x hx => h x (List.mem_cons_of_mem _ hx)
theorem ok_list {ts : List Str} (h : ∀ t ∈ ts, PyData.strOk t = true) : PyData.strOk (listText ts) = true := ok_app (ok_from (ok_of _) h) (ok_of _)
theorem ok_tup {ts : List Str} (h : ∀ t ∈ ts, PyData.strOk t = true) : PyData.strOk (tupleText ts) = true := ok_app (ok_app (ok_of _) (ok_join (ok_of _) h)) (ok_of _)
theorem join_le : ∀ ts : List Str, (Str.join ", " ts).length ≤ (ts.map fun t => t.length + 2).sum
  | [] => Nat.le_refl _
  | [x] => by
    show x.length ≤ _
    simp
  | x :: y :: r => by
    show (x ++ ", " ++ Str.join ", " (y :: r)).length ≤ _
    rw [strLen_append, strLen_append, show (", " : Str).length = 2 by decide +kernel]
    have := join_le (y :: r)
    rw [List.map_cons, List.sum_cons]
    omega
theorem tup_le (ts : List Str) : (tupleText ts).length ≤ (ts.map fun t => t.length + 2).sum + 3 := by
  unfold tupleText
  rw [strLen_append, strLen_append, show ("(" : Str).length = 1 by decide +kernel]
  have := join_le ts
  have : (Str.ofString (if ts.length == 1 then ",)" else ")" : String)).length ≤ 2 := by
    split
    · decide +kernel
    · decide +kernel
  omega
theorem from_le : ∀ (ts : List Str) (k : Nat) (acc : Str), (textFrom k acc ts).length ≤ acc.length + (ts.map fun t => t.length + 2).sum
  | [], _, _ => by simp [textFrom]
  | t :: r, k, acc => by
    rw [textFrom]
    have ih := from_le r (k + 1) (acc ++ (if k > 0 then ", " else "" : String) ++ t)
    rw [strLen_append, strLen_append] at ih
    have : (Str.ofString (if k > 0 then ", " else "" : String)).length ≤ 2 := by
      split
      · decide +kernel
      · decide +kernel
    rw [List.map_cons, List.sum_cons]
    omega
theorem list_le (ts : List Str) : (listText ts).length ≤ (ts.map fun t => t.length + 2).sum + 2 := by
  unfold listText
  rw [strLen_append, show ("]" : Str).length = 1 by decide +kernel]
  have := from_le ts 0 "["
  rw [show ("[" : Str).length = 1 by decide +kernel] at this
  omega
/-- data that can be shown; n bounds its text, k its depth -/
structure Sw (n k : Nat) (d : PyData) : Prop where
  sh : d.showable = true
  dp : d.depth ≤ k
  ln : d.shown.length ≤ n
  ok : PyData.strOk d.shown = true
theorem Sw.mono {n m k j : Nat} {d : PyData} (h : Sw n k d) (a : n ≤ m) (b : k ≤ j) : Sw m j d := ⟨h.sh, Nat.le_trans h.dp b, Nat.le_trans h.ln a, h.ok⟩
theorem sw_all {n k : Nat} : ∀ {ds : List PyData}, (∀ x ∈ ds, Sw n k x) → PyData.showableAll ds = true ∧ PyData.depthAll ds ≤ k ∧ ((PyData.shownAll ds).map fun t => t.length + 2).sum ≤ (n + 2) * ds.length ∧ ∀ t ∈ PyData.shownAll ds, PyData.strOk t = true
  | [], _ => ⟨rfl, by simp [PyData.depthAll], by simp [PyData.shownAll], fun t h => by simp [PyData.shownAll] at h⟩
  | d :: r, h => by
    obtain ⟨a, b, c, e⟩ := sw_all (ds := r) fun x hx => h x (List.mem_cons_of_mem _ hx)
    have hd := h d List.mem_cons_self
    refine ⟨?_, ?_, ?_, ?_⟩
    · rw [PyData.showableAll, a, hd.sh]; rfl
    · rw [PyData.depthAll]; exact Nat.max_le.mpr ⟨hd.dp, b⟩
    · rw [PyData.shownAll, List.map_cons, List.sum_cons, List.length_cons, Nat.mul_succ]
      have := hd.ln
      omega
    · intro t ht
      rw [PyData.shownAll] at ht
      rcases List.mem_cons.mp ht with rfl | z
      · exact hd.ok
      · exact e t z
theorem sw_tup {n k : Nat} {ds : List PyData} (h : ∀ x ∈ ds, Sw n k x) : Sw ((n + 2) * ds.length + 3) (k + 1) (.tuple ds) := by
  obtain ⟨a, b, c, e⟩ := sw_all h
  refine ⟨by rw [PyData.showable]; exact a, by rw [PyData.depth]; omega, ?_, ?_⟩
  · rw [PyData.shown]
    exact Nat.le_trans (tup_le _) (by omega)
  · rw [PyData.shown]
    exact ok_tup e
theorem sw_lst {n k : Nat} {ds : List PyData} (h : ∀ x ∈ ds, Sw n k x) : Sw ((n + 2) * ds.length + 2) (k + 1) (.list ds) := by
  obtain ⟨a, b, c, e⟩ := sw_all h
  refine ⟨by rw [PyData.showable]; exact a, by rw [PyData.depth]; omega, ?_, ?_⟩
  · rw [PyData.shown]
    exact Nat.le_trans (list_le _) (by omega)
  · rw [PyData.shown]
    exact ok_list e
theorem log_nat {n : Nat} (h : n < 10 ^ 20) : (n : Nat).log2 < 1920 := by
  by_cases h0 : n = 0
  · rw [h0]; decide
  · exact Nat.lt_of_lt_of_le ((Nat.log2_lt h0).mpr (Nat.lt_of_lt_of_le h (show 10 ^ 20 ≤ 2 ^ 70 by decide))) (by decide)
theorem sw_int {i : Int} {n : Nat} (h : i.natAbs < 10 ^ 20) (hl : (PyData.shown (.int i)).length ≤ n) : Sw n 0 (.int i) := ⟨by simp only [PyData.showable, decide_eq_true_eq]; exact log_nat h, by simp [PyData.depth], hl, ok_of _⟩
theorem sw_bl (b : Bool) : Sw 5 0 (.bool b) := by cases b <;> exact ⟨rfl, by simp [PyData.depth], by decide +kernel, by decide +kernel⟩
theorem sw_non : Sw 4 0 .none := ⟨rfl, by simp [PyData.depth], by decide +kernel, by decide +kernel⟩
/-- two rows of two words as data -/
theorem shaped2 {a b : Str} (h1 : PyData.strOk a = true) (h2 : PyData.strOk b = true) : SeqAt.shaped (.list [.str a, .str b]) = true := by
  unfold SeqAt.shaped
  simp [PyData.canLay0, PyData.canLayAll0, h1, h2, PyData.depth, PyData.depthAll]
theorem shaped3 {a b : Str} {c : Bool} (h1 : PyData.strOk a = true) (h2 : PyData.strOk b = true) : SeqAt.shaped (.list [.str a, .str b, .bool c]) = true := by
  unfold SeqAt.shaped
  simp [PyData.canLay0, PyData.canLayAll0, h1, h2, PyData.depth, PyData.depthAll]
end SkT

/-! repr of any plain data, also behind a caught error; the types of plain data; slices of lists of counts -/
namespace RpA
open PySem L2 Gd
theorem ext_same {H H' : Hp} (s : Same H H') : LamX.ExtN H H' := fun b o e _ => s b o e
mutual
theorem dq_ext {H H' : Hp} (s : LamX.ExtN H H') : ∀ {v : V} {d : PyData}, Dq H v d → Dq H' v d
  | _, _, .non => .non
  | _, _, .bl b => .bl b
  | _, _, .int i => .int i
  | _, _, .str x => .str x
  | _, _, .lst ha hd => .lst (s _ _ ha (by intro ps z; cases z)) (dqa_ext s hd)
  | _, _, .tup ha hd => .tup (s _ _ ha (by intro ps z; cases z)) (dqa_ext s hd)
  | _, _, .dct ha => .dct (s _ _ ha (by intro ps z; cases z))
theorem dqa_ext {H H' : Hp} (s : LamX.ExtN H H') : ∀ {vs : List V} {ds : List PyData}, DqA H vs ds → DqA H' vs ds
  | _, _, .nil => .nil
  | _, _, .cons a b => .cons (dq_ext s a) (dqa_ext s b)
end
theorem dqa_app {H : Hp} : ∀ {vs ws : List V} {ds es : List PyData}, DqA H vs ds → DqA H ws es → DqA H (vs ++ ws) (ds ++ es)
  | _, _, _, _, .nil, b => b
  | _, _, _, _, .cons a t, b => .cons a (dqa_app t b)
theorem dqa_len {H : Hp} : ∀ {vs : List V} {ds : List PyData}, DqA H vs ds → vs.length = ds.length
  | _, _, .nil => rfl
  | _, _, .cons _ t => by rw [List.length_cons, List.length_cons, dqa_len t]
theorem dqa_mem {H : Hp} : ∀ {vs : List V} {ds : List PyData}, DqA H vs ds → ∀ x ∈ vs, ∃ d ∈ ds, Dq H x d
  | _, _, .nil, _, h => nomatch h
  | _, _, .cons a t, x, h => by
    rcases List.mem_cons.mp h with rfl | z
    · exact ⟨_, List.mem_cons_self, a⟩
    · obtain ⟨d, m, q⟩ := dqa_mem t x z
      exact ⟨d, List.mem_cons_of_mem _ m, q⟩
/-- the name of the type -/
def tyN : PyData → String
  | .none => "NoneType"
  | .bool _ => "bool"
  | .int _ => "int"
  | .str _ => "str"
  | .list _ => "list"
  | .tuple _ => "tuple"
  | .dict _ => "dict"
theorem dq_ty {K : PySem.W.Frag} {H : Hp} {v : V} {d : PyData} (q : Dq H v d) : TyX K H v (.type (tyN d)) := by
  cases q with
  | non => exact .base .non
  | bl b => exact .base (.bl b)
  | int i => exact .base (.int i)
  | str x => exact .base (.str x)
  | lst h _ => exact .base (.lst h)
  | tup h _ => exact .base (.tup h)
  | dct h => exact .base (.dK h)
/-- repr of such data -/
def rReprA : List V → Hp → VK → Prop := fun xs H Q => ∃ (v : V) (d : PyData) (n : Nat), xs = [v] ∧ Dq H v d ∧ SkT.Sw n 64 d ∧ n ≤ sizeLine ∧ Q (.str d.shown) H
theorem call_reprA {X : Cx} {ob : Obj} (hg : X.A.guards = some []) (hu : X.A.units + 66 < cLine) (sm : X.base.get? sysModules = some ob) : CallR X (.builtin "repr") rReprA := by
  intro pins s σ H xs us Q I r h
  obtain ⟨v, d, n, rfl, hd, hs, hn, q⟩ := h
  obtain ⟨u, rfl, ru⟩ := vals1 r
  have ref : ∀ a, v = .ref a → wpAny (model X.prog X.w) X.A (PySem.call (.builtin "repr") [u]) (fun u' s' => ∃ (v' : V) (H' : Hp), Inv X pins σ H' s' ∧ RelV v' u' ∧ Q v' H') X.xe s := fun a e => by
    subst e
    cases (show u = Value.ref a from ru)
    obtain ⟨as, h1, h2⟩ := hd.reads I (u := .ref a) rfl
    have no : sysModules ∉ as := fun hm => h2 _ hm (I.env0.bs _ _ sm).2
    have := hs.dp
    refine repr_of_reads' h1 hs.sh (fun _ => no) hg (by omega) (fun _ _ e => e) (fun h' u tk hk => ?_) (Nat.le_trans hs.ln hn)
    exact ⟨.str d.shown, H, I.kept (t' := tk) hk, ⟨_, rfl⟩, q⟩
  cases hd with
  | non =>
    cases ru
    exact PySem.P.repr_of_none ⟨.str _, H, I.tok _, ⟨_, rfl⟩, q⟩
  | bl b =>
    cases ru
    exact PySem.P.repr_of_bool ⟨.str _, H, I.tok _, ⟨_, rfl⟩, q⟩
  | int i =>
    obtain ⟨t, rfl⟩ := ru
    exact PySem.P.repr_of_int (by have := hs.sh; simpa [PyData.showable] using this) ⟨.str _, H, I.tok _, ⟨_, rfl⟩, q⟩
  | str x =>
    obtain ⟨t, rfl⟩ := ru
    exact PySem.P.repr_of_str ⟨.str _, H, I.tok _, ⟨_, rfl⟩, q⟩ (Nat.le_trans hs.ln hn)
  | lst ha hd => exact ref _ rfl
  | tup ha hd => exact ref _ rfl
  | dct ha => exact ref _ rfl
theorem sl_from {K : PySem.W.Frag} {Q : VK} {H : Hp} {l : Addr} {vs : List V} {n : Int} {k : Nat} (hl : H l = some (.lst vs)) (e : n = (k : Nat)) (h : ∀ z, H z = none → ∀ H', Same H H' → H' z = some (.lst (vs.drop k)) → Q (.ref z) H') : rSlL K (.ref l) (some n) none H Q := by
  refine ⟨l, vs, rfl, SqL.of hl, fun z nz => ?_⟩
  rw [e, Cm.cut_from]
  exact h z nz _ (fun b o q => by rw [upd_ne (ne_of_none q nz)]; exact q) upd_same
theorem sl_to {K : PySem.W.Frag} {Q : VK} {H : Hp} {l : Addr} {vs : List V} {n : Int} {k : Nat} (hl : H l = some (.lst vs)) (e : n = (k : Nat)) (hk : k ≤ vs.length) (h : ∀ z, H z = none → ∀ H', Same H H' → H' z = some (.lst (vs.take k)) → Q (.ref z) H') : rSlL K (.ref l) none (some n) H Q := by
  refine ⟨l, vs, rfl, SqL.of hl, fun z nz => ?_⟩
  rw [e, Cm.cut_to _ _ hk]
  exact h z nz _ (fun b o q => by rw [upd_ne (ne_of_none q nz)]; exact q) upd_same
theorem cat {Q : VK} {H : Hp} {p r : Addr} {xs ys : List V} (hp : H p = some (.lst xs)) (hr : H r = some (.lst ys)) (hl : xs.length + ys.length ≤ sizeLine) (k : ∀ z, H z = none → ∀ H', Same H H' → H' z = some (.lst (xs ++ ys)) → Q (.ref z) H') : rCat (.ref p) (.ref r) H Q :=
  ⟨p, r, xs, ys, rfl, rfl, hp, hr, hl, fun z nz => k z nz _ (fun b o q => by rw [upd_ne (ne_of_none q nz)]; exact q) upd_same⟩
end RpA

/-! laws that hand lambdas to _law_came: what stays, the tables of code -/
namespace My
open PySem L2
def qLam : Str := ("_law_right" : Str) ++ ".<locals>." ++ "<lambda>"
/-- all but the jar and the tables is as it was -/
def OffN (j : Addr) (H H' : Hp) : Prop := ∀ b o, b ≠ j → (∀ ps, o ≠ .tbl ps) → H b = some o → H' b = some o
theorem OffN.refl {j : Addr} {H : Hp} : OffN j H H := fun _ _ _ _ h => h
theorem OffN.trans {j : Addr} {H H1 H2 : Hp} (a : OffN j H H1) (b : OffN j H1 H2) : OffN j H H2 := fun c o n t h => b c o n t (a c o n t h)
theorem Off.offN {j : Addr} {H H' : Hp} (a : Off j H H') : OffN j H H' := fun c o n _ h => a c o n h
theorem extN_off {j : Addr} {H H' : Hp} (a : LamX.ExtN H H') : OffN j H H' := fun c o _ t h => a c o h t
theorem Jar.ext {j : Addr} {H H' : Hp} (h : Jar H j) (a : LamX.ExtN H H') : Jar H' j := by
  obtain ⟨x, y, z, e⟩ := h
  exact ⟨x, y, z, a _ _ e (by intro ps q; cases q)⟩
theorem tabs_off {T : List (Addr × Str)} {j : Addr} {H H' : Hp} (J : Jar H j) (o : Off j H H') (t : LamX.Tabs T H) : LamX.Tabs T H' := fun p hp => by
  obtain ⟨x, y, z, q⟩ := J
  obtain ⟨ps, a1, a2, a3⟩ := t p hp
  refine ⟨ps, o _ _ (fun e => ?_) a1, a2, fun pos cv hcv => ?_⟩
  · rw [e, q] at a1
    cases a1
  · obtain ⟨c, e, h⟩ := a3 pos cv hcv
    refine ⟨c, e, o _ _ (fun e => ?_) h⟩
    rw [e, q] at h
    cases h
def spRight (PR : Addr) : Sp := fun vs H Q _ => ∃ j : Addr, vs = [.ref j] ∧ Jar H j ∧ LamX.Tabs [(PR, qLam)] H ∧ ∀ H', OffN j H H' → LamX.Tabs [(PR, qLam)] H' → Q (.bl true) H'
/-- the state of a law's turns: the jar, the tables -/
structure Ts (PR j : Addr) (H0 H : Hp) : Prop where
  off : OffN j H0 H
  jar : Jar H j
  tab : LamX.Tabs [(PR, qLam)] H
theorem Ts.same {PR j : Addr} {H0 H H' : Hp} (t : Ts PR j H0 H) (s : Same H H') : Ts PR j H0 H' := ⟨t.off.trans (Same.off s).offN, t.jar.same s, t.tab.ext s⟩
theorem Ts.off' {PR j : Addr} {H0 H H' : Hp} (t : Ts PR j H0 H) (o : Off j H H') (J : Jar H' j) : Ts PR j H0 H' := ⟨t.off.trans o.offN, J, tabs_off t.jar o t.tab⟩
theorem Ts.ext {PR j : Addr} {H0 H H' : Hp} (t : Ts PR j H0 H) (o : LamX.ExtN H H') (T : LamX.Tabs [(PR, qLam)] H') : Ts PR j H0 H' := ⟨t.off.trans (extN_off o), t.jar.ext o, T⟩
end My

/-! what a law's _law_came asks of the classes that it catches -/
namespace CmH
open PySem L2 IsX
theorem ss_imp {X : Cx} {ss : List Stmt} {t t' : L2.TS} (h : PSs X ss t) (f : ∀ D σ H, t' D σ H → t D σ H) : PSs X ss t' := ⟨fun pins s σ H D I q => h.run pins s σ H D I (f _ _ _ q)⟩
/-- an error with a field; CB its own base, bt Python's -/
structure HF (K : PySem.W.Frag) (fld : Str) (bt : String) (C CB : Addr) : Prop where
  x : XiC K C
  n : PySem.W.findIn K (.ref C) fld = some none
  k1 : PySem.W.kitOne K (.ref C) (.ref CB) = some true
  k2 : PySem.W.kitOne K (.ref C) (.type bt) = some true
/-- an error without fields -/
structure HN (K : PySem.W.Frag) (bt : String) (C CB : Addr) : Prop where
  x : ExcC K C
  k1 : PySem.W.kitOne K (.ref C) (.ref CB) = some true
  k2 : PySem.W.kitOne K (.ref C) (.type bt) = some true
def tRowF (D : Addr) (nm fld : Str) (a : Addr) (cls : Value) (d : Option Addr) : L2.TS := fun Z σ H => cls = .ref D ∧ ∃ (dd : Addr) (v : V), d = some dd ∧ H dd = some (.xd [(fld, v)]) ∧ σ[2]? = some (some (.ref a)) ∧ ∀ p, H p = none → Z.rt (.ref p) (upd H p (.lst [.str nm, v, .bl true]))
def tRowN (D : Addr) (nm : Str) (a : Addr) (cls : Value) (d : Option Addr) : L2.TS := fun Z σ H => cls = .ref D ∧ d = none ∧ σ[2]? = some (some (.ref a)) ∧ ∀ p, H p = none → Z.rt (.ref p) (upd H p (.lst [.str nm, .bl true]))
def tGiv : L2.TS := fun D σ H => ∃ u : V, σ[1]? = some (some u) ∧ ∀ p, H p = none → D.rt (.ref p) (upd H p (.lst [.str "given", u]))
end CmH

namespace My
open PySem L2 Cm LM IsX CmH 
abbrev sCame : Stmt := top 71
structure TxCm (K : PySem.W.Frag) (mg : Str → Option Value) (c0 c1 c2 c3 : Addr) where
  isi : mg "isinstance" = none
  tValueError : mg "ValueError" = none
  oInputError : Addr
  gInputError : mg "InputError" = some (.ref oInputError)
  g0 : mg "InvalidName" = some (.ref c0)
  h0 : HF K "value" "ValueError" c0 oInputError
  x0_0 : PySem.W.exmOne K (.ref c0) (.ref c0) = some true
  g1 : mg "InvalidPlace" = some (.ref c1)
  h1 : HF K "value" "ValueError" c1 oInputError
  x1_0 : PySem.W.exmOne K (.ref c1) (.ref c0) = some false
  x1_1 : PySem.W.exmOne K (.ref c1) (.ref c1) = some true
  g2 : mg "NotALoop" = some (.ref c2)
  h2 : HF K "value" "ValueError" c2 oInputError
  x2_0 : PySem.W.exmOne K (.ref c2) (.ref c0) = some false
  x2_1 : PySem.W.exmOne K (.ref c2) (.ref c1) = some false
  x2_2 : PySem.W.exmOne K (.ref c2) (.ref c2) = some true
  g3 : mg "NotASource" = some (.ref c3)
  h3 : HF K "value" "ValueError" c3 oInputError
  x3_0 : PySem.W.exmOne K (.ref c3) (.ref c0) = some false
  x3_1 : PySem.W.exmOne K (.ref c3) (.ref c1) = some false
  x3_2 : PySem.W.exmOne K (.ref c3) (.ref c2) = some false
  x3_3 : PySem.W.exmOne K (.ref c3) (.ref c3) = some true
  cm : Df K mg "_law_came" sCame ["_law_ask"]
theorem scCame : FnScope ["_law_ask", "_law_given", "e"] ["_law_ask"] (defScope sCame) := ⟨rfl, rfl, rfl, by decide +kernel, rfl, by decide +kernel, by decide +kernel⟩
/-- the row that an error makes -/
def RwOf (c0 c1 c2 c3 : Addr) (cls : Value) (d : Option Addr) (H : Hp) (row : List V) : Prop :=
  (cls = .ref c0 ∧ ∃ (dd : Addr) (v : V), d = some dd ∧ H dd = some (.xd [(("value" : Str), v)]) ∧ row = [.str "InvalidName", v, .bl true]) ∨ (cls = .ref c1 ∧ ∃ (dd : Addr) (v : V), d = some dd ∧ H dd = some (.xd [(("value" : Str), v)]) ∧ row = [.str "InvalidPlace", v, .bl true]) ∨ (cls = .ref c2 ∧ ∃ (dd : Addr) (v : V), d = some dd ∧ H dd = some (.xd [(("value" : Str), v)]) ∧ row = [.str "NotALoop", v, .bl true]) ∨ (cls = .ref c3 ∧ ∃ (dd : Addr) (v : V), d = some dd ∧ H dd = some (.xd [(("value" : Str), v)]) ∧ row = [.str "NotASource", v, .bl true])
def TCame (c0 c1 c2 c3 : Addr) : (XK → Hp → VK → Prop) → Hp → VK → Prop := fun tl H Q =>
  tl (fun cls d H2 => ∃ row, RwOf c0 c1 c2 c3 cls d H2 row ∧ ∀ p, H2 p = none → Q (.ref p) (upd H2 p (.lst row))) H
    (fun v H2 => ∃ u : V, some (some v) = some (some u) ∧ ∀ p, H2 p = none → Q (.ref p) (upd H2 p (.lst [.str "given", u])))
theorem came_gives {X : Cx} {c0 c1 c2 c3 : Addr} {cdg : Value} {q : Str} (T : TxCm X.K X.mg c0 c1 c2 c3) :
    LamX.GivesTo X ["_law_ask", "_law_given", "e"] "_law_came" (defScope sCame) T.cm.f cdg (defBody sCame) "_law_ask" q (TCame c0 c1 c2 c3) := by
  intro f c' s H Q tl act hc h
  refine ⟨_, pss_cons (TryAs.ps_try_asN (X := (cxOf C8.CX0 X.prog X.w X.K X.mg X.base ["_law_ask", "_law_given", "e"] "_law_came" (defScope sCame) T.cm.f cdg X.A X.stack s H C8.E0).nox) (i := 2) (n := "e")
      (ks := [⟨.ref c0, tRowF c0 "InvalidName" "value"⟩, ⟨.ref c1, tRowF c1 "InvalidPlace" "value"⟩, ⟨.ref c2, tRowF c2 "NotALoop" "value"⟩, ⟨.ref c3, tRowF c3 "NotASource" "value"⟩])
      (tb := fun W D σ H => ∃ Ech : XK, (∀ (cls : Value) (d : Option Addr) (σ' : L2.St) (H' : Hp), Ech cls d H' → σ'.length = 3 → W cls d σ' H') ∧ σ[0]? = some (some (.ref f)) ∧ H c' = some (LamX.CodeO c' q) ∧ tl Ech H fun v H2 => gName 1 v σ H2 D.nx)
      (out := fun _ _ _ _ => False) rfl rfl scCame.nd rfl rfl LamX.takes0 (fun W pn xe tk _ => ?_)
      (.more ⟨rfl, by decide, .inl T.g0⟩ (fun a oe cls d pn hz hf => ?_) (.more ⟨rfl, by decide, .inl T.g1⟩ (fun a oe cls d pn hz hf => ?_) (.more ⟨rfl, by decide, .inl T.g2⟩ (fun a oe cls d pn hz hf => ?_) (.more ⟨rfl, by decide, .inl T.g3⟩ (fun a oe cls d pn hz hf => ?_) .stop)))))
    (ss_imp (t' := tGiv) (pss_one (ps_ret (pe_lst (pa_cons pe_str (pa_cons (pv 1) pa_nil))))) (fun D σ H ⟨u, hσ, k⟩ => ⟨_, hσ, (by show 2 ≤ sizeLine; decide), k⟩)), ?_⟩
  · refine ⟨fun pins s2 σ H2 D I hh => ?_⟩
    obtain ⟨Ech, hW, h1, h2, h3⟩ := hh
    have hp := fun p1 p2 => act _ pn xe Ech p1 p2 (takes_len tk) (fun cls d σ' H' z => hW cls d σ' H' z)
    exact (pss_one (ps_set (i := 1) scCame.nd rfl (.inl rfl) (hp _ _))).run pins s2 σ H2 D I ⟨h1, h2, h3⟩
  · refine ss_imp (pss_one (ps_ret (pe_lst (pa_cons pe_str (pa_cons (pe_xf T.h0.x.xf T.h0.n hz hf (pv 2)) (pa_cons (pe_and (pe_callB (call_isX T.h0.x hz hf) (by rfl) T.isi (by decide +kernel) (pa_cons (pv 2) (pa_cons (pe_glob (v := .ref T.oInputError) rfl T.gInputError rfl) pa_nil)))
        (pe_one (pe_callB (call_isX T.h0.x hz hf) (by rfl) T.isi (by decide +kernel) (pa_cons (pv 2) (pa_cons (pe_bltn (v := .ty "ValueError") (by rfl) T.tValueError (by decide +kernel) rfl) pa_nil))))) pa_nil)))))) ?_
    rintro Z σ H ⟨rfl, dd, v, rfl, hdd, hσ, k⟩
    refine ⟨_, hσ, rfl, rfl, dd, _, v, rfl, hdd, by simp [List.lookup], ?_⟩
    refine ⟨_, hσ, .ref T.oInputError, .ref T.oInputError, true, dd, _, rfl, fun u z => z, rfl, rfl, hdd, T.h0.k1, true, rfl, iteT ?_⟩
    refine ⟨_, hσ, .ty "ValueError", .type "ValueError", true, dd, _, rfl, fun u z => z, rfl, rfl, hdd, T.h0.k2, ?_⟩
    exact ⟨by show 3 ≤ sizeLine; decide, k⟩
  · refine ss_imp (pss_one (ps_ret (pe_lst (pa_cons pe_str (pa_cons (pe_xf T.h1.x.xf T.h1.n hz hf (pv 2)) (pa_cons (pe_and (pe_callB (call_isX T.h1.x hz hf) (by rfl) T.isi (by decide +kernel) (pa_cons (pv 2) (pa_cons (pe_glob (v := .ref T.oInputError) rfl T.gInputError rfl) pa_nil)))
        (pe_one (pe_callB (call_isX T.h1.x hz hf) (by rfl) T.isi (by decide +kernel) (pa_cons (pv 2) (pa_cons (pe_bltn (v := .ty "ValueError") (by rfl) T.tValueError (by decide +kernel) rfl) pa_nil))))) pa_nil)))))) ?_
    rintro Z σ H ⟨rfl, dd, v, rfl, hdd, hσ, k⟩
    refine ⟨_, hσ, rfl, rfl, dd, _, v, rfl, hdd, by simp [List.lookup], ?_⟩
    refine ⟨_, hσ, .ref T.oInputError, .ref T.oInputError, true, dd, _, rfl, fun u z => z, rfl, rfl, hdd, T.h1.k1, true, rfl, iteT ?_⟩
    refine ⟨_, hσ, .ty "ValueError", .type "ValueError", true, dd, _, rfl, fun u z => z, rfl, rfl, hdd, T.h1.k2, ?_⟩
    exact ⟨by show 3 ≤ sizeLine; decide, k⟩
  · refine ss_imp (pss_one (ps_ret (pe_lst (pa_cons pe_str (pa_cons (pe_xf T.h2.x.xf T.h2.n hz hf (pv 2)) (pa_cons (pe_and (pe_callB (call_isX T.h2.x hz hf) (by rfl) T.isi (by decide +kernel) (pa_cons (pv 2) (pa_cons (pe_glob (v := .ref T.oInputError) rfl T.gInputError rfl) pa_nil)))
        (pe_one (pe_callB (call_isX T.h2.x hz hf) (by rfl) T.isi (by decide +kernel) (pa_cons (pv 2) (pa_cons (pe_bltn (v := .ty "ValueError") (by rfl) T.tValueError (by decide +kernel) rfl) pa_nil))))) pa_nil)))))) ?_
    rintro Z σ H ⟨rfl, dd, v, rfl, hdd, hσ, k⟩
    refine ⟨_, hσ, rfl, rfl, dd, _, v, rfl, hdd, by simp [List.lookup], ?_⟩
    refine ⟨_, hσ, .ref T.oInputError, .ref T.oInputError, true, dd, _, rfl, fun u z => z, rfl, rfl, hdd, T.h2.k1, true, rfl, iteT ?_⟩
    refine ⟨_, hσ, .ty "ValueError", .type "ValueError", true, dd, _, rfl, fun u z => z, rfl, rfl, hdd, T.h2.k2, ?_⟩
    exact ⟨by show 3 ≤ sizeLine; decide, k⟩
  · refine ss_imp (pss_one (ps_ret (pe_lst (pa_cons pe_str (pa_cons (pe_xf T.h3.x.xf T.h3.n hz hf (pv 2)) (pa_cons (pe_and (pe_callB (call_isX T.h3.x hz hf) (by rfl) T.isi (by decide +kernel) (pa_cons (pv 2) (pa_cons (pe_glob (v := .ref T.oInputError) rfl T.gInputError rfl) pa_nil)))
        (pe_one (pe_callB (call_isX T.h3.x hz hf) (by rfl) T.isi (by decide +kernel) (pa_cons (pv 2) (pa_cons (pe_bltn (v := .ty "ValueError") (by rfl) T.tValueError (by decide +kernel) rfl) pa_nil))))) pa_nil)))))) ?_
    rintro Z σ H ⟨rfl, dd, v, rfl, hdd, hσ, k⟩
    refine ⟨_, hσ, rfl, rfl, dd, _, v, rfl, hdd, by simp [List.lookup], ?_⟩
    refine ⟨_, hσ, .ref T.oInputError, .ref T.oInputError, true, dd, _, rfl, fun u z => z, rfl, rfl, hdd, T.h3.k1, true, rfl, iteT ?_⟩
    refine ⟨_, hσ, .ty "ValueError", .type "ValueError", true, dd, _, rfl, fun u z => z, rfl, rfl, hdd, T.h3.k2, ?_⟩
    exact ⟨by show 3 ≤ sizeLine; decide, k⟩
  · refine ⟨_, fun cls d σ' H' hh hl => ?_, rfl, hc, h⟩
    obtain ⟨row, hn, k⟩ := hh
    obtain ⟨x0, x1, x2, rfl⟩ := len3 hl
    rcases hn with ⟨rfl, dd, v, rfl, hdd, rfl⟩ | ⟨rfl, dd, v, rfl, hdd, rfl⟩ | ⟨rfl, dd, v, rfl, hdd, rfl⟩ | ⟨rfl, dd, v, rfl, hdd, rfl⟩
    · exact ⟨true, T.x0_0, fun a na => ⟨rfl, dd, v, rfl, hdd, rfl, k⟩⟩
    · exact ⟨false, T.x1_0, true, T.x1_1, fun a na => ⟨rfl, dd, v, rfl, hdd, rfl, k⟩⟩
    · exact ⟨false, T.x2_0, false, T.x2_1, true, T.x2_2, fun a na => ⟨rfl, dd, v, rfl, hdd, rfl, k⟩⟩
    · exact ⟨false, T.x3_0, false, T.x3_1, false, T.x3_2, true, T.x3_3, fun a na => ⟨rfl, dd, v, rfl, hdd, rfl, k⟩⟩
end My

/-! repr of a list in which instances with an own __repr__ stand -/
namespace RpL
open PySem PySem.Spec PyProof.Rows L2 Builtin Builtin.List
section
variable {M : Model} {prog : Program} {w : World} {A : Around} {E : Value → Shared → Prop} {s : Shared} {K : PySem.W.Frag} {x C f : Addr} {ox : Obj} {od : Option Obj} {name : Str}
theorem boundBy_K {last : Value → List Value → Sem Value} {Q : Option Value → Shared → Prop} (X : K.In s.heap) (I : PySem.W.InstAt s.heap x ox C od) (hs : PySem.W.findIn K (.ref C) name = some (some (.ref f))) (hf : PySem.W.isFn K (.ref f) = true)
    (h : wpAny M A (last (.ref f) [.ref x]) (fun v => Q (some v)) E s) : wpAny M A (callSpecialIfBoundBy? last (.ref x) name) Q E s := by
  simp only [callSpecialIfBoundBy?, bindSpecialIfBound?]
  refine wpAny_holding (wpAny_bind (wpAny_bind (wpAny_bind (I.type.here ((PySem.W.looks_findIn X hs).here ?_)))))
  refine wpAny_bind (wpAny_askSetting (wpAny_ite ?_))
  have fin : wpAny M A (last (.ref f) [.ref x] >>= fun v => pure (some v)) Q E s := wpAny_bind (wpAny_mono h (fun v s' h' => wpAny_pure h') fun _ _ h' => h')
  split
  · exact wpAny_bind ((PySem.W.bind_fn X _ (beq_iff_eq.mp hf)).here (wpAny_pure (by exact fin)))
  · exact wpAny_tryCatch (wpAny_bind ((PySem.W.bind_fn X _ (beq_iff_eq.mp hf)).here (wpAny_pure (by exact fin))))
end
/-- it shows as t wherever one asks below the running body, and only makes objects -/
def It (X : Cx) (n : Nat) (H : Hp) (v : V) (t : Str) : Prop :=
  ∀ (H1 : Hp), Same H H1 → ∀ (A : Around), Sub X n A → ∀ (pins : List (Addr × Obj)) (s : Shared) (σ : L2.St) (u : Value) (base : Nat) (Q : Str → Shared → Prop) (E : Value → Shared → Prop), Inv X pins σ H1 s → RelV v u → base + t.length ≤ sizeLine →
    (∀ (s' : Shared) (H2 : Hp), Same H1 H2 → Inv X pins σ H2 s' → Q t s') → wpAny (model X.prog X.w) A (pyReprUnder base u) Q E s
section
variable {X : Cx} {n : Nat} {H : Hp}
theorem it_is {v : V} {t : Str} (h : ∀ u, RelV v u → ReprIs X.prog X.w u t) : It X n H v t := fun H1 _ A _ pins s σ u base Q E I ru hb hQ =>
  h u ru base hb A E s Q fun tk => hQ _ H1 (Same.refl _) (I.tok tk)
theorem it_str {x : Str} (h : (reprText x).length ≤ sizeLine) : It X n H (.str x) (reprText x) := it_is fun u ru => by
  obtain ⟨t, rfl⟩ := ru
  exact ReprIs.str x t h
theorem it_int {i : Int} (h : i.natAbs.log2 < 1920) : It X n H (.int i) (toString i) := it_is fun u ru => by
  obtain ⟨t, rfl⟩ := ru
  exact ReprIs.int t h
theorem it_bl (b : Bool) : It X n H (.bl b) (if b then "True" else "False") := it_is fun u ru => by
  cases ru
  exact ReprIs.bool b
theorem it_non : It X n H .non "None" := it_is fun u ru => by
  cases ru
  exact ReprIs.none
/-- an instance with an own __repr__ -/
theorem it_own {C g o dx : Addr} {fs : List (Str × V)} {sp : Sp} {t : Str} (hs : PySem.W.findIn X.K (.ref C) "__repr__" = some (some (.ref g))) (hf : PySem.W.isFn X.K (.ref g) = true) (F : FnR X.prog X.w X.K X.mg X.base CX0 n g sp) (ho : H o = some (.ins C dx fs))
    (hsp : ∀ H1, Same H H1 → sp [.ref o] H1 (fun v H2 => v = .str t ∧ Same H1 H2) fun _ _ _ => False) : It X n H (.ref o) t := by
  intro H1 s1 A sb pins s σ u base Q E I ru hb hQ
  cases (show u = Value.ref o from ru)
  obtain ⟨ox, od, J⟩ := Own.inst_of I (s1 _ _ ho)
  have hu := sb.room.un
  refine wpAny_pyReprUnder_ref (by omega) ?_
  unfold pyReprObjUnder pyReprObjBy
  refine wpAny_bind (wpAny_cRoomFor (by omega) ?_)
  refine wpAny_bind (wpAny_bind (J.type.here ((PySem.W.looks_findIn I.kIn hs).here ?_)))
  show wpAny _ _ (if (some (Value.ref g)).isNone = true then _ else _) _ _ _
  rw [if_neg (by simp)]
  have e0 : Env0 X.prog X.w X.K X.mg X.base A X.stack s H1 := ⟨sb.fr.trans I.env0.frames, I.env0.mod, I.env0.bs, I.env0.bsz, I.env0.funs, I.env0.frf, I.env0.hok, I.env0.bare⟩
  refine wpAny_bind (m := callSpecialIfBoundBy? _ (.ref o) (Str.ofString "__repr__")) (boundBy_K I.kIn J hs hf ?_)
  show wpAny _ _ (call (.ref g) ([Value.ref o] ++ [])) _ _ _
  refine wpAny_call (codeAny_mono (F A X.stack s H1 [.ref o] [.ref o] _ _ sb.room e0 (.cons rfl .nil) (hsp H1 s1)) fun r s' hq => ?_)
  cases r with
  | error e => exact (show False from hq).elim
  | ok fl =>
    cases fl with
    | ret u =>
      obtain ⟨v, H2, I2, rv, ev, s2⟩ := I.after hq
      subst ev
      obtain ⟨tk, rfl⟩ := (show ∃ tk, u = Value.str t tk from rv)
      exact wpAny_bind (wpAny_isInstance (T := "str") (b := true) rfl isSubtype_str_str (wpAny_pure ⟨_, _, rfl, hQ s' H2 s2 I2⟩))
    | next => exact False.elim hq
    | brk => exact False.elim hq
    | cont => exact False.elim hq
end
section
variable {X : Cx} {n : Nat} {H : Hp}
theorem sub_under {A : Around} {args : Args} (sb : Sub X (n + 1) A) : Sub X n (A.under (.builtin "list.__repr__.loop" args)) := by
  have h1 := sb.room.hd
  have h2 := sb.room.dp
  have h3 := sb.room.un
  have e1 : (A.under (.builtin "list.__repr__.loop" args)).handled = A.handled := by first | rfl | simp [Around.under]
  have e2 : (A.under (.builtin "list.__repr__.loop" args)).depth = A.depth + 1 := by
    show A.depth + (Code.builtin "list.__repr__.loop" args).weight = _
    have : (Code.builtin "list.__repr__.loop" args).weight = 1 := by
      unfold Code.weight
      rw [isGuard_list_loop]
      rfl
    rw [this]
  have e3 : (A.under (.builtin "list.__repr__.loop" args)).frames = A.frames := by first | rfl | simp [Around.under, Code.frames, Code.isFrame]
  have e4 := units_under_list_loop A args
  exact ⟨⟨e1.trans h1, by rw [e2]; omega, by rw [e4]; omega⟩, e3.trans sb.fr⟩
theorem loop {A : Around} {R : Result → Shared → Prop} {a P : Addr} {vs : List V} {ts : List Str} {base : Nat} {pins : List (Addr × Obj)} {σ : L2.St} (sb : Sub X (n + 1) A) (hP0 : H P = none) (ha : H a = some (.lst vs)) (hlen : ts.length = vs.length) (hT : ∀ (i : Nat) (v : V), vs[i]? = some v → ∃ t, ts[i]? = some t ∧ It X n H v t) (hsz : base + (listText ts).length ≤ sizeLine)
    (hR : ∀ (s' : Shared) (H2 : Hp) (tk : Tok), Same H H2 → Inv X pins σ H2 s' → R (.ok (.ret (.str (listText ts) tk))) s') :
    ∀ (k i : Nat) (s : Shared) (H1 : Hp), vs.length - i = k → i ≤ vs.length → Same H H1 → Inv X pins σ H1 s → H1 P = some (.lst ((ts.take i).map V.str)) →
    codeAny (model X.prog X.w) A (.builtin "list.__repr__.loop" ⟨[.ref a, rawInt i, .ref P, rawInt ((base + piled (ts.take i) : Nat) : Int)], []⟩) R s := by
  have hX : (listText ts).length = (textFrom 0 "[" ts).length + 1 := by
    show (textFrom 0 "[" ts ++ "]").length = _
    rw [strLen_append]; rfl
  have hL := textFrom_len ts 0 "["
  have hsz2 : ∀ t ∈ ts, t.length ≤ sizeLine := fun t ht => by
    have h2 := hL.2.1 t ht
    omega
  have hsz3 : (listText ts).length ≤ sizeLine := by omega
  have hp3 := piled_le_listText ts
  have vals_str : ∀ (l : List Str) (its : List Value), Vals (l.map V.str) its → ∃ d : List (Str × Tok), its = strValues d ∧ d.map (·.1) = l := by
    intro l
    induction l with
    | nil =>
      intro its h
      cases h
      exact ⟨[], rfl, rfl⟩
    | cons x r ih =>
      intro its h
      cases h with
      | cons a t =>
        obtain ⟨tk, rfl⟩ := a
        obtain ⟨d, rfl, e⟩ := ih _ t
        exact ⟨(x, tk) :: d, rfl, by rw [List.map_cons, e]⟩
  intro k
  induction k with
  | zero =>
    intro i s H1 hk hi s1 I hP
    have hin : i = vs.length := by omega
    obtain ⟨z, its, na, rv, lv, ea⟩ := I.lstM (s1 _ _ ha)
    obtain ⟨zP, itsP, nP, rP, lP, eP⟩ := I.lstM hP
    refine codeAny_builtin F.entry_list_repr_loop ?_
    show wpAny _ _ («list.__repr__.loop» ⟨[.ref a, .int i 0, .ref P, .int ((base + piled (ts.take i) : Nat) : Int) 0], []⟩) _ _ s
    rw [repr_loop_tree]
    refine wpAny_bind (wpAny_listItems ea rfl ?_)
    have hnone : its.toArray[(i : Int).toNat]? = none := by simp; omega
    simp only [hnone]
    unfold reprEnd
    refine wpAny_bind (wpAny_listItems eP rfl ?_)
    obtain ⟨d, rfl, ed⟩ := vals_str _ _ rP
    have hall : d.map (·.1) = ts := by rw [ed, hin, ← hlen, List.take_length]
    rw [List.toList_toArray, repr_fold]
    refine wpAny_bind (wpAny_pure ?_)
    rw [hall]
    refine wpAny_bind (wpAny_mkStr (wpAny_pure ?_) hsz3)
    exact hR _ H1 _ s1 (I.tok _)
  | succ k ih =>
    intro i s H1 hk hi s1 I hP
    have hlt : i < vs.length := by omega
    obtain ⟨z, its, na, rv, lv, ea⟩ := I.lstM (s1 _ _ ha)
    obtain ⟨t, ht, hit⟩ := hT i vs[i] (List.getElem?_eq_getElem hlt)
    have hp1 := piled_take_succ ht
    have hp2 := piled_take_le ts (i + 1)
    have hil : i < its.length := by omega
    have ru : RelV vs[i] its[i] := by
      obtain ⟨u, e, r⟩ := rv.get (List.getElem?_eq_getElem hlt)
      rw [List.getElem?_eq_getElem hil] at e
      cases e
      exact r
    refine codeAny_builtin F.entry_list_repr_loop ?_
    show wpAny _ _ («list.__repr__.loop» ⟨[.ref a, .int i 0, .ref P, .int ((base + piled (ts.take i) : Nat) : Int) 0], []⟩) _ _ s
    rw [repr_loop_tree]
    refine wpAny_bind (wpAny_listItems ea rfl ?_)
    have hsome : its.toArray[(i : Int).toNat]? = some its[i] := by simp [hil]
    simp only [hsome]
    rw [Int.toNat_natCast]
    refine wpAny_bind (wpAny_holding (hit H1 s1 _ (sub_under sb) pins s σ _ (base + piled (ts.take i) + 1) _ _ I ru (by omega) fun s' H2 s2 I2 => ?_))
    refine wpAny_bind (wpAny_mkStr ?_ (hsz2 t (List.mem_of_getElem? ht)))
    refine wpAny_bind ?_
    show wpAny _ _ (updateSeq P _) _ _ _
    have hP2 := s2 _ _ hP
    have I3 := I2.tok (s'.toks + 1)
    obtain ⟨zP, itsP, nP, rP, lP, eP⟩ := I3.lstM hP2
    have hasz : itsP.toArray.size ≤ sizeLine := by
      rw [List.size_toArray, ← lP, List.length_map, List.length_take]
      omega
    refine wpAny_updateSeq eP rfl (wpAny_pure ⟨F.quiet_list_repr_loop _, ?_⟩) hasz
    have e1 : ((i : Int) + 1) = ((i + 1 : Nat) : Int) := by omega
    have e2 : base + piled (ts.take i) + (t.length + 2) = base + piled (ts.take (i + 1)) := by omega
    rw [e1, e2]
    have tk : ts.take (i + 1) = ts.take i ++ [t] := by rw [List.take_add_one, ht]; rfl
    refine ih (i + 1) _ (upd H2 P (.lst ((ts.take (i + 1)).map V.str))) (by omega) hlt (fun b o e => ?_) ?_ upd_same
    · rw [upd_ne (ne_of_none e hP0)]
      exact s2 _ _ (s1 _ _ e)
    · have := I3.lset (its' := itsP ++ [Value.str t s'.toks]) (f := fun x => x.push (Value.str t s'.toks)) (ys := (ts.take (i + 1)).map V.str) (t' := s'.toks + 1) hP2 eP (by simp) (by rw [tk, List.map_append]; exact rP.append (.cons ⟨_, rfl⟩ .nil)) (by rw [List.length_map, List.length_take]; omega)
      exact this
end
/-- repr of such a list -/
def rReprL (X : Cx) (n : Nat) : List V → Hp → VK → Prop := fun xs H Q => ∃ (a : Addr) (vs : List V) (ts : List Str), xs = [.ref a] ∧ H a = some (.lst vs) ∧ vs ≠ [] ∧ ts.length = vs.length ∧ (∀ (i : Nat) (v : V), vs[i]? = some v → ∃ t, ts[i]? = some t ∧ It X n H v t) ∧ (listText ts).length ≤ sizeLine ∧ ∀ H', Same H H' → Q (.str (listText ts)) H'
theorem call_reprL {X : Cx} {n : Nat} (hg : X.A.guards = some []) (sb : Sub X (n + 1) X.A.in1) : CallR X (.builtin "repr") (rReprL X n) := by
  intro pins s σ H xs us Q I r h
  obtain ⟨a, vs, ts, rfl, ha, hne, hlen, hT, hsz, q⟩ := h
  obtain ⟨u, rfl, ru⟩ := vals1 r
  cases (show u = Value.ref a from ru)
  obtain ⟨z, its, na, rv, lv, ea⟩ := I.lstM ha
  obtain ⟨x, l, rfl⟩ : ∃ x l, its = x :: l := by
    cases its with
    | nil => cases vs with
      | nil => exact absurd rfl hne
      | cons => simp at lv
    | cons x l => exact ⟨x, l, rfl⟩
  have hTy : s.TypeIs (.ref a) "list" := ⟨_, ea, rfl⟩
  refine call_repr_slot (by have := sb.room.un; have : X.A.in1.units = X.A.units + 1 := rfl; omega) hTy F.slot_list_repr.toG ?_
  refine wpAny_call (codeAny_call_builtin F.slot_list_repr.plain F.entry_list_repr (F.slot_list_repr.check _ _ _ _ _ _ _ _ hTy (F.args_list_repr_1 _) ?_))
  show wpAny _ _ (Builtin.listReprAt 0 ⟨[.ref a], []⟩) _ _ _
  refine wpAny_list_repr_head (g := []) hg (fun v rest kw hm => nomatch hm) ea rfl ?_
  refine wpAny_bind (m := newList []) (wpAny_newObj_type ?_)
  refine wpAny_pure ⟨F.quiet_list_repr_loop _, ?_⟩
  have hP0 := I.fresh
  refine loop (base := 0) (R := fun r s' => match r with | .ok (.ret v) => ∃ x t, v = Value.str x t ∧ EP X pins σ Q v s' | .ok _ => False | .error e => X.xe e s') (pins := pins) (σ := σ) sb hP0 ha hlen hT (by omega) (fun s' H2 tk s2 I2 => ⟨_, _, rfl, .str (listText ts), H2, I2, ⟨tk, rfl⟩, q H2 s2⟩) vs.length 0 _ (upd H s.heap.objs.size (.lst [])) (by omega) (by omega) (fun b o e => by rw [upd_ne (ne_of_none e hP0)]; exact e) ?_ upd_same
  exact I.lnew .nil (by simp)
end RpL

/-! repr of lists within lists, in which instances with an own __repr__ stand: D is the part of the heap in which the value lives -/
namespace RpL
open PySem PySem.Spec PyProof.Rows L2 Builtin Builtin.List
def ItN (X : Cx) (n : Nat) (D : Hp) (v : V) (t : Str) : Prop :=
  ∀ (H1 : Hp), Same D H1 → ∀ (A : Around) (g : List Code), Sub X n A → A.guards = some g → (∀ b, D b ≠ none → Clear g b) → ∀ (pins : List (Addr × Obj)) (s : Shared) (σ : L2.St) (u : Value) (base : Nat) (Q : Str → Shared → Prop) (E : Value → Shared → Prop), Inv X pins σ H1 s → RelV v u → base + t.length ≤ sizeLine →
    (∀ (s' : Shared) (H2 : Hp), Same H1 H2 → Inv X pins σ H2 s' → Q t s') → wpAny (model X.prog X.w) A (pyReprUnder base u) Q E s
section
variable {X : Cx} {n : Nat} {H D : Hp}
theorem itN_of {v : V} {t : Str} (h : It X n D v t) : ItN X n D v t := fun H1 s1 A g sb _ _ pins s σ u base Q E I ru hb hQ => h H1 s1 A sb pins s σ u base Q E I ru hb hQ
theorem ItN.same {v : V} {t : Str} {D' : Hp} (h : ItN X n D v t) (sD : Same D D') : ItN X n D' v t := fun H1 s1 A g sb hg hc pins s σ u base Q E I ru hb hQ => h H1 (fun b o e => s1 _ _ (sD _ _ e)) A g sb hg (fun b hb => hc b (fun z => by
  cases e : D b with
  | none => exact hb e
  | some o =>
    rw [sD _ _ e] at z
    cases z)) pins s σ u base Q E I ru hb hQ
theorem ItN.mono {v : V} {t : Str} {m : Nat} (h : ItN X n D v t) (hm : n ≤ m) : ItN X m D v t := fun H1 s1 A g sb hg hc => h H1 s1 A g (sb.mono hm) hg hc
/-- what the library shows, over known places -/
theorem itN_k {v : V} {t : Str} (h : ∀ (pins : List (Addr × Obj)) (σ : L2.St) (s : Shared) (H1 : Hp) (u : Value), Inv X pins σ H1 s → Same D H1 → RelV v u → ∃ (as : List Addr) (d : Nat), ReprK X.prog X.w as s.heap d u t ∧ d ≤ 100 ∧ ∀ b ∈ as, D b ≠ none) : ItN X n D v t := by
  intro H1 s1 A g sb hg hc pins s σ u base Q E I ru hb hQ
  obtain ⟨as, d, hk, hd, ha⟩ := h pins σ s H1 u I s1 ru
  have hu := sb.room.un
  exact hk base hb A g E s Q hg (fun b hb => hc b (ha b hb)) (by omega) (fun _ _ e => e) fun h' tk hkp => hQ _ H1 (Same.refl _) (I.kept (t' := tk) hkp)
theorem loopN {g : List Code} {D0 : Hp} {A : Around} {R : Result → Shared → Prop} {a P : Addr} {vs : List V} {ts : List Str} {base : Nat} {pins : List (Addr × Obj)} {σ : L2.St} (sb : Sub X (n + 1) A) (hg : A.guards = some g) (hcl : ∀ b, D0 b ≠ none → Clear g b) (nA : D0 a = none) (sD : Same D0 H) (hP0 : H P = none) (ha : H a = some (.lst vs)) (hlen : ts.length = vs.length) (hT : ∀ (i : Nat) (v : V), vs[i]? = some v → ∃ t, ts[i]? = some t ∧ ItN X n D0 v t) (hsz : base + (listText ts).length ≤ sizeLine)
    (hR : ∀ (s' : Shared) (H2 : Hp) (tk : Tok), Same H H2 → Inv X pins σ H2 s' → R (.ok (.ret (.str (listText ts) tk))) s') :
    ∀ (k i : Nat) (s : Shared) (H1 : Hp), vs.length - i = k → i ≤ vs.length → Same H H1 → Inv X pins σ H1 s → H1 P = some (.lst ((ts.take i).map V.str)) →
    codeAny (model X.prog X.w) A (.builtin "list.__repr__.loop" ⟨[.ref a, rawInt i, .ref P, rawInt ((base + piled (ts.take i) : Nat) : Int)], []⟩) R s := by
  have hX : (listText ts).length = (textFrom 0 "[" ts).length + 1 := by
    show (textFrom 0 "[" ts ++ "]").length = _
    rw [strLen_append]; rfl
  have hL := textFrom_len ts 0 "["
  have hsz2 : ∀ t ∈ ts, t.length ≤ sizeLine := fun t ht => by
    have h2 := hL.2.1 t ht
    omega
  have hsz3 : (listText ts).length ≤ sizeLine := by omega
  have hp3 := piled_le_listText ts
  have vals_str : ∀ (l : List Str) (its : List Value), Vals (l.map V.str) its → ∃ d : List (Str × Tok), its = strValues d ∧ d.map (·.1) = l := by
    intro l
    induction l with
    | nil =>
      intro its h
      cases h
      exact ⟨[], rfl, rfl⟩
    | cons x r ih =>
      intro its h
      cases h with
      | cons a t =>
        obtain ⟨tk, rfl⟩ := a
        obtain ⟨d, rfl, e⟩ := ih _ t
        exact ⟨(x, tk) :: d, rfl, by rw [List.map_cons, e]⟩
  intro k
  induction k with
  | zero =>
    intro i s H1 hk hi s1 I hP
    have hin : i = vs.length := by omega
    obtain ⟨z, its, na, rv, lv, ea⟩ := I.lstM (s1 _ _ ha)
    obtain ⟨zP, itsP, nP, rP, lP, eP⟩ := I.lstM hP
    refine codeAny_builtin F.entry_list_repr_loop ?_
    show wpAny _ _ («list.__repr__.loop» ⟨[.ref a, .int i 0, .ref P, .int ((base + piled (ts.take i) : Nat) : Int) 0], []⟩) _ _ s
    rw [repr_loop_tree]
    refine wpAny_bind (wpAny_listItems ea rfl ?_)
    have hnone : its.toArray[(i : Int).toNat]? = none := by simp; omega
    simp only [hnone]
    unfold reprEnd
    refine wpAny_bind (wpAny_listItems eP rfl ?_)
    obtain ⟨d, rfl, ed⟩ := vals_str _ _ rP
    have hall : d.map (·.1) = ts := by rw [ed, hin, ← hlen, List.take_length]
    rw [List.toList_toArray, repr_fold]
    refine wpAny_bind (wpAny_pure ?_)
    rw [hall]
    refine wpAny_bind (wpAny_mkStr (wpAny_pure ?_) hsz3)
    exact hR _ H1 _ s1 (I.tok _)
  | succ k ih =>
    intro i s H1 hk hi s1 I hP
    have hlt : i < vs.length := by omega
    obtain ⟨z, its, na, rv, lv, ea⟩ := I.lstM (s1 _ _ ha)
    obtain ⟨t, ht, hit⟩ := hT i vs[i] (List.getElem?_eq_getElem hlt)
    have hp1 := piled_take_succ ht
    have hp2 := piled_take_le ts (i + 1)
    have hil : i < its.length := by omega
    have ru : RelV vs[i] its[i] := by
      obtain ⟨u, e, r⟩ := rv.get (List.getElem?_eq_getElem hlt)
      rw [List.getElem?_eq_getElem hil] at e
      cases e
      exact r
    refine codeAny_builtin F.entry_list_repr_loop ?_
    show wpAny _ _ («list.__repr__.loop» ⟨[.ref a, .int i 0, .ref P, .int ((base + piled (ts.take i) : Nat) : Int) 0], []⟩) _ _ s
    rw [repr_loop_tree]
    refine wpAny_bind (wpAny_listItems ea rfl ?_)
    have hsome : its.toArray[(i : Int).toNat]? = some its[i] := by simp [hil]
    simp only [hsome]
    rw [Int.toNat_natCast]
    refine wpAny_bind (wpAny_holding (hit H1 (Same.trans sD s1) _ _ (sub_under sb) (guards_under_guard (isGuard_list_loop _) hg) (fun b hb => (hcl b hb).cons (a := a) fun e => hb (by rw [← e]; exact nA)) pins s σ _ (base + piled (ts.take i) + 1) _ _ I ru (by omega) fun s' H2 s2 I2 => ?_))
    refine wpAny_bind (wpAny_mkStr ?_ (hsz2 t (List.mem_of_getElem? ht)))
    refine wpAny_bind ?_
    show wpAny _ _ (updateSeq P _) _ _ _
    have hP2 := s2 _ _ hP
    have I3 := I2.tok (s'.toks + 1)
    obtain ⟨zP, itsP, nP, rP, lP, eP⟩ := I3.lstM hP2
    have hasz : itsP.toArray.size ≤ sizeLine := by
      rw [List.size_toArray, ← lP, List.length_map, List.length_take]
      omega
    refine wpAny_updateSeq eP rfl (wpAny_pure ⟨F.quiet_list_repr_loop _, ?_⟩) hasz
    have e1 : ((i : Int) + 1) = ((i + 1 : Nat) : Int) := by omega
    have e2 : base + piled (ts.take i) + (t.length + 2) = base + piled (ts.take (i + 1)) := by omega
    rw [e1, e2]
    have tk : ts.take (i + 1) = ts.take i ++ [t] := by rw [List.take_add_one, ht]; rfl
    refine ih (i + 1) _ (upd H2 P (.lst ((ts.take (i + 1)).map V.str))) (by omega) hlt (fun b o e => ?_) ?_ upd_same
    · rw [upd_ne (ne_of_none e hP0)]
      exact s2 _ _ (s1 _ _ e)
    · have := I3.lset (its' := itsP ++ [Value.str t s'.toks]) (f := fun x => x.push (Value.str t s'.toks)) (ys := (ts.take (i + 1)).map V.str) (t' := s'.toks + 1) hP2 eP (by simp) (by rw [tk, List.map_append]; exact rP.append (.cons ⟨_, rfl⟩ .nil)) (by rw [List.length_map, List.length_take]; omega)
      exact this

/-- a list of such values, at a place in which they don't live -/
theorem itN_list {a : Addr} {vs : List V} {ts : List Str} (na : D a = none) (sD : Same D H) (ha : H a = some (.lst vs)) (hne : vs ≠ []) (hlen : ts.length = vs.length) (hT : ∀ (i : Nat) (v : V), vs[i]? = some v → ∃ t, ts[i]? = some t ∧ ItN X n D v t) : ItN X (n + 1) H (.ref a) (listText ts) := by
  intro H1 s1 A g sb hg hc pins s σ u base Q E I ru hb hQ
  cases (show u = Value.ref a from ru)
  have ha1 := s1 _ _ ha
  obtain ⟨z, its, nn, rv, lv, ea⟩ := I.lstM ha1
  obtain ⟨x, l, rfl⟩ : ∃ x l, its = x :: l := by
    cases its with
    | nil => cases vs with
      | nil => exact absurd rfl hne
      | cons => simp at lv
    | cons x l => exact ⟨x, l, rfl⟩
  have hTy : s.TypeIs (.ref a) "list" := ⟨_, ea, rfl⟩
  have hu := sb.room.un
  refine wpAny_pyReprUnder_ref (by omega) ?_
  refine wpAny_pyReprObjUnder_twin (twin := "list.__repr__.under") hTy F.slot_list_repr.toG rfl (by omega) ?_
  refine call_twin_plain F.plain_list_repr_under F.entry_list_repr_under F.check_list_repr_under hTy F.slot_list_repr.toG (F.args_list_repr_1 _) ?_
  refine wpAny_list_repr_head (g := g) hg (fun v rest kw hm => listSameRef_of_ne (hc a (by rw [ha]; simp) _ _ _ _ hm)) ea rfl ?_
  refine wpAny_bind (m := newList []) (wpAny_newObj_type ?_)
  refine wpAny_pure ⟨F.quiet_list_repr_loop _, ?_⟩
  have hP0 := I.fresh
  refine loopN (base := base) (g := g) (D0 := D) (H := H1) (R := callEnd (fun v s' => (∃ x u, v = Value.str x u) ∧ ∃ x u, v = Value.str x u ∧ Q x s') E) (pins := pins) (σ := σ) sb hg (fun b hb => hc b fun z => by
    cases e : D b with
    | none => exact hb e
    | some o =>
      rw [sD _ _ e] at z
      cases z) na (Same.trans sD s1) hP0 ha1 hlen hT hb (fun s' H2 tk s2 I2 => ⟨⟨_, _, rfl⟩, _, _, rfl, hQ s' H2 s2 I2⟩) vs.length 0 _ (upd H1 s.heap.objs.size (.lst [])) (by omega) (by omega) (fun b o e => by rw [upd_ne (ne_of_none e hP0)]; exact e) ?_ upd_same
  exact I.lnew .nil (by simp)
/-! ### flat data -/
theorem rk_all {prog : Program} {w : World} {h0 : Heap} : ∀ {vs : List V} {us : List Value} {ts : List Str}, (∀ (i : Nat) (v : V), vs[i]? = some v → ∃ t, ts[i]? = some t ∧ ∀ u, RelV v u → ReprIs prog w u t) → ts.length = vs.length → Vals vs us → ReprAllK prog w [] h0 0 us ts
  | [], _, ts, _, hl, .nil => by
    cases ts with
    | nil => exact .nil
    | cons _ _ => simp at hl
  | v :: vs, _, [], _, hl, .cons _ _ => by simp at hl
  | v :: vs, _, t :: ts, h, hl, .cons r rs => by
    obtain ⟨t', e, k⟩ := h 0 v rfl
    cases (Option.some.inj e)
    exact .cons (ReprK.of_is (k _ r) _ _ _) (rk_all (fun i v hv => h (i + 1) v hv) (by simpa using hl) rs)
theorem itN_tup {a : Addr} {vs : List V} {ts : List Str} (ha : D a = some (.tup vs)) (hlen : ts.length = vs.length) (hT : ∀ (i : Nat) (v : V), vs[i]? = some v → ∃ t, ts[i]? = some t ∧ ∀ u, RelV v u → ReprIs X.prog X.w u t) : ItN X n D (.ref a) (tupleText ts) := by
  refine itN_k fun pins σ s H1 u I sD ru => ?_
  cases (show u = Value.ref a from ru)
  obtain ⟨_, its, rv, o, e, c, m, hn⟩ := (show ObjOk X.prog X.w H1 s.heap a (.tup vs) from I.hok a _ (sD _ _ ha))
  exact ⟨[a], 1, ReprK.tuple e c hn (by simp) (by simpa using rk_all hT hlen rv), by decide, fun b hb => by rw [List.mem_singleton.mp hb, ha]; simp⟩
theorem itN_nil {a : Addr} (ha : D a = some (.lst [])) : ItN X n D (.ref a) "[]" := by
  refine itN_k fun pins σ s H1 u I sD ru => ?_
  cases (show u = Value.ref a from ru)
  obtain ⟨_, its, m, rv, e⟩ := (show ObjOk X.prog X.w H1 s.heap a (.lst []) from I.hok a _ (sD _ _ ha))
  cases rv
  exact ⟨[], 0, ReprK.listEmpty e rfl rfl, by decide, fun b hb => nomatch hb⟩
end
/-- repr of a list of such values -/
def rReprN (X : Cx) (n : Nat) : List V → Hp → VK → Prop := fun xs H Q => ∃ (a : Addr) (D : Hp) (vs : List V) (ts : List Str), xs = [.ref a] ∧ D a = none ∧ Same D H ∧ H a = some (.lst vs) ∧ vs ≠ [] ∧ ts.length = vs.length ∧ (∀ (i : Nat) (v : V), vs[i]? = some v → ∃ t, ts[i]? = some t ∧ ItN X n D v t) ∧ (listText ts).length ≤ sizeLine ∧ ∀ H', Same H H' → Q (.str (listText ts)) H'
theorem call_reprN {X : Cx} {n : Nat} (hg : X.A.guards = some []) (sb : Sub X (n + 1) X.A.in1) : CallR X (.builtin "repr") (rReprN X n) := by
  intro pins s σ H xs us Q I r h
  obtain ⟨a, D, vs, ts, rfl, na, sD, ha, hne, hlen, hT, hsz, q⟩ := h
  obtain ⟨u, rfl, ru⟩ := vals1 r
  cases (show u = Value.ref a from ru)
  obtain ⟨z, its, nn, rv, lv, ea⟩ := I.lstM ha
  obtain ⟨x, l, rfl⟩ : ∃ x l, its = x :: l := by
    cases its with
    | nil => cases vs with
      | nil => exact absurd rfl hne
      | cons => simp at lv
    | cons x l => exact ⟨x, l, rfl⟩
  have hTy : s.TypeIs (.ref a) "list" := ⟨_, ea, rfl⟩
  refine call_repr_slot (by have := sb.room.un; have : X.A.in1.units = X.A.units + 1 := rfl; omega) hTy F.slot_list_repr.toG ?_
  refine wpAny_call (codeAny_call_builtin F.slot_list_repr.plain F.entry_list_repr (F.slot_list_repr.check _ _ _ _ _ _ _ _ hTy (F.args_list_repr_1 _) ?_))
  show wpAny _ _ (Builtin.listReprAt 0 ⟨[.ref a], []⟩) _ _ _
  refine wpAny_list_repr_head (g := []) hg (fun v rest kw hm => nomatch hm) ea rfl ?_
  refine wpAny_bind (m := newList []) (wpAny_newObj_type ?_)
  refine wpAny_pure ⟨F.quiet_list_repr_loop _, ?_⟩
  have hP0 := I.fresh
  refine loopN (base := 0) (g := []) (D0 := D) (R := fun r s' => match r with | .ok (.ret v) => ∃ x t, v = Value.str x t ∧ EP X pins σ Q v s' | .ok _ => False | .error e => X.xe e s') (pins := pins) (σ := σ) sb hg (fun b _ => Clear.nil b) na sD hP0 ha hlen hT (by omega) (fun s' H2 tk s2 I2 => ⟨_, _, rfl, .str (listText ts), H2, I2, ⟨tk, rfl⟩, q H2 s2⟩) vs.length 0 _ (upd H s.heap.objs.size (.lst [])) (by omega) (by omega) (fun b o e => by rw [upd_ne (ne_of_none e hP0)]; exact e) ?_ upd_same
  exact I.lnew .nil (by simp)
end RpL

/-! plain data as it is shown within lists in which own instances stand; the part of a heap without its tables -/
namespace RpL
open PySem PySem.Spec PyProof.Rows L2 Builtin Builtin.List Gd
section
variable {X : Cx} {n : Nat} {D H1 : Hp} {pins : List (Addr × Obj)} {σ : L2.St} {s : Shared}
mutual
theorem dq_rk (I : Inv X pins σ H1 s) (sD : Same D H1) (no : D sysModules = none) : ∀ {v : V} {d : PyData} {u : Value}, Dq D v d → RelV v u → d.showable = true → d.shown.length ≤ sizeLine →
    ∃ bs, ReadAtMost s.heap d.depth bs ∧ ReprK X.prog X.w bs s.heap d.depth u d.shown ∧ ∀ b ∈ bs, D b ≠ none
  | _, _, _, .non, r, _, _ => by
    cases r
    refine ⟨[], (fun _ z => nomatch z), ?_, fun _ z => nomatch z⟩
    rw [PyData.shown]
    exact ReprK.of_is .none _ _ _
  | _, _, _, .bl b, r, _, _ => by
    cases r
    refine ⟨[], (fun _ z => nomatch z), ?_, fun _ z => nomatch z⟩
    rw [PyData.shown]
    exact ReprK.of_is (.bool b) _ _ _
  | _, _, _, .int i, r, sh, _ => by
    obtain ⟨t, rfl⟩ := r
    refine ⟨[], (fun _ z => nomatch z), ?_, fun _ z => nomatch z⟩
    rw [PyData.shown]
    exact ReprK.of_is (.int t (by simpa [PyData.showable] using sh)) _ _ _
  | _, _, _, .str x, r, _, ln => by
    obtain ⟨t, rfl⟩ := r
    refine ⟨[], (fun _ z => nomatch z), ?_, fun _ z => nomatch z⟩
    rw [PyData.shown] at ln ⊢
    exact ReprK.of_is (.str x t ln) _ _ _
  | _, _, u, .lst (a := a) (xs := xs) (ds := ds) ha hd, r, sh, ln => by
    cases (show u = Value.ref a from r)
    rw [PyData.shown] at ln
    obtain ⟨_, its, m, rv, e⟩ := (show ObjOk X.prog X.w H1 s.heap a (.lst xs) from I.hok a _ (sD _ _ ha))
    obtain ⟨bs, b1, b2, b3⟩ := dqa_rk I sD no hd rv (by simpa [PyData.showable] using sh) fun t ht => Nat.le_trans (listText_mem_le ht) ln
    obtain ⟨as, rr, _⟩ := Dq.reads I (u := .ref a) (Dq.same sD (.lst ha hd)) rfl
    have na : a ∉ bs := not_mem_of_deeper rr (by simp only [PyData.depth]; omega) b1
    refine ⟨a :: bs, ReadAtMost.cons rr (by simp only [PyData.depth]; omega) b1, ?_, fun b hb => ?_⟩
    · simp only [PyData.depth, PyData.shown]
      cases its with
      | nil =>
        cases rv
        cases hd
        simp only [PyData.shownAll, listText_nil]
        exact .listEmpty e rfl rfl
      | cons y l => exact .list e rfl rfl na (by simpa using b2.length_eq) fun i z q => b2.item i z (by simpa using q)
    · rcases List.mem_cons.mp hb with rfl | hb
      · rw [ha]; simp
      · exact b3 b hb
  | _, _, u, .tup (a := a) (xs := xs) (ds := ds) ha hd, r, sh, ln => by
    cases (show u = Value.ref a from r)
    rw [PyData.shown] at ln
    obtain ⟨_, its, rv, o, e, c, m, hn⟩ := (show ObjOk X.prog X.w H1 s.heap a (.tup xs) from I.hok a _ (sD _ _ ha))
    obtain ⟨bs, b1, b2, b3⟩ := dqa_rk I sD no hd rv (by simpa [PyData.showable] using sh) fun t ht => Nat.le_trans (tupleText_mem_le ht) ln
    obtain ⟨as, rr, _⟩ := Dq.reads I (u := .ref a) (Dq.same sD (.tup ha hd)) rfl
    have na : a ∉ bs := not_mem_of_deeper rr (by simp only [PyData.depth]; omega) b1
    refine ⟨a :: bs, ReadAtMost.cons rr (by simp only [PyData.depth]; omega) b1, ?_, fun b hb => ?_⟩
    · simp only [PyData.depth, PyData.shown]
      exact .tuple e c hn na (by simpa using b2)
    · rcases List.mem_cons.mp hb with rfl | hb
      · rw [ha]; simp
      · exact b3 b hb
  | _, _, u, .dct (a := a) ha, r, _, _ => by
    cases (show u = Value.ref a from r)
    obtain ⟨_, _, vs, kv, o, es, ep, e, hx, hdt, _, hes, _⟩ := (show ObjOk X.prog X.w H1 s.heap a (.dK []) from I.hok a _ (sD _ _ ha))
    cases kv
    have e0 : es.toList = [] := by
      generalize es.toList = zs at hes
      cases hes
      rfl
    have ns : (a == sysModules) = false := beq_eq_false_iff_ne.mpr fun z => by
      rw [z, no] at ha
      cases ha
    obtain ⟨as, rr, _⟩ := Dq.reads I (u := .ref a) (Dq.same sD (.dct ha)) rfl
    refine ⟨[a], ReadAtMost.cons rr (Nat.le_refl _) (fun _ z => nomatch z), ?_, fun b hb => by rw [List.mem_singleton.mp hb, ha]; simp⟩
    have k := ReprK.dict (prog := X.prog) (w := X.w) (as := []) (d := 0) (ps := []) e hx.1 hdt ns (by simp) (by rw [e0]; exact .nil)
    simp only [PyData.depth, PyData.shown, PyData.shownKv, PyData.depthKv]
    exact k
theorem dqa_rk (I : Inv X pins σ H1 s) (sD : Same D H1) (no : D sysModules = none) : ∀ {vs : List V} {ds : List PyData} {us : List Value}, DqA D vs ds → Vals vs us → PyData.showableAll ds = true → (∀ t ∈ PyData.shownAll ds, t.length ≤ sizeLine) →
    ∃ bs, ReadAtMost s.heap (PyData.depthAll ds) bs ∧ ReprAllK X.prog X.w bs s.heap (PyData.depthAll ds) us (PyData.shownAll ds) ∧ ∀ b ∈ bs, D b ≠ none
  | _, _, _, .nil, r, _, _ => by
    cases r
    refine ⟨[], (fun _ z => nomatch z), ?_, fun _ z => nomatch z⟩
    rw [PyData.shownAll]
    exact .nil
  | _, _, _, .cons (d := d) (ds := ds) hd ht, .cons r rt, sh, ln => by
    have sh2 : d.showable = true ∧ PyData.showableAll ds = true := by simpa [PyData.showableAll] using sh
    obtain ⟨b1, h1, k1, m1⟩ := dq_rk I sD no hd r sh2.1 (ln _ (by simp only [PyData.shownAll]; exact List.mem_cons_self))
    obtain ⟨b2, h2, k2, m2⟩ := dqa_rk I sD no ht rt sh2.2 fun t q => ln t (by simp only [PyData.shownAll]; exact List.mem_cons_of_mem _ q)
    refine ⟨b1 ++ b2, fun b q => ?_, ?_, fun b q => (List.mem_append.mp q).elim (m1 b) (m2 b)⟩
    · simp only [PyData.depthAll]
      rcases List.mem_append.mp q with q | q
      · obtain ⟨e, as, x, y⟩ := h1 b q
        exact ⟨e, as, x, Nat.le_trans y (Nat.le_max_left _ _)⟩
      · obtain ⟨e, as, x, y⟩ := h2 b q
        exact ⟨e, as, x, Nat.le_trans y (Nat.le_max_right _ _)⟩
    · simp only [PyData.depthAll, PyData.shownAll]
      exact .cons ((k1.more fun b q => List.mem_append_left _ q).level_le (Nat.le_max_left _ _)) (k2.more_le (fun b q => List.mem_append_right _ q) (Nat.le_max_right _ _))
end
end
/-- plain data -/
theorem itN_dq {X : Cx} {n : Nat} {D : Hp} {v : V} {d : PyData} {m k : Nat} {ob : Obj} (sm : X.base.get? sysModules = some ob) (h : Dq D v d) (sw : SkT.Sw m k d) (hm : m ≤ sizeLine) (hk : k ≤ 100) : ItN X n D v d.shown := by
  refine itN_k fun pins σ s H1 u I sD ru => ?_
  have no : D sysModules = none := by
    cases e : D sysModules with
    | none => rfl
    | some o =>
      have q := sD _ _ e
      rw [(I.env0.bs _ _ sm).2] at q
      cases q
  obtain ⟨bs, _, b2, b3⟩ := dq_rk I sD no h ru sw.sh (Nat.le_trans sw.ln hm)
  exact ⟨bs, _, b2, Nat.le_trans sw.dp hk, b3⟩
/-! ### the part of a heap without its tables and some places -/
def cut (as : List Addr) (H : Hp) : Hp := fun b => if b ∈ as then none else match H b with | some (.tbl _) => none | z => z
theorem cut_at {as : List Addr} {H : Hp} {b : Addr} {o : HO} (n : b ∉ as) (h : H b = some o) (t : ∀ ps, o ≠ .tbl ps) : cut as H b = some o := by
  unfold cut
  rw [if_neg n, h]
  cases o with
  | tbl ps => exact absurd rfl (t ps)
  | _ => rfl
theorem cut_of {as : List Addr} {H : Hp} {b : Addr} {o : HO} (h : cut as H b = some o) : b ∉ as ∧ H b = some o ∧ ∀ ps, o ≠ .tbl ps := by
  unfold cut at h
  split at h
  · cases h
  · rename_i n
    refine ⟨n, ?_⟩
    cases e : H b with
    | none => rw [e] at h; cases h
    | some q =>
      rw [e] at h
      cases q with
      | tbl ps => cases h
      | _ => cases h; exact ⟨rfl, by intro ps z; cases z⟩
theorem cut_up {as : List Addr} {H : Hp} : Same (cut as H) H := fun _ _ h => (cut_of h).2.1
theorem cut_no {as : List Addr} {H : Hp} {b : Addr} (h : b ∈ as) : cut as H b = none := if_pos h
theorem cut_none {as : List Addr} {H : Hp} {b : Addr} (h : H b = none) : cut as H b = none := by
  cases e : cut as H b with
  | none => rfl
  | some o => rw [(cut_of e).2.1] at h; cases h
theorem cut_same {as : List Addr} {H H' : Hp} (f : ∀ b o, b ∉ as → (∀ ps, o ≠ .tbl ps) → H b = some o → H' b = some o) : Same (cut as H) (cut as H') := fun b o h => by
  obtain ⟨n, e, t⟩ := cut_of h
  exact cut_at n (f b o n t e) t
theorem cut_keep {as : List Addr} {H H' : Hp} (f : ∀ b o, b ∉ as → (∀ ps, o ≠ .tbl ps) → H b = some o → H' b = some o) : Same (cut as H) H' := fun b o h => by
  obtain ⟨n, e, t⟩ := cut_of h
  exact f b o n t e
end RpL

/-! lists of rows that a law gathers, and the heap without one place -/
namespace Sn
open PySem L2 Gd RpA SkT
/-! ### the heap without what stands at j -/
def Hj (j : Addr) (H : Hp) : Hp := fun b => if b = j then none else H b
theorem hj_at {j a : Addr} {H : Hp} {o : HO} (n : a ≠ j) (h : H a = some o) : Hj j H a = some o := by
  unfold Hj
  rw [if_neg n]
  exact h
theorem hj_of {j a : Addr} {H : Hp} {o : HO} (h : Hj j H a = some o) : a ≠ j ∧ H a = some o := by
  unfold Hj at h
  split at h
  · cases h
  · exact ⟨by assumption, h⟩
theorem hj_off {j : Addr} {H H' : Hp} (f : ∀ b o, b ≠ j → H b = some o → H' b = some o) : Same (Hj j H) (Hj j H') := fun b o h => by
  obtain ⟨n, e⟩ := hj_of h
  exact hj_at n (f b o n e)
theorem hj_same {j : Addr} {H H' : Hp} (s : Same H H') : Same (Hj j H) (Hj j H') := hj_off fun b o _ e => s b o e
theorem hj_up {j : Addr} {H : Hp} : Same (Hj j H) H := fun b o h => (hj_of h).2
/-! ### rows -/
inductive Rows (H : Hp) : List V → List (List V) → Prop
  | nil : Rows H [] []
  | cons {q : Addr} {r : List V} {xs : List V} {rs : List (List V)} (h : H q = some (.lst r)) (t : Rows H xs rs) : Rows H (.ref q :: xs) (r :: rs)
theorem Rows.ext {H H' : Hp} (s : LamX.ExtN H H') : ∀ {xs rs}, Rows H xs rs → Rows H' xs rs
  | _, _, .nil => .nil
  | _, _, .cons h t => .cons (s _ _ h (by intro ps z; cases z)) (t.ext s)
theorem Rows.len {H : Hp} : ∀ {xs rs}, Rows H xs rs → xs.length = rs.length
  | _, _, .nil => rfl
  | _, _, .cons _ t => congrArg (· + 1) t.len
theorem Rows.snoc {H : Hp} {q : Addr} {r : List V} (h : H q = some (.lst r)) : ∀ {xs rs}, Rows H xs rs → Rows H (xs ++ [.ref q]) (rs ++ [r])
  | _, _, .nil => .cons h .nil
  | _, _, .cons a t => .cons a (t.snoc h)
theorem Rows.app {H : Hp} : ∀ {xs ys rs ss}, Rows H xs rs → Rows H ys ss → Rows H (xs ++ ys) (rs ++ ss)
  | _, _, _, _, .nil, b => b
  | _, _, _, _, .cons a t, b => .cons a (t.app b)
/-- a row begins with a word -/
def Wd (r : List V) : Prop := ∃ (s : Str) (t : List V), r = .str s :: t
theorem Rows.ne {H : Hp} {D q : Addr} {acc r : List V} {as : List (List V)} (hD : H D = some (.lst acc)) (ha : Rows H acc as) (w : Wd r) (h : H q = some (.lst r)) : q ≠ D := fun z => by
  obtain ⟨s, t, rfl⟩ := w
  rw [z, hD] at h
  cases ha <;> cases h
theorem Rows.put {H : Hp} {D : Addr} {acc ys : List V} {as : List (List V)} (hD : H D = some (.lst acc)) (ha : Rows H acc as) : ∀ {xs rs}, (∀ r ∈ rs, Wd r) → Rows H xs rs → Rows (upd H D (.lst ys)) xs rs
  | _, _, _, .nil => .nil
  | _, _, w, .cons h t => .cons (by rw [upd_ne (Rows.ne hD ha (w _ List.mem_cons_self) h)]; exact h) (Rows.put hD ha (fun r hr => w r (List.mem_cons_of_mem _ hr)) t)
theorem tabs_put {T : List (Addr × Str)} {H : Hp} {q : Addr} {ys zs : List V} (hq : H q = some (.lst ys)) (h : LamX.Tabs T H) : LamX.Tabs T (upd H q (.lst zs)) := fun p hp => by
  obtain ⟨ps, a1, a2, a3⟩ := h p hp
  refine ⟨ps, by rw [upd_ne (ne_of a1 hq (by intro z; cases z))]; exact a1, a2, fun pos cv hcv => ?_⟩
  obtain ⟨c, e, hc⟩ := a3 pos cv hcv
  exact ⟨c, e, by rw [upd_ne (ne_of hc hq (by intro z; unfold LamX.CodeO at z; cases z))]; exact hc⟩
/-- the list of what came, so far -/
structure Seen (T : List (Addr × Str)) (Ha H : Hp) (sq : Addr) (xs : List V) (rs : List (List V)) : Prop where
  ext : LamX.ExtN Ha H
  tab : LamX.Tabs T H
  at_ : H sq = some (.lst xs)
  row : Rows H xs rs
  wd : ∀ r ∈ rs, Wd r
theorem new_ne {Ha Hb : Hp} {sq : Addr} (e : LamX.ExtN Ha Hb) (n : Hb sq = none) : ∀ b o, Ha b = some o → (∀ ps, o ≠ .tbl ps) → b ≠ sq := fun b o h t => ne_of_none (e b o h t) n
theorem Seen.first {T : List (Addr × Str)} {Ha Hb : Hp} {sq p : Addr} {r : List V} (e : LamX.ExtN Ha Hb) (t : LamX.Tabs T Hb) (hp : Hb p = some (.lst r)) (w : Wd r) (n : Hb sq = none) : Seen T Ha (upd Hb sq (.lst [.ref p])) sq [.ref p] [r] := by
  have s : Same Hb (upd Hb sq (.lst [.ref p])) := fun b o q => by rw [upd_ne (ne_of_none q n)]; exact q
  exact ⟨e.trans (ext_same s), t.ext s, upd_same, .cons (s _ _ hp) .nil, fun r' h => by rw [List.mem_singleton.mp h]; exact w⟩
theorem Seen.step {T : List (Addr × Str)} {Ha H H1 : Hp} {sq p : Addr} {xs r : List V} {rs : List (List V)} (s : Seen T Ha H sq xs rs) (nq : ∀ b o, Ha b = some o → (∀ ps, o ≠ .tbl ps) → b ≠ sq) (e1 : LamX.ExtN H H1) (T1 : LamX.Tabs T H1) (hp : H1 p = some (.lst r)) (w : Wd r) :
    H1 sq = some (.lst xs) ∧ Seen T Ha (upd H1 sq (.lst (xs ++ [.ref p]))) sq (xs ++ [.ref p]) (rs ++ [r]) := by
  have h1 : H1 sq = some (.lst xs) := e1 _ _ s.at_ (by intro ps z; cases z)
  have r1 := s.row.ext e1
  have w' : ∀ r' ∈ rs ++ [r], Wd r' := fun r' h => (List.mem_append.mp h).elim (s.wd r') fun z => by rw [List.mem_singleton.mp z]; exact w
  refine ⟨h1, fun b o h n => ?_, tabs_put h1 T1, upd_same, ?_, w'⟩
  · rw [upd_ne (nq b o h n)]
    exact e1 _ _ (s.ext b o h n) n
  · exact Rows.snoc (by rw [upd_ne (Rows.ne h1 r1 w hp)]; exact hp) (Rows.put h1 r1 s.wd r1)
/-- rows as data -/
inductive DqR (H : Hp) : List (List V) → List PyData → Prop
  | nil : DqR H [] []
  | cons {r : List V} {ds : List PyData} {rs : List (List V)} {es : List PyData} (h : DqA H r ds) (t : DqR H rs es) : DqR H (r :: rs) (.list ds :: es)
theorem Rows.dq {H : Hp} : ∀ {xs rs es}, Rows H xs rs → DqR H rs es → DqA H xs es
  | _, _, _, .nil, .nil => .nil
  | _, _, _, .cons h t, .cons a b => .cons (.lst h a) (t.dq b)
theorem DqR.ext {H H' : Hp} (s : LamX.ExtN H H') : ∀ {rs es}, DqR H rs es → DqR H' rs es
  | _, _, .nil => .nil
  | _, _, .cons h t => .cons (dqa_ext s h) (t.ext s)
end Sn

/-! lists of rows that a law gathers, over the part D of the heap in which the values live; their repr -/
namespace RpL
open PySem PySem.Spec PyProof.Rows L2 Gd RpA SkT
def NoTb (D : Hp) : Prop := ∀ b ps, D b ≠ some (.tbl ps)
theorem cut_tb {as : List Addr} {H : Hp} : NoTb (cut as H) := fun _ ps z => (cut_of z).2.2 ps rfl
/-- p was free -/
def Fr (H : Hp) (p : Addr) : Prop := ∀ b o, H b = some o → (∀ ps, o ≠ .tbl ps) → b ≠ p
theorem Fr.none {D H : Hp} {p : Addr} (f : Fr H p) (s : Same D H) (t : NoTb D) : D p = none := by
  cases e : D p with
  | none => rfl
  | some o => exact absurd rfl (f _ _ (s _ _ e) fun ps z => t p ps (by rw [e, z]))
theorem free_of {D H : Hp} {p : Addr} (s : Same D H) (n : H p = none) : D p = none := by
  cases e : D p with
  | none => rfl
  | some o => rw [s _ _ e] at n; cases n
theorem sub_ext {D H H' : Hp} (t : NoTb D) (s : Same D H) (e : LamX.ExtN H H') : Same D H' := fun b o h => e _ _ (s _ _ h) fun ps z => t b ps (by rw [h, z])
/-- what a refused call gives: its row at a new place -/
def Got (Tb : List (Addr × Str)) (H : Hp) (row : List V) (Q : VK) : Prop := ∀ (H1 : Hp) (p : Addr), LamX.ExtN H H1 → LamX.Tabs Tb H1 → H1 p = some (.lst row) → Fr H p → Q (.ref p) H1
theorem got_of {Tb : List (Addr × Str)} {H H1 H2 : Hp} {row : List V} {Q : VK} {p : Addr} (g : Got Tb H row Q) (e1 : LamX.ExtN H H1) (T1 : LamX.Tabs Tb H1) (s : Same H1 H2) (np : H2 p = none) : Q (.ref p) (upd H2 p (.lst row)) := by
  have s2 : Same H2 (upd H2 p (.lst row)) := fun b o q => by rw [upd_ne (ne_of_none q np)]; exact q
  have s3 : Same H1 (upd H2 p (.lst row)) := fun b o q => s2 _ _ (s _ _ q)
  exact g _ p (e1.trans (ext_same s3)) (T1.ext s3) upd_same fun b o h t => ne_of_none (s _ _ (e1 _ _ h t)) np
/-- rows away from D and from the place of their list -/
inductive RowsD (D : Hp) (sq : Addr) (H : Hp) : List V → List (List V) → Prop
  | nil : RowsD D sq H [] []
  | cons {q : Addr} {r : List V} {xs : List V} {rs : List (List V)} (h : H q = some (.lst r)) (n : D q = none) (m : q ≠ sq) (t : RowsD D sq H xs rs) : RowsD D sq H (.ref q :: xs) (r :: rs)
theorem RowsD.mono {D : Hp} {sq : Addr} {H H' : Hp} (f : ∀ b xs, b ≠ sq → H b = some (.lst xs) → H' b = some (.lst xs)) : ∀ {xs rs}, RowsD D sq H xs rs → RowsD D sq H' xs rs
  | _, _, .nil => .nil
  | _, _, .cons h n m t => .cons (f _ _ m h) n m (t.mono f)
theorem RowsD.snoc {D : Hp} {sq : Addr} {H : Hp} {q : Addr} {r : List V} (h : H q = some (.lst r)) (n : D q = none) (m : q ≠ sq) : ∀ {xs rs}, RowsD D sq H xs rs → RowsD D sq H (xs ++ [.ref q]) (rs ++ [r])
  | _, _, .nil => .cons h n m .nil
  | _, _, .cons a b c t => .cons a b c (t.snoc h n m)
theorem RowsD.len {D : Hp} {sq : Addr} {H : Hp} : ∀ {xs rs}, RowsD D sq H xs rs → xs.length = rs.length
  | _, _, .nil => rfl
  | _, _, .cons _ _ _ t => congrArg (· + 1) t.len
structure SeenD (T : List (Addr × Str)) (D H : Hp) (sq : Addr) (xs : List V) (rs : List (List V)) : Prop where
  sub : Same D H
  tab : LamX.Tabs T H
  at_ : H sq = some (.lst xs)
  nsq : D sq = none
  row : RowsD D sq H xs rs
section
variable {T : List (Addr × Str)} {D Ha Hb H H1 : Hp} {sq p : Addr} {r xs : List V} {rs : List (List V)}
theorem SeenD.first (tb : NoTb D) (sD : Same D Ha) (e : LamX.ExtN Ha Hb) (t : LamX.Tabs T Hb) (hp : Hb p = some (.lst r)) (fr : Fr Ha p) (n : Hb sq = none) : SeenD T D (upd Hb sq (.lst [.ref p])) sq [.ref p] [r] := by
  have s : Same Hb (upd Hb sq (.lst [.ref p])) := fun b o q => by rw [upd_ne (ne_of_none q n)]; exact q
  have sb := sub_ext tb sD e
  exact ⟨fun b o h => s _ _ (sb _ _ h), t.ext s, upd_same, free_of sb n, .cons (s _ _ hp) (fr.none sD tb) (ne_of_none hp n) .nil⟩
theorem SeenD.step (tb : NoTb D) (s : SeenD T D H sq xs rs) (e1 : LamX.ExtN H H1) (T1 : LamX.Tabs T H1) (hp : H1 p = some (.lst r)) (fr : Fr H p) :
    H1 sq = some (.lst xs) ∧ SeenD T D (upd H1 sq (.lst (xs ++ [.ref p]))) sq (xs ++ [.ref p]) (rs ++ [r]) := by
  have h1 : H1 sq = some (.lst xs) := e1 _ _ s.at_ (by intro ps z; cases z)
  have ne : p ≠ sq := (fr _ _ s.at_ (by intro ps z; cases z)).symm
  refine ⟨h1, fun b o h => ?_, Sn.tabs_put h1 T1, upd_same, s.nsq, ?_⟩
  · rw [upd_ne (ne_of_none h s.nsq)]
    exact sub_ext tb s.sub e1 _ _ h
  · refine RowsD.snoc (by rw [upd_ne ne]; exact hp) (fr.none s.sub tb) ne (s.row.mono fun b ys m h => ?_)
    rw [upd_ne m]
    exact e1 _ _ h (by intro ps z; cases z)
end
/-- texts of rows -/
inductive TxtsD (X : Cx) (n : Nat) (D : Hp) : List (List V) → List (List Str) → Prop
  | nil : TxtsD X n D [] []
  | cons {r : List V} {ts : List Str} {rs : List (List V)} {tss : List (List Str)} (ne : r ≠ []) (l : ts.length = r.length) (h : ∀ (i : Nat) (v : V), r[i]? = some v → ∃ t, ts[i]? = some t ∧ ItN X n D v t) (t : TxtsD X n D rs tss) : TxtsD X n D (r :: rs) (ts :: tss)
theorem rows_it {X : Cx} {n : Nat} {D Hs : Hp} {sq : Addr} (sD : Same D (Sn.Hj sq Hs)) : ∀ {xs : List V} {rs : List (List V)} {tss : List (List Str)}, RowsD D sq Hs xs rs → TxtsD X n D rs tss → (tss.map listText).length = xs.length ∧ ∀ (i : Nat) (v : V), xs[i]? = some v → ∃ t, (tss.map listText)[i]? = some t ∧ ItN X (n + 1) (Sn.Hj sq Hs) v t
  | _, _, _, .nil, .nil => ⟨rfl, fun i v h => by simp at h⟩
  | _, _, _, .cons h n m t, .cons ne l hh tt => by
    obtain ⟨a, b⟩ := rows_it sD t tt
    refine ⟨by rw [List.map_cons, List.length_cons, a, List.length_cons], fun i v hv => ?_⟩
    cases i with
    | zero =>
      cases hv
      exact ⟨_, rfl, itN_list n sD (Sn.hj_at m h) ne l hh⟩
    | succ i => exact b i v hv
/-- repr of a list of rows -/
theorem repr_rows {X : Cx} {n : Nat} {D Hs : Hp} {sq : Addr} {xs : List V} {rs : List (List V)} {tss : List (List Str)} {Q : VK} (sD : Same D Hs) (nq : D sq = none) (hq : Hs sq = some (.lst xs)) (row : RowsD D sq Hs xs rs) (tx : TxtsD X n D rs tss) (ne : xs ≠ []) (sz : (listText (tss.map listText)).length ≤ sizeLine)
    (q : ∀ H', Same Hs H' → Q (.str (listText (tss.map listText))) H') : rReprN X (n + 1) [.ref sq] Hs Q := by
  have s' : Same D (Sn.Hj sq Hs) := fun b o e => Sn.hj_at (ne_of_none e nq) (sD _ _ e)
  obtain ⟨a, b⟩ := rows_it s' row tx
  exact ⟨sq, Sn.Hj sq Hs, xs, _, rfl, by simp [Sn.Hj], Sn.hj_up, hq, ne, a, b, sz, q⟩
/-- a row of a name, a value and True -/
theorem row3 {X : Cx} {n : Nat} {D : Hp} {nm : Str} {v : V} {t : Str} (hn : (reprText nm).length ≤ sizeLine) (h : ItN X n D v t) : ∀ (i : Nat) (y : V), ([.str nm, v, .bl true] : List V)[i]? = some y → ∃ u, ([reprText nm, t, "True"] : List Str)[i]? = some u ∧ ItN X n D y u := by
  intro i y hy
  match i, hy with
  | 0, h => cases h; exact ⟨_, rfl, itN_of (it_str hn)⟩
  | 1, e => cases e; exact ⟨_, rfl, h⟩
  | 2, h => cases h; exact ⟨("True" : Str), rfl, itN_of (it_bl true)⟩
  | k + 3, h => cases h
theorem row_len {nm t : Str} {a : Nat} (hn : (reprText nm).length ≤ 40) (ht : t.length ≤ a) : (listText [reprText nm, t, "True"]).length ≤ a + 100 := by
  have b1 := list_le [reprText nm, t, "True"]
  have b5 : ("True" : Str).length ≤ 30 := by decide +kernel
  simp only [List.map_cons, List.map_nil, List.sum_cons, List.sum_nil] at b1
  omega
theorem len2 {a b : Str} {n : Nat} (h1 : a.length ≤ n) (h2 : b.length ≤ n) (hn : n ≤ 200) : (listText [a, b]).length ≤ sizeLine := by
  have b1 := list_le [a, b]
  simp only [List.map_cons, List.map_nil, List.sum_cons, List.sum_nil] at b1
  exact Cm.szl (by omega)
theorem len3 {a b c : Str} {n : Nat} (h1 : a.length ≤ n) (h2 : b.length ≤ n) (h3 : c.length ≤ n) (hn : n ≤ 200) : (listText [a, b, c]).length ≤ sizeLine := by
  have b1 := list_le [a, b, c]
  simp only [List.map_cons, List.map_nil, List.sum_cons, List.sum_nil] at b1
  exact Cm.szl (by omega)
end RpL

/-! sum of a tuple of ints, a tuple times any count, xs += ys of lists -/
namespace RwR
open PySem PySem.Spec PyProof.Rows L2 Cm
section
variable {prog : Program} {w : World} {A : Around} {E : Value → Shared → Prop} {s : Shared} {l : Addr} {xs : Array (Int × Tok)}
theorem sum_intTupG {Q : Value → Shared → Prop} (hh : A.handled = none) (hl : s.heap.IsTuple l (intItems xs))
    (h : ∀ h' tk t', (∀ b o, s.heap.get? b = some o → h'.get? b = some o) → Q (.int (preSum (numAt xs) xs.size) t') { s with heap := h', toks := tk }) :
    wpAny (model prog w) A (call (.builtin "sum") [.ref l]) Q E s := by
  have hlt : l < s.heap.objs.size := by obtain ⟨_, e, _⟩ := hl; exact Heap.lt_size e
  refine call_sum_walkG (wpAny_pyIter_tuple hl ?_)
  refine ⟨_, [_, l], [_], _, _, _, numAt xs, rfl, Walks.tuple (A := A.in1) hh _ l (Nat.ne_of_lt hlt) (intItems xs), ⟨⟨_, Heap.get?_push_size _ rfl, rfl, rfl⟩, hl.push _⟩, fun c hc => ?_, (fun _ _ => intItems_at), fun h' tk t' hk => ?_⟩
  · show c < (s.heap.push _).objs.size
    rw [Heap.size_push]
    rcases List.mem_cons.mp hc with rfl | hc
    · exact Nat.lt_succ_self _
    · rcases List.mem_cons.mp hc with rfl | hc
      · exact Nat.lt_succ_of_lt hlt
      · cases hc
  · have hold : ∀ b o, s.heap.get? b = some o → h'.get? b = some o := fun b o e => by
      refine hk b o (fun hm => ?_) (Heap.get?_push_of_some _ e)
      rcases List.mem_cons.mp hm with e1 | hm
      · exact absurd (e1 ▸ Heap.lt_size e) (Nat.lt_irrefl _)
      · cases hm
    have := h h' tk t' hold
    simpa [intItems] using this
end
section
variable {X : Cx}
/-- sum(t) -/
def rSumT (K : PySem.W.Frag) : List V → Hp → VK → Prop := fun vs H Q => ∃ (a : Addr) (ns : List Int), vs = [V.ref a] ∧ SqT K H a (ns.map V.int) ∧ Q (.int ns.sum) H
theorem cr_sumT (hc : X.calm = true) : CallR X (.builtin "sum") (rSumT X.K) := by
  intro pins s σ H vs us Q I r h
  obtain ⟨a, ns, rfl, hs, q⟩ := h
  obtain ⟨its, rv, hl, _⟩ := I.tuple hs
  rw [Vals.ref1 r]
  have hi := rv.ints
  obtain ⟨xs, e⟩ := hi.allInts.items
  have hn : numsOf (intItems xs).toList = ns := by rw [← e]; exact hi.numsOf
  rw [nums_intItems] at hn
  rw [e] at hl
  refine sum_intTupG (I.ok.hd hc) hl fun h' tk t' hk => ?_
  rw [preSum_eq, List.take_of_length_le (by simp), hn]
  exact ⟨.int _, H, I.kept hk, ⟨_, rfl⟩, q⟩
/-- xs += ys -/
def rIadd : V → V → Hp → VK → Prop := fun x y H Q => ∃ l b xs zs, x = .ref l ∧ y = .ref b ∧ H l = some (.lst xs) ∧ H b = some (.lst zs) ∧ xs.length + zs.length ≤ sizeLine ∧ Q (.ref l) (upd H l (.lst (xs ++ zs)))
theorem ip_iadd : PIp X .Add rIadd := by
  intro pins s σ H x y v u Q I rx ry h
  obtain ⟨l, b, xs, zs, rfl, rfl, hH, hB, hz, q⟩ := h
  cases rx
  cases ry
  obtain ⟨z, its, n, r, hl, e⟩ := I.lstM hH
  obtain ⟨z2, its2, n2, r2, hl2, e2⟩ := I.lstM hB
  have hsz : its.toArray.size + its2.toArray.size ≤ sizeLine := by rw [List.size_toArray, List.size_toArray]; omega
  have hlong : ¬ (!its.toArray.isEmpty && Builtin.List.listTooLong (its.toArray.size + its2.toArray.size)) = true := by
    rw [notLongL hsz, Bool.and_false]
    exact Bool.false_ne_true
  have ta : s.TypeIs (.ref l) "list" := ⟨_, e, rfl⟩
  have tb : s.TypeIs (.ref b) "list" := ⟨_, e2, rfl⟩
  have hseq : isSeqSlot (some (.builtin "list.__iadd__")) = true := by decide +kernel
  have hfi : fillsInplaceSlot (.type "list") "add" (Operator.Add == .Add) = pure false := by
    unfold fillsInplaceSlot
    show (typeLookup (.type "list") (dunderI "add") >>= fun fi => pure (fi.isSome && !isSeqSlot fi)) = pure false
    rw [PySem.F.slot_list_iadd.lookup]
    show (pure (true && !isSeqSlot (some (.builtin "list.__iadd__"))) : Sem Bool) = pure false
    rw [hseq]
    rfl
  unfold inplaceOp
  refine wpAny_holding ?_
  refine wpAny_bind (wpAny_typeOf ta (wpAny_bind (wpAny_of_eq hfi ?_)))
  show wpAny _ _ (if false = true then _ else _) _ _ s
  rw [if_neg Bool.false_ne_true]
  refine wpAny_bind (PyProof.Rows.binaryOp1_none (nm := "add") ta tb PySem.noFill_list_add ?_)
  refine wpAny_bind (wpAny_of_eq (PySem.seqSlot_of (T := "list") (name := dunderI "add") (id := "list.__iadd__") PySem.F.slot_list_iadd.lookup hseq) ?_)
  refine wpAny_bind (wpAny_rule (call_meets PySem.F.slot_list_iadd ta PySem.F.entry_list_iadd (PySem.F.args_list_iadd_2 _ _)
    (AutoSeq1.list___iadd___list_list_0 l its.toArray n b its2.toArray n2 hlong (by rw [List.size_toArray]; omega) (by omega)) ⟨e, e2, ?_⟩))
  refine ⟨.ref l, _, I.lset (its' := its ++ its2) hH e (by simp) (r.append r2) ?_, rfl, q⟩
  rw [List.length_append]
  omega
/-- a tuple times any count -/
theorem tuple_mul_same (l : Addr) (items : Array Value) (n : Nat) (dd : Option Addr) (sl : Array (Option Value)) (x : Int) (u : Tok) (c0 : (decide (x < -(2 ^ 63)) || decide (x ≥ 2 ^ 63)) = false) (c1 : (items.isEmpty || x == 1) = true) :
    Meets (Builtin.«tuple.__mul__» ⟨[.ref l, .int x u], []⟩) (fun _ R s => s.heap.get? l = some { cls := .type "tuple", dict := dd, data := .seq items n, slots := sl } ∧ R (.ok (.ret (Value.ref l))) s) :=
  .of_wp fun prog w A R s h => by
    obtain ⟨hp, g, d, tk, os⟩ := s
    obtain ⟨hl, h⟩ := h
    have f1 := AutoSeq1.idx_int
    wp_walk using wpAny_loadPart' hl
    repeat (first
      | (refine wpAny_ite_false (decide_eq_false (by rw [c0]; exact Bool.false_ne_true)) ?_; wp_walk using wpAny_loadPart' hl)
      | (refine wpAny_ite_true (decide_eq_true c1) ?_; wp_walk using wpAny_loadPart' hl))
    exact ⟨_, rfl, h⟩
theorem tuple_mul_none (l : Addr) (items : Array Value) (n : Nat) (dd : Option Addr) (sl : Array (Option Value)) (x : Int) (u : Tok) (c0 : (decide (x < -(2 ^ 63)) || decide (x ≥ 2 ^ 63)) = false) (c1 : (items.isEmpty || x == 1) = false) (c2 : (decide (x ≤ 0) || items.isEmpty) = true) :
    Meets (Builtin.«tuple.__mul__» ⟨[.ref l, .int x u], []⟩) (fun _ R s => s.heap.get? l = some { cls := .type "tuple", dict := dd, data := .seq items n, slots := sl } ∧
      R (.ok (.ret (Value.ref s.heap.objs.size))) { s with heap := s.heap.push { cls := Value.type "tuple", data := Data.seq #[] }, toks := s.toks }) :=
  .of_wp fun prog w A R s h => by
    obtain ⟨hp, g, d, tk, os⟩ := s
    obtain ⟨hl, h⟩ := h
    have f1 := AutoSeq1.idx_int
    wp_walk using wpAny_loadPart' hl
    repeat (first
      | (refine wpAny_ite_false (decide_eq_false (by rw [c0]; exact Bool.false_ne_true)) ?_; wp_walk using wpAny_loadPart' hl)
      | (refine wpAny_ite_false (decide_eq_false (by rw [c1]; exact Bool.false_ne_true)) ?_; wp_walk using wpAny_loadPart' hl)
      | (refine wpAny_ite_true (decide_eq_true c2) ?_; wp_walk using wpAny_loadPart' hl)
      | (refine wpAny_ite_false (decide_eq_false (by decide)) ?_; wp_walk using wpAny_loadPart' hl))
    exact ⟨_, rfl, h⟩
def rRepN : R2 := fun x y H Q => ∃ (l : Addr) (k : Nat) (xs : List V), x = .ref l ∧ y = .int k ∧ H l = some (.tup xs) ∧ k < 2 ^ 62 ∧ xs.length ≤ 1000 ∧ (xs ≠ [] → k ≤ 1000) ∧ ∀ (H' : Hp) (q : Addr), Same H H' → H' q = some (.tup (List.replicate k xs).flatten) → Q (.ref q) H'
theorem flat_nil : ∀ k, (List.replicate k ([] : List V)).flatten = []
  | 0 => rfl
  | k + 1 => by rw [List.replicate_succ, List.flatten_cons, flat_nil k]; rfl
theorem op_repN : OpR X (binaryOp .Mult) rRepN := by
  intro pins s σ H x y v u Q I rx ry h
  obtain ⟨l, k, xs, rfl, rfl, hT, hk, hx, hl, q⟩ := h
  by_cases hne : xs ≠ [] ∧ 2 ≤ k
  · refine op_repT pins s σ H _ _ v u Q I rx ry ⟨l, k, xs, rfl, rfl, SqT.of hT, hne.1, by omega, by have := hl hne.1; omega, hx, fun p np => ?_⟩
    rw [Int.toNat_natCast]
    exact q _ p (same_new np) upd_same
  cases rx
  obtain ⟨t, rfl⟩ := ry
  obtain ⟨its, r, ⟨⟨cls, dd, data, sl⟩, ho, hc, n, hd⟩, hs⟩ := I.tuple (SqT.of hT)
  simp only at hc hd
  subst hc hd
  have hle : its.length = xs.length := r.length.symm
  have c0 : (decide ((k : Int) < -(2 ^ 63)) || decide ((k : Int) ≥ 2 ^ 63)) = false := by
    rw [decide_eq_false (by omega), decide_eq_false (by omega)]
    rfl
  by_cases hs1 : xs = [] ∨ k = 1
  · have c1 : (its.toArray.isEmpty || (k : Int) == 1) = true := by
      rcases hs1 with e | e
      · have : its = [] := List.eq_nil_of_length_eq_zero (by rw [hle, e]; rfl)
        rw [this]
        rfl
      · rw [e]
        simp
    refine wpAny_binaryOp_repeat_ref (T := "tuple") (U := "int") (by decide) ⟨_, ho, rfl⟩ (fun s' => typeIs_int s' k t) noFill_tuple_mul F.fills_int_mul F.slot_int_rmul repeat_tuple F.slot_int_index.lookup
      (call_meets F.slot_int_rmul (typeIs_int s k t) F.entry_int_rmul (F.args_int_rmul_2 _ _) (int_rmul_tuple k t l its.toArray n dd sl)
        ⟨ho, rfl, ⟨_, ho, rfl⟩, call_meets F.slot_tuple_mul ⟨_, ho, rfl⟩ F.entry_tuple_mul (F.args_tuple_mul_2 _ _) (tuple_mul_same l its.toArray n dd sl k t c0 c1) ⟨ho, ?_⟩⟩)
    refine ⟨.ref l, H, I, rfl, q H l (Same.refl _) ?_⟩
    rw [hT]
    rcases hs1 with e | e
    · rw [e, flat_nil]
    · rw [e]
      simp
  · have hx0 : xs ≠ [] := fun e => hs1 (.inl e)
    have k0 : k = 0 := by
      have : ¬ 2 ≤ k := fun e => hne ⟨hx0, e⟩
      have : k ≠ 1 := fun e => hs1 (.inr e)
      omega
    subst k0
    have hi : its.toArray.isEmpty = false := by
      cases its with
      | nil => exact absurd (List.eq_nil_of_length_eq_zero hle.symm) hx0
      | cons a b => rfl
    refine wpAny_binaryOp_repeat_ref (T := "tuple") (U := "int") (by decide) ⟨_, ho, rfl⟩ (fun s' => typeIs_int s' _ t) noFill_tuple_mul F.fills_int_mul F.slot_int_rmul repeat_tuple F.slot_int_index.lookup
      (call_meets F.slot_int_rmul (typeIs_int s _ t) F.entry_int_rmul (F.args_int_rmul_2 _ _) (int_rmul_tuple _ t l its.toArray n dd sl)
        ⟨ho, rfl, ⟨_, ho, rfl⟩, call_meets F.slot_tuple_mul ⟨_, ho, rfl⟩ F.entry_tuple_mul (F.args_tuple_mul_2 _ _) (tuple_mul_none l its.toArray n dd sl _ t c0 (by rw [hi]; rfl) rfl) ⟨ho, ?_⟩⟩)
    refine ⟨.ref s.heap.objs.size, _, I.laid (t' := s.toks) (o := .tup []) (fun b ob q => Heap.get?_push_of_some _ q) (Nat.le_refl _) ?_, rfl, q _ _ (same_new (I.hok.fresh (Nat.le_refl _))) upd_same⟩
    exact ⟨Nat.zero_le _, [], .nil, IsTup.new _ _⟩
end
end RwR
namespace RwR
open PySem PySem.Spec PyProof.Rows L2
section
variable {X : Cx} {d : Addr} {es : Array DictEntry} {n : Nat}
/-- d[key] of a dict of the module -/
theorem ix_kd (D : KDict X.K X.w d es n) : IxR X (fun x y H Q => ∃ (z : Str) (u0 : Value) (v0 : V), x = .ref d ∧ y = .str z ∧ PySem.W.nsIn X.K d z = some (some u0) ∧ RelV v0 u0 ∧ Q v0 H) := by
  intro value slice pins s σ H x y v u Q I rx ry h hs
  obtain ⟨z, u0, v0, rfl, rfl, e, r, q⟩ := h
  cases rx
  obtain ⟨t, rfl⟩ := ry
  refine tail_any (kd_type D I) PySem.F.slot_dict_getitem.lookup ?_ hs
  exact wpAny_getItem_of (PySem.strKind_is X.prog X.w z t) (PySem.W.mapOf_K (prog := X.prog) I.kIn D.at_ D.lit) (PySem.W.find_K D.at_ e) ⟨v0, H, I.tok _, r, q⟩
end
end RwR
namespace RwR
open PySem PySem.Spec PyProof.Rows L2
/-- a call of a local name that holds one of several defs of one row of parameters -/
def tCallI {ι : Type} (i : Nat) (fs : ι → Addr) (sps : ι → Sp) (E : XK) (t : TA) : TE := fun σ H Q => ∃ a : ι, σ[i]? = some (some (.ref (fs a))) ∧ t σ H fun vs H1 => sps a vs H1 Q E
theorem pe_callI {X : Cx} {ι : Type} {CX : CXT} {k i : Nat} {fs : ι → Addr} {fds : ι → FuncData} {ps : List Str} {sps : ι → Sp} {E : XK} {x : Str} {p pos : Pos} {e : Expr} {es : List Expr} {t : TA}
    (F : ∀ a, FnOk X.prog X.w X.K X.mg X.base CX k (fs a) (fds a) ps (sps a)) (hr : Room k X.A) (hN : X.N[i]? = some x) (hv : Vis X.env.scope x) (hk : ∀ a, PySem.W.keepIn X.K (.ref (fs a)) = true) (hb : ∀ a, Binds X.K (fds a) ps []) (hx : Passes CX X E) (ha : PA X (e :: es) t)
    (hdb : (x == ("__debug__" : Str)) = false := by decide) (hcd : (x == ("__classdict__" : Str)) = false := by decide)
    (he : starEach (e :: es) X.env = (false, eval e X.env) :: starEach es X.env := by rfl) (hpl : (backTo pos (starEach es X.env)).any (·.1) = false := by rfl) : PE X (.Call (.Name x p) (e :: es) [] pos) (tCallI i fs sps E t) := by
  refine ⟨fun pins s σ H Q I h => ?_⟩
  obtain ⟨a, hs, ht⟩ := h
  refine (pe_callL (i := i) (f := fs a) (sp := sps a) (dvs := []) (E := E) (F a) hr hN hv (hk a) (hb a) .nil hx ha hdb hcd he hpl).run pins s σ H Q I ⟨hs, ?_⟩
  have e0 : (fun (vs : List V) (H1 : Hp) => sps a (vs ++ []) H1 Q E) = fun vs H1 => sps a vs H1 Q E := by
    funext vs H1
    rw [List.append_nil]
  rw [e0]
  exact ht
end RwR

/-! f(k = v, ..): a def called by keywords alone -/
namespace FKw
open PySem L2
def tCallK0 (sp : Sp) (gV : List V → List V → List V) (E : XK) (tk : TA) : TE := fun σ H Q => tk σ H fun zs H2 => sp (gV [] zs) H2 Q E
theorem pe_callK0 {X : Cx} {CX : CXT} {k : Nat} {f : Addr} {fd : FuncData} {ps ks : List Str} {sp : Sp} {E : XK} {x : Str} {p pos : Pos} {kws : List Keyword} {tk : TA} {g : List Value → List Value → List Value} {gV : List V → List V → List V}
    (F : FnOk X.prog X.w X.K X.mg X.base CX k f fd ps sp) (hr : Room k X.A) (hg : Gl X x) (hm : X.mg x = some (.ref f)) (hk : PySem.W.keepIn X.K (.ref f) = true) (hb : KBinds X.K fd ps ks g gV) (hx : Passes CX X E) (hkw : PK X kws tk)
    (hall : (backToKw pos (keywordEach kws X.env)).all (·.1.isSome) = true := by rfl) (hks : (backToKw pos (keywordEach kws X.env)).filterMap (·.1) = ks := by rfl) (hdb : (x == ("__debug__" : Str)) = false := by decide)
    (hpl : ((backTo pos (starEach [] X.env)).any (·.1) || (backToKw pos (keywordEach kws X.env)).any (·.1.isNone)) = false := by rfl) :
    PE X (.Call (.Name x p) [] kws pos) (tCallK0 sp gV E tk) := by
  refine ⟨fun pins s σ H Q I h => ?_⟩
  refine wpAny_Call_Name_kw (ld_glob I hg hm ?_ hdb)
  refine PySem.W.callWith_KW0 (first := []) (h₀ := X.base) I.ok.mod.kin hk hall ?_ hpl
  refine thn (hkw.run pos pins s σ H _ I h) fun ws s2 ⟨zs, H2, I2, rz, q2⟩ => ⟨I2.kIn, ?_⟩
  rw [hks]
  exact run_fnk (us := []) (vs := []) F hr hb hx I2 .nil rz q2
end FKw

/-! a call by keywords alone of a local that holds one of several defs -/
namespace RwR
open PySem PySem.Spec PyProof.Rows L2
def tCallIK {ι : Type} (i : Nat) (fs : ι → Addr) (sps : ι → Sp) (gV : List V → List V → List V) (E : XK) (tk : TA) : TE := fun σ H Q => ∃ a : ι, σ[i]? = some (some (.ref (fs a))) ∧ tk σ H fun zs H2 => sps a (gV [] zs) H2 Q E
theorem pe_callIK {X : Cx} {ι : Type} {CX : CXT} {k i : Nat} {fs : ι → Addr} {fds : ι → FuncData} {ps ks : List Str} {sps : ι → Sp} {E : XK} {x : Str} {p pos : Pos} {kws : List Keyword} {tk : TA} {g : List Value → List Value → List Value} {gV : List V → List V → List V}
    (F : ∀ a, FnOk X.prog X.w X.K X.mg X.base CX k (fs a) (fds a) ps (sps a)) (hr : Room k X.A) (hN : X.N[i]? = some x) (hv : Vis X.env.scope x) (hk : ∀ a, PySem.W.keepIn X.K (.ref (fs a)) = true) (hb : ∀ a, KBinds X.K (fds a) ps ks g gV) (hx : Passes CX X E) (hkw : PK X kws tk)
    (hall : (backToKw pos (keywordEach kws X.env)).all (·.1.isSome) = true := by rfl) (hks : (backToKw pos (keywordEach kws X.env)).filterMap (·.1) = ks := by rfl) (hdb : (x == ("__debug__" : Str)) = false := by decide) (hcd : (x == ("__classdict__" : Str)) = false := by decide)
    (hpl : ((backTo pos (starEach [] X.env)).any (·.1) || (backToKw pos (keywordEach kws X.env)).any (·.1.isNone)) = false := by rfl) :
    PE X (.Call (.Name x p) [] kws pos) (tCallIK i fs sps gV E tk) := by
  refine ⟨fun pins s σ H Q I h => ?_⟩
  obtain ⟨a, hs, ht⟩ := h
  refine wpAny_Call_Name_kw (thn ((pe_var (pos := p) hN hv hdb hcd).run pins s σ H (fun v H1 => v = .ref (fs a) ∧ H1 = H) I ⟨.ref (fs a), hs, rfl, rfl⟩) fun u s1 ⟨v, H1, I1, r1, q1⟩ => ?_)
  obtain ⟨rfl, rfl⟩ := q1
  cases r1
  refine PySem.W.callWith_KW0 (first := []) (h₀ := X.base) I.ok.mod.kin (hk a) hall ?_ hpl
  refine thn (hkw.run pos pins s1 σ _ _ I1 ht) fun ws s2 ⟨zs, H2, I2, rz, q2⟩ => ⟨I2.kIn, ?_⟩
  rw [hks]
  exact run_fnk (us := []) (vs := []) (F a) hr (hb a) hx I2 .nil rz q2
end RwR

namespace My
open PySem L2 Cm LM IsX Gd RpA SkT Sn CmH
section
variable {K : PySem.W.Frag} {mg : Str → Option Value}
/-! ### data and their types -/
theorem typedI_bl {H : Hp} (i : Bool) : TypedI K H (.bl i) := ⟨_, .base (.bl i), kit_ty (show kitB "bool" "int" = some true by decide +kernel), kit_ty (show kitB "bool" "bool" = some true by decide +kernel)⟩
theorem typedI_dq {H : Hp} {v : V} {d : PyData} (q : Dq H v d) : TypedI K H v := by
  have t := dq_ty (K := K) q
  cases q with
  | bl b => exact typedI_bl b
  | int i => exact typed_int i
  | non => exact ⟨_, t, kit_ty (show kitB "NoneType" "int" = some false by decide +kernel), kit_ty (show kitB "NoneType" "bool" = some false by decide +kernel)⟩
  | str x => exact ⟨_, t, kit_ty (show kitB "str" "int" = some false by decide +kernel), kit_ty (show kitB "str" "bool" = some false by decide +kernel)⟩
  | lst h _ => exact ⟨_, t, kit_ty (show kitB "list" "int" = some false by decide +kernel), kit_ty (show kitB "list" "bool" = some false by decide +kernel)⟩
  | tup h _ => exact ⟨_, t, kit_ty (show kitB "tuple" "int" = some false by decide +kernel), kit_ty (show kitB "tuple" "bool" = some false by decide +kernel)⟩
  | dct h => exact ⟨_, t, kit_ty (show kitB "dict" "int" = some false by decide +kernel), kit_ty (show kitB "dict" "bool" = some false by decide +kernel)⟩
theorem typedS_dq {H : Hp} {v : V} {d : PyData} (q : Dq H v d) : Typed K H v := by
  have t := dq_ty (K := K) q
  cases q with
  | str x => exact typed_str x
  | bl b => exact ⟨_, t, kit_ty (show kitB "bool" "str" = some false by decide +kernel)⟩
  | int i => exact ⟨_, t, kit_ty (show kitB "int" "str" = some false by decide +kernel)⟩
  | non => exact ⟨_, t, kit_ty (show kitB "NoneType" "str" = some false by decide +kernel)⟩
  | lst h _ => exact ⟨_, t, kit_ty (show kitB "list" "str" = some false by decide +kernel)⟩
  | tup h _ => exact ⟨_, t, kit_ty (show kitB "tuple" "str" = some false by decide +kernel)⟩
  | dct h => exact ⟨_, t, kit_ty (show kitB "dict" "str" = some false by decide +kernel)⟩
/-- no built-in thing is an instance of the class at C -/
def NoB (K : PySem.W.Frag) (C : Addr) : Prop := ∀ d : PyData, PySem.W.kitOne K (.type (tyN d)) (.ref C) = some false
theorem noIn_dq {C : Addr} {H : Hp} {v : V} {d : PyData} (N : NoB K C) (q : Dq H v d) : NoIn K C H v := ⟨_, dq_ty q, N d⟩
theorem noIn_lst {C : Addr} {H : Hp} {a : Addr} {xs : List V} (N : NoB K C) (h : H a = some (.lst xs)) : NoIn K C H (.ref a) := ⟨_, .base (.lst h), N (.list [])⟩
theorem LoopAt.ext {C : Addr} {H H' : Hp} {o : Addr} {t : Str} (s : LamX.ExtN H H') (h : LoopAt C H o t) : LoopAt C H' o t := by
  have f : ∀ (p : Addr) (xs : List V), H p = some (.tup xs) → H' p = some (.tup xs) := fun p xs e => s _ _ e (by intro ps z; cases z)
  obtain ⟨dx, pr, pe, po, pq, a, b, c, d, e⟩ := h
  exact ⟨dx, pr, pe, po, pq, s _ _ a (by intro ps z; cases z), f _ _ b, f _ _ c, d.mono f, e.mono f⟩
theorem new2 {H : Hp} {x dx C : Addr} (nx : H x = none) (ndx : H dx = none) : Same H (upd (upd H dx (.own x)) x (.ins C dx [])) := fun z o h => by
  rw [upd_ne (ne_of_none h nx), upd_ne (ne_of_none h ndx)]
  exact h
/-! ### parts of heaps -/
theorem cj {j : Addr} {H : Hp} {b : Addr} {o : HO} (n : b ≠ j) (h : H b = some o) (t : ∀ ps, o ≠ .tbl ps) : RpL.cut [j] H b = some o := RpL.cut_at (by simpa using n) h t
theorem cj_off {j : Addr} {H H' : Hp} (o : Off j H H') : Same (RpL.cut [j] H) (RpL.cut [j] H') := RpL.cut_same fun b u n _ e => o b u (by simpa using n) e
theorem cj_same {j : Addr} {H H' : Hp} (s : Same H H') : Same (RpL.cut [j] H) (RpL.cut [j] H') := RpL.cut_same fun b u _ _ e => s b u e
theorem cj_ext {j : Addr} {H H' : Hp} (s : LamX.ExtN H H') : Same (RpL.cut [j] H) (RpL.cut [j] H') := RpL.cut_same fun b u _ t e => s b u e t
theorem loop_part {C : Addr} {H D : Hp} {o : Addr} {t : Str} (f : ∀ b u, (∀ xs, u ≠ .lst xs) → (∀ ps, u ≠ .tbl ps) → H b = some u → D b = some u) (h : LoopAt C H o t) : LoopAt C D o t := by
  have ft : ∀ (p : Addr) (xs : List V), H p = some (.tup xs) → D p = some (.tup xs) := fun p xs e => f _ _ (by intro xs z; cases z) (by intro ps z; cases z) e
  obtain ⟨dx, pr, pe, po, pq, a, b, c, d, e⟩ := h
  exact ⟨dx, pr, pe, po, pq, f _ _ (by intro xs z; cases z) (by intro ps z; cases z) a, ft _ _ b, ft _ _ c, d.mono ft, e.mono ft⟩
theorem src_part {C : Addr} {H D : Hp} {o : Addr} {A B E : Str} (f : ∀ b u, (∀ xs, u ≠ .lst xs) → (∀ ps, u ≠ .tbl ps) → H b = some u → D b = some u) (h : SrcU C H o A B E) : SrcU C D o A B E := by
  obtain ⟨dx, e⟩ := h
  exact ⟨dx, f _ _ (by intro xs z; cases z) (by intro ps z; cases z) e⟩
/-- what is no list stands in the heap without the jar -/
theorem in_cut {j : Addr} {H : Hp} (J : Jar H j) : ∀ b u, (∀ xs, u ≠ .lst xs) → (∀ ps, u ≠ .tbl ps) → H b = some u → RpL.cut [j] H b = some u := fun b u nl nt e => by
  obtain ⟨x, y, z, q⟩ := J
  exact cj (ne_of e q (nl _)) e nt
/-! ### the calls that are refused -/
abbrev TC4 (T : TxJg K mg) := TCame T.eN.C T.M.ip.C T.eL.C T.eS.C
theorem lam_wo {Tb : List (Addr × Str)} (T : TxJg K mg) {o : Addr} {t : Str} {v : V} {dv : PyData} {targs : TA} {σ : L2.St} {H : Hp} {Q : VK} {i : Nat} (hT : LamX.Tabs Tb H) (hσ : σ[i]? = some (some (.ref o))) (args : ∀ (H1 : Hp) (R : List V → Hp → Prop), R [v] H1 → targs σ H1 R)
    (hL : LoopAt T.M.T.C H o t) (gt : goodText t = true) (hv : Dq H v dv) (hb : btw 1 ((nw t : Int) - 1) v = false) (g : RpL.Got Tb H [.str "InvalidPlace", v, .bl true] Q) :
    LamX.tLam Tb (TC4 T) (fun E => tMeth T.M.T.C "without" (spLW K T.M.T.C T.M.ip.C) [] E (tVar i) targs) σ H Q := by
  refine ⟨hT, fun H1 e1 T1 => ?_⟩
  have hL1 := hL.ext e1
  obtain ⟨dx, pr, pe, po, pq, ho, _⟩ := id hL1
  refine ⟨_, hσ, o, dx, _, rfl, ho, lf_no _ _ _ _ _ (by decide +kernel) (by decide +kernel) (by decide +kernel) (by decide +kernel) (by decide +kernel), args H1 _ ⟨o, t, v, rfl, hL1, gt, typedI_dq (dq_ext e1 hv), fun n e a b => ?_, fun _ H2 d s2 nd => ⟨_, .inr (.inl ⟨rfl, d, v, rfl, upd_same, rfl⟩), fun p np => RpL.got_of g e1 T1 (Same.trans s2 (same_new nd)) np⟩⟩⟩
  subst e
  have : btw 1 ((nw t : Int) - 1) (.int (n : Int)) = true := decide_eq_true (show (1 : Int) ≤ (n : Int) ∧ (n : Int) ≤ (nw t : Int) - 1 from ⟨by omega, by omega⟩)
  rw [this] at hb
  cases hb
theorem ask_good : goodText "ask" = true := by decide +kernel
theorem ask_bd : Bd "ask" := show ("ask" : Str).length ≤ 100000 by decide +kernel
theorem lam_wa {Tb : List (Addr × Str)} (T : TxJg K mg) {σ : L2.St} {H : Hp} {Q : VK} (hT : LamX.Tabs Tb H) (g : RpL.Got Tb H [.str "InvalidPlace", .int 1, .bl true] Q) :
    LamX.tLam Tb (TC4 T) (fun E => tMeth T.M.T.C "without" (spLW K T.M.T.C T.M.ip.C) [] E (tMake T.M.T.C (spLI K T.M.T.C T.M.T.E.C) [] E (tCons (tC (.str "ask")) tNil)) (tCons (tC (.int 1)) tNil)) σ H Q := by
  refine ⟨hT, fun H1 e1 T1 => fun x dx nx ndx nex => ⟨x, dx, .str "ask", rfl, upd_same, typed_str _, ask_bd, fun t' et _ H2 o2 l2 => ⟨rfl, ?_⟩, fun z => absurd ((show good (.str "ask") = true from ask_good).symm.trans z) (by decide)⟩⟩
  cases et
  have s2 := made_same nx ndx o2
  obtain ⟨dx', pr, pe, po, pq, ho, _⟩ := id l2
  have e : nw "ask" = 1 := by decide +kernel
  refine ⟨x, dx', _, rfl, ho, lf_no _ _ _ _ _ (by decide +kernel) (by decide +kernel) (by decide +kernel) (by decide +kernel) (by decide +kernel), x, "ask", .int 1, rfl, l2, ask_good, typed_int _, fun n _ a b => ?_, fun _ H3 d s3 nd => ⟨_, .inr (.inl ⟨rfl, d, _, rfl, upd_same, rfl⟩), fun p np => RpL.got_of g e1 T1 (Same.trans s2 (Same.trans s3 (same_new nd))) np⟩⟩
  rw [e] at b
  omega
/-- the first two refusals -/
def J2 (T : TxJg K mg) (H : Hp) (l u : V) (row : List V) : Prop :=
  (row = [.str "NotALoop", l, .bl true] ∧ ∀ H', LamX.ExtN H H' → NoIn K T.M.T.C H' l) ∨ ∃ (o : Addr) (t : Str), l = .ref o ∧ LoopAt T.M.T.C H o t ∧ row = [.str "NotASource", u, .bl true] ∧ ∀ H', LamX.ExtN H H' → NoIn K T.U.C H' u
theorem j2_bad {Tb : List (Addr × Str)} (T : TxJg K mg) {l u : V} {row : List V} {H H1 : Hp} {Q : VK} {more : Prop} (e1 : LamX.ExtN H H1) (T1 : LamX.Tabs Tb H1) (g : RpL.Got Tb H row Q) (bad : J2 T H l u row) :
    JBad T l u H1 (fun cls d H2 => ∃ row, RwOf T.eN.C T.M.ip.C T.eL.C T.eS.C cls d H2 row ∧ ∀ p, H2 p = none → Q (.ref p) (upd H2 p (.lst row))) more := by
  rcases bad with ⟨rfl, hn⟩ | ⟨o, t, rfl, hL, rfl, hn⟩
  · exact .inl ⟨hn H1 e1, fun d nd => ⟨_, .inr (.inr (.inl ⟨rfl, d, l, rfl, upd_same, rfl⟩)), fun p np => RpL.got_of g e1 T1 (same_new nd) np⟩⟩
  · exact .inr ⟨o, t, rfl, hL.ext e1, .inl ⟨hn H1 e1, fun d nd => ⟨_, .inr (.inr (.inr ⟨rfl, d, u, rfl, upd_same, rfl⟩)), fun p np => RpL.got_of g e1 T1 (same_new nd) np⟩⟩⟩
def fs3 (T : TxJg K mg) : Bool → Addr := fun b => match b with | true => T.alw.f | false => T.flt.f
def fd3 (T : TxJg K mg) : Bool → FuncData := fun b => match b with | true => T.alw.fd | false => T.flt.fd
def fs2 (T : TxJg K mg) : Bool → Addr := fun b => match b with | true => T.fai.f | false => T.nee.f
def fd2 (T : TxJg K mg) : Bool → FuncData := fun b => match b with | true => T.fai.fd | false => T.nee.fd
def gK3 (us ws : List Value) : List Value := match us, ws with | [], [a, b, c] => [c, b, a] | _, _ => []
def gK3V (us ws : List V) : List V := match us, ws with | [], [a, b, c] => [c, b, a] | _, _ => []
theorem gK3_rel {vs zs : List V} {us ws : List Value} (h1 : Vals vs us) (h2 : Vals zs ws) : Vals (gK3V vs zs) (gK3 us ws) := by
  cases h1 with
  | cons _ _ => exact .nil
  | nil =>
    cases h2 with
    | nil => exact .nil
    | cons a t => cases t with
      | nil => exact .nil
      | cons b t => cases t with
        | nil => exact .nil
        | cons c t => cases t with
          | nil => exact .cons c (.cons b (.cons a .nil))
          | cons _ _ => exact .nil
def gK2 (us ws : List Value) : List Value := match us, ws with | [], [a, b] => [b, a] | _, _ => []
def gK2V (us ws : List V) : List V := match us, ws with | [], [a, b] => [b, a] | _, _ => []
theorem gK2_rel {vs zs : List V} {us ws : List Value} (h1 : Vals vs us) (h2 : Vals zs ws) : Vals (gK2V vs zs) (gK2 us ws) := by
  cases h1 with
  | cons _ _ => exact .nil
  | nil =>
    cases h2 with
    | nil => exact .nil
    | cons a t => cases t with
      | nil => exact .nil
      | cons b t => cases t with
        | nil => exact .cons b (.cons a .nil)
        | cons _ _ => exact .nil
section
variable {Tb : List (Addr × Str)} {l u n : V} {row : List V} {targs tk : TA} {σ : L2.St} {H : Hp} {Q : VK} {i : Nat}
theorem lam_3 (T : TxJg K mg) (b : Bool) (hT : LamX.Tabs Tb H) (hσ : σ[i]? = some (some (.ref (fs3 T b)))) (args : ∀ (H1 : Hp) (R : List V → Hp → Prop), R [l, u, n] H1 → targs σ H1 R) (bad : J2 T H l u row) (g : RpL.Got Tb H row Q) :
    LamX.tLam Tb (TC4 T) (fun E => RwR.tCallI i (fs3 T) (fun _ => sp3 T) E targs) σ H Q :=
  ⟨hT, fun H1 e1 T1 => ⟨b, hσ, args H1 _ ⟨l, u, n, rfl, j2_bad T e1 T1 g bad⟩⟩⟩
theorem lam_3k (T : TxJg K mg) (b : Bool) {o p : Addr} {t A B E : Str} (hT : LamX.Tabs Tb H) (hσ : σ[i]? = some (some (.ref (fs3 T b)))) (args : ∀ (H1 : Hp) (R : List V → Hp → Prop), R [n, .ref p, .ref o] H1 → tk σ H1 R) (hL : LoopAt T.M.T.C H o t) (hU : SrcU T.U.C H p A B E) {dn : PyData} (hn : Dq H n dn) (nn : noName n = true) (g : RpL.Got Tb H [.str "InvalidName", n, .bl true] Q) :
    LamX.tLam Tb (TC4 T) (fun E => RwR.tCallIK i (fs3 T) (fun _ => sp3 T) gK3V E tk) σ H Q := by
  refine ⟨hT, fun H1 e1 T1 => ⟨b, hσ, args H1 _ ⟨.ref o, .ref p, n, rfl, .inr ⟨o, t, rfl, hL.ext e1, .inr ⟨⟨p, A, B, E, rfl, ?_⟩, typedS_dq (dq_ext e1 hn), nn, fun d nd => ⟨_, .inl ⟨rfl, d, n, rfl, upd_same, rfl⟩, fun p np => RpL.got_of g e1 T1 (same_new nd) np⟩⟩⟩⟩⟩⟩
  obtain ⟨dx, e⟩ := hU
  exact ⟨dx, e1 _ _ e (by intro ps z; cases z)⟩
theorem lam_2 (T : TxJg K mg) (b : Bool) (hT : LamX.Tabs Tb H) (hσ : σ[i]? = some (some (.ref (fs2 T b)))) (args : ∀ (H1 : Hp) (R : List V → Hp → Prop), R [l, u] H1 → targs σ H1 R) (bad : J2 T H l u row) (g : RpL.Got Tb H row Q) :
    LamX.tLam Tb (TC4 T) (fun E => RwR.tCallI i (fs2 T) (fun _ => sp2 T) E targs) σ H Q :=
  ⟨hT, fun H1 e1 T1 => ⟨b, hσ, args H1 _ ⟨l, u, rfl, j2_bad T e1 T1 g bad⟩⟩⟩
theorem lam_2k (T : TxJg K mg) (b : Bool) (hT : LamX.Tabs Tb H) (hσ : σ[i]? = some (some (.ref (fs2 T b)))) (args : ∀ (H1 : Hp) (R : List V → Hp → Prop), R [u, l] H1 → tk σ H1 R) (bad : J2 T H l u row) (g : RpL.Got Tb H row Q) :
    LamX.tLam Tb (TC4 T) (fun E => RwR.tCallIK i (fs2 T) (fun _ => sp2 T) gK2V E tk) σ H Q :=
  ⟨hT, fun H1 e1 T1 => ⟨b, hσ, args H1 _ ⟨l, u, rfl, j2_bad T e1 T1 g bad⟩⟩⟩
end
/-! ### drawn values -/
/-- plain data with a property -/
def OdD (H : Hp) (p : V → Prop) (v : V) : Prop := ∃ d, Dq H v d ∧ p v ∧ Sw 30 2 d
theorem OdD.same {H H' : Hp} {p : V → Prop} {v : V} (s : Same H H') (h : OdD H p v) : OdD H' p v := let ⟨d, a, b⟩ := h; ⟨d, a.same s, b⟩
theorem bad6 {D : Hp} {i : Nat} {x : V} {t l dd : Addr} (ht : D t = some (.tup [])) (hl : D l = some (.lst [.int 1])) (hd : D dd = some (.dK [])) (hx : ([.non, .int 0, .int (-1), .int 5, .bl true, .bl false, .str "1", .ref t, .ref l, .ref dd, .int 10000000000000000000] : List V)[i]? = some x) : OdD D (fun v => btw 1 4 v = false) x := by
  match i, hx with
  | 0, hx => cases (Option.some.inj hx); exact ⟨_, .non, rfl, by decide +kernel, by decide +kernel, by decide +kernel, by decide +kernel⟩
  | 1, hx => cases (Option.some.inj hx); exact ⟨_, .int 0, by decide, by decide +kernel, by decide +kernel, by decide +kernel, by decide +kernel⟩
  | 2, hx => cases (Option.some.inj hx); exact ⟨_, .int (-1), by decide, by decide +kernel, by decide +kernel, by decide +kernel, by decide +kernel⟩
  | 3, hx => cases (Option.some.inj hx); exact ⟨_, .int 5, by decide, by decide +kernel, by decide +kernel, by decide +kernel, by decide +kernel⟩
  | 4, hx => cases (Option.some.inj hx); exact ⟨_, .bl true, rfl, by decide +kernel, by decide +kernel, by decide +kernel, by decide +kernel⟩
  | 5, hx => cases (Option.some.inj hx); exact ⟨_, .bl false, rfl, by decide +kernel, by decide +kernel, by decide +kernel, by decide +kernel⟩
  | 6, hx => cases (Option.some.inj hx); exact ⟨_, .str "1", rfl, by decide +kernel, by decide +kernel, by decide +kernel, by decide +kernel⟩
  | 7, hx => cases (Option.some.inj hx); exact ⟨_, .tup ht .nil, rfl, by decide +kernel, by decide +kernel, by decide +kernel, by decide +kernel⟩
  | 8, hx => cases (Option.some.inj hx); exact ⟨_, .lst hl (.cons (.int 1) .nil), rfl, by decide +kernel, by decide +kernel, by decide +kernel, by decide +kernel⟩
  | 9, hx => cases (Option.some.inj hx); exact ⟨_, .dct hd, rfl, by decide +kernel, by decide +kernel, by decide +kernel, by decide +kernel⟩
  | 10, hx => cases (Option.some.inj hx); exact ⟨_, .int 10000000000000000000, by decide, by decide +kernel, by decide +kernel, by decide +kernel, by decide +kernel⟩
theorem none6 {D : Hp} {i : Nat} {x : V} {t dd l q : Addr} (ht : D t = some (.tup [.str "ask"])) (hd : D dd = some (.dK [])) (hx : ([.non, .str "ask", .ref t, .ref q, .int 5, .ref dd, .ref l] : List V)[i]? = some x) : OdD D (fun _ => True) x ∨ x = .ref q ∨ x = .ref l := by
  match i, hx with
  | 0, hx => cases (Option.some.inj hx); exact .inl ⟨_, .non, trivial, by decide +kernel, by decide +kernel, by decide +kernel, by decide +kernel⟩
  | 1, hx => cases (Option.some.inj hx); exact .inl ⟨_, .str "ask", trivial, by decide +kernel, by decide +kernel, by decide +kernel, by decide +kernel⟩
  | 2, hx => cases (Option.some.inj hx); exact .inl ⟨_, .tup ht (.cons (.str _) .nil), trivial, by decide +kernel, by decide +kernel, by decide +kernel, by decide +kernel⟩
  | 3, hx => cases (Option.some.inj hx); exact .inr (.inl rfl)
  | 4, hx => cases (Option.some.inj hx); exact .inl ⟨_, .int 5, trivial, by decide +kernel, by decide +kernel, by decide +kernel, by decide +kernel⟩
  | 5, hx => cases (Option.some.inj hx); exact .inl ⟨_, .dct hd, trivial, by decide +kernel, by decide +kernel, by decide +kernel, by decide +kernel⟩
  | 6, hx => cases (Option.some.inj hx); exact .inr (.inr rfl)
theorem odd6 {D : Hp} {i : Nat} {x : V} {t m : Addr} (ht : D t = some (.tup [.str "short", .str "prompt", .str "empty"])) (hx : ([.non, .str "short prompt empty", .ref m, .ref t, .int 0] : List V)[i]? = some x) : OdD D (fun _ => True) x ∨ x = .ref m := by
  match i, hx with
  | 0, hx => cases (Option.some.inj hx); exact .inl ⟨_, .non, trivial, by decide +kernel, by decide +kernel, by decide +kernel, by decide +kernel⟩
  | 1, hx => cases (Option.some.inj hx); exact .inl ⟨_, .str "short prompt empty", trivial, by decide +kernel, by decide +kernel, by decide +kernel, by decide +kernel⟩
  | 2, hx => cases (Option.some.inj hx); exact .inr rfl
  | 3, hx => cases (Option.some.inj hx); exact .inl ⟨_, .tup ht (.cons (.str _) (.cons (.str _) (.cons (.str _) .nil))), trivial, by decide +kernel, by decide +kernel, by decide +kernel, by decide +kernel⟩
  | 4, hx => cases (Option.some.inj hx); exact .inl ⟨_, .int 0, trivial, by decide +kernel, by decide +kernel, by decide +kernel, by decide +kernel⟩
theorem low6 {D : Hp} {i : Nat} {x : V} {t l dd : Addr} (ht : D t = some (.tup [.str "whole"])) (hl : D l = some (.lst [.str "even"])) (hd : D dd = some (.dK [])) (hx : ([.non, .str "", .str "Whole", .str "ends ", .int 5, .ref t, .ref l, .bl true, .str "wholefilled", .ref dd] : List V)[i]? = some x) : OdD D (fun v => noName v = true) x := by
  match i, hx with
  | 0, hx => cases (Option.some.inj hx); exact ⟨_, .non, rfl, by decide +kernel, by decide +kernel, by decide +kernel, by decide +kernel⟩
  | 1, hx => cases (Option.some.inj hx); exact ⟨_, .str "", by decide +kernel, by decide +kernel, by decide +kernel, by decide +kernel, by decide +kernel⟩
  | 2, hx => cases (Option.some.inj hx); exact ⟨_, .str "Whole", by decide +kernel, by decide +kernel, by decide +kernel, by decide +kernel, by decide +kernel⟩
  | 3, hx => cases (Option.some.inj hx); exact ⟨_, .str "ends ", by decide +kernel, by decide +kernel, by decide +kernel, by decide +kernel, by decide +kernel⟩
  | 4, hx => cases (Option.some.inj hx); exact ⟨_, .int 5, rfl, by decide +kernel, by decide +kernel, by decide +kernel, by decide +kernel⟩
  | 5, hx => cases (Option.some.inj hx); exact ⟨_, .tup ht (.cons (.str _) .nil), rfl, by decide +kernel, by decide +kernel, by decide +kernel, by decide +kernel⟩
  | 6, hx => cases (Option.some.inj hx); exact ⟨_, .lst hl (.cons (.str _) .nil), rfl, by decide +kernel, by decide +kernel, by decide +kernel, by decide +kernel⟩
  | 7, hx => cases (Option.some.inj hx); exact ⟨_, .bl true, rfl, by decide +kernel, by decide +kernel, by decide +kernel, by decide +kernel⟩
  | 8, hx => cases (Option.some.inj hx); exact ⟨_, .str "wholefilled", by decide +kernel, by decide +kernel, by decide +kernel, by decide +kernel, by decide +kernel⟩
  | 9, hx => cases (Option.some.inj hx); exact ⟨_, .dct hd, rfl, by decide +kernel, by decide +kernel, by decide +kernel, by decide +kernel⟩
def tM : Str := "ask add cut told:stop | rest:flush"
theorem tM_good : goodText tM = true := by decide +kernel
theorem tM_nw : nw tM = 5 := by decide +kernel
end
end My

namespace My
open PySem L2 Cm LM IsX Gd RpA SkT Sn CmH
abbrev sRight : Stmt := top 72
abbrev NR : List Str := ["_law_jar_here", "_law_mine", "_law_tap", "_law_made", "_law_bad", "_law_seen", "_law_each", "_law_none", "_law_odd", "_law_low", "_law_ask", "_law_due"]
theorem scRight : FnScope NR ["_law_jar_here"] (defScope sRight) := ⟨rfl, rfl, rfl, by decide +kernel, rfl, by decide +kernel, by decide +kernel⟩
structure TxR (K : PySem.W.Frag) (mg : Str → Option Value) where
  T : TxJg K mg
  C : TxCm K mg T.eN.C T.M.ip.C T.eL.C T.eS.C
  S : TxSm K mg
  eT : S.T = T.M.T
  eU : S.U = T.U
  noL : NoB K T.M.T.C
  noU : NoB K T.U.C
  ul : PySem.W.kitOne K (.ref T.U.C) (.ref T.M.T.C) = some false
  lu : PySem.W.kitOne K (.ref T.M.T.C) (.ref T.U.C) = some false
  J : TxtJ mg
  repr : mg "repr" = none
  sip : Df K mg "_law_sip" sSip ["_law_jar_here", "_law_many"]
  frm : Df K mg "_law_from" sFrom ["_law_jar_here", "_law_things"]
  k3 : ∀ b, KBinds K (fd3 T b) ["loop", "source", "name"] ["name", "source", "loop"] gK3 gK3V
  k2 : ∀ b, KBinds K (fd2 T b) ["loop", "source"] ["source", "loop"] gK2 gK2V
section
variable {P : Program} {w : World} {K : PySem.W.Frag} {mg : Str → Option Value} {base : Heap}
theorem ok_3 (T : TxJg K mg) : ∀ b, FnOk P w K mg base (L2.CX P w) 5 (fs3 T b) (fd3 T b) ["loop", "source", "name"] (sp3 T)
  | true => (ok_alw T).mono (by decide)
  | false => ok_flt T
theorem ok_2 (T : TxJg K mg) : ∀ b, FnOk P w K mg base (L2.CX P w) 5 (fs2 T b) (fd2 T b) ["loop", "source"] (sp2 T)
  | true => (ok_fai T).mono (by decide)
  | false => ok_nee T
theorem kp3 (T : TxJg K mg) : ∀ b, PySem.W.keepIn K (.ref (fs3 T b)) = true
  | true => T.alw.k
  | false => T.flt.k
theorem kp2 (T : TxJg K mg) : ∀ b, PySem.W.keepIn K (.ref (fs2 T b)) = true
  | true => T.fai.k
  | false => T.nee.k
theorem bd3 (T : TxJg K mg) : ∀ b, Binds K (fd3 T b) ["loop", "source", "name"] []
  | true => T.alw.b
  | false => T.flt.b
theorem bd2 (T : TxJg K mg) : ∀ b, Binds K (fd2 T b) ["loop", "source"] []
  | true => T.fai.b
  | false => T.nee.b
theorem nil_of {σ : L2.St} {H : Hp} {R : List V → Hp → Prop} (h : R [] H) : tNil σ H R := h
theorem nm_place : (reprText "InvalidPlace").length ≤ 40 := by decide +kernel
theorem nm_loop : (reprText "NotALoop").length ≤ 40 := by decide +kernel
theorem nm_src : (reprText "NotASource").length ≤ 40 := by decide +kernel
theorem nm_name : (reprText "InvalidName").length ≤ 40 := by decide +kernel
theorem le40 {n : Nat} (h : n ≤ 40) : n ≤ sizeLine := szl (by omega)
theorem ok_right {f cR PR : Addr} {fd : FuncData} (F : Fun K "_law_right" "_law_right" sRight f fd) (R : TxR K mg) (hcd : fd.code = .ref cR) (sm : ∃ ob, base.get? sysModules = some ob) (TB : LamX.TabB base mg cR PR) : Gd.FnG P w K mg base CX0 12 f fd ["_law_jar_here"] (spRight PR) := by
  have GM : FnOk P w K mg base (L2.CX P w) 4 R.T.M.T.fI R.T.M.T.fdI ["self", "text"] (spLI K R.T.M.T.C R.T.M.T.E.C) := ok_li R.T.M.T
  have GF : FnOk P w K mg base CX0 2 R.frm.f R.frm.fd ["_law_jar_here", "_law_things"] (spFrom K) := ok_from R.frm.F R.J ⟨R.sip.g, R.sip.k⟩ R.sip.F R.sip.b
  have GL : FnOk P w K mg base CX0 6 R.S.sl.f R.S.sl.fd [] (spSL R.T.M.T.C) := by
    rw [← R.eT]
    exact ok_sl R.S
  have GS : FnOk P w K mg base CX0 4 R.S.ss.f R.S.ss.fd [] (spSS R.T.U.C) := by
    rw [← R.eU]
    exact ok_ss R.S
  have GW : FnOk P w K mg base (L2.CX P w) 6 R.T.M.lw.f R.T.M.lw.fd ["self", "place"] (spLW K R.T.M.T.C R.T.M.ip.C) := ok_lw R.T.M
  have GLr : FnR P w K mg base CX0 1 R.T.M.lr.f (fun vs H Q E => spLR R.T.M.T.C (vs ++ []) H Q E) := (ok_lr R.T.M).raw R.T.M.lr.b .nil
  have GUr : FnR P w K mg base CX0 1 R.T.U.ur.f (fun vs H Q E => spUR R.T.U.C (vs ++ []) H Q E) := (ok_ur R.T.U).raw R.T.U.ur.b .nil
  have G3 : ∀ b, FnOk P w K mg base (L2.CX P w) 5 (fs3 R.T b) (fd3 R.T b) ["loop", "source", "name"] (sp3 R.T) := ok_3 R.T
  have G2 : ∀ b, FnOk P w K mg base (L2.CX P w) 5 (fs2 R.T b) (fd2 R.T b) ["loop", "source"] (sp2 R.T) := ok_2 R.T
  obtain ⟨ob, sm⟩ := sm
  obtain ⟨oc, od, kV, doc, pm, an, cdv0, ct, osl, efd, lkC, hcgC⟩ := R.C.cm.F.ex
  have bC := R.C.cm.b
  rw [efd] at bC lkC
  refine Gd.okG F scRight (fun vs H Q E h => ?_) (fun cdv A outer s H vs Q E _ _ ecd hgd hr h => ?_)
  · obtain ⟨j, rfl, _⟩ := h
    rfl
  · obtain ⟨j, rfl, hJ, hT, k⟩ := h
    have ec : cdv = .ref cR := ecd.symm.trans hcd
    subst ec
    have hr2 : Room 2 _ := hr.mono (by decide)
    have hr4 : Room 4 _ := hr.mono (by decide)
    have hr5 : Room 5 _ := hr.mono (by decide)
    have hr6 : Room 6 _ := hr.mono (by decide)
    have hr9 : Room 9 _ := hr.mono (by decide)
    have sb : L2.Sub (cxOf CX0 P w K mg base NR "_law_right" (defScope sRight) f (.ref cR) A outer s H E).nox 4 ((cxOf CX0 P w K mg base NR "_law_right" (defScope sRight) f (.ref cR) A outer s H E).nox).A.in1 := ⟨hr5.in1, rfl⟩
    have lam : ∀ {X : Cx} {params : Arguments} {body : Expr} {scope : Scope} {t : XK → L2.TE} {p lpos pos : Pos} (eX : X = (cxOf CX0 P w K mg base NR "_law_right" (defScope sRight) f (.ref cR) A outer s H E).nox) (L : LamX.LamS X.env.scope scope) (hdef : defaultsOf params X.env = ([], []))
        (hbind : ∀ (q : Str) (cl : List (Str × Addr)) (pm cv ctv : Value), bindArgs (PySem.W.kla_fn "<lambda>" q params body scope cl pm cv ctv) ⟨[], []⟩ = pure [])
        (hbody : ∀ (A : Around) (outer : List Env) (s : Shared) (H : Hp) (E : XK) (f c' : Addr), Room 7 (A.deeper (LamX.lamEnv X scope s.heap.objs.size f c')) → PE (LamX.lamCx X A outer s H E scope f c') body (t E)),
        PE X (.Call (.Name "_law_came" p) [.Lambda params body scope lpos] [] pos) (LamX.tLam [(PR, qLam)] (TC4 R.T) t) := by
      intro X params body scope t p lpos pos eX L hdef hbind hbody
      subst eX
      exact LamX.pe_lamcall (k := 7) rfl R.C.cm.g R.C.cm.k lkC hcgC bC scCame rfl (.inl rfl) (came_gives (X := (cxOf CX0 P w K mg base NR "_law_right" (defScope sRight) f (.ref cR) A outer s H E).nox) R.C) TB rfl (List.mem_singleton.mpr rfl) (fun q hq _ => by rw [List.mem_singleton.mp hq]; rfl) hr9 L hdef hbind hbody
    refine ⟨_, (pss_cons (ps_asg (pe_tup (pa_cons (pe_call0 GL hr6 rfl R.S.sl.g R.S.sl.k R.S.sl.b .nil pass0) (pa_cons (pe_call0 GS hr4 rfl R.S.ss.g R.S.ss.k R.S.ss.b .nil pass0) pa_nil))) (pg_tup rfl (pgs_cons (pg_name (i := 1) scRight.nd rfl (.inr rfl)) (pgs_cons (pg_name (i := 2) scRight.nd rfl (.inr rfl)) pgs_nil)))) (pss_cons (ps_set (i := 3) scRight.nd rfl (.inr rfl) (pe_make R.T.M.T.MI GM hr5 rfl R.T.M.T.gC R.T.M.T.bI .nil pass_none (pa_cons pe_str pa_nil))) (pss_cons (ps_set (i := 4) scRight.nd rfl (.inr rfl) (pe_call GF hr2 rfl R.frm.g R.frm.k R.frm.b .nil pass0 (pa_cons (pv 0) (pa_cons (pe_lst (pa_cons pe_non (pa_cons pe_int (pa_cons (pe_un un_neg pe_int) (pa_cons pe_int (pa_cons pe_bl (pa_cons pe_bl (pa_cons pe_str (pa_cons (pe_tup pa_nil) (pa_cons (pe_lst (pa_cons pe_int pa_nil)) (pa_cons pe_dnewK (pa_cons (pe_op op_pow pe_int pe_int) pa_nil)))))))))))) pa_nil)))) (pss_cons (ps_set (i := 5) scRight.nd rfl (.inl rfl) (pe_lst (pa_cons (lam (t := fun E => tMeth R.T.M.T.C "without" (spLW K R.T.M.T.C R.T.M.ip.C) [] E (tVar 3) (tCons (tVar 4) tNil)) rfl (LamX.lamS_by (sc := defScope sRight) (by decide +kernel)) rfl (fun _ _ _ _ _ => rfl) (fun A outer s H E f c' hrl => pe_meth (pv 3) R.T.M.T.cl R.T.M.lw.m GW (hrl.mono (by decide)) R.T.M.lw.b .nil (passes_call (takes_of rfl rfl rfl rfl) fun _ _ _ _ z => z) (pa_cons (pv 4) pa_nil))) pa_nil))) (pss_cons (ps_expr (pe_bm PySem.F.plainAttrs_list PySem.F.slot_list_append PySem.F.type_list_append mt_append (pv 5) (pa_cons (lam (t := fun E => tMeth R.T.M.T.C "without" (spLW K R.T.M.T.C R.T.M.ip.C) [] E (tMake R.T.M.T.C (spLI K R.T.M.T.C R.T.M.T.E.C) [] E (tCons (tC (.str "ask")) tNil)) (tCons (tC (.int 1)) tNil)) rfl (LamX.lamS_by (sc := defScope sRight) (by decide +kernel)) rfl (fun _ _ _ _ _ => rfl) (fun A outer s H E f c' hrl => pe_meth (pe_make R.T.M.T.MI GM (hrl.mono (by decide)) rfl R.T.M.T.gC R.T.M.T.bI .nil (passes_call (takes_of rfl rfl rfl rfl) fun _ _ _ _ z => z) (pa_cons pe_str pa_nil)) R.T.M.T.cl R.T.M.lw.m GW (hrl.mono (by decide)) R.T.M.lw.b .nil (passes_call (takes_of rfl rfl rfl rfl) fun _ _ _ _ z => z) (pa_cons pe_int pa_nil))) pa_nil))) (pss_cons (ps_expr (pe_bm PySem.F.plainAttrs_list PySem.F.slot_list_append PySem.F.type_list_append mt_append (pv 5) (pa_cons (lam (t := fun E => tMeth R.T.M.T.C "without" (spLW K R.T.M.T.C R.T.M.ip.C) [] E (tVar 3) (tCons (tC (.int 0)) tNil)) rfl (LamX.lamS_by (sc := defScope sRight) (by decide +kernel)) rfl (fun _ _ _ _ _ => rfl) (fun A outer s H E f c' hrl => pe_meth (pv 3) R.T.M.T.cl R.T.M.lw.m GW (hrl.mono (by decide)) R.T.M.lw.b .nil (passes_call (takes_of rfl rfl rfl rfl) fun _ _ _ _ z => z) (pa_cons pe_int pa_nil))) pa_nil))) (C8.pss_cut (ps_if (pt_cmpR op_ne (pe_callB (RpL.call_reprN (n := 3) hgd sb) (by rfl) R.repr (by decide +kernel) (pa_cons (pv 5) pa_nil)) (pe_callB (RpL.call_reprN (n := 3) hgd sb) (by rfl) R.repr (by decide +kernel) (pa_cons (pe_lc (own := [("_law_each", 6)]) (g := gName 6) (tt := tYes) rfl scRight.nd (pi_list (pe_lst (pa_cons (pv 4) (pa_cons pe_int (pa_cons pe_int pa_nil))))) (blkOk_by (own := [("_law_each", 6)]) (N := NR) (sc := defScope sRight) (by decide +kernel)) (fun _ _ _ _ _ => pg_name (i := 6) scRight.nd rfl (Or.inl rfl)) (fun _ _ _ _ _ => pts_nil) (fun _ _ _ _ _ => (pe_lst (pa_cons pe_str (pa_cons (pv 6) (pa_cons pe_bl pa_nil)))))) pa_nil)) (nomark _)) (pss_one (ps_ret pe_bl)) pss_nil) (pss_cons (ps_set (i := 7) scRight.nd rfl (.inr rfl) (pe_call GF hr2 rfl R.frm.g R.frm.k R.frm.b .nil pass0 (pa_cons (pv 0) (pa_cons (pe_lst (pa_cons pe_non (pa_cons pe_str (pa_cons (pe_tup (pa_cons pe_str pa_nil)) (pa_cons (pv 2) (pa_cons pe_int (pa_cons pe_dnewK (pa_cons (pe_lst (pa_cons (pv 1) pa_nil)) pa_nil)))))))) pa_nil)))) (pss_cons (ps_set (i := 8) scRight.nd rfl (.inr rfl) (pe_call GF hr2 rfl R.frm.g R.frm.k R.frm.b .nil pass0 (pa_cons (pv 0) (pa_cons (pe_lst (pa_cons pe_non (pa_cons pe_str (pa_cons (pv 1) (pa_cons (pe_tup (pa_cons pe_str (pa_cons pe_str (pa_cons pe_str pa_nil)))) (pa_cons pe_int pa_nil)))))) pa_nil)))) (pss_cons (ps_set (i := 9) scRight.nd rfl (.inr rfl) (pe_call GF hr2 rfl R.frm.g R.frm.k R.frm.b .nil pass0 (pa_cons (pv 0) (pa_cons (pe_lst (pa_cons pe_non (pa_cons pe_str (pa_cons pe_str (pa_cons pe_str (pa_cons pe_int (pa_cons (pe_tup (pa_cons pe_str pa_nil)) (pa_cons (pe_lst (pa_cons pe_str pa_nil)) (pa_cons pe_bl (pa_cons pe_str (pa_cons pe_dnewK pa_nil))))))))))) pa_nil)))) (pss_cons (ps_for PassesOwn.never rfl (pi_list (pe_lst (pa_cons (pe_glob (v := .ref R.T.alw.f) rfl R.T.alw.g rfl) (pa_cons (pe_glob (v := .ref R.T.flt.f) rfl R.T.flt.g rfl) pa_nil)))) (pg_name (i := 10) scRight.nd rfl (.inr rfl)) (pss_cons (ps_set (i := 5) scRight.nd rfl (.inl rfl) (pe_lst (pa_cons (lam (t := fun E => RwR.tCallI 10 (fs3 R.T) (fun _ => sp3 R.T) E (tCons (tVar 7) (tCons (tVar 8) (tCons (tVar 9) tNil)))) rfl (LamX.lamS_by (sc := defScope sRight) (by decide +kernel)) rfl (fun _ _ _ _ _ => rfl) (fun A outer s H E f c' hrl => RwR.pe_callI (i := 10) G3 (hrl.mono (by decide)) rfl (.inr (.inr rfl)) (kp3 R.T) (bd3 R.T) (passes_call (takes_of rfl rfl rfl rfl) fun _ _ _ _ z => z) (pa_cons (pv 7) (pa_cons (pv 8) (pa_cons (pv 9) pa_nil))))) pa_nil))) (pss_cons (ps_expr (pe_bm PySem.F.plainAttrs_list PySem.F.slot_list_append PySem.F.type_list_append mt_append (pv 5) (pa_cons (lam (t := fun E => RwR.tCallI 10 (fs3 R.T) (fun _ => sp3 R.T) E (tCons (tVar 1) (tCons (tVar 8) (tCons (tVar 9) tNil)))) rfl (LamX.lamS_by (sc := defScope sRight) (by decide +kernel)) rfl (fun _ _ _ _ _ => rfl) (fun A outer s H E f c' hrl => RwR.pe_callI (i := 10) G3 (hrl.mono (by decide)) rfl (.inr (.inr rfl)) (kp3 R.T) (bd3 R.T) (passes_call (takes_of rfl rfl rfl rfl) fun _ _ _ _ z => z) (pa_cons (pv 1) (pa_cons (pv 8) (pa_cons (pv 9) pa_nil))))) pa_nil))) (pss_cons (ps_expr (pe_bm PySem.F.plainAttrs_list PySem.F.slot_list_append PySem.F.type_list_append mt_append (pv 5) (pa_cons (lam (t := fun E => RwR.tCallIK 10 (fs3 R.T) (fun _ => sp3 R.T) gK3V E (tCons (tVar 9) (tCons (tVar 2) (tCons (tVar 1) tNil)))) rfl (LamX.lamS_by (sc := defScope sRight) (by decide +kernel)) rfl (fun _ _ _ _ _ => rfl) (fun A outer s H E f c' hrl => RwR.pe_callIK (i := 10) G3 (hrl.mono (by decide)) rfl (.inr (.inr rfl)) (kp3 R.T) R.k3 (passes_call (takes_of rfl rfl rfl rfl) fun _ _ _ _ z => z) (pk_cons (pv 9) (pk_cons (pv 2) (pk_cons (pv 1) pk_nil))))) pa_nil))) (pss_cons (ps_set (i := 11) scRight.nd rfl (.inl rfl) (pe_lst (pa_cons (pe_lst (pa_cons pe_str (pa_cons (pv 7) (pa_cons pe_bl pa_nil)))) (pa_cons (pe_lst (pa_cons pe_str (pa_cons (pv 8) (pa_cons pe_bl pa_nil)))) (pa_cons (pe_lst (pa_cons pe_str (pa_cons (pv 9) (pa_cons pe_bl pa_nil)))) pa_nil))))) (pss_one (ps_if (pt_cmpR op_ne (pe_callB (RpL.call_reprN (n := 3) hgd sb) (by rfl) R.repr (by decide +kernel) (pa_cons (pv 5) pa_nil)) (pe_callB (RpL.call_reprN (n := 3) hgd sb) (by rfl) R.repr (by decide +kernel) (pa_cons (pv 11) pa_nil)) (nomark _)) (pss_one (ps_ret pe_bl)) pss_nil))))))) (pss_cons (ps_for PassesOwn.never rfl (pi_list (pe_lst (pa_cons (pe_glob (v := .ref R.T.fai.f) rfl R.T.fai.g rfl) (pa_cons (pe_glob (v := .ref R.T.nee.f) rfl R.T.nee.g rfl) pa_nil)))) (pg_name (i := 10) scRight.nd rfl (.inr rfl)) (pss_cons (ps_set (i := 5) scRight.nd rfl (.inl rfl) (pe_lst (pa_cons (lam (t := fun E => RwR.tCallI 10 (fs2 R.T) (fun _ => sp2 R.T) E (tCons (tVar 7) (tCons (tVar 8) tNil))) rfl (LamX.lamS_by (sc := defScope sRight) (by decide +kernel)) rfl (fun _ _ _ _ _ => rfl) (fun A outer s H E f c' hrl => RwR.pe_callI (i := 10) G2 (hrl.mono (by decide)) rfl (.inr (.inr rfl)) (kp2 R.T) (bd2 R.T) (passes_call (takes_of rfl rfl rfl rfl) fun _ _ _ _ z => z) (pa_cons (pv 7) (pa_cons (pv 8) pa_nil)))) pa_nil))) (pss_cons (ps_expr (pe_bm PySem.F.plainAttrs_list PySem.F.slot_list_append PySem.F.type_list_append mt_append (pv 5) (pa_cons (lam (t := fun E => RwR.tCallIK 10 (fs2 R.T) (fun _ => sp2 R.T) gK2V E (tCons (tVar 8) (tCons (tVar 1) tNil))) rfl (LamX.lamS_by (sc := defScope sRight) (by decide +kernel)) rfl (fun _ _ _ _ _ => rfl) (fun A outer s H E f c' hrl => RwR.pe_callIK (i := 10) G2 (hrl.mono (by decide)) rfl (.inr (.inr rfl)) (kp2 R.T) R.k2 (passes_call (takes_of rfl rfl rfl rfl) fun _ _ _ _ z => z) (pk_cons (pv 8) (pk_cons (pv 1) pk_nil)))) pa_nil))) (pss_one (ps_if (pt_cmpR op_ne (pe_callB (RpL.call_reprN (n := 3) hgd sb) (by rfl) R.repr (by decide +kernel) (pa_cons (pv 5) pa_nil)) (pe_callB (RpL.call_reprN (n := 3) hgd sb) (by rfl) R.repr (by decide +kernel) (pa_cons (pe_lst (pa_cons (pe_lst (pa_cons pe_str (pa_cons (pv 7) (pa_cons pe_bl pa_nil)))) (pa_cons (pe_lst (pa_cons pe_str (pa_cons (pv 8) (pa_cons pe_bl pa_nil)))) pa_nil))) pa_nil)) (nomark _)) (pss_one (ps_ret pe_bl)) pss_nil))))) (pss_one (ps_ret pe_bl)))))))))))))), ?_⟩
    -- mine, tap
    refine ⟨rfl, fun H1 m s1 _ hm => ⟨rfl, fun H2 tp s2 _ ht => ⟨(by show 2 ≤ sizeLine; decide), fun q nq => ⟨q, _, rfl, SqT.of upd_same, rfl, _, _, rfl, _, _, rfl, rfl, ?_⟩⟩⟩⟩
    have s3 := same_new (o := .tup [.ref m, .ref tp]) nq
    have T3 : Ts PR j H (upd H2 q (.tup [.ref m, .ref tp])) := (⟨OffN.refl, hJ, hT⟩ : Ts PR j H H).same (Same.trans s1 (Same.trans s2 s3))
    have hm3 := (hm.same s2).same s3
    have ht3 := ht.same s3
    generalize upd H2 q (.tup [.ref m, .ref tp]) = H3 at s3 T3 hm3 ht3 ⊢
    clear hm ht s1 s2 s3 nq
    -- made
    have bM : Bd tM := show tM.length ≤ 100000 by decide +kernel
    have gM : good (.str tM) = true := tM_good
    intro x dx nx ndx nex
    refine ⟨x, dx, .str tM, rfl, upd_same, typed_str _, bM, fun t' et _ H4 o4 l4 => ⟨rfl, ?_⟩, fun z => absurd (gM.symm.trans z) (by decide)⟩
    cases et
    have s4 := made_same nx ndx o4
    have T4 := T3.same s4
    have hm4 := hm3.same s4
    have ht4 := ht3.same s4
    clear hm3 ht3 T3 s4 o4 nx ndx nex
    -- bad
    refine ⟨_, rfl, ?_⟩
    refine ⟨_, rfl, (by show 0 ≤ sizeLine; decide), fun t1 n1 => ⟨(by show 1 ≤ sizeLine; decide), fun l1 nl1 dd ndd => ⟨_, _, rfl, rfl, ⟨by decide, by decide, by decide⟩, (by show 11 ≤ sizeLine; decide), fun L nL => ?_⟩⟩⟩
    have u1 := same_new (o := .tup []) n1
    have u2 := same_new (o := .lst [.int 1]) nl1
    have u3 := same_new (o := .dK []) ndd
    have u4 := same_new (o := .lst [.non, .int 0, .int (-1), .int 5, .bl true, .bl false, .str "1", .ref t1, .ref l1, .ref dd, .int 10000000000000000000]) nL
    have u13 := Same.trans u1 (Same.trans u2 u3)
    have u14 := Same.trans u13 u4
    have J4 := T4.jar
    refine ⟨j, L, [.non, .int 0, .int (-1), .int 5, .bl true, .bl false, .str "1", .ref t1, .ref l1, .ref dd, .int 10000000000000000000], rfl, J4.same u14, jar_ne (J4.same u13) nL, SqL.of upd_same, (by show 0 < 11; decide), (by show 11 < 1073741824; decide), fun H6 i6 xb hxb o6 J6 => ?_⟩
    have tj := jar_ne J4 n1
    have lj := jar_ne (J4.same u1) nl1
    have dj := jar_ne (J4.same (Same.trans u1 u2)) ndd
    have c46 : Same (RpL.cut [j] H4) (RpL.cut [j] H6) := Same.trans (cj_same u14) (cj_off o6)
    obtain ⟨dB, qB', hB, swB⟩ : OdD (RpL.cut [j] H6) (fun v => btw 1 4 v = false) xb := bad6 (cj tj (o6 _ _ tj (u4 _ _ (u3 _ _ (u2 _ _ upd_same)))) (by intro ps z; cases z)) (cj lj (o6 _ _ lj (u4 _ _ (u3 _ _ upd_same))) (by intro ps z; cases z)) (cj dj (o6 _ _ dj (u4 _ _ upd_same)) (by intro ps z; cases z)) hxb
    have T6 := (T4.same u14).off' o6 J6
    have c6 : Same (RpL.cut [j] H6) (RpL.cut [] H6) := fun b o e => RpL.cut_at (by simp) (RpL.cut_up _ _ e) (RpL.cut_of e).2.2
    have hm6 := ((loop_part (in_cut J4) hm4).same c46).same c6
    have ht6 := ((src_part (in_cut J4) ht4).same c46).same c6
    have hM6 := ((loop_part (in_cut J4) l4).same c46).same c6
    have qB := qB'.same c6
    have ex0 : ∀ {Ha Hb : Hp}, Same (RpL.cut [] Ha) Hb → LamX.ExtN Ha Hb := fun {Ha Hb} s b o e t => s _ _ (RpL.cut_at (by simp) e t)
    clear u1 u2 u3 u4 u13 u14 hxb n1 nl1 ndd nL tj lj dj o6 J4 T4 hm4 ht4 l4 c46 c6 qB'
    -- what came
    refine lam_wo R.T T6.tab rfl (fun H1 Rr r => ⟨_, rfl, r⟩) (hM6.same RpL.cut_up) tM_good (qB.same RpL.cut_up) (by rw [tM_nw]; exact hB) fun Hb p1 xe1 Tb hp1 fr1 => ?_
    refine ⟨(by show 1 ≤ sizeLine; decide), fun sq nsq => ?_⟩
    have st1 := RpL.SeenD.first RpL.cut_tb (RpL.cut_up (as := []) (H := H6)) xe1 Tb hp1 fr1 nsq
    show tSeq _ _ _ _ (upd Hb sq (.lst [.ref p1]))
    generalize upd Hb sq (.lst [.ref p1]) = Hc at st1 ⊢
    refine ⟨_, rfl, .inl ⟨rfl, _, SqL.of st1.at_⟩, ?_⟩
    refine lam_wa R.T st1.tab fun Hd p2 xe2 Td hp2 fr2 => ?_
    obtain ⟨a2, st2⟩ := st1.step RpL.cut_tb xe2 Td hp2 fr2
    refine ⟨sq, _, _, rfl, rfl, a2, small1000 (by show 1 ≤ 1000; decide), ?_⟩
    refine ⟨_, rfl, .inl ⟨rfl, _, SqL.of st2.at_⟩, ?_⟩
    refine lam_wo R.T st2.tab rfl (fun H1 Rr r => r) (hM6.same st2.sub) tM_good (.int 0) (by rw [tM_nw]; rfl) fun He p3 xe3 Te hp3 fr3 => ?_
    obtain ⟨a3, st3⟩ := st2.step RpL.cut_tb xe3 Te hp3 fr3
    refine ⟨sq, _, _, rfl, rfl, a3, small1000 (by show 2 ≤ 1000; decide), ?_⟩
    have st3' : RpL.SeenD [(PR, qLam)] (RpL.cut [] H6) (upd He sq (.lst ([V.ref p1] ++ [.ref p2] ++ [.ref p3]))) sq [.ref p1, .ref p2, .ref p3] [[.str "InvalidPlace", xb, .bl true], [.str "InvalidPlace", .int 1, .bl true], [.str "InvalidPlace", .int 0, .bl true]] := st3
    show tSeq _ _ _ _ (upd He sq (.lst ([V.ref p1] ++ [.ref p2] ++ [.ref p3])))
    generalize upd He sq (.lst ([V.ref p1] ++ [.ref p2] ++ [.ref p3])) = Hh at st3' ⊢
    clear st1 st2 st3 a2 a3 hp1 hp2 hp3 Tb Td Te xe1 xe2 xe3 fr1 fr2 fr3
    have ex6 : ∀ {Hb : Hp}, Same (RpL.cut [] H6) Hb → LamX.ExtN H6 Hb := ex0
    generalize RpL.cut [] H6 = D1 at *
    -- shown
    have itB : RpL.ItN (cxOf CX0 P w K mg base NR "_law_right" (defScope sRight) f (.ref cR) A outer s H E).nox 2 D1 xb dB.shown := RpL.itN_dq sm qB swB (szl (by decide)) (by decide)
    have tx : RpL.TxtsD (cxOf CX0 P w K mg base NR "_law_right" (defScope sRight) f (.ref cR) A outer s H E).nox 2 D1 [[.str "InvalidPlace", xb, .bl true], [.str "InvalidPlace", .int 1, .bl true], [.str "InvalidPlace", .int 0, .bl true]] [[reprText "InvalidPlace", dB.shown, "True"], [reprText "InvalidPlace", toString (1 : Int), "True"], [reprText "InvalidPlace", toString (0 : Int), "True"]] :=
      .cons (by simp) rfl (RpL.row3 (le40 nm_place) itB) (.cons (by simp) rfl (RpL.row3 (le40 nm_place) (RpL.itN_of (RpL.it_int (by decide)))) (.cons (by simp) rfl (RpL.row3 (le40 nm_place) (RpL.itN_of (RpL.it_int (by decide)))) .nil))
    have sz : (listText (List.map listText [[reprText "InvalidPlace", dB.shown, "True"], [reprText "InvalidPlace", (toString (1 : Int) : Str), "True"], [reprText "InvalidPlace", (toString (0 : Int) : Str), "True"]])).length ≤ sizeLine :=
      RpL.len3 (n := 130) (RpL.row_len nm_place swB.ln) (RpL.row_len (a := 30) nm_place (by decide +kernel)) (RpL.row_len (a := 30) nm_place (by decide +kernel)) (by decide)
    refine ⟨fun σ H' => σ = [some (.ref j), some (.ref m), some (.ref tp), some (.ref x), some xb, some (.ref sq), none, none, none, none, none, none] ∧ Ts PR j H H' ∧ LoopAt R.T.M.T.C H' m txS ∧ SrcU R.T.U.C H' tp "short" "prompt" "empty", ?_, ?_⟩
    · refine ⟨_, rfl, ?_⟩
      refine nil_of ?_
      refine RpL.repr_rows st3'.sub st3'.nsq st3'.at_ st3'.row tx (by simp) sz fun H8 s8 => ?_
      have s18 := Same.trans st3'.sub s8
      have T8 := (T6.ext (ex6 st3'.sub) st3'.tab).same s8
      refine ⟨_, rfl, (by show 3 ≤ sizeLine; decide), fun L nL => ?_⟩
      have u1 := same_new (o := .lst [xb, .int 1, .int 0]) nL
      have hL : (upd H8 L (.lst [xb, .int 1, .int 0])) L = some (.lst [xb, .int 1, .int 0]) := upd_same
      have s19 := Same.trans s18 u1
      have T9 := T8.same u1
      generalize upd H8 L (.lst [xb, .int 1, .int 0]) = H9 at hL s19 T9 u1 ⊢
      refine ⟨L, rfl, ⟨_, SqL.of hL⟩, fun Dc nDc => lc_list (K := K) (a := L) (xs := [xb, .int 1, .int 0]) (fun i H' => Same H9 H' ∧ ∃ ys, H' Dc = some (.lst ys) ∧ ys.length = i ∧ RpL.RowsD D1 Dc H' ys ([[.str "InvalidPlace", xb, .bl true], [.str "InvalidPlace", .int 1, .bl true], [.str "InvalidPlace", .int 0, .bl true]].take i)) ⟨same_new nDc, [], upd_same, rfl, .nil⟩ (fun i H' _ ⟨s', _⟩ => SqL.of (s' _ _ hL)) ?_ ?_⟩
      · rintro i y H' hy ⟨s', ys, hD, ly, rw⟩
        have hi : i < 3 := (List.getElem?_eq_some_iff.mp hy).1
        refine ⟨rfl, _, rfl, (by show 3 ≤ sizeLine; decide), fun a na => ?_⟩
        have u2 := same_new (o := .lst [.str "InvalidPlace", y, .bl true]) na
        have an : a ≠ Dc := (ne_of_none hD na).symm
        refine ⟨ys, u2 _ _ hD, small1000 (by omega), fun b o e => ?_, ys ++ [.ref a], upd_same, by rw [List.length_append, ly]; rfl, ?_⟩
        · rw [upd_ne (ne_of_none e nDc)]
          exact u2 _ _ (s' _ _ e)
        · have e : [[V.str "InvalidPlace", xb, .bl true], [.str "InvalidPlace", .int 1, .bl true], [.str "InvalidPlace", .int 0, .bl true]].take (i + 1) = [[V.str "InvalidPlace", xb, .bl true], [.str "InvalidPlace", .int 1, .bl true], [.str "InvalidPlace", .int 0, .bl true]].take i ++ [[.str "InvalidPlace", y, .bl true]] := by
            match i, hy with
            | 0, h => cases h; rfl
            | 1, h => cases h; rfl
            | 2, h => cases h; rfl
            | k + 3, h => cases h
          rw [e]
          refine RpL.RowsD.snoc (by rw [upd_ne an]; exact upd_same) (RpL.free_of (Same.trans s19 s') na) an (rw.mono fun b zs nb h => ?_)
          rw [upd_ne nb]
          exact u2 _ _ h
      · rintro H' ⟨s', ys, hD, ly, rw⟩
        refine nil_of ?_
        refine RpL.repr_rows (Same.trans s19 s') (RpL.free_of s19 nDc) hD rw tx (fun z => by rw [z] at ly; cases ly) sz fun H10 s10 => ⟨rfl, _, rfl, ?_⟩
        rw [decide_eq_true rfl]
        have s910 := Same.trans s' s10
        exact iteF ⟨rfl, T9.same s910, hm6.same (Same.trans s19 s910), ht6.same (Same.trans s19 s910)⟩
    rintro _ H7 ⟨rfl, T7, hm7, ht7⟩
    clear tx sz itB st3' hm6 ht6 hM6 qB hB swB T6 ex6
    have J7 := T7.jar
    -- none
    refine ⟨_, rfl, (by show 1 ≤ sizeLine; decide), fun t1 n1 => ⟨_, rfl, fun dd ndd => ⟨_, rfl, (by show 1 ≤ sizeLine; decide), fun l1 nl1 => ⟨(by show 7 ≤ sizeLine; decide), fun L nL => ?_⟩⟩⟩⟩
    have u1 := same_new (o := .tup [.str "ask"]) n1
    have u2 := same_new (o := .dK []) ndd
    have u3 := same_new (o := .lst [.ref m]) nl1
    have u4 := same_new (o := .lst [.non, .str "ask", .ref t1, .ref tp, .int 5, .ref dd, .ref l1]) nL
    have u13 := Same.trans u1 (Same.trans u2 u3)
    have u14 := Same.trans u13 u4
    refine ⟨j, L, [.non, .str "ask", .ref t1, .ref tp, .int 5, .ref dd, .ref l1], rfl, J7.same u14, jar_ne (J7.same u13) nL, SqL.of upd_same, (by show 0 < 7; decide), (by show 7 < 1073741824; decide), fun H8 i8 xn hxn o8 J8 => ?_⟩
    have tj := jar_ne J7 n1
    have dj := jar_ne (J7.same u1) ndd
    have lj := jar_ne (J7.same (Same.trans u1 u2)) nl1
    have hl1 := cj lj (o8 _ _ lj (u4 _ _ upd_same)) (by intro ps z; cases z)
    have hN8 := none6 (q := tp) (l := l1) (cj tj (o8 _ _ tj (u4 _ _ (u3 _ _ (u2 _ _ upd_same)))) (by intro ps z; cases z)) (cj dj (o8 _ _ dj (u4 _ _ (u3 _ _ upd_same))) (by intro ps z; cases z)) hxn
    have c78 : Same (RpL.cut [j] H7) (RpL.cut [j] H8) := Same.trans (cj_same u14) (cj_off o8)
    have hm8 := (loop_part (in_cut J7) hm7).same c78
    have ht8 := (src_part (in_cut J7) ht7).same c78
    have T8 := (T7.same u14).off' o8 J8
    clear u1 u2 u3 u4 u13 u14 hxn n1 ndd nl1 nL tj dj o8 J7 T7 hm7 ht7 c78
    -- odd
    refine ⟨_, rfl, _, rfl, (by show 3 ≤ sizeLine; decide), fun t1 n1 => ⟨(by show 5 ≤ sizeLine; decide), fun L nL => ?_⟩⟩
    have u1 := same_new (o := .tup [.str "short", .str "prompt", .str "empty"]) n1
    have u4 := same_new (o := .lst [.non, .str "short prompt empty", .ref m, .ref t1, .int 0]) nL
    have u14 := Same.trans u1 u4
    refine ⟨j, L, [.non, .str "short prompt empty", .ref m, .ref t1, .int 0], rfl, J8.same u14, jar_ne (J8.same u1) nL, SqL.of upd_same, (by show 0 < 5; decide), (by show 5 < 1073741824; decide), fun H9 i9 xo hxo o9 J9 => ?_⟩
    have tj := jar_ne J8 n1
    have hO9 := odd6 (m := m) (cj tj (o9 _ _ tj (u4 _ _ upd_same)) (by intro ps z; cases z)) hxo
    have c89 : Same (RpL.cut [j] H8) (RpL.cut [j] H9) := Same.trans (cj_same u14) (cj_off o9)
    have T9 := (T8.same u14).off' o9 J9
    clear u1 u4 u14 hxo n1 nL tj o9 J8 T8
    -- low
    refine ⟨_, rfl, (by show 1 ≤ sizeLine; decide), fun t1 n1 => ⟨(by show 1 ≤ sizeLine; decide), fun l2 nl2 dd ndd => ⟨(by show 10 ≤ sizeLine; decide), fun L nL => ?_⟩⟩⟩
    have u1 := same_new (o := .tup [.str "whole"]) n1
    have u2 := same_new (o := .lst [.str "even"]) nl2
    have u3 := same_new (o := .dK []) ndd
    have u4 := same_new (o := .lst [.non, .str "", .str "Whole", .str "ends ", .int 5, .ref t1, .ref l2, .bl true, .str "wholefilled", .ref dd]) nL
    have u13 := Same.trans u1 (Same.trans u2 u3)
    have u14 := Same.trans u13 u4
    refine ⟨j, L, [.non, .str "", .str "Whole", .str "ends ", .int 5, .ref t1, .ref l2, .bl true, .str "wholefilled", .ref dd], rfl, J9.same u14, jar_ne (J9.same u13) nL, SqL.of upd_same, (by show 0 < 10; decide), (by show 10 < 1073741824; decide), fun H10 i10 xl hxl o10 J10 => ?_⟩
    have tj := jar_ne J9 n1
    have lj2 := jar_ne (J9.same u1) nl2
    have dj := jar_ne (J9.same (Same.trans u1 u2)) ndd
    obtain ⟨dL, qL', hLn, swL⟩ := low6 (cj tj (o10 _ _ tj (u4 _ _ (u3 _ _ (u2 _ _ upd_same)))) (by intro ps z; cases z)) (cj lj2 (o10 _ _ lj2 (u4 _ _ (u3 _ _ upd_same))) (by intro ps z; cases z)) (cj dj (o10 _ _ dj (u4 _ _ upd_same)) (by intro ps z; cases z)) hxl
    have c9 : Same (RpL.cut [j] H9) (RpL.cut [j] H10) := Same.trans (cj_same u14) (cj_off o10)
    have T10 := (T9.same u14).off' o10 J10
    clear u1 u2 u3 u4 u13 u14 hxl n1 nl2 ndd nL tj lj2 dj o10 J9 T9
    -- what stays
    have c0 : Same (RpL.cut [j] H10) (RpL.cut [] H10) := fun b o e => RpL.cut_at (by simp) (RpL.cut_up _ _ e) (RpL.cut_of e).2.2
    have c90 := Same.trans c9 c0
    have c80 := Same.trans c89 c90
    have hmD := hm8.same c80
    have htD := ht8.same c80
    have hlD := c80 _ _ hl1
    have qL := qL'.same c0
    have hN : OdD (RpL.cut [] H10) (fun _ => True) xn ∨ xn = .ref tp ∨ xn = .ref l1 := hN8.imp (fun h => h.same c80) id
    have hO : OdD (RpL.cut [] H10) (fun _ => True) xo ∨ xo = .ref m := hO9.imp (fun h => h.same c90) id
    clear hm8 ht8 hl1 qL' hN8 hO9 c0 c90 c80 c9 c89
    have e10 : ∀ {Hb : Hp}, Same (RpL.cut [] H10) Hb → LamX.ExtN H10 Hb := ex0
    have tb : RpL.NoTb (RpL.cut [] H10) := RpL.cut_tb
    have sub0 : Same (RpL.cut [] H10) H10 := RpL.cut_up
    generalize RpL.cut [] H10 = D at *
    have shM : RpL.ItN (cxOf CX0 P w K mg base NR "_law_right" (defScope sRight) f (.ref cR) A outer s H E).nox 1 D (.ref m) (("Loop(" : Str) ++ txS ++ ")") := by
      obtain ⟨dx', pr, pe, po, pq, ex, _⟩ := id hmD
      exact RpL.itN_of (RpL.it_own R.T.M.lr.i R.T.M.lr.fn GLr ex fun H9 s9 => ⟨m, txS, rfl, hmD.same s9, (show txS.length ≤ 100000 by decide +kernel), rfl, Same.refl _⟩)
    have shN : ∃ t, RpL.ItN (cxOf CX0 P w K mg base NR "_law_right" (defScope sRight) f (.ref cR) A outer s H E).nox 2 D xn t ∧ t.length ≤ 40 := by
      rcases hN with ⟨d, a, _, sw⟩ | rfl | rfl
      · exact ⟨_, RpL.itN_dq sm a sw (szl (by decide)) (by decide), Nat.le_trans sw.ln (by decide)⟩
      · obtain ⟨dx', ex⟩ := id htD
        exact ⟨srS, (RpL.itN_of (RpL.it_own R.T.U.ur.i R.T.U.ur.fn GUr ex fun H9 s9 => ⟨tp, rfl, htD.same s9, rfl, Same.refl _⟩) : RpL.ItN _ 1 _ _ _).mono (by decide), by decide +kernel⟩
      · refine ⟨listText [("Loop(" : Str) ++ txS ++ ")"], RpL.itN_list (D := Hj l1 D) (H := D) (by simp [Hj]) hj_up hlD (by simp) rfl fun i v hv => ?_, by decide +kernel⟩
        match i, hv with
        | 0, h =>
          cases h
          have hmL : LoopAt R.T.M.T.C (Hj l1 D) m txS := loop_part (fun b u nl _ e => hj_at (ne_of e hlD (nl _)) e) hmD
          obtain ⟨dx', pr, pe, po, pq, ex, _⟩ := id hmL
          exact ⟨_, rfl, RpL.itN_of (RpL.it_own R.T.M.lr.i R.T.M.lr.fn GLr ex fun H9 s9 => ⟨m, txS, rfl, hmL.same s9, (show txS.length ≤ 100000 by decide +kernel), rfl, Same.refl _⟩)⟩
        | n + 1, h => cases h
    have shO : ∃ t, RpL.ItN (cxOf CX0 P w K mg base NR "_law_right" (defScope sRight) f (.ref cR) A outer s H E).nox 2 D xo t ∧ t.length ≤ 40 := by
      rcases hO with ⟨d, a, _, sw⟩ | rfl
      · exact ⟨_, RpL.itN_dq sm a sw (szl (by decide)) (by decide), Nat.le_trans sw.ln (by decide)⟩
      · exact ⟨_, shM.mono (by decide), by decide +kernel⟩
    have shL : RpL.ItN (cxOf CX0 P w K mg base NR "_law_right" (defScope sRight) f (.ref cR) A outer s H E).nox 2 D xl dL.shown := RpL.itN_dq sm qL swL (szl (by decide)) (by decide)
    have nN : ∀ H', Same D H' → NoIn K R.T.M.T.C H' xn := fun H' s' => by
      rcases hN with ⟨d, a, _, sw⟩ | rfl | rfl
      · exact noIn_dq R.noL (a.same s')
      · exact ⟨_, (htD.same s').ty R.T.U, R.ul⟩
      · exact noIn_lst R.noL (s' _ _ hlD)
    have nO : ∀ H', Same D H' → NoIn K R.T.U.C H' xo := fun H' s' => by
      rcases hO with ⟨d, a, _, sw⟩ | rfl
      · exact noIn_dq R.noU (a.same s')
      · exact ⟨_, loop_ty R.T (hmD.same s'), R.lu⟩
    obtain ⟨tN, itN, lN⟩ := shN
    obtain ⟨tO, itO, lO⟩ := shO
    clear hN hO shM
    -- always, fault
    refine ⟨(by show 2 ≤ sizeLine; decide), fun L nL => ?_⟩
    have u1 := same_new (o := .lst [.ref R.T.alw.f, .ref R.T.flt.f]) nL
    have T11 := T10.same u1
    have hL11 : (upd H10 L (.lst [.ref R.T.alw.f, .ref R.T.flt.f])) L = some (.lst [.ref R.T.alw.f, .ref R.T.flt.f]) := upd_same
    have s011 := Same.trans sub0 u1
    generalize upd H10 L (.lst [.ref R.T.alw.f, .ref R.T.flt.f]) = H11 at T11 hL11 s011 ⊢
    have tx3 : RpL.TxtsD (cxOf CX0 P w K mg base NR "_law_right" (defScope sRight) f (.ref cR) A outer s H E).nox 2 D [[.str "NotALoop", xn, .bl true], [.str "NotASource", xo, .bl true], [.str "InvalidName", xl, .bl true]] [[reprText "NotALoop", tN, "True"], [reprText "NotASource", tO, "True"], [reprText "InvalidName", dL.shown, "True"]] :=
      .cons (by simp) rfl (RpL.row3 (le40 nm_loop) itN) (.cons (by simp) rfl (RpL.row3 (le40 nm_src) itO) (.cons (by simp) rfl (RpL.row3 (le40 nm_name) shL) .nil))
    have tx2 : RpL.TxtsD (cxOf CX0 P w K mg base NR "_law_right" (defScope sRight) f (.ref cR) A outer s H E).nox 2 D [[.str "NotALoop", xn, .bl true], [.str "NotASource", xo, .bl true]] [[reprText "NotALoop", tN, "True"], [reprText "NotASource", tO, "True"]] :=
      .cons (by simp) rfl (RpL.row3 (le40 nm_loop) itN) (.cons (by simp) rfl (RpL.row3 (le40 nm_src) itO) .nil)
    have sz3 : (listText (List.map listText [[reprText "NotALoop", tN, "True"], [reprText "NotASource", tO, "True"], [reprText "InvalidName", dL.shown, "True"]])).length ≤ sizeLine :=
      RpL.len3 (n := 140) (RpL.row_len nm_loop lN) (RpL.row_len nm_src lO) (RpL.row_len (a := 40) nm_name (Nat.le_trans swL.ln (by decide))) (by decide)
    have sz2 : (listText (List.map listText [[reprText "NotALoop", tN, "True"], [reprText "NotASource", tO, "True"]])).length ≤ sizeLine :=
      RpL.len2 (n := 140) (RpL.row_len nm_loop lN) (RpL.row_len nm_src lO) (by decide)
    refine ⟨L, rfl, ⟨_, SqL.of hL11⟩, for_list (K := K) (a := L) (xs := [.ref R.T.alw.f, .ref R.T.flt.f]) (fun i σ H' => (∃ v5 v10 v11 : Option V, σ = [some (.ref j), some (.ref m), some (.ref tp), some (.ref x), some xb, v5, none, some xn, some xo, some xl, v10, v11]) ∧ LamX.ExtN H11 H' ∧ LamX.Tabs [(PR, qLam)] H') ⟨⟨_, _, _, rfl⟩, (fun b o e _ => e), T11.tab⟩ (fun i σ H' _ ⟨_, e, _⟩ => SqL.of (e _ _ hL11 (by intro ps z; cases z))) ?_ ?_⟩
    · rintro i y σ H12 hy ⟨⟨v5, v10, v11, rfl⟩, e12, T12⟩
      have s12 : Same D H12 := RpL.sub_ext tb s011 e12
      obtain ⟨b, rfl⟩ : ∃ b, y = .ref (fs3 R.T b) := by
        match i, hy with
        | 0, h => cases h; exact ⟨true, rfl⟩
        | 1, h => cases h; exact ⟨false, rfl⟩
        | n + 2, h => cases h
      refine lam_3 R.T b T12 rfl (fun H1 Rr r => ⟨_, rfl, _, rfl, _, rfl, r⟩) (.inl ⟨rfl, fun H' e' => nN H' (RpL.sub_ext tb s12 e')⟩) fun Hb p1 xe1 Tb hp1 fr1 => ?_
      refine ⟨(by show 1 ≤ sizeLine; decide), fun s5 ns5 => ?_⟩
      have st1 := RpL.SeenD.first tb s12 xe1 Tb hp1 fr1 ns5
      have ex1 : LamX.ExtN H12 (upd Hb s5 (.lst [.ref p1])) := xe1.trans (ext_same (same_new ns5))
      have nq1 : ∀ b o, H12 b = some o → (∀ ps, o ≠ .tbl ps) → b ≠ s5 := fun b o h t => ne_of_none (xe1 _ _ h t) ns5
      show tSeq _ _ _ _ (upd Hb s5 (.lst [.ref p1]))
      generalize upd Hb s5 (.lst [.ref p1]) = Hc at st1 ex1 ⊢
      refine ⟨_, rfl, .inl ⟨rfl, _, SqL.of st1.at_⟩, ?_⟩
      refine lam_3 R.T b st1.tab rfl (fun H1 Rr r => ⟨_, rfl, _, rfl, _, rfl, r⟩) (.inr ⟨m, txS, rfl, hmD.same st1.sub, rfl, fun H' e' => nO H' (RpL.sub_ext tb st1.sub e')⟩) fun Hd p2 xe2 Td hp2 fr2 => ?_
      obtain ⟨a2, st2⟩ := st1.step tb xe2 Td hp2 fr2
      have ex2 : LamX.ExtN H12 (upd Hd s5 (.lst ([V.ref p1] ++ [.ref p2]))) := fun b o h t => by
        rw [upd_ne (nq1 b o h t)]
        exact xe2 _ _ (ex1 b o h t) t
      refine ⟨s5, _, _, rfl, rfl, a2, small1000 (by show 1 ≤ 1000; decide), ?_⟩
      refine ⟨_, rfl, .inl ⟨rfl, _, SqL.of st2.at_⟩, ?_⟩
      refine lam_3k R.T b st2.tab rfl (fun H1 Rr r => ⟨_, rfl, _, rfl, _, rfl, r⟩) (hmD.same st2.sub) (htD.same st2.sub) (qL.same st2.sub) hLn fun He p3 xe3 Te hp3 fr3 => ?_
      obtain ⟨a3, st3⟩ := st2.step tb xe3 Te hp3 fr3
      have ex3 : LamX.ExtN H12 (upd He s5 (.lst ([V.ref p1] ++ [.ref p2] ++ [.ref p3]))) := fun b o h t => by
        rw [upd_ne (nq1 b o h t)]
        exact xe3 _ _ (ex2 b o h t) t
      refine ⟨s5, _, _, rfl, rfl, a3, small1000 (by show 2 ≤ 1000; decide), ?_⟩
      have st3' : RpL.SeenD [(PR, qLam)] D (upd He s5 (.lst ([V.ref p1] ++ [.ref p2] ++ [.ref p3]))) s5 [.ref p1, .ref p2, .ref p3] [[.str "NotALoop", xn, .bl true], [.str "NotASource", xo, .bl true], [.str "InvalidName", xl, .bl true]] := st3
      show tSeq _ _ _ _ (upd He s5 (.lst ([V.ref p1] ++ [.ref p2] ++ [.ref p3])))
      generalize upd He s5 (.lst ([V.ref p1] ++ [.ref p2] ++ [.ref p3])) = Hh at st3' ex3 ⊢
      -- due
      refine ⟨_, rfl, (by show 3 ≤ sizeLine; decide), fun r1 nr1 => ⟨_, rfl, (by show 3 ≤ sizeLine; decide), fun r2 nr2 => ⟨_, rfl, (by show 3 ≤ sizeLine; decide), fun r3 nr3 => ⟨(by show 3 ≤ sizeLine; decide), fun r4 nr4 => ?_⟩⟩⟩⟩
      have u1 := same_new (o := .lst [.str "NotALoop", xn, .bl true]) nr1
      have u2 := same_new (o := .lst [.str "NotASource", xo, .bl true]) nr2
      have u3 := same_new (o := .lst [.str "InvalidName", xl, .bl true]) nr3
      have u4 := same_new (o := .lst [.ref r1, .ref r2, .ref r3]) nr4
      have c1 := Same.trans st3'.sub u1
      have c2 := Same.trans c1 u2
      have c3 := Same.trans c2 u3
      have c4 := Same.trans c3 u4
      have uu := Same.trans u1 (Same.trans u2 (Same.trans u3 u4))
      have rowsD : RpL.RowsD D r4 (upd (upd (upd (upd Hh r1 (.lst [.str "NotALoop", xn, .bl true])) r2 (.lst [.str "NotASource", xo, .bl true])) r3 (.lst [.str "InvalidName", xl, .bl true])) r4 (.lst [.ref r1, .ref r2, .ref r3])) [.ref r1, .ref r2, .ref r3] [[.str "NotALoop", xn, .bl true], [.str "NotASource", xo, .bl true], [.str "InvalidName", xl, .bl true]] :=
        .cons (u4 _ _ (u3 _ _ (u2 _ _ upd_same))) (RpL.free_of st3'.sub nr1) (ne_of_none (u3 _ _ (u2 _ _ upd_same)) nr4) (.cons (u4 _ _ (u3 _ _ upd_same)) (RpL.free_of c1 nr2) (ne_of_none (u3 _ _ upd_same) nr4) (.cons (u4 _ _ upd_same) (RpL.free_of c2 nr3) (ne_of_none upd_same nr4) .nil))
      have at4 : (upd (upd (upd (upd Hh r1 (.lst [.str "NotALoop", xn, .bl true])) r2 (.lst [.str "NotASource", xo, .bl true])) r3 (.lst [.str "InvalidName", xl, .bl true])) r4 (.lst [.ref r1, .ref r2, .ref r3])) r4 = some (.lst [.ref r1, .ref r2, .ref r3]) := upd_same
      have row5 := st3'.row.mono (H' := upd (upd (upd (upd Hh r1 (.lst [.str "NotALoop", xn, .bl true])) r2 (.lst [.str "NotASource", xo, .bl true])) r3 (.lst [.str "InvalidName", xl, .bl true])) r4 (.lst [.ref r1, .ref r2, .ref r3])) fun b zs _ h => uu _ _ h
      have at5 := uu _ _ st3'.at_
      have nr4D := RpL.free_of c3 nr4
      have tab4 := st3'.tab.ext uu
      have ex4 := ex3.trans (ext_same uu)
      show tSeq _ _ _ _ (upd (upd (upd (upd Hh r1 (.lst [.str "NotALoop", xn, .bl true])) r2 (.lst [.str "NotASource", xo, .bl true])) r3 (.lst [.str "InvalidName", xl, .bl true])) r4 (.lst [.ref r1, .ref r2, .ref r3]))
      generalize upd (upd (upd (upd Hh r1 (.lst [.str "NotALoop", xn, .bl true])) r2 (.lst [.str "NotASource", xo, .bl true])) r3 (.lst [.str "InvalidName", xl, .bl true])) r4 (.lst [.ref r1, .ref r2, .ref r3]) = Hi at c4 rowsD at4 row5 at5 tab4 ex4 ⊢
      refine ⟨_, rfl, ?_⟩
      refine nil_of ?_
      refine RpL.repr_rows c4 st3'.nsq at5 row5 tx3 (by simp) sz3 fun H20 s20 => ?_
      refine ⟨_, rfl, ?_⟩
      refine nil_of ?_
      refine RpL.repr_rows (Same.trans c4 s20) nr4D (s20 _ _ at4) (rowsD.mono fun b zs _ h => s20 _ _ h) tx3 (by simp) sz3 fun H21 s21 => ⟨rfl, _, rfl, ?_⟩
      rw [decide_eq_true rfl]
      have s421 := Same.trans s20 s21
      exact iteF ⟨⟨_, _, _, rfl⟩, e12.trans (ex4.trans (ext_same s421)), tab4.ext s421⟩
    rintro σ H12 ⟨⟨v5, v10, v11, rfl⟩, e12, T12⟩
    have s12 : Same D H12 := RpL.sub_ext tb s011 e12
    -- failing, needless
    refine ⟨(by show 2 ≤ sizeLine; decide), fun L2 nL2 => ?_⟩
    have u1 := same_new (o := .lst [.ref R.T.fai.f, .ref R.T.nee.f]) nL2
    have hL13 : (upd H12 L2 (.lst [.ref R.T.fai.f, .ref R.T.nee.f])) L2 = some (.lst [.ref R.T.fai.f, .ref R.T.nee.f]) := upd_same
    have s013 := Same.trans s12 u1
    have T13 := T12.ext u1
    have e13 := e12.trans (ext_same u1)
    generalize upd H12 L2 (.lst [.ref R.T.fai.f, .ref R.T.nee.f]) = H13 at hL13 s013 T13 e13 ⊢
    refine ⟨L2, rfl, ⟨_, SqL.of hL13⟩, for_list (K := K) (a := L2) (xs := [.ref R.T.fai.f, .ref R.T.nee.f]) (fun i σ H' => (∃ v5 v10 : Option V, σ = [some (.ref j), some (.ref m), some (.ref tp), some (.ref x), some xb, v5, none, some xn, some xo, some xl, v10, v11]) ∧ LamX.ExtN H13 H' ∧ LamX.Tabs [(PR, qLam)] H') ⟨⟨_, _, rfl⟩, (fun b o e _ => e), T13⟩ (fun i σ H' _ ⟨_, e, _⟩ => SqL.of (e _ _ hL13 (by intro ps z; cases z))) ?_ ?_⟩
    · rintro i y σ H14 hy ⟨⟨v5, v10, rfl⟩, e14, T14⟩
      have s14 : Same D H14 := RpL.sub_ext tb s013 e14
      obtain ⟨b, rfl⟩ : ∃ b, y = .ref (fs2 R.T b) := by
        match i, hy with
        | 0, h => cases h; exact ⟨true, rfl⟩
        | 1, h => cases h; exact ⟨false, rfl⟩
        | n + 2, h => cases h
      refine lam_2 R.T b T14 rfl (fun H1 Rr r => ⟨_, rfl, _, rfl, r⟩) (.inl ⟨rfl, fun H' e' => nN H' (RpL.sub_ext tb s14 e')⟩) fun Hb p1 xe1 Tb hp1 fr1 => ?_
      refine ⟨(by show 1 ≤ sizeLine; decide), fun s5 ns5 => ?_⟩
      have st1 := RpL.SeenD.first tb s14 xe1 Tb hp1 fr1 ns5
      have ex1 : LamX.ExtN H14 (upd Hb s5 (.lst [.ref p1])) := xe1.trans (ext_same (same_new ns5))
      have nq1 : ∀ b o, H14 b = some o → (∀ ps, o ≠ .tbl ps) → b ≠ s5 := fun b o h t => ne_of_none (xe1 _ _ h t) ns5
      show tSeq _ _ _ _ (upd Hb s5 (.lst [.ref p1]))
      generalize upd Hb s5 (.lst [.ref p1]) = Hc at st1 ex1 ⊢
      refine ⟨_, rfl, .inl ⟨rfl, _, SqL.of st1.at_⟩, ?_⟩
      refine lam_2k R.T b st1.tab rfl (fun H1 Rr r => ⟨_, rfl, _, rfl, r⟩) (.inr ⟨m, txS, rfl, hmD.same st1.sub, rfl, fun H' e' => nO H' (RpL.sub_ext tb st1.sub e')⟩) fun Hd p2 xe2 Td hp2 fr2 => ?_
      obtain ⟨a2, st2⟩ := st1.step tb xe2 Td hp2 fr2
      have ex2 : LamX.ExtN H14 (upd Hd s5 (.lst ([V.ref p1] ++ [.ref p2]))) := fun b o h t => by
        rw [upd_ne (nq1 b o h t)]
        exact xe2 _ _ (ex1 b o h t) t
      refine ⟨s5, _, _, rfl, rfl, a2, small1000 (by show 1 ≤ 1000; decide), ?_⟩
      have st2' : RpL.SeenD [(PR, qLam)] D (upd Hd s5 (.lst ([V.ref p1] ++ [.ref p2]))) s5 [.ref p1, .ref p2] [[.str "NotALoop", xn, .bl true], [.str "NotASource", xo, .bl true]] := st2
      show tSeq _ _ _ _ (upd Hd s5 (.lst ([V.ref p1] ++ [.ref p2])))
      generalize upd Hd s5 (.lst ([V.ref p1] ++ [.ref p2])) = Hh at st2' ex2 ⊢
      refine ⟨_, rfl, ?_⟩
      refine nil_of ?_
      refine RpL.repr_rows st2'.sub st2'.nsq st2'.at_ st2'.row tx2 (by simp) sz2 fun H20 s20 => ?_
      refine ⟨_, rfl, (by show 3 ≤ sizeLine; decide), fun r1 nr1 => ⟨_, rfl, (by show 3 ≤ sizeLine; decide), fun r2 nr2 => ⟨(by show 2 ≤ sizeLine; decide), fun r4 nr4 => ?_⟩⟩⟩
      have u1 := same_new (o := .lst [.str "NotALoop", xn, .bl true]) nr1
      have u2 := same_new (o := .lst [.str "NotASource", xo, .bl true]) nr2
      have u4 := same_new (o := .lst [.ref r1, .ref r2]) nr4
      have c0 := Same.trans st2'.sub s20
      have c1 := Same.trans c0 u1
      have c2 := Same.trans c1 u2
      have c4 := Same.trans c2 u4
      refine nil_of ?_
      refine RpL.repr_rows c4 (RpL.free_of c2 nr4) upd_same (.cons (u4 _ _ (u2 _ _ upd_same)) (RpL.free_of c0 nr1) (ne_of_none (u2 _ _ upd_same) nr4) (.cons (u4 _ _ upd_same) (RpL.free_of c1 nr2) (ne_of_none upd_same nr4) .nil)) tx2 (by simp) sz2 fun H21 s21 => ⟨rfl, _, rfl, ?_⟩
      rw [decide_eq_true rfl]
      have s421 := Same.trans s20 (Same.trans u1 (Same.trans u2 (Same.trans u4 s21)))
      exact iteF ⟨⟨_, _, rfl⟩, e14.trans (ex2.trans (ext_same s421)), st2'.tab.ext s421⟩
    rintro σ H14 ⟨⟨v5, v10, rfl⟩, e14, T14⟩
    have T15 := T11.ext (e13.trans e14) T14
    exact k _ T15.off T15.tab
end
end My

namespace My
open PySem L2 Cm LM
abbrev sLaw : Stmt := top 73
def spLaw (K : PySem.W.Frag) (PR : Addr) : Sp := fun vs H Q _ => ∃ (a : Addr) (ns : List Int), vs = [.ref a] ∧ SqL K H a (ns.map V.int) ∧ ns.length ≤ 63 ∧ LamX.Tabs [(PR, qLam)] H ∧ ∀ H', Q (.bl true) H'
theorem scLaw : FnScope ["_law_script", "_law_k"] ["_law_script"] (defScope sLaw) := ⟨rfl, rfl, rfl, by decide +kernel, rfl, by decide +kernel, by decide +kernel⟩
theorem all_true : ∀ n : Nat, (List.replicate n true).all id = true
  | 0 => rfl
  | n + 1 => all_true n
theorem extN_sq {K : PySem.W.Frag} {a : Addr} {H H' : Hp} {xs : List V} (e : LamX.ExtN H H') (h : SqL K H a xs) : SqL K H' a xs := by
  rcases h with (h | ⟨o, h⟩) | h
  · exact .inl (.inl (e _ _ h (by intro ps z; cases z)))
  · exact .inl (.inr ⟨o, e _ _ h (by intro ps z; cases z)⟩)
  · exact .inr h
section
variable {P : Program} {w : World} {K : PySem.W.Frag} {mg : Str → Option Value} {base : Heap} {PR : Addr}
theorem ok_law {f fJ fR : Addr} {fd fdJ fdR : FuncData} (F : Fun K "law" "law" sLaw f fd) (TJ : TxtJ mg) (mrange : mg "range" = none) (mall : mg "all" = none) (kR9 : Nat) (GR : Gd.FnG P w K mg base CX0 kR9 fR fdR ["_law_jar_here"] (spRight PR))
    (FJ : Fun K "_law_jar" "_law_jar" sJar fJ fdJ) (bJ : Binds K fdJ ["_law_script", "_law_k"] []) (gJ : mg "_law_jar" = some (.ref fJ)) (kJ : PySem.W.keepIn K (.ref fJ) = true) (k1 : 1 ≤ kR9)
    (bR : Binds K fdR ["_law_jar_here"] []) (gR : mg "_law_right" = some (.ref fR)) (kR : PySem.W.keepIn K (.ref fR) = true) (mmax : mg "max" = none) (mmin : mg "min" = none) :
    Gd.FnG P w K mg base CX0 (kR9 + 1) f fd ["_law_script"] (spLaw K PR) := by
  have GJ : FnOk P w K mg base CX0 1 fJ fdJ ["_law_script", "_law_k"] (spJar K) := ok_jar FJ TJ
  refine Gd.okG F scLaw (fun vs H Q E h => ?_) (fun cdv A outer s H vs Q E _ _ _ hgd hr h => ?_)
  · obtain ⟨a, ns, rfl, _⟩ := h
    rfl
  · obtain ⟨a, ns, rfl, hS, hl, hT, k⟩ := h
    have hr1 : Room 1 _ := hr.mono k1
    refine ⟨_, pss_one (ps_ret (pe_callB (cr_all rfl) (by rfl) mall (by decide +kernel) (pa_cons (pe_lc (own := [("_law_k", 1)]) (g := gName 1) (tt := tYes) rfl scLaw.nd
      (pi_range1 rfl mrange (pa_cons (pe_callB (call_max2 rfl) (by rfl) mmax (by decide +kernel) (pa_cons pe_int (pa_cons (pe_callB (call_min2 rfl) (by rfl) mmin (by decide +kernel) (pa_cons (pe_callB call_len_seq (by rfl) TJ.len PySem.boot_len (pa_cons (pv 0) pa_nil)) (pa_cons pe_int pa_nil))) pa_nil))) pa_nil))
      (blkOk_by (own := [("_law_k", 1)]) (N := ["_law_script", "_law_k"]) (sc := defScope sLaw) (by decide +kernel)) (fun _ _ _ _ _ => pg_name (i := 1) scLaw.nd rfl (Or.inl rfl)) (fun _ _ _ _ _ => pts_nil)
      (fun _ _ _ _ _ => Gd.pe_callG GR hgd hr rfl gR kR bR .nil pass0 (pa_cons (pe_call GJ hr1 rfl gJ kJ bJ .nil pass0 (pa_cons (pv 0) (pa_cons (pv 1) pa_nil))) pa_nil))) pa_nil))), ?_⟩
    refine ⟨_, rfl, a, _, rfl, .inl hS, _, _, rfl, _, _, rfl, ?_⟩
    rw [List.length_map]
    have hm : ∃ n : Nat, (if (if (5 : Int) < (ns.length : Int) then 5 else (ns.length : Int)) > 2 then (if (5 : Int) < (ns.length : Int) then 5 else (ns.length : Int)) else 2) = (n : Int) ∧ n ≤ 5 := by
      by_cases h5 : (5 : Int) < (ns.length : Int)
      · rw [if_pos h5]
        exact ⟨5, rfl, Nat.le_refl _⟩
      · rw [if_neg h5]
        by_cases h2 : (ns.length : Int) > 2
        · rw [if_pos h2]
          exact ⟨ns.length, rfl, by omega⟩
        · rw [if_neg h2]
          exact ⟨2, rfl, by omega⟩
    obtain ⟨n, en, hn⟩ := hm
    refine ⟨_, rfl, by rw [en]; omega, by rw [en]; omega, fun D nD => ?_⟩
    rw [en]
    refine lc_range (lo := 0) (n := ((n : Int)).toNat) (fun i H' => LamX.ExtN H H' ∧ LamX.Tabs [(PR, qLam)] H' ∧ H' D = some (.lst ((List.replicate i true).map V.bl))) ⟨LamX.ExtN.of (same_upd nD), hT.ext (same_upd nD), upd_same⟩ ?_ ?_
    · rintro i H1 hi ⟨x1, T1, hD⟩
      refine ⟨rfl, _, rfl, _, rfl, a, ns, i, by rw [Int.zero_add]; rfl, extN_sq x1 hS, hl, fun H2 j s2 nj J2 => ?_⟩
      refine ⟨j, rfl, J2, T1.ext s2, fun H3 o3 T3 => ?_⟩
      have x3 : LamX.ExtN H1 H3 := fun b o q n => o3 b o (fun z => by rw [z, nj] at q; cases q) n (s2 b o q)
      have hD3 := x3 _ _ hD (by intro ps z; cases z)
      refine ⟨_, hD3, small1000 (by rw [List.length_map, List.length_replicate]; omega), fun b o q n => ?_, ?_, ?_⟩
      · rw [upd_ne (ne_of_none q nD)]
        exact x3 _ _ (x1 b o q n) n
      · intro p hp
        obtain ⟨ps, a1, a2, a3⟩ := T3 p hp
        refine ⟨ps, by rw [upd_ne (ne_of a1 hD3 (by intro z; cases z))]; exact a1, a2, fun pos cv hcv => ?_⟩
        obtain ⟨c, e, hc⟩ := a3 pos cv hcv
        exact ⟨c, e, by rw [upd_ne (ne_of hc hD3 (by intro z; unfold LamX.CodeO at z; cases z))]; exact hc⟩
      · rw [upd_same, List.replicate_succ', List.map_append]
        rfl
    · rintro H1 ⟨x1, T1, hD⟩
      refine ⟨D, List.replicate _ true, rfl, SqL.of hD, ?_⟩
      rw [all_true]
      exact k H1
end
theorem all_mk {l : PySem.W.OpenLaw} {w : World} {K : PySem.W.Frag} {h : Heap} {mg : Str → Option Value} {fa pT pR pE fwo foo fiw faw fir fie CIT fIT CL fli CIP fIP fiib fto fll fle fls flr flw pUA pUP pUE fckw CU fui fur CNL fNL CNS fNS CIN fIN fckl fcku fckn falw fflt ffai fnee pNM CBInputError fcm fsl fss fsip ffrm fjar cR PR frt flaw : Addr} (X : K.In h) (G : h.Ns mainGlobals mg) (hfa : mg "law" = some (.ref fa))
    {odT odR odE odwo anwo odoo anoo odiw aniw odaw anaw odir anir odie anie odIT anIT odli anli odIP anIP odiib aniib odto anto odll anll odle anle odls anls odlr anlr odlw anlw odUA odUP odUE odckw anckw odui anui odur anur odNL anNL odNS anNS odIN anIN odckl anckl odcku ancku odckn anckn odalw analw odflt anflt odfai anfai odnee annee odNM odcm ancm odsl ansl odss anss odsip ansip odfrm anfrm odjar anjar odC odrt anrt odlaw anlaw : Option Addr}
    {slT slR slE slwo sloo sliw slaw slir slie slIT slli slIP sliib slto slll slle slls sllr sllw slUA slUP slUE slckw slui slur slNL slNS slIN slckl slcku slckn slalw slflt slfai slnee slNM slcm slsl slss slsip slfrm sljar slC slrt sllaw : Array (Option Value)}
    {ocwo kVwo dcwo pmwo cdwo ctwo ocoo kVoo dcoo pmoo cdoo ctoo ociw kViw dciw pmiw cdiw ctiw ocaw kVaw dcaw pmaw cdaw ctaw ocir kVir dcir pmir cdir ctir ocie kVie dcie pmie cdie ctie ocIT kVIT dcIT pmIT cdIT ctIT ocli kVli dcli pmli cdli ctli ocIP kVIP dcIP pmIP cdIP ctIP ociib kViib dciib pmiib cdiib ctiib octo kVto dcto pmto cdto ctto ocll kVll dcll pmll cdll ctll ocle kVle dcle pmle cdle ctle ocls kVls dcls pmls cdls ctls oclr kVlr dclr pmlr cdlr ctlr oclw kVlw dclw pmlw cdlw ctlw occkw kVckw dcckw pmckw cdckw ctckw ocui kVui dcui pmui cdui ctui ocur kVur dcur pmur cdur ctur ocNL kVNL dcNL pmNL cdNL ctNL ocNS kVNS dcNS pmNS cdNS ctNS ocIN kVIN dcIN pmIN cdIN ctIN occkl kVckl dcckl pmckl cdckl ctckl occku kVcku dccku pmcku cdcku ctcku occkn kVckn dcckn pmckn cdckn ctckn ocalw kValw dcalw pmalw cdalw ctalw ocflt kVflt dcflt pmflt cdflt ctflt ocfai kVfai dcfai pmfai cdfai ctfai ocnee kVnee dcnee pmnee cdnee ctnee occm kVcm dccm pmcm cdcm ctcm ocsl kVsl dcsl pmsl cdsl ctsl ocss kVss dcss pmss cdss ctss ocsip kVsip dcsip pmsip cdsip ctsip ocfrm kVfrm dcfrm pmfrm cdfrm ctfrm ocjar kVjar dcjar pmjar cdjar ctjar ocC ocrt kVrt dcrt pmrt ctrt oclaw kVlaw dclaw pmlaw cdlaw ctlaw : Value}
    {tkT0 tkT1 tkT2 tkT3 tkT4 tkT5 tkT6 tkT7 tkR0 tkR1 tkR2 tkR3 tkR4 tkR5 tkE0 tkE1 tkE2 tkB tkMR tkME tkUA0 tkUA1 tkUP0 tkUP1 tkUE0 tkUE1 tkUE2 tkNM0 tkNM1 tkNM2 tkNM3 tkNM4 : Tok}
    {nT nR nE nUA nUP nUE nNM : Nat}
    {nmIT qIT : Str} {NIT : Addr} {bsIT bmIT : List Value} {snIT : List Str} {subIT : List Value} {abIT : Bool} {colIT : Option Bool} {ddIT : Option Addr} {m0IT m1IT m2IT m3IT m5IT : Option Value}
    {nmIP qIP : Str} {NIP : Addr} {bsIP bmIP : List Value} {snIP : List Str} {subIP : List Value} {abIP : Bool} {colIP : Option Bool} {ddIP : Option Addr} {m0IP m1IP m2IP m3IP m5IP : Option Value}
    {nmNL qNL : Str} {NNL : Addr} {bsNL bmNL : List Value} {snNL : List Str} {subNL : List Value} {abNL : Bool} {colNL : Option Bool} {ddNL : Option Addr} {m0NL m1NL m2NL m3NL m5NL : Option Value}
    {nmNS qNS : Str} {NNS : Addr} {bsNS bmNS : List Value} {snNS : List Str} {subNS : List Value} {abNS : Bool} {colNS : Option Bool} {ddNS : Option Addr} {m0NS m1NS m2NS m3NS m5NS : Option Value}
    {nmIN qIN : Str} {NIN : Addr} {bsIN bmIN : List Value} {snIN : List Str} {subIN : List Value} {abIN : Bool} {colIN : Option Bool} {ddIN : Option Addr} {m0IN m1IN m2IN m3IN m5IN : Option Value}
    {vsC : Array Value}
    (gT : PySem.W.nsIn K mainGlobals "TESTS" = some (some (.ref pT)))
    (tT : K.lookup pT = some ⟨.type "tuple", odT, .seq #[.str "empty" tkT0, .str "some" tkT1, .str "short" tkT2, .str "full" tkT3, .str "told" tkT4, .str "open" tkT5, .str "rest" tkT6, .str "bare" tkT7] nT, slT⟩)
    (gR : PySem.W.nsIn K mainGlobals "ROUND_STEPS" = some (some (.ref pR)))
    (tR : K.lookup pR = some ⟨.type "tuple", odR, .seq #[.str "add" tkR0, .str "hand" tkR1, .str "cut" tkR2, .str "flush" tkR3, .str "stop" tkR4, .str "again" tkR5] nR, slR⟩)
    (gE : PySem.W.nsIn K mainGlobals "ENDING_STEPS" = some (some (.ref pE)))
    (tE : K.lookup pE = some ⟨.type "tuple", odE, .seq #[.str "hand" tkE0, .str "cut" tkE1, .str "flush" tkE2] nE, slE⟩)
    (mB : PySem.W.nsIn K mainGlobals "BAR" = some (some (.str " | " tkB)))
    (mMR : PySem.W.nsIn K mainGlobals "MOST_ROUND" = some (some (.int 12 tkMR)))
    (mME : PySem.W.nsIn K mainGlobals "MOST_ENDING" = some (some (.int 6 tkME)))
    (awo : PySem.W.nsIn K mainGlobals "words_of" = some (some (.ref fwo)))
    (lwo : K.lookup fwo = some ⟨ocwo, odwo, .func (PySem.W.fnOf "words_of" "words_of" (defArgs sWO) (defBody sWO) (defScope sWO) .none kVwo dcwo pmwo anwo cdwo ctwo), slwo⟩)
    (cwo : PySem.W.codeIn K cdwo "words_of" = true)
    (kwo : PySem.W.keepIn K (.ref fwo) = true)
    (aoo : PySem.W.nsIn K mainGlobals "order_of" = some (some (.ref foo)))
    (loo : K.lookup foo = some ⟨ocoo, odoo, .func (PySem.W.fnOf "order_of" "order_of" (defArgs sOO) (defBody sOO) (defScope sOO) .none kVoo dcoo pmoo anoo cdoo ctoo), sloo⟩)
    (coo : PySem.W.codeIn K cdoo "order_of" = true)
    (koo : PySem.W.keepIn K (.ref foo) = true)
    (aiw : PySem.W.nsIn K mainGlobals "is_word" = some (some (.ref fiw)))
    (liw : K.lookup fiw = some ⟨ociw, odiw, .func (PySem.W.fnOf "is_word" "is_word" (defArgs sIW) (defBody sIW) (defScope sIW) .none kViw dciw pmiw aniw cdiw ctiw), sliw⟩)
    (ciw : PySem.W.codeIn K cdiw "is_word" = true)
    (kiw : PySem.W.keepIn K (.ref fiw) = true)
    (aaw : PySem.W.nsIn K mainGlobals "are_words" = some (some (.ref faw)))
    (law : K.lookup faw = some ⟨ocaw, odaw, .func (PySem.W.fnOf "are_words" "are_words" (defArgs sAW) (defBody sAW) (defScope sAW) .none kVaw dcaw pmaw anaw cdaw ctaw), slaw⟩)
    (caw : PySem.W.codeIn K cdaw "are_words" = true)
    (kaw : PySem.W.keepIn K (.ref faw) = true)
    (air : PySem.W.nsIn K mainGlobals "is_round" = some (some (.ref fir)))
    (lir : K.lookup fir = some ⟨ocir, odir, .func (PySem.W.fnOf "is_round" "is_round" (defArgs sIR) (defBody sIR) (defScope sIR) .none kVir dcir pmir anir cdir ctir), slir⟩)
    (cir : PySem.W.codeIn K cdir "is_round" = true)
    (kir : PySem.W.keepIn K (.ref fir) = true)
    (aie : PySem.W.nsIn K mainGlobals "is_ending" = some (some (.ref fie)))
    (lie : K.lookup fie = some ⟨ocie, odie, .func (PySem.W.fnOf "is_ending" "is_ending" (defArgs sIE) (defBody sIE) (defScope sIE) .none kVie dcie pmie anie cdie ctie), slie⟩)
    (cie : PySem.W.codeIn K cdie "is_ending" = true)
    (kie : PySem.W.keepIn K (.ref fie) = true)
    (aCIT : PySem.W.nsIn K mainGlobals "InvalidText" = some (some (.ref CIT)))
    (aIT : PySem.W.findIn K (.ref CIT) "__init__" = some (some (.ref fIT)))
    (iIT : PySem.W.isFn K (.ref fIT) = true)
    (lIT : K.lookup fIT = some ⟨ocIT, odIT, .func (PySem.W.fnOf "__init__" "InvalidText.__init__" (defArgs sEI) (defBody sEI) (defScope sEI) .none kVIT dcIT pmIT anIT cdIT ctIT), slIT⟩)
    (cIT : PySem.W.codeIn K cdIT "InvalidText.__init__" = true)
    (kIT : PySem.W.keepIn K (.ref fIT) = true)
    (xIT : K.lookup CIT = some (excClassObj nmIT qIT CIT NIT bsIT bmIT true snIT subIT abIT colIT ddIT m0IT m1IT m2IT m3IT m5IT "ValueError.__new__"))
    (xrIT : PySem.HandSPX.refsVE bmIT = true)
    (e1IT : PySem.W.findIn K (.ref CIT) "__setattr__" = some (some (.builtin "object.__setattr__")))
    (e2IT : PySem.W.subIn K (.ref CIT) (.type "BaseException") = some true)
    (e3IT : PySem.W.typeIn K (.ref CIT) = some (.type "type"))
    (e4IT : PySem.W.keepIn K (.ref CIT) = true)
    (e5IT : PySem.W.typeIn K (.ref fIT) = some (.type "function"))
    (e6IT : PySem.W.findIn K (.ref CIT) "value" = some none)
    (aCL : PySem.W.nsIn K mainGlobals "Loop" = some (some (.ref CL)))
    (pgL : PySem.W.plainGet K CL Str.empty = true)
    (hdL : PySem.W.hasDictIn K CL = true)
    (poL : PySem.W.plainOver K CL = true)
    (saL : PySem.W.findIn K (.ref CL) "__setattr__" = some (some (.builtin "object.__setattr__")))
    (mkL : PySem.W.makesIn K CL = true)
    (kcL : PySem.W.keepIn K (.ref CL) = true)
    (nL0 : PySem.W.findIn K (.ref CL) "text" = some none)
    (nL1 : PySem.W.findIn K (.ref CL) "round" = some none)
    (nL2 : PySem.W.findIn K (.ref CL) "ending" = some none)
    (nL3 : PySem.W.findIn K (.ref CL) "round_orders" = some none)
    (nL4 : PySem.W.findIn K (.ref CL) "ending_orders" = some none)
    (ali : PySem.W.findIn K (.ref CL) "__init__" = some (some (.ref fli)))
    (ili : PySem.W.isFn K (.ref fli) = true)
    (lli : K.lookup fli = some ⟨ocli, odli, .func (PySem.W.fnOf "__init__" "Loop.__init__" (defArgs sLI) (defBody sLI) (defScope sLI) .none kVli dcli pmli anli cdli ctli), slli⟩)
    (cli : PySem.W.codeIn K cdli "Loop.__init__" = true)
    (kli : PySem.W.keepIn K (.ref fli) = true)
    (aCIP : PySem.W.nsIn K mainGlobals "InvalidPlace" = some (some (.ref CIP)))
    (aIP : PySem.W.findIn K (.ref CIP) "__init__" = some (some (.ref fIP)))
    (iIP : PySem.W.isFn K (.ref fIP) = true)
    (lIP : K.lookup fIP = some ⟨ocIP, odIP, .func (PySem.W.fnOf "__init__" "InvalidPlace.__init__" (defArgs sEP) (defBody sEP) (defScope sEP) .none kVIP dcIP pmIP anIP cdIP ctIP), slIP⟩)
    (cIP : PySem.W.codeIn K cdIP "InvalidPlace.__init__" = true)
    (kIP : PySem.W.keepIn K (.ref fIP) = true)
    (xIP : K.lookup CIP = some (excClassObj nmIP qIP CIP NIP bsIP bmIP true snIP subIP abIP colIP ddIP m0IP m1IP m2IP m3IP m5IP "ValueError.__new__"))
    (xrIP : PySem.HandSPX.refsVE bmIP = true)
    (e1IP : PySem.W.findIn K (.ref CIP) "__setattr__" = some (some (.builtin "object.__setattr__")))
    (e2IP : PySem.W.subIn K (.ref CIP) (.type "BaseException") = some true)
    (e3IP : PySem.W.typeIn K (.ref CIP) = some (.type "type"))
    (e4IP : PySem.W.keepIn K (.ref CIP) = true)
    (e5IP : PySem.W.typeIn K (.ref fIP) = some (.type "function"))
    (e6IP : PySem.W.findIn K (.ref CIP) "value" = some none)
    (aiib : PySem.W.nsIn K mainGlobals "is_integer_between" = some (some (.ref fiib)))
    (liib : K.lookup fiib = some ⟨ociib, odiib, .func (PySem.W.fnOf "is_integer_between" "is_integer_between" (defArgs sIIB) (defBody sIIB) (defScope sIIB) .none kViib dciib pmiib aniib cdiib ctiib), sliib⟩)
    (ciib : PySem.W.codeIn K cdiib "is_integer_between" = true)
    (kiib : PySem.W.keepIn K (.ref fiib) = true)
    (ato : PySem.W.nsIn K mainGlobals "text_of" = some (some (.ref fto)))
    (lto : K.lookup fto = some ⟨octo, odto, .func (PySem.W.fnOf "text_of" "text_of" (defArgs sTO) (defBody sTO) (defScope sTO) .none kVto dcto pmto anto cdto ctto), slto⟩)
    (cto : PySem.W.codeIn K cdto "text_of" = true)
    (kto : PySem.W.keepIn K (.ref fto) = true)
    (all : PySem.W.findIn K (.ref CL) "__len__" = some (some (.ref fll)))
    (ill : PySem.W.isFn K (.ref fll) = true)
    (lll : K.lookup fll = some ⟨ocll, odll, .func (PySem.W.fnOf "__len__" "Loop.__len__" (defArgs sLL) (defBody sLL) (defScope sLL) .none kVll dcll pmll anll cdll ctll), slll⟩)
    (cll : PySem.W.codeIn K cdll "Loop.__len__" = true)
    (kll : PySem.W.keepIn K (.ref fll) = true)
    (ale : PySem.W.findIn K (.ref CL) "__eq__" = some (some (.ref fle)))
    (ile : PySem.W.isFn K (.ref fle) = true)
    (lle : K.lookup fle = some ⟨ocle, odle, .func (PySem.W.fnOf "__eq__" "Loop.__eq__" (defArgs sLE) (defBody sLE) (defScope sLE) .none kVle dcle pmle anle cdle ctle), slle⟩)
    (cle : PySem.W.codeIn K cdle "Loop.__eq__" = true)
    (kle : PySem.W.keepIn K (.ref fle) = true)
    (als : PySem.W.findIn K (.ref CL) "__str__" = some (some (.ref fls)))
    (ils : PySem.W.isFn K (.ref fls) = true)
    (lls : K.lookup fls = some ⟨ocls, odls, .func (PySem.W.fnOf "__str__" "Loop.__str__" (defArgs sLS) (defBody sLS) (defScope sLS) .none kVls dcls pmls anls cdls ctls), slls⟩)
    (cls : PySem.W.codeIn K cdls "Loop.__str__" = true)
    (kls : PySem.W.keepIn K (.ref fls) = true)
    (alr : PySem.W.findIn K (.ref CL) "__repr__" = some (some (.ref flr)))
    (ilr : PySem.W.isFn K (.ref flr) = true)
    (llr : K.lookup flr = some ⟨oclr, odlr, .func (PySem.W.fnOf "__repr__" "Loop.__repr__" (defArgs sLR) (defBody sLR) (defScope sLR) .none kVlr dclr pmlr anlr cdlr ctlr), sllr⟩)
    (clr : PySem.W.codeIn K cdlr "Loop.__repr__" = true)
    (klr : PySem.W.keepIn K (.ref flr) = true)
    (alw : PySem.W.findIn K (.ref CL) "without" = some (some (.ref flw)))
    (ilw : PySem.W.isFn K (.ref flw) = true)
    (llw : K.lookup flw = some ⟨oclw, odlw, .func (PySem.W.fnOf "without" "Loop.without" (defArgs sLW) (defBody sLW) (defScope sLW) .none kVlw dclw pmlw anlw cdlw ctlw), sllw⟩)
    (clw : PySem.W.codeIn K cdlw "Loop.without" = true)
    (klw : PySem.W.keepIn K (.ref flw) = true)
    (nb : PySem.W.findIn K (.ref CL) "__bool__" = some none)
    (nne : PySem.W.findIn K (.ref CL) "__ne__" = some (some (.builtin "object.__ne__")))
    (w1 : PySem.W.findIn K (.ref CL) "__class__" = some (some (.builtin "object.__class__")))
    (w2 : PySem.W.specialIn K (.builtin "object.__class__") "__get__" = some (some (.builtin "getset_descriptor.__get__")))
    (w3 : PySem.W.takesIn K (.builtin "object.__class__") = some true)
    (w4 : PySem.W.mroIn K CL (.type "object") = some true)
    (w5 : PySem.W.kitOne K (.ref CL) (.ref CL) = some true)
    (gUA : PySem.W.nsIn K mainGlobals "AMOUNTS" = some (some (.ref pUA)))
    (tUA : K.lookup pUA = some ⟨.type "tuple", odUA, .seq #[.str "exact" tkUA0, .str "short" tkUA1] nUA, slUA⟩)
    (gUP : PySem.W.nsIn K mainGlobals "PATIENCES" = some (some (.ref pUP)))
    (tUP : K.lookup pUP = some ⟨.type "tuple", odUP, .seq #[.str "prompt" tkUP0, .str "waiting" tkUP1] nUP, slUP⟩)
    (gUE : PySem.W.nsIn K mainGlobals "ENDS" = some (some (.ref pUE)))
    (tUE : K.lookup pUE = some ⟨.type "tuple", odUE, .seq #[.str "empty" tkUE0, .str "with" tkUE1, .str "behind" tkUE2] nUE, slUE⟩)
    (ackw : PySem.W.nsIn K mainGlobals "check_word" = some (some (.ref fckw)))
    (lckw : K.lookup fckw = some ⟨occkw, odckw, .func (PySem.W.fnOf "check_word" "check_word" (defArgs sQW) (defBody sQW) (defScope sQW) .none kVckw dcckw pmckw anckw cdckw ctckw), slckw⟩)
    (cckw : PySem.W.codeIn K cdckw "check_word" = true)
    (kckw : PySem.W.keepIn K (.ref fckw) = true)
    (aCU : PySem.W.nsIn K mainGlobals "Source" = some (some (.ref CU)))
    (pgU : PySem.W.plainGet K CU Str.empty = true)
    (hdU : PySem.W.hasDictIn K CU = true)
    (poU : PySem.W.plainOver K CU = true)
    (saU : PySem.W.findIn K (.ref CU) "__setattr__" = some (some (.builtin "object.__setattr__")))
    (mkU : PySem.W.makesIn K CU = true)
    (kcU : PySem.W.keepIn K (.ref CU) = true)
    (nU0 : PySem.W.findIn K (.ref CU) "amount" = some none)
    (nU1 : PySem.W.findIn K (.ref CU) "patience" = some none)
    (nU2 : PySem.W.findIn K (.ref CU) "end" = some none)
    (aui : PySem.W.findIn K (.ref CU) "__init__" = some (some (.ref fui)))
    (iui : PySem.W.isFn K (.ref fui) = true)
    (lui : K.lookup fui = some ⟨ocui, odui, .func (PySem.W.fnOf "__init__" "Source.__init__" (defArgs sUI) (defBody sUI) (defScope sUI) .none kVui dcui pmui anui cdui ctui), slui⟩)
    (cui : PySem.W.codeIn K cdui "Source.__init__" = true)
    (kui : PySem.W.keepIn K (.ref fui) = true)
    (aur : PySem.W.findIn K (.ref CU) "__repr__" = some (some (.ref fur)))
    (iur : PySem.W.isFn K (.ref fur) = true)
    (lur : K.lookup fur = some ⟨ocur, odur, .func (PySem.W.fnOf "__repr__" "Source.__repr__" (defArgs sUR) (defBody sUR) (defScope sUR) .none kVur dcur pmur anur cdur ctur), slur⟩)
    (cur : PySem.W.codeIn K cdur "Source.__repr__" = true)
    (kur : PySem.W.keepIn K (.ref fur) = true)
    (y1U : PySem.W.findIn K (.ref CU) "__class__" = some (some (.builtin "object.__class__")))
    (y2U : PySem.W.specialIn K (.builtin "object.__class__") "__get__" = some (some (.builtin "getset_descriptor.__get__")))
    (y3U : PySem.W.takesIn K (.builtin "object.__class__") = some true)
    (y4U : PySem.W.mroIn K CU (.type "object") = some true)
    (y5U : PySem.W.kitOne K (.ref CU) (.ref CU) = some true)
    (aCNL : PySem.W.nsIn K mainGlobals "NotALoop" = some (some (.ref CNL)))
    (aNL : PySem.W.findIn K (.ref CNL) "__init__" = some (some (.ref fNL)))
    (iNL : PySem.W.isFn K (.ref fNL) = true)
    (lNL : K.lookup fNL = some ⟨ocNL, odNL, .func (PySem.W.fnOf "__init__" "NotALoop.__init__" (defArgs sNL) (defBody sNL) (defScope sNL) .none kVNL dcNL pmNL anNL cdNL ctNL), slNL⟩)
    (cNL : PySem.W.codeIn K cdNL "NotALoop.__init__" = true)
    (kNL : PySem.W.keepIn K (.ref fNL) = true)
    (xNL : K.lookup CNL = some (excClassObj nmNL qNL CNL NNL bsNL bmNL true snNL subNL abNL colNL ddNL m0NL m1NL m2NL m3NL m5NL "ValueError.__new__"))
    (xrNL : PySem.HandSPX.refsVE bmNL = true)
    (e1NL : PySem.W.findIn K (.ref CNL) "__setattr__" = some (some (.builtin "object.__setattr__")))
    (e2NL : PySem.W.subIn K (.ref CNL) (.type "BaseException") = some true)
    (e3NL : PySem.W.typeIn K (.ref CNL) = some (.type "type"))
    (e4NL : PySem.W.keepIn K (.ref CNL) = true)
    (e5NL : PySem.W.typeIn K (.ref fNL) = some (.type "function"))
    (e6NL : PySem.W.findIn K (.ref CNL) "value" = some none)
    (aCNS : PySem.W.nsIn K mainGlobals "NotASource" = some (some (.ref CNS)))
    (aNS : PySem.W.findIn K (.ref CNS) "__init__" = some (some (.ref fNS)))
    (iNS : PySem.W.isFn K (.ref fNS) = true)
    (lNS : K.lookup fNS = some ⟨ocNS, odNS, .func (PySem.W.fnOf "__init__" "NotASource.__init__" (defArgs sNS) (defBody sNS) (defScope sNS) .none kVNS dcNS pmNS anNS cdNS ctNS), slNS⟩)
    (cNS : PySem.W.codeIn K cdNS "NotASource.__init__" = true)
    (kNS : PySem.W.keepIn K (.ref fNS) = true)
    (xNS : K.lookup CNS = some (excClassObj nmNS qNS CNS NNS bsNS bmNS true snNS subNS abNS colNS ddNS m0NS m1NS m2NS m3NS m5NS "ValueError.__new__"))
    (xrNS : PySem.HandSPX.refsVE bmNS = true)
    (e1NS : PySem.W.findIn K (.ref CNS) "__setattr__" = some (some (.builtin "object.__setattr__")))
    (e2NS : PySem.W.subIn K (.ref CNS) (.type "BaseException") = some true)
    (e3NS : PySem.W.typeIn K (.ref CNS) = some (.type "type"))
    (e4NS : PySem.W.keepIn K (.ref CNS) = true)
    (e5NS : PySem.W.typeIn K (.ref fNS) = some (.type "function"))
    (e6NS : PySem.W.findIn K (.ref CNS) "value" = some none)
    (aCIN : PySem.W.nsIn K mainGlobals "InvalidName" = some (some (.ref CIN)))
    (aIN : PySem.W.findIn K (.ref CIN) "__init__" = some (some (.ref fIN)))
    (iIN : PySem.W.isFn K (.ref fIN) = true)
    (lIN : K.lookup fIN = some ⟨ocIN, odIN, .func (PySem.W.fnOf "__init__" "InvalidName.__init__" (defArgs sIN) (defBody sIN) (defScope sIN) .none kVIN dcIN pmIN anIN cdIN ctIN), slIN⟩)
    (cIN : PySem.W.codeIn K cdIN "InvalidName.__init__" = true)
    (kIN : PySem.W.keepIn K (.ref fIN) = true)
    (xIN : K.lookup CIN = some (excClassObj nmIN qIN CIN NIN bsIN bmIN true snIN subIN abIN colIN ddIN m0IN m1IN m2IN m3IN m5IN "ValueError.__new__"))
    (xrIN : PySem.HandSPX.refsVE bmIN = true)
    (e1IN : PySem.W.findIn K (.ref CIN) "__setattr__" = some (some (.builtin "object.__setattr__")))
    (e2IN : PySem.W.subIn K (.ref CIN) (.type "BaseException") = some true)
    (e3IN : PySem.W.typeIn K (.ref CIN) = some (.type "type"))
    (e4IN : PySem.W.keepIn K (.ref CIN) = true)
    (e5IN : PySem.W.typeIn K (.ref fIN) = some (.type "function"))
    (e6IN : PySem.W.findIn K (.ref CIN) "value" = some none)
    (ackl : PySem.W.nsIn K mainGlobals "check_loop" = some (some (.ref fckl)))
    (lckl : K.lookup fckl = some ⟨occkl, odckl, .func (PySem.W.fnOf "check_loop" "check_loop" (defArgs sCKL) (defBody sCKL) (defScope sCKL) .none kVckl dcckl pmckl anckl cdckl ctckl), slckl⟩)
    (cckl : PySem.W.codeIn K cdckl "check_loop" = true)
    (kckl : PySem.W.keepIn K (.ref fckl) = true)
    (acku : PySem.W.nsIn K mainGlobals "check_source" = some (some (.ref fcku)))
    (lcku : K.lookup fcku = some ⟨occku, odcku, .func (PySem.W.fnOf "check_source" "check_source" (defArgs sCKU) (defBody sCKU) (defScope sCKU) .none kVcku dccku pmcku ancku cdcku ctcku), slcku⟩)
    (ccku : PySem.W.codeIn K cdcku "check_source" = true)
    (kcku : PySem.W.keepIn K (.ref fcku) = true)
    (ackn : PySem.W.nsIn K mainGlobals "check_name" = some (some (.ref fckn)))
    (lckn : K.lookup fckn = some ⟨occkn, odckn, .func (PySem.W.fnOf "check_name" "check_name" (defArgs sCKN) (defBody sCKN) (defScope sCKN) .none kVckn dcckn pmckn anckn cdckn ctckn), slckn⟩)
    (cckn : PySem.W.codeIn K cdckn "check_name" = true)
    (kckn : PySem.W.keepIn K (.ref fckn) = true)
    (aalw : PySem.W.nsIn K mainGlobals "always" = some (some (.ref falw)))
    (lalw : K.lookup falw = some ⟨ocalw, odalw, .func (PySem.W.fnOf "always" "always" (defArgs sAlw) (defBody sAlw) (defScope sAlw) .none kValw dcalw pmalw analw cdalw ctalw), slalw⟩)
    (calw : PySem.W.codeIn K cdalw "always" = true)
    (kalw : PySem.W.keepIn K (.ref falw) = true)
    (aflt : PySem.W.nsIn K mainGlobals "fault" = some (some (.ref fflt)))
    (lflt : K.lookup fflt = some ⟨ocflt, odflt, .func (PySem.W.fnOf "fault" "fault" (defArgs sFlt) (defBody sFlt) (defScope sFlt) .none kVflt dcflt pmflt anflt cdflt ctflt), slflt⟩)
    (cflt : PySem.W.codeIn K cdflt "fault" = true)
    (kflt : PySem.W.keepIn K (.ref fflt) = true)
    (afai : PySem.W.nsIn K mainGlobals "failing" = some (some (.ref ffai)))
    (lfai : K.lookup ffai = some ⟨ocfai, odfai, .func (PySem.W.fnOf "failing" "failing" (defArgs sFai) (defBody sFai) (defScope sFai) .none kVfai dcfai pmfai anfai cdfai ctfai), slfai⟩)
    (cfai : PySem.W.codeIn K cdfai "failing" = true)
    (kfai : PySem.W.keepIn K (.ref ffai) = true)
    (anee : PySem.W.nsIn K mainGlobals "needless" = some (some (.ref fnee)))
    (lnee : K.lookup fnee = some ⟨ocnee, odnee, .func (PySem.W.fnOf "needless" "needless" (defArgs sNee) (defBody sNee) (defScope sNee) .none kVnee dcnee pmnee annee cdnee ctnee), slnee⟩)
    (cnee : PySem.W.codeIn K cdnee "needless" = true)
    (knee : PySem.W.keepIn K (.ref fnee) = true)
    (gNM : PySem.W.nsIn K mainGlobals "NAMES" = some (some (.ref pNM)))
    (tNM : K.lookup pNM = some ⟨.type "tuple", odNM, .seq #[.str "whole" tkNM0, .str "filled" tkNM1, .str "even" tkNM2, .str "quiet" tkNM3, .str "ends" tkNM4] nNM, slNM⟩)
    (aCBInputError : PySem.W.nsIn K mainGlobals "InputError" = some (some (.ref CBInputError)))
    (kAIN : PySem.W.kitOne K (.ref CIN) (.ref CBInputError) = some true)
    (kBIN : PySem.W.kitOne K (.ref CIN) (.type "ValueError") = some true)
    (x7IN : PySem.W.findIn K (.ref CIN) "__getattribute__" = some (some (.builtin "BaseException.__getattribute__")))
    (x8IN : PySem.W.findIn K (.ref CIN) "__getattr__" = some none)
    (x9IN : PySem.W.hasDictIn K CIN = true)
    (xAIN : (PySem.W.clsIn K CIN).isSome = true)
    (xBIN : PySem.W.findIn K (.ref CIN) "__class__" = some (some (.builtin "object.__class__")))
    (xg1 : PySem.W.specialIn K (.builtin "object.__class__") "__get__" = some (some (.builtin "getset_descriptor.__get__")))
    (xg2 : PySem.W.takesIn K (.builtin "object.__class__") = some true)
    (xCIN : PySem.W.mroIn K CIN (.type "object") = some true)
    (xxININ : PySem.W.exmOne K (.ref CIN) (.ref CIN) = some true)
    (kAIP : PySem.W.kitOne K (.ref CIP) (.ref CBInputError) = some true)
    (kBIP : PySem.W.kitOne K (.ref CIP) (.type "ValueError") = some true)
    (x7IP : PySem.W.findIn K (.ref CIP) "__getattribute__" = some (some (.builtin "BaseException.__getattribute__")))
    (x8IP : PySem.W.findIn K (.ref CIP) "__getattr__" = some none)
    (x9IP : PySem.W.hasDictIn K CIP = true)
    (xAIP : (PySem.W.clsIn K CIP).isSome = true)
    (xBIP : PySem.W.findIn K (.ref CIP) "__class__" = some (some (.builtin "object.__class__")))
    (xCIP : PySem.W.mroIn K CIP (.type "object") = some true)
    (xxIPIN : PySem.W.exmOne K (.ref CIP) (.ref CIN) = some false)
    (xxIPIP : PySem.W.exmOne K (.ref CIP) (.ref CIP) = some true)
    (kANL : PySem.W.kitOne K (.ref CNL) (.ref CBInputError) = some true)
    (kBNL : PySem.W.kitOne K (.ref CNL) (.type "ValueError") = some true)
    (x7NL : PySem.W.findIn K (.ref CNL) "__getattribute__" = some (some (.builtin "BaseException.__getattribute__")))
    (x8NL : PySem.W.findIn K (.ref CNL) "__getattr__" = some none)
    (x9NL : PySem.W.hasDictIn K CNL = true)
    (xANL : (PySem.W.clsIn K CNL).isSome = true)
    (xBNL : PySem.W.findIn K (.ref CNL) "__class__" = some (some (.builtin "object.__class__")))
    (xCNL : PySem.W.mroIn K CNL (.type "object") = some true)
    (xxNLIN : PySem.W.exmOne K (.ref CNL) (.ref CIN) = some false)
    (xxNLIP : PySem.W.exmOne K (.ref CNL) (.ref CIP) = some false)
    (xxNLNL : PySem.W.exmOne K (.ref CNL) (.ref CNL) = some true)
    (kANS : PySem.W.kitOne K (.ref CNS) (.ref CBInputError) = some true)
    (kBNS : PySem.W.kitOne K (.ref CNS) (.type "ValueError") = some true)
    (x7NS : PySem.W.findIn K (.ref CNS) "__getattribute__" = some (some (.builtin "BaseException.__getattribute__")))
    (x8NS : PySem.W.findIn K (.ref CNS) "__getattr__" = some none)
    (x9NS : PySem.W.hasDictIn K CNS = true)
    (xANS : (PySem.W.clsIn K CNS).isSome = true)
    (xBNS : PySem.W.findIn K (.ref CNS) "__class__" = some (some (.builtin "object.__class__")))
    (xCNS : PySem.W.mroIn K CNS (.type "object") = some true)
    (xxNSIN : PySem.W.exmOne K (.ref CNS) (.ref CIN) = some false)
    (xxNSIP : PySem.W.exmOne K (.ref CNS) (.ref CIP) = some false)
    (xxNSNL : PySem.W.exmOne K (.ref CNS) (.ref CNL) = some false)
    (xxNSNS : PySem.W.exmOne K (.ref CNS) (.ref CNS) = some true)
    (acm : PySem.W.nsIn K mainGlobals "_law_came" = some (some (.ref fcm)))
    (lcm : K.lookup fcm = some ⟨occm, odcm, .func (PySem.W.fnOf "_law_came" "_law_came" (defArgs sCame) (defBody sCame) (defScope sCame) .none kVcm dccm pmcm ancm cdcm ctcm), slcm⟩)
    (ccm : PySem.W.codeIn K cdcm "_law_came" = true)
    (kcm : PySem.W.keepIn K (.ref fcm) = true)
    (asl : PySem.W.nsIn K mainGlobals "sample_loop" = some (some (.ref fsl)))
    (lsl : K.lookup fsl = some ⟨ocsl, odsl, .func (PySem.W.fnOf "sample_loop" "sample_loop" (defArgs sSL) (defBody sSL) (defScope sSL) .none kVsl dcsl pmsl ansl cdsl ctsl), slsl⟩)
    (csl : PySem.W.codeIn K cdsl "sample_loop" = true)
    (ksl : PySem.W.keepIn K (.ref fsl) = true)
    (ass : PySem.W.nsIn K mainGlobals "sample_source" = some (some (.ref fss)))
    (lss : K.lookup fss = some ⟨ocss, odss, .func (PySem.W.fnOf "sample_source" "sample_source" (defArgs sSS) (defBody sSS) (defScope sSS) .none kVss dcss pmss anss cdss ctss), slss⟩)
    (css : PySem.W.codeIn K cdss "sample_source" = true)
    (kss : PySem.W.keepIn K (.ref fss) = true)
    (nbLNoneType : PySem.W.kitOne K (.type "NoneType") (.ref CL) = some false)
    (nbLbool : PySem.W.kitOne K (.type "bool") (.ref CL) = some false)
    (nbLint : PySem.W.kitOne K (.type "int") (.ref CL) = some false)
    (nbLstr : PySem.W.kitOne K (.type "str") (.ref CL) = some false)
    (nbLlist : PySem.W.kitOne K (.type "list") (.ref CL) = some false)
    (nbLtuple : PySem.W.kitOne K (.type "tuple") (.ref CL) = some false)
    (nbLdict : PySem.W.kitOne K (.type "dict") (.ref CL) = some false)
    (nbUNoneType : PySem.W.kitOne K (.type "NoneType") (.ref CU) = some false)
    (nbUbool : PySem.W.kitOne K (.type "bool") (.ref CU) = some false)
    (nbUint : PySem.W.kitOne K (.type "int") (.ref CU) = some false)
    (nbUstr : PySem.W.kitOne K (.type "str") (.ref CU) = some false)
    (nbUlist : PySem.W.kitOne K (.type "list") (.ref CU) = some false)
    (nbUtuple : PySem.W.kitOne K (.type "tuple") (.ref CU) = some false)
    (nbUdict : PySem.W.kitOne K (.type "dict") (.ref CU) = some false)
    (kUL : PySem.W.kitOne K (.ref CU) (.ref CL) = some false)
    (kLU : PySem.W.kitOne K (.ref CL) (.ref CU) = some false)
    (asip : PySem.W.nsIn K mainGlobals "_law_sip" = some (some (.ref fsip)))
    (lsip : K.lookup fsip = some ⟨ocsip, odsip, .func (PySem.W.fnOf "_law_sip" "_law_sip" (defArgs sSip) (defBody sSip) (defScope sSip) .none kVsip dcsip pmsip ansip cdsip ctsip), slsip⟩)
    (csip : PySem.W.codeIn K cdsip "_law_sip" = true)
    (ksip : PySem.W.keepIn K (.ref fsip) = true)
    (afrm : PySem.W.nsIn K mainGlobals "_law_from" = some (some (.ref ffrm)))
    (lfrm : K.lookup ffrm = some ⟨ocfrm, odfrm, .func (PySem.W.fnOf "_law_from" "_law_from" (defArgs sFrom) (defBody sFrom) (defScope sFrom) .none kVfrm dcfrm pmfrm anfrm cdfrm ctfrm), slfrm⟩)
    (cfrm : PySem.W.codeIn K cdfrm "_law_from" = true)
    (kfrm : PySem.W.keepIn K (.ref ffrm) = true)
    (ajar : PySem.W.nsIn K mainGlobals "_law_jar" = some (some (.ref fjar)))
    (ljar : K.lookup fjar = some ⟨ocjar, odjar, .func (PySem.W.fnOf "_law_jar" "_law_jar" (defArgs sJar) (defBody sJar) (defScope sJar) .none kVjar dcjar pmjar anjar cdjar ctjar), sljar⟩)
    (cjar : PySem.W.codeIn K cdjar "_law_jar" = true)
    (kjar : PySem.W.keepIn K (.ref fjar) = true)
    (art : PySem.W.nsIn K mainGlobals "_law_right" = some (some (.ref frt)))
    (lrt : K.lookup frt = some ⟨ocrt, odrt, .func (PySem.W.fnOf "_law_right" "_law_right" (defArgs sRight) (defBody sRight) (defScope sRight) .none kVrt dcrt pmrt anrt (.ref cR) ctrt), slrt⟩)
    (crt : PySem.W.codeIn K (.ref cR) "_law_right" = true)
    (krt : PySem.W.keepIn K (.ref frt) = true)
    (alaw : PySem.W.nsIn K mainGlobals "law" = some (some (.ref flaw)))
    (llaw : K.lookup flaw = some ⟨oclaw, odlaw, .func (PySem.W.fnOf "law" "law" (defArgs sLaw) (defBody sLaw) (defScope sLaw) .none kVlaw dclaw pmlaw anlaw cdlaw ctlaw), sllaw⟩)
    (claw : PySem.W.codeIn K cdlaw "law" = true)
    (klaw : PySem.W.keepIn K (.ref flaw) = true)
    (q1 : K.lookup cR = some ⟨ocC, odC, .fields vsC, slC⟩)
    (q2 : vsC[11]? = some (.ref PR))
    (q3 : PySem.W.codeHdIn K cR PR = true)
    (q4 : K.lookup PR = none)
    (q5 : h.get? PR = some { cls := .none, data := .fields #[] })
    (z_tuple : PySem.W.nsIn K mainGlobals "tuple" = some none)
    (z_len : PySem.W.nsIn K mainGlobals "len" = some none)
    (z_all : PySem.W.nsIn K mainGlobals "all" = some none)
    (z_isinstance : PySem.W.nsIn K mainGlobals "isinstance" = some none)
    (z_str : PySem.W.nsIn K mainGlobals "str" = some none)
    (z_int : PySem.W.nsIn K mainGlobals "int" = some none)
    (z_bool : PySem.W.nsIn K mainGlobals "bool" = some none)
    (z_ValueError : PySem.W.nsIn K mainGlobals "ValueError" = some none)
    (z_abs : PySem.W.nsIn K mainGlobals "abs" = some none)
    (z_divmod : PySem.W.nsIn K mainGlobals "divmod" = some none)
    (z_repr : PySem.W.nsIn K mainGlobals "repr" = some none)
    (z_range : PySem.W.nsIn K mainGlobals "range" = some none)
    (z_max : PySem.W.nsIn K mainGlobals "max" = some none)
    (z_min : PySem.W.nsIn K mainGlobals "min" = some none) :
    Gd.LawG l w K 13 63 "_law_script" mg fa h := by
  have e := hfa.symm.trans (PySem.W.mg_of X G alaw)
  cases e
  have Fwo := fun_mk (st := sWO) lwo cwo kwo
  have bwo := Fwo.binds (ps := ["text"]) fun _ _ _ _ _ _ us hl => match us, hl with | [_], _ => rfl
  have Foo := fun_mk (st := sOO) loo coo koo
  have boo := Foo.binds (ps := ["word"]) fun _ _ _ _ _ _ us hl => match us, hl with | [_], _ => rfl
  have Fiw := fun_mk (st := sIW) liw ciw kiw
  have biw := Fiw.binds (ps := ["word", "steps"]) fun _ _ _ _ _ _ us hl => match us, hl with | [_, _], _ => rfl
  have Faw := fun_mk (st := sAW) law caw kaw
  have baw := Faw.binds (ps := ["words", "steps"]) fun _ _ _ _ _ _ us hl => match us, hl with | [_, _], _ => rfl
  have Fir := fun_mk (st := sIR) lir cir kir
  have bir := Fir.binds (ps := ["words"]) fun _ _ _ _ _ _ us hl => match us, hl with | [_], _ => rfl
  have Fie := fun_mk (st := sIE) lie cie kie
  have bie := Fie.binds (ps := ["words"]) fun _ _ _ _ _ _ us hl => match us, hl with | [_], _ => rfl
  let TL : TxL K mg := ⟨PySem.W.mg_none_of X G z_tuple, PySem.W.mg_none_of X G z_len, PySem.W.mg_none_of X G z_all, ⟨_, PySem.W.mg_of X G mB⟩, ⟨_, PySem.W.mg_of X G mMR⟩, ⟨_, PySem.W.mg_of X G mME⟩, pT, pR, pE, PySem.W.mg_of X G gT, PySem.W.mg_of X G gR, PySem.W.mg_of X G gE, fun H => .inr ⟨_, _, _, tT, rfl, rfl, (by show 8 ≤ sizeLine; decide), .cons ⟨_, rfl⟩ (.cons ⟨_, rfl⟩ (.cons ⟨_, rfl⟩ (.cons ⟨_, rfl⟩ (.cons ⟨_, rfl⟩ (.cons ⟨_, rfl⟩ (.cons ⟨_, rfl⟩ (.cons ⟨_, rfl⟩ (.nil))))))))⟩, fun H => .inr ⟨_, _, _, tR, rfl, rfl, (by show 6 ≤ sizeLine; decide), .cons ⟨_, rfl⟩ (.cons ⟨_, rfl⟩ (.cons ⟨_, rfl⟩ (.cons ⟨_, rfl⟩ (.cons ⟨_, rfl⟩ (.cons ⟨_, rfl⟩ (.nil))))))⟩, fun H => .inr ⟨_, _, _, tE, rfl, rfl, (by show 3 ≤ sizeLine; decide), .cons ⟨_, rfl⟩ (.cons ⟨_, rfl⟩ (.cons ⟨_, rfl⟩ (.nil)))⟩, ⟨fwo, _, Fwo, bwo, PySem.W.mg_of X G awo, kwo⟩, ⟨foo, _, Foo, boo, PySem.W.mg_of X G aoo, koo⟩, ⟨fiw, _, Fiw, biw, PySem.W.mg_of X G aiw, kiw⟩, ⟨faw, _, Faw, baw, PySem.W.mg_of X G aaw, kaw⟩, ⟨fir, _, Fir, bir, PySem.W.mg_of X G air, kir⟩, ⟨fie, _, Fie, bie, PySem.W.mg_of X G aie, kie⟩⟩
  have FIT := fun_mk (st := sEI) lIT cIT kIT
  have bIT := FIT.binds (ps := ["self", "value"]) fun _ _ _ _ _ _ us hl => match us, hl with | [_, _], _ => rfl
  have Fli := fun_mk (st := sLI) lli cli kli
  have bli := Fli.binds (ps := ["self", "text"]) fun _ _ _ _ _ _ us hl => match us, hl with | [_, _], _ => rfl
  let TC : TxC K mg := ⟨TL, ⟨CIT, fIT, _, PySem.W.mg_of X G aCIT, ⟨⟨nmIT, qIT, NIT, bsIT, bmIT, snIT, subIT, abIT, colIT, ddIT, m0IT, m1IT, m2IT, m3IT, m5IT, xIT, xrIT⟩, e1IT, e2IT, e3IT, e4IT⟩, aIT, e5IT, e6IT, FIT, bIT⟩, PySem.W.mg_none_of X G z_isinstance, PySem.W.mg_none_of X G z_str, CL, PySem.W.mg_of X G aCL, ⟨pgL, hdL, poL, saL⟩, nL0, nL1, nL2, nL3, nL4, fli, _, Fli, bli, ⟨mkL, ali, ili, kcL⟩⟩
  have FIP := fun_mk (st := sEP) lIP cIP kIP
  have bIP := FIP.binds (ps := ["self", "value"]) fun _ _ _ _ _ _ us hl => match us, hl with | [_, _], _ => rfl
  have Fiib := fun_mk (st := sIIB) liib ciib kiib
  have biib := Fiib.binds (ps := ["value", "low", "high"]) fun _ _ _ _ _ _ us hl => match us, hl with | [_, _, _], _ => rfl
  have Fto := fun_mk (st := sTO) lto cto kto
  have bto := Fto.binds (ps := ["first_words", "last_words"]) fun _ _ _ _ _ _ us hl => match us, hl with | [_, _], _ => rfl
  have Fll := fun_mk (st := sLL) lll cll kll
  have bll := Fll.binds (ps := ["self"]) fun _ _ _ _ _ _ us hl => match us, hl with | [_], _ => rfl
  have Fle := fun_mk (st := sLE) lle cle kle
  have ble := Fle.binds (ps := ["self", "other"]) fun _ _ _ _ _ _ us hl => match us, hl with | [_, _], _ => rfl
  have Fls := fun_mk (st := sLS) lls cls kls
  have bls := Fls.binds (ps := ["self"]) fun _ _ _ _ _ _ us hl => match us, hl with | [_], _ => rfl
  have Flr := fun_mk (st := sLR) llr clr klr
  have blr := Flr.binds (ps := ["self"]) fun _ _ _ _ _ _ us hl => match us, hl with | [_], _ => rfl
  have Flw := fun_mk (st := sLW) llw clw klw
  have blw := Flw.binds (ps := ["self", "place"]) fun _ _ _ _ _ _ us hl => match us, hl with | [_, _], _ => rfl
  let TM : TxM K mg := ⟨TC, ⟨CIP, fIP, _, PySem.W.mg_of X G aCIP, ⟨⟨nmIP, qIP, NIP, bsIP, bmIP, snIP, subIP, abIP, colIP, ddIP, m0IP, m1IP, m2IP, m3IP, m5IP, xIP, xrIP⟩, e1IP, e2IP, e3IP, e4IP⟩, aIP, e5IP, e6IP, FIP, bIP⟩, PySem.W.mg_none_of X G z_int, PySem.W.mg_none_of X G z_bool, ⟨fiib, _, Fiib, biib, PySem.W.mg_of X G aiib, kiib⟩, ⟨fto, _, Fto, bto, PySem.W.mg_of X G ato, kto⟩, ⟨fll, _, Fll, bll, all, ill⟩, ⟨fle, _, Fle, ble, ale, ile⟩, ⟨fls, _, Fls, bls, als, ils⟩, ⟨flr, _, Flr, blr, alr, ilr⟩, ⟨flw, _, Flw, blw, ⟨alw, ilw, klw⟩⟩, nb, nne, w1, w2, w3, w4, w5⟩
  have Fckw := fun_mk (st := sQW) lckw cckw kckw
  have bckw := Fckw.binds (ps := ["word", "words"]) fun _ _ _ _ _ _ us hl => match us, hl with | [_, _], _ => rfl
  have Fui := fun_mk (st := sUI) lui cui kui
  have bui := Fui.binds (ps := ["self", "amount", "patience", "end"]) fun _ _ _ _ _ _ us hl => match us, hl with | [_, _, _, _], _ => rfl
  have Fur := fun_mk (st := sUR) lur cur kur
  have bur := Fur.binds (ps := ["self"]) fun _ _ _ _ _ _ us hl => match us, hl with | [_], _ => rfl
  let TU : TxU K mg := ⟨PySem.W.mg_none_of X G z_isinstance, PySem.W.mg_none_of X G z_str, pUA, pUP, pUE, PySem.W.mg_of X G gUA, PySem.W.mg_of X G gUP, PySem.W.mg_of X G gUE, fun H => .inr ⟨_, _, _, tUA, rfl, rfl, (by show 2 ≤ sizeLine; decide), .cons ⟨_, rfl⟩ (.cons ⟨_, rfl⟩ (.nil))⟩, fun H => .inr ⟨_, _, _, tUP, rfl, rfl, (by show 2 ≤ sizeLine; decide), .cons ⟨_, rfl⟩ (.cons ⟨_, rfl⟩ (.nil))⟩, fun H => .inr ⟨_, _, _, tUE, rfl, rfl, (by show 3 ≤ sizeLine; decide), .cons ⟨_, rfl⟩ (.cons ⟨_, rfl⟩ (.cons ⟨_, rfl⟩ (.nil)))⟩, ⟨fckw, _, Fckw, bckw, PySem.W.mg_of X G ackw, kckw⟩, CU, PySem.W.mg_of X G aCU, ⟨pgU, hdU, poU, saU⟩, nU0, nU1, nU2, fui, _, Fui, bui, ⟨mkU, aui, iui, kcU⟩, ⟨fur, _, Fur, bur, aur, iur⟩, y1U, y2U, y3U, y4U, y5U⟩
  have FNL := fun_mk (st := sNL) lNL cNL kNL
  have bNL := FNL.binds (ps := ["self", "value"]) fun _ _ _ _ _ _ us hl => match us, hl with | [_, _], _ => rfl
  have FNS := fun_mk (st := sNS) lNS cNS kNS
  have bNS := FNS.binds (ps := ["self", "value"]) fun _ _ _ _ _ _ us hl => match us, hl with | [_, _], _ => rfl
  have FIN := fun_mk (st := sIN) lIN cIN kIN
  have bIN := FIN.binds (ps := ["self", "value"]) fun _ _ _ _ _ _ us hl => match us, hl with | [_, _], _ => rfl
  have Fckl := fun_mk (st := sCKL) lckl cckl kckl
  have bckl := Fckl.binds (ps := ["loop"]) fun _ _ _ _ _ _ us hl => match us, hl with | [_], _ => rfl
  have Fcku := fun_mk (st := sCKU) lcku ccku kcku
  have bcku := Fcku.binds (ps := ["source"]) fun _ _ _ _ _ _ us hl => match us, hl with | [_], _ => rfl
  have Fckn := fun_mk (st := sCKN) lckn cckn kckn
  have bckn := Fckn.binds (ps := ["name"]) fun _ _ _ _ _ _ us hl => match us, hl with | [_], _ => rfl
  have Falw := fun_mk (st := sAlw) lalw calw kalw
  have balw := Falw.binds (ps := ["loop", "source", "name"]) fun _ _ _ _ _ _ us hl => match us, hl with | [_, _, _], _ => rfl
  have Fflt := fun_mk (st := sFlt) lflt cflt kflt
  have bflt := Fflt.binds (ps := ["loop", "source", "name"]) fun _ _ _ _ _ _ us hl => match us, hl with | [_, _, _], _ => rfl
  have Ffai := fun_mk (st := sFai) lfai cfai kfai
  have bfai := Ffai.binds (ps := ["loop", "source"]) fun _ _ _ _ _ _ us hl => match us, hl with | [_, _], _ => rfl
  have Fnee := fun_mk (st := sNee) lnee cnee knee
  have bnee := Fnee.binds (ps := ["loop", "source"]) fun _ _ _ _ _ _ us hl => match us, hl with | [_, _], _ => rfl
  let TJg : TxJg K mg := ⟨TM, TU, ⟨CNL, fNL, _, PySem.W.mg_of X G aCNL, ⟨⟨nmNL, qNL, NNL, bsNL, bmNL, snNL, subNL, abNL, colNL, ddNL, m0NL, m1NL, m2NL, m3NL, m5NL, xNL, xrNL⟩, e1NL, e2NL, e3NL, e4NL⟩, aNL, e5NL, e6NL, FNL, bNL⟩, ⟨CNS, fNS, _, PySem.W.mg_of X G aCNS, ⟨⟨nmNS, qNS, NNS, bsNS, bmNS, snNS, subNS, abNS, colNS, ddNS, m0NS, m1NS, m2NS, m3NS, m5NS, xNS, xrNS⟩, e1NS, e2NS, e3NS, e4NS⟩, aNS, e5NS, e6NS, FNS, bNS⟩, ⟨CIN, fIN, _, PySem.W.mg_of X G aCIN, ⟨⟨nmIN, qIN, NIN, bsIN, bmIN, snIN, subIN, abIN, colIN, ddIN, m0IN, m1IN, m2IN, m3IN, m5IN, xIN, xrIN⟩, e1IN, e2IN, e3IN, e4IN⟩, aIN, e5IN, e6IN, FIN, bIN⟩, ⟨fckl, _, Fckl, bckl, PySem.W.mg_of X G ackl, kckl⟩, ⟨fcku, _, Fcku, bcku, PySem.W.mg_of X G acku, kcku⟩, ⟨fckn, _, Fckn, bckn, PySem.W.mg_of X G ackn, kckn⟩, ⟨falw, _, Falw, balw, PySem.W.mg_of X G aalw, kalw⟩, ⟨fflt, _, Fflt, bflt, PySem.W.mg_of X G aflt, kflt⟩, ⟨ffai, _, Ffai, bfai, PySem.W.mg_of X G afai, kfai⟩, ⟨fnee, _, Fnee, bnee, PySem.W.mg_of X G anee, knee⟩, pNM, PySem.W.mg_of X G gNM, fun H => .inr ⟨_, _, _, tNM, rfl, rfl, (by show 5 ≤ sizeLine; decide), .cons ⟨_, rfl⟩ (.cons ⟨_, rfl⟩ (.cons ⟨_, rfl⟩ (.cons ⟨_, rfl⟩ (.cons ⟨_, rfl⟩ (.nil)))))⟩⟩
  have Fcm := fun_mk (st := sCame) lcm ccm kcm
  have bcm := Fcm.binds (ps := ["_law_ask"]) fun _ _ _ _ _ _ us hl => match us, hl with | [_], _ => rfl
  let TCm : TxCm K mg CIN CIP CNL CNS := ⟨PySem.W.mg_none_of X G z_isinstance, PySem.W.mg_none_of X G z_ValueError, CBInputError, PySem.W.mg_of X G aCBInputError, PySem.W.mg_of X G aCIN, ⟨⟨⟨x7IN, x8IN, e2IN, x9IN⟩, xAIN, xBIN, xg1, xg2, xCIN⟩, e6IN, kAIN, kBIN⟩, xxININ, PySem.W.mg_of X G aCIP, ⟨⟨⟨x7IP, x8IP, e2IP, x9IP⟩, xAIP, xBIP, xg1, xg2, xCIP⟩, e6IP, kAIP, kBIP⟩, xxIPIN, xxIPIP, PySem.W.mg_of X G aCNL, ⟨⟨⟨x7NL, x8NL, e2NL, x9NL⟩, xANL, xBNL, xg1, xg2, xCNL⟩, e6NL, kANL, kBNL⟩, xxNLIN, xxNLIP, xxNLNL, PySem.W.mg_of X G aCNS, ⟨⟨⟨x7NS, x8NS, e2NS, x9NS⟩, xANS, xBNS, xg1, xg2, xCNS⟩, e6NS, kANS, kBNS⟩, xxNSIN, xxNSIP, xxNSNL, xxNSNS, ⟨fcm, _, Fcm, bcm, PySem.W.mg_of X G acm, kcm⟩⟩
  have Fsl := fun_mk (st := sSL) lsl csl ksl
  have bsl := Fsl.binds (ps := []) fun _ _ _ _ _ _ us hl => match us, hl with | [], _ => rfl
  have Fss := fun_mk (st := sSS) lss css kss
  have bss := Fss.binds (ps := []) fun _ _ _ _ _ _ us hl => match us, hl with | [], _ => rfl
  let TJ : TxtJ mg := ⟨PySem.W.mg_none_of X G z_len, PySem.W.mg_none_of X G z_int, PySem.W.mg_none_of X G z_abs, PySem.W.mg_none_of X G z_divmod⟩
  have Fsip := fun_mk (st := sSip) lsip csip ksip
  have bsip := Fsip.binds (ps := ["_law_jar_here", "_law_many"]) fun _ _ _ _ _ _ us hl => match us, hl with | [_, _], _ => rfl
  have Ffrm := fun_mk (st := sFrom) lfrm cfrm kfrm
  have bfrm := Ffrm.binds (ps := ["_law_jar_here", "_law_things"]) fun _ _ _ _ _ _ us hl => match us, hl with | [_, _], _ => rfl
  have KA : KBinds K (PySem.W.fnOf "always" "always" (defArgs sAlw) (defBody sAlw) (defScope sAlw) .none kValw dcalw pmalw analw cdalw ctalw) ["loop", "source", "name"] ["name", "source", "loop"] gK3 gK3V := ⟨fun s us ws _ hl => by
      match us, ws, hl with
      | [], [_, _, _], _ => exact .of_eq rfl, fun h1 h2 => gK3_rel h1 h2⟩
  have KB : KBinds K (PySem.W.fnOf "fault" "fault" (defArgs sFlt) (defBody sFlt) (defScope sFlt) .none kVflt dcflt pmflt anflt cdflt ctflt) ["loop", "source", "name"] ["name", "source", "loop"] gK3 gK3V := ⟨fun s us ws _ hl => by
      match us, ws, hl with
      | [], [_, _, _], _ => exact .of_eq rfl, fun h1 h2 => gK3_rel h1 h2⟩
  have KC : KBinds K (PySem.W.fnOf "failing" "failing" (defArgs sFai) (defBody sFai) (defScope sFai) .none kVfai dcfai pmfai anfai cdfai ctfai) ["loop", "source"] ["source", "loop"] gK2 gK2V := ⟨fun s us ws _ hl => by
      match us, ws, hl with
      | [], [_, _], _ => exact .of_eq rfl, fun h1 h2 => gK2_rel h1 h2⟩
  have KD : KBinds K (PySem.W.fnOf "needless" "needless" (defArgs sNee) (defBody sNee) (defScope sNee) .none kVnee dcnee pmnee annee cdnee ctnee) ["loop", "source"] ["source", "loop"] gK2 gK2V := ⟨fun s us ws _ hl => by
      match us, ws, hl with
      | [], [_, _], _ => exact .of_eq rfl, fun h1 h2 => gK2_rel h1 h2⟩
  have Fjar := fun_mk (st := sJar) ljar cjar kjar
  have bjar := Fjar.binds (ps := ["_law_script", "_law_k"]) fun _ _ _ _ _ _ us hl => match us, hl with | [_, _], _ => rfl
  have Frt := fun_mk (st := sRight) lrt crt krt
  have brt := Frt.binds (ps := ["_law_jar_here"]) fun _ _ _ _ _ _ us hl => match us, hl with | [_], _ => rfl
  have Flaw := fun_mk (st := sLaw) llaw claw klaw
  let R : TxR K mg := ⟨TJg, TCm, ⟨TC, TU, ⟨fsl, _, Fsl, bsl, PySem.W.mg_of X G asl, ksl⟩, ⟨fss, _, Fss, bss, PySem.W.mg_of X G ass, kss⟩⟩, rfl, rfl, (fun d => match d with | .none => nbLNoneType | .bool _ => nbLbool | .int _ => nbLint | .str _ => nbLstr | .list _ => nbLlist | .tuple _ => nbLtuple | .dict _ => nbLdict), (fun d => match d with | .none => nbUNoneType | .bool _ => nbUbool | .int _ => nbUint | .str _ => nbUstr | .list _ => nbUlist | .tuple _ => nbUtuple | .dict _ => nbUdict), kUL, kLU, TJ, PySem.W.mg_none_of X G z_repr, ⟨fsip, _, Fsip, bsip, PySem.W.mg_of X G asip, ksip⟩, ⟨ffrm, _, Ffrm, bfrm, PySem.W.mg_of X G afrm, kfrm⟩, fun b => (match b with | true => KA | false => KB), fun b => (match b with | true => KC | false => KD)⟩
  refine ⟨_, [(cR, PR)], spLaw K PR, fun p hp => ?_, fun p hp => ?_, fun p hp => ?_, fun s v => .of_eq rfl, fun H a ns hl hT hS => ?_, fun base _ _ sm hB => ok_law Flaw TJ (PySem.W.mg_none_of X G z_range) (PySem.W.mg_none_of X G z_all) 12 (ok_right Frt R rfl sm (hB (cR, PR) (List.mem_singleton.mpr rfl))) Fjar bjar (PySem.W.mg_of X G ajar) kjar (by decide) brt (PySem.W.mg_of X G art) krt (PySem.W.mg_none_of X G z_max) (PySem.W.mg_none_of X G z_min)⟩
  · cases List.mem_singleton.mp hp
    exact q5
  · cases List.mem_singleton.mp hp
    exact q4
  · cases List.mem_singleton.mp hp
    exact PySem.W.codeHd_of_K X q3
  · refine ⟨a, ns, rfl, hS, hl, fun p hp => ?_, fun _ => rfl⟩
    cases List.mem_singleton.mp hp
    exact LamX.TabS.nil (hT (cR, PR) (List.mem_singleton.mpr rfl))
end My
open PySem PySem.W PyProof.Rows in
set_option maxRecDepth 100000 in
set_option maxHeartbeats 0 in
theorem PySem.Challenge.cw_lastshort_k06_places_and_properties_refu_holds : PySem.Challenge.rw_lastshort_k06_places_and_properties_refu.Holds := by
  w_on; o_law; k_head; (case hw => w_witness2)
  k_fill
  refine Gd.walk_ofG (l := PySem.Challenge.rw_lastshort_k06_places_and_properties_refu) (n := 63) (k := 13) (x := "_law_script") rfl (by decide) rfl (by decide +kernel) ⟨rfl, by decide, by decide⟩ (fun w h Y => PySem.W.km_in_of Y) ?F
  case F =>
    intro w mg fa h Y KX G hmg
    refine' My.all_mk KX G hmg ?gT ?tT ?gR ?tR ?gE ?tE ?mB ?mMR ?mME ?awo ?lwo ?cwo ?kwo ?aoo ?loo ?coo ?koo ?aiw ?liw ?ciw ?kiw ?aaw ?law ?caw ?kaw ?air ?lir ?cir ?kir ?aie ?lie ?cie ?kie ?aCIT ?aIT ?iIT ?lIT ?cIT ?kIT ?xIT ?xrIT ?e1IT ?e2IT ?e3IT ?e4IT ?e5IT ?e6IT ?aCL ?pgL ?hdL ?poL ?saL ?mkL ?kcL ?nL0 ?nL1 ?nL2 ?nL3 ?nL4 ?ali ?ili ?lli ?cli ?kli ?aCIP ?aIP ?iIP ?lIP ?cIP ?kIP ?xIP ?xrIP ?e1IP ?e2IP ?e3IP ?e4IP ?e5IP ?e6IP ?aiib ?liib ?ciib ?kiib ?ato ?lto ?cto ?kto ?all ?ill ?lll ?cll ?kll ?ale ?ile ?lle ?cle ?kle ?als ?ils ?lls ?cls ?kls ?alr ?ilr ?llr ?clr ?klr ?alw ?ilw ?llw ?clw ?klw ?nb ?nne ?w1 ?w2 ?w3 ?w4 ?w5 ?gUA ?tUA ?gUP ?tUP ?gUE ?tUE ?ackw ?lckw ?cckw ?kckw ?aCU ?pgU ?hdU ?poU ?saU ?mkU ?kcU ?nU0 ?nU1 ?nU2 ?aui ?iui ?lui ?cui ?kui ?aur ?iur ?lur ?cur ?kur ?y1U ?y2U ?y3U ?y4U ?y5U ?aCNL ?aNL ?iNL ?lNL ?cNL ?kNL ?xNL ?xrNL ?e1NL ?e2NL ?e3NL ?e4NL ?e5NL ?e6NL ?aCNS ?aNS ?iNS ?lNS ?cNS ?kNS ?xNS ?xrNS ?e1NS ?e2NS ?e3NS ?e4NS ?e5NS ?e6NS ?aCIN ?aIN ?iIN ?lIN ?cIN ?kIN ?xIN ?xrIN ?e1IN ?e2IN ?e3IN ?e4IN ?e5IN ?e6IN ?ackl ?lckl ?cckl ?kckl ?acku ?lcku ?ccku ?kcku ?ackn ?lckn ?cckn ?kckn ?aalw ?lalw ?calw ?kalw ?aflt ?lflt ?cflt ?kflt ?afai ?lfai ?cfai ?kfai ?anee ?lnee ?cnee ?knee ?gNM ?tNM ?aCBInputError ?kAIN ?kBIN ?x7IN ?x8IN ?x9IN ?xAIN ?xBIN ?xg1 ?xg2 ?xCIN ?xxININ ?kAIP ?kBIP ?x7IP ?x8IP ?x9IP ?xAIP ?xBIP ?xCIP ?xxIPIN ?xxIPIP ?kANL ?kBNL ?x7NL ?x8NL ?x9NL ?xANL ?xBNL ?xCNL ?xxNLIN ?xxNLIP ?xxNLNL ?kANS ?kBNS ?x7NS ?x8NS ?x9NS ?xANS ?xBNS ?xCNS ?xxNSIN ?xxNSIP ?xxNSNL ?xxNSNS ?acm ?lcm ?ccm ?kcm ?asl ?lsl ?csl ?ksl ?ass ?lss ?css ?kss ?nbLNoneType ?nbLbool ?nbLint ?nbLstr ?nbLlist ?nbLtuple ?nbLdict ?nbUNoneType ?nbUbool ?nbUint ?nbUstr ?nbUlist ?nbUtuple ?nbUdict ?kUL ?kLU ?asip ?lsip ?csip ?ksip ?afrm ?lfrm ?cfrm ?kfrm ?ajar ?ljar ?cjar ?kjar ?art ?lrt ?crt ?krt ?alaw ?llaw ?claw ?klaw ?q1 ?q2 ?q3 ?q4 ?q5 ?z_tuple ?z_len ?z_all ?z_isinstance ?z_str ?z_int ?z_bool ?z_ValueError ?z_abs ?z_divmod ?z_repr ?z_range ?z_max ?z_min
    (case gT => k_is)
    (case tT => k_is)
    (case gR => k_is)
    (case tR => k_is)
    (case gE => k_is)
    (case tE => k_is)
    (case mB => k_is)
    (case mMR => k_is)
    (case mME => k_is)
    (case awo => k_is)
    (case lwo => k_is)
    (case cwo => k_is)
    (case kwo => k_is)
    (case aoo => k_is)
    (case loo => k_is)
    (case coo => k_is)
    (case koo => k_is)
    (case aiw => k_is)
    (case liw => k_is)
    (case ciw => k_is)
    (case kiw => k_is)
    (case aaw => k_is)
    (case law => k_is)
    (case caw => k_is)
    (case kaw => k_is)
    (case air => k_is)
    (case lir => k_is)
    (case cir => k_is)
    (case kir => k_is)
    (case aie => k_is)
    (case lie => k_is)
    (case cie => k_is)
    (case kie => k_is)
    (case aCIT => k_is)
    (case aIT => k_is)
    (case iIT => k_is)
    (case lIT => k_is)
    (case cIT => k_is)
    (case kIT => k_is)
    (case xIT => k_is)
    (case xrIT => decide +kernel)
    (case e1IT => k_is)
    (case e2IT => k_is)
    (case e3IT => k_is)
    (case e4IT => k_is)
    (case e5IT => k_is)
    (case e6IT => k_is)
    (case aCL => k_is)
    (case pgL => k_is)
    (case hdL => k_is)
    (case poL => k_is)
    (case saL => k_is)
    (case mkL => k_is)
    (case kcL => k_is)
    (case nL0 => k_is)
    (case nL1 => k_is)
    (case nL2 => k_is)
    (case nL3 => k_is)
    (case nL4 => k_is)
    (case ali => k_is)
    (case ili => k_is)
    (case lli => k_is)
    (case cli => k_is)
    (case kli => k_is)
    (case aCIP => k_is)
    (case aIP => k_is)
    (case iIP => k_is)
    (case lIP => k_is)
    (case cIP => k_is)
    (case kIP => k_is)
    (case xIP => k_is)
    (case xrIP => decide +kernel)
    (case e1IP => k_is)
    (case e2IP => k_is)
    (case e3IP => k_is)
    (case e4IP => k_is)
    (case e5IP => k_is)
    (case e6IP => k_is)
    (case aiib => k_is)
    (case liib => k_is)
    (case ciib => k_is)
    (case kiib => k_is)
    (case ato => k_is)
    (case lto => k_is)
    (case cto => k_is)
    (case kto => k_is)
    (case all => k_is)
    (case ill => k_is)
    (case lll => k_is)
    (case cll => k_is)
    (case kll => k_is)
    (case ale => k_is)
    (case ile => k_is)
    (case lle => k_is)
    (case cle => k_is)
    (case kle => k_is)
    (case als => k_is)
    (case ils => k_is)
    (case lls => k_is)
    (case cls => k_is)
    (case kls => k_is)
    (case alr => k_is)
    (case ilr => k_is)
    (case llr => k_is)
    (case clr => k_is)
    (case klr => k_is)
    (case alw => k_is)
    (case ilw => k_is)
    (case llw => k_is)
    (case clw => k_is)
    (case klw => k_is)
    (case nb => k_is)
    (case nne => k_is)
    (case w1 => k_is)
    (case w2 => k_is)
    (case w3 => k_is)
    (case w4 => k_is)
    (case w5 => kernel_rfl)
    (case gUA => k_is)
    (case tUA => k_is)
    (case gUP => k_is)
    (case tUP => k_is)
    (case gUE => k_is)
    (case tUE => k_is)
    (case ackw => k_is)
    (case lckw => k_is)
    (case cckw => k_is)
    (case kckw => k_is)
    (case aCU => k_is)
    (case pgU => k_is)
    (case hdU => k_is)
    (case poU => k_is)
    (case saU => k_is)
    (case mkU => k_is)
    (case kcU => k_is)
    (case nU0 => k_is)
    (case nU1 => k_is)
    (case nU2 => k_is)
    (case aui => k_is)
    (case iui => k_is)
    (case lui => k_is)
    (case cui => k_is)
    (case kui => k_is)
    (case aur => k_is)
    (case iur => k_is)
    (case lur => k_is)
    (case cur => k_is)
    (case kur => k_is)
    (case y1U => k_is)
    (case y2U => k_is)
    (case y3U => k_is)
    (case y4U => k_is)
    (case y5U => kernel_rfl)
    (case aCNL => k_is)
    (case aNL => k_is)
    (case iNL => k_is)
    (case lNL => k_is)
    (case cNL => k_is)
    (case kNL => k_is)
    (case xNL => k_is)
    (case xrNL => decide +kernel)
    (case e1NL => k_is)
    (case e2NL => k_is)
    (case e3NL => k_is)
    (case e4NL => k_is)
    (case e5NL => k_is)
    (case e6NL => k_is)
    (case aCNS => k_is)
    (case aNS => k_is)
    (case iNS => k_is)
    (case lNS => k_is)
    (case cNS => k_is)
    (case kNS => k_is)
    (case xNS => k_is)
    (case xrNS => decide +kernel)
    (case e1NS => k_is)
    (case e2NS => k_is)
    (case e3NS => k_is)
    (case e4NS => k_is)
    (case e5NS => k_is)
    (case e6NS => k_is)
    (case aCIN => k_is)
    (case aIN => k_is)
    (case iIN => k_is)
    (case lIN => k_is)
    (case cIN => k_is)
    (case kIN => k_is)
    (case xIN => k_is)
    (case xrIN => decide +kernel)
    (case e1IN => k_is)
    (case e2IN => k_is)
    (case e3IN => k_is)
    (case e4IN => k_is)
    (case e5IN => k_is)
    (case e6IN => k_is)
    (case ackl => k_is)
    (case lckl => k_is)
    (case cckl => k_is)
    (case kckl => k_is)
    (case acku => k_is)
    (case lcku => k_is)
    (case ccku => k_is)
    (case kcku => k_is)
    (case ackn => k_is)
    (case lckn => k_is)
    (case cckn => k_is)
    (case kckn => k_is)
    (case aalw => k_is)
    (case lalw => k_is)
    (case calw => k_is)
    (case kalw => k_is)
    (case aflt => k_is)
    (case lflt => k_is)
    (case cflt => k_is)
    (case kflt => k_is)
    (case afai => k_is)
    (case lfai => k_is)
    (case cfai => k_is)
    (case kfai => k_is)
    (case anee => k_is)
    (case lnee => k_is)
    (case cnee => k_is)
    (case knee => k_is)
    (case gNM => k_is)
    (case tNM => k_is)
    (case aCBInputError => k_is)
    (case kAIN => kernel_rfl)
    (case kBIN => kernel_rfl)
    (case x7IN => k_is)
    (case x8IN => k_is)
    (case x9IN => k_is)
    (case xAIN => kernel_rfl)
    (case xBIN => k_is)
    (case xg1 => k_is)
    (case xg2 => k_is)
    (case xCIN => k_is)
    (case xxININ => kernel_rfl)
    (case kAIP => kernel_rfl)
    (case kBIP => kernel_rfl)
    (case x7IP => k_is)
    (case x8IP => k_is)
    (case x9IP => k_is)
    (case xAIP => kernel_rfl)
    (case xBIP => k_is)
    (case xCIP => k_is)
    (case xxIPIN => kernel_rfl)
    (case xxIPIP => kernel_rfl)
    (case kANL => kernel_rfl)
    (case kBNL => kernel_rfl)
    (case x7NL => k_is)
    (case x8NL => k_is)
    (case x9NL => k_is)
    (case xANL => kernel_rfl)
    (case xBNL => k_is)
    (case xCNL => k_is)
    (case xxNLIN => kernel_rfl)
    (case xxNLIP => kernel_rfl)
    (case xxNLNL => kernel_rfl)
    (case kANS => kernel_rfl)
    (case kBNS => kernel_rfl)
    (case x7NS => k_is)
    (case x8NS => k_is)
    (case x9NS => k_is)
    (case xANS => kernel_rfl)
    (case xBNS => k_is)
    (case xCNS => k_is)
    (case xxNSIN => kernel_rfl)
    (case xxNSIP => kernel_rfl)
    (case xxNSNL => kernel_rfl)
    (case xxNSNS => kernel_rfl)
    (case acm => k_is)
    (case lcm => k_is)
    (case ccm => k_is)
    (case kcm => k_is)
    (case asl => k_is)
    (case lsl => k_is)
    (case csl => k_is)
    (case ksl => k_is)
    (case ass => k_is)
    (case lss => k_is)
    (case css => k_is)
    (case kss => k_is)
    (case nbLNoneType => kernel_rfl)
    (case nbLbool => kernel_rfl)
    (case nbLint => kernel_rfl)
    (case nbLstr => kernel_rfl)
    (case nbLlist => kernel_rfl)
    (case nbLtuple => kernel_rfl)
    (case nbLdict => kernel_rfl)
    (case nbUNoneType => kernel_rfl)
    (case nbUbool => kernel_rfl)
    (case nbUint => kernel_rfl)
    (case nbUstr => kernel_rfl)
    (case nbUlist => kernel_rfl)
    (case nbUtuple => kernel_rfl)
    (case nbUdict => kernel_rfl)
    (case kUL => kernel_rfl)
    (case kLU => kernel_rfl)
    (case asip => k_is)
    (case lsip => k_is)
    (case csip => k_is)
    (case ksip => k_is)
    (case afrm => k_is)
    (case lfrm => k_is)
    (case cfrm => k_is)
    (case kfrm => k_is)
    (case ajar => k_is)
    (case ljar => k_is)
    (case cjar => k_is)
    (case kjar => k_is)
    (case art => k_is)
    (case lrt => k_is)
    (case crt => k_is)
    (case krt => k_is)
    (case alaw => k_is)
    (case llaw => k_is)
    (case claw => k_is)
    (case klaw => k_is)
    (case q1 => k_is)
    (case q2 => rfl)
    (case q3 => kernel_rfl)
    (case q4 => kernel_rfl)
    (case q5 => exact PySem.W.km_tabs_of Y _ (by decide))
    (case z_tuple => k_is)
    (case z_len => k_is)
    (case z_all => k_is)
    (case z_isinstance => k_is)
    (case z_str => k_is)
    (case z_int => k_is)
    (case z_bool => k_is)
    (case z_ValueError => k_is)
    (case z_abs => k_is)
    (case z_divmod => k_is)
    (case z_repr => k_is)
    (case z_range => k_is)
    (case z_max => k_is)
    (case z_min => k_is)
