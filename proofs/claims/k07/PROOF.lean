import PyProof.Rows.All
import Wide.All
import OpenK.AllK
import Wide.FinOn
import HandS.ForMost
import HandS.Codes
import HandS.ExcInit
import HandS.ExcField
import HandS.ExcValue
import HandS.MakeKwOnly
import KE.KExcIs
import PyProof.ReprRoads
import HandS.Lambda
import HandS.SetFor
import PySem.Challenge.RW_lastshort_k07_errors_and_limits
set_option Elab.async false
set_option linter.all false
set_option maxRecDepth 100000
set_option maxHeartbeats 8000000
/-! the draws of the law: jar, sip, from -/
namespace My
open PySem L2
def top (i : Nat) : Stmt := PySem.Challenge.pw_lastshort_k07_errors_and_limits.main.body.getD i (.Pass ⟨0, 0, 0, 0⟩)
abbrev sJar : Stmt := top 30
abbrev sSip : Stmt := top 31
abbrev sFrom : Stmt := top 32
/-! ### heaps -/
/-- all but what stands at j is as it was -/
def Off (j : Addr) (H H' : Hp) : Prop := ∀ b o, b ≠ j → H b = some o → H' b = some o
theorem Off.refl {j : Addr} {H : Hp} : Off j H H := fun _ _ _ e => e
theorem Off.trans {j : Addr} {H H1 H2 : Hp} (a : Off j H H1) (b : Off j H1 H2) : Off j H H2 := fun c o n e => b c o n (a c o n e)
theorem Off.new {j p : Addr} {H H1 : Hp} {o : HO} (a : Off j H H1) (n : H1 p = none) : Off j H (upd H1 p o) := fun b u nb e => by
  rw [upd_ne (ne_of_none (a b u nb e) n)]
  exact a b u nb e
theorem Off.put {j : Addr} {H H1 : Hp} {o : HO} (a : Off j H H1) : Off j H (upd H1 j o) := fun b u nb e => by
  rw [upd_ne nb]
  exact a b u nb e
theorem Off.seq {K : PySem.W.Frag} {j a : Addr} {H H' : Hp} {xs : List V} (e : Off j H H') (n : a ≠ j) (h : SqL K H a xs) : SqL K H' a xs := by
  rcases h with (h | ⟨o, h⟩) | h
  · exact .inl (.inl (e _ _ n h))
  · exact .inl (.inr ⟨o, e _ _ n h⟩)
  · exact .inr h
theorem Off.set {K : PySem.W.Frag} {j a : Addr} {H H' : Hp} {xs : List V} (e : Off j H H') (n : a ≠ j) (h : SqT K H a xs) : SqT K H' a xs := by
  rcases h with (h | ⟨o, h⟩) | h
  · exact .inl (.inl (e _ _ n h))
  · exact .inl (.inr ⟨o, e _ _ n h⟩)
  · exact .inr h
theorem Off.same {j : Addr} {H0 H H' : Hp} (e : Off j H H') (s : Same H0 H) (n : H0 j = none) : Same H0 H' := fun b o q => e b o (fun z => by rw [z, n] at q; cases q) (s b o q)
theorem same_upd {H : Hp} {p : Addr} {o : HO} (h : H p = none) : Same H (upd H p o) := fun b x e => by
  rw [upd_ne (ne_of_none e h)]
  exact e
theorem Same.off {j : Addr} {H H' : Hp} (s : Same H H') : Off j H H' := fun b o _ e => s b o e
/-- a jar: three whole numbers -/
def Jar (H : Hp) (j : Addr) : Prop := ∃ a b c : Int, H j = some (.lst [.int a, .int b, .int c])
theorem Jar.new {H : Hp} {j p : Addr} {o : HO} (a : Jar H j) (n : H p = none) : Jar (upd H p o) j := by
  obtain ⟨x, y, z, h⟩ := a
  exact ⟨x, y, z, by rw [upd_ne (ne_of_none h n)]; exact h⟩
theorem Jar.same {H H' : Hp} {j : Addr} (a : Jar H j) (s : Same H H') : Jar H' j := by
  obtain ⟨x, y, z, h⟩ := a
  exact ⟨x, y, z, s _ _ h⟩
/-! ### promises -/
def spSip : Sp := fun vs H Q _ => ∃ (j : Addr) (m : Int), vs = [.ref j, .int m] ∧ Jar H j ∧ 0 < m ∧ m < 1073741824 ∧
  ∀ (H' : Hp) (d : Int), 0 ≤ d → d < m → Off j H H' → Jar H' j → Q (.int d) H'
def spFrom (K : PySem.W.Frag) : Sp := fun vs H Q _ => ∃ (j p : Addr) (xs : List V), vs = [.ref j, .ref p] ∧ Jar H j ∧ p ≠ j ∧ SqL K H p xs ∧ 0 < xs.length ∧ xs.length < 1073741824 ∧
  ∀ (H' : Hp) (i : Nat) (x : V), xs[i]? = some x → Off j H H' → Jar H' j → Q x H'
def spJar (K : PySem.W.Frag) : Sp := fun vs H Q _ => ∃ (a : Addr) (ns : List Int) (k : Nat), vs = [.ref a, .int k] ∧ SqL K H a (ns.map V.int) ∧ ns.length ≤ 63 ∧
  ∀ (H' : Hp) (j : Addr), Same H H' → H j = none → Jar H' j → Q (.ref j) H'
/-- the built-ins of the draws are still the built-ins -/
structure TxtJ (mg : Str → Option Value) : Prop where
  len : mg "len" = none
  int : mg "int" = none
  abs : mg "abs" = none
  divmod : mg "divmod" = none
section
variable {P : Program} {w : World} {K : PySem.W.Frag} {mg : Str → Option Value} {base : Heap}
theorem scSip : FnScope ["_law_jar_here", "_law_many", "_law_digit"] ["_law_jar_here", "_law_many"] (defScope sSip) := ⟨rfl, rfl, rfl, by decide +kernel, rfl, by decide +kernel, by decide +kernel⟩
theorem ok_sip {f : Addr} {fd : FuncData} (F : Fun K "_law_sip" "_law_sip" sSip f fd) (T : TxtJ mg) : FnOk P w K mg base CX0 1 f fd ["_law_jar_here", "_law_many"] spSip := by
  refine F.ok scSip (fun vs H Q E h => ?_) (fun cdv A outer s H vs Q E hr h => ?_)
  · obtain ⟨j, m, rfl, _⟩ := h
    rfl
  · obtain ⟨j, m, rfl, ⟨a, b, c, hj⟩, m0, m1, k⟩ := h
    refine ⟨_, pss_cons (ps_asg (pe_op op_add (pe_ix ix_list (pv 0) pe_int (fun _ _ => rfl)) pe_int) (pg_sub (pv 0) pe_int set_list))
      (pss_cons (ps_if (pt_cmpR op_gt (pe_ix ix_list (pv 0) pe_int (fun _ _ => rfl)) pe_int (nomark _))
        (pss_cons (ps_asg (pe_callB call_divmod (by rfl) T.divmod (by decide +kernel) (pa_cons (pe_callTy call_int1 (by rfl) T.int (by decide +kernel) (pa_cons (pe_ix ix_list (pv 0) pe_int (fun _ _ => rfl)) pa_nil)) (pa_cons (pv 1) pa_nil)))
            (pg_tup (by rfl) (pgs_cons (pg_sub (pv 0) pe_int set_list) (pgs_cons (pg_name (i := 2) scSip.nd rfl (.inl rfl)) pgs_nil))))
          (pss_one (ps_ret (pv 2)))) pss_nil)
      (pss_cons (ps_asg (pe_op op_mod (pe_callTy call_int1 (by rfl) T.int (by decide +kernel) (pa_cons (pe_op op_add (pe_op op_add (pe_op op_mul (pe_ix ix_list (pv 0) pe_int (fun _ _ => rfl)) pe_int) (pe_op op_mul (pe_ix ix_list (pv 0) pe_int (fun _ _ => rfl)) pe_int))
            (pe_op op_mul (pe_op op_fdiv (pe_ix ix_list (pv 0) pe_int (fun _ _ => rfl)) pe_int) pe_int)) pa_nil)) pe_int) (pg_sub (pv 0) pe_int set_list))
      (pss_one (ps_ret (pe_op op_mod (pe_callTy call_int1 (by rfl) T.int (by decide +kernel) (pa_cons (pe_op op_fdiv (pe_ix ix_list (pv 0) pe_int (fun _ _ => rfl)) pe_int) pa_nil)) (pv 1)))))), ?_⟩
    -- jar[2] = jar[2] + 1
    refine ⟨_, rfl, j, _, 2, _, rfl, rfl, SqL.of hj, rfl, _, _, rfl, rfl, _, rfl, j, _, 2, 2, rfl, rfl, hj, rfl, ?_⟩
    -- if jar[0] > 0
    refine ⟨_, rfl, j, _, 0, _, rfl, rfl, SqL.of upd_same, rfl, _, _, rfl, rfl, _, rfl, ?_⟩
    have o1 : Off j H (upd H j (.lst [.int a, .int b, .int (c + 1)])) := Off.put Off.refl
    refine ite2 (fun _ => ?_) (fun _ => ?_)
    · refine ⟨_, rfl, j, _, 0, _, rfl, rfl, SqL.of upd_same, rfl, .inl ⟨_, rfl, _, rfl, a, m, rfl, ⟨m0, m1⟩, fun p np => ?_⟩⟩
      have npj : p ≠ j := fun e => by
        rw [e, upd_same] at np
        cases np
      refine ⟨p, _, rfl, SqT.of upd_same, rfl, _, _, rfl, _, rfl, j, _, 0, 0, rfl, rfl, (by rw [upd_ne npj.symm]; exact upd_same), rfl, _, _, rfl, rfl, ?_⟩
      refine ⟨_, rfl, ?_⟩
      exact k _ _ (Int.emod_nonneg _ (by omega)) (Int.emod_lt_of_pos _ m0) (Off.put (Off.new o1 np)) ⟨_, _, _, upd_same⟩
    · refine ⟨_, rfl, j, _, 1, _, rfl, rfl, SqL.of upd_same, rfl, _, _, rfl, rfl, .inr (by decide), ?_⟩
      refine ⟨_, rfl, j, _, 2, _, rfl, rfl, SqL.of upd_same, rfl, _, _, rfl, rfl, .inr (by decide), _, _, rfl, rfl, ?_⟩
      refine ⟨_, rfl, j, _, 1, _, rfl, rfl, SqL.of upd_same, rfl, _, _, rfl, rfl, ⟨by decide, by decide⟩, _, _, rfl, rfl, .inr (by decide), _, _, rfl, rfl, .inl ⟨_, rfl, _, _, rfl, rfl, (by show (0 : Int) < 1999999927; decide), ?_⟩⟩
      refine ⟨_, rfl, j, _, 1, 1, rfl, rfl, upd_same, rfl, ?_⟩
      refine ⟨_, rfl, j, _, 1, _, rfl, rfl, SqL.of upd_same, rfl, _, _, rfl, rfl, ⟨by decide, by decide⟩, .inl ⟨_, rfl, _, rfl, _, _, rfl, rfl, m0, ?_⟩⟩
      exact k _ _ (Int.emod_nonneg _ (by omega)) (Int.emod_lt_of_pos _ m0) (Off.put o1) ⟨_, _, _, upd_same⟩

/-! ### from -/
structure TxtS (K : PySem.W.Frag) (mg : Str → Option Value) (fS : Addr) : Prop where
  g : mg "_law_sip" = some (.ref fS)
  k : PySem.W.keepIn K (.ref fS) = true
theorem scFrom : FnScope ["_law_jar_here", "_law_things"] ["_law_jar_here", "_law_things"] (defScope sFrom) := ⟨rfl, rfl, rfl, by decide +kernel, rfl, by decide +kernel, by decide +kernel⟩
theorem ok_from {f fS : Addr} {fd fdS : FuncData} (F : Fun K "_law_from" "_law_from" sFrom f fd) (T : TxtJ mg) (S : TxtS K mg fS) (FS : Fun K "_law_sip" "_law_sip" sSip fS fdS) (bS : Binds K fdS ["_law_jar_here", "_law_many"] []) :
    FnOk P w K mg base CX0 2 f fd ["_law_jar_here", "_law_things"] (spFrom K) := by
  have GS : FnOk P w K mg base CX0 1 fS fdS ["_law_jar_here", "_law_many"] spSip := ok_sip FS T
  refine F.ok scFrom (fun vs H Q E h => ?_) (fun cdv A outer s H vs Q E hr h => ?_)
  · obtain ⟨j, p, xs, rfl, _⟩ := h
    rfl
  · obtain ⟨j, p, xs, rfl, hJ, npj, hS, l0, l1, k⟩ := h
    refine ⟨_, pss_one (ps_ret (pe_ix ix_list (pv 1) (pe_call GS hr rfl S.g S.k bS .nil pass0 (pa_cons (pv 0) (pa_cons (pe_callB call_len_seq (by rfl) T.len PySem.boot_len (pa_cons (pv 1) pa_nil)) pa_nil))) (fun _ _ => rfl))), ?_⟩
    refine ⟨_, rfl, _, rfl, _, rfl, p, xs, rfl, .inl hS, j, _, rfl, hJ, by omega, by omega, fun H' d d0 d1 o J => ?_⟩
    obtain ⟨n, rfl⟩ := Int.eq_ofNat_of_zero_le d0
    have hn : n < xs.length := by omega
    exact ⟨p, xs, _, xs[n], rfl, rfl, o.seq npj hS, atI_nat (List.getElem?_eq_getElem hn), k H' n _ (List.getElem?_eq_getElem hn) o J⟩
/-! ### jar -/
theorem scJar : FnScope ["_law_script", "_law_k", "_law_own", "_law_mixed", "_law_entry"] ["_law_script", "_law_k"] (defScope sJar) := ⟨rfl, rfl, rfl, by decide +kernel, rfl, by decide +kernel, by decide +kernel⟩
theorem int_of_map {ns : List Int} {i : Nat} {y : V} (h : (ns.map V.int)[i]? = some y) : ∃ u, y = V.int u := by
  rw [List.getElem?_map] at h
  cases e : ns[i]? with
  | none =>
    rw [e] at h
    cases h
  | some u =>
    rw [e] at h
    exact ⟨u, (Option.some.inj h).symm⟩
theorem cut_map (ns : List Int) (lo hi : Option Int) : ∃ ms : List Int, cutV (ns.map V.int) lo hi = ms.map V.int :=
  ⟨(ns.drop (HT.sIx (ns.map V.int).length 0 lo)).take (HT.sIx (ns.map V.int).length (ns.map V.int).length hi - HT.sIx (ns.map V.int).length 0 lo), by
    unfold cutV
    rw [List.map_take, List.map_drop]⟩
theorem ok_jar {f : Addr} {fd : FuncData} (F : Fun K "_law_jar" "_law_jar" sJar f fd) (T : TxtJ mg) : FnOk P w K mg base CX0 1 f fd ["_law_script", "_law_k"] (spJar K) := by
  refine F.ok scJar (fun vs H Q E h => ?_) (fun cdv A outer s H vs Q E hr h => ?_)
  · obtain ⟨a, ns, k, rfl, _⟩ := h
    rfl
  · obtain ⟨a, ns, k, rfl, hS, hl, q⟩ := h
    refine ⟨_, C8.pss_cut (ps_set (i := 2) scJar.nd rfl (.inl rfl) (pe_ifExp (pt_cmpR op_lt (pv 1) (pe_callB call_len_seq (by rfl) T.len PySem.boot_len (pa_cons (pv 0) pa_nil)) (nomark _))
          (pe_callTy call_int1 (by rfl) T.int (by decide +kernel) (pa_cons (pe_ix ix_list (pv 0) (pv 1) (fun _ _ => rfl)) pa_nil)) (pe_op op_add (pe_op op_mul pe_int (pv 1)) pe_int)))
      (pss_cons (ps_set (i := 3) scJar.nd rfl (.inl rfl) (pe_op op_add pe_int (pe_op op_mul pe_int (pv 1))))
      (pss_cons (ps_for PassesOwn.never rfl (pi_list (pe_slice sl_list (pv 0) po_none (po_some pe_int))) (pg_name (i := 4) scJar.nd rfl (.inl rfl))
        (pss_one (ps_set (i := 3) scJar.nd rfl (.inl rfl) (pe_op op_mod (pe_callTy call_int1 (by rfl) T.int (by decide +kernel) (pa_cons (pe_op op_add (pe_op op_mul (pv 3) pe_int) (pe_op op_mod (pe_callTy call_int1 (by rfl) T.int (by decide +kernel) (pa_cons (pv 4) pa_nil)) pe_int)) pa_nil)) pe_int))))
      (pss_one (ps_ret (pe_lst (pa_cons (pe_ifExp (PW.pt (pw_or (pt_cmpR op_lt (pv 2) pe_int (nomark _)) (pw_or1 (pt_cmpR op_ge (pv 2) (pe_op op_pow pe_int pe_int) (nomark _))))) (pe_callB call_abs (by rfl) T.abs (by decide +kernel) (pa_cons (pv 2) pa_nil)) pe_int)
        (pa_cons (pe_op op_mod (pe_callTy call_int1 (by rfl) T.int (by decide +kernel) (pa_cons (pe_op op_add (pe_op op_mul (pv 3) pe_int) (pe_op op_mod (pv 2) pe_int)) pa_nil)) pe_int) (pa_cons pe_int pa_nil)))))))), ?_⟩
    refine ⟨fun σ H' => H = H' ∧ ∃ own : Int, σ = [some (.ref a), some (.int k), some (.int own), none, none], ?_, ?_⟩
    · refine ⟨_, rfl, _, rfl, a, _, rfl, .inl hS, _, _, rfl, rfl, _, rfl, ?_⟩
      refine ite2 (fun c => ?_) (fun c => ?_)
      · have hk : k < ns.length := by
          have c' := of_decide_eq_true c
          rw [List.length_map] at c'
          omega
        exact ⟨_, rfl, _, rfl, a, _, _, .int ns[k], rfl, rfl, hS, atI_nat (by rw [List.getElem?_map, List.getElem?_eq_getElem hk]; rfl), .inl ⟨_, rfl, rfl, _, rfl⟩⟩
      · exact ⟨_, rfl, _, _, rfl, rfl, .inl (by decide), _, _, rfl, rfl, rfl, _, rfl⟩
    · rintro _ _ ⟨rfl, own, rfl⟩
      refine ⟨_, rfl, _, _, rfl, rfl, .inl (by decide), _, _, rfl, rfl, ?_⟩
      refine ⟨_, rfl, 13, rfl, a, _, rfl, hS, fun p np => ?_⟩
      obtain ⟨ms, ems⟩ := cut_map ns none (some 13)
      rw [ems]
      refine ⟨p, rfl, ⟨_, SqL.of upd_same⟩, for_list (K := K) (a := p) (xs := ms.map V.int) (fun i σ H' => ∃ (mx : Int) (v : Option V), σ = [some (.ref a), some (.int k), some (.int own), some (.int mx), v] ∧ H' = upd H p (.lst (ms.map V.int)))
        ⟨_, none, rfl, rfl⟩ (fun i σ H' _ ⟨_, _, _, e⟩ => by rw [e]; exact SqL.of upd_same) ?_ ?_⟩
      · rintro i y σ H' hi ⟨mx, v, rfl, rfl⟩
        obtain ⟨u, rfl⟩ := int_of_map hi
        refine ⟨_, rfl, _, _, rfl, rfl, .inr (by decide), ?_⟩
        refine ⟨_, rfl, .inl ⟨_, rfl, _, _, rfl, rfl, (by show (0 : Int) < 1999999927; decide), _, _, rfl, rfl, .inl ⟨_, rfl, _, _, rfl, rfl, (by show (0 : Int) < 1999999927; decide), ?_⟩⟩⟩
        exact ⟨_, _, rfl, rfl⟩
      · rintro σ H' ⟨mx, v, rfl, rfl⟩
        have fin : ∀ (x : Int), tCons (tOp (rI (fun x j => 0 < j) fun i j => V.int (i % j)) (tCB (fun xs H Q => (∃ i, xs = [V.int i] ∧ Q (V.int i) H) ∨ ∃ k, xs = [V.bl k] ∧ Q (V.int (if k = true then 1 else 0)) H)
            (tCons (tOp (rI0 fun i j => V.int (i + j)) (tOp (rI CMul fun i j => V.int (i * j)) (tVar 3) (tC (V.int 5))) (tOp (rI (fun x j => 0 < j) fun i j => V.int (i % j)) (tVar 2) (tC (V.int 1999999927)))) tNil)) (tC (V.int 1999999927)))
          (tCons (tC (V.int 0)) tNil) [some (.ref a), some (.int k), some (.int own), some (.int mx), v] (upd H p (.lst (ms.map V.int))) (fun xs H1 => (V.int x :: xs).length ≤ sizeLine ∧ ∀ p, H1 p = none → Q (.ref p) (upd H1 p (.lst (V.int x :: xs)))) := by
          intro x
          refine ⟨_, rfl, _, _, rfl, rfl, .inr (by decide), _, rfl, _, _, rfl, rfl, (by show (0 : Int) < 1999999927; decide), _, _, rfl, rfl, .inl ⟨_, rfl, _, _, rfl, rfl, (by show (0 : Int) < 1999999927; decide), ?_⟩⟩
          refine ⟨(by show 3 ≤ sizeLine; decide), fun jj nj => ?_⟩
          exact q _ jj (Same.trans (same_upd np) (same_upd nj)) ((same_upd np).free nj) ⟨_, _, _, upd_same⟩
        refine ⟨_, rfl, _, _, rfl, rfl, _, rfl, ?_⟩
        refine ite2 (fun _ => ?_) (fun _ => ?_)
        · refine iteT ?_
          exact ⟨_, rfl, _, rfl, fin _⟩
        · refine ⟨_, rfl, _, _, rfl, rfl, ⟨by decide, by decide, by decide⟩, _, _, rfl, rfl, _, rfl, ?_⟩
          refine ite2 (fun _ => ?_) (fun _ => ?_)
          · exact ⟨_, rfl, _, rfl, fin _⟩
          · exact fin _
end
end My

/-! own exceptions as values: made by position and by keyword, read, asked for their classes -/
namespace ExV
open PySem PySem.W PySem.Calls PyProof.Rows PySem.HandSPX Builtin
section
variable {prog : Program} {w : World} {A : Around} {Er : Value → Shared → Prop} {R : Result → Shared → Prop} {hp : Heap} {g : Array GenState} {dr : Drawn} {tk : Nat} {os : OsState}
variable {nm q : Str} {C N : Addr} {bs bm tail : List Value} {hasD : Bool} {sn : List Str} {sub : List Value} {ab : Bool} {col : Option Bool} {dd : Option Addr} {k0 k1 k2 k3 k5 : Option Value} {B nId iId : String} {kw : List (Str × Value)}
theorem chkK {M : Model} {Q : Unit → Shared → Prop} (F : ExcBaseFacts B nId iId tail) (same : ∀ Y : String, bm.contains (.type Y) = tail.contains (.type Y)) (atC : hp.get? C = some (excClassObj nm q C N bs bm hasD sn sub ab col dd k0 k1 k2 k3 k5 nId)) (hq : Q () ⟨hp, g, dr, tk, os⟩) :
    wpAny M A (checkBuiltinCall nId ⟨[.ref C], kw⟩) Q Er ⟨hp, g, dr, tk, os⟩ := by
  have inB : (Value.ref C :: bm).contains (.type B) = true := by
    rw [List.contains_cons, same, F.hasB]
    simp
  have noS := F.noStar
  unfold checkBuiltinCall
  simp only [F.newKind, F.newSplit, F.newRow]
  repeat (first | refine wpAny_loadPart_at atC ?_ | (refine wpAny_isSubtype_exc atC ?_; rw [inB]) | refine wpAny_staticBase_exc atC ?_ | refine wpAny_madeBy_exc atC ?_ | simp only [bne_self_eq_false, Bool.false_eq_true, if_false] | wp_step)
  exact hq
theorem newK (F : ExcBaseFacts B nId iId tail) (same : ∀ Y : String, bm.contains (.type Y) = tail.contains (.type Y)) (atC : hp.get? C = some (excClassObj nm q C N bs bm hasD sn sub ab col dd k0 k1 k2 k3 k5 nId))
    (hq : R (.ok (.ret (.ref (hp.objs.size + 1)))) ⟨(hp.push (kdv_tup [])).push (excO C hp.objs.size), g, dr, tk, os⟩) : codeAny (model prog w) A (.builtin nId ⟨[.ref C], kw⟩) R ⟨hp, g, dr, tk, os⟩ := by
  have ends := F.ends
  have inB : (Value.ref C :: bm).contains (.type B) = true := by
    rw [List.contains_cons, same, F.hasB]
    simp
  have inA : (Value.ref C :: bm).contains (.type "AttributeError") = false := by
    rw [List.contains_cons, same, F.noAttr]
    rfl
  have inN : (Value.ref C :: bm).contains (.type "NameError") = false := by
    rw [List.contains_cons, same, F.noName]
    rfl
  have few : ([] : List Value).length ≤ sizeLine := Nat.zero_le _
  refine codeAny_builtinAt F.entry ?_
  unfold Builtin.«BaseException.__new__»
  refine PySem.wpAt_bind ?_
  show PySem.wpAt _ _ _ (stack >>= _) _ _ _
  refine PySem.wpAt_bind (PySem.wpAt_stack fun p below => PySem.wpAt_of_wpAny ?_)
  wp_walk
  refine PySem.wpAt_of_wpAny ?_
  rw [F.owner]
  repeat (first | with_reducible refine wpAny_madeHere_exc F.canon atC ?_ | with_reducible refine wpAny_loadPart_at atC ?_ | (with_reducible refine wpAny_isSubtype_exc atC ?_; first | rw [inB] | rw [inA] | rw [inN]) | wp_step)
  show R _ _
  rw [Heap.size_push]
  exact hq
theorem typeK {fI : Addr} {Q : Fin → Shared → Prop} (F : ExcBaseFacts B nId iId tail) (same : ∀ Y : String, bm.contains (.type Y) = tail.contains (.type Y)) (atC : hp.get? C = some (excClassObj nm q C N bs bm hasD sn sub ab col dd k0 k1 k2 k3 k5 nId))
    (find : Looks (model prog w) hp (typeLookup (.ref C) "__init__") (some (.ref fI))) (bind : ∀ self, Looks (model prog w) hp (bindSpecial (.ref fI) self) (.ref fI, [self]))
    (hq : codeAny (model prog w) A (.call (.ref fI) ⟨[.ref (hp.objs.size + 1)], kw⟩) (fun r s' => match r with | .ok (.ret v) => v = .none ∧ Q (.done (.ret (.ref (hp.objs.size + 1)))) s' | .ok _ => False | .error e => Er e s')
      ⟨(hp.push (kdv_tup [])).push (excO C hp.objs.size), g, dr, tk, os⟩) : wpAny (model prog w) A (Builtin.«type.__call__» ⟨[.ref C], kw⟩) Q Er ⟨hp, g, dr, tk, os⟩ := by
  repeat (first | with_reducible refine wpAny_loadPart_at atC ?_ | with_reducible refine wpAny_madeBy_exc atC ?_ | wp_step)
  refine codeAny_call_builtin_code (Code.quiet_builtin _ F.quiet) (chkK F same atC ?_)
  refine newK F same atC ?_
  show wpAny _ _ _ _ _ _
  have stay : ∀ b o, hp.get? b = some o → ((hp.push (kdv_tup [])).push (excO C hp.objs.size)).get? b = some o := fun b o e => Heap.get?_push_of_some _ (Heap.get?_push_of_some _ e)
  have atC1 := stay _ _ atC
  have new : ((hp.push (kdv_tup [])).push (excO C hp.objs.size)).get? (hp.objs.size + 1) = some (excO C hp.objs.size) := by heap_get
  have itself : (Value.ref C :: bm).contains (.ref C) = true := by simp
  have f1 := find.keeps stay
  have b1 := (bind (.ref (hp.objs.size + 1))).keeps stay
  unfold isInstance
  repeat (first | with_reducible refine wpAny_loadPart_at new ?_ | (with_reducible refine wpAny_isSubtype_exc atC1 ?_; rw [itself]) | wp_step)
  show wpAny _ _ (typeLookup (.ref C) _) _ _ _
  refine f1.at ?_
  refine wpAny_holding (wpAny_bind (b1.at ?_))
  refine wpAny_bind (wpAny_call (codeAny_mono hq fun r s' z => ?_))
  rcases r with e | (v | _ | _ | _) <;> first | exact z | exact z.elim | skip
  obtain ⟨rfl, z⟩ := z
  first
    | exact wpAny_pure (wpAny_pure z)
    | (wp_walk; exact z)
theorem callK {fI : Addr} (F : ExcBaseFacts B nId iId tail) (same : ∀ Y : String, bm.contains (.type Y) = tail.contains (.type Y)) (atC : hp.get? C = some (excClassObj nm q C N bs bm hasD sn sub ab col dd k0 k1 k2 k3 k5 nId))
    (find : Looks (model prog w) hp (typeLookup (.ref C) "__init__") (some (.ref fI))) (bind : ∀ self, Looks (model prog w) hp (bindSpecial (.ref fI) self) (.ref fI, [self]))
    (hq : codeAny (model prog w) (A.under (.builtin "type.__call__" ⟨[.ref C], kw⟩)) (.call (.ref fI) ⟨[.ref (hp.objs.size + 1)], kw⟩) (InitBack (hp.objs.size + 1) R) ⟨(hp.push (kdv_tup [])).push (excO C hp.objs.size), g, dr, tk, os⟩) :
    codeAny (model prog w) A (.call (.ref C) ⟨[], kw⟩) R ⟨hp, g, dr, tk, os⟩ := by
  have f1 := tc_lookup
  have f2 := tc_bind (.ref C)
  have isTy : (⟨hp, g, dr, tk, os⟩ : Shared).TypeIs (.ref C) "type" := ⟨_, atC, rfl⟩
  refine codeAny_of_tree ?_
  show wpAny _ _ (callAny (.ref C) _) _ _ _
  repeat (any_goals (first | assumption | with_reducible refine wpAny_loadPart_at atC ?_ | wp_step))
  refine ⟨rfl, ?_⟩
  refine codeAny_call_builtin_at (Code.quiet_builtin _ (by decide +kernel)) entry_typeCall (wpAny_check_type_call_sub atC (typeK F same atC find bind ?_))
  refine codeAny_mono hq fun r s' z => ?_
  rcases r with e | (v | _ | _ | _) <;> exact z
end
/-! ### what stands behind the own classes -/
inductive Behind (tail : List Value) : List Value → Prop
  | here : Behind tail tail
  | own {c : Addr} {r : List Value} : Behind tail r → Behind tail (.ref c :: r)
structure Tail (B nId iId : String) (tail : List Value) : Prop where
  F : ExcBaseFacts B nId iId tail
  pass : ∀ self, refuseLoop self "__setattr__" tail = pure ()
  obj : tail.contains (.type "object") = true
  ne : tail.isEmpty = false
theorem tail_V : Tail "ValueError" "ValueError.__new__" "ValueError.__init__" [.type "ValueError", .type "Exception", .type "BaseException", .type "object"] := ⟨PySem.F.excBase_ValueError, fun self => PySem.F.store_ValueError.passes self, by decide +kernel, rfl⟩
theorem tail_A : Tail "ArithmeticError" "ArithmeticError.__new__" "ArithmeticError.__init__" [.type "ArithmeticError", .type "Exception", .type "BaseException", .type "object"] := ⟨PySem.F.excBase_ArithmeticError, fun self => PySem.F.store_ArithmeticError.passes self, by decide +kernel, rfl⟩
theorem Behind.contains {tail l : List Value} (h : Behind tail l) (Y : String) : l.contains (.type Y) = tail.contains (.type Y) := by
  induction h with
  | here => rfl
  | own _ ih =>
    rw [List.contains_cons, ih]
    rfl
theorem Behind.pass {B nId iId : String} {tail l : List Value} (T : Tail B nId iId tail) (h : Behind tail l) (self : Value) : refuseLoop self "__setattr__" l = pure () := by
  induction h with
  | here => exact T.pass self
  | own _ ih =>
    rw [refuseLoop_ref]
    exact ih
theorem Behind.ne {B nId iId : String} {tail l : List Value} (T : Tail B nId iId tail) (h : Behind tail l) : l.isEmpty = false := by
  cases h with
  | here => exact T.ne
  | own _ => rfl
section
open ObjectAttr
variable {prog : Program} {w : World} {A : Around} {R : Result → Shared → Prop} {hp : Heap} {g : Array GenState} {dr : Drawn} {tk : Nat} {os : OsState}
/-- the first field of an exception -/
theorem osaT {K : Frag} {name : Str} {tn : Tok} {v : Value} {x C : Addr} {fv : Array Value} {cd : ClassData} {B nId iId : String} {tail : List Value} (T : Tail B nId iId tail)
    (X : K.In hp) (hx : hp.get? x = some { cls := .ref C, data := .fields fv }) (hcd : clsIn K C = some cd) (hm : Behind tail cd.mro) (hh : cd.hasDict = true) (no : findIn K (.ref C) name = some none)
    (hq : ∀ h' tk', (∀ b o, b ≠ x → hp.get? b = some o → h'.get? b = some o) → h'.get? x = some { cls := .ref C, dict := some hp.objs.size, data := .fields fv } →
      h'.Ns1 hp.objs.size (fun y => if y = name then some v else none) → R (.ok (.ret .none)) ⟨h', g, dr, tk', os⟩) :
    codeAny (model prog w) A (.call (.builtin "object.__setattr__") ⟨[.ref x, .str name tn, v], []⟩) R ⟨hp, g, dr, tk, os⟩ := by
  have at_ : InstAt hp x { cls := .ref C, data := .fields fv } C none := ⟨hx, rfl, rfl, trivial⟩
  have S := PySem.F.store_object
  have mroHas : cd.mro.contains (.type "object") = true := (hm.contains "object").trans T.obj
  have apart : x ≠ hp.objs.size := Nat.ne_of_lt (Heap.lt_size hx)
  have isObj : Looks (model prog w) hp (isInstance (.ref x) (.type "object")) true := at_.type.andThen (looks_mroIn X (by
    unfold mroIn
    rw [hcd, Option.bind_some, if_neg (by rw [hm.ne T]; decide), mroHas]))
  refine codeAny_call_builtin S.slot.plain S.entry ?_
  refine @check_slot (model prog w) _ _ ⟨hp, g, dr, tk, os⟩ "object.__setattr__" "object" "__setattr__" (.ref x) [.str name tn, v] [] _ S.kind S.split isObj (S.args (.ref x) (.str name tn) v) ?_
  have mroIs : Looks (model prog w) hp (mroOf (.ref C)) cd.mro := (looks_clsIn X hcd).andThen .now
  have noTaker : Looks (model prog w) hp (storeTaker? none) none := .now
  have dataIs : Looks (model prog w) hp (classData C) cd := looks_clsIn X hcd
  rw [osa_eq, refuse_eq]
  refine wpAny_bind (wpAny_bind (at_.type.at (wpAny_bind (mroIs.at ?_))))
  rw [hm.pass T]
  refine wpAny_pure (wpAny_bind (at_.type.at (wpAny_bind ((looks_findIn X no).at (wpAny_bind (noTaker.at ?_))))))
  show wpAny _ _ (storeInOwnDict (.ref x) (.ref C) (.str name tn) name v false) _ _ _
  obtain ⟨c1, c2, c3, c4, c5, c6, c7, c8, c9, ca, cb⟩ := cd
  dsimp only at hh
  subst hh
  unfold storeInOwnDict ownDictForStores
  repeat (first | with_reducible refine store_in_new ?_ ?_ | with_reducible refine wpAny_loadPart_at hx ?_ | with_reducible refine dataIs.at ?_ | wp_step)
  · exact ⟨_, #[], _, (Heap.get?_update_ne _ _ _ _ apart.symm).trans (Heap.get?_push_at rfl rfl), rfl, fun e he => absurd he (by simp), fun _ => rfl⟩
  · intro h' tk' ns but
    have hx1 : (hp.push { cls := .type "dict", data := .dict #[] }).get? x = some { cls := .ref C, data := .fields fv } := Heap.get?_push_of_some _ hx
    refine hq h' tk' (fun b o nb e => ?_) ((but.2 x apart).trans (Heap.get?_update_self _ hx1 rfl)) ns
    refine (but.2 b (Nat.ne_of_lt (Heap.lt_size e))).trans ?_
    rw [Heap.get?_update_ne _ _ _ _ nb]
    exact Heap.get?_push_of_some _ e
end
end ExV

namespace ExV
open PySem PySem.Spec PyProof.Rows L2
/-- what the written part says of an own exception class -/
structure XvC (K : PySem.W.Frag) (C : Addr) (nId : String) (tail : List Value) : Prop where
  cls : ∃ nm q N bs bm sn sub ab col dd k0 k1 k2 k3 k5, K.lookup C = some (excClassObj nm q C N bs bm true sn sub ab col dd k0 k1 k2 k3 k5 nId) ∧ Behind tail bm
  sa : PySem.W.findIn K (.ref C) "__setattr__" = some (some (.builtin "object.__setattr__"))
  kC : PySem.W.keepIn K (.ref C) = true
/-- an error of the class at C, at a: its field f holds v -/
def Err (H : Hp) (a C : Addr) (f : Str) (v : V) : Prop := ∃ dx, H a = some (exo a C (some dx)) ∧ H dx = some (exd dx [(f, v)])
theorem Err.same {H H' : Hp} {a C : Addr} {f : Str} {v : V} (h : Err H a C f v) (s : ∀ b o, H b = some o → H' b = some o) : Err H' a C f v := let ⟨dx, x, y⟩ := h; ⟨dx, s _ _ x, s _ _ y⟩
section
variable {X : Cx} {pins : List (Addr × Obj)} {σ : L2.St} {H : Hp} {s : Shared} {a C : Addr} {f : Str} {y : V} {u : Value} {Q : Unit → Shared → Prop} {Er : Value → Shared → Prop} {A : Around} {B nId iId : String} {tail : List Value}
theorem ostV (T : Tail B nId iId tail) (VC : XvC X.K C nId tail) (I : Inv X pins σ H s) (e : H a = some (exo a C none)) (no : PySem.W.findIn X.K (.ref C) f = some none) (ry : RelV y u)
    (h : ∀ dx s', H dx = none → dx ≠ a → Inv X pins σ (upd (upd H dx (exd dx [(f, y)])) a (exo a C (some dx))) s' → Q () s') : wpAny (model X.prog X.w) A (setAttr (.ref a) f u) Q Er s := by
  obtain ⟨nm, q, N, bs, bm, sn, sub, ab, col, dd, k0, k1, k2, k3, k5, lC, beh⟩ := VC.cls
  have cd : PySem.W.clsIn X.K C = some { name := nm, bases := bs, mro := .ref C :: bm, ns := N, qualname := q, hasDict := true, slotNames := sn, subclasses := sub, abstract := ab, collection := col, hasDel := false } := by
    unfold PySem.W.clsIn
    rw [lC] <;> rfl
  obtain ⟨t1, at_⟩ := exo_at I.hok e
  obtain ⟨hp, g, d, t, os⟩ := s
  refine PySem.W.set_plain I.kIn (ox := { cls := .ref C, dict := none, data := .fields #[.ref t1, .none, .none, .none, .bool false, .none] }) (od := none) ⟨at_, rfl, rfl, trivial⟩ VC.sa ?_
  refine osaT T I.kIn at_ cd (.own beh) rfl no fun h' tk' k hx hn => ?_
  have nd : H hp.objs.size = none := I.hok.fresh (Nat.le_refl _)
  have ne : hp.objs.size ≠ a := Nat.ne_of_gt (Heap.lt_size at_)
  obtain ⟨oD, es, ep, atD, rD⟩ := id hn
  have fr : oD.isFreed = false := by
    obtain ⟨r1, _⟩ := rD
    cases oD
    dsimp only at r1
    subst r1
    rfl
  have J1 : Inv X pins σ (upd H hp.objs.size (exd hp.objs.size [(f, y)])) ⟨hp.push oD, g, d, tk', os⟩ :=
    I.laid (t' := tk') (fun b o q => Heap.get?_push_of_some _ q) (Nat.le_refl _) (exd_ok (mA := fun z => if z = f then some u else none) ⟨oD, es, ep, Heap.get?_push_at rfl fr, rD⟩ (relO_put (fs := []) ry fun _ => True.intro))
  have stay : ∀ b o, b ≠ a → (hp.push oD).get? b = some o → h'.get? b = some o := fun b o nb q => by
    rcases Heap.get?_push_cases q with ⟨rfl, rfl⟩ | q
    · exact atD
    · exact k b o nb q
  have e1 : (upd H hp.objs.size (exd hp.objs.size [(f, y)])) a = some (exo a C none) := by
    rw [upd_ne (Ne.symm ne)]
    exact e
  exact h _ _ nd ne (J1.write (t' := tk') (x := a) (e := a) (o := exo a C (some hp.objs.size)) (by rw [e1]; exact True.intro) (.inl rfl) stay ⟨_, hx⟩ (exo_ok hx))
end
/-- self.f = e, where self has no field yet -/
def tOstV (K : PySem.W.Frag) (f : Str) (to te : TE) : TS := fun D σ H => te σ H fun y H1 => to σ H1 fun x H2 => ∃ (a C : Addr) (B nId iId : String) (tail : List Value), x = .ref a ∧ Tail B nId iId tail ∧ XvC K C nId tail ∧ PySem.W.findIn K (.ref C) f = some none ∧
  H2 a = some (exo a C none) ∧ ∀ dx, H2 dx = none → dx ≠ a → D.nx σ (upd (upd H2 dx (exd dx [(f, y)])) a (exo a C (some dx)))
/-- what such an __init__ promises -/
def spIni (C : Addr) (f : Str) : Sp := fun vs H Q _ => ∃ (a : Addr) (v : V), vs = [.ref a, v] ∧ H a = some (exo a C none) ∧ ∀ dx, H dx = none → dx ≠ a → Q .non (upd (upd H dx (exd dx [(f, v)])) a (exo a C (some dx)))
theorem made {C a : Addr} {f : Str} {v : V} {H1 : Hp} {Q : VK} (na : H1 a = none) (q : ∀ (a : Addr) (H' : Hp), Same H1 H' → Err H' a C f v → Q (.ref a) H') :
    spIni C f [.ref a, v] (upd H1 a (exo a C none)) (fun r H2 => r = .non ∧ Q (.ref a) H2) fun _ _ _ => False := by
  refine ⟨a, v, rfl, upd_same, fun dx ndx nda => ⟨rfl, q a _ (fun b o e => ?_) ⟨dx, upd_same, ?_⟩⟩⟩
  · rw [upd_ne nda] at ndx
    rw [upd_ne (ne_of_none e na), upd_ne (ne_of_none e ndx), upd_ne (ne_of_none e na)]
    exact e
  · rw [upd_ne nda, upd_same]
def tMkV (C : Addr) (f : Str) (te : TE) : TE := fun σ H Q => te σ H fun v H1 => ∀ (a : Addr) (H' : Hp), Same H1 H' → Err H' a C f v → Q (.ref a) H'
section
variable {X : Cx} {o e : Expr} {to te : TE} {f : Str} {p p' pos : Pos}
theorem ps_ostV (ho : PE X o to) (he : PE X e te) (hs : swapsWith e (some (.Attribute o f p')) pos.line X.env = pure false := by rfl) : PS X (.Assign [.Attribute o f p'] e pos) (tOstV X.K f to te) := by
  refine ⟨fun pins s σ H D I h => ?_⟩
  refine plainObj_wpAny_Assign_Attribute (thn (he.run pins s σ H _ I h) fun v s1 w1 => ?_) hs
  obtain ⟨y, H1, I1, r1, q1⟩ := w1
  refine thn (ho.run pins s1 σ H1 _ I1 q1) fun u s2 w2 => ?_
  obtain ⟨x, H2, I2, r2, a, C, B, nId, iId, tail, rfl, T, VC, no, ea, q⟩ := w2
  cases r2
  exact ostV T VC I2 ea no r1 fun dx s' n ne J => ⟨σ, _, J, q dx n ne⟩
/-- C(e), as a value -/
theorem pe_mkV {x : Str} {C fI : Addr} {k : Nat} {fd : FuncData} {n1 n2 : Str} {B nId iId : String} {tail : List Value} (T : Tail B nId iId tail) (VC : XvC X.K C nId tail) (iC : PySem.W.findIn X.K (.ref C) "__init__" = some (some (.ref fI))) (tI : PySem.W.typeIn X.K (.ref fI) = some (.type "function"))
    (F1 : FnOk X.prog X.w X.K X.mg X.base CX0 k fI fd [n1, n2] (spIni C f)) (hr : Room (k + 1) X.A) (hb : Binds X.K fd [n1, n2] []) (hg : Gl X x) (hm : X.mg x = some (.ref C)) (he : PE X e te)
    (hdb : (x == ("__debug__" : Str)) = false := by decide) (hs : starEach [e] X.env = (false, eval e X.env) :: starEach [] X.env := by rfl) :
    PE X (.Call (.Name x p) [e] [] pos) (tMkV C f te) := by
  refine ⟨fun pins s σ H Q I h => ?_⟩
  obtain ⟨nm, q, N, bs, bm, sn, sub, ab, col, dd, k0, k1, k2, k3, k5, lC, beh⟩ := VC.cls
  refine wpAny_Call_Name_kw (ld_glob I hg hm ?_ hdb)
  refine PySem.W.callWith_K (h₀ := X.base) I.ok.mod.kin VC.kC ?_ hs (by rfl)
  rw [hs]
  refine Calls.spliced_cons (thn (he.run pins s σ H _ I h) fun u s1 ⟨v, H1, I1, r1, q1⟩ => Calls.spliced_nil ⟨I1.kIn, ?_⟩)
  show wpAny _ _ (call (.ref C) [u]) _ _ _
  obtain ⟨hp, g, dr, tk, os⟩ := s1
  have room : hp.objs.size ≤ hp.objs.size + 1 := Nat.le_succ _
  have na : H1 (hp.objs.size + 1) = none := I1.hok.fresh room
  have hq := made (C := C) (f := f) (Q := Q) na q1
  have I2 : Inv X pins σ (upd H1 (hp.objs.size + 1) (exo (hp.objs.size + 1) C none)) ⟨(hp.push (PySem.W.kdv_tup [u])).push (PySem.HandSPX.excO C hp.objs.size), g, dr, tk, os⟩ :=
    I1.laid (t' := tk) (fun b o z => Heap.get?_push_of_some _ (Heap.get?_push_of_some _ z)) room (exo_ok (t1 := hp.objs.size) (by heap_get))
  have r2 : Vals [V.ref (hp.objs.size + 1), v] [Value.ref (hp.objs.size + 1), u] := .cons rfl (.cons r1 .nil)
  refine wpAny_call (PySem.HandSPX.call_own T.F (fun Y => beh.contains Y) (I1.kIn _ _ lC) (PySem.W.looks_findIn I1.kIn iC) (fun self => PySem.W.bind_fn I1.kIn self tI) (by show 1 ≤ sizeLine; decide) ?_)
  refine codeAny_mono (F1.run _ X.stack _ _ ⟨[Value.ref (hp.objs.size + 1), u], []⟩ [Value.ref (hp.objs.size + 1), u] _ _ _ (hr.make C [u] []) (I2.env0.make C [u] []) (hb _ [Value.ref (hp.objs.size + 1), u] I2.kIn rfl) r2 hq) fun r s' hq' => ?_
  match r, hq' with
  | .error er, hq' => exact (show False from hq').elim
  | .ok (.ret z), hq' =>
    obtain ⟨v2, H', I3, rv, rfl, q3⟩ := I2.after hq'
    exact ⟨rv, ⟨V.ref (hp.objs.size + 1), H', I3, rfl, q3⟩⟩
/-- C(f=e), as a value -/
theorem pe_mkVK {x : Str} {C fI : Addr} {k : Nat} {fd : FuncData} {n1 n2 : Str} {kws : List Keyword} {tk : TA} {B nId iId : String} {tail : List Value} {gF : List Value → List Value → List Value} {gV : List V → List V → List V} (T : Tail B nId iId tail) (VC : XvC X.K C nId tail) (iC : PySem.W.findIn X.K (.ref C) "__init__" = some (some (.ref fI))) (tI : PySem.W.typeIn X.K (.ref fI) = some (.type "function"))
    (F1 : FnOk X.prog X.w X.K X.mg X.base CX0 k fI fd [n1, n2] (spIni C f)) (hr : Room (k + 1) X.A) (hb : KBn X.K fd [n1, n2] 1 [n2] gF gV) (hgV : ∀ x y, gV [x] [y] = [x, y]) (hg : Gl X x) (hm : X.mg x = some (.ref C)) (hkw : PK X kws tk)
    (hall : (backToKw pos (keywordEach kws X.env)).all (·.1.isSome) = true := by rfl) (hks : (backToKw pos (keywordEach kws X.env)).filterMap (·.1) = [n2] := by rfl) (hdb : (x == ("__debug__" : Str)) = false := by decide)
    (hpl : ((backTo pos (starEach [] X.env)).any (·.1) || (backToKw pos (keywordEach kws X.env)).any (·.1.isNone)) = false := by rfl) :
    PE X (.Call (.Name x p) [] kws pos) (fun σ H Q => tk σ H fun vs H1 => ∃ v, vs = [v] ∧ ∀ (a : Addr) (H' : Hp), Same H1 H' → Err H' a C f v → Q (.ref a) H') := by
  refine ⟨fun pins s σ H Q I h => ?_⟩
  obtain ⟨nm, q, N, bs, bm, sn, sub, ab, col, dd, k0, k1, k2, k3, k5, lC, beh⟩ := VC.cls
  refine wpAny_Call_Name_kw (ld_glob I hg hm ?_ hdb)
  refine PySem.W.callWith_KW0 (h₀ := X.base) I.ok.mod.kin VC.kC hall ?_ hpl
  refine thn (hkw.run pos pins s σ H _ I h) fun ws s1 ⟨zs, H1, I1, rz, v, ev, q1⟩ => ⟨I1.kIn, ?_⟩
  rw [hks]
  subst ev
  obtain ⟨u, rfl, r1⟩ := vals1 rz
  show wpAny _ _ (call (.ref C) [] [(n2, u)]) _ _ _
  obtain ⟨hp, g, dr, tk, os⟩ := s1
  have room : hp.objs.size ≤ hp.objs.size + 1 := Nat.le_succ _
  have na : H1 (hp.objs.size + 1) = none := I1.hok.fresh room
  have hq := made (C := C) (f := f) (Q := Q) na q1
  have I2 : Inv X pins σ (upd H1 (hp.objs.size + 1) (exo (hp.objs.size + 1) C none)) ⟨(hp.push (PySem.W.kdv_tup [])).push (PySem.HandSPX.excO C hp.objs.size), g, dr, tk, os⟩ :=
    I1.laid (t' := tk) (fun b o z => Heap.get?_push_of_some _ (Heap.get?_push_of_some _ z)) room (exo_ok (t1 := hp.objs.size) (by heap_get))
  have r2 : Vals (gV [V.ref (hp.objs.size + 1)] [v]) (gF [Value.ref (hp.objs.size + 1)] [u]) := hb.rel (.cons rfl .nil) (.cons r1 .nil)
  rw [hgV] at r2
  refine wpAny_call (callK T.F (fun Y => beh.contains Y) (I1.kIn _ _ lC) (PySem.W.looks_findIn I1.kIn iC) (fun self => PySem.W.bind_fn I1.kIn self tI) ?_)
  refine codeAny_mono (F1.run _ X.stack _ _ ⟨[Value.ref (hp.objs.size + 1)], [(n2, u)]⟩ _ _ _ _ (hr.make C [] [(n2, u)]) (I2.env0.make C [] [(n2, u)]) (hb.to _ [Value.ref (hp.objs.size + 1)] [u] I2.kIn rfl rfl) r2 hq) fun r s' hq' => ?_
  match r, hq' with
  | .error er, hq' => exact (show False from hq').elim
  | .ok (.ret z), hq' =>
    obtain ⟨v2, H', I3, rv, rfl, q3⟩ := I2.after hq'
    exact ⟨rv, ⟨V.ref (hp.objs.size + 1), H', I3, rfl, q3⟩⟩
/-- C(), C without own __init__, as a value -/
theorem pe_mk0 {C : Addr} {tail : List Value} {B nId iId : String} {x : Str} (F : ExcBaseFacts B nId iId tail) (q : PySem.W.excIn X.K C tail nId = true) (gC : X.mg x = some (.ref C)) (kC : PySem.W.keepIn X.K (.ref C) = true) (hg : Gl X x) (hdb : (x == ("__debug__" : Str)) = false := by decide) :
    PE X (.Call (.Name x p) [] [] pos) (fun σ H Q => ∀ (a : Addr) (H' : Hp), Same H H' → H' a = some (ExO (.ref C) a) → Q (.ref a) H') := by
  refine ⟨fun pins s σ H Q I h => ?_⟩
  refine wpAny_Call_Name_kw (ld_glob I hg gC ?_ hdb)
  refine PySem.W.callWith_K0 I.kIn kC ?_
  show wpAny _ _ (call (.ref C) []) _ _ _
  obtain ⟨bm, N, nm, qn, bs, hdct, sn, sub, ab, col, dd, k0, k1, k2, k3, k5, mN, hC, hN, hni, T⟩ := exc_obj I.kIn q
  refine wpAny_call_exc_subT F T hC hN hni (fun h' a hm => ?_) (Nat.zero_le _)
  have hn : H a = none := I.hok.gone hm.new
  obtain ⟨t, ht, _, _⟩ := hm.there
  exact ⟨.ref a, upd H a (ExO (.ref C) a), I.laidN hm.keeps hm.new hn (exO_ok ht ⟨rfl, rfl⟩ rfl rfl rfl (show 4 < 6 by decide)), rfl, h a _ (fun b o z => by rw [upd_ne (ne_of_none z hn)]; exact z) upd_same⟩
/-- e.f -/
def tXv (K : PySem.W.Frag) (n : Str) (te : TE) : TE := fun σ H Q => te σ H fun x H1 => ∃ (a C : Addr) (v : V), x = .ref a ∧ XfC K C ∧ PySem.W.findIn K (.ref C) n = some none ∧ Err H1 a C n v ∧ Q v H1
theorem pe_xv {n : Str} (he : PE X e te) (hb : attributeBase e n X.env (eval e X.env) = eval e X.env := by rfl) : PE X (.Attribute e n pos) (tXv X.K n te) := by
  refine ⟨fun pins s σ H Q I h => ?_⟩
  refine attr_of hb (thn (he.run pins s σ H _ I h) fun u s1 w1 => ?_)
  obtain ⟨x, H1, I1, rx, a, C, v, rfl, T, no, ⟨dx, ea, ed⟩, q⟩ := w1
  cases rx
  obtain ⟨t1, ha⟩ := exo_at I1.hok ea
  obtain ⟨mA, hns, hr⟩ := exd_at I1.hok ed
  obtain ⟨od, ho, hl⟩ := lookIn_ns hns
  obtain ⟨u, hu, ru⟩ := RelO.some_of (v := v) (o := mA n) (by
    have z := hr n
    rw [lookup_put, if_pos rfl] at z
    exact z)
  have J : PySem.W.InstAt s1.heap a { cls := .ref C, dict := some dx, data := .fields #[.ref t1, .none, .none, .none, .bool false, .none] } C (some od) := ⟨ha, rfl, rfl, ho⟩
  exact HandSPX.exc_get I1.kIn J T.ga T.gg T.exC (PySem.W.findObj_own T.hdC no rfl (by rw [hl, hu])) (handed_of ru) ⟨v, H1, I1.tok _, ru, q⟩
end
/-! ### isinstance -/
structure XiC (K : PySem.W.Frag) (D : Addr) : Prop where
  xf : XfC K D
  ic : (PySem.W.clsIn K D).isSome = true
  c1 : PySem.W.findIn K (.ref D) "__class__" = some (some (.builtin "object.__class__"))
  c2 : PySem.W.specialIn K (.builtin "object.__class__") "__get__" = some (some (.builtin "getset_descriptor.__get__"))
  c3 : PySem.W.takesIn K (.builtin "object.__class__") = some true
  c4 : PySem.W.mroIn K D (.type "object") = some true
/-- at a stands an exception of the class at C -/
def Exn (H : Hp) (a C : Addr) : Prop := (∃ d, H a = some (exo a C (some d)) ∧ ∃ fs, H d = some (exd d fs)) ∨ H a = some (ExO (.ref C) a)
theorem Exn.same {H H' : Hp} {a C : Addr} (h : Exn H a C) (s : ∀ b o, H b = some o → H' b = some o) : Exn H' a C := by
  rcases h with ⟨d, x, fs, y⟩ | x
  · exact .inl ⟨d, s _ _ x, fs, s _ _ y⟩
  · exact .inr (s _ _ x)
theorem Err.exn {H : Hp} {a C : Addr} {f : Str} {v : V} (h : Err H a C f v) : Exn H a C := let ⟨d, x, y⟩ := h; .inl ⟨d, x, _, y⟩
def rIsV (K : PySem.W.Frag) : List V → Hp → VK → Prop := fun xs H Q => ∃ (a C : Addr) (c : V) (cv : Value) (b : Bool), xs = [.ref a, c] ∧ (∀ u, RelV c u → u = cv) ∧ Exn H a C ∧ XiC K C ∧ PySem.W.kitOne K (.ref C) cv = some b ∧ Q (.bl b) H
theorem call_isV {X : Cx} : CallR X (.builtin "isinstance") (rIsV X.K) := by
  intro pins s σ H xs us Q I r h
  obtain ⟨a, C, c, cv, b, rfl, hcv, hex, XC, e, q⟩ := h
  cases r with
  | cons rx rr =>
    cases rr with
    | cons rt rr =>
      cases rr
      cases rx
      cases hcv _ rt
      have at_ : ∃ (oe : Obj) (od : Option Obj), PySem.W.InstAt s.heap a oe C od := by
        rcases hex with ⟨d, ea, fs, ed⟩ | ea
        · obtain ⟨t1, ha⟩ := exo_at I.hok ea
          obtain ⟨mA, hns, _⟩ := exd_at I.hok ed
          obtain ⟨od, ho, _⟩ := lookIn_ns hns
          exact ⟨_, some od, ha, rfl, rfl, ho⟩
        · obtain ⟨⟨oe, vs, ho, hz, hd, _⟩, _, _⟩ := I.hok a _ ea
          refine ⟨oe, none, ho, hz.1, by unfold PySem.W.notCls; rw [hd] <;> rfl, ?_⟩
          rw [hz.2]
          exact trivial
      obtain ⟨oe, od, J⟩ := at_
      exact PySem.W.kia_one (PySem.W.kitx_exc (gt := none) XC.ic XC.xf.ga XC.xf.gg XC.xf.exC XC.c1 XC.c2 XC.c3 XC.c4) I.kIn J e (fun z => nomatch z) fun tk => ⟨.bl b, H, I.kept (t' := tk) fun _ _ z => z, rfl, q⟩
end ExV

/-! defs that are called where no repr is running, and repr of plain data there -/
namespace Gd
open PySem PySem.Spec PyProof.Rows L2
/-- a def's promise, for callers around whom no guard stands -/
structure FnG (P : Program) (w : World) (K : PySem.W.Frag) (mg : Str → Option Value) (base : Heap) (CX : CXT) (k : Nat) (f : Addr) (fd : FuncData) (ps : List Str) (sp : Sp) : Prop where
  len : ∀ vs H Q E, sp vs H Q E → vs.length = ps.length
  run : ∀ (A : Around) (outer : List Env) (s : Shared) (H : Hp) (args : Args) (us : List Value) (vs : List V) (Q : VK) (E : XK), A.guards = some [] → Room k A → Env0 P w K mg base A outer s H → BindsTo s fd args (ps.zip us) → Vals vs us → sp vs H Q E →
    codeAny (model P w) A (.call (.ref f) args) (CR CX outer P w H s Q E) s
section
variable {P : Program} {w : World} {K : PySem.W.Frag} {mg : Str → Option Value} {base : Heap}
/-- the rule of a def, its guards told -/
theorem okG {x qual : Str} {st : Stmt} {f : Addr} {fd : FuncData} {N ps : List Str} {k : Nat} {sp : Sp} (F : Fun K x qual st f fd) (S : FnScope N ps (defScope st)) (len : ∀ vs H Q E, sp vs H Q E → vs.length = ps.length)
    (hbody : ∀ (cdv : Value) (A : Around) (outer : List Env) (s : Shared) (H : Hp) (vs : List V) (Q : VK) (E : XK), K.lookup f ≠ none → PySem.W.codeIn K cdv qual = true → fd.code = cdv → A.guards = some [] → Room k (A.deeper (envOfC qual (defScope st) s.heap.objs.size f cdv)) → sp vs H Q E →
      ∃ t, PSs (cxOf CX0 P w K mg base N qual (defScope st) f cdv A outer s H E).nox (defBody st) t ∧ t { nx := fun _ H' => Q .non H', rt := Q } (L2.start N vs) H) : FnG P w K mg base CX0 (k + 1) f fd ps sp := by
  obtain ⟨oc, od, kV, doc, pm, an, cdv, ct, osl, rfl, lk, hcd⟩ := F.ex
  refine ⟨len, fun A outer s H args us vs Q E hg hr e0 hb r h => ?_⟩
  refine LamX.run_ofS lk hcd S hr e0 hb r (len _ _ _ _ h) fun hr2 => ?_
  obtain ⟨t, h1, q⟩ := hbody cdv A outer s H vs Q E (by rw [lk]; simp) hcd rfl hg hr2 h
  exact ⟨t, h1.nox, q⟩
end
section
variable {X : Cx} {CX : CXT} {k : Nat} {f : Addr} {fd : FuncData} {ps : List Str} {sp : Sp} {E : XK} {x : Str} {p pos : Pos} {e : Expr} {es : List Expr} {t : TA} {ds : List Value} {dvs : List V}
/-- f(e, ..) -/
theorem pe_callG (F : FnG X.prog X.w X.K X.mg X.base CX k f fd ps sp) (hgd : X.A.guards = some []) (hr : Room k X.A) (hg : Gl X x) (hm : X.mg x = some (.ref f)) (hk : PySem.W.keepIn X.K (.ref f) = true) (hb : L2.Binds X.K fd ps ds) (hd : Vals dvs ds) (hx : Passes CX X E) (ha : PA X (e :: es) t)
    (hdb : (x == ("__debug__" : Str)) = false := by decide) (he : starEach (e :: es) X.env = (false, eval e X.env) :: starEach es X.env := by rfl) (hpl : (backTo pos (starEach es X.env)).any (·.1) = false := by rfl) :
    PE X (.Call (.Name x p) (e :: es) [] pos) (tCall sp dvs E t) := by
  refine ⟨fun pins s σ H Q I h => ?_⟩
  refine wpAny_Call_Name_kw (ld_glob I hg hm ?_ hdb)
  refine PySem.W.callWith_K (h₀ := X.base) I.ok.mod.kin hk (thn (ha.run pos pins s σ H _ I h) fun us s1 ⟨vs, H1, I1, r, q⟩ => ⟨I1.kIn, ?_⟩) he hpl
  have r2 : Vals (vs ++ dvs) (us ++ ds) := r.append hd
  have hl : (us ++ ds).length = ps.length := by
    rw [← r2.length]
    exact F.len _ _ _ _ q
  refine wpAny_call (codeAny_mono (F.run X.A X.stack s1 H1 ⟨us, []⟩ (us ++ ds) (vs ++ dvs) Q E hgd hr I1.env0 (hb s1 us I1.kIn hl) r2 q) fun rr s2 hq => ?_)
  match rr, hq with
  | .error er, hq => exact hx pins σ H1 s1 er s2 I1 hq
  | .ok (.ret u), hq => exact I1.after hq
end
/-! ### plain data, all of it tracked -/
mutual
inductive Dq (H : Hp) : V → PyData → Prop
  | non : Dq H .non .none
  | bl (b : Bool) : Dq H (.bl b) (.bool b)
  | int (i : Int) : Dq H (.int i) (.int i)
  | str (x : Str) : Dq H (.str x) (.str x)
  | lst {a : Addr} {xs : List V} {ds : List PyData} : H a = some (.lst xs) → DqA H xs ds → Dq H (.ref a) (.list ds)
  | tup {a : Addr} {xs : List V} {ds : List PyData} : H a = some (.tup xs) → DqA H xs ds → Dq H (.ref a) (.tuple ds)
  | dct {a : Addr} : H a = some (.dK []) → Dq H (.ref a) (.dict [])
inductive DqA (H : Hp) : List V → List PyData → Prop
  | nil : DqA H [] []
  | cons {v : V} {vs : List V} {d : PyData} {ds : List PyData} : Dq H v d → DqA H vs ds → DqA H (v :: vs) (d :: ds)
end
section
variable {X : Cx} {pins : List (Addr × Obj)} {σ : L2.St} {H : Hp} {s : Shared}
mutual
theorem Dq.reads (I : Inv X pins σ H s) : ∀ {v : V} {d : PyData} {u : Value}, Dq H v d → RelV v u → ∃ as, Reads s.heap u d as ∧ ∀ b ∈ as, H b ≠ none
  | _, _, _, .non, r => by
    cases r
    exact ⟨_, .none, fun b h => nomatch h⟩
  | _, _, _, .bl b, r => by
    cases r
    exact ⟨_, .bool b, fun b h => nomatch h⟩
  | _, _, _, .int i, r => by
    obtain ⟨t, rfl⟩ := r
    exact ⟨_, .int i t, fun b h => nomatch h⟩
  | _, _, _, .str x, r => by
    obtain ⟨t, rfl⟩ := r
    exact ⟨_, .str x t, fun b h => nomatch h⟩
  | _, _, _, .lst (a := a) (xs := xs) ha hd, r => by
    cases r
    obtain ⟨_, its, n, rv, e⟩ := (show ObjOk X.prog X.w H s.heap a (.lst xs) from I.hok a _ ha)
    obtain ⟨as, h1, h2⟩ := DqA.reads I hd rv
    refine ⟨_, .list e rfl rfl (by simpa using h1), fun b hb => ?_⟩
    rcases List.mem_cons.mp hb with rfl | hb
    · rw [ha]; simp
    · exact h2 b hb
  | _, _, _, .tup (a := a) (xs := xs) ha hd, r => by
    cases r
    obtain ⟨_, its, rv, o, e, c, n, hn⟩ := (show ObjOk X.prog X.w H s.heap a (.tup xs) from I.hok a _ ha)
    obtain ⟨as, h1, h2⟩ := DqA.reads I hd rv
    exact ⟨_, .tuple e c hn (by simpa using h1), h2⟩
  | _, _, _, .dct (a := a) ha, r => by
    cases r
    obtain ⟨_, _, vs, kv, o, es, ep, e, hx, hdt, _, hes, _⟩ := (show ObjOk X.prog X.w H s.heap a (.dK []) from I.hok a _ ha)
    cases kv
    have e0 : es.toList = [] := by
      generalize es.toList = zs at hes
      cases hes
      rfl
    refine ⟨_, .dict (kvs := []) e hx.1 hdt (by rw [e0]; exact .nil) (by rw [e0]; exact .nil), fun b hb => ?_⟩
    have : b = a := by simpa using hb
    rw [this, ha]; simp
theorem DqA.reads (I : Inv X pins σ H s) : ∀ {vs : List V} {ds : List PyData} {us : List Value}, DqA H vs ds → Vals vs us → ∃ as, ReadsAll s.heap us ds as ∧ ∀ b ∈ as, H b ≠ none
  | _, _, _, .nil, r => by
    cases r
    exact ⟨_, .nil, fun b h => nomatch h⟩
  | _, _, _, .cons hd ht, .cons r rt => by
    obtain ⟨as, h1, h2⟩ := Dq.reads I hd r
    obtain ⟨bs, h3, h4⟩ := DqA.reads I ht rt
    exact ⟨_, .cons h1 h3, fun b hb => (List.mem_append.mp hb).elim (h2 b) (h4 b)⟩
end
end
mutual
theorem Dq.same {H H' : Hp} (s : Same H H') : ∀ {v : V} {d : PyData}, Dq H v d → Dq H' v d
  | _, _, .non => .non
  | _, _, .bl b => .bl b
  | _, _, .int i => .int i
  | _, _, .str x => .str x
  | _, _, .lst ha hd => .lst (s _ _ ha) (DqA.same s hd)
  | _, _, .tup ha hd => .tup (s _ _ ha) (DqA.same s hd)
  | _, _, .dct ha => .dct (s _ _ ha)
theorem DqA.same {H H' : Hp} (s : Same H H') : ∀ {vs : List V} {ds : List PyData}, DqA H vs ds → DqA H' vs ds
  | _, _, .nil => .nil
  | _, _, .cons a b => .cons (Dq.same s a) (DqA.same s b)
end
/-- repr of a list, a tuple or an empty dict of such data -/
def rReprD : List V → Hp → VK → Prop := fun xs H Q => ∃ (a : Addr) (d : PyData), xs = [.ref a] ∧ Dq H (.ref a) d ∧ d.showable = true ∧ d.depth ≤ 64 ∧ d.shown.length ≤ sizeLine ∧ Q (.str d.shown) H
theorem call_reprD {X : Cx} {k : Nat} {ob : Obj} (hg : X.A.guards = some []) (hr : Room k X.A) (sm : X.base.get? sysModules = some ob) : CallR X (.builtin "repr") rReprD := by
  intro pins s σ H xs us Q I r h
  obtain ⟨a, d, rfl, hd, hs, hdep, hz, q⟩ := h
  obtain ⟨u, rfl, ru⟩ := vals1 r
  cases (show u = Value.ref a from ru)
  obtain ⟨as, h1, h2⟩ := hd.reads I (u := .ref a) rfl
  have no : sysModules ∉ as := fun hm => h2 _ hm (I.env0.bs _ _ sm).2
  have hu := hr.un
  refine repr_of_reads' h1 hs (fun _ => no) hg (by omega) (fun _ _ e => e) (fun h' u tk hk => ?_) hz
  exact ⟨.str d.shown, H, I.kept (t' := tk) hk, ⟨_, rfl⟩, q⟩
/-! ### the end of a law, from such a promise -/
/-- at the law's call: the tables, and the script unless the module itself holds it -/
def H0 (K : PySem.W.Frag) (tabs : List Addr) (a : Addr) (u : HO) : Hp := fun b => if b ∈ tabs then some (.tbl #[]) else if b = a ∧ K.lookup a = none then some u else none
theorem H0_tab {K : PySem.W.Frag} {tabs : List Addr} {a b : Addr} {u : HO} (h : b ∈ tabs) : H0 K tabs a u b = some (.tbl #[]) := if_pos h
theorem H0_cases {K : PySem.W.Frag} {tabs : List Addr} {a b : Addr} {u o : HO} (h : H0 K tabs a u b = some o) : (b ∈ tabs ∧ o = .tbl #[]) ∨ (b ∉ tabs ∧ b = a ∧ K.lookup a = none ∧ o = u) := by
  unfold H0 at h
  split at h
  next hb => exact .inl ⟨hb, (Option.some.inj h).symm⟩
  next hb =>
    split at h
    next hc => exact .inr ⟨hb, hc.1, hc.2, (Option.some.inj h).symm⟩
    next => cases h
theorem law_callG {P : Program} {w : World} {K : PySem.W.Frag} {mg mb : Str → Option Value} {k : Nat} {fa a : Addr} {cs : List (Addr × Addr)} {fd : FuncData} {x : Str} {sp : Sp} {st : Shared} {vs : List Value} {ns : List Int}
    (KX : K.In st.heap) (gNs : st.heap.Ns mainGlobals mg) (bNs : st.heap.Ns builtinsNs mb) (bEq : ∀ x : Str, x ≠ "__name__" → mb x = bootBuiltins x) (lim : st.heap.NoLimit) (noG : st.gens = #[])
    (isT : ∀ p ∈ cs, st.heap.get? p.2 = some { cls := .none, data := .fields #[] }) (nK : ∀ p ∈ cs, K.lookup p.2 = none) (isC : ∀ p ∈ cs, PySem.W.CodeHd st.heap p.1 p.2)
    (bMain : ∃ (bm : Addr) (ob : Obj), mg "__builtins__" = some (.ref bm) ∧ bm ≠ builtinsNs ∧ st.heap.get? bm = some ob ∧ ob.cls = .type "module" ∧ ob.dict = some builtinsNs ∧ ob.data = .plain)
    (scr : st.heap.get? a = some { cls := .type "list", data := .seq vs.toArray }) (intsA : IntsAre vs ns) (few : ns.length ≤ sizeLine) (room : Room k callerA)
    (mods : ∃ mm, st.heap.Ns sysModules mm)
    (F : ∀ base : Heap, K.In base → base.Ns mainGlobals mg → (∃ ob, base.get? sysModules = some ob) → (∀ p ∈ cs, LamX.TabB base mg p.1 p.2) → FnG P w K mg base CX0 k fa fd [x] sp) (bind : ∀ (s : Shared) (u : Value), BindsTo s fd ⟨[u], []⟩ [(x, u)])
    (hsp : ∀ H : Hp, (∀ p ∈ cs, H p.2 = some (.tbl #[])) → SqL K H a (ns.map V.int) → sp [.ref a] H (fun v _ => v = .bl true) fun _ _ _ => False) :
    codeAny (model P w) callerA (.call (.ref fa) ⟨[.ref a], []⟩) (fun r s2 => r = .ok (.ret (.bool true)) ∧ OldK st.heap s2.heap ∧ s2.os = st.os ∧ AllBare s2.gens) st := by
  have vals := vals_ints intsA
  have tabAt : ∀ b ∈ cs.map (·.2), st.heap.get? b = some { cls := .none, data := .fields #[] } := fun b hb => by
    obtain ⟨p, hp, rfl⟩ := List.mem_map.mp hb
    exact isT p hp
  generalize hu : (HO.frz { cls := .type "list", data := .seq vs.toArray } (.lst (ns.map V.int))) = u
  generalize hH : H0 K (cs.map (·.2)) a u = H
  have tabH : ∀ p ∈ cs, H p.2 = some (.tbl #[]) := fun p hp => by
    rw [← hH]
    exact H0_tab (List.mem_map.mpr ⟨p, hp, rfl⟩)
  have what : ∀ b o, H b = some o → (b ∈ cs.map (·.2) ∧ o = .tbl #[]) ∨ (b ∉ cs.map (·.2) ∧ b = a ∧ K.lookup a = none ∧ o = u) := fun b o e => by
    rw [← hH] at e
    exact H0_cases e
  have held : HOk P w H st.heap := fun b o e => by
    rcases what b o e with ⟨h1, rfl⟩ | ⟨_, rfl, _, rfl⟩
    · exact tabAt b h1
    · rw [← hu]
      exact ⟨scr, by rw [List.length_map]; exact few, vs, _, vals, scr⟩
  have seen : SqL K H a (ns.map V.int) := by
    cases hk : K.lookup a with
    | some o =>
      have e := KX a o hk
      rw [scr] at e
      cases e
      exact .inr ⟨_, vs.toArray, _, hk, rfl, rfl, rfl, by rw [List.size_toArray, intsA.length]; exact few, by simpa using vals⟩
    | none =>
      refine .inl (.inr ⟨{ cls := .type "list", data := .seq vs.toArray }, ?_⟩)
      have nt : a ∉ cs.map (·.2) := fun z => by
        have q := tabAt a z
        rw [scr] at q
        cases congrArg Obj.data (Option.some.inj q)
      rw [← hH, ← hu]
      exact (if_neg nt).trans (if_pos ⟨rfl, hk⟩)
  -- what is neither a list nor an empty table is not tracked
  have untracked : ∀ {b : Addr} {o : Obj}, st.heap.get? b = some o → (∀ us m, o.data ≠ .seq us m) → o.data ≠ .fields #[] → H b = none := fun {b o} e h1 h2 => by
    cases q : H b with
    | none => rfl
    | some z =>
      rcases what b z q with ⟨hb, _⟩ | ⟨_, rfl, _⟩
      · rw [tabAt b hb] at e
        exact absurd (congrArg Obj.data (Option.some.inj e)).symm h2
      · rw [scr] at e
        exact absurd (congrArg Obj.data (Option.some.inj e)).symm (h1 _ _)
  have stays : ∀ {b : Addr} {o : Obj}, st.heap.get? b = some o → (∀ us m, o.data ≠ .seq us m) → o.data ≠ .fields #[] → (hidT st.heap H).get? b = some o := fun e h1 h2 => hidT_get e (untracked e h1 h2)
  have names : ∀ {b : Addr} {m : Str → Option Value}, st.heap.Ns b m → (hidT st.heap H).Ns b m := fun ⟨o, es, ep, e, dt, r⟩ =>
    ⟨o, es, ep, stays e (fun _ _ z => by rw [dt] at z; cases z) (fun z => by rw [dt] at z; cases z), dt, r⟩
  have inB : K.In (hidT st.heap H) := fun b o e => hidT_get (KX b o e) (by
    cases q : H b with
    | none => rfl
    | some z =>
      rcases what b z q with ⟨hb, _⟩ | ⟨_, rfl, hn, _⟩
      · obtain ⟨p, hp, rfl⟩ := List.mem_map.mp hb
        rw [nK p hp] at e
        cases e
      · rw [hn] at e
        cases e)
  obtain ⟨mc, lim1, lim2⟩ := lim
  have modu : L2.Mod K mg (hidT st.heap H) := ⟨inB, names gNs, ⟨mb, names bNs, bEq⟩, ⟨mc, names lim1, lim2⟩⟩
  have tabB : ∀ p ∈ cs, LamX.TabB (hidT st.heap H) mg p.1 p.2 := fun p hp => by
    have atP := isT p hp
    refine { code := ?_, bm := ?_, gP := fun z => ?_ }
    · obtain ⟨o, us, file, tf, flags, tg, inF, text, tt, e1, r1, r2, r3, r4⟩ := isC p hp
      exact ⟨o, us, file, tf, flags, tg, inF, text, tt, stays e1 (fun _ _ z => by rw [r2] at z; cases z) (fun z => by rw [r2] at z; cases z; simp at r3), r1, r2, r3, r4⟩
    · obtain ⟨bm, ob, b1, b2, b3, b4, b5, b6⟩ := bMain
      refine ⟨bm, ob, b1, b2, fun z => ?_, fun z => ?_, stays b3 (fun _ _ z => by rw [b6] at z; cases z) (fun z => by rw [b6] at z; cases z), b4, b5, b6⟩
      · obtain ⟨o, es, ep, e, dt, _⟩ := gNs
        rw [z, e] at b3
        cases b3
        rw [dt] at b6
        cases b6
      · rw [z, atP] at b3
        cases b3
        cases b6
    · obtain ⟨o, es, ep, e, dt, _⟩ := gNs
      rw [z, atP] at e
      cases e
      cases dt
  have env : Env0 P w K mg (hidT st.heap H) callerA [] st H := ⟨rfl, modu, fun b o e => of_hidT e, Nat.le_of_eq (hidT_size _ _), trivial, (fun b hb => absurd (show b ∈ ([] : List Addr) from hb) (by simp)), held, .of_eq noG⟩
  have hm : ∃ ob, (hidT st.heap H).get? sysModules = some ob := by
    obtain ⟨mm, hm⟩ := mods
    obtain ⟨o, es, ep, e, _⟩ := names hm
    exact ⟨o, e⟩
  refine codeAny_mono ((F _ inB (names gNs) hm tabB).run callerA [] st H ⟨[.ref a], []⟩ [.ref a] [.ref a] _ _ rfl room env (bind st (.ref a)) (.cons rfl .nil) (hsp H tabH seen)) fun r s2 h => ?_
  match r, h with
  | .error e, h => exact (show False from h).elim
  | .ok (.ret z), h =>
    obtain ⟨v, H2, os2, bare, un, held2, rz, q⟩ := h
    cases (show v = .bl true from q)
    cases (show z = Value.bool true from rz)
    have kept : ∀ b o, b ∉ cs.map (·.2) → st.heap.get? b = some o → s2.heap.get? b = some o := fun b o nb e => by
      cases q : H b with
      | none => exact un.keep b o e q (fun z => absurd (show b ∈ ([] : List Addr) from z) (by simp)) (by simp)
      | some y =>
        rcases what b y q with ⟨hb, _⟩ | ⟨_, rfl, _, rfl⟩
        · exact absurd hb nb
        · rw [← hu] at q
          have e1 := (held2 _ _ (un.frzs _ _ _ q)).1
          rw [scr] at e
          cases e
          exact e1
    have grew : ∀ p ∈ cs, ∃ more : Array Value, s2.heap.get? p.2 = some { cls := .none, data := .fields more } := fun p hp => by
      obtain ⟨more, z⟩ := un.tbls p.2 #[] (tabH p hp)
      exact ⟨_, held2 p.2 _ z⟩
    refine ⟨rfl, ⟨fun b o e => ?_, fun b o e => ?_⟩, os2, bare⟩
    · by_cases hb : b ∈ cs.map (·.2)
      · obtain ⟨p, hp, rfl⟩ := List.mem_map.mp hb
        obtain ⟨more, hm⟩ := grew p hp
        rw [isT p hp] at e
        cases e
        exact .inr (.inl ⟨((isC p hp).tab (isT p hp)).isCodeTable, rfl, #[], more, rfl, by rw [Array.empty_append]; exact hm⟩)
      · exact .inl (kept b o hb e)
    · by_cases hb : b ∈ cs.map (·.2)
      · obtain ⟨p, hp, rfl⟩ := List.mem_map.mp hb
        obtain ⟨more, hm⟩ := grew p hp
        exact ⟨_, hm⟩
      · exact ⟨o, kept b o hb e⟩
/-- what the law's def promises where the head has ended -/
def LawG (l : PySem.W.OpenLaw) (w : World) (K : PySem.W.Frag) (k n : Nat) (x : Str) (mg : Str → Option Value) (fa : Addr) (h : Heap) : Prop :=
  ∃ (fd : FuncData) (cs : List (Addr × Addr)) (sp : Sp), (∀ p ∈ cs, h.get? p.2 = some { cls := .none, data := .fields #[] }) ∧ (∀ p ∈ cs, K.lookup p.2 = none) ∧ (∀ p ∈ cs, PySem.W.CodeHd h p.1 p.2) ∧ (∀ (s : Shared) (u : Value), BindsTo s fd ⟨[u], []⟩ [(x, u)]) ∧
    (∀ (H : Hp) (a : Addr) (ns : List Int), ns.length ≤ n → (∀ p ∈ cs, H p.2 = some (.tbl #[])) → SqL K H a (ns.map V.int) → sp [.ref a] H (fun v _ => v = .bl true) fun _ _ _ => False) ∧
    ∀ base : Heap, K.In base → base.Ns mainGlobals mg → (∃ ob, base.get? sysModules = some ob) → (∀ p ∈ cs, LamX.TabB base mg p.1 p.2) → FnG l.prog w K mg base CX0 k fa fd [x] sp
theorem walk_ofG {l : PySem.W.OpenLaw} {n k : Nat} {q : Program} {loose : List Str} {XP : (Str → Option Value) → Heap → Prop} {YP : World → Heap → Prop} {d : DefRec} {K : Params → PySem.W.Frag} {x : Str}
    (hn : l.most = some n) (hn2 : n ≤ sizeLine) (hdf : d.params.defaults = []) (hi : importsNone q = true) (hr : Room k callerA) (hY : ∀ (w : World) (h : Heap), YP w h → (K w.params).In h)
    (F : ∀ (w : World) (mg : Str → Option Value) (fa : Addr) (h : Heap), YP w h → (K w.params).In h → h.Ns mainGlobals mg → mg d.name = some (.ref fa) → LawG l w (K w.params) k n x mg fa h) :
    PySem.W.WalkO q loose XP YP l.row.toRowW d [] (fun f vs => PySem.call f vs) := by
  refine Att.attach_call hn hdf fun w t0 t1 mg mb fa o pm cd doc a vs ns gr y1 ho hd hcd hmg hobj hints hlen hgen => ?_
  obtain ⟨fd, cs, sp, c1, c2, c3, c4, c5, c6⟩ := F w mg fa _ y1 (hY w _ y1) gr.T.g hmg
  exact law_callG (hY w _ y1) gr.T.g gr.T.b gr.T.builtins gr.T.nolimit hgen c1 c2 c3 gr.T.bmain hobj hints (Nat.le_trans hlen hn2) hr (let ⟨mm, hm, _⟩ := (gr.T.seer hi).mods; ⟨mm, hm⟩) c6 c4 fun H tabs sq => c5 H a ns hlen tabs sq
end Gd

namespace My
open PySem L2 ExV
/-! ### xs.count(b), xs a list of bools -/
def isB (k : Bool) : Value → Bool
  | .bool b => b == k
  | _ => false
theorem isB_at {k : Bool} {A : Around} {s : Shared} : ∀ {us : List Value} {bs : List Bool}, Vals (bs.map V.bl) us → ∀ y ∈ us, SeqAt.EqAt A s y (.bool k) (isB k y)
  | _, [], .nil => fun y hy => nomatch hy
  | _, b :: bs, .cons r rs => fun y hy => by
    cases r
    rcases List.mem_cons.mp hy with rfl | hy
    · exact SeqAt.EqAt.bool_bool b k
    · exact isB_at rs y hy
theorem isB_count {k : Bool} : ∀ {us : List Value} {bs : List Bool}, Vals (bs.map V.bl) us → us.countP (isB k) = bs.count k
  | _, [], .nil => rfl
  | _, b :: bs, .cons r rs => by
    cases r
    have ih := isB_count (k := k) rs
    rw [List.countP_cons, List.count_cons, ih]
    rfl
def rCntB (K : PySem.W.Frag) : V → List V → Hp → VK → Prop := fun x xs H Q => ∃ (p : Addr) (bs : List Bool) (k : Bool), x = .ref p ∧ xs = [.bl k] ∧ SqL K H p (bs.map V.bl) ∧ Q (.int (bs.count k : Nat)) H
theorem mt_bcount {X : Cx} : MtR X "list.count" (rCntB X.K) := by
  intro pins s σ H x xs v us Q I rx rxs h
  obtain ⟨p, bs, k, rfl, rfl, hs, q⟩ := h
  cases rx
  obtain ⟨u, rfl, ru⟩ := rxs.one
  cases ru
  obtain ⟨its, rv, ⟨⟨cls, dd, data, sl⟩, n, ho, hc, _, hd⟩, _⟩ := I.list hs
  dsimp only at hc hd
  subst hc hd
  refine call_meets PySem.F.slot_list_count ⟨_, ho, rfl⟩ PySem.F.entry_list_count (PySem.F.args_list_count_2 _ _) (SeqAt.list_countAt p its.toArray n dd sl (.bool k) (isB k)) ⟨ho, fun y hy => isB_at rv y (by simpa using hy), ?_⟩
  refine ⟨.int (bs.count k : Nat), H, I.tok _, ⟨s.toks, ?_⟩, q⟩
  have ec : its.toArray.toList.countP (isB k) = bs.count k := isB_count rv
  rw [ec]
/-! ### readings may be asked for more -/
section
variable {X : Cx} {e : Expr} {es : List Expr} {pos : Pos}
theorem pe_imp {t t' : TE} (h : PE X e t) (k : ∀ σ H Q, t' σ H Q → t σ H Q) : PE X e t' := ⟨fun pins s σ H Q I q => h.run pins s σ H Q I (k σ H Q q)⟩
theorem pa_imp {t t' : TA} (h : PA X es t) (k : ∀ σ H Q, t' σ H Q → t σ H Q) : PA X es t' := ⟨fun pos pins s σ H Q I q => h.run pos pins s σ H Q I (k σ H Q q)⟩
/-! ### rows of errors -/
inductive Errs (H : Hp) (v : V) : List Addr → List (Addr × Str) → Prop
  | nil : Errs H v [] []
  | cons {a C : Addr} {f : Str} {as : List Addr} {Cs : List (Addr × Str)} : Err H a C f v → Errs H v as Cs → Errs H v (a :: as) ((C, f) :: Cs)
theorem Errs.same {H H' : Hp} {v : V} (s : Same H H') : ∀ {as : List Addr} {Cs : List (Addr × Str)}, Errs H v as Cs → Errs H' v as Cs
  | _, _, .nil => .nil
  | _, _, .cons h t => .cons (h.same s) (t.same s)
theorem Errs.len {H : Hp} {v : V} : ∀ {as : List Addr} {Cs : List (Addr × Str)}, Errs H v as Cs → as.length = Cs.length
  | _, _, .nil => rfl
  | _, _, .cons _ t => congrArg (· + 1) t.len
theorem Errs.app {H : Hp} {v : V} {bs : List Addr} {Ds : List (Addr × Str)} (k : Errs H v bs Ds) : ∀ {as : List Addr} {Cs : List (Addr × Str)}, Errs H v as Cs → Errs H v (as ++ bs) (Cs ++ Ds)
  | _, _, .nil => k
  | _, _, .cons h t => .cons h (k.app t)
def tErr (C : Addr) (f : Str) (i : Nat) : TE := fun σ H Q => ∃ v, σ[i]? = some (some v) ∧ ∀ (a : Addr) (H' : Hp), Same H H' → Err H' a C f v → Q (.ref a) H'
def tErrs (Cs : List (Addr × Str)) (i : Nat) : TA := fun σ H R => ∃ v, σ[i]? = some (some v) ∧ ∀ (as : List Addr) (H' : Hp), Same H H' → Errs H' v as Cs → R (as.map V.ref) H'
theorem pa_err0 {i : Nat} : PA X [] (tErrs [] i) := pa_imp pa_nil fun σ H R ⟨v, _, q⟩ => q [] H (fun _ _ e => e) .nil
theorem pa_err {i : Nat} {C : Addr} {f : Str} {Cs : List (Addr × Str)} (he : PE X e (tErr C f i)) (hes : PA X es (tErrs Cs i)) (hs : starEach (e :: es) X.env = (false, eval e X.env) :: starEach es X.env := by rfl) : PA X (e :: es) (tErrs ((C, f) :: Cs) i) :=
  pa_imp (pa_cons he hes hs) fun σ H R ⟨v, hv, q⟩ => ⟨v, hv, fun a H1 s1 e1 => ⟨v, hv, fun as H2 s2 es => q (a :: as) H2 (Same.trans s1 s2) (.cons (e1.same s2) es)⟩⟩
def tErrL (Cs : List (Addr × Str)) (i : Nat) : TE := fun σ H Q => ∃ v, σ[i]? = some (some v) ∧ Cs.length ≤ sizeLine ∧ ∀ (L : Addr) (as : List Addr) (H' : Hp), Same H H' → H' L = some (.lst (as.map V.ref)) → Errs H' v as Cs → Q (.ref L) H'
theorem pe_errL {i : Nat} {Cs : List (Addr × Str)} (h : PA X es (tErrs Cs i)) : PE X (.List es pos) (tErrL Cs i) :=
  pe_imp (pe_lst h) fun σ H Q ⟨v, hv, hl, q⟩ => ⟨v, hv, fun as H' s1 e1 => ⟨by rw [List.length_map, e1.len]; exact hl, fun p np => q p as _ (Same.trans s1 (same_upd np)) upd_same (e1.same (same_upd np))⟩⟩
/-! ### rows of isinstance -/
def Kits (K : PySem.W.Frag) (C : Addr) (Ds : List Value) (bs : List Bool) : Prop := Ds.map (PySem.W.kitOne K (.ref C)) = bs.map some
theorem kits_app {K : PySem.W.Frag} {C : Addr} {Es : List Value} : ∀ {Ds : List Value} {bs : List Bool}, Kits K C (Ds ++ Es) bs → ∃ b1 b2, bs = b1 ++ b2 ∧ Kits K C Ds b1 ∧ Kits K C Es b2
  | [], bs, h => ⟨[], bs, rfl, rfl, h⟩
  | D :: Ds, [], h => by
    unfold Kits at h
    simp at h
  | D :: Ds, b :: bs, h => by
    have h' : PySem.W.kitOne K (.ref C) D :: (Ds ++ Es).map (PySem.W.kitOne K (.ref C)) = some b :: bs.map some := h
    obtain ⟨h1, h2⟩ := List.cons.inj h'
    obtain ⟨b1, b2, e, k1, k2⟩ := kits_app h2
    refine ⟨b :: b1, b2, by rw [e]; rfl, ?_, k2⟩
    show PySem.W.kitOne K (.ref C) D :: Ds.map (PySem.W.kitOne K (.ref C)) = some b :: b1.map some
    rw [h1, show Ds.map (PySem.W.kitOne K (.ref C)) = b1.map some from k1]
theorem Kits.len {K : PySem.W.Frag} {C : Addr} {Ds : List Value} {bs : List Bool} (h : Kits K C Ds bs) : bs.length = Ds.length := by
  have := congrArg List.length h
  rw [List.length_map, List.length_map] at this
  exact this.symm
def tIss (K : PySem.W.Frag) (Ds : List Value) (i : Nat) : TA := fun σ H R => ∃ (a C : Addr) (bs : List Bool), σ[i]? = some (some (.ref a)) ∧ Exn H a C ∧ XiC K C ∧ Kits K C Ds bs ∧ R (bs.map V.bl) H
theorem pa_is0 {i : Nat} : PA X [] (tIss X.K [] i) := pa_imp pa_nil fun σ H R ⟨a, C, bs, _, _, _, k, q⟩ => by
  have e : bs = [] := List.length_eq_zero_iff.mp k.len
  subst e
  exact q
/-- isinstance(x, D), .. -/
theorem pa_is {i : Nat} {c : V} {D : Value} {Ds : List Value} {x y : Str} {p1 p2 p3 pos : Pos} (hc : ∀ u, RelV c u → u = D) (hg : Gl X "isinstance") (hm : X.mg "isinstance" = none) (h1 : PE X (.Name x p2) (tVar i)) (h2 : PE X (.Name y p3) (tC c)) (hes : PA X es (tIss X.K Ds i))
    (hs : starEach (.Call (.Name "isinstance" p1) [.Name x p2, .Name y p3] [] pos :: es) X.env = (false, eval (.Call (.Name "isinstance" p1) [.Name x p2, .Name y p3] [] pos) X.env) :: starEach es X.env := by rfl) :
    PA X (.Call (.Name "isinstance" p1) [.Name x p2, .Name y p3] [] pos :: es) (tIss X.K (D :: Ds) i) := by
  refine pa_imp (pa_cons (pe_callB call_isV hg hm (by decide +kernel) (pa_cons h1 (pa_cons h2 pa_nil))) hes hs) fun σ H R ⟨a, C, bs, ha, hx, XC, k, q⟩ => ?_
  cases bs with
  | nil => exact absurd k.len (by simp)
  | cons b bs =>
    have k' : PySem.W.kitOne X.K (.ref C) D :: Ds.map (PySem.W.kitOne X.K (.ref C)) = some b :: bs.map some := k
    obtain ⟨k1, k2⟩ := List.cons.inj k'
    exact ⟨_, ha, a, C, c, D, b, rfl, hc, hx, XC, k1, a, C, bs, ha, hx, XC, k2, q⟩
def tIsL (K : PySem.W.Frag) (Ds : List Value) (i : Nat) : TE := fun σ H Q => ∃ (a C : Addr) (bs : List Bool), σ[i]? = some (some (.ref a)) ∧ Exn H a C ∧ XiC K C ∧ Kits K C Ds bs ∧ Ds.length ≤ sizeLine ∧ ∀ L, H L = none → Q (.ref L) (upd H L (.lst (bs.map V.bl)))
theorem pe_isL {i : Nat} {Ds : List Value} (h : PA X es (tIss X.K Ds i)) : PE X (.List es pos) (tIsL X.K Ds i) :=
  pe_imp (pe_lst h) fun σ H Q ⟨a, C, bs, ha, hx, XC, k, hl, q⟩ => ⟨a, C, bs, ha, hx, XC, k, by rw [List.length_map, k.len]; exact hl, q⟩
end
/-! ### the parameter, passed by its name -/
def gP (us ws : List Value) : List Value := us ++ ws
def gPV (us ws : List V) : List V := us ++ ws
theorem gP_rel {vs zs : List V} {us ws : List Value} (h1 : Vals vs us) (h2 : Vals zs ws) : Vals (gPV vs zs) (gP us ws) := h1.append h2
end My

namespace My
open PySem L2 ExV
/-- what is known of an error class that keeps its argument -/
structure ErC (P : Program) (w : World) (K : PySem.W.Frag) (mg : Str → Option Value) (base : Heap) (x : Str) (C : Addr) (fld : Str) : Prop where
  g : mg x = some (.ref C)
  xi : XiC K C
  no : PySem.W.findIn K (.ref C) fld = some none
  ex : ∃ (B nId iId : String) (tail : List Value) (fI : Addr) (fd : FuncData), Tail B nId iId tail ∧ XvC K C nId tail ∧ PySem.W.findIn K (.ref C) "__init__" = some (some (.ref fI)) ∧ PySem.W.typeIn K (.ref fI) = some (.type "function") ∧
    Binds K fd ["self", fld] [] ∧ KBn K fd ["self", fld] 1 [fld] gP gPV ∧ FnOk P w K mg base CX0 1 fI fd ["self", fld] (spIni C fld)
/-- what is known of an error class without own fields -/
structure StC (K : PySem.W.Frag) (mg : Str → Option Value) (x : Str) (C : Addr) : Prop where
  g : mg x = some (.ref C)
  xi : XiC K C
  ei : PySem.W.excIn K C [.type "LookupError", .type "Exception", .type "BaseException", .type "object"] "LookupError.__new__" = true
  k : PySem.W.keepIn K (.ref C) = true
section
variable {X : Cx} {x fld : Str} {C : Addr} {e : Expr} {i : Nat} {p pos kpos : Pos}
theorem pe_posE (E : ErC X.prog X.w X.K X.mg X.base x C fld) (hr : Room 2 X.A) (he : PE X e (tVar i)) (hg : Gl X x := by rfl) (hdb : (x == ("__debug__" : Str)) = false := by decide) (hs : starEach [e] X.env = (false, eval e X.env) :: starEach [] X.env := by rfl) :
    PE X (.Call (.Name x p) [e] [] pos) (tErr C fld i) := by
  obtain ⟨B, nId, iId, tail, fI, fd, T, V, iC, tI, hb, _, F⟩ := E.ex
  exact pe_imp (pe_mkV T V iC tI F hr hb hg E.g he hdb hs) fun σ H Q q => q
theorem pe_kwE (E : ErC X.prog X.w X.K X.mg X.base x C fld) (hr : Room 2 X.A) (he : PE X e (tVar i)) (hg : Gl X x := by rfl) (hdb : (x == ("__debug__" : Str)) = false := by decide) :
    PE X (.Call (.Name x p) [] [⟨some fld, e, kpos⟩] pos) (tErr C fld i) := by
  obtain ⟨B, nId, iId, tail, fI, fd, T, V, iC, tI, _, kb, F⟩ := E.ex
  exact pe_imp (pe_mkVK T V iC tI F hr kb (fun _ _ => rfl) hg E.g (pk_cons he pk_nil) rfl rfl hdb rfl) fun σ H Q ⟨v, hv, q⟩ => ⟨v, hv, v, rfl, q⟩
theorem pe_stC (E : StC X.K X.mg x C) (hg : Gl X x := by rfl) (hdb : (x == ("__debug__" : Str)) = false := by decide) :
    PE X (.Call (.Name x p) [] [] pos) (fun σ H Q => ∀ (a : Addr) (H' : Hp), Same H H' → H' a = some (ExO (.ref C) a) → Q (.ref a) H') := pe_mk0 PySem.F.excBase_LookupError E.ei E.g E.k hg hdb
end
section
variable {P : Program} {w : World} {K : PySem.W.Frag} {mg : Str → Option Value} {base : Heap} {C fI : Addr} {fd : FuncData}
theorem er_NotALoop (g : mg "NotALoop" = some (.ref C)) (xi : XiC K C) (no : PySem.W.findIn K (.ref C) "value" = some none) (V : XvC K C "ValueError.__new__" [.type "ValueError", .type "Exception", .type "BaseException", .type "object"]) (iC : PySem.W.findIn K (.ref C) "__init__" = some (some (.ref fI))) (tI : PySem.W.typeIn K (.ref fI) = some (.type "function"))
    (F : Fun K "__init__" "NotALoop.__init__" (inClass (top 2) 0) fI fd) (b : Binds K fd ["self", "value"] []) (kb : KBn K fd ["self", "value"] 1 ["value"] gP gPV) : ErC P w K mg base "NotALoop" C "value" := by
  have sc : FnScope ["self", "value"] ["self", "value"] (defScope (inClass (top 2) 0)) := ⟨rfl, rfl, rfl, by decide +kernel, rfl, by decide +kernel, by decide +kernel⟩
  refine ⟨g, xi, no, _, _, _, _, fI, fd, tail_V, V, iC, tI, b, kb, F.ok sc (fun vs H Q E h => ?_) fun cdv A outer s H vs Q E hr h => ?_⟩
  · obtain ⟨a, v, rfl, _⟩ := h
    rfl
  · obtain ⟨a, v, rfl, ha, k⟩ := h
    refine ⟨_, pss_one (ps_ostV (pv 0) (pv 1)), ?_⟩
    exact ⟨_, rfl, _, rfl, a, C, _, _, _, _, rfl, tail_V, V, no, ha, fun dx n ne => k dx n ne⟩
theorem er_NotASource (g : mg "NotASource" = some (.ref C)) (xi : XiC K C) (no : PySem.W.findIn K (.ref C) "value" = some none) (V : XvC K C "ValueError.__new__" [.type "ValueError", .type "Exception", .type "BaseException", .type "object"]) (iC : PySem.W.findIn K (.ref C) "__init__" = some (some (.ref fI))) (tI : PySem.W.typeIn K (.ref fI) = some (.type "function"))
    (F : Fun K "__init__" "NotASource.__init__" (inClass (top 3) 0) fI fd) (b : Binds K fd ["self", "value"] []) (kb : KBn K fd ["self", "value"] 1 ["value"] gP gPV) : ErC P w K mg base "NotASource" C "value" := by
  have sc : FnScope ["self", "value"] ["self", "value"] (defScope (inClass (top 3) 0)) := ⟨rfl, rfl, rfl, by decide +kernel, rfl, by decide +kernel, by decide +kernel⟩
  refine ⟨g, xi, no, _, _, _, _, fI, fd, tail_V, V, iC, tI, b, kb, F.ok sc (fun vs H Q E h => ?_) fun cdv A outer s H vs Q E hr h => ?_⟩
  · obtain ⟨a, v, rfl, _⟩ := h
    rfl
  · obtain ⟨a, v, rfl, ha, k⟩ := h
    refine ⟨_, pss_one (ps_ostV (pv 0) (pv 1)), ?_⟩
    exact ⟨_, rfl, _, rfl, a, C, _, _, _, _, rfl, tail_V, V, no, ha, fun dx n ne => k dx n ne⟩
theorem er_NotAChain (g : mg "NotAChain" = some (.ref C)) (xi : XiC K C) (no : PySem.W.findIn K (.ref C) "value" = some none) (V : XvC K C "ValueError.__new__" [.type "ValueError", .type "Exception", .type "BaseException", .type "object"]) (iC : PySem.W.findIn K (.ref C) "__init__" = some (some (.ref fI))) (tI : PySem.W.typeIn K (.ref fI) = some (.type "function"))
    (F : Fun K "__init__" "NotAChain.__init__" (inClass (top 4) 0) fI fd) (b : Binds K fd ["self", "value"] []) (kb : KBn K fd ["self", "value"] 1 ["value"] gP gPV) : ErC P w K mg base "NotAChain" C "value" := by
  have sc : FnScope ["self", "value"] ["self", "value"] (defScope (inClass (top 4) 0)) := ⟨rfl, rfl, rfl, by decide +kernel, rfl, by decide +kernel, by decide +kernel⟩
  refine ⟨g, xi, no, _, _, _, _, fI, fd, tail_V, V, iC, tI, b, kb, F.ok sc (fun vs H Q E h => ?_) fun cdv A outer s H vs Q E hr h => ?_⟩
  · obtain ⟨a, v, rfl, _⟩ := h
    rfl
  · obtain ⟨a, v, rfl, ha, k⟩ := h
    refine ⟨_, pss_one (ps_ostV (pv 0) (pv 1)), ?_⟩
    exact ⟨_, rfl, _, rfl, a, C, _, _, _, _, rfl, tail_V, V, no, ha, fun dx n ne => k dx n ne⟩
theorem er_NotAReading (g : mg "NotAReading" = some (.ref C)) (xi : XiC K C) (no : PySem.W.findIn K (.ref C) "value" = some none) (V : XvC K C "ValueError.__new__" [.type "ValueError", .type "Exception", .type "BaseException", .type "object"]) (iC : PySem.W.findIn K (.ref C) "__init__" = some (some (.ref fI))) (tI : PySem.W.typeIn K (.ref fI) = some (.type "function"))
    (F : Fun K "__init__" "NotAReading.__init__" (inClass (top 5) 0) fI fd) (b : Binds K fd ["self", "value"] []) (kb : KBn K fd ["self", "value"] 1 ["value"] gP gPV) : ErC P w K mg base "NotAReading" C "value" := by
  have sc : FnScope ["self", "value"] ["self", "value"] (defScope (inClass (top 5) 0)) := ⟨rfl, rfl, rfl, by decide +kernel, rfl, by decide +kernel, by decide +kernel⟩
  refine ⟨g, xi, no, _, _, _, _, fI, fd, tail_V, V, iC, tI, b, kb, F.ok sc (fun vs H Q E h => ?_) fun cdv A outer s H vs Q E hr h => ?_⟩
  · obtain ⟨a, v, rfl, _⟩ := h
    rfl
  · obtain ⟨a, v, rfl, ha, k⟩ := h
    refine ⟨_, pss_one (ps_ostV (pv 0) (pv 1)), ?_⟩
    exact ⟨_, rfl, _, rfl, a, C, _, _, _, _, rfl, tail_V, V, no, ha, fun dx n ne => k dx n ne⟩
theorem er_InvalidText (g : mg "InvalidText" = some (.ref C)) (xi : XiC K C) (no : PySem.W.findIn K (.ref C) "value" = some none) (V : XvC K C "ValueError.__new__" [.type "ValueError", .type "Exception", .type "BaseException", .type "object"]) (iC : PySem.W.findIn K (.ref C) "__init__" = some (some (.ref fI))) (tI : PySem.W.typeIn K (.ref fI) = some (.type "function"))
    (F : Fun K "__init__" "InvalidText.__init__" (inClass (top 6) 0) fI fd) (b : Binds K fd ["self", "value"] []) (kb : KBn K fd ["self", "value"] 1 ["value"] gP gPV) : ErC P w K mg base "InvalidText" C "value" := by
  have sc : FnScope ["self", "value"] ["self", "value"] (defScope (inClass (top 6) 0)) := ⟨rfl, rfl, rfl, by decide +kernel, rfl, by decide +kernel, by decide +kernel⟩
  refine ⟨g, xi, no, _, _, _, _, fI, fd, tail_V, V, iC, tI, b, kb, F.ok sc (fun vs H Q E h => ?_) fun cdv A outer s H vs Q E hr h => ?_⟩
  · obtain ⟨a, v, rfl, _⟩ := h
    rfl
  · obtain ⟨a, v, rfl, ha, k⟩ := h
    refine ⟨_, pss_one (ps_ostV (pv 0) (pv 1)), ?_⟩
    exact ⟨_, rfl, _, rfl, a, C, _, _, _, _, rfl, tail_V, V, no, ha, fun dx n ne => k dx n ne⟩
theorem er_InvalidWord (g : mg "InvalidWord" = some (.ref C)) (xi : XiC K C) (no : PySem.W.findIn K (.ref C) "value" = some none) (V : XvC K C "ValueError.__new__" [.type "ValueError", .type "Exception", .type "BaseException", .type "object"]) (iC : PySem.W.findIn K (.ref C) "__init__" = some (some (.ref fI))) (tI : PySem.W.typeIn K (.ref fI) = some (.type "function"))
    (F : Fun K "__init__" "InvalidWord.__init__" (inClass (top 7) 0) fI fd) (b : Binds K fd ["self", "value"] []) (kb : KBn K fd ["self", "value"] 1 ["value"] gP gPV) : ErC P w K mg base "InvalidWord" C "value" := by
  have sc : FnScope ["self", "value"] ["self", "value"] (defScope (inClass (top 7) 0)) := ⟨rfl, rfl, rfl, by decide +kernel, rfl, by decide +kernel, by decide +kernel⟩
  refine ⟨g, xi, no, _, _, _, _, fI, fd, tail_V, V, iC, tI, b, kb, F.ok sc (fun vs H Q E h => ?_) fun cdv A outer s H vs Q E hr h => ?_⟩
  · obtain ⟨a, v, rfl, _⟩ := h
    rfl
  · obtain ⟨a, v, rfl, ha, k⟩ := h
    refine ⟨_, pss_one (ps_ostV (pv 0) (pv 1)), ?_⟩
    exact ⟨_, rfl, _, rfl, a, C, _, _, _, _, rfl, tail_V, V, no, ha, fun dx n ne => k dx n ne⟩
theorem er_InvalidItems (g : mg "InvalidItems" = some (.ref C)) (xi : XiC K C) (no : PySem.W.findIn K (.ref C) "value" = some none) (V : XvC K C "ValueError.__new__" [.type "ValueError", .type "Exception", .type "BaseException", .type "object"]) (iC : PySem.W.findIn K (.ref C) "__init__" = some (some (.ref fI))) (tI : PySem.W.typeIn K (.ref fI) = some (.type "function"))
    (F : Fun K "__init__" "InvalidItems.__init__" (inClass (top 8) 0) fI fd) (b : Binds K fd ["self", "value"] []) (kb : KBn K fd ["self", "value"] 1 ["value"] gP gPV) : ErC P w K mg base "InvalidItems" C "value" := by
  have sc : FnScope ["self", "value"] ["self", "value"] (defScope (inClass (top 8) 0)) := ⟨rfl, rfl, rfl, by decide +kernel, rfl, by decide +kernel, by decide +kernel⟩
  refine ⟨g, xi, no, _, _, _, _, fI, fd, tail_V, V, iC, tI, b, kb, F.ok sc (fun vs H Q E h => ?_) fun cdv A outer s H vs Q E hr h => ?_⟩
  · obtain ⟨a, v, rfl, _⟩ := h
    rfl
  · obtain ⟨a, v, rfl, ha, k⟩ := h
    refine ⟨_, pss_one (ps_ostV (pv 0) (pv 1)), ?_⟩
    exact ⟨_, rfl, _, rfl, a, C, _, _, _, _, rfl, tail_V, V, no, ha, fun dx n ne => k dx n ne⟩
theorem er_InvalidSize (g : mg "InvalidSize" = some (.ref C)) (xi : XiC K C) (no : PySem.W.findIn K (.ref C) "value" = some none) (V : XvC K C "ValueError.__new__" [.type "ValueError", .type "Exception", .type "BaseException", .type "object"]) (iC : PySem.W.findIn K (.ref C) "__init__" = some (some (.ref fI))) (tI : PySem.W.typeIn K (.ref fI) = some (.type "function"))
    (F : Fun K "__init__" "InvalidSize.__init__" (inClass (top 9) 0) fI fd) (b : Binds K fd ["self", "value"] []) (kb : KBn K fd ["self", "value"] 1 ["value"] gP gPV) : ErC P w K mg base "InvalidSize" C "value" := by
  have sc : FnScope ["self", "value"] ["self", "value"] (defScope (inClass (top 9) 0)) := ⟨rfl, rfl, rfl, by decide +kernel, rfl, by decide +kernel, by decide +kernel⟩
  refine ⟨g, xi, no, _, _, _, _, fI, fd, tail_V, V, iC, tI, b, kb, F.ok sc (fun vs H Q E h => ?_) fun cdv A outer s H vs Q E hr h => ?_⟩
  · obtain ⟨a, v, rfl, _⟩ := h
    rfl
  · obtain ⟨a, v, rfl, ha, k⟩ := h
    refine ⟨_, pss_one (ps_ostV (pv 0) (pv 1)), ?_⟩
    exact ⟨_, rfl, _, rfl, a, C, _, _, _, _, rfl, tail_V, V, no, ha, fun dx n ne => k dx n ne⟩
theorem er_InvalidName (g : mg "InvalidName" = some (.ref C)) (xi : XiC K C) (no : PySem.W.findIn K (.ref C) "value" = some none) (V : XvC K C "ValueError.__new__" [.type "ValueError", .type "Exception", .type "BaseException", .type "object"]) (iC : PySem.W.findIn K (.ref C) "__init__" = some (some (.ref fI))) (tI : PySem.W.typeIn K (.ref fI) = some (.type "function"))
    (F : Fun K "__init__" "InvalidName.__init__" (inClass (top 10) 0) fI fd) (b : Binds K fd ["self", "value"] []) (kb : KBn K fd ["self", "value"] 1 ["value"] gP gPV) : ErC P w K mg base "InvalidName" C "value" := by
  have sc : FnScope ["self", "value"] ["self", "value"] (defScope (inClass (top 10) 0)) := ⟨rfl, rfl, rfl, by decide +kernel, rfl, by decide +kernel, by decide +kernel⟩
  refine ⟨g, xi, no, _, _, _, _, fI, fd, tail_V, V, iC, tI, b, kb, F.ok sc (fun vs H Q E h => ?_) fun cdv A outer s H vs Q E hr h => ?_⟩
  · obtain ⟨a, v, rfl, _⟩ := h
    rfl
  · obtain ⟨a, v, rfl, ha, k⟩ := h
    refine ⟨_, pss_one (ps_ostV (pv 0) (pv 1)), ?_⟩
    exact ⟨_, rfl, _, rfl, a, C, _, _, _, _, rfl, tail_V, V, no, ha, fun dx n ne => k dx n ne⟩
theorem er_InvalidCount (g : mg "InvalidCount" = some (.ref C)) (xi : XiC K C) (no : PySem.W.findIn K (.ref C) "value" = some none) (V : XvC K C "ValueError.__new__" [.type "ValueError", .type "Exception", .type "BaseException", .type "object"]) (iC : PySem.W.findIn K (.ref C) "__init__" = some (some (.ref fI))) (tI : PySem.W.typeIn K (.ref fI) = some (.type "function"))
    (F : Fun K "__init__" "InvalidCount.__init__" (inClass (top 11) 0) fI fd) (b : Binds K fd ["self", "value"] []) (kb : KBn K fd ["self", "value"] 1 ["value"] gP gPV) : ErC P w K mg base "InvalidCount" C "value" := by
  have sc : FnScope ["self", "value"] ["self", "value"] (defScope (inClass (top 11) 0)) := ⟨rfl, rfl, rfl, by decide +kernel, rfl, by decide +kernel, by decide +kernel⟩
  refine ⟨g, xi, no, _, _, _, _, fI, fd, tail_V, V, iC, tI, b, kb, F.ok sc (fun vs H Q E h => ?_) fun cdv A outer s H vs Q E hr h => ?_⟩
  · obtain ⟨a, v, rfl, _⟩ := h
    rfl
  · obtain ⟨a, v, rfl, ha, k⟩ := h
    refine ⟨_, pss_one (ps_ostV (pv 0) (pv 1)), ?_⟩
    exact ⟨_, rfl, _, rfl, a, C, _, _, _, _, rfl, tail_V, V, no, ha, fun dx n ne => k dx n ne⟩
theorem er_InvalidTold (g : mg "InvalidTold" = some (.ref C)) (xi : XiC K C) (no : PySem.W.findIn K (.ref C) "value" = some none) (V : XvC K C "ValueError.__new__" [.type "ValueError", .type "Exception", .type "BaseException", .type "object"]) (iC : PySem.W.findIn K (.ref C) "__init__" = some (some (.ref fI))) (tI : PySem.W.typeIn K (.ref fI) = some (.type "function"))
    (F : Fun K "__init__" "InvalidTold.__init__" (inClass (top 12) 0) fI fd) (b : Binds K fd ["self", "value"] []) (kb : KBn K fd ["self", "value"] 1 ["value"] gP gPV) : ErC P w K mg base "InvalidTold" C "value" := by
  have sc : FnScope ["self", "value"] ["self", "value"] (defScope (inClass (top 12) 0)) := ⟨rfl, rfl, rfl, by decide +kernel, rfl, by decide +kernel, by decide +kernel⟩
  refine ⟨g, xi, no, _, _, _, _, fI, fd, tail_V, V, iC, tI, b, kb, F.ok sc (fun vs H Q E h => ?_) fun cdv A outer s H vs Q E hr h => ?_⟩
  · obtain ⟨a, v, rfl, _⟩ := h
    rfl
  · obtain ⟨a, v, rfl, ha, k⟩ := h
    refine ⟨_, pss_one (ps_ostV (pv 0) (pv 1)), ?_⟩
    exact ⟨_, rfl, _, rfl, a, C, _, _, _, _, rfl, tail_V, V, no, ha, fun dx n ne => k dx n ne⟩
theorem er_InvalidPlace (g : mg "InvalidPlace" = some (.ref C)) (xi : XiC K C) (no : PySem.W.findIn K (.ref C) "value" = some none) (V : XvC K C "ValueError.__new__" [.type "ValueError", .type "Exception", .type "BaseException", .type "object"]) (iC : PySem.W.findIn K (.ref C) "__init__" = some (some (.ref fI))) (tI : PySem.W.typeIn K (.ref fI) = some (.type "function"))
    (F : Fun K "__init__" "InvalidPlace.__init__" (inClass (top 13) 0) fI fd) (b : Binds K fd ["self", "value"] []) (kb : KBn K fd ["self", "value"] 1 ["value"] gP gPV) : ErC P w K mg base "InvalidPlace" C "value" := by
  have sc : FnScope ["self", "value"] ["self", "value"] (defScope (inClass (top 13) 0)) := ⟨rfl, rfl, rfl, by decide +kernel, rfl, by decide +kernel, by decide +kernel⟩
  refine ⟨g, xi, no, _, _, _, _, fI, fd, tail_V, V, iC, tI, b, kb, F.ok sc (fun vs H Q E h => ?_) fun cdv A outer s H vs Q E hr h => ?_⟩
  · obtain ⟨a, v, rfl, _⟩ := h
    rfl
  · obtain ⟨a, v, rfl, ha, k⟩ := h
    refine ⟨_, pss_one (ps_ostV (pv 0) (pv 1)), ?_⟩
    exact ⟨_, rfl, _, rfl, a, C, _, _, _, _, rfl, tail_V, V, no, ha, fun dx n ne => k dx n ne⟩
theorem er_InvalidRow (g : mg "InvalidRow" = some (.ref C)) (xi : XiC K C) (no : PySem.W.findIn K (.ref C) "value" = some none) (V : XvC K C "ValueError.__new__" [.type "ValueError", .type "Exception", .type "BaseException", .type "object"]) (iC : PySem.W.findIn K (.ref C) "__init__" = some (some (.ref fI))) (tI : PySem.W.typeIn K (.ref fI) = some (.type "function"))
    (F : Fun K "__init__" "InvalidRow.__init__" (inClass (top 14) 0) fI fd) (b : Binds K fd ["self", "value"] []) (kb : KBn K fd ["self", "value"] 1 ["value"] gP gPV) : ErC P w K mg base "InvalidRow" C "value" := by
  have sc : FnScope ["self", "value"] ["self", "value"] (defScope (inClass (top 14) 0)) := ⟨rfl, rfl, rfl, by decide +kernel, rfl, by decide +kernel, by decide +kernel⟩
  refine ⟨g, xi, no, _, _, _, _, fI, fd, tail_V, V, iC, tI, b, kb, F.ok sc (fun vs H Q E h => ?_) fun cdv A outer s H vs Q E hr h => ?_⟩
  · obtain ⟨a, v, rfl, _⟩ := h
    rfl
  · obtain ⟨a, v, rfl, ha, k⟩ := h
    refine ⟨_, pss_one (ps_ostV (pv 0) (pv 1)), ?_⟩
    exact ⟨_, rfl, _, rfl, a, C, _, _, _, _, rfl, tail_V, V, no, ha, fun dx n ne => k dx n ne⟩
theorem er_InvalidReplies (g : mg "InvalidReplies" = some (.ref C)) (xi : XiC K C) (no : PySem.W.findIn K (.ref C) "index" = some none) (V : XvC K C "ValueError.__new__" [.type "ValueError", .type "Exception", .type "BaseException", .type "object"]) (iC : PySem.W.findIn K (.ref C) "__init__" = some (some (.ref fI))) (tI : PySem.W.typeIn K (.ref fI) = some (.type "function"))
    (F : Fun K "__init__" "InvalidReplies.__init__" (inClass (top 15) 0) fI fd) (b : Binds K fd ["self", "index"] []) (kb : KBn K fd ["self", "index"] 1 ["index"] gP gPV) : ErC P w K mg base "InvalidReplies" C "index" := by
  have sc : FnScope ["self", "index"] ["self", "index"] (defScope (inClass (top 15) 0)) := ⟨rfl, rfl, rfl, by decide +kernel, rfl, by decide +kernel, by decide +kernel⟩
  refine ⟨g, xi, no, _, _, _, _, fI, fd, tail_V, V, iC, tI, b, kb, F.ok sc (fun vs H Q E h => ?_) fun cdv A outer s H vs Q E hr h => ?_⟩
  · obtain ⟨a, v, rfl, _⟩ := h
    rfl
  · obtain ⟨a, v, rfl, ha, k⟩ := h
    refine ⟨_, pss_one (ps_ostV (pv 0) (pv 1)), ?_⟩
    exact ⟨_, rfl, _, rfl, a, C, _, _, _, _, rfl, tail_V, V, no, ha, fun dx n ne => k dx n ne⟩
theorem er_InvalidDeeds (g : mg "InvalidDeeds" = some (.ref C)) (xi : XiC K C) (no : PySem.W.findIn K (.ref C) "index" = some none) (V : XvC K C "ValueError.__new__" [.type "ValueError", .type "Exception", .type "BaseException", .type "object"]) (iC : PySem.W.findIn K (.ref C) "__init__" = some (some (.ref fI))) (tI : PySem.W.typeIn K (.ref fI) = some (.type "function"))
    (F : Fun K "__init__" "InvalidDeeds.__init__" (inClass (top 16) 0) fI fd) (b : Binds K fd ["self", "index"] []) (kb : KBn K fd ["self", "index"] 1 ["index"] gP gPV) : ErC P w K mg base "InvalidDeeds" C "index" := by
  have sc : FnScope ["self", "index"] ["self", "index"] (defScope (inClass (top 16) 0)) := ⟨rfl, rfl, rfl, by decide +kernel, rfl, by decide +kernel, by decide +kernel⟩
  refine ⟨g, xi, no, _, _, _, _, fI, fd, tail_V, V, iC, tI, b, kb, F.ok sc (fun vs H Q E h => ?_) fun cdv A outer s H vs Q E hr h => ?_⟩
  · obtain ⟨a, v, rfl, _⟩ := h
    rfl
  · obtain ⟨a, v, rfl, ha, k⟩ := h
    refine ⟨_, pss_one (ps_ostV (pv 0) (pv 1)), ?_⟩
    exact ⟨_, rfl, _, rfl, a, C, _, _, _, _, rfl, tail_V, V, no, ha, fun dx n ne => k dx n ne⟩
theorem er_TooManyReplies (g : mg "TooManyReplies" = some (.ref C)) (xi : XiC K C) (no : PySem.W.findIn K (.ref C) "limit" = some none) (V : XvC K C "ArithmeticError.__new__" [.type "ArithmeticError", .type "Exception", .type "BaseException", .type "object"]) (iC : PySem.W.findIn K (.ref C) "__init__" = some (some (.ref fI))) (tI : PySem.W.typeIn K (.ref fI) = some (.type "function"))
    (F : Fun K "__init__" "TooManyReplies.__init__" (inClass (top 22) 0) fI fd) (b : Binds K fd ["self", "limit"] []) (kb : KBn K fd ["self", "limit"] 1 ["limit"] gP gPV) : ErC P w K mg base "TooManyReplies" C "limit" := by
  have sc : FnScope ["self", "limit"] ["self", "limit"] (defScope (inClass (top 22) 0)) := ⟨rfl, rfl, rfl, by decide +kernel, rfl, by decide +kernel, by decide +kernel⟩
  refine ⟨g, xi, no, _, _, _, _, fI, fd, tail_A, V, iC, tI, b, kb, F.ok sc (fun vs H Q E h => ?_) fun cdv A outer s H vs Q E hr h => ?_⟩
  · obtain ⟨a, v, rfl, _⟩ := h
    rfl
  · obtain ⟨a, v, rfl, ha, k⟩ := h
    refine ⟨_, pss_one (ps_ostV (pv 0) (pv 1)), ?_⟩
    exact ⟨_, rfl, _, rfl, a, C, _, _, _, _, rfl, tail_A, V, no, ha, fun dx n ne => k dx n ne⟩
end
/-- all that is known of the classes; cl: where they stand -/
structure Ers (P : Program) (w : World) (K : PySem.W.Frag) (mg : Str → Option Value) (base : Heap) (cl : Nat → Addr) : Prop where
  e2 : ErC P w K mg base "NotALoop" (cl 2) "value"
  e3 : ErC P w K mg base "NotASource" (cl 3) "value"
  e4 : ErC P w K mg base "NotAChain" (cl 4) "value"
  e5 : ErC P w K mg base "NotAReading" (cl 5) "value"
  e6 : ErC P w K mg base "InvalidText" (cl 6) "value"
  e7 : ErC P w K mg base "InvalidWord" (cl 7) "value"
  e8 : ErC P w K mg base "InvalidItems" (cl 8) "value"
  e9 : ErC P w K mg base "InvalidSize" (cl 9) "value"
  e10 : ErC P w K mg base "InvalidName" (cl 10) "value"
  e11 : ErC P w K mg base "InvalidCount" (cl 11) "value"
  e12 : ErC P w K mg base "InvalidTold" (cl 12) "value"
  e13 : ErC P w K mg base "InvalidPlace" (cl 13) "value"
  e14 : ErC P w K mg base "InvalidRow" (cl 14) "value"
  e15 : ErC P w K mg base "InvalidReplies" (cl 15) "index"
  e16 : ErC P w K mg base "InvalidDeeds" (cl 16) "index"
  e22 : ErC P w K mg base "TooManyReplies" (cl 22) "limit"
  e18 : StC K mg "Stopped" (cl 18)
  e19 : StC K mg "NothingToUndo" (cl 19)
  e20 : StC K mg "Busy" (cl 20)
  g1 : mg "InputError" = some (.ref (cl 1))
  g17 : mg "StateError" = some (.ref (cl 17))
  g21 : mg "SizeError" = some (.ref (cl 21))
  n_isinstance : mg "isinstance" = none
  n_ValueError : mg "ValueError" = none
  n_LookupError : mg "LookupError" = none
  n_ArithmeticError : mg "ArithmeticError" = none
end My

namespace My
open PySem L2 ExV
abbrev sVal : Stmt := top 33
abbrev sOth : Stmt := top 34
/-! ### rows of errors, put together -/
def tCatE (Cs : List (Addr × Str)) (i j : Nat) : TE := fun σ H Q => ∃ (v : V) (L1 : Addr) (as1 : List Addr) (Cs1 : List (Addr × Str)), σ[i]? = some (some v) ∧ σ[j]? = some (some (.ref L1)) ∧ H L1 = some (.lst (as1.map V.ref)) ∧ Errs H v as1 Cs1 ∧ Cs1.length + Cs.length ≤ 1000 ∧
  ∀ (L : Addr) (as : List Addr) (H' : Hp), Same H H' → H' L = some (.lst (as.map V.ref)) → Errs H' v as (Cs1 ++ Cs) → Q (.ref L) H'
theorem le1000 {n : Nat} (h : n ≤ 1000) : n ≤ sizeLine := Nat.le_of_lt (small1000 h)
theorem pe_catE {X : Cx} {a b : Expr} {pos : Pos} {Cs : List (Addr × Str)} {i j : Nat} (h1 : PE X a (tVar j)) (h2 : PE X b (tErrL Cs i)) : PE X (.BinOp a .Add b pos) (tCatE Cs i j) :=
  pe_imp (pe_op op_cat h1 h2) fun σ H Q ⟨v, L1, as1, Cs1, hv, hj, hL, e1, hl, q⟩ => ⟨_, hj, v, hv, le1000 (by omega), fun L2 as2 H2 s2 h2 e2 =>
    ⟨L1, L2, _, _, rfl, rfl, s2 _ _ hL, h2, le1000 (by rw [List.length_map, List.length_map, e1.len, e2.len]; exact hl), fun p np => q p (as1 ++ as2) _ (Same.trans s2 (same_upd np)) (by rw [upd_same, List.map_append])
      (Errs.app (e2.same (same_upd np)) (e1.same (Same.trans s2 (same_upd np))))⟩⟩
def Vs (cl : Nat → Addr) : List (Addr × Str) := [(cl 2, "value"), (cl 3, "value"), (cl 4, "value"), (cl 5, "value"), (cl 6, "value"), (cl 7, "value"), (cl 8, "value"), (cl 9, "value"), (cl 10, "value"), (cl 11, "value"), (cl 12, "value"), (cl 13, "value"), (cl 14, "value")]
def spVal (cl : Nat → Addr) : Sp := fun vs H Q _ => ∃ v, vs = [v] ∧ ∀ (L : Addr) (as : List Addr) (H' : Hp), Same H H' → H' L = some (.lst (as.map V.ref)) → Errs H' v as (Vs cl ++ Vs cl) → Q (.ref L) H'
theorem scVal : FnScope ["_law_thing", "_law_one", "_law_two"] ["_law_thing"] (defScope sVal) := ⟨rfl, rfl, rfl, by decide +kernel, rfl, by decide +kernel, by decide +kernel⟩
def Is (cl : Nat → Addr) : List (Addr × Str) := [(cl 15, "index"), (cl 16, "index"), (cl 15, "index"), (cl 16, "index")]
def Ls (cl : Nat → Addr) : List (Addr × Str) := [(cl 22, "limit"), (cl 22, "limit")]
def spOth (cl : Nat → Addr) : Sp := fun vs H Q _ => ∃ v, vs = [v] ∧ ∀ (t L1 L2 : Addr) (as1 as2 : List Addr) (H' : Hp), Same H H' → H' t = some (.tup [.ref L1, .ref L2]) → H' L1 = some (.lst (as1.map V.ref)) → H' L2 = some (.lst (as2.map V.ref)) → Errs H' v as1 (Is cl) → Errs H' v as2 (Ls cl) → Q (.ref t) H'
theorem scOth : FnScope ["_law_thing", "_law_one"] ["_law_thing"] (defScope sOth) := ⟨rfl, rfl, rfl, by decide +kernel, rfl, by decide +kernel, by decide +kernel⟩
section
variable {P : Program} {w : World} {K : PySem.W.Frag} {mg : Str → Option Value} {base : Heap} {cl : Nat → Addr}
theorem ok_val {f : Addr} {fd : FuncData} (F : Fun K "_law_value_errors" "_law_value_errors" sVal f fd) (R : Ers P w K mg base cl) : FnOk P w K mg base CX0 3 f fd ["_law_thing"] (spVal cl) := by
  refine F.ok scVal (fun vs H Q E h => ?_) (fun cdv A outer s H vs Q E hr h => ?_)
  · obtain ⟨v, rfl, _⟩ := h
    rfl
  · obtain ⟨v, rfl, k⟩ := h
    have hr2 : Room 2 _ := hr.mono (by decide)
    refine ⟨_, pss_cons (ps_set (i := 1) scVal.nd rfl (.inl rfl) (pe_errL (pa_err (pe_posE R.e2 hr2 (pv 0)) (pa_err (pe_posE R.e3 hr2 (pv 0)) (pa_err (pe_posE R.e4 hr2 (pv 0)) (pa_err (pe_posE R.e5 hr2 (pv 0)) (pa_err (pe_posE R.e6 hr2 (pv 0)) pa_err0)))))))
      (pss_cons (ps_set (i := 1) scVal.nd rfl (.inl rfl) (pe_catE (pv 1) (pe_errL (pa_err (pe_posE R.e7 hr2 (pv 0)) (pa_err (pe_posE R.e8 hr2 (pv 0)) (pa_err (pe_posE R.e9 hr2 (pv 0)) (pa_err (pe_posE R.e10 hr2 (pv 0)) pa_err0)))))))
      (pss_cons (ps_set (i := 1) scVal.nd rfl (.inl rfl) (pe_catE (pv 1) (pe_errL (pa_err (pe_posE R.e11 hr2 (pv 0)) (pa_err (pe_posE R.e12 hr2 (pv 0)) (pa_err (pe_posE R.e13 hr2 (pv 0)) (pa_err (pe_posE R.e14 hr2 (pv 0)) pa_err0)))))))
      (pss_cons (ps_set (i := 2) scVal.nd rfl (.inl rfl) (pe_errL (pa_err (pe_kwE R.e2 hr2 (pv 0)) (pa_err (pe_kwE R.e3 hr2 (pv 0)) (pa_err (pe_kwE R.e4 hr2 (pv 0)) pa_err0)))))
      (pss_cons (ps_set (i := 2) scVal.nd rfl (.inl rfl) (pe_catE (pv 2) (pe_errL (pa_err (pe_kwE R.e5 hr2 (pv 0)) (pa_err (pe_kwE R.e6 hr2 (pv 0)) (pa_err (pe_kwE R.e7 hr2 (pv 0)) pa_err0))))))
      (pss_cons (ps_set (i := 2) scVal.nd rfl (.inl rfl) (pe_catE (pv 2) (pe_errL (pa_err (pe_kwE R.e8 hr2 (pv 0)) (pa_err (pe_kwE R.e9 hr2 (pv 0)) (pa_err (pe_kwE R.e10 hr2 (pv 0)) pa_err0))))))
      (pss_cons (ps_set (i := 2) scVal.nd rfl (.inl rfl) (pe_catE (pv 2) (pe_errL (pa_err (pe_kwE R.e11 hr2 (pv 0)) (pa_err (pe_kwE R.e12 hr2 (pv 0)) (pa_err (pe_kwE R.e13 hr2 (pv 0)) pa_err0))))))
      (pss_cons (ps_set (i := 2) scVal.nd rfl (.inl rfl) (pe_catE (pv 2) (pe_errL (pa_err (pe_kwE R.e14 hr2 (pv 0)) pa_err0))))
      (pss_one (ps_ret (pe_op op_cat (pv 1) (pv 2))))))))))), ?_⟩
    refine ⟨v, rfl, le1000 (by show 5 ≤ 1000; decide), fun L1 as1 H1 s1 h1 e1 => ?_⟩
    refine ⟨v, L1, as1, _, rfl, rfl, h1, e1, (by show 5 + 4 ≤ 1000; decide), fun L2 as2 H2 s2 h2 e2 => ?_⟩
    refine ⟨v, L2, as2, _, rfl, rfl, h2, e2, (by show 9 + 4 ≤ 1000; decide), fun L3 as3 H3 s3 h3 e3 => ?_⟩
    refine ⟨v, rfl, le1000 (by show 3 ≤ 1000; decide), fun M1 bs1 H4 s4 m1 d1 => ?_⟩
    refine ⟨v, M1, bs1, _, rfl, rfl, m1, d1, (by show 3 + 3 ≤ 1000; decide), fun M2 bs2 H5 s5 m2 d2 => ?_⟩
    refine ⟨v, M2, bs2, _, rfl, rfl, m2, d2, (by show 6 + 3 ≤ 1000; decide), fun M3 bs3 H6 s6 m3 d3 => ?_⟩
    refine ⟨v, M3, bs3, _, rfl, rfl, m3, d3, (by show 9 + 3 ≤ 1000; decide), fun M4 bs4 H7 s7 m4 d4 => ?_⟩
    refine ⟨v, M4, bs4, _, rfl, rfl, m4, d4, (by show 12 + 1 ≤ 1000; decide), fun M5 bs5 H8 s8 m5 d5 => ?_⟩
    have t := Same.trans s4 (Same.trans s5 (Same.trans s6 (Same.trans s7 s8)))
    have e3' : Errs H3 v as3 (Vs cl) := e3
    have d5' : Errs H8 v bs5 (Vs cl) := d5
    refine ⟨_, rfl, _, rfl, L3, M5, _, _, rfl, rfl, t _ _ h3, m5, le1000 (by rw [List.length_map, List.length_map, e3'.len, d5'.len]; show 13 + 13 ≤ 1000; decide), fun p np => ?_⟩
    refine k p (as3 ++ bs5) _ (Same.trans s1 (Same.trans s2 (Same.trans s3 (Same.trans t (same_upd np))))) (by rw [upd_same, List.map_append]) ?_
    exact Errs.app (d5'.same (same_upd np)) (e3'.same (Same.trans t (same_upd np)))
theorem ok_oth {f : Addr} {fd : FuncData} (F : Fun K "_law_other_errors" "_law_other_errors" sOth f fd) (R : Ers P w K mg base cl) : FnOk P w K mg base CX0 3 f fd ["_law_thing"] (spOth cl) := by
  refine F.ok scOth (fun vs H Q E h => ?_) (fun cdv A outer s H vs Q E hr h => ?_)
  · obtain ⟨v, rfl, _⟩ := h
    rfl
  · obtain ⟨v, rfl, k⟩ := h
    have hr2 : Room 2 _ := hr.mono (by decide)
    refine ⟨_, pss_cons (ps_set (i := 1) scOth.nd rfl (.inl rfl) (pe_errL (pa_err (pe_posE R.e15 hr2 (pv 0)) (pa_err (pe_posE R.e16 hr2 (pv 0)) (pa_err (pe_kwE R.e15 hr2 (pv 0)) (pa_err (pe_kwE R.e16 hr2 (pv 0)) pa_err0))))))
      (pss_one (ps_ret (pe_tup (pa_cons (pv 1) (pa_cons (pe_errL (pa_err (pe_posE R.e22 hr2 (pv 0)) (pa_err (pe_kwE R.e22 hr2 (pv 0)) pa_err0))) pa_nil))))), ?_⟩
    refine ⟨v, rfl, le1000 (by show 4 ≤ 1000; decide), fun L1 as1 H1 s1 h1 e1 => ?_⟩
    refine ⟨_, rfl, v, rfl, le1000 (by show 2 ≤ 1000; decide), fun L2 as2 H2 s2 h2 e2 => ⟨by show 2 ≤ sizeLine; decide, fun t nt => ?_⟩⟩
    exact k t L1 L2 as1 as2 _ (Same.trans s1 (Same.trans s2 (same_upd nt))) upd_same (same_upd nt _ _ (s2 _ _ h1)) (same_upd nt _ _ h2) (e1.same (Same.trans s2 (same_upd nt))) (e2.same (same_upd nt))
end
end My

namespace My
open PySem L2 ExV
abbrev sIns : Stmt := top 35
abbrev sBas : Stmt := top 36
/-! ### rows of bools, put together -/
def tFirstI (K : PySem.W.Frag) (Ds : List Value) (i : Nat) : TE := fun σ H Q => ∃ (a C : Addr) (bs : List Bool), σ[i]? = some (some (.ref a)) ∧ Exn H a C ∧ XiC K C ∧ Kits K C Ds bs ∧ Ds.length ≤ 1000 ∧ ∀ (L : Addr) (H' : Hp), Same H H' → H' L = some (.lst (bs.map V.bl)) → Q (.ref L) H'
def tCatI (K : PySem.W.Frag) (Ds : List Value) (i j : Nat) : TE := fun σ H Q => ∃ (a C L1 : Addr) (bs bs1 : List Bool), σ[i]? = some (some (.ref a)) ∧ Exn H a C ∧ XiC K C ∧ Kits K C Ds bs ∧ σ[j]? = some (some (.ref L1)) ∧ H L1 = some (.lst (bs1.map V.bl)) ∧ bs1.length + Ds.length ≤ 1000 ∧
  ∀ (L : Addr) (H' : Hp), Same H H' → H' L = some (.lst ((bs1 ++ bs).map V.bl)) → Q (.ref L) H'
section
variable {X : Cx} {a b : Expr} {es : List Expr} {pos : Pos} {Ds : List Value} {i j : Nat}
theorem pe_firstI (h : PA X es (tIss X.K Ds i)) : PE X (.List es pos) (tFirstI X.K Ds i) :=
  pe_imp (pe_isL h) fun σ H Q ⟨a, C, bs, ha, hx, XC, k, hl, q⟩ => ⟨a, C, bs, ha, hx, XC, k, le1000 hl, fun L nL => q L _ (same_upd nL) upd_same⟩
theorem pe_catI (h1 : PE X a (tVar j)) (h2 : PE X b (tIsL X.K Ds i)) : PE X (.BinOp a .Add b pos) (tCatI X.K Ds i j) :=
  pe_imp (pe_op op_cat h1 h2) fun σ H Q ⟨a, C, L1, bs, bs1, ha, hx, XC, k, hj, hL, hl, q⟩ => ⟨_, hj, a, C, bs, ha, hx, XC, k, le1000 (by omega), fun L nL =>
    ⟨L1, L, _, _, rfl, rfl, same_upd nL _ _ hL, upd_same, le1000 (by rw [List.length_map, List.length_map, k.len]; exact hl), fun p np => q p _ (Same.trans (same_upd nL) (same_upd np)) (by rw [upd_same, List.map_append])⟩⟩
end
def D19 (cl : Nat → Addr) : List Value := [.ref (cl 2), .ref (cl 3), .ref (cl 4), .ref (cl 5), .ref (cl 6), .ref (cl 7), .ref (cl 8), .ref (cl 9), .ref (cl 10), .ref (cl 11), .ref (cl 12), .ref (cl 13), .ref (cl 14), .ref (cl 15), .ref (cl 16), .ref (cl 18), .ref (cl 19), .ref (cl 20), .ref (cl 22)]
def D6 (cl : Nat → Addr) : List Value := [.ref (cl 1), .ref (cl 17), .ref (cl 21), .type "ValueError", .type "LookupError", .type "ArithmeticError"]
def spIns (K : PySem.W.Frag) (cl : Nat → Addr) : Sp := fun vs H Q _ => ∃ (a C : Addr) (bs : List Bool), vs = [.ref a] ∧ Exn H a C ∧ XiC K C ∧ Kits K C (D19 cl) bs ∧ ∀ H', Same H H' → Q (.int (bs.count true : Nat)) H'
theorem scIns : FnScope ["_law_e", "_law_seen"] ["_law_e"] (defScope sIns) := ⟨rfl, rfl, rfl, by decide +kernel, rfl, by decide +kernel, by decide +kernel⟩
/-- the places of True -/
def pick (bs : List Bool) : Nat → List Int
  | 0 => []
  | n + 1 => if bs.getD n false = true then pick bs n ++ [(n : Int)] else pick bs n
theorem pick_len (bs : List Bool) : ∀ n, (pick bs n).length ≤ n
  | 0 => Nat.le_refl _
  | n + 1 => by
    have ih := pick_len bs n
    unfold pick
    split
    · rw [List.length_append]
      show (pick bs n).length + 1 ≤ n + 1
      omega
    · omega
def spBas (K : PySem.W.Frag) (cl : Nat → Addr) : Sp := fun vs H Q _ => ∃ (a C : Addr) (bs : List Bool), vs = [.ref a] ∧ Exn H a C ∧ XiC K C ∧ Kits K C (D6 cl) bs ∧ ∀ (L : Addr) (H' : Hp), Same H H' → H' L = some (.lst ((pick bs 6).map V.int)) → Q (.ref L) H'
theorem scBas : FnScope ["_law_e", "_law_seen", "_law_k"] ["_law_e"] (defScope sBas) := ⟨rfl, rfl, rfl, by decide +kernel, rfl, by decide +kernel, by decide +kernel⟩
def tSeenK (K : PySem.W.Frag) : TT := fun σ H Q => tOp (rIxL K) (tVar 1) (tVar 2) σ H fun x H' => ∃ k, TruV K x H' k ∧ Q k H'
theorem six {α : Type} {l : List α} (h : l.length = 6) : ∃ a b c d e f, l = [a, b, c, d, e, f] := by
  match l, h with
  | [a, b, c, d, e, f], _ => exact ⟨a, b, c, d, e, f, rfl⟩
section
variable {P : Program} {w : World} {K : PySem.W.Frag} {mg : Str → Option Value} {base : Heap} {cl : Nat → Addr}
theorem ok_ins {f : Addr} {fd : FuncData} (F : Fun K "_law_instances" "_law_instances" sIns f fd) (R : Ers P w K mg base cl) : FnOk P w K mg base CX0 1 f fd ["_law_e"] (spIns K cl) := by
  refine F.ok scIns (fun vs H Q E h => ?_) (fun cdv A outer s H vs Q E hr h => ?_)
  · obtain ⟨a, C, bs, rfl, _⟩ := h
    rfl
  · obtain ⟨a, C, bs, rfl, hx, XC, kb, k⟩ := h
    obtain ⟨b1, r1, rfl, k1, kb⟩ := kits_app (Ds := [.ref (cl 2), .ref (cl 3), .ref (cl 4)]) kb
    obtain ⟨b2, r2, rfl, k2, kb⟩ := kits_app (Ds := [.ref (cl 5), .ref (cl 6), .ref (cl 7)]) kb
    obtain ⟨b3, r3, rfl, k3, kb⟩ := kits_app (Ds := [.ref (cl 8), .ref (cl 9), .ref (cl 10)]) kb
    obtain ⟨b4, r4, rfl, k4, kb⟩ := kits_app (Ds := [.ref (cl 11), .ref (cl 12), .ref (cl 13)]) kb
    obtain ⟨b5, r5, rfl, k5, kb⟩ := kits_app (Ds := [.ref (cl 14), .ref (cl 15), .ref (cl 16)]) kb
    obtain ⟨b6, b7, rfl, k6, k7⟩ := kits_app (Ds := [.ref (cl 18), .ref (cl 19), .ref (cl 20)]) kb
    refine ⟨_, pss_cons (ps_set (i := 1) scIns.nd rfl (.inl rfl) (pe_firstI (pa_is (c := .ref (cl 2)) (D := .ref (cl 2)) (fun u z => z) (by rfl) R.n_isinstance (pv 0) (pe_glob (v := .ref (cl 2)) rfl R.e2.g rfl) (pa_is (c := .ref (cl 3)) (D := .ref (cl 3)) (fun u z => z) (by rfl) R.n_isinstance (pv 0) (pe_glob (v := .ref (cl 3)) rfl R.e3.g rfl) (pa_is (c := .ref (cl 4)) (D := .ref (cl 4)) (fun u z => z) (by rfl) R.n_isinstance (pv 0) (pe_glob (v := .ref (cl 4)) rfl R.e4.g rfl) pa_is0)))))
      (pss_cons (ps_set (i := 1) scIns.nd rfl (.inl rfl) (pe_catI (pv 1) (pe_isL (pa_is (c := .ref (cl 5)) (D := .ref (cl 5)) (fun u z => z) (by rfl) R.n_isinstance (pv 0) (pe_glob (v := .ref (cl 5)) rfl R.e5.g rfl) (pa_is (c := .ref (cl 6)) (D := .ref (cl 6)) (fun u z => z) (by rfl) R.n_isinstance (pv 0) (pe_glob (v := .ref (cl 6)) rfl R.e6.g rfl) (pa_is (c := .ref (cl 7)) (D := .ref (cl 7)) (fun u z => z) (by rfl) R.n_isinstance (pv 0) (pe_glob (v := .ref (cl 7)) rfl R.e7.g rfl) pa_is0))))))
      (pss_cons (ps_set (i := 1) scIns.nd rfl (.inl rfl) (pe_catI (pv 1) (pe_isL (pa_is (c := .ref (cl 8)) (D := .ref (cl 8)) (fun u z => z) (by rfl) R.n_isinstance (pv 0) (pe_glob (v := .ref (cl 8)) rfl R.e8.g rfl) (pa_is (c := .ref (cl 9)) (D := .ref (cl 9)) (fun u z => z) (by rfl) R.n_isinstance (pv 0) (pe_glob (v := .ref (cl 9)) rfl R.e9.g rfl) (pa_is (c := .ref (cl 10)) (D := .ref (cl 10)) (fun u z => z) (by rfl) R.n_isinstance (pv 0) (pe_glob (v := .ref (cl 10)) rfl R.e10.g rfl) pa_is0))))))
      (pss_cons (ps_set (i := 1) scIns.nd rfl (.inl rfl) (pe_catI (pv 1) (pe_isL (pa_is (c := .ref (cl 11)) (D := .ref (cl 11)) (fun u z => z) (by rfl) R.n_isinstance (pv 0) (pe_glob (v := .ref (cl 11)) rfl R.e11.g rfl) (pa_is (c := .ref (cl 12)) (D := .ref (cl 12)) (fun u z => z) (by rfl) R.n_isinstance (pv 0) (pe_glob (v := .ref (cl 12)) rfl R.e12.g rfl) (pa_is (c := .ref (cl 13)) (D := .ref (cl 13)) (fun u z => z) (by rfl) R.n_isinstance (pv 0) (pe_glob (v := .ref (cl 13)) rfl R.e13.g rfl) pa_is0))))))
      (pss_cons (ps_set (i := 1) scIns.nd rfl (.inl rfl) (pe_catI (pv 1) (pe_isL (pa_is (c := .ref (cl 14)) (D := .ref (cl 14)) (fun u z => z) (by rfl) R.n_isinstance (pv 0) (pe_glob (v := .ref (cl 14)) rfl R.e14.g rfl) (pa_is (c := .ref (cl 15)) (D := .ref (cl 15)) (fun u z => z) (by rfl) R.n_isinstance (pv 0) (pe_glob (v := .ref (cl 15)) rfl R.e15.g rfl) (pa_is (c := .ref (cl 16)) (D := .ref (cl 16)) (fun u z => z) (by rfl) R.n_isinstance (pv 0) (pe_glob (v := .ref (cl 16)) rfl R.e16.g rfl) pa_is0))))))
      (pss_cons (ps_set (i := 1) scIns.nd rfl (.inl rfl) (pe_catI (pv 1) (pe_isL (pa_is (c := .ref (cl 18)) (D := .ref (cl 18)) (fun u z => z) (by rfl) R.n_isinstance (pv 0) (pe_glob (v := .ref (cl 18)) rfl R.e18.g rfl) (pa_is (c := .ref (cl 19)) (D := .ref (cl 19)) (fun u z => z) (by rfl) R.n_isinstance (pv 0) (pe_glob (v := .ref (cl 19)) rfl R.e19.g rfl) (pa_is (c := .ref (cl 20)) (D := .ref (cl 20)) (fun u z => z) (by rfl) R.n_isinstance (pv 0) (pe_glob (v := .ref (cl 20)) rfl R.e20.g rfl) pa_is0))))))
      (pss_cons (ps_set (i := 1) scIns.nd rfl (.inl rfl) (pe_catI (pv 1) (pe_isL (pa_is (c := .ref (cl 22)) (D := .ref (cl 22)) (fun u z => z) (by rfl) R.n_isinstance (pv 0) (pe_glob (v := .ref (cl 22)) rfl R.e22.g rfl) pa_is0))))
      (pss_one (ps_ret (pe_bm PySem.F.plainAttrs_list PySem.F.slot_list_count PySem.F.type_list_count mt_bcount (pv 1) (pa_cons pe_bl pa_nil)))))))))), ?_⟩
    have e1 := k1.len
    have e2 := k2.len
    have e3 := k3.len
    have e4 := k4.len
    have e5 := k5.len
    have e6 := k6.len
    have e7 := k7.len
    simp only [List.length_cons, List.length_nil] at e1 e2 e3 e4 e5 e6
    refine ⟨a, C, b1, rfl, hx, XC, k1, (by show 3 ≤ 1000; decide), fun L1 H1 s1 h1 => ?_⟩
    have t1 := s1
    refine ⟨a, C, L1, b2, _, rfl, hx.same t1, XC, k2, rfl, h1, (by rw [e1]; show 3 + 3 ≤ 1000; decide), fun L2 H2 s2 h2 => ?_⟩
    have t2 := Same.trans t1 s2
    refine ⟨a, C, L2, b3, _, rfl, hx.same t2, XC, k3, rfl, h2, (by simp only [List.length_append, e1, e2]; show 3 + 3 + 3 ≤ 1000; decide), fun L3 H3 s3 h3 => ?_⟩
    have t3 := Same.trans t2 s3
    refine ⟨a, C, L3, b4, _, rfl, hx.same t3, XC, k4, rfl, h3, (by simp only [List.length_append, e1, e2, e3]; show 3 + 3 + 3 + 3 ≤ 1000; decide), fun L4 H4 s4 h4 => ?_⟩
    have t4 := Same.trans t3 s4
    refine ⟨a, C, L4, b5, _, rfl, hx.same t4, XC, k5, rfl, h4, (by simp only [List.length_append, e1, e2, e3, e4]; show 3 + 3 + 3 + 3 + 3 ≤ 1000; decide), fun L5 H5 s5 h5 => ?_⟩
    have t5 := Same.trans t4 s5
    refine ⟨a, C, L5, b6, _, rfl, hx.same t5, XC, k6, rfl, h5, (by simp only [List.length_append, e1, e2, e3, e4, e5]; show 3 + 3 + 3 + 3 + 3 + 3 ≤ 1000; decide), fun L6 H6 s6 h6 => ?_⟩
    have t6 := Same.trans t5 s6
    refine ⟨a, C, L6, b7, _, rfl, hx.same t6, XC, k7, rfl, h6, (by simp only [List.length_append, e1, e2, e3, e4, e5, e6]; show 3 + 3 + 3 + 3 + 3 + 3 + 1 ≤ 1000; decide), fun L7 H7 s7 h7 => ?_⟩
    have t7 := Same.trans t6 s7
    refine ⟨_, rfl, .inl ⟨rfl, _, SqL.of h7⟩, L7, _, true, rfl, rfl, SqL.of h7, ?_⟩
    rw [show b1 ++ b2 ++ b3 ++ b4 ++ b5 ++ b6 ++ b7 = b1 ++ (b2 ++ (b3 ++ (b4 ++ (b5 ++ (b6 ++ b7))))) by simp only [List.append_assoc]]
    exact k H7 t7
theorem ok_bas {f : Addr} {fd : FuncData} (F : Fun K "_law_bases" "_law_bases" sBas f fd) (R : Ers P w K mg base cl) (mr : mg "range" = none) : FnOk P w K mg base CX0 1 f fd ["_law_e"] (spBas K cl) := by
  refine F.ok scBas (fun vs H Q E h => ?_) (fun cdv A outer s H vs Q E hr h => ?_)
  · obtain ⟨a, C, bs, rfl, _⟩ := h
    rfl
  · obtain ⟨a, C, bs, rfl, hx, XC, kb, k⟩ := h
    obtain ⟨b1, b2, eb, k1, k2⟩ := kits_app (Ds := [.ref (cl 1), .ref (cl 17), .ref (cl 21)]) kb
    have le : bs.length = 6 := kb.len
    have e1 := k1.len
    refine ⟨_, pss_cons (ps_set (i := 1) scBas.nd rfl (.inr rfl) (pe_firstI (pa_is (c := .ref (cl 1)) (D := .ref (cl 1)) (fun u z => z) (by rfl) R.n_isinstance (pv 0) (pe_glob (v := .ref (cl 1)) rfl R.g1 rfl) (pa_is (c := .ref (cl 17)) (D := .ref (cl 17)) (fun u z => z) (by rfl) R.n_isinstance (pv 0) (pe_glob (v := .ref (cl 17)) rfl R.g17 rfl) (pa_is (c := .ref (cl 21)) (D := .ref (cl 21)) (fun u z => z) (by rfl) R.n_isinstance (pv 0) (pe_glob (v := .ref (cl 21)) rfl R.g21 rfl) pa_is0)))))
      (pss_cons (ps_set (i := 1) scBas.nd rfl (.inr rfl) (pe_catI (pv 1) (pe_isL (pa_is (c := .ty "ValueError") (D := .type "ValueError") (fun u z => z) (by rfl) R.n_isinstance (pv 0) (pe_bltn (v := .ty "ValueError") (by rfl) R.n_ValueError (by decide +kernel) rfl) (pa_is (c := .ty "LookupError") (D := .type "LookupError") (fun u z => z) (by rfl) R.n_isinstance (pv 0) (pe_bltn (v := .ty "LookupError") (by rfl) R.n_LookupError (by decide +kernel) rfl) (pa_is (c := .ty "ArithmeticError") (D := .type "ArithmeticError") (fun u z => z) (by rfl) R.n_isinstance (pv 0) (pe_bltn (v := .ty "ArithmeticError") (by rfl) R.n_ArithmeticError (by decide +kernel) rfl) pa_is0))))))
      (pss_one (ps_ret (pe_lc (own := [("_law_k", 2)]) (g := gName 2) (tt := tSeenK K) rfl scBas.nd (pi_range1 rfl mr (pa_cons pe_int pa_nil)) (blkOk_by (own := [("_law_k", 2)]) (N := ["_law_e", "_law_seen", "_law_k"]) (sc := defScope sBas) (by decide +kernel))
        (fun _ _ _ _ _ => pg_name (i := 2) scBas.nd rfl (Or.inl rfl)) (fun _ _ _ _ _ => pts_one (by exact pt_truth (pe_ix ix_list (pv 1) (pv 2) (fun _ _ => rfl)) (fun _ => rfl))) (fun _ _ _ _ _ => pv 2))))), ?_⟩
    refine ⟨a, C, b1, rfl, hx, XC, k1, (by show 3 ≤ 1000; decide), fun L1 H1 s1 h1 => ?_⟩
    refine ⟨a, C, L1, b2, _, rfl, hx.same s1, XC, k2, rfl, h1, (by rw [e1]; show 3 + 3 ≤ 1000; decide), fun L2 H2 s2 h2 => ?_⟩
    rw [← eb] at h2
    have hat : ∀ n : Nat, n < 6 → atI (bs.map V.bl) (0 + (n : Int)) = some (.bl (bs.getD n false)) := by
      obtain ⟨x0, x1, x2, x3, x4, x5, rfl⟩ := six le
      intro n hn
      match n, hn with
      | 0, _ => rfl
      | 1, _ => rfl
      | 2, _ => rfl
      | 3, _ => rfl
      | 4, _ => rfl
      | 5, _ => rfl
    refine ⟨_, rfl, by decide, by decide, fun D nD => ?_⟩
    refine lc_range (lo := 0) (n := (6 : Int).toNat) (fun n H' => Same H2 H' ∧ H' D = some (.lst ((pick bs n).map V.int))) ⟨same_upd nD, upd_same⟩ ?_ ?_
    · rintro n H' hn' ⟨s3, hD⟩
      have hn : n < 6 := hn'
      refine ⟨rfl, _, rfl, _, rfl, L2, _, _, _, rfl, rfl, SqL.of (s3 _ _ h2), hat n hn, _, rfl, ?_⟩
      by_cases hb : bs.getD n false = true
      · rw [hb]
        refine iteT ?_
        refine ⟨_, rfl, _, hD, small1000 (by rw [List.length_map]; have := pick_len bs n; omega), fun b o q => ?_, ?_⟩
        · rw [upd_ne (ne_of_none q nD)]
          exact s3 _ _ q
        · rw [upd_same]
          rw [show pick bs (n + 1) = pick bs n ++ [(n : Int)] from if_pos hb, List.map_append, Int.zero_add]
          rfl
      · have hf : bs.getD n false = false := by simpa using hb
        rw [hf]
        refine iteF ?_
        refine ⟨s3, ?_⟩
        rw [hD]
        rw [show pick bs (n + 1) = pick bs n from if_neg hb]
    · rintro H' ⟨s3, hD⟩
      exact k D H' (Same.trans s1 (Same.trans s2 s3)) hD
end
end My

namespace My
open PySem L2 ExV
theorem hu64 {A : Around} {k : Nat} (hr : Room k A) : A.units + 64 < cLine := by
  have := hr.un
  omega
theorem jar_ne {H : Hp} {j p : Addr} (a : Jar H j) (n : H p = none) : p ≠ j := fun z => by
  obtain ⟨_, _, _, q⟩ := a
  rw [z, q] at n
  cases n
/-! ### what is drawn -/
/-- rows of 32 of it can be shown -/
def T32 (d : PyData) : Prop := (PyData.list (List.replicate 32 d)).showable = true ∧ (PyData.list (List.replicate 32 d)).depth ≤ 64 ∧ (PyData.list (List.replicate 32 d)).shown.length ≤ sizeLine
theorem thing_of {H : Hp} {t l dd t0 : Addr} {i : Nat} {x : V} (ht : H t = some (.tup [.int 2, .str "y"])) (hl : H l = some (.lst [.int 3])) (hd : H dd = some (.dK [])) (h0 : H t0 = some (.tup []))
    (hx : ([.non, .int 0, .bl false, .str "x", .ref t, .ref l, .ref dd, .int (10 ^ 19), .ref t0, .int (-7)] : List V)[i]? = some x) : ∃ d, Gd.Dq H x d ∧ T32 d := by
  match i, hx with
  | 0, hx => cases (Option.some.inj hx); exact ⟨_, .non, by decide +kernel, by decide +kernel, by decide +kernel⟩
  | 1, hx => cases (Option.some.inj hx); exact ⟨_, .int 0, by decide +kernel, by decide +kernel, by decide +kernel⟩
  | 2, hx => cases (Option.some.inj hx); exact ⟨_, .bl false, by decide +kernel, by decide +kernel, by decide +kernel⟩
  | 3, hx => cases (Option.some.inj hx); exact ⟨_, .str "x", by decide +kernel, by decide +kernel, by decide +kernel⟩
  | 4, hx => cases (Option.some.inj hx); exact ⟨_, .tup ht (.cons (.int 2) (.cons (.str "y") .nil)), by decide +kernel, by decide +kernel, by decide +kernel⟩
  | 5, hx => cases (Option.some.inj hx); exact ⟨_, .lst hl (.cons (.int 3) .nil), by decide +kernel, by decide +kernel, by decide +kernel⟩
  | 6, hx => cases (Option.some.inj hx); exact ⟨_, .dct hd, by decide +kernel, by decide +kernel, by decide +kernel⟩
  | 7, hx => cases (Option.some.inj hx); exact ⟨_, .int (10 ^ 19), by decide +kernel, by decide +kernel, by decide +kernel⟩
  | 8, hx => cases (Option.some.inj hx); exact ⟨_, .tup h0 .nil, by decide +kernel, by decide +kernel, by decide +kernel⟩
  | 9, hx => cases (Option.some.inj hx); exact ⟨_, .int (-7), by decide +kernel, by decide +kernel, by decide +kernel⟩
theorem dqs {H : Hp} {v : V} {d : PyData} (h : Gd.Dq H v d) : ∀ n : Nat, Gd.DqA H (List.replicate n v) (List.replicate n d)
  | 0 => .nil
  | n + 1 => .cons h (dqs h n)
/-! ### what errors keep -/
theorem Errs.get {H : Hp} {v : V} : ∀ {as : List Addr} {Cs : List (Addr × Str)} {n : Nat} {x : V}, Errs H v as Cs → (as.map V.ref)[n]? = some x → ∃ (a C : Addr) (f : Str), x = .ref a ∧ (C, f) ∈ Cs ∧ Err H a C f v ∧ n < as.length
  | _, _, n, x, .nil, h => by simp at h
  | _, _, 0, x, .cons e t, h => ⟨_, _, _, (Option.some.inj h).symm, List.mem_cons_self .., e, Nat.zero_lt_succ _⟩
  | _, _, n + 1, x, .cons e t, h => by
    obtain ⟨a, C, f, h1, h2, h3, h4⟩ := t.get (n := n) (x := x) (by simpa using h)
    exact ⟨a, C, f, h1, List.mem_cons_of_mem _ h2, h3, Nat.succ_lt_succ h4⟩
theorem kept_lc {K : PySem.W.Frag} {σ : St} {H1 : Hp} {D L : Addr} {as : List Addr} {Cs : List (Addr × Str)} {f : Str} {v : V} {Qd : Hp → Prop} (h9 : ∀ v, ((wipe σ [9]).set 9 (some v))[9]? = some (some v) ∧ wipe ((wipe σ [9]).set 9 (some v)) [9] = wipe σ [9])
    (hL : H1 L = some (.lst (as.map V.ref))) (E : Errs H1 v as Cs) (ok : ∀ p ∈ Cs, p.2 = f ∧ XfC K p.1 ∧ PySem.W.findIn K (.ref p.1) f = some none) (few : Cs.length ≤ 900) (nD : H1 D = none) (hd : ∀ H' : Hp, Same H1 H' → H' D = some (.lst (List.replicate Cs.length v)) → Qd H') :
    ∃ W : Nat → Nat → Hp → Prop, (∃ m, W 0 m (upd H1 D (.lst []))) ∧ ∀ (i m : Nat) (H : Hp), W i m H →
      ((Itl K L).stop i H ∧ Qd H) ∨ ((Itl K L).go i H ∧ ∃ Nx : Hp → Prop, (∀ H', Nx H' → ∃ m', m' < m ∧ W (i + 1) m' H') ∧ ∀ (x : V) (H' : Hp), (Itl K L).yld i H x H' → gName 9 x (wipe σ [9]) H' fun σ2 H2 => wipe σ2 [9] = wipe σ [9] ∧ tYes σ2 H2 fun b H3 =>
        if b = true then tXv K f (tVar 9) σ2 H3 fun y H4 => ∃ acc, H4 D = some (.lst acc) ∧ acc.length < sizeLine ∧ Nx (upd H4 D (.lst (acc ++ [y]))) else Nx H3) := by
  refine lc_list (K := K) (a := L) (xs := as.map V.ref) (fun n H' => Same H1 H' ∧ H' D = some (.lst (List.replicate n v))) ⟨same_upd nD, upd_same⟩ (fun n H' _ ⟨s, _⟩ => SqL.of (s _ _ hL)) ?_ ?_
  · rintro n x H' hx ⟨s, hD⟩
    obtain ⟨a, C, f', rfl, hC, e, hn⟩ := E.get hx
    obtain ⟨rfl, xf, no⟩ := ok _ hC
    obtain ⟨z9, zw⟩ := h9 (.ref a)
    refine ⟨zw, _, z9, a, C, v, rfl, xf, no, e.same s, _, hD, small1000 (by rw [List.length_replicate]; have := E.len; omega), fun b o q => ?_, ?_⟩
    · rw [upd_ne (ne_of_none q nD)]
      exact s _ _ q
    · rw [upd_same, List.replicate_succ']
  · rintro H' ⟨s, hD⟩
    rw [List.length_map, E.len] at hD
    exact hd H' s hD
/-! ### of which classes they are -/
def kitsB (K : PySem.W.Frag) (C : Addr) (Ds : List Value) : Option (List Bool) := match Ds with
  | [] => some []
  | D :: Ds => match PySem.W.kitOne K (.ref C) D, kitsB K C Ds with
    | some b, some bs => some (b :: bs)
    | _, _ => none
theorem kitsB_ok {K : PySem.W.Frag} {C : Addr} : ∀ {Ds : List Value} {bs : List Bool}, kitsB K C Ds = some bs → Kits K C Ds bs
  | [], bs, h => by
    cases (Option.some.inj h)
    rfl
  | D :: Ds, bs, h => by
    unfold kitsB at h
    split at h
    next b bs' e1 e2 =>
      cases (Option.some.inj h)
      have ih : Ds.map (PySem.W.kitOne K (.ref C)) = bs'.map some := kitsB_ok e2
      show PySem.W.kitOne K (.ref C) D :: Ds.map (PySem.W.kitOne K (.ref C)) = some b :: bs'.map some
      rw [e1, ih]
    next => cases h
def goodB (K : PySem.W.Frag) (cl : Nat → Addr) (due : List Int) (C : Addr) : Bool := match kitsB K C (D6 cl), kitsB K C (D19 cl) with
  | some b6, some b19 => pick b6 6 == due && b19.count true == 1
  | _, _ => false
/-- of these bases, and of one class -/
def Good (K : PySem.W.Frag) (cl : Nat → Addr) (due : List Int) (C : Addr) : Prop := XiC K C ∧ (∃ bs, Kits K C (D6 cl) bs ∧ pick bs 6 = due) ∧ ∃ bs, Kits K C (D19 cl) bs ∧ bs.count true = 1
theorem good_of {K : PySem.W.Frag} {cl : Nat → Addr} {due : List Int} {C : Addr} (x : XiC K C) (h : goodB K cl due C = true) : Good K cl due C := by
  unfold goodB at h
  split at h
  next b6 b19 e1 e2 =>
    obtain ⟨h1, h2⟩ := Bool.and_eq_true_iff.mp h
    exact ⟨x, ⟨b6, kitsB_ok e1, by simpa using h1⟩, b19, kitsB_ok e2, by simpa using h2⟩
  next => cases h
/-- a row of errors, all of them good -/
def Grp (K : PySem.W.Frag) (cl : Nat → Addr) (H : Hp) (due : List Int) (as : List Addr) : Prop := ∀ a ∈ as, ∃ C, Exn H a C ∧ Good K cl due C
theorem Grp.same {K : PySem.W.Frag} {cl : Nat → Addr} {H H' : Hp} {due : List Int} {as : List Addr} (g : Grp K cl H due as) (s : Same H H') : Grp K cl H' due as := fun a ha => let ⟨C, x, y⟩ := g a ha; ⟨C, x.same s, y⟩
theorem Errs.grp {K : PySem.W.Frag} {cl : Nat → Addr} {H : Hp} {v : V} {due : List Int} : ∀ {as : List Addr} {Cs : List (Addr × Str)}, Errs H v as Cs → (∀ p ∈ Cs, Good K cl due p.1) → Grp K cl H due as
  | _, _, .nil, _ => fun a h => nomatch h
  | _, _, .cons e t, g => fun a h => by
    rcases List.mem_cons.mp h with rfl | h
    · exact ⟨_, e.exn, g _ (List.mem_cons_self ..)⟩
    · exact t.grp (fun p hp => g p (List.mem_cons_of_mem _ hp)) a h
structure Gds (K : PySem.W.Frag) (cl : Nat → Addr) : Prop where
  v : ∀ i ∈ ([2, 3, 4, 5, 6, 7, 8, 9, 10, 11, 12, 13, 14, 15, 16] : List Nat), Good K cl [0, 3] (cl i)
  s : ∀ i ∈ ([18, 19, 20] : List Nat), Good K cl [1, 4] (cl i)
  l : Good K cl [2, 5] (cl 22)
theorem dpInts {K : PySem.W.Frag} {H : Hp} {a : Addr} {ns : List Int} (h : H a = some (.lst (ns.map V.int))) : Dp K H (.ref a) (.list (ns.map PyData.int)) := by
  refine .lst (SqL.of h) ?_
  clear h
  induction ns with
  | nil => exact .nil
  | cons n ns ih => exact .cons (.int n) ih
end My

namespace My
open PySem L2 ExV
abbrev sRight : Stmt := top 37
abbrev NR : List Str := ["_law_jar_here", "_law_thing", "_law_values", "_law_states", "_law_places", "_law_limits_here", "_law_kept", "_law_group", "_law_due", "_law_e"]
theorem scRight : FnScope NR ["_law_jar_here"] (defScope sRight) := ⟨rfl, rfl, rfl, by decide +kernel, rfl, by decide +kernel, by decide +kernel⟩
def spRight : Sp := fun vs H Q _ => ∃ j : Addr, vs = [.ref j] ∧ Jar H j ∧ ∀ H', Off j H H' → Q (.bl true) H'
structure TxtR (K : PySem.W.Frag) (mg : Str → Option Value) (fF fV fO fI fB : Addr) : Prop where
  repr : mg "repr" = none
  len : mg "len" = none
  all : mg "all" = none
  gF : mg "_law_from" = some (.ref fF)
  kF : PySem.W.keepIn K (.ref fF) = true
  gV : mg "_law_value_errors" = some (.ref fV)
  kV : PySem.W.keepIn K (.ref fV) = true
  gO : mg "_law_other_errors" = some (.ref fO)
  kO : PySem.W.keepIn K (.ref fO) = true
  gI : mg "_law_instances" = some (.ref fI)
  kI : PySem.W.keepIn K (.ref fI) = true
  gB : mg "_law_bases" = some (.ref fB)
  kB : PySem.W.keepIn K (.ref fB) = true
  m1 : ∃ t, mg "MOST_ROUND" = some (.int 12 t)
  m2 : ∃ t, mg "MOST_ENDING" = some (.int 6 t)
  m3 : ∃ t, mg "MOST_REPLIES" = some (.int 100 t)
  m4 : ∃ t, mg "MOST_ITEMS" = some (.int 1000 t)
  m5 : ∃ t, mg "MOST_CUTTERS" = some (.int 6 t)
  m6 : ∃ t, mg "MOST_WIDTH" = some (.int 12 t)
structure FnR (K : PySem.W.Frag) (fS fF fV fO fI fB : Addr) (fdS fdF fdV fdO fdI fdB : FuncData) : Prop where
  FF : Fun K "_law_from" "_law_from" sFrom fF fdF
  bF : Binds K fdF ["_law_jar_here", "_law_things"] []
  FS : Fun K "_law_sip" "_law_sip" sSip fS fdS
  bS : Binds K fdS ["_law_jar_here", "_law_many"] []
  FV : Fun K "_law_value_errors" "_law_value_errors" sVal fV fdV
  bV : Binds K fdV ["_law_thing"] []
  FO : Fun K "_law_other_errors" "_law_other_errors" sOth fO fdO
  bO : Binds K fdO ["_law_thing"] []
  FI : Fun K "_law_instances" "_law_instances" sIns fI fdI
  bI : Binds K fdI ["_law_e"] []
  FB : Fun K "_law_bases" "_law_bases" sBas fB fdB
  bB : Binds K fdB ["_law_e"] []
def tBoth (K : PySem.W.Frag) (cl : Nat → Addr) : TE := tAndV (tOp (rEqD K) (tCall (spBas K cl) [] E0 (tCons (tVar 9) tNil)) (tVar 8)) (tOp rEq (tCall (spIns K cl) [] E0 (tCons (tVar 9) tNil)) (tC (.int 1)))
theorem all_true : ∀ n : Nat, (List.replicate n true).all id = true
  | 0 => rfl
  | n + 1 => all_true n
theorem len10 {σ : St} (h : σ.length = 10) : ∃ a b c d e f g i k l, σ = [a, b, c, d, e, f, g, i, k, l] := by
  match σ, h with
  | [a, b, c, d, e, f, g, i, k, l], _ => exact ⟨a, b, c, d, e, f, g, i, k, l, rfl⟩
section
variable {P : Program} {w : World} {K : PySem.W.Frag} {mg : Str → Option Value} {base : Heap} {cl : Nat → Addr} {fS fF fV fO fI fB : Addr} {fdS fdF fdV fdO fdI fdB : FuncData}
theorem vs_ok (R : Ers P w K mg base cl) : ∀ p ∈ Vs cl ++ Vs cl, p.2 = "value" ∧ XfC K p.1 ∧ PySem.W.findIn K (.ref p.1) "value" = some none := by
  have one : ∀ p ∈ Vs cl, p.2 = "value" ∧ XfC K p.1 ∧ PySem.W.findIn K (.ref p.1) "value" = some none := by
    intro p hp
    simp only [Vs, List.mem_cons, List.not_mem_nil, or_false] at hp
    rcases hp with rfl | rfl | rfl | rfl | rfl | rfl | rfl | rfl | rfl | rfl | rfl | rfl | rfl
    · exact ⟨rfl, R.e2.xi.xf, R.e2.no⟩
    · exact ⟨rfl, R.e3.xi.xf, R.e3.no⟩
    · exact ⟨rfl, R.e4.xi.xf, R.e4.no⟩
    · exact ⟨rfl, R.e5.xi.xf, R.e5.no⟩
    · exact ⟨rfl, R.e6.xi.xf, R.e6.no⟩
    · exact ⟨rfl, R.e7.xi.xf, R.e7.no⟩
    · exact ⟨rfl, R.e8.xi.xf, R.e8.no⟩
    · exact ⟨rfl, R.e9.xi.xf, R.e9.no⟩
    · exact ⟨rfl, R.e10.xi.xf, R.e10.no⟩
    · exact ⟨rfl, R.e11.xi.xf, R.e11.no⟩
    · exact ⟨rfl, R.e12.xi.xf, R.e12.no⟩
    · exact ⟨rfl, R.e13.xi.xf, R.e13.no⟩
    · exact ⟨rfl, R.e14.xi.xf, R.e14.no⟩
  intro p hp
  exact (List.mem_append.mp hp).elim (one p) (one p)
theorem is_ok (R : Ers P w K mg base cl) : ∀ p ∈ Is cl, p.2 = "index" ∧ XfC K p.1 ∧ PySem.W.findIn K (.ref p.1) "index" = some none := by
  intro p hp
  simp only [Is, List.mem_cons, List.not_mem_nil, or_false] at hp
  rcases hp with rfl | rfl | rfl | rfl
  · exact ⟨rfl, R.e15.xi.xf, R.e15.no⟩
  · exact ⟨rfl, R.e16.xi.xf, R.e16.no⟩
  · exact ⟨rfl, R.e15.xi.xf, R.e15.no⟩
  · exact ⟨rfl, R.e16.xi.xf, R.e16.no⟩
theorem ls_ok (R : Ers P w K mg base cl) : ∀ p ∈ Ls cl, p.2 = "limit" ∧ XfC K p.1 ∧ PySem.W.findIn K (.ref p.1) "limit" = some none := by
  intro p hp
  simp only [Ls, List.mem_cons, List.not_mem_nil, or_false] at hp
  rcases hp with rfl | rfl
  · exact ⟨rfl, R.e22.xi.xf, R.e22.no⟩
  · exact ⟨rfl, R.e22.xi.xf, R.e22.no⟩
theorem vi_good (G : Gds K cl) : ∀ p ∈ (Vs cl ++ Vs cl) ++ Is cl, Good K cl [0, 3] p.1 := by
  have one : ∀ p ∈ Vs cl, Good K cl [0, 3] p.1 := by
    intro p hp
    simp only [Vs, List.mem_cons, List.not_mem_nil, or_false] at hp
    rcases hp with rfl | rfl | rfl | rfl | rfl | rfl | rfl | rfl | rfl | rfl | rfl | rfl | rfl <;> exact G.v _ (by decide)
  intro p hp
  rcases List.mem_append.mp hp with hp | hp
  · exact (List.mem_append.mp hp).elim (one p) (one p)
  · simp only [Is, List.mem_cons, List.not_mem_nil, or_false] at hp
    rcases hp with rfl | rfl | rfl | rfl <;> exact G.v _ (by decide)
theorem ls_good (G : Gds K cl) : ∀ p ∈ Ls cl, Good K cl [2, 5] p.1 := by
  intro p hp
  simp only [Ls, List.mem_cons, List.not_mem_nil, or_false] at hp
  rcases hp with rfl | rfl <;> exact G.l
theorem ok_right {f : Addr} {fd : FuncData} (F : Fun K "_law_right" "_law_right" sRight f fd) (TJ : TxtJ mg) (S : TxtS K mg fS) (R : Ers P w K mg base cl) (G : Gds K cl) (T : TxtR K mg fF fV fO fI fB) (N : FnR K fS fF fV fO fI fB fdS fdF fdV fdO fdI fdB) (mr : mg "range" = none)
    (sm : ∃ ob, base.get? sysModules = some ob) : Gd.FnG P w K mg base CX0 5 f fd ["_law_jar_here"] spRight := by
  have GF : FnOk P w K mg base CX0 2 fF fdF ["_law_jar_here", "_law_things"] (spFrom K) := ok_from N.FF TJ S N.FS N.bS
  have GV : FnOk P w K mg base CX0 3 fV fdV ["_law_thing"] (spVal cl) := ok_val N.FV R
  have GO : FnOk P w K mg base CX0 3 fO fdO ["_law_thing"] (spOth cl) := ok_oth N.FO R
  have GI : FnOk P w K mg base CX0 1 fI fdI ["_law_e"] (spIns K cl) := ok_ins N.FI R
  have GB : FnOk P w K mg base CX0 1 fB fdB ["_law_e"] (spBas K cl) := ok_bas N.FB R mr
  obtain ⟨ob, sm⟩ := sm
  obtain ⟨t1, m1⟩ := T.m1
  obtain ⟨t2, m2⟩ := T.m2
  obtain ⟨t3, m3⟩ := T.m3
  obtain ⟨t4, m4⟩ := T.m4
  obtain ⟨t5, m5⟩ := T.m5
  obtain ⟨t6, m6⟩ := T.m6
  refine Gd.okG F scRight (fun vs H Q E h => ?_) (fun cdv A outer s H vs Q E _ _ _ hgd hr h => ?_)
  · obtain ⟨j, rfl, _⟩ := h
    rfl
  · obtain ⟨j, rfl, hJ, k⟩ := h
    have hr1 : Room 1 _ := hr.mono (by decide)
    have hr2 : Room 2 _ := hr.mono (by decide)
    have hr3 : Room 3 _ := hr.mono (by decide)
    refine ⟨_, pss_cons (ps_set (i := 1) scRight.nd rfl (.inl rfl) (pe_call GF hr2 rfl T.gF T.kF N.bF .nil pass0 (pa_cons (pv 0) (pa_cons (pe_lst (pa_cons pe_non (pa_cons pe_int (pa_cons pe_bl (pa_cons pe_str (pa_cons (pe_tup (pa_cons pe_int (pa_cons pe_str pa_nil)))
          (pa_cons (pe_lst (pa_cons pe_int pa_nil)) (pa_cons pe_dnewK (pa_cons (pe_op op_pow pe_int pe_int) (pa_cons (pe_tup pa_nil) (pa_cons (pe_un un_neg pe_int) pa_nil))))))))))) pa_nil))))
      (pss_cons (ps_par (i := 2) (j := 3) rfl scRight.nd rfl rfl (by decide) rfl rfl (pa_cons (pe_call GV hr3 rfl T.gV T.kV N.bV .nil pass0 (pa_cons (pv 1) pa_nil)) (pa_cons (pe_lst (pa_cons (pe_stC R.e18) (pa_cons (pe_stC R.e19) (pa_cons (pe_stC R.e20) pa_nil)))) pa_nil)) (by rfl))
      (pss_cons (ps_asg (pe_call GO hr3 rfl T.gO T.kO N.bO .nil pass0 (pa_cons (pv 1) pa_nil)) (pg_tup (by rfl) (pgs_cons (pg_name (i := 4) scRight.nd rfl (.inl rfl)) (pgs_cons (pg_name (i := 5) scRight.nd rfl (.inl rfl)) pgs_nil))))
      (pss_cons (ps_set (i := 6) scRight.nd rfl (.inl rfl) (pe_op op_cat (pe_op op_cat
          (pe_lc (own := [("_law_e", 9)]) (g := gName 9) (tt := tYes) (te := tXv K "value" (tVar 9)) rfl scRight.nd (pi_list (pv 2)) (blkOk_by (own := [("_law_e", 9)]) (N := NR) (sc := defScope sRight) (by decide +kernel)) (fun _ _ _ _ _ => pg_name (i := 9) scRight.nd rfl (.inl rfl)) (fun _ _ _ _ _ => pts_nil) (fun _ _ _ _ _ => by exact pe_xv (pv 9)))
          (pe_lc (own := [("_law_e", 9)]) (g := gName 9) (tt := tYes) (te := tXv K "index" (tVar 9)) rfl scRight.nd (pi_list (pv 4)) (blkOk_by (own := [("_law_e", 9)]) (N := NR) (sc := defScope sRight) (by decide +kernel)) (fun _ _ _ _ _ => pg_name (i := 9) scRight.nd rfl (.inl rfl)) (fun _ _ _ _ _ => pts_nil) (fun _ _ _ _ _ => by exact pe_xv (pv 9))))
          (pe_lc (own := [("_law_e", 9)]) (g := gName 9) (tt := tYes) (te := tXv K "limit" (tVar 9)) rfl scRight.nd (pi_list (pv 5)) (blkOk_by (own := [("_law_e", 9)]) (N := NR) (sc := defScope sRight) (by decide +kernel)) (fun _ _ _ _ _ => pg_name (i := 9) scRight.nd rfl (.inl rfl)) (fun _ _ _ _ _ => pts_nil) (fun _ _ _ _ _ => by exact pe_xv (pv 9)))))
      (pss_cons (ps_if (PW.pt (pw_or (pt_cmpR op_ne (pe_callB (Gd.call_reprD hgd hr sm) (by rfl) T.repr (by decide +kernel) (pa_cons (pv 6) pa_nil))
          (pe_callB (Gd.call_reprD hgd hr sm) (by rfl) T.repr (by decide +kernel) (pa_cons (pe_op op_rep (pe_lst (pa_cons (pv 1) pa_nil)) (pe_callB call_len_seq (by rfl) T.len PySem.boot_len (pa_cons (pv 6) pa_nil))) pa_nil)) (nomark _))
          (pw_or1 (pt_cmpR op_ne (pe_callB call_len_seq (by rfl) T.len PySem.boot_len (pa_cons (pv 2) pa_nil)) pe_int (nomark _))))) (pss_one (ps_ret pe_bl)) pss_nil)
      (pss_cons (ps_for PassesOwn.never rfl (pi_list (pe_lst (pa_cons (pe_tup (pa_cons (pe_op op_cat (pv 2) (pv 4)) (pa_cons (pe_lst (pa_cons pe_int (pa_cons pe_int pa_nil))) pa_nil))) (pa_cons (pe_tup (pa_cons (pv 3) (pa_cons (pe_lst (pa_cons pe_int (pa_cons pe_int pa_nil))) pa_nil)))
            (pa_cons (pe_tup (pa_cons (pv 5) (pa_cons (pe_lst (pa_cons pe_int (pa_cons pe_int pa_nil))) pa_nil))) pa_nil)))))
          (pg_tup (by rfl) (pgs_cons (pg_name (i := 7) scRight.nd rfl (.inl rfl)) (pgs_cons (pg_name (i := 8) scRight.nd rfl (.inr rfl)) pgs_nil)))
          (pss_one (ps_if (pt_not (pt_truth (pe_callB (cr_all rfl) (by rfl) T.all (by decide +kernel) (pa_cons (pe_lc (own := [("_law_e", 9)]) (g := gName 9) (tt := tYes) (te := tBoth K cl) rfl scRight.nd (pi_list (pv 7)) (blkOk_by (own := [("_law_e", 9)]) (N := NR) (sc := defScope sRight) (by decide +kernel))
              (fun _ _ _ _ _ => pg_name (i := 9) scRight.nd rfl (.inl rfl)) (fun _ _ _ _ _ => pts_nil)
              (fun _ _ _ _ _ => by exact pe_and (pe_cmpR (r := rEqD K) (op_eqD (hu64 hr)) (pe_call GB hr1 rfl T.gB T.kB N.bB .nil pass0 (pa_cons (pv 9) pa_nil)) (pv 8) (nomark _)) (pe_one (pe_cmpR op_eq (pe_call GI hr1 rfl T.gI T.kI N.bI .nil pass0 (pa_cons (pv 9) pa_nil)) pe_int (nomark _))))) pa_nil)) (fun _ => rfl))) (pss_one (ps_ret pe_bl)) pss_nil)))
      (pss_one (ps_ret (pe_cmpR (op_eqD (hu64 hr)) (pe_lst (pa_cons (pe_glob (v := .int 12) rfl m1 ⟨_, rfl⟩) (pa_cons (pe_glob (v := .int 6) rfl m2 ⟨_, rfl⟩) (pa_cons (pe_glob (v := .int 100) rfl m3 ⟨_, rfl⟩) (pa_cons (pe_glob (v := .int 1000) rfl m4 ⟨_, rfl⟩) (pa_cons (pe_glob (v := .int 6) rfl m5 ⟨_, rfl⟩) (pa_cons (pe_glob (v := .int 12) rfl m6 ⟨_, rfl⟩) pa_nil)))))))
          (pe_lst (pa_cons pe_int (pa_cons pe_int (pa_cons pe_int (pa_cons pe_int (pa_cons pe_int (pa_cons pe_int pa_nil))))))) (nomark _))))))))), ?_⟩
    -- the thing
    refine ⟨_, rfl, (by show 2 ≤ sizeLine; decide), fun t nt => ⟨(by show 1 ≤ sizeLine; decide), fun l nl dd ndd => ⟨_, _, rfl, rfl, ⟨by decide, by decide, by decide⟩, Nat.zero_le _, fun t0 n0 => ⟨_, rfl, (by show 10 ≤ sizeLine; decide), fun Lt nLt => ?_⟩⟩⟩⟩
    have u1 := same_upd (o := .tup [.int 2, .str "y"]) nt
    have u2 := same_upd (o := .lst [.int 3]) nl
    have u3 := same_upd (o := .dK []) ndd
    have u4 := same_upd (o := .tup []) n0
    have u5 := same_upd (o := .lst [.non, .int 0, .bl false, .str "x", .ref t, .ref l, .ref dd, .int (10 ^ 19), .ref t0, .int (-7)]) nLt
    have j1 := hJ.same u1
    have j2 := j1.same u2
    have j3 := j2.same u3
    have j4 := j3.same u4
    refine ⟨j, Lt, [.non, .int 0, .bl false, .str "x", .ref t, .ref l, .ref dd, .int (10 ^ 19), .ref t0, .int (-7)], rfl, j4.same u5, jar_ne j4 nLt, SqL.of upd_same, (by show 0 < 10; decide), (by show 10 < 1073741824; decide), fun Ha i thing hx oa Ja => ?_⟩
    have ht : Ha t = some (.tup [.int 2, .str "y"]) := oa _ _ (jar_ne hJ nt) (u5 _ _ (u4 _ _ (u3 _ _ (u2 _ _ upd_same))))
    have hl : Ha l = some (.lst [.int 3]) := oa _ _ (jar_ne j1 nl) (u5 _ _ (u4 _ _ (u3 _ _ upd_same)))
    have hdd : Ha dd = some (.dK []) := oa _ _ (jar_ne j2 ndd) (u5 _ _ (u4 _ _ upd_same))
    have h0 : Ha t0 = some (.tup []) := oa _ _ (jar_ne j3 n0) (u5 _ _ upd_same)
    have oHa : Off j H Ha := Off.trans (Same.off (Same.trans u1 (Same.trans u2 (Same.trans u3 (Same.trans u4 u5))))) oa
    obtain ⟨d, hd, g1, g2, g3⟩ := thing_of ht hl hdd h0 hx
    clear ht hl hdd h0 hx oa j1 j2 j3 j4 u1 u2 u3 u4 u5
    -- values, states
    refine ⟨_, rfl, thing, rfl, fun LV av H1 s1 hLV eV => ?_⟩
    refine fun a18 H2 s2 x18 a19 H3 s3 x19 a20 H4 s4 x20 => ⟨(by show 3 ≤ sizeLine; decide), fun LS nLS => ⟨_, _, rfl, ?_⟩⟩
    have v1 := same_upd (o := .lst [.ref a18, .ref a19, .ref a20]) nLS
    have hLS : (upd H4 LS (.lst [.ref a18, .ref a19, .ref a20])) LS = some (.lst [.ref a18, .ref a19, .ref a20]) := upd_same
    show tSeq _ _ _ _ (upd H4 LS (.lst [.ref a18, .ref a19, .ref a20]))
    generalize upd H4 LS (.lst [.ref a18, .ref a19, .ref a20]) = H5 at v1 hLS ⊢
    have x18' := v1 _ _ (s4 _ _ (s3 _ _ x18))
    have x19' := v1 _ _ (s4 _ _ x19)
    have x20' := v1 _ _ x20
    have s15 : Same H1 H5 := Same.trans s2 (Same.trans s3 (Same.trans s4 v1))
    clear x18 x19 x20
    -- places, limits
    refine ⟨_, rfl, thing, rfl, fun tt LP LL ap al H6 s6 htt hLP hLL eP eL => ?_⟩
    refine ⟨tt, _, rfl, SqT.of htt, rfl, _, _, rfl, _, _, rfl, rfl, ?_⟩
    -- kept
    have s16 := Same.trans s15 s6
    refine ⟨_, rfl, LV, rfl, ⟨_, SqL.of (s16 _ _ hLV)⟩, fun D1 nD1 => kept_lc (fun _ => ⟨rfl, rfl⟩) (s16 _ _ hLV) (eV.same s16) (vs_ok R) (by show 26 ≤ 900; decide) nD1 fun H7 s7 hD1 => ?_⟩
    refine ⟨_, rfl, LP, rfl, ⟨_, SqL.of (s7 _ _ hLP)⟩, fun D2 nD2 => kept_lc (fun _ => ⟨rfl, rfl⟩) (s7 _ _ hLP) (eP.same s7) (is_ok R) (by show 4 ≤ 900; decide) nD2 fun H8 s8 hD2 => ?_⟩
    refine ⟨D1, D2, _, _, rfl, rfl, s8 _ _ hD1, hD2, le1000 (by rw [List.length_replicate, List.length_replicate]; show 26 + 4 ≤ 1000; decide), fun p1 np1 => ?_⟩
    have w1 := same_upd (o := .lst (List.replicate (Vs cl ++ Vs cl).length thing ++ List.replicate (Is cl).length thing)) np1
    have hp1 : (upd H8 p1 (.lst (List.replicate (Vs cl ++ Vs cl).length thing ++ List.replicate (Is cl).length thing))) p1 = some (.lst (List.replicate 30 thing)) := upd_same
    generalize upd H8 p1 (.lst (List.replicate (Vs cl ++ Vs cl).length thing ++ List.replicate (Is cl).length thing)) = H9 at w1 hp1 ⊢
    have s69 := Same.trans s7 (Same.trans s8 w1)
    refine ⟨_, rfl, LL, rfl, ⟨_, SqL.of (s69 _ _ hLL)⟩, fun D3 nD3 => kept_lc (fun _ => ⟨rfl, rfl⟩) (s69 _ _ hLL) (eL.same s69) (ls_ok R) (by show 2 ≤ 900; decide) nD3 fun Hb sb hD3 => ?_⟩
    refine ⟨p1, D3, _, _, rfl, rfl, sb _ _ hp1, hD3, le1000 (by rw [List.length_replicate, List.length_replicate]; show 30 + 2 ≤ 1000; decide), fun p2 np2 => ?_⟩
    have w2 := same_upd (o := .lst (List.replicate 30 thing ++ List.replicate (Ls cl).length thing)) np2
    have hp2 : (upd Hb p2 (.lst (List.replicate 30 thing ++ List.replicate (Ls cl).length thing))) p2 = some (.lst (List.replicate 32 thing)) := upd_same
    show tSeq _ _ _ _ (upd Hb p2 (.lst (List.replicate 30 thing ++ List.replicate (Ls cl).length thing)))
    generalize upd Hb p2 (.lst (List.replicate 30 thing ++ List.replicate (Ls cl).length thing)) = Hc at w2 hp2 ⊢
    have s6c : Same H6 Hc := Same.trans s69 (Same.trans sb w2)
    have sac : Same Ha Hc := Same.trans s1 (Same.trans s16 s6c)
    clear w1 w2 hp1 hD1 hD2 hD3
    -- if
    have hdc := hd.same sac
    refine ⟨_, rfl, p2, .list (List.replicate 32 d), rfl, .lst hp2 (dqs hdc 32), g1, g2, g3, ?_⟩
    refine ⟨_, rfl, (by show 1 ≤ sizeLine; decide), fun q1 nq1 => ?_⟩
    have y1 := same_upd (o := .lst [thing]) nq1
    refine ⟨_, rfl, p2, _, rfl, .inl (SqL.of (y1 _ _ hp2)), q1, _, _, rfl, rfl, upd_same, (by rw [List.length_replicate]; decide), (by rw [List.length_replicate]; decide), (by rw [List.length_replicate]; exact le1000 (by show 1 * 32 ≤ 1000; decide)), fun q2 nq2 => ?_⟩
    have y2 := same_upd (o := .lst (List.replicate (((List.replicate 32 thing).length : Int)).toNat [thing]).flatten) nq2
    have hq2 : (upd (upd Hc q1 (.lst [thing])) q2 (.lst (List.replicate (((List.replicate 32 thing).length : Int)).toNat [thing]).flatten)) q2 = some (.lst (List.replicate 32 thing)) := upd_same
    refine ⟨q2, .list (List.replicate 32 d), rfl, .lst hq2 (dqs (hdc.same (Same.trans y1 y2)) 32), g1, g2, g3, rfl, _, rfl, ?_⟩
    rw [decide_eq_true rfl]
    refine iteF ?_
    have sce := Same.trans y1 y2
    generalize upd (upd Hc q1 (.lst [thing])) q2 (.lst (List.replicate (((List.replicate 32 thing).length : Int)).toNat [thing]).flatten) = He at y1 y2 sce hq2 ⊢
    have s6e := Same.trans s6c sce
    have lV : (av.map V.ref).length = 26 := by rw [List.length_map, eV.len]; rfl
    have hLVe := s6e _ _ (s16 _ _ hLV)
    refine ⟨_, rfl, LV, _, rfl, .inl (SqL.of hLVe), rfl, _, rfl, ?_⟩
    rw [lV]
    refine iteF ?_
    have sHe : Off j H He := oHa.trans (Same.off (Same.trans sac sce))
    -- the groups
    have hLPe := s6e _ _ hLP
    have hLLe := s6e _ _ hLL
    have hLSe := s6e _ _ (s6 _ _ hLS)
    have gV0 : Grp K cl He [0, 3] (av ++ ap) := Errs.grp (Errs.app (eP.same s6e) ((eV.same s16).same s6e)) (vi_good G)
    have gL0 : Grp K cl He [2, 5] al := (eL.same s6e).grp (ls_good G)
    have gS0 : Grp K cl He [1, 4] [a18, a19, a20] := by
      intro a ha
      simp only [List.mem_cons, List.not_mem_nil, or_false] at ha
      rcases ha with rfl | rfl | rfl
      · exact ⟨_, .inr (s6e _ _ (s6 _ _ x18')), G.s 18 (by decide)⟩
      · exact ⟨_, .inr (s6e _ _ (s6 _ _ x19')), G.s 19 (by decide)⟩
      · exact ⟨_, .inr (s6e _ _ (s6 _ _ x20')), G.s 20 (by decide)⟩
    have lP : (ap.map V.ref).length = 4 := by rw [List.length_map, eP.len]; rfl
    have lL : al.length = 2 := by rw [eL.len]; rfl
    have lV' : av.length = 26 := by rw [eV.len]; rfl
    have lP' : ap.length = 4 := by rw [eP.len]; rfl
    refine ⟨_, rfl, _, rfl, LV, LP, _, _, rfl, rfl, hLVe, hLPe, le1000 (by rw [lV, lP]; decide), fun G0 nG0 => ⟨(by show 2 ≤ sizeLine; decide), fun d0 nd0 => ⟨(by show 2 ≤ sizeLine; decide), fun T0 nT0 => ?_⟩⟩⟩
    refine ⟨_, rfl, (by show 2 ≤ sizeLine; decide), fun d1 nd1 => ⟨(by show 2 ≤ sizeLine; decide), fun T1 nT1 => ?_⟩⟩
    refine ⟨_, rfl, (by show 2 ≤ sizeLine; decide), fun d2 nd2 => ⟨(by show 2 ≤ sizeLine; decide), fun T2 nT2 => ⟨(by show 3 ≤ sizeLine; decide), fun LG nLG => ?_⟩⟩⟩
    have c1 := same_upd (o := .lst (av.map V.ref ++ ap.map V.ref)) nG0
    have c2 := same_upd (o := .lst [.int 0, .int 3]) nd0
    have c3 := same_upd (o := .tup [.ref G0, .ref d0]) nT0
    have c4 := same_upd (o := .lst [.int 1, .int 4]) nd1
    have c5 := same_upd (o := .tup [.ref LS, .ref d1]) nT1
    have c6 := same_upd (o := .lst [.int 2, .int 5]) nd2
    have c7 := same_upd (o := .tup [.ref LL, .ref d2]) nT2
    have c8 := same_upd (o := .lst [.ref T0, .ref T1, .ref T2]) nLG
    have z8 := Same.trans c7 c8
    have z7 := Same.trans c6 z8
    have z6 := Same.trans c5 z7
    have z5 := Same.trans c4 z6
    have z4 := Same.trans c3 z5
    have z3 := Same.trans c2 z4
    have z2 := Same.trans c1 z3
    have bG0 := z3 G0 _ upd_same
    have bd0 := z4 d0 _ upd_same
    have bT0 := z5 T0 _ upd_same
    have bd1 := z6 d1 _ upd_same
    have bT1 := z7 T1 _ upd_same
    have bd2 := z8 d2 _ upd_same
    have bT2 := c8 T2 _ upd_same
    have bLG : (upd (upd (upd (upd (upd (upd (upd (upd He G0 (.lst (av.map V.ref ++ ap.map V.ref))) d0 (.lst [.int 0, .int 3])) T0 (.tup [.ref G0, .ref d0])) d1 (.lst [.int 1, .int 4])) T1 (.tup [.ref LS, .ref d1])) d2 (.lst [.int 2, .int 5])) T2 (.tup [.ref LL, .ref d2])) LG (.lst [.ref T0, .ref T1, .ref T2])) LG = some (.lst [.ref T0, .ref T1, .ref T2]) := upd_same
    refine ⟨LG, rfl, ⟨_, SqL.of bLG⟩, ?_⟩
    clear c1 c2 c3 c4 c5 c6 c7 c8 z3 z4 z5 z6 z7 z8
    generalize upd (upd (upd (upd (upd (upd (upd (upd He G0 (.lst (av.map V.ref ++ ap.map V.ref))) d0 (.lst [.int 0, .int 3])) T0 (.tup [.ref G0, .ref d0])) d1 (.lst [.int 1, .int 4])) T1 (.tup [.ref LS, .ref d1])) d2 (.lst [.int 2, .int 5])) T2 (.tup [.ref LL, .ref d2])) LG (.lst [.ref T0, .ref T1, .ref T2]) = Hg at z2 bG0 bd0 bT0 bd1 bT1 bd2 bT2 bLG ⊢
    have oHg : Off j H Hg := sHe.trans (Same.off z2)
    have grp : ∀ (n : Nat) (x : V), ([.ref T0, .ref T1, .ref T2] : List V)[n]? = some x → ∃ (T G' D' : Addr) (as : List Addr) (due : List Int), x = .ref T ∧ Hg T = some (.tup [.ref G', .ref D']) ∧ Hg G' = some (.lst (as.map V.ref)) ∧ Hg D' = some (.lst (due.map V.int)) ∧ Grp K cl Hg due as ∧ as.length ≤ 900 ∧
        SeqAt.shaped (.list (due.map PyData.int)) = true ∧ PyData.eqv (.list (due.map PyData.int)) (.list (due.map PyData.int)) = true := by
      intro n x hx
      match n, hx with
      | 0, hx => exact ⟨T0, G0, d0, av ++ ap, [0, 3], (Option.some.inj hx).symm, bT0, by rw [List.map_append]; exact bG0, bd0, gV0.same z2, by rw [List.length_append]; omega, by decide +kernel, by decide +kernel⟩
      | 1, hx => exact ⟨T1, LS, d1, [a18, a19, a20], [1, 4], (Option.some.inj hx).symm, bT1, z2 _ _ hLSe, bd1, gS0.same z2, by show 3 ≤ 900; decide, by decide +kernel, by decide +kernel⟩
      | 2, hx => exact ⟨T2, LL, d2, al, [2, 5], (Option.some.inj hx).symm, bT2, z2 _ _ hLLe, bd2, gL0.same z2, by omega, by decide +kernel, by decide +kernel⟩
    refine for_list (K := K) (a := LG) (xs := [.ref T0, .ref T1, .ref T2]) (fun n σ' H' => Same Hg H' ∧ σ'.length = 10) ⟨fun _ _ e => e, rfl⟩ (fun n σ' H' _ ⟨sm, _⟩ => SqL.of (sm _ _ bLG)) ?_ ?_
    · rintro n x σ' H' hx ⟨sx, ln⟩
      obtain ⟨T', G', D', as, due, rfl, hT', hG', hD', hgr, few, shp, eqv⟩ := grp n x hx
      obtain ⟨i0, i1, i2, i3, i4, i5, i6, i7, i8, i9, rfl⟩ := len10 ln
      refine ⟨T', _, rfl, SqT.of (sx _ _ hT'), rfl, _, _, rfl, _, _, rfl, rfl, ?_⟩
      refine ⟨_, rfl, G', rfl, ⟨_, SqL.of (sx _ _ hG')⟩, fun D nD => ?_⟩
      refine lc_list (K := K) (a := G') (xs := as.map V.ref) (fun n H2 => Same H' H2 ∧ H2 D = some (.lst ((List.replicate n true).map V.bl))) ⟨same_upd nD, upd_same⟩ (fun n H2 _ ⟨sy, _⟩ => SqL.of (sy _ _ (sx _ _ hG'))) ?_ ?_
      · rintro m x H2 hm ⟨sy, hD⟩
        obtain ⟨a, ha, rfl⟩ : ∃ a ∈ as, x = .ref a := by
          obtain ⟨a, ha, e⟩ := List.mem_map.mp (List.mem_of_getElem? hm)
          exact ⟨a, ha, e.symm⟩
        have hm' : m < as.length := by
          have := (List.getElem?_eq_some_iff.mp hm).1
          rwa [List.length_map] at this
        obtain ⟨C, ex, XC, ⟨b6, kb6, ep⟩, b19, kb19, ec⟩ := hgr a ha
        have ex2 := ex.same (Same.trans sx sy)
        refine ⟨rfl, ?_⟩
        refine ⟨_, rfl, a, C, b6, rfl, ex2, XC, kb6, fun L H3 s3 hL => ?_⟩
        rw [ep] at hL
        refine ⟨_, rfl, _, _, dpInts hL, dpInts (s3 _ _ (sy _ _ (sx _ _ hD'))), shp, shp, ?_⟩
        rw [eqv]
        refine ⟨true, rfl, iteT ?_⟩
        refine ⟨_, rfl, a, C, b19, rfl, ex2.same s3, XC, kb19, fun H4 s4 => ⟨rfl, ?_⟩⟩
        rw [ec]
        refine ⟨_, s4 _ _ (s3 _ _ hD), small1000 (by rw [List.length_map, List.length_replicate]; omega), fun b o q => ?_, ?_⟩
        · rw [upd_ne (ne_of_none q nD)]
          exact s4 _ _ (s3 _ _ (sy _ _ q))
        · rw [upd_same, List.replicate_succ', List.map_append]
          rfl
      · rintro H2 ⟨sy, hD⟩
        refine ⟨D, List.replicate _ true, rfl, SqL.of hD, true, ?_, ?_⟩
        · show true = (List.replicate _ true).all id
          rw [all_true]
        · refine iteF ?_
          exact ⟨Same.trans sx sy, rfl⟩
    · rintro σ' H' ⟨sx, _⟩
      refine ⟨(by show 6 ≤ sizeLine; decide), fun e1 n1 => ⟨(by show 6 ≤ sizeLine; decide), fun e2 n2 => ?_⟩⟩
      have f1 := same_upd (o := .lst [.int 12, .int 6, .int 100, .int 1000, .int 6, .int 12]) n1
      have f2 := same_upd (o := .lst [.int 12, .int 6, .int 100, .int 1000, .int 6, .int 12]) n2
      refine ⟨_, _, dpInts (ns := [12, 6, 100, 1000, 6, 12]) (f2 _ _ upd_same), dpInts (ns := [12, 6, 100, 1000, 6, 12]) upd_same, (by decide +kernel), (by decide +kernel), ?_⟩
      rw [show PyData.eqv (.list (([12, 6, 100, 1000, 6, 12] : List Int).map PyData.int)) (.list (([12, 6, 100, 1000, 6, 12] : List Int).map PyData.int)) = true by decide +kernel]
      exact k _ (oHg.trans (Same.off (Same.trans sx (Same.trans f1 f2))))
end
end My

namespace My
open PySem L2 ExV
abbrev sLaw : Stmt := top 38
def spLaw (K : PySem.W.Frag) : Sp := fun vs H Q _ => ∃ (a : Addr) (ns : List Int), vs = [.ref a] ∧ SqL K H a (ns.map V.int) ∧ ns.length ≤ 63 ∧ ∀ H', Q (.bl true) H'
theorem scLaw : FnScope ["_law_script", "_law_k"] ["_law_script"] (defScope sLaw) := ⟨rfl, rfl, rfl, by decide +kernel, rfl, by decide +kernel, by decide +kernel⟩
section
variable {P : Program} {w : World} {K : PySem.W.Frag} {mg : Str → Option Value} {base : Heap} {cl : Nat → Addr} {fS fF fV fO fI fB : Addr} {fdS fdF fdV fdO fdI fdB : FuncData}
theorem ok_law {f fJ fR : Addr} {fd fdJ fdR : FuncData} (F : Fun K "law" "law" sLaw f fd) (TJ : TxtJ mg) (S : TxtS K mg fS) (R : Ers P w K mg base cl) (G : Gds K cl) (T : TxtR K mg fF fV fO fI fB) (N : FnR K fS fF fV fO fI fB fdS fdF fdV fdO fdI fdB) (sm : ∃ ob, base.get? sysModules = some ob)
    (FJ : Fun K "_law_jar" "_law_jar" sJar fJ fdJ) (bJ : Binds K fdJ ["_law_script", "_law_k"] []) (gJ : mg "_law_jar" = some (.ref fJ)) (kJ : PySem.W.keepIn K (.ref fJ) = true)
    (FR : Fun K "_law_right" "_law_right" sRight fR fdR) (bR : Binds K fdR ["_law_jar_here"] []) (gR : mg "_law_right" = some (.ref fR)) (kR : PySem.W.keepIn K (.ref fR) = true) (mmax : mg "max" = none) (mmin : mg "min" = none) (mrange : mg "range" = none) :
    Gd.FnG P w K mg base CX0 6 f fd ["_law_script"] (spLaw K) := by
  have GJ : FnOk P w K mg base CX0 1 fJ fdJ ["_law_script", "_law_k"] (spJar K) := ok_jar FJ TJ
  have GR : Gd.FnG P w K mg base CX0 5 fR fdR ["_law_jar_here"] spRight := ok_right FR TJ S R G T N mrange sm
  refine Gd.okG F scLaw (fun vs H Q E h => ?_) (fun cdv A outer s H vs Q E _ _ _ hgd hr h => ?_)
  · obtain ⟨a, ns, rfl, _⟩ := h
    rfl
  · obtain ⟨a, ns, rfl, hS, hl, k⟩ := h
    have hr1 : Room 1 _ := hr.mono (by decide)
    refine ⟨_, pss_one (ps_ret (pe_callB (cr_all rfl) (by rfl) T.all (by decide +kernel) (pa_cons (pe_lc (own := [("_law_k", 1)]) (g := gName 1) (tt := tYes) rfl scLaw.nd
      (pi_range1 rfl mrange (pa_cons (pe_callB (call_max2 rfl) (by rfl) mmax (by decide +kernel) (pa_cons pe_int (pa_cons (pe_callB (call_min2 rfl) (by rfl) mmin (by decide +kernel) (pa_cons (pe_callB call_len_seq (by rfl) TJ.len PySem.boot_len (pa_cons (pv 0) pa_nil)) (pa_cons pe_int pa_nil))) pa_nil))) pa_nil))
      (blkOk_by (own := [("_law_k", 1)]) (N := ["_law_script", "_law_k"]) (sc := defScope sLaw) (by decide +kernel)) (fun _ _ _ _ _ => pg_name (i := 1) scLaw.nd rfl (Or.inl rfl)) (fun _ _ _ _ _ => pts_nil)
      (fun _ _ _ _ _ => Gd.pe_callG GR hgd hr rfl gR kR bR .nil pass0 (pa_cons (pe_call GJ hr1 rfl gJ kJ bJ .nil pass0 (pa_cons (pv 0) (pa_cons (pv 1) pa_nil))) pa_nil))) pa_nil))), ?_⟩
    refine ⟨_, rfl, a, _, rfl, .inl hS, _, _, rfl, _, _, rfl, ?_⟩
    rw [List.length_map]
    have hm : ∃ n : Nat, (if (if (5 : Int) < (ns.length : Int) then 5 else (ns.length : Int)) > 2 then (if (5 : Int) < (ns.length : Int) then 5 else (ns.length : Int)) else 2) = (n : Int) ∧ n ≤ 5 := by
      by_cases h5 : (5 : Int) < (ns.length : Int)
      · rw [if_pos h5]
        exact ⟨5, rfl, Nat.le_refl _⟩
      · rw [if_neg h5]
        by_cases h2 : (ns.length : Int) > 2
        · rw [if_pos h2]
          exact ⟨ns.length, rfl, by omega⟩
        · rw [if_neg h2]
          exact ⟨2, rfl, by omega⟩
    obtain ⟨n, en, hn⟩ := hm
    refine ⟨_, rfl, by rw [en]; omega, by rw [en]; omega, fun D nD => ?_⟩
    rw [en]
    refine lc_range (lo := 0) (n := ((n : Int)).toNat) (fun i H' => Same H H' ∧ H' D = some (.lst ((List.replicate i true).map V.bl))) ⟨same_upd nD, upd_same⟩ ?_ ?_
    · rintro i H1 hi ⟨s1, hD⟩
      refine ⟨rfl, _, rfl, _, rfl, a, ns, i, by rw [Int.zero_add]; rfl, s1.seq hS, hl, fun H2 j s2 nj J2 => ?_⟩
      refine ⟨j, rfl, J2, fun H3 o3 => ?_⟩
      have s3 : Same H1 H3 := fun b o q => o3 b o (fun z => by rw [z, nj] at q; cases q) (s2 b o q)
      refine ⟨_, s3 _ _ hD, small1000 (by rw [List.length_map, List.length_replicate]; omega), fun b o q => ?_, ?_⟩
      · rw [upd_ne (ne_of_none q nD)]
        exact s3 _ _ (s1 _ _ q)
      · rw [upd_same, List.replicate_succ', List.map_append]
        rfl
    · rintro H1 ⟨s1, hD⟩
      refine ⟨D, List.replicate _ true, rfl, SqL.of hD, ?_⟩
      rw [all_true]
      exact k H1
end
def clOf (Cs : List Addr) (i : Nat) : Addr := Cs.getD i 0
def xiB (K : PySem.W.Frag) (C : Addr) : Bool := xfB K C && ((PySem.W.clsIn K C).isSome && (decide (PySem.W.findIn K (.ref C) "__class__" = some (some (.builtin "object.__class__"))) && decide (PySem.W.mroIn K C (.type "object") = some true)))
theorem xi_of {K : PySem.W.Frag} {C : Addr} (w2 : PySem.W.specialIn K (.builtin "object.__class__") "__get__" = some (some (.builtin "getset_descriptor.__get__"))) (w3 : PySem.W.takesIn K (.builtin "object.__class__") = some true) (h : xiB K C = true) : XiC K C := by
  obtain ⟨h1, h⟩ := Bool.and_eq_true_iff.mp h
  obtain ⟨h2, h⟩ := Bool.and_eq_true_iff.mp h
  obtain ⟨h3, h4⟩ := Bool.and_eq_true_iff.mp h
  exact ⟨xfB_ok h1, h2, of_decide_eq_true h3, w2, w3, of_decide_eq_true h4⟩
theorem gds_of {P : Program} {w : World} {K : PySem.W.Frag} {mg : Str → Option Value} {base : Heap} {cl : Nat → Addr} (R : Ers P w K mg base cl) (G1 : ([2, 3, 4, 5, 6, 7, 8, 9, 10, 11, 12, 13, 14, 15, 16] : List Nat).all (fun i => goodB K cl [0, 3] (cl i)) = true)
    (G2 : ([18, 19, 20] : List Nat).all (fun i => goodB K cl [1, 4] (cl i)) = true) (G3 : goodB K cl [2, 5] (cl 22) = true) : Gds K cl := by
  rw [List.all_eq_true] at G1 G2
  have x : ∀ i ∈ ([2, 3, 4, 5, 6, 7, 8, 9, 10, 11, 12, 13, 14, 15, 16] : List Nat), XiC K (cl i) := by
    intro i hi
    simp only [List.mem_cons, List.not_mem_nil, or_false] at hi
    rcases hi with rfl | rfl | rfl | rfl | rfl | rfl | rfl | rfl | rfl | rfl | rfl | rfl | rfl | rfl | rfl
    · exact R.e2.xi
    · exact R.e3.xi
    · exact R.e4.xi
    · exact R.e5.xi
    · exact R.e6.xi
    · exact R.e7.xi
    · exact R.e8.xi
    · exact R.e9.xi
    · exact R.e10.xi
    · exact R.e11.xi
    · exact R.e12.xi
    · exact R.e13.xi
    · exact R.e14.xi
    · exact R.e15.xi
    · exact R.e16.xi
  have y : ∀ i ∈ ([18, 19, 20] : List Nat), XiC K (cl i) := by
    intro i hi
    simp only [List.mem_cons, List.not_mem_nil, or_false] at hi
    rcases hi with rfl | rfl | rfl
    · exact R.e18.xi
    · exact R.e19.xi
    · exact R.e20.xi
  exact ⟨fun i hi => good_of (x i hi) (G1 i hi), fun i hi => good_of (y i hi) (G2 i hi), good_of R.e22.xi G3⟩
theorem all_mk {l : PySem.W.OpenLaw} {w : World} {K : PySem.W.Frag} {h : Heap} {mg : Str → Option Value} {fa C1 C2 C3 C4 C5 C6 C7 C8 C9 C10 C11 C12 C13 C14 C15 C16 C17 C18 C19 C20 C21 C22 f2 f3 f4 f5 f6 f7 f8 f9 f10 f11 f12 f13 f14 f15 f16 f22 hu1 hu2 hu3 hu4 hu5 hu6 hu7 hu8 hu9 : Addr} (X : K.In h) (G : h.Ns mainGlobals mg) (hfa : mg "law" = some (.ref fa))
    {od2 an2 od3 an3 od4 an4 od5 an5 od6 an6 od7 an7 od8 an8 od9 an9 od10 an10 od11 an11 od12 an12 od13 an13 od14 an14 od15 an15 od16 an16 od22 an22 odu1 anu1 odu2 anu2 odu3 anu3 odu4 anu4 odu5 anu5 odu6 anu6 odu7 anu7 odu8 anu8 odu9 anu9 : Option Addr} {sl2 sl3 sl4 sl5 sl6 sl7 sl8 sl9 sl10 sl11 sl12 sl13 sl14 sl15 sl16 sl22 slu1 slu2 slu3 slu4 slu5 slu6 slu7 slu8 slu9 : Array (Option Value)} {oc2 kV2 dc2 pm2 cd2 ct2 oc3 kV3 dc3 pm3 cd3 ct3 oc4 kV4 dc4 pm4 cd4 ct4 oc5 kV5 dc5 pm5 cd5 ct5 oc6 kV6 dc6 pm6 cd6 ct6 oc7 kV7 dc7 pm7 cd7 ct7 oc8 kV8 dc8 pm8 cd8 ct8 oc9 kV9 dc9 pm9 cd9 ct9 oc10 kV10 dc10 pm10 cd10 ct10 oc11 kV11 dc11 pm11 cd11 ct11 oc12 kV12 dc12 pm12 cd12 ct12 oc13 kV13 dc13 pm13 cd13 ct13 oc14 kV14 dc14 pm14 cd14 ct14 oc15 kV15 dc15 pm15 cd15 ct15 oc16 kV16 dc16 pm16 cd16 ct16 oc22 kV22 dc22 pm22 cd22 ct22 ocu1 kVu1 dcu1 pmu1 cdu1 ctu1 ocu2 kVu2 dcu2 pmu2 cdu2 ctu2 ocu3 kVu3 dcu3 pmu3 cdu3 ctu3 ocu4 kVu4 dcu4 pmu4 cdu4 ctu4 ocu5 kVu5 dcu5 pmu5 cdu5 ctu5 ocu6 kVu6 dcu6 pmu6 cdu6 ctu6 ocu7 kVu7 dcu7 pmu7 cdu7 ctu7 ocu8 kVu8 dcu8 pmu8 cdu8 ctu8 ocu9 kVu9 dcu9 pmu9 cdu9 ctu9 : Value} {tk0 tk1 tk2 tk3 tk4 tk5 : Tok}
    {nm2 q2 : Str} {N2 : Addr} {bs2 bm2 : List Value} {sn2 : List Str} {sub2 : List Value} {ab2 : Bool} {col2 : Option Bool} {dd2 : Option Addr} {m02 m12 m22 m32 m52 : Option Value}
    {nm3 q3 : Str} {N3 : Addr} {bs3 bm3 : List Value} {sn3 : List Str} {sub3 : List Value} {ab3 : Bool} {col3 : Option Bool} {dd3 : Option Addr} {m03 m13 m23 m33 m53 : Option Value}
    {nm4 q4 : Str} {N4 : Addr} {bs4 bm4 : List Value} {sn4 : List Str} {sub4 : List Value} {ab4 : Bool} {col4 : Option Bool} {dd4 : Option Addr} {m04 m14 m24 m34 m54 : Option Value}
    {nm5 q5 : Str} {N5 : Addr} {bs5 bm5 : List Value} {sn5 : List Str} {sub5 : List Value} {ab5 : Bool} {col5 : Option Bool} {dd5 : Option Addr} {m05 m15 m25 m35 m55 : Option Value}
    {nm6 q6 : Str} {N6 : Addr} {bs6 bm6 : List Value} {sn6 : List Str} {sub6 : List Value} {ab6 : Bool} {col6 : Option Bool} {dd6 : Option Addr} {m06 m16 m26 m36 m56 : Option Value}
    {nm7 q7 : Str} {N7 : Addr} {bs7 bm7 : List Value} {sn7 : List Str} {sub7 : List Value} {ab7 : Bool} {col7 : Option Bool} {dd7 : Option Addr} {m07 m17 m27 m37 m57 : Option Value}
    {nm8 q8 : Str} {N8 : Addr} {bs8 bm8 : List Value} {sn8 : List Str} {sub8 : List Value} {ab8 : Bool} {col8 : Option Bool} {dd8 : Option Addr} {m08 m18 m28 m38 m58 : Option Value}
    {nm9 q9 : Str} {N9 : Addr} {bs9 bm9 : List Value} {sn9 : List Str} {sub9 : List Value} {ab9 : Bool} {col9 : Option Bool} {dd9 : Option Addr} {m09 m19 m29 m39 m59 : Option Value}
    {nm10 q10 : Str} {N10 : Addr} {bs10 bm10 : List Value} {sn10 : List Str} {sub10 : List Value} {ab10 : Bool} {col10 : Option Bool} {dd10 : Option Addr} {m010 m110 m210 m310 m510 : Option Value}
    {nm11 q11 : Str} {N11 : Addr} {bs11 bm11 : List Value} {sn11 : List Str} {sub11 : List Value} {ab11 : Bool} {col11 : Option Bool} {dd11 : Option Addr} {m011 m111 m211 m311 m511 : Option Value}
    {nm12 q12 : Str} {N12 : Addr} {bs12 bm12 : List Value} {sn12 : List Str} {sub12 : List Value} {ab12 : Bool} {col12 : Option Bool} {dd12 : Option Addr} {m012 m112 m212 m312 m512 : Option Value}
    {nm13 q13 : Str} {N13 : Addr} {bs13 bm13 : List Value} {sn13 : List Str} {sub13 : List Value} {ab13 : Bool} {col13 : Option Bool} {dd13 : Option Addr} {m013 m113 m213 m313 m513 : Option Value}
    {nm14 q14 : Str} {N14 : Addr} {bs14 bm14 : List Value} {sn14 : List Str} {sub14 : List Value} {ab14 : Bool} {col14 : Option Bool} {dd14 : Option Addr} {m014 m114 m214 m314 m514 : Option Value}
    {nm15 q15 : Str} {N15 : Addr} {bs15 bm15 : List Value} {sn15 : List Str} {sub15 : List Value} {ab15 : Bool} {col15 : Option Bool} {dd15 : Option Addr} {m015 m115 m215 m315 m515 : Option Value}
    {nm16 q16 : Str} {N16 : Addr} {bs16 bm16 : List Value} {sn16 : List Str} {sub16 : List Value} {ab16 : Bool} {col16 : Option Bool} {dd16 : Option Addr} {m016 m116 m216 m316 m516 : Option Value}
    {nm22 q22 : Str} {N22 : Addr} {bs22 bm22 : List Value} {sn22 : List Str} {sub22 : List Value} {ab22 : Bool} {col22 : Option Bool} {dd22 : Option Addr} {m022 m122 m222 m322 m522 : Option Value}
    (g1 : PySem.W.nsIn K mainGlobals "InputError" = some (some (.ref C1)))
    (g17 : PySem.W.nsIn K mainGlobals "StateError" = some (some (.ref C17)))
    (g21 : PySem.W.nsIn K mainGlobals "SizeError" = some (some (.ref C21)))
    (w2 : PySem.W.specialIn K (.builtin "object.__class__") "__get__" = some (some (.builtin "getset_descriptor.__get__")))
    (w3 : PySem.W.takesIn K (.builtin "object.__class__") = some true)
    (g2 : PySem.W.nsIn K mainGlobals "NotALoop" = some (some (.ref C2)))
    (a2 : PySem.W.findIn K (.ref C2) "__init__" = some (some (.ref f2)))
    (l2 : K.lookup f2 = some ⟨oc2, od2, .func (PySem.W.fnOf "__init__" "NotALoop.__init__" (defArgs (inClass (top 2) 0)) (defBody (inClass (top 2) 0)) (defScope (inClass (top 2) 0)) .none kV2 dc2 pm2 an2 cd2 ct2), sl2⟩)
    (c2 : PySem.W.codeIn K cd2 "NotALoop.__init__" = true)
    (k2 : PySem.W.keepIn K (.ref f2) = true)
    (t2 : PySem.W.typeIn K (.ref f2) = some (.type "function"))
    (x2 : K.lookup C2 = some (excClassObj nm2 q2 C2 N2 bs2 bm2 true sn2 sub2 ab2 col2 dd2 m02 m12 m22 m32 m52 "ValueError.__new__"))
    (y2 : ExV.Behind [.type "ValueError", .type "Exception", .type "BaseException", .type "object"] bm2)
    (s2 : PySem.W.findIn K (.ref C2) "__setattr__" = some (some (.builtin "object.__setattr__")))
    (kc2 : PySem.W.keepIn K (.ref C2) = true)
    (no2 : PySem.W.findIn K (.ref C2) "value" = some none)
    (xi2 : xiB K C2 = true)
    (g3 : PySem.W.nsIn K mainGlobals "NotASource" = some (some (.ref C3)))
    (a3 : PySem.W.findIn K (.ref C3) "__init__" = some (some (.ref f3)))
    (l3 : K.lookup f3 = some ⟨oc3, od3, .func (PySem.W.fnOf "__init__" "NotASource.__init__" (defArgs (inClass (top 3) 0)) (defBody (inClass (top 3) 0)) (defScope (inClass (top 3) 0)) .none kV3 dc3 pm3 an3 cd3 ct3), sl3⟩)
    (c3 : PySem.W.codeIn K cd3 "NotASource.__init__" = true)
    (k3 : PySem.W.keepIn K (.ref f3) = true)
    (t3 : PySem.W.typeIn K (.ref f3) = some (.type "function"))
    (x3 : K.lookup C3 = some (excClassObj nm3 q3 C3 N3 bs3 bm3 true sn3 sub3 ab3 col3 dd3 m03 m13 m23 m33 m53 "ValueError.__new__"))
    (y3 : ExV.Behind [.type "ValueError", .type "Exception", .type "BaseException", .type "object"] bm3)
    (s3 : PySem.W.findIn K (.ref C3) "__setattr__" = some (some (.builtin "object.__setattr__")))
    (kc3 : PySem.W.keepIn K (.ref C3) = true)
    (no3 : PySem.W.findIn K (.ref C3) "value" = some none)
    (xi3 : xiB K C3 = true)
    (g4 : PySem.W.nsIn K mainGlobals "NotAChain" = some (some (.ref C4)))
    (a4 : PySem.W.findIn K (.ref C4) "__init__" = some (some (.ref f4)))
    (l4 : K.lookup f4 = some ⟨oc4, od4, .func (PySem.W.fnOf "__init__" "NotAChain.__init__" (defArgs (inClass (top 4) 0)) (defBody (inClass (top 4) 0)) (defScope (inClass (top 4) 0)) .none kV4 dc4 pm4 an4 cd4 ct4), sl4⟩)
    (c4 : PySem.W.codeIn K cd4 "NotAChain.__init__" = true)
    (k4 : PySem.W.keepIn K (.ref f4) = true)
    (t4 : PySem.W.typeIn K (.ref f4) = some (.type "function"))
    (x4 : K.lookup C4 = some (excClassObj nm4 q4 C4 N4 bs4 bm4 true sn4 sub4 ab4 col4 dd4 m04 m14 m24 m34 m54 "ValueError.__new__"))
    (y4 : ExV.Behind [.type "ValueError", .type "Exception", .type "BaseException", .type "object"] bm4)
    (s4 : PySem.W.findIn K (.ref C4) "__setattr__" = some (some (.builtin "object.__setattr__")))
    (kc4 : PySem.W.keepIn K (.ref C4) = true)
    (no4 : PySem.W.findIn K (.ref C4) "value" = some none)
    (xi4 : xiB K C4 = true)
    (g5 : PySem.W.nsIn K mainGlobals "NotAReading" = some (some (.ref C5)))
    (a5 : PySem.W.findIn K (.ref C5) "__init__" = some (some (.ref f5)))
    (l5 : K.lookup f5 = some ⟨oc5, od5, .func (PySem.W.fnOf "__init__" "NotAReading.__init__" (defArgs (inClass (top 5) 0)) (defBody (inClass (top 5) 0)) (defScope (inClass (top 5) 0)) .none kV5 dc5 pm5 an5 cd5 ct5), sl5⟩)
    (c5 : PySem.W.codeIn K cd5 "NotAReading.__init__" = true)
    (k5 : PySem.W.keepIn K (.ref f5) = true)
    (t5 : PySem.W.typeIn K (.ref f5) = some (.type "function"))
    (x5 : K.lookup C5 = some (excClassObj nm5 q5 C5 N5 bs5 bm5 true sn5 sub5 ab5 col5 dd5 m05 m15 m25 m35 m55 "ValueError.__new__"))
    (y5 : ExV.Behind [.type "ValueError", .type "Exception", .type "BaseException", .type "object"] bm5)
    (s5 : PySem.W.findIn K (.ref C5) "__setattr__" = some (some (.builtin "object.__setattr__")))
    (kc5 : PySem.W.keepIn K (.ref C5) = true)
    (no5 : PySem.W.findIn K (.ref C5) "value" = some none)
    (xi5 : xiB K C5 = true)
    (g6 : PySem.W.nsIn K mainGlobals "InvalidText" = some (some (.ref C6)))
    (a6 : PySem.W.findIn K (.ref C6) "__init__" = some (some (.ref f6)))
    (l6 : K.lookup f6 = some ⟨oc6, od6, .func (PySem.W.fnOf "__init__" "InvalidText.__init__" (defArgs (inClass (top 6) 0)) (defBody (inClass (top 6) 0)) (defScope (inClass (top 6) 0)) .none kV6 dc6 pm6 an6 cd6 ct6), sl6⟩)
    (c6 : PySem.W.codeIn K cd6 "InvalidText.__init__" = true)
    (k6 : PySem.W.keepIn K (.ref f6) = true)
    (t6 : PySem.W.typeIn K (.ref f6) = some (.type "function"))
    (x6 : K.lookup C6 = some (excClassObj nm6 q6 C6 N6 bs6 bm6 true sn6 sub6 ab6 col6 dd6 m06 m16 m26 m36 m56 "ValueError.__new__"))
    (y6 : ExV.Behind [.type "ValueError", .type "Exception", .type "BaseException", .type "object"] bm6)
    (s6 : PySem.W.findIn K (.ref C6) "__setattr__" = some (some (.builtin "object.__setattr__")))
    (kc6 : PySem.W.keepIn K (.ref C6) = true)
    (no6 : PySem.W.findIn K (.ref C6) "value" = some none)
    (xi6 : xiB K C6 = true)
    (g7 : PySem.W.nsIn K mainGlobals "InvalidWord" = some (some (.ref C7)))
    (a7 : PySem.W.findIn K (.ref C7) "__init__" = some (some (.ref f7)))
    (l7 : K.lookup f7 = some ⟨oc7, od7, .func (PySem.W.fnOf "__init__" "InvalidWord.__init__" (defArgs (inClass (top 7) 0)) (defBody (inClass (top 7) 0)) (defScope (inClass (top 7) 0)) .none kV7 dc7 pm7 an7 cd7 ct7), sl7⟩)
    (c7 : PySem.W.codeIn K cd7 "InvalidWord.__init__" = true)
    (k7 : PySem.W.keepIn K (.ref f7) = true)
    (t7 : PySem.W.typeIn K (.ref f7) = some (.type "function"))
    (x7 : K.lookup C7 = some (excClassObj nm7 q7 C7 N7 bs7 bm7 true sn7 sub7 ab7 col7 dd7 m07 m17 m27 m37 m57 "ValueError.__new__"))
    (y7 : ExV.Behind [.type "ValueError", .type "Exception", .type "BaseException", .type "object"] bm7)
    (s7 : PySem.W.findIn K (.ref C7) "__setattr__" = some (some (.builtin "object.__setattr__")))
    (kc7 : PySem.W.keepIn K (.ref C7) = true)
    (no7 : PySem.W.findIn K (.ref C7) "value" = some none)
    (xi7 : xiB K C7 = true)
    (g8 : PySem.W.nsIn K mainGlobals "InvalidItems" = some (some (.ref C8)))
    (a8 : PySem.W.findIn K (.ref C8) "__init__" = some (some (.ref f8)))
    (l8 : K.lookup f8 = some ⟨oc8, od8, .func (PySem.W.fnOf "__init__" "InvalidItems.__init__" (defArgs (inClass (top 8) 0)) (defBody (inClass (top 8) 0)) (defScope (inClass (top 8) 0)) .none kV8 dc8 pm8 an8 cd8 ct8), sl8⟩)
    (c8 : PySem.W.codeIn K cd8 "InvalidItems.__init__" = true)
    (k8 : PySem.W.keepIn K (.ref f8) = true)
    (t8 : PySem.W.typeIn K (.ref f8) = some (.type "function"))
    (x8 : K.lookup C8 = some (excClassObj nm8 q8 C8 N8 bs8 bm8 true sn8 sub8 ab8 col8 dd8 m08 m18 m28 m38 m58 "ValueError.__new__"))
    (y8 : ExV.Behind [.type "ValueError", .type "Exception", .type "BaseException", .type "object"] bm8)
    (s8 : PySem.W.findIn K (.ref C8) "__setattr__" = some (some (.builtin "object.__setattr__")))
    (kc8 : PySem.W.keepIn K (.ref C8) = true)
    (no8 : PySem.W.findIn K (.ref C8) "value" = some none)
    (xi8 : xiB K C8 = true)
    (g9 : PySem.W.nsIn K mainGlobals "InvalidSize" = some (some (.ref C9)))
    (a9 : PySem.W.findIn K (.ref C9) "__init__" = some (some (.ref f9)))
    (l9 : K.lookup f9 = some ⟨oc9, od9, .func (PySem.W.fnOf "__init__" "InvalidSize.__init__" (defArgs (inClass (top 9) 0)) (defBody (inClass (top 9) 0)) (defScope (inClass (top 9) 0)) .none kV9 dc9 pm9 an9 cd9 ct9), sl9⟩)
    (c9 : PySem.W.codeIn K cd9 "InvalidSize.__init__" = true)
    (k9 : PySem.W.keepIn K (.ref f9) = true)
    (t9 : PySem.W.typeIn K (.ref f9) = some (.type "function"))
    (x9 : K.lookup C9 = some (excClassObj nm9 q9 C9 N9 bs9 bm9 true sn9 sub9 ab9 col9 dd9 m09 m19 m29 m39 m59 "ValueError.__new__"))
    (y9 : ExV.Behind [.type "ValueError", .type "Exception", .type "BaseException", .type "object"] bm9)
    (s9 : PySem.W.findIn K (.ref C9) "__setattr__" = some (some (.builtin "object.__setattr__")))
    (kc9 : PySem.W.keepIn K (.ref C9) = true)
    (no9 : PySem.W.findIn K (.ref C9) "value" = some none)
    (xi9 : xiB K C9 = true)
    (g10 : PySem.W.nsIn K mainGlobals "InvalidName" = some (some (.ref C10)))
    (a10 : PySem.W.findIn K (.ref C10) "__init__" = some (some (.ref f10)))
    (l10 : K.lookup f10 = some ⟨oc10, od10, .func (PySem.W.fnOf "__init__" "InvalidName.__init__" (defArgs (inClass (top 10) 0)) (defBody (inClass (top 10) 0)) (defScope (inClass (top 10) 0)) .none kV10 dc10 pm10 an10 cd10 ct10), sl10⟩)
    (c10 : PySem.W.codeIn K cd10 "InvalidName.__init__" = true)
    (k10 : PySem.W.keepIn K (.ref f10) = true)
    (t10 : PySem.W.typeIn K (.ref f10) = some (.type "function"))
    (x10 : K.lookup C10 = some (excClassObj nm10 q10 C10 N10 bs10 bm10 true sn10 sub10 ab10 col10 dd10 m010 m110 m210 m310 m510 "ValueError.__new__"))
    (y10 : ExV.Behind [.type "ValueError", .type "Exception", .type "BaseException", .type "object"] bm10)
    (s10 : PySem.W.findIn K (.ref C10) "__setattr__" = some (some (.builtin "object.__setattr__")))
    (kc10 : PySem.W.keepIn K (.ref C10) = true)
    (no10 : PySem.W.findIn K (.ref C10) "value" = some none)
    (xi10 : xiB K C10 = true)
    (g11 : PySem.W.nsIn K mainGlobals "InvalidCount" = some (some (.ref C11)))
    (a11 : PySem.W.findIn K (.ref C11) "__init__" = some (some (.ref f11)))
    (l11 : K.lookup f11 = some ⟨oc11, od11, .func (PySem.W.fnOf "__init__" "InvalidCount.__init__" (defArgs (inClass (top 11) 0)) (defBody (inClass (top 11) 0)) (defScope (inClass (top 11) 0)) .none kV11 dc11 pm11 an11 cd11 ct11), sl11⟩)
    (c11 : PySem.W.codeIn K cd11 "InvalidCount.__init__" = true)
    (k11 : PySem.W.keepIn K (.ref f11) = true)
    (t11 : PySem.W.typeIn K (.ref f11) = some (.type "function"))
    (x11 : K.lookup C11 = some (excClassObj nm11 q11 C11 N11 bs11 bm11 true sn11 sub11 ab11 col11 dd11 m011 m111 m211 m311 m511 "ValueError.__new__"))
    (y11 : ExV.Behind [.type "ValueError", .type "Exception", .type "BaseException", .type "object"] bm11)
    (s11 : PySem.W.findIn K (.ref C11) "__setattr__" = some (some (.builtin "object.__setattr__")))
    (kc11 : PySem.W.keepIn K (.ref C11) = true)
    (no11 : PySem.W.findIn K (.ref C11) "value" = some none)
    (xi11 : xiB K C11 = true)
    (g12 : PySem.W.nsIn K mainGlobals "InvalidTold" = some (some (.ref C12)))
    (a12 : PySem.W.findIn K (.ref C12) "__init__" = some (some (.ref f12)))
    (l12 : K.lookup f12 = some ⟨oc12, od12, .func (PySem.W.fnOf "__init__" "InvalidTold.__init__" (defArgs (inClass (top 12) 0)) (defBody (inClass (top 12) 0)) (defScope (inClass (top 12) 0)) .none kV12 dc12 pm12 an12 cd12 ct12), sl12⟩)
    (c12 : PySem.W.codeIn K cd12 "InvalidTold.__init__" = true)
    (k12 : PySem.W.keepIn K (.ref f12) = true)
    (t12 : PySem.W.typeIn K (.ref f12) = some (.type "function"))
    (x12 : K.lookup C12 = some (excClassObj nm12 q12 C12 N12 bs12 bm12 true sn12 sub12 ab12 col12 dd12 m012 m112 m212 m312 m512 "ValueError.__new__"))
    (y12 : ExV.Behind [.type "ValueError", .type "Exception", .type "BaseException", .type "object"] bm12)
    (s12 : PySem.W.findIn K (.ref C12) "__setattr__" = some (some (.builtin "object.__setattr__")))
    (kc12 : PySem.W.keepIn K (.ref C12) = true)
    (no12 : PySem.W.findIn K (.ref C12) "value" = some none)
    (xi12 : xiB K C12 = true)
    (g13 : PySem.W.nsIn K mainGlobals "InvalidPlace" = some (some (.ref C13)))
    (a13 : PySem.W.findIn K (.ref C13) "__init__" = some (some (.ref f13)))
    (l13 : K.lookup f13 = some ⟨oc13, od13, .func (PySem.W.fnOf "__init__" "InvalidPlace.__init__" (defArgs (inClass (top 13) 0)) (defBody (inClass (top 13) 0)) (defScope (inClass (top 13) 0)) .none kV13 dc13 pm13 an13 cd13 ct13), sl13⟩)
    (c13 : PySem.W.codeIn K cd13 "InvalidPlace.__init__" = true)
    (k13 : PySem.W.keepIn K (.ref f13) = true)
    (t13 : PySem.W.typeIn K (.ref f13) = some (.type "function"))
    (x13 : K.lookup C13 = some (excClassObj nm13 q13 C13 N13 bs13 bm13 true sn13 sub13 ab13 col13 dd13 m013 m113 m213 m313 m513 "ValueError.__new__"))
    (y13 : ExV.Behind [.type "ValueError", .type "Exception", .type "BaseException", .type "object"] bm13)
    (s13 : PySem.W.findIn K (.ref C13) "__setattr__" = some (some (.builtin "object.__setattr__")))
    (kc13 : PySem.W.keepIn K (.ref C13) = true)
    (no13 : PySem.W.findIn K (.ref C13) "value" = some none)
    (xi13 : xiB K C13 = true)
    (g14 : PySem.W.nsIn K mainGlobals "InvalidRow" = some (some (.ref C14)))
    (a14 : PySem.W.findIn K (.ref C14) "__init__" = some (some (.ref f14)))
    (l14 : K.lookup f14 = some ⟨oc14, od14, .func (PySem.W.fnOf "__init__" "InvalidRow.__init__" (defArgs (inClass (top 14) 0)) (defBody (inClass (top 14) 0)) (defScope (inClass (top 14) 0)) .none kV14 dc14 pm14 an14 cd14 ct14), sl14⟩)
    (c14 : PySem.W.codeIn K cd14 "InvalidRow.__init__" = true)
    (k14 : PySem.W.keepIn K (.ref f14) = true)
    (t14 : PySem.W.typeIn K (.ref f14) = some (.type "function"))
    (x14 : K.lookup C14 = some (excClassObj nm14 q14 C14 N14 bs14 bm14 true sn14 sub14 ab14 col14 dd14 m014 m114 m214 m314 m514 "ValueError.__new__"))
    (y14 : ExV.Behind [.type "ValueError", .type "Exception", .type "BaseException", .type "object"] bm14)
    (s14 : PySem.W.findIn K (.ref C14) "__setattr__" = some (some (.builtin "object.__setattr__")))
    (kc14 : PySem.W.keepIn K (.ref C14) = true)
    (no14 : PySem.W.findIn K (.ref C14) "value" = some none)
    (xi14 : xiB K C14 = true)
    (g15 : PySem.W.nsIn K mainGlobals "InvalidReplies" = some (some (.ref C15)))
    (a15 : PySem.W.findIn K (.ref C15) "__init__" = some (some (.ref f15)))
    (l15 : K.lookup f15 = some ⟨oc15, od15, .func (PySem.W.fnOf "__init__" "InvalidReplies.__init__" (defArgs (inClass (top 15) 0)) (defBody (inClass (top 15) 0)) (defScope (inClass (top 15) 0)) .none kV15 dc15 pm15 an15 cd15 ct15), sl15⟩)
    (c15 : PySem.W.codeIn K cd15 "InvalidReplies.__init__" = true)
    (k15 : PySem.W.keepIn K (.ref f15) = true)
    (t15 : PySem.W.typeIn K (.ref f15) = some (.type "function"))
    (x15 : K.lookup C15 = some (excClassObj nm15 q15 C15 N15 bs15 bm15 true sn15 sub15 ab15 col15 dd15 m015 m115 m215 m315 m515 "ValueError.__new__"))
    (y15 : ExV.Behind [.type "ValueError", .type "Exception", .type "BaseException", .type "object"] bm15)
    (s15 : PySem.W.findIn K (.ref C15) "__setattr__" = some (some (.builtin "object.__setattr__")))
    (kc15 : PySem.W.keepIn K (.ref C15) = true)
    (no15 : PySem.W.findIn K (.ref C15) "index" = some none)
    (xi15 : xiB K C15 = true)
    (g16 : PySem.W.nsIn K mainGlobals "InvalidDeeds" = some (some (.ref C16)))
    (a16 : PySem.W.findIn K (.ref C16) "__init__" = some (some (.ref f16)))
    (l16 : K.lookup f16 = some ⟨oc16, od16, .func (PySem.W.fnOf "__init__" "InvalidDeeds.__init__" (defArgs (inClass (top 16) 0)) (defBody (inClass (top 16) 0)) (defScope (inClass (top 16) 0)) .none kV16 dc16 pm16 an16 cd16 ct16), sl16⟩)
    (c16 : PySem.W.codeIn K cd16 "InvalidDeeds.__init__" = true)
    (k16 : PySem.W.keepIn K (.ref f16) = true)
    (t16 : PySem.W.typeIn K (.ref f16) = some (.type "function"))
    (x16 : K.lookup C16 = some (excClassObj nm16 q16 C16 N16 bs16 bm16 true sn16 sub16 ab16 col16 dd16 m016 m116 m216 m316 m516 "ValueError.__new__"))
    (y16 : ExV.Behind [.type "ValueError", .type "Exception", .type "BaseException", .type "object"] bm16)
    (s16 : PySem.W.findIn K (.ref C16) "__setattr__" = some (some (.builtin "object.__setattr__")))
    (kc16 : PySem.W.keepIn K (.ref C16) = true)
    (no16 : PySem.W.findIn K (.ref C16) "index" = some none)
    (xi16 : xiB K C16 = true)
    (g22 : PySem.W.nsIn K mainGlobals "TooManyReplies" = some (some (.ref C22)))
    (a22 : PySem.W.findIn K (.ref C22) "__init__" = some (some (.ref f22)))
    (l22 : K.lookup f22 = some ⟨oc22, od22, .func (PySem.W.fnOf "__init__" "TooManyReplies.__init__" (defArgs (inClass (top 22) 0)) (defBody (inClass (top 22) 0)) (defScope (inClass (top 22) 0)) .none kV22 dc22 pm22 an22 cd22 ct22), sl22⟩)
    (c22 : PySem.W.codeIn K cd22 "TooManyReplies.__init__" = true)
    (k22 : PySem.W.keepIn K (.ref f22) = true)
    (t22 : PySem.W.typeIn K (.ref f22) = some (.type "function"))
    (x22 : K.lookup C22 = some (excClassObj nm22 q22 C22 N22 bs22 bm22 true sn22 sub22 ab22 col22 dd22 m022 m122 m222 m322 m522 "ArithmeticError.__new__"))
    (y22 : ExV.Behind [.type "ArithmeticError", .type "Exception", .type "BaseException", .type "object"] bm22)
    (s22 : PySem.W.findIn K (.ref C22) "__setattr__" = some (some (.builtin "object.__setattr__")))
    (kc22 : PySem.W.keepIn K (.ref C22) = true)
    (no22 : PySem.W.findIn K (.ref C22) "limit" = some none)
    (xi22 : xiB K C22 = true)
    (g18 : PySem.W.nsIn K mainGlobals "Stopped" = some (some (.ref C18)))
    (ei18 : PySem.W.excIn K C18 [.type "LookupError", .type "Exception", .type "BaseException", .type "object"] "LookupError.__new__" = true)
    (kc18 : PySem.W.keepIn K (.ref C18) = true)
    (xi18 : xiB K C18 = true)
    (g19 : PySem.W.nsIn K mainGlobals "NothingToUndo" = some (some (.ref C19)))
    (ei19 : PySem.W.excIn K C19 [.type "LookupError", .type "Exception", .type "BaseException", .type "object"] "LookupError.__new__" = true)
    (kc19 : PySem.W.keepIn K (.ref C19) = true)
    (xi19 : xiB K C19 = true)
    (g20 : PySem.W.nsIn K mainGlobals "Busy" = some (some (.ref C20)))
    (ei20 : PySem.W.excIn K C20 [.type "LookupError", .type "Exception", .type "BaseException", .type "object"] "LookupError.__new__" = true)
    (kc20 : PySem.W.keepIn K (.ref C20) = true)
    (xi20 : xiB K C20 = true)
    (G1 : ([2, 3, 4, 5, 6, 7, 8, 9, 10, 11, 12, 13, 14, 15, 16] : List Nat).all (fun i => goodB K (clOf [0, C1, C2, C3, C4, C5, C6, C7, C8, C9, C10, C11, C12, C13, C14, C15, C16, C17, C18, C19, C20, C21, C22]) [0, 3] ((clOf [0, C1, C2, C3, C4, C5, C6, C7, C8, C9, C10, C11, C12, C13, C14, C15, C16, C17, C18, C19, C20, C21, C22]) i)) = true)
    (G2 : ([18, 19, 20] : List Nat).all (fun i => goodB K (clOf [0, C1, C2, C3, C4, C5, C6, C7, C8, C9, C10, C11, C12, C13, C14, C15, C16, C17, C18, C19, C20, C21, C22]) [1, 4] ((clOf [0, C1, C2, C3, C4, C5, C6, C7, C8, C9, C10, C11, C12, C13, C14, C15, C16, C17, C18, C19, C20, C21, C22]) i)) = true)
    (G3 : goodB K (clOf [0, C1, C2, C3, C4, C5, C6, C7, C8, C9, C10, C11, C12, C13, C14, C15, C16, C17, C18, C19, C20, C21, C22]) [2, 5] ((clOf [0, C1, C2, C3, C4, C5, C6, C7, C8, C9, C10, C11, C12, C13, C14, C15, C16, C17, C18, C19, C20, C21, C22]) 22) = true)
    (nu1 : PySem.W.nsIn K mainGlobals "_law_jar" = some (some (.ref hu1)))
    (lu1 : K.lookup hu1 = some ⟨ocu1, odu1, .func (PySem.W.fnOf "_law_jar" "_law_jar" (defArgs sJar) (defBody sJar) (defScope sJar) .none kVu1 dcu1 pmu1 anu1 cdu1 ctu1), slu1⟩)
    (cu1 : PySem.W.codeIn K cdu1 "_law_jar" = true)
    (ku1 : PySem.W.keepIn K (.ref hu1) = true)
    (nu2 : PySem.W.nsIn K mainGlobals "_law_sip" = some (some (.ref hu2)))
    (lu2 : K.lookup hu2 = some ⟨ocu2, odu2, .func (PySem.W.fnOf "_law_sip" "_law_sip" (defArgs sSip) (defBody sSip) (defScope sSip) .none kVu2 dcu2 pmu2 anu2 cdu2 ctu2), slu2⟩)
    (cu2 : PySem.W.codeIn K cdu2 "_law_sip" = true)
    (ku2 : PySem.W.keepIn K (.ref hu2) = true)
    (nu3 : PySem.W.nsIn K mainGlobals "_law_from" = some (some (.ref hu3)))
    (lu3 : K.lookup hu3 = some ⟨ocu3, odu3, .func (PySem.W.fnOf "_law_from" "_law_from" (defArgs sFrom) (defBody sFrom) (defScope sFrom) .none kVu3 dcu3 pmu3 anu3 cdu3 ctu3), slu3⟩)
    (cu3 : PySem.W.codeIn K cdu3 "_law_from" = true)
    (ku3 : PySem.W.keepIn K (.ref hu3) = true)
    (nu4 : PySem.W.nsIn K mainGlobals "_law_value_errors" = some (some (.ref hu4)))
    (lu4 : K.lookup hu4 = some ⟨ocu4, odu4, .func (PySem.W.fnOf "_law_value_errors" "_law_value_errors" (defArgs sVal) (defBody sVal) (defScope sVal) .none kVu4 dcu4 pmu4 anu4 cdu4 ctu4), slu4⟩)
    (cu4 : PySem.W.codeIn K cdu4 "_law_value_errors" = true)
    (ku4 : PySem.W.keepIn K (.ref hu4) = true)
    (nu5 : PySem.W.nsIn K mainGlobals "_law_other_errors" = some (some (.ref hu5)))
    (lu5 : K.lookup hu5 = some ⟨ocu5, odu5, .func (PySem.W.fnOf "_law_other_errors" "_law_other_errors" (defArgs sOth) (defBody sOth) (defScope sOth) .none kVu5 dcu5 pmu5 anu5 cdu5 ctu5), slu5⟩)
    (cu5 : PySem.W.codeIn K cdu5 "_law_other_errors" = true)
    (ku5 : PySem.W.keepIn K (.ref hu5) = true)
    (nu6 : PySem.W.nsIn K mainGlobals "_law_instances" = some (some (.ref hu6)))
    (lu6 : K.lookup hu6 = some ⟨ocu6, odu6, .func (PySem.W.fnOf "_law_instances" "_law_instances" (defArgs sIns) (defBody sIns) (defScope sIns) .none kVu6 dcu6 pmu6 anu6 cdu6 ctu6), slu6⟩)
    (cu6 : PySem.W.codeIn K cdu6 "_law_instances" = true)
    (ku6 : PySem.W.keepIn K (.ref hu6) = true)
    (nu7 : PySem.W.nsIn K mainGlobals "_law_bases" = some (some (.ref hu7)))
    (lu7 : K.lookup hu7 = some ⟨ocu7, odu7, .func (PySem.W.fnOf "_law_bases" "_law_bases" (defArgs sBas) (defBody sBas) (defScope sBas) .none kVu7 dcu7 pmu7 anu7 cdu7 ctu7), slu7⟩)
    (cu7 : PySem.W.codeIn K cdu7 "_law_bases" = true)
    (ku7 : PySem.W.keepIn K (.ref hu7) = true)
    (nu8 : PySem.W.nsIn K mainGlobals "_law_right" = some (some (.ref hu8)))
    (lu8 : K.lookup hu8 = some ⟨ocu8, odu8, .func (PySem.W.fnOf "_law_right" "_law_right" (defArgs sRight) (defBody sRight) (defScope sRight) .none kVu8 dcu8 pmu8 anu8 cdu8 ctu8), slu8⟩)
    (cu8 : PySem.W.codeIn K cdu8 "_law_right" = true)
    (ku8 : PySem.W.keepIn K (.ref hu8) = true)
    (nu9 : PySem.W.nsIn K mainGlobals "law" = some (some (.ref hu9)))
    (lu9 : K.lookup hu9 = some ⟨ocu9, odu9, .func (PySem.W.fnOf "law" "law" (defArgs sLaw) (defBody sLaw) (defScope sLaw) .none kVu9 dcu9 pmu9 anu9 cdu9 ctu9), slu9⟩)
    (cu9 : PySem.W.codeIn K cdu9 "law" = true)
    (ku9 : PySem.W.keepIn K (.ref hu9) = true)
    (mo0 : PySem.W.nsIn K mainGlobals "MOST_ROUND" = some (some (.int 12 tk0)))
    (mo1 : PySem.W.nsIn K mainGlobals "MOST_ENDING" = some (some (.int 6 tk1)))
    (mo2 : PySem.W.nsIn K mainGlobals "MOST_REPLIES" = some (some (.int 100 tk2)))
    (mo3 : PySem.W.nsIn K mainGlobals "MOST_ITEMS" = some (some (.int 1000 tk3)))
    (mo4 : PySem.W.nsIn K mainGlobals "MOST_CUTTERS" = some (some (.int 6 tk4)))
    (mo5 : PySem.W.nsIn K mainGlobals "MOST_WIDTH" = some (some (.int 12 tk5)))
    (z_isinstance : PySem.W.nsIn K mainGlobals "isinstance" = some none)
    (z_ValueError : PySem.W.nsIn K mainGlobals "ValueError" = some none)
    (z_LookupError : PySem.W.nsIn K mainGlobals "LookupError" = some none)
    (z_ArithmeticError : PySem.W.nsIn K mainGlobals "ArithmeticError" = some none)
    (z_repr : PySem.W.nsIn K mainGlobals "repr" = some none)
    (z_len : PySem.W.nsIn K mainGlobals "len" = some none)
    (z_int : PySem.W.nsIn K mainGlobals "int" = some none)
    (z_abs : PySem.W.nsIn K mainGlobals "abs" = some none)
    (z_divmod : PySem.W.nsIn K mainGlobals "divmod" = some none)
    (z_all : PySem.W.nsIn K mainGlobals "all" = some none)
    (z_max : PySem.W.nsIn K mainGlobals "max" = some none)
    (z_min : PySem.W.nsIn K mainGlobals "min" = some none)
    (z_range : PySem.W.nsIn K mainGlobals "range" = some none) :
    Gd.LawG l w K 6 63 "_law_script" mg fa h := by
  have e := hfa.symm.trans (PySem.W.mg_of X G nu9)
  cases e
  have Fu1 := fun_mk (st := sJar) lu1 cu1 ku1
  have bu1 := Fu1.binds (ps := ["_law_script", "_law_k"]) fun _ _ _ _ _ _ us hl => match us, hl with | [_, _], _ => rfl
  have Fu2 := fun_mk (st := sSip) lu2 cu2 ku2
  have bu2 := Fu2.binds (ps := ["_law_jar_here", "_law_many"]) fun _ _ _ _ _ _ us hl => match us, hl with | [_, _], _ => rfl
  have Fu3 := fun_mk (st := sFrom) lu3 cu3 ku3
  have bu3 := Fu3.binds (ps := ["_law_jar_here", "_law_things"]) fun _ _ _ _ _ _ us hl => match us, hl with | [_, _], _ => rfl
  have Fu4 := fun_mk (st := sVal) lu4 cu4 ku4
  have bu4 := Fu4.binds (ps := ["_law_thing"]) fun _ _ _ _ _ _ us hl => match us, hl with | [_], _ => rfl
  have Fu5 := fun_mk (st := sOth) lu5 cu5 ku5
  have bu5 := Fu5.binds (ps := ["_law_thing"]) fun _ _ _ _ _ _ us hl => match us, hl with | [_], _ => rfl
  have Fu6 := fun_mk (st := sIns) lu6 cu6 ku6
  have bu6 := Fu6.binds (ps := ["_law_e"]) fun _ _ _ _ _ _ us hl => match us, hl with | [_], _ => rfl
  have Fu7 := fun_mk (st := sBas) lu7 cu7 ku7
  have bu7 := Fu7.binds (ps := ["_law_e"]) fun _ _ _ _ _ _ us hl => match us, hl with | [_], _ => rfl
  have Fu8 := fun_mk (st := sRight) lu8 cu8 ku8
  have bu8 := Fu8.binds (ps := ["_law_jar_here"]) fun _ _ _ _ _ _ us hl => match us, hl with | [_], _ => rfl
  have Fu9 := fun_mk (st := sLaw) lu9 cu9 ku9
  have F2 := fun_mk (st := inClass (top 2) 0) l2 c2 k2
  have b2 := F2.binds (ps := ["self", "value"]) fun _ _ _ _ _ _ us hl => match us, hl with | [_, _], _ => rfl
  have kb2 : KBn K (PySem.W.fnOf "__init__" "NotALoop.__init__" (defArgs (inClass (top 2) 0)) (defBody (inClass (top 2) 0)) (defScope (inClass (top 2) 0)) .none kV2 dc2 pm2 an2 cd2 ct2) ["self", "value"] 1 ["value"] gP gPV := ⟨fun s us ws _ h1 h2 => by
      match us, ws, h1, h2 with
      | [_], [_], _, _ => exact .of_eq rfl, fun h1 h2 => gP_rel h1 h2⟩
  have F3 := fun_mk (st := inClass (top 3) 0) l3 c3 k3
  have b3 := F3.binds (ps := ["self", "value"]) fun _ _ _ _ _ _ us hl => match us, hl with | [_, _], _ => rfl
  have kb3 : KBn K (PySem.W.fnOf "__init__" "NotASource.__init__" (defArgs (inClass (top 3) 0)) (defBody (inClass (top 3) 0)) (defScope (inClass (top 3) 0)) .none kV3 dc3 pm3 an3 cd3 ct3) ["self", "value"] 1 ["value"] gP gPV := ⟨fun s us ws _ h1 h2 => by
      match us, ws, h1, h2 with
      | [_], [_], _, _ => exact .of_eq rfl, fun h1 h2 => gP_rel h1 h2⟩
  have F4 := fun_mk (st := inClass (top 4) 0) l4 c4 k4
  have b4 := F4.binds (ps := ["self", "value"]) fun _ _ _ _ _ _ us hl => match us, hl with | [_, _], _ => rfl
  have kb4 : KBn K (PySem.W.fnOf "__init__" "NotAChain.__init__" (defArgs (inClass (top 4) 0)) (defBody (inClass (top 4) 0)) (defScope (inClass (top 4) 0)) .none kV4 dc4 pm4 an4 cd4 ct4) ["self", "value"] 1 ["value"] gP gPV := ⟨fun s us ws _ h1 h2 => by
      match us, ws, h1, h2 with
      | [_], [_], _, _ => exact .of_eq rfl, fun h1 h2 => gP_rel h1 h2⟩
  have F5 := fun_mk (st := inClass (top 5) 0) l5 c5 k5
  have b5 := F5.binds (ps := ["self", "value"]) fun _ _ _ _ _ _ us hl => match us, hl with | [_, _], _ => rfl
  have kb5 : KBn K (PySem.W.fnOf "__init__" "NotAReading.__init__" (defArgs (inClass (top 5) 0)) (defBody (inClass (top 5) 0)) (defScope (inClass (top 5) 0)) .none kV5 dc5 pm5 an5 cd5 ct5) ["self", "value"] 1 ["value"] gP gPV := ⟨fun s us ws _ h1 h2 => by
      match us, ws, h1, h2 with
      | [_], [_], _, _ => exact .of_eq rfl, fun h1 h2 => gP_rel h1 h2⟩
  have F6 := fun_mk (st := inClass (top 6) 0) l6 c6 k6
  have b6 := F6.binds (ps := ["self", "value"]) fun _ _ _ _ _ _ us hl => match us, hl with | [_, _], _ => rfl
  have kb6 : KBn K (PySem.W.fnOf "__init__" "InvalidText.__init__" (defArgs (inClass (top 6) 0)) (defBody (inClass (top 6) 0)) (defScope (inClass (top 6) 0)) .none kV6 dc6 pm6 an6 cd6 ct6) ["self", "value"] 1 ["value"] gP gPV := ⟨fun s us ws _ h1 h2 => by
      match us, ws, h1, h2 with
      | [_], [_], _, _ => exact .of_eq rfl, fun h1 h2 => gP_rel h1 h2⟩
  have F7 := fun_mk (st := inClass (top 7) 0) l7 c7 k7
  have b7 := F7.binds (ps := ["self", "value"]) fun _ _ _ _ _ _ us hl => match us, hl with | [_, _], _ => rfl
  have kb7 : KBn K (PySem.W.fnOf "__init__" "InvalidWord.__init__" (defArgs (inClass (top 7) 0)) (defBody (inClass (top 7) 0)) (defScope (inClass (top 7) 0)) .none kV7 dc7 pm7 an7 cd7 ct7) ["self", "value"] 1 ["value"] gP gPV := ⟨fun s us ws _ h1 h2 => by
      match us, ws, h1, h2 with
      | [_], [_], _, _ => exact .of_eq rfl, fun h1 h2 => gP_rel h1 h2⟩
  have F8 := fun_mk (st := inClass (top 8) 0) l8 c8 k8
  have b8 := F8.binds (ps := ["self", "value"]) fun _ _ _ _ _ _ us hl => match us, hl with | [_, _], _ => rfl
  have kb8 : KBn K (PySem.W.fnOf "__init__" "InvalidItems.__init__" (defArgs (inClass (top 8) 0)) (defBody (inClass (top 8) 0)) (defScope (inClass (top 8) 0)) .none kV8 dc8 pm8 an8 cd8 ct8) ["self", "value"] 1 ["value"] gP gPV := ⟨fun s us ws _ h1 h2 => by
      match us, ws, h1, h2 with
      | [_], [_], _, _ => exact .of_eq rfl, fun h1 h2 => gP_rel h1 h2⟩
  have F9 := fun_mk (st := inClass (top 9) 0) l9 c9 k9
  have b9 := F9.binds (ps := ["self", "value"]) fun _ _ _ _ _ _ us hl => match us, hl with | [_, _], _ => rfl
  have kb9 : KBn K (PySem.W.fnOf "__init__" "InvalidSize.__init__" (defArgs (inClass (top 9) 0)) (defBody (inClass (top 9) 0)) (defScope (inClass (top 9) 0)) .none kV9 dc9 pm9 an9 cd9 ct9) ["self", "value"] 1 ["value"] gP gPV := ⟨fun s us ws _ h1 h2 => by
      match us, ws, h1, h2 with
      | [_], [_], _, _ => exact .of_eq rfl, fun h1 h2 => gP_rel h1 h2⟩
  have F10 := fun_mk (st := inClass (top 10) 0) l10 c10 k10
  have b10 := F10.binds (ps := ["self", "value"]) fun _ _ _ _ _ _ us hl => match us, hl with | [_, _], _ => rfl
  have kb10 : KBn K (PySem.W.fnOf "__init__" "InvalidName.__init__" (defArgs (inClass (top 10) 0)) (defBody (inClass (top 10) 0)) (defScope (inClass (top 10) 0)) .none kV10 dc10 pm10 an10 cd10 ct10) ["self", "value"] 1 ["value"] gP gPV := ⟨fun s us ws _ h1 h2 => by
      match us, ws, h1, h2 with
      | [_], [_], _, _ => exact .of_eq rfl, fun h1 h2 => gP_rel h1 h2⟩
  have F11 := fun_mk (st := inClass (top 11) 0) l11 c11 k11
  have b11 := F11.binds (ps := ["self", "value"]) fun _ _ _ _ _ _ us hl => match us, hl with | [_, _], _ => rfl
  have kb11 : KBn K (PySem.W.fnOf "__init__" "InvalidCount.__init__" (defArgs (inClass (top 11) 0)) (defBody (inClass (top 11) 0)) (defScope (inClass (top 11) 0)) .none kV11 dc11 pm11 an11 cd11 ct11) ["self", "value"] 1 ["value"] gP gPV := ⟨fun s us ws _ h1 h2 => by
      match us, ws, h1, h2 with
      | [_], [_], _, _ => exact .of_eq rfl, fun h1 h2 => gP_rel h1 h2⟩
  have F12 := fun_mk (st := inClass (top 12) 0) l12 c12 k12
  have b12 := F12.binds (ps := ["self", "value"]) fun _ _ _ _ _ _ us hl => match us, hl with | [_, _], _ => rfl
  have kb12 : KBn K (PySem.W.fnOf "__init__" "InvalidTold.__init__" (defArgs (inClass (top 12) 0)) (defBody (inClass (top 12) 0)) (defScope (inClass (top 12) 0)) .none kV12 dc12 pm12 an12 cd12 ct12) ["self", "value"] 1 ["value"] gP gPV := ⟨fun s us ws _ h1 h2 => by
      match us, ws, h1, h2 with
      | [_], [_], _, _ => exact .of_eq rfl, fun h1 h2 => gP_rel h1 h2⟩
  have F13 := fun_mk (st := inClass (top 13) 0) l13 c13 k13
  have b13 := F13.binds (ps := ["self", "value"]) fun _ _ _ _ _ _ us hl => match us, hl with | [_, _], _ => rfl
  have kb13 : KBn K (PySem.W.fnOf "__init__" "InvalidPlace.__init__" (defArgs (inClass (top 13) 0)) (defBody (inClass (top 13) 0)) (defScope (inClass (top 13) 0)) .none kV13 dc13 pm13 an13 cd13 ct13) ["self", "value"] 1 ["value"] gP gPV := ⟨fun s us ws _ h1 h2 => by
      match us, ws, h1, h2 with
      | [_], [_], _, _ => exact .of_eq rfl, fun h1 h2 => gP_rel h1 h2⟩
  have F14 := fun_mk (st := inClass (top 14) 0) l14 c14 k14
  have b14 := F14.binds (ps := ["self", "value"]) fun _ _ _ _ _ _ us hl => match us, hl with | [_, _], _ => rfl
  have kb14 : KBn K (PySem.W.fnOf "__init__" "InvalidRow.__init__" (defArgs (inClass (top 14) 0)) (defBody (inClass (top 14) 0)) (defScope (inClass (top 14) 0)) .none kV14 dc14 pm14 an14 cd14 ct14) ["self", "value"] 1 ["value"] gP gPV := ⟨fun s us ws _ h1 h2 => by
      match us, ws, h1, h2 with
      | [_], [_], _, _ => exact .of_eq rfl, fun h1 h2 => gP_rel h1 h2⟩
  have F15 := fun_mk (st := inClass (top 15) 0) l15 c15 k15
  have b15 := F15.binds (ps := ["self", "index"]) fun _ _ _ _ _ _ us hl => match us, hl with | [_, _], _ => rfl
  have kb15 : KBn K (PySem.W.fnOf "__init__" "InvalidReplies.__init__" (defArgs (inClass (top 15) 0)) (defBody (inClass (top 15) 0)) (defScope (inClass (top 15) 0)) .none kV15 dc15 pm15 an15 cd15 ct15) ["self", "index"] 1 ["index"] gP gPV := ⟨fun s us ws _ h1 h2 => by
      match us, ws, h1, h2 with
      | [_], [_], _, _ => exact .of_eq rfl, fun h1 h2 => gP_rel h1 h2⟩
  have F16 := fun_mk (st := inClass (top 16) 0) l16 c16 k16
  have b16 := F16.binds (ps := ["self", "index"]) fun _ _ _ _ _ _ us hl => match us, hl with | [_, _], _ => rfl
  have kb16 : KBn K (PySem.W.fnOf "__init__" "InvalidDeeds.__init__" (defArgs (inClass (top 16) 0)) (defBody (inClass (top 16) 0)) (defScope (inClass (top 16) 0)) .none kV16 dc16 pm16 an16 cd16 ct16) ["self", "index"] 1 ["index"] gP gPV := ⟨fun s us ws _ h1 h2 => by
      match us, ws, h1, h2 with
      | [_], [_], _, _ => exact .of_eq rfl, fun h1 h2 => gP_rel h1 h2⟩
  have F22 := fun_mk (st := inClass (top 22) 0) l22 c22 k22
  have b22 := F22.binds (ps := ["self", "limit"]) fun _ _ _ _ _ _ us hl => match us, hl with | [_, _], _ => rfl
  have kb22 : KBn K (PySem.W.fnOf "__init__" "TooManyReplies.__init__" (defArgs (inClass (top 22) 0)) (defBody (inClass (top 22) 0)) (defScope (inClass (top 22) 0)) .none kV22 dc22 pm22 an22 cd22 ct22) ["self", "limit"] 1 ["limit"] gP gPV := ⟨fun s us ws _ h1 h2 => by
      match us, ws, h1, h2 with
      | [_], [_], _, _ => exact .of_eq rfl, fun h1 h2 => gP_rel h1 h2⟩
  have R : ∀ base : Heap, Ers l.prog w K mg base (clOf [0, C1, C2, C3, C4, C5, C6, C7, C8, C9, C10, C11, C12, C13, C14, C15, C16, C17, C18, C19, C20, C21, C22]) := fun base => ⟨er_NotALoop (PySem.W.mg_of X G g2) (xi_of w2 w3 xi2) no2 ⟨⟨nm2, q2, N2, bs2, bm2, sn2, sub2, ab2, col2, dd2, m02, m12, m22, m32, m52, x2, y2⟩, s2, kc2⟩ a2 t2 F2 b2 kb2,
    er_NotASource (PySem.W.mg_of X G g3) (xi_of w2 w3 xi3) no3 ⟨⟨nm3, q3, N3, bs3, bm3, sn3, sub3, ab3, col3, dd3, m03, m13, m23, m33, m53, x3, y3⟩, s3, kc3⟩ a3 t3 F3 b3 kb3,
    er_NotAChain (PySem.W.mg_of X G g4) (xi_of w2 w3 xi4) no4 ⟨⟨nm4, q4, N4, bs4, bm4, sn4, sub4, ab4, col4, dd4, m04, m14, m24, m34, m54, x4, y4⟩, s4, kc4⟩ a4 t4 F4 b4 kb4,
    er_NotAReading (PySem.W.mg_of X G g5) (xi_of w2 w3 xi5) no5 ⟨⟨nm5, q5, N5, bs5, bm5, sn5, sub5, ab5, col5, dd5, m05, m15, m25, m35, m55, x5, y5⟩, s5, kc5⟩ a5 t5 F5 b5 kb5,
    er_InvalidText (PySem.W.mg_of X G g6) (xi_of w2 w3 xi6) no6 ⟨⟨nm6, q6, N6, bs6, bm6, sn6, sub6, ab6, col6, dd6, m06, m16, m26, m36, m56, x6, y6⟩, s6, kc6⟩ a6 t6 F6 b6 kb6,
    er_InvalidWord (PySem.W.mg_of X G g7) (xi_of w2 w3 xi7) no7 ⟨⟨nm7, q7, N7, bs7, bm7, sn7, sub7, ab7, col7, dd7, m07, m17, m27, m37, m57, x7, y7⟩, s7, kc7⟩ a7 t7 F7 b7 kb7,
    er_InvalidItems (PySem.W.mg_of X G g8) (xi_of w2 w3 xi8) no8 ⟨⟨nm8, q8, N8, bs8, bm8, sn8, sub8, ab8, col8, dd8, m08, m18, m28, m38, m58, x8, y8⟩, s8, kc8⟩ a8 t8 F8 b8 kb8,
    er_InvalidSize (PySem.W.mg_of X G g9) (xi_of w2 w3 xi9) no9 ⟨⟨nm9, q9, N9, bs9, bm9, sn9, sub9, ab9, col9, dd9, m09, m19, m29, m39, m59, x9, y9⟩, s9, kc9⟩ a9 t9 F9 b9 kb9,
    er_InvalidName (PySem.W.mg_of X G g10) (xi_of w2 w3 xi10) no10 ⟨⟨nm10, q10, N10, bs10, bm10, sn10, sub10, ab10, col10, dd10, m010, m110, m210, m310, m510, x10, y10⟩, s10, kc10⟩ a10 t10 F10 b10 kb10,
    er_InvalidCount (PySem.W.mg_of X G g11) (xi_of w2 w3 xi11) no11 ⟨⟨nm11, q11, N11, bs11, bm11, sn11, sub11, ab11, col11, dd11, m011, m111, m211, m311, m511, x11, y11⟩, s11, kc11⟩ a11 t11 F11 b11 kb11,
    er_InvalidTold (PySem.W.mg_of X G g12) (xi_of w2 w3 xi12) no12 ⟨⟨nm12, q12, N12, bs12, bm12, sn12, sub12, ab12, col12, dd12, m012, m112, m212, m312, m512, x12, y12⟩, s12, kc12⟩ a12 t12 F12 b12 kb12,
    er_InvalidPlace (PySem.W.mg_of X G g13) (xi_of w2 w3 xi13) no13 ⟨⟨nm13, q13, N13, bs13, bm13, sn13, sub13, ab13, col13, dd13, m013, m113, m213, m313, m513, x13, y13⟩, s13, kc13⟩ a13 t13 F13 b13 kb13,
    er_InvalidRow (PySem.W.mg_of X G g14) (xi_of w2 w3 xi14) no14 ⟨⟨nm14, q14, N14, bs14, bm14, sn14, sub14, ab14, col14, dd14, m014, m114, m214, m314, m514, x14, y14⟩, s14, kc14⟩ a14 t14 F14 b14 kb14,
    er_InvalidReplies (PySem.W.mg_of X G g15) (xi_of w2 w3 xi15) no15 ⟨⟨nm15, q15, N15, bs15, bm15, sn15, sub15, ab15, col15, dd15, m015, m115, m215, m315, m515, x15, y15⟩, s15, kc15⟩ a15 t15 F15 b15 kb15,
    er_InvalidDeeds (PySem.W.mg_of X G g16) (xi_of w2 w3 xi16) no16 ⟨⟨nm16, q16, N16, bs16, bm16, sn16, sub16, ab16, col16, dd16, m016, m116, m216, m316, m516, x16, y16⟩, s16, kc16⟩ a16 t16 F16 b16 kb16,
    er_TooManyReplies (PySem.W.mg_of X G g22) (xi_of w2 w3 xi22) no22 ⟨⟨nm22, q22, N22, bs22, bm22, sn22, sub22, ab22, col22, dd22, m022, m122, m222, m322, m522, x22, y22⟩, s22, kc22⟩ a22 t22 F22 b22 kb22, ⟨PySem.W.mg_of X G g18, xi_of w2 w3 xi18, ei18, kc18⟩,
    ⟨PySem.W.mg_of X G g19, xi_of w2 w3 xi19, ei19, kc19⟩,
    ⟨PySem.W.mg_of X G g20, xi_of w2 w3 xi20, ei20, kc20⟩, PySem.W.mg_of X G g1, PySem.W.mg_of X G g17, PySem.W.mg_of X G g21, PySem.W.mg_none_of X G z_isinstance, PySem.W.mg_none_of X G z_ValueError, PySem.W.mg_none_of X G z_LookupError, PySem.W.mg_none_of X G z_ArithmeticError⟩
  have Gd0 : Gds K (clOf [0, C1, C2, C3, C4, C5, C6, C7, C8, C9, C10, C11, C12, C13, C14, C15, C16, C17, C18, C19, C20, C21, C22]) := gds_of (R h) G1 G2 G3
  have TJ : TxtJ mg := ⟨PySem.W.mg_none_of X G z_len, PySem.W.mg_none_of X G z_int, PySem.W.mg_none_of X G z_abs, PySem.W.mg_none_of X G z_divmod⟩
  have TS : TxtS K mg hu2 := ⟨PySem.W.mg_of X G nu2, ku2⟩
  have T : TxtR K mg hu3 hu4 hu5 hu6 hu7 := ⟨PySem.W.mg_none_of X G z_repr, PySem.W.mg_none_of X G z_len, PySem.W.mg_none_of X G z_all, PySem.W.mg_of X G nu3, ku3, PySem.W.mg_of X G nu4, ku4, PySem.W.mg_of X G nu5, ku5, PySem.W.mg_of X G nu6, ku6, PySem.W.mg_of X G nu7, ku7, ⟨_, PySem.W.mg_of X G mo0⟩, ⟨_, PySem.W.mg_of X G mo1⟩, ⟨_, PySem.W.mg_of X G mo2⟩, ⟨_, PySem.W.mg_of X G mo3⟩, ⟨_, PySem.W.mg_of X G mo4⟩, ⟨_, PySem.W.mg_of X G mo5⟩⟩
  have N : FnR K hu2 hu3 hu4 hu5 hu6 hu7 _ _ _ _ _ _ := ⟨Fu3, bu3, Fu2, bu2, Fu4, bu4, Fu5, bu5, Fu6, bu6, Fu7, bu7⟩
  refine ⟨_, [], spLaw K, fun p hp => (nomatch hp), fun p hp => (nomatch hp), fun p hp => (nomatch hp), fun s v => .of_eq rfl, fun H a ns hl _ hS => ⟨a, ns, rfl, hS, hl, fun _ => rfl⟩, fun base _ _ sm _ => ok_law Fu9 TJ TS (R base) Gd0 T N sm Fu1 bu1 (PySem.W.mg_of X G nu1) ku1 Fu8 bu8 (PySem.W.mg_of X G nu8) ku8 (PySem.W.mg_none_of X G z_max) (PySem.W.mg_none_of X G z_min) (PySem.W.mg_none_of X G z_range)⟩
end My

open PySem PySem.W PyProof.Rows in
set_option maxRecDepth 100000 in
set_option maxHeartbeats 0 in
theorem PySem.Challenge.cw_lastshort_k07_errors_and_limits_holds : PySem.Challenge.rw_lastshort_k07_errors_and_limits.Holds := by
  w_on; o_law; k_head; (case hw => w_witness2)
  k_fill
  refine Gd.walk_ofG (l := PySem.Challenge.rw_lastshort_k07_errors_and_limits) (n := 63) (k := 6) (x := "_law_script") rfl (by decide) rfl (by decide +kernel) ⟨rfl, by decide, by decide⟩ (fun w h Y => PySem.W.kIn_of Y) ?F
  case F =>
    intro w mg fa h Y KX G hmg
    refine' My.all_mk KX G hmg ?g1 ?g17 ?g21 ?w2 ?w3 ?g2 ?a2 ?l2 ?c2 ?k2 ?t2 ?x2 ?y2 ?s2 ?kc2 ?no2 ?xi2 ?g3 ?a3 ?l3 ?c3 ?k3 ?t3 ?x3 ?y3 ?s3 ?kc3 ?no3 ?xi3 ?g4 ?a4 ?l4 ?c4 ?k4 ?t4 ?x4 ?y4 ?s4 ?kc4 ?no4 ?xi4 ?g5 ?a5 ?l5 ?c5 ?k5 ?t5 ?x5 ?y5 ?s5 ?kc5 ?no5 ?xi5 ?g6 ?a6 ?l6 ?c6 ?k6 ?t6 ?x6 ?y6 ?s6 ?kc6 ?no6 ?xi6 ?g7 ?a7 ?l7 ?c7 ?k7 ?t7 ?x7 ?y7 ?s7 ?kc7 ?no7 ?xi7 ?g8 ?a8 ?l8 ?c8 ?k8 ?t8 ?x8 ?y8 ?s8 ?kc8 ?no8 ?xi8 ?g9 ?a9 ?l9 ?c9 ?k9 ?t9 ?x9 ?y9 ?s9 ?kc9 ?no9 ?xi9 ?g10 ?a10 ?l10 ?c10 ?k10 ?t10 ?x10 ?y10 ?s10 ?kc10 ?no10 ?xi10 ?g11 ?a11 ?l11 ?c11 ?k11 ?t11 ?x11 ?y11 ?s11 ?kc11 ?no11 ?xi11 ?g12 ?a12 ?l12 ?c12 ?k12 ?t12 ?x12 ?y12 ?s12 ?kc12 ?no12 ?xi12 ?g13 ?a13 ?l13 ?c13 ?k13 ?t13 ?x13 ?y13 ?s13 ?kc13 ?no13 ?xi13 ?g14 ?a14 ?l14 ?c14 ?k14 ?t14 ?x14 ?y14 ?s14 ?kc14 ?no14 ?xi14 ?g15 ?a15 ?l15 ?c15 ?k15 ?t15 ?x15 ?y15 ?s15 ?kc15 ?no15 ?xi15 ?g16 ?a16 ?l16 ?c16 ?k16 ?t16 ?x16 ?y16 ?s16 ?kc16 ?no16 ?xi16 ?g22 ?a22 ?l22 ?c22 ?k22 ?t22 ?x22 ?y22 ?s22 ?kc22 ?no22 ?xi22 ?g18 ?ei18 ?kc18 ?xi18 ?g19 ?ei19 ?kc19 ?xi19 ?g20 ?ei20 ?kc20 ?xi20 ?G1 ?G2 ?G3 ?nu1 ?lu1 ?cu1 ?ku1 ?nu2 ?lu2 ?cu2 ?ku2 ?nu3 ?lu3 ?cu3 ?ku3 ?nu4 ?lu4 ?cu4 ?ku4 ?nu5 ?lu5 ?cu5 ?ku5 ?nu6 ?lu6 ?cu6 ?ku6 ?nu7 ?lu7 ?cu7 ?ku7 ?nu8 ?lu8 ?cu8 ?ku8 ?nu9 ?lu9 ?cu9 ?ku9 ?mo0 ?mo1 ?mo2 ?mo3 ?mo4 ?mo5 ?z_isinstance ?z_ValueError ?z_LookupError ?z_ArithmeticError ?z_repr ?z_len ?z_int ?z_abs ?z_divmod ?z_all ?z_max ?z_min ?z_range
    (case g1 => k_is)
    (case g17 => k_is)
    (case g21 => k_is)
    (case w2 => k_is)
    (case w3 => k_is)
    (case g2 => k_is)
    (case a2 => k_is)
    (case l2 => k_is)
    (case c2 => k_is)
    (case k2 => k_is)
    (case t2 => k_is)
    (case x2 => k_is)
    (case y2 => exact .own .here)
    (case s2 => k_is)
    (case kc2 => k_is)
    (case no2 => k_is)
    (case xi2 => kernel_rfl)
    (case g3 => k_is)
    (case a3 => k_is)
    (case l3 => k_is)
    (case c3 => k_is)
    (case k3 => k_is)
    (case t3 => k_is)
    (case x3 => k_is)
    (case y3 => exact .own .here)
    (case s3 => k_is)
    (case kc3 => k_is)
    (case no3 => k_is)
    (case xi3 => kernel_rfl)
    (case g4 => k_is)
    (case a4 => k_is)
    (case l4 => k_is)
    (case c4 => k_is)
    (case k4 => k_is)
    (case t4 => k_is)
    (case x4 => k_is)
    (case y4 => exact .own .here)
    (case s4 => k_is)
    (case kc4 => k_is)
    (case no4 => k_is)
    (case xi4 => kernel_rfl)
    (case g5 => k_is)
    (case a5 => k_is)
    (case l5 => k_is)
    (case c5 => k_is)
    (case k5 => k_is)
    (case t5 => k_is)
    (case x5 => k_is)
    (case y5 => exact .own .here)
    (case s5 => k_is)
    (case kc5 => k_is)
    (case no5 => k_is)
    (case xi5 => kernel_rfl)
    (case g6 => k_is)
    (case a6 => k_is)
    (case l6 => k_is)
    (case c6 => k_is)
    (case k6 => k_is)
    (case t6 => k_is)
    (case x6 => k_is)
    (case y6 => exact .own .here)
    (case s6 => k_is)
    (case kc6 => k_is)
    (case no6 => k_is)
    (case xi6 => kernel_rfl)
    (case g7 => k_is)
    (case a7 => k_is)
    (case l7 => k_is)
    (case c7 => k_is)
    (case k7 => k_is)
    (case t7 => k_is)
    (case x7 => k_is)
    (case y7 => exact .own .here)
    (case s7 => k_is)
    (case kc7 => k_is)
    (case no7 => k_is)
    (case xi7 => kernel_rfl)
    (case g8 => k_is)
    (case a8 => k_is)
    (case l8 => k_is)
    (case c8 => k_is)
    (case k8 => k_is)
    (case t8 => k_is)
    (case x8 => k_is)
    (case y8 => exact .own .here)
    (case s8 => k_is)
    (case kc8 => k_is)
    (case no8 => k_is)
    (case xi8 => kernel_rfl)
    (case g9 => k_is)
    (case a9 => k_is)
    (case l9 => k_is)
    (case c9 => k_is)
    (case k9 => k_is)
    (case t9 => k_is)
    (case x9 => k_is)
    (case y9 => exact .own .here)
    (case s9 => k_is)
    (case kc9 => k_is)
    (case no9 => k_is)
    (case xi9 => kernel_rfl)
    (case g10 => k_is)
    (case a10 => k_is)
    (case l10 => k_is)
    (case c10 => k_is)
    (case k10 => k_is)
    (case t10 => k_is)
    (case x10 => k_is)
    (case y10 => exact .own .here)
    (case s10 => k_is)
    (case kc10 => k_is)
    (case no10 => k_is)
    (case xi10 => kernel_rfl)
    (case g11 => k_is)
    (case a11 => k_is)
    (case l11 => k_is)
    (case c11 => k_is)
    (case k11 => k_is)
    (case t11 => k_is)
    (case x11 => k_is)
    (case y11 => exact .own .here)
    (case s11 => k_is)
    (case kc11 => k_is)
    (case no11 => k_is)
    (case xi11 => kernel_rfl)
    (case g12 => k_is)
    (case a12 => k_is)
    (case l12 => k_is)
    (case c12 => k_is)
    (case k12 => k_is)
    (case t12 => k_is)
    (case x12 => k_is)
    (case y12 => exact .own .here)
    (case s12 => k_is)
    (case kc12 => k_is)
    (case no12 => k_is)
    (case xi12 => kernel_rfl)
    (case g13 => k_is)
    (case a13 => k_is)
    (case l13 => k_is)
    (case c13 => k_is)
    (case k13 => k_is)
    (case t13 => k_is)
    (case x13 => k_is)
    (case y13 => exact .own .here)
    (case s13 => k_is)
    (case kc13 => k_is)
    (case no13 => k_is)
    (case xi13 => kernel_rfl)
    (case g14 => k_is)
    (case a14 => k_is)
    (case l14 => k_is)
    (case c14 => k_is)
    (case k14 => k_is)
    (case t14 => k_is)
    (case x14 => k_is)
    (case y14 => exact .own .here)
    (case s14 => k_is)
    (case kc14 => k_is)
    (case no14 => k_is)
    (case xi14 => kernel_rfl)
    (case g15 => k_is)
    (case a15 => k_is)
    (case l15 => k_is)
    (case c15 => k_is)
    (case k15 => k_is)
    (case t15 => k_is)
    (case x15 => k_is)
    (case y15 => exact .own .here)
    (case s15 => k_is)
    (case kc15 => k_is)
    (case no15 => k_is)
    (case xi15 => kernel_rfl)
    (case g16 => k_is)
    (case a16 => k_is)
    (case l16 => k_is)
    (case c16 => k_is)
    (case k16 => k_is)
    (case t16 => k_is)
    (case x16 => k_is)
    (case y16 => exact .own .here)
    (case s16 => k_is)
    (case kc16 => k_is)
    (case no16 => k_is)
    (case xi16 => kernel_rfl)
    (case g22 => k_is)
    (case a22 => k_is)
    (case l22 => k_is)
    (case c22 => k_is)
    (case k22 => k_is)
    (case t22 => k_is)
    (case x22 => k_is)
    (case y22 => exact .own .here)
    (case s22 => k_is)
    (case kc22 => k_is)
    (case no22 => k_is)
    (case xi22 => kernel_rfl)
    (case g18 => k_is)
    (case ei18 => kernel_rfl)
    (case kc18 => k_is)
    (case xi18 => kernel_rfl)
    (case g19 => k_is)
    (case ei19 => kernel_rfl)
    (case kc19 => k_is)
    (case xi19 => kernel_rfl)
    (case g20 => k_is)
    (case ei20 => kernel_rfl)
    (case kc20 => k_is)
    (case xi20 => kernel_rfl)
    (case G1 => kernel_rfl)
    (case G2 => kernel_rfl)
    (case G3 => kernel_rfl)
    (case nu1 => k_is)
    (case lu1 => k_is)
    (case cu1 => k_is)
    (case ku1 => k_is)
    (case nu2 => k_is)
    (case lu2 => k_is)
    (case cu2 => k_is)
    (case ku2 => k_is)
    (case nu3 => k_is)
    (case lu3 => k_is)
    (case cu3 => k_is)
    (case ku3 => k_is)
    (case nu4 => k_is)
    (case lu4 => k_is)
    (case cu4 => k_is)
    (case ku4 => k_is)
    (case nu5 => k_is)
    (case lu5 => k_is)
    (case cu5 => k_is)
    (case ku5 => k_is)
    (case nu6 => k_is)
    (case lu6 => k_is)
    (case cu6 => k_is)
    (case ku6 => k_is)
    (case nu7 => k_is)
    (case lu7 => k_is)
    (case cu7 => k_is)
    (case ku7 => k_is)
    (case nu8 => k_is)
    (case lu8 => k_is)
    (case cu8 => k_is)
    (case ku8 => k_is)
    (case nu9 => k_is)
    (case lu9 => k_is)
    (case cu9 => k_is)
    (case ku9 => k_is)
    (case mo0 => k_is)
    (case mo1 => k_is)
    (case mo2 => k_is)
    (case mo3 => k_is)
    (case mo4 => k_is)
    (case mo5 => k_is)
    (case z_isinstance => k_is)
    (case z_ValueError => k_is)
    (case z_LookupError => k_is)
    (case z_ArithmeticError => k_is)
    (case z_repr => k_is)
    (case z_len => k_is)
    (case z_int => k_is)
    (case z_abs => k_is)
    (case z_divmod => k_is)
    (case z_all => k_is)
    (case z_max => k_is)
    (case z_min => k_is)
    (case z_range => k_is)
