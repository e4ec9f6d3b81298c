import PyProof.Rows.All
import Wide.All
import OpenK.AllK
import Wide.FinOn
import HandS.ForMost
import HandS.Codes
import HandS.IsInst
import HandS.TupAny
import HandS.SlotsOwn
import HandS.ExcInit
import HandS.ExcField
import HandS.WordsExc
import KE.KCallOwn
import OpenK.KOps
import HandS.FStr
import HandS.RaiseMore
import PyProof.Rows.ChunkEnd
import HandS.Conv
import KE.GoesEnum
import PyProof.ReprRoads
import HandS.Small
import HandS.ExcOwn
import HandS.ExcIs
import PyProof.ExcBaseAll.LookupError
import HandS.Property
import HandS.ExcValue
import HandS.MakeKwOnly
import KE.KExcIs
import HandS.TryMany
import HandS.Lambda
import HandS.Star
import HandS.MethStar
import HandS.Nested
import KE.KLam
import HandS.Finally
import PyProof.InstEq
import KE.KWithOwn
import HandS.More
import HandS.ExcBuiltin
import HandS.TryOnly
import HandS.OwnEq
import PyProof.ReprReads
import HandS.Style
import PySem.Challenge.RW_lastshort_k65_whole_trials
set_option Elab.async false
set_option linter.all false
set_option maxRecDepth 100000
set_option maxHeartbeats 8000000
/-! lists of a known length: smaller than a match in the place -/
namespace Ln
theorem len0 {α : Type} {p : List α → Prop} (h : Unit → p []) : ∀ us : List α, us.length = 0 → p us
  | [], _ => h ()
theorem len1 {α : Type} {p : List α → Prop} (h : ∀ a0, p [a0]) : ∀ us : List α, us.length = 1 → p us
  | [a0], _ => h a0
theorem len2 {α : Type} {p : List α → Prop} (h : ∀ a0 a1, p [a0, a1]) : ∀ us : List α, us.length = 2 → p us
  | [a0, a1], _ => h a0 a1
theorem len3 {α : Type} {p : List α → Prop} (h : ∀ a0 a1 a2, p [a0, a1, a2]) : ∀ us : List α, us.length = 3 → p us
  | [a0, a1, a2], _ => h a0 a1 a2
theorem len4 {α : Type} {p : List α → Prop} (h : ∀ a0 a1 a2 a3, p [a0, a1, a2, a3]) : ∀ us : List α, us.length = 4 → p us
  | [a0, a1, a2, a3], _ => h a0 a1 a2 a3
theorem len5 {α : Type} {p : List α → Prop} (h : ∀ a0 a1 a2 a3 a4, p [a0, a1, a2, a3, a4]) : ∀ us : List α, us.length = 5 → p us
  | [a0, a1, a2, a3, a4], _ => h a0 a1 a2 a3 a4
theorem len6 {α : Type} {p : List α → Prop} (h : ∀ a0 a1 a2 a3 a4 a5, p [a0, a1, a2, a3, a4, a5]) : ∀ us : List α, us.length = 6 → p us
  | [a0, a1, a2, a3, a4, a5], _ => h a0 a1 a2 a3 a4 a5
theorem len7 {α : Type} {p : List α → Prop} (h : ∀ a0 a1 a2 a3 a4 a5 a6, p [a0, a1, a2, a3, a4, a5, a6]) : ∀ us : List α, us.length = 7 → p us
  | [a0, a1, a2, a3, a4, a5, a6], _ => h a0 a1 a2 a3 a4 a5 a6
theorem len8 {α : Type} {p : List α → Prop} (h : ∀ a0 a1 a2 a3 a4 a5 a6 a7, p [a0, a1, a2, a3, a4, a5, a6, a7]) : ∀ us : List α, us.length = 8 → p us
  | [a0, a1, a2, a3, a4, a5, a6, a7], _ => h a0 a1 a2 a3 a4 a5 a6 a7
theorem len9 {α : Type} {p : List α → Prop} (h : ∀ a0 a1 a2 a3 a4 a5 a6 a7 a8, p [a0, a1, a2, a3, a4, a5, a6, a7, a8]) : ∀ us : List α, us.length = 9 → p us
  | [a0, a1, a2, a3, a4, a5, a6, a7, a8], _ => h a0 a1 a2 a3 a4 a5 a6 a7 a8
end Ln

/-! the trees of the stages get no twins: their names are taken -/
def PySem.W.Fast.tw10865133022901645904 : Unit := ()
def PySem.W.Fast.tw7101511653792190094 : Unit := ()
def PySem.W.Fast.tw1039129642089374328 : Unit := ()
def PySem.W.Fast.tw8731135051461612035 : Unit := ()
def PySem.W.Fast.tw13433791232057236875 : Unit := ()
def PySem.W.Fast.tw15109150941895236854 : Unit := ()
def PySem.W.Fast.tw7465787787775957868 : Unit := ()
def PySem.W.Fast.tw8726768633021867964 : Unit := ()
def PySem.W.Fast.tw11194222521041296433 : Unit := ()
def PySem.W.Fast.tw14429687953221206141 : Unit := ()
def PySem.W.Fast.tw3427644525798347309 : Unit := ()
def PySem.W.Fast.tw16856854974492684584 : Unit := ()
def PySem.W.Fast.tw16973591784212874838 : Unit := ()
def PySem.W.Fast.tw8965037895725942501 : Unit := ()
def PySem.W.Fast.tw10091351863726404077 : Unit := ()
def PySem.W.Fast.tw8547931214040107801 : Unit := ()
def PySem.W.Fast.tw8897430804867178779 : Unit := ()
def PySem.W.Fast.tw16881993967272377237 : Unit := ()
def PySem.W.Fast.tw14856914407647278314 : Unit := ()
def PySem.W.Fast.tw4143039874928392782 : Unit := ()
def PySem.W.Fast.tw11081143329943477808 : Unit := ()
def PySem.W.Fast.tw16825781496276568020 : Unit := ()
def PySem.W.Fast.tw4713161265802364819 : Unit := ()
def PySem.W.Fast.tw5793589189733973426 : Unit := ()
open PySem PySem.W PyProof.Rows in
open_top Hd65 for PySem.Challenge.rw_lastshort_k65_whole_trials

/-! the draws of the law: jar, sip, from -/
namespace My
open PySem L2
def top (i : Nat) : Stmt := PySem.Challenge.pw_lastshort_k65_whole_trials.main.body.getD i (.Pass ⟨0, 0, 0, 0⟩)
abbrev sJar : Stmt := top 48
abbrev sSip : Stmt := top 49
abbrev sFrom : Stmt := top 50
/-! ### heaps -/
/-- all but what stands at j is as it was -/
def Off (j : Addr) (H H' : Hp) : Prop := ∀ b o, b ≠ j → H b = some o → H' b = some o
theorem Off.refl {j : Addr} {H : Hp} : Off j H H := fun _ _ _ e => e
theorem Off.trans {j : Addr} {H H1 H2 : Hp} (a : Off j H H1) (b : Off j H1 H2) : Off j H H2 := fun c o n e => b c o n (a c o n e)
theorem Off.new {j p : Addr} {H H1 : Hp} {o : HO} (a : Off j H H1) (n : H1 p = none) : Off j H (upd H1 p o) := fun b u nb e => by
  rw [upd_ne (ne_of_none (a b u nb e) n)]
  exact a b u nb e
theorem Off.put {j : Addr} {H H1 : Hp} {o : HO} (a : Off j H H1) : Off j H (upd H1 j o) := fun b u nb e => by
  rw [upd_ne nb]
  exact a b u nb e
theorem Off.seq {K : PySem.W.Frag} {j a : Addr} {H H' : Hp} {xs : List V} (e : Off j H H') (n : a ≠ j) (h : SqL K H a xs) : SqL K H' a xs := by
  rcases h with (h | ⟨o, h⟩) | h
  · exact .inl (.inl (e _ _ n h))
  · exact .inl (.inr ⟨o, e _ _ n h⟩)
  · exact .inr h
theorem Off.set {K : PySem.W.Frag} {j a : Addr} {H H' : Hp} {xs : List V} (e : Off j H H') (n : a ≠ j) (h : SqT K H a xs) : SqT K H' a xs := by
  rcases h with (h | ⟨o, h⟩) | h
  · exact .inl (.inl (e _ _ n h))
  · exact .inl (.inr ⟨o, e _ _ n h⟩)
  · exact .inr h
theorem Off.same {j : Addr} {H0 H H' : Hp} (e : Off j H H') (s : Same H0 H) (n : H0 j = none) : Same H0 H' := fun b o q => e b o (fun z => by rw [z, n] at q; cases q) (s b o q)
theorem same_upd {H : Hp} {p : Addr} {o : HO} (h : H p = none) : Same H (upd H p o) := fun b x e => by
  rw [upd_ne (ne_of_none e h)]
  exact e
theorem Same.off {j : Addr} {H H' : Hp} (s : Same H H') : Off j H H' := fun b o _ e => s b o e
/-- a jar: three whole numbers -/
def Jar (H : Hp) (j : Addr) : Prop := ∃ a b c : Int, H j = some (.lst [.int a, .int b, .int c])
theorem Jar.new {H : Hp} {j p : Addr} {o : HO} (a : Jar H j) (n : H p = none) : Jar (upd H p o) j := by
  obtain ⟨x, y, z, h⟩ := a
  exact ⟨x, y, z, by rw [upd_ne (ne_of_none h n)]; exact h⟩
theorem Jar.same {H H' : Hp} {j : Addr} (a : Jar H j) (s : Same H H') : Jar H' j := by
  obtain ⟨x, y, z, h⟩ := a
  exact ⟨x, y, z, s _ _ h⟩
/-! ### promises -/
def spSip : Sp := fun vs H Q _ => ∃ (j : Addr) (m : Int), vs = [.ref j, .int m] ∧ Jar H j ∧ 0 < m ∧ m < 1073741824 ∧
  ∀ (H' : Hp) (d : Int), 0 ≤ d → d < m → Off j H H' → Jar H' j → Q (.int d) H'
def spFrom (K : PySem.W.Frag) : Sp := fun vs H Q _ => ∃ (j p : Addr) (xs : List V), vs = [.ref j, .ref p] ∧ Jar H j ∧ p ≠ j ∧ SqL K H p xs ∧ 0 < xs.length ∧ xs.length < 1073741824 ∧
  ∀ (H' : Hp) (i : Nat) (x : V), xs[i]? = some x → Off j H H' → Jar H' j → Q x H'
def spJar (K : PySem.W.Frag) : Sp := fun vs H Q _ => ∃ (a : Addr) (ns : List Int) (k : Nat), vs = [.ref a, .int k] ∧ SqL K H a (ns.map V.int) ∧ ns.length ≤ 63 ∧
  ∀ (H' : Hp) (j : Addr), Same H H' → H j = none → Jar H' j → Q (.ref j) H'
/-- the built-ins of the draws are still the built-ins -/
structure TxtJ (mg : Str → Option Value) : Prop where
  len : mg "len" = none
  int : mg "int" = none
  abs : mg "abs" = none
  divmod : mg "divmod" = none
section
variable {P : Program} {w : World} {K : PySem.W.Frag} {mg : Str → Option Value} {base : Heap}
theorem scSip : FnScope ["_law_jar_here", "_law_many", "_law_digit"] ["_law_jar_here", "_law_many"] (defScope sSip) := ⟨rfl, rfl, rfl, by decide +kernel, rfl, by decide +kernel, by decide +kernel⟩
theorem ok_sip {f : Addr} {fd : FuncData} (F : Fun K "_law_sip" "_law_sip" sSip f fd) (T : TxtJ mg) : FnOk P w K mg base CX0 1 f fd ["_law_jar_here", "_law_many"] spSip := by
  refine F.ok scSip (fun vs H Q E h => ?_) (fun cdv A outer s H vs Q E hr h => ?_)
  · obtain ⟨j, m, rfl, _⟩ := h
    rfl
  · obtain ⟨j, m, rfl, ⟨a, b, c, hj⟩, m0, m1, k⟩ := h
    refine ⟨_, pss_cons (ps_asg (pe_op op_add (pe_ix ix_list (pv 0) pe_int (fun _ _ => rfl)) pe_int) (pg_sub (pv 0) pe_int set_list))
      (pss_cons (ps_if (pt_cmpR op_gt (pe_ix ix_list (pv 0) pe_int (fun _ _ => rfl)) pe_int (nomark _))
        (pss_cons (ps_asg (pe_callB call_divmod (by rfl) T.divmod (by decide +kernel) (pa_cons (pe_callTy call_int1 (by rfl) T.int (by decide +kernel) (pa_cons (pe_ix ix_list (pv 0) pe_int (fun _ _ => rfl)) pa_nil)) (pa_cons (pv 1) pa_nil)))
            (pg_tup (by rfl) (pgs_cons (pg_sub (pv 0) pe_int set_list) (pgs_cons (pg_name (i := 2) scSip.nd rfl (.inl rfl)) pgs_nil))))
          (pss_one (ps_ret (pv 2)))) pss_nil)
      (pss_cons (ps_asg (pe_op op_mod (pe_callTy call_int1 (by rfl) T.int (by decide +kernel) (pa_cons (pe_op op_add (pe_op op_add (pe_op op_mul (pe_ix ix_list (pv 0) pe_int (fun _ _ => rfl)) pe_int) (pe_op op_mul (pe_ix ix_list (pv 0) pe_int (fun _ _ => rfl)) pe_int))
            (pe_op op_mul (pe_op op_fdiv (pe_ix ix_list (pv 0) pe_int (fun _ _ => rfl)) pe_int) pe_int)) pa_nil)) pe_int) (pg_sub (pv 0) pe_int set_list))
      (pss_one (ps_ret (pe_op op_mod (pe_callTy call_int1 (by rfl) T.int (by decide +kernel) (pa_cons (pe_op op_fdiv (pe_ix ix_list (pv 0) pe_int (fun _ _ => rfl)) pe_int) pa_nil)) (pv 1)))))), ?_⟩
    -- jar[2] = jar[2] + 1
    refine ⟨_, rfl, j, _, 2, _, rfl, rfl, SqL.of hj, rfl, _, _, rfl, rfl, _, rfl, j, _, 2, 2, rfl, rfl, hj, rfl, ?_⟩
    -- if jar[0] > 0
    refine ⟨_, rfl, j, _, 0, _, rfl, rfl, SqL.of upd_same, rfl, _, _, rfl, rfl, _, rfl, ?_⟩
    have o1 : Off j H (upd H j (.lst [.int a, .int b, .int (c + 1)])) := Off.put Off.refl
    refine ite2 (fun _ => ?_) (fun _ => ?_)
    · refine ⟨_, rfl, j, _, 0, _, rfl, rfl, SqL.of upd_same, rfl, .inl ⟨_, rfl, _, rfl, a, m, rfl, ⟨m0, m1⟩, fun p np => ?_⟩⟩
      have npj : p ≠ j := fun e => by
        rw [e, upd_same] at np
        cases np
      refine ⟨p, _, rfl, SqT.of upd_same, rfl, _, _, rfl, _, rfl, j, _, 0, 0, rfl, rfl, (by rw [upd_ne npj.symm]; exact upd_same), rfl, _, _, rfl, rfl, ?_⟩
      refine ⟨_, rfl, ?_⟩
      exact k _ _ (Int.emod_nonneg _ (by omega)) (Int.emod_lt_of_pos _ m0) (Off.put (Off.new o1 np)) ⟨_, _, _, upd_same⟩
    · refine ⟨_, rfl, j, _, 1, _, rfl, rfl, SqL.of upd_same, rfl, _, _, rfl, rfl, .inr (by decide), ?_⟩
      refine ⟨_, rfl, j, _, 2, _, rfl, rfl, SqL.of upd_same, rfl, _, _, rfl, rfl, .inr (by decide), _, _, rfl, rfl, ?_⟩
      refine ⟨_, rfl, j, _, 1, _, rfl, rfl, SqL.of upd_same, rfl, _, _, rfl, rfl, ⟨by decide, by decide⟩, _, _, rfl, rfl, .inr (by decide), _, _, rfl, rfl, .inl ⟨_, rfl, _, _, rfl, rfl, (by show (0 : Int) < 1999999927; decide), ?_⟩⟩
      refine ⟨_, rfl, j, _, 1, 1, rfl, rfl, upd_same, rfl, ?_⟩
      refine ⟨_, rfl, j, _, 1, _, rfl, rfl, SqL.of upd_same, rfl, _, _, rfl, rfl, ⟨by decide, by decide⟩, .inl ⟨_, rfl, _, rfl, _, _, rfl, rfl, m0, ?_⟩⟩
      exact k _ _ (Int.emod_nonneg _ (by omega)) (Int.emod_lt_of_pos _ m0) (Off.put o1) ⟨_, _, _, upd_same⟩

/-! ### from -/
structure TxtS (K : PySem.W.Frag) (mg : Str → Option Value) (fS : Addr) : Prop where
  g : mg "_law_sip" = some (.ref fS)
  k : PySem.W.keepIn K (.ref fS) = true
theorem scFrom : FnScope ["_law_jar_here", "_law_things"] ["_law_jar_here", "_law_things"] (defScope sFrom) := ⟨rfl, rfl, rfl, by decide +kernel, rfl, by decide +kernel, by decide +kernel⟩
theorem ok_from {f fS : Addr} {fd fdS : FuncData} (F : Fun K "_law_from" "_law_from" sFrom f fd) (T : TxtJ mg) (S : TxtS K mg fS) (FS : Fun K "_law_sip" "_law_sip" sSip fS fdS) (bS : Binds K fdS ["_law_jar_here", "_law_many"] []) :
    FnOk P w K mg base CX0 2 f fd ["_law_jar_here", "_law_things"] (spFrom K) := by
  have GS : FnOk P w K mg base CX0 1 fS fdS ["_law_jar_here", "_law_many"] spSip := ok_sip FS T
  refine F.ok scFrom (fun vs H Q E h => ?_) (fun cdv A outer s H vs Q E hr h => ?_)
  · obtain ⟨j, p, xs, rfl, _⟩ := h
    rfl
  · obtain ⟨j, p, xs, rfl, hJ, npj, hS, l0, l1, k⟩ := h
    refine ⟨_, pss_one (ps_ret (pe_ix ix_list (pv 1) (pe_call GS hr rfl S.g S.k bS .nil pass0 (pa_cons (pv 0) (pa_cons (pe_callB call_len_seq (by rfl) T.len PySem.boot_len (pa_cons (pv 1) pa_nil)) pa_nil))) (fun _ _ => rfl))), ?_⟩
    refine ⟨_, rfl, _, rfl, _, rfl, p, xs, rfl, .inl hS, j, _, rfl, hJ, by omega, by omega, fun H' d d0 d1 o J => ?_⟩
    obtain ⟨n, rfl⟩ := Int.eq_ofNat_of_zero_le d0
    have hn : n < xs.length := by omega
    exact ⟨p, xs, _, xs[n], rfl, rfl, o.seq npj hS, atI_nat (List.getElem?_eq_getElem hn), k H' n _ (List.getElem?_eq_getElem hn) o J⟩
/-! ### jar -/
theorem scJar : FnScope ["_law_script", "_law_k", "_law_own", "_law_mixed", "_law_entry"] ["_law_script", "_law_k"] (defScope sJar) := ⟨rfl, rfl, rfl, by decide +kernel, rfl, by decide +kernel, by decide +kernel⟩
theorem int_of_map {ns : List Int} {i : Nat} {y : V} (h : (ns.map V.int)[i]? = some y) : ∃ u, y = V.int u := by
  rw [List.getElem?_map] at h
  cases e : ns[i]? with
  | none =>
    rw [e] at h
    cases h
  | some u =>
    rw [e] at h
    exact ⟨u, (Option.some.inj h).symm⟩
theorem cut_map (ns : List Int) (lo hi : Option Int) : ∃ ms : List Int, cutV (ns.map V.int) lo hi = ms.map V.int :=
  ⟨(ns.drop (HT.sIx (ns.map V.int).length 0 lo)).take (HT.sIx (ns.map V.int).length (ns.map V.int).length hi - HT.sIx (ns.map V.int).length 0 lo), by
    unfold cutV
    rw [List.map_take, List.map_drop]⟩
theorem ok_jar {f : Addr} {fd : FuncData} (F : Fun K "_law_jar" "_law_jar" sJar f fd) (T : TxtJ mg) : FnOk P w K mg base CX0 1 f fd ["_law_script", "_law_k"] (spJar K) := by
  refine F.ok scJar (fun vs H Q E h => ?_) (fun cdv A outer s H vs Q E hr h => ?_)
  · obtain ⟨a, ns, k, rfl, _⟩ := h
    rfl
  · obtain ⟨a, ns, k, rfl, hS, hl, q⟩ := h
    refine ⟨_, C8.pss_cut (ps_set (i := 2) scJar.nd rfl (.inl rfl) (pe_ifExp (pt_cmpR op_lt (pv 1) (pe_callB call_len_seq (by rfl) T.len PySem.boot_len (pa_cons (pv 0) pa_nil)) (nomark _))
          (pe_callTy call_int1 (by rfl) T.int (by decide +kernel) (pa_cons (pe_ix ix_list (pv 0) (pv 1) (fun _ _ => rfl)) pa_nil)) (pe_op op_add (pe_op op_mul pe_int (pv 1)) pe_int)))
      (pss_cons (ps_set (i := 3) scJar.nd rfl (.inl rfl) (pe_op op_add pe_int (pe_op op_mul pe_int (pv 1))))
      (pss_cons (ps_for PassesOwn.never rfl (pi_list (pe_slice sl_list (pv 0) po_none (po_some pe_int))) (pg_name (i := 4) scJar.nd rfl (.inl rfl))
        (pss_one (ps_set (i := 3) scJar.nd rfl (.inl rfl) (pe_op op_mod (pe_callTy call_int1 (by rfl) T.int (by decide +kernel) (pa_cons (pe_op op_add (pe_op op_mul (pv 3) pe_int) (pe_op op_mod (pe_callTy call_int1 (by rfl) T.int (by decide +kernel) (pa_cons (pv 4) pa_nil)) pe_int)) pa_nil)) pe_int))))
      (pss_one (ps_ret (pe_lst (pa_cons (pe_ifExp (PW.pt (pw_or (pt_cmpR op_lt (pv 2) pe_int (nomark _)) (pw_or1 (pt_cmpR op_ge (pv 2) (pe_op op_pow pe_int pe_int) (nomark _))))) (pe_callB call_abs (by rfl) T.abs (by decide +kernel) (pa_cons (pv 2) pa_nil)) pe_int)
        (pa_cons (pe_op op_mod (pe_callTy call_int1 (by rfl) T.int (by decide +kernel) (pa_cons (pe_op op_add (pe_op op_mul (pv 3) pe_int) (pe_op op_mod (pv 2) pe_int)) pa_nil)) pe_int) (pa_cons pe_int pa_nil)))))))), ?_⟩
    refine ⟨fun σ H' => H = H' ∧ ∃ own : Int, σ = [some (.ref a), some (.int k), some (.int own), none, none], ?_, ?_⟩
    · refine ⟨_, rfl, _, rfl, a, _, rfl, .inl hS, _, _, rfl, rfl, _, rfl, ?_⟩
      refine ite2 (fun c => ?_) (fun c => ?_)
      · have hk : k < ns.length := by
          have c' := of_decide_eq_true c
          rw [List.length_map] at c'
          omega
        exact ⟨_, rfl, _, rfl, a, _, _, .int ns[k], rfl, rfl, hS, atI_nat (by rw [List.getElem?_map, List.getElem?_eq_getElem hk]; rfl), .inl ⟨_, rfl, rfl, _, rfl⟩⟩
      · exact ⟨_, rfl, _, _, rfl, rfl, .inl (by decide), _, _, rfl, rfl, rfl, _, rfl⟩
    · rintro _ _ ⟨rfl, own, rfl⟩
      refine ⟨_, rfl, _, _, rfl, rfl, .inl (by decide), _, _, rfl, rfl, ?_⟩
      refine ⟨_, rfl, 13, rfl, a, _, rfl, hS, fun p np => ?_⟩
      obtain ⟨ms, ems⟩ := cut_map ns none (some 13)
      rw [ems]
      refine ⟨p, rfl, ⟨_, SqL.of upd_same⟩, for_list (K := K) (a := p) (xs := ms.map V.int) (fun i σ H' => ∃ (mx : Int) (v : Option V), σ = [some (.ref a), some (.int k), some (.int own), some (.int mx), v] ∧ H' = upd H p (.lst (ms.map V.int)))
        ⟨_, none, rfl, rfl⟩ (fun i σ H' _ ⟨_, _, _, e⟩ => by rw [e]; exact SqL.of upd_same) ?_ ?_⟩
      · rintro i y σ H' hi ⟨mx, v, rfl, rfl⟩
        obtain ⟨u, rfl⟩ := int_of_map hi
        refine ⟨_, rfl, _, _, rfl, rfl, .inr (by decide), ?_⟩
        refine ⟨_, rfl, .inl ⟨_, rfl, _, _, rfl, rfl, (by show (0 : Int) < 1999999927; decide), _, _, rfl, rfl, .inl ⟨_, rfl, _, _, rfl, rfl, (by show (0 : Int) < 1999999927; decide), ?_⟩⟩⟩
        exact ⟨_, _, rfl, rfl⟩
      · rintro σ H' ⟨mx, v, rfl, rfl⟩
        have fin : ∀ (x : Int), tCons (tOp (rI (fun x j => 0 < j) fun i j => V.int (i % j)) (tCB (fun xs H Q => (∃ i, xs = [V.int i] ∧ Q (V.int i) H) ∨ ∃ k, xs = [V.bl k] ∧ Q (V.int (if k = true then 1 else 0)) H)
            (tCons (tOp (rI0 fun i j => V.int (i + j)) (tOp (rI CMul fun i j => V.int (i * j)) (tVar 3) (tC (V.int 5))) (tOp (rI (fun x j => 0 < j) fun i j => V.int (i % j)) (tVar 2) (tC (V.int 1999999927)))) tNil)) (tC (V.int 1999999927)))
          (tCons (tC (V.int 0)) tNil) [some (.ref a), some (.int k), some (.int own), some (.int mx), v] (upd H p (.lst (ms.map V.int))) (fun xs H1 => (V.int x :: xs).length ≤ sizeLine ∧ ∀ p, H1 p = none → Q (.ref p) (upd H1 p (.lst (V.int x :: xs)))) := by
          intro x
          refine ⟨_, rfl, _, _, rfl, rfl, .inr (by decide), _, rfl, _, _, rfl, rfl, (by show (0 : Int) < 1999999927; decide), _, _, rfl, rfl, .inl ⟨_, rfl, _, _, rfl, rfl, (by show (0 : Int) < 1999999927; decide), ?_⟩⟩
          refine ⟨(by show 3 ≤ sizeLine; decide), fun jj nj => ?_⟩
          exact q _ jj (Same.trans (same_upd np) (same_upd nj)) ((same_upd np).free nj) ⟨_, _, _, upd_same⟩
        refine ⟨_, rfl, _, _, rfl, rfl, _, rfl, ?_⟩
        refine ite2 (fun _ => ?_) (fun _ => ?_)
        · refine iteT ?_
          exact ⟨_, rfl, _, rfl, fin _⟩
        · refine ⟨_, rfl, _, _, rfl, rfl, ⟨by decide, by decide, by decide⟩, _, _, rfl, rfl, _, rfl, ?_⟩
          refine ite2 (fun _ => ?_) (fun _ => ?_)
          · exact ⟨_, rfl, _, rfl, fin _⟩
          · exact fin _
end
end My

/-! what every proof about a program of several defs wants -/
namespace Cm
open PySem PySem.Spec PyProof.Rows L2
/-- a def of the module -/
structure Df (K : PySem.W.Frag) (mg : Str → Option Value) (x : Str) (st : Stmt) (ps : List Str) where
  f : Addr
  fd : FuncData
  F : Fun K x x st f fd
  b : Binds K fd ps []
  g : mg x = some (.ref f)
  k : PySem.W.keepIn K (.ref f) = true
/-- a method of the class at C -/
structure Mt (K : PySem.W.Frag) (C : Addr) (x q : Str) (st : Stmt) (ps : List Str) where
  f : Addr
  fd : FuncData
  F : Fun K x q st f fd
  b : Binds K fd ps []
  m : Meth K C x f
theorem dI (a b : Int) : decide (V.int a = V.int b) = decide (a = b) := decide_eq_decide.mpr ⟨fun z => by cases z; rfl, fun z => by rw [z]⟩
theorem dS (a b : Str) : decide (V.str a = V.str b) = decide (a = b) := decide_eq_decide.mpr ⟨fun z => by cases z; rfl, fun z => by rw [z]⟩
theorem dB (a b : Bool) : decide (V.bl a = V.bl b) = decide (a = b) := decide_eq_decide.mpr ⟨fun z => by cases z; rfl, fun z => by rw [z]⟩
theorem putF_len (f : Str) (v : V) : ∀ fs : List (Str × V), (putF f v fs).length ≤ fs.length + 1
  | [] => Nat.le_refl _
  | (g, x) :: r => by
    unfold putF
    by_cases h : g = f
    · rw [if_pos h]
      exact Nat.le_succ _
    · rw [if_neg h]
      exact Nat.succ_le_succ (putF_len f v r)
theorem szl {n : Nat} (h : n ≤ 1000) : n ≤ sizeLine := Nat.le_of_lt (small1000 h)
theorem szM {n : Nat} (h : n ≤ 1000000) : n < sizeLine := Nat.lt_of_le_of_lt h (by decide)
theorem Same.set {K : PySem.W.Frag} {H H' : Hp} {a : Addr} {xs : List V} (e : Same H H') (h : SqT K H a xs) : SqT K H' a xs := by
  rcases h with (h | ⟨o, h⟩) | h
  · exact .inl (.inl (e _ _ h))
  · exact .inl (.inr ⟨o, e _ _ h⟩)
  · exact .inr h
theorem same_new {H : Hp} {p : Addr} {o : HO} (h : H p = none) : Same H (upd H p o) := fun b x e => by
  rw [upd_ne (ne_of_none e h)]
  exact e
theorem pass_none {P : Program} {w : World} {X : Cx} : Passes (L2.CX P w) X (fun _ _ _ => False) := fun pins σ H s e s2 I h => by
  obtain ⟨_, _, _, _, _, _, _, _, _, _, _, _, h⟩ := h
  exact h.elim
/-! ### len and truth of an instance with an own __len__ -/
section
variable {X : Cx} {C g : Addr} {n : Nat} {sp : Sp}
theorem inst_of {pins : List (Addr × Obj)} {σ : L2.St} {H : Hp} {s : Shared} {a dx : Addr} {fs : List (Str × V)} (I : Inv X pins σ H s) (e : H a = some (.ins C dx fs)) : ∃ (ox : Obj) (od : Option Obj), PySem.W.InstAt s.heap a ox C od := by
  obtain ⟨mA, O, _⟩ := ins_get I.hok e
  obtain ⟨od, J, _⟩ := O.look
  exact ⟨_, _, J⟩
def rLenO (C : Addr) (sp : Sp) : List V → Hp → VK → Prop := fun xs H Q => ∃ (a dx : Addr) (fs : List (Str × V)), xs = [.ref a] ∧ H a = some (.ins C dx fs) ∧ sp [.ref a] H (fun v H2 => ∃ k : Nat, v = .int k ∧ k ≤ 1000000 ∧ Q (.int k) H2) fun _ _ _ => False
theorem call_lenO (hs : PySem.W.findIn X.K (.ref C) "__len__" = some (some (.ref g))) (hf : PySem.W.isFn X.K (.ref g) = true) (F : FnR X.prog X.w X.K X.mg X.base CX0 n g sp) (hr : Room (n + 1) X.A) : CallR X (.builtin "len") (rLenO C sp) := by
  intro pins s σ H xs us Q I r h
  obtain ⟨a, dx, fs, rfl, ha, q⟩ := h
  obtain ⟨u, rfl, ru⟩ := vals1 r
  cases (show u = Value.ref a from ru)
  obtain ⟨ox, od, J⟩ := inst_of I ha
  obtain ⟨m, fr⟩ := I.fr
  refine PySem.W.len_K fr I.ok.mod.kin J hs hf ?_
  refine wpAny_mono (wpAny_call (SlX.run_at (us := [.ref a]) (ws := [.ref a]) F hr.in1 I.env0.in1 pass0 I (.cons rfl .nil) q)) (fun z s2 hz => ?_) fun _ _ e => e
  obtain ⟨z2, H2, I2, rz, k, rfl, hk, qz⟩ := hz
  obtain ⟨tk, rfl⟩ := (show ∃ tk, z = Value.int k tk from rz)
  exact ⟨⟨by omega, by omega⟩, .int k, H2, I2.tok _, ⟨_, rfl⟩, qz⟩
end
/-! ### bool of an instance with an own __len__ -/
section
variable {prog : Program} {w : World} {A : Around} {E : Value → Shared → Prop} {s : Shared} {K : PySem.W.Frag} {x C f : Addr} {ox : Obj} {od : Option Obj}
theorem len_bodyK {Q : Value → Shared → Prop} (X : K.In s.heap) (I : PySem.W.InstAt s.heap x ox C od) (hs : PySem.W.findIn K (.ref C) "__len__" = some (some (.ref f))) (hf : PySem.W.isFn K (.ref f) = true)
    (h : wpAny (model prog w) A (call (.ref f) [.ref x]) (PySem.W.LenBack Q) E s) : wpAny (model prog w) A (Builtin.«len» ⟨[.ref x], []⟩) (fun fin s' => ∃ r, fin = .done (.ret r) ∧ Q r s') E s := by
  unfold Builtin.«len»
  refine wpAny_bind (m := oneArg "len" _) (wpAny_pure ?_)
  refine wpAny_bind (m := callSpecial? (.ref x) (Str.ofString "__len__")) (PySem.W.special_fn X I hs (beq_iff_eq.mp hf) (wpAny_mono h (fun r s' hr => ?_) fun _ _ y => y))
  cases r <;> first | exact hr.elim | skip
  rename_i n u
  obtain ⟨⟨h0, h1⟩, hq⟩ := hr
  refine wpAny_bind (wpAny_holding (wpAny_pure ?_))
  refine wpAny_bind (wpAny_letGo ?_)
  show wpAny _ _ (if n < 0 then _ else _) _ _ _
  rw [if_neg (by omega)]
  show wpAny _ _ (if n ≥ 2 ^ 63 then _ else _) _ _ _
  rw [if_neg (by omega)]
  exact wpAny_bind (wpAny_mkInt (wpAny_pure ⟨_, rfl, hq⟩))
theorem truthy_KL {Q : Bool → Shared → Prop} (X : K.In s.heap) (I : PySem.W.InstAt s.heap x ox C od) (hb : PySem.W.findIn K (.ref C) "__bool__" = some none) (hl : PySem.W.findIn K (.ref C) "__len__" = some (some (.ref f))) (hf : PySem.W.isFn K (.ref f) = true)
    (h : wpAny (model prog w) A.in1 (call (.ref f) [.ref x]) (PySem.W.LenBack fun v s' => ∃ n t, v = .int n t ∧ Q (n != 0) s') E s) : wpAny (model prog w) A (truthy (.ref x)) Q E s := by
  have key : wpAny (model prog w) A (runValue (.builtin "len" ⟨[.ref x], []⟩)) (fun r s' => ∃ n t, r = .int n t ∧ Q (n != 0) s') E s := by
    refine wpAny_runValue (codeAny_builtin entry_len ?_)
    rw [Around.under_plainId plain_len _]
    exact wpAny_mono (len_bodyK X I hl hf h) (fun fin s' h' => by obtain ⟨r, rfl, hq⟩ := h'; exact hq) fun _ _ e => e
  unfold truthy
  refine wpAny_bind (m := callSpecial? (.ref x) (Str.ofString "__bool__")) (wpAny_bind (wpAny_bind (I.type.here ((PySem.W.looks_findIn X hb).here (wpAny_pure ?_)))))
  refine wpAny_bind (wpAny_bind (I.type.here ((PySem.W.looks_findIn X hl).here ?_)))
  exact wpAny_bind (wpAny_mono key (fun r s' h' => by obtain ⟨n, t, rfl, hq⟩ := h'; exact wpAny_pure hq) fun _ _ e => e)
theorem bool_KL {Q : Value → Shared → Prop} (X : K.In s.heap) (I : PySem.W.InstAt s.heap x ox C od) (hb : PySem.W.findIn K (.ref C) "__bool__" = some none) (hl : PySem.W.findIn K (.ref C) "__len__" = some (some (.ref f))) (hf : PySem.W.isFn K (.ref f) = true)
    (h : wpAny (model prog w) A.in1.in1.in1 (call (.ref f) [.ref x]) (PySem.W.LenBack fun v s' => ∃ n t, v = .int n t ∧ Q (.bool (n != 0)) s') E s) : wpAny (model prog w) A (call (.type "bool") [.ref x]) Q E s := by
  refine callType_codes (T := "bool") (Bi := Builtin.«object.__init__») (Q₁ := fun r s₁ => ∃ b, r = .bool b ∧ Q r s₁) PySem.F.called_bool (PySem.F.typeCall_bool_1 _) PySem.F.entry_object_init ?_ ?_
  · refine codeAny_of_tree ?_
    show wpAny _ A.in1.in1 (do checkBuiltinCall "bool.__new__" ⟨[.type "bool", .ref x], []⟩; again (.builtin "bool.__new__" ⟨[.type "bool", .ref x], []⟩)) _ _ s
    refine wpAny_bind (wpAny_of_eq (PySem.F.newCall_bool_1 _) (wpAny_pure ⟨plainId_quiet (by decide +kernel) _, codeAny_builtin PySem.F.entry_bool_new ?_⟩))
    rw [Around.under_plainId (by decide +kernel) _]
    have f1 := PySem.F.conv_sub_bool
    have key : wpAny (model prog w) A.in1.in1 (truthy (.ref x)) (fun b s1 => Q (.bool b) s1) E s := truthy_KL X I hb hl hf (wpAny_mono h (fun v s1 hv => by
      cases v <;> first | exact hv.elim | skip
      obtain ⟨h01, n, t, e, hq⟩ := hv
      cases e
      exact ⟨h01, _, _, rfl, hq⟩) fun _ _ z => z)
    unfold Builtin.«bool.__new__»
    show wpAny _ _ (isType (.type "bool") >>= _) _ _ s
    refine wpAny_bind (wpAny_pure ?_)
    refine wpAny_bind (wpAny_of_eq f1 ?_)
    refine wpAny_bind (wpAny_pure ?_)
    exact wpAny_bind (wpAny_mono key (fun b s1 hb1 => wpAny_pure ⟨_, rfl, hb1⟩) fun _ _ z => z)
  · rintro obj s₁ ⟨b, rfl, hq⟩
    exact ⟨rfl, PySem.F.args_object_init_2 _ _, object_init_meets PySem.F.called_bool.init.lookup PySem.F.called_bool.made (by decide) prog w A.in1 _ s₁ ⟨rfl, rfl, hq⟩⟩
end
section
variable {X : Cx} {C g : Addr} {n : Nat} {sp : Sp}
def rBoolL (C : Addr) (sp : Sp) : List V → Hp → VK → Prop := fun xs H Q => ∃ (a dx : Addr) (fs : List (Str × V)), xs = [.ref a] ∧ H a = some (.ins C dx fs) ∧ sp [.ref a] H (fun v H2 => ∃ k : Nat, v = .int k ∧ k ≤ 1000000 ∧ Q (.bl ((k : Int) != 0)) H2) fun _ _ _ => False
theorem call_boolLO (hb : PySem.W.findIn X.K (.ref C) "__bool__" = some none) (hs : PySem.W.findIn X.K (.ref C) "__len__" = some (some (.ref g))) (hf : PySem.W.isFn X.K (.ref g) = true) (F : FnR X.prog X.w X.K X.mg X.base CX0 n g sp) (hr : Room (n + 3) X.A) : CallR X (.type "bool") (rBoolL C sp) := by
  intro pins s σ H xs us Q I r h
  obtain ⟨a, dx, fs, rfl, ha, q⟩ := h
  obtain ⟨u, rfl, ru⟩ := vals1 r
  cases (show u = Value.ref a from ru)
  obtain ⟨ox, od, J⟩ := inst_of I ha
  have hr2 : Room (n + 2) X.A.in1 := hr.in1
  have hr1 : Room (n + 1) X.A.in1.in1 := hr2.in1
  refine bool_KL I.kIn J hb hs hf ?_
  refine wpAny_mono (wpAny_call (SlX.run_at (us := [.ref a]) (ws := [.ref a]) F hr1.in1 I.env0.in1.in1.in1 pass0 I (.cons rfl .nil) q)) (fun z s2 hz => ?_) fun _ _ e => e
  obtain ⟨z2, H2, I2, rz, k, rfl, hk, qz⟩ := hz
  obtain ⟨tk, rfl⟩ := (show ∃ tk, z = Value.int k tk from rz)
  exact ⟨⟨by omega, by omega⟩, _, _, rfl, .bl _, H2, I2.tok _, rfl, qz⟩
end
/-! ### tuples cut and put together -/
theorem cut_to (xs : List V) (k : Nat) (h : k ≤ xs.length) : cutV xs none (some (k : Int)) = xs.take k := by
  unfold cutV
  rw [HT.sIx_none, HT.sIx_nat, Nat.min_eq_left h]
  rfl
theorem cut_from (xs : List V) (k : Nat) : cutV xs (some (k : Int)) none = xs.drop k := by
  unfold cutV
  rw [HT.sIx_none, HT.sIx_nat]
  by_cases h : k ≤ xs.length
  · rw [Nat.min_eq_left h]
    exact List.take_of_length_le (by rw [List.length_drop]; omega)
  · rw [Nat.min_eq_right (by omega), List.drop_length, List.drop_eq_nil_of_le (by omega)]
    simp
section
variable {X : Cx}
def rSlS (K : PySem.W.Frag) : V → Option Int → Option Int → Hp → VK → Prop := fun x lo hi H Q => ∃ a xs, x = .ref a ∧ SqT K H a xs ∧ ∀ (H' : Hp) (q : Addr), Same H H' → SqT K H' q (cutV xs lo hi) → Q (.ref q) H'
theorem sl_tupS : SlR X (rSlS X.K) := by
  intro pins s σ H x v vl vu lo hi sl Q I rx hs pl pu h
  obtain ⟨a, xs, rfl, hx, q⟩ := h
  refine sl_tupA pins s σ H _ v vl vu lo hi sl Q I rx hs pl pu ⟨a, xs, rfl, hx, fun z => ?_, fun _ p np => q _ p (same_new np) (SqT.of upd_same)⟩
  refine q H a (Same.refl _) ?_
  have e : cutV xs lo hi = xs := by
    unfold cutV
    rw [z.1, z.2]
    simp
  rw [e]
  exact hx
def rCatS (K : PySem.W.Frag) : R2 := fun x y H Q => ∃ a b xs ys, x = .ref a ∧ y = .ref b ∧ SqT K H a xs ∧ SqT K H b ys ∧ xs.length + ys.length ≤ sizeLine ∧ ∀ (H' : Hp) (q : Addr), Same H H' → SqT K H' q (xs ++ ys) → Q (.ref q) H'
theorem op_catS : OpR X (binaryOp .Add) (rCatS X.K) := by
  intro pins s σ H x y v u Q I rx ry h
  obtain ⟨a, b, xs, ys, rfl, rfl, ha, hb, hz, q⟩ := h
  refine op_catA pins s σ H _ _ v u Q I rx ry ⟨a, b, xs, ys, rfl, rfl, ha, hb, hz, fun z => ?_, fun _ z => ?_, fun _ _ p np => q _ p (same_new np) (SqT.of upd_same)⟩
  · refine q H b (Same.refl _) ?_
    rw [z]
    exact hb
  · refine q H a (Same.refl _) ?_
    rw [z, List.append_nil]
    exact ha
end
/-! ### a reading may be asked for more -/
section
variable {X : Cx} {e : Expr} {es : List Expr} {st : Stmt} {sts : List Stmt}
theorem pe_imp {t t' : TE} (h : PE X e t) (k : ∀ σ H Q, t' σ H Q → t σ H Q) : PE X e t' := ⟨fun pins s σ H Q I q => h.run pins s σ H Q I (k σ H Q q)⟩
theorem pa_imp {t t' : TA} (h : PA X es t) (k : ∀ σ H Q, t' σ H Q → t σ H Q) : PA X es t' := ⟨fun pos pins s σ H Q I q => h.run pos pins s σ H Q I (k σ H Q q)⟩
theorem pt_imp {t t' : TT} (h : PT X e t) (k : ∀ σ H Q, t' σ H Q → t σ H Q) : PT X e t' := ⟨fun pins s σ H Q I q => h.run pins s σ H Q I (k σ H Q q)⟩
theorem ps_imp {t t' : TS} (h : PS X st t) (k : ∀ D σ H, t' D σ H → t D σ H) : PS X st t' := ⟨fun pins s σ H D I q => h.run pins s σ H D I (k D σ H q)⟩
theorem pss_imp {t t' : TS} (h : PSs X sts t) (k : ∀ D σ H, t' D σ H → t D σ H) : PSs X sts t' := ⟨fun pins s σ H D I q => h.run pins s σ H D I (k D σ H q)⟩
end
theorem hu64 {A : Around} {k : Nat} (hr : Room k A) : A.units + 64 < cLine := by
  have := hr.un
  omega
/-! ### the same, for tuples that are tracked -/
section
variable {X : Cx}
def rSlH : V → Option Int → Option Int → Hp → VK → Prop := fun x lo hi H Q => ∃ a xs, x = .ref a ∧ H a = some (.tup xs) ∧ ∀ (H' : Hp) (q : Addr), Same H H' → H' q = some (.tup (cutV xs lo hi)) → Q (.ref q) H'
theorem sl_tupH : SlR X rSlH := by
  intro pins s σ H x v vl vu lo hi sl Q I rx hs pl pu h
  obtain ⟨a, xs, rfl, hx, q⟩ := h
  refine sl_tupA pins s σ H _ v vl vu lo hi sl Q I rx hs pl pu ⟨a, xs, rfl, SqT.of hx, fun z => ?_, fun _ p np => q _ p (same_new np) upd_same⟩
  refine q H a (Same.refl _) ?_
  have e : cutV xs lo hi = xs := by
    unfold cutV
    rw [z.1, z.2]
    simp
  rw [e]
  exact hx
def rCatH : R2 := fun x y H Q => ∃ a b xs ys, x = .ref a ∧ y = .ref b ∧ H a = some (.tup xs) ∧ H b = some (.tup ys) ∧ xs.length + ys.length ≤ sizeLine ∧ ∀ (H' : Hp) (q : Addr), Same H H' → H' q = some (.tup (xs ++ ys)) → Q (.ref q) H'
theorem op_catH : OpR X (binaryOp .Add) rCatH := by
  intro pins s σ H x y v u Q I rx ry h
  obtain ⟨a, b, xs, ys, rfl, rfl, ha, hb, hz, q⟩ := h
  refine op_catA pins s σ H _ _ v u Q I rx ry ⟨a, b, xs, ys, rfl, rfl, SqT.of ha, SqT.of hb, hz, fun z => ?_, fun _ z => ?_, fun _ _ p np => q _ p (same_new np) upd_same⟩
  · refine q H b (Same.refl _) ?_
    rw [z]
    exact hb
  · refine q H a (Same.refl _) ?_
    rw [z, List.append_nil]
    exact ha
end
theorem cut_mid (xs : List V) (a b : Nat) (h1 : a ≤ b) (h2 : b ≤ xs.length) : cutV xs (some (a : Int)) (some (b : Int)) = (xs.drop a).take (b - a) := by
  unfold cutV
  rw [HT.sIx_nat, HT.sIx_nat, Nat.min_eq_left h2, Nat.min_eq_left (by omega)]
end Cm

/-! texts of loops: what their words are, and when they are right -/
namespace LM
open PySem L2 TL
def tests : List Str := ["empty", "some", "short", "full", "told", "open", "rest", "bare"]
def rsteps : List Str := ["add", "hand", "cut", "flush", "stop", "again"]
def esteps : List Str := ["hand", "cut", "flush"]
def wordsR (t : Str) : List Str := Txt.split (Txt.partition t " | ").1 " "
def wordsE (t : Str) : List Str := if (Txt.partition t " | ").2.1.length != 0 then Txt.split (Txt.partition t " | ").2.2 " " else []
def orderOf (w : Str) : Str × Str := if (Txt.partition w ":").2.1.length != 0 then ((Txt.partition w ":").1, (Txt.partition w ":").2.2) else ("", w)
def isWord (w : Str) (ss : List Str) : Bool := if (Txt.partition w ":").2.1.length != 0 then decide ((Txt.partition w ":").1 ∈ tests) && decide ((Txt.partition w ":").2.2 ∈ ss) else decide (w ∈ ss)
def areWords (ws ss : List Str) : Bool := ws.all fun w => isWord w ss
def isAdd (w : Str) : Bool := decide ((orderOf w).2 = "add")
def isRound (ws : List Str) : Bool := decide (ws.head? = some "ask") && (decide (ws.length ≤ 12) && (decide ((ws.filter isAdd).length ≤ 1) && areWords ws.tail rsteps))
def isEnding (ws : List Str) : Bool := decide (ws.length ≤ 6) && areWords ws esteps
def goodText (t : Str) : Bool := isRound (wordsR t) && isEnding (wordsE t)
def svs (ws : List Str) : List V := ws.map V.str
theorem svs_flat : ∀ ws : List Str, (svs ws).all flatV = true
  | [] => rfl
  | _ :: r => svs_flat r
theorem inV_svs (w : Str) : ∀ ws : List Str, inV (.str w) (svs ws) = decide (w ∈ ws)
  | [] => by simp [inV, svs]
  | x :: r => by
    have ih := inV_svs w r
    show (eqV (.str x) (.str w) || inV (.str w) (svs r)) = _
    rw [ih]
    show ((x == w) || decide (w ∈ r)) = _
    by_cases h : x = w
    · subst h
      simp
    · have h2 : (x == w) = false := by
        cases hh : (x == w) with
        | false => rfl
        | true => exact absurd (eq_of_beq hh) h
      rw [h2, Bool.false_or]
      refine decide_eq_decide.mpr ⟨fun z => List.mem_cons_of_mem _ z, fun z => ?_⟩
      rcases List.mem_cons.mp z with z | z
      · exact absurd z.symm h
      · exact z
theorem split_ne (x y : Str) : Txt.split x y ≠ [] := by
  unfold Txt.split
  split
  · simp
  · split
    · simp
    · rw [PySem.StrLaws.partsBetween_eq]
      cases Builtin.Str.occurrences x y 0 x.length (x.length + 1) <;> simp [PySem.StrLaws.partsFrom]
/-! ### drawn words -/
/-- a step of these, or a test before it -/
def Wd (ss : List Str) (w : Str) : Prop := ∃ s ∈ ss, w = s ∨ ∃ t ∈ tests, w = t ++ (":" : Str) ++ s
def allWd (ss : List Str) : List Str := ss ++ (tests.map fun t : Str => ss.map fun s : Str => t ++ (":" : Str) ++ s).flatten
theorem Wd.mem {ss : List Str} {w : Str} (h : Wd ss w) : w ∈ allWd ss := by
  obtain ⟨s, hs, rfl | ⟨t, ht, rfl⟩⟩ := h
  · exact List.mem_append.mpr (.inl hs)
  · exact List.mem_append.mpr (.inr (List.mem_flatten.mpr ⟨_, List.mem_map.mpr ⟨t, ht, rfl⟩, List.mem_map.mpr ⟨s, hs, rfl⟩⟩))
theorem Wd.mono {ss zs : List Str} {w : Str} (f : ∀ s ∈ ss, s ∈ zs) (h : Wd ss w) : Wd zs w := let ⟨s, hs, q⟩ := h; ⟨s, f s hs, q⟩
/-- what is known of a word -/
def wdOk (w : Str) : Bool := isWord w rsteps && (decide (32 ∉ tl w) && (decide (124 ∉ tl w) && decide (w.length ≤ 11)))
theorem wd_ok : ∀ w ∈ allWd rsteps, wdOk w = true := by decide +kernel
theorem wd_end : ∀ w ∈ allWd esteps, isWord w esteps = true := by decide +kernel
theorem wd_noadd : ∀ w ∈ allWd ["hand", "cut", "flush", "stop", "again"], isAdd w = false := by decide +kernel
/-! ### lines -/
def line (B E : List Str) : Str := if E = [] then Txt.join " " B else Txt.join " " (B ++ [("|" : Str)] ++ E)
def textOf (B E : List Str) : Str := if E = [] then Txt.join " " B else Txt.join " " B ++ " | " ++ Txt.join " " E
/-- no space and no bar is in it -/
def Fre (w : Str) : Prop := 32 ∉ tl w ∧ 124 ∉ tl w
theorem tlSp : tl (" " : Str) = [32] := by decide +kernel
theorem tlBar : tl (" | " : Str) = [32, 124, 32] := by decide +kernel
theorem tlB1 : tl ("|" : Str) = [124] := by decide +kernel
theorem joinL_app (S : List Nat) : ∀ (a b : List (List Nat)), a ≠ [] → b ≠ [] → joinL S (a ++ b) = joinL S a ++ (S ++ joinL S b)
  | [], _, h, _ => absurd rfl h
  | [p], b, _, hb => by
    cases b with
    | nil => exact absurd rfl hb
    | cons q r => rfl
  | p :: q :: r, b, _, hb => by
    show p ++ (S ++ joinL S (q :: r ++ b)) = p ++ (S ++ joinL S (q :: r)) ++ (S ++ joinL S b)
    rw [joinL_app S (q :: r) b (by simp) hb]
    simp [List.append_assoc]
theorem joinL_mem {S : List Nat} {c : Nat} : ∀ {a : List (List Nat)}, c ∈ joinL S a → c ∈ S ∨ ∃ p ∈ a, c ∈ p
  | [], h => nomatch h
  | [p], h => .inr ⟨p, List.mem_singleton.mpr rfl, h⟩
  | p :: q :: r, h => by
    rcases List.mem_append.mp (show c ∈ p ++ (S ++ joinL S (q :: r)) from h) with h | h
    · exact .inr ⟨p, List.mem_cons_self .., h⟩
    · rcases List.mem_append.mp h with h | h
      · exact .inl h
      · rcases joinL_mem h with h | ⟨z, hz, hc⟩
        · exact .inl h
        · exact .inr ⟨z, List.mem_cons_of_mem _ hz, hc⟩
theorem tl_joinSp (B : List Str) : tl (Txt.join " " B) = joinL [32] (B.map tl) := by rw [join_eq, tl_join, tlSp]
theorem nobar {B : List Str} (h : ∀ w ∈ B, Fre w) : 124 ∉ tl (Txt.join " " B) := by
  rw [tl_joinSp]
  intro hm
  rcases joinL_mem hm with hm | ⟨p, hp, hc⟩
  · exact absurd hm (by decide)
  · obtain ⟨w, hw, rfl⟩ := List.mem_map.mp hp
    exact (h w hw).2 hc
theorem line_text {B E : List Str} (hB : B ≠ []) : line B E = textOf B E := by
  unfold line textOf
  by_cases hE : E = []
  · rw [if_pos hE, if_pos hE]
  · rw [if_neg hE, if_neg hE]
    refine ext_tl ?_
    rw [tl_append, tl_append, tl_joinSp, tl_joinSp, tl_joinSp, tlBar, List.map_append, List.map_append, joinL_app _ _ _ (by simp) (by simpa using hE), joinL_app _ _ _ (by simpa using hB) (by simp)]
    simp [joinL, tlB1]
theorem pre_bar {l : List Nat} (h : pre [32, 124, 32] l = true) : ∃ r, l = 32 :: 124 :: 32 :: r := by
  have e : l.take 3 = [32, 124, 32] := eq_of_beq h
  match l, e with
  | a :: b :: c :: r, e =>
    simp at e
    obtain ⟨rfl, rfl, rfl⟩ := e
    exact ⟨r, rfl⟩
theorem no_bar {p q : List Nat} (h : 124 ∉ p) (hq : q = [] ∨ ∃ r, q = 32 :: r) : ∀ i, i < p.length → pre [32, 124, 32] ((p ++ q).drop i) = false := by
  intro i hi
  cases hp : pre [32, 124, 32] ((p ++ q).drop i) with
  | false => rfl
  | true =>
    obtain ⟨r, e⟩ := pre_bar hp
    have e1 : (p ++ q)[i + 1]? = some 124 := by
      have : ((p ++ q).drop i)[1]? = some 124 := by rw [e]; rfl
      rw [List.getElem?_drop] at this
      exact this
    by_cases h1 : i + 1 < p.length
    · rw [List.getElem?_append_left h1] at e1
      exact absurd (List.mem_of_getElem? e1) h
    · rw [List.getElem?_append_right (by omega)] at e1
      rcases hq with rfl | ⟨r, rfl⟩
      · simp at e1
      · have : i + 1 - p.length = 0 := by omega
        rw [this] at e1
        simp at e1
theorem part_no {x : Str} (h : 124 ∉ tl x) : Txt.partition x " | " = (x, Str.empty, Str.empty) := by
  rw [partition_par _ _ (by rw [tlBar]; simp), tlBar, par_none]
  intro i hi
  have := no_bar (q := []) h (.inl rfl) i hi
  rwa [List.append_nil] at this
theorem part_yes {x y : Str} (h : 124 ∉ tl x) : Txt.partition (x ++ " | " ++ y) " | " = (x, (" | " : Str), y) := by
  rw [partition_par _ _ (by rw [tlBar]; simp), tl_append, tl_append, List.append_assoc, tlBar, par_part (by simp) (no_bar h (.inr ⟨_, rfl⟩))]
  show ((⟨([] ++ tl x).toArray⟩ : Str), _, (⟨(tl y).toArray⟩ : Str)) = _
  rw [List.nil_append, mk_tl, mk_tl]
theorem split_words {B : List Str} (hB : B ≠ []) (h : ∀ w ∈ B, Fre w) : Txt.split (Txt.join " " B) " " = B :=
  split_join (s := 32) (S := []) tlSp (by decide +kernel) hB fun p hp => (h p hp).1
theorem words_text {B E : List Str} (hB : B ≠ []) (h1 : ∀ w ∈ B, Fre w) (h2 : ∀ w ∈ E, Fre w) : wordsR (textOf B E) = B ∧ wordsE (textOf B E) = E := by
  unfold wordsR wordsE textOf
  by_cases hE : E = []
  · rw [if_pos hE, part_no (nobar h1)]
    refine ⟨split_words hB h1, ?_⟩
    rw [hE]
    rfl
  · rw [if_neg hE, part_yes (nobar h1)]
    refine ⟨split_words hB h1, ?_⟩
    exact (if_pos (show ((" | " : Str).length != 0) = true by decide +kernel)).trans (split_words hE h2)
theorem words_line {B E : List Str} (hB : B ≠ []) (h1 : ∀ w ∈ B, Fre w) (h2 : ∀ w ∈ E, Fre w) : wordsR (line B E) = B ∧ wordsE (line B E) = E := by
  rw [line_text hB]
  exact words_text hB h1 h2
/-! ### lengths -/
theorem sum_le {n : Nat} : ∀ {B : List Str}, (∀ w ∈ B, w.length ≤ n) → (B.map (·.length)).sum ≤ n * B.length
  | [], _ => Nat.zero_le _
  | w :: r, h => by
    have a := h w (List.mem_cons_self ..)
    have b := sum_le (B := r) fun z hz => h z (List.mem_cons_of_mem _ hz)
    rw [List.map_cons, List.sum_cons, List.length_cons, Nat.mul_succ]
    omega
theorem join_len : ∀ B : List Str, (Txt.join " " B).length ≤ (B.map (·.length)).sum + B.length := by
  intro B
  rw [len_tl, tl_joinSp]
  induction B with
  | nil => simp [joinL]
  | cons w r ih =>
    cases r with
    | nil =>
      show (tl w).length ≤ _
      rw [← len_tl]
      simp
    | cons x r =>
      show (tl w ++ ([32] ++ joinL [32] ((x :: r).map tl))).length ≤ _
      rw [List.length_append, List.length_append, ← len_tl]
      simp only [List.map_cons, List.sum_cons, List.length_cons, List.length_nil] at ih ⊢
      omega
/-- short words, not many -/
def Sht (n : Nat) (B : List Str) : Prop := (∀ w ∈ B, w.length ≤ 11) ∧ B.length ≤ n
theorem Sht.sum {n : Nat} {B : List Str} (h : Sht n B) : (B.map (·.length)).sum + B.length * 1 ≤ 12 * n := by
  have := sum_le h.1
  have := h.2
  omega
theorem Sht.join {n : Nat} {B : List Str} (h : Sht n B) : (Txt.join " " B).length ≤ 12 * n := by
  have := h.sum
  have := join_len B
  omega
/-! ### bounds of what is cut -/
theorem spl_len (S : List Nat) : ∀ (k : Nat) (acc l : List Nat), (spl S k acc l).length ≤ l.length + 1
  | k, acc, [] => by rw [spl_nil]; simp
  | 0, acc, c :: r => by
    cases h : pre S (c :: r) with
    | true =>
      rw [spl_hit h, List.length_cons, List.length_cons]
      have := spl_len S (S.length - 1) [] r
      omega
    | false =>
      rw [spl_miss h, List.length_cons]
      have := spl_len S 0 (acc ++ [c]) r
      omega
  | k + 1, acc, _ :: r => by
    show (spl S k acc r).length ≤ _
    have := spl_len S k acc r
    rw [List.length_cons]
    omega
theorem spl_word (S : List Nat) : ∀ (k : Nat) (acc l : List Nat), ∀ p ∈ spl S k acc l, p.length ≤ acc.length + l.length
  | k, acc, [], p, hp => by
    rw [spl_nil] at hp
    rw [List.mem_singleton.mp hp]
    omega
  | 0, acc, c :: r, p, hp => by
    cases h : pre S (c :: r) with
    | true =>
      rw [spl_hit h] at hp
      rcases List.mem_cons.mp hp with rfl | hp
      · omega
      · have := spl_word S (S.length - 1) [] r p hp
        simp at this ⊢
        omega
    | false =>
      rw [spl_miss h] at hp
      have := spl_word S 0 (acc ++ [c]) r p hp
      simp at this ⊢
      omega
  | k + 1, acc, _ :: r, p, hp => by
    have := spl_word S k acc r p hp
    simp at this ⊢
    omega
theorem split_sp (x : Str) : (Txt.split x " ").map tl = spl [32] 0 [] (tl x) := by
  have := split_spl x " " (by rw [tlSp]; simp) (kind_ok (by decide +kernel))
  rwa [tlSp] at this
theorem split_len (x : Str) : (Txt.split x " ").length ≤ x.length + 1 := by
  have := spl_len [32] 0 [] (tl x)
  rw [← split_sp, List.length_map, ← len_tl] at this
  exact this
theorem split_word {x w : Str} (h : w ∈ Txt.split x " ") : w.length ≤ x.length := by
  have := spl_word [32] 0 [] (tl x) (tl w) (by rw [← split_sp]; exact List.mem_map.mpr ⟨w, h, rfl⟩)
  rw [← len_tl, ← len_tl] at this
  simpa using this
theorem part_len (x y : Str) : (Txt.partition x y).1.length ≤ x.length ∧ (Txt.partition x y).2.1.length ≤ y.length ∧ (Txt.partition x y).2.2.length ≤ x.length := by
  rcases PyProof.Rows.partition_whole x y with ⟨e, _⟩ | ⟨i, e, _, _⟩
  · rw [e]
    exact ⟨Nat.le_refl _, Nat.zero_le _, Nat.zero_le _⟩
  · rw [e]
    refine ⟨?_, Nat.le_refl _, ?_⟩
    · rw [len_tl, tl_strSub, List.length_take, List.length_drop, ← len_tl]
      omega
    · rw [len_tl, tl_strSub_end, List.length_drop, ← len_tl]
      omega
/-- the words of a text of at most n signs -/
theorem wordsR_len (t : Str) : (wordsR t).length ≤ t.length + 1 := by
  have := split_len (Txt.partition t " | ").1
  have := (part_len t " | ").1
  unfold wordsR
  omega
theorem wordsE_len (t : Str) : (wordsE t).length ≤ t.length + 1 := by
  unfold wordsE
  split
  · have := split_len (Txt.partition t " | ").2.2
    have := (part_len t " | ").2.2
    omega
  · simp
theorem wordsR_word {t w : Str} (h : w ∈ wordsR t) : w.length ≤ t.length := Nat.le_trans (split_word h) (part_len t " | ").1
theorem wordsE_word {t w : Str} (h : w ∈ wordsE t) : w.length ≤ t.length := by
  unfold wordsE at h
  split at h
  · exact Nat.le_trans (split_word h) (part_len t " | ").2.2
  · exact nomatch h
theorem wordsR_ne (t : Str) : wordsR t ≠ [] := split_ne _ _
end LM

/-! what many parts want: the error about texts, small lemmas -/
namespace My
open PySem L2 Cm LM
abbrev sEI : Stmt := inClass (top 5) 0
theorem nz (n : Nat) : ((n : Int) != 0) = (n != 0) := by
  cases n with
  | zero => rfl
  | succ k => simp; omega
/-- no text is longer -/
def Bd (t : Str) : Prop := t.length ≤ 100000
theorem Bd.part {t : Str} (y : Str) (h : Bd t) : Bd (Txt.partition t y).1 ∧ Bd (Txt.partition t y).2.2 := ⟨Nat.le_trans (part_len t y).1 h, Nat.le_trans (part_len t y).2.2 h⟩
theorem Bd.line {t : Str} (h : Bd t) : t.length ≤ sizeLine := Nat.le_of_lt (szM (Nat.le_trans h (by decide)))
theorem Bd.line2 {t : Str} (h : Bd t) : t.length + 2 ≤ sizeLine := Nat.le_of_lt (szM (by unfold Bd at h; omega))
theorem svs_get {ws : List Str} {i : Nat} {x : V} (h : (svs ws)[i]? = some x) : ∃ z, ws[i]? = some z ∧ x = .str z := by
  unfold svs at h
  rw [List.getElem?_map] at h
  cases e : ws[i]? with
  | none => rw [e] at h; cases h
  | some z =>
    rw [e] at h
    exact ⟨z, rfl, (Option.some.inj h).symm⟩
theorem take_snoc {α : Type} {xs : List α} {i : Nat} {x : α} (h : xs[i]? = some x) : xs.take (i + 1) = xs.take i ++ [x] := by
  rw [List.take_succ, h]
  rfl
theorem lt_of_get {α : Type} {xs : List α} {i : Nat} {x : α} (h : xs[i]? = some x) : i < xs.length := (List.getElem?_eq_some_iff.mp h).1
/-- not many words, none too long -/
def BdW (ws : List Str) : Prop := (∀ z ∈ ws, Bd z) ∧ ws.length ≤ 100001
theorem made_same {H H' : Hp} {x dx C : Addr} (nx : H x = none) (ndx : H dx = none) (o : Off x (upd (upd H dx (.own x)) x (.ins C dx [])) H') : Same H H' := fun b u e => o b u (ne_of_none e nx) (by rw [upd_ne (ne_of_none e nx), upd_ne (ne_of_none e ndx)]; exact e)
/-- a special method of the class at C -/
structure Sm (K : PySem.W.Frag) (C : Addr) (x q : Str) (st : Stmt) (ps : List Str) where
  f : Addr
  fd : FuncData
  F : Fun K x q st f fd
  b : Binds K fd ps []
  i : PySem.W.findIn K (.ref C) x = some (some (.ref f))
  fn : PySem.W.isFn K (.ref f) = true
theorem TyX_same {K : PySem.W.Frag} {H H' : Hp} (s : Same H H') {x : V} {t : Value} (h : TyX K H x t) : TyX K H' x t := by
  cases h with
  | base b =>
    refine .base ?_
    cases b with
    | non => exact .non
    | bl x => exact .bl x
    | int i => exact .int i
    | str x => exact .str x
    | flt x => exact .flt x
    | lst e => exact .lst (s _ _ e)
    | frz e => exact .frz (s _ _ e)
    | tup e => exact .tup (s _ _ e)
    | dK e => exact .dK (s _ _ e)
    | dT e => exact .dT (s _ _ e)
    | ins e a b c d f => exact .ins (s _ _ e) a b c d f
  | byt b => exact .byt b
  | set e => exact .set (s _ _ e)
  | kList e c => exact .kList e c
  | kTuple e c => exact .kTuple e c
  | kDict e c => exact .kDict e c
  | fTuple e => exact .fTuple (s _ _ e)
  | fDict e => exact .fDict (s _ _ e)
theorem jar_ne {H : Hp} {j p : Addr} (a : Jar H j) (n : H p = none) : p ≠ j := fun z => by
  obtain ⟨_, _, _, q⟩ := a
  rw [z, q] at n
  cases n
theorem Jar.put {H : Hp} {j p : Addr} {o : HO} (a : Jar H j) (n : p ≠ j) : Jar (upd H p o) j := by
  obtain ⟨x, y, z, q⟩ := a
  exact ⟨x, y, z, by rw [upd_ne n.symm]; exact q⟩
/-- a store to what was not there at first -/
theorem Off.put2 {j q : Addr} {H H1 : Hp} {o : HO} (a : Off j H H1) (n : H q = none) : Off j H (upd H1 q o) := fun b u nb e => by
  rw [upd_ne (ne_of_none e n)]
  exact a b u nb e
/-- tuples that stand stay, if what is written is no tuple -/
theorem tup_stays {H : Hp} {x : Addr} {o o' : HO} (hx : H x = some o) (n : ∀ xs, o ≠ .tup xs) : ∀ (p : Addr) (xs : List V), H p = some (.tup xs) → (upd H x o') p = some (.tup xs) := fun p xs e => by
  rw [upd_ne]
  · exact e
  · intro z
    rw [z, hx] at e
    exact n xs (Option.some.inj e)
def isS : V → Bool
  | .str _ => true
  | _ => false
/-- its type is told -/
def Typed (K : PySem.W.Frag) (H : Hp) (x : V) : Prop := ∃ t, TyX K H x t ∧ PySem.W.kitOne K t (.type "str") = some (isS x)
theorem typed_str {K : PySem.W.Frag} {H : Hp} (x : Str) : Typed K H (.str x) := ⟨_, .base (.str x), kit_ty (show kitB "str" "str" = some true by decide +kernel)⟩
/-! ### the error -/
structure TxE (K : PySem.W.Frag) (mg : Str → Option Value) where
  C : Addr
  f : Addr
  fd : FuncData
  g : mg "InvalidText" = some (.ref C)
  o : OexC K C
  i : PySem.W.findIn K (.ref C) "__init__" = some (some (.ref f))
  t : PySem.W.typeIn K (.ref f) = some (.type "function")
  n : PySem.W.findIn K (.ref C) "value" = some none
  F : Fun K "__init__" "InvalidText.__init__" sEI f fd
  b : Binds K fd ["self", "value"] []
section
variable {P : Program} {w : World} {K : PySem.W.Frag} {mg : Str → Option Value} {base : Heap}
def spEI (CE : Addr) : Sp := fun vs H Q _ => ∃ (a : Addr) (v : V), vs = [.ref a, v] ∧ H a = some (exo a CE none) ∧ ∀ dx, H dx = none → dx ≠ a → Q .non (upd (upd H dx (exd dx [("value", v)])) a (exo a CE (some dx)))
theorem scEI : FnScope ["self", "value"] ["self", "value"] (defScope sEI) := ⟨rfl, rfl, rfl, by decide +kernel, rfl, by decide +kernel, by decide +kernel⟩
theorem ok_ei (T : TxE K mg) : FnOk P w K mg base CX0 1 T.f T.fd ["self", "value"] (spEI T.C) := by
  refine T.F.ok scEI (fun vs H Q E h => ?_) (fun cdv A outer s H vs Q E hr h => ?_)
  · obtain ⟨a, v, rfl, _⟩ := h
    rfl
  · obtain ⟨a, v, rfl, ha, k⟩ := h
    refine ⟨_, pss_one (ps_ost (pv 0) (pv 1)), ?_⟩
    exact ⟨_, rfl, _, rfl, a, T.C, rfl, T.o, T.n, .inl ⟨ha, fun dx n ne => k dx n ne⟩⟩
/-- raise X(x), as its making is read -/
theorem mk_err {CE : Addr} {ta : TA} {σ : St} {H : Hp} {Q : XK} {x : V} (h : ta σ H fun vs H1 => vs = [x] ∧ H1 = H) (mono : ∀ {R R' : List V → Hp → Prop}, ta σ H R → (∀ v H1, R v H1 → R' v H1) → ta σ H R')
    (q : ∀ d, H d = none → Q (.ref CE) (some d) (upd H d (.xd [("value", x)]))) : tMkO CE (spEI CE) [] ta σ H Q := by
  refine mono h fun vs H1 hh => ?_
  obtain ⟨rfl, rfl⟩ := hh
  refine ⟨by show 1 ≤ 1000; decide, fun a na => ⟨a, x, rfl, upd_same, fun dx ndx nda => ⟨rfl, dx, [("value", x)], upd_same, ?_, ?_, ?_⟩⟩⟩
  · rw [upd_ne nda, upd_same]
  · rw [upd_ne nda] at ndx
    exact ndx
  · have e : upd (del (upd (upd (upd H1 a (exo a CE none)) dx (exd dx [("value", x)])) a (exo a CE (some dx))) a) dx (.xd [("value", x)]) = upd H1 dx (.xd [("value", x)]) := by
      funext b
      by_cases h1 : b = dx
      · rw [h1, upd_same, upd_same]
      · rw [upd_ne h1, upd_ne h1]
        by_cases h2 : b = a
        · rw [h2, del_same, na]
        · rw [del_ne h2, upd_ne h2, upd_ne h1, upd_ne h2]
    rw [e]
    rw [upd_ne nda] at ndx
    exact q dx ndx
end
end My

/-! the defs about texts of loops -/
namespace My
open PySem L2 Cm LM
abbrev sWO : Stmt := top 30
abbrev sOO : Stmt := top 31
abbrev sIW : Stmt := top 32
abbrev sAW : Stmt := top 33
abbrev sIR : Stmt := top 34
abbrev sIE : Stmt := top 35
/-- what the module's top has for these defs -/
structure TxL (K : PySem.W.Frag) (mg : Str → Option Value) where
  tuple : mg "tuple" = none
  len : mg "len" = none
  all : mg "all" = none
  bar : ∃ t, mg "BAR" = some (.str " | " t)
  mr : ∃ t, mg "MOST_ROUND" = some (.int 12 t)
  me : ∃ t, mg "MOST_ENDING" = some (.int 6 t)
  pT : Addr
  pR : Addr
  pE : Addr
  gT : mg "TESTS" = some (.ref pT)
  gR : mg "ROUND_STEPS" = some (.ref pR)
  gE : mg "ENDING_STEPS" = some (.ref pE)
  lT : ∀ H, SqT K H pT (svs tests)
  lR : ∀ H, SqT K H pR (svs rsteps)
  lE : ∀ H, SqT K H pE (svs esteps)
  wo : Df K mg "words_of" sWO ["text"]
  oo : Df K mg "order_of" sOO ["word"]
  iw : Df K mg "is_word" sIW ["word", "steps"]
  aw : Df K mg "are_words" sAW ["words", "steps"]
  ir : Df K mg "is_round" sIR ["words"]
  ie : Df K mg "is_ending" sIE ["words"]
section
variable {P : Program} {w : World} {K : PySem.W.Frag} {mg : Str → Option Value} {base : Heap}
/-! ### words_of -/
def spWO : Sp := fun vs H Q _ => ∃ t : Str, vs = [.str t] ∧ Bd t ∧ ∀ (H' : Hp) (p a b : Addr), Same H H' → H' p = some (.tup [.ref a, .ref b]) → H' a = some (.tup (svs (wordsR t))) → H' b = some (.tup (svs (wordsE t))) → Q (.ref p) H'
theorem scWO : FnScope ["text", "head", "bar", "tail"] ["text"] (defScope sWO) := ⟨rfl, rfl, rfl, by decide +kernel, rfl, by decide +kernel, by decide +kernel⟩
theorem ok_wo (T : TxL K mg) : FnOk P w K mg base CX0 1 T.wo.f T.wo.fd ["text"] spWO := by
  obtain ⟨tb, hb⟩ := T.bar
  refine T.wo.F.ok scWO (fun vs H Q E h => ?_) (fun cdv A outer s H vs Q E hr h => ?_)
  · obtain ⟨t, rfl, _⟩ := h
    rfl
  · obtain ⟨t, rfl, bd, k⟩ := h
    refine ⟨_, pss_cons (ps_asg (pe_partition (pv 0) (pe_glob (v := .str " | ") rfl hb ⟨_, rfl⟩)) (pg_tup rfl (pgs_cons (pg_name (i := 1) scWO.nd rfl (.inl rfl)) (pgs_cons (pg_name (i := 2) scWO.nd rfl (.inl rfl)) (pgs_cons (pg_name (i := 3) scWO.nd rfl (.inl rfl)) pgs_nil)))))
      (pss_one (ps_ret (pe_tup (pa_cons (pe_callTy call_tuple_of (by rfl) T.tuple (by decide +kernel) (pa_cons (pe_split (pv 1) pe_str) pa_nil))
        (pa_cons (pe_ifExp (pt_truth (pv 2) (by intro _; rfl)) (pe_callTy call_tuple_of (by rfl) T.tuple (by decide +kernel) (pa_cons (pe_split (pv 3) pe_str) pa_nil)) (pe_tup pa_nil)) pa_nil))))), ?_⟩
    have bp := Bd.part " | " bd
    refine ⟨_, rfl, ⟨_, rfl⟩, t, " | ", rfl, rfl, by decide +kernel, bd.line, fun q nq => ?_⟩
    refine ⟨q, _, rfl, SqT.of upd_same, rfl, _, _, rfl, _, _, rfl, _, _, rfl, rfl, ?_⟩
    have s1 : Same H (upd H q (.tup [.str (Txt.partition t " | ").1, .str (Txt.partition t " | ").2.1, .str (Txt.partition t " | ").2.2])) := same_new nq
    generalize upd H q (.tup [.str (Txt.partition t " | ").1, .str (Txt.partition t " | ").2.1, .str (Txt.partition t " | ").2.2]) = H1 at s1 ⊢
    refine ⟨_, rfl, ⟨_, rfl⟩, _, " ", rfl, rfl, by decide +kernel, bp.1.line2, fun l nl => ?_⟩
    refine ⟨l, _, rfl, .inl ⟨SqL.of upd_same, fun a na => ?_⟩⟩
    have s2 : Same H1 (upd (upd H1 l (.lst (svs (wordsR t)))) a (.tup (svs (wordsR t)))) := Same.trans (same_new nl) (same_new na)
    have ha : (upd (upd H1 l (.lst (svs (wordsR t)))) a (.tup (svs (wordsR t)))) a = some (.tup (svs (wordsR t))) := upd_same
    show tCons _ _ _ (upd (upd H1 l (.lst (svs (wordsR t)))) a (.tup (svs (wordsR t)))) _
    generalize upd (upd H1 l (.lst (svs (wordsR t)))) a (.tup (svs (wordsR t))) = H2 at s2 ha ⊢
    refine ⟨_, rfl, _, ⟨Nat.le_trans (part_len t " | ").2.1 (by decide +kernel), rfl⟩, ?_⟩
    rw [nz]
    cases hc : ((Txt.partition t " | ").2.1.length != 0) with
    | true =>
      have e : wordsE t = Txt.split (Txt.partition t " | ").2.2 " " := by unfold wordsE; rw [if_pos hc]
      refine iteT ?_
      refine ⟨_, rfl, ⟨_, rfl⟩, _, " ", rfl, rfl, by decide +kernel, bp.2.line2, fun l2 nl2 => ?_⟩
      rw [← e]
      refine ⟨l2, _, rfl, .inl ⟨SqL.of upd_same, fun b nb => ?_⟩⟩
      refine ⟨(by show 2 ≤ sizeLine; decide), fun p np => ?_⟩
      exact k _ p a b (Same.trans s1 (Same.trans s2 (Same.trans (same_new nl2) (Same.trans (same_new nb) (same_new np))))) upd_same (same_new np _ _ (same_new nb _ _ (same_new nl2 _ _ ha))) (same_new np _ _ upd_same)
    | false =>
      have e : wordsE t = [] := by unfold wordsE; rw [if_neg (by rw [hc]; exact Bool.false_ne_true)]
      refine iteF ?_
      refine ⟨Nat.zero_le _, fun b nb => ?_⟩
      refine ⟨(by show 2 ≤ sizeLine; decide), fun p np => ?_⟩
      refine k _ p a b (Same.trans s1 (Same.trans s2 (Same.trans (same_new nb) (same_new np)))) upd_same (same_new np _ _ (same_new nb _ _ ha)) ?_
      rw [e]
      exact same_new np _ _ upd_same
/-! ### order_of -/
def spOO : Sp := fun vs H Q _ => ∃ t : Str, vs = [.str t] ∧ Bd t ∧ ∀ (H' : Hp) (p : Addr), Same H H' → H p = none → H' p = some (.tup [.str (orderOf t).1, .str (orderOf t).2]) → Q (.ref p) H'
theorem scOO : FnScope ["word", "test", "colon", "step"] ["word"] (defScope sOO) := ⟨rfl, rfl, rfl, by decide +kernel, rfl, by decide +kernel, by decide +kernel⟩
theorem ok_oo (T : TxL K mg) : FnOk P w K mg base CX0 1 T.oo.f T.oo.fd ["word"] spOO := by
  refine T.oo.F.ok scOO (fun vs H Q E h => ?_) (fun cdv A outer s H vs Q E hr h => ?_)
  · obtain ⟨t, rfl, _⟩ := h
    rfl
  · obtain ⟨t, rfl, bd, k⟩ := h
    refine ⟨_, pss_cons (ps_asg (pe_partition (pv 0) pe_str) (pg_tup rfl (pgs_cons (pg_name (i := 1) scOO.nd rfl (.inl rfl)) (pgs_cons (pg_name (i := 2) scOO.nd rfl (.inl rfl)) (pgs_cons (pg_name (i := 3) scOO.nd rfl (.inl rfl)) pgs_nil)))))
      (pss_one (ps_ret (pe_ifExp (pt_truth (pv 2) (by intro _; rfl)) (pe_tup (pa_cons (pv 1) (pa_cons (pv 3) pa_nil))) (pe_tup (pa_cons pe_str (pa_cons (pv 0) pa_nil)))))), ?_⟩
    refine ⟨_, rfl, ⟨_, rfl⟩, t, ":", rfl, rfl, by decide +kernel, bd.line, fun q nq => ?_⟩
    refine ⟨q, _, rfl, SqT.of upd_same, rfl, _, _, rfl, _, _, rfl, _, _, rfl, rfl, ?_⟩
    have s1 : Same H (upd H q (.tup [.str (Txt.partition t ":").1, .str (Txt.partition t ":").2.1, .str (Txt.partition t ":").2.2])) := same_new nq
    generalize upd H q (.tup [.str (Txt.partition t ":").1, .str (Txt.partition t ":").2.1, .str (Txt.partition t ":").2.2]) = H1 at s1 ⊢
    refine ⟨_, rfl, _, ⟨Nat.le_trans (part_len t ":").2.1 (by decide +kernel), rfl⟩, ?_⟩
    rw [nz]
    unfold orderOf at k
    cases hc : ((Txt.partition t ":").2.1.length != 0) with
    | true =>
      rw [if_pos hc] at k
      refine iteT ?_
      refine ⟨_, rfl, _, rfl, (by show 2 ≤ sizeLine; decide), fun p np => ?_⟩
      exact k _ p (Same.trans s1 (same_new np)) (s1.free np) upd_same
    | false =>
      rw [if_neg (by rw [hc]; exact Bool.false_ne_true)] at k
      refine iteF ?_
      refine ⟨_, rfl, (by show 2 ≤ sizeLine; decide), fun p np => ?_⟩
      exact k _ p (Same.trans s1 (same_new np)) (s1.free np) upd_same
/-! ### is_word -/
def spIW (K : PySem.W.Frag) : Sp := fun vs H Q _ => ∃ (t : Str) (p : Addr) (ss : List Str), vs = [.str t, .ref p] ∧ Bd t ∧ SqT K H p (svs ss) ∧ ∀ H' : Hp, Same H H' → Q (.bl (isWord t ss)) H'
theorem scIW : FnScope ["word", "steps", "test", "colon", "step"] ["word", "steps"] (defScope sIW) := ⟨rfl, rfl, rfl, by decide +kernel, rfl, by decide +kernel, by decide +kernel⟩
theorem ok_iw (T : TxL K mg) : FnOk P w K mg base CX0 1 T.iw.f T.iw.fd ["word", "steps"] (spIW K) := by
  refine T.iw.F.ok scIW (fun vs H Q E h => ?_) (fun cdv A outer s H vs Q E hr h => ?_)
  · obtain ⟨t, p, ss, rfl, _⟩ := h
    rfl
  · obtain ⟨t, p, ss, rfl, bd, hp, k⟩ := h
    refine ⟨_, pss_cons (ps_asg (pe_partition (pv 0) pe_str) (pg_tup rfl (pgs_cons (pg_name (i := 2) scIW.nd rfl (.inl rfl)) (pgs_cons (pg_name (i := 3) scIW.nd rfl (.inl rfl)) (pgs_cons (pg_name (i := 4) scIW.nd rfl (.inl rfl)) pgs_nil)))))
      (pss_one (ps_ret (pe_ifExp (pt_truth (pv 3) (by intro _; rfl)) (pe_and (pe_cmpR op_in_seq (pv 2) (pe_glob (v := .ref T.pT) rfl T.gT rfl) (by rfl)) (pe_one (pe_cmpR op_in_seq (pv 4) (pv 1) (by rfl)))) (pe_cmpR op_in_seq (pv 0) (pv 1) (by rfl))))), ?_⟩
    refine ⟨_, rfl, ⟨_, rfl⟩, t, ":", rfl, rfl, by decide +kernel, bd.line, fun q nq => ?_⟩
    refine ⟨q, _, rfl, SqT.of upd_same, rfl, _, _, rfl, _, _, rfl, _, _, rfl, rfl, ?_⟩
    have s1 : Same H (upd H q (.tup [.str (Txt.partition t ":").1, .str (Txt.partition t ":").2.1, .str (Txt.partition t ":").2.2])) := same_new nq
    generalize upd H q (.tup [.str (Txt.partition t ":").1, .str (Txt.partition t ":").2.1, .str (Txt.partition t ":").2.2]) = H1 at s1 ⊢
    refine ⟨_, rfl, _, ⟨Nat.le_trans (part_len t ":").2.1 (by decide +kernel), rfl⟩, ?_⟩
    rw [nz]
    have k1 := k H1 s1
    unfold isWord at k1
    cases hc : ((Txt.partition t ":").2.1.length != 0) with
    | true =>
      rw [if_pos hc] at k1
      refine iteT ?_
      refine ⟨_, rfl, T.pT, _, rfl, .inr (T.lT _), rfl, svs_flat _, _, rfl, ?_⟩
      show if (inV _ (svs tests)) = true then _ else _
      rw [inV_svs]
      by_cases h1 : (Txt.partition t ":").1 ∈ tests
      · rw [decide_eq_true h1] at k1 ⊢
        refine iteT ⟨_, rfl, _, rfl, p, _, rfl, .inr (Cm.Same.set s1 hp), rfl, svs_flat _, ?_⟩
        show _
        rw [Bool.true_and] at k1
        have := inV_svs (Txt.partition t ":").2.2 ss
        rw [← this] at k1
        exact k1
      · rw [decide_eq_false h1] at k1 ⊢
        exact iteF k1
    | false =>
      rw [if_neg (by rw [hc]; exact Bool.false_ne_true)] at k1
      refine iteF ?_
      refine ⟨_, rfl, _, rfl, p, _, rfl, .inr (Cm.Same.set s1 hp), rfl, svs_flat _, ?_⟩
      rw [← inV_svs] at k1
      exact k1
end
end My

namespace My
open PySem L2 Cm LM
section
variable {P : Program} {w : World} {K : PySem.W.Frag} {mg : Str → Option Value} {base : Heap}
/-! ### are_words -/
def spAW (K : PySem.W.Frag) : Sp := fun vs H Q _ => ∃ (a p : Addr) (ws ss : List Str), vs = [.ref a, .ref p] ∧ BdW ws ∧ SqT K H a (svs ws) ∧ SqT K H p (svs ss) ∧ ∀ H' : Hp, Same H H' → Q (.bl (areWords ws ss)) H'
theorem scAW : FnScope ["words", "steps", "word"] ["words", "steps"] (defScope sAW) := ⟨rfl, rfl, rfl, by decide +kernel, rfl, by decide +kernel, by decide +kernel⟩
theorem ok_aw (T : TxL K mg) : FnOk P w K mg base CX0 2 T.aw.f T.aw.fd ["words", "steps"] (spAW K) := by
  have G1 : FnOk P w K mg base CX0 1 T.iw.f T.iw.fd ["word", "steps"] (spIW K) := ok_iw T
  refine T.aw.F.ok scAW (fun vs H Q E h => ?_) (fun cdv A outer s H vs Q E hr h => ?_)
  · obtain ⟨a, p, ws, ss, rfl, _⟩ := h
    rfl
  · obtain ⟨a, p, ws, ss, rfl, bd, ha, hp, k⟩ := h
    refine ⟨_, pss_one (ps_ret (pe_callB (cr_all rfl) (by rfl) T.all (by decide +kernel) (pa_cons (pe_lc (own := [("word", 2)]) (g := gName 2) (tt := tYes) (te := tCall (spIW K) [] E0 (tCons (tVar 2) (tCons (tVar 1) tNil))) rfl scAW.nd (pi_tup (pv 0))
      (blkOk_by (own := [("word", 2)]) (N := ["words", "steps", "word"]) (sc := defScope sAW) (by decide +kernel)) (fun _ _ _ _ _ => pg_name (i := 2) scAW.nd rfl (Or.inl rfl)) (fun _ _ _ _ _ => pts_nil)
      (fun _ _ _ _ _ => by exact pe_call G1 hr rfl T.iw.g T.iw.k T.iw.b .nil pass0 (pa_cons (pv 2) (pa_cons (pv 1) pa_nil)))) pa_nil))), ?_⟩
    refine ⟨_, rfl, a, rfl, ⟨_, ha⟩, fun D nD => lc_tup (K := K) (a := a) (xs := svs ws) (fun i H' => Same H H' ∧ H' D = some (.lst (((ws.take i).map fun z => isWord z ss).map V.bl))) ⟨same_new nD, upd_same⟩ (fun i H' _ ⟨s', _⟩ => Cm.Same.set s' ha) ?_ ?_⟩
    · rintro i x H' hx ⟨s', hD⟩
      obtain ⟨z, hz, rfl⟩ := svs_get hx
      refine ⟨rfl, _, rfl, _, rfl, z, p, ss, rfl, bd.1 z (List.mem_of_getElem? hz), Cm.Same.set s' hp, fun H2 s2 => ?_⟩
      refine ⟨_, s2 _ _ hD, szM ?_, fun b o q => ?_, ?_⟩
      · rw [List.length_map, List.length_map, List.length_take]
        have := bd.2
        omega
      · rw [upd_ne (ne_of_none q nD)]
        exact s2 _ _ (s' _ _ q)
      · rw [upd_same, take_snoc hz]
        simp
    · rintro H' ⟨s', hD⟩
      have e : (svs ws).length = ws.length := List.length_map ..
      rw [e, List.take_length] at hD
      refine ⟨D, ws.map fun z => isWord z ss, rfl, SqL.of hD, ?_⟩
      have k1 := k H' s'
      unfold areWords at k1
      rw [List.all_map]
      exact k1
/-! ### is_round -/
def spIR (K : PySem.W.Frag) : Sp := fun vs H Q _ => ∃ (a : Addr) (ws : List Str), vs = [.ref a] ∧ ws ≠ [] ∧ BdW ws ∧ SqT K H a (svs ws) ∧ ∀ H' : Hp, Same H H' → Q (.bl (isRound ws)) H'
theorem scIR : FnScope ["words", "adding", "word"] ["words"] (defScope sIR) := ⟨rfl, rfl, rfl, by decide +kernel, rfl, by decide +kernel, by decide +kernel⟩
def ttAdd (K : PySem.W.Frag) : TT := tTest (tOp rEq (tOp (rIxT K) (tCall spOO [] E0 (tCons (tVar 2) tNil)) (tC (.int 1))) (tC (.str "add")))
theorem ok_ir (T : TxL K mg) : FnOk P w K mg base CX0 3 T.ir.f T.ir.fd ["words"] (spIR K) := by
  have GO : FnOk P w K mg base CX0 1 T.oo.f T.oo.fd ["word"] spOO := ok_oo T
  have GA : FnOk P w K mg base CX0 2 T.aw.f T.aw.fd ["words", "steps"] (spAW K) := ok_aw T
  obtain ⟨tm, mr⟩ := T.mr
  refine T.ir.F.ok scIR (fun vs H Q E h => ?_) (fun cdv A outer s H vs Q E hr h => ?_)
  · obtain ⟨a, ws, rfl, _⟩ := h
    rfl
  · obtain ⟨a, ws, rfl, ne, bd, ha, k⟩ := h
    have hr1 : Room 1 _ := hr.mono (by decide)
    refine ⟨_, pss_cons (ps_if (PW.pt (pw_or (pt_cmpR op_ne (pe_ix ix_tup (pv 0) pe_int (fun _ _ => rfl)) pe_str (nomark _)) (pw_or1 (pt_cmpR op_gt (pe_callB call_len_seq (by rfl) T.len PySem.boot_len (pa_cons (pv 0) pa_nil)) (pe_glob (v := .int 12) rfl mr ⟨_, rfl⟩) (nomark _))))) (pss_one (ps_ret pe_bl)) pss_nil)
      (pss_cons (ps_setLc (i := 1) (own := [("word", 2)]) (g := gName 2) (tt := ttAdd K) (te := tVar 2) rfl scIR.nd rfl rfl (sw_true rfl rfl rfl (by decide +kernel)) (pi_tup (pv 0)) (blkOk_by (own := [("word", 2)]) (N := ["words", "adding", "word"]) (sc := defScope sIR) (by decide +kernel)) (fun _ _ _ _ _ => pg_name (i := 2) scIR.nd rfl (Or.inl rfl))
          (fun _ _ _ _ _ => by exact pts_one (pt_cmpR op_eq (pe_ix ix_tup (pe_call (E := E0) GO hr1 rfl T.oo.g T.oo.k T.oo.b .nil pass0 (pa_cons (pv 2) pa_nil)) pe_int (fun _ _ => rfl)) pe_str (nomark _))) (fun _ _ _ _ _ => pv 2))
      (pss_one (ps_ret (pe_and (pe_cmpR op_le (pe_callB call_len_seq (by rfl) T.len PySem.boot_len (pa_cons (pv 1) pa_nil)) pe_int (nomark _)) (pe_one (pe_call GA hr rfl T.aw.g T.aw.k T.aw.b .nil pass0 (pa_cons (pe_slice sl_tupA (pv 0) (po_some pe_int) po_none) (pa_cons (pe_glob (v := .ref T.pR) rfl T.gR rfl) pa_nil))))))))
      , ?_⟩
    obtain ⟨w0, r, rfl⟩ : ∃ w0 r, ws = w0 :: r := by
      cases ws with
      | nil => exact absurd rfl ne
      | cons w0 r => exact ⟨w0, r, rfl⟩
    refine ⟨_, rfl, a, _, 0, .str w0, rfl, rfl, ha, (show atI (svs (w0 :: r)) ((0 : Nat) : Int) = some (V.str w0) from atI_nat rfl), rfl, _, rfl, ?_⟩
    unfold isRound at k
    rw [dS]
    by_cases h0 : w0 = "ask"
    · subst h0
      rw [show decide ((("ask" : Str) :: r).head? = some "ask") = true from decide_eq_true rfl, Bool.true_and] at k
      rw [decide_eq_true rfl]
      refine iteF ?_
      refine ⟨_, rfl, a, _, rfl, .inr ha, _, _, rfl, rfl, _, rfl, ?_⟩
      have el : (svs ((("ask" : Str)) :: r)).length = ((("ask" : Str)) :: r).length := List.length_map ..
      rw [el]
      by_cases h12 : ((("ask" : Str)) :: r).length ≤ 12
      · rw [decide_eq_false (show ¬ ((12 : Int) < ((("ask" : Str) :: r).length : Int)) by omega)]
        rw [decide_eq_true h12, Bool.true_and] at k
        refine iteF ?_
        refine ⟨_, rfl, a, rfl, ⟨_, ha⟩, fun D nD => lc_tup (K := K) (a := a) (xs := svs (("ask" : Str) :: r)) (fun i H' => Same H H' ∧ H' D = some (.lst (svs (((("ask" : Str) :: r).take i).filter isAdd)))) ⟨same_new nD, upd_same⟩ (fun i H' _ ⟨s', _⟩ => Cm.Same.set s' ha) ?_ ?_⟩
        · rintro i x H' hx ⟨s', hD⟩
          obtain ⟨z, hz, rfl⟩ := svs_get hx
          refine ⟨rfl, _, rfl, z, rfl, bd.1 z (List.mem_of_getElem? hz), fun H2 p s2 np hp => ?_⟩
          refine ⟨p, _, 1, _, rfl, rfl, SqT.of hp, rfl, rfl, _, rfl, ?_⟩
          rw [dS]
          have ed : decide ((orderOf z).2 = "add") = isAdd z := rfl
          rw [ed]
          rw [take_snoc hz, List.filter_append]
          cases hc : isAdd z with
          | true =>
            refine iteT ?_
            refine ⟨_, rfl, _, s2 _ _ hD, szM ?_, fun b o q => ?_, ?_⟩
            · rw [show (svs (List.filter isAdd (List.take i (("ask" : Str) :: r)))).length = _ from List.length_map ..]
              have := List.length_filter_le isAdd (List.take i (("ask" : Str) :: r))
              rw [List.length_take] at this
              have := bd.2
              omega
            · rw [upd_ne (ne_of_none q nD)]
              exact s2 _ _ (s' _ _ q)
            · rw [upd_same]
              simp [svs, hc]
          | false =>
            refine iteF ?_
            refine ⟨Same.trans s' s2, ?_⟩
            rw [s2 _ _ hD]
            simp [hc]
        · rintro H' ⟨s', hD⟩
          rw [el, List.take_length] at hD
          refine ⟨_, rfl, D, _, rfl, .inl (SqL.of hD), _, _, rfl, rfl, _, rfl, ?_⟩
          have ef : (svs (List.filter isAdd (("ask" : Str) :: r))).length = (List.filter isAdd (("ask" : Str) :: r)).length := List.length_map ..
          rw [ef]
          by_cases h1 : (List.filter isAdd (("ask" : Str) :: r)).length ≤ 1
          · rw [decide_eq_true (show (((List.filter isAdd (("ask" : Str) :: r)).length : Int) ≤ 1) by omega)]
            rw [decide_eq_true h1, Bool.true_and] at k
            refine iteT ?_
            have cut : cutV (svs (("ask" : Str) :: r)) (some 1) none = svs r := by
              unfold cutV
              rw [HT.sIx_none, show (some (1 : Int)) = some ((1 : Nat) : Int) from rfl, HT.sIx_nat, el]
              simp [svs]
              exact List.take_of_length_le (by simp)
            refine ⟨_, rfl, 1, rfl, a, _, rfl, Cm.Same.set s' ha, fun z => ?_, fun _ p np => ?_⟩
            · exfalso
              have := z.1
              rw [show (some (1 : Int)) = some ((1 : Nat) : Int) from rfl, HT.sIx_nat, el] at this
              simp at this
            · rw [cut]
              refine ⟨p, T.pR, r, rsteps, rfl, ⟨fun z hz => bd.1 z (List.mem_cons_of_mem _ hz), ?_⟩, SqT.of upd_same, T.lR _, fun H2 s2 => ?_⟩
              · have := bd.2
                rw [List.length_cons] at this
                omega
              · exact k _ (Same.trans s' (Same.trans (same_new np) s2))
          · rw [decide_eq_false (show ¬ (((List.filter isAdd (("ask" : Str) :: r)).length : Int) ≤ 1) by omega)]
            rw [decide_eq_false h1, Bool.false_and] at k
            exact iteF (k H' s')
      · rw [decide_eq_true (show ((12 : Int) < ((("ask" : Str) :: r).length : Int)) by omega)]
        rw [decide_eq_false h12, Bool.false_and] at k
        exact iteT (k H (Same.refl _))
    · rw [decide_eq_false h0]
      rw [show decide ((w0 :: r).head? = some "ask") = false from decide_eq_false (fun z => h0 (Option.some.inj z)), Bool.false_and] at k
      exact iteT (iteT (k H (Same.refl _)))
/-! ### is_ending -/
def spIE (K : PySem.W.Frag) : Sp := fun vs H Q _ => ∃ (a : Addr) (ws : List Str), vs = [.ref a] ∧ BdW ws ∧ SqT K H a (svs ws) ∧ ∀ H' : Hp, Same H H' → Q (.bl (isEnding ws)) H'
theorem scIE : FnScope ["words"] ["words"] (defScope sIE) := ⟨rfl, rfl, rfl, by decide +kernel, rfl, by decide +kernel, by decide +kernel⟩
theorem ok_ie (T : TxL K mg) : FnOk P w K mg base CX0 3 T.ie.f T.ie.fd ["words"] (spIE K) := by
  have GA : FnOk P w K mg base CX0 2 T.aw.f T.aw.fd ["words", "steps"] (spAW K) := ok_aw T
  obtain ⟨tm, me⟩ := T.me
  refine T.ie.F.ok scIE (fun vs H Q E h => ?_) (fun cdv A outer s H vs Q E hr h => ?_)
  · obtain ⟨a, ws, rfl, _⟩ := h
    rfl
  · obtain ⟨a, ws, rfl, bd, ha, k⟩ := h
    refine ⟨_, pss_one (ps_ret (pe_and (pe_cmpR op_le (pe_callB call_len_seq (by rfl) T.len PySem.boot_len (pa_cons (pv 0) pa_nil)) (pe_glob (v := .int 6) rfl me ⟨_, rfl⟩) (nomark _)) (pe_one (pe_call GA hr rfl T.aw.g T.aw.k T.aw.b .nil pass0 (pa_cons (pv 0) (pa_cons (pe_glob (v := .ref T.pE) rfl T.gE rfl) pa_nil)))))), ?_⟩
    refine ⟨_, rfl, a, _, rfl, .inr ha, _, _, rfl, rfl, _, rfl, ?_⟩
    have el : (svs ws).length = ws.length := List.length_map ..
    rw [el]
    unfold isEnding at k
    by_cases h6 : ws.length ≤ 6
    · rw [decide_eq_true (show ((ws.length : Int) ≤ 6) by omega)]
      rw [decide_eq_true h6, Bool.true_and] at k
      exact iteT ⟨_, rfl, a, T.pE, ws, esteps, rfl, bd, ha, T.lE _, k⟩
    · rw [decide_eq_false (show ¬ ((ws.length : Int) ≤ 6) by omega)]
      rw [decide_eq_false h6, Bool.false_and] at k
      exact iteF (k H (Same.refl _))
end
end My

/-! the class Loop: its making -/
namespace My
open PySem L2 Cm LM
abbrev sLI : Stmt := inClass (top 37) 0
section
variable {P : Program} {w : World} {K : PySem.W.Frag} {mg : Str → Option Value} {base : Heap}
/-! ### loops as objects -/
def lf (t : Str) (pr pe po pq : Addr) : List (Str × V) := putF "ending_orders" (.ref pq) (putF "round_orders" (.ref po) (putF "ending" (.ref pe) (putF "round" (.ref pr) (putF "text" (.str t) []))))
theorem lf_text (t : Str) (pr pe po pq : Addr) : (lf t pr pe po pq).lookup ("text" : Str) = some (.str t) := by
  unfold lf
  rw [lookup_putF, if_neg (by decide +kernel), lookup_putF, if_neg (by decide +kernel), lookup_putF, if_neg (by decide +kernel), lookup_putF, if_neg (by decide +kernel), lookup_putF, if_pos rfl]
theorem lf_round (t : Str) (pr pe po pq : Addr) : (lf t pr pe po pq).lookup ("round" : Str) = some (.ref pr) := by
  unfold lf
  rw [lookup_putF, if_neg (by decide +kernel), lookup_putF, if_neg (by decide +kernel), lookup_putF, if_neg (by decide +kernel), lookup_putF, if_pos rfl]
theorem lf_ending (t : Str) (pr pe po pq : Addr) : (lf t pr pe po pq).lookup ("ending" : Str) = some (.ref pe) := by
  unfold lf
  rw [lookup_putF, if_neg (by decide +kernel), lookup_putF, if_neg (by decide +kernel), lookup_putF, if_pos rfl]
theorem lf_ro (t : Str) (pr pe po pq : Addr) : (lf t pr pe po pq).lookup ("round_orders" : Str) = some (.ref po) := by
  unfold lf
  rw [lookup_putF, if_neg (by decide +kernel), lookup_putF, if_pos rfl]
theorem lf_eo (t : Str) (pr pe po pq : Addr) : (lf t pr pe po pq).lookup ("ending_orders" : Str) = some (.ref pq) := by
  unfold lf
  rw [lookup_putF, if_pos rfl]
theorem lf_no (t : Str) (pr pe po pq : Addr) {m : Str} (h1 : ¬ m = "ending_orders") (h2 : ¬ m = "round_orders") (h3 : ¬ m = "ending") (h4 : ¬ m = "round") (h5 : ¬ m = "text") : (lf t pr pe po pq).lookup m = none := by
  unfold lf
  rw [lookup_putF, if_neg h1, lookup_putF, if_neg h2, lookup_putF, if_neg h3, lookup_putF, if_neg h4, lookup_putF, if_neg h5]
  rfl
/-- rows of pairs of texts -/
inductive Prs (H : Hp) : List V → List (Str × Str) → Prop
  | nil : Prs H [] []
  | cons {p : Addr} {o : Str × Str} {xs : List V} {os : List (Str × Str)} (h : H p = some (.tup [.str o.1, .str o.2])) (t : Prs H xs os) : Prs H (.ref p :: xs) (o :: os)
theorem Prs.mono {H H' : Hp} (f : ∀ (p : Addr) (xs : List V), H p = some (.tup xs) → H' p = some (.tup xs)) : ∀ {xs os}, Prs H xs os → Prs H' xs os
  | _, _, .nil => .nil
  | _, _, .cons h t => .cons (f _ _ h) (t.mono f)
theorem Prs.same {H H' : Hp} (s : Same H H') {xs os} (h : Prs H xs os) : Prs H' xs os := h.mono fun _ _ q => s _ _ q
theorem Prs.snoc {H : Hp} {p : Addr} {o : Str × Str} (h : H p = some (.tup [.str o.1, .str o.2])) : ∀ {xs os}, Prs H xs os → Prs H (xs ++ [.ref p]) (os ++ [o])
  | _, _, .nil => .cons h .nil
  | _, _, .cons a t => .cons a (t.snoc h)
theorem Prs.len {H : Hp} : ∀ {xs os}, Prs H xs os → xs.length = os.length
  | _, _, .nil => rfl
  | _, _, .cons _ t => congrArg (· + 1) t.len
def Ords (H : Hp) (p : Addr) (ws : List Str) : Prop := ∃ xs, H p = some (.tup xs) ∧ Prs H xs (ws.map orderOf)
/-- a loop of this text stands at o -/
def LoopAt (C : Addr) (H : Hp) (o : Addr) (t : Str) : Prop := ∃ dx pr pe po pq, H o = some (.ins C dx (lf t pr pe po pq)) ∧ H pr = some (.tup (svs (wordsR t))) ∧ H pe = some (.tup (svs (wordsE t))) ∧ Ords H po (wordsR t) ∧ Ords H pq (wordsE t)
theorem Ords.mono {H H' : Hp} (f : ∀ (p : Addr) (xs : List V), H p = some (.tup xs) → H' p = some (.tup xs)) {p : Addr} {ws : List Str} (h : Ords H p ws) : Ords H' p ws := let ⟨xs, e, q⟩ := h; ⟨xs, f _ _ e, q.mono f⟩
theorem LoopAt.same {C : Addr} {H H' : Hp} {o : Addr} {t : Str} (s : Same H H') (h : LoopAt C H o t) : LoopAt C H' o t := let ⟨dx, pr, pe, po, pq, a, b, c, d, e⟩ := h; ⟨dx, pr, pe, po, pq, s _ _ a, s _ _ b, s _ _ c, d.mono fun _ _ z => s _ _ z, e.mono fun _ _ z => s _ _ z⟩
theorem LoopAt.off {C j : Addr} {H H' : Hp} {o : Addr} {t : Str} (s : Off j H H') (hj : Jar H j) (h : LoopAt C H o t) : LoopAt C H' o t := by
  obtain ⟨x, y, z, hj⟩ := hj
  have f : ∀ (p : Addr) (xs : List V), H p = some (.tup xs) → H' p = some (.tup xs) := fun p xs e => s _ _ (ne_of e hj (by intro z; cases z)) e
  obtain ⟨dx, pr, pe, po, pq, a, b, c, d, e⟩ := h
  exact ⟨dx, pr, pe, po, pq, s _ _ (ne_of a hj (by intro z; cases z)) a, f _ _ b, f _ _ c, d.mono f, e.mono f⟩
/-! ### the text of the class -/
structure TxC (K : PySem.W.Frag) (mg : Str → Option Value) where
  L : TxL K mg
  E : TxE K mg
  isi : mg "isinstance" = none
  str : mg "str" = none
  C : Addr
  gC : mg "Loop" = some (.ref C)
  cl : Cls K C
  nT : NoAttr K C "text"
  nR : NoAttr K C "round"
  nE : NoAttr K C "ending"
  nO : NoAttr K C "round_orders"
  nQ : NoAttr K C "ending_orders"
  fI : Addr
  fdI : FuncData
  FI : Fun K "__init__" "Loop.__init__" sLI fI fdI
  bI : Binds K fdI ["self", "text"] []
  MI : Mk K C fI
/-- v makes a loop -/
def good : V → Bool
  | .str t => goodText t
  | _ => false
def BdV : V → Prop
  | .str t => Bd t
  | _ => True
def spLI (K : PySem.W.Frag) (C CE : Addr) : Sp := fun vs H Q E => ∃ (x dx : Addr) (v : V), vs = [.ref x, v] ∧ H x = some (.ins C dx []) ∧ Typed K H v ∧ BdV v ∧
  (∀ t, v = .str t → goodText t = true → ∀ H' : Hp, Off x H H' → LoopAt C H' x t → Q .non H') ∧
  (good v = false → ∀ (H' : Hp) (d : Addr), Same H H' → H' d = none → E (.ref CE) (some d) (upd H' d (.xd [("value", v)])))
theorem scLI : FnScope ["self", "text", "first_words", "last_words", "word"] ["self", "text"] (defScope sLI) := ⟨rfl, rfl, rfl, by decide +kernel, rfl, by decide +kernel, by decide +kernel⟩
/-- [order_of(word) for word in words] -/
theorem ords_lc {K : PySem.W.Frag} {σ : St} {H1 : Hp} {D a : Addr} {ws : List Str} {Qd : Hp → Prop} (h4 : ∀ v, ((wipe σ [4]).set 4 (some v))[4]? = some (some v) ∧ wipe ((wipe σ [4]).set 4 (some v)) [4] = wipe σ [4])
    (ha : H1 a = some (.tup (svs ws))) (bd : BdW ws) (nD : H1 D = none) (hd : ∀ (H' : Hp) (xs : List V), Same H1 H' → H' D = some (.lst xs) → Prs H' xs (ws.map orderOf) → Qd H') :
    ∃ W : Nat → Nat → Hp → Prop, (∃ m, W 0 m (upd H1 D (.lst []))) ∧ ∀ (i m : Nat) (H : Hp), W i m H →
      ((Itt K a).stop i H ∧ Qd H) ∨ ((Itt K a).go i H ∧ ∃ Nx : Hp → Prop, (∀ H', Nx H' → ∃ m', m' < m ∧ W (i + 1) m' H') ∧ ∀ (x : V) (H' : Hp), (Itt K a).yld i H x H' → gName 4 x (wipe σ [4]) H' fun σ2 H2 => wipe σ2 [4] = wipe σ [4] ∧ tYes σ2 H2 fun b H3 =>
        if b = true then tCall spOO [] E0 (tCons (tVar 4) tNil) σ2 H3 fun y H4 => ∃ acc, H4 D = some (.lst acc) ∧ acc.length < sizeLine ∧ Nx (upd H4 D (.lst (acc ++ [y]))) else Nx H3) := by
  refine lc_tup (K := K) (a := a) (xs := svs ws) (fun i H' => Same H1 H' ∧ ∃ acc, H' D = some (.lst acc) ∧ Prs H' acc ((ws.take i).map orderOf)) ⟨same_new nD, [], upd_same, .nil⟩ (fun i H' _ ⟨s, _⟩ => SqT.of (s _ _ ha)) ?_ ?_
  · rintro i x H' hx ⟨s, acc, hD, hP⟩
    obtain ⟨z, hz, rfl⟩ := svs_get hx
    obtain ⟨z4, zw⟩ := h4 (.str z)
    refine ⟨zw, _, z4, z, rfl, bd.1 z (List.mem_of_getElem? hz), fun H2 p s2 np hp => ?_⟩
    have hD2 := s2 _ _ hD
    have st := tup_stays (o' := .lst (acc ++ [.ref p])) hD2 (by intro xs z; cases z)
    have la := hP.len
    rw [List.length_map, List.length_take] at la
    have := bd.2
    refine ⟨acc, hD2, szM (by omega), fun b o q => ?_, _, upd_same, ?_⟩
    · rw [upd_ne (ne_of_none q nD)]
      exact s2 _ _ (s _ _ q)
    · rw [take_snoc hz, List.map_append]
      exact Prs.snoc (st _ _ hp) ((hP.same s2).mono st)
  · rintro H' ⟨s, acc, hD, hP⟩
    have e : (svs ws).length = ws.length := List.length_map ..
    rw [e, List.take_length] at hP
    exact hd H' acc s hD hP
theorem ok_li (T : TxC K mg) : FnOk P w K mg base (L2.CX P w) 4 T.fI T.fdI ["self", "text"] (spLI K T.C T.E.C) := by
  have GW : FnOk P w K mg base CX0 1 T.L.wo.f T.L.wo.fd ["text"] spWO := ok_wo T.L
  have GO : FnOk P w K mg base CX0 1 T.L.oo.f T.L.oo.fd ["word"] spOO := ok_oo T.L
  have GR : FnOk P w K mg base CX0 3 T.L.ir.f T.L.ir.fd ["words"] (spIR K) := ok_ir T.L
  have GN : FnOk P w K mg base CX0 3 T.L.ie.f T.L.ie.fd ["words"] (spIE K) := ok_ie T.L
  have GE : FnOk P w K mg base CX0 1 T.E.f T.E.fd ["self", "value"] (spEI T.E.C) := ok_ei T.E
  refine T.FI.okX scLI (fun vs H Q E h => ?_) (fun cdv A outer s H vs Q E hr h => ?_)
  · obtain ⟨x, dx, v, rfl, _⟩ := h
    rfl
  · obtain ⟨x, dx, v, rfl, hx, ⟨t, ty, kt⟩, bd, kg, kb⟩ := h
    have hr1 : Room 1 _ := hr.mono (by decide)
    have hr2 : Room 2 _ := hr.mono (by decide)
    have ps : Bool := true
    refine ⟨_, pss_cons (ps_if (pt_not (pt_val (pe_callB call_isi (by rfl) T.isi (by decide +kernel) (pa_cons (pv 1) (pa_cons (pe_bltn (v := .ty "str") (by rfl) T.str (by decide +kernel) rfl) pa_nil))))) (pss_one (ps_raise rfl (takes_of rfl rfl rfl rfl) (pmk_oex T.E.o T.E.i T.E.t GE hr2 T.E.b .nil pass0 rfl T.E.g (pa_cons (pv 1) pa_nil)))) pss_nil)
      (pss_cons (ps_asg (pe_call GW hr1 rfl T.L.wo.g T.L.wo.k T.L.wo.b .nil pass0 (pa_cons (pv 1) pa_nil)) (pg_tup rfl (pgs_cons (pg_name (i := 2) scLI.nd rfl (.inl rfl)) (pgs_cons (pg_name (i := 3) scLI.nd rfl (.inl rfl)) pgs_nil))))
      (pss_cons (ps_if (PW.pt (pw_or (pt_not (pt_val (pe_call GR hr rfl T.L.ir.g T.L.ir.k T.L.ir.b .nil pass0 (pa_cons (pv 2) pa_nil)))) (pw_or1 (pt_not (pt_val (pe_call GN hr rfl T.L.ie.g T.L.ie.k T.L.ie.b .nil pass0 (pa_cons (pv 3) pa_nil)))))))
          (pss_one (ps_raise rfl (takes_of rfl rfl rfl rfl) (pmk_oex T.E.o T.E.i T.E.t GE hr2 T.E.b .nil pass0 rfl T.E.g (pa_cons (pv 1) pa_nil)))) pss_nil)
      (pss_cons (ps_fld (pv 0) (pv 1) rfl) (pss_cons (ps_fld (pv 0) (pv 2) rfl) (pss_cons (ps_fld (pv 0) (pv 3) rfl)
      (pss_cons (ps_fld (pv 0) (pe_callTy call_tuple_of (by rfl) T.L.tuple (by decide +kernel) (pa_cons (pe_lc (own := [("word", 4)]) (g := gName 4) (tt := tYes) (te := tCall spOO [] E0 (tCons (tVar 4) tNil)) rfl scLI.nd (pi_tup (pv 2)) (blkOk_by (own := [("word", 4)]) (N := ["self", "text", "first_words", "last_words", "word"]) (sc := defScope sLI) (by decide +kernel))
          (fun _ _ _ _ _ => pg_name (i := 4) scLI.nd rfl (Or.inl rfl)) (fun _ _ _ _ _ => pts_nil) (fun _ _ _ _ _ => by exact pe_call GO hr1 rfl T.L.oo.g T.L.oo.k T.L.oo.b .nil pass0 (pa_cons (pv 4) pa_nil))) pa_nil)) rfl)
      (pss_one (ps_fld (pv 0) (pe_callTy call_tuple_of (by rfl) T.L.tuple (by decide +kernel) (pa_cons (pe_lc (own := [("word", 4)]) (g := gName 4) (tt := tYes) (te := tCall spOO [] E0 (tCons (tVar 4) tNil)) rfl scLI.nd (pi_tup (pv 3)) (blkOk_by (own := [("word", 4)]) (N := ["self", "text", "first_words", "last_words", "word"]) (sc := defScope sLI) (by decide +kernel))
          (fun _ _ _ _ _ => pg_name (i := 4) scLI.nd rfl (Or.inl rfl)) (fun _ _ _ _ _ => pts_nil) (fun _ _ _ _ _ => by exact pe_call GO hr1 rfl T.L.oo.g T.L.oo.k T.L.oo.b .nil pass0 (pa_cons (pv 4) pa_nil))) pa_nil)) rfl)))))))), ?_⟩
    refine ⟨_, rfl, _, _, _, _, isS v, rfl, .ty "str", ty, kt, _, rfl, ?_⟩
    cases hs : isS v with
    | false =>
      refine iteT ?_
      have gv : good v = false := by
        cases v <;> first | rfl | cases hs
      exact mk_err (x := v) ⟨v, rfl, rfl, rfl⟩ (fun {R R'} ⟨v, e1, q⟩ f => ⟨v, e1, f _ _ q⟩) (kb gv H · (Same.refl _))
    | true =>
      obtain ⟨t, rfl⟩ : ∃ t, v = .str t := by
        cases v <;> first | exact ⟨_, rfl⟩ | cases hs
      have bd : Bd t := bd
      have kg := kg t rfl
      refine iteF ?_
      refine ⟨_, rfl, t, rfl, bd, fun H1 p a b s1 hp ha hb => ?_⟩
      refine ⟨p, _, rfl, SqT.of hp, rfl, _, _, rfl, _, _, rfl, rfl, ?_⟩
      have bR : BdW (wordsR t) := ⟨fun z hz => Nat.le_trans (wordsR_word hz) bd, Nat.le_trans (wordsR_len t) (by unfold Bd at bd; omega)⟩
      have bE : BdW (wordsE t) := ⟨fun z hz => Nat.le_trans (wordsE_word hz) bd, Nat.le_trans (wordsE_len t) (by unfold Bd at bd; omega)⟩
      refine ⟨_, rfl, a, wordsR t, rfl, wordsR_ne t, bR, SqT.of ha, fun H2 s2 => ?_⟩
      have gt : goodText t = (isRound (wordsR t) && isEnding (wordsE t)) := rfl
      have gv : good (.str t) = goodText t := rfl
      rw [gv] at kb
      refine ⟨_, rfl, ?_⟩
      cases h1 : isRound (wordsR t) with
      | false =>
        rw [gt, h1] at kb
        refine iteT (iteT ?_)
        exact mk_err (x := .str t) ⟨.str t, rfl, rfl, rfl⟩ (fun {R R'} ⟨v, e1, q⟩ f => ⟨v, e1, f _ _ q⟩) (kb rfl H2 · (Same.trans s1 s2))
      | true =>
        refine iteF ?_
        refine ⟨_, rfl, b, wordsE t, rfl, bE, SqT.of (s2 _ _ hb), fun H3 s3 => ?_⟩
        refine ⟨_, rfl, ?_⟩
        have s13 := Same.trans s1 (Same.trans s2 s3)
        cases h2 : isEnding (wordsE t) with
        | false =>
          rw [gt, h1, h2] at kb
          refine iteT ?_
          exact mk_err (x := .str t) ⟨.str t, rfl, rfl, rfl⟩ (fun {R R'} ⟨v, e1, q⟩ f => ⟨v, e1, f _ _ q⟩) (kb rfl H3 · s13)
        | true =>
          have kg := kg (by rw [gt, h1, h2]; rfl)
          refine iteF ?_
          have hx3 := s13 _ _ hx
          have ha3 := s3 _ _ (s2 _ _ ha)
          have hb3 := s3 _ _ (s2 _ _ hb)
          have o3 : Off x H H3 := Same.off s13
          clear s1 s2 s3 hp ha hb hx kb s13
          -- text
          refine ⟨_, rfl, _, rfl, x, T.C, dx, _, rfl, hx3, T.cl, T.nT, (by show 0 < 1000; decide), ?_⟩
          have st := tup_stays (o' := .ins T.C dx (putF "text" (.str t) [])) hx3 (by intro xs z; cases z)
          have hx4 : (upd H3 x (.ins T.C dx (putF "text" (.str t) []))) x = some (.ins T.C dx (putF "text" (.str t) [])) := upd_same
          have ha4 := st _ _ ha3
          have hb4 := st _ _ hb3
          have o4 : Off x H (upd H3 x (.ins T.C dx (putF "text" (.str t) []))) := o3.put
          generalize upd H3 x (.ins T.C dx (putF "text" (.str t) [])) = H4 at hx4 ha4 hb4 o4 ⊢
          clear st ha3 hb3 o3 hx3
          -- round
          refine ⟨_, rfl, _, rfl, x, T.C, dx, _, rfl, hx4, T.cl, T.nR, (by show 1 < 1000; decide), ?_⟩
          have st := tup_stays (o' := .ins T.C dx (putF "round" (.ref a) (putF "text" (.str t) []))) hx4 (by intro xs z; cases z)
          have hx5 : (upd H4 x (.ins T.C dx (putF "round" (.ref a) (putF "text" (.str t) [])))) x = some (.ins T.C dx (putF "round" (.ref a) (putF "text" (.str t) []))) := upd_same
          have ha5 := st _ _ ha4
          have hb5 := st _ _ hb4
          have o5 : Off x H (upd H4 x (.ins T.C dx (putF "round" (.ref a) (putF "text" (.str t) [])))) := o4.put
          generalize upd H4 x (.ins T.C dx (putF "round" (.ref a) (putF "text" (.str t) []))) = H5 at hx5 ha5 hb5 o5 ⊢
          clear st ha4 hb4 o4 hx4
          -- ending
          refine ⟨_, rfl, _, rfl, x, T.C, dx, _, rfl, hx5, T.cl, T.nE, Nat.lt_of_le_of_lt (putF_len _ _ _) (Nat.lt_of_le_of_lt (Nat.add_le_add_right (putF_len _ _ _) 1) (by decide)), ?_⟩
          have st := tup_stays (o' := .ins T.C dx (putF "ending" (.ref b) (putF "round" (.ref a) (putF "text" (.str t) [])))) hx5 (by intro xs z; cases z)
          have hx6 : (upd H5 x (.ins T.C dx (putF "ending" (.ref b) (putF "round" (.ref a) (putF "text" (.str t) []))))) x = some (.ins T.C dx (putF "ending" (.ref b) (putF "round" (.ref a) (putF "text" (.str t) [])))) := upd_same
          have ha6 := st _ _ ha5
          have hb6 := st _ _ hb5
          have o6 : Off x H (upd H5 x (.ins T.C dx (putF "ending" (.ref b) (putF "round" (.ref a) (putF "text" (.str t) []))))) := o5.put
          generalize upd H5 x (.ins T.C dx (putF "ending" (.ref b) (putF "round" (.ref a) (putF "text" (.str t) [])))) = H6 at hx6 ha6 hb6 o6 ⊢
          clear st ha5 hb5 o5 hx5
          -- round_orders
          refine ⟨_, rfl, a, rfl, ⟨_, SqT.of ha6⟩, fun D nD => ords_lc (K := K) (a := a) (ws := wordsR t) (fun v => ⟨rfl, rfl⟩) ha6 bR nD fun H7 os s7 hD hP => ?_⟩
          refine ⟨D, os, rfl, .inl ⟨SqL.of hD, fun po npo => ?_⟩⟩
          have s8 : Same H6 (upd H7 po (.tup os)) := Same.trans s7 (same_new npo)
          have hpo : (upd H7 po (.tup os)) po = some (.tup os) := upd_same
          have hP8 := hP.same (same_new (o := .tup os) npo)
          refine ⟨_, rfl, x, T.C, dx, _, rfl, s8 _ _ hx6, T.cl, T.nO, Nat.lt_of_le_of_lt (putF_len _ _ _) (Nat.lt_of_le_of_lt (Nat.add_le_add_right (putF_len _ _ _) 1) (Nat.lt_of_le_of_lt (Nat.add_le_add_right (Nat.add_le_add_right (putF_len _ _ _) 1) 1) (by decide))), ?_⟩
          generalize upd H7 po (.tup os) = H8 at s8 hpo hP8 ⊢
          have hx8 := s8 _ _ hx6
          have o8 : Off x H H8 := o6.trans (Same.off s8)
          have ha8 := s8 _ _ ha6
          have hb8 := s8 _ _ hb6
          clear ha6 hb6 o6 hx6 s8 hD hP npo s7 nD
          have st := tup_stays (o' := .ins T.C dx (putF "round_orders" (.ref po) (putF "ending" (.ref b) (putF "round" (.ref a) (putF "text" (.str t) []))))) hx8 (by intro xs z; cases z)
          have hx9 : (upd H8 x (.ins T.C dx (putF "round_orders" (.ref po) (putF "ending" (.ref b) (putF "round" (.ref a) (putF "text" (.str t) [])))))) x = some (.ins T.C dx (putF "round_orders" (.ref po) (putF "ending" (.ref b) (putF "round" (.ref a) (putF "text" (.str t) []))))) := upd_same
          have ha9 := st _ _ ha8
          have hb9 := st _ _ hb8
          have hpo9 : Ords _ po (wordsR t) := ⟨os, st _ _ hpo, hP8.mono st⟩
          have o9 : Off x H (upd H8 x (.ins T.C dx (putF "round_orders" (.ref po) (putF "ending" (.ref b) (putF "round" (.ref a) (putF "text" (.str t) [])))))) := o8.put
          generalize upd H8 x (.ins T.C dx (putF "round_orders" (.ref po) (putF "ending" (.ref b) (putF "round" (.ref a) (putF "text" (.str t) []))))) = H9 at hx9 ha9 hb9 o9 hpo9 ⊢
          clear st ha8 hb8 o8 hx8 hpo hP8
          -- ending_orders
          refine ⟨_, rfl, b, rfl, ⟨_, SqT.of hb9⟩, fun D nD => ords_lc (K := K) (a := b) (ws := wordsE t) (fun v => ⟨rfl, rfl⟩) hb9 bE nD fun H10 os2 s10 hD hP => ?_⟩
          refine ⟨D, os2, rfl, .inl ⟨SqL.of hD, fun pq npq => ?_⟩⟩
          have s11 : Same H9 (upd H10 pq (.tup os2)) := Same.trans s10 (same_new npq)
          have hpq : (upd H10 pq (.tup os2)) pq = some (.tup os2) := upd_same
          have hP11 := hP.same (same_new (o := .tup os2) npq)
          refine ⟨_, rfl, x, T.C, dx, _, rfl, s11 _ _ hx9, T.cl, T.nQ, Nat.lt_of_le_of_lt (putF_len _ _ _) (Nat.lt_of_le_of_lt (Nat.add_le_add_right (putF_len _ _ _) 1) (Nat.lt_of_le_of_lt (Nat.add_le_add_right (Nat.add_le_add_right (putF_len _ _ _) 1) 1) (Nat.lt_of_le_of_lt (Nat.add_le_add_right (Nat.add_le_add_right (Nat.add_le_add_right (putF_len _ _ _) 1) 1) 1) (by decide)))), ?_⟩
          generalize upd H10 pq (.tup os2) = H11 at s11 hpq hP11 ⊢
          have hx11 := s11 _ _ hx9
          have st := tup_stays (o' := .ins T.C dx (lf t a b po pq)) hx11 (by intro xs z; cases z)
          refine kg _ (Off.put (o9.trans (Same.off s11))) ⟨dx, a, b, po, pq, upd_same, st _ _ (s11 _ _ ha9), st _ _ (s11 _ _ hb9), (hpo9.mono fun _ _ z => s11 _ _ z).mono st, os2, st _ _ hpq, hP11.mono st⟩
end
end My

/-! what a loop does with a reply -/
namespace EM
open PySem L2
def ivs (xs : List Int) : List V := xs.map V.int
theorem ivs_len (xs : List Int) : (ivs xs).length = xs.length := List.length_map ..
/-- what the words of a round change -/
structure RP where
  rest : List Int
  pieces : List (List Int)
def passM (size : Nat) (held : List Int) (told : Bool) (t : Str) (rest : List Int) : Bool :=
  if t = "" then true
  else if t = "told" ∨ t = "open" then told == decide (t = "told")
  else if t = "rest" ∨ t = "bare" then decide (0 < rest.length) == decide (t = "rest")
  else if t = "empty" ∨ t = "some" then decide (0 < held.length) == decide (t = "some")
  else decide (held.length < size) == decide (t = "short")
def cutN (size : Nat) (rest : List Int) (n : Nat) : List (List Int) := (List.range n).map fun k => (rest.drop (k * size)).take size
def perfM (size : Nat) (held : List Int) (s : Str) (x : RP) : RP :=
  if s = "add" then ⟨x.rest ++ held, x.pieces⟩
  else if s = "hand" then ⟨x.rest, x.pieces ++ [held]⟩
  else if s = "cut" then ⟨x.rest.drop (x.rest.length / size * size), x.pieces ++ cutN size x.rest (x.rest.length / size)⟩
  else if s = "flush" then ⟨[], x.pieces ++ [x.rest]⟩
  else x
def runW (size : Nat) (held : List Int) (told : Bool) : List (Str × Str) → RP → RP × Bool
  | [], x => (x, false)
  | (t, s) :: r, x => if passM size held told t x.rest = true then (if s = "again" then (x, false) else if s = "stop" then (x, true) else runW size held told r (perfM size held s x)) else runW size held told r x
def endW (size : Nat) (held : List Int) (told : Bool) : List (Str × Str) → RP → RP
  | [], x => x
  | (t, s) :: r, x => endW size held told r (if passM size held told t x.rest = true then perfM size held s x else x)
def ansM (size : Nat) (ro eo : List (Str × Str)) (held : List Int) (told : Bool) (x : RP) : RP × Bool :=
  if (runW size held told ro x).2 = true then (endW size held told eo (runW size held told ro x).1, true) else ((runW size held told ro x).1, false)
/-! ### bounds -/
/-- the rest has at most k sizes of items, and there are at most c pieces -/
def Few (size k c : Nat) (x : RP) : Prop := x.rest.length ≤ k * size ∧ x.pieces.length ≤ c
theorem Few.mono {size k c k' c' : Nat} {x : RP} (h : Few size k c x) (hk : k ≤ k') (hc : c ≤ c') : Few size k' c' x := ⟨Nat.le_trans h.1 (Nat.mul_le_mul_right _ hk), Nat.le_trans h.2 hc⟩
theorem few_perf {size k c : Nat} {held : List Int} {s : Str} {x : RP} (hs : 1 ≤ size) (hh : held.length ≤ size) (h : Few size k c x) : Few size (k + 1) (c + (k + 1)) (perfM size held s x) := by
  have e : (k + 1) * size = k * size + size := Nat.succ_mul k size
  have q : x.rest.length / size ≤ k := by
    have := Nat.div_le_div_right (c := size) h.1
    rwa [Nat.mul_div_cancel _ (by omega)] at this
  obtain ⟨h1, h2⟩ := h
  unfold perfM Few
  split
  · refine ⟨?_, by show x.pieces.length ≤ _; omega⟩
    show (x.rest ++ held).length ≤ _
    rw [List.length_append]
    omega
  · split
    · refine ⟨by show x.rest.length ≤ _; omega, ?_⟩
      show (x.pieces ++ [held]).length ≤ _
      rw [List.length_append]
      show x.pieces.length + 1 ≤ _
      omega
    · split
      · refine ⟨?_, ?_⟩
        · show (x.rest.drop _).length ≤ _
          rw [List.length_drop]
          omega
        · show (x.pieces ++ cutN size x.rest (x.rest.length / size)).length ≤ _
          rw [List.length_append, cutN, List.length_map, List.length_range]
          omega
      · split
        · refine ⟨Nat.zero_le _, ?_⟩
          show (x.pieces ++ [x.rest]).length ≤ _
          rw [List.length_append]
          show x.pieces.length + 1 ≤ _
          omega
        · exact ⟨by omega, by omega⟩
theorem few_run {size : Nat} {held : List Int} {told : Bool} (hs : 1 ≤ size) (hh : held.length ≤ size) : ∀ (ro : List (Str × Str)) (k c : Nat) (x : RP), Few size k c x → Few size (k + ro.length) (c + ro.length * (k + ro.length)) (runW size held told ro x).1
  | [], k, c, x, h => by simpa [runW] using h
  | (t, s) :: r, k, c, x, h => by
    have m : Few size (k + (r.length + 1)) (c + (r.length + 1) * (k + (r.length + 1))) x := h.mono (by omega) (by omega)
    unfold runW
    rw [List.length_cons]
    split
    · split
      · exact m
      · split
        · exact m
        · have ih := few_run (told := told) hs hh r (k + 1) (c + (k + 1)) _ (few_perf (s := s) hs hh h)
          refine ih.mono (by omega) ?_
          rw [Nat.succ_mul]
          have e1 : k + 1 + r.length = k + (r.length + 1) := by omega
          rw [e1]
          omega
    · have ih := few_run (told := told) hs hh r k c x h
      refine ih.mono (by omega) ?_
      have : r.length * (k + r.length) ≤ (r.length + 1) * (k + (r.length + 1)) := Nat.mul_le_mul (by omega) (by omega)
      omega
theorem few_end {size : Nat} {held : List Int} {told : Bool} (hs : 1 ≤ size) (hh : held.length ≤ size) : ∀ (eo : List (Str × Str)) (k c : Nat) (x : RP), Few size k c x → Few size (k + eo.length) (c + eo.length * (k + eo.length)) (endW size held told eo x)
  | [], k, c, x, h => by simpa [endW] using h
  | (t, s) :: r, k, c, x, h => by
    unfold endW
    rw [List.length_cons]
    have h2 : Few size (k + 1) (c + (k + 1)) (if passM size held told t x.rest = true then perfM size held s x else x) := by
      split
      · exact few_perf hs hh h
      · exact h.mono (by omega) (by omega)
    have ih := few_end (told := told) hs hh r (k + 1) (c + (k + 1)) _ h2
    refine ih.mono (by omega) ?_
    rw [Nat.succ_mul]
    have e1 : k + 1 + r.length = k + (r.length + 1) := by omega
    rw [e1]
    omega
/-- after one reply -/
theorem few_ans {size : Nat} {ro eo : List (Str × Str)} {held : List Int} {told : Bool} {k c : Nat} {x : RP} (hs : 1 ≤ size) (hh : held.length ≤ size) (l1 : ro.length ≤ 12) (l2 : eo.length ≤ 6) (h : Few size k c x) :
    Few size (k + 18) (c + 18 * (k + 18)) (ansM size ro eo held told x).1 := by
  have a := few_run (told := told) hs hh ro k c x h
  have a1 : Few size (k + 12) (c + 12 * (k + 12)) (runW size held told ro x).1 := a.mono (by omega) (Nat.add_le_add_left (Nat.mul_le_mul l1 (by omega)) _)
  unfold ansM
  split
  · have b := few_end (told := told) hs hh eo _ _ _ a1
    refine b.mono (by omega) ?_
    have : eo.length * (k + 12 + eo.length) ≤ 6 * (k + 18) := Nat.mul_le_mul l2 (by omega)
    omega
  · exact a1.mono (by omega) (by omega)
end EM

/-! the class Execution -/
namespace My
open PySem L2 Cm LM EM
abbrev sXI : Stmt := inClass (top 24) 0
abbrev sXA : Stmt := inClass (top 24) 1
abbrev sXF : Stmt := inClass (top 24) 3
abbrev sXP : Stmt := inClass (top 24) 4
abbrev sXR : Stmt := inClass (top 24) 5
abbrev sXC : Stmt := inClass (top 24) 6
/-! ### the data -/
def xf (ro eo : Addr) (ak sz : Nat) (h : Addr) (t : Bool) (r p : Addr) (st : Bool) : List (Str × V) := [("round_orders", .ref ro), ("ending_orders", .ref eo), ("size", .int sz), ("held", .ref h), ("told", .bl t), ("kept", .ref r), ("handed", .ref p), ("asked", .int ak), ("over", .bl st)]
section
variable (ro eo h r p h' : Addr) (ak ak' sz : Nat) (t st b : Bool)
theorem xf_ro : (xf ro eo ak sz h t r p st).lookup ("round_orders" : Str) = some (.ref ro) := by kernel_rfl
theorem xf_eo : (xf ro eo ak sz h t r p st).lookup ("ending_orders" : Str) = some (.ref eo) := by kernel_rfl
theorem xf_sz : (xf ro eo ak sz h t r p st).lookup ("size" : Str) = some (.int sz) := by kernel_rfl
theorem xf_h : (xf ro eo ak sz h t r p st).lookup ("held" : Str) = some (.ref h) := by kernel_rfl
theorem xf_t : (xf ro eo ak sz h t r p st).lookup ("told" : Str) = some (.bl t) := by kernel_rfl
theorem xf_r : (xf ro eo ak sz h t r p st).lookup ("kept" : Str) = some (.ref r) := by kernel_rfl
theorem xf_p : (xf ro eo ak sz h t r p st).lookup ("handed" : Str) = some (.ref p) := by kernel_rfl
theorem xf_st : (xf ro eo ak sz h t r p st).lookup ("over" : Str) = some (.bl st) := by kernel_rfl
theorem put_h : putF "held" (.ref h') (xf ro eo ak sz h t r p st) = xf ro eo ak sz h' t r p st := by kernel_rfl
theorem put_t : putF "told" (.bl b) (xf ro eo ak sz h t r p st) = xf ro eo ak sz h b r p st := by kernel_rfl
theorem put_r : putF "kept" (.ref h') (xf ro eo ak sz h t r p st) = xf ro eo ak sz h t h' p st := by kernel_rfl
theorem xf_ak : (xf ro eo ak sz h t r p st).lookup ("asked" : Str) = some (.int ak) := by kernel_rfl
theorem put_ak : putF "asked" (.int ak') (xf ro eo ak sz h t r p st) = xf ro eo ak' sz h t r p st := by kernel_rfl
theorem put_st : putF "over" (.bl b) (xf ro eo ak sz h t r p st) = xf ro eo ak sz h t r p b := by kernel_rfl
theorem xf_mk : putF "over" (.bl st) (putF "asked" (.int ak) (putF "handed" (.ref p) (putF "kept" (.ref r) (putF "told" (.bl t) (putF "held" (.ref h) (putF "size" (.int sz) (putF "ending_orders" (.ref eo) (putF "round_orders" (.ref ro) [])))))))) = xf ro eo ak sz h t r p st := by kernel_rfl
theorem xf_len : (xf ro eo ak sz h t r p st).length = 9 := rfl
theorem xf_noA : (xf ro eo ak sz h t r p st).lookup ("answer" : Str) = none ∧ (xf ro eo ak sz h t r p st).lookup ("finish" : Str) = none ∧ (xf ro eo ak sz h t r p st).lookup ("passes" : Str) = none ∧ (xf ro eo ak sz h t r p st).lookup ("perform" : Str) = none ∧ (xf ro eo ak sz h t r p st).lookup ("cut_off" : Str) = none ∧ (xf ro eo ak sz h t r p st).lookup ("answer_nothing" : Str) = none := ⟨by kernel_rfl, by kernel_rfl, by kernel_rfl, by kernel_rfl, by kernel_rfl, by kernel_rfl⟩
end
/-- rows of pieces -/
inductive Pcs (H : Hp) : List V → List (List Int) → Prop
  | nil : Pcs H [] []
  | cons {q : Addr} {x : List Int} {vs : List V} {xs : List (List Int)} (h : H q = some (.tup (ivs x))) (t : Pcs H vs xs) : Pcs H (.ref q :: vs) (x :: xs)
theorem Pcs.mono {H H' : Hp} (f : ∀ (p : Addr) (xs : List V), H p = some (.tup xs) → H' p = some (.tup xs)) : ∀ {vs xs}, Pcs H vs xs → Pcs H' vs xs
  | _, _, .nil => .nil
  | _, _, .cons h t => .cons (f _ _ h) (t.mono f)
theorem Pcs.snoc {H : Hp} {q : Addr} {x : List Int} (h : H q = some (.tup (ivs x))) : ∀ {vs xs}, Pcs H vs xs → Pcs H (vs ++ [.ref q]) (xs ++ [x])
  | _, _, .nil => .cons h .nil
  | _, _, .cons a t => .cons a (t.snoc h)
theorem Pcs.len {H : Hp} : ∀ {vs xs}, Pcs H vs xs → vs.length = xs.length
  | _, _, .nil => rfl
  | _, _, .cons _ t => congrArg (· + 1) t.len
/-- tuples stay -/
def TS (H H' : Hp) : Prop := ∀ (p : Addr) (xs : List V), H p = some (.tup xs) → H' p = some (.tup xs)
theorem TS.refl {H : Hp} : TS H H := fun _ _ e => e
theorem TS.trans {H H1 H2 : Hp} (a : TS H H1) (b : TS H1 H2) : TS H H2 := fun p xs e => b p xs (a p xs e)
theorem Same.ts {H H' : Hp} (s : Same H H') : TS H H' := fun _ _ e => s _ _ e
/-- an execution stands at o, its pieces at p -/
structure ExAt (C : Addr) (H : Hp) (o dx ro eo p : Addr) (ak sz : Nat) (held : List Int) (told : Bool) (x : RP) (st : Bool) : Prop where
  ex : ∃ h r vs, H o = some (.ins C dx (xf ro eo ak sz h told r p st)) ∧ H h = some (.tup (ivs held)) ∧ H r = some (.tup (ivs x.rest)) ∧ H p = some (.lst vs) ∧ Pcs H vs x.pieces
theorem ExAt.same {C : Addr} {H H' : Hp} {o dx ro eo p : Addr} {ak sz : Nat} {held : List Int} {told : Bool} {x : RP} {st : Bool} (s : Same H H') (h : ExAt C H o dx ro eo p ak sz held told x st) : ExAt C H' o dx ro eo p ak sz held told x st := by
  obtain ⟨h', r, vs, a, b, c, d, e⟩ := h.ex
  exact ⟨h', r, vs, s _ _ a, s _ _ b, s _ _ c, s _ _ d, e.mono fun _ _ q => s _ _ q⟩
/-- all but what stands at o and at p is as it was -/
def Off2 (o p : Addr) (H H' : Hp) : Prop := ∀ b u, b ≠ o → b ≠ p → H b = some u → H' b = some u
theorem Off2.refl {o p : Addr} {H : Hp} : Off2 o p H H := fun _ _ _ _ e => e
theorem Off2.trans {o p : Addr} {H H1 H2 : Hp} (a : Off2 o p H H1) (b : Off2 o p H1 H2) : Off2 o p H H2 := fun c u n m e => b c u n m (a c u n m e)
theorem Off2.same {o p : Addr} {H H1 H2 : Hp} (a : Off2 o p H H1) (s : Same H1 H2) : Off2 o p H H2 := fun c u n m e => s _ _ (a c u n m e)
theorem Off2.putO {o p : Addr} {H H1 : Hp} {u : HO} (a : Off2 o p H H1) : Off2 o p H (upd H1 o u) := fun c u n m e => by
  rw [upd_ne n]
  exact a c u n m e
theorem Off2.putP {o p : Addr} {H H1 : Hp} {u : HO} (a : Off2 o p H H1) : Off2 o p H (upd H1 p u) := fun c u n m e => by
  rw [upd_ne m]
  exact a c u n m e
structure TxX (K : PySem.W.Frag) (mg : Str → Option Value) where
  len : mg "len" = none
  range : mg "range" = none
  C : Addr
  gC : mg "Execution" = some (.ref C)
  cl : Cls K C
  nRo : NoAttr K C "round_orders"
  nEo : NoAttr K C "ending_orders"
  nSz : NoAttr K C "size"
  nH : NoAttr K C "held"
  nT : NoAttr K C "told"
  nR : NoAttr K C "kept"
  nP : NoAttr K C "handed"
  nA : NoAttr K C "asked"
  nSt : NoAttr K C "over"
  fI : Addr
  fdI : FuncData
  FI : Fun K "__init__" "Execution.__init__" sXI fI fdI
  bI : Binds K fdI ["self", "round_orders", "ending_orders", "size", "kept"] []
  MI : Mk K C fI
  an : Mt K C "answer" "Execution.answer" sXA ["self", "held", "told"]
  fi : Mt K C "finish" "Execution.finish" sXF ["self"]
  ps : Mt K C "passes" "Execution.passes" sXP ["self", "test"]
  pf : Mt K C "perform" "Execution.perform" sXR ["self", "step"]
  co : Mt K C "cut_off" "Execution.cut_off" sXC ["self"]
section
variable {P : Program} {w : World} {K : PySem.W.Frag} {mg : Str → Option Value} {base : Heap}
/-! ### __init__ -/
def spXI (C : Addr) : Sp := fun vs H Q _ => ∃ (o dx ro eo r : Addr) (sz : Nat) (rest : List Int), vs = [.ref o, .ref ro, .ref eo, .int sz, .ref r] ∧ H o = some (.ins C dx []) ∧ H r = some (.tup (ivs rest)) ∧
  ∀ (H' : Hp) (p : Addr), Off o H H' → H p = none → ExAt C H' o dx ro eo p 0 sz [] false ⟨rest, []⟩ false → Q .non H'
theorem scXI : FnScope ["self", "round_orders", "ending_orders", "size", "kept"] ["self", "round_orders", "ending_orders", "size", "kept"] (defScope sXI) := ⟨rfl, rfl, rfl, by decide +kernel, rfl, by decide +kernel, by decide +kernel⟩
theorem small8 {fs : List (Str × V)} (h : fs.length ≤ 8) : fs.length < 1000 := by omega
theorem putF8 {f : Str} {v : V} {fs : List (Str × V)} {n : Nat} (h : fs.length ≤ n) : (putF f v fs).length ≤ n + 1 := Nat.le_trans (putF_len f v fs) (by omega)
theorem ok_xi (T : TxX K mg) : FnOk P w K mg base CX0 1 T.fI T.fdI ["self", "round_orders", "ending_orders", "size", "kept"] (spXI T.C) := by
  refine T.FI.ok scXI (fun vs H Q E h => ?_) (fun cdv A outer s H vs Q E hr h => ?_)
  · obtain ⟨o, dx, ro, eo, r, sz, rest, rfl, _⟩ := h
    rfl
  · obtain ⟨o, dx, ro, eo, r, sz, rest, rfl, ho, hr', k⟩ := h
    refine ⟨_, pss_cons (ps_fld (pv 0) (pv 1) rfl) (pss_cons (ps_fld (pv 0) (pv 2) rfl) (pss_cons (ps_fld (pv 0) (pv 3) rfl) (pss_cons (ps_fld (pv 0) (pe_tup pa_nil) rfl) (pss_cons (ps_fld (pv 0) pe_bl rfl) (pss_cons (ps_fld (pv 0) (pv 4) rfl)
      (pss_cons (ps_fld (pv 0) (pe_lst pa_nil) rfl) (pss_cons (ps_fld (pv 0) pe_int rfl) (pss_one (ps_fld (pv 0) pe_bl rfl))))))))), ?_⟩
    have l0 : ([] : List (Str × V)).length ≤ 0 := Nat.le_refl _
    refine ⟨_, rfl, _, rfl, o, T.C, dx, _, rfl, ho, T.cl, T.nRo, by decide, ?_⟩
    refine ⟨_, rfl, _, rfl, o, T.C, dx, _, rfl, upd_same, T.cl, T.nEo, Nat.lt_of_le_of_lt (putF8 l0) (by decide), ?_⟩
    refine ⟨_, rfl, _, rfl, o, T.C, dx, _, rfl, upd_same, T.cl, T.nSz, Nat.lt_of_le_of_lt (putF8 (putF8 l0)) (by decide), ?_⟩
    refine ⟨Nat.zero_le _, fun h nh => ?_⟩
    have no : h ≠ o := fun z => by rw [z, upd_same] at nh; cases nh
    refine ⟨_, rfl, o, T.C, dx, _, rfl, (by rw [upd_ne no.symm]; exact upd_same), T.cl, T.nH, Nat.lt_of_le_of_lt (putF8 (putF8 (putF8 l0))) (by decide), ?_⟩
    refine ⟨_, rfl, o, T.C, dx, _, rfl, upd_same, T.cl, T.nT, Nat.lt_of_le_of_lt (putF8 (putF8 (putF8 (putF8 l0)))) (by decide), ?_⟩
    refine ⟨_, rfl, _, rfl, o, T.C, dx, _, rfl, upd_same, T.cl, T.nR, Nat.lt_of_le_of_lt (putF8 (putF8 (putF8 (putF8 (putF8 l0))))) (by decide), ?_⟩
    refine ⟨Nat.zero_le _, fun p np => ?_⟩
    have po : p ≠ o := fun z => by rw [z, upd_same] at np; cases np
    refine ⟨_, rfl, o, T.C, dx, _, rfl, (by rw [upd_ne po.symm]; exact upd_same), T.cl, T.nP, Nat.lt_of_le_of_lt (putF8 (putF8 (putF8 (putF8 (putF8 (putF8 l0)))))) (by decide), ?_⟩
    refine ⟨_, rfl, o, T.C, dx, _, rfl, upd_same, T.cl, T.nA, Nat.lt_of_le_of_lt (putF8 (putF8 (putF8 (putF8 (putF8 (putF8 (putF8 l0))))))) (by decide), ?_⟩
    refine ⟨_, rfl, o, T.C, dx, _, rfl, upd_same, T.cl, T.nSt, Nat.lt_of_le_of_lt (putF8 (putF8 (putF8 (putF8 (putF8 (putF8 (putF8 (putF8 l0)))))))) (by decide), ?_⟩
    rw [show V.int 0 = V.int ((0 : Nat) : Int) from rfl, xf_mk]
    rw [upd_ne po, upd_ne po, upd_ne po] at np
    have ph : p ≠ h := fun z => by rw [z, upd_same] at np; cases np
    rw [upd_ne ph, upd_ne po, upd_ne po, upd_ne po] at np
    rw [upd_ne no, upd_ne no, upd_ne no] at nh
    have r1 : r ≠ o := ne_of hr' ho (by intro z; cases z)
    have r2 : r ≠ h := ne_of_none hr' nh
    have r3 : r ≠ p := ne_of_none hr' np
    refine k _ p (fun b u nb e => ?_) np ⟨h, r, [], upd_same, ?_, ?_, ?_, .nil⟩
    · have b2 : b ≠ h := ne_of_none e nh
      have b3 : b ≠ p := ne_of_none e np
      rw [upd_ne nb, upd_ne nb, upd_ne nb, upd_ne b3, upd_ne nb, upd_ne nb, upd_ne nb, upd_ne b2, upd_ne nb, upd_ne nb, upd_ne nb]
      exact e
    · rw [upd_ne no, upd_ne no, upd_ne no, upd_ne ph.symm, upd_ne no, upd_ne no, upd_ne no, upd_same]
      rfl
    · rw [upd_ne r1, upd_ne r1, upd_ne r1, upd_ne r3, upd_ne r1, upd_ne r1, upd_ne r1, upd_ne r2, upd_ne r1, upd_ne r1, upd_ne r1]
      exact hr'
    · rw [upd_ne po, upd_ne po, upd_ne po, upd_same]
end
end My

namespace My
open PySem L2 Cm LM EM
theorem in2 (t a b : Str) : inV (.str t) [.str a, .str b] = decide (t = a ∨ t = b) := by
  have e : inV (.str t) [.str a, .str b] = decide (t ∈ [a, b]) := inV_svs t [a, b]
  rw [e]
  exact decide_eq_decide.mpr (by simp)
theorem rgC_up {q s : Nat} (hs : 1 ≤ s) (h1 : s ≤ 1000) (h2 : q * s ≤ 4000000) : RgC 0 ((q * s : Nat) : Int) (s : Int) q := by
  have sz : Builtin.Range.rangeSize 0 ((q * s : Nat) : Int) (s : Int) = (q : Int) := by
    rw [PyProof.Rows.rangeSize_pos (by omega) (by omega)]
    have e : ((q * s : Nat) : Int) + (s : Int) - 1 = ((s : Int) - 1) + (q : Int) * (s : Int) := by
      rw [Int.natCast_mul]
      omega
    rw [e, Int.add_mul_ediv_right _ _ (by omega), Int.ediv_eq_zero_of_lt (by omega) (by omega)]
    omega
  refine ⟨by omega, by omega, ?_, sz⟩
  have hq : q ≤ 4000000 := Nat.le_trans (Nat.le_mul_of_pos_right q hs) h2
  unfold Builtin.Range.small
  rw [sz]
  generalize q * s = m at h2 ⊢
  simp only [Builtin.Range.rangeFitsLong, Bool.and_eq_true, Bool.or_eq_true, decide_eq_true_eq, beq_iff_eq, show (s : Int) > 0 by omega, if_true]
  omega
section
variable {P : Program} {w : World} {K : PySem.W.Frag} {mg : Str → Option Value} {base : Heap}
/-! ### passes -/
def spXP (C : Addr) : Sp := fun vs H Q _ => ∃ (o dx ro eo p : Addr) (ak sz : Nat) (held : List Int) (told : Bool) (x : RP) (st : Bool) (t : Str), vs = [.ref o, .str t] ∧ ExAt C H o dx ro eo p ak sz held told x st ∧ ∀ H', Same H H' → Q (.bl (passM sz held told t x.rest)) H'
theorem scXP : FnScope ["self", "test"] ["self", "test"] (defScope sXP) := ⟨rfl, rfl, rfl, by decide +kernel, rfl, by decide +kernel, by decide +kernel⟩
theorem pos_dec (n : Nat) : decide ((n : Int) > 0) = decide (0 < n) := decide_eq_decide.mpr ⟨fun z => by omega, fun z => by omega⟩
theorem lt_dec (n m : Nat) : decide ((n : Int) < (m : Int)) = decide (n < m) := decide_eq_decide.mpr ⟨fun z => by omega, fun z => by omega⟩
theorem ok_xp (T : TxX K mg) : FnOk P w K mg base CX0 1 T.ps.f T.ps.fd ["self", "test"] (spXP T.C) := by
  refine T.ps.F.ok scXP (fun vs H Q E h => ?_) (fun cdv A outer s H vs Q E hr h => ?_)
  · obtain ⟨o, dx, ro, eo, p, ak, sz, held, told, x, st, t, rfl, _⟩ := h
    rfl
  · obtain ⟨o, dx, ro, eo, p, ak, sz, held, told, x, st, t, rfl, hX, k⟩ := h
    refine ⟨_, pss_cons (ps_if (pt_cmpR op_eq (pv 1) pe_str (nomark _)) (pss_one (ps_ret pe_bl)) pss_nil)
      (pss_cons (ps_if (pt_cmpR op_in_seq (pv 1) (pe_tup (pa_cons pe_str (pa_cons pe_str pa_nil))) (by rfl)) (pss_one (ps_ret (pe_cmpR op_eq (pe_fld (pv 0) rfl) (pe_cmpR op_eq (pv 1) pe_str (nomark _)) (nomark _)))) pss_nil)
      (pss_cons (ps_if (pt_cmpR op_in_seq (pv 1) (pe_tup (pa_cons pe_str (pa_cons pe_str pa_nil))) (by rfl)) (pss_one (ps_ret (pe_cmpR op_eq (pe_cmpR op_gt (pe_callB call_len_seq (by rfl) T.len PySem.boot_len (pa_cons (pe_fld (pv 0) rfl) pa_nil)) pe_int (nomark _)) (pe_cmpR op_eq (pv 1) pe_str (nomark _)) (nomark _)))) pss_nil)
      (pss_cons (ps_if (pt_cmpR op_in_seq (pv 1) (pe_tup (pa_cons pe_str (pa_cons pe_str pa_nil))) (by rfl)) (pss_one (ps_ret (pe_cmpR op_eq (pe_cmpR op_gt (pe_callB call_len_seq (by rfl) T.len PySem.boot_len (pa_cons (pe_fld (pv 0) rfl) pa_nil)) pe_int (nomark _)) (pe_cmpR op_eq (pv 1) pe_str (nomark _)) (nomark _)))) pss_nil)
      (pss_one (ps_ret (pe_cmpR op_eq (pe_cmpR op_lt (pe_callB call_len_seq (by rfl) T.len PySem.boot_len (pa_cons (pe_fld (pv 0) rfl) pa_nil)) (pe_fld (pv 0) rfl) (nomark _)) (pe_cmpR op_eq (pv 1) pe_str (nomark _)) (nomark _))))))), ?_⟩
    unfold passM at k
    refine ⟨_, rfl, rfl, _, rfl, ?_⟩
    rw [dS]
    by_cases h0 : t = ""
    · rw [decide_eq_true h0]
      rw [if_pos h0] at k
      exact iteT (k H (Same.refl _))
    rw [decide_eq_false h0]
    rw [if_neg h0] at k
    refine iteF ?_
    refine ⟨_, rfl, (by show 2 ≤ sizeLine; decide), fun t1 n1 => ⟨t1, _, rfl, .inr (SqT.of upd_same), rfl, rfl, _, rfl, ?_⟩⟩
    have s1 : Same H (upd H t1 (.tup [.str "told", .str "open"])) := same_new n1
    generalize upd H t1 (.tup [.str "told", .str "open"]) = H1 at s1 ⊢
    have X1 := hX.same s1
    obtain ⟨h, r, vs, eo1, hh1, hr1, hp1, _⟩ := id X1.ex
    rw [show (if false = true then !inV (V.str t) [V.str "told", V.str "open"] else inV (V.str t) [V.str "told", V.str "open"]) = decide (t = "told" ∨ t = "open") from in2 ..]
    by_cases h1 : t = "told" ∨ t = "open"
    · rw [decide_eq_true h1]
      rw [if_pos h1] at k
      refine iteT ⟨_, rfl, o, T.C, dx, _, _, rfl, eo1, T.cl, T.nT, xf_t .., _, rfl, rfl, rfl, ?_⟩
      rw [dS, dB]
      exact k H1 s1
    rw [decide_eq_false h1]
    rw [if_neg h1] at k
    refine iteF ?_
    refine ⟨_, rfl, (by show 2 ≤ sizeLine; decide), fun t2 n2 => ⟨t2, _, rfl, .inr (SqT.of upd_same), rfl, rfl, _, rfl, ?_⟩⟩
    have s2 : Same H (upd H1 t2 (.tup [.str "rest", .str "bare"])) := Same.trans s1 (same_new n2)
    generalize upd H1 t2 (.tup [.str "rest", .str "bare"]) = H2 at s2 ⊢
    have X2 := hX.same s2
    clear eo1 hh1 hr1 hp1 X1
    obtain ⟨h, r, vs, eo1, hh1, hr1, hp1, _⟩ := id X2.ex
    rw [show (if false = true then !inV (V.str t) [V.str "rest", V.str "bare"] else inV (V.str t) [V.str "rest", V.str "bare"]) = decide (t = "rest" ∨ t = "bare") from in2 ..]
    by_cases h2 : t = "rest" ∨ t = "bare"
    · rw [decide_eq_true h2]
      rw [if_pos h2] at k
      refine iteT ⟨_, rfl, o, T.C, dx, _, _, rfl, eo1, T.cl, T.nR, xf_r .., r, _, rfl, .inr (SqT.of hr1), _, _, rfl, rfl, _, rfl, rfl, rfl, ?_⟩
      rw [dS, dB, ivs_len, pos_dec]
      exact k H2 s2
    rw [decide_eq_false h2]
    rw [if_neg h2] at k
    refine iteF ?_
    refine ⟨_, rfl, (by show 2 ≤ sizeLine; decide), fun t3 n3 => ⟨t3, _, rfl, .inr (SqT.of upd_same), rfl, rfl, _, rfl, ?_⟩⟩
    have s3 : Same H (upd H2 t3 (.tup [.str "empty", .str "some"])) := Same.trans s2 (same_new n3)
    generalize upd H2 t3 (.tup [.str "empty", .str "some"]) = H3 at s3 ⊢
    have X3 := hX.same s3
    clear eo1 hh1 hr1 hp1 X2
    obtain ⟨h, r, vs, eo1, hh1, hr1, hp1, _⟩ := id X3.ex
    rw [show (if false = true then !inV (V.str t) [V.str "empty", V.str "some"] else inV (V.str t) [V.str "empty", V.str "some"]) = decide (t = "empty" ∨ t = "some") from in2 ..]
    by_cases h3 : t = "empty" ∨ t = "some"
    · rw [decide_eq_true h3]
      rw [if_pos h3] at k
      refine iteT ⟨_, rfl, o, T.C, dx, _, _, rfl, eo1, T.cl, T.nH, xf_h .., h, _, rfl, .inr (SqT.of hh1), _, _, rfl, rfl, _, rfl, rfl, rfl, ?_⟩
      rw [dS, dB, ivs_len, pos_dec]
      exact k H3 s3
    rw [decide_eq_false h3]
    rw [if_neg h3] at k
    refine iteF ?_
    refine ⟨_, rfl, o, T.C, dx, _, _, rfl, eo1, T.cl, T.nH, xf_h .., h, _, rfl, .inr (SqT.of hh1), _, rfl, o, T.C, dx, _, _, rfl, eo1, T.cl, T.nSz, xf_sz .., _, _, rfl, rfl, _, rfl, rfl, rfl, ?_⟩
    rw [dS, dB, ivs_len, lt_dec]
    exact k H3 s3
/-! ### cut_off -/
/-- not too much -/
structure Fit (sz : Nat) (held : List Int) (x : RP) : Prop where
  s1 : 1 ≤ sz
  s2 : sz ≤ 1000
  h : held.length ≤ sz
  r : x.rest.length ≤ 3000000
  p : x.pieces.length ≤ 8000000
def spXC (C : Addr) : Sp := fun vs H Q _ => ∃ (o dx ro eo p : Addr) (ak sz : Nat) (held : List Int) (told : Bool) (x : RP) (st : Bool), vs = [.ref o] ∧ ExAt C H o dx ro eo p ak sz held told x st ∧ Fit sz held x ∧
  ∀ H', Off2 o p H H' → ExAt C H' o dx ro eo p ak sz held told (perfM sz held "cut" x) st → Q .non H'
theorem scXC : FnScope ["self", "end", "start"] ["self"] (defScope sXC) := ⟨rfl, rfl, rfl, by decide +kernel, rfl, by decide +kernel, by decide +kernel⟩
theorem cutN_succ (sz : Nat) (xs : List Int) (i : Nat) : cutN sz xs (i + 1) = cutN sz xs i ++ [(xs.drop (i * sz)).take sz] := by
  unfold cutN
  rw [List.range_succ, List.map_append]
  rfl
theorem ok_xc (T : TxX K mg) : FnOk P w K mg base CX0 1 T.co.f T.co.fd ["self"] (spXC T.C) := by
  refine T.co.F.ok scXC (fun vs H Q E h => ?_) (fun cdv A outer s H vs Q E hr h => ?_)
  · obtain ⟨o, dx, ro, eo, p, ak, sz, held, told, x, st, rfl, _⟩ := h
    rfl
  · obtain ⟨o, dx, ro, eo, p, ak, sz, held, told, x, st, rfl, hX, hF, k⟩ := h
    refine ⟨_, pss_cons (ps_set (i := 1) scXC.nd rfl (.inl rfl) (pe_op op_mul (pe_op op_fdiv (pe_callB call_len_seq (by rfl) T.len PySem.boot_len (pa_cons (pe_fld (pv 0) rfl) pa_nil)) (pe_fld (pv 0) rfl)) (pe_fld (pv 0) rfl)))
      (pss_cons (ps_for PassesOwn.never rfl (pi_range3 rfl T.range (pa_cons pe_int (pa_cons (pv 1) (pa_cons (pe_fld (pv 0) rfl) pa_nil)))) (pg_name (i := 2) scXC.nd rfl (Or.inl rfl))
        (pss_one (ps_expr (pe_bm PySem.F.plainAttrs_list PySem.F.slot_list_append PySem.F.type_list_append mt_append (pe_fld (pv 0) rfl) (pa_cons (pe_slice sl_tupH (pe_fld (pv 0) rfl) (po_some (pv 2)) (po_some (pe_op op_add (pv 2) (pe_fld (pv 0) rfl)))) pa_nil)))))
      (pss_one (ps_fld (pv 0) (pe_slice sl_tupH (pe_fld (pv 0) rfl) (po_some (pv 1)) po_none) rfl))), ?_⟩
    obtain ⟨h0, r0, vs0, e0, hh0, hr0, hp0, hP0⟩ := id hX.ex
    have s1 := hF.s1
    have s2 := hF.s2
    have s3 := hF.r
    have s4 := hF.p
    refine ⟨_, rfl, o, T.C, dx, _, _, rfl, e0, T.cl, T.nR, xf_r .., r0, _, rfl, .inr (SqT.of hr0), _, rfl, o, T.C, dx, _, _, rfl, e0, T.cl, T.nSz, xf_sz .., _, _, rfl, rfl, ⟨by omega, by omega⟩, _, rfl, o, T.C, dx, _, _, rfl, e0, T.cl, T.nSz, xf_sz .., _, _, rfl, rfl, .inr ⟨by omega, by omega⟩, ?_⟩
    have eq : ((ivs x.rest).length : Int) / (sz : Int) * (sz : Int) = ((x.rest.length / sz * sz : Nat) : Int) := by
      rw [ivs_len, Int.natCast_mul, Int.natCast_ediv]
    simp only [eq]
    have le : x.rest.length / sz * sz ≤ x.rest.length := Nat.div_mul_le_self _ _
    generalize hq : x.rest.length / sz = q at le ⊢
    refine ⟨_, rfl, _, rfl, o, T.C, dx, _, _, rfl, e0, T.cl, T.nSz, xf_sz .., _, _, _, q, rfl, rgC_up s1 s2 (by omega), ?_⟩
    refine for_rangeC (lo := 0) (c := (sz : Int)) (n := q) (fun i σ H' => ∃ v2, σ = [some (.ref o), some (.int ((q * sz : Nat) : Int)), v2] ∧ Off2 o p H H' ∧ ExAt T.C H' o dx ro eo p ak sz held told ⟨x.rest, x.pieces ++ cutN sz x.rest i⟩ st) ⟨none, rfl, Off2.refl, ?_⟩ ?_ ?_
    · refine ⟨h0, r0, vs0, e0, hh0, hr0, hp0, ?_⟩
      rw [show x.pieces ++ cutN sz x.rest 0 = x.pieces from List.append_nil _]
      exact hP0
    · rintro i σ H' hi ⟨v2, rfl, o1, X1⟩
      obtain ⟨h1, r1, vs1, e1, hh1, hr1, hp1, hP1⟩ := id X1.ex
      have m1 : (i + 1) * sz ≤ x.rest.length := Nat.le_trans (Nat.mul_le_mul_right _ hi) le
      have m2 : (i + 1) * sz = i * sz + sz := Nat.succ_mul i sz
      refine ⟨_, rfl, o, T.C, dx, _, _, rfl, e1, T.cl, T.nP, xf_p .., .inl ⟨rfl, _, SqL.of hp1⟩, ?_⟩
      refine ⟨_, rfl, o, T.C, dx, _, _, rfl, e1, T.cl, T.nR, xf_r .., _, rfl, ((i * sz : Nat) : Int), by rw [Int.zero_add, Int.natCast_mul], _, rfl, _, rfl, o, T.C, dx, _, _, rfl, e1, T.cl, T.nSz, xf_sz .., _, _, rfl, rfl, ((i * sz + sz : Nat) : Int), by rw [Int.zero_add, Int.natCast_add, Int.natCast_mul], r1, _, rfl, hr1, fun H2 qq s2' hq2 => ?_⟩
      rw [cut_mid _ _ _ (by omega) (by rw [ivs_len]; show i * sz + sz ≤ x.rest.length; omega), show i * sz + sz - i * sz = sz by omega] at hq2
      have hp2 := s2' _ _ hp1
      have lp := hP1.len
      refine ⟨p, vs1, _, rfl, rfl, hp2, ?_, ?_⟩
      · rw [lp]
        show (x.pieces ++ cutN sz x.rest i).length < sizeLine
        rw [List.length_append, cutN, List.length_map, List.length_range]
        have : q ≤ x.rest.length := Nat.le_trans (Nat.le_mul_of_pos_right q s1) le
        exact Nat.lt_of_le_of_lt (show x.pieces.length + i ≤ 11000000 by omega) (by decide)
      have st := tup_stays (o' := .lst (vs1 ++ [.ref qq])) hp2 (by intro xs z; cases z)
      have po : o ≠ p := ne_of (s2' _ _ e1) hp2 (by intro z; cases z)
      refine ⟨_, rfl, (o1.same s2').putP, h1, r1, _, by rw [upd_ne po]; exact s2' _ _ e1, st _ _ (s2' _ _ hh1), st _ _ (s2' _ _ hr1), upd_same, ?_⟩
      rw [cutN_succ, ← List.append_assoc]
      refine Pcs.snoc ?_ ((hP1.mono fun _ _ z => s2' _ _ z).mono st)
      rw [st _ _ hq2]
      simp [ivs, List.map_take, List.map_drop]
    · rintro σ H' ⟨v2, rfl, o1, X1⟩
      obtain ⟨h1, r1, vs1, e1, hh1, hr1, hp1, hP1⟩ := id X1.ex
      refine ⟨_, rfl, o, T.C, dx, _, _, rfl, e1, T.cl, T.nR, xf_r .., _, rfl, ((q * sz : Nat) : Int), rfl, r1, _, rfl, hr1, fun H2 r2 s2' hq2 => ?_⟩
      rw [cut_from] at hq2
      refine ⟨_, rfl, o, T.C, dx, _, rfl, s2' _ _ e1, T.cl, T.nR, by rw [xf_len]; decide, ?_⟩
      rw [put_r]
      have st := tup_stays (o' := .ins T.C dx (xf ro eo ak sz h1 told r2 p st)) (s2' _ _ e1) (by intro xs z; cases z)
      have po : p ≠ o := ne_of hp1 e1 (by intro z; cases z)
      refine k _ (o1.same s2').putO ⟨h1, r2, vs1, upd_same, st _ _ (s2' _ _ hh1), ?_, by rw [upd_ne po]; exact s2' _ _ hp1, ?_⟩
      · rw [st _ _ hq2]
        unfold perfM
        rw [if_neg (by decide +kernel), if_neg (by decide +kernel), if_pos rfl, hq]
        simp [ivs, List.map_drop]
      · unfold perfM
        rw [if_neg (by decide +kernel), if_neg (by decide +kernel), if_pos rfl, hq]
        exact (hP1.mono fun _ _ z => s2' _ _ z).mono st
end
end My

namespace My
open PySem L2 Cm LM EM
section
variable {P : Program} {w : World} {K : PySem.W.Frag} {mg : Str → Option Value} {base : Heap}
/-! ### perform -/
def spXR (C : Addr) : Sp := fun vs H Q _ => ∃ (o dx ro eo p : Addr) (ak sz : Nat) (held : List Int) (told : Bool) (x : RP) (st : Bool) (s : Str), vs = [.ref o, .str s] ∧ ExAt C H o dx ro eo p ak sz held told x st ∧ Fit sz held x ∧
  ∀ H', Off2 o p H H' → ExAt C H' o dx ro eo p ak sz held told (perfM sz held s x) st → Q .non H'
theorem scXR : FnScope ["self", "step"] ["self", "step"] (defScope sXR) := ⟨rfl, rfl, rfl, by decide +kernel, rfl, by decide +kernel, by decide +kernel⟩
theorem ok_xr (T : TxX K mg) : FnOk P w K mg base CX0 2 T.pf.f T.pf.fd ["self", "step"] (spXR T.C) := by
  have GC : FnOk P w K mg base CX0 1 T.co.f T.co.fd ["self"] (spXC T.C) := ok_xc T
  refine T.pf.F.ok scXR (fun vs H Q E h => ?_) (fun cdv A outer s H vs Q E hr h => ?_)
  · obtain ⟨o, dx, ro, eo, p, ak, sz, held, told, x, st, s, rfl, _⟩ := h
    rfl
  · obtain ⟨o, dx, ro, eo, p, ak, sz, held, told, x, st, s, rfl, hX, hF, k⟩ := h
    refine ⟨_, pss_one (ps_if (pt_cmpR op_eq (pv 1) pe_str (nomark _)) (pss_one (ps_fld (pv 0) (pe_op op_catH (pe_fld (pv 0) rfl) (pe_fld (pv 0) rfl)) rfl))
      (pss_one (ps_if (pt_cmpR op_eq (pv 1) pe_str (nomark _)) (pss_one (ps_expr (pe_bm PySem.F.plainAttrs_list PySem.F.slot_list_append PySem.F.type_list_append mt_append (pe_fld (pv 0) rfl) (pa_cons (pe_fld (pv 0) rfl) pa_nil))))
      (pss_one (ps_if (pt_cmpR op_eq (pv 1) pe_str (nomark _)) (pss_one (ps_expr (pe_meth0 (pv 0) T.cl T.co.m GC hr T.co.b .nil pass0)))
      (pss_one (ps_if (pt_cmpR op_eq (pv 1) pe_str (nomark _)) (pss_cons (ps_expr (pe_bm PySem.F.plainAttrs_list PySem.F.slot_list_append PySem.F.type_list_append mt_append (pe_fld (pv 0) rfl) (pa_cons (pe_fld (pv 0) rfl) pa_nil))) (pss_one (ps_fld (pv 0) (pe_tup pa_nil) rfl))) pss_nil))))))), ?_⟩
    obtain ⟨h0, r0, vs0, e0, hh0, hr0, hp0, hP0⟩ := id hX.ex
    have s1 := hF.s1
    have s2 := hF.s2
    have s3 := hF.r
    have s4 := hF.p
    have s5 := hF.h
    have po : p ≠ o := ne_of hp0 e0 (by intro z; cases z)
    have lp := hP0.len
    refine ⟨_, rfl, rfl, _, rfl, ?_⟩
    rw [dS]
    by_cases h1 : s = "add"
    · rw [decide_eq_true h1]
      refine iteT ?_
      unfold perfM at k
      rw [if_pos h1] at k
      refine ⟨_, rfl, o, T.C, dx, _, _, rfl, e0, T.cl, T.nR, xf_r .., _, rfl, o, T.C, dx, _, _, rfl, e0, T.cl, T.nH, xf_h .., r0, h0, _, _, rfl, rfl, hr0, hh0, ?_, fun H2 q s2' hq => ?_⟩
      · rw [ivs_len, ivs_len]
        exact Nat.le_trans (show x.rest.length + held.length ≤ 4000000 by omega) (by decide)
      refine ⟨_, rfl, o, T.C, dx, _, rfl, s2' _ _ e0, T.cl, T.nR, by rw [xf_len]; decide, ?_⟩
      rw [put_r]
      have st' := tup_stays (o' := .ins T.C dx (xf ro eo ak sz h0 told q p st)) (s2' _ _ e0) (by intro xs z; cases z)
      refine k _ ((Off2.refl).same s2').putO ⟨h0, q, vs0, upd_same, st' _ _ (s2' _ _ hh0), ?_, by rw [upd_ne po]; exact s2' _ _ hp0, (hP0.mono fun _ _ z => s2' _ _ z).mono st'⟩
      rw [st' _ _ hq]
      simp [ivs]
    rw [decide_eq_false h1]
    refine iteF ⟨_, rfl, rfl, _, rfl, ?_⟩
    rw [dS]
    by_cases h2 : s = "hand"
    · rw [decide_eq_true h2]
      refine iteT ?_
      unfold perfM at k
      rw [if_neg h1, if_pos h2] at k
      refine ⟨_, rfl, o, T.C, dx, _, _, rfl, e0, T.cl, T.nP, xf_p .., .inl ⟨rfl, _, SqL.of hp0⟩, _, rfl, o, T.C, dx, _, _, rfl, e0, T.cl, T.nH, xf_h .., p, vs0, _, rfl, rfl, hp0, ?_, ?_⟩
      · rw [lp]
        exact Nat.lt_of_le_of_lt s4 (by decide)
      have st' := tup_stays (o' := .lst (vs0 ++ [.ref h0])) hp0 (by intro xs z; cases z)
      exact k _ Off2.refl.putP ⟨h0, r0, _, by rw [upd_ne po.symm]; exact e0, st' _ _ hh0, st' _ _ hr0, upd_same, Pcs.snoc (st' _ _ hh0) (hP0.mono st')⟩
    rw [decide_eq_false h2]
    refine iteF ⟨_, rfl, rfl, _, rfl, ?_⟩
    rw [dS]
    by_cases h3 : s = "cut"
    · rw [decide_eq_true h3]
      refine iteT ?_
      rw [h3] at k
      exact ⟨_, rfl, o, dx, _, rfl, e0, (xf_noA ..).2.2.2.2.1, o, dx, ro, eo, p, ak, sz, held, told, x, st, rfl, hX, hF, k⟩
    rw [decide_eq_false h3]
    refine iteF ⟨_, rfl, rfl, _, rfl, ?_⟩
    rw [dS]
    by_cases h4 : s = "flush"
    · rw [decide_eq_true h4]
      refine iteT ?_
      unfold perfM at k
      rw [if_neg h1, if_neg h2, if_neg h3, if_pos h4] at k
      refine ⟨_, rfl, o, T.C, dx, _, _, rfl, e0, T.cl, T.nP, xf_p .., .inl ⟨rfl, _, SqL.of hp0⟩, _, rfl, o, T.C, dx, _, _, rfl, e0, T.cl, T.nR, xf_r .., p, vs0, _, rfl, rfl, hp0, ?_, ?_⟩
      · rw [lp]
        exact Nat.lt_of_le_of_lt s4 (by decide)
      have st1 := tup_stays (o' := .lst (vs0 ++ [.ref r0])) hp0 (by intro xs z; cases z)
      refine ⟨Nat.zero_le _, fun q nq => ?_⟩
      have e1 : (upd (upd H p (.lst (vs0 ++ [.ref r0]))) q (.tup [])) o = some (.ins T.C dx (xf ro eo ak sz h0 told r0 p st)) := same_new nq _ _ (by rw [upd_ne po.symm]; exact e0)
      refine ⟨_, rfl, o, T.C, dx, _, rfl, e1, T.cl, T.nR, by rw [xf_len]; decide, ?_⟩
      rw [put_r]
      have st2 := tup_stays (o' := .ins T.C dx (xf ro eo ak sz h0 told q p st)) e1 (by intro xs z; cases z)
      have f : ∀ (a : Addr) (xs : List V), H a = some (.tup xs) → (upd (upd (upd H p (.lst (vs0 ++ [.ref r0]))) q (.tup [])) o (.ins T.C dx (xf ro eo ak sz h0 told q p st))) a = some (.tup xs) := fun a xs z => st2 _ _ (same_new nq _ _ (st1 _ _ z))
      refine k _ ((Off2.refl.putP).same (same_new nq)).putO ⟨h0, q, _, upd_same, f _ _ hh0, st2 _ _ upd_same, ?_, Pcs.snoc (f _ _ hr0) (hP0.mono f)⟩
      rw [upd_ne po]
      exact same_new nq _ _ upd_same
    rw [decide_eq_false h4]
    unfold perfM at k
    rw [if_neg h1, if_neg h2, if_neg h3, if_neg h4] at k
    exact iteF (k H Off2.refl hX)
/-! ### finish -/
theorem Off2.ts {C : Addr} {H H' : Hp} {o dx ro eo p : Addr} {ak sz : Nat} {held : List Int} {told : Bool} {x : RP} {st : Bool} (a : Off2 o p H H') (h : ExAt C H o dx ro eo p ak sz held told x st) : TS H H' := fun q xs e => by
  obtain ⟨h0, r0, vs0, e0, _, _, hp0, _⟩ := h.ex
  exact a _ _ (ne_of e e0 (by intro z; cases z)) (ne_of e hp0 (by intro z; cases z)) e
/-- a row of orders stands -/
def OrdT (H : Hp) (p : Addr) (os : List (Str × Str)) : Prop := ∃ xs, H p = some (.tup xs) ∧ Prs H xs os
theorem OrdT.ts {H H' : Hp} {p : Addr} {os : List (Str × Str)} (s : TS H H') (h : OrdT H p os) : OrdT H' p os := let ⟨xs, e, q⟩ := h; ⟨xs, s _ _ e, q.mono s⟩
theorem Prs.get {H : Hp} : ∀ {xs os} {i : Nat} {y : V}, Prs H xs os → xs[i]? = some y → ∃ (q : Addr) (o : Str × Str), os[i]? = some o ∧ y = .ref q ∧ H q = some (.tup [.str o.1, .str o.2])
  | _, _, i, y, .nil, h => by simp at h
  | _, _, 0, y, .cons h _, e => ⟨_, _, rfl, (Option.some.inj e).symm, h⟩
  | _, _, i + 1, y, .cons _ t, e => t.get (i := i) e
theorem endW_app (sz : Nat) (held : List Int) (told : Bool) : ∀ (a b : List (Str × Str)) (x : RP), endW sz held told (a ++ b) x = endW sz held told b (endW sz held told a x)
  | [], _, _ => rfl
  | (t, s) :: r, b, x => endW_app sz held told r b _
/-- enough room for a round and an ending -/
structure FitK (sz : Nat) (held : List Int) (k c : Nat) (x : RP) : Prop where
  s1 : 1 ≤ sz
  s2 : sz ≤ 1000
  h : held.length ≤ sz
  hk : k ≤ 2500
  hc : c ≤ 7900000
  f : Few sz k c x
theorem FitK.fit {sz : Nat} {held : List Int} {k c : Nat} {x : RP} (h : FitK sz held k c x) : Fit sz held x := by
  refine ⟨h.s1, h.s2, h.h, Nat.le_trans h.f.1 ?_, Nat.le_trans h.f.2 (Nat.le_trans h.hc (by decide))⟩
  exact Nat.le_trans (Nat.mul_le_mul h.hk h.s2) (by decide)
def spXF (C : Addr) : Sp := fun vs H Q _ => ∃ (o dx ro eo p : Addr) (ak sz : Nat) (held : List Int) (told : Bool) (x : RP) (st : Bool) (os : List (Str × Str)) (k c : Nat), vs = [.ref o] ∧ ExAt C H o dx ro eo p ak sz held told x st ∧ OrdT H eo os ∧ os.length ≤ 6 ∧ FitK sz held k c x ∧ k ≤ 2400 ∧ c ≤ 7800000 ∧
  ∀ H', Off2 o p H H' → ExAt C H' o dx ro eo p ak sz held told (endW sz held told os x) true → Q .non H'
theorem scXF : FnScope ["self", "test", "step"] ["self"] (defScope sXF) := ⟨rfl, rfl, rfl, by decide +kernel, rfl, by decide +kernel, by decide +kernel⟩
theorem ok_xfin (T : TxX K mg) : FnOk P w K mg base CX0 3 T.fi.f T.fi.fd ["self"] (spXF T.C) := by
  have GP : FnOk P w K mg base CX0 1 T.ps.f T.ps.fd ["self", "test"] (spXP T.C) := ok_xp T
  have GR : FnOk P w K mg base CX0 2 T.pf.f T.pf.fd ["self", "step"] (spXR T.C) := ok_xr T
  refine T.fi.F.ok scXF (fun vs H Q E h => ?_) (fun cdv A outer s H vs Q E hr h => ?_)
  · obtain ⟨o, dx, ro, eo, p, ak, sz, held, told, x, st, os, k, c, rfl, _⟩ := h
    rfl
  · obtain ⟨o, dx, ro, eo, p, ak, sz, held, told, x, st, os, kk, cc, rfl, hX, hO, hl, hF, hk, hc, k⟩ := h
    have hr1 : Room 1 _ := hr.mono (by decide)
    refine ⟨_, pss_cons (ps_for PassesOwn.never rfl (pi_tup (pe_fld (pv 0) rfl)) (pg_tup rfl (pgs_cons (pg_name (i := 1) scXF.nd rfl (.inl rfl)) (pgs_cons (pg_name (i := 2) scXF.nd rfl (.inl rfl)) pgs_nil)))
        (pss_one (ps_if (pt_val (pe_meth (pv 0) T.cl T.ps.m GP hr1 T.ps.b .nil pass0 (pa_cons (pv 1) pa_nil))) (pss_one (ps_expr (pe_meth (pv 0) T.cl T.pf.m GR hr T.pf.b .nil pass0 (pa_cons (pv 2) pa_nil)))) pss_nil)))
      (pss_one (ps_fld (pv 0) pe_bl rfl)), ?_⟩
    obtain ⟨h0, r0, vs0, e0, _⟩ := id hX.ex
    obtain ⟨xs, hxs, hPr⟩ := id hO
    have lx := hPr.len
    refine ⟨_, rfl, o, T.C, dx, _, _, rfl, e0, T.cl, T.nEo, xf_eo .., eo, rfl, ⟨_, SqT.of hxs⟩, ?_⟩
    refine for_tup (K := K) (a := eo) (xs := xs) (fun i σ H' => ∃ v1 v2, σ = [some (.ref o), v1, v2] ∧ Off2 o p H H' ∧ ExAt T.C H' o dx ro eo p ak sz held told (endW sz held told (os.take i) x) st) ⟨none, none, rfl, Off2.refl, hX⟩ (fun i σ H' _ ⟨_, _, _, o1, _⟩ => SqT.of (o1.ts hX _ _ hxs)) ?_ ?_
    · rintro i y σ H' hy ⟨v1, v2, rfl, o1, X1⟩
      obtain ⟨q, od, hod, rfl, hq⟩ := hPr.get hy
      have hq1 := o1.ts hX _ _ hq
      have li : i < os.length := lt_of_get hod
      refine ⟨q, _, rfl, SqT.of hq1, rfl, _, _, rfl, _, _, rfl, rfl, ?_⟩
      obtain ⟨h1, r1, vs1, e1, _⟩ := id X1.ex
      refine ⟨_, rfl, o, dx, _, rfl, e1, (xf_noA ..).2.2.1, _, rfl, o, dx, ro, eo, p, ak, sz, held, told, _, st, od.1, rfl, X1, fun H2 s2 => ⟨_, rfl, ?_⟩⟩
      have X2 := X1.same s2
      have tk : os.take (i + 1) = os.take i ++ [od] := take_snoc hod
      have ef : endW sz held told (os.take (i + 1)) x = (if passM sz held told od.1 (endW sz held told (os.take i) x).rest = true then perfM sz held od.2 (endW sz held told (os.take i) x) else endW sz held told (os.take i) x) := by
        rw [tk, endW_app]
        rfl
      have fe := few_end (told := told) hF.s1 hF.h (os.take i) kk cc x hF.f
      have lt : (os.take i).length ≤ 6 := by rw [List.length_take]; omega
      have fk : FitK sz held (kk + 6) (cc + 6 * (kk + 6)) (endW sz held told (os.take i) x) := ⟨hF.s1, hF.s2, hF.h, by omega, by omega, fe.mono (by omega) (Nat.add_le_add_left (Nat.mul_le_mul lt (by omega)) _)⟩
      obtain ⟨h2, r2, vs2, e2, _⟩ := id X2.ex
      refine ite2 (fun c => ?_) (fun c => ?_)
      · rw [if_pos c] at ef
        refine ⟨_, rfl, o, dx, _, rfl, e2, (xf_noA ..).2.2.2.1, _, rfl, o, dx, ro, eo, p, ak, sz, held, told, _, st, od.2, rfl, X2, fk.fit, fun H3 o3 X3 => ?_⟩
        exact ⟨_, _, rfl, (o1.same s2).trans o3, by rw [ef]; exact X3⟩
      · rw [if_neg c] at ef
        exact ⟨_, _, rfl, o1.same s2, by rw [ef]; exact X2⟩
    · rintro σ H' ⟨v1, v2, rfl, o1, X1⟩
      rw [lx, List.take_length] at X1
      obtain ⟨h1, r1, vs1, e1, hh1, hr1', hp1, hP1⟩ := id X1.ex
      refine ⟨_, rfl, o, T.C, dx, _, rfl, e1, T.cl, T.nSt, by rw [xf_len]; decide, ?_⟩
      rw [put_st]
      have st' := tup_stays (o' := .ins T.C dx (xf ro eo ak sz h1 told r1 p true)) e1 (by intro xs z; cases z)
      have po : p ≠ o := ne_of hp1 e1 (by intro z; cases z)
      exact k _ o1.putO ⟨h1, r1, vs1, upd_same, st' _ _ hh1, st' _ _ hr1', by rw [upd_ne po]; exact hp1, hP1.mono st'⟩
/-! ### answer -/
/-- not stopped and not left so far -/
def goes (sz : Nat) (held : List Int) (told : Bool) : List (Str × Str) → RP → Bool
  | [], _ => true
  | (t, s) :: r, x => if passM sz held told t x.rest = true then (if s = "again" then false else if s = "stop" then false else goes sz held told r (perfM sz held s x)) else goes sz held told r x
theorem runW_cons (sz : Nat) (held : List Int) (told : Bool) (t s : Str) (r : List (Str × Str)) (x : RP) : runW sz held told ((t, s) :: r) x = if passM sz held told t x.rest = true then (if s = "again" then (x, false) else if s = "stop" then (x, true) else runW sz held told r (perfM sz held s x)) else runW sz held told r x := rfl
theorem goes_cons (sz : Nat) (held : List Int) (told : Bool) (t s : Str) (r : List (Str × Str)) (x : RP) : goes sz held told ((t, s) :: r) x = if passM sz held told t x.rest = true then (if s = "again" then false else if s = "stop" then false else goes sz held told r (perfM sz held s x)) else goes sz held told r x := rfl
theorem run_goes (sz : Nat) (held : List Int) (told : Bool) : ∀ (a b : List (Str × Str)) (x : RP), goes sz held told a x = true →
    runW sz held told (a ++ b) x = runW sz held told b (runW sz held told a x).1 ∧ goes sz held told (a ++ b) x = goes sz held told b (runW sz held told a x).1 ∧ (runW sz held told a x).2 = false
  | [], _, _, _ => ⟨rfl, rfl, rfl⟩
  | (t, s) :: r, b, x, h => by
    rw [goes_cons] at h
    rw [List.cons_append, runW_cons, runW_cons, goes_cons]
    by_cases c : passM sz held told t x.rest = true
    · rw [if_pos c] at h
      rw [if_pos c, if_pos c, if_pos c]
      by_cases c1 : s = "again"
      · rw [if_pos c1] at h
        cases h
      rw [if_neg c1] at h
      rw [if_neg c1, if_neg c1, if_neg c1]
      by_cases c2 : s = "stop"
      · rw [if_pos c2] at h
        cases h
      rw [if_neg c2] at h
      rw [if_neg c2, if_neg c2, if_neg c2]
      exact run_goes sz held told r b _ h
    · rw [if_neg c] at h
      rw [if_neg c, if_neg c, if_neg c]
      exact run_goes sz held told r b _ h
def spXA (C : Addr) : Sp := fun vs H Q _ => ∃ (o dx ro eo p h : Addr) (ak sz : Nat) (held0 held : List Int) (told0 told : Bool) (x : RP) (rs es : List (Str × Str)) (k c : Nat), vs = [.ref o, .ref h, .bl told] ∧ ExAt C H o dx ro eo p ak sz held0 told0 x false ∧ H h = some (.tup (ivs held)) ∧ OrdT H ro rs ∧ OrdT H eo es ∧ rs.length ≤ 12 ∧ es.length ≤ 6 ∧ FitK sz held k c x ∧ k ≤ 2300 ∧ c ≤ 7700000 ∧
  ∀ H', Off2 o p H H' → ExAt C H' o dx ro eo p (ak + 1) sz held told (ansM sz rs es held told x).1 (ansM sz rs es held told x).2 → Q .non H'
theorem scXA : FnScope ["self", "held", "told", "test", "step"] ["self", "held", "told"] (defScope sXA) := ⟨rfl, rfl, rfl, by decide +kernel, rfl, by decide +kernel, by decide +kernel⟩
theorem ok_xa (T : TxX K mg) : FnOk P w K mg base CX0 4 T.an.f T.an.fd ["self", "held", "told"] (spXA T.C) := by
  have GP : FnOk P w K mg base CX0 1 T.ps.f T.ps.fd ["self", "test"] (spXP T.C) := ok_xp T
  have GR : FnOk P w K mg base CX0 2 T.pf.f T.pf.fd ["self", "step"] (spXR T.C) := ok_xr T
  have GF : FnOk P w K mg base CX0 3 T.fi.f T.fi.fd ["self"] (spXF T.C) := ok_xfin T
  refine T.an.F.ok scXA (fun vs H Q E h => ?_) (fun cdv A outer s H vs Q E hr h => ?_)
  · obtain ⟨o, dx, ro, eo, p, h, ak, sz, held0, held, told0, told, x, rs, es, k, c, rfl, _⟩ := h
    rfl
  · obtain ⟨o, dx, ro, eo, p, h, ak, sz, held0, held, told0, told, x, rs, es, kk, cc, rfl, hX, hh, hO, hE, l1, l2, hF, hk, hc, k⟩ := h
    have hr1 : Room 1 _ := hr.mono (by decide)
    have hr2 : Room 2 _ := hr.mono (by decide)
    refine ⟨_, pss_cons (ps_fld (pv 0) (pv 1) rfl) (pss_cons (ps_fld (pv 0) (pv 2) rfl) (pss_cons (ps_fldaug (pv 0) pe_int in_add)
      (pss_one (ps_for PassesOwn.never rfl (pi_tup (pe_fld (pv 0) rfl)) (pg_tup rfl (pgs_cons (pg_name (i := 3) scXA.nd rfl (.inl rfl)) (pgs_cons (pg_name (i := 4) scXA.nd rfl (.inl rfl)) pgs_nil)))
        (pss_one (ps_if (pt_val (pe_meth (pv 0) T.cl T.ps.m GP hr1 T.ps.b .nil pass0 (pa_cons (pv 3) pa_nil)))
          (pss_cons (ps_if (pt_cmpR op_eq (pv 4) pe_str (nomark _)) (pss_one ps_retN) pss_nil)
          (pss_cons (ps_if (pt_cmpR op_eq (pv 4) pe_str (nomark _)) (pss_cons (ps_expr (pe_meth0 (pv 0) T.cl T.fi.m GF hr T.fi.b .nil pass0)) (pss_one ps_retN)) pss_nil)
          (pss_one (ps_expr (pe_meth (pv 0) T.cl T.pf.m GR hr2 T.pf.b .nil pass0 (pa_cons (pv 4) pa_nil)))))) pss_nil)))))), ?_⟩
    obtain ⟨h0, r0, vs0, e0, hh0, hr0, hp0, hP0⟩ := id hX.ex
    refine ⟨_, rfl, _, rfl, o, T.C, dx, _, rfl, e0, T.cl, T.nH, by rw [xf_len]; decide, ?_⟩
    rw [put_h]
    refine ⟨_, rfl, _, rfl, o, T.C, dx, _, rfl, upd_same, T.cl, T.nT, by rw [xf_len]; decide, ?_⟩
    rw [put_t]
    refine ⟨_, rfl, o, T.C, dx, _, _, rfl, upd_same, T.cl, T.nA, xf_ak .., _, _, rfl, rfl, dx, _, upd_same, by rw [xf_len]; decide, ?_⟩
    rw [show V.int ((ak : Int) + 1) = V.int ((ak + 1 : Nat) : Int) from rfl, put_ak]
    have po : p ≠ o := ne_of hp0 e0 (by intro z; cases z)
    have ts0 : TS H (upd (upd (upd H o (.ins T.C dx (xf ro eo ak sz h told0 r0 p false))) o (.ins T.C dx (xf ro eo ak sz h told r0 p false))) o (.ins T.C dx (xf ro eo (ak + 1) sz h told r0 p false))) := fun q xs e => tup_stays (o := .ins T.C dx (xf ro eo ak sz h told r0 p false)) upd_same (by intro xs z; cases z) _ _ (tup_stays (o := .ins T.C dx (xf ro eo ak sz h told0 r0 p false)) upd_same (by intro xs z; cases z) _ _ (tup_stays e0 (by intro xs z; cases z) _ _ e))
    have X0 : ExAt T.C (upd (upd (upd H o (.ins T.C dx (xf ro eo ak sz h told0 r0 p false))) o (.ins T.C dx (xf ro eo ak sz h told r0 p false))) o (.ins T.C dx (xf ro eo (ak + 1) sz h told r0 p false))) o dx ro eo p (ak + 1) sz held told x false := ⟨h, r0, vs0, upd_same, ts0 _ _ hh, ts0 _ _ hr0, by rw [upd_ne po, upd_ne po, upd_ne po]; exact hp0, hP0.mono ts0⟩
    have o0 : Off2 o p H (upd (upd (upd H o (.ins T.C dx (xf ro eo ak sz h told0 r0 p false))) o (.ins T.C dx (xf ro eo ak sz h told r0 p false))) o (.ins T.C dx (xf ro eo (ak + 1) sz h told r0 p false))) := Off2.refl.putO.putO.putO
    have hO1 := hO.ts ts0
    have hE1 := hE.ts ts0
    generalize upd (upd (upd H o (.ins T.C dx (xf ro eo ak sz h told0 r0 p false))) o (.ins T.C dx (xf ro eo ak sz h told r0 p false))) o (.ins T.C dx (xf ro eo (ak + 1) sz h told r0 p false)) = H1 at X0 o0 hO1 hE1 ⊢
    clear ts0 hO hE
    obtain ⟨xs, hxs, hPr⟩ := id hO1
    have lx := hPr.len
    obtain ⟨h1, r1, vs1, e1, _⟩ := id X0.ex
    refine ⟨_, rfl, o, T.C, dx, _, _, rfl, e1, T.cl, T.nRo, xf_ro .., ro, rfl, ⟨_, SqT.of hxs⟩, ?_⟩
    refine for_tup (K := K) (a := ro) (xs := xs) (fun i σ H' => ∃ v1 v2, σ = [some (.ref o), some (.ref h), some (.bl told), v1, v2] ∧ Off2 o p H1 H' ∧ ExAt T.C H' o dx ro eo p (ak + 1) sz held told (runW sz held told (rs.take i) x).1 false ∧ goes sz held told (rs.take i) x = true) ⟨none, none, rfl, Off2.refl, X0, rfl⟩ (fun i σ H' _ ⟨_, _, _, o1, _⟩ => SqT.of (o1.ts X0 _ _ hxs)) ?_ ?_
    · rintro i y σ H' hy ⟨v1, v2, rfl, o1, X1, g1⟩
      obtain ⟨q, od, hod, rfl, hq⟩ := hPr.get hy
      have hq1 := o1.ts X0 _ _ hq
      have li : i < rs.length := lt_of_get hod
      refine ⟨q, _, rfl, SqT.of hq1, rfl, _, _, rfl, _, _, rfl, rfl, ?_⟩
      obtain ⟨h1, r1, vs1, e1, _⟩ := id X1.ex
      refine ⟨_, rfl, o, dx, _, rfl, e1, (xf_noA ..).2.2.1, _, rfl, o, dx, ro, eo, p, ak + 1, sz, held, told, _, false, od.1, rfl, X1, fun H2 s2 => ⟨_, rfl, ?_⟩⟩
      have X2 := X1.same s2
      have tk : rs.take (i + 1) = rs.take i ++ [od] := take_snoc hod
      have rg := run_goes sz held told (rs.take i) [od] x g1
      rw [← tk] at rg
      have rw1 : rs = rs.take i ++ (od :: rs.drop (i + 1)) := by
        have e := List.take_append_drop i rs
        rw [List.drop_eq_getElem_cons li] at e
        have : rs[i] = od := (List.getElem?_eq_some_iff.mp hod).2
        rw [this] at e
        exact e.symm
      have rgs := (run_goes sz held told (rs.take i) (od :: rs.drop (i + 1)) x g1).1
      rw [← rw1] at rgs
      have fe := few_run (told := told) hF.s1 hF.h (rs.take i) kk cc x hF.f
      have lt : (rs.take i).length ≤ 12 := by rw [List.length_take]; omega
      have fk : FitK sz held (kk + 12) (cc + 12 * (kk + 12)) (runW sz held told (rs.take i) x).1 := ⟨hF.s1, hF.s2, hF.h, by omega, by omega, fe.mono (by omega) (Nat.add_le_add_left (Nat.mul_le_mul lt (by omega)) _)⟩
      obtain ⟨h2, r2, vs2, e2, _⟩ := id X2.ex
      generalize hy0 : (runW sz held told (rs.take i) x).1 = y at rg rgs fk X1 X2 ⊢
      obtain ⟨t1, s1⟩ := od
      rw [runW_cons] at rgs
      have r1e := rg.1
      have r2e := rg.2.1
      rw [runW_cons] at r1e
      rw [goes_cons] at r2e
      refine ite2 (fun c => ?_) (fun c => ?_)
      · rw [if_pos c] at rgs r1e r2e
        refine ⟨_, rfl, rfl, _, rfl, ?_⟩
        rw [dS]
        by_cases c1 : s1 = "again"
        · rw [decide_eq_true c1]
          refine iteT ?_
          rw [if_pos c1] at rgs
          refine k _ (o0.trans (o1.same s2)) ?_
          unfold ansM
          rw [rgs]
          exact X2
        rw [decide_eq_false c1]
        rw [if_neg c1] at rgs r1e r2e
        refine iteF ⟨_, rfl, rfl, _, rfl, ?_⟩
        rw [dS]
        by_cases c2 : s1 = "stop"
        · rw [decide_eq_true c2]
          refine iteT ?_
          rw [if_pos c2] at rgs
          refine ⟨_, rfl, o, dx, _, rfl, e2, (xf_noA ..).2.1, o, dx, ro, eo, p, ak + 1, sz, held, told, y, false, es, _, _, rfl, X2, hE1.ts ((o1.same s2).ts X0), l2, fk, by omega, by omega, fun H3 o3 X3 => ?_⟩
          refine k _ ((o0.trans (o1.same s2)).trans o3) ?_
          unfold ansM
          rw [rgs]
          exact X3
        rw [decide_eq_false c2]
        rw [if_neg c2] at rgs r1e r2e
        refine iteF ?_
        refine ⟨_, rfl, o, dx, _, rfl, e2, (xf_noA ..).2.2.2.1, _, rfl, o, dx, ro, eo, p, ak + 1, sz, held, told, y, false, s1, rfl, X2, fk.fit, fun H3 o3 X3 => ?_⟩
        exact ⟨_, _, rfl, (o1.same s2).trans o3, by rw [r1e]; exact X3, r2e⟩
      · rw [if_neg c] at rgs r1e r2e
        exact ⟨_, _, rfl, o1.same s2, by rw [r1e]; exact X2, r2e⟩
    · rintro σ H' ⟨v1, v2, rfl, o1, X1, g1⟩
      rw [lx, List.take_length] at X1 g1
      refine k _ (o0.trans o1) ?_
      unfold ansM
      rw [(run_goes sz held told rs [] x g1).2.2]
      exact X1
end
end My

/-! enumerate of a tuple, as a walk of the hand layer -/
namespace ETup
open PySem PySem.Spec PyProof.Rows L2
open Sem (wp)
/-- what enumerate(v) makes: the inner iterator, then itself -/
abbrev eo (n : Addr) : Obj := { cls := .type "enumerate", data := .fields #[.none, .bool false, .ref n, rawInt 0, .none, .none] }
theorem new1 {v : Value} {ob : Obj} {HP : Heap → Prop} (B : Begins v ob HP) :
    Meets (Builtin.«enumerate.__new__» ⟨[.type "enumerate", v], []⟩) (fun _ R st => HP st.heap ∧
      R (.ok (.ret (.ref (st.heap.push ob).objs.size))) { st with heap := (st.heap.push ob).push (eo st.heap.objs.size) }) :=
  .of_wp fun pr wo Ar R st hh => by
    obtain ⟨hp, g, dd, tk, os⟩ := st; obtain ⟨a1, a2⟩ := hh
    have subE := sub_enumerate
    have run : ∀ {A2 : Around} {E2 : Value → Shared → Prop} {Q2 : Value → Shared → Prop}, Q2 (.ref hp.objs.size) ⟨hp.push ob, g, dd, tk, os⟩ →
        wpAny (model pr wo) A2 (pyIter v) Q2 E2 ⟨hp, g, dd, tk, os⟩ := fun z => B.iter pr wo _ _ ⟨hp, g, dd, tk, os⟩ _ a1 z
    wp_walk using run
    refine wpAny_stack_any fun stk => wpAny_pure ?_
    split
    next c _ _ _ _ _ =>
      cases (c == Value.type "enumerate") <;> (wp_walk using run; exact ⟨_, rfl, a2⟩)
    next => wp_walk using run; exact ⟨_, rfl, a2⟩
section
variable {prog : Program} {w : World} {A : Around} {E : Value → Shared → Prop} {s : Shared}
theorem made {v : Value} {ob : Obj} {HP : Heap → Prop} {Q : Value → Shared → Prop} (B : Begins v ob HP) (h1 : HP s.heap)
    (k : ∀ hn, IsEnum hn (s.heap.objs.size + 1) s.heap.objs.size 0 .none → hn.get? s.heap.objs.size = some ob → (∀ b u, s.heap.get? b = some u → hn.get? b = some u) → Q (.ref (s.heap.objs.size + 1)) { s with heap := hn }) :
    wpAny (model prog w) A (call (.type "enumerate") [v]) Q E s := by
  refine callType_new F.called_enumerate (by decide) (F.typeCall_enumerate_1 _) (F.newCall_enumerate_1 _) (fun ob2 => F.args_object_init_2 ob2 _) F.entry_enumerate_new (new1 B) ⟨h1, ?_⟩
  have sz : (s.heap.push ob).objs.size = s.heap.objs.size + 1 := Heap.size_push ..
  show _ ∧ _
  rw [sz]
  have isE : IsEnum ((s.heap.push ob).push (eo s.heap.objs.size)) (s.heap.objs.size + 1) s.heap.objs.size 0 .none := by
    have g1 := Heap.get?_push_size (s.heap.push ob) (o := eo s.heap.objs.size) rfl
    rw [sz] at g1
    exact g1
  exact ⟨⟨_, isE, rfl⟩, k _ isE (Heap.get?_push_of_some _ (Heap.get?_push_size _ B.free)) fun b u x => Heap.get?_push_of_some _ (Heap.get?_push_of_some _ x)⟩
end
/-- the tuple at a, each item in a new pair with its place -/
def Itu (K : PySem.W.Frag) (a : Addr) : It :=
  ⟨fun i H => ∃ (xs : List V) (x : V), SqT K H a xs ∧ xs[i]? = some x,
   fun i H v H' => ∃ T x, v = .ref T ∧ H T = none ∧ H' = upd H T (.tup [.int (i : Nat), x]) ∧ ∀ xs, SqT K H a xs → xs[i]? = some x,
   fun i H => ∃ xs : List V, SqT K H a xs ∧ xs.length ≤ i⟩
theorem turn {P : Program} {w : World} {K : PySem.W.Frag} {elts : List Expr} {kk : Nat} {tpos : Pos} (a e it : Addr) :
    Turn P w K (.Tuple elts kk tpos) (Itu K a) [e, it] e (fun i h => (∃ old, IsEnum h e it ((i : Nat) : Int) old) ∧ h.IsTupleIter it a i ∧ e ≠ it ∧ a ≠ it ∧ e ≠ a) where
  mem := by simp
  obj := fun i h st b hb => by
    obtain ⟨⟨old, isE⟩, ⟨ob, ho, hc, hd⟩, _⟩ := st
    have two : b = e ∨ b = it := by simpa using hb
    rcases two with rfl | rfl
    · exact ⟨_, isE, fun v q => nomatch q⟩
    · exact ⟨ob, ho, fun v q => by rw [hd] at q; cases q⟩
  keep := fun i h h2 st k => let ⟨⟨old, isE⟩, isT, r⟩ := st; ⟨⟨old, k e (by simp) _ isE⟩, isT.at fun ob q => k it (by simp) ob q, r⟩
  item := by
    intro X hP hw hK hcalm i pins s σ H E I fpo st hg
    subst hP hw hK
    obtain ⟨⟨old, isE⟩, isT, nei, nai, nea⟩ := st
    obtain ⟨xs, x, hq, hx⟩ := hg
    obtain ⟨its, rv, tp, hz⟩ := I.tuple hq
    obtain ⟨u, hu, ru⟩ := rv.get hx
    have ltE : e < s.heap.objs.size := Heap.lt_size isE
    have ltI : it < s.heap.objs.size := by obtain ⟨_, q, _⟩ := isT; exact Heap.lt_size q
    have hsz : i < its.toArray.size := by
      have z := (List.getElem?_eq_some_iff.mp hu).1
      simpa using z
    have D := Draws.tuple (prog := X.prog) (w := X.w) (A := X.A.in1) (show X.A.in1.handled = none from I.ok.hd hcalm) it a nai its.toArray
    refine wpAny_pyNext_enum_itemD D isE ⟨isT, tp⟩ hsz nei (by simp [nei, nea]) fun y h2 tk hy ho st2 hT hsz2 hk => ?_
    have ey : y = u := by
      have z : its[i]? = some y := by simpa using hy
      rw [hu] at z
      exact (Option.some.inj z).symm
    subst ey
    refine ⟨_, rfl, wpAny_letOwnedTupleGo_enum (s := { s with heap := h2, toks := tk + 1 }) ho fun h3 isE3 sb => ?_⟩
    have hT3 : h3.get? s.heap.objs.size = some { cls := .type "tuple", data := .seq #[.int i tk, y] } := (sb.2 _ (Nat.ne_of_gt ltE)).trans hT
    have ok : ObjOk X.prog X.w (upd H s.heap.objs.size (.tup [.int (i : Nat), x])) h3 s.heap.objs.size (.tup [.int (i : Nat), x]) :=
      ⟨by show 2 ≤ sizeLine; decide, [.int i tk, y], .cons ⟨_, rfl⟩ (.cons ru .nil), ⟨_, hT3, rfl, _, rfl⟩⟩
    have J : Inv X pins σ (upd H s.heap.objs.size (.tup [.int (i : Nat), x])) { s with heap := h3, toks := tk + 1 } :=
      I.turnedNew (ch := [e, it]) (fun b ob hb q => (sb.2 b (fun z => hb (by simp [z]))).trans (hk b ob (fun z => hb (by simp [z])) (fun z => hb (by simp [z])) q)) fpo (Nat.le_refl _) ok
    refine ⟨.ref s.heap.objs.size, _, J, rfl, ⟨_, x, rfl, I.hok.fresh (Nat.le_refl _), rfl, fun ys hy => by rw [I.tuple_inj hy hq]; exact hx⟩, ⟨⟨y, ?_⟩, st2.1.at fun ob q => (sb.2 it (Ne.symm nei)).trans q, nei, nai, nea⟩, fun b hb => ?_⟩
    · have e1 : ((i + 1 : Nat) : Int) = (i : Int) + 1 := by omega
      rw [e1]
      exact isE3
    · have lt2 : b < s.heap.objs.size := by
        have two : b = e ∨ b = it := by simpa using hb
        rcases two with rfl | rfl
        · exact ltE
        · exact ltI
      rw [upd_ne (Nat.ne_of_lt lt2)]
      exact (fpo b hb).1
  done := by
    intro X hP hw hK hcalm i pins s σ H E I fpo st hg
    subst hP hw hK
    obtain ⟨⟨old, isE⟩, isT, nei, nai, nea⟩ := st
    obtain ⟨xs, hq, hx⟩ := hg
    obtain ⟨its, rv, tp, hz⟩ := I.tuple hq
    obtain ⟨f0, f1, f2, f3, f4, f5⟩ := fpo it (by simp)
    have hl := rv.length
    have hT : s.TypeIs (.ref e) "enumerate" := ⟨_, isE, rfl⟩
    unfold pyNext
    refine wpAny_bind (wpAny_attempt (wpAny_callSpecial?_slot (name := Str.ofString "__next__") hT F.slot_enumerate_next
      (wpAny_call_entry F.slot_enumerate_next hT F.entry_enumerate_next ?_ (F.args_enumerate_next_1 _))))
    show wpAny (model X.prog X.w) _ (field (Value.ref e) 2 >>= _) _ _ s
    refine wpAny_bind (wpAny_field isE rfl (x := .ref it) rfl ?_)
    refine wpAny_bind (wpAny_nextOf_tuple_end (show X.A.in1.handled = none from I.ok.hd hcalm) isT tp (by simp; omega) fun h2 x eb hx2 => ?_)
    obtain ⟨ob, ho, hc⟩ := hx2
    refine wpAny_bind (wpAny_isInstance (T := "StopIteration") (b := true) ⟨ob, ho, hc⟩ isSubtype_stop ?_)
    exact wpAny_pure ⟨rfl, I.turned (t' := s.toks) (fun b ob hb q => eb b ob hb q) f0 f1 f3 f4 f5⟩
  self := fun A i s Q E st h => let ⟨⟨_, isE⟩, _⟩ := st; wpAny_pyIter_enum isE h
def iEnumT (K : PySem.W.Frag) (ta : TA) : TI := fun σ H R => ta σ H fun vs H1 => ∃ a xs, vs = [.ref a] ∧ SqT K H1 a xs ∧ R (Itu K a) H1
/-- for i, x in enumerate(t), t a tuple -/
theorem pi_enumT {X : Cx} {e : Expr} {ta : TA} {p pos tpos : Pos} {elts : List Expr} {kk : Nat} (hg : Gl X "enumerate") (hm : X.mg "enumerate" = none) (ha : PA X [e] ta) (hs : starEach [e] X.env = [(false, eval e X.env)] := by rfl) :
    PI X (.Tuple elts kk tpos) (.Call (.Name "enumerate" p) [e] [] pos) (iEnumT X.K ta) := by
  refine ⟨fun pins s σ H R I h => ?_⟩
  refine Call_ (ld_blt I hg hm boot_enumerate (PyProof.Rows.callWith_type1 (thn (ha.run pos pins s σ H _ I h) fun us s1 ⟨vs, H1, I1, r1, q1⟩ => ?_) hs rfl))
  obtain ⟨a, xs, ex, hq, q⟩ := q1
  subst ex
  cases r1 with
  | cons r rr =>
    cases rr
    cases r
    obtain ⟨its, rv, tp, hz⟩ := I1.tuple hq
    have lta : a < s1.heap.objs.size := by obtain ⟨_, z, _⟩ := tp; exact Heap.lt_size z
    refine made (begins_tuple a its.toArray) tp fun hn isE isT hk => wpAny_pyIter_enum isE ?_
    have I2 : Inv X pins σ H1 { s1 with heap := hn } := I1.kept (t' := s1.toks) hk
    refine ⟨s1.heap.objs.size + 1, [s1.heap.objs.size + 1, s1.heap.objs.size], _, _, H1, rfl, I2, turn a (s1.heap.objs.size + 1) s1.heap.objs.size,
      ⟨⟨.none, isE⟩, ⟨_, isT, rfl, rfl⟩, Nat.succ_ne_self _, Nat.ne_of_lt lta, Nat.ne_of_gt (Nat.lt_succ_of_lt lta)⟩, fun b hb => ?_, q⟩
    have two : b = s1.heap.objs.size + 1 ∨ b = s1.heap.objs.size := by simpa using hb
    have hle : s1.heap.objs.size ≤ b := by rcases two with rfl | rfl <;> omega
    exact I1.fpOk hle (I1.hok.fresh hle)
/-- the loop's word -/
theorem for_enumT {K : PySem.W.Frag} {a : Addr} {xs : List V} {g : TG} {tb : TS} {D : Ends} {σ : L2.St} {H : Hp} (Pv : Nat → L2.St → Hp → Prop) (h0 : Pv 0 σ H) (hl : ∀ i σ H, i ≤ xs.length → Pv i σ H → SqT K H a xs)
    (hs : ∀ i x σ H T, xs[i]? = some x → Pv i σ H → H T = none → g (.ref T) σ (upd H T (.tup [.int (i : Nat), x])) fun σ2 H2 => tb { D with nx := Pv (i + 1), ct := Pv (i + 1), bk := D.nx } σ2 H2) (hd : ∀ σ H, Pv xs.length σ H → D.nx σ H) :
    ∃ W : Nat → Nat → L2.St → Hp → Prop, (∃ m, W 0 m σ H) ∧ ∀ i m σ H, W i m σ H →
      ((Itu K a).stop i H ∧ D.nx σ H) ∨ ((Itu K a).go i H ∧ ∃ N : L2.St → Hp → Prop, (∀ σ' H', N σ' H' → ∃ m', m' < m ∧ W (i + 1) m' σ' H') ∧ ∀ x H', (Itu K a).yld i H x H' → g x σ H' fun σ2 H2 => tb { D with nx := N, ct := N, bk := D.nx } σ2 H2) := by
  refine ⟨fun i m σ H => m = xs.length - i ∧ i ≤ xs.length ∧ Pv i σ H, ⟨xs.length, by simp, Nat.zero_le _, h0⟩, ?_⟩
  rintro i m σ H ⟨rfl, hi, p⟩
  have q := hl i σ H hi p
  rcases Nat.lt_or_ge i xs.length with lt | ge
  · refine .inr ⟨⟨xs, xs[i], q, by simp [lt]⟩, Pv (i + 1), fun σ2 H2 p2 => ⟨xs.length - (i + 1), by omega, rfl, lt, p2⟩, fun x H2 y => ?_⟩
    obtain ⟨T, z, rfl, nT, rfl, hz⟩ := y
    exact hs i z σ H T (hz xs q) p nT
  · obtain rfl : i = xs.length := by omega
    exact .inl ⟨⟨xs, q, Nat.le_refl _⟩, hd σ H p⟩
end ETup

/-! the checks of sizes and replies -/
namespace My
open PySem L2 Cm LM
abbrev sIIB : Stmt := top 21
abbrev sCKS : Stmt := top 22
abbrev sES : Stmt := inClass (top 6) 0
structure TxEr (K : PySem.W.Frag) (mg : Str → Option Value) (name fld : Str) (st : Stmt) (qual : Str) where
  C : Addr
  f : Addr
  fd : FuncData
  g : mg name = some (.ref C)
  o : OexC K C
  i : PySem.W.findIn K (.ref C) "__init__" = some (some (.ref f))
  t : PySem.W.typeIn K (.ref f) = some (.type "function")
  n : PySem.W.findIn K (.ref C) fld = some none
  F : Fun K "__init__" qual st f fd
  b : Binds K fd ["self", fld] []
structure TxK (K : PySem.W.Frag) (mg : Str → Option Value) where
  isi : mg "isinstance" = none
  int : mg "int" = none
  bool : mg "bool" = none
  tuple : mg "tuple" = none
  len : mg "len" = none
  mr : ∃ t, mg "MOST_REPLIES" = some (.int 100 t)
  mi : ∃ t, mg "MOST_ITEMS" = some (.int 1000 t)
  iib : Df K mg "is_integer_between" sIIB ["value", "low", "high"]
  cks : Df K mg "check_size" sCKS ["size"]
  eS : TxEr K mg "InvalidSize" "value" sES "InvalidSize.__init__"
section
variable {P : Program} {w : World} {K : PySem.W.Frag} {mg : Str → Option Value} {base : Heap}
def spER (fld : Str) (CE : Addr) : Sp := fun vs H Q _ => ∃ (a : Addr) (v : V), vs = [.ref a, v] ∧ H a = some (exo a CE none) ∧ ∀ dx, H dx = none → dx ≠ a → Q .non (upd (upd H dx (exd dx [(fld, v)])) a (exo a CE (some dx)))
theorem scES : FnScope ["self", "value"] ["self", "value"] (defScope sES) := ⟨rfl, rfl, rfl, by decide +kernel, rfl, by decide +kernel, by decide +kernel⟩
theorem ok_eS (T : TxEr K mg "InvalidSize" "value" sES "InvalidSize.__init__") : FnOk P w K mg base CX0 1 T.f T.fd ["self", "value"] (spER "value" T.C) := by
  refine T.F.ok scES (fun vs H Q E h => ?_) (fun cdv A outer s H vs Q E hr h => ?_)
  · obtain ⟨a, v, rfl, _⟩ := h
    rfl
  · obtain ⟨a, v, rfl, ha, k⟩ := h
    exact ⟨_, pss_one (ps_ost (pv 0) (pv 1)), _, rfl, _, rfl, a, T.C, rfl, T.o, T.n, .inl ⟨ha, fun dx n ne => k dx n ne⟩⟩
theorem mk_er {fld : Str} {CE : Addr} {ta : TA} {σ : St} {H : Hp} {Q : XK} {x : V} (h : ta σ H fun vs H1 => vs = [x] ∧ H1 = H) (mono : ∀ {R R' : List V → Hp → Prop}, ta σ H R → (∀ v H1, R v H1 → R' v H1) → ta σ H R')
    (q : ∀ d, H d = none → Q (.ref CE) (some d) (upd H d (.xd [(fld, x)]))) : tMkO CE (spER fld CE) [] ta σ H Q := by
  refine mono h fun vs H1 hh => ?_
  obtain ⟨rfl, rfl⟩ := hh
  refine ⟨by show 1 ≤ 1000; decide, fun a na => ⟨a, x, rfl, upd_same, fun dx ndx nda => ⟨rfl, dx, [(fld, x)], upd_same, ?_, ?_, ?_⟩⟩⟩
  · rw [upd_ne nda, upd_same]
  · rw [upd_ne nda] at ndx
    exact ndx
  · have e : upd (del (upd (upd (upd H1 a (exo a CE none)) dx (exd dx [(fld, x)])) a (exo a CE (some dx))) a) dx (.xd [(fld, x)]) = upd H1 dx (.xd [(fld, x)]) := by
      funext b
      by_cases h1 : b = dx
      · rw [h1, upd_same, upd_same]
      · rw [upd_ne h1, upd_ne h1]
        by_cases h2 : b = a
        · rw [h2, del_same, na]
        · rw [del_ne h2, upd_ne h2, upd_ne h1, upd_ne h2]
    rw [e]
    rw [upd_ne nda] at ndx
    exact q dx ndx
/-! ### is_integer_between -/
def isI : V → Bool
  | .int _ => true
  | _ => false
def isB : V → Bool
  | .bl _ => true
  | _ => false
/-- an integer within these bounds -/
def btw (lo hi : Int) : V → Bool
  | .int i => decide (lo ≤ i ∧ i ≤ hi)
  | _ => false
def TypedI (K : PySem.W.Frag) (H : Hp) (x : V) : Prop := ∃ t, TyX K H x t ∧ PySem.W.kitOne K t (.type "int") = some (isI x || isB x) ∧ PySem.W.kitOne K t (.type "bool") = some (isB x)
theorem TypedI.same {H H' : Hp} {x : V} (s : Same H H') (h : TypedI K H x) : TypedI K H' x := let ⟨t, a, b⟩ := h; ⟨t, TyX_same s a, b⟩
theorem typed_int {H : Hp} (i : Int) : TypedI K H (.int i) := ⟨_, .base (.int i), kit_ty (show kitB "int" "int" = some true by decide +kernel), kit_ty (show kitB "int" "bool" = some false by decide +kernel)⟩
theorem typed_bl {H : Hp} (i : Bool) : TypedI K H (.bl i) := ⟨_, .base (.bl i), kit_ty (show kitB "bool" "int" = some true by decide +kernel), kit_ty (show kitB "bool" "bool" = some true by decide +kernel)⟩
def spIIB (K : PySem.W.Frag) : Sp := fun vs H Q _ => ∃ (v : V) (lo hi : Int), vs = [v, .int lo, .int hi] ∧ TypedI K H v ∧ Q (.bl (btw lo hi v)) H
theorem scIIB : FnScope ["value", "low", "high"] ["value", "low", "high"] (defScope sIIB) := ⟨rfl, rfl, rfl, by decide +kernel, rfl, by decide +kernel, by decide +kernel⟩
theorem ok_iib (M : TxK K mg) : FnOk P w K mg base CX0 1 M.iib.f M.iib.fd ["value", "low", "high"] (spIIB K) := by
  refine M.iib.F.ok scIIB (fun vs H Q E h => ?_) (fun cdv A outer s H vs Q E hr h => ?_)
  · obtain ⟨v, lo, hi, rfl, _⟩ := h
    rfl
  · obtain ⟨v, lo, hi, rfl, ⟨t, ty, k1, k2⟩, k⟩ := h
    refine ⟨_, pss_one (ps_ret (pe_and (pe_callB call_isi (by rfl) M.isi (by decide +kernel) (pa_cons (pv 0) (pa_cons (pe_bltn (v := .ty "int") (by rfl) M.int (by decide +kernel) rfl) pa_nil)))
      (pe_and (pe_not (pe_callB call_isi (by rfl) M.isi (by decide +kernel) (pa_cons (pv 0) (pa_cons (pe_bltn (v := .ty "bool") (by rfl) M.bool (by decide +kernel) rfl) pa_nil))))
        (pe_one (pe_chain op_le op_le (pv 1) (pv 0) (pv 2)))))), ?_⟩
    refine ⟨_, rfl, _, _, _, _, _, rfl, .ty "int", ty, k1, _, rfl, ?_⟩
    cases hv : (isI v || isB v) with
    | false =>
      refine iteF ?_
      have e : btw lo hi v = false := by
        cases v <;> first | rfl | cases hv
      rw [e] at k
      exact k
    | true =>
      refine iteT ?_
      refine ⟨_, rfl, _, _, _, _, _, rfl, .ty "bool", ty, k2, _, rfl, _, rfl, ?_⟩
      cases hb : isB v with
      | true =>
        have e : btw lo hi v = false := by
          cases v <;> first | rfl | cases hb
        rw [e] at k
        exact iteF k
      | false =>
        refine iteT ?_
        rw [hb, Bool.or_false] at hv
        obtain ⟨i, rfl⟩ : ∃ i, v = .int i := by
          cases v <;> first | exact ⟨_, rfl⟩ | cases hv
        refine ⟨_, rfl, _, rfl, _, _, rfl, rfl, _, rfl, ?_⟩
        have k : Q (.bl (decide (lo ≤ i ∧ i ≤ hi))) H := k
        refine ite2 (fun c => ?_) (fun c => ?_)
        · refine ⟨_, rfl, _, _, rfl, rfl, ?_⟩
          have c1 : lo ≤ i := of_decide_eq_true c
          have e : decide (lo ≤ i ∧ i ≤ hi) = decide (i ≤ hi) := decide_eq_decide.mpr ⟨fun z => z.2, fun z => ⟨c1, z⟩⟩
          rw [e] at k
          exact k
        · have c1 : ¬ lo ≤ i := fun z => c (decide_eq_true z)
          rw [show decide (lo ≤ i ∧ i ≤ hi) = false from decide_eq_false fun z => c1 z.1] at k
          exact k
/-! ### check_size -/
def spCKS (K : PySem.W.Frag) (CE : Addr) : Sp := fun vs H Q E => ∃ v : V, vs = [v] ∧ TypedI K H v ∧ (btw 1 1000 v = true → Q .non H) ∧ (btw 1 1000 v = false → ∀ d, H d = none → E (.ref CE) (some d) (upd H d (.xd [("value", v)])))
theorem scCKS : FnScope ["size"] ["size"] (defScope sCKS) := ⟨rfl, rfl, rfl, by decide +kernel, rfl, by decide +kernel, by decide +kernel⟩
theorem ok_cks (M : TxK K mg) : FnOk P w K mg base (L2.CX P w) 3 M.cks.f M.cks.fd ["size"] (spCKS K M.eS.C) := by
  have GI : FnOk P w K mg base CX0 1 M.iib.f M.iib.fd ["value", "low", "high"] (spIIB K) := ok_iib M
  have GE : FnOk P w K mg base CX0 1 M.eS.f M.eS.fd ["self", "value"] (spER "value" M.eS.C) := ok_eS M.eS
  obtain ⟨tm, mi⟩ := M.mi
  refine M.cks.F.okX scCKS (fun vs H Q E h => ?_) (fun cdv A outer s H vs Q E hr h => ?_)
  · obtain ⟨v, rfl, _⟩ := h
    rfl
  · obtain ⟨v, rfl, ty, k1, k2⟩ := h
    have hr1 : Room 1 _ := hr.mono (by decide)
    refine ⟨_, pss_one (ps_if (pt_not (pt_val (pe_call GI hr1 rfl M.iib.g M.iib.k M.iib.b .nil pass0 (pa_cons (pv 0) (pa_cons pe_int (pa_cons (pe_glob (v := .int 1000) rfl mi ⟨_, rfl⟩) pa_nil))))))
      (pss_one (ps_raise rfl (takes_of rfl rfl rfl rfl) (pmk_oex M.eS.o M.eS.i M.eS.t GE hr M.eS.b .nil pass0 rfl M.eS.g (pa_cons (pv 0) pa_nil)))) pss_nil), ?_⟩
    refine ⟨_, rfl, v, 1, 1000, rfl, ty, _, rfl, ?_⟩
    cases hb : btw 1 1000 v with
    | true => exact iteF (k1 hb)
    | false => exact iteT (mk_er (x := v) ⟨v, rfl, rfl, rfl⟩ (fun {R R'} ⟨v, e1, q⟩ f => ⟨v, e1, f _ _ q⟩) (k2 hb))
end
end My

/-! right loops: their words, and loops without a word -/
namespace LM
open PySem L2 TL
theorem part_back {x y : Str} (h : ((Txt.partition x y).2.1.length != 0) = true) : x = (Txt.partition x y).1 ++ y ++ (Txt.partition x y).2.2 := by
  rcases PyProof.Rows.partition_whole x y with ⟨e, _⟩ | ⟨i, e, hi, _⟩
  · rw [e] at h
    exact absurd (show ((Str.empty).length != 0) = true from h) (by decide)
  · rw [e]
    refine ext_tl ?_
    rw [tl_append, tl_append, tl_strSub, tl_strSub_end, List.drop_zero, Nat.sub_zero]
    by_cases hy : tl y = []
    · have : y.length = 0 := by rw [len_tl, hy]; rfl
      rw [hy, this, List.append_nil, Nat.add_zero, List.take_append_drop]
    · have hp := (at_iff hy i).mp hi
      have e2 : ((tl x).drop i).take (tl y).length = tl y := eq_of_beq hp
      have e3 : tl y ++ (tl x).drop (i + y.length) = (tl x).drop i := by
        rw [len_tl y, ← drop_two]
        have := List.take_append_drop (tl y).length ((tl x).drop i)
        rw [e2] at this
        exact this
      rw [List.append_assoc, e3, List.take_append_drop]
theorem word_wd {w : Str} {ss : List Str} (h : isWord w ss = true) : Wd ss w := by
  unfold isWord at h
  cases hc : ((Txt.partition w ":").2.1.length != 0) with
  | true =>
    rw [if_pos hc] at h
    have h2 := Bool.and_eq_true_iff.mp h
    exact ⟨_, of_decide_eq_true h2.2, .inr ⟨_, of_decide_eq_true h2.1, part_back hc⟩⟩
  | false =>
    rw [if_neg (by rw [hc]; exact Bool.false_ne_true)] at h
    exact ⟨w, of_decide_eq_true h, .inl rfl⟩
/-- free and short -/
def FS (w : Str) : Prop := Fre w ∧ w.length ≤ 11
theorem wd_fs {w : Str} (h : Wd rsteps w) : FS w := by
  have := wd_ok w h.mem
  unfold wdOk at this
  simp only [Bool.and_eq_true, decide_eq_true_eq] at this
  exact ⟨⟨this.2.1, this.2.2.1⟩, this.2.2.2⟩
theorem e_r : ∀ s ∈ esteps, s ∈ rsteps := by decide +kernel
theorem ask_fs : FS "ask" := ⟨⟨by decide +kernel, by decide +kernel⟩, by decide +kernel⟩
theorem areWords_iff {ws ss : List Str} : areWords ws ss = true ↔ ∀ w ∈ ws, isWord w ss = true := List.all_eq_true
theorem isRound_iff {B : List Str} : isRound B = true ↔ ∃ r, B = ("ask" : Str) :: r ∧ B.length ≤ 12 ∧ (B.filter isAdd).length ≤ 1 ∧ ∀ w ∈ r, isWord w rsteps = true := by
  unfold isRound
  simp only [Bool.and_eq_true, decide_eq_true_eq, areWords_iff]
  constructor
  · rintro ⟨h1, h2, h3, h4⟩
    cases B with
    | nil => cases h1
    | cons x r =>
      have : x = "ask" := Option.some.inj h1
      subst this
      exact ⟨r, rfl, h2, h3, h4⟩
  · rintro ⟨r, rfl, h2, h3, h4⟩
    exact ⟨rfl, h2, h3, h4⟩
theorem isEnding_iff {E : List Str} : isEnding E = true ↔ E.length ≤ 6 ∧ ∀ w ∈ E, isWord w esteps = true := by
  unfold isEnding
  simp only [Bool.and_eq_true, decide_eq_true_eq, areWords_iff]
theorem round_fs {B : List Str} (h : isRound B = true) : ∀ w ∈ B, FS w := by
  obtain ⟨r, rfl, _, _, h4⟩ := isRound_iff.mp h
  intro w hw
  rcases List.mem_cons.mp hw with rfl | hw
  · exact ask_fs
  · exact wd_fs (word_wd (h4 w hw))
theorem ending_fs {E : List Str} (h : isEnding E = true) : ∀ w ∈ E, FS w := fun w hw => wd_fs ((word_wd ((isEnding_iff.mp h).2 w hw)).mono e_r)
theorem round_ne {B : List Str} (h : isRound B = true) : B ≠ [] := by
  obtain ⟨r, rfl, _⟩ := isRound_iff.mp h
  simp
theorem round_sht {B : List Str} (h : isRound B = true) : Sht 12 B := ⟨fun w hw => (round_fs h w hw).2, let ⟨_, _, h2, _⟩ := isRound_iff.mp h; h2⟩
theorem ending_sht {E : List Str} (h : isEnding E = true) : Sht 6 E := ⟨fun w hw => (ending_fs h w hw).2, (isEnding_iff.mp h).1⟩
theorem Sht.mono {n m : Nat} {B : List Str} (h : Sht n B) (l : n ≤ m) : Sht m B := ⟨h.1, Nat.le_trans h.2 l⟩
theorem text_words {B E : List Str} (hB : isRound B = true) (hE : isEnding E = true) : wordsR (textOf B E) = B ∧ wordsE (textOf B E) = E := words_text (round_ne hB) (fun w hw => (round_fs hB w hw).1) (fun w hw => (ending_fs hE w hw).1)
theorem text_good {B E : List Str} (hB : isRound B = true) (hE : isEnding E = true) : goodText (textOf B E) = true := by
  have := text_words hB hE
  unfold goodText
  rw [this.1, this.2, hB, hE]
  rfl
theorem text_len {B E : List Str} (hB : isRound B = true) (hE : isEnding E = true) : (textOf B E).length ≤ 300 := by
  have h1 := (round_sht hB).join
  have h2 := (ending_sht hE).join
  unfold textOf
  split
  · omega
  · rw [strLen_append, strLen_append]
    have : (" | " : Str).length = 3 := by decide +kernel
    omega
/-- without the word at i -/
theorem round_erase {B : List Str} {i : Nat} (hB : isRound B = true) (hi : 1 ≤ i) : isRound (B.eraseIdx i) = true := by
  obtain ⟨r, rfl, h2, h3, h4⟩ := isRound_iff.mp hB
  obtain ⟨k, rfl⟩ : ∃ k, i = k + 1 := ⟨i - 1, by omega⟩
  have sub : (("ask" : Str) :: r.eraseIdx k).Sublist (("ask" : Str) :: r) := (List.eraseIdx_sublist r k).cons_cons _
  refine isRound_iff.mpr ⟨r.eraseIdx k, rfl, Nat.le_trans sub.length_le h2, Nat.le_trans (sub.filter isAdd).length_le h3, fun w hw => h4 w ((List.eraseIdx_sublist r k).subset hw)⟩
theorem ending_erase {E : List Str} {i : Nat} (hE : isEnding E = true) : isEnding (E.eraseIdx i) = true := by
  have h := isEnding_iff.mp hE
  exact isEnding_iff.mpr ⟨Nat.le_trans (List.eraseIdx_sublist E i).length_le h.1, fun w hw => h.2 w ((List.eraseIdx_sublist E i).subset hw)⟩
theorem good_iff {t : Str} : goodText t = true ↔ isRound (wordsR t) = true ∧ isEnding (wordsE t) = true := Bool.and_eq_true_iff
end LM

/-! Loop.execution, Loop.run -/
namespace My
open PySem L2 Cm LM EM
abbrev sLX : Stmt := inClass (top 37) 8
/-! ### the mirror -/
def itemsF (f c : Nat) : List Int := (List.range c).map fun i => (f : Int) + (i : Nat)
theorem itemsF_len (f c : Nat) : (itemsF f c).length = c := by rw [itemsF, List.length_map, List.length_range]
theorem rgV_items (f c : Nat) : rgV (f : Int) ((f : Int) + (c : Int)) = ivs (itemsF f c) := by
  unfold rgV itemsF ivs
  rw [show ((f : Int) + (c : Int) - (f : Int)).toNat = c by omega, List.map_map]
  rfl
/-- what a run has done: the row, the first item that comes next, the replies used, whether it has stopped -/
structure RS where
  x : RP
  f : Nat
  u : Nat
  st : Bool
def stepM (sz : Nat) (ro eo : List (Str × Str)) (s : RS) (r : Nat × Bool) : RS := if s.st = true then s else ⟨(ansM sz ro eo (itemsF s.f r.1) r.2 s.x).1, s.f + r.1, s.u + 1, (ansM sz ro eo (itemsF s.f r.1) r.2 s.x).2⟩
def runM (sz : Nat) (ro eo : List (Str × Str)) (rs : List (Nat × Bool)) : RS := rs.foldl (stepM sz ro eo) ⟨⟨[], []⟩, 0, 0, false⟩
theorem runM_stop {sz : Nat} {ro eo : List (Str × Str)} : ∀ {rs : List (Nat × Bool)} {s : RS}, s.st = true → rs.foldl (stepM sz ro eo) s = s
  | [], _, _ => rfl
  | r :: rs, s, h => by
    rw [List.foldl_cons, show stepM sz ro eo s r = s by unfold stepM; rw [if_pos h]]
    exact runM_stop h
theorem fold_bound {sz : Nat} {ro eo : List (Str × Str)} (hs : 1 ≤ sz) (l1 : ro.length ≤ 12) (l2 : eo.length ≤ 6) : ∀ (rs : List (Nat × Bool)) (k : Nat) (s : RS), k + rs.length ≤ 100 → (∀ r ∈ rs, r.1 ≤ sz) → Few sz (18 * k) (k * 32724) s.x → s.f ≤ k * sz → s.u ≤ k →
    Few sz (18 * (k + rs.length)) ((k + rs.length) * 32724) (rs.foldl (stepM sz ro eo) s).x ∧ (rs.foldl (stepM sz ro eo) s).f ≤ (k + rs.length) * sz ∧ (rs.foldl (stepM sz ro eo) s).u ≤ k + rs.length
  | [], k, s, _, _, f1, f2, f3 => ⟨f1, f2, f3⟩
  | r :: rs, k, s, hn, hr, f1, f2, f3 => by
    rw [List.length_cons] at hn
    have em : (k + 1) * sz = k * sz + sz := Nat.succ_mul _ _
    have hr1 : r.1 ≤ sz := hr r (List.mem_cons_self ..)
    have st : Few sz (18 * (k + 1)) ((k + 1) * 32724) (stepM sz ro eo s r).x ∧ (stepM sz ro eo s r).f ≤ (k + 1) * sz ∧ (stepM sz ro eo s r).u ≤ k + 1 := by
      unfold stepM
      split
      · exact ⟨f1.mono (by omega) (by omega), by omega, by omega⟩
      · refine ⟨?_, by show s.f + r.1 ≤ _; omega, by show s.u + 1 ≤ _; omega⟩
        have := few_ans (ro := ro) (eo := eo) (held := itemsF s.f r.1) (told := r.2) hs (by rw [itemsF_len]; exact hr1) l1 l2 f1
        exact this.mono (by omega) (by omega)
    have ih := fold_bound hs l1 l2 rs (k + 1) (stepM sz ro eo s r) (by omega) (fun q hq => hr q (List.mem_cons_of_mem _ hq)) st.1 st.2.1 st.2.2
    rw [List.foldl_cons, List.length_cons, show k + (rs.length + 1) = k + 1 + rs.length by omega]
    exact ih
theorem runM_bound {sz : Nat} {ro eo : List (Str × Str)} (hs : 1 ≤ sz) (l1 : ro.length ≤ 12) (l2 : eo.length ≤ 6) (rs : List (Nat × Bool)) (hn : rs.length ≤ 100) (hr : ∀ r ∈ rs, r.1 ≤ sz) :
    Few sz (18 * rs.length) (rs.length * 32724) (runM sz ro eo rs).x ∧ (runM sz ro eo rs).f ≤ rs.length * sz ∧ (runM sz ro eo rs).u ≤ rs.length := by
  have := fold_bound (ro := ro) (eo := eo) hs l1 l2 rs 0 ⟨⟨[], []⟩, 0, 0, false⟩ (by omega) hr ⟨Nat.zero_le _, Nat.zero_le _⟩ (Nat.zero_le _) (Nat.zero_le _)
  rw [Nat.zero_add] at this
  exact this
/-- rows of replies -/
inductive Rps (H : Hp) : List V → List (Nat × Bool) → Prop
  | nil : Rps H [] []
  | cons {q : Addr} {r : Nat × Bool} {vs : List V} {rs : List (Nat × Bool)} (h : H q = some (.tup [.int r.1, .bl r.2])) (t : Rps H vs rs) : Rps H (.ref q :: vs) (r :: rs)
theorem Rps.mono {H H' : Hp} (f : ∀ (p : Addr) (xs : List V), H p = some (.tup xs) → H' p = some (.tup xs)) : ∀ {vs rs}, Rps H vs rs → Rps H' vs rs
  | _, _, .nil => .nil
  | _, _, .cons h t => .cons (f _ _ h) (t.mono f)
theorem Rps.same {H H' : Hp} (s : Same H H') {vs rs} (h : Rps H vs rs) : Rps H' vs rs := h.mono fun _ _ e => s _ _ e
theorem Rps.len {H : Hp} : ∀ {vs rs}, Rps H vs rs → vs.length = rs.length
  | _, _, .nil => rfl
  | _, _, .cons _ t => congrArg (· + 1) t.len
theorem Rps.get {H : Hp} : ∀ {vs rs} {i : Nat} {y : V}, Rps H vs rs → vs[i]? = some y → ∃ (q : Addr) (r : Nat × Bool), rs[i]? = some r ∧ y = .ref q ∧ H q = some (.tup [.int r.1, .bl r.2])
  | _, _, i, y, .nil, h => by simp at h
  | _, _, 0, y, .cons h _, e => ⟨_, _, rfl, (Option.some.inj e).symm, h⟩
  | _, _, i + 1, y, .cons _ t, e => t.get (i := i) e
structure TxN (K : PySem.W.Frag) (mg : Str → Option Value) where
  T : TxC K mg
  X : TxX K mg
  k : TxK K mg
  lx : Mt K T.C "execution" "Loop.execution" sLX ["self", "size", "kept"]
def ordsR (t : Str) : List (Str × Str) := (wordsR t).map orderOf
def ordsE (t : Str) : List (Str × Str) := (wordsE t).map orderOf
section
variable {P : Program} {w : World} {K : PySem.W.Frag} {mg : Str → Option Value} {base : Heap}
def spLX (CL CX : Addr) : Sp := fun vs H Q _ => ∃ (o r : Addr) (t : Str) (sz : Nat) (rest : List Int), vs = [.ref o, .int sz, .ref r] ∧ LoopAt CL H o t ∧ H r = some (.tup (ivs rest)) ∧
  ∀ (H' : Hp) (x dx ro eo p : Addr), Same H H' → H x = none → H p = none → ExAt CX H' x dx ro eo p 0 sz [] false ⟨rest, []⟩ false → OrdT H' ro (ordsR t) → OrdT H' eo (ordsE t) → Q (.ref x) H'
theorem scLX : FnScope ["self", "size", "kept"] ["self", "size", "kept"] (defScope sLX) := ⟨rfl, rfl, rfl, by decide +kernel, rfl, by decide +kernel, by decide +kernel⟩
theorem ok_lx (N : TxN K mg) : FnOk P w K mg base CX0 3 N.lx.f N.lx.fd ["self", "size", "kept"] (spLX N.T.C N.X.C) := by
  have GI : FnOk P w K mg base CX0 1 N.X.fI N.X.fdI ["self", "round_orders", "ending_orders", "size", "kept"] (spXI N.X.C) := ok_xi N.X
  refine N.lx.F.ok scLX (fun vs H Q E h => ?_) (fun cdv A outer s H vs Q E hr h => ?_)
  · obtain ⟨o, r, t, sz, rest, rfl, _⟩ := h
    rfl
  · obtain ⟨o, r, t, sz, rest, rfl, ⟨dx, pr, pe, po, pq, e, _, _, h1, h2⟩, hr', k⟩ := h
    refine ⟨_, pss_one (ps_ret (pe_make N.X.MI GI hr rfl N.X.gC N.X.bI .nil pass0 (pa_cons (pe_fld (pv 0) rfl) (pa_cons (pe_fld (pv 0) rfl) (pa_cons (pv 1) (pa_cons (pv 2) pa_nil)))))), ?_⟩
    refine ⟨_, rfl, o, N.T.C, dx, _, _, rfl, e, N.T.cl, N.T.nO, lf_ro .., _, rfl, o, N.T.C, dx, _, _, rfl, e, N.T.cl, N.T.nQ, lf_eo .., _, rfl, _, rfl, ?_⟩
    intro x dx' nx ndx nex
    refine ⟨x, dx', po, pq, r, sz, rest, rfl, upd_same, ?_, fun H2 p o2 np X2 => ⟨rfl, ?_⟩⟩
    · rw [upd_ne (ne_of_none hr' nx), upd_ne (ne_of_none hr' ndx)]
      exact hr'
    · have s2 := made_same nx ndx o2
      have np0 : H p = none := by
        by_cases e1 : p = x
        · rw [e1]; exact nx
        · rw [upd_ne e1] at np
          by_cases e2 : p = dx'
          · rw [e2]; exact ndx
          · rw [upd_ne e2] at np
            exact np
      exact k H2 x dx' po pq p s2 nx np0 X2 (h1.mono fun _ _ z => s2 _ _ z) (h2.mono fun _ _ z => s2 _ _ z)
end
theorem Pcs.app {H : Hp} : ∀ {vs xs ws ys}, Pcs H vs xs → Pcs H ws ys → Pcs H (vs ++ ws) (xs ++ ys)
  | _, _, _, _, .nil, h => h
  | _, _, _, _, .cons a t, h => .cons a (t.app h)
theorem Pcs.same {H H' : Hp} (s : Same H H') {vs xs} (h : Pcs H vs xs) : Pcs H' vs xs := h.mono fun _ _ e => s _ _ e
def intD (xs : List Int) : List PyData := xs.map PyData.int
theorem dpI {K : PySem.W.Frag} {H : Hp} : ∀ xs : List Int, DpAll K H (ivs xs) (intD xs)
  | [] => .nil
  | x :: r => .cons (.int x) (dpI r)
theorem intD_lay : ∀ xs : List Int, PyData.canLayAll0 (intD xs) = true
  | [] => by simp [intD, PyData.canLayAll0]
  | x :: r => by
    have := intD_lay r
    simp only [intD, List.map_cons, PyData.canLayAll0, PyData.canLay0, Bool.true_and] at this ⊢
    exact this
theorem intD_depth : ∀ xs : List Int, PyData.depthAll (intD xs) ≤ 1
  | [] => by simp [intD, PyData.depthAll]
  | x :: r => by
    have := intD_depth r
    simp only [intD, List.map_cons, PyData.depthAll, PyData.depth] at this ⊢
    omega
theorem intD_shaped (xs : List Int) : SeqAt.shaped (.list (intD xs)) = true := by
  have := intD_depth xs
  refine Bool.and_eq_true_iff.mpr ⟨by simp only [PyData.canLay0]; exact intD_lay xs, decide_eq_true ?_⟩
  simp only [PyData.depth]
  omega
theorem eqv_inil (xs : List Int) : PyData.eqv (.list (intD xs)) (.list []) = decide (xs = []) := by
  cases xs with
  | nil => simp [intD, PyData.eqv, PyData.eqvAll]
  | cons x r => simp [intD, PyData.eqv, PyData.eqvAll]
theorem pos_nil (xs : List Int) : decide (0 < xs.length) = !decide (xs = []) := by cases xs <;> simp
end My

/-! shown data as data: code points, lengths -/
namespace SkT
open PySem
theorem ok_of (s : String) : PyData.strOk (Str.ofString s) = true := by
  unfold PyData.strOk
  rw [Str.ofString_eq_toList, List.all_toArray, List.all_eq_true]
  intro n hn
  obtain ⟨c, _, rfl⟩ := List.mem_map.mp hn
  refine decide_eq_true ?_
  have := c.valid
  unfold Char.toNat
  rcases this with h | h
  · exact Nat.lt_trans h (by decide)
  · exact h.2
theorem ok_app {a b : Str} (h1 : PyData.strOk a = true) (h2 : PyData.strOk b = true) : PyData.strOk (a ++ b) = true := by
  unfold PyData.strOk at h1 h2 ⊢
  show (a.cps ++ b.cps).all _ = true
  rw [Array.all_append, h1, h2]
  rfl
theorem ok_join {sep : Str} (hs : PyData.strOk sep = true) : ∀ {ts : List Str}, (∀ t ∈ ts, PyData.strOk t = true) → PyData.strOk (Str.join sep ts) = true
  | [], _ => (by decide +kernel : PyData.strOk Str.empty = true)
  | [x], h => h x List.mem_cons_self
  | x :: y :: r, h => ok_app (ok_app (h x List.mem_cons_self) hs) (ok_join hs fun t ht => h t (List.mem_cons_of_mem _ ht))
theorem ok_from : ∀ {ts : List Str} {k : Nat} {acc : Str}, PyData.strOk acc = true → (∀ t ∈ ts, PyData.strOk t = true) → PyData.strOk (textFrom k acc ts) = true
  | [], _, _, ha, _ => ha
  | t :: r, k, acc, ha, h => by
    rw [textFrom]
    exact ok_from (ok_app (ok_app ha (ok_of _)) (h t List.mem_cons_self)) fun x hx => h x (List.mem_cons_of_mem _ hx)
theorem ok_list {ts : List Str} (h : ∀ t ∈ ts, PyData.strOk t = true) : PyData.strOk (listText ts) = true := ok_app (ok_from (ok_of _) h) (ok_of _)
theorem ok_tup {ts : List Str} (h : ∀ t ∈ ts, PyData.strOk t = true) : PyData.strOk (tupleText ts) = true := ok_app (ok_app (ok_of _) (ok_join (ok_of _) h)) (ok_of _)
theorem join_le : ∀ ts : List Str, (Str.join ", " ts).length ≤ (ts.map fun t => t.length + 2).sum
  | [] => Nat.le_refl _
  | [x] => by
    show x.length ≤ _
    simp
  | x :: y :: r => by
    show (x ++ ", " ++ Str.join ", " (y :: r)).length ≤ _
    rw [strLen_append, strLen_append, show (", " : Str).length = 2 by decide +kernel]
    have := join_le (y :: r)
    rw [List.map_cons, List.sum_cons]
    omega
theorem tup_le (ts : List Str) : (tupleText ts).length ≤ (ts.map fun t => t.length + 2).sum + 3 := by
  unfold tupleText
  rw [strLen_append, strLen_append, show ("(" : Str).length = 1 by decide +kernel]
  have := join_le ts
  have : (Str.ofString (if ts.length == 1 then ",)" else ")" : String)).length ≤ 2 := by
    split
    · decide +kernel
    · decide +kernel
  omega
theorem from_le : ∀ (ts : List Str) (k : Nat) (acc : Str), (textFrom k acc ts).length ≤ acc.length + (ts.map fun t => t.length + 2).sum
  | [], _, _ => by simp [textFrom]
  | t :: r, k, acc => by
    rw [textFrom]
    have ih := from_le r (k + 1) (acc ++ (if k > 0 then ", " else "" : String) ++ t)
    rw [strLen_append, strLen_append] at ih
    have : (Str.ofString (if k > 0 then ", " else "" : String)).length ≤ 2 := by
      split
      · decide +kernel
      · decide +kernel
    rw [List.map_cons, List.sum_cons]
    omega
theorem list_le (ts : List Str) : (listText ts).length ≤ (ts.map fun t => t.length + 2).sum + 2 := by
  unfold listText
  rw [strLen_append, show ("]" : Str).length = 1 by decide +kernel]
  have := from_le ts 0 "["
  rw [show ("[" : Str).length = 1 by decide +kernel] at this
  omega
/-- data that can be shown; n bounds its text, k its depth -/
structure Sw (n k : Nat) (d : PyData) : Prop where
  sh : d.showable = true
  dp : d.depth ≤ k
  ln : d.shown.length ≤ n
  ok : PyData.strOk d.shown = true
theorem Sw.mono {n m k j : Nat} {d : PyData} (h : Sw n k d) (a : n ≤ m) (b : k ≤ j) : Sw m j d := ⟨h.sh, Nat.le_trans h.dp b, Nat.le_trans h.ln a, h.ok⟩
theorem sw_all {n k : Nat} : ∀ {ds : List PyData}, (∀ x ∈ ds, Sw n k x) → PyData.showableAll ds = true ∧ PyData.depthAll ds ≤ k ∧ ((PyData.shownAll ds).map fun t => t.length + 2).sum ≤ (n + 2) * ds.length ∧ ∀ t ∈ PyData.shownAll ds, PyData.strOk t = true
  | [], _ => ⟨rfl, by simp [PyData.depthAll], by simp [PyData.shownAll], fun t h => by simp [PyData.shownAll] at h⟩
  | d :: r, h => by
    obtain ⟨a, b, c, e⟩ := sw_all (ds := r) fun x hx => h x (List.mem_cons_of_mem _ hx)
    have hd := h d List.mem_cons_self
    refine ⟨?_, ?_, ?_, ?_⟩
    · rw [PyData.showableAll, a, hd.sh]; rfl
    · rw [PyData.depthAll]; exact Nat.max_le.mpr ⟨hd.dp, b⟩
    · rw [PyData.shownAll, List.map_cons, List.sum_cons, List.length_cons, Nat.mul_succ]
      have := hd.ln
      omega
    · intro t ht
      rw [PyData.shownAll] at ht
      rcases List.mem_cons.mp ht with rfl | z
      · exact hd.ok
      · exact e t z
theorem sw_tup {n k : Nat} {ds : List PyData} (h : ∀ x ∈ ds, Sw n k x) : Sw ((n + 2) * ds.length + 3) (k + 1) (.tuple ds) := by
  obtain ⟨a, b, c, e⟩ := sw_all h
  refine ⟨by rw [PyData.showable]; exact a, by rw [PyData.depth]; omega, ?_, ?_⟩
  · rw [PyData.shown]
    exact Nat.le_trans (tup_le _) (by omega)
  · rw [PyData.shown]
    exact ok_tup e
theorem sw_lst {n k : Nat} {ds : List PyData} (h : ∀ x ∈ ds, Sw n k x) : Sw ((n + 2) * ds.length + 2) (k + 1) (.list ds) := by
  obtain ⟨a, b, c, e⟩ := sw_all h
  refine ⟨by rw [PyData.showable]; exact a, by rw [PyData.depth]; omega, ?_, ?_⟩
  · rw [PyData.shown]
    exact Nat.le_trans (list_le _) (by omega)
  · rw [PyData.shown]
    exact ok_list e
theorem log_nat {n : Nat} (h : n < 10 ^ 20) : (n : Nat).log2 < 1920 := by
  by_cases h0 : n = 0
  · rw [h0]; decide
  · exact Nat.lt_of_lt_of_le ((Nat.log2_lt h0).mpr (Nat.lt_of_lt_of_le h (show 10 ^ 20 ≤ 2 ^ 70 by decide))) (by decide)
theorem sw_int {i : Int} {n : Nat} (h : i.natAbs < 10 ^ 20) (hl : (PyData.shown (.int i)).length ≤ n) : Sw n 0 (.int i) := ⟨by simp only [PyData.showable, decide_eq_true_eq]; exact log_nat h, by simp [PyData.depth], hl, ok_of _⟩
theorem sw_bl (b : Bool) : Sw 5 0 (.bool b) := by cases b <;> exact ⟨rfl, by simp [PyData.depth], by decide +kernel, by decide +kernel⟩
theorem sw_non : Sw 4 0 .none := ⟨rfl, by simp [PyData.depth], by decide +kernel, by decide +kernel⟩
/-- two rows of two words as data -/
theorem shaped2 {a b : Str} (h1 : PyData.strOk a = true) (h2 : PyData.strOk b = true) : SeqAt.shaped (.list [.str a, .str b]) = true := by
  unfold SeqAt.shaped
  simp [PyData.canLay0, PyData.canLayAll0, h1, h2, PyData.depth, PyData.depthAll]
theorem shaped3 {a b : Str} {c : Bool} (h1 : PyData.strOk a = true) (h2 : PyData.strOk b = true) : SeqAt.shaped (.list [.str a, .str b, .bool c]) = true := by
  unfold SeqAt.shaped
  simp [PyData.canLay0, PyData.canLayAll0, h1, h2, PyData.depth, PyData.depthAll]
end SkT

/-! replies and pieces as data -/
namespace My
open PySem L2 Cm LM EM
def repsD (rs : List (Nat × Bool)) : List PyData := rs.map fun r => PyData.tuple [.int (r.1 : Nat), .bool r.2]
def pcsD (ps : List (List Int)) : List PyData := ps.map fun p => PyData.tuple (intD p)
theorem rps_dp {K : PySem.W.Frag} {H : Hp} : ∀ {vs rs}, Rps H vs rs → DpAll K H vs (repsD rs)
  | _, _, .nil => .nil
  | _, _, .cons h t => .cons (.tup (SqT.of h) (.cons (.int _) (.cons (.bl _) .nil))) (rps_dp t)
theorem pcs_dp {K : PySem.W.Frag} {H : Hp} : ∀ {vs ps}, Pcs H vs ps → DpAll K H vs (pcsD ps)
  | _, _, .nil => .nil
  | _, _, .cons h t => .cons (.tup (SqT.of h) (dpI _)) (pcs_dp t)
theorem repsD_lay : ∀ rs : List (Nat × Bool), PyData.canLayAll0 (repsD rs) = true ∧ PyData.depthAll (repsD rs) ≤ 1
  | [] => ⟨by simp [repsD, PyData.canLayAll0], by simp [repsD, PyData.depthAll]⟩
  | r :: q => by
    obtain ⟨a, b⟩ := repsD_lay q
    have e : repsD (r :: q) = PyData.tuple [.int (r.1 : Nat), .bool r.2] :: repsD q := rfl
    rw [e]
    refine ⟨?_, ?_⟩
    · rw [PyData.canLayAll0, a]; simp [PyData.canLay0, PyData.canLayAll0]
    · rw [PyData.depthAll]; exact Nat.max_le.mpr ⟨by simp [PyData.depth, PyData.depthAll], b⟩
theorem pcsD_lay : ∀ ps : List (List Int), PyData.canLayAll0 (pcsD ps) = true ∧ PyData.depthAll (pcsD ps) ≤ 2
  | [] => ⟨by simp [pcsD, PyData.canLayAll0], by simp [pcsD, PyData.depthAll]⟩
  | p :: q => by
    obtain ⟨a, b⟩ := pcsD_lay q
    have e : pcsD (p :: q) = PyData.tuple (intD p) :: pcsD q := rfl
    have h := intD_depth p
    rw [e]
    refine ⟨?_, ?_⟩
    · rw [PyData.canLayAll0, a, PyData.canLay0, intD_lay]; rfl
    · rw [PyData.depthAll]; exact Nat.max_le.mpr ⟨by rw [PyData.depth]; omega, b⟩
end My

/-! raise C() of an own class without own __init__ -/
namespace MkO
open PySem PySem.Spec PyProof.Rows L2
section
variable {X : Cx}
theorem pmk_own0 {C : Addr} {bmB : List Value} {B newId initId : String} {x : Str} {p pos : Pos} (F : ExcBaseFacts B newId initId bmB) (q : PySem.W.excIn X.K C bmB newId = true) (gC : X.mg x = some (.ref C))
    (kC : PySem.W.keepIn X.K (.ref C) = true) (r : Raises X (.ref C)) (hg : Gl X x) (hdb : (x == ("__debug__" : Str)) = false := by decide) :
    PMk X (.Call (.Name x p) [] [] pos) (fun _ H Q => Q (.ref C) none H) := by
  intro pins s σ H Q I h
  refine wpAny_Call_Name_kw (ld_glob I hg gC ?_ hdb)
  refine PySem.W.callWith_K0 I.kIn kC ?_
  show wpAny _ _ (call (.ref C) []) _ _ _
  obtain ⟨bm, N, nm, qn, bs, hdct, sn, sub, ab, col, dd, k0, k1, k2, k3, k5, mN, hC, hN, hni, T⟩ := exc_obj I.kIn q
  refine wpAny_call_exc_subT F T hC hN hni (fun h' e hm => ?_) (by show 0 ≤ sizeLine; rw [sizeLine_eq]; omega)
  exact mk_of I hm r h (I.hok.gone hm.new)
end
end MkO

/-! pieces that were handed before do not matter -/
namespace EM
open PySem L2
def addP (ps : List (List Int)) (x : RP) : RP := ⟨x.rest, ps ++ x.pieces⟩
theorem addP_rest (ps : List (List Int)) (x : RP) : (addP ps x).rest = x.rest := rfl
theorem perf_add (size : Nat) (held : List Int) (s : Str) (ps : List (List Int)) (x : RP) : perfM size held s (addP ps x) = addP ps (perfM size held s x) := by
  unfold perfM addP
  split
  · rfl
  · split
    · show RP.mk _ _ = RP.mk _ _
      rw [List.append_assoc]
    · split
      · show RP.mk _ _ = RP.mk _ _
        rw [List.append_assoc]
      · split
        · show RP.mk _ _ = RP.mk _ _
          rw [List.append_assoc]
        · rfl
theorem run_add (size : Nat) (held : List Int) (told : Bool) (ps : List (List Int)) : ∀ (os : List (Str × Str)) (x : RP), runW size held told os (addP ps x) = (addP ps (runW size held told os x).1, (runW size held told os x).2)
  | [], x => rfl
  | (t, s) :: r, x => by
    unfold runW
    rw [addP_rest]
    split
    · split
      · rfl
      · split
        · rfl
        · rw [perf_add]
          exact run_add size held told ps r _
    · exact run_add size held told ps r x
theorem end_add (size : Nat) (held : List Int) (told : Bool) (ps : List (List Int)) : ∀ (os : List (Str × Str)) (x : RP), endW size held told os (addP ps x) = addP ps (endW size held told os x)
  | [], x => rfl
  | (t, s) :: r, x => by
    unfold endW
    rw [addP_rest]
    split
    · rw [perf_add]
      exact end_add size held told ps r _
    · exact end_add size held told ps r x
theorem ans_add (size : Nat) (ro eo : List (Str × Str)) (held : List Int) (told : Bool) (ps : List (List Int)) (x : RP) : ansM size ro eo held told (addP ps x) = (addP ps (ansM size ro eo held told x).1, (ansM size ro eo held told x).2) := by
  unfold ansM
  rw [run_add]
  split
  · rw [end_add]
  · rfl
/-- from the rest alone -/
theorem ans_from (size : Nat) (ro eo : List (Str × Str)) (held : List Int) (told : Bool) (x : RP) : ansM size ro eo held told x = (⟨(ansM size ro eo held told ⟨x.rest, []⟩).1.rest, x.pieces ++ (ansM size ro eo held told ⟨x.rest, []⟩).1.pieces⟩, (ansM size ro eo held told ⟨x.rest, []⟩).2) := by
  have e : x = addP x.pieces ⟨x.rest, []⟩ := by
    obtain ⟨r, p⟩ := x
    show RP.mk r p = RP.mk r (p ++ [])
    rw [List.append_nil]
  conv => lhs; rw [e, ans_add]
  rfl
end EM

/-! readings: Moment, Reading -/
namespace My
open PySem L2 Cm LM EM
abbrev sMmI : Stmt := inClass (top 39) 0
abbrev sRdI : Stmt := inClass (top 44) 0
abbrev sRdG : Stmt := inClass (top 44) 1
abbrev sRdH : Stmt := inClass (top 44) 2
abbrev sRdK : Stmt := inClass (top 44) 3
abbrev sRdO : Stmt := inClass (top 44) 4
abbrev sRdL : Stmt := inClass (top 44) 5
abbrev sRdR : Stmt := inClass (top 44) 6
abbrev sRdF : Stmt := inClass (top 44) 7
abbrev sRdU : Stmt := inClass (top 44) 9
abbrev sRdCf : Stmt := inClass (top 44) 11
abbrev sRdCr : Stmt := inClass (top 44) 12
abbrev sRdT : Stmt := inClass (top 44) 13
abbrev sCKL : Stmt := top 36
/-! ### what has been read, from the last reply on -/
def stR (sz : Nat) (ro eo : List (Str × Str)) : List (Nat × Bool) → RS
  | [] => ⟨⟨[], []⟩, 0, 0, false⟩
  | r :: rr => stepM sz ro eo (stR sz ro eo rr) r
def OkR (sz : Nat) (ro eo : List (Str × Str)) : List (Nat × Bool) → Prop
  | [] => True
  | _ :: rr => (stR sz ro eo rr).st = false ∧ OkR sz ro eo rr
section
variable {sz : Nat} {ro eo : List (Str × Str)}
theorem st_run : ∀ rr : List (Nat × Bool), runM sz ro eo rr.reverse = stR sz ro eo rr
  | [] => rfl
  | r :: rr => by
    have ih := st_run rr
    unfold runM at ih ⊢
    rw [List.reverse_cons, List.foldl_append, ih]
    rfl
theorem st_cons {r : Nat × Bool} {rr : List (Nat × Bool)} (h : (stR sz ro eo rr).st = false) : stR sz ro eo (r :: rr) = ⟨(ansM sz ro eo (itemsF (stR sz ro eo rr).f r.1) r.2 (stR sz ro eo rr).x).1, (stR sz ro eo rr).f + r.1, (stR sz ro eo rr).u + 1, (ansM sz ro eo (itemsF (stR sz ro eo rr).f r.1) r.2 (stR sz ro eo rr).x).2⟩ := by
  show stepM sz ro eo (stR sz ro eo rr) r = _
  unfold stepM
  rw [if_neg (by rw [h]; decide)]
theorem ok_u : ∀ {rr : List (Nat × Bool)}, OkR sz ro eo rr → (stR sz ro eo rr).u = rr.length
  | [], _ => rfl
  | r :: rr, h => by
    rw [st_cons h.1]
    show (stR sz ro eo rr).u + 1 = _
    rw [ok_u h.2]
    rfl
theorem ok_f : ∀ {rr : List (Nat × Bool)}, OkR sz ro eo rr → (stR sz ro eo rr).f = (rr.reverse.map (·.1)).sum
  | [], _ => rfl
  | r :: rr, h => by
    rw [st_cons h.1]
    show (stR sz ro eo rr).f + r.1 = _
    rw [ok_f h.2, List.reverse_cons, List.map_append, List.sum_append]
    simp
end
/-! ### the objects -/
def mf (b : V) (g h k : Addr) (ov : Bool) : List (Str × V) := [("before", b), ("given", .ref g), ("handed", .ref h), ("kept", .ref k), ("over", .bl ov)]
def rf (lo : Addr) (sz : Nat) (bs : Bool) (m : Addr) : List (Str × V) := [("loop", .ref lo), ("size", .int sz), ("busy", .bl bs), ("moment", .ref m)]
section
variable (b : V) (g h k lo m m' : Addr) (ov bs : Bool) (sz : Nat)
theorem mf_b : (mf b g h k ov).lookup ("before" : Str) = some b := by kernel_rfl
theorem mf_g : (mf b g h k ov).lookup ("given" : Str) = some (.ref g) := by kernel_rfl
theorem mf_h : (mf b g h k ov).lookup ("handed" : Str) = some (.ref h) := by kernel_rfl
theorem mf_k : (mf b g h k ov).lookup ("kept" : Str) = some (.ref k) := by kernel_rfl
theorem mf_o : (mf b g h k ov).lookup ("over" : Str) = some (.bl ov) := by kernel_rfl
theorem rf_l : (rf lo sz bs m).lookup ("loop" : Str) = some (.ref lo) := by kernel_rfl
theorem rf_s : (rf lo sz bs m).lookup ("size" : Str) = some (.int sz) := by kernel_rfl
theorem rf_b : (rf lo sz bs m).lookup ("busy" : Str) = some (.bl bs) := by kernel_rfl
theorem rf_m : (rf lo sz bs m).lookup ("moment" : Str) = some (.ref m) := by kernel_rfl
theorem rf_pm : putF "moment" (.ref m') (rf lo sz bs m) = rf lo sz bs m' := by kernel_rfl
theorem rf_n1 : (rf lo sz bs m).lookup ("feed" : Str) = none := by kernel_rfl
theorem rf_n2 : (rf lo sz bs m).lookup ("undo" : Str) = none := by kernel_rfl
theorem rf_n3 : (rf lo sz bs m).lookup ("take" : Str) = none := by kernel_rfl
theorem rf_n4 : (rf lo sz bs m).lookup ("check_free" : Str) = none := by kernel_rfl
theorem rf_n5 : (rf lo sz bs m).lookup ("check_reply" : Str) = none := by kernel_rfl
end
/-- the replies, the pieces and the rest of a moment -/
def MsAt (H : Hp) (g h k : Addr) (rs : List (Nat × Bool)) (x : RP) : Prop := ∃ gs hs, H g = some (.tup gs) ∧ Rps H gs rs ∧ H h = some (.tup hs) ∧ Pcs H hs x.pieces ∧ H k = some (.tup (ivs x.rest))
theorem MsAt.mono {H H' : Hp} {g h k : Addr} {rs : List (Nat × Bool)} {x : RP} (f : ∀ (p : Addr) (xs : List V), H p = some (.tup xs) → H' p = some (.tup xs)) (a : MsAt H g h k rs x) : MsAt H' g h k rs x := let ⟨gs, hs, a, b, c, d, e⟩ := a; ⟨gs, hs, f _ _ a, b.mono f, f _ _ c, d.mono f, f _ _ e⟩
inductive Mom (C : Addr) (sz : Nat) (ro eo : List (Str × Str)) (H : Hp) : Addr → List (Nat × Bool) → Prop
  | nil {m dm g h k : Addr} (e : H m = some (.ins C dm (mf .non g h k false))) (a : MsAt H g h k [] ⟨[], []⟩) : Mom C sz ro eo H m []
  | cons {m m' dm g h k : Addr} {r : Nat × Bool} {rr : List (Nat × Bool)} (e : H m = some (.ins C dm (mf (.ref m') g h k (stR sz ro eo (r :: rr)).st))) (a : MsAt H g h k (r :: rr).reverse (stR sz ro eo (r :: rr)).x) (t : Mom C sz ro eo H m' rr) : Mom C sz ro eo H m (r :: rr)
theorem Mom.mono {C : Addr} {sz : Nat} {ro eo : List (Str × Str)} {H H' : Hp} (f : ∀ (p : Addr) (xs : List V), H p = some (.tup xs) → H' p = some (.tup xs)) (f2 : ∀ (p dm : Addr) (b : V) (g h k : Addr) (ov : Bool), H p = some (.ins C dm (mf b g h k ov)) → H' p = some (.ins C dm (mf b g h k ov))) :
    ∀ {m rr}, Mom C sz ro eo H m rr → Mom C sz ro eo H' m rr
  | _, _, .nil e a => .nil (f2 _ _ _ _ _ _ _ e) (a.mono f)
  | _, _, .cons e a t => .cons (f2 _ _ _ _ _ _ _ e) (a.mono f) (t.mono f f2)
theorem Mom.head {C : Addr} {sz : Nat} {ro eo : List (Str × Str)} {H : Hp} {m : Addr} {rr : List (Nat × Bool)} (h : Mom C sz ro eo H m rr) : ∃ (dm g h k : Addr) (b : V), H m = some (.ins C dm (mf b g h k (stR sz ro eo rr).st)) ∧ MsAt H g h k rr.reverse (stR sz ro eo rr).x ∧ ((rr = [] ∧ b = .non) ∨ ∃ (r : Nat × Bool) (q : List (Nat × Bool)) (m' : Addr), rr = r :: q ∧ b = .ref m' ∧ Mom C sz ro eo H m' q) := by
  cases h with
  | nil e a => exact ⟨_, _, _, _, _, e, a, .inl ⟨rfl, rfl⟩⟩
  | cons e a t => exact ⟨_, _, _, _, _, e, a, .inr ⟨_, _, _, rfl, rfl, t⟩⟩
/-- a property -/
structure Pr (K : PySem.W.Frag) (C : Addr) (x q : Str) (st : Stmt) where
  p : Addr
  f : Addr
  fd : FuncData
  F : Fun K x q st f fd
  b : Binds K fd ["self"] []
  o : PropOf K C x p f
/-- an error without fields, over LookupError -/
structure Ex0 (K : PySem.W.Frag) (mg : Str → Option Value) (name : Str) where
  C : Addr
  g : mg name = some (.ref C)
  q : PySem.W.excIn K C [.type "LookupError", .type "Exception", .type "BaseException", .type "object"] "LookupError.__new__" = true
  k : PySem.W.keepIn K (.ref C) = true
  s : PySem.W.subIn K (.ref C) (.type "BaseException") = some true
  t : PySem.W.typeIn K (.ref C) = some (.type "type")
structure TxRd (K : PySem.W.Frag) (mg : Str → Option Value) where
  N : TxN K mg
  sum : mg "sum" = none
  CM : Addr
  gM : mg "Moment" = some (.ref CM)
  clM : Cls K CM
  nMb : NoAttr K CM "before"
  nMg : NoAttr K CM "given"
  nMh : NoAttr K CM "handed"
  nMk : NoAttr K CM "kept"
  nMo : NoAttr K CM "over"
  fM : Addr
  fdM : FuncData
  FM : Fun K "__init__" "Moment.__init__" sMmI fM fdM
  bM : Binds K fdM ["self", "before", "given", "handed", "kept", "over"] []
  MM : Mk K CM fM
  CR : Addr
  gR : mg "Reading" = some (.ref CR)
  clR : Cls K CR
  nRl : NoAttr K CR "loop"
  nRs : NoAttr K CR "size"
  nRb : NoAttr K CR "busy"
  nRm : NoAttr K CR "moment"
  fR : Addr
  fdR : FuncData
  FR : Fun K "__init__" "Reading.__init__" sRdI fR fdR
  bR : Binds K fdR ["self", "loop", "size"] []
  MR : Mk K CR fR
  ckl : Df K mg "check_loop" sCKL ["loop"]
  y1 : PySem.W.findIn K (.ref N.T.C) "__class__" = some (some (.builtin "object.__class__"))
  y2 : PySem.W.specialIn K (.builtin "object.__class__") "__get__" = some (some (.builtin "getset_descriptor.__get__"))
  y3 : PySem.W.takesIn K (.builtin "object.__class__") = some true
  y4 : PySem.W.mroIn K N.T.C (.type "object") = some true
  y5 : PySem.W.kitOne K (.ref N.T.C) (.ref N.T.C) = some true
  pG : Pr K CR "replies" "Reading.replies" sRdG
  pH : Pr K CR "pieces" "Reading.pieces" sRdH
  pK : Pr K CR "rest" "Reading.rest" sRdK
  pO : Pr K CR "stopped" "Reading.stopped" sRdO
  rl : Sm K CR "__len__" "Reading.__len__" sRdL ["self"]
  rr : Sm K CR "__repr__" "Reading.__repr__" sRdR ["self"]
  fe : Mt K CR "feed" "Reading.feed" sRdF ["self", "count", "told"]
  un : Mt K CR "undo" "Reading.undo" sRdU ["self"]
  cf : Mt K CR "check_free" "Reading.check_free" sRdCf ["self"]
  cr : Mt K CR "check_reply" "Reading.check_reply" sRdCr ["self", "count", "told"]
  ta : Mt K CR "take" "Reading.take" sRdT ["self", "count", "told"]
  xS : Ex0 K mg "Stopped"
  xN : Ex0 K mg "NothingToUndo"
section
variable {P : Program} {w : World} {K : PySem.W.Frag} {mg : Str → Option Value} {base : Heap}
/-- a reading stands at lv -/
structure RdAt (T : TxRd K mg) (H : Hp) (lv dx lo m : Addr) (sz : Nat) (t : Str) (rr : List (Nat × Bool)) : Prop where
  at_ : H lv = some (.ins T.CR dx (rf lo sz false m))
  lo : LoopAt T.N.T.C H lo t
  mo : Mom T.CM sz (ordsR t) (ordsE t) H m rr
theorem RdAt.same {T : TxRd K mg} {H H' : Hp} {lv dx lo m : Addr} {sz : Nat} {t : Str} {rr : List (Nat × Bool)} (s : Same H H') (h : RdAt T H lv dx lo m sz t rr) : RdAt T H' lv dx lo m sz t rr := ⟨s _ _ h.at_, h.lo.same s, h.mo.mono (fun _ _ e => s _ _ e) fun _ _ _ _ _ _ _ e => s _ _ e⟩
theorem rf_ne_mf {C D dx dm lo m g h k : Addr} {sz : Nat} {bs ov : Bool} {b : V} : (HO.ins C dx (rf lo sz bs m)) ≠ .ins D dm (mf b g h k ov) := fun z => by
  have e := (HO.ins.inj z).2.2
  simp [rf, mf] at e
theorem rf_ne_lf {C D dx dm lo m pr pe po pq : Addr} {sz : Nat} {bs : Bool} {t : Str} : (HO.ins C dx (rf lo sz bs m)) ≠ .ins D dm (lf t pr pe po pq) := fun z => by
  have e := congrArg List.length (HO.ins.inj z).2.2
  have : (lf t pr pe po pq).length = 5 := rfl
  rw [this] at e
  simp [rf] at e
/-- the reading itself may change -/
theorem Mom.off {C CR lv dx lo m0 : Addr} {s0 : Nat} {bs : Bool} {sz : Nat} {ro eo : List (Str × Str)} {H H' : Hp} (a : H lv = some (.ins CR dx (rf lo s0 bs m0))) (o : Off lv H H') {m : Addr} {rr : List (Nat × Bool)} (h : Mom C sz ro eo H m rr) : Mom C sz ro eo H' m rr :=
  h.mono (fun p xs e => o _ _ (ne_of e a (by intro z; cases z)) e) fun p dm b g h k ov e => o _ _ (ne_of e a fun z => rf_ne_mf z.symm) e
theorem LoopAt.off3 {C CR lv dx lo m0 : Addr} {s0 : Nat} {bs : Bool} {H H' : Hp} (a : H lv = some (.ins CR dx (rf lo s0 bs m0))) (o : Off lv H H') {q : Addr} {t : Str} (h : LoopAt C H q t) : LoopAt C H' q t := by
  have f : ∀ (p : Addr) (xs : List V), H p = some (.tup xs) → H' p = some (.tup xs) := fun p xs e => o _ _ (ne_of e a (by intro z; cases z)) e
  obtain ⟨dx, pr, pe, po, pq, e1, e2, e3, e4, e5⟩ := h
  exact ⟨dx, pr, pe, po, pq, o _ _ (ne_of e1 a fun z => rf_ne_lf z.symm) e1, f _ _ e2, f _ _ e3, e4.mono f, e5.mono f⟩
/-! ### Moment.__init__ -/
def spMmI (C : Addr) : Sp := fun vs H Q _ => ∃ (x dx g h k : Addr) (b : V) (ov : Bool), vs = [.ref x, b, .ref g, .ref h, .ref k, .bl ov] ∧ H x = some (.ins C dx []) ∧ ∀ H' : Hp, Off x H H' → H' x = some (.ins C dx (mf b g h k ov)) → Q .non H'
theorem scMmI : FnScope ["self", "before", "given", "handed", "kept", "over"] ["self", "before", "given", "handed", "kept", "over"] (defScope sMmI) := ⟨rfl, rfl, rfl, by decide +kernel, rfl, by decide +kernel, by decide +kernel⟩
theorem ok_mmi (T : TxRd K mg) : FnOk P w K mg base CX0 1 T.fM T.fdM ["self", "before", "given", "handed", "kept", "over"] (spMmI T.CM) := by
  refine T.FM.ok scMmI (fun vs H Q E h => ?_) (fun cdv A outer s H vs Q E hr h => ?_)
  · obtain ⟨x, dx, g, h, k, b, ov, rfl, _⟩ := h
    rfl
  · obtain ⟨x, dx, g, h, kk, b, ov, rfl, hx, k⟩ := h
    refine ⟨_, pss_cons (ps_fld (pv 0) (pv 1) rfl) (pss_cons (ps_fld (pv 0) (pv 2) rfl) (pss_cons (ps_fld (pv 0) (pv 3) rfl) (pss_cons (ps_fld (pv 0) (pv 4) rfl) (pss_one (ps_fld (pv 0) (pv 5) rfl))))), ?_⟩
    refine ⟨_, rfl, _, rfl, x, T.CM, dx, _, rfl, hx, T.clM, T.nMb, (by show 0 < 1000; decide), ?_⟩
    refine ⟨_, rfl, _, rfl, x, T.CM, dx, _, rfl, upd_same, T.clM, T.nMg, (by show 1 < 1000; decide), ?_⟩
    refine ⟨_, rfl, _, rfl, x, T.CM, dx, _, rfl, upd_same, T.clM, T.nMh, small8 (Nat.le_trans (putF8 (n := 1) (by show 1 ≤ 1; decide)) (by decide)), ?_⟩
    refine ⟨_, rfl, _, rfl, x, T.CM, dx, _, rfl, upd_same, T.clM, T.nMk, small8 (Nat.le_trans (putF8 (putF8 (n := 1) (by show 1 ≤ 1; decide))) (by decide)), ?_⟩
    refine ⟨_, rfl, _, rfl, x, T.CM, dx, _, rfl, upd_same, T.clM, T.nMo, small8 (Nat.le_trans (putF8 (putF8 (putF8 (n := 1) (by show 1 ≤ 1; decide)))) (by decide)), ?_⟩
    refine k _ (fun b o nb e => ?_) upd_same
    rw [upd_ne nb, upd_ne nb, upd_ne nb, upd_ne nb, upd_ne nb]
    exact e
/-! ### the properties, len -/
def spRd (T : TxRd K mg) (val : Addr → Addr → Addr → Bool → V) : Sp := fun vs H Q _ => ∃ (lv dx lo m dm g h k : Addr) (sz : Nat) (bs : Bool) (b : V) (ov : Bool), vs = [.ref lv] ∧ H lv = some (.ins T.CR dx (rf lo sz bs m)) ∧ H m = some (.ins T.CM dm (mf b g h k ov)) ∧ Q (val g h k ov) H
theorem scRdG : FnScope ["self"] ["self"] (defScope sRdG) := ⟨rfl, rfl, rfl, by decide +kernel, rfl, by decide +kernel, by decide +kernel⟩
theorem scRdH : FnScope ["self"] ["self"] (defScope sRdH) := ⟨rfl, rfl, rfl, by decide +kernel, rfl, by decide +kernel, by decide +kernel⟩
theorem scRdK : FnScope ["self"] ["self"] (defScope sRdK) := ⟨rfl, rfl, rfl, by decide +kernel, rfl, by decide +kernel, by decide +kernel⟩
theorem scRdO : FnScope ["self"] ["self"] (defScope sRdO) := ⟨rfl, rfl, rfl, by decide +kernel, rfl, by decide +kernel, by decide +kernel⟩
theorem ok_rdg (T : TxRd K mg) : FnOk P w K mg base CX0 1 T.pG.f T.pG.fd ["self"] (spRd T fun g _ _ _ => .ref g) := by
  refine T.pG.F.ok scRdG (fun vs H Q E h => ?_) (fun cdv A outer s H vs Q E hr h => ?_)
  · obtain ⟨lv, _, _, _, _, _, _, _, _, _, _, _, rfl, _⟩ := h
    rfl
  · obtain ⟨lv, dx, lo, m, dm, g, h, kk, sz, bs, b, ov, rfl, h1, h2, k⟩ := h
    exact ⟨_, pss_one (ps_ret (pe_fld (pe_fld (pv 0) rfl) rfl)), _, rfl, lv, T.CR, dx, _, _, rfl, h1, T.clR, T.nRm, rf_m .., m, T.CM, dm, _, _, rfl, h2, T.clM, T.nMg, mf_g .., k⟩
theorem ok_rdh (T : TxRd K mg) : FnOk P w K mg base CX0 1 T.pH.f T.pH.fd ["self"] (spRd T fun _ h _ _ => .ref h) := by
  refine T.pH.F.ok scRdH (fun vs H Q E h => ?_) (fun cdv A outer s H vs Q E hr h => ?_)
  · obtain ⟨lv, _, _, _, _, _, _, _, _, _, _, _, rfl, _⟩ := h
    rfl
  · obtain ⟨lv, dx, lo, m, dm, g, h, kk, sz, bs, b, ov, rfl, h1, h2, k⟩ := h
    exact ⟨_, pss_one (ps_ret (pe_fld (pe_fld (pv 0) rfl) rfl)), _, rfl, lv, T.CR, dx, _, _, rfl, h1, T.clR, T.nRm, rf_m .., m, T.CM, dm, _, _, rfl, h2, T.clM, T.nMh, mf_h .., k⟩
theorem ok_rdk (T : TxRd K mg) : FnOk P w K mg base CX0 1 T.pK.f T.pK.fd ["self"] (spRd T fun _ _ k _ => .ref k) := by
  refine T.pK.F.ok scRdK (fun vs H Q E h => ?_) (fun cdv A outer s H vs Q E hr h => ?_)
  · obtain ⟨lv, _, _, _, _, _, _, _, _, _, _, _, rfl, _⟩ := h
    rfl
  · obtain ⟨lv, dx, lo, m, dm, g, h, kk, sz, bs, b, ov, rfl, h1, h2, k⟩ := h
    exact ⟨_, pss_one (ps_ret (pe_fld (pe_fld (pv 0) rfl) rfl)), _, rfl, lv, T.CR, dx, _, _, rfl, h1, T.clR, T.nRm, rf_m .., m, T.CM, dm, _, _, rfl, h2, T.clM, T.nMk, mf_k .., k⟩
theorem ok_rdo (T : TxRd K mg) : FnOk P w K mg base CX0 1 T.pO.f T.pO.fd ["self"] (spRd T fun _ _ _ ov => .bl ov) := by
  refine T.pO.F.ok scRdO (fun vs H Q E h => ?_) (fun cdv A outer s H vs Q E hr h => ?_)
  · obtain ⟨lv, _, _, _, _, _, _, _, _, _, _, _, rfl, _⟩ := h
    rfl
  · obtain ⟨lv, dx, lo, m, dm, g, h, kk, sz, bs, b, ov, rfl, h1, h2, k⟩ := h
    exact ⟨_, pss_one (ps_ret (pe_fld (pe_fld (pv 0) rfl) rfl)), _, rfl, lv, T.CR, dx, _, _, rfl, h1, T.clR, T.nRm, rf_m .., m, T.CM, dm, _, _, rfl, h2, T.clM, T.nMo, mf_o .., k⟩
def spRdL (T : TxRd K mg) : Sp := fun vs H Q _ => ∃ (lv dx lo m dm g h k : Addr) (sz : Nat) (bs : Bool) (b : V) (ov : Bool) (gs : List V), vs = [.ref lv] ∧ H lv = some (.ins T.CR dx (rf lo sz bs m)) ∧ H m = some (.ins T.CM dm (mf b g h k ov)) ∧ H g = some (.tup gs) ∧ Q (.int (gs.length : Nat)) H
theorem scRdL : FnScope ["self"] ["self"] (defScope sRdL) := ⟨rfl, rfl, rfl, by decide +kernel, rfl, by decide +kernel, by decide +kernel⟩
theorem ok_rdl (T : TxRd K mg) : FnOk P w K mg base CX0 1 T.rl.f T.rl.fd ["self"] (spRdL T) := by
  refine T.rl.F.ok scRdL (fun vs H Q E h => ?_) (fun cdv A outer s H vs Q E hr h => ?_)
  · obtain ⟨lv, _, _, _, _, _, _, _, _, _, _, _, _, rfl, _⟩ := h
    rfl
  · obtain ⟨lv, dx, lo, m, dm, g, h, kk, sz, bs, b, ov, gs, rfl, h1, h2, h3, k⟩ := h
    exact ⟨_, (pss_one (ps_ret (pe_callB call_len_seq (by rfl) T.N.k.len PySem.boot_len (pa_cons (pe_fld (pe_fld (pv 0) rfl) rfl) pa_nil)))), _, rfl, lv, T.CR, dx, _, _, rfl, h1, T.clR, T.nRm, rf_m .., m, T.CM, dm, _, _, rfl, h2, T.clM, T.nMg, mf_g .., g, _, rfl, .inr (SqT.of h3), k⟩
end
end My

namespace My
open PySem L2 Cm LM EM
section
variable {P : Program} {w : World} {K : PySem.W.Frag} {mg : Str → Option Value} {base : Heap}
/-! ### __repr__ -/
def rdS (n : Nat) : Str := Str.empty ++ ("Reading(" : Str) ++ Str.ofString (toString ((n : Nat) : Int)) ++ (" replies)" : Str)
def spRdR (T : TxRd K mg) : Sp := fun vs H Q _ => ∃ (lv dx lo m dm g h k : Addr) (sz : Nat) (bs : Bool) (b : V) (ov : Bool) (gs : List V), vs = [.ref lv] ∧ H lv = some (.ins T.CR dx (rf lo sz bs m)) ∧ H m = some (.ins T.CM dm (mf b g h k ov)) ∧ H g = some (.tup gs) ∧ gs.length ≤ 1000 ∧ Q (.str (rdS gs.length)) H
theorem scRdR : FnScope ["self"] ["self"] (defScope sRdR) := ⟨rfl, rfl, rfl, by decide +kernel, rfl, by decide +kernel, by decide +kernel⟩
theorem num_short {n : Nat} (h : n ≤ 1000) : (Str.ofString (toString ((n : Nat) : Int))).length ≤ 20 := by
  rw [TL.len_tl, TL.tl_num]
  exact TL.numL_len (by decide) (by omega)
theorem ok_rdr (T : TxRd K mg) : FnOk P w K mg base CX0 1 T.rr.f T.rr.fd ["self"] (spRdR T) := by
  refine T.rr.F.ok scRdR (fun vs H Q E h => ?_) (fun cdv A outer s H vs Q E hr h => ?_)
  · obtain ⟨lv, _, _, _, _, _, _, _, _, _, _, _, _, rfl, _⟩ := h
    rfl
  · obtain ⟨lv, dx, lo, m, dm, g, h, kk, sz, bs, b, ov, gs, rfl, h1, h2, h3, hl, k⟩ := h
    refine ⟨_, (pss_one (ps_ret (pe_joined (.cons pe_str (.cons (pe_fmt (pe_callB call_len_seq (by rfl) T.N.k.len PySem.boot_len (pa_cons (pe_fld (pe_fld (pv 0) rfl) rfl) pa_nil))) (.cons pe_str .nil)))))), ?_⟩
    have l1 : (Str.empty).length = 0 := rfl
    have l2 : ("Reading(" : Str).length = 8 := by decide +kernel
    have l3 : (" replies)" : Str).length = 9 := by decide +kernel
    have l4 := num_short hl
    have lg : ((gs.length : Nat) : Int).natAbs.log2 < 1920 := by
      rw [Int.natAbs_natCast]
      exact Nat.lt_of_le_of_lt (Nat.log2_le_self _) (by omega)
    refine ⟨_, rfl, szl (by rw [strLen_append]; omega), ?_⟩
    refine ⟨_, rfl, lv, T.CR, dx, _, _, rfl, h1, T.clR, T.nRm, rf_m .., m, T.CM, dm, _, _, rfl, h2, T.clM, T.nMg, mf_g .., g, _, rfl, .inr (SqT.of h3), .inr ⟨_, rfl, lg, _, rfl, szl (by rw [strLen_append, strLen_append]; omega), ?_⟩⟩
    refine ⟨_, rfl, szl (by rw [strLen_append, strLen_append, strLen_append]; omega), ?_⟩
    exact k
/-! ### check_free -/
def spRdCf (T : TxRd K mg) : Sp := fun vs H Q _ => ∃ (lv dx lo m : Addr) (sz : Nat), vs = [.ref lv] ∧ H lv = some (.ins T.CR dx (rf lo sz false m)) ∧ Q .non H
theorem scRdCf : FnScope ["self"] ["self"] (defScope sRdCf) := ⟨rfl, rfl, rfl, by decide +kernel, rfl, by decide +kernel, by decide +kernel⟩
theorem ok_rdcf (T : TxRd K mg) : FnOk P w K mg base CX0 1 T.cf.f T.cf.fd ["self"] (spRdCf T) := by
  refine T.cf.F.ok scRdCf (fun vs H Q E h => ?_) (fun cdv A outer s H vs Q E hr h => ?_)
  · obtain ⟨lv, _, _, _, _, rfl, _⟩ := h
    rfl
  · obtain ⟨lv, dx, lo, m, sz, rfl, h1, k⟩ := h
    exact ⟨_, (pss_one (ps_if (pt_val (pe_fld (pv 0) rfl)) (pss_one ps_never) pss_nil)), _, rfl, lv, T.CR, dx, _, _, rfl, h1, T.clR, T.nRb, rf_b .., false, rfl, iteF k⟩
/-! ### check_reply -/
def spRdCr (T : TxRd K mg) : Sp := fun vs H Q E => ∃ (lv dx lo m : Addr) (sz n : Nat) (said : Bool) (t : Str) (rr : List (Nat × Bool)), vs = [.ref lv, .int n, .bl said] ∧ RdAt T H lv dx lo m sz t rr ∧ n ≤ sz ∧ rr.length < 100 ∧
  ((stR sz (ordsR t) (ordsE t) rr).st = true → E (.ref T.xS.C) none H) ∧ ((stR sz (ordsR t) (ordsE t) rr).st = false → Q .non H)
theorem scRdCr : FnScope ["self", "count", "told"] ["self", "count", "told"] (defScope sRdCr) := ⟨rfl, rfl, rfl, by decide +kernel, rfl, by decide +kernel, by decide +kernel⟩
theorem ok_rdcr (T : TxRd K mg) : FnOk P w K mg base (L2.CX P w) 3 T.cr.f T.cr.fd ["self", "count", "told"] (spRdCr T) := by
  have GI : FnOk P w K mg base CX0 1 T.N.k.iib.f T.N.k.iib.fd ["value", "low", "high"] (spIIB K) := ok_iib T.N.k
  have GO : FnOk P w K mg base CX0 1 T.pO.f T.pO.fd ["self"] (spRd T fun _ _ _ ov => .bl ov) := ok_rdo T
  have GL : FnR P w K mg base CX0 1 T.rl.f (fun vs H Q E => spRdL T (vs ++ []) H Q E) := (ok_rdl T).raw T.rl.b .nil
  obtain ⟨tm, mr⟩ := T.N.k.mr
  refine T.cr.F.okX scRdCr (fun vs H Q E h => ?_) (fun cdv A outer s H vs Q E hr h => ?_)
  · obtain ⟨lv, _, _, _, _, _, _, _, _, rfl, _⟩ := h
    rfl
  · obtain ⟨lv, dx, lo, m, sz, n, said, t, rr, rfl, hR, hn, hl, kE, k⟩ := h
    have hr1 : Room 1 _ := hr.mono (by decide)
    refine ⟨_, (pss_cons (ps_if (pt_not (pt_val (pe_call GI hr1 rfl T.N.k.iib.g T.N.k.iib.k T.N.k.iib.b .nil pass0 (pa_cons (pv 1) (pa_cons pe_int (pa_cons (pe_fld (pv 0) rfl) pa_nil)))))) (pss_one ps_never) pss_nil) (pss_cons (ps_if (pt_not (pt_val (pe_callB call_isi (by rfl) T.N.k.isi (by decide +kernel) (pa_cons (pv 2) (pa_cons (pe_bltn (v := .ty "bool") (by rfl) T.N.k.bool (by decide +kernel) rfl) pa_nil))))) (pss_one ps_never) pss_nil) (pss_cons (ps_if (pt_val (pe_prop (pv 0) T.clR T.pO.o GO hr T.pO.b .nil pass0 (by rfl))) (pss_one (ps_raise rfl (takes_of rfl rfl rfl rfl) (MkO.pmk_own0 PySem.F.excBase_LookupError T.xS.q T.xS.g T.xS.k (raises_own T.xS.s T.xS.t) rfl))) pss_nil) (pss_one (ps_if (pt_cmpR op_ge (pe_callB (call_lenO T.rl.i T.rl.fn GL hr) (by rfl) T.N.k.len PySem.boot_len (pa_cons (pv 0) pa_nil)) (pe_glob (v := .int 100) rfl mr ⟨_, rfl⟩) (nomark _)) (pss_one ps_never) pss_nil))))), ?_⟩
    obtain ⟨dm, g, h, kk, b, hm, hMs, _⟩ := hR.mo.head
    obtain ⟨gs, hs, hg, hRp, _⟩ := id hMs
    have bt : btw 0 (sz : Int) (.int (n : Nat)) = true := decide_eq_true (show (0 : Int) ≤ (n : Int) ∧ (n : Int) ≤ (sz : Int) from ⟨by omega, by omega⟩)
    refine ⟨_, rfl, _, rfl, lv, T.CR, dx, _, _, rfl, hR.at_, T.clR, T.nRs, rf_s .., _, 0, sz, rfl, typed_int _, _, rfl, ?_⟩
    rw [bt]
    refine iteF ?_
    refine ⟨_, rfl, _, _, _, _, true, rfl, .ty "bool", .base (.bl said), kit_ty (by decide +kernel), true, rfl, iteF ?_⟩
    refine ⟨_, rfl, lv, dx, _, rfl, hR.at_, lv, dx, lo, m, dm, g, h, kk, sz, false, b, _, rfl, hR.at_, hm, _, rfl, ?_⟩
    cases hst : (stR sz (ordsR t) (ordsE t) rr).st with
    | true => exact iteT (kE hst)
    | false =>
      refine iteF ?_
      have lg : gs.length = rr.length := by rw [hRp.len, List.length_reverse]
      refine ⟨_, rfl, lv, dx, _, rfl, hR.at_, lv, dx, lo, m, dm, g, h, kk, sz, false, b, _, gs, rfl, hR.at_, hm, hg, gs.length, rfl, by omega, _, _, rfl, rfl, _, rfl, ?_⟩
      rw [show decide ((100 : Int) ≤ ((gs.length : Nat) : Int)) = false from decide_eq_false (by omega)]
      exact iteF (k hst)
/-! ### undo -/
def spRdU (T : TxRd K mg) : Sp := fun vs H Q E => ∃ (lv dx lo m : Addr) (sz : Nat) (t : Str) (rr : List (Nat × Bool)), vs = [.ref lv] ∧ RdAt T H lv dx lo m sz t rr ∧
  (rr = [] → E (.ref T.xN.C) none H) ∧ ∀ r q, rr = r :: q → ∀ (H' : Hp) (m' : Addr), Off lv H H' → RdAt T H' lv dx lo m' sz t q → Q .non H'
theorem scRdU : FnScope ["self"] ["self"] (defScope sRdU) := ⟨rfl, rfl, rfl, by decide +kernel, rfl, by decide +kernel, by decide +kernel⟩
theorem ok_rdu (T : TxRd K mg) : FnOk P w K mg base (L2.CX P w) 2 T.un.f T.un.fd ["self"] (spRdU T) := by
  have GC : FnOk P w K mg base CX0 1 T.cf.f T.cf.fd ["self"] (spRdCf T) := ok_rdcf T
  refine T.un.F.okX scRdU (fun vs H Q E h => ?_) (fun cdv A outer s H vs Q E hr h => ?_)
  · obtain ⟨lv, _, _, _, _, _, _, rfl, _⟩ := h
    rfl
  · obtain ⟨lv, dx, lo, m, sz, t, rr, rfl, hR, kE, k⟩ := h
    refine ⟨_, (pss_cons (ps_expr (pe_meth0 (pv 0) T.clR T.cf.m GC hr T.cf.b .nil pass0)) (pss_cons (ps_if (pt_cmpR op_isN (pe_fld (pe_fld (pv 0) rfl) rfl) pe_non (nomark _)) (pss_one (ps_raise rfl (takes_of rfl rfl rfl rfl) (MkO.pmk_own0 PySem.F.excBase_LookupError T.xN.q T.xN.g T.xN.k (raises_own T.xN.s T.xN.t) rfl))) pss_nil) (pss_one (ps_fld (pv 0) (pe_fld (pe_fld (pv 0) rfl) rfl) rfl)))), ?_⟩
    obtain ⟨dm, g, h, kk, b, hm, hMs, hb⟩ := hR.mo.head
    refine ⟨_, rfl, lv, dx, _, rfl, hR.at_, rf_n4 .., lv, dx, lo, m, sz, rfl, hR.at_, ?_⟩
    refine ⟨_, rfl, lv, T.CR, dx, _, _, rfl, hR.at_, T.clR, T.nRm, rf_m .., m, T.CM, dm, _, _, rfl, hm, T.clM, T.nMb, mf_b .., rfl, _, rfl, ?_⟩
    rcases hb with ⟨rfl, rfl⟩ | ⟨r, q, m', rfl, rfl, hM'⟩
    · rw [decide_eq_true rfl]
      exact iteT (kE rfl)
    · rw [show decide (V.ref m' = V.non) = false from decide_eq_false (by intro z; cases z)]
      refine iteF ?_
      refine ⟨_, rfl, lv, T.CR, dx, _, _, rfl, hR.at_, T.clR, T.nRm, rf_m .., m, T.CM, dm, _, _, rfl, hm, T.clM, T.nMb, mf_b .., _, rfl, lv, T.CR, dx, _, rfl, hR.at_, T.clR, T.nRm, (by show 4 < 1000; decide), ?_⟩
      rw [rf_pm]
      have o : Off lv H (upd H lv (.ins T.CR dx (rf lo sz false m'))) := Off.put Off.refl
      exact k r q rfl _ m' o ⟨upd_same, hR.lo.off3 hR.at_ o, hM'.off hR.at_ o⟩
end
end My

namespace My
open PySem L2 Cm LM EM
section
variable {P : Program} {w : World} {K : PySem.W.Frag} {mg : Str → Option Value} {base : Heap}
theorem sumI : ∀ rs : List (Nat × Bool), (rs.map fun r => ((r.1 : Nat) : Int)).sum = (((rs.map (·.1)).sum : Nat) : Int)
  | [] => rfl
  | r :: q => by
    rw [List.map_cons, List.sum_cons, sumI q, List.map_cons, List.sum_cons]
    omega
theorem rps_snoc {H : Hp} {q : Addr} {r : Nat × Bool} (h : H q = some (.tup [.int r.1, .bl r.2])) : ∀ {vs rs}, Rps H vs rs → Rps H (vs ++ [.ref q]) (rs ++ [r])
  | _, _, .nil => .cons h .nil
  | _, _, .cons a t => .cons a (rps_snoc h t)
theorem st_from {sz : Nat} {ro eo : List (Str × Str)} {r : Nat × Bool} {rr : List (Nat × Bool)} (h : (stR sz ro eo rr).st = false) :
    (stR sz ro eo (r :: rr)).x = ⟨(ansM sz ro eo (itemsF (stR sz ro eo rr).f r.1) r.2 ⟨(stR sz ro eo rr).x.rest, []⟩).1.rest, (stR sz ro eo rr).x.pieces ++ (ansM sz ro eo (itemsF (stR sz ro eo rr).f r.1) r.2 ⟨(stR sz ro eo rr).x.rest, []⟩).1.pieces⟩ ∧
    (stR sz ro eo (r :: rr)).st = (ansM sz ro eo (itemsF (stR sz ro eo rr).f r.1) r.2 ⟨(stR sz ro eo rr).x.rest, []⟩).2 := by
  rw [st_cons h]
  show (ansM sz ro eo (itemsF (stR sz ro eo rr).f r.1) r.2 (stR sz ro eo rr).x).1 = _ ∧ (ansM sz ro eo (itemsF (stR sz ro eo rr).f r.1) r.2 (stR sz ro eo rr).x).2 = _
  rw [ans_from]
  exact ⟨rfl, rfl⟩
/-! ### take -/
/-- the pieces that a reply hands on -/
def newP (sz : Nat) (t : Str) (rr : List (Nat × Bool)) (n : Nat) (said : Bool) : List (List Int) := (ansM sz (ordsR t) (ordsE t) (itemsF (stR sz (ordsR t) (ordsE t) rr).f n) said ⟨(stR sz (ordsR t) (ordsE t) rr).x.rest, []⟩).1.pieces
def spRdT (T : TxRd K mg) : Sp := fun vs H Q E => ∃ (lv dx lo m : Addr) (sz n : Nat) (said : Bool) (t : Str) (rr : List (Nat × Bool)), vs = [.ref lv, .int n, .bl said] ∧ RdAt T H lv dx lo m sz t rr ∧ goodText t = true ∧ 1 ≤ sz ∧ sz ≤ 1000 ∧ n ≤ sz ∧ rr.length < 100 ∧ OkR sz (ordsR t) (ordsE t) rr ∧ (∀ r ∈ rr, r.1 ≤ sz) ∧
  ((stR sz (ordsR t) (ordsE t) rr).st = true → E (.ref T.xS.C) none H) ∧
  ((stR sz (ordsR t) (ordsE t) rr).st = false → ∀ (H' : Hp) (m' q : Addr) (hs : List V), Off lv H H' → RdAt T H' lv dx lo m' sz t ((n, said) :: rr) → H q = none → H' q = some (.tup hs) → Pcs H' hs (newP sz t rr n said) → Q (.ref q) H')
abbrev NT : List Str := ["self", "count", "told", "now", "first", "work", "handed", "reply"]
theorem scRdT : FnScope NT ["self", "count", "told"] (defScope sRdT) := ⟨rfl, rfl, rfl, by decide +kernel, rfl, by decide +kernel, by decide +kernel⟩
/-- reply[0] -/
def tRe0 : TE := fun σ H Q => ∃ (q : Addr) (c : Nat) (b : Bool), σ[7]? = some (some (.ref q)) ∧ H q = some (.tup [.int (c : Nat), .bl b]) ∧ Q (.int (c : Nat)) H
theorem ok_rdt (T : TxRd K mg) : FnOk P w K mg base (L2.CX P w) 5 T.ta.f T.ta.fd ["self", "count", "told"] (spRdT T) := by
  have GC : FnOk P w K mg base (L2.CX P w) 3 T.cr.f T.cr.fd ["self", "count", "told"] (spRdCr T) := ok_rdcr T
  have GX : FnOk P w K mg base CX0 3 T.N.lx.f T.N.lx.fd ["self", "size", "kept"] (spLX T.N.T.C T.N.X.C) := ok_lx T.N
  have GA : FnOk P w K mg base CX0 4 T.N.X.an.f T.N.X.an.fd ["self", "held", "told"] (spXA T.N.X.C) := ok_xa T.N.X
  have GM : FnOk P w K mg base CX0 1 T.fM T.fdM ["self", "before", "given", "handed", "kept", "over"] (spMmI T.CM) := ok_mmi T
  refine T.ta.F.okX scRdT (fun vs H Q E h => ?_) (fun cdv A outer s H vs Q E hr h => ?_)
  · obtain ⟨lv, _, _, _, _, _, _, _, _, rfl, _⟩ := h
    rfl
  · obtain ⟨lv, dx, lo, m, sz, n, said, t, rr, rfl, hR, gt, z1, z2, hn, hl, hok, hc, kE, k⟩ := h
    have hr3 : Room 3 _ := hr.mono (by decide)
    have hr2 : Room 2 _ := hr.mono (by decide)
    refine ⟨_, (pss_cons (ps_expr (pe_meth (E := E) (pv 0) T.clR T.cr.m GC hr3 T.cr.b .nil (passes_call (takes_of rfl rfl rfl rfl) fun _ _ _ _ z => z) (pa_cons (pv 1) (pa_cons (pv 2) pa_nil)))) (pss_cons (ps_set (i := 3) scRdT.nd rfl (.inl rfl) (pe_fld (pv 0) rfl)) (C8.pss_cut (ps_set (i := 4) scRdT.nd rfl (.inl rfl) (pe_callB (cr_sum rfl) (by rfl) T.sum (by decide +kernel) (pa_cons (pe_lc (own := [("reply", 7)]) (g := gName 7) (tt := tYes) (te := tRe0) rfl scRdT.nd (pi_tup (pe_fld (pv 3) rfl)) (blkOk_by (own := [("reply", 7)]) (N := NT) (sc := defScope sRdT) (by decide +kernel)) (fun _ _ _ _ _ => pg_name (i := 7) scRdT.nd rfl (Or.inl rfl)) (fun _ _ _ _ _ => pts_nil) (fun _ _ _ _ _ => by exact pe_imp (t' := tRe0) (pe_ix ix_tup (pv 7) pe_int (fun _ _ => rfl)) (fun σ H Q ⟨q, c, b, h7, hq, k⟩ => ⟨_, h7, q, _, 0, _, rfl, rfl, SqT.of hq, rfl, k⟩))) pa_nil))) (pss_cons (ps_set (i := 5) scRdT.nd rfl (.inl rfl) (pe_meth (pe_fld (pv 0) rfl) T.N.T.cl T.N.lx.m GX hr3 T.N.lx.b .nil pass0 (pa_cons (pe_fld (pv 0) rfl) (pa_cons (pe_fld (pv 3) rfl) pa_nil)))) (pss_cons (ps_expr (pe_meth (pv 5) T.N.X.cl T.N.X.an.m GA hr T.N.X.an.b .nil pass0 (pa_cons (pe_tupRg rfl rfl T.N.k.tuple (prg_2 rfl T.N.X.range (pv 4) (pe_op op_add (pv 4) (pv 1)))) (pa_cons (pv 2) pa_nil)))) (pss_cons (ps_set (i := 6) scRdT.nd rfl (.inl rfl) (pe_callTy call_tuple_of (by rfl) T.N.k.tuple (by decide +kernel) (pa_cons (pe_fld (pv 5) rfl) pa_nil))) (pss_cons (ps_fld (pv 0) (pe_make T.MM GM hr2 rfl T.gM T.bM .nil pass0 (pa_cons (pv 3) (pa_cons (pe_op op_catH (pe_fld (pv 3) rfl) (pe_tup (pa_cons (pe_tup (pa_cons (pv 1) (pa_cons (pv 2) pa_nil))) pa_nil))) (pa_cons (pe_op op_catH (pe_fld (pv 3) rfl) (pv 6)) (pa_cons (pe_fld (pv 5) rfl) (pa_cons (pe_fld (pv 5) rfl) pa_nil)))))) rfl) (pss_one (ps_ret (pv 6)))))))))), ?_⟩
    obtain ⟨dm, g, h, kk, b, hm, hMs, _⟩ := hR.mo.head
    refine ⟨_, rfl, lv, dx, _, rfl, hR.at_, rf_n5 .., _, rfl, _, rfl, lv, dx, lo, m, sz, n, said, t, rr, rfl, hR, hn, hl, kE, fun hst => ?_⟩
    have k := k hst
    obtain ⟨gs, hs, hg, hRp, hh, hP, hk⟩ := id hMs
    refine ⟨_, rfl, lv, T.CR, dx, _, _, rfl, hR.at_, T.clR, T.nRm, rf_m .., ?_⟩
    have lg := hRp.len
    rw [List.length_reverse] at lg
    have ef := ok_f hok
    have gn := good_iff.mp gt
    have lR : (ordsR t).length ≤ 12 := by rw [ordsR, List.length_map]; exact (round_sht gn.1).2
    have lE : (ordsE t).length ≤ 6 := by rw [ordsE, List.length_map]; exact (ending_sht gn.2).2
    have bd := runM_bound (ro := ordsR t) (eo := ordsE t) z1 lR lE rr.reverse (by rw [List.length_reverse]; omega) fun q hq => hc q (List.mem_reverse.mp hq)
    rw [st_run, List.length_reverse] at bd
    have f1 : (stR sz (ordsR t) (ordsE t) rr).f ≤ 99 * 1000 := Nat.le_trans bd.2.1 (Nat.mul_le_mul (by omega) z2)
    have l99 : rr.length ≤ 99 := by omega
    have few : Few sz (18 * 99) (99 * 32724) ⟨(stR sz (ordsR t) (ordsE t) rr).x.rest, []⟩ := ⟨Nat.le_trans bd.1.1 (Nat.mul_le_mul_right _ (Nat.mul_le_mul_left _ l99)), Nat.zero_le _⟩
    have fa := few_ans (ro := ordsR t) (eo := ordsE t) (held := itemsF (stR sz (ordsR t) (ordsE t) rr).f n) (told := said) z1 (by rw [itemsF_len]; exact hn) lR lE (⟨few.1, Nat.zero_le _⟩ : Few sz (18 * 99) 0 ⟨(stR sz (ordsR t) (ordsE t) rr).x.rest, []⟩)
    have sf := st_from (r := (n, said)) hst
    have en : newP sz t rr n said = (ansM sz (ordsR t) (ordsE t) (itemsF (stR sz (ordsR t) (ordsE t) rr).f n) said ⟨(stR sz (ordsR t) (ordsE t) rr).x.rest, []⟩).1.pieces := rfl
    rw [en] at k
    have pl : (stR sz (ordsR t) (ordsE t) rr).x.pieces.length ≤ 99 * 32724 := Nat.le_trans bd.1.2 (Nat.mul_le_mul_right _ l99)
    generalize (stR sz (ordsR t) (ordsE t) rr).f = ff at *
    -- first
    refine ⟨fun σ H' => σ = [some (.ref lv), some (.int n), some (.bl said), some (.ref m), some (.int ff), none, none, none] ∧ Same H H', ?_, ?_⟩
    · refine ⟨_, rfl, m, T.CM, dm, _, _, rfl, hm, T.clM, T.nMg, mf_g .., g, rfl, ⟨_, SqT.of hg⟩, fun D nD => lc_tup (K := K) (a := g) (xs := gs) (fun i H' => Same H H' ∧ H' D = some (.lst (((rr.reverse.take i).map fun r => ((r.1 : Nat) : Int)).map V.int))) ⟨same_new nD, upd_same⟩ (fun i H' _ ⟨s', _⟩ => SqT.of (s' _ _ hg)) ?_ ?_⟩
      · rintro i y H' hy ⟨s', hD⟩
        obtain ⟨q, r, hr0, rfl, hq⟩ := hRp.get hy
        refine ⟨rfl, q, r.1, r.2, rfl, s' _ _ hq, _, hD, szM (by rw [List.length_map, List.length_map, List.length_take, List.length_reverse]; omega), fun b o z => ?_, ?_⟩
        · rw [upd_ne (ne_of_none z nD)]
          exact s' _ _ z
        · rw [upd_same, take_snoc hr0, List.map_append, List.map_append]
          rfl
      · rintro H' ⟨s', hD⟩
        rw [lg, ← List.length_reverse, List.take_length] at hD
        refine ⟨D, _, rfl, SqL.of hD, ?_⟩
        rw [sumI, ← ef]
        exact ⟨rfl, s'⟩
    rintro _ H1 ⟨rfl, s1⟩
    -- work
    have hR1 := hR.same s1
    have hm1 := s1 _ _ hm
    obtain ⟨dlo, pr, pe, po, pq, elo, _⟩ := id hR1.lo
    refine ⟨_, rfl, lv, T.CR, dx, _, _, rfl, hR1.at_, T.clR, T.nRl, rf_l .., lo, dlo, _, rfl, elo, lf_no _ _ _ _ _ (by decide +kernel) (by decide +kernel) (by decide +kernel) (by decide +kernel) (by decide +kernel), ?_⟩
    refine ⟨_, rfl, lv, T.CR, dx, _, _, rfl, hR1.at_, T.clR, T.nRs, rf_s .., _, rfl, m, T.CM, dm, _, _, rfl, hm1, T.clM, T.nMk, mf_k .., ?_⟩
    refine ⟨lo, kk, t, sz, _, rfl, hR1.lo, s1 _ _ hk, fun H2 x dxx ro eo pp s2 nx np X2 hRo hEo => ?_⟩
    obtain ⟨h0, r0, vs0, ee, _⟩ := id X2.ex
    refine ⟨_, rfl, x, dxx, _, rfl, ee, (xf_noA ..).1, _, rfl, _, rfl, _, rfl, _, _, rfl, rfl, _, _, rfl, rfl, RgOk.of_le (by omega) (by omega) (by omega) (by omega), fun z nz => ?_⟩
    rw [rgV_items]
    have s3 : Same H2 (upd H2 z (.tup (ivs (itemsF ff n)))) := same_new nz
    refine ⟨_, rfl, x, dxx, ro, eo, pp, z, _, sz, [], itemsF ff n, false, said, ⟨(stR sz (ordsR t) (ordsE t) rr).x.rest, []⟩, ordsR t, ordsE t, 18 * 99, 99 * 32724, rfl, X2.same s3, upd_same, hRo.ts fun _ _ e => s3 _ _ e, hEo.ts fun _ _ e => s3 _ _ e, lR, lE, ⟨z1, z2, by rw [itemsF_len]; exact hn, by decide, by decide, few⟩, by decide, by decide, fun H4 o4 X4 => ?_⟩
    have s14 : Same H1 H4 := fun b u e => o4 b u (ne_of_none e nx) (ne_of_none e np) (s3 _ _ (s2 _ _ e))
    have s04 := Same.trans s1 s14
    generalize ansM sz (ordsR t) (ordsE t) (itemsF ff n) said ⟨(stR sz (ordsR t) (ordsE t) rr).x.rest, []⟩ = AA at X4 k sf fa
    obtain ⟨h4, r4, vs4, ee4, hh4, hr4, hp4, hP4⟩ := id X4.ex
    -- handed
    refine ⟨_, rfl, x, T.N.X.C, dxx, _, _, rfl, ee4, T.N.X.cl, T.N.X.nP, xf_p .., pp, vs4, rfl, .inl ⟨SqL.of hp4, fun q nq => ?_⟩⟩
    have s5 := same_new (o := .tup vs4) nq
    have hq5 : (upd H4 q (.tup vs4)) q = some (.tup vs4) := upd_same
    have s05 := Same.trans s04 s5
    have ee5 := s5 _ _ ee4
    have hr5 := s5 _ _ hr4
    have hP5 := hP4.same s5
    have nq0 : H q = none := s04.free nq
    show tSeq _ _ _ _ (upd H4 q (.tup vs4))
    generalize upd H4 q (.tup vs4) = H5 at s5 hq5 s05 ee5 hr5 hP5 ⊢
    have lv4 : vs4.length = AA.1.pieces.length := hP4.len
    -- the new moment
    have hm5 := s05 _ _ hm
    refine ⟨_, rfl, _, rfl, m, T.CM, dm, _, _, rfl, hm5, T.clM, T.nMg, mf_g .., _, rfl, _, rfl, (by show 2 ≤ sizeLine; decide), fun a1 n1 => ⟨(by show 1 ≤ sizeLine; decide), fun a2 n2 => ?_⟩⟩
    have u1 := same_new (o := .tup [.int n, .bl said]) n1
    have u2 := same_new (o := .tup [.ref a1]) n2
    have lh : hs.length = (stR sz (ordsR t) (ordsE t) rr).x.pieces.length := hP.len
    have la : AA.1.pieces.length ≤ 0 + 18 * (18 * 99 + 18) := fa.2
    have big : 99 * 32724 + 32400 ≤ sizeLine := by decide
    refine ⟨g, a2, _, _, rfl, rfl, u2 _ _ (u1 _ _ (s05 _ _ hg)), upd_same, szl (by rw [lg]; show rr.length + 1 ≤ 1000; omega), fun H6 q1 s6 h6 => ?_⟩
    have s56 := Same.trans u1 (Same.trans u2 s6)
    refine ⟨_, rfl, m, T.CM, dm, _, _, rfl, s56 _ _ hm5, T.clM, T.nMh, mf_h .., _, rfl, h, q, _, _, rfl, rfl, s56 _ _ (s05 _ _ hh), s56 _ _ hq5, by omega, fun H7 q2 s7 h7 => ?_⟩
    have s57 := Same.trans s56 s7
    refine ⟨_, rfl, x, T.N.X.C, dxx, _, _, rfl, s57 _ _ ee5, T.N.X.cl, T.N.X.nR, xf_r .., _, rfl, x, T.N.X.C, dxx, _, _, rfl, s57 _ _ ee5, T.N.X.cl, T.N.X.nSt, xf_st .., ?_⟩
    intro y dy ny ndy ney
    refine ⟨y, dy, q1, q2, r4, .ref m, AA.2, rfl, upd_same, fun H8 o8 hy => ⟨rfl, ?_⟩⟩
    have s78 := made_same ny ndy o8
    have s58 := Same.trans s57 s78
    have s08 := Same.trans s05 s58
    have at8 := s08 _ _ hR.at_
    have yl : y ≠ lv := (ne_of_none (s57 _ _ (s05 _ _ hR.at_)) ny).symm
    refine ⟨_, rfl, lv, T.CR, dx, _, rfl, at8, T.clR, T.nRm, (by show 4 < 1000; decide), ?_⟩
    rw [rf_pm]
    refine ⟨_, rfl, ?_⟩
    have oL : Off lv H8 (upd H8 lv (.ins T.CR dx (rf lo sz false y))) := Off.put Off.refl
    have ft : ∀ (p : Addr) (xs : List V), H8 p = some (.tup xs) → (upd H8 lv (.ins T.CR dx (rf lo sz false y))) p = some (.tup xs) := fun p xs e => oL _ _ (ne_of e at8 (by intro z; cases z)) e
    have ms : MsAt H8 q1 q2 r4 ((n, said) :: rr).reverse (stR sz (ordsR t) (ordsE t) ((n, said) :: rr)).x := by
      rw [sf.1, List.reverse_cons]
      exact ⟨_, _, s78 _ _ (s7 _ _ h6), rps_snoc (r := (n, said)) (s78 _ _ (s7 _ _ (s6 _ _ (u2 _ _ upd_same)))) (hRp.same s08), s78 _ _ h7, (hP.same s08).app (hP5.same s58), s58 _ _ hr5⟩
    refine k _ y q vs4 (fun b o nb e => by rw [upd_ne nb]; exact s08 _ _ e) ⟨upd_same, (hR.lo.same s08).off3 at8 oL, ?_⟩ nq0 (ft _ _ (s58 _ _ hq5)) ((hP5.same s58).mono ft)
    refine .cons (m' := m) (dm := dy) ?_ (ms.mono ft) ((hR.same s08).mo.off at8 oL)
    rw [upd_ne yl, hy, sf.2]
/-! ### feed -/
theorem scRdF : FnScope ["self", "count", "told"] ["self", "count", "told"] (defScope sRdF) := ⟨rfl, rfl, rfl, by decide +kernel, rfl, by decide +kernel, by decide +kernel⟩
theorem ok_rdf (T : TxRd K mg) : FnOk P w K mg base (L2.CX P w) 6 T.fe.f T.fe.fd ["self", "count", "told"] (spRdT T) := by
  have GC : FnOk P w K mg base CX0 1 T.cf.f T.cf.fd ["self"] (spRdCf T) := ok_rdcf T
  have GT : FnOk P w K mg base (L2.CX P w) 5 T.ta.f T.ta.fd ["self", "count", "told"] (spRdT T) := ok_rdt T
  refine T.fe.F.okX scRdF (fun vs H Q E h => ?_) (fun cdv A outer s H vs Q E hr h => ?_)
  · obtain ⟨lv, _, _, _, _, _, _, _, _, rfl, _⟩ := h
    rfl
  · obtain ⟨lv, dx, lo, m, sz, n, said, t, rr, rfl, hR, rest⟩ := h
    have hr1 : Room 1 _ := hr.mono (by decide)
    refine ⟨_, (pss_cons (ps_expr (pe_meth0 (pv 0) T.clR T.cf.m GC hr1 T.cf.b .nil pass0)) (pss_one (ps_ret (pe_meth (E := E) (pv 0) T.clR T.ta.m GT hr T.ta.b .nil (passes_call (takes_of rfl rfl rfl rfl) fun _ _ _ _ z => z) (pa_cons (pv 1) (pa_cons (pv 2) pa_nil)))))), ?_⟩
    refine ⟨_, rfl, lv, dx, _, rfl, hR.at_, rf_n4 .., lv, dx, lo, m, sz, rfl, hR.at_, ?_⟩
    exact ⟨_, rfl, lv, dx, _, rfl, hR.at_, rf_n3 .., _, rfl, _, rfl, lv, dx, lo, m, sz, n, said, t, rr, rfl, hR, rest⟩
/-! ### check_loop, __init__ -/
def spCKL (T : TxRd K mg) : Sp := fun vs H Q _ => ∃ (lo : Addr) (t : Str), vs = [.ref lo] ∧ LoopAt T.N.T.C H lo t ∧ Q .non H
theorem scCKL : FnScope ["loop"] ["loop"] (defScope sCKL) := ⟨rfl, rfl, rfl, by decide +kernel, rfl, by decide +kernel, by decide +kernel⟩
theorem loop_ty (T : TxRd K mg) {H : Hp} {o : Addr} {t : Str} (h : LoopAt T.N.T.C H o t) : TyX K H (.ref o) (.ref T.N.T.C) := by
  obtain ⟨dx, pr, pe, po, pq, e, _⟩ := h
  exact .base (.ins e T.N.T.cl T.y1 T.y2 T.y3 T.y4)
theorem ok_ckl (T : TxRd K mg) : FnOk P w K mg base CX0 1 T.ckl.f T.ckl.fd ["loop"] (spCKL T) := by
  refine T.ckl.F.ok scCKL (fun vs H Q E h => ?_) (fun cdv A outer s H vs Q E hr h => ?_)
  · obtain ⟨lo, t, rfl, _⟩ := h
    rfl
  · obtain ⟨lo, t, rfl, hL, k⟩ := h
    exact ⟨_, (pss_one (ps_if (pt_not (pt_val (pe_callB call_isi (by rfl) T.N.k.isi (by decide +kernel) (pa_cons (pv 0) (pa_cons (pe_glob (v := .ref T.N.T.C) rfl T.N.T.gC rfl) pa_nil))))) (pss_one ps_never) pss_nil)), _, rfl, _, _, _, _, true, rfl, .own T.N.T.C, loop_ty T hL, T.y5, true, rfl, iteF k⟩
def spRdI (T : TxRd K mg) : Sp := fun vs H Q _ => ∃ (x dx lo : Addr) (sz : Nat) (t : Str), vs = [.ref x, .ref lo, .int sz] ∧ H x = some (.ins T.CR dx []) ∧ LoopAt T.N.T.C H lo t ∧ 1 ≤ sz ∧ sz ≤ 1000 ∧ ∀ (H' : Hp) (m : Addr), Off x H H' → RdAt T H' x dx lo m sz t [] → Q .non H'
theorem scRdI : FnScope ["self", "loop", "size"] ["self", "loop", "size"] (defScope sRdI) := ⟨rfl, rfl, rfl, by decide +kernel, rfl, by decide +kernel, by decide +kernel⟩
theorem ok_rdi (T : TxRd K mg) : FnOk P w K mg base (L2.CX P w) 4 T.fR T.fdR ["self", "loop", "size"] (spRdI T) := by
  have GK : FnOk P w K mg base CX0 1 T.ckl.f T.ckl.fd ["loop"] (spCKL T) := ok_ckl T
  have GS : FnOk P w K mg base (L2.CX P w) 3 T.N.k.cks.f T.N.k.cks.fd ["size"] (spCKS K T.N.k.eS.C) := ok_cks T.N.k
  have GM : FnOk P w K mg base CX0 1 T.fM T.fdM ["self", "before", "given", "handed", "kept", "over"] (spMmI T.CM) := ok_mmi T
  refine T.FR.okX scRdI (fun vs H Q E h => ?_) (fun cdv A outer s H vs Q E hr h => ?_)
  · obtain ⟨x, dx, lo, sz, t, rfl, _⟩ := h
    rfl
  · obtain ⟨x, dx, lo, sz, t, rfl, hx, hL, z1, z2, k⟩ := h
    have hr1 : Room 1 _ := hr.mono (by decide)
    have hr2 : Room 2 _ := hr.mono (by decide)
    refine ⟨_, (pss_cons (ps_expr (pe_call GK hr1 rfl T.ckl.g T.ckl.k T.ckl.b .nil pass0 (pa_cons (pv 1) pa_nil))) (pss_cons (ps_expr (pe_call GS hr rfl T.N.k.cks.g T.N.k.cks.k T.N.k.cks.b .nil pass_none (pa_cons (pv 2) pa_nil))) (pss_cons (ps_fld (pv 0) (pv 1) rfl) (pss_cons (ps_fld (pv 0) (pv 2) rfl) (pss_cons (ps_fld (pv 0) pe_bl rfl) (pss_one (ps_fld (pv 0) (pe_make T.MM GM hr2 rfl T.gM T.bM .nil pass0 (pa_cons pe_non (pa_cons (pe_tup pa_nil) (pa_cons (pe_tup pa_nil) (pa_cons (pe_tup pa_nil) (pa_cons pe_bl pa_nil)))))) rfl))))))), ?_⟩
    refine ⟨_, rfl, lo, t, rfl, hL, ?_⟩
    have hb : btw 1 1000 (.int (sz : Int)) = true := decide_eq_true (show (1 : Int) ≤ (sz : Int) ∧ (sz : Int) ≤ 1000 from ⟨by omega, by omega⟩)
    refine ⟨_, rfl, .int sz, rfl, typed_int _, fun _ => ?_, fun z => absurd (hb.symm.trans z) (by decide)⟩
    refine ⟨_, rfl, _, rfl, x, T.CR, dx, _, rfl, hx, T.clR, T.nRl, (by show 0 < 1000; decide), ?_⟩
    refine ⟨_, rfl, _, rfl, x, T.CR, dx, _, rfl, upd_same, T.clR, T.nRs, (by show 1 < 1000; decide), ?_⟩
    refine ⟨_, rfl, x, T.CR, dx, _, rfl, upd_same, T.clR, T.nRb, small8 (Nat.le_trans (putF8 (n := 1) (by show 1 ≤ 1; decide)) (by decide)), ?_⟩
    have o1 : Off x H (upd (upd (upd H x (.ins T.CR dx (putF "loop" (.ref lo) []))) x (.ins T.CR dx (putF "size" (.int sz) (putF "loop" (.ref lo) [])))) x (.ins T.CR dx (putF "busy" (.bl false) (putF "size" (.int sz) (putF "loop" (.ref lo) []))))) := fun b o nb e => by
      rw [upd_ne nb, upd_ne nb, upd_ne nb]
      exact e
    have hx1 : (upd (upd (upd H x (.ins T.CR dx (putF "loop" (.ref lo) []))) x (.ins T.CR dx (putF "size" (.int sz) (putF "loop" (.ref lo) [])))) x (.ins T.CR dx (putF "busy" (.bl false) (putF "size" (.int sz) (putF "loop" (.ref lo) []))))) x = some (.ins T.CR dx (putF "busy" (.bl false) (putF "size" (.int sz) (putF "loop" (.ref lo) [])))) := upd_same
    generalize upd (upd (upd H x (.ins T.CR dx (putF "loop" (.ref lo) []))) x (.ins T.CR dx (putF "size" (.int sz) (putF "loop" (.ref lo) [])))) x (.ins T.CR dx (putF "busy" (.bl false) (putF "size" (.int sz) (putF "loop" (.ref lo) [])))) = H1 at o1 hx1 ⊢
    refine ⟨(by show 0 ≤ sizeLine; decide), fun g ng => ⟨(by show 0 ≤ sizeLine; decide), fun h nh => ⟨(by show 0 ≤ sizeLine; decide), fun kk nk => ?_⟩⟩⟩
    have u1 := same_new (o := .tup []) ng
    have u2 := same_new (o := .tup []) nh
    have u3 := same_new (o := .tup []) nk
    intro y dy ny ndy ney
    refine ⟨y, dy, g, h, kk, .non, false, rfl, upd_same, fun H8 o8 hy => ⟨rfl, ?_⟩⟩
    have s8 := Same.trans u1 (Same.trans u2 (Same.trans u3 (made_same ny ndy o8)))
    have hx8 := s8 _ _ hx1
    have yx : y ≠ x := (ne_of_none (u3 _ _ (u2 _ _ (u1 _ _ hx1))) ny).symm
    have sy := made_same ny ndy o8
    refine ⟨_, rfl, x, T.CR, dx, _, rfl, hx8, T.clR, T.nRm, small8 (Nat.le_trans (putF8 (putF8 (n := 1) (by show 1 ≤ 1; decide))) (by decide)), ?_⟩
    have oF : Off x H (upd H8 x (.ins T.CR dx (rf lo sz false y))) := fun b o nb e => by
      rw [upd_ne nb]
      exact s8 _ _ (o1 _ _ nb e)
    have ft : ∀ (p : Addr) (xs : List V), H8 p = some (.tup xs) → (upd H8 x (.ins T.CR dx (rf lo sz false y))) p = some (.tup xs) := fun p xs e => by
      rw [upd_ne (ne_of e hx8 (by intro z; cases z))]
      exact e
    refine k (upd H8 x (.ins T.CR dx (rf lo sz false y))) y oF ⟨upd_same, ?_, ?_⟩
    · have f0 : ∀ (p : Addr) (xs : List V), H p = some (.tup xs) → (upd H8 x (.ins T.CR dx (rf lo sz false y))) p = some (.tup xs) := fun p xs e => oF _ _ (ne_of e hx (by intro z; cases z)) e
      obtain ⟨dlo, pr, pe, po, pq, e1, e2, e3, e4, e5⟩ := hL
      exact ⟨dlo, pr, pe, po, pq, oF _ _ (ne_of e1 hx fun z => by have e := congrArg List.length (HO.ins.inj z).2.2; have l5 : (lf t pr pe po pq).length = 5 := rfl; rw [l5] at e; cases e) e1, f0 _ _ e2, f0 _ _ e3, e4.mono f0, e5.mono f0⟩
    · refine .nil (dm := dy) (g := g) (h := h) (k := kk) (by rw [upd_ne yx]; exact hy) ⟨[], [], ft _ _ (sy _ _ (u3 _ _ (u2 _ _ upd_same))), .nil, ft _ _ (sy _ _ (u3 _ _ upd_same)), .nil, ft _ _ (sy _ _ upd_same)⟩
end
end My

/-! own exceptions as values: made by position and by keyword, read, asked for their classes -/
namespace ExV
open PySem PySem.W PySem.Calls PyProof.Rows PySem.HandSPX Builtin
section
variable {prog : Program} {w : World} {A : Around} {Er : Value → Shared → Prop} {R : Result → Shared → Prop} {hp : Heap} {g : Array GenState} {dr : Drawn} {tk : Nat} {os : OsState}
variable {nm q : Str} {C N : Addr} {bs bm tail : List Value} {hasD : Bool} {sn : List Str} {sub : List Value} {ab : Bool} {col : Option Bool} {dd : Option Addr} {k0 k1 k2 k3 k5 : Option Value} {B nId iId : String} {kw : List (Str × Value)}
theorem chkK {M : Model} {Q : Unit → Shared → Prop} (F : ExcBaseFacts B nId iId tail) (same : ∀ Y : String, bm.contains (.type Y) = tail.contains (.type Y)) (atC : hp.get? C = some (excClassObj nm q C N bs bm hasD sn sub ab col dd k0 k1 k2 k3 k5 nId)) (hq : Q () ⟨hp, g, dr, tk, os⟩) :
    wpAny M A (checkBuiltinCall nId ⟨[.ref C], kw⟩) Q Er ⟨hp, g, dr, tk, os⟩ := by
  have inB : (Value.ref C :: bm).contains (.type B) = true := by
    rw [List.contains_cons, same, F.hasB]
    simp
  have noS := F.noStar
  unfold checkBuiltinCall
  simp only [F.newKind, F.newSplit, F.newRow]
  repeat (first | refine wpAny_loadPart_at atC ?_ | (refine wpAny_isSubtype_exc atC ?_; rw [inB]) | refine wpAny_staticBase_exc atC ?_ | refine wpAny_madeBy_exc atC ?_ | simp only [bne_self_eq_false, Bool.false_eq_true, if_false] | wp_step)
  exact hq
theorem newK (F : ExcBaseFacts B nId iId tail) (same : ∀ Y : String, bm.contains (.type Y) = tail.contains (.type Y)) (atC : hp.get? C = some (excClassObj nm q C N bs bm hasD sn sub ab col dd k0 k1 k2 k3 k5 nId))
    (hq : R (.ok (.ret (.ref (hp.objs.size + 1)))) ⟨(hp.push (kdv_tup [])).push (excO C hp.objs.size), g, dr, tk, os⟩) : codeAny (model prog w) A (.builtin nId ⟨[.ref C], kw⟩) R ⟨hp, g, dr, tk, os⟩ := by
  have ends := F.ends
  have inB : (Value.ref C :: bm).contains (.type B) = true := by
    rw [List.contains_cons, same, F.hasB]
    simp
  have inA : (Value.ref C :: bm).contains (.type "AttributeError") = false := by
    rw [List.contains_cons, same, F.noAttr]
    rfl
  have inN : (Value.ref C :: bm).contains (.type "NameError") = false := by
    rw [List.contains_cons, same, F.noName]
    rfl
  have few : ([] : List Value).length ≤ sizeLine := Nat.zero_le _
  refine codeAny_builtinAt F.entry ?_
  unfold Builtin.«BaseException.__new__»
  refine PySem.wpAt_bind ?_
  show PySem.wpAt _ _ _ (stack >>= _) _ _ _
  refine PySem.wpAt_bind (PySem.wpAt_stack fun p below => PySem.wpAt_of_wpAny ?_)
  wp_walk
  refine PySem.wpAt_of_wpAny ?_
  rw [F.owner]
  repeat (first | with_reducible refine wpAny_madeHere_exc F.canon atC ?_ | with_reducible refine wpAny_loadPart_at atC ?_ | (with_reducible refine wpAny_isSubtype_exc atC ?_; first | rw [inB] | rw [inA] | rw [inN]) | wp_step)
  show R _ _
  rw [Heap.size_push]
  exact hq
theorem typeK {fI : Addr} {Q : Fin → Shared → Prop} (F : ExcBaseFacts B nId iId tail) (same : ∀ Y : String, bm.contains (.type Y) = tail.contains (.type Y)) (atC : hp.get? C = some (excClassObj nm q C N bs bm hasD sn sub ab col dd k0 k1 k2 k3 k5 nId))
    (find : Looks (model prog w) hp (typeLookup (.ref C) "__init__") (some (.ref fI))) (bind : ∀ self, Looks (model prog w) hp (bindSpecial (.ref fI) self) (.ref fI, [self]))
    (hq : codeAny (model prog w) A (.call (.ref fI) ⟨[.ref (hp.objs.size + 1)], kw⟩) (fun r s' => match r with | .ok (.ret v) => v = .none ∧ Q (.done (.ret (.ref (hp.objs.size + 1)))) s' | .ok _ => False | .error e => Er e s')
      ⟨(hp.push (kdv_tup [])).push (excO C hp.objs.size), g, dr, tk, os⟩) : wpAny (model prog w) A (Builtin.«type.__call__» ⟨[.ref C], kw⟩) Q Er ⟨hp, g, dr, tk, os⟩ := by
  repeat (first | with_reducible refine wpAny_loadPart_at atC ?_ | with_reducible refine wpAny_madeBy_exc atC ?_ | wp_step)
  refine codeAny_call_builtin_code (Code.quiet_builtin _ F.quiet) (chkK F same atC ?_)
  refine newK F same atC ?_
  show wpAny _ _ _ _ _ _
  have stay : ∀ b o, hp.get? b = some o → ((hp.push (kdv_tup [])).push (excO C hp.objs.size)).get? b = some o := fun b o e => Heap.get?_push_of_some _ (Heap.get?_push_of_some _ e)
  have atC1 := stay _ _ atC
  have new : ((hp.push (kdv_tup [])).push (excO C hp.objs.size)).get? (hp.objs.size + 1) = some (excO C hp.objs.size) := by heap_get
  have itself : (Value.ref C :: bm).contains (.ref C) = true := by simp
  have f1 := find.keeps stay
  have b1 := (bind (.ref (hp.objs.size + 1))).keeps stay
  unfold isInstance
  repeat (first | with_reducible refine wpAny_loadPart_at new ?_ | (with_reducible refine wpAny_isSubtype_exc atC1 ?_; rw [itself]) | wp_step)
  show wpAny _ _ (typeLookup (.ref C) _) _ _ _
  refine f1.at ?_
  refine wpAny_holding (wpAny_bind (b1.at ?_))
  refine wpAny_bind (wpAny_call (codeAny_mono hq fun r s' z => ?_))
  rcases r with e | (v | _ | _ | _) <;> first | exact z | exact z.elim | skip
  obtain ⟨rfl, z⟩ := z
  first
    | exact wpAny_pure (wpAny_pure z)
    | (wp_walk; exact z)
theorem callK {fI : Addr} (F : ExcBaseFacts B nId iId tail) (same : ∀ Y : String, bm.contains (.type Y) = tail.contains (.type Y)) (atC : hp.get? C = some (excClassObj nm q C N bs bm hasD sn sub ab col dd k0 k1 k2 k3 k5 nId))
    (find : Looks (model prog w) hp (typeLookup (.ref C) "__init__") (some (.ref fI))) (bind : ∀ self, Looks (model prog w) hp (bindSpecial (.ref fI) self) (.ref fI, [self]))
    (hq : codeAny (model prog w) (A.under (.builtin "type.__call__" ⟨[.ref C], kw⟩)) (.call (.ref fI) ⟨[.ref (hp.objs.size + 1)], kw⟩) (InitBack (hp.objs.size + 1) R) ⟨(hp.push (kdv_tup [])).push (excO C hp.objs.size), g, dr, tk, os⟩) :
    codeAny (model prog w) A (.call (.ref C) ⟨[], kw⟩) R ⟨hp, g, dr, tk, os⟩ := by
  have f1 := tc_lookup
  have f2 := tc_bind (.ref C)
  have isTy : (⟨hp, g, dr, tk, os⟩ : Shared).TypeIs (.ref C) "type" := ⟨_, atC, rfl⟩
  refine codeAny_of_tree ?_
  show wpAny _ _ (callAny (.ref C) _) _ _ _
  repeat (any_goals (first | assumption | with_reducible refine wpAny_loadPart_at atC ?_ | wp_step))
  refine ⟨rfl, ?_⟩
  refine codeAny_call_builtin_at (Code.quiet_builtin _ (by decide +kernel)) entry_typeCall (wpAny_check_type_call_sub atC (typeK F same atC find bind ?_))
  refine codeAny_mono hq fun r s' z => ?_
  rcases r with e | (v | _ | _ | _) <;> exact z
end
/-! ### what stands behind the own classes -/
inductive Behind (tail : List Value) : List Value → Prop
  | here : Behind tail tail
  | own {c : Addr} {r : List Value} : Behind tail r → Behind tail (.ref c :: r)
structure Tail (B nId iId : String) (tail : List Value) : Prop where
  F : ExcBaseFacts B nId iId tail
  pass : ∀ self, refuseLoop self "__setattr__" tail = pure ()
  obj : tail.contains (.type "object") = true
  ne : tail.isEmpty = false
theorem tail_V : Tail "ValueError" "ValueError.__new__" "ValueError.__init__" [.type "ValueError", .type "Exception", .type "BaseException", .type "object"] := ⟨PySem.F.excBase_ValueError, fun self => PySem.F.store_ValueError.passes self, by decide +kernel, rfl⟩
theorem tail_A : Tail "ArithmeticError" "ArithmeticError.__new__" "ArithmeticError.__init__" [.type "ArithmeticError", .type "Exception", .type "BaseException", .type "object"] := ⟨PySem.F.excBase_ArithmeticError, fun self => PySem.F.store_ArithmeticError.passes self, by decide +kernel, rfl⟩
theorem Behind.contains {tail l : List Value} (h : Behind tail l) (Y : String) : l.contains (.type Y) = tail.contains (.type Y) := by
  induction h with
  | here => rfl
  | own _ ih =>
    rw [List.contains_cons, ih]
    rfl
theorem Behind.pass {B nId iId : String} {tail l : List Value} (T : Tail B nId iId tail) (h : Behind tail l) (self : Value) : refuseLoop self "__setattr__" l = pure () := by
  induction h with
  | here => exact T.pass self
  | own _ ih =>
    rw [refuseLoop_ref]
    exact ih
theorem Behind.ne {B nId iId : String} {tail l : List Value} (T : Tail B nId iId tail) (h : Behind tail l) : l.isEmpty = false := by
  cases h with
  | here => exact T.ne
  | own _ => rfl
section
open ObjectAttr
variable {prog : Program} {w : World} {A : Around} {R : Result → Shared → Prop} {hp : Heap} {g : Array GenState} {dr : Drawn} {tk : Nat} {os : OsState}
/-- the first field of an exception -/
theorem osaT {K : Frag} {name : Str} {tn : Tok} {v : Value} {x C : Addr} {fv : Array Value} {cd : ClassData} {B nId iId : String} {tail : List Value} (T : Tail B nId iId tail)
    (X : K.In hp) (hx : hp.get? x = some { cls := .ref C, data := .fields fv }) (hcd : clsIn K C = some cd) (hm : Behind tail cd.mro) (hh : cd.hasDict = true) (no : findIn K (.ref C) name = some none)
    (hq : ∀ h' tk', (∀ b o, b ≠ x → hp.get? b = some o → h'.get? b = some o) → h'.get? x = some { cls := .ref C, dict := some hp.objs.size, data := .fields fv } →
      h'.Ns1 hp.objs.size (fun y => if y = name then some v else none) → R (.ok (.ret .none)) ⟨h', g, dr, tk', os⟩) :
    codeAny (model prog w) A (.call (.builtin "object.__setattr__") ⟨[.ref x, .str name tn, v], []⟩) R ⟨hp, g, dr, tk, os⟩ := by
  have at_ : InstAt hp x { cls := .ref C, data := .fields fv } C none := ⟨hx, rfl, rfl, trivial⟩
  have S := PySem.F.store_object
  have mroHas : cd.mro.contains (.type "object") = true := (hm.contains "object").trans T.obj
  have apart : x ≠ hp.objs.size := Nat.ne_of_lt (Heap.lt_size hx)
  have isObj : Looks (model prog w) hp (isInstance (.ref x) (.type "object")) true := at_.type.andThen (looks_mroIn X (by
    unfold mroIn
    rw [hcd, Option.bind_some, if_neg (by rw [hm.ne T]; decide), mroHas]))
  refine codeAny_call_builtin S.slot.plain S.entry ?_
  refine @check_slot (model prog w) _ _ ⟨hp, g, dr, tk, os⟩ "object.__setattr__" "object" "__setattr__" (.ref x) [.str name tn, v] [] _ S.kind S.split isObj (S.args (.ref x) (.str name tn) v) ?_
  have mroIs : Looks (model prog w) hp (mroOf (.ref C)) cd.mro := (looks_clsIn X hcd).andThen .now
  have noTaker : Looks (model prog w) hp (storeTaker? none) none := .now
  have dataIs : Looks (model prog w) hp (classData C) cd := looks_clsIn X hcd
  rw [osa_eq, refuse_eq]
  refine wpAny_bind (wpAny_bind (at_.type.at (wpAny_bind (mroIs.at ?_))))
  rw [hm.pass T]
  refine wpAny_pure (wpAny_bind (at_.type.at (wpAny_bind ((looks_findIn X no).at (wpAny_bind (noTaker.at ?_))))))
  show wpAny _ _ (storeInOwnDict (.ref x) (.ref C) (.str name tn) name v false) _ _ _
  obtain ⟨c1, c2, c3, c4, c5, c6, c7, c8, c9, ca, cb⟩ := cd
  dsimp only at hh
  subst hh
  unfold storeInOwnDict ownDictForStores
  repeat (first | with_reducible refine store_in_new ?_ ?_ | with_reducible refine wpAny_loadPart_at hx ?_ | with_reducible refine dataIs.at ?_ | wp_step)
  · exact ⟨_, #[], _, (Heap.get?_update_ne _ _ _ _ apart.symm).trans (Heap.get?_push_at rfl rfl), rfl, fun e he => absurd he (by simp), fun _ => rfl⟩
  · intro h' tk' ns but
    have hx1 : (hp.push { cls := .type "dict", data := .dict #[] }).get? x = some { cls := .ref C, data := .fields fv } := Heap.get?_push_of_some _ hx
    refine hq h' tk' (fun b o nb e => ?_) ((but.2 x apart).trans (Heap.get?_update_self _ hx1 rfl)) ns
    refine (but.2 b (Nat.ne_of_lt (Heap.lt_size e))).trans ?_
    rw [Heap.get?_update_ne _ _ _ _ nb]
    exact Heap.get?_push_of_some _ e
end
end ExV

namespace ExV
open PySem PySem.Spec PyProof.Rows L2
/-- what the written part says of an own exception class -/
structure XvC (K : PySem.W.Frag) (C : Addr) (nId : String) (tail : List Value) : Prop where
  cls : ∃ nm q N bs bm sn sub ab col dd k0 k1 k2 k3 k5, K.lookup C = some (excClassObj nm q C N bs bm true sn sub ab col dd k0 k1 k2 k3 k5 nId) ∧ Behind tail bm
  sa : PySem.W.findIn K (.ref C) "__setattr__" = some (some (.builtin "object.__setattr__"))
  kC : PySem.W.keepIn K (.ref C) = true
/-- an error of the class at C, at a: its field f holds v -/
def Err (H : Hp) (a C : Addr) (f : Str) (v : V) : Prop := ∃ dx, H a = some (exo a C (some dx)) ∧ H dx = some (exd dx [(f, v)])
theorem Err.same {H H' : Hp} {a C : Addr} {f : Str} {v : V} (h : Err H a C f v) (s : ∀ b o, H b = some o → H' b = some o) : Err H' a C f v := let ⟨dx, x, y⟩ := h; ⟨dx, s _ _ x, s _ _ y⟩
section
variable {X : Cx} {pins : List (Addr × Obj)} {σ : L2.St} {H : Hp} {s : Shared} {a C : Addr} {f : Str} {y : V} {u : Value} {Q : Unit → Shared → Prop} {Er : Value → Shared → Prop} {A : Around} {B nId iId : String} {tail : List Value}
theorem ostV (T : Tail B nId iId tail) (VC : XvC X.K C nId tail) (I : Inv X pins σ H s) (e : H a = some (exo a C none)) (no : PySem.W.findIn X.K (.ref C) f = some none) (ry : RelV y u)
    (h : ∀ dx s', H dx = none → dx ≠ a → Inv X pins σ (upd (upd H dx (exd dx [(f, y)])) a (exo a C (some dx))) s' → Q () s') : wpAny (model X.prog X.w) A (setAttr (.ref a) f u) Q Er s := by
  obtain ⟨nm, q, N, bs, bm, sn, sub, ab, col, dd, k0, k1, k2, k3, k5, lC, beh⟩ := VC.cls
  have cd : PySem.W.clsIn X.K C = some { name := nm, bases := bs, mro := .ref C :: bm, ns := N, qualname := q, hasDict := true, slotNames := sn, subclasses := sub, abstract := ab, collection := col, hasDel := false } := by
    unfold PySem.W.clsIn
    rw [lC] <;> rfl
  obtain ⟨t1, at_⟩ := exo_at I.hok e
  obtain ⟨hp, g, d, t, os⟩ := s
  refine PySem.W.set_plain I.kIn (ox := { cls := .ref C, dict := none, data := .fields #[.ref t1, .none, .none, .none, .bool false, .none] }) (od := none) ⟨at_, rfl, rfl, trivial⟩ VC.sa ?_
  refine osaT T I.kIn at_ cd (.own beh) rfl no fun h' tk' k hx hn => ?_
  have nd : H hp.objs.size = none := I.hok.fresh (Nat.le_refl _)
  have ne : hp.objs.size ≠ a := Nat.ne_of_gt (Heap.lt_size at_)
  obtain ⟨oD, es, ep, atD, rD⟩ := id hn
  have fr : oD.isFreed = false := by
    obtain ⟨r1, _⟩ := rD
    cases oD
    dsimp only at r1
    subst r1
    rfl
  have J1 : Inv X pins σ (upd H hp.objs.size (exd hp.objs.size [(f, y)])) ⟨hp.push oD, g, d, tk', os⟩ :=
    I.laid (t' := tk') (fun b o q => Heap.get?_push_of_some _ q) (Nat.le_refl _) (exd_ok (mA := fun z => if z = f then some u else none) ⟨oD, es, ep, Heap.get?_push_at rfl fr, rD⟩ (relO_put (fs := []) ry fun _ => True.intro))
  have stay : ∀ b o, b ≠ a → (hp.push oD).get? b = some o → h'.get? b = some o := fun b o nb q => by
    rcases Heap.get?_push_cases q with ⟨rfl, rfl⟩ | q
    · exact atD
    · exact k b o nb q
  have e1 : (upd H hp.objs.size (exd hp.objs.size [(f, y)])) a = some (exo a C none) := by
    rw [upd_ne (Ne.symm ne)]
    exact e
  exact h _ _ nd ne (J1.write (t' := tk') (x := a) (e := a) (o := exo a C (some hp.objs.size)) (by rw [e1]; exact True.intro) (.inl rfl) stay ⟨_, hx⟩ (exo_ok hx))
end
/-- self.f = e, where self has no field yet -/
def tOstV (K : PySem.W.Frag) (f : Str) (to te : TE) : TS := fun D σ H => te σ H fun y H1 => to σ H1 fun x H2 => ∃ (a C : Addr) (B nId iId : String) (tail : List Value), x = .ref a ∧ Tail B nId iId tail ∧ XvC K C nId tail ∧ PySem.W.findIn K (.ref C) f = some none ∧
  H2 a = some (exo a C none) ∧ ∀ dx, H2 dx = none → dx ≠ a → D.nx σ (upd (upd H2 dx (exd dx [(f, y)])) a (exo a C (some dx)))
/-- what such an __init__ promises -/
def spIni (C : Addr) (f : Str) : Sp := fun vs H Q _ => ∃ (a : Addr) (v : V), vs = [.ref a, v] ∧ H a = some (exo a C none) ∧ ∀ dx, H dx = none → dx ≠ a → Q .non (upd (upd H dx (exd dx [(f, v)])) a (exo a C (some dx)))
theorem made {C a : Addr} {f : Str} {v : V} {H1 : Hp} {Q : VK} (na : H1 a = none) (q : ∀ (a : Addr) (H' : Hp), Same H1 H' → Err H' a C f v → Q (.ref a) H') :
    spIni C f [.ref a, v] (upd H1 a (exo a C none)) (fun r H2 => r = .non ∧ Q (.ref a) H2) fun _ _ _ => False := by
  refine ⟨a, v, rfl, upd_same, fun dx ndx nda => ⟨rfl, q a _ (fun b o e => ?_) ⟨dx, upd_same, ?_⟩⟩⟩
  · rw [upd_ne nda] at ndx
    rw [upd_ne (ne_of_none e na), upd_ne (ne_of_none e ndx), upd_ne (ne_of_none e na)]
    exact e
  · rw [upd_ne nda, upd_same]
def tMkV (C : Addr) (f : Str) (te : TE) : TE := fun σ H Q => te σ H fun v H1 => ∀ (a : Addr) (H' : Hp), Same H1 H' → Err H' a C f v → Q (.ref a) H'
section
variable {X : Cx} {o e : Expr} {to te : TE} {f : Str} {p p' pos : Pos}
theorem ps_ostV (ho : PE X o to) (he : PE X e te) (hs : swapsWith e (some (.Attribute o f p')) pos.line X.env = pure false := by rfl) : PS X (.Assign [.Attribute o f p'] e pos) (tOstV X.K f to te) := by
  refine ⟨fun pins s σ H D I h => ?_⟩
  refine plainObj_wpAny_Assign_Attribute (thn (he.run pins s σ H _ I h) fun v s1 w1 => ?_) hs
  obtain ⟨y, H1, I1, r1, q1⟩ := w1
  refine thn (ho.run pins s1 σ H1 _ I1 q1) fun u s2 w2 => ?_
  obtain ⟨x, H2, I2, r2, a, C, B, nId, iId, tail, rfl, T, VC, no, ea, q⟩ := w2
  cases r2
  exact ostV T VC I2 ea no r1 fun dx s' n ne J => ⟨σ, _, J, q dx n ne⟩
/-- C(e), as a value -/
theorem pe_mkV {x : Str} {C fI : Addr} {k : Nat} {fd : FuncData} {n1 n2 : Str} {B nId iId : String} {tail : List Value} (T : Tail B nId iId tail) (VC : XvC X.K C nId tail) (iC : PySem.W.findIn X.K (.ref C) "__init__" = some (some (.ref fI))) (tI : PySem.W.typeIn X.K (.ref fI) = some (.type "function"))
    (F1 : FnOk X.prog X.w X.K X.mg X.base CX0 k fI fd [n1, n2] (spIni C f)) (hr : Room (k + 1) X.A) (hb : Binds X.K fd [n1, n2] []) (hg : Gl X x) (hm : X.mg x = some (.ref C)) (he : PE X e te)
    (hdb : (x == ("__debug__" : Str)) = false := by decide) (hs : starEach [e] X.env = (false, eval e X.env) :: starEach [] X.env := by rfl) :
    PE X (.Call (.Name x p) [e] [] pos) (tMkV C f te) := by
  refine ⟨fun pins s σ H Q I h => ?_⟩
  obtain ⟨nm, q, N, bs, bm, sn, sub, ab, col, dd, k0, k1, k2, k3, k5, lC, beh⟩ := VC.cls
  refine wpAny_Call_Name_kw (ld_glob I hg hm ?_ hdb)
  refine PySem.W.callWith_K (h₀ := X.base) I.ok.mod.kin VC.kC ?_ hs (by rfl)
  rw [hs]
  refine Calls.spliced_cons (thn (he.run pins s σ H _ I h) fun u s1 ⟨v, H1, I1, r1, q1⟩ => Calls.spliced_nil ⟨I1.kIn, ?_⟩)
  show wpAny _ _ (call (.ref C) [u]) _ _ _
  obtain ⟨hp, g, dr, tk, os⟩ := s1
  have room : hp.objs.size ≤ hp.objs.size + 1 := Nat.le_succ _
  have na : H1 (hp.objs.size + 1) = none := I1.hok.fresh room
  have hq := made (C := C) (f := f) (Q := Q) na q1
  have I2 : Inv X pins σ (upd H1 (hp.objs.size + 1) (exo (hp.objs.size + 1) C none)) ⟨(hp.push (PySem.W.kdv_tup [u])).push (PySem.HandSPX.excO C hp.objs.size), g, dr, tk, os⟩ :=
    I1.laid (t' := tk) (fun b o z => Heap.get?_push_of_some _ (Heap.get?_push_of_some _ z)) room (exo_ok (t1 := hp.objs.size) (by heap_get))
  have r2 : Vals [V.ref (hp.objs.size + 1), v] [Value.ref (hp.objs.size + 1), u] := .cons rfl (.cons r1 .nil)
  refine wpAny_call (PySem.HandSPX.call_own T.F (fun Y => beh.contains Y) (I1.kIn _ _ lC) (PySem.W.looks_findIn I1.kIn iC) (fun self => PySem.W.bind_fn I1.kIn self tI) (by show 1 ≤ sizeLine; decide) ?_)
  refine codeAny_mono (F1.run _ X.stack _ _ ⟨[Value.ref (hp.objs.size + 1), u], []⟩ [Value.ref (hp.objs.size + 1), u] _ _ _ (hr.make C [u] []) (I2.env0.make C [u] []) (hb _ [Value.ref (hp.objs.size + 1), u] I2.kIn rfl) r2 hq) fun r s' hq' => ?_
  match r, hq' with
  | .error er, hq' => exact (show False from hq').elim
  | .ok (.ret z), hq' =>
    obtain ⟨v2, H', I3, rv, rfl, q3⟩ := I2.after hq'
    exact ⟨rv, ⟨V.ref (hp.objs.size + 1), H', I3, rfl, q3⟩⟩
/-- C(f=e), as a value -/
theorem pe_mkVK {x : Str} {C fI : Addr} {k : Nat} {fd : FuncData} {n1 n2 : Str} {kws : List Keyword} {tk : TA} {B nId iId : String} {tail : List Value} {gF : List Value → List Value → List Value} {gV : List V → List V → List V} (T : Tail B nId iId tail) (VC : XvC X.K C nId tail) (iC : PySem.W.findIn X.K (.ref C) "__init__" = some (some (.ref fI))) (tI : PySem.W.typeIn X.K (.ref fI) = some (.type "function"))
    (F1 : FnOk X.prog X.w X.K X.mg X.base CX0 k fI fd [n1, n2] (spIni C f)) (hr : Room (k + 1) X.A) (hb : KBn X.K fd [n1, n2] 1 [n2] gF gV) (hgV : ∀ x y, gV [x] [y] = [x, y]) (hg : Gl X x) (hm : X.mg x = some (.ref C)) (hkw : PK X kws tk)
    (hall : (backToKw pos (keywordEach kws X.env)).all (·.1.isSome) = true := by rfl) (hks : (backToKw pos (keywordEach kws X.env)).filterMap (·.1) = [n2] := by rfl) (hdb : (x == ("__debug__" : Str)) = false := by decide)
    (hpl : ((backTo pos (starEach [] X.env)).any (·.1) || (backToKw pos (keywordEach kws X.env)).any (·.1.isNone)) = false := by rfl) :
    PE X (.Call (.Name x p) [] kws pos) (fun σ H Q => tk σ H fun vs H1 => ∃ v, vs = [v] ∧ ∀ (a : Addr) (H' : Hp), Same H1 H' → Err H' a C f v → Q (.ref a) H') := by
  refine ⟨fun pins s σ H Q I h => ?_⟩
  obtain ⟨nm, q, N, bs, bm, sn, sub, ab, col, dd, k0, k1, k2, k3, k5, lC, beh⟩ := VC.cls
  refine wpAny_Call_Name_kw (ld_glob I hg hm ?_ hdb)
  refine PySem.W.callWith_KW0 (h₀ := X.base) I.ok.mod.kin VC.kC hall ?_ hpl
  refine thn (hkw.run pos pins s σ H _ I h) fun ws s1 ⟨zs, H1, I1, rz, v, ev, q1⟩ => ⟨I1.kIn, ?_⟩
  rw [hks]
  subst ev
  obtain ⟨u, rfl, r1⟩ := vals1 rz
  show wpAny _ _ (call (.ref C) [] [(n2, u)]) _ _ _
  obtain ⟨hp, g, dr, tk, os⟩ := s1
  have room : hp.objs.size ≤ hp.objs.size + 1 := Nat.le_succ _
  have na : H1 (hp.objs.size + 1) = none := I1.hok.fresh room
  have hq := made (C := C) (f := f) (Q := Q) na q1
  have I2 : Inv X pins σ (upd H1 (hp.objs.size + 1) (exo (hp.objs.size + 1) C none)) ⟨(hp.push (PySem.W.kdv_tup [])).push (PySem.HandSPX.excO C hp.objs.size), g, dr, tk, os⟩ :=
    I1.laid (t' := tk) (fun b o z => Heap.get?_push_of_some _ (Heap.get?_push_of_some _ z)) room (exo_ok (t1 := hp.objs.size) (by heap_get))
  have r2 : Vals (gV [V.ref (hp.objs.size + 1)] [v]) (gF [Value.ref (hp.objs.size + 1)] [u]) := hb.rel (.cons rfl .nil) (.cons r1 .nil)
  rw [hgV] at r2
  refine wpAny_call (callK T.F (fun Y => beh.contains Y) (I1.kIn _ _ lC) (PySem.W.looks_findIn I1.kIn iC) (fun self => PySem.W.bind_fn I1.kIn self tI) ?_)
  refine codeAny_mono (F1.run _ X.stack _ _ ⟨[Value.ref (hp.objs.size + 1)], [(n2, u)]⟩ _ _ _ _ (hr.make C [] [(n2, u)]) (I2.env0.make C [] [(n2, u)]) (hb.to _ [Value.ref (hp.objs.size + 1)] [u] I2.kIn rfl rfl) r2 hq) fun r s' hq' => ?_
  match r, hq' with
  | .error er, hq' => exact (show False from hq').elim
  | .ok (.ret z), hq' =>
    obtain ⟨v2, H', I3, rv, rfl, q3⟩ := I2.after hq'
    exact ⟨rv, ⟨V.ref (hp.objs.size + 1), H', I3, rfl, q3⟩⟩
/-- C(), C without own __init__, as a value -/
theorem pe_mk0 {C : Addr} {tail : List Value} {B nId iId : String} {x : Str} (F : ExcBaseFacts B nId iId tail) (q : PySem.W.excIn X.K C tail nId = true) (gC : X.mg x = some (.ref C)) (kC : PySem.W.keepIn X.K (.ref C) = true) (hg : Gl X x) (hdb : (x == ("__debug__" : Str)) = false := by decide) :
    PE X (.Call (.Name x p) [] [] pos) (fun σ H Q => ∀ (a : Addr) (H' : Hp), Same H H' → H' a = some (ExO (.ref C) a) → Q (.ref a) H') := by
  refine ⟨fun pins s σ H Q I h => ?_⟩
  refine wpAny_Call_Name_kw (ld_glob I hg gC ?_ hdb)
  refine PySem.W.callWith_K0 I.kIn kC ?_
  show wpAny _ _ (call (.ref C) []) _ _ _
  obtain ⟨bm, N, nm, qn, bs, hdct, sn, sub, ab, col, dd, k0, k1, k2, k3, k5, mN, hC, hN, hni, T⟩ := exc_obj I.kIn q
  refine wpAny_call_exc_subT F T hC hN hni (fun h' a hm => ?_) (Nat.zero_le _)
  have hn : H a = none := I.hok.gone hm.new
  obtain ⟨t, ht, _, _⟩ := hm.there
  exact ⟨.ref a, upd H a (ExO (.ref C) a), I.laidN hm.keeps hm.new hn (exO_ok ht ⟨rfl, rfl⟩ rfl rfl rfl (show 4 < 6 by decide)), rfl, h a _ (fun b o z => by rw [upd_ne (ne_of_none z hn)]; exact z) upd_same⟩
/-- e.f -/
def tXv (K : PySem.W.Frag) (n : Str) (te : TE) : TE := fun σ H Q => te σ H fun x H1 => ∃ (a C : Addr) (v : V), x = .ref a ∧ XfC K C ∧ PySem.W.findIn K (.ref C) n = some none ∧ Err H1 a C n v ∧ Q v H1
theorem pe_xv {n : Str} (he : PE X e te) (hb : attributeBase e n X.env (eval e X.env) = eval e X.env := by rfl) : PE X (.Attribute e n pos) (tXv X.K n te) := by
  refine ⟨fun pins s σ H Q I h => ?_⟩
  refine attr_of hb (thn (he.run pins s σ H _ I h) fun u s1 w1 => ?_)
  obtain ⟨x, H1, I1, rx, a, C, v, rfl, T, no, ⟨dx, ea, ed⟩, q⟩ := w1
  cases rx
  obtain ⟨t1, ha⟩ := exo_at I1.hok ea
  obtain ⟨mA, hns, hr⟩ := exd_at I1.hok ed
  obtain ⟨od, ho, hl⟩ := lookIn_ns hns
  obtain ⟨u, hu, ru⟩ := RelO.some_of (v := v) (o := mA n) (by
    have z := hr n
    rw [lookup_put, if_pos rfl] at z
    exact z)
  have J : PySem.W.InstAt s1.heap a { cls := .ref C, dict := some dx, data := .fields #[.ref t1, .none, .none, .none, .bool false, .none] } C (some od) := ⟨ha, rfl, rfl, ho⟩
  exact HandSPX.exc_get I1.kIn J T.ga T.gg T.exC (PySem.W.findObj_own T.hdC no rfl (by rw [hl, hu])) (handed_of ru) ⟨v, H1, I1.tok _, ru, q⟩
end
/-! ### isinstance -/
structure XiC (K : PySem.W.Frag) (D : Addr) : Prop where
  xf : XfC K D
  ic : (PySem.W.clsIn K D).isSome = true
  c1 : PySem.W.findIn K (.ref D) "__class__" = some (some (.builtin "object.__class__"))
  c2 : PySem.W.specialIn K (.builtin "object.__class__") "__get__" = some (some (.builtin "getset_descriptor.__get__"))
  c3 : PySem.W.takesIn K (.builtin "object.__class__") = some true
  c4 : PySem.W.mroIn K D (.type "object") = some true
/-- at a stands an exception of the class at C -/
def Exn (H : Hp) (a C : Addr) : Prop := (∃ d, H a = some (exo a C (some d)) ∧ ∃ fs, H d = some (exd d fs)) ∨ H a = some (ExO (.ref C) a)
theorem Exn.same {H H' : Hp} {a C : Addr} (h : Exn H a C) (s : ∀ b o, H b = some o → H' b = some o) : Exn H' a C := by
  rcases h with ⟨d, x, fs, y⟩ | x
  · exact .inl ⟨d, s _ _ x, fs, s _ _ y⟩
  · exact .inr (s _ _ x)
theorem Err.exn {H : Hp} {a C : Addr} {f : Str} {v : V} (h : Err H a C f v) : Exn H a C := let ⟨d, x, y⟩ := h; .inl ⟨d, x, _, y⟩
def rIsV (K : PySem.W.Frag) : List V → Hp → VK → Prop := fun xs H Q => ∃ (a C : Addr) (c : V) (cv : Value) (b : Bool), xs = [.ref a, c] ∧ (∀ u, RelV c u → u = cv) ∧ Exn H a C ∧ XiC K C ∧ PySem.W.kitOne K (.ref C) cv = some b ∧ Q (.bl b) H
theorem call_isV {X : Cx} : CallR X (.builtin "isinstance") (rIsV X.K) := by
  intro pins s σ H xs us Q I r h
  obtain ⟨a, C, c, cv, b, rfl, hcv, hex, XC, e, q⟩ := h
  cases r with
  | cons rx rr =>
    cases rr with
    | cons rt rr =>
      cases rr
      cases rx
      cases hcv _ rt
      have at_ : ∃ (oe : Obj) (od : Option Obj), PySem.W.InstAt s.heap a oe C od := by
        rcases hex with ⟨d, ea, fs, ed⟩ | ea
        · obtain ⟨t1, ha⟩ := exo_at I.hok ea
          obtain ⟨mA, hns, _⟩ := exd_at I.hok ed
          obtain ⟨od, ho, _⟩ := lookIn_ns hns
          exact ⟨_, some od, ha, rfl, rfl, ho⟩
        · obtain ⟨⟨oe, vs, ho, hz, hd, _⟩, _, _⟩ := I.hok a _ ea
          refine ⟨oe, none, ho, hz.1, by unfold PySem.W.notCls; rw [hd] <;> rfl, ?_⟩
          rw [hz.2]
          exact trivial
      obtain ⟨oe, od, J⟩ := at_
      exact PySem.W.kia_one (PySem.W.kitx_exc (gt := none) XC.ic XC.xf.ga XC.xf.gg XC.xf.exC XC.c1 XC.c2 XC.c3 XC.c4) I.kIn J e (fun z => nomatch z) fun tk => ⟨.bl b, H, I.kept (t' := tk) fun _ _ z => z, rfl, q⟩
end ExV

/-! raise C(e), C an own class with an own __init__ of one field, over any base -/
namespace ExV
open PySem PySem.Spec PyProof.Rows L2
section
variable {X : Cx} {e : Expr} {te : TE} {f : Str} {p pos : Pos}
def tRz (C : Addr) (f : Str) (te : TE) : L2.St → Hp → XK → Prop := fun σ H Q => te σ H fun v H1 => ∀ d, H1 d = none → Q (.ref C) (some d) (upd H1 d (.xd [(f, v)]))
theorem rz_mk {C a : Addr} {f : Str} {v : V} {H1 : Hp} {Q : XK} (na : H1 a = none) (q : ∀ d, H1 d = none → Q (.ref C) (some d) (upd H1 d (.xd [(f, v)]))) :
    spIni C f [.ref a, v] (upd H1 a (exo a C none)) (fun r H2 => r = .non ∧ ∃ (d : Addr) (fs : List (Str × V)), H2 a = some (exo a C (some d)) ∧ H2 d = some (exd d fs) ∧ H1 d = none ∧ Q (.ref C) (some d) (upd (del H2 a) d (.xd fs))) fun _ _ _ => False := by
  refine ⟨a, v, rfl, upd_same, fun dx ndx nda => ⟨rfl, dx, [(f, v)], upd_same, ?_, ?_, ?_⟩⟩
  · rw [upd_ne nda, upd_same]
  · rw [upd_ne nda] at ndx
    exact ndx
  · have e : upd (del (upd (upd (upd H1 a (exo a C none)) dx (exd dx [(f, v)])) a (exo a C (some dx))) a) dx (.xd [(f, v)]) = upd H1 dx (.xd [(f, v)]) := by
      funext b
      by_cases h1 : b = dx
      · rw [h1, upd_same, upd_same]
      · rw [upd_ne h1, upd_ne h1]
        by_cases h2 : b = a
        · rw [h2, del_same, na]
        · rw [del_ne h2, upd_ne h2, upd_ne h1, upd_ne h2]
    rw [e]
    rw [upd_ne nda] at ndx
    exact q dx ndx
theorem pmk_V {x : Str} {C fI : Addr} {k : Nat} {fd : FuncData} {n1 n2 : Str} {B nId iId : String} {tail : List Value} (T : Tail B nId iId tail) (VC : XvC X.K C nId tail) (rz : Raises X (.ref C)) (iC : PySem.W.findIn X.K (.ref C) "__init__" = some (some (.ref fI))) (tI : PySem.W.typeIn X.K (.ref fI) = some (.type "function"))
    (F1 : FnOk X.prog X.w X.K X.mg X.base CX0 k fI fd [n1, n2] (spIni C f)) (hr : Room (k + 1) X.A) (hb : Binds X.K fd [n1, n2] []) (hg : Gl X x) (hm : X.mg x = some (.ref C)) (he : PE X e te)
    (hdb : (x == ("__debug__" : Str)) = false := by decide) (hs : starEach [e] X.env = (false, eval e X.env) :: starEach [] X.env := by rfl) :
    PMk X (.Call (.Name x p) [e] [] pos) (tRz C f te) := by
  intro pins s σ H Q I h
  obtain ⟨nm, q, N, bs, bm, sn, sub, ab, col, dd, k0, k1, k2, k3, k5, lC, beh⟩ := VC.cls
  refine wpAny_Call_Name_kw (ld_glob I hg hm ?_ hdb)
  refine PySem.W.callWith_K (h₀ := X.base) I.ok.mod.kin VC.kC ?_ hs (by rfl)
  rw [hs]
  refine Calls.spliced_cons (thn (he.run pins s σ H _ I h) fun u s1 ⟨v, H1, I1, r1, q1⟩ => Calls.spliced_nil ⟨I1.kIn, ?_⟩)
  show wpAny _ _ (call (.ref C) [u]) _ _ _
  obtain ⟨hp, g, dr, tk, os⟩ := s1
  have room : hp.objs.size ≤ hp.objs.size + 1 := Nat.le_succ _
  have na : H1 (hp.objs.size + 1) = none := I1.hok.fresh room
  have hq := rz_mk (C := C) (f := f) (Q := Q) na q1
  have kk : ∀ b o, hp.get? b = some o → ((hp.push (PySem.W.kdv_tup [u])).push (PySem.HandSPX.excO C hp.objs.size)).get? b = some o := fun b o z => Heap.get?_push_of_some _ (Heap.get?_push_of_some _ z)
  have I2 : Inv X pins σ (upd H1 (hp.objs.size + 1) (exo (hp.objs.size + 1) C none)) ⟨(hp.push (PySem.W.kdv_tup [u])).push (PySem.HandSPX.excO C hp.objs.size), g, dr, tk, os⟩ :=
    I1.laid (t' := tk) kk room (exo_ok (t1 := hp.objs.size) (by heap_get))
  have r2 : Vals [V.ref (hp.objs.size + 1), v] [Value.ref (hp.objs.size + 1), u] := .cons rfl (.cons r1 .nil)
  refine wpAny_call (PySem.HandSPX.call_own T.F (fun Y => beh.contains Y) (I1.kIn _ _ lC) (PySem.W.looks_findIn I1.kIn iC) (fun self => PySem.W.bind_fn I1.kIn self tI) (by show 1 ≤ sizeLine; decide) ?_)
  refine codeAny_mono (F1.run _ X.stack _ _ ⟨[Value.ref (hp.objs.size + 1), u], []⟩ [Value.ref (hp.objs.size + 1), u] _ _ _ (hr.make C [u] []) (I2.env0.make C [u] []) (hb _ [Value.ref (hp.objs.size + 1), u] I2.kIn rfl) r2 hq) fun r s' hq' => ?_
  match r, hq' with
  | .error er, hq' => exact (show False from hq').elim
  | .ok (.ret z), hq' =>
    obtain ⟨v2, H2, os2, bare2, un2, hok2, rv, ev, d, fs, ea, ed, hd1, q2⟩ := hq'
    subst ev
    obtain ⟨h2, g2, d2, t2, os'⟩ := s'
    exact ⟨rv, mk_end rz I1 room kk un2 hok2 os2 bare2 ea ed hd1 q2⟩
end
end ExV

/-! try with several clauses `except C as n`, all of one name -/
namespace TryAs
open PySem PySem.Spec PyProof.Rows L2
/-- a clause: its class, and what its suite does -/
structure Cl where
  c : Value
  ts : Addr → Value → Option Addr → TS
/-- behind a suite the name is gone -/
def bare (i : Nat) (D : Ends) : Ends := ⟨fun σ H => D.nx (σ.set i none) H, D.rt, fun σ H => D.bk (σ.set i none) H, fun σ H => D.ct (σ.set i none) H⟩
def wish (K : PySem.W.Frag) (i : Nat) (out : WX) (D : Ends) : List Cl → WX
  | [] => out
  | k :: ks => fun cls d σ H => ∃ yes, PySem.W.exmOne K cls k.c = some yes ∧ cond yes (∀ e, H e = none → k.ts e cls d (bare i D) (σ.set i (some (.ref e))) H) (wish K i out D ks cls d σ H)
inductive Cls (X : Cx) (n : Str) : List ExceptHandler → List Cl → Prop
  | stop : Cls X n [] []
  | more {x : Str} {k : Cl} {st : Stmt} {sts : List Stmt} {p1 p2 : Pos} {hds : List ExceptHandler} {ks : List Cl} : Names X x k.c →
      (∀ (e : Addr) (o : Obj) (cls : Value) (d : Option Addr) (pn : List (Addr × Obj)), Zc cls d o → (∃ vs, o.data = .fields vs) → PSs (X.suite e ((e, o) :: pn)) (st :: sts) (k.ts e cls d)) → Cls X n hds ks →
      Cls X n (.ExceptHandler (some (.Name x p1)) (some n) (st :: sts) p2 :: hds) (k :: ks)
section
variable {X : Cx} {n : Str} {i : Nat} {out : WX} {D : Ends} {pins : List (Addr × Obj)} {σ : L2.St} {H : Hp} {sI : Shared} {B : Heap} {e : Addr} {cls : Value} {d : Option Addr}
/-- an error that has come down in X, sI is the state without it -/
structure Down (X : Cx) (pins : List (Addr × Obj)) (σ : L2.St) (H : Hp) (sI : Shared) (B : Heap) (e : Addr) (cls : Value) (d : Option Addr) (h : Heap) : Prop where
  J : Inv X pins σ H sI
  nb : ∀ b o, sI.heap.get? b = some o → b ∉ frs X.stack → B.get? b = some o
  up : sI.heap.UpToSlots h
  fl : HandSPX.FlyingZ B (X.env :: X.outer) e (Zc cls d) h
  na : H e = none
theorem Down.here {h : Heap} {s : Shared} (Z : Down X pins σ H sI B e cls d h) (os : s.os = sI.os) (ag : AllBare s.gens) : Inv X pins σ H { s with heap := h } := Z.J.landed Z.nb Z.fl.1 Z.up os ag
theorem Down.outside {h : Heap} (Z : Down X pins σ H sI B e cls d h) (hf : X.env.frame = some X.env.locals) : e ≠ X.env.locals ∧ e ∉ X.fs := by
  have no : e ∉ frs (X.env :: X.outer) := fun m => by
    obtain ⟨o1, vs, g1, _, f1⟩ := Z.fl.there
    obtain ⟨_, o2, g2, f2⟩ := Z.fl.2.2.1.mem m
    exact f2 vs ((congrArg Obj.data (Option.some.inj (g2.symm.trans g1))).trans f1)
  refine ⟨fun q => no ?_, fun q => no ?_⟩
  · exact q ▸ List.mem_filterMap.mpr ⟨X.env, List.mem_cons_self, hf⟩
  · obtain ⟨v, h1, h2⟩ := List.mem_filterMap.mp q
    exact List.mem_filterMap.mpr ⟨v, List.mem_cons_of_mem _ h1, h2⟩
/-- no clause has taken it: it goes on -/
theorem Down.on {h : Heap} {s : Shared} (Z : Down X pins σ H sI B e cls d h) (hs : X.stack = X.env :: X.outer) (hf : X.env.frame = some X.env.locals) (tk : Takes X out) (os : s.os = sI.os) (ag : AllBare s.gens) (w : out cls d σ H) :
    wpAny (model X.prog X.w) X.A (handleBy (.ref e) X.env []) (SP X pins D) X.xe { s with heap := h } := by
  refine wpAny_handleBy_nil ?_
  have last : wpAny (model X.prog X.w) X.A (setFlight (.ref e) X.env.frame) (fun _ t => wpAny (model X.prog X.w) X.A (throw (.ref e) : Sem Flow) (SP X pins D) X.xe t) X.xe { s with heap := h } := by
    rw [hf]
    exact HandSPX.setFlight_upZ Z.fl fun g held u => wpAny_throw (tk _ _ ⟨e, B, sI, pins, σ, H, cls, d, rfl, Z.J, Z.nb, Z.up.trans u, .inr (.inr (hs ▸ held)), Z.na, os, ag, w⟩)
  obtain ⟨_, _, _, o, vs, T, _, _, g1, _, g2, g3, _⟩ := id Z.fl
  unfold PySem.passOn
  refine wpAny_bind (wpAny_field g1 g2 g3 ?_)
  have ne : ¬ ((Value.ref T == Value.none) = true) := by simp
  rw [if_neg ne]
  first
    | exact wpAny_bind (wpAny_pure (wpAny_bind last))
    | exact wpAny_bind last
theorem Cls.run (hs : X.stack = X.env :: X.outer) (hf : X.env.frame = some X.env.locals) (nd : X.N.Nodup) (hi : X.N[i]? = some n) (ln : X.env.kindOf n = some .local) (tk : Takes X out) {h : Heap} {s : Shared} (Z : Down X pins σ H sI B e cls d h) (os : s.os = sI.os) (ag : AllBare s.gens) :
    ∀ {hds : List ExceptHandler} {ks : List Cl}, Cls X n hds ks → wish X.K i out D ks cls d σ H → wpAny (model X.prog X.w) X.A (handleBy (.ref e) X.env hds) (SP X pins D) X.xe { s with heap := h }
  | _, _, .stop, w => Z.on hs hf tk os ag w
  | _, _, .more (x := x) (k := k) (p1 := p1) (p2 := p2) nm ru re, w => by
    obtain ⟨yes, ex, w⟩ := w
    have I3 := Z.here os ag
    obtain ⟨n1, n2⟩ := Z.outside hf
    obtain ⟨o3, v3, g3, z3, f3⟩ := Z.fl.there
    have S3 := I3.suite g3 f3 Z.na n1 n2
    have ty : PySem.W.Looks (model X.prog X.w) h (typeOf (.ref e)) cls := fun _ _ _ _ kk q => wpAny_typeOf_ref (kk _ _ g3) (z3.1.symm ▸ q)
    have mt := PySem.W.exm_one (M := model X.prog X.w) I3.kIn ty ex
    have look : ∀ {Q E : Value → Shared → Prop}, Q k.c { s with heap := h } → wpAny (model X.prog X.w) (X.A.mark (some (.ref e))) (eval (.Name x p1) X.env) Q E { s with heap := h } := fun {Q E} q => by
      obtain ⟨gl, db, m1 | ⟨m1, m2, m3⟩⟩ := nm
      · exact ld_glob (X := X.suite e ((e, o3) :: (X.pn ++ pins))) S3 gl m1 q db
      · exact ld_blt (X := X.suite e ((e, o3) :: (X.pn ++ pins))) S3 gl m1 m2 q m3 db
    refine wpAny_handleBy_cons (codeAny_handlers_test (look (mt.here ?_))) fun q => nomatch q
    cases yes with
    | false => exact Cls.run hs hf nd hi ln tk Z os ag re w
    | true =>
      refine codeAny_handlers_suite_as (HandSPX.lands_againZ Z.fl fun g fl u => ?_)
      have Z4 : Down X pins σ H sI B e cls d g := ⟨Z.J, Z.nb, Z.up.trans u, fl, Z.na⟩
      have I4 := Z4.here os ag
      obtain ⟨o4, v4, g4, z4, f4⟩ := fl.there
      refine store_ok (X := X.suite e ((e, o4) :: (X.pn ++ pins))) (v := .ref e) (I4.suite g4 f4 Z.na n1 n2) nd hi (.inl ln) rfl (fun s5 S5 => ?_) (.inr ln)
      have run5 := (ru e o4 cls d (X.pn ++ pins) z4 ⟨v4, f4⟩).run [] s5 _ H (bare i D) S5 (w e Z.na)
      refine wpAny_mono run5 (fun fw s6 r6 => ?_) fun _ _ z => z.elim
      have gone : ∀ {σ6 : L2.St} {H6 : Hp} {q : Addr × Obj} {Q : Shared → Prop}, Inv (X.suite e (q :: (X.pn ++ pins))) [] σ6 H6 s6 → (∀ s7, Inv X pins (σ6.set i none) H6 s7 → Q s7) → wpAny (model X.prog X.w) X.A (do bindName X.env n .none; unbindBehindTheSuite X.env n p2) (fun _ s7 => Q s7) X.xe s6 :=
        fun S6 k => gone_ok (S6.unsuite Z.J.ok) nd hi ln k
      match fw, r6 with
      | .next, ⟨σ6, H6, S6, k6⟩ => exact gone S6 fun s7 I7 => ⟨_, _, I7, k6⟩
      | .brk, ⟨σ6, H6, S6, k6⟩ => exact gone S6 fun s7 I7 => ⟨_, _, I7, k6⟩
      | .cont, ⟨σ6, H6, S6, k6⟩ => exact gone S6 fun s7 I7 => ⟨_, _, I7, k6⟩
      | .ret v, ⟨v6, σ6, H6, S6, rv, k6⟩ => exact gone S6 fun s7 I7 => ⟨_, _, _, I7, rv, k6⟩
variable {body : List Stmt} {hd : ExceptHandler} {hds : List ExceptHandler} {ks : List Cl} {pos : Pos} {tb : WX → TS}
/-- the rule -/
theorem ps_try_asN (hs : X.stack = X.env :: X.outer) (hf : X.env.frame = some X.env.locals) (nd : X.N.Nodup) (hi : X.N[i]? = some n) (ln : X.env.kindOf n = some .local) (tk : Takes X out)
    (hb : ∀ (W : WX) (pn : List (Addr × Obj)) (xe : Value → Shared → Prop), Takes (X.tr pn xe) W → PassesOwn (model X.prog X.w) X.A X.env xe → PSs (X.tr pn xe) body (tb W)) (hh : Cls X n (hd :: hds) ks) :
    PS X (.Try body (hd :: hds) [] [] pos) fun D σ H => tb (wish X.K i out D ks) D σ H := by
  refine ⟨fun pins s σ H D I h => wpAny_Try_except ?_⟩
  have fr : X.A.frames = some (X.env :: X.outer) := I.ok.frames.trans (congrArg some hs)
  refine wpAny_mono ((hb _ (X.pn ++ pins) _ ?_ PassesOwn.looking).run [] s σ H D (I.toTry _) h) (fun fw t r => ?_) fun _ _ z => z
  · rintro _ t ⟨e, B, sI, _, σ1, H1, cls, d, rfl, J, nb, up, sky, na, os, ag, w⟩
    refine Sky.land Zc.steady fr hf (hs ▸ sky) fun g fl u => ?_
    exact Cls.run hs hf nd hi ln tk ⟨J.ofTry I.ok, nb, up.trans u, fl, na⟩ os ag hh w
  · match fw, r with
    | .next, ⟨_, _, J, q⟩ => exact wpAny_execs_nil ⟨_, _, J.ofTry I.ok, q⟩
    | .brk, ⟨_, _, J, q⟩ => exact ⟨_, _, J.ofTry I.ok, q⟩
    | .cont, ⟨_, _, J, q⟩ => exact ⟨_, _, J.ofTry I.ok, q⟩
    | .ret v, ⟨_, _, _, J, rv, q⟩ => exact ⟨_, _, _, J.ofTry I.ok, rv, q⟩
end
end TryAs

namespace IsX
open PySem L2
/-! ### isinstance of a caught error that bears a field -/
structure XiC (K : PySem.W.Frag) (D : Addr) : Prop where
  xf : XfC K D
  ic : (PySem.W.clsIn K D).isSome = true
  c1 : PySem.W.findIn K (.ref D) "__class__" = some (some (.builtin "object.__class__"))
  c2 : PySem.W.specialIn K (.builtin "object.__class__") "__get__" = some (some (.builtin "getset_descriptor.__get__"))
  c3 : PySem.W.takesIn K (.builtin "object.__class__") = some true
  c4 : PySem.W.mroIn K D (.type "object") = some true
def rIsX (K : PySem.W.Frag) (D a : Addr) (cls : Value) (d : Option Addr) : List V → Hp → VK → Prop := fun xs H Q => ∃ (c : V) (cv : Value) (b : Bool) (dd : Addr) (fs : List (Str × V)), xs = [.ref a, c] ∧ (∀ u, RelV c u → u = cv) ∧ cls = .ref D ∧ d = some dd ∧ H dd = some (.xd fs) ∧ PySem.W.kitOne K (.ref D) cv = some b ∧ Q (.bl b) H
theorem call_isX {X : Cx} {a D : Addr} {oe : Obj} {cls : Value} {d : Option Addr} {pn : List (Addr × Obj)} (C : XiC X.K D) (hz : Zc cls d oe) (hf : ∃ vs, oe.data = .fields vs) : CallR (X.suite a ((a, oe) :: pn)) (.builtin "isinstance") (rIsX X.K D a cls d) := by
  intro pins s σ H xs us Q I r h
  obtain ⟨c, cv, b, dd, fs, rfl, hcv, rfl, rfl, hdd, e, q⟩ := h
  cases r with
  | cons rx rr =>
    cases rr with
    | cons rt rr =>
      cases rr
      cases rx
      cases hcv _ rt
      obtain ⟨hget, _⟩ := I.pin (a, oe) (List.mem_append.mpr (.inl List.mem_cons_self))
      obtain ⟨vs, hv⟩ := hf
      have hx : ObjOk X.prog X.w H s.heap dd (.xd fs) := I.hok dd _ hdd
      obtain ⟨mA, hns, _⟩ := hx
      obtain ⟨od, ho, _⟩ := lookIn_ns hns
      have J : PySem.W.InstAt s.heap a oe D (some od) := ⟨hget, hz.1, by unfold PySem.W.notCls; rw [hv] <;> rfl, by rw [hz.2]; exact ho⟩
      exact PySem.W.kia_one (PySem.W.kitx_exc (gt := none) C.ic C.xf.ga C.xf.gg C.xf.exC C.c1 C.c2 C.c3 C.c4) I.kIn J e (fun z => nomatch z) fun tk => ⟨.bl b, H, I.kept (t' := tk) fun _ _ z => z, rfl, q⟩
/-- the slots are as many as the names -/
theorem takes_len {X : Cx} {W : WX} (tk : Takes X W) : Takes X (fun cls d σ H => σ.length = X.N.length → W cls d σ H) := fun u s2 ⟨a, B, sI, pins, σ, H, cls, d, e, I, nb, up, sky, na, os, ag, h⟩ =>
  tk u s2 ⟨a, B, sI, pins, σ, H, cls, d, e, I, nb, up, sky, na, os, ag, h I.len⟩
theorem len3 {σ : St} (h : σ.length = 3) : ∃ a b c, σ = [a, b, c] := by
  match σ, h with
  | [a, b, c], _ => exact ⟨a, b, c, rfl⟩
end IsX

/-! readings, where they refuse -/
namespace My
open PySem L2 Cm LM EM
abbrev sEL : Stmt := inClass (top 3) 0
abbrev sEC : Stmt := inClass (top 7) 0
abbrev sET : Stmt := inClass (top 8) 0
abbrev sEM : Stmt := inClass (top 15) 0
/-- an error with one field, over ArithmeticError -/
structure TxMx (K : PySem.W.Frag) (mg : Str → Option Value) where
  C : Addr
  f : Addr
  fd : FuncData
  g : mg "TooManyReplies" = some (.ref C)
  V : ExV.XvC K C "ArithmeticError.__new__" [.type "ArithmeticError", .type "Exception", .type "BaseException", .type "object"]
  s : PySem.W.subIn K (.ref C) (.type "BaseException") = some true
  ty : PySem.W.typeIn K (.ref C) = some (.type "type")
  i : PySem.W.findIn K (.ref C) "__init__" = some (some (.ref f))
  t : PySem.W.typeIn K (.ref f) = some (.type "function")
  n : PySem.W.findIn K (.ref C) "limit" = some none
  F : Fun K "__init__" "TooManyReplies.__init__" sEM f fd
  b : Binds K fd ["self", "limit"] []
structure TxRe (K : PySem.W.Frag) (mg : Str → Option Value) where
  R : TxRd K mg
  eL : TxEr K mg "NotALoop" "value" sEL "NotALoop.__init__"
  eC : TxEr K mg "InvalidCount" "value" sEC "InvalidCount.__init__"
  eT : TxEr K mg "InvalidTold" "value" sET "InvalidTold.__init__"
  xM : TxMx K mg
/-- it is told to be no instance of the class at C -/
def NoIn (K : PySem.W.Frag) (C : Addr) (H : Hp) (v : V) : Prop := ∃ t, TyX K H v t ∧ PySem.W.kitOne K t (.ref C) = some false
theorem NoIn.same {K : PySem.W.Frag} {C : Addr} {H H' : Hp} {v : V} (s : Same H H') (h : NoIn K C H v) : NoIn K C H' v := let ⟨t, a, b⟩ := h; ⟨t, TyX_same s a, b⟩
section
variable {P : Program} {w : World} {K : PySem.W.Frag} {mg : Str → Option Value} {base : Heap}
theorem scEL : FnScope ["self", "value"] ["self", "value"] (defScope sEL) := ⟨rfl, rfl, rfl, by decide +kernel, rfl, by decide +kernel, by decide +kernel⟩
theorem scEC : FnScope ["self", "value"] ["self", "value"] (defScope sEC) := ⟨rfl, rfl, rfl, by decide +kernel, rfl, by decide +kernel, by decide +kernel⟩
theorem scET : FnScope ["self", "value"] ["self", "value"] (defScope sET) := ⟨rfl, rfl, rfl, by decide +kernel, rfl, by decide +kernel, by decide +kernel⟩
theorem scEM : FnScope ["self", "limit"] ["self", "limit"] (defScope sEM) := ⟨rfl, rfl, rfl, by decide +kernel, rfl, by decide +kernel, by decide +kernel⟩
theorem ok_eL (T : TxEr K mg "NotALoop" "value" sEL "NotALoop.__init__") : FnOk P w K mg base CX0 1 T.f T.fd ["self", "value"] (spER "value" T.C) := by
  refine T.F.ok scEL (fun vs H Q E h => ?_) (fun cdv A outer s H vs Q E hr h => ?_)
  · obtain ⟨a, v, rfl, _⟩ := h
    rfl
  · obtain ⟨a, v, rfl, ha, k⟩ := h
    exact ⟨_, pss_one (ps_ost (pv 0) (pv 1)), _, rfl, _, rfl, a, T.C, rfl, T.o, T.n, .inl ⟨ha, fun dx n ne => k dx n ne⟩⟩
theorem ok_eC (T : TxEr K mg "InvalidCount" "value" sEC "InvalidCount.__init__") : FnOk P w K mg base CX0 1 T.f T.fd ["self", "value"] (spER "value" T.C) := by
  refine T.F.ok scEC (fun vs H Q E h => ?_) (fun cdv A outer s H vs Q E hr h => ?_)
  · obtain ⟨a, v, rfl, _⟩ := h
    rfl
  · obtain ⟨a, v, rfl, ha, k⟩ := h
    exact ⟨_, pss_one (ps_ost (pv 0) (pv 1)), _, rfl, _, rfl, a, T.C, rfl, T.o, T.n, .inl ⟨ha, fun dx n ne => k dx n ne⟩⟩
theorem ok_eT (T : TxEr K mg "InvalidTold" "value" sET "InvalidTold.__init__") : FnOk P w K mg base CX0 1 T.f T.fd ["self", "value"] (spER "value" T.C) := by
  refine T.F.ok scET (fun vs H Q E h => ?_) (fun cdv A outer s H vs Q E hr h => ?_)
  · obtain ⟨a, v, rfl, _⟩ := h
    rfl
  · obtain ⟨a, v, rfl, ha, k⟩ := h
    exact ⟨_, pss_one (ps_ost (pv 0) (pv 1)), _, rfl, _, rfl, a, T.C, rfl, T.o, T.n, .inl ⟨ha, fun dx n ne => k dx n ne⟩⟩
theorem ok_eM (T : TxMx K mg) : FnOk P w K mg base CX0 1 T.f T.fd ["self", "limit"] (ExV.spIni T.C "limit") := by
  refine T.F.ok scEM (fun vs H Q E h => ?_) (fun cdv A outer s H vs Q E hr h => ?_)
  · obtain ⟨a, v, rfl, _⟩ := h
    rfl
  · obtain ⟨a, v, rfl, ha, k⟩ := h
    exact ⟨_, pss_one (ExV.ps_ostV (pv 0) (pv 1)), _, rfl, _, rfl, a, T.C, _, _, _, _, rfl, ExV.tail_A, T.V, T.n, ha, fun dx n ne => k dx n ne⟩
/-! ### check_loop, where it refuses -/
def spCKLe (T : TxRe K mg) : Sp := fun vs H _ E => ∃ v : V, vs = [v] ∧ NoIn K T.R.N.T.C H v ∧ ∀ d, H d = none → E (.ref T.eL.C) (some d) (upd H d (.xd [("value", v)]))
theorem ok_ckle (T : TxRe K mg) : FnOk P w K mg base (L2.CX P w) 3 T.R.ckl.f T.R.ckl.fd ["loop"] (spCKLe T) := by
  have GE : FnOk P w K mg base CX0 1 T.eL.f T.eL.fd ["self", "value"] (spER "value" T.eL.C) := ok_eL T.eL
  refine T.R.ckl.F.okX scCKL (fun vs H Q E h => ?_) (fun cdv A outer s H vs Q E hr h => ?_)
  · obtain ⟨v, rfl, _⟩ := h
    rfl
  · obtain ⟨v, rfl, ⟨t, ty, kt⟩, k⟩ := h
    exact ⟨_, (pss_one (ps_if (pt_not (pt_val (pe_callB call_isi (by rfl) T.R.N.k.isi (by decide +kernel) (pa_cons (pv 0) (pa_cons (pe_glob (v := .ref T.R.N.T.C) rfl T.R.N.T.gC rfl) pa_nil))))) (pss_one (ps_raise rfl (takes_of rfl rfl rfl rfl) (pmk_oex T.eL.o T.eL.i T.eL.t GE hr T.eL.b .nil pass0 rfl T.eL.g (pa_cons (pv 0) pa_nil)))) pss_nil)), _, rfl, _, _, _, _, false, rfl, .own T.R.N.T.C, ty, kt, false, rfl, iteT (mk_er (x := v) ⟨v, rfl, rfl, rfl⟩ (fun {R R'} ⟨v, e1, q⟩ f => ⟨v, e1, f _ _ q⟩) k)⟩
/-! ### Reading(.., ..), where it refuses -/
def spRdIe (T : TxRe K mg) : Sp := fun vs H _ E => ∃ (x : Addr) (v z : V), vs = [.ref x, v, z] ∧
  ((NoIn K T.R.N.T.C H v ∧ ∀ d, H d = none → E (.ref T.eL.C) (some d) (upd H d (.xd [("value", v)]))) ∨
   ∃ (lo : Addr) (t : Str), v = .ref lo ∧ LoopAt T.R.N.T.C H lo t ∧ TypedI K H z ∧ btw 1 1000 z = false ∧ ∀ d, H d = none → E (.ref T.R.N.k.eS.C) (some d) (upd H d (.xd [("value", z)])))
theorem fn_or {CX : CXT} {k : Nat} {f : Addr} {fd : FuncData} {ps : List Str} {s1 s2 : Sp} (F1 : FnOk P w K mg base CX k f fd ps s1) (F2 : FnOk P w K mg base CX k f fd ps s2) : FnOk P w K mg base CX k f fd ps (fun vs H Q E => s1 vs H Q E ∨ s2 vs H Q E) :=
  ⟨fun vs H Q E h => h.elim (F1.len vs H Q E) (F2.len vs H Q E), fun A outer s H args us vs Q E hr e0 hb r h => h.elim (F1.run A outer s H args us vs Q E hr e0 hb r) (F2.run A outer s H args us vs Q E hr e0 hb r)⟩
theorem fn_up {k : Nat} {f : Addr} {fd : FuncData} {ps : List Str} {sp : Sp} (F : FnOk P w K mg base CX0 k f fd ps sp) (h0 : ∀ vs H Q (E E' : XK), sp vs H Q E → sp vs H Q E') : FnOk P w K mg base (L2.CX P w) k f fd ps sp :=
  ⟨F.len, fun A outer s H args us vs Q E hr e0 hb r h => codeAny_mono (F.run A outer s H args us vs Q (fun _ _ _ => False) hr e0 hb r (h0 _ _ _ _ _ h)) fun r s' q => by
    cases r with
    | error e => exact (show False from q).elim
    | ok fl => cases fl <;> exact q⟩
theorem ok_rdie (T : TxRe K mg) : FnOk P w K mg base (L2.CX P w) 4 T.R.fR T.R.fdR ["self", "loop", "size"] (spRdIe T) := by
  have GK : FnOk P w K mg base (L2.CX P w) 3 T.R.ckl.f T.R.ckl.fd ["loop"] (fun vs H Q E => spCKLe T vs H Q E ∨ spCKL T.R vs H Q E) := fn_or (ok_ckle T) ((fn_up (ok_ckl T.R) fun vs H Q E E' ⟨a, b, c⟩ => ⟨a, b, c⟩).mono (by decide))
  have GS : FnOk P w K mg base (L2.CX P w) 3 T.R.N.k.cks.f T.R.N.k.cks.fd ["size"] (spCKS K T.R.N.k.eS.C) := ok_cks T.R.N.k
  refine T.R.FR.okX scRdI (fun vs H Q E h => ?_) (fun cdv A outer s H vs Q E hr h => ?_)
  · obtain ⟨x, v, z, rfl, _⟩ := h
    rfl
  · obtain ⟨x, v, z, rfl, h⟩ := h
    refine ⟨_, (pss_cons (ps_expr (pe_call (E := E) GK hr rfl T.R.ckl.g T.R.ckl.k T.R.ckl.b .nil (passes_call (takes_of rfl rfl rfl rfl) fun _ _ _ _ z => z) (pa_cons (pv 1) pa_nil))) (pss_cons (ps_expr (pe_call (E := E) GS hr rfl T.R.N.k.cks.g T.R.N.k.cks.k T.R.N.k.cks.b .nil (passes_call (takes_of rfl rfl rfl rfl) fun _ _ _ _ z => z) (pa_cons (pv 2) pa_nil))) (pss_cons ps_never (pss_cons ps_never (pss_cons ps_never (pss_one ps_never)))))), ?_⟩
    rcases h with ⟨hn, k⟩ | ⟨lo, t, rfl, hL, ty, hb, k⟩
    · exact ⟨_, rfl, .inl ⟨v, rfl, hn, k⟩⟩
    · exact ⟨_, rfl, .inr ⟨lo, t, rfl, hL, _, rfl, z, rfl, ty, fun q => absurd (hb.symm.trans q) (by decide), fun _ => k⟩⟩
/-! ### check_reply, take, feed, where they refuse -/
def BadR (T : TxRe K mg) (sz : Nat) (t : Str) (rr : List (Nat × Bool)) (c b : V) (H : Hp) (E : XK) : Prop :=
  (btw 0 (sz : Int) c = false ∧ ∀ d, H d = none → E (.ref T.eC.C) (some d) (upd H d (.xd [("value", c)]))) ∨
  (btw 0 (sz : Int) c = true ∧ ((isB b = false ∧ ∀ d, H d = none → E (.ref T.eT.C) (some d) (upd H d (.xd [("value", b)]))) ∨
    (isB b = true ∧ (((stR sz (ordsR t) (ordsE t) rr).st = true ∧ E (.ref T.R.xS.C) none H) ∨
      ((stR sz (ordsR t) (ordsE t) rr).st = false ∧ rr.length = 100 ∧ ∀ d, H d = none → E (.ref T.xM.C) (some d) (upd H d (.xd [("limit", .int 100)])))))))
def spRdCe (T : TxRe K mg) : Sp := fun vs H _ E => ∃ (lv dx lo m : Addr) (sz : Nat) (c b : V) (t : Str) (rr : List (Nat × Bool)), vs = [.ref lv, c, b] ∧ RdAt T.R H lv dx lo m sz t rr ∧ TypedI K H c ∧ TypedI K H b ∧ rr.length ≤ 100 ∧ BadR T sz t rr c b H E
theorem ok_rdcre (T : TxRe K mg) : FnOk P w K mg base (L2.CX P w) 3 T.R.cr.f T.R.cr.fd ["self", "count", "told"] (spRdCe T) := by
  have GI : FnOk P w K mg base CX0 1 T.R.N.k.iib.f T.R.N.k.iib.fd ["value", "low", "high"] (spIIB K) := ok_iib T.R.N.k
  have GO : FnOk P w K mg base CX0 1 T.R.pO.f T.R.pO.fd ["self"] (spRd T.R fun _ _ _ ov => .bl ov) := ok_rdo T.R
  have GL : FnR P w K mg base CX0 1 T.R.rl.f (fun vs H Q E => spRdL T.R (vs ++ []) H Q E) := (ok_rdl T.R).raw T.R.rl.b .nil
  have G1 : FnOk P w K mg base CX0 1 T.eC.f T.eC.fd ["self", "value"] (spER "value" T.eC.C) := ok_eC T.eC
  have G2 : FnOk P w K mg base CX0 1 T.eT.f T.eT.fd ["self", "value"] (spER "value" T.eT.C) := ok_eT T.eT
  have G3 : FnOk P w K mg base CX0 1 T.xM.f T.xM.fd ["self", "limit"] (ExV.spIni T.xM.C "limit") := ok_eM T.xM
  obtain ⟨tm, mr⟩ := T.R.N.k.mr
  refine T.R.cr.F.okX scRdCr (fun vs H Q E h => ?_) (fun cdv A outer s H vs Q E hr h => ?_)
  · obtain ⟨lv, _, _, _, _, _, _, _, _, rfl, _⟩ := h
    rfl
  · obtain ⟨lv, dx, lo, m, sz, c, bb, t, rr, rfl, hR, tc, tb, hl, bad⟩ := h
    have hr1 : Room 1 _ := hr.mono (by decide)
    refine ⟨_, (pss_cons (ps_if (pt_not (pt_val (pe_call GI hr1 rfl T.R.N.k.iib.g T.R.N.k.iib.k T.R.N.k.iib.b .nil pass0 (pa_cons (pv 1) (pa_cons pe_int (pa_cons (pe_fld (pv 0) rfl) pa_nil)))))) (pss_one (ps_raise rfl (takes_of rfl rfl rfl rfl) (pmk_oex T.eC.o T.eC.i T.eC.t G1 hr T.eC.b .nil pass0 rfl T.eC.g (pa_cons (pv 1) pa_nil)))) pss_nil) (pss_cons (ps_if (pt_not (pt_val (pe_callB call_isi (by rfl) T.R.N.k.isi (by decide +kernel) (pa_cons (pv 2) (pa_cons (pe_bltn (v := .ty "bool") (by rfl) T.R.N.k.bool (by decide +kernel) rfl) pa_nil))))) (pss_one (ps_raise rfl (takes_of rfl rfl rfl rfl) (pmk_oex T.eT.o T.eT.i T.eT.t G2 hr T.eT.b .nil pass0 rfl T.eT.g (pa_cons (pv 2) pa_nil)))) pss_nil) (pss_cons (ps_if (pt_val (pe_prop (pv 0) T.R.clR T.R.pO.o GO hr T.R.pO.b .nil pass0 (by rfl))) (pss_one (ps_raise rfl (takes_of rfl rfl rfl rfl) (MkO.pmk_own0 PySem.F.excBase_LookupError T.R.xS.q T.R.xS.g T.R.xS.k (raises_own T.R.xS.s T.R.xS.t) rfl))) pss_nil) (pss_one (ps_if (pt_cmpR op_ge (pe_callB (call_lenO T.R.rl.i T.R.rl.fn GL hr) (by rfl) T.R.N.k.len PySem.boot_len (pa_cons (pv 0) pa_nil)) (pe_glob (v := .int 100) rfl mr ⟨_, rfl⟩) (nomark _)) (pss_one (ps_raise rfl (takes_of rfl rfl rfl rfl) (ExV.pmk_V ExV.tail_A T.xM.V (raises_own T.xM.s T.xM.ty) T.xM.i T.xM.t G3 hr T.xM.b rfl T.xM.g (pe_glob (v := .int 100) rfl mr ⟨_, rfl⟩)))) pss_nil))))), ?_⟩
    obtain ⟨dm, g, h, kk, b0, hm, hMs, _⟩ := hR.mo.head
    obtain ⟨gs, hs, hg, hRp, _⟩ := id hMs
    refine ⟨_, rfl, _, rfl, lv, T.R.CR, dx, _, _, rfl, hR.at_, T.R.clR, T.R.nRs, rf_s .., _, 0, sz, rfl, tc, _, rfl, ?_⟩
    rcases bad with ⟨h1, k⟩ | ⟨h1, bad⟩
    · rw [h1]
      exact iteT (mk_er (x := c) ⟨c, rfl, rfl, rfl⟩ (fun {R R'} ⟨v, e1, q⟩ f => ⟨v, e1, f _ _ q⟩) k)
    rw [h1]
    refine iteF ?_
    obtain ⟨ty, ty1, ty2, ty3⟩ := tb
    refine ⟨_, rfl, _, _, _, _, isB bb, rfl, .ty "bool", ty1, ty3, _, rfl, ?_⟩
    rcases bad with ⟨h2, k⟩ | ⟨h2, bad⟩
    · rw [h2]
      exact iteT (mk_er (x := bb) ⟨bb, rfl, rfl, rfl⟩ (fun {R R'} ⟨v, e1, q⟩ f => ⟨v, e1, f _ _ q⟩) k)
    rw [h2]
    refine iteF ?_
    refine ⟨_, rfl, lv, dx, _, rfl, hR.at_, lv, dx, lo, m, dm, g, h, kk, sz, false, b0, _, rfl, hR.at_, hm, _, rfl, ?_⟩
    rcases bad with ⟨h3, k⟩ | ⟨h3, h4, k⟩
    · rw [h3]
      exact iteT k
    rw [h3]
    refine iteF ?_
    have lg : gs.length = rr.length := by rw [hRp.len, List.length_reverse]
    refine ⟨_, rfl, lv, dx, _, rfl, hR.at_, lv, dx, lo, m, dm, g, h, kk, sz, false, b0, _, gs, rfl, hR.at_, hm, hg, gs.length, rfl, by omega, _, _, rfl, rfl, _, rfl, ?_⟩
    rw [show decide ((100 : Int) ≤ ((gs.length : Nat) : Int)) = true from decide_eq_true (by omega)]
    exact iteT k
theorem ok_rdte (T : TxRe K mg) : FnOk P w K mg base (L2.CX P w) 5 T.R.ta.f T.R.ta.fd ["self", "count", "told"] (spRdCe T) := by
  have GC : FnOk P w K mg base (L2.CX P w) 3 T.R.cr.f T.R.cr.fd ["self", "count", "told"] (spRdCe T) := ok_rdcre T
  refine T.R.ta.F.okX scRdT (fun vs H Q E h => ?_) (fun cdv A outer s H vs Q E hr h => ?_)
  · obtain ⟨lv, _, _, _, _, _, _, _, _, rfl, _⟩ := h
    rfl
  · obtain ⟨lv, dx, lo, m, sz, c, bb, t, rr, rfl, hR, rest⟩ := h
    have hr3 : Room 3 _ := hr.mono (by decide)
    refine ⟨_, (pss_cons (ps_expr (pe_meth (E := E) (pv 0) T.R.clR T.R.cr.m GC hr3 T.R.cr.b .nil (passes_call (takes_of rfl rfl rfl rfl) fun _ _ _ _ z => z) (pa_cons (pv 1) (pa_cons (pv 2) pa_nil)))) (pss_cons ps_never (pss_cons ps_never (pss_cons ps_never (pss_cons ps_never (pss_cons ps_never (pss_cons ps_never (pss_one ps_never)))))))), ?_⟩
    exact ⟨_, rfl, lv, dx, _, rfl, hR.at_, rf_n5 .., _, rfl, _, rfl, lv, dx, lo, m, sz, c, bb, t, rr, rfl, hR, rest⟩
theorem ok_rdfe (T : TxRe K mg) : FnOk P w K mg base (L2.CX P w) 6 T.R.fe.f T.R.fe.fd ["self", "count", "told"] (spRdCe T) := by
  have GC : FnOk P w K mg base CX0 1 T.R.cf.f T.R.cf.fd ["self"] (spRdCf T.R) := ok_rdcf T.R
  have GT : FnOk P w K mg base (L2.CX P w) 5 T.R.ta.f T.R.ta.fd ["self", "count", "told"] (spRdCe T) := ok_rdte T
  refine T.R.fe.F.okX scRdF (fun vs H Q E h => ?_) (fun cdv A outer s H vs Q E hr h => ?_)
  · obtain ⟨lv, _, _, _, _, _, _, _, _, rfl, _⟩ := h
    rfl
  · obtain ⟨lv, dx, lo, m, sz, c, bb, t, rr, rfl, hR, rest⟩ := h
    have hr1 : Room 1 _ := hr.mono (by decide)
    refine ⟨_, (pss_cons (ps_expr (pe_meth0 (pv 0) T.R.clR T.R.cf.m GC hr1 T.R.cf.b .nil pass0)) (pss_one (ps_ret (pe_meth (E := E) (pv 0) T.R.clR T.R.ta.m GT hr T.R.ta.b .nil (passes_call (takes_of rfl rfl rfl rfl) fun _ _ _ _ z => z) (pa_cons (pv 1) (pa_cons (pv 2) pa_nil)))))), ?_⟩
    refine ⟨_, rfl, lv, dx, _, rfl, hR.at_, rf_n4 .., lv, dx, lo, m, sz, rfl, hR.at_, ?_⟩
    exact ⟨_, rfl, lv, dx, _, rfl, hR.at_, rf_n3 .., _, rfl, _, rfl, lv, dx, lo, m, sz, c, bb, t, rr, rfl, hR, rest⟩
/-- feed, both ways -/
def spFe (T : TxRe K mg) : Sp := fun vs H Q E => spRdT T.R vs H Q E ∨ spRdCe T vs H Q E
theorem ok_fe (T : TxRe K mg) : FnOk P w K mg base (L2.CX P w) 6 T.R.fe.f T.R.fe.fd ["self", "count", "told"] (spFe T) := fn_or (ok_rdf T.R) (ok_rdfe T)
def spRi (T : TxRe K mg) : Sp := fun vs H Q E => spRdI T.R vs H Q E ∨ spRdIe T vs H Q E
theorem ok_ri (T : TxRe K mg) : FnOk P w K mg base (L2.CX P w) 4 T.R.fR T.R.fdR ["self", "loop", "size"] (spRi T) := fn_or (ok_rdi T.R) (ok_rdie T)
end
end My

/-! o.m(k = v, ..): a method called by keywords alone -/
namespace MKw
open PySem L2
/-- o, then the keywords' values, then the promise -/
def tMethK (C : Addr) (m : Str) (sp : Sp) (gV : List V → List V → List V) (E : XK) (ta : TE) (tk : TA) : TE := fun σ H Q => ta σ H fun x H1 => ∃ a dx fs, x = .ref a ∧ H1 a = some (.ins C dx fs) ∧ fs.lookup m = none ∧ tk σ H1 fun zs H2 => sp (gV [.ref a] zs) H2 Q E
theorem pe_methK {X : Cx} {CX : CXT} {k : Nat} {f C : Addr} {fd : FuncData} {ps ks : List Str} {sp : Sp} {E : XK} {m : Str} {pos apos : Pos} {o : Expr} {kws : List Keyword} {ta : TE} {tk : TA} {g : List Value → List Value → List Value} {gV : List V → List V → List V} {pl : Sem Bool}
    (ho : PE X o ta) (c : Cls X.K C) (hm : Meth X.K C m f) (F : FnOk X.prog X.w X.K X.mg X.base CX k f fd ps sp) (hr : Room k X.A) (hb : KBinds X.K fd ps ks g gV) (hx : Passes CX X E) (hkw : PK X kws tk)
    (hall : (backToKw pos (keywordEach kws X.env)).all (·.1.isSome) = true := by rfl) (hks : (backToKw pos (keywordEach kws X.env)).filterMap (·.1) = ks := by rfl)
    (hpl : ((backTo pos (starEach [] X.env)).any (·.1) || (backToKw pos (keywordEach kws X.env)).any (·.1.isNone)) = false := by rfl)
    (hev : eval (.Call (.Attribute o m apos) [] kws pos) X.env = (do
      let recv ← eval o X.env
      standAt apos.atName
      let (fn, firstOnes) ← holding [recv] (getMethod recv m pl)
      callWith pos fn firstOnes (backTo pos (starEach [] X.env)) (backToKw pos (keywordEach kws X.env))) := by rfl) :
    PE X (.Call (.Attribute o m apos) [] kws pos) (tMethK C m sp gV E ta tk) := by
  refine ⟨fun pins s σ H Q I h => ?_⟩
  refine PySem.W.methodCall_KW (pl := pl) (thn (ho.run pins s σ H _ I h) fun u s1 ⟨x, H1, I1, rx, a, dx, fs, ex, ea, l, q⟩ => ?_) hev
  subst ex
  obtain rfl : u = Value.ref a := rx
  refine getmeth_ok I1 ea c hm l ?_
  refine PySem.W.callWith_KW0 (first := [.ref a]) (h₀ := X.base) I.ok.mod.kin hm.kp hall ?_ hpl
  refine thn (hkw.run pos pins s1 σ H1 _ I1 q) fun ws s2 ⟨zs, H2, I2, rz, q2⟩ => ⟨I2.kIn, ?_⟩
  rw [hks]
  exact run_fnk (us := [.ref a]) (vs := [.ref a]) F hr hb hx I2 (.cons rfl .nil) rz q2
end MKw

/-! o.m(e, .., k = v): a method with a star parameter and a keyword-only one -/
namespace StK
open PySem PySem.Spec PyProof.Rows L2 StX
/-- the promise of a def called with values vs and one keyword, kv; the spec gets kv last -/
def FnK (P : Program) (w : World) (K : PySem.W.Frag) (mg : Str → Option Value) (base : Heap) (CX : CXT) (k : Nat) (f : Addr) (kn : Str) (sp : V → Sp) : Prop :=
  ∀ (A : Around) (outer : List Env) (s : Shared) (H : Hp) (us : List Value) (vs : List V) (ku : Value) (kv : V) (Q : VK) (E : XK), Room k A → Env0 P w K mg base A outer s H → Vals vs us → RelV kv ku → sp kv vs H Q E →
    codeAny (model P w) A (.call (.ref f) ⟨us, [(kn, ku)]⟩) (CR CX outer P w H s Q E) s
section
variable {P : Program} {w : World} {K : PySem.W.Frag} {mg : Str → Option Value} {base : Heap} {CX : CXT} {k j : Nat} {f : Addr} {name qual : Str} {params : Arguments} {body : List Stmt} {scope : Scope} {dV kV doc pm cdv ct oc : Value} {an od : Option Addr}
  {osl : Array (Option Value)} {N ps : List Str} {kn : Str} {sp sp' : V → Sp}
theorem FnK.mono (F : FnK P w K mg base CX j f kn sp) (h : j ≤ k) : FnK P w K mg base CX k f kn sp := fun A outer s H us vs ku kv Q E hr => F A outer s H us vs ku kv Q E (hr.mono h)
/-- def m(a, .., *v, kn), called with kn: ahead the values, then kn's, then a new tuple of the rest -/
theorem fn_starK {pv : Str} (lk : K.lookup f = some ⟨oc, od, .func (PySem.W.fnOf name qual params body scope dV kV doc pm an cdv ct), osl⟩) (hcd : PySem.W.codeIn K cdv qual = true) (S : FnScope N (ps ++ [kn, pv]) scope) (hCX : CXUp CX)
    (hb : ∀ (us rest : List Value) (ku : Value), us.length = ps.length → bindArgs (PySem.W.fnOf name qual params body scope dV kV doc pm an cdv ct) ⟨us ++ rest, [(kn, ku)]⟩ = (newTuple rest >>= fun t => pure (ps.zip us ++ [(kn, ku), (pv, t)])))
    (hbody : ∀ (A : Around) (outer : List Env) (s : Shared) (H : Hp) (vs : List V) (kv : V) (p : Addr) (Q : VK) (E : XK), Room k (A.deeper (envOfC qual scope s.heap.objs.size f cdv)) → sp kv (vs ++ [.ref p]) H Q E → vs.length = ps.length →
      ∃ t, PSs (cxOf CX P w K mg base N qual scope f cdv A outer s H E) body t ∧ t { nx := fun _ H' => Q .non H', rt := Q } (start N (vs ++ [kv, .ref p])) H) :
    FnK P w K mg base CX (k + 1) f kn (fun kv vs H Q E => ∃ ws rest, vs = ws ++ rest ∧ ws.length = ps.length ∧ rest.length ≤ sizeLine ∧ ∀ p, H p = Option.none → sp kv (ws ++ [V.ref p]) (upd H p (.tup rest)) Q E) := by
  intro A outer s H us vs ku kv Q E hr e0 r rk hsp
  obtain ⟨ws, rest, ev, hl, hz, hq⟩ := hsp
  subst ev
  obtain ⟨u1, u2, eu, r1, r2⟩ := vals_split r
  subst eu
  have hn : H s.heap.objs.size = Option.none := e0.hok.fresh (Nat.le_refl _)
  have hl1 : u1.length = ps.length := by rw [← r1.length]; exact hl
  have hl2 : u2.length ≤ sizeLine := by rw [← r2.length]; exact hz
  refine run_bnd lk hcd S hr e0 (G := fun xs H2 => ∃ p, H p = Option.none ∧ xs = ws ++ [kv, V.ref p] ∧ H2 = upd H p (.tup rest)) (fun A' Ex Q' h => ?_) fun s2 H2 xs ⟨p, hp, ex, eH⟩ hr' => ?_
  · rw [hb u1 u2 ku hl1]
    refine wpAny_bind (wpAny_newTuple (wpAny_pure ?_) hl2)
    have new : ObjOk P w (upd H s.heap.objs.size (.tup rest)) (s.heap.push ({ cls := .type "tuple", data := .seq u2.toArray } : Obj)) s.heap.objs.size (.tup rest) := ⟨hz, u2, r2, ⟨_, Heap.get?_push_size _ rfl, rfl, _, rfl⟩⟩
    have un := un_laid (fs := frs outer) (s := s) (o := ({ cls := .type "tuple", data := .seq u2.toArray } : Obj)) (u := .tup rest) hn
    have z := h _ _ (ws ++ [kv, V.ref s.heap.objs.size]) (u1 ++ [ku, Value.ref s.heap.objs.size]) (env0_laid e0 new) un rfl (fun e s' => hCX outer s H _ _ E e s' un (fun b o q => Heap.get?_push_of_some _ q) rfl) (r1.append (.cons rk (.cons rfl .nil)))
      (by rw [List.length_append, List.length_append, hl] <;> rfl) ⟨_, hn, rfl, rfl⟩
    rw [List.zip_append hl1.symm] at z
    exact z
  · subst ex eH
    exact hbody A outer s2 _ _ kv p Q E hr' (hq p hp) hl
/-- the same, called without kn: its default, read from the dict at D -/
theorem fn_starD {pv : Str} {D : Addr} {u0 : Value} {v0 : V} (lk : K.lookup f = some ⟨oc, od, .func (PySem.W.fnOf name qual params body scope dV (.ref D) doc pm an cdv ct), osl⟩) (hcd : PySem.W.codeIn K cdv qual = true) (S : FnScope N (ps ++ [kn, pv]) scope) (hCX : CXUp CX)
    (hk : PySem.W.nsIn K D kn = some (some u0)) (rk : RelV v0 u0)
    (hb : ∀ us rest : List Value, us.length = ps.length → ∃ (β γ : Type) (k1 : Option Value → Sem β) (k2 : β → Sem γ) (k3 : γ → Sem (List (Str × Value))) (a : β),
      bindArgs (PySem.W.fnOf name qual params body scope dV (.ref D) doc pm an cdv ct) ⟨us ++ rest, []⟩ = ((nsGet D kn >>= k1) >>= k2) >>= k3 ∧ k1 (some u0) = pure a ∧ (k2 a >>= k3) = (newTuple rest >>= fun t => pure (ps.zip us ++ [(kn, u0), (pv, t)])))
    (hbody : ∀ (A : Around) (outer : List Env) (s : Shared) (H : Hp) (vs : List V) (kv : V) (p : Addr) (Q : VK) (E : XK), Room k (A.deeper (envOfC qual scope s.heap.objs.size f cdv)) → sp kv (vs ++ [.ref p]) H Q E → vs.length = ps.length →
      ∃ t, PSs (cxOf CX P w K mg base N qual scope f cdv A outer s H E) body t ∧ t { nx := fun _ H' => Q .non H', rt := Q } (start N (vs ++ [kv, .ref p])) H) :
    FnR P w K mg base CX (k + 1) f (fun vs H Q E => ∃ ws rest, vs = ws ++ rest ∧ ws.length = ps.length ∧ rest.length ≤ sizeLine ∧ ∀ p, H p = Option.none → sp v0 (ws ++ [V.ref p]) (upd H p (.tup rest)) Q E) := by
  intro A outer s H us vs Q E hr e0 r hsp
  obtain ⟨ws, rest, ev, hl, hz, hq⟩ := hsp
  subst ev
  obtain ⟨u1, u2, eu, r1, r2⟩ := vals_split r
  subst eu
  have hn : H s.heap.objs.size = Option.none := e0.hok.fresh (Nat.le_refl _)
  have hl1 : u1.length = ps.length := by rw [← r1.length]; exact hl
  have hl2 : u2.length ≤ sizeLine := by rw [← r2.length]; exact hz
  have KX : K.In s.heap := e0.mod.kin.keeps fun b o e => (e0.bs b o e).1
  refine run_bnd lk hcd S hr e0 (G := fun xs H2 => ∃ p, H p = Option.none ∧ xs = ws ++ [v0, V.ref p] ∧ H2 = upd H p (.tup rest)) (fun A' Ex Q' h => ?_) fun s2 H2 xs ⟨p, hp, ex, eH⟩ hr' => ?_
  · obtain ⟨β, γ, k1, k2, k3, a, e1, e2, e3⟩ := hb u1 u2 hl1
    have l1 : PySem.W.Looks (model P w) s.heap (nsGet D kn >>= k1) a := (PySem.W.looks_nsIn KX hk).andThen (PySem.W.Looks.of_pure e2)
    rw [e1, bind_assoc]
    refine wpAny_bind (l1 _ _ _ s (fun b o e => e) ?_)
    rw [e3]
    refine wpAny_bind (wpAny_newTuple (wpAny_pure ?_) hl2)
    have new : ObjOk P w (upd H s.heap.objs.size (.tup rest)) (s.heap.push ({ cls := .type "tuple", data := .seq u2.toArray } : Obj)) s.heap.objs.size (.tup rest) := ⟨hz, u2, r2, ⟨_, Heap.get?_push_size _ rfl, rfl, _, rfl⟩⟩
    have un := un_laid (fs := frs outer) (s := s) (o := ({ cls := .type "tuple", data := .seq u2.toArray } : Obj)) (u := .tup rest) hn
    have z := h _ _ (ws ++ [v0, V.ref s.heap.objs.size]) (u1 ++ [u0, Value.ref s.heap.objs.size]) (env0_laid e0 new) un rfl (fun e s' => hCX outer s H _ _ E e s' un (fun b o q => Heap.get?_push_of_some _ q) rfl) (r1.append (.cons rk (.cons rfl .nil)))
      (by rw [List.length_append, List.length_append, hl] <;> rfl) ⟨_, hn, rfl, rfl⟩
    rw [List.zip_append hl1.symm] at z
    exact z
  · subst ex eH
    exact hbody A outer s2 _ _ v0 p Q E hr' (hq p hp) hl
end
section
variable {X : Cx} {CX : CXT} {k : Nat} {f C : Addr} {kn : Str} {sp : V → Sp} {E : XK} {m : Str} {pos apos : Pos} {o e : Expr} {es : List Expr} {kws : List Keyword} {ta : TE} {t tk : TA} {pl : Sem Bool}
theorem run_fnK {pins : List (Addr × Obj)} {σ : L2.St} {H : Hp} {s : Shared} {Q : VK} {us : List Value} {vs : List V} {ku : Value} {kv : V} (F : FnK X.prog X.w X.K X.mg X.base CX k f kn sp) (hr : Room k X.A) (hx : Passes CX X E) (I : Inv X pins σ H s) (r : Vals vs us) (rk : RelV kv ku) (h : sp kv vs H Q E) :
    wpAny (model X.prog X.w) X.A (call (.ref f) us [(kn, ku)]) (EP X pins σ Q) X.xe s := by
  refine wpAny_call (codeAny_mono (F X.A X.stack s H us vs ku kv Q E hr I.env0 r rk h) fun r s' hq => ?_)
  cases r with
  | error e => exact hx pins σ H s e s' I hq
  | ok fl =>
    cases fl with
    | ret u => exact I.after hq
    | next => exact False.elim hq
    | brk => exact False.elim hq
    | cont => exact False.elim hq
/-- o, the values, the keyword's value, the promise -/
def tMethSK (C : Addr) (m : Str) (sp : V → Sp) (E : XK) (ta : TE) (t tk : TA) : TE := fun σ H Q => ta σ H fun x H1 => ∃ a dx fs, x = .ref a ∧ H1 a = some (.ins C dx fs) ∧ fs.lookup m = none ∧ t σ H1 fun vs H2 => tk σ H2 fun zs H3 => ∃ kv, zs = [kv] ∧ sp kv (.ref a :: vs) H3 Q E
theorem pe_methSK (ho : PE X o ta) (c : Cls X.K C) (hm : Meth X.K C m f) (F : FnK X.prog X.w X.K X.mg X.base CX k f kn sp) (hr : Room k X.A) (hx : Passes CX X E) (ha : PA X (e :: es) t) (hkw : PK X kws tk)
    (hall : (backToKw pos (keywordEach kws X.env)).all (·.1.isSome) = true := by rfl) (hks : (backToKw pos (keywordEach kws X.env)).filterMap (·.1) = [kn] := by rfl)
    (he : starEach (e :: es) X.env = (false, eval e X.env) :: starEach es X.env := by rfl)
    (hpl : ((backTo pos (starEach (e :: es) X.env)).any (·.1) || (backToKw pos (keywordEach kws X.env)).any (·.1.isNone)) = false := by rfl)
    (hev : eval (.Call (.Attribute o m apos) (e :: es) kws pos) X.env = (do
      let recv ← eval o X.env
      standAt apos.atName
      let (fn, firstOnes) ← holding [recv] (getMethod recv m pl)
      callWith pos fn firstOnes (backTo pos (starEach (e :: es) X.env)) (backToKw pos (keywordEach kws X.env))) := by rfl) :
    PE X (.Call (.Attribute o m apos) (e :: es) kws pos) (tMethSK C m sp E ta t tk) := by
  refine ⟨fun pins s σ H Q I h => ?_⟩
  refine PySem.W.methodCall_KW (pl := pl) (thn (ho.run pins s σ H _ I h) fun u s1 ⟨x, H1, I1, rx, a, dx, fs, ex, ea, l, q⟩ => ?_) hev
  subst ex
  obtain rfl : u = Value.ref a := rx
  refine getmeth_ok I1 ea c hm l ?_
  refine PySem.W.callWith_KW (first := [.ref a]) (h₀ := X.base) I.ok.mod.kin hm.kp hall (thn (ha.run pos pins s1 σ H1 _ I1 q) fun us s2 ⟨vs, H2, I2, r, q1⟩ => ?_) hpl he
  refine thn (hkw.run pos pins s2 σ H2 _ I2 q1) fun ws s3 ⟨zs, H3, I3, rz, q2⟩ => ⟨I3.kIn, ?_⟩
  rw [hks]
  obtain ⟨kv, ez, q3⟩ := q2
  subst ez
  obtain ⟨ku, ew, rk⟩ : ∃ ku, ws = [ku] ∧ RelV kv ku := by
    cases rz with
    | cons a t =>
      cases t
      exact ⟨_, rfl, a⟩
  subst ew
  exact run_fnK (us := .ref a :: us) (vs := .ref a :: vs) F hr hx I3 (.cons rfl r) rk q3
theorem pe_methSK0 (ho : PE X o ta) (c : Cls X.K C) (hm : Meth X.K C m f) (F : FnK X.prog X.w X.K X.mg X.base CX k f kn sp) (hr : Room k X.A) (hx : Passes CX X E) (hkw : PK X kws tk)
    (hall : (backToKw pos (keywordEach kws X.env)).all (·.1.isSome) = true := by rfl) (hks : (backToKw pos (keywordEach kws X.env)).filterMap (·.1) = [kn] := by rfl)
    (hpl : ((backTo pos (starEach [] X.env)).any (·.1) || (backToKw pos (keywordEach kws X.env)).any (·.1.isNone)) = false := by rfl)
    (hev : eval (.Call (.Attribute o m apos) [] kws pos) X.env = (do
      let recv ← eval o X.env
      standAt apos.atName
      let (fn, firstOnes) ← holding [recv] (getMethod recv m pl)
      callWith pos fn firstOnes (backTo pos (starEach [] X.env)) (backToKw pos (keywordEach kws X.env))) := by rfl) :
    PE X (.Call (.Attribute o m apos) [] kws pos) (tMethSK C m sp E ta tNil tk) := by
  refine ⟨fun pins s σ H Q I h => ?_⟩
  refine PySem.W.methodCall_KW (pl := pl) (thn (ho.run pins s σ H _ I h) fun u s1 ⟨x, H1, I1, rx, a, dx, fs, ex, ea, l, q⟩ => ?_) hev
  subst ex
  obtain rfl : u = Value.ref a := rx
  refine getmeth_ok I1 ea c hm l ?_
  refine PySem.W.callWith_KW0 (first := [.ref a]) (h₀ := X.base) I.ok.mod.kin hm.kp hall ?_ hpl
  refine thn (hkw.run pos pins s1 σ H1 _ I1 q) fun ws s3 ⟨zs, H3, I3, rz, q2⟩ => ⟨I3.kIn, ?_⟩
  rw [hks]
  obtain ⟨kv, ez, q3⟩ := q2
  subst ez
  obtain ⟨ku, ew, rk⟩ : ∃ ku, ws = [ku] ∧ RelV kv ku := by
    cases rz with
    | cons a t =>
      cases t
      exact ⟨_, rfl, a⟩
  subst ew
  exact run_fnK (us := [.ref a]) (vs := [.ref a]) F hr hx I3 (.cons rfl .nil) rk q3
end
end StK

/-! function values: a lambda with parameters as a thing of the heap, its promise, its calls from any def -/
namespace FvL
open PySem PySem.Spec PyProof.Rows L2 LamX NdefX
/-- the object at f is the lambda: F its words (no statements), e its body -/
def LamO (f : Addr) (F : NF) (e : Expr) : HO := .ext fun h => ∃ (pm ctv : Value), h.get? f = some (PySem.W.kla_obj "<lambda>" F.qual F.params e F.scope F.cl pm F.c ctv)
theorem lamO_ne {f : Addr} {F : NF} {e : Expr} (ps : Array Value) : LamO f F e ≠ .tbl ps := fun z => by
  unfold LamO at z
  cases z
theorem lamO_at {P : Program} {w : World} {H : Hp} {h : Heap} {f : Addr} {F : NF} {e : Expr} (hok : HOk P w H h) (q : H f = some (LamO f F e)) : ∃ (pm ctv : Value), h.get? f = some (PySem.W.kla_obj "<lambda>" F.qual F.params e F.scope F.cl pm F.c ctv) := by
  obtain ⟨z, _, _⟩ := hok f _ q
  exact z
section
variable {X : Cx} {pins : List (Addr × Obj)} {σ : L2.St} {H : Hp} {s : Shared}
/-- a lambda's object just made is known from now on -/
theorem inv_lam {F : NF} {e : Expr} {o : Obj} {t' : Nat} {pm ctv : Value} (I : Inv X pins σ H s) (ho : o = PySem.W.kla_obj "<lambda>" F.qual F.params e F.scope F.cl pm F.c ctv) :
    Inv X pins σ (upd H s.heap.objs.size (LamO s.heap.objs.size F e)) { s with heap := s.heap.push o, toks := t' } := by
  subst ho
  refine I.laid (a := s.heap.objs.size) (fun b u e => Heap.get?_push_of_some _ e) (Nat.le_refl _) ?_
  have q : (s.heap.push (PySem.W.kla_obj "<lambda>" F.qual F.params e F.scope F.cl pm F.c ctv)).get? s.heap.objs.size = some (PySem.W.kla_obj "<lambda>" F.qual F.params e F.scope F.cl pm F.c ctv) := Heap.get?_push_size _ rfl
  exact ⟨⟨pm, ctv, q⟩, ⟨_, q⟩, fun h1 h2 ⟨p, t, z⟩ st => ⟨p, t, st _ z⟩⟩
/-- the lambda's words, made in X with the code object at c' -/
abbrev mkL (X : Cx) (params : Arguments) (scope : Scope) (c' : Addr) : NF := ⟨"<lambda>", X.env.qual ++ "<lambda>", params, [], scope, cloFrom X.env.cells scope.names [], c'⟩
/-- a lambda is a value -/
theorem lam_makeV {T : List (Addr × Str)} {c P : Addr} {params : Arguments} {body : Expr} {scope : Scope} {pos : Pos} {E : Value → Shared → Prop} {Q : Value → Shared → Prop} (I : Inv X pins σ H s) (TB : TabB X.base X.mg c P) (hcode : X.env.code = .ref c)
    (hm : (P, X.env.qual ++ "<lambda>") ∈ T) (hu : ∀ p ∈ T, p.1 = P → p.2 = X.env.qual ++ "<lambda>") (hT : Tabs T H) (hdef : defaultsOf params X.env = ([], [])) (hfree : ∀ y ∈ scope.names, y.2 = .free → ∃ c, X.env.cells.lookup y.1 = some c)
    (h : ∀ (f c' : Addr) (H1 : Hp) (s' : Shared), Inv X pins σ H1 s' → ExtN H H1 → Tabs T H1 → H f = none → H1 f = some (LamO f (mkL X params scope c') body) → H1 c' = some (CodeO c' (X.env.qual ++ "<lambda>")) → Q (.ref f) s') :
    wpAny (model X.prog X.w) X.A (eval (.Lambda params body scope pos) X.env) Q E s := by
  obtain ⟨ps, hP, ht, ha⟩ := hT _ hm
  refine PySem.W.kla_eval hdef ?_
  have bP : s.heap.BuiltinsAt X.mg P := TB.bm.keeps I.bk
  have hP' : s.heap.get? P = some { cls := .none, data := .fields ps } := I.hok P _ hP
  cases hc : codeAmong pos ps.toList with
  | none =>
    refine PySem.W.kla_makeFunction (mg := X.mg) (c := c) (P := P) (ps := ps) (closure_ok hfree) I.ok.glob (I.mod.glob.keeps I.bk) hcode (TB.code.keeps I.bk) hP' ht hc TB.gP bP fun c' ctv h' tk hx hge hlt hrec htb => ?_
    obtain ⟨c2, oc, vs, t, e2, hoc, hd, hv⟩ := hrec
    cases e2
    have nC : H c' = none := I.hok.fresh hge
    have I1 := inv_table (t' := tk) (more := #[rawInt pos.line, rawInt pos.col, .ref c']) (h' := h') I hP (fun b o hb e => hx b o hb e) htb hge ⟨oc, vs, t, hoc, hd, hv⟩
    have hE : ExtN H (upd (upd H P (.tbl (ps ++ #[rawInt pos.line, rawInt pos.col, .ref c']))) c' (CodeO c' (X.env.qual ++ "<lambda>"))) := fun b o e n => by
      rw [upd_ne (ne_of_none e nC), upd_ne (fun z => n ps (Option.some.inj (e.symm.trans (by rw [z]; exact hP))))]
      exact e
    have eL : (ps ++ #[rawInt pos.line, rawInt pos.col, .ref c']).toList = ps.toList ++ [rawInt pos.line, rawInt pos.col, .ref c'] := by simp
    have T1 : Tabs T (upd (upd H P (.tbl (ps ++ #[rawInt pos.line, rawInt pos.col, .ref c']))) c' (CodeO c' (X.env.qual ++ "<lambda>"))) := fun p hp => by
      by_cases hb : p.1 = P
      · rw [hu p hp hb, hb]
        refine ⟨_, by rw [upd_ne (ne_of_none hP nC), upd_same], by rw [eL]; exact PySem.TriplesOk_snoc _ _ _ _ ht, fun p' cv hcv => ?_⟩
        rw [eL] at hcv
        rcases among_app _ ht hcv with z | z
        · obtain ⟨c0, e1, e2⟩ := ha p' cv z
          exact ⟨c0, e1, hE _ _ e2 codeO_ne⟩
        · exact ⟨c', z, upd_same⟩
      · obtain ⟨ps', a1, a2, a3⟩ := hT p hp
        refine ⟨ps', by rw [upd_ne (ne_of_none a1 nC), upd_ne hb]; exact a1, a2, fun p' cv hcv => ?_⟩
        obtain ⟨c0, e1, e2⟩ := a3 p' cv hcv
        exact ⟨c0, e1, hE _ _ e2 codeO_ne⟩
    have nF := I1.hok.fresh (Nat.le_refl _)
    have I2 := inv_lam (F := mkL X params scope c') (e := body) (t' := tk) (pm := (X.mg "__name__").getD .none) (ctv := ctv) I1 rfl
    refine h h'.objs.size c' _ _ I2 (fun b o e n => ?_) (T1.ext fun b o e => ?_) (I.hok.fresh (Nat.le_trans hge (Nat.le_of_lt hlt))) upd_same ?_
    · have e1 := hE b o e n
      exact (upd_ne (ne_of_none e1 nF)).trans e1
    · exact (upd_ne (ne_of_none e nF)).trans e
    · exact (upd_ne (Nat.ne_of_lt hlt)).trans upd_same
  | some cv =>
    obtain ⟨c', e, hco⟩ := ha pos cv hc
    subst e
    refine PySem.W.kla_makeFunctionHit (mg := X.mg) (c := c) (P := P) (ps := ps) (closure_ok hfree) I.ok.glob (I.mod.glob.keeps I.bk) hcode (TB.code.keeps I.bk) hP' ht hc bP fun ctv h' tk hx hsz => ?_
    have I1 : Inv X pins σ H { s with heap := h', toks := tk } := I.kept hx
    have nF : H h'.objs.size = none := I1.hok.fresh (Nat.le_refl _)
    have I2 := inv_lam (F := mkL X params scope c') (e := body) (t' := tk) (pm := (X.mg "__name__").getD .none) (ctv := ctv) I1 rfl
    refine h h'.objs.size c' _ _ I2 (fun b o e n => ?_) (hT.ext fun b o e => ?_) nF upd_same ?_
    · exact (upd_ne (ne_of_none e nF)).trans e
    · exact (upd_ne (ne_of_none e nF)).trans e
    · exact (upd_ne (ne_of_none hco nF)).trans hco
/-- the reading of a lambda as a value -/
def tLamV (T : List (Addr × Str)) (mk : Addr → NF) (body : Expr) : TE := fun _ H Q => Tabs T H ∧ ∀ (f c' : Addr) (H1 : Hp), ExtN H H1 → Tabs T H1 → H f = none → H1 f = some (LamO f (mk c') body) → H1 c' = some (CodeO c' (mk c').qual) → Q (.ref f) H1
theorem pe_lamV {T : List (Addr × Str)} {c P : Addr} {params : Arguments} {body : Expr} {scope : Scope} {pos : Pos} (TB : TabB X.base X.mg c P) (hcode : X.env.code = .ref c)
    (hm : (P, X.env.qual ++ "<lambda>") ∈ T) (hu : ∀ p ∈ T, p.1 = P → p.2 = X.env.qual ++ "<lambda>") (hdef : defaultsOf params X.env = ([], [])) (hfree : X.Ok → ∀ y ∈ scope.names, y.2 = .free → ∃ c, X.env.cells.lookup y.1 = some c) :
    PE X (.Lambda params body scope pos) (tLamV T (mkL X params scope) body) := by
  refine ⟨fun pins s σ H Q I h => ?_⟩
  obtain ⟨hT, h⟩ := h
  exact lam_makeV I TB hcode hm hu hT hdef (hfree I.ok) fun f c' H1 s' I1 eN T1 nf hf hc => ⟨.ref f, H1, I1, rfl, h f c' H1 eN T1 nf hf hc⟩
end
/-! ### its promise -/
/-- the promise of the lambda at f: sp ws, ws what its captured cells hold at the call -/
structure LkOk (P : Program) (w : World) (K : PySem.W.Frag) (mg : Str → Option Value) (base : Heap) (CX : CXT) (k : Nat) (f : Addr) (F : NF) (body : Expr) (ps fr : List Str) (sp : List (Option V) → Sp) : Prop where
  len : ∀ ws vs H Q E, sp ws vs H Q E → vs.length = ps.length
  run : ∀ (A : Around) (outer : List Env) (s : Shared) (H : Hp) (us : List Value) (vs : List V) (ws : List (Option V)) (Q : VK) (E : XK), Room k A → Env0 P w K mg base A outer s H → H f = some (LamO f F body) → H F.c = some (CodeO F.c F.qual) →
    CellsAt F.cl fr ws s.heap H → Vals vs us → sp ws vs H Q E → codeAny (model P w) A (.call (.ref f) ⟨us, []⟩) (CR CX outer P w H s Q E) s
section
variable {CX : CXT} {P : Program} {w : World} {K : PySem.W.Frag} {mg : Str → Option Value} {base : Heap} {N ps fr : List Str} {F : NF} {f : Addr} {k j : Nat} {sp sp' : List (Option V) → Sp} {body : Expr}
/-- a lambda by its body -/
theorem lk_of (S : NScope N ps fr F.scope) (hb : ∀ (pm ctv : Value) (us : List Value), us.length = ps.length → bindArgs (PySem.W.kla_fn "<lambda>" F.qual F.params body F.scope F.cl pm (.ref F.c) ctv) ⟨us, []⟩ = pure (ps.zip us)) (len : ∀ ws vs H Q E, sp ws vs H Q E → vs.length = ps.length)
    (hbody : ∀ (A : Around) (outer : List Env) (s : Shared) (H : Hp) (vs : List V) (ws : List (Option V)) (Q : VK) (E : XK), Room k (A.deeper (envF F f s.heap.objs.size)) → H f = some (LamO f F body) → ws.length = fr.length → sp ws vs H Q E →
      ∃ t, PE (ncx CX P w K mg base N F f A outer s H E) body t ∧ t (startF N vs ws) H Q) :
    LkOk P w K mg base CX (k + 1) f F body ps fr sp := by
  refine ⟨len, fun A outer s H us vs ws Q E hr e0 hf hc C r hsp => ?_⟩
  have hl := len _ _ _ _ _ hsp
  have lim : s.heap.NoLimit := e0.mod.nolimit.keeps fun b o e => (e0.bs b o e).1
  obtain ⟨pm, ctv, ho⟩ := lamO_at e0.hok hf
  refine PySem.W.kla_callFunE hr.depth ho rfl S.co S.gen rfl (codeO_at e0.hok hc) ?_
  rw [hb pm ctv us (by rw [← r.length]; exact hl)]
  refine wpAny_pure (wpAny_newFunctionEnv S.nocell (fun ⟨n, _⟩ hy => S.par n (List.of_mem_zip hy).1) (fun h₁ hns hsb => ⟨lim.fresh _ hsb, ?_⟩) S.kind)
  show codeAny _ _ (.expr body (envF F f s.heap.objs.size)) _ _
  have kp : ∀ b o, s.heap.get? b = some o → h₁.get? b = some o := fun b o e => hsb.extBut b o (Nat.ne_of_lt (Heap.lt_size e)) (Heap.get?_push_of_some _ e)
  obtain ⟨t, ht, hq⟩ := hbody A outer s H vs ws Q E (hr.deeper _) hf C.len hsp
  have I : Inv (ncx CX P w K mg base N F f A outer s H E) [] (startF N vs ws) H { s with heap := h₁, toks := s.toks + (ps.zip us).length } := inv_startN S hr.hd e0 hl r C hns kp
  refine PySem.W.kla_codeExpr (wpAny_mono (ht.run [] _ (startF N vs ws) H Q I hq) (fun v s' hq => ?_) fun e s' hs => hs)
  obtain ⟨w', H', J, rv, q⟩ := hq
  exact ⟨w', H', J.os, J.bare, J.base, J.hok, rv, q⟩
end
/-! ### calls, from any def whose base has the cells -/
/-- the captured cells stand in the base, with these values -/
structure CellsB (cl : List (Str × Addr)) (fr : List Str) (ws : List (Option V)) (base : Heap) : Prop where
  len : ws.length = fr.length
  all : ∀ y c, cl.lookup y = some c → ∃ v, base.IsCell c v
  inj : ∀ x y c, cl.lookup x = some c → cl.lookup y = some c → x = y
  has : ∀ (i : Nat) (y : Str), fr[i]? = some y → ∃ c, cl.lookup y = some c ∧ ∀ v, ws[i]? = some (some v) → ∃ u, L2.RelV v u ∧ base.IsCell c (some u)
theorem CellsB.at_ {cl : List (Str × Addr)} {fr : List Str} {ws : List (Option V)} {X : Cx} {pins : List (Addr × Obj)} {σ : L2.St} {H : Hp} {s : Shared} (C : CellsB cl fr ws X.base) (I : Inv X pins σ H s) : CellsAt cl fr ws s.heap H := by
  refine ⟨C.len, fun y c e => ?_, C.inj, fun i y e => ?_⟩
  · obtain ⟨v, o, ho, hd⟩ := C.all y c e
    exact ⟨(I.bs c o ho).2, v, o, (I.bs c o ho).1, hd⟩
  · obtain ⟨c, hc, hv⟩ := C.has i y e
    refine ⟨c, hc, fun v ev => ?_⟩
    obtain ⟨u, r, o, ho, hd⟩ := hv v ev
    exact ⟨u, r, o, (I.bs c o ho).1, hd⟩
/-- f(..), f a name that holds the lambda -/
def tCallF (f : Addr) (F : NF) (body : Expr) (i : Nat) (sp : Sp) (E : XK) (t : TA) : TE := fun σ H Q => σ[i]? = some (some (.ref f)) ∧ H f = some (LamO f F body) ∧
  t σ H fun vs H1 => H1 f = some (LamO f F body) ∧ H1 F.c = some (CodeO F.c F.qual) ∧ sp vs H1 Q E
section
variable {X : Cx} {CX : CXT} {F : NF} {f : Addr} {body : Expr} {ps fr : List Str} {ws : List (Option V)} {i j k : Nat} {x : Str} {sp : List (Option V) → Sp} {E : XK} {t : TA} {e : Expr} {es : List Expr} {p pos : Pos}
theorem lam_FnAt {pins : List (Addr × Obj)} {σ : L2.St} {H : Hp} {s : Shared} (I : Inv X pins σ H s) (q : H f = some (LamO f F body)) : PySem.W.FnAt f s.heap := by
  obtain ⟨pm, ctv, ho⟩ := lamO_at I.hok q
  exact ⟨_, _, _, _, ho⟩
theorem pe_callF (Fn : LkOk X.prog X.w X.K X.mg X.base CX k f F body ps fr sp) (C : CellsB F.cl fr ws X.base) (hr : Room j X.A) (hk : k ≤ j) (hx : Passes CX X E) (hN : X.N[i]? = some x) (hv : Vis X.env.scope x) (ha : PA X (e :: es) t)
    (hd : (x == ("__debug__" : Str)) = false := by decide) (hcd : (x == ("__classdict__" : Str)) = false := by decide)
    (he : starEach (e :: es) X.env = (false, eval e X.env) :: starEach es X.env := by rfl) (hpl : (backTo pos (starEach es X.env)).any (·.1) = false := by rfl) :
    PE X (.Call (.Name x p) (e :: es) [] pos) (tCallF f F body i (sp ws) E t) := by
  refine ⟨fun pins s σ H Q I h => ?_⟩
  obtain ⟨hs, hf, ht⟩ := h
  refine wpAny_Call_Name_kw (thn ((pe_var (pos := p) hN hv hd hcd).run pins s σ H (fun v H1 => v = .ref f ∧ H1 = H) I ⟨.ref f, hs, rfl, rfl⟩) fun u s1 ⟨v, H1, I1, r1, q1⟩ => ?_)
  obtain ⟨ev, eH⟩ := q1
  subst ev
  rw [eH] at I1
  obtain rfl : u = Value.ref f := r1
  refine PySem.W.callWith_F (first := []) (lam_FnAt I1 hf) (thn (ha.run pos pins s1 σ H _ I1 ht) fun us s2 ⟨vs, H2, I2, r, h1, h2, q⟩ => ⟨lam_FnAt I2 h1, ?_⟩) he hpl
  show wpAny _ _ (call (.ref f) us) _ _ _
  refine wpAny_call (codeAny_mono (Fn.run X.A X.stack s2 H2 us vs ws Q E (hr.mono hk) I2.env0 h1 h2 (C.at_ I2) r q) fun r s' hq => ?_)
  cases r with
  | error e => exact hx pins σ H2 s2 e s' I2 hq
  | ok fl =>
    cases fl with
    | ret u => exact I2.after hq
    | next => exact False.elim hq
    | brk => exact False.elim hq
    | cont => exact False.elim hq
end
end FvL

/-! function values: the base with the captured cells; calls of defs that hand a function value on -/
namespace FvL
open PySem PySem.Spec PyProof.Rows L2 LamX NdefX
/-- the cells are no frames -/
def Nf (cl : List (Str × Addr)) (stack : List Env) : Prop := ∀ y c, cl.lookup y = some c → c ∉ frs stack
section
variable {X : Cx} {pins : List (Addr × Obj)} {σ : L2.St} {H : Hp} {s : Shared} {cl : List (Str × Addr)} {fr : List Str} {ws : List (Option V)}
/-- the base may be told to have the cells -/
theorem rebase (I : Inv X pins σ H s) (C : CellsAt cl fr ws s.heap H) (nf : Nf cl X.stack) : ∃ base', CellsB cl fr ws base' ∧ Env0 X.prog X.w X.K X.mg base' X.A X.stack s H := by
  let p : Addr → Bool := fun b => (X.base.get? b).isSome || decide (b ∈ cl.filterMap fun q => cl.lookup q.1)
  let l : List Addr := (List.range s.heap.objs.size).filter fun b => !p b
  obtain ⟨G, eG⟩ : ∃ G, PySem.W.hideAll s.heap l = G := ⟨_, rfl⟩
  have sz : G.objs.size = s.heap.objs.size := by rw [← eG]; exact PySem.W.hideAll_size _ _
  have m1 : ∀ b, b ∈ l → p b = false := fun b hb => by
    have z := (List.mem_filter.mp hb).2
    simpa using z
  have keep : ∀ b o, p b = true → s.heap.get? b = some o → G.get? b = some o := fun b o hb e => by
    rw [← eG]
    exact PySem.W.hideAll_get l e fun hm => by rw [m1 b hm] at hb; cases hb
  have back : ∀ b o, G.get? b = some o → p b = true ∧ s.heap.get? b = some o := fun b o e => by
    rw [← eG] at e
    have z := PySem.W.of_hideAll l e
    refine ⟨?_, z⟩
    cases q : p b with
    | true => rfl
    | false =>
      rw [PySem.W.hideAll_none l (List.mem_filter.mpr ⟨List.mem_range.mpr (Heap.lt_size z), by rw [q]; rfl⟩)] at e
      cases e
  have st : ∀ b o, X.base.get? b = some o → G.get? b = some o := fun b o e => keep b o (by show ((X.base.get? b).isSome || _) = true; rw [e]; rfl) (I.bk b o e)
  have mem : ∀ {y c}, cl.lookup y = some c → c ∈ cl.filterMap fun q => cl.lookup q.1 := fun {y c} e => List.mem_filterMap.mpr ⟨(y, c), PySem.mem_of_lookup e, e⟩
  have cell : ∀ {y c v}, cl.lookup y = some c → s.heap.IsCell c v → G.IsCell c v := fun {y c v} e ⟨o, ho, hd⟩ => ⟨o, keep c o (by show (_ || decide _) = true; rw [decide_eq_true (mem e), Bool.or_true]) ho, hd⟩
  have at_ : ∀ b, p b = true → (∃ o, X.base.get? b = some o) ∨ ∃ y, cl.lookup y = some b := fun b hb => by
    rcases Bool.or_eq_true_iff.mp (show ((X.base.get? b).isSome || decide _) = true from hb) with z | z
    · exact .inl (Option.isSome_iff_exists.mp z)
    · obtain ⟨q, _, e⟩ := List.mem_filterMap.mp (of_decide_eq_true z)
      exact .inr ⟨q.1, e⟩
  have e0 := I.env0
  refine ⟨G, ⟨C.len, fun y c e => ?_, C.inj, fun i y e => ?_⟩, e0.frames, ?_, fun b o e => ?_, Nat.le_of_eq sz, funFrames_none e0.funs fun L hL => ?_, e0.frf, e0.hok, e0.bare⟩
  · obtain ⟨_, v, z⟩ := C.all y c e
    exact ⟨v, cell e z⟩
  · obtain ⟨c, hc, hv⟩ := C.has i y e
    refine ⟨c, hc, fun v ev => ?_⟩
    obtain ⟨u, r, z⟩ := hv v ev
    exact ⟨u, r, cell hc z⟩
  · obtain ⟨mb, hb1, hb2⟩ := I.mod.blt
    exact ⟨I.mod.kin.keeps st, I.mod.glob.keeps st, ⟨mb, hb1.keeps st, hb2⟩, I.mod.nolimit.keeps st⟩
  · obtain ⟨hp, z⟩ := back b o e
    refine ⟨z, ?_⟩
    rcases at_ b hp with ⟨o', e'⟩ | ⟨y, e'⟩
    · exact (I.bs b o' e').2
    · exact (C.all y b e').1
  · cases q : G.get? L with
    | none => rfl
    | some o =>
      rcases at_ L (back L o q).1 with ⟨o', e'⟩ | ⟨y, e'⟩
      · obtain ⟨n, _⟩ := e0.funs.mem hL
        rw [e'] at n
        cases n
      · exact absurd hL (nf y L e')
/-- a def called by its name, its promise told of any base with the cells -/
theorem pe_callRb {CX : CXT} {k : Nat} {f : Addr} {fd : FuncData} {ps : List Str} {sp : Sp} {dvs : List V} {ds : List Value} {E : XK} {x : Str} {p pos : Pos} {e : Expr} {es : List Expr} {t : TA}
    (F : ∀ base', CellsB cl fr ws base' → FnOk X.prog X.w X.K X.mg base' CX k f fd ps sp) (hC : ∀ pins σ H s, Inv X pins σ H s → CellsAt cl fr ws s.heap H) (nf : Nf cl X.stack) (hr : Room k X.A) (hg : Gl X x) (hm : X.mg x = some (.ref f)) (hk : PySem.W.keepIn X.K (.ref f) = true) (hb : Binds X.K fd ps ds) (hd : Vals dvs ds) (hx : Passes CX X E)
    (ha : PA X (e :: es) t) (hdb : (x == ("__debug__" : Str)) = false := by decide) (he : starEach (e :: es) X.env = (false, eval e X.env) :: starEach es X.env := by rfl) (hpl : (backTo pos (starEach es X.env)).any (·.1) = false := by rfl) :
    PE X (.Call (.Name x p) (e :: es) [] pos) (tCall sp dvs E t) := by
  refine ⟨fun pins s σ H Q I h => ?_⟩
  refine wpAny_Call_Name_kw (ld_glob I hg hm ?_ hdb)
  refine PySem.W.callWith_K (h₀ := X.base) I.ok.mod.kin hk (thn (ha.run pos pins s σ H _ I h) fun us s1 ⟨vs, H1, I1, r, q⟩ => ⟨I1.kIn, ?_⟩) he hpl
  obtain ⟨base', CB, e0⟩ := rebase I1 (hC _ _ _ _ I1) nf
  have r2 : Vals (vs ++ dvs) (us ++ ds) := r.append hd
  have hl : (us ++ ds).length = ps.length := by rw [← r2.length]; exact (F base' CB).len _ _ _ _ q
  refine wpAny_call (codeAny_mono ((F base' CB).run X.A X.stack s1 H1 ⟨us, []⟩ (us ++ ds) (vs ++ dvs) Q E hr e0 (hb s1 us I1.kIn hl) r2 q) fun r s' hq => ?_)
  cases r with
  | error e => exact hx pins σ H1 s1 e s' I1 hq
  | ok fl =>
    cases fl with
    | ret u => exact I1.after hq
    | next => exact False.elim hq
    | brk => exact False.elim hq
    | cont => exact False.elim hq
end
end FvL

/-! function values: x(lambda: ..), where the lambda's body wants to know what the maker's cells hold -/
namespace FvL
open PySem PySem.Spec PyProof.Rows L2 LamX NdefX
theorem Nf.push {cl : List (Str × Addr)} {st : List Env} {env : Env} {L : Addr} (n : Nf cl st) (hf : env.frame = some L) (h : ∀ y c, cl.lookup y = some c → c ≠ L) : Nf cl (env :: st) := fun y c e hm => by
  unfold frs at hm
  rw [List.filterMap_cons, hf] at hm
  rcases List.mem_cons.mp hm with z | z
  · exact h y c e z
  · exact n y c e z
theorem cell_lt {cl : List (Str × Addr)} {fr : List Str} {ws : List (Option V)} {h : Heap} {H : Hp} (C : CellsAt cl fr ws h H) {y : Str} {c : Addr} (e : cl.lookup y = some c) : c < h.objs.size := by
  obtain ⟨_, _, o, ho, _⟩ := C.all y c e
  exact Heap.lt_size ho
section
variable {X : Cx} {pins : List (Addr × Obj)} {σ : L2.St} {H HZ : Hp} {s s1 : Shared} {cl : List (Str × Addr)} {fr : List Str} {js : List Nat}
/-- the cells of a running frame are no frames -/
theorem nf_of (I : Inv X pins σ H s) (cp : Caps X cl fr js) (hfn : ∀ y c, X.env.cells.lookup y = some c → X.fn y = true) : Nf cl X.stack := fun y c e hm => by
  have e1 := cp.sub y c e
  have ab := I.ok.cab y c (hfn y c e1) e1
  rcases List.mem_cons.mp (I.stkSub c hm) with z | z
  · obtain ⟨m, hn, _⟩ := I.loc
    obtain ⟨o, es, ep, ho, r⟩ := hn
    obtain ⟨v, o', ho', hd⟩ := I.cell y c e1
    obtain ⟨hd0, _⟩ := r
    rw [z, ho] at ho'
    cases ho'
    rw [hd0] at hd
    cases hd
  · obtain ⟨_, o, ho, _⟩ := I.ok.funs.mem z
    exact absurd (Nat.lt_of_lt_of_le (Heap.lt_size ho) ab) (Nat.lt_irrefl _)
/-- x(), in the def that got the lambda: Z is that def's context, entered at s -/
theorem pe_act2 {CXg : CXT} {Eg : XK} {Ng : List Str} {qg : Str} {sg : Scope} {g f c' : Addr} {cdg pm ctv : Value} {params : Arguments} {body : Expr} {scope : Scope} {k i : Nat} {a : Str} {pn : List (Addr × Obj)} {xe : Value → Shared → Prop} {W : WX} {E : XK} {tb : TE} {p1 p2 : Pos} {ws : List (Option V)}
    (I : Inv X pins σ H s) (L : LamS X.env.scope scope) (hf : s.heap.get? f = some (PySem.W.kla_obj "<lambda>" (X.env.qual ++ "<lambda>") params body scope (cloFrom X.env.cells scope.names []) pm c' ctv)) (hfn : H f = none) (hfr : f ∉ frs X.stack)
    (hbind : bindArgs (PySem.W.kla_fn "<lambda>" (X.env.qual ++ "<lambda>") params body scope (cloFrom X.env.cells scope.names []) pm (.ref c') ctv) ⟨[], []⟩ = pure [])
    (tk : Takes ((cxOf CXg X.prog X.w X.K X.mg X.base Ng qg sg g cdg X.A X.stack s H Eg).tr pn xe) W) (hW : ∀ cls d σ' H', E cls d H' → W cls d σ' H') (hr : Room (k + 1) (X.A.deeper (envOfC qg sg s.heap.objs.size g cdg)))
    (C : CellsAt cl fr ws s.heap H) (nf : Nf cl X.stack)
    (hbody : ∀ (A : Around) (outer : List Env) (s : Shared) (H : Hp), CellsAt cl fr ws s.heap H → Nf cl (lamEnv X scope s.heap.objs.size f c' :: outer) → Room k (A.deeper (lamEnv X scope s.heap.objs.size f c')) → PE (lamCx X A outer s H E scope f c') body tb)
    (hN : Ng[i]? = some a) (hv : Vis sg a) (hd : (a == ("__debug__" : Str)) = false := by decide) (hcd : (a == ("__classdict__" : Str)) = false := by decide) :
    PE ((cxOf CXg X.prog X.w X.K X.mg X.base Ng qg sg g cdg X.A X.stack s H Eg).tr pn xe) (.Call (.Name a p1) [] [] p2)
      (fun σZ HZ Q => σZ[i]? = some (some (.ref f)) ∧ HZ c' = some (CodeO c' (X.env.qual ++ "<lambda>")) ∧ tb σ HZ Q) := by
  refine ⟨fun pinsZ sZ σZ HZ Q IZ h => ?_⟩
  obtain ⟨hs, hc, ht⟩ := h
  refine wpAny_Call_Name_kw (thn ((pe_var (pos := p1) (i := i) hN hv hd hcd).run pinsZ sZ σZ HZ (fun v H1 => v = .ref f ∧ H1 = HZ) IZ ⟨.ref f, hs, rfl, rfl⟩) fun u s1 ⟨v, H1, I1, r1, q1⟩ => ?_)
  obtain ⟨ev, eH⟩ := q1
  subst ev
  rw [eH] at I1
  obtain rfl : u = Value.ref f := r1
  have of1 : s1.heap.get? f = some (PySem.W.kla_obj "<lambda>" (X.env.qual ++ "<lambda>") params body scope (cloFrom X.env.cells scope.names []) pm c' ctv) := I1.base.keep f _ hf hfn hfr (fun z => nomatch (show f ∈ ([] : List Addr) from z))
  refine PySem.W.callWith_F0 ⟨_, _, _, _, of1⟩ ?_
  have un : Un (frs X.stack) [] H HZ s.heap s1.heap := I1.base
  obtain ⟨⟨oc, vs, t, hoc, hdc, hvc⟩, _, _⟩ := I1.hok c' _ hc
  have C1 : CellsAt cl fr ws s1.heap HZ := CellsAt.later (X := (cxOf CXg X.prog X.w X.K X.mg X.base Ng qg sg g cdg X.A X.stack s H Eg).tr pn xe) C nf (fun y c e z => nomatch (show c ∈ ([] : List Addr) from z)) I1
  have nf1 : Nf cl (lamEnv X scope s1.heap.objs.size f c' :: envOfC qg sg s.heap.objs.size g cdg :: X.stack) :=
    (nf.push rfl fun y c e => Nat.ne_of_lt (cell_lt C e)).push rfl fun y c e => Nat.ne_of_lt (cell_lt C1 e)
  have rc : codeAny (model X.prog X.w) (X.A.deeper (envOfC qg sg s.heap.objs.size g cdg)) (.call (.ref f) ⟨[], []⟩) (CR (L2.CX X.prog X.w) (envOfC qg sg s.heap.objs.size g cdg :: X.stack) X.prog X.w HZ s1 Q E) s1 := by
    refine PySem.W.kla_callFunE hr.depth of1 rfl L.co L.gen rfl ⟨c', oc, vs, t, rfl, hoc, hdc, hvc⟩ ?_
    rw [hbind]
    refine wpAny_pure (wpAny_newFunctionEnv (fun y hy => (L.own y hy).2) (fun y hy => absurd hy (by simp)) (fun h₁ hns hsb => ⟨I1.nolimit.fresh _ hsb, ?_⟩) L.kind)
    show codeAny _ _ (.expr body (lamEnv X scope s1.heap.objs.size f c')) _ _
    have kp : ∀ b o, s1.heap.get? b = some o → h₁.get? b = some o := fun b o e => hsb.extBut b o (Nat.ne_of_lt (Heap.lt_size e)) (Heap.get?_push_of_some _ e)
    have J : Inv (lamCx X (X.A.deeper (envOfC qg sg s.heap.objs.size g cdg)) (envOfC qg sg s.heap.objs.size g cdg :: X.stack) s1 HZ E scope f c') [] σ HZ { s1 with heap := h₁, toks := s1.toks + ([] : List (Str × Value)).length } :=
      lam_start2 I L I1.env0 hr.hd un hns kp
    refine PySem.W.kla_codeExpr (wpAny_mono ((hbody _ _ s1 HZ C1 nf1 (hr.deeper _)).run [] _ _ HZ Q J ht) (fun v s' hq => ?_) fun e s' hq => hq)
    obtain ⟨w', H', J', rv, q⟩ := hq
    exact ⟨w', H', J'.os, J'.bare, J'.base, J'.hok, rv, q⟩
  have hx : Passes (L2.CX X.prog X.w) ((cxOf CXg X.prog X.w X.K X.mg X.base Ng qg sg g cdg X.A X.stack s H Eg).tr pn xe) E := passes_call tk hW
  refine wpAny_call (codeAny_mono rc fun r s' hq => ?_)
  cases r with
  | error e => exact hx pinsZ σZ HZ s1 e s' I1 hq
  | ok fl =>
    cases fl with
    | ret u => exact I1.after hq
    | next => exact False.elim hq
    | brk => exact False.elim hq
    | cont => exact False.elim hq
end
/-- the reading: what the cells of the names js hold goes into the lambda's -/
def tLam2 (T : List (Addr × Str)) (TT : (XK → Hp → VK → Prop) → Hp → VK → Prop) (js : List Nat) (t : List (Option V) → XK → TE) : TE := fun σ H Q => Tabs T H ∧ ∀ H1, ExtN H H1 → Tabs T H1 → TT (fun E H' Q' => t (js.map (slotAt σ)) E σ H' Q') H1 Q
section
variable {X : Cx} {cl : List (Str × Addr)} {fr : List Str} {js : List Nat}
theorem pe_lamcall2 {T : List (Addr × Str)} {TT : (XK → Hp → VK → Prop) → Hp → VK → Prop} {x a : Str} {g c P : Addr} {k : Nat} {pg : Arguments} {bg : List Stmt} {sg : Scope} {dV kV doc pm cdv ct oc : Value} {an od : Option Addr} {osl : Array (Option Value)} {Ng : List Str}
    {params : Arguments} {body : Expr} {scope : Scope} {t : List (Option V) → XK → TE} {p lpos pos : Pos} (hg : Gl X x) (hm : X.mg x = some (.ref g)) (hk : PySem.W.keepIn X.K (.ref g) = true)
    (lk : X.K.lookup g = some ⟨oc, od, .func (PySem.W.fnOf x x pg bg sg dV kV doc pm an cdv ct), osl⟩) (hcg : PySem.W.codeIn X.K cdv x = true) (hb : L2.Binds X.K (PySem.W.fnOf x x pg bg sg dV kV doc pm an cdv ct) [a] []) (Sg : FnScope Ng [a] sg) (hNg : Ng[0]? = some a) (hva : Vis sg a)
    (hG : GivesTo X Ng x sg g cdv bg a (X.env.qual ++ "<lambda>") TT)
    (TB : TabB X.base X.mg c P) (hcode : X.env.code = .ref c) (hmT : (P, X.env.qual ++ "<lambda>") ∈ T) (hu : ∀ p ∈ T, p.1 = P → p.2 = X.env.qual ++ "<lambda>") (hr : Room (k + 2) X.A) (L : LamS X.env.scope scope) (hdef : defaultsOf params X.env = ([], []))
    (hbind : ∀ (q : Str) (cl : List (Str × Addr)) (pm cv ctv : Value), bindArgs (PySem.W.kla_fn "<lambda>" q params body scope cl pm cv ctv) ⟨[], []⟩ = pure [])
    (cp : X.Ok → Caps X cl fr js) (hfnX : ∀ y c, X.env.cells.lookup y = some c → X.fn y = true)
    (hbody : ∀ (ws : List (Option V)) (A : Around) (outer : List Env) (s : Shared) (H : Hp) (E : XK) (f c' : Addr), CellsAt cl fr ws s.heap H → Nf cl (lamEnv X scope s.heap.objs.size f c' :: outer) → Room k (A.deeper (lamEnv X scope s.heap.objs.size f c')) → PE (lamCx X A outer s H E scope f c') body (t ws E))
    (hdb : (x == ("__debug__" : Str)) = false := by decide) (hd : (a == ("__debug__" : Str)) = false := by decide) (hcd : (a == ("__classdict__" : Str)) = false := by decide) :
    PE X (.Call (.Name x p) [.Lambda params body scope lpos] [] pos) (tLam2 T TT js t) := by
  refine ⟨fun pins s σ H Q I h => ?_⟩
  obtain ⟨hT, h⟩ := h
  refine wpAny_Call_Name_kw (ld_glob I hg hm ?_ hdb)
  refine PySem.W.callWith_K (h₀ := X.base) I.ok.mod.kin hk ?_ (by rfl) (by rfl)
  show wpAny _ _ (spliced ((false, eval (.Lambda params body scope lpos) X.env) :: backTo pos (starEach [] X.env))) _ _ s
  refine Calls.spliced_cons (lam_make2 I TB hcode hmT hu hT hdef (L.has I.ok) fun f c' pm' ctv H1 s' I1 eN T1 hf hfn hfr hco => ?_)
  refine Calls.spliced_nil ⟨I1.kIn, ?_⟩
  have rc : codeAny (model X.prog X.w) X.A (.call (.ref g) ⟨[.ref f], []⟩) (CR C8.CX0 X.stack X.prog X.w H1 s' Q C8.E0) s' := by
    refine run_ofS (N := Ng) (ps := [a]) (us := [.ref f]) (vs := [.ref f]) lk hcg Sg hr I1.env0 (hb s' [.ref f] I1.kIn rfl) (.cons rfl .nil) rfl fun hr' => ?_
    obtain ⟨t', ht', hq'⟩ := hG f c' s' H1 Q (fun E H' Q' => t (js.map (slotAt σ)) E σ H' Q') (fun W pn xe E p1 p2 tk hW => pe_act2 (i := 0) I1 L hf hfn hfr (hbind _ _ _ _ _) tk hW hr' (cells_of I1 (cp I1.ok)) (nf_of I1 (cp I1.ok) hfnX) (fun A outer s H C n hr2 => hbody _ A outer s H E f c' C n hr2) hNg hva hd hcd) hco (h H1 eN T1)
    exact ⟨t', ht'.nox, hq'⟩
  refine wpAny_call (codeAny_mono rc fun r s2 hq => ?_)
  cases r with
  | error e => exact (show False from hq).elim
  | ok fl =>
    cases fl with
    | ret u => exact I1.after hq
    | next => exact (show False from hq).elim
    | brk => exact (show False from hq).elim
    | cont => exact (show False from hq).elim
end
end FvL

/-! try: .. finally: .., where the block ends or raises -/
namespace FvF
open PySem PySem.Spec PyProof.Rows L2
section
variable {X : Cx} {body : List Stmt} {f₀ : Stmt} {fs : List Stmt} {pos : Pos} {tb : WX → TS} {tf tfs : TS} {Wout : WX}
theorem fin_next {D : Ends} {pins : List (Addr × Obj)} {s : Shared} {σ : L2.St} {H : Hp} {E : Value → Shared → Prop} (hf : PSs X.nox (f₀ :: fs) tf) (I : Inv X pins σ H s) (h : tf D σ H) :
    wpAny (model X.prog X.w) X.A (execs (f₀ :: fs) X.env) (fun g s' => match g with
      | .next => SP X pins D .next s'
      | g => SP X pins D g s') E s := by
  refine wpAny_mono (hf.run pins s σ H D (I.wish _) h) (fun g s1 q => ?_) fun _ _ z => False.elim z
  have q' : SP X pins D g s1 := q.unwish
  cases g <;> exact q'
/-- the reading: the block, then the suite; the suite behind an exception -/
def tFinX (tb : WX → TS) (tf tfs : TS) (Wout : WX) : TS := fun D σ H => tb (wFin tfs Wout) { nx := fun σ1 H1 => tf D σ1 H1, rt := fun _ _ => False } σ H
theorem ps_finX (hs : X.stack = X.env :: X.outer) (hf : X.env.frame = some X.env.locals) (hex : X.ex = []) (tk : Takes X Wout)
    (hb : ∀ (W : WX) (pn : List (Addr × Obj)) (xe : Value → Shared → Prop), Takes (X.tr pn xe) W → PassesOwn (model X.prog X.w) X.A X.env xe → PSs (X.tr pn xe) body (tb W))
    (hfin : PSs X.nox (f₀ :: fs) tf) (hsu : ∀ (a : Addr) (pn : List (Addr × Obj)), PSs (X.suite a pn) (f₀ :: fs) tfs) : PS X (.Try body [] [] (f₀ :: fs) pos) (tFinX tb tf tfs Wout) := by
  refine ⟨fun pins s σ H D I h => ?_⟩
  have ok := I.ok
  have hfr : X.A.frames = some (X.env :: X.outer) := by rw [ok.frames, hs]
  refine wpAny_Try_finally ?_
  refine wpAny_mono ((hb (wFin tfs Wout) (X.pn ++ pins) (fun x s₁ => wpAny (model X.prog X.w) X.A (noteFrame x X.env) (fun _ s₂ => FinallyRaised X.prog X.w X.A X.xe X.env (f₀ :: fs) (SP X pins D) x s₂) (FinallyRaised X.prog X.w X.A X.xe X.env (f₀ :: fs) (SP X pins D)) s₁)
    (fun u s' xx => ?_) PassesOwn.looking).run [] s σ H { nx := fun σ1 H1 => tf D σ1 H1, rt := fun _ _ => False } (I.toTry _) h) (fun g s1 z => ?_) (fun x s1 hx => hx)
  · exact fin_exc hs hf hex ok tk hsu xx
  · cases g with
    | next =>
      obtain ⟨σ1, H1, I1, q1⟩ := z
      exact wpAny_execs_nil (fin_next hfin (I1.ofTry ok) q1)
    | ret u =>
      obtain ⟨_, _, _, _, _, q1⟩ := z
      exact q1.elim
    | brk =>
      obtain ⟨_, _, _, q1⟩ := z
      exact q1.elim
    | cont =>
      obtain ⟨_, _, _, q1⟩ := z
      exact q1.elim
end
end FvF

/-! feed_all -/
namespace My
open PySem L2 Cm LM EM StX
abbrev sFA : Stmt := inClass (top 44) 8
abbrev sIsD : Stmt := top 42
abbrev sCkD : Stmt := top 43
abbrev sEID : Stmt := inClass (top 9) 0
abbrev NFA : List Str := ["self", "watch", "deeds", "back", "place", "deed"]
theorem scFA : FnScope NFA ["self", "watch", "deeds"] (defScope sFA) := ⟨rfl, rfl, rfl, by decide +kernel, rfl, by decide +kernel, by decide +kernel⟩
theorem bindFA {qual : Str} {kV doc pm cdv ct : Value} {an : Option Addr} : ∀ (us rest : List Value) (ku : Value), us.length = ["self"].length →
    bindArgs (PySem.W.fnOf "feed_all" qual (defArgs sFA) (defBody sFA) (defScope sFA) .none kV doc pm an cdv ct) ⟨us ++ rest, [(("watch" : Str), ku)]⟩ = (newTuple rest >>= fun t => pure ((["self"] : List Str).zip us ++ [(("watch" : Str), ku), (("deeds" : Str), t)]))
  | [a], [], ku, _ => rfl
  | [a], r :: rs, ku, _ => rfl
theorem bindFAd {qual : Str} {D : Addr} {doc pm cdv ct u0 : Value} {an : Option Addr} : ∀ us rest : List Value, us.length = ["self"].length → ∃ (β γ : Type) (k1 : Option Value → Sem β) (k2 : β → Sem γ) (k3 : γ → Sem (List (Str × Value))) (a : β),
      bindArgs (PySem.W.fnOf "feed_all" qual (defArgs sFA) (defBody sFA) (defScope sFA) .none (.ref D) doc pm an cdv ct) ⟨us ++ rest, []⟩ = ((nsGet D "watch" >>= k1) >>= k2) >>= k3 ∧ k1 (some u0) = pure a ∧ (k2 a >>= k3) = (newTuple rest >>= fun t => pure ((["self"] : List Str).zip us ++ [(("watch" : Str), u0), (("deeds" : Str), t)]))
  | [a], [], _ => ⟨_, _, _, _, _, _, rfl, rfl, rfl⟩
  | [a], r :: rs, _ => ⟨_, _, _, _, _, _, rfl, rfl, rfl⟩
structure TxFa (K : PySem.W.Frag) (mg : Str → Option Value) where
  E : TxRe K mg
  str : mg "str" = none
  enum : mg "enumerate" = none
  eD : TxEr K mg "InvalidDeeds" "index" sEID "InvalidDeeds.__init__"
  isd : Df K mg "is_deed" sIsD ["value"]
  ckd : Df K mg "check_deeds" sCkD ["deeds"]
  fA : Addr
  FA : ∃ (oc : Value) (od : Option Addr) (D : Addr) (doc pm : Value) (an : Option Addr) (cdv ct : Value) (osl : Array (Option Value)),
    K.lookup fA = some ⟨oc, od, .func (PySem.W.fnOf "feed_all" "Reading.feed_all" (defArgs sFA) (defBody sFA) (defScope sFA) .none (.ref D) doc pm an cdv ct), osl⟩ ∧ PySem.W.codeIn K cdv "Reading.feed_all" = true ∧ PySem.W.nsIn K D "watch" = some (some .none)
  mA : Meth K E.R.CR "feed_all" fA
/-- it is no tuple -/
def NoTup (K : PySem.W.Frag) (H : Hp) (v : V) : Prop := ∃ t, TyX K H v t ∧ PySem.W.kitOne K t (.type "tuple") = some false
/-- whether it is a deed -/
inductive DeedV (K : PySem.W.Frag) (H : Hp) : V → Bool → Prop
  | deed {t : Addr} {c b : V} (h : H t = some (.tup [.str "feed", c, b])) : DeedV K H (.ref t) true
  | word {t : Addr} {x c b : V} (h : H t = some (.tup [x, c, b])) (ty : Typed K H x) (sc : scal x (.str "feed") = true) (n : x ≠ .str "feed") : DeedV K H (.ref t) false
  | long {t : Addr} {xs : List V} (h : H t = some (.tup xs)) (n : xs.length ≠ 3) : DeedV K H (.ref t) false
  | other {v : V} (h : NoTup K H v) : DeedV K H v false
theorem DeedV.same {K : PySem.W.Frag} {H H' : Hp} {v : V} {b : Bool} (s : Same H H') (h : DeedV K H v b) : DeedV K H' v b := by
  cases h with
  | deed h => exact .deed (s _ _ h)
  | word h ty sc n => exact .word (s _ _ h) (let ⟨t, a, b⟩ := ty; ⟨t, TyX_same s a, b⟩) sc n
  | long h n => exact .long (s _ _ h) n
  | other h => exact .other (let ⟨t, a, b⟩ := h; ⟨t, TyX_same s a, b⟩)
inductive DeedVs (K : PySem.W.Frag) (H : Hp) : List V → List Bool → Prop
  | nil : DeedVs K H [] []
  | cons {v : V} {b : Bool} {vs : List V} {bs : List Bool} (h : DeedV K H v b) (t : DeedVs K H vs bs) : DeedVs K H (v :: vs) (b :: bs)
theorem DeedVs.len {K : PySem.W.Frag} {H : Hp} : ∀ {vs bs}, DeedVs K H vs bs → vs.length = bs.length
  | _, _, .nil => rfl
  | _, _, .cons _ t => congrArg (· + 1) t.len
theorem DeedVs.get {K : PySem.W.Frag} {H : Hp} : ∀ {vs bs} {i : Nat} {x : V}, DeedVs K H vs bs → vs[i]? = some x → ∃ b, bs[i]? = some b ∧ DeedV K H x b
  | _, _, i, x, .nil, h => by simp at h
  | _, _, 0, x, .cons h _, e => ⟨_, rfl, by cases (Option.some.inj e); exact h⟩
  | _, _, i + 1, x, .cons _ t, e => t.get (i := i) e
theorem DeedVs.same {K : PySem.W.Frag} {H H' : Hp} (s : Same H H') : ∀ {vs bs}, DeedVs K H vs bs → DeedVs K H' vs bs
  | _, _, .nil => .nil
  | _, _, .cons h t => .cons (h.same s) (t.same s)
/-- the first place that is wrong -/
def firstF (bs : List Bool) (i : Nat) : Prop := bs[i]? = some false ∧ ∀ k, k < i → bs[k]? = some true
section
variable {P : Program} {w : World} {K : PySem.W.Frag} {mg : Str → Option Value} {base : Heap}
theorem scEID : FnScope ["self", "index"] ["self", "index"] (defScope sEID) := ⟨rfl, rfl, rfl, by decide +kernel, rfl, by decide +kernel, by decide +kernel⟩
theorem ok_eid (T : TxEr K mg "InvalidDeeds" "index" sEID "InvalidDeeds.__init__") : FnOk P w K mg base CX0 1 T.f T.fd ["self", "index"] (spER "index" T.C) := by
  refine T.F.ok scEID (fun vs H Q E h => ?_) (fun cdv A outer s H vs Q E hr h => ?_)
  · obtain ⟨a, v, rfl, _⟩ := h
    rfl
  · obtain ⟨a, v, rfl, ha, k⟩ := h
    exact ⟨_, pss_one (ps_ost (pv 0) (pv 1)), _, rfl, _, rfl, a, T.C, rfl, T.o, T.n, .inl ⟨ha, fun dx n ne => k dx n ne⟩⟩
def spIsD (K : PySem.W.Frag) : Sp := fun vs H Q _ => ∃ (v : V) (b : Bool), vs = [v] ∧ DeedV K H v b ∧ Q (.bl b) H
theorem scIsD : FnScope ["value"] ["value"] (defScope sIsD) := ⟨rfl, rfl, rfl, by decide +kernel, rfl, by decide +kernel, by decide +kernel⟩
theorem ok_isd (T : TxFa K mg) : FnOk P w K mg base CX0 1 T.isd.f T.isd.fd ["value"] (spIsD K) := by
  refine T.isd.F.ok scIsD (fun vs H Q E h => ?_) (fun cdv A outer s H vs Q E hr h => ?_)
  · obtain ⟨v, b, rfl, _⟩ := h
    rfl
  · obtain ⟨v, b, rfl, hD, k⟩ := h
    refine ⟨_, pss_one (ps_ret (pe_and (pe_callB call_isi (by rfl) T.E.R.N.k.isi (by decide +kernel) (pa_cons (pv 0) (pa_cons (pe_bltn (v := .ty "tuple") (by rfl) T.E.R.N.k.tuple (by decide +kernel) rfl) pa_nil)))
      (pe_and (pe_cmpR op_eq (pe_callB call_len_seq (by rfl) T.E.R.N.k.len PySem.boot_len (pa_cons (pv 0) pa_nil)) pe_int (nomark _))
      (pe_and (pe_callB call_isi (by rfl) T.E.R.N.k.isi (by decide +kernel) (pa_cons (pe_ix ix_tup (pv 0) pe_int (fun _ _ => rfl)) (pa_cons (pe_bltn (v := .ty "str") (by rfl) T.str (by decide +kernel) rfl) pa_nil)))
      (pe_one (pe_cmpR op_eq (pe_ix ix_tup (pv 0) pe_int (fun _ _ => rfl)) pe_str (nomark _))))))), ?_⟩
    cases hD with
    | @deed t c b ht =>
      refine ⟨_, rfl, _, _, _, _, true, rfl, .ty "tuple", .base (.tup ht), kit_ty (by decide +kernel), true, rfl, iteT ?_⟩
      refine ⟨_, rfl, t, _, rfl, .inr (SqT.of ht), rfl, _, rfl, iteT ?_⟩
      refine ⟨_, rfl, t, _, 0, _, rfl, rfl, SqT.of ht, rfl, _, _, _, _, true, rfl, .ty "str", .base (.str "feed"), kit_ty (by decide +kernel), true, rfl, iteT ?_⟩
      refine ⟨_, rfl, t, _, 0, _, rfl, rfl, SqT.of ht, rfl, rfl, ?_⟩
      rw [decide_eq_true rfl]
      exact k
    | @word t x c b ht ty sc n =>
      obtain ⟨tt, ty1, ty2⟩ := ty
      refine ⟨_, rfl, _, _, _, _, true, rfl, .ty "tuple", .base (.tup ht), kit_ty (by decide +kernel), true, rfl, iteT ?_⟩
      refine ⟨_, rfl, t, _, rfl, .inr (SqT.of ht), rfl, _, rfl, iteT ?_⟩
      refine ⟨_, rfl, t, _, 0, _, rfl, rfl, SqT.of ht, rfl, _, _, _, _, isS x, rfl, .ty "str", ty1, ty2, _, rfl, ?_⟩
      cases hs : isS x with
      | false => exact iteF k
      | true =>
        refine iteT ⟨_, rfl, t, _, 0, _, rfl, rfl, SqT.of ht, rfl, ?_⟩
        obtain ⟨z, rfl⟩ : ∃ z, x = .str z := by
          cases x <;> first | exact ⟨_, rfl⟩ | cases hs
        refine ⟨rfl, ?_⟩
        rw [decide_eq_false n]
        exact k
    | @long t xs ht n =>
      refine ⟨_, rfl, _, _, _, _, true, rfl, .ty "tuple", .base (.tup ht), kit_ty (by decide +kernel), true, rfl, iteT ?_⟩
      refine ⟨_, rfl, t, _, rfl, .inr (SqT.of ht), rfl, _, rfl, ?_⟩
      rw [dI, decide_eq_false (show ¬ (xs.length : Int) = 3 by omega)]
      exact iteF k
    | other h =>
      obtain ⟨tt, ty, kt⟩ := h
      exact ⟨_, rfl, _, _, _, _, false, rfl, .ty "tuple", ty, kt, false, rfl, iteF k⟩
def spCkD (T : TxFa K mg) : Sp := fun vs H Q E => ∃ (t : Addr) (xs : List V) (bs : List Bool), vs = [.ref t] ∧ H t = some (.tup xs) ∧ xs.length ≤ 100 ∧ DeedVs K H xs bs ∧ ((∀ b ∈ bs, b = true) → ∀ H', Same H H' → Q .non H') ∧
     ∀ i, firstF bs i → ∀ (H' : Hp) (d : Addr), Same H H' → H' d = none → E (.ref T.eD.C) (some d) (upd H' d (.xd [("index", .int (i : Nat))]))
theorem scCkD : FnScope ["deeds", "index", "deed"] ["deeds"] (defScope sCkD) := ⟨rfl, rfl, rfl, by decide +kernel, rfl, by decide +kernel, by decide +kernel⟩
theorem ok_ckd (T : TxFa K mg) : FnOk P w K mg base (L2.CX P w) 3 T.ckd.f T.ckd.fd ["deeds"] (spCkD T) := by
  have G2 : FnOk P w K mg base CX0 1 T.isd.f T.isd.fd ["value"] (spIsD K) := ok_isd T
  have GE : FnOk P w K mg base CX0 1 T.eD.f T.eD.fd ["self", "index"] (spER "index" T.eD.C) := ok_eid T.eD
  refine T.ckd.F.okX scCkD (fun vs H Q E h => ?_) (fun cdv A outer s H vs Q E hr h => ?_)
  · obtain ⟨t, xs, bs, rfl, _⟩ := h
    rfl
  · obtain ⟨t, xs, bs, rfl, ht, hl, hR, k1, k2⟩ := h
    have hr1 : Room 1 _ := hr.mono (by decide)
    refine ⟨_, pss_one (ps_for (passes_of rfl) rfl (ETup.pi_enumT (by rfl) T.enum (pa_cons (pv 0) pa_nil)) (pg_tup rfl (pgs_cons (pg_name (i := 1) scCkD.nd rfl (.inl rfl)) (pgs_cons (pg_name (i := 2) scCkD.nd rfl (.inl rfl)) pgs_nil)))
        (pss_one (ps_if (pt_not (pt_val (pe_call G2 hr1 rfl T.isd.g T.isd.k T.isd.b .nil pass0 (pa_cons (pv 2) pa_nil))))
          (pss_one (ps_raise rfl (takes_of rfl rfl rfl rfl) (pmk_oex T.eD.o T.eD.i T.eD.t GE hr T.eD.b .nil pass0 rfl T.eD.g (pa_cons (pv 1) pa_nil)))) pss_nil))), ?_⟩
    have lx := hR.len
    refine ⟨_, rfl, t, xs, rfl, SqT.of ht, ETup.for_enumT (K := K) (a := t) (xs := xs) (fun i σ H' => Same H H' ∧ (∃ v v', σ = [some (.ref t), v, v']) ∧ ∀ k, k < i → bs[k]? = some true) ⟨Same.refl _, ⟨none, none, rfl⟩, fun k z => absurd z (Nat.not_lt_zero _)⟩ (fun i σ H' _ ⟨s', _⟩ => SqT.of (s' _ _ ht)) ?_ ?_⟩
    · rintro i x σ H' T' hx ⟨s', ⟨v, v', rfl⟩, hb⟩ nT
      obtain ⟨b, hb1, hr1⟩ := hR.get hx
      have s2 : Same H (upd H' T' (.tup [.int (i : Nat), x])) := Same.trans s' (same_new nT)
      refine ⟨T', _, rfl, SqT.of upd_same, rfl, _, _, rfl, _, _, rfl, rfl, ?_⟩
      refine ⟨_, rfl, x, b, rfl, hr1.same s2, _, rfl, ?_⟩
      cases b with
      | true =>
        refine iteF ⟨s2, ⟨_, _, rfl⟩, fun k hk => ?_⟩
        by_cases e : k < i
        · exact hb k e
        · rw [show k = i by omega]
          exact hb1
      | false => exact iteT (mk_er (x := .int (i : Nat)) ⟨_, rfl, rfl, rfl⟩ (fun {R R'} ⟨v, e1, q⟩ f => ⟨v, e1, f _ _ q⟩) fun d nd => k2 i ⟨hb1, hb⟩ _ d s2 nd)
    · rintro σ H' ⟨s', ⟨v, v', rfl⟩, hb⟩
      refine k1 (fun b hm => ?_) H' s'
      obtain ⟨i, hi, rfl⟩ := List.getElem_of_mem hm
      have := hb i (by omega)
      rw [List.getElem?_eq_getElem hi] at this
      exact Option.some.inj this
end
end My

/-! take of a busy reading -/
namespace My
open PySem L2 Cm LM EM
section
variable {P : Program} {w : World} {K : PySem.W.Frag} {mg : Str → Option Value} {base : Heap}
/-- a busy reading stands at lv -/
structure RdAtB (T : TxRd K mg) (H : Hp) (lv dx lo m : Addr) (sz : Nat) (t : Str) (rr : List (Nat × Bool)) : Prop where
  at_ : H lv = some (.ins T.CR dx (rf lo sz true m))
  lo : LoopAt T.N.T.C H lo t
  mo : Mom T.CM sz (ordsR t) (ordsE t) H m rr
theorem RdAtB.same {T : TxRd K mg} {H H' : Hp} {lv dx lo m : Addr} {sz : Nat} {t : Str} {rr : List (Nat × Bool)} (s : Same H H') (h : RdAtB T H lv dx lo m sz t rr) : RdAtB T H' lv dx lo m sz t rr := ⟨s _ _ h.at_, h.lo.same s, h.mo.mono (fun _ _ e => s _ _ e) fun _ _ _ _ _ _ _ e => s _ _ e⟩
def spRdCrB (T : TxRd K mg) : Sp := fun vs H Q E => ∃ (lv dx lo m : Addr) (sz n : Nat) (said : Bool) (t : Str) (rr : List (Nat × Bool)), vs = [.ref lv, .int n, .bl said] ∧ RdAtB T H lv dx lo m sz t rr ∧ n ≤ sz ∧ rr.length < 100 ∧
  ((stR sz (ordsR t) (ordsE t) rr).st = true → E (.ref T.xS.C) none H) ∧ ((stR sz (ordsR t) (ordsE t) rr).st = false → Q .non H)
theorem ok_rdcrB (T : TxRd K mg) : FnOk P w K mg base (L2.CX P w) 3 T.cr.f T.cr.fd ["self", "count", "told"] (spRdCrB T) := by
  have GI : FnOk P w K mg base CX0 1 T.N.k.iib.f T.N.k.iib.fd ["value", "low", "high"] (spIIB K) := ok_iib T.N.k
  have GO : FnOk P w K mg base CX0 1 T.pO.f T.pO.fd ["self"] (spRd T fun _ _ _ ov => .bl ov) := ok_rdo T
  have GL : FnR P w K mg base CX0 1 T.rl.f (fun vs H Q E => spRdL T (vs ++ []) H Q E) := (ok_rdl T).raw T.rl.b .nil
  obtain ⟨tm, mr⟩ := T.N.k.mr
  refine T.cr.F.okX scRdCr (fun vs H Q E h => ?_) (fun cdv A outer s H vs Q E hr h => ?_)
  · obtain ⟨lv, _, _, _, _, _, _, _, _, rfl, _⟩ := h
    rfl
  · obtain ⟨lv, dx, lo, m, sz, n, said, t, rr, rfl, hR, hn, hl, kE, k⟩ := h
    have hr1 : Room 1 _ := hr.mono (by decide)
    refine ⟨_, (pss_cons (ps_if (pt_not (pt_val (pe_call GI hr1 rfl T.N.k.iib.g T.N.k.iib.k T.N.k.iib.b .nil pass0 (pa_cons (pv 1) (pa_cons pe_int (pa_cons (pe_fld (pv 0) rfl) pa_nil)))))) (pss_one ps_never) pss_nil) (pss_cons (ps_if (pt_not (pt_val (pe_callB call_isi (by rfl) T.N.k.isi (by decide +kernel) (pa_cons (pv 2) (pa_cons (pe_bltn (v := .ty "bool") (by rfl) T.N.k.bool (by decide +kernel) rfl) pa_nil))))) (pss_one ps_never) pss_nil) (pss_cons (ps_if (pt_val (pe_prop (pv 0) T.clR T.pO.o GO hr T.pO.b .nil pass0 (by rfl))) (pss_one (ps_raise rfl (takes_of rfl rfl rfl rfl) (MkO.pmk_own0 PySem.F.excBase_LookupError T.xS.q T.xS.g T.xS.k (raises_own T.xS.s T.xS.t) rfl))) pss_nil) (pss_one (ps_if (pt_cmpR op_ge (pe_callB (call_lenO T.rl.i T.rl.fn GL hr) (by rfl) T.N.k.len PySem.boot_len (pa_cons (pv 0) pa_nil)) (pe_glob (v := .int 100) rfl mr ⟨_, rfl⟩) (nomark _)) (pss_one ps_never) pss_nil))))), ?_⟩
    obtain ⟨dm, g, h, kk, b, hm, hMs, _⟩ := hR.mo.head
    obtain ⟨gs, hs, hg, hRp, _⟩ := id hMs
    have bt : btw 0 (sz : Int) (.int (n : Nat)) = true := decide_eq_true (show (0 : Int) ≤ (n : Int) ∧ (n : Int) ≤ (sz : Int) from ⟨by omega, by omega⟩)
    refine ⟨_, rfl, _, rfl, lv, T.CR, dx, _, _, rfl, hR.at_, T.clR, T.nRs, rf_s .., _, 0, sz, rfl, typed_int _, _, rfl, ?_⟩
    rw [bt]
    refine iteF ?_
    refine ⟨_, rfl, _, _, _, _, true, rfl, .ty "bool", .base (.bl said), kit_ty (by decide +kernel), true, rfl, iteF ?_⟩
    refine ⟨_, rfl, lv, dx, _, rfl, hR.at_, lv, dx, lo, m, dm, g, h, kk, sz, true, b, _, rfl, hR.at_, hm, _, rfl, ?_⟩
    cases hst : (stR sz (ordsR t) (ordsE t) rr).st with
    | true => exact iteT (kE hst)
    | false =>
      refine iteF ?_
      have lg : gs.length = rr.length := by rw [hRp.len, List.length_reverse]
      refine ⟨_, rfl, lv, dx, _, rfl, hR.at_, lv, dx, lo, m, dm, g, h, kk, sz, true, b, _, gs, rfl, hR.at_, hm, hg, gs.length, rfl, by omega, _, _, rfl, rfl, _, rfl, ?_⟩
      rw [show decide ((100 : Int) ≤ ((gs.length : Nat) : Int)) = false from decide_eq_false (by omega)]
      exact iteF (k hst)

def spRdTB (T : TxRd K mg) : Sp := fun vs H Q E => ∃ (lv dx lo m : Addr) (sz n : Nat) (said : Bool) (t : Str) (rr : List (Nat × Bool)), vs = [.ref lv, .int n, .bl said] ∧ RdAtB T H lv dx lo m sz t rr ∧ goodText t = true ∧ 1 ≤ sz ∧ sz ≤ 1000 ∧ n ≤ sz ∧ rr.length < 100 ∧ OkR sz (ordsR t) (ordsE t) rr ∧ (∀ r ∈ rr, r.1 ≤ sz) ∧
  ((stR sz (ordsR t) (ordsE t) rr).st = true → E (.ref T.xS.C) none H) ∧
  ((stR sz (ordsR t) (ordsE t) rr).st = false → ∀ (H' : Hp) (m' q : Addr) (hs : List V), Off lv H H' → RdAtB T H' lv dx lo m' sz t ((n, said) :: rr) → H q = none → H' q = some (.tup hs) → Pcs H' hs (newP sz t rr n said) → Q (.ref q) H')
theorem ok_rdtB (T : TxRd K mg) : FnOk P w K mg base (L2.CX P w) 5 T.ta.f T.ta.fd ["self", "count", "told"] (spRdTB T) := by
  have GC : FnOk P w K mg base (L2.CX P w) 3 T.cr.f T.cr.fd ["self", "count", "told"] (spRdCrB T) := ok_rdcrB T
  have GX : FnOk P w K mg base CX0 3 T.N.lx.f T.N.lx.fd ["self", "size", "kept"] (spLX T.N.T.C T.N.X.C) := ok_lx T.N
  have GA : FnOk P w K mg base CX0 4 T.N.X.an.f T.N.X.an.fd ["self", "held", "told"] (spXA T.N.X.C) := ok_xa T.N.X
  have GM : FnOk P w K mg base CX0 1 T.fM T.fdM ["self", "before", "given", "handed", "kept", "over"] (spMmI T.CM) := ok_mmi T
  refine T.ta.F.okX scRdT (fun vs H Q E h => ?_) (fun cdv A outer s H vs Q E hr h => ?_)
  · obtain ⟨lv, _, _, _, _, _, _, _, _, rfl, _⟩ := h
    rfl
  · obtain ⟨lv, dx, lo, m, sz, n, said, t, rr, rfl, hR, gt, z1, z2, hn, hl, hok, hc, kE, k⟩ := h
    have hr3 : Room 3 _ := hr.mono (by decide)
    have hr2 : Room 2 _ := hr.mono (by decide)
    refine ⟨_, (pss_cons (ps_expr (pe_meth (E := E) (pv 0) T.clR T.cr.m GC hr3 T.cr.b .nil (passes_call (takes_of rfl rfl rfl rfl) fun _ _ _ _ z => z) (pa_cons (pv 1) (pa_cons (pv 2) pa_nil)))) (pss_cons (ps_set (i := 3) scRdT.nd rfl (.inl rfl) (pe_fld (pv 0) rfl)) (C8.pss_cut (ps_set (i := 4) scRdT.nd rfl (.inl rfl) (pe_callB (cr_sum rfl) (by rfl) T.sum (by decide +kernel) (pa_cons (pe_lc (own := [("reply", 7)]) (g := gName 7) (tt := tYes) (te := tRe0) rfl scRdT.nd (pi_tup (pe_fld (pv 3) rfl)) (blkOk_by (own := [("reply", 7)]) (N := NT) (sc := defScope sRdT) (by decide +kernel)) (fun _ _ _ _ _ => pg_name (i := 7) scRdT.nd rfl (Or.inl rfl)) (fun _ _ _ _ _ => pts_nil) (fun _ _ _ _ _ => by exact pe_imp (t' := tRe0) (pe_ix ix_tup (pv 7) pe_int (fun _ _ => rfl)) (fun σ H Q ⟨q, c, b, h7, hq, k⟩ => ⟨_, h7, q, _, 0, _, rfl, rfl, SqT.of hq, rfl, k⟩))) pa_nil))) (pss_cons (ps_set (i := 5) scRdT.nd rfl (.inl rfl) (pe_meth (pe_fld (pv 0) rfl) T.N.T.cl T.N.lx.m GX hr3 T.N.lx.b .nil pass0 (pa_cons (pe_fld (pv 0) rfl) (pa_cons (pe_fld (pv 3) rfl) pa_nil)))) (pss_cons (ps_expr (pe_meth (pv 5) T.N.X.cl T.N.X.an.m GA hr T.N.X.an.b .nil pass0 (pa_cons (pe_tupRg rfl rfl T.N.k.tuple (prg_2 rfl T.N.X.range (pv 4) (pe_op op_add (pv 4) (pv 1)))) (pa_cons (pv 2) pa_nil)))) (pss_cons (ps_set (i := 6) scRdT.nd rfl (.inl rfl) (pe_callTy call_tuple_of (by rfl) T.N.k.tuple (by decide +kernel) (pa_cons (pe_fld (pv 5) rfl) pa_nil))) (pss_cons (ps_fld (pv 0) (pe_make T.MM GM hr2 rfl T.gM T.bM .nil pass0 (pa_cons (pv 3) (pa_cons (pe_op op_catH (pe_fld (pv 3) rfl) (pe_tup (pa_cons (pe_tup (pa_cons (pv 1) (pa_cons (pv 2) pa_nil))) pa_nil))) (pa_cons (pe_op op_catH (pe_fld (pv 3) rfl) (pv 6)) (pa_cons (pe_fld (pv 5) rfl) (pa_cons (pe_fld (pv 5) rfl) pa_nil)))))) rfl) (pss_one (ps_ret (pv 6)))))))))), ?_⟩
    obtain ⟨dm, g, h, kk, b, hm, hMs, _⟩ := hR.mo.head
    refine ⟨_, rfl, lv, dx, _, rfl, hR.at_, rf_n5 .., _, rfl, _, rfl, lv, dx, lo, m, sz, n, said, t, rr, rfl, hR, hn, hl, kE, fun hst => ?_⟩
    have k := k hst
    obtain ⟨gs, hs, hg, hRp, hh, hP, hk⟩ := id hMs
    refine ⟨_, rfl, lv, T.CR, dx, _, _, rfl, hR.at_, T.clR, T.nRm, rf_m .., ?_⟩
    have lg := hRp.len
    rw [List.length_reverse] at lg
    have ef := ok_f hok
    have gn := good_iff.mp gt
    have lR : (ordsR t).length ≤ 12 := by rw [ordsR, List.length_map]; exact (round_sht gn.1).2
    have lE : (ordsE t).length ≤ 6 := by rw [ordsE, List.length_map]; exact (ending_sht gn.2).2
    have bd := runM_bound (ro := ordsR t) (eo := ordsE t) z1 lR lE rr.reverse (by rw [List.length_reverse]; omega) fun q hq => hc q (List.mem_reverse.mp hq)
    rw [st_run, List.length_reverse] at bd
    have f1 : (stR sz (ordsR t) (ordsE t) rr).f ≤ 99 * 1000 := Nat.le_trans bd.2.1 (Nat.mul_le_mul (by omega) z2)
    have l99 : rr.length ≤ 99 := by omega
    have few : Few sz (18 * 99) (99 * 32724) ⟨(stR sz (ordsR t) (ordsE t) rr).x.rest, []⟩ := ⟨Nat.le_trans bd.1.1 (Nat.mul_le_mul_right _ (Nat.mul_le_mul_left _ l99)), Nat.zero_le _⟩
    have fa := few_ans (ro := ordsR t) (eo := ordsE t) (held := itemsF (stR sz (ordsR t) (ordsE t) rr).f n) (told := said) z1 (by rw [itemsF_len]; exact hn) lR lE (⟨few.1, Nat.zero_le _⟩ : Few sz (18 * 99) 0 ⟨(stR sz (ordsR t) (ordsE t) rr).x.rest, []⟩)
    have sf := st_from (r := (n, said)) hst
    have en : newP sz t rr n said = (ansM sz (ordsR t) (ordsE t) (itemsF (stR sz (ordsR t) (ordsE t) rr).f n) said ⟨(stR sz (ordsR t) (ordsE t) rr).x.rest, []⟩).1.pieces := rfl
    rw [en] at k
    have pl : (stR sz (ordsR t) (ordsE t) rr).x.pieces.length ≤ 99 * 32724 := Nat.le_trans bd.1.2 (Nat.mul_le_mul_right _ l99)
    generalize (stR sz (ordsR t) (ordsE t) rr).f = ff at *
    -- first
    refine ⟨fun σ H' => σ = [some (.ref lv), some (.int n), some (.bl said), some (.ref m), some (.int ff), none, none, none] ∧ Same H H', ?_, ?_⟩
    · refine ⟨_, rfl, m, T.CM, dm, _, _, rfl, hm, T.clM, T.nMg, mf_g .., g, rfl, ⟨_, SqT.of hg⟩, fun D nD => lc_tup (K := K) (a := g) (xs := gs) (fun i H' => Same H H' ∧ H' D = some (.lst (((rr.reverse.take i).map fun r => ((r.1 : Nat) : Int)).map V.int))) ⟨same_new nD, upd_same⟩ (fun i H' _ ⟨s', _⟩ => SqT.of (s' _ _ hg)) ?_ ?_⟩
      · rintro i y H' hy ⟨s', hD⟩
        obtain ⟨q, r, hr0, rfl, hq⟩ := hRp.get hy
        refine ⟨rfl, q, r.1, r.2, rfl, s' _ _ hq, _, hD, szM (by rw [List.length_map, List.length_map, List.length_take, List.length_reverse]; omega), fun b o z => ?_, ?_⟩
        · rw [upd_ne (ne_of_none z nD)]
          exact s' _ _ z
        · rw [upd_same, take_snoc hr0, List.map_append, List.map_append]
          rfl
      · rintro H' ⟨s', hD⟩
        rw [lg, ← List.length_reverse, List.take_length] at hD
        refine ⟨D, _, rfl, SqL.of hD, ?_⟩
        rw [sumI, ← ef]
        exact ⟨rfl, s'⟩
    rintro _ H1 ⟨rfl, s1⟩
    -- work
    have hR1 := hR.same s1
    have hm1 := s1 _ _ hm
    obtain ⟨dlo, pr, pe, po, pq, elo, _⟩ := id hR1.lo
    refine ⟨_, rfl, lv, T.CR, dx, _, _, rfl, hR1.at_, T.clR, T.nRl, rf_l .., lo, dlo, _, rfl, elo, lf_no _ _ _ _ _ (by decide +kernel) (by decide +kernel) (by decide +kernel) (by decide +kernel) (by decide +kernel), ?_⟩
    refine ⟨_, rfl, lv, T.CR, dx, _, _, rfl, hR1.at_, T.clR, T.nRs, rf_s .., _, rfl, m, T.CM, dm, _, _, rfl, hm1, T.clM, T.nMk, mf_k .., ?_⟩
    refine ⟨lo, kk, t, sz, _, rfl, hR1.lo, s1 _ _ hk, fun H2 x dxx ro eo pp s2 nx np X2 hRo hEo => ?_⟩
    obtain ⟨h0, r0, vs0, ee, _⟩ := id X2.ex
    refine ⟨_, rfl, x, dxx, _, rfl, ee, (xf_noA ..).1, _, rfl, _, rfl, _, rfl, _, _, rfl, rfl, _, _, rfl, rfl, RgOk.of_le (by omega) (by omega) (by omega) (by omega), fun z nz => ?_⟩
    rw [rgV_items]
    have s3 : Same H2 (upd H2 z (.tup (ivs (itemsF ff n)))) := same_new nz
    refine ⟨_, rfl, x, dxx, ro, eo, pp, z, _, sz, [], itemsF ff n, false, said, ⟨(stR sz (ordsR t) (ordsE t) rr).x.rest, []⟩, ordsR t, ordsE t, 18 * 99, 99 * 32724, rfl, X2.same s3, upd_same, hRo.ts fun _ _ e => s3 _ _ e, hEo.ts fun _ _ e => s3 _ _ e, lR, lE, ⟨z1, z2, by rw [itemsF_len]; exact hn, by decide, by decide, few⟩, by decide, by decide, fun H4 o4 X4 => ?_⟩
    have s14 : Same H1 H4 := fun b u e => o4 b u (ne_of_none e nx) (ne_of_none e np) (s3 _ _ (s2 _ _ e))
    have s04 := Same.trans s1 s14
    generalize ansM sz (ordsR t) (ordsE t) (itemsF ff n) said ⟨(stR sz (ordsR t) (ordsE t) rr).x.rest, []⟩ = AA at X4 k sf fa
    obtain ⟨h4, r4, vs4, ee4, hh4, hr4, hp4, hP4⟩ := id X4.ex
    -- handed
    refine ⟨_, rfl, x, T.N.X.C, dxx, _, _, rfl, ee4, T.N.X.cl, T.N.X.nP, xf_p .., pp, vs4, rfl, .inl ⟨SqL.of hp4, fun q nq => ?_⟩⟩
    have s5 := same_new (o := .tup vs4) nq
    have hq5 : (upd H4 q (.tup vs4)) q = some (.tup vs4) := upd_same
    have s05 := Same.trans s04 s5
    have ee5 := s5 _ _ ee4
    have hr5 := s5 _ _ hr4
    have hP5 := hP4.same s5
    have nq0 : H q = none := s04.free nq
    show tSeq _ _ _ _ (upd H4 q (.tup vs4))
    generalize upd H4 q (.tup vs4) = H5 at s5 hq5 s05 ee5 hr5 hP5 ⊢
    have lv4 : vs4.length = AA.1.pieces.length := hP4.len
    -- the new moment
    have hm5 := s05 _ _ hm
    refine ⟨_, rfl, _, rfl, m, T.CM, dm, _, _, rfl, hm5, T.clM, T.nMg, mf_g .., _, rfl, _, rfl, (by show 2 ≤ sizeLine; decide), fun a1 n1 => ⟨(by show 1 ≤ sizeLine; decide), fun a2 n2 => ?_⟩⟩
    have u1 := same_new (o := .tup [.int n, .bl said]) n1
    have u2 := same_new (o := .tup [.ref a1]) n2
    have lh : hs.length = (stR sz (ordsR t) (ordsE t) rr).x.pieces.length := hP.len
    have la : AA.1.pieces.length ≤ 0 + 18 * (18 * 99 + 18) := fa.2
    have big : 99 * 32724 + 32400 ≤ sizeLine := by decide
    refine ⟨g, a2, _, _, rfl, rfl, u2 _ _ (u1 _ _ (s05 _ _ hg)), upd_same, szl (by rw [lg]; show rr.length + 1 ≤ 1000; omega), fun H6 q1 s6 h6 => ?_⟩
    have s56 := Same.trans u1 (Same.trans u2 s6)
    refine ⟨_, rfl, m, T.CM, dm, _, _, rfl, s56 _ _ hm5, T.clM, T.nMh, mf_h .., _, rfl, h, q, _, _, rfl, rfl, s56 _ _ (s05 _ _ hh), s56 _ _ hq5, by omega, fun H7 q2 s7 h7 => ?_⟩
    have s57 := Same.trans s56 s7
    refine ⟨_, rfl, x, T.N.X.C, dxx, _, _, rfl, s57 _ _ ee5, T.N.X.cl, T.N.X.nR, xf_r .., _, rfl, x, T.N.X.C, dxx, _, _, rfl, s57 _ _ ee5, T.N.X.cl, T.N.X.nSt, xf_st .., ?_⟩
    intro y dy ny ndy ney
    refine ⟨y, dy, q1, q2, r4, .ref m, AA.2, rfl, upd_same, fun H8 o8 hy => ⟨rfl, ?_⟩⟩
    have s78 := made_same ny ndy o8
    have s58 := Same.trans s57 s78
    have s08 := Same.trans s05 s58
    have at8 := s08 _ _ hR.at_
    have yl : y ≠ lv := (ne_of_none (s57 _ _ (s05 _ _ hR.at_)) ny).symm
    refine ⟨_, rfl, lv, T.CR, dx, _, rfl, at8, T.clR, T.nRm, (by show 4 < 1000; decide), ?_⟩
    rw [rf_pm]
    refine ⟨_, rfl, ?_⟩
    have oL : Off lv H8 (upd H8 lv (.ins T.CR dx (rf lo sz true y))) := Off.put Off.refl
    have ft : ∀ (p : Addr) (xs : List V), H8 p = some (.tup xs) → (upd H8 lv (.ins T.CR dx (rf lo sz true y))) p = some (.tup xs) := fun p xs e => oL _ _ (ne_of e at8 (by intro z; cases z)) e
    have ms : MsAt H8 q1 q2 r4 ((n, said) :: rr).reverse (stR sz (ordsR t) (ordsE t) ((n, said) :: rr)).x := by
      rw [sf.1, List.reverse_cons]
      exact ⟨_, _, s78 _ _ (s7 _ _ h6), rps_snoc (r := (n, said)) (s78 _ _ (s7 _ _ (s6 _ _ (u2 _ _ upd_same)))) (hRp.same s08), s78 _ _ h7, (hP.same s08).app (hP5.same s58), s58 _ _ hr5⟩
    refine k _ y q vs4 (fun b o nb e => by rw [upd_ne nb]; exact s08 _ _ e) ⟨upd_same, (hR.lo.same s08).off3 at8 oL, ?_⟩ nq0 (ft _ _ (s58 _ _ hq5)) ((hP5.same s58).mono ft)
    refine .cons (m' := m) (dm := dy) ?_ (ms.mono ft) ((hR.same s08).mo.off at8 oL)
    rw [upd_ne yl, hy, sf.2]

def spRdCeB (T : TxRe K mg) : Sp := fun vs H _ E => ∃ (lv dx lo m : Addr) (sz : Nat) (c b : V) (t : Str) (rr : List (Nat × Bool)), vs = [.ref lv, c, b] ∧ RdAtB T.R H lv dx lo m sz t rr ∧ TypedI K H c ∧ TypedI K H b ∧ rr.length ≤ 100 ∧ BadR T sz t rr c b H E
theorem ok_rdcreB (T : TxRe K mg) : FnOk P w K mg base (L2.CX P w) 3 T.R.cr.f T.R.cr.fd ["self", "count", "told"] (spRdCeB T) := by
  have GI : FnOk P w K mg base CX0 1 T.R.N.k.iib.f T.R.N.k.iib.fd ["value", "low", "high"] (spIIB K) := ok_iib T.R.N.k
  have GO : FnOk P w K mg base CX0 1 T.R.pO.f T.R.pO.fd ["self"] (spRd T.R fun _ _ _ ov => .bl ov) := ok_rdo T.R
  have GL : FnR P w K mg base CX0 1 T.R.rl.f (fun vs H Q E => spRdL T.R (vs ++ []) H Q E) := (ok_rdl T.R).raw T.R.rl.b .nil
  have G1 : FnOk P w K mg base CX0 1 T.eC.f T.eC.fd ["self", "value"] (spER "value" T.eC.C) := ok_eC T.eC
  have G2 : FnOk P w K mg base CX0 1 T.eT.f T.eT.fd ["self", "value"] (spER "value" T.eT.C) := ok_eT T.eT
  have G3 : FnOk P w K mg base CX0 1 T.xM.f T.xM.fd ["self", "limit"] (ExV.spIni T.xM.C "limit") := ok_eM T.xM
  obtain ⟨tm, mr⟩ := T.R.N.k.mr
  refine T.R.cr.F.okX scRdCr (fun vs H Q E h => ?_) (fun cdv A outer s H vs Q E hr h => ?_)
  · obtain ⟨lv, _, _, _, _, _, _, _, _, rfl, _⟩ := h
    rfl
  · obtain ⟨lv, dx, lo, m, sz, c, bb, t, rr, rfl, hR, tc, tb, hl, bad⟩ := h
    have hr1 : Room 1 _ := hr.mono (by decide)
    refine ⟨_, (pss_cons (ps_if (pt_not (pt_val (pe_call GI hr1 rfl T.R.N.k.iib.g T.R.N.k.iib.k T.R.N.k.iib.b .nil pass0 (pa_cons (pv 1) (pa_cons pe_int (pa_cons (pe_fld (pv 0) rfl) pa_nil)))))) (pss_one (ps_raise rfl (takes_of rfl rfl rfl rfl) (pmk_oex T.eC.o T.eC.i T.eC.t G1 hr T.eC.b .nil pass0 rfl T.eC.g (pa_cons (pv 1) pa_nil)))) pss_nil) (pss_cons (ps_if (pt_not (pt_val (pe_callB call_isi (by rfl) T.R.N.k.isi (by decide +kernel) (pa_cons (pv 2) (pa_cons (pe_bltn (v := .ty "bool") (by rfl) T.R.N.k.bool (by decide +kernel) rfl) pa_nil))))) (pss_one (ps_raise rfl (takes_of rfl rfl rfl rfl) (pmk_oex T.eT.o T.eT.i T.eT.t G2 hr T.eT.b .nil pass0 rfl T.eT.g (pa_cons (pv 2) pa_nil)))) pss_nil) (pss_cons (ps_if (pt_val (pe_prop (pv 0) T.R.clR T.R.pO.o GO hr T.R.pO.b .nil pass0 (by rfl))) (pss_one (ps_raise rfl (takes_of rfl rfl rfl rfl) (MkO.pmk_own0 PySem.F.excBase_LookupError T.R.xS.q T.R.xS.g T.R.xS.k (raises_own T.R.xS.s T.R.xS.t) rfl))) pss_nil) (pss_one (ps_if (pt_cmpR op_ge (pe_callB (call_lenO T.R.rl.i T.R.rl.fn GL hr) (by rfl) T.R.N.k.len PySem.boot_len (pa_cons (pv 0) pa_nil)) (pe_glob (v := .int 100) rfl mr ⟨_, rfl⟩) (nomark _)) (pss_one (ps_raise rfl (takes_of rfl rfl rfl rfl) (ExV.pmk_V ExV.tail_A T.xM.V (raises_own T.xM.s T.xM.ty) T.xM.i T.xM.t G3 hr T.xM.b rfl T.xM.g (pe_glob (v := .int 100) rfl mr ⟨_, rfl⟩)))) pss_nil))))), ?_⟩
    obtain ⟨dm, g, h, kk, b0, hm, hMs, _⟩ := hR.mo.head
    obtain ⟨gs, hs, hg, hRp, _⟩ := id hMs
    refine ⟨_, rfl, _, rfl, lv, T.R.CR, dx, _, _, rfl, hR.at_, T.R.clR, T.R.nRs, rf_s .., _, 0, sz, rfl, tc, _, rfl, ?_⟩
    rcases bad with ⟨h1, k⟩ | ⟨h1, bad⟩
    · rw [h1]
      exact iteT (mk_er (x := c) ⟨c, rfl, rfl, rfl⟩ (fun {R R'} ⟨v, e1, q⟩ f => ⟨v, e1, f _ _ q⟩) k)
    rw [h1]
    refine iteF ?_
    obtain ⟨ty, ty1, ty2, ty3⟩ := tb
    refine ⟨_, rfl, _, _, _, _, isB bb, rfl, .ty "bool", ty1, ty3, _, rfl, ?_⟩
    rcases bad with ⟨h2, k⟩ | ⟨h2, bad⟩
    · rw [h2]
      exact iteT (mk_er (x := bb) ⟨bb, rfl, rfl, rfl⟩ (fun {R R'} ⟨v, e1, q⟩ f => ⟨v, e1, f _ _ q⟩) k)
    rw [h2]
    refine iteF ?_
    refine ⟨_, rfl, lv, dx, _, rfl, hR.at_, lv, dx, lo, m, dm, g, h, kk, sz, true, b0, _, rfl, hR.at_, hm, _, rfl, ?_⟩
    rcases bad with ⟨h3, k⟩ | ⟨h3, h4, k⟩
    · rw [h3]
      exact iteT k
    rw [h3]
    refine iteF ?_
    have lg : gs.length = rr.length := by rw [hRp.len, List.length_reverse]
    refine ⟨_, rfl, lv, dx, _, rfl, hR.at_, lv, dx, lo, m, dm, g, h, kk, sz, true, b0, _, gs, rfl, hR.at_, hm, hg, gs.length, rfl, by omega, _, _, rfl, rfl, _, rfl, ?_⟩
    rw [show decide ((100 : Int) ≤ ((gs.length : Nat) : Int)) = true from decide_eq_true (by omega)]
    exact iteT k
theorem ok_rdteB (T : TxRe K mg) : FnOk P w K mg base (L2.CX P w) 5 T.R.ta.f T.R.ta.fd ["self", "count", "told"] (spRdCeB T) := by
  have GC : FnOk P w K mg base (L2.CX P w) 3 T.R.cr.f T.R.cr.fd ["self", "count", "told"] (spRdCeB T) := ok_rdcreB T
  refine T.R.ta.F.okX scRdT (fun vs H Q E h => ?_) (fun cdv A outer s H vs Q E hr h => ?_)
  · obtain ⟨lv, _, _, _, _, _, _, _, _, rfl, _⟩ := h
    rfl
  · obtain ⟨lv, dx, lo, m, sz, c, bb, t, rr, rfl, hR, rest⟩ := h
    have hr3 : Room 3 _ := hr.mono (by decide)
    refine ⟨_, (pss_cons (ps_expr (pe_meth (E := E) (pv 0) T.R.clR T.R.cr.m GC hr3 T.R.cr.b .nil (passes_call (takes_of rfl rfl rfl rfl) fun _ _ _ _ z => z) (pa_cons (pv 1) (pa_cons (pv 2) pa_nil)))) (pss_cons ps_never (pss_cons ps_never (pss_cons ps_never (pss_cons ps_never (pss_cons ps_never (pss_cons ps_never (pss_one ps_never)))))))), ?_⟩
    exact ⟨_, rfl, lv, dx, _, rfl, hR.at_, rf_n5 .., _, rfl, _, rfl, lv, dx, lo, m, sz, c, bb, t, rr, rfl, hR, rest⟩
end
end My

/-! calls whose errors fly on with what the frame's names hold known: within try, where the finally suite reads names -/
namespace FvG
open PySem PySem.Spec PyProof.Rows L2 LamX NdefX FvL
/-- an error of E passes, where the frame's names are as G tells -/
def PassesG (CX : CXT) (X : Cx) (G : L2.St → Prop) (E : XK) : Prop := ∀ (pins : List (Addr × Obj)) (σ : L2.St) (H : Hp) (s : Shared) (e : Value) (s' : Shared), G σ → Inv X pins σ H s → CX X.stack H s E e s' → X.xe e s'
theorem passesG {X : Cx} {W : WX} {G : L2.St → Prop} {E : XK} (tk : Takes X W) (hW : ∀ cls d σ H, G σ → E cls d H → W cls d σ H) : PassesG (L2.CX X.prog X.w) X G E :=
  fun _ σ _ _ e s' g I c => tk e s' (XE.of_call I (fun cls d H' h => hW cls d σ H' g h) c)
section
variable {X : Cx} {CX : CXT} {k : Nat} {f : Addr} {fd : FuncData} {ps : List Str} {sp : Sp} {dvs : List V} {ds : List Value} {E : XK} {G : L2.St → Prop} {m : Str} {C : Addr} {o e : Expr} {es : List Expr} {pos apos p : Pos} {ta : TE} {t : TA} {x : Str}
theorem run_fnG {pins : List (Addr × Obj)} {σ : L2.St} {H : Hp} {s : Shared} {Q : VK} {us : List Value} {vs : List V} (F : FnOk X.prog X.w X.K X.mg X.base CX k f fd ps sp) (hr : Room k X.A) (hb : Binds X.K fd ps ds) (hd : Vals dvs ds) (hx : PassesG CX X G E) (g : G σ)
    (I : Inv X pins σ H s) (r : Vals vs us) (h : sp (vs ++ dvs) H Q E) : wpAny (model X.prog X.w) X.A (call (.ref f) us) (EP X pins σ Q) X.xe s := by
  have r2 : Vals (vs ++ dvs) (us ++ ds) := r.append hd
  have hl : (us ++ ds).length = ps.length := by rw [← r2.length]; exact F.len _ _ _ _ h
  refine wpAny_call (codeAny_mono (F.run X.A X.stack s H ⟨us, []⟩ (us ++ ds) (vs ++ dvs) Q E hr I.env0 (hb s us I.kIn hl) r2 h) fun r s' hq => ?_)
  cases r with
  | error e => exact hx pins σ H s e s' g I hq
  | ok fl =>
    cases fl with
    | ret u => exact I.after hq
    | next => exact False.elim hq
    | brk => exact False.elim hq
    | cont => exact False.elim hq
def tG (G : L2.St → Prop) (t : TE) : TE := fun σ H Q => G σ ∧ t σ H Q
theorem pe_methG {pl : Sem Bool} (he : PE X o ta) (c : Cls X.K C) (hm : Meth X.K C m f) (F : FnOk X.prog X.w X.K X.mg X.base CX k f fd ps sp) (hr : Room k X.A) (hb : Binds X.K fd ps ds) (hd : Vals dvs ds) (hx : PassesG CX X G E) (ha : PA X (e :: es) t)
    (hst : starEach (e :: es) X.env = (false, eval e X.env) :: starEach es X.env := by rfl) (hpl : (backTo pos (starEach es X.env)).any (·.1) = false := by rfl)
    (ht : eval (.Call (.Attribute o m apos) (e :: es) [] pos) X.env = (do
      let ov ← eval o X.env
      standAt apos.atName
      let (f, first) ← holding [ov] (getMethod ov m pl)
      callWith pos f first (backTo pos (starEach (e :: es) X.env)) (backToKw pos (keywordEach [] X.env))) := by rfl) :
    PE X (.Call (.Attribute o m apos) (e :: es) [] pos) (tG G (tMeth C m sp dvs E ta t)) := by
  refine ⟨fun pins s σ H Q I h => ?_⟩
  obtain ⟨g, h⟩ := h
  refine PySem.W.methodCall_KW (pl := pl) (thn (he.run pins s σ H _ I h) fun u s1 ⟨x, H1, I1, rx, a, dx, fs, ex, ea, l, q⟩ => ?_) ht
  subst ex
  obtain rfl : u = Value.ref a := rx
  refine getmeth_ok I1 ea c hm l ?_
  refine PySem.W.callWith_K (first := [.ref a]) (h₀ := X.base) I.ok.mod.kin hm.kp (thn (ha.run pos pins s1 σ H1 _ I1 q) fun us s2 ⟨vs, H2, I2, r, q2⟩ => ⟨I2.kIn, ?_⟩) hst hpl
  exact run_fnG (us := .ref a :: us) (vs := .ref a :: vs) F hr hb hd hx g I2 (.cons rfl r) q2
end
section
variable {X : Cx} {CX : CXT} {F : NF} {f : Addr} {body : Expr} {ps fr : List Str} {ws : List (Option V)} {i j k : Nat} {x : Str} {sp : List (Option V) → Sp} {E : XK} {G : L2.St → Prop} {t : TA} {e : Expr} {es : List Expr} {p pos : Pos}
theorem pe_callFG (Fn : LkOk X.prog X.w X.K X.mg X.base CX k f F body ps fr sp) (C : CellsB F.cl fr ws X.base) (hr : Room j X.A) (hk : k ≤ j) (hx : PassesG CX X G E) (hN : X.N[i]? = some x) (hv : Vis X.env.scope x) (ha : PA X (e :: es) t)
    (hd : (x == ("__debug__" : Str)) = false := by decide) (hcd : (x == ("__classdict__" : Str)) = false := by decide)
    (he : starEach (e :: es) X.env = (false, eval e X.env) :: starEach es X.env := by rfl) (hpl : (backTo pos (starEach es X.env)).any (·.1) = false := by rfl) :
    PE X (.Call (.Name x p) (e :: es) [] pos) (tG G (tCallF f F body i (sp ws) E t)) := by
  refine ⟨fun pins s σ H Q I h => ?_⟩
  obtain ⟨g, hs, hf, ht⟩ := h
  refine wpAny_Call_Name_kw (thn ((pe_var (pos := p) hN hv hd hcd).run pins s σ H (fun v H1 => v = .ref f ∧ H1 = H) I ⟨.ref f, hs, rfl, rfl⟩) fun u s1 ⟨v, H1, I1, r1, q1⟩ => ?_)
  obtain ⟨ev, eH⟩ := q1
  subst ev
  rw [eH] at I1
  obtain rfl : u = Value.ref f := r1
  refine PySem.W.callWith_F (first := []) (lam_FnAt I1 hf) (thn (ha.run pos pins s1 σ H _ I1 ht) fun us s2 ⟨vs, H2, I2, r, h1, h2, q⟩ => ⟨lam_FnAt I2 h1, ?_⟩) he hpl
  show wpAny _ _ (call (.ref f) us) _ _ _
  refine wpAny_call (codeAny_mono (Fn.run X.A X.stack s2 H2 us vs ws Q E (hr.mono hk) I2.env0 h1 h2 (C.at_ I2) r q) fun r s' hq => ?_)
  cases r with
  | error e => exact hx pins σ H2 s2 e s' g I2 hq
  | ok fl =>
    cases fl with
    | ret u => exact I2.after hq
    | next => exact False.elim hq
    | brk => exact False.elim hq
    | cont => exact False.elim hq
end
end FvG

/-! function values of any kind: a lambda or a nested def, in defs whose base has its cells; calls of methods that hand one on -/
namespace FvL
open PySem PySem.Spec PyProof.Rows L2 LamX NdefX
theorem CellsB.at0 {cl : List (Str × Addr)} {fr : List Str} {ws : List (Option V)} {P : Program} {w : World} {K : PySem.W.Frag} {mg : Str → Option Value} {base : Heap} {A : Around} {outer : List Env} {s : Shared} {H : Hp} (C : CellsB cl fr ws base) (e0 : Env0 P w K mg base A outer s H) : CellsAt cl fr ws s.heap H := by
  refine ⟨C.len, fun y c e => ?_, C.inj, fun i y e => ?_⟩
  · obtain ⟨v, o, ho, hd⟩ := C.all y c e
    exact ⟨(e0.bs c o ho).2, v, o, (e0.bs c o ho).1, hd⟩
  · obtain ⟨c, hc, hv⟩ := C.has i y e
    refine ⟨c, hc, fun v ev => ?_⟩
    obtain ⟨u, r, o, ho, hd⟩ := hv v ev
    exact ⟨u, r, o, (e0.bs c o ho).1, hd⟩
section
variable {X : Cx} {pins : List (Addr × Obj)} {σ : L2.St} {H : Hp} {s : Shared} {cl : List (Str × Addr)} {fr : List Str} {ws : List (Option V)}
/-- the base may be told to have the cells -/
theorem rebase2 (I : Inv X pins σ H s) (C : CellsAt cl fr ws s.heap H) (nf : Nf cl X.stack) : ∃ base', CellsB cl fr ws base' ∧ (∀ b o, X.base.get? b = some o → base'.get? b = some o) ∧ Env0 X.prog X.w X.K X.mg base' X.A X.stack s H := by
  let p : Addr → Bool := fun b => (X.base.get? b).isSome || decide (b ∈ cl.filterMap fun q => cl.lookup q.1)
  let l : List Addr := (List.range s.heap.objs.size).filter fun b => !p b
  obtain ⟨G, eG⟩ : ∃ G, PySem.W.hideAll s.heap l = G := ⟨_, rfl⟩
  have sz : G.objs.size = s.heap.objs.size := by rw [← eG]; exact PySem.W.hideAll_size _ _
  have m1 : ∀ b, b ∈ l → p b = false := fun b hb => by
    have z := (List.mem_filter.mp hb).2
    simpa using z
  have keep : ∀ b o, p b = true → s.heap.get? b = some o → G.get? b = some o := fun b o hb e => by
    rw [← eG]
    exact PySem.W.hideAll_get l e fun hm => by rw [m1 b hm] at hb; cases hb
  have back : ∀ b o, G.get? b = some o → p b = true ∧ s.heap.get? b = some o := fun b o e => by
    rw [← eG] at e
    have z := PySem.W.of_hideAll l e
    refine ⟨?_, z⟩
    cases q : p b with
    | true => rfl
    | false =>
      rw [PySem.W.hideAll_none l (List.mem_filter.mpr ⟨List.mem_range.mpr (Heap.lt_size z), by rw [q]; rfl⟩)] at e
      cases e
  have st : ∀ b o, X.base.get? b = some o → G.get? b = some o := fun b o e => keep b o (by show ((X.base.get? b).isSome || _) = true; rw [e]; rfl) (I.bk b o e)
  have mem : ∀ {y c}, cl.lookup y = some c → c ∈ cl.filterMap fun q => cl.lookup q.1 := fun {y c} e => List.mem_filterMap.mpr ⟨(y, c), PySem.mem_of_lookup e, e⟩
  have cell : ∀ {y c v}, cl.lookup y = some c → s.heap.IsCell c v → G.IsCell c v := fun {y c v} e ⟨o, ho, hd⟩ => ⟨o, keep c o (by show (_ || decide _) = true; rw [decide_eq_true (mem e), Bool.or_true]) ho, hd⟩
  have at_ : ∀ b, p b = true → (∃ o, X.base.get? b = some o) ∨ ∃ y, cl.lookup y = some b := fun b hb => by
    rcases Bool.or_eq_true_iff.mp (show ((X.base.get? b).isSome || decide _) = true from hb) with z | z
    · exact .inl (Option.isSome_iff_exists.mp z)
    · obtain ⟨q, _, e⟩ := List.mem_filterMap.mp (of_decide_eq_true z)
      exact .inr ⟨q.1, e⟩
  have e0 := I.env0
  refine ⟨G, ⟨C.len, fun y c e => ?_, C.inj, fun i y e => ?_⟩, st, e0.frames, ?_, fun b o e => ?_, Nat.le_of_eq sz, funFrames_none e0.funs fun L hL => ?_, e0.frf, e0.hok, e0.bare⟩
  · obtain ⟨_, v, z⟩ := C.all y c e
    exact ⟨v, cell e z⟩
  · obtain ⟨c, hc, hv⟩ := C.has i y e
    refine ⟨c, hc, fun v ev => ?_⟩
    obtain ⟨u, r, z⟩ := hv v ev
    exact ⟨u, r, cell hc z⟩
  · obtain ⟨mb, hb1, hb2⟩ := I.mod.blt
    exact ⟨I.mod.kin.keeps st, I.mod.glob.keeps st, ⟨mb, hb1.keeps st, hb2⟩, I.mod.nolimit.keeps st⟩
  · obtain ⟨hp, z⟩ := back b o e
    refine ⟨z, ?_⟩
    rcases at_ b hp with ⟨o', e'⟩ | ⟨y, e'⟩
    · exact (I.bs b o' e').2
    · exact (C.all y b e').1
  · cases q : G.get? L with
    | none => rfl
    | some o =>
      rcases at_ L (back L o q).1 with ⟨o', e'⟩ | ⟨y, e'⟩
      · obtain ⟨n, _⟩ := e0.funs.mem hL
        rw [e'] at n
        cases n
      · exact absurd hL (nf y L e')
end
/-- the promise of a function value at f; J: what is known of it in the heap -/
structure FvOk (P : Program) (w : World) (K : PySem.W.Frag) (mg : Str → Option Value) (base : Heap) (CX : CXT) (k : Nat) (f : Addr) (J : Hp → Prop) (sp : Sp) : Prop where
  at_ : ∀ {H : Hp} {h : Heap}, HOk P w H h → J H → PySem.W.FnAt f h
  run : ∀ (A : Around) (outer : List Env) (s : Shared) (H : Hp) (us : List Value) (vs : List V) (Q : VK) (E : XK), Room k A → Env0 P w K mg base A outer s H → J H → Vals vs us → sp vs H Q E → codeAny (model P w) A (.call (.ref f) ⟨us, []⟩) (CR CX outer P w H s Q E) s
def JL (f : Addr) (F : NF) (body : Expr) : Hp → Prop := fun H => H f = some (LamO f F body) ∧ H F.c = some (CodeO F.c F.qual)
def JN (f : Addr) (F : NF) : Hp → Prop := fun H => H f = some (FnO f F) ∧ H F.c = some (CodeO F.c F.qual)
section
variable {P : Program} {w : World} {K : PySem.W.Frag} {mg : Str → Option Value} {base : Heap} {CX : CXT} {k : Nat} {f : Addr} {F : NF} {body : Expr} {ps fr : List Str} {ws : List (Option V)} {sp : List (Option V) → Sp}
theorem LkOk.fv (Fn : LkOk P w K mg base CX k f F body ps fr sp) (C : CellsB F.cl fr ws base) : FvOk P w K mg base CX k f (JL f F body) (sp ws) :=
  ⟨fun hok j => let ⟨_, _, ho⟩ := lamO_at hok j.1; ⟨_, _, _, _, ho⟩, fun A outer s H us vs Q E hr e0 j r q => Fn.run A outer s H us vs ws Q E hr e0 j.1 j.2 (C.at0 e0) r q⟩
theorem fv_nok (Fn : NOk P w K mg base CX k f F ps fr sp) (C : CellsB F.cl fr ws base) : FvOk P w K mg base CX k f (JN f F) (sp ws) :=
  ⟨fun hok j => let ⟨od, sl, _, _, _, ho⟩ := fnO_at hok j.1; ⟨_, od, _, sl, ho⟩, fun A outer s H us vs Q E hr e0 j r q => Fn.run A outer s H us vs ws Q E hr e0 j.1 j.2 (C.at0 e0) r q⟩
end
/-- f(..), f a name that holds the function value -/
def tCallV (f : Addr) (J : Hp → Prop) (i : Nat) (sp : Sp) (E : XK) (t : TA) : TE := fun σ H Q => σ[i]? = some (some (.ref f)) ∧ J H ∧ t σ H fun vs H1 => J H1 ∧ sp vs H1 Q E
section
variable {X : Cx} {CX : CXT} {f : Addr} {J : Hp → Prop} {i j k : Nat} {x : Str} {sp : Sp} {E : XK} {G : L2.St → Prop} {t : TA} {e : Expr} {es : List Expr} {p pos : Pos}
theorem pe_callVG (Fn : FvOk X.prog X.w X.K X.mg X.base CX k f J sp) (hr : Room j X.A) (hk : k ≤ j) (hx : FvG.PassesG CX X G E) (hN : X.N[i]? = some x) (hv : Vis X.env.scope x) (ha : PA X (e :: es) t)
    (hd : (x == ("__debug__" : Str)) = false := by decide) (hcd : (x == ("__classdict__" : Str)) = false := by decide)
    (he : starEach (e :: es) X.env = (false, eval e X.env) :: starEach es X.env := by rfl) (hpl : (backTo pos (starEach es X.env)).any (·.1) = false := by rfl) :
    PE X (.Call (.Name x p) (e :: es) [] pos) (FvG.tG G (tCallV f J i sp E t)) := by
  refine ⟨fun pins s σ H Q I h => ?_⟩
  obtain ⟨g, hs, hf, ht⟩ := h
  refine wpAny_Call_Name_kw (thn ((pe_var (pos := p) hN hv hd hcd).run pins s σ H (fun v H1 => v = .ref f ∧ H1 = H) I ⟨.ref f, hs, rfl, rfl⟩) fun u s1 ⟨v, H1, I1, r1, q1⟩ => ?_)
  obtain ⟨ev, eH⟩ := q1
  subst ev
  rw [eH] at I1
  obtain rfl : u = Value.ref f := r1
  refine PySem.W.callWith_F (first := []) (Fn.at_ I1.hok hf) (thn (ha.run pos pins s1 σ H _ I1 ht) fun us s2 ⟨vs, H2, I2, r, h1, q⟩ => ⟨Fn.at_ I2.hok h1, ?_⟩) he hpl
  show wpAny _ _ (call (.ref f) us) _ _ _
  refine wpAny_call (codeAny_mono (Fn.run X.A X.stack s2 H2 us vs Q E (hr.mono hk) I2.env0 h1 r q) fun r s' hq => ?_)
  cases r with
  | error e => exact hx pins σ H2 s2 e s' g I2 hq
  | ok fl =>
    cases fl with
    | ret u => exact I2.after hq
    | next => exact False.elim hq
    | brk => exact False.elim hq
    | cont => exact False.elim hq
end
end FvL
namespace StK
open PySem PySem.Spec PyProof.Rows L2 StX FvL
section
variable {X : Cx} {CX : CXT} {k : Nat} {f C : Addr} {kn : Str} {sp : List (Option V) → V → Sp} {E : XK} {m : Str} {pos apos : Pos} {o e : Expr} {es : List Expr} {kws : List Keyword} {ta : TE} {t tk : TA} {pl : Sem Bool} {cl : List (Str × Addr)} {fr : List Str} {js : List Nat}
/-- o, the values, the keyword's value; the promise is told of what the maker's cells hold -/
def tMethSR (C : Addr) (m : Str) (js : List Nat) (sp : List (Option V) → V → Sp) (E : XK) (ta : TE) (t tk : TA) : TE := fun σ H Q => ta σ H fun x H1 => ∃ a dx fs, x = .ref a ∧ H1 a = some (.ins C dx fs) ∧ fs.lookup m = none ∧ t σ H1 fun vs H2 => tk σ H2 fun zs H3 => ∃ kv, zs = [kv] ∧ sp (js.map (NdefX.slotAt σ)) kv (.ref a :: vs) H3 Q E
/-- o.m(e, .., k = v) in the def that made the function value: the promise holds for every base with its cells -/
theorem pe_methSR (ho : PE X o ta) (c : Cls X.K C) (hm : Meth X.K C m f) (F : ∀ (ws : List (Option V)) (base' : Heap), CellsB cl fr ws base' → (∀ b o, X.base.get? b = some o → base'.get? b = some o) → FnK X.prog X.w X.K X.mg base' CX k f kn (sp ws)) (cp : X.Ok → NdefX.Caps X cl fr js) (hfnX : ∀ y c, X.env.cells.lookup y = some c → X.fn y = true)
    (hr : Room k X.A) (hx : Passes CX X E) (ha : PA X (e :: es) t) (hkw : PK X kws tk)
    (hall : (backToKw pos (keywordEach kws X.env)).all (·.1.isSome) = true := by rfl) (hks : (backToKw pos (keywordEach kws X.env)).filterMap (·.1) = [kn] := by rfl)
    (he : starEach (e :: es) X.env = (false, eval e X.env) :: starEach es X.env := by rfl)
    (hpl : ((backTo pos (starEach (e :: es) X.env)).any (·.1) || (backToKw pos (keywordEach kws X.env)).any (·.1.isNone)) = false := by rfl)
    (hev : eval (.Call (.Attribute o m apos) (e :: es) kws pos) X.env = (do
      let recv ← eval o X.env
      standAt apos.atName
      let (fn, firstOnes) ← holding [recv] (getMethod recv m pl)
      callWith pos fn firstOnes (backTo pos (starEach (e :: es) X.env)) (backToKw pos (keywordEach kws X.env))) := by rfl) :
    PE X (.Call (.Attribute o m apos) (e :: es) kws pos) (tMethSR C m js sp E ta t tk) := by
  refine ⟨fun pins s σ H Q I h => ?_⟩
  refine PySem.W.methodCall_KW (pl := pl) (thn (ho.run pins s σ H _ I h) fun u s1 ⟨x, H1, I1, rx, a, dx, fs, ex, ea, l, q⟩ => ?_) hev
  subst ex
  obtain rfl : u = Value.ref a := rx
  refine getmeth_ok I1 ea c hm l ?_
  refine PySem.W.callWith_KW (first := [.ref a]) (h₀ := X.base) I.ok.mod.kin hm.kp hall (thn (ha.run pos pins s1 σ H1 _ I1 q) fun us s2 ⟨vs, H2, I2, r, q1⟩ => ?_) hpl he
  refine thn (hkw.run pos pins s2 σ H2 _ I2 q1) fun ws s3 ⟨zs, H3, I3, rz, q2⟩ => ⟨I3.kIn, ?_⟩
  rw [hks]
  obtain ⟨kv, ez, q3⟩ := q2
  subst ez
  obtain ⟨ku, ew, rk⟩ : ∃ ku, ws = [ku] ∧ RelV kv ku := by
    cases rz with
    | cons a t =>
      cases t
      exact ⟨_, rfl, a⟩
  subst ew
  obtain ⟨base', CB, bst, e0⟩ := rebase2 I3 (NdefX.cells_of I3 (cp I3.ok)) (nf_of I3 (cp I3.ok) hfnX)
  refine wpAny_call (codeAny_mono (F _ base' CB bst X.A X.stack s3 H3 (.ref a :: us) (.ref a :: vs) ku kv Q E hr e0 (.cons rfl r) rk q3) fun r s' hq => ?_)
  cases r with
  | error e => exact hx pins σ H3 s3 e s' I3 hq
  | ok fl =>
    cases fl with
    | ret u => exact I3.after hq
    | next => exact False.elim hq
    | brk => exact False.elim hq
    | cont => exact False.elim hq
end
end StK

/-! defs that are called where no repr is running, and repr of plain data there -/
namespace Gd
open PySem PySem.Spec PyProof.Rows L2
/-- a def's promise, for callers around whom no guard stands -/
structure FnG (P : Program) (w : World) (K : PySem.W.Frag) (mg : Str → Option Value) (base : Heap) (CX : CXT) (k : Nat) (f : Addr) (fd : FuncData) (ps : List Str) (sp : Sp) : Prop where
  len : ∀ vs H Q E, sp vs H Q E → vs.length = ps.length
  run : ∀ (A : Around) (outer : List Env) (s : Shared) (H : Hp) (args : Args) (us : List Value) (vs : List V) (Q : VK) (E : XK), A.guards = some [] → Room k A → Env0 P w K mg base A outer s H → BindsTo s fd args (ps.zip us) → Vals vs us → sp vs H Q E →
    codeAny (model P w) A (.call (.ref f) args) (CR CX outer P w H s Q E) s
section
variable {P : Program} {w : World} {K : PySem.W.Frag} {mg : Str → Option Value} {base : Heap}
/-- the rule of a def, its guards told -/
theorem okG {x qual : Str} {st : Stmt} {f : Addr} {fd : FuncData} {N ps : List Str} {k : Nat} {sp : Sp} (F : Fun K x qual st f fd) (S : FnScope N ps (defScope st)) (len : ∀ vs H Q E, sp vs H Q E → vs.length = ps.length)
    (hbody : ∀ (cdv : Value) (A : Around) (outer : List Env) (s : Shared) (H : Hp) (vs : List V) (Q : VK) (E : XK), K.lookup f ≠ none → PySem.W.codeIn K cdv qual = true → fd.code = cdv → A.guards = some [] → Room k (A.deeper (envOfC qual (defScope st) s.heap.objs.size f cdv)) → sp vs H Q E →
      ∃ t, PSs (cxOf CX0 P w K mg base N qual (defScope st) f cdv A outer s H E).nox (defBody st) t ∧ t { nx := fun _ H' => Q .non H', rt := Q } (L2.start N vs) H) : FnG P w K mg base CX0 (k + 1) f fd ps sp := by
  obtain ⟨oc, od, kV, doc, pm, an, cdv, ct, osl, rfl, lk, hcd⟩ := F.ex
  refine ⟨len, fun A outer s H args us vs Q E hg hr e0 hb r h => ?_⟩
  refine LamX.run_ofS lk hcd S hr e0 hb r (len _ _ _ _ h) fun hr2 => ?_
  obtain ⟨t, h1, q⟩ := hbody cdv A outer s H vs Q E (by rw [lk]; simp) hcd rfl hg hr2 h
  exact ⟨t, h1.nox, q⟩
end
section
variable {X : Cx} {CX : CXT} {k : Nat} {f : Addr} {fd : FuncData} {ps : List Str} {sp : Sp} {E : XK} {x : Str} {p pos : Pos} {e : Expr} {es : List Expr} {t : TA} {ds : List Value} {dvs : List V}
/-- f(e, ..) -/
theorem pe_callG (F : FnG X.prog X.w X.K X.mg X.base CX k f fd ps sp) (hgd : X.A.guards = some []) (hr : Room k X.A) (hg : Gl X x) (hm : X.mg x = some (.ref f)) (hk : PySem.W.keepIn X.K (.ref f) = true) (hb : L2.Binds X.K fd ps ds) (hd : Vals dvs ds) (hx : Passes CX X E) (ha : PA X (e :: es) t)
    (hdb : (x == ("__debug__" : Str)) = false := by decide) (he : starEach (e :: es) X.env = (false, eval e X.env) :: starEach es X.env := by rfl) (hpl : (backTo pos (starEach es X.env)).any (·.1) = false := by rfl) :
    PE X (.Call (.Name x p) (e :: es) [] pos) (tCall sp dvs E t) := by
  refine ⟨fun pins s σ H Q I h => ?_⟩
  refine wpAny_Call_Name_kw (ld_glob I hg hm ?_ hdb)
  refine PySem.W.callWith_K (h₀ := X.base) I.ok.mod.kin hk (thn (ha.run pos pins s σ H _ I h) fun us s1 ⟨vs, H1, I1, r, q⟩ => ⟨I1.kIn, ?_⟩) he hpl
  have r2 : Vals (vs ++ dvs) (us ++ ds) := r.append hd
  have hl : (us ++ ds).length = ps.length := by
    rw [← r2.length]
    exact F.len _ _ _ _ q
  refine wpAny_call (codeAny_mono (F.run X.A X.stack s1 H1 ⟨us, []⟩ (us ++ ds) (vs ++ dvs) Q E hgd hr I1.env0 (hb s1 us I1.kIn hl) r2 q) fun rr s2 hq => ?_)
  match rr, hq with
  | .error er, hq => exact hx pins σ H1 s1 er s2 I1 hq
  | .ok (.ret u), hq => exact I1.after hq
end
/-! ### plain data, all of it tracked -/
mutual
inductive Dq (H : Hp) : V → PyData → Prop
  | non : Dq H .non .none
  | bl (b : Bool) : Dq H (.bl b) (.bool b)
  | int (i : Int) : Dq H (.int i) (.int i)
  | str (x : Str) : Dq H (.str x) (.str x)
  | lst {a : Addr} {xs : List V} {ds : List PyData} : H a = some (.lst xs) → DqA H xs ds → Dq H (.ref a) (.list ds)
  | tup {a : Addr} {xs : List V} {ds : List PyData} : H a = some (.tup xs) → DqA H xs ds → Dq H (.ref a) (.tuple ds)
  | dct {a : Addr} : H a = some (.dK []) → Dq H (.ref a) (.dict [])
inductive DqA (H : Hp) : List V → List PyData → Prop
  | nil : DqA H [] []
  | cons {v : V} {vs : List V} {d : PyData} {ds : List PyData} : Dq H v d → DqA H vs ds → DqA H (v :: vs) (d :: ds)
end
section
variable {X : Cx} {pins : List (Addr × Obj)} {σ : L2.St} {H : Hp} {s : Shared}
mutual
theorem Dq.reads (I : Inv X pins σ H s) : ∀ {v : V} {d : PyData} {u : Value}, Dq H v d → RelV v u → ∃ as, Reads s.heap u d as ∧ ∀ b ∈ as, H b ≠ none
  | _, _, _, .non, r => by
    cases r
    exact ⟨_, .none, fun b h => nomatch h⟩
  | _, _, _, .bl b, r => by
    cases r
    exact ⟨_, .bool b, fun b h => nomatch h⟩
  | _, _, _, .int i, r => by
    obtain ⟨t, rfl⟩ := r
    exact ⟨_, .int i t, fun b h => nomatch h⟩
  | _, _, _, .str x, r => by
    obtain ⟨t, rfl⟩ := r
    exact ⟨_, .str x t, fun b h => nomatch h⟩
  | _, _, _, .lst (a := a) (xs := xs) ha hd, r => by
    cases r
    obtain ⟨_, its, n, rv, e⟩ := (show ObjOk X.prog X.w H s.heap a (.lst xs) from I.hok a _ ha)
    obtain ⟨as, h1, h2⟩ := DqA.reads I hd rv
    refine ⟨_, .list e rfl rfl (by simpa using h1), fun b hb => ?_⟩
    rcases List.mem_cons.mp hb with rfl | hb
    · rw [ha]; simp
    · exact h2 b hb
  | _, _, _, .tup (a := a) (xs := xs) ha hd, r => by
    cases r
    obtain ⟨_, its, rv, o, e, c, n, hn⟩ := (show ObjOk X.prog X.w H s.heap a (.tup xs) from I.hok a _ ha)
    obtain ⟨as, h1, h2⟩ := DqA.reads I hd rv
    exact ⟨_, .tuple e c hn (by simpa using h1), h2⟩
  | _, _, _, .dct (a := a) ha, r => by
    cases r
    obtain ⟨_, _, vs, kv, o, es, ep, e, hx, hdt, _, hes, _⟩ := (show ObjOk X.prog X.w H s.heap a (.dK []) from I.hok a _ ha)
    cases kv
    have e0 : es.toList = [] := by
      generalize es.toList = zs at hes
      cases hes
      rfl
    refine ⟨_, .dict (kvs := []) e hx.1 hdt (by rw [e0]; exact .nil) (by rw [e0]; exact .nil), fun b hb => ?_⟩
    have : b = a := by simpa using hb
    rw [this, ha]; simp
theorem DqA.reads (I : Inv X pins σ H s) : ∀ {vs : List V} {ds : List PyData} {us : List Value}, DqA H vs ds → Vals vs us → ∃ as, ReadsAll s.heap us ds as ∧ ∀ b ∈ as, H b ≠ none
  | _, _, _, .nil, r => by
    cases r
    exact ⟨_, .nil, fun b h => nomatch h⟩
  | _, _, _, .cons hd ht, .cons r rt => by
    obtain ⟨as, h1, h2⟩ := Dq.reads I hd r
    obtain ⟨bs, h3, h4⟩ := DqA.reads I ht rt
    exact ⟨_, .cons h1 h3, fun b hb => (List.mem_append.mp hb).elim (h2 b) (h4 b)⟩
end
end
mutual
theorem Dq.same {H H' : Hp} (s : Same H H') : ∀ {v : V} {d : PyData}, Dq H v d → Dq H' v d
  | _, _, .non => .non
  | _, _, .bl b => .bl b
  | _, _, .int i => .int i
  | _, _, .str x => .str x
  | _, _, .lst ha hd => .lst (s _ _ ha) (DqA.same s hd)
  | _, _, .tup ha hd => .tup (s _ _ ha) (DqA.same s hd)
  | _, _, .dct ha => .dct (s _ _ ha)
theorem DqA.same {H H' : Hp} (s : Same H H') : ∀ {vs : List V} {ds : List PyData}, DqA H vs ds → DqA H' vs ds
  | _, _, .nil => .nil
  | _, _, .cons a b => .cons (Dq.same s a) (DqA.same s b)
end
/-- repr of a list, a tuple or an empty dict of such data -/
def rReprD : List V → Hp → VK → Prop := fun xs H Q => ∃ (a : Addr) (d : PyData), xs = [.ref a] ∧ Dq H (.ref a) d ∧ d.showable = true ∧ d.depth ≤ 64 ∧ d.shown.length ≤ sizeLine ∧ Q (.str d.shown) H
theorem call_reprD {X : Cx} {k : Nat} {ob : Obj} (hg : X.A.guards = some []) (hr : Room k X.A) (sm : X.base.get? sysModules = some ob) : CallR X (.builtin "repr") rReprD := by
  intro pins s σ H xs us Q I r h
  obtain ⟨a, d, rfl, hd, hs, hdep, hz, q⟩ := h
  obtain ⟨u, rfl, ru⟩ := vals1 r
  cases (show u = Value.ref a from ru)
  obtain ⟨as, h1, h2⟩ := hd.reads I (u := .ref a) rfl
  have no : sysModules ∉ as := fun hm => h2 _ hm (I.env0.bs _ _ sm).2
  have hu := hr.un
  refine repr_of_reads' h1 hs (fun _ => no) hg (by omega) (fun _ _ e => e) (fun h' u tk hk => ?_) hz
  exact ⟨.str d.shown, H, I.kept (t' := tk) hk, ⟨_, rfl⟩, q⟩
/-! ### the end of a law, from such a promise -/
/-- at the law's call: the tables, and the script unless the module itself holds it -/
def H0 (K : PySem.W.Frag) (tabs : List Addr) (a : Addr) (u : HO) : Hp := fun b => if b ∈ tabs then some (.tbl #[]) else if b = a ∧ K.lookup a = none then some u else none
theorem H0_tab {K : PySem.W.Frag} {tabs : List Addr} {a b : Addr} {u : HO} (h : b ∈ tabs) : H0 K tabs a u b = some (.tbl #[]) := if_pos h
theorem H0_cases {K : PySem.W.Frag} {tabs : List Addr} {a b : Addr} {u o : HO} (h : H0 K tabs a u b = some o) : (b ∈ tabs ∧ o = .tbl #[]) ∨ (b ∉ tabs ∧ b = a ∧ K.lookup a = none ∧ o = u) := by
  unfold H0 at h
  split at h
  next hb => exact .inl ⟨hb, (Option.some.inj h).symm⟩
  next hb =>
    split at h
    next hc => exact .inr ⟨hb, hc.1, hc.2, (Option.some.inj h).symm⟩
    next => cases h
theorem law_callG {P : Program} {w : World} {K : PySem.W.Frag} {mg mb : Str → Option Value} {k : Nat} {fa a : Addr} {cs : List (Addr × Addr)} {fd : FuncData} {x : Str} {sp : Sp} {st : Shared} {vs : List Value} {ns : List Int}
    (KX : K.In st.heap) (gNs : st.heap.Ns mainGlobals mg) (bNs : st.heap.Ns builtinsNs mb) (bEq : ∀ x : Str, x ≠ "__name__" → mb x = bootBuiltins x) (lim : st.heap.NoLimit) (noG : st.gens = #[])
    (isT : ∀ p ∈ cs, st.heap.get? p.2 = some { cls := .none, data := .fields #[] }) (nK : ∀ p ∈ cs, K.lookup p.2 = none) (isC : ∀ p ∈ cs, PySem.W.CodeHd st.heap p.1 p.2)
    (bMain : ∃ (bm : Addr) (ob : Obj), mg "__builtins__" = some (.ref bm) ∧ bm ≠ builtinsNs ∧ st.heap.get? bm = some ob ∧ ob.cls = .type "module" ∧ ob.dict = some builtinsNs ∧ ob.data = .plain)
    (scr : st.heap.get? a = some { cls := .type "list", data := .seq vs.toArray }) (intsA : IntsAre vs ns) (few : ns.length ≤ sizeLine) (room : Room k callerA)
    (mods : ∃ mm, st.heap.Ns sysModules mm)
    (F : ∀ base : Heap, K.In base → base.Ns mainGlobals mg → (∃ ob, base.get? sysModules = some ob) → (∀ p ∈ cs, LamX.TabB base mg p.1 p.2) → FnG P w K mg base CX0 k fa fd [x] sp) (bind : ∀ (s : Shared) (u : Value), BindsTo s fd ⟨[u], []⟩ [(x, u)])
    (hsp : ∀ H : Hp, (∀ p ∈ cs, H p.2 = some (.tbl #[])) → SqL K H a (ns.map V.int) → sp [.ref a] H (fun v _ => v = .bl true) fun _ _ _ => False) :
    codeAny (model P w) callerA (.call (.ref fa) ⟨[.ref a], []⟩) (fun r s2 => r = .ok (.ret (.bool true)) ∧ OldK st.heap s2.heap ∧ s2.os = st.os ∧ AllBare s2.gens) st := by
  have vals := vals_ints intsA
  have tabAt : ∀ b ∈ cs.map (·.2), st.heap.get? b = some { cls := .none, data := .fields #[] } := fun b hb => by
    obtain ⟨p, hp, rfl⟩ := List.mem_map.mp hb
    exact isT p hp
  generalize hu : (HO.frz { cls := .type "list", data := .seq vs.toArray } (.lst (ns.map V.int))) = u
  generalize hH : H0 K (cs.map (·.2)) a u = H
  have tabH : ∀ p ∈ cs, H p.2 = some (.tbl #[]) := fun p hp => by
    rw [← hH]
    exact H0_tab (List.mem_map.mpr ⟨p, hp, rfl⟩)
  have what : ∀ b o, H b = some o → (b ∈ cs.map (·.2) ∧ o = .tbl #[]) ∨ (b ∉ cs.map (·.2) ∧ b = a ∧ K.lookup a = none ∧ o = u) := fun b o e => by
    rw [← hH] at e
    exact H0_cases e
  have held : HOk P w H st.heap := fun b o e => by
    rcases what b o e with ⟨h1, rfl⟩ | ⟨_, rfl, _, rfl⟩
    · exact tabAt b h1
    · rw [← hu]
      exact ⟨scr, by rw [List.length_map]; exact few, vs, _, vals, scr⟩
  have seen : SqL K H a (ns.map V.int) := by
    cases hk : K.lookup a with
    | some o =>
      have e := KX a o hk
      rw [scr] at e
      cases e
      exact .inr ⟨_, vs.toArray, _, hk, rfl, rfl, rfl, by rw [List.size_toArray, intsA.length]; exact few, by simpa using vals⟩
    | none =>
      refine .inl (.inr ⟨{ cls := .type "list", data := .seq vs.toArray }, ?_⟩)
      have nt : a ∉ cs.map (·.2) := fun z => by
        have q := tabAt a z
        rw [scr] at q
        cases congrArg Obj.data (Option.some.inj q)
      rw [← hH, ← hu]
      exact (if_neg nt).trans (if_pos ⟨rfl, hk⟩)
  -- what is neither a list nor an empty table is not tracked
  have untracked : ∀ {b : Addr} {o : Obj}, st.heap.get? b = some o → (∀ us m, o.data ≠ .seq us m) → o.data ≠ .fields #[] → H b = none := fun {b o} e h1 h2 => by
    cases q : H b with
    | none => rfl
    | some z =>
      rcases what b z q with ⟨hb, _⟩ | ⟨_, rfl, _⟩
      · rw [tabAt b hb] at e
        exact absurd (congrArg Obj.data (Option.some.inj e)).symm h2
      · rw [scr] at e
        exact absurd (congrArg Obj.data (Option.some.inj e)).symm (h1 _ _)
  have stays : ∀ {b : Addr} {o : Obj}, st.heap.get? b = some o → (∀ us m, o.data ≠ .seq us m) → o.data ≠ .fields #[] → (hidT st.heap H).get? b = some o := fun e h1 h2 => hidT_get e (untracked e h1 h2)
  have names : ∀ {b : Addr} {m : Str → Option Value}, st.heap.Ns b m → (hidT st.heap H).Ns b m := fun ⟨o, es, ep, e, dt, r⟩ =>
    ⟨o, es, ep, stays e (fun _ _ z => by rw [dt] at z; cases z) (fun z => by rw [dt] at z; cases z), dt, r⟩
  have inB : K.In (hidT st.heap H) := fun b o e => hidT_get (KX b o e) (by
    cases q : H b with
    | none => rfl
    | some z =>
      rcases what b z q with ⟨hb, _⟩ | ⟨_, rfl, hn, _⟩
      · obtain ⟨p, hp, rfl⟩ := List.mem_map.mp hb
        rw [nK p hp] at e
        cases e
      · rw [hn] at e
        cases e)
  obtain ⟨mc, lim1, lim2⟩ := lim
  have modu : L2.Mod K mg (hidT st.heap H) := ⟨inB, names gNs, ⟨mb, names bNs, bEq⟩, ⟨mc, names lim1, lim2⟩⟩
  have tabB : ∀ p ∈ cs, LamX.TabB (hidT st.heap H) mg p.1 p.2 := fun p hp => by
    have atP := isT p hp
    refine { code := ?_, bm := ?_, gP := fun z => ?_ }
    · obtain ⟨o, us, file, tf, flags, tg, inF, text, tt, e1, r1, r2, r3, r4⟩ := isC p hp
      exact ⟨o, us, file, tf, flags, tg, inF, text, tt, stays e1 (fun _ _ z => by rw [r2] at z; cases z) (fun z => by rw [r2] at z; cases z; simp at r3), r1, r2, r3, r4⟩
    · obtain ⟨bm, ob, b1, b2, b3, b4, b5, b6⟩ := bMain
      refine ⟨bm, ob, b1, b2, fun z => ?_, fun z => ?_, stays b3 (fun _ _ z => by rw [b6] at z; cases z) (fun z => by rw [b6] at z; cases z), b4, b5, b6⟩
      · obtain ⟨o, es, ep, e, dt, _⟩ := gNs
        rw [z, e] at b3
        cases b3
        rw [dt] at b6
        cases b6
      · rw [z, atP] at b3
        cases b3
        cases b6
    · obtain ⟨o, es, ep, e, dt, _⟩ := gNs
      rw [z, atP] at e
      cases e
      cases dt
  have env : Env0 P w K mg (hidT st.heap H) callerA [] st H := ⟨rfl, modu, fun b o e => of_hidT e, Nat.le_of_eq (hidT_size _ _), trivial, (fun b hb => absurd (show b ∈ ([] : List Addr) from hb) (by simp)), held, .of_eq noG⟩
  have hm : ∃ ob, (hidT st.heap H).get? sysModules = some ob := by
    obtain ⟨mm, hm⟩ := mods
    obtain ⟨o, es, ep, e, _⟩ := names hm
    exact ⟨o, e⟩
  refine codeAny_mono ((F _ inB (names gNs) hm tabB).run callerA [] st H ⟨[.ref a], []⟩ [.ref a] [.ref a] _ _ rfl room env (bind st (.ref a)) (.cons rfl .nil) (hsp H tabH seen)) fun r s2 h => ?_
  match r, h with
  | .error e, h => exact (show False from h).elim
  | .ok (.ret z), h =>
    obtain ⟨v, H2, os2, bare, un, held2, rz, q⟩ := h
    cases (show v = .bl true from q)
    cases (show z = Value.bool true from rz)
    have kept : ∀ b o, b ∉ cs.map (·.2) → st.heap.get? b = some o → s2.heap.get? b = some o := fun b o nb e => by
      cases q : H b with
      | none => exact un.keep b o e q (fun z => absurd (show b ∈ ([] : List Addr) from z) (by simp)) (by simp)
      | some y =>
        rcases what b y q with ⟨hb, _⟩ | ⟨_, rfl, _, rfl⟩
        · exact absurd hb nb
        · rw [← hu] at q
          have e1 := (held2 _ _ (un.frzs _ _ _ q)).1
          rw [scr] at e
          cases e
          exact e1
    have grew : ∀ p ∈ cs, ∃ more : Array Value, s2.heap.get? p.2 = some { cls := .none, data := .fields more } := fun p hp => by
      obtain ⟨more, z⟩ := un.tbls p.2 #[] (tabH p hp)
      exact ⟨_, held2 p.2 _ z⟩
    refine ⟨rfl, ⟨fun b o e => ?_, fun b o e => ?_⟩, os2, bare⟩
    · by_cases hb : b ∈ cs.map (·.2)
      · obtain ⟨p, hp, rfl⟩ := List.mem_map.mp hb
        obtain ⟨more, hm⟩ := grew p hp
        rw [isT p hp] at e
        cases e
        exact .inr (.inl ⟨((isC p hp).tab (isT p hp)).isCodeTable, rfl, #[], more, rfl, by rw [Array.empty_append]; exact hm⟩)
      · exact .inl (kept b o hb e)
    · by_cases hb : b ∈ cs.map (·.2)
      · obtain ⟨p, hp, rfl⟩ := List.mem_map.mp hb
        obtain ⟨more, hm⟩ := grew p hp
        exact ⟨_, hm⟩
      · exact ⟨o, kept b o hb e⟩
/-- what the law's def promises where the head has ended -/
def LawG (l : PySem.W.OpenLaw) (w : World) (K : PySem.W.Frag) (k n : Nat) (x : Str) (mg : Str → Option Value) (fa : Addr) (h : Heap) : Prop :=
  ∃ (fd : FuncData) (cs : List (Addr × Addr)) (sp : Sp), (∀ p ∈ cs, h.get? p.2 = some { cls := .none, data := .fields #[] }) ∧ (∀ p ∈ cs, K.lookup p.2 = none) ∧ (∀ p ∈ cs, PySem.W.CodeHd h p.1 p.2) ∧ (∀ (s : Shared) (u : Value), BindsTo s fd ⟨[u], []⟩ [(x, u)]) ∧
    (∀ (H : Hp) (a : Addr) (ns : List Int), ns.length ≤ n → (∀ p ∈ cs, H p.2 = some (.tbl #[])) → SqL K H a (ns.map V.int) → sp [.ref a] H (fun v _ => v = .bl true) fun _ _ _ => False) ∧
    ∀ base : Heap, K.In base → base.Ns mainGlobals mg → (∃ ob, base.get? sysModules = some ob) → (∀ p ∈ cs, LamX.TabB base mg p.1 p.2) → FnG l.prog w K mg base CX0 k fa fd [x] sp
theorem walk_ofG {l : PySem.W.OpenLaw} {n k : Nat} {q : Program} {loose : List Str} {XP : (Str → Option Value) → Heap → Prop} {YP : World → Heap → Prop} {d : DefRec} {K : Params → PySem.W.Frag} {x : Str}
    (hn : l.most = some n) (hn2 : n ≤ sizeLine) (hdf : d.params.defaults = []) (hi : importsNone q = true) (hr : Room k callerA) (hY : ∀ (w : World) (h : Heap), YP w h → (K w.params).In h)
    (F : ∀ (w : World) (mg : Str → Option Value) (fa : Addr) (h : Heap), YP w h → (K w.params).In h → h.Ns mainGlobals mg → mg d.name = some (.ref fa) → LawG l w (K w.params) k n x mg fa h) :
    PySem.W.WalkO q loose XP YP l.row.toRowW d [] (fun f vs => PySem.call f vs) := by
  refine Att.attach_call hn hdf fun w t0 t1 mg mb fa o pm cd doc a vs ns gr y1 ho hd hcd hmg hobj hints hlen hgen => ?_
  obtain ⟨fd, cs, sp, c1, c2, c3, c4, c5, c6⟩ := F w mg fa _ y1 (hY w _ y1) gr.T.g hmg
  exact law_callG (hY w _ y1) gr.T.g gr.T.b gr.T.builtins gr.T.nolimit hgen c1 c2 c3 gr.T.bmain hobj hints (Nat.le_trans hlen hn2) hr (let ⟨mm, hm, _⟩ := (gr.T.seer hi).mods; ⟨mm, hm⟩) c6 c4 fun H tabs sq => c5 H a ns hlen tabs sq
end Gd

/-! what a law's _law_came asks of the classes that it catches -/
namespace CmH
open PySem L2 IsX
theorem ss_imp {X : Cx} {ss : List Stmt} {t t' : L2.TS} (h : PSs X ss t) (f : ∀ D σ H, t' D σ H → t D σ H) : PSs X ss t' := ⟨fun pins s σ H D I q => h.run pins s σ H D I (f _ _ _ q)⟩
/-- an error with a field; CB its own base, bt Python's -/
structure HF (K : PySem.W.Frag) (fld : Str) (bt : String) (C CB : Addr) : Prop where
  x : XiC K C
  n : PySem.W.findIn K (.ref C) fld = some none
  k1 : PySem.W.kitOne K (.ref C) (.ref CB) = some true
  k2 : PySem.W.kitOne K (.ref C) (.type bt) = some true
/-- an error without fields -/
structure HN (K : PySem.W.Frag) (bt : String) (C CB : Addr) : Prop where
  x : ExcC K C
  k1 : PySem.W.kitOne K (.ref C) (.ref CB) = some true
  k2 : PySem.W.kitOne K (.ref C) (.type bt) = some true
def tRowF (D : Addr) (nm fld : Str) (a : Addr) (cls : Value) (d : Option Addr) : L2.TS := fun Z σ H => cls = .ref D ∧ ∃ (dd : Addr) (v : V), d = some dd ∧ H dd = some (.xd [(fld, v)]) ∧ σ[2]? = some (some (.ref a)) ∧ ∀ p, H p = none → Z.rt (.ref p) (upd H p (.lst [.str nm, v, .bl true]))
def tRowN (D : Addr) (nm : Str) (a : Addr) (cls : Value) (d : Option Addr) : L2.TS := fun Z σ H => cls = .ref D ∧ d = none ∧ σ[2]? = some (some (.ref a)) ∧ ∀ p, H p = none → Z.rt (.ref p) (upd H p (.lst [.str nm, .bl true]))
def tGiv : L2.TS := fun D σ H => ∃ u : V, σ[1]? = some (some u) ∧ ∀ p, H p = none → D.rt (.ref p) (upd H p (.lst [.str "given", u]))
end CmH

/-! feed_all -/
namespace My
open PySem L2 Cm LM EM StX FvL NdefX
/-- what the deeds come to, one after the other -/
def FaRun {K : PySem.W.Frag} {mg : Str → Option Value} (T : TxFa K mg) (lv dx lo : Addr) (sz : Nat) (t : Str) (W : Nat → Hp → (Hp → Prop) → Prop) (done : Hp → Addr → List (Nat × Bool) → Prop) (E : XK) : List (V × V) → Nat → List (Nat × Bool) → Hp → Addr → Prop
  | [], _, rr, H, m => ∀ H1, Same H H1 → done H1 m rr
  | (c, b) :: cs, i, rr, H, m => ∀ H1, Same H H1 → (TypedI K H1 c ∧ TypedI K H1 b ∧ rr.length ≤ 100 ∧ BadR T.E sz t rr c b H1 E) ∨
     ∃ (n : Nat) (said : Bool), c = .int n ∧ b = .bl said ∧ goodText t = true ∧ 1 ≤ sz ∧ sz ≤ 1000 ∧ n ≤ sz ∧ rr.length < 100 ∧ OkR sz (ordsR t) (ordsE t) rr ∧ (∀ r ∈ rr, r.1 ≤ sz) ∧ (stR sz (ordsR t) (ordsE t) rr).st = false ∧
       ∀ (H' : Hp) (m' : Addr), Off lv H1 H' → RdAtB T.E.R H' lv dx lo m' sz t ((n, said) :: rr) → W i H' fun H2 => (∀ p xs, H' p = some (.tup xs) → H2 p = some (.tup xs)) ∧ RdAtB T.E.R H2 lv dx lo m' sz t ((n, said) :: rr) ∧ FaRun T lv dx lo sz t W done E cs (i + 1) ((n, said) :: rr) H2 m'
/-- the deeds as they stand -/
inductive DsAt (H : Hp) : List V → List (V × V) → Prop
  | nil : DsAt H [] []
  | cons {q : Addr} {c b : V} {vs : List V} {cs : List (V × V)} (h : H q = some (.tup [.str "feed", c, b])) (t : DsAt H vs cs) : DsAt H (.ref q :: vs) ((c, b) :: cs)
theorem DsAt.len {H : Hp} : ∀ {vs cs}, DsAt H vs cs → vs.length = cs.length
  | _, _, .nil => rfl
  | _, _, .cons _ t => congrArg (· + 1) t.len
theorem DsAt.mono {H H' : Hp} (f : ∀ p xs, H p = some (.tup xs) → H' p = some (.tup xs)) : ∀ {vs cs}, DsAt H vs cs → DsAt H' vs cs
  | _, _, .nil => .nil
  | _, _, .cons h t => .cons (f _ _ h) (t.mono f)
theorem DsAt.get {H : Hp} : ∀ {vs cs} {i : Nat} {x : V}, DsAt H vs cs → vs[i]? = some x → ∃ q c b, x = .ref q ∧ cs[i]? = some (c, b) ∧ H q = some (.tup [.str "feed", c, b])
  | _, _, i, x, .nil, h => by simp at h
  | _, _, 0, x, .cons h _, e => ⟨_, _, _, (Option.some.inj e).symm, rfl, h⟩
  | _, _, i + 1, x, .cons _ t, e => t.get (i := i) e
theorem drop_get {α : Type} {l : List α} {i : Nat} {x : α} (h : l[i]? = some x) : l.drop i = x :: l.drop (i + 1) := by
  obtain ⟨hl, e⟩ := List.getElem?_eq_some_iff.mp h
  rw [← e]
  exact List.drop_eq_getElem_cons hl
section
variable {P : Program} {w : World} {K : PySem.W.Frag} {mg : Str → Option Value} {base : Heap}
theorem pss_deadF {X : Cx} {ss : List Stmt} : PSs X ss (fun _ _ _ => False) := ⟨fun _ _ _ _ _ _ z => z.elim⟩
theorem rf_pb {lo m : Addr} {sz : Nat} {bs bs' : Bool} : putF "busy" (.bl bs') (rf lo sz bs m) = rf lo sz bs' m := by kernel_rfl
theorem rf_n6 {lo m : Addr} {sz : Nat} {bs : Bool} : (rf lo sz bs m).lookup ("feed_all" : Str) = none := by kernel_rfl
/-- the reading of the finally suite -/
def tSu (T : TxFa K mg) : L2.TS := fun D σ H => ∃ (lv dx lo m : Addr) (sz : Nat) (back : V), σ[0]? = some (some (.ref lv)) ∧ σ[3]? = some (some back) ∧ H lv = some (.ins T.E.R.CR dx (rf lo sz true m)) ∧
  ((back = .non ∧ D.nx σ (upd H lv (.ins T.E.R.CR dx (rf lo sz false m)))) ∨ ∃ m0, back = .ref m0 ∧ D.nx σ (upd H lv (.ins T.E.R.CR dx (rf lo sz false m0))))
/-- the frame's names that the finally suite reads -/
def Gd (lv m0 : Addr) (σ : L2.St) : Prop := σ[0]? = some (some (.ref lv)) ∧ σ[3]? = some (some (.ref m0))
theorem ds_deeds {H : Hp} : ∀ {vs cs}, DsAt H vs cs → DeedVs K H vs (vs.map fun _ => true)
  | _, _, .nil => .nil
  | _, _, .cons h t => .cons (.deed h) (ds_deeds t)
theorem busy_at {T : TxRd K mg} {H Hb : Hp} {lv dx lo m : Addr} {sz : Nat} {t : Str} {rr : List (Nat × Bool)} (h : RdAt T H lv dx lo m sz t rr) (f : ∀ (p : Addr) (xs : List V), H p = some (.tup xs) → Hb p = some (.tup xs)) (ob : ∀ b o, b ≠ lv → H b = some o → Hb b = some o) (at_ : Hb lv = some (.ins T.CR dx (rf lo sz true m))) : RdAtB T Hb lv dx lo m sz t rr := by
  obtain ⟨dx1, pr, pe, po, pq, e1, e2, e3, e4, e5⟩ := h.lo
  exact ⟨at_, ⟨dx1, pr, pe, po, pq, ob _ _ (fun z => rf_ne_lf (by rw [z, h.at_] at e1; exact Option.some.inj e1)) e1, f _ _ e2, f _ _ e3, e4.mono f, e5.mono f⟩, h.mo.mono f fun p dm b g hh k ov e => ob _ _ (fun z => rf_ne_mf (by rw [z, h.at_] at e; exact Option.some.inj e)) e⟩

/-- what holds before the deeds are fed; the errors' promise is of the reading set back -/
def spFA (T : TxFa K mg) (WW : Addr → XK → Nat → Hp → (Hp → Prop) → Prop) (kv0 : V) : V → Sp := fun kv vs H Q E => kv = kv0 ∧ ∃ (lv dx lo m0 p : Addr) (sz : Nat) (t : Str) (rr : List (Nat × Bool)) (ds : List V), vs = [.ref lv, .ref p] ∧ RdAt T.E.R H lv dx lo m0 sz t rr ∧ H p = some (.tup ds) ∧ ds.length ≤ 100 ∧
  ((∃ (bs : List Bool) (i : Nat), DeedVs K H ds bs ∧ firstF bs i ∧ ∀ (H' : Hp) (d : Addr), Same H H' → H' d = none → E (.ref T.eD.C) (some d) (upd H' d (.xd [("index", .int (i : Nat))]))) ∨
   ∃ cs, DsAt H ds cs ∧ ∀ H' : Hp, (∀ b o, b ≠ lv → H b = some o → H' b = some o) → H' lv = some (.ins T.E.R.CR dx (rf lo sz true m0)) →
     ∃ E1 : XK, (∀ cls d H2, E1 cls d H2 → ∃ m1, H2 lv = some (.ins T.E.R.CR dx (rf lo sz true m1)) ∧ E cls d (upd H2 lv (.ins T.E.R.CR dx (rf lo sz false m0)))) ∧
       FaRun T lv dx lo sz t (WW lv E1) (fun H2 m2 _ => Q .non (upd H2 lv (.ins T.E.R.CR dx (rf lo sz false m2)))) E1 cs 0 rr H' m0)

theorem ok_faV (T : TxFa K mg) {f : Addr} {Jf : Hp → Prop} {wsp : Sp} {kw : Nat} (hkw : kw ≤ 15) (Fn : FvOk P w K mg base (L2.CX P w) kw f Jf wsp) (mono : ∀ (vs : List V) (H : Hp) (Q Q1 : VK) (E1 : XK), (∀ v H2, Q v H2 → Q1 v H2) → wsp vs H Q E1 → wsp vs H Q1 E1) : StK.FnK P w K mg base (L2.CX P w) 16 T.fA "watch" (fun kv vs H Q E => ∃ ws' rest, vs = ws' ++ rest ∧ ws'.length = ["self"].length ∧ rest.length ≤ sizeLine ∧ ∀ p, H p = Option.none → spFA T (fun lv E1 i H' cont => Jf H' ∧ wsp [.ref lv, .int (i : Nat)] H' (fun _ H2 => cont H2) E1) (.ref f) kv (ws' ++ [V.ref p]) (upd H p (.tup rest)) Q E) := by
  have GC : FnOk P w K mg base CX0 1 T.E.R.cf.f T.E.R.cf.fd ["self"] (spRdCf T.E.R) := ok_rdcf T.E.R
  have GD : FnOk P w K mg base (L2.CX P w) 3 T.ckd.f T.ckd.fd ["deeds"] (spCkD T) := ok_ckd T
  have GT : FnOk P w K mg base (L2.CX P w) 5 T.E.R.ta.f T.E.R.ta.fd ["self", "count", "told"] (fun vs H Q E => spRdTB T.E.R vs H Q E ∨ spRdCeB T.E vs H Q E) := fn_or (ok_rdtB T.E.R) (ok_rdteB T.E)
  obtain ⟨oc, od, D, doc, pm, an, cdv, ct, osl, lk, hcd, hkd⟩ := T.FA
  refine StK.fn_starK (ps := ["self"]) (pv := "deeds") (kn := "watch") (k := 15) (sp := spFA T (fun lv E1 i H' cont => Jf H' ∧ wsp [.ref lv, .int (i : Nat)] H' (fun _ H2 => cont H2) E1) (.ref f)) lk hcd scFA cxUp bindFA fun A outer s H vs kv0 p Q E hr h hl => ?_
  obtain ⟨ekv, lv, dx, lo, m0, pp, sz, t, rr, ds, ev, hR, hp, hl2, h⟩ := h
  subst ekv
  obtain ⟨rfl, rfl⟩ : vs = [.ref lv] ∧ p = pp := by
    match vs, hl, ev with
    | [a], _, ev => cases ev; exact ⟨rfl, rfl⟩
  have hr1 : Room 1 _ := hr.mono (by decide)
  have hr3 : Room 3 _ := hr.mono (by decide)
  have hr5 : Room 5 _ := hr.mono (by decide)
  refine ⟨_, pss_cons (ps_expr (pe_meth0 (pv 0) T.E.R.clR T.E.R.cf.m GC hr1 T.E.R.cf.b .nil pass0))
    (pss_cons (ps_expr (pe_call (E := E) GD hr3 rfl T.ckd.g T.ckd.k T.ckd.b .nil (passes_call (takes_of rfl rfl rfl rfl) fun _ _ _ _ z => z) (pa_cons (pv 2) pa_nil)))
    (pss_cons (ps_set (i := 3) scFA.nd rfl (.inl rfl) (pe_fld (pv 0) rfl))
    (pss_cons (ps_fld (pv 0) pe_bl rfl)
    (pss_one (FvF.ps_finX (X := cxOf (L2.CX P w) P w K mg base NFA "Reading.feed_all" (defScope sFA) T.fA cdv A outer s H E) (tb := fun W D σ H => ∃ (Ech : XK) (cs : List (V × V)) (done : Hp → Addr → List (Nat × Bool) → Prop), (∀ H2 m2 rr2, done H2 m2 rr2 → H2 lv = some (.ins T.E.R.CR dx (rf lo sz true m2)) → ∀ v4 v5, D.nx [some (.ref lv), some (.ref f), some (.ref p), some .non, v4, v5] H2) ∧ (∀ cls d σ' H', Gd lv m0 σ' → Ech cls d H' → W cls d σ' H') ∧ σ = [some (.ref lv), some (.ref f), some (.ref p), some (.ref m0), none, none] ∧ H p = some (.tup ds) ∧ DsAt H ds cs ∧ RdAtB T.E.R H lv dx lo m0 sz t rr ∧
        FaRun T lv dx lo sz t ((fun lv E1 i H' cont => Jf H' ∧ wsp [.ref lv, .int (i : Nat)] H' (fun _ H2 => cont H2) E1) lv Ech) done Ech cs 0 rr H m0)
      rfl rfl rfl (takes_of rfl rfl rfl rfl) (fun W pn xe tk po => ⟨fun pins s2 σ H2 D I ⟨Ech, cs, done, hdone, hW, hσ, hp2, hD2, hR2, hF2⟩ => ?_⟩) (CmH.ss_imp (t' := tSu T) (pss_cons (ps_fld (pv 0) pe_bl rfl) (pss_one (ps_if (pt_cmpR op_notN (pv 3) pe_non (nomark _)) (pss_one (ps_fld (pv 0) (pv 3) rfl)) pss_nil))) (fun D σ H ⟨lv, dx, lo, m, sz, back, h0, h3, h1, hb⟩ => by
        refine ⟨_, h0, lv, T.E.R.CR, dx, _, rfl, h1, T.E.R.clR, T.E.R.nRb, (by show 4 < 1000; decide), ?_⟩
        rw [rf_pb]
        rcases hb with ⟨rfl, k⟩ | ⟨m1, rfl, k⟩
        · exact ⟨_, h3, rfl, _, rfl, iteF k⟩
        · refine ⟨_, h3, rfl, _, rfl, iteT ⟨_, h3, _, h0, lv, T.E.R.CR, dx, _, rfl, upd_same, T.E.R.clR, T.E.R.nRm, (by show 4 < 1000; decide), ?_⟩⟩
          rw [rf_pm, L2.upd_upd]
          exact k)) (fun a pn => CmH.ss_imp (t' := tSu T) (pss_cons (ps_fld (pv 0) pe_bl rfl) (pss_one (ps_if (pt_cmpR op_notN (pv 3) pe_non (nomark _)) (pss_one (ps_fld (pv 0) (pv 3) rfl)) pss_nil))) (fun D σ H ⟨lv, dx, lo, m, sz, back, h0, h3, h1, hb⟩ => by
        refine ⟨_, h0, lv, T.E.R.CR, dx, _, rfl, h1, T.E.R.clR, T.E.R.nRb, (by show 4 < 1000; decide), ?_⟩
        rw [rf_pb]
        rcases hb with ⟨rfl, k⟩ | ⟨m1, rfl, k⟩
        · exact ⟨_, h3, rfl, _, rfl, iteF k⟩
        · refine ⟨_, h3, rfl, _, rfl, iteT ⟨_, h3, _, h0, lv, T.E.R.CR, dx, _, rfl, upd_same, T.E.R.clR, T.E.R.nRm, (by show 4 < 1000; decide), ?_⟩⟩
          rw [rf_pm, L2.upd_upd]
          exact k))))))), ?_⟩
  · refine' PSs.run (?h : PSs _ _ _) pins s2 σ H2 D I ?r
    case h => exact (pss_cons (ps_for po rfl (ETup.pi_enumT (by rfl) T.enum (pa_cons (pv 2) pa_nil)) (pg_tup rfl (pgs_cons (pg_name (i := 4) scFA.nd rfl (.inl rfl)) (pgs_cons (pg_name (i := 5) scFA.nd rfl (.inl rfl)) pgs_nil)))
        (pss_cons (ps_expr (FvG.pe_methG (E := Ech) (G := Gd lv m0) (pv 0) T.E.R.clR T.E.R.ta.m GT hr5 T.E.R.ta.b .nil (FvG.passesG tk hW) (pa_cons (pe_ix ix_tup (pv 5) pe_int (fun _ _ => rfl)) (pa_cons (pe_ix ix_tup (pv 5) pe_int (fun _ _ => rfl)) pa_nil))))
          (pss_one (ps_if (pt_cmpR op_notN (pv 1) pe_non (nomark _)) (pss_one (ps_expr (FvL.pe_callVG (i := 1) (E := Ech) (G := Gd lv m0) Fn hr (by omega) (FvG.passesG tk hW) rfl (.inl rfl) (pa_cons (pv 0) (pa_cons (pv 4) pa_nil))))) pss_nil))))
      (pss_one (ps_set (i := 3) scFA.nd rfl (.inl rfl) pe_non)))
    subst hσ
    refine ⟨_, rfl, p, ds, rfl, SqT.of hp2, ETup.for_enumT (K := K) (a := p) (xs := ds) (fun i σ H' => (∃ v4 v5, σ = [some (.ref lv), some (.ref f), some (.ref p), some (.ref m0), v4, v5]) ∧ (∀ p xs, H2 p = some (.tup xs) → H' p = some (.tup xs)) ∧ ∃ rr' m', RdAtB T.E.R H' lv dx lo m' sz t rr' ∧ FaRun T lv dx lo sz t ((fun lv E1 i H' cont => Jf H' ∧ wsp [.ref lv, .int (i : Nat)] H' (fun _ H2 => cont H2) E1) lv Ech) done Ech (cs.drop i) i rr' H' m')
      ⟨⟨none, none, rfl⟩, fun _ _ e => e, rr, m0, hR2, hF2⟩ (fun i σ H' _ ⟨_, f, _⟩ => SqT.of (f _ _ hp2)) ?_ ?_⟩
    · rintro i x σ H' T' hx ⟨⟨v4, v5, rfl⟩, ft, rr', m', hR', hF'⟩ nT
      obtain ⟨q, c, b, rfl, hc, hq⟩ := hD2.get hx
      have s2 : Same H' (upd H' T' (.tup [.int (i : Nat), .ref q])) := same_new nT
      rw [drop_get hc] at hF'
      have hq' := s2 _ _ (ft _ _ hq)
      refine ⟨T', _, rfl, SqT.of upd_same, rfl, _, _, rfl, _, _, rfl, rfl, ?_⟩
      refine ⟨⟨rfl, rfl⟩, _, rfl, lv, dx, _, rfl, s2 _ _ hR'.at_, rf_n3 .., _, rfl, q, _, 1, _, rfl, rfl, SqT.of hq', rfl, _, rfl, q, _, 2, _, rfl, rfl, SqT.of hq', rfl, ?_⟩
      rcases hF' _ s2 with ⟨tc, tb, hl3, bad⟩ | ⟨n, said, rfl, rfl, gt, z1, z2, hn, hl3, ok, hc2, hst, k⟩
      · exact .inr ⟨lv, dx, lo, m', sz, c, b, t, rr', rfl, hR'.same s2, tc, tb, hl3, bad⟩
      · refine .inl ⟨lv, dx, lo, m', sz, n, said, t, rr', rfl, hR'.same s2, gt, z1, z2, hn, hl3, ok, hc2, fun z => absurd (hst.symm.trans z) (by decide), fun _ H3 m3 qq hs o3 hR3 nq hqq hP => ?_⟩
        have kk := k H3 m3 o3 hR3
        have ft3 : ∀ p xs, H2 p = some (.tup xs) → H3 p = some (.tup xs) := fun p xs e => o3 _ _ (ne_of (s2 _ _ (ft p xs e)) (s2 _ _ hR'.at_) (by intro z; cases z)) (s2 _ _ (ft p xs e))
        obtain ⟨kf, kw'⟩ := kk
        refine ⟨_, rfl, rfl, _, rfl, iteT ⟨⟨rfl, rfl⟩, rfl, kf, _, rfl, _, rfl, kf, mono _ _ _ _ _ (fun v H4 z => ?_) kw'⟩⟩
        obtain ⟨f3, hR4, hF4⟩ := z
        exact ⟨⟨_, _, rfl⟩, fun p xs e => f3 _ _ (ft3 p xs e), _, m3, hR4, hF4⟩
    · rintro σ H' ⟨⟨v4, v5, rfl⟩, ft, rr', m', hR', hF'⟩
      rw [List.drop_eq_nil_of_le (by rw [hD2.len]; exact Nat.le_refl _)] at hF'
      exact hdone H' m' rr' (hF' H' (Same.refl _)) hR'.at_ _ _
  · refine ⟨_, rfl, lv, dx, _, rfl, hR.at_, rf_n4 .., lv, dx, lo, m0, sz, rfl, hR.at_, ?_⟩
    rcases h with ⟨bs, i0, hDV, fi, kE⟩ | ⟨cs, hD, k⟩
    · refine ⟨_, rfl, p, ds, bs, rfl, hp, hl2, hDV, fun al => ?_, fun i fi' H' d s' nd => ?_⟩
      · have := al false (List.mem_of_getElem? fi.1)
        cases this
      · have : i = i0 := by
          rcases Nat.lt_trichotomy i i0 with z | z | z
          · have a := fi.2 i z
            rw [fi'.1] at a
            cases a
          · exact z
          · have a := fi'.2 i0 z
            rw [fi.1] at a
            cases a
        subst this
        exact kE H' d s' nd
    · refine ⟨_, rfl, p, ds, ds.map fun _ => true, rfl, hp, hl2, ds_deeds hD, fun _ H' s' => ?_, fun i fi => ?_⟩
      · have hR' := hR.same s'
        refine ⟨_, rfl, lv, T.E.R.CR, dx, _, _, rfl, hR'.at_, T.E.R.clR, T.E.R.nRm, rf_m .., ?_⟩
        refine ⟨_, rfl, lv, T.E.R.CR, dx, _, rfl, hR'.at_, T.E.R.clR, T.E.R.nRb, (by show 4 < 1000; decide), ?_⟩
        rw [rf_pb]
        have ob : ∀ b o, b ≠ lv → H' b = some o → (upd H' lv (.ins T.E.R.CR dx (rf lo sz true m0))) b = some o := fun b o n e => by
          rw [upd_ne n]
          exact e
        have at_ : (upd H' lv (.ins T.E.R.CR dx (rf lo sz true m0))) lv = some (.ins T.E.R.CR dx (rf lo sz true m0)) := upd_same
        generalize upd H' lv (.ins T.E.R.CR dx (rf lo sz true m0)) = Hb at ob at_ ⊢
        have tups : ∀ p xs, H' p = some (.tup xs) → Hb p = some (.tup xs) := fun p xs e => ob _ _ (ne_of e hR'.at_ (by intro z; cases z)) e
        obtain ⟨E1, hE1, hF⟩ := k Hb (fun b o n e => ob b o n (s' _ _ e)) at_
        refine ⟨E1, cs, _, fun H2 m2 rr2 hd hlv v4 v5 => ⟨lv, dx, lo, m2, sz, .non, rfl, rfl, hlv, .inl ⟨rfl, hd⟩⟩, fun cls d σ' H2 g e1 => ?_, rfl, tups _ _ (s' _ _ hp), hD.mono fun p xs e => tups _ _ (s' _ _ e), busy_at hR' tups ob at_, hF⟩
        obtain ⟨m1, hlv, kE⟩ := hE1 _ _ _ e1
        exact ⟨lv, dx, lo, m1, sz, .ref m0, g.1, g.2, hlv, .inr ⟨m0, rfl, kE⟩⟩
      · have := fi.1
        rw [List.getElem?_map] at this
        cases e : ds[i]? with
        | none => rw [e] at this; cases this
        | some z => rw [e] at this; cases this
end
end My

/-! instances of own classes: ==, != by an own __eq__; str, repr by own defs; bool -/
namespace Own
open PySem PySem.Spec PyProof.Rows L2
section
variable {M : Model} {prog : Program} {w : World} {A : Around} {E : Value → Shared → Prop} {s : Shared} {K : PySem.W.Frag} {x C f : Addr} {ox : Obj} {od : Option Obj} {b tb : Value}
theorem bound_ne {args : List Value} {Q : Option Value → Shared → Prop} (X : K.In s.heap) (I : PySem.W.InstAt s.heap x ox C od) (hn : PySem.W.findIn K (.ref C) "__ne__" = some (some (.builtin "object.__ne__")))
    (h : wpAny M A (call (.builtin "object.__ne__") (.ref x :: args)) (fun v => Q (some v)) E s) : wpAny M A (callSpecialIfBound? (.ref x) "__ne__" args) Q E s := by
  simp only [callSpecialIfBound?, bindSpecialIfBound?]
  refine wpAny_holding (wpAny_bind (wpAny_bind (wpAny_bind (I.type.here ((PySem.W.looks_findIn X hn).here (wpAny_bind (wpAny_askSetting (wpAny_ite ?_))))))))
  have last : wpAny M A (call (.builtin "object.__ne__") ([.ref x] ++ args) >>= fun v => pure (some v)) Q E s := wpAny_bind (wpAny_mono h (fun _ _ z => wpAny_pure z) fun _ _ z => z)
  split
  next => exact wpAny_bind (wpAny_of_eq (F.cmp_object.ne.bind _) (wpAny_pure (by exact last)))
  next => exact wpAny_tryCatch (wpAny_bind (wpAny_of_eq (F.cmp_object.ne.bind _) (wpAny_pure (by exact last))))
/-- object.__ne__ asks the own __eq__ and turns the answer round -/
theorem ne_body {Q : Fin → Shared → Prop} (hu : A.units < cLine) (X : K.In s.heap) (I : PySem.W.InstAt s.heap x ox C od) (hs : PySem.W.findIn K (.ref C) "__eq__" = some (some (.ref f))) (hf : PySem.W.isFn K (.ref f) = true)
    (h : wpAny (model prog w) A (call (.ref f) [.ref x, b]) (fun v s2 => ∃ z, v = .bool z ∧ Q (.done (.ret (.bool (!z)))) s2) E s) : wpAny (model prog w) A (Builtin.«object.__ne__» ⟨[.ref x, b], []⟩) Q E s := by
  unfold Builtin.«object.__ne__»
  refine wpAny_bind (wpAny_of_eq (a := ((Value.ref x : Value), [b])) (by first | rfl | (simp only [slotArgs]; rfl)) ?_)
  refine wpAny_bind (wpAny_cRoomFor hu ?_)
  refine wpAny_bind (m := callSpecialIfBound? (.ref x) (Str.ofString "__eq__") [b]) (PySem.W.ifBound_K X I hs hf (wpAny_mono h (fun r s2 hr => ?_) fun _ _ z => z))
  obtain ⟨z, rfl, hq⟩ := hr
  exact wpAny_bind (m := truthy (.bool z)) (wpAny_truthy_bool (wpAny_pure hq))
theorem ne_rich {Q : Value → Shared → Prop} (hu : A.units + 1 < cLine) (X : K.In s.heap) (I : PySem.W.InstAt s.heap x ox C od) (hm : PySem.W.mroIn K C (.type "object") = some true) (hn : PySem.W.findIn K (.ref C) "__ne__" = some (some (.builtin "object.__ne__")))
    (hs : PySem.W.findIn K (.ref C) "__eq__" = some (some (.ref f))) (hf : PySem.W.isFn K (.ref f) = true) (hb : PySem.W.Looks (model prog w) s.heap (typeOf b) tb) (nf : PySem.W.notFirst K C tb = true)
    (h : wpAny (model prog w) A.in1 (call (.ref f) [.ref x, b]) (fun v s2 => ∃ z, v = .bool z ∧ Q (.bool (!z)) s2) E s) : wpAny (model prog w) A (richCompare .NotEq (.ref x) b) Q E s := by
  have go : wpAny (model prog w) A (tryCompare (.ref x) "__ne__" b) (fun r s2 => ∃ v, r = some v ∧ Q v s2) E s := by
    unfold tryCompare
    refine wpAny_bind (bound_ne X I hn (wpAny_call (codeAny_call_builtin F.cmp_object.ne.plain F.cmpEntry_ne (PySem.W.check_slot F.cmpKind_ne F.cmpSplit_ne (I.type.andThen (PySem.W.looks_mroIn X hm)) (F.cmpArgs_ne _ _) ?_))))
    refine ne_body (by show A.units + 1 < cLine; exact hu) X I hs hf (wpAny_mono h (fun v s2 hv => ?_) fun _ _ z => z)
    obtain ⟨z, rfl, hq⟩ := hv
    exact ⟨z, rfl, wpAny_pure ⟨_, rfl, hq⟩⟩
  unfold richCompare
  simp only [oneThing_ref]
  refine wpAny_holding (wpAny_bind (wpAny_cRoomFor (by omega) (wpAny_bind (I.type.here (wpAny_bind (hb.here ?_))))))
  rw [cmpInfo_NotEq]
  dsimp only
  split
  next q =>
    have e : PySem.W.subIn K tb (.ref C) = some false := (Bool.or_eq_true_iff.mp nf).elim (fun z => by rw [beq_iff_eq.mp z] at q; simp at q) fun z => beq_iff_eq.mp z
    refine wpAny_bind ((PySem.W.looks_subIn X e).here ?_)
    simp only [Bool.false_eq_true, if_false]
    exact wpAny_bind (wpAny_mono go (fun r s2 ⟨v, e1, hq⟩ => by subst e1; exact wpAny_pure hq) fun _ _ z => z)
  next =>
    refine wpAny_bind (wpAny_pure ?_)
    simp only [Bool.false_eq_true, if_false]
    exact wpAny_bind (wpAny_mono go (fun r s2 ⟨v, e1, hq⟩ => by subst e1; exact wpAny_pure hq) fun _ _ z => z)
end
/-- the class at C has its own __eq__ at g, and no more of the kind -/
structure EqC (K : PySem.W.Frag) (C g : Addr) : Prop where
  eq : PySem.W.findIn K (.ref C) "__eq__" = some (some (.ref g))
  ne : PySem.W.findIn K (.ref C) "__ne__" = some (some (.builtin "object.__ne__"))
  fn : PySem.W.isFn K (.ref g) = true
  ob : PySem.W.mroIn K C (.type "object") = some true
section
variable {X : Cx} {C g : Addr} {n : Nat} {sp : Sp}
theorem inst_of {pins : List (Addr × Obj)} {σ : L2.St} {H : Hp} {s : Shared} {a dx : Addr} {fs : List (Str × V)} (I : Inv X pins σ H s) (e : H a = some (.ins C dx fs)) : ∃ (ox : Obj) (od : Option Obj), PySem.W.InstAt s.heap a ox C od := by
  obtain ⟨mA, O, _⟩ := ins_get I.hok e
  obtain ⟨od, J, _⟩ := O.look
  exact ⟨_, _, J⟩
/-- x == y: x an instance of C, y of a class that is not below C -/
def rEqO (K : PySem.W.Frag) (C : Addr) (sp : Sp) : R2 := fun x y H Q => ∃ (a dx : Addr) (fs : List (Str × V)) (t : Value), x = .ref a ∧ H a = some (.ins C dx fs) ∧ TyX K H y t ∧ PySem.W.notFirst K C t = true ∧ sp [x, y] H Q fun _ _ _ => False
def rNeO (K : PySem.W.Frag) (C : Addr) (sp : Sp) : R2 := fun x y H Q => ∃ (a dx : Addr) (fs : List (Str × V)) (t : Value), x = .ref a ∧ H a = some (.ins C dx fs) ∧ TyX K H y t ∧ PySem.W.notFirst K C t = true ∧ sp [x, y] H (fun v H2 => ∃ b, v = .bl b ∧ Q (.bl (!b)) H2) fun _ _ _ => False
theorem op_eqO (c : EqC X.K C g) (F : FnR X.prog X.w X.K X.mg X.base CX0 n g sp) (hr : Room n X.A) : OpR X (compareOp .Eq) (rEqO X.K C sp) := by
  intro pins s σ H x y v u Q I rx ry h
  obtain ⟨a, dx, fs, t, rfl, ha, ty, nf, q⟩ := h
  cases (show v = Value.ref a from rx)
  obtain ⟨ox, od, J⟩ := inst_of I ha
  obtain ⟨m, fr⟩ := I.fr
  obtain ⟨PP, Z, pz, _⟩ := kit_of I ry ty
  show wpAny (model X.prog X.w) X.A (richCompare .Eq (.ref a) u) _ _ s
  refine PySem.W.cmp_K (op := .Eq) hr.units0 fr I.ok.mod.kin J (Z.ty _ _ I.kIn pz) nf c.eq c.fn ?_
  refine wpAny_mono (wpAny_call (run_fnR (us := [.ref a, u]) (vs := [.ref a, y]) F hr pass0 I (.cons rfl (.cons ry .nil)) q)) (fun z s2 hz => ?_) fun _ _ e => e
  obtain ⟨z2, H2, I2, rz, qz⟩ := hz
  exact SlX.cmpback rz ⟨z2, H2, I2, rz, qz⟩
theorem op_neO (c : EqC X.K C g) (F : FnR X.prog X.w X.K X.mg X.base CX0 n g sp) (hr : Room (n + 1) X.A) : OpR X (compareOp .NotEq) (rNeO X.K C sp) := by
  intro pins s σ H x y v u Q I rx ry h
  obtain ⟨a, dx, fs, t, rfl, ha, ty, nf, q⟩ := h
  cases (show v = Value.ref a from rx)
  obtain ⟨ox, od, J⟩ := inst_of I ha
  obtain ⟨PP, Z, pz, _⟩ := kit_of I ry ty
  show wpAny (model X.prog X.w) X.A (richCompare .NotEq (.ref a) u) _ _ s
  refine ne_rich (by have := hr.un; omega) I.kIn J c.ob c.ne c.eq c.fn (Z.ty _ _ I.kIn pz) nf ?_
  refine wpAny_mono (wpAny_call (SlX.run_at (us := [.ref a, u]) (ws := [.ref a, y]) F hr.in1 I.env0.in1 pass0 I (.cons rfl (.cons ry .nil)) q)) (fun z s2 hz => ?_) fun _ _ e => e
  obtain ⟨z2, H2, I2, rz, bb, rfl, qz⟩ := hz
  cases (show z = Value.bool bb from rz)
  exact ⟨bb, rfl, .bl (!bb), H2, I2, rfl, qz⟩
/-- str(x), repr(x): the own def's text -/
def rTxtO (C : Addr) (sp : Sp) : List V → Hp → VK → Prop := fun xs H Q => ∃ (a dx : Addr) (fs : List (Str × V)), xs = [.ref a] ∧ H a = some (.ins C dx fs) ∧ sp [.ref a] H (fun v H2 => ∃ z, v = .str z ∧ Q (.str z) H2) fun _ _ _ => False
theorem call_strO (hs : PySem.W.findIn X.K (.ref C) "__str__" = some (some (.ref g))) (hf : PySem.W.isFn X.K (.ref g) = true) (F : FnR X.prog X.w X.K X.mg X.base CX0 n g sp) (hr : Room (n + 2) X.A) : CallR X (.type "str") (rTxtO C sp) := by
  intro pins s σ H xs us Q I r h
  obtain ⟨a, dx, fs, rfl, ha, q⟩ := h
  obtain ⟨u, rfl, ru⟩ := vals1 r
  cases (show u = Value.ref a from ru)
  obtain ⟨ox, od, J⟩ := inst_of I ha
  have hr1 : Room (n + 1) X.A.in1 := hr.in1
  refine PySem.W.kso_call (by have := hr.un; show X.A.units + 1 + 1 < cLine; omega) I.kIn J hs hf ?_
  refine wpAny_mono (wpAny_call (SlX.run_at (us := [.ref a]) (ws := [.ref a]) F hr1.in1 I.env0.in1.in1 pass0 I (.cons rfl .nil) q)) (fun z s2 hz => ?_) fun _ _ e => e
  obtain ⟨z2, H2, I2, rz, t, rfl, qz⟩ := hz
  obtain ⟨tk, rfl⟩ := (show ∃ tk, z = Value.str t tk from rz)
  exact ⟨.str t, H2, I2, ⟨_, rfl⟩, qz⟩
theorem call_reprO (hs : PySem.W.findIn X.K (.ref C) "__repr__" = some (some (.ref g))) (hf : PySem.W.isFn X.K (.ref g) = true) (F : FnR X.prog X.w X.K X.mg X.base CX0 n g sp) (hr : Room (n + 1) X.A) : CallR X (.builtin "repr") (rTxtO C sp) := by
  intro pins s σ H xs us Q I r h
  obtain ⟨a, dx, fs, rfl, ha, q⟩ := h
  obtain ⟨u, rfl, ru⟩ := vals1 r
  cases (show u = Value.ref a from ru)
  obtain ⟨ox, od, J⟩ := inst_of I ha
  obtain ⟨m, fr⟩ := I.fr
  refine PySem.W.repr_K (by have := hr.un; show X.A.units + 1 < cLine; omega) fr I.ok.mod.kin J hs hf ?_
  refine wpAny_mono (wpAny_call (SlX.run_at (us := [.ref a]) (ws := [.ref a]) F hr.in1 I.env0.in1 pass0 I (.cons rfl .nil) q)) (fun z s2 hz => ?_) fun _ _ e => e
  obtain ⟨z2, H2, I2, rz, t, rfl, qz⟩ := hz
  obtain ⟨tk, rfl⟩ := (show ∃ tk, z = Value.str t tk from rz)
  exact ⟨.str t, H2, I2, ⟨_, rfl⟩, qz⟩
/-- bool(x): no __bool__, no __len__ -/
def rBoolO (C : Addr) : List V → Hp → VK → Prop := fun xs H Q => ∃ (a dx : Addr) (fs : List (Str × V)), xs = [.ref a] ∧ H a = some (.ins C dx fs) ∧ Q (.bl true) H
theorem call_boolO (hb : PySem.W.findIn X.K (.ref C) "__bool__" = some none) (hl : PySem.W.findIn X.K (.ref C) "__len__" = some none) : CallR X (.type "bool") (rBoolO C) := by
  intro pins s σ H xs us Q I r h
  obtain ⟨a, dx, fs, rfl, ha, q⟩ := h
  obtain ⟨u, rfl, ru⟩ := vals1 r
  cases (show u = Value.ref a from ru)
  obtain ⟨ox, od, J⟩ := inst_of I ha
  obtain ⟨m, fr⟩ := I.fr
  have mt : Meets (Builtin.«bool.__new__» ⟨[.type "bool", .ref a], []⟩) (fun _ R st => (∃ m, Fr X.base X.env.locals st.heap m) ∧ PySem.W.InstAt st.heap a ox C od ∧ R (.ok (.ret (.bool true))) st) :=
    Meets.of_wp fun pr wo Ar R st hh => by
      obtain ⟨⟨m2, fr2⟩, J2, hR⟩ := hh
      obtain ⟨hp, gg, dd, tk, os⟩ := st
      have f1 := PySem.F.conv_sub_bool
      repeat (any_goals (first | assumption | (with_reducible refine PySem.W.truthy_K0 fr2 I.ok.mod.kin J2 hb hl ?_) | wp_step))
      all_goals first | exact ⟨_, rfl, hR⟩ | exact hR | skip
  exact call_bool_1 mt ⟨⟨m, fr⟩, J, rfl, .bl true, H, I, rfl, q⟩
end
end Own

/-! with e as x: .., a manager of an own class, the block ends or returns -/
namespace WiR
open PySem PySem.Spec PyProof.Rows L2
section
variable {X : Cx} {CX : CXT} {C fe fx : Addr} {ctx : Expr} {y : Str} {py pos : Pos} {body : List Stmt} {te : TE} {tg : TG} {tb : TS} {k j : Nat} {fdE fdX : FuncData} {psE psX : List Str} {spE spX : Sp} {EE EX : XK}
/-- what is wished behind the block: the manager's exit -/
def wOut (spX : Sp) (EX : XK) (a : Addr) (D : Ends) : Ends := { nx := fun σ H => spX [.ref a, .non, .non, .non] H (fun _ H' => D.nx σ H') EX, rt := fun r H => spX [.ref a, .non, .non, .non] H (fun _ H' => D.rt r H') EX, bk := fun _ _ => False, ct := fun _ _ => False }
def tWith (C : Addr) (te : TE) (spE : Sp) (EE : XK) (tg : TG) (tb : TS) (spX : Sp) (EX : XK) : TS := fun D σ H => te σ H fun x H1 => ∃ (a dx : Addr) (fs : List (Str × V)), x = .ref a ∧ H1 a = some (.ins C dx fs) ∧ spE [.ref a] H1 (fun v H2 => tg v σ H2 fun σ2 H3 => tb (wOut spX EX a D) σ2 H3) EE
theorem ps_withN (hc : PE X ctx te) (he : Meth X.K C "__enter__" fe) (hx : Meth X.K C "__exit__" fx) (FE : FnOk X.prog X.w X.K X.mg X.base CX k fe fdE psE spE) (hrE : Room k X.A) (bE : Binds X.K fdE psE []) (pE : Passes CX X EE)
    (FX : FnOk X.prog X.w X.K X.mg X.base CX j fx fdX psX spX) (hrX : Room j X.A) (bX : Binds X.K fdX psX []) (pX : Passes CX X EX) (hg : PG X.nox (.Name y py) tg) (hb : PSs X.nox body tb) :
    PS X (.With [⟨ctx, some (.Name y py)⟩] body pos) (tWith C te spE EE tg tb spX EX) := by
  refine ⟨fun pins s σ H D I h => ?_⟩
  refine PySem.W.kw_execN (thn (hc.run pins s σ H _ I h) fun u s1 ⟨x, H1, I1, rx, a, dx, fs, ex, ea, q⟩ => ?_)
  subst ex
  obtain rfl : u = Value.ref a := rx
  obtain ⟨ox, od, J⟩ := Own.inst_of I1 ea
  unfold PySem.W.KwIn
  refine PySem.W.kw_core I1.kIn J he.at_ he.fn hx.at_ hx.fn ?_
  refine wpAny_mono (run_fn (us := [.ref a]) (vs := [.ref a]) FE hrE bE .nil pE I1 (.cons rfl .nil) q) (fun v s2 h2 => ?_) fun _ _ z => z
  obtain ⟨vv, H2, I2, rv, q2⟩ := h2
  refine wpAny_mono (hg.run pins s2 σ H2 vv v _ (I2.wish _) rv q2) (fun _ s3 h3 => ?_) fun _ _ z => False.elim z
  obtain ⟨σ3, H3, I3, q3⟩ := h3
  refine wpAny_mono (hb.run pins s3 σ3 H3 _ I3 q3) (fun f s4 h4 => ?_) fun _ _ z => False.elim z
  have h4' : SP X pins (wOut spX EX a D) f s4 := h4.unwish
  cases f with
  | next =>
    obtain ⟨σ4, H4, I4, q4⟩ := h4'
    refine wpAny_mono (run_fn (us := [.ref a, .none, .none, .none]) (vs := [.ref a, .non, .non, .non]) FX hrX bX .nil pX I4 (.cons rfl (.cons rfl (.cons rfl (.cons rfl .nil)))) q4) (fun v5 s5 h5 => ?_) fun _ _ z => z
    obtain ⟨_, H5, I5, _, q5⟩ := h5
    exact ⟨σ4, H5, I5, q5⟩
  | brk =>
    obtain ⟨_, _, _, z⟩ := h4'
    exact z.elim
  | cont =>
    obtain ⟨_, _, _, z⟩ := h4'
    exact z.elim
  | ret r =>
    obtain ⟨rv, σ4, H4, I4, rr, q4⟩ := h4'
    refine wpAny_mono (run_fn (us := [.ref a, .none, .none, .none]) (vs := [.ref a, .non, .non, .non]) FX hrX bX .nil pX I4 (.cons rfl (.cons rfl (.cons rfl (.cons rfl .nil)))) q4) (fun v5 s5 h5 => ?_) fun _ _ z => z
    obtain ⟨_, H5, I5, _, q5⟩ := h5
    exact ⟨rv, σ4, H5, I5, rr, q5⟩
end
end WiR

/-! trials: the manager, within, attempt -/
namespace My
open PySem L2 Cm LM EM StX FvL NdefX
abbrev sTrI : Stmt := inClass (top 41) 0
abbrev sTrEn : Stmt := inClass (top 41) 1
abbrev sTrEx : Stmt := inClass (top 41) 2
abbrev sLyI : Stmt := inClass (top 40) 0
abbrev sRdTr : Stmt := inClass (top 44) 10
abbrev sAtt : Stmt := top 46
abbrev sWit : Stmt := top 45
def tf (lv : Addr) (u : V) : List (Str × V) := [("reading", .ref lv), ("layer", u)]
def lyf (m : Addr) (u : V) : List (Str × V) := [("moment", .ref m), ("under", u)]
theorem tf_r {lv : Addr} {u : V} : (tf lv u).lookup ("reading" : Str) = some (.ref lv) := by kernel_rfl
theorem tf_l {lv : Addr} {u : V} : (tf lv u).lookup ("layer" : Str) = some u := by kernel_rfl
theorem lyf_m {m : Addr} {u : V} : (lyf m u).lookup ("moment" : Str) = some (.ref m) := by kernel_rfl
theorem lyf_u {m : Addr} {u : V} : (lyf m u).lookup ("under" : Str) = some u := by kernel_rfl
theorem tf_pl {lv : Addr} {u u' : V} : putF "layer" u' (tf lv u) = tf lv u' := by kernel_rfl
structure TxTr (K : PySem.W.Frag) (mg : Str → Option Value) where
  A : TxFa K mg
  CT : Addr
  gT : mg "Trial" = some (.ref CT)
  clT : Cls K CT
  nTr : NoAttr K CT "reading"
  nTl : NoAttr K CT "layer"
  fT : Addr
  fdT : FuncData
  FT : Fun K "__init__" "Trial.__init__" sTrI fT fdT
  bT : Binds K fdT ["self", "reading"] []
  MT : Mk K CT fT
  CY : Addr
  gY : mg "Layer" = some (.ref CY)
  clY : Cls K CY
  nYm : NoAttr K CY "moment"
  nYu : NoAttr K CY "under"
  fY : Addr
  fdY : FuncData
  FY : Fun K "__init__" "Layer.__init__" sLyI fY fdY
  bY : Binds K fdY ["self", "moment", "under"] []
  MY : Mk K CY fY
  en : Mt K CT "__enter__" "Trial.__enter__" sTrEn ["self"]
  ex : Mt K CT "__exit__" "Trial.__exit__" sTrEx ["self", "kind", "value", "trace"]
  tr : Mt K A.E.R.CR "trial" "Reading.trial" sRdTr ["self"]
  y1 : PySem.W.findIn K (.ref A.E.R.CR) "__class__" = some (some (.builtin "object.__class__"))
  y4 : PySem.W.mroIn K A.E.R.CR (.type "object") = some true
  y5 : PySem.W.kitOne K (.ref A.E.R.CR) (.ref A.E.R.CR) = some true
  att : Df K mg "attempt" sAtt ["reading", "act"]
  wit : Df K mg "within" sWit ["trial", "act"]
section
variable {P : Program} {w : World} {K : PySem.W.Frag} {mg : Str → Option Value} {base : Heap}
def spTrI (C : Addr) : Sp := fun vs H Q _ => ∃ (x dx lv : Addr), vs = [.ref x, .ref lv] ∧ H x = some (.ins C dx []) ∧ ∀ H' : Hp, Off x H H' → H' x = some (.ins C dx (tf lv .non)) → Q .non H'
theorem scTrI : FnScope ["self", "reading"] ["self", "reading"] (defScope sTrI) := ⟨rfl, rfl, rfl, by decide +kernel, rfl, by decide +kernel, by decide +kernel⟩
theorem ok_tri (T : TxTr K mg) : FnOk P w K mg base CX0 1 T.fT T.fdT ["self", "reading"] (spTrI T.CT) := by
  refine T.FT.ok scTrI (fun vs H Q E h => ?_) (fun cdv A outer s H vs Q E hr h => ?_)
  · obtain ⟨x, dx, lv, rfl, _⟩ := h
    rfl
  · obtain ⟨x, dx, lv, rfl, hx, k⟩ := h
    refine ⟨_, pss_cons (ps_fld (pv 0) (pv 1) rfl) (pss_one (ps_fld (pv 0) pe_non rfl)), ?_⟩
    refine ⟨_, rfl, _, rfl, x, T.CT, dx, _, rfl, hx, T.clT, T.nTr, (by show 0 < 1000; decide), ?_⟩
    refine ⟨_, rfl, x, T.CT, dx, _, rfl, upd_same, T.clT, T.nTl, (by show 1 < 1000; decide), ?_⟩
    refine k _ (fun b o nb e => ?_) upd_same
    rw [upd_ne nb, upd_ne nb]
    exact e
def spLyI (C : Addr) : Sp := fun vs H Q _ => ∃ (x dx m : Addr) (u : V), vs = [.ref x, .ref m, u] ∧ H x = some (.ins C dx []) ∧ ∀ H' : Hp, Off x H H' → H' x = some (.ins C dx (lyf m u)) → Q .non H'
theorem scLyI : FnScope ["self", "moment", "under"] ["self", "moment", "under"] (defScope sLyI) := ⟨rfl, rfl, rfl, by decide +kernel, rfl, by decide +kernel, by decide +kernel⟩
theorem ok_lyi (T : TxTr K mg) : FnOk P w K mg base CX0 1 T.fY T.fdY ["self", "moment", "under"] (spLyI T.CY) := by
  refine T.FY.ok scLyI (fun vs H Q E h => ?_) (fun cdv A outer s H vs Q E hr h => ?_)
  · obtain ⟨x, dx, m, u, rfl, _⟩ := h
    rfl
  · obtain ⟨x, dx, m, u, rfl, hx, k⟩ := h
    refine ⟨_, pss_cons (ps_fld (pv 0) (pv 1) rfl) (pss_one (ps_fld (pv 0) (pv 2) rfl)), ?_⟩
    refine ⟨_, rfl, _, rfl, x, T.CY, dx, _, rfl, hx, T.clY, T.nYm, (by show 0 < 1000; decide), ?_⟩
    refine ⟨_, rfl, _, rfl, x, T.CY, dx, _, rfl, upd_same, T.clY, T.nYu, (by show 1 < 1000; decide), ?_⟩
    refine k _ (fun b o nb e => ?_) upd_same
    rw [upd_ne nb, upd_ne nb]
    exact e
/-- entered: a layer more -/
def spEn (T : TxTr K mg) : Sp := fun vs H Q _ => ∃ (t dt lv dx lo m : Addr) (sz : Nat) (bs : Bool) (u : V), vs = [.ref t] ∧ H t = some (.ins T.CT dt (tf lv u)) ∧ H lv = some (.ins T.A.E.R.CR dx (rf lo sz bs m)) ∧
  ∀ (H' : Hp) (y dy : Addr), Off t H H' → H y = none → H' y = some (.ins T.CY dy (lyf m u)) → H' t = some (.ins T.CT dt (tf lv (.ref y))) → Q (.ref lv) H'
theorem scTrEn : FnScope ["self"] ["self"] (defScope sTrEn) := ⟨rfl, rfl, rfl, by decide +kernel, rfl, by decide +kernel, by decide +kernel⟩
theorem ok_en (T : TxTr K mg) : FnOk P w K mg base CX0 3 T.en.f T.en.fd ["self"] (spEn T) := by
  have GY : FnOk P w K mg base CX0 1 T.fY T.fdY ["self", "moment", "under"] (spLyI T.CY) := ok_lyi T
  refine T.en.F.ok scTrEn (fun vs H Q E h => ?_) (fun cdv A outer s H vs Q E hr h => ?_)
  · obtain ⟨t, _, _, _, _, _, _, _, _, rfl, _⟩ := h
    rfl
  · obtain ⟨t, dt, lv, dx, lo, m, sz, bs, u, rfl, ht, hl, k⟩ := h
    refine ⟨_, pss_cons (ps_fld (pv 0) (pe_make T.MY GY hr rfl T.gY T.bY .nil pass0 (pa_cons (pe_fld (pe_fld (pv 0) rfl) rfl) (pa_cons (pe_fld (pv 0) rfl) pa_nil))) rfl) (pss_one (ps_ret (pe_fld (pv 0) rfl))), ?_⟩
    refine ⟨_, rfl, t, T.CT, dt, _, _, rfl, ht, T.clT, T.nTr, tf_r, lv, T.A.E.R.CR, dx, _, _, rfl, hl, T.A.E.R.clR, T.A.E.R.nRm, rf_m .., _, rfl, t, T.CT, dt, _, _, rfl, ht, T.clT, T.nTl, tf_l, ?_⟩
    intro y dy ny ndy nex
    have sM : Same H (upd (upd H dy (.own y)) y (.ins T.CY dy [])) := fun b u e => by
      rw [upd_ne (ne_of_none e ny), upd_ne (ne_of_none e ndy)]
      exact e
    refine ⟨y, dy, m, u, rfl, upd_same, fun H' o' hy => ⟨rfl, ?_⟩⟩
    have s' := made_same ny ndy o'
    refine ⟨_, rfl, t, T.CT, dt, _, rfl, s' _ _ ht, T.clT, T.nTl, (by show 2 < 1000; decide), ?_⟩
    rw [tf_pl]
    refine ⟨_, rfl, t, T.CT, dt, _, _, rfl, upd_same, T.clT, T.nTr, tf_r, ?_⟩
    have nyt : y ≠ t := (ne_of_none ht ny).symm
    exact k _ y dy (fun b o nb e => by rw [upd_ne nb]; exact s' _ _ e) ny (by rw [upd_ne nyt]; exact hy) upd_same
/-- left: a layer less, the moment set back -/
def spEx (T : TxTr K mg) : Sp := fun vs H Q _ => ∃ (t dt lv dx lo m m2 y dy : Addr) (sz : Nat) (bs : Bool) (u a b c : V), vs = [.ref t, a, b, c] ∧ H t = some (.ins T.CT dt (tf lv (.ref y))) ∧ H y = some (.ins T.CY dy (lyf m u)) ∧ H lv = some (.ins T.A.E.R.CR dx (rf lo sz bs m2)) ∧
  Q .non (upd (upd H lv (.ins T.A.E.R.CR dx (rf lo sz bs m))) t (.ins T.CT dt (tf lv u)))
theorem scTrEx : FnScope ["self", "kind", "value", "trace"] ["self", "kind", "value", "trace"] (defScope sTrEx) := ⟨rfl, rfl, rfl, by decide +kernel, rfl, by decide +kernel, by decide +kernel⟩
theorem tf_ne_rf {C D dx dt lv lo m : Addr} {sz : Nat} {bs : Bool} {u : V} : (HO.ins C dx (rf lo sz bs m)) ≠ .ins D dt (tf lv u) := fun z => by
  have e := (HO.ins.inj z).2.2
  simp [rf, tf] at e
theorem lyf_ne_rf {C D dx dt lo m m1 : Addr} {sz : Nat} {bs : Bool} {u : V} : (HO.ins C dx (rf lo sz bs m)) ≠ .ins D dt (lyf m1 u) := fun z => by
  have e := (HO.ins.inj z).2.2
  simp [rf, lyf] at e
theorem ok_ex (T : TxTr K mg) : FnOk P w K mg base CX0 1 T.ex.f T.ex.fd ["self", "kind", "value", "trace"] (spEx T) := by
  refine T.ex.F.ok scTrEx (fun vs H Q E h => ?_) (fun cdv A outer s H vs Q E hr h => ?_)
  · obtain ⟨t, _, _, _, _, _, _, _, _, _, _, _, _, _, _, rfl, _⟩ := h
    rfl
  · obtain ⟨t, dt, lv, dx, lo, m, m2, y, dy, sz, bs, u, a, b, c, rfl, ht, hy, hl, k⟩ := h
    have nt : t ≠ lv := fun z => by
      rw [z, hl] at ht
      exact tf_ne_rf (Option.some.inj ht)
    have ny : y ≠ lv := fun z => by
      rw [z, hl] at hy
      exact lyf_ne_rf (Option.some.inj hy)
    refine ⟨_, pss_cons (ps_fld (pe_fld (pv 0) rfl) (pe_fld (pe_fld (pv 0) rfl) rfl) rfl) (pss_one (ps_fld (pv 0) (pe_fld (pe_fld (pv 0) rfl) rfl) rfl)), ?_⟩
    refine ⟨_, rfl, t, T.CT, dt, _, _, rfl, ht, T.clT, T.nTl, tf_l, y, T.CY, dy, _, _, rfl, hy, T.clY, T.nYm, lyf_m, _, rfl, t, T.CT, dt, _, _, rfl, ht, T.clT, T.nTr, tf_r, lv, T.A.E.R.CR, dx, _, rfl, hl, T.A.E.R.clR, T.A.E.R.nRm, (by show 4 < 1000; decide), ?_⟩
    rw [rf_pm]
    refine ⟨_, rfl, t, T.CT, dt, _, _, rfl, by rw [upd_ne nt]; exact ht, T.clT, T.nTl, tf_l, y, T.CY, dy, _, _, rfl, by rw [upd_ne ny]; exact hy, T.clY, T.nYu, lyf_u, _, rfl, t, T.CT, dt, _, rfl, by rw [upd_ne nt]; exact ht, T.clT, T.nTl, (by show 2 < 1000; decide), ?_⟩
    rw [tf_pl]
    exact k
/-! ### within -/
theorem scWit : FnScope ["trial", "act", "reading"] ["trial", "act"] (defScope sWit) := ⟨rfl, rfl, rfl, by decide +kernel, rfl, by decide +kernel, by decide +kernel⟩
/-- the block of a trial: what the function does to the reading, then the moment set back -/
def spWi (T : TxTr K mg) (f : Addr) (J : Hp → Prop) (wsp : Sp) : Sp := fun vs H Q _ => ∃ (t dt lv dx lo m : Addr) (sz : Nat) (bs : Bool) (u : V), vs = [.ref t, .ref f] ∧ H t = some (.ins T.CT dt (tf lv u)) ∧ H lv = some (.ins T.A.E.R.CR dx (rf lo sz bs m)) ∧
  ∀ (H' : Hp) (y dy : Addr), Off t H H' → H y = none → H' y = some (.ins T.CY dy (lyf m u)) → H' t = some (.ins T.CT dt (tf lv (.ref y))) →
    J H' ∧ wsp [.ref lv] H' (fun r H2 => H2 t = some (.ins T.CT dt (tf lv (.ref y))) ∧ H2 y = some (.ins T.CY dy (lyf m u)) ∧ (∃ m2, H2 lv = some (.ins T.A.E.R.CR dx (rf lo sz bs m2))) ∧ Q r (upd (upd H2 lv (.ins T.A.E.R.CR dx (rf lo sz bs m))) t (.ins T.CT dt (tf lv u)))) C8.E0
theorem ok_wit (T : TxTr K mg) {f : Addr} {J : Hp → Prop} {wsp : Sp} {kw k : Nat} (h3 : 3 ≤ k) (hkw : kw ≤ k) (Fn : FvOk P w K mg base (L2.CX P w) kw f J wsp) (mono : ∀ (vs : List V) (H : Hp) (Q Q1 : VK) (E1 : XK), (∀ v H2, Q v H2 → Q1 v H2) → wsp vs H Q E1 → wsp vs H Q1 E1) : FnOk P w K mg base CX0 (k + 1) T.wit.f T.wit.fd ["trial", "act"] (spWi T f J wsp) := by
  have GE : FnOk P w K mg base CX0 3 T.en.f T.en.fd ["self"] (spEn T) := ok_en T
  have GX : FnOk P w K mg base CX0 1 T.ex.f T.ex.fd ["self", "kind", "value", "trace"] (spEx T) := ok_ex T
  refine T.wit.F.ok scWit (fun vs H Q E h => ?_) (fun cdv A outer s H vs Q E hr h => ?_)
  · obtain ⟨t, _, _, _, _, _, _, _, _, rfl, _⟩ := h
    rfl
  · obtain ⟨t, dt, lv, dx, lo, m, sz, bs, u, rfl, ht, hl, kk⟩ := h
    have hr1 : Room 1 _ := hr.mono (by omega)
    have hr3 : Room 3 _ := hr.mono h3
    refine ⟨_, pss_one (WiR.ps_withN (EE := C8.E0) (EX := C8.E0) (pv 0) ⟨T.en.m.at_, T.en.m.fn, T.en.m.kp⟩ ⟨T.ex.m.at_, T.ex.m.fn, T.ex.m.kp⟩ GE hr3 T.en.b pass0 GX hr1 T.ex.b pass0 (pg_name (i := 2) scWit.nd rfl (.inl rfl)) (pss_one (ps_ret (FvL.pe_callVG (i := 1) (E := C8.E0) (G := fun _ => True) Fn hr hkw (fun pins σ H s e s' _ I h => pass_none pins σ H s e s' I h) rfl (.inl rfl) (pa_cons (pv 2) pa_nil))))), ?_⟩
    refine ⟨_, rfl, t, dt, _, rfl, ht, t, dt, lv, dx, lo, m, sz, bs, u, rfl, ht, hl, fun H' y dy o ny hy ht' => ?_⟩
    obtain ⟨kJ, kw⟩ := kk H' y dy o ny hy ht'
    refine ⟨True.intro, rfl, kJ, _, rfl, kJ, mono _ _ _ _ _ (fun r H2 ⟨a1, a2, ⟨m2, a3⟩, a4⟩ => ?_) kw⟩
    exact ⟨t, dt, lv, dx, lo, m, m2, y, dy, sz, bs, u, .non, .non, .non, rfl, a1, a2, a3, a4⟩
/-! ### trial, attempt -/
def spTr (T : TxTr K mg) : Sp := fun vs H Q _ => ∃ (lv dx lo m : Addr) (sz : Nat), vs = [.ref lv] ∧ H lv = some (.ins T.A.E.R.CR dx (rf lo sz false m)) ∧ ∀ (H' : Hp) (t dt : Addr), Same H H' → H t = none → H' t = some (.ins T.CT dt (tf lv .non)) → Q (.ref t) H'
theorem scRdTr : FnScope ["self"] ["self"] (defScope sRdTr) := ⟨rfl, rfl, rfl, by decide +kernel, rfl, by decide +kernel, by decide +kernel⟩
theorem ok_tr (T : TxTr K mg) : FnOk P w K mg base CX0 3 T.tr.f T.tr.fd ["self"] (spTr T) := by
  have GC : FnOk P w K mg base CX0 1 T.A.E.R.cf.f T.A.E.R.cf.fd ["self"] (spRdCf T.A.E.R) := ok_rdcf T.A.E.R
  have GT : FnOk P w K mg base CX0 1 T.fT T.fdT ["self", "reading"] (spTrI T.CT) := ok_tri T
  refine T.tr.F.ok scRdTr (fun vs H Q E h => ?_) (fun cdv A outer s H vs Q E hr h => ?_)
  · obtain ⟨lv, _, _, _, _, rfl, _⟩ := h
    rfl
  · obtain ⟨lv, dx, lo, m, sz, rfl, hl, k⟩ := h
    have hr1 : Room 1 _ := hr.mono (by decide)
    refine ⟨_, pss_cons (ps_expr (pe_meth0 (pv 0) T.A.E.R.clR T.A.E.R.cf.m GC hr1 T.A.E.R.cf.b .nil pass0)) (pss_one (ps_ret (pe_make T.MT GT hr rfl T.gT T.bT .nil pass0 (pa_cons (pv 0) pa_nil)))), ?_⟩
    refine ⟨_, rfl, lv, dx, _, rfl, hl, rf_n4 .., lv, dx, lo, m, sz, rfl, hl, _, rfl, ?_⟩
    intro t dt nt ndt nex
    refine ⟨t, dt, lv, rfl, upd_same, fun H' o' ht => ⟨rfl, ?_⟩⟩
    exact k H' t dt (made_same nt ndt o') nt ht
theorem scAtt : FnScope ["reading", "act"] ["reading", "act"] (defScope sAtt) := ⟨rfl, rfl, rfl, by decide +kernel, rfl, by decide +kernel, by decide +kernel⟩
theorem rf_n7 {lo m : Addr} {sz : Nat} {bs : Bool} : (rf lo sz bs m).lookup ("trial" : Str) = none := by kernel_rfl
def spAtt (T : TxTr K mg) (f : Addr) (J : Hp → Prop) (wsp : Sp) : Sp := fun vs H Q _ => ∃ (lv dx lo m : Addr) (sz : Nat), vs = [.ref lv, .ref f] ∧ H lv = some (.ins T.A.E.R.CR dx (rf lo sz false m)) ∧
  ∀ (H' : Hp) (t dt y dy : Addr), Same H H' → H t = none → H y = none → H' y = some (.ins T.CY dy (lyf m .non)) → H' t = some (.ins T.CT dt (tf lv (.ref y))) →
    J H' ∧ wsp [.ref lv] H' (fun r H2 => H2 t = some (.ins T.CT dt (tf lv (.ref y))) ∧ H2 y = some (.ins T.CY dy (lyf m .non)) ∧ (∃ m2, H2 lv = some (.ins T.A.E.R.CR dx (rf lo sz false m2))) ∧ Q r (upd (upd H2 lv (.ins T.A.E.R.CR dx (rf lo sz false m))) t (.ins T.CT dt (tf lv .non)))) C8.E0
theorem ok_att (T : TxTr K mg) {f : Addr} {J : Hp → Prop} {wsp : Sp} {kw : Nat} (hkw : kw ≤ 15) (Fn : FvOk P w K mg base (L2.CX P w) kw f J wsp) (mono : ∀ (vs : List V) (H : Hp) (Q Q1 : VK) (E1 : XK), (∀ v H2, Q v H2 → Q1 v H2) → wsp vs H Q E1 → wsp vs H Q1 E1) : FnOk P w K mg base CX0 17 T.att.f T.att.fd ["reading", "act"] (spAtt T f J wsp) := by
  have GW : FnOk P w K mg base CX0 16 T.wit.f T.wit.fd ["trial", "act"] (spWi T f J wsp) := ok_wit (k := 15) T (by decide) hkw Fn mono
  have GT : FnOk P w K mg base CX0 3 T.tr.f T.tr.fd ["self"] (spTr T) := ok_tr T
  refine T.att.F.ok scAtt (fun vs H Q E h => ?_) (fun cdv A outer s H vs Q E hr h => ?_)
  · obtain ⟨lv, _, _, _, _, rfl, _⟩ := h
    rfl
  · obtain ⟨lv, dx, lo, m, sz, rfl, hl, k⟩ := h
    have hr3 : Room 3 _ := hr.mono (by decide)
    refine ⟨_, (pss_cons (ps_if (pt_not (pt_val (pe_callB call_isi (by rfl) T.A.E.R.N.k.isi (by decide +kernel) (pa_cons (pv 0) (pa_cons (pe_glob (v := .ref T.A.E.R.CR) rfl T.A.E.R.gR rfl) pa_nil))))) (pss_one ps_never) pss_nil) (pss_one (ps_ret (pe_call GW hr rfl T.wit.g T.wit.k T.wit.b .nil pass0 (pa_cons (pe_meth0 (pv 0) T.A.E.R.clR T.tr.m GT hr3 T.tr.b .nil pass0) (pa_cons (pv 1) pa_nil)))))), ?_⟩
    refine ⟨_, rfl, _, _, _, _, true, rfl, .own T.A.E.R.CR, .base (.ins hl T.A.E.R.clR T.y1 T.A.E.R.y2 T.A.E.R.y3 T.y4), T.y5, true, rfl, iteF ?_⟩
    refine ⟨_, rfl, lv, dx, _, rfl, hl, rf_n7, lv, dx, lo, m, sz, rfl, hl, fun H1 t dt s1 nt ht => ?_⟩
    refine ⟨_, rfl, t, dt, lv, dx, lo, m, sz, false, .non, rfl, ht, s1 _ _ hl, fun H2 y dy o2 ny hy ht2 => ?_⟩
    exact k H2 t dt y dy (fun b o e => o2 _ _ (ne_of_none e nt) (s1 _ _ e)) nt (by
      cases e : H y with
      | none => rfl
      | some o => rw [s1 _ _ e] at ny; cases ny) hy ht2
end
end My

/-! loops that are drawn -/
namespace LM
open PySem L2 TL
def sBar : Str := " | "
def sSp : Str := " "
def samples : List Str := ["ask empty:stop hand", "ask hand short:stop", "ask add cut told:stop | rest:flush", "ask told:stop hand", "ask add empty:stop | rest:flush", "ask add cut empty:stop | flush", "ask some:hand told:stop", "ask empty:stop add cut | rest:flush", "ask empty:again hand told:stop", "ask add full:flush told:stop"]
def sampP (s : Str) : List Str := Txt.split s " | "
def sampB (s : Str) : List Str := Txt.split ((sampP s).getD 0 Str.empty) " "
def sampE (s : Str) : List Str := if (sampP s).length > 1 then Txt.split ((sampP s).getD 1 Str.empty) " " else []
def sampOk (s : Str) : Bool := isRound (sampB s) && (isEnding (sampE s) && (decide ((sampB s).length ≤ 4) && (decide ((sampE s).length ≤ 1) && (decide (1 ≤ (sampP s).length) && (decide (s.length ≤ 100) && (sampP s).all fun p => decide (p.length ≤ 100))))))
theorem samp_ok : ∀ s ∈ samples, sampOk s = true := by decide +kernel
structure Samp (s : Str) : Prop where
  r : isRound (sampB s) = true
  e : isEnding (sampE s) = true
  lb : (sampB s).length ≤ 4
  le : (sampE s).length ≤ 1
  l1 : 1 ≤ (sampP s).length
  ls : s.length ≤ 100
  lp : ∀ p ∈ sampP s, p.length ≤ 100
theorem samp_of {s : Str} (h : s ∈ samples) : Samp s := by
  have := samp_ok s h
  unfold sampOk at this
  simp only [Bool.and_eq_true, decide_eq_true_eq, List.all_eq_true] at this
  exact ⟨this.1, this.2.1, this.2.2.1, this.2.2.2.1, this.2.2.2.2.1, this.2.2.2.2.2.1, this.2.2.2.2.2.2⟩
/-! ### a word more -/
def plain5 : List Str := ["hand", "cut", "flush", "stop", "again"]
theorem wd_round {w : Str} (h : Wd rsteps w) : isWord w rsteps = true := by
  have := wd_ok w h.mem
  unfold wdOk at this
  exact (Bool.and_eq_true_iff.mp this).1
theorem wd_ending {w : Str} (h : Wd esteps w) : isWord w esteps = true := wd_end w h.mem
theorem wd_plain {w : Str} (h : Wd plain5 w) : isAdd w = false := wd_noadd w h.mem
theorem ask_noadd : isAdd "ask" = false := by decide +kernel
theorem ins_round {B xs : List Str} {i : Nat} (hB : isRound B = true) (hi : 1 ≤ i) (hx : ∀ x ∈ xs, isWord x rsteps = true) (hl : B.length + xs.length ≤ 12) (ha : (B.filter isAdd).length + (xs.filter isAdd).length ≤ 1) :
    isRound (B.take i ++ xs ++ B.drop i) = true := by
  obtain ⟨r, rfl, h2, h3, h4⟩ := isRound_iff.mp hB
  obtain ⟨k, rfl⟩ : ∃ k, i = k + 1 := ⟨i - 1, by omega⟩
  refine isRound_iff.mpr ⟨r.take k ++ xs ++ r.drop k, rfl, ?_, ?_, fun w hw => ?_⟩
  · rw [List.length_append, List.length_append, List.length_take, List.length_drop]
    omega
  · rw [List.filter_append, List.filter_append, List.length_append, List.length_append]
    have e : (((("ask" : Str) :: r).take (k + 1)).filter isAdd).length + (((("ask" : Str) :: r).drop (k + 1)).filter isAdd).length = ((("ask" : Str) :: r).filter isAdd).length := by
      rw [← List.length_append, ← List.filter_append, List.take_append_drop]
    omega
  · rcases List.mem_append.mp hw with hw | hw
    · rcases List.mem_append.mp hw with hw | hw
      · exact h4 w (List.mem_of_mem_take hw)
      · exact hx w hw
    · exact h4 w (List.mem_of_mem_drop hw)
theorem ask_round {ws : List Str} (h : ∀ w ∈ ws, Wd plain5 w) (hl : ws.length ≤ 11) : isRound (("ask" : Str) :: ws) = true ∧ ((("ask" : Str) :: ws).filter isAdd).length = 0 := by
  have e : ((("ask" : Str) :: ws).filter isAdd) = [] := by
    refine List.filter_eq_nil_iff.mpr fun w hw => ?_
    rcases List.mem_cons.mp hw with rfl | hw
    · rw [ask_noadd]; exact Bool.false_ne_true
    · rw [wd_plain (h w hw)]; exact Bool.false_ne_true
  refine ⟨isRound_iff.mpr ⟨ws, rfl, by rw [List.length_cons]; omega, by rw [e]; exact Nat.zero_le _, fun w hw => wd_round ((h w hw).mono (by decide +kernel))⟩, by rw [e]; rfl⟩
theorem one_filter {xs : List Str} (h : xs.length = 1) : (xs.filter isAdd).length ≤ 1 := Nat.le_trans (List.length_filter_le ..) (by omega)
theorem none_filter {xs : List Str} (h : ∀ w ∈ xs, Wd plain5 w) : (xs.filter isAdd).length = 0 := by
  rw [show xs.filter isAdd = [] from List.filter_eq_nil_iff.mpr fun w hw => by rw [wd_plain (h w hw)]; exact Bool.false_ne_true]
  rfl
theorem round_adds {B : List Str} (h : isRound B = true) : (B.filter isAdd).length ≤ 1 := let ⟨_, _, _, h3, _⟩ := isRound_iff.mp h; h3
theorem words_ending {E : List Str} (h : ∀ w ∈ E, Wd esteps w) (hl : E.length ≤ 6) : isEnding E = true := isEnding_iff.mpr ⟨hl, fun w hw => wd_ending (h w hw)⟩
/-! ### signs that are signs -/
def Asc (w : Str) : Prop := PyData.strOk w = true
theorem asc_iff {w : Str} : Asc w ↔ ∀ c ∈ tl w, c < 1114112 := by
  unfold Asc PyData.strOk
  rw [← Array.all_toList, List.all_eq_true]
  simp
theorem Asc.app {a b : Str} (ha : Asc a) (hb : Asc b) : Asc (a ++ b) := by
  rw [asc_iff] at ha hb ⊢
  rw [tl_append]
  intro c hc
  exact (List.mem_append.mp hc).elim (ha c) (hb c)
theorem asc_join {B : List Str} (h : ∀ w ∈ B, Asc w) : Asc (Txt.join " " B) := by
  rw [asc_iff, tl_joinSp]
  intro c hc
  rcases joinL_mem hc with hc | ⟨p, hp, hc⟩
  · rw [List.mem_singleton.mp hc]
    decide
  · obtain ⟨w, hw, rfl⟩ := List.mem_map.mp hp
    exact asc_iff.mp (h w hw) c hc
theorem asc_bar : Asc " | " := by unfold Asc; decide +kernel
theorem asc_text {B E : List Str} (h1 : ∀ w ∈ B, Asc w) (h2 : ∀ w ∈ E, Asc w) : Asc (textOf B E) := by
  unfold textOf
  split
  · exact asc_join h1
  · exact ((asc_join h1).app asc_bar).app (asc_join h2)
theorem wd_asc' : ∀ w ∈ allWd rsteps, PyData.strOk w = true := by decide +kernel
theorem wd_asc {w : Str} (h : Wd rsteps w) : Asc w := wd_asc' w h.mem
theorem ask_asc : Asc "ask" := by unfold Asc; decide +kernel
theorem round_asc {B : List Str} (h : isRound B = true) : ∀ w ∈ B, Asc w := by
  obtain ⟨r, rfl, _, _, h4⟩ := isRound_iff.mp h
  intro w hw
  rcases List.mem_cons.mp hw with rfl | hw
  · exact ask_asc
  · exact wd_asc (word_wd (h4 w hw))
theorem ending_asc {E : List Str} (h : isEnding E = true) : ∀ w ∈ E, Asc w := fun w hw => wd_asc ((word_wd ((isEnding_iff.mp h).2 w hw)).mono e_r)
end LM

/-! the loops that the law draws -/
namespace My
open PySem L2 Cm LM
abbrev sWords : Stmt := top 51
abbrev sLoop : Stmt := top 52
abbrev sLine : Stmt := top 53
structure TxD (K : PySem.W.Frag) (mg : Str → Option Value) where
  J : TxtJ mg
  range : mg "range" = none
  sip : Df K mg "_law_sip" sSip ["_law_jar_here", "_law_many"]
  frm : Df K mg "_law_from" sFrom ["_law_jar_here", "_law_things"]
  wds : Df K mg "_law_words" sWords ["_law_jar_here", "_law_steps", "_law_many"]
  lop : Df K mg "_law_loop" sLoop ["_law_jar_here", "_law_most"]
  lin : Df K mg "_law_line" sLine ["_law_begun", "_law_ended"]
section
variable {P : Program} {w : World} {K : PySem.W.Frag} {mg : Str → Option Value} {base : Heap}
theorem gk_sip (D : TxD K mg) : FnOk P w K mg base CX0 1 D.sip.f D.sip.fd ["_law_jar_here", "_law_many"] spSip := ok_sip D.sip.F D.J
theorem gk_from (D : TxD K mg) : FnOk P w K mg base CX0 2 D.frm.f D.frm.fd ["_law_jar_here", "_law_things"] (spFrom K) := ok_from D.frm.F D.J ⟨D.sip.g, D.sip.k⟩ D.sip.F D.sip.b
/-! ### _law_words -/
def spWords (K : PySem.W.Frag) : Sp := fun vs H Q _ => ∃ (j p : Addr) (ss : List Str) (m : Nat), vs = [.ref j, .ref p, .int m] ∧ Jar H j ∧ p ≠ j ∧ SqL K H p (svs ss) ∧ 0 < ss.length ∧ ss.length ≤ 1000 ∧ (∀ s ∈ ss, s.length ≤ 100) ∧ m ≤ 100 ∧
  ∀ (H' : Hp) (q : Addr) (ws : List Str), Off j H H' → Jar H' j → H q = none → H' q = some (.lst (svs ws)) → ws.length = m → (∀ w ∈ ws, Wd ss w) → Q (.ref q) H'
theorem scWords : FnScope ["_law_jar_here", "_law_steps", "_law_many", "_law_tests", "_law_found", "_law_turn", "_law_word_here"] ["_law_jar_here", "_law_steps", "_law_many"] (defScope sWords) := ⟨rfl, rfl, rfl, by decide +kernel, rfl, by decide +kernel, by decide +kernel⟩
/-- any answer, after some draws -/
def tAny (i : Nat) : TT := fun σ H Q => ∃ (j : Addr) (x : Str), σ[0]? = some (some (.ref j)) ∧ σ[i]? = some (some (.str x)) ∧ Jar H j ∧ ∀ (b : Bool) (H' : Hp), Off j H H' → Jar H' j → Q b H'
theorem ok_words (D : TxD K mg) : FnOk P w K mg base CX0 3 D.wds.f D.wds.fd ["_law_jar_here", "_law_steps", "_law_many"] (spWords K) := by
  have GS : FnOk P w K mg base CX0 1 D.sip.f D.sip.fd ["_law_jar_here", "_law_many"] spSip := gk_sip D
  have GF : FnOk P w K mg base CX0 2 D.frm.f D.frm.fd ["_law_jar_here", "_law_things"] (spFrom K) := gk_from D
  refine D.wds.F.ok scWords (fun vs H Q E h => ?_) (fun cdv A outer s H vs Q E hr h => ?_)
  · obtain ⟨j, p, ss, m, rfl, _⟩ := h
    rfl
  · obtain ⟨j, p, ss, m, rfl, hJ, npj, hp, l0, l1, lw, hm, k⟩ := h
    have hr1 : Room 1 _ := hr.mono (by decide)
    refine ⟨_, pss_cons (ps_set (i := 3) scWords.nd rfl (.inl rfl) (pe_lst (pa_cons pe_str (pa_cons pe_str (pa_cons pe_str (pa_cons pe_str (pa_cons pe_str (pa_cons pe_str (pa_cons pe_str (pa_cons pe_str pa_nil))))))))))
      (pss_cons (ps_set (i := 4) scWords.nd rfl (.inl rfl) (pe_lst pa_nil))
      (pss_cons (ps_for PassesOwn.never rfl (pi_range1 rfl D.range (pa_cons (pv 2) pa_nil)) (pg_name (i := 5) scWords.nd rfl (Or.inl rfl))
        (pss_cons (ps_set (i := 6) scWords.nd rfl (.inl rfl) (pe_call GF hr rfl D.frm.g D.frm.k D.frm.b .nil pass0 (pa_cons (pv 0) (pa_cons (pv 1) pa_nil))))
        (C8.pss_cut (ps_if (pt_imp (t' := tAny 6) (PW.pt (pw_or (PW.pt (pw_and (pt_cmpR op_in_seq (pv 6) (pe_lst (pa_cons pe_str (pa_cons pe_str pa_nil))) (by rfl)) (pw_and1 (pt_cmpR op_gt (pe_call GS hr1 rfl D.sip.g D.sip.k D.sip.b .nil pass0 (pa_cons (pv 0) (pa_cons pe_int pa_nil))) pe_int (nomark _)))))
            (pw_or1 (pt_cmpR op_eq (pe_call GS hr1 rfl D.sip.g D.sip.k D.sip.b .nil pass0 (pa_cons (pv 0) (pa_cons pe_int pa_nil))) pe_int (nomark _))))) ?imp)
          (pss_one (ps_set (i := 6) scWords.nd rfl (.inl rfl) (pe_op op_add_str (pe_op op_add_str (pe_call GF hr rfl D.frm.g D.frm.k D.frm.b .nil pass0 (pa_cons (pv 0) (pa_cons (pv 3) pa_nil))) pe_str) (pv 6)))) pss_nil)
        (pss_one (ps_expr (pe_bm PySem.F.plainAttrs_list PySem.F.slot_list_append PySem.F.type_list_append mt_append (pv 4) (pa_cons (pv 6) pa_nil)))))))
      (pss_one (ps_ret (pv 4))))), ?_⟩
    case imp =>
      rintro σ H1 Q1 ⟨j1, x, h0, h6, J1, q⟩
      refine ⟨_, h6, (by show 2 ≤ sizeLine; decide), fun l nl => ?_⟩
      have third : ∀ H2, Off j1 H1 H2 → Jar H2 j1 → tTest (tOp rEq (tCall spSip [] E (tCons (tVar 0) (tCons (tC (.int 3)) tNil))) (tC (.int 0))) σ H2 Q1 := fun H2 o2 J2 =>
        ⟨_, h0, j1, 3, rfl, J2, by decide, by decide, fun H3 d _ _ o3 J3 => ⟨rfl, _, rfl, q _ _ (o2.trans o3) J3⟩⟩
      refine ⟨l, [.str "stop", .str "again"], rfl, .inl (SqL.of upd_same), rfl, rfl, _, rfl, ?_⟩
      have oN : Off j1 H1 (upd H1 l (.lst [.str "stop", .str "again"])) := Off.new Off.refl nl
      have JN := J1.new (o := .lst [.str "stop", .str "again"]) nl
      refine ite2 (fun _ => ?_) (fun _ => ?_)
      · refine ⟨_, h0, j1, 5, rfl, JN, by decide, by decide, fun H3 d _ _ o3 J3 => ⟨_, _, rfl, rfl, _, rfl, ?_⟩⟩
        refine ite2 (fun _ => ?_) (fun _ => ?_)
        · exact q _ _ (oN.trans o3) J3
        · exact third _ (oN.trans o3) J3
      · exact iteF (third _ oN JN)
    refine ⟨(by show 8 ≤ sizeLine; decide), fun t nt => ?_⟩
    refine ⟨Nat.zero_le _, fun q nq => ?_⟩
    have s0 : Same H (upd (upd H t (.lst (svs tests))) q (.lst [])) := Same.trans (same_new nt) (same_new nq)
    have ht : (upd (upd H t (.lst (svs tests))) q (.lst [])) t = some (.lst (svs tests)) := same_new nq _ _ upd_same
    have hq : (upd (upd H t (.lst (svs tests))) q (.lst [])) q = some (.lst (svs [])) := upd_same
    have nq0 : H q = none := (same_new nt).free nq
    have tq : t ≠ q := fun z => by rw [z, upd_same] at nq; cases nq
    have tj := jar_ne hJ nt
    have qj := jar_ne hJ nq0
    show tSeq _ _ _ _ (upd (upd H t (.lst (svs tests))) q (.lst []))
    generalize upd (upd H t (.lst (svs tests))) q (.lst []) = H1 at s0 ht hq ⊢
    refine ⟨_, rfl, m, rfl, by omega, by omega, for_range (lo := 0) (n := ((m : Int)).toNat) (fun i σ H' => ∃ (v5 v6 : Option V) (ws : List Str), σ = [some (.ref j), some (.ref p), some (.int m), some (.ref t), some (.ref q), v5, v6] ∧ Off j H H' ∧ Jar H' j ∧ H' t = some (.lst (svs tests)) ∧ H' q = some (.lst (svs ws)) ∧ ws.length = i ∧ ∀ w ∈ ws, Wd ss w)
      ⟨none, none, [], rfl, Same.off s0, hJ.same s0, ht, hq, rfl, fun w hw => nomatch hw⟩ ?_ ?_⟩
    · rintro i σ H' hi ⟨v5, v6, ws, rfl, o, J, ht', hq', lws, hws⟩
      refine ⟨_, rfl, _, rfl, j, p, svs ss, rfl, J, npj, o.seq npj hp, by rw [svs, List.length_map]; exact l0, by rw [svs, List.length_map]; omega, fun H2 n x hx o2 J2 => ?_⟩
      obtain ⟨z, hz, rfl⟩ := svs_get hx
      have zm : z ∈ ss := List.mem_of_getElem? hz
      refine ⟨fun σ H' => ∃ w, σ = [some (.ref j), some (.ref p), some (.int m), some (.ref t), some (.ref q), some (.int (0 + (i : Int))), some (.str w)] ∧ Off j H H' ∧ Jar H' j ∧ H' t = some (.lst (svs tests)) ∧ H' q = some (.lst (svs ws)) ∧ Wd ss w, ?_, ?_⟩
      · refine ⟨j, z, rfl, rfl, J2, fun b H3 o3 J3 => ?_⟩
        have o13 := (o.trans o2).trans o3
        have ht3 := o3 _ _ tj (o2 _ _ tj ht')
        have hq3 := o3 _ _ qj (o2 _ _ qj hq')
        cases b with
        | false => exact iteF ⟨z, rfl, o13, J3, ht3, hq3, z, zm, .inl rfl⟩
        | true =>
          refine iteT ?_
          refine ⟨_, rfl, _, rfl, j, t, svs tests, rfl, J3, tj, SqL.of ht3, by decide, by decide, fun H4 n4 x4 hx4 o4 J4 => ?_⟩
          obtain ⟨y, hy, rfl⟩ := svs_get hx4
          have ym : y ∈ tests := List.mem_of_getElem? hy
          have yl : y.length ≤ 5 := (show ∀ y ∈ tests, y.length ≤ 5 by decide +kernel) y ym
          have zl := lw z zm
          have c1 : (":" : Str).length = 1 := by decide +kernel
          refine ⟨_, _, rfl, rfl, szl (n := y.length + (":" : Str).length) (by omega), _, rfl, _, _, rfl, rfl, szl (n := (y ++ ":").length + z.length) (by rw [strLen_append]; omega), ?_⟩
          exact ⟨y ++ ":" ++ z, rfl, o13.trans o4, J4, o4 _ _ tj ht3, o4 _ _ qj hq3, z, zm, .inr ⟨y, ym, rfl⟩⟩
      rintro _ H3 ⟨wd, rfl, o3, J3, ht3, hq3, hwd⟩
      refine ⟨_, rfl, .inl ⟨rfl, _, SqL.of hq3⟩, _, rfl, q, _, _, rfl, rfl, hq3, small1000 (by rw [svs, List.length_map]; omega), ?_⟩
      refine ⟨_, _, ws ++ [wd], rfl, o3.put2 nq0, J3.put qj, ?_, ?_, ?_, fun w hw => ?_⟩
      · rw [upd_ne tq]
        exact ht3
      · rw [upd_same]
        simp [svs]
      · rw [List.length_append, lws]
        rfl
      · rcases List.mem_append.mp hw with hw | hw
        · exact hws w hw
        · rw [List.mem_singleton.mp hw]
          exact hwd
    · rintro σ H' ⟨v5, v6, ws, rfl, o, J, ht', hq', lws, hws⟩
      refine ⟨_, rfl, ?_⟩
      exact k H' q ws o J nq0 hq' (by simpa using lws) hws
end
end My

namespace My
open PySem L2 Cm LM
theorem Off.free {j p : Addr} {H H' : Hp} (o : Off j H H') (J : Jar H' j) (n : H' p = none) : H p = none := by
  cases e : H p with
  | none => rfl
  | some u =>
    have := o p u (jar_ne J n) e
    rw [n] at this
    cases this
theorem svs_len' (ws : List Str) : (svs ws).length = ws.length := List.length_map ..
theorem svs_app (a b : List Str) : svs a ++ svs b = svs (a ++ b) := by simp [svs]
theorem svs_take (a : List Str) (n : Nat) : (svs a).take n = svs (a.take n) := by simp [svs, List.map_take]
theorem svs_drop (a : List Str) (n : Nat) : (svs a).drop n = svs (a.drop n) := by simp [svs, List.map_drop]
section
variable {P : Program} {w : World} {K : PySem.W.Frag} {mg : Str → Option Value} {base : Heap}
/-- two lists that make a loop -/
structure Two (j : Addr) (H H' : Hp) (a b : Addr) (B E : List Str) (m : Nat) : Prop where
  o : Off j H H'
  J : Jar H' j
  na : H a = none
  nb : H b = none
  ha : H' a = some (.lst (svs B))
  hb : H' b = some (.lst (svs E))
  rB : isRound B = true
  rE : isEnding E = true
  lB : B.length ≤ m
  lE : E.length ≤ 2
def spLoop : Sp := fun vs H Q _ => ∃ (j : Addr) (m : Nat), vs = [.ref j, .int m] ∧ Jar H j ∧ 4 ≤ m ∧ m ≤ 11 ∧
  ∀ (H' : Hp) (p a b : Addr) (B E : List Str), Two j H H' a b B E (m + 1) → H' p = some (.tup [.ref a, .ref b]) → Q (.ref p) H'
theorem scLoop : FnScope ["_law_jar_here", "_law_most", "_law_some", "_law_parts", "_law_begun", "_law_ended", "_law_at"] ["_law_jar_here", "_law_most"] (defScope sLoop) := ⟨rfl, rfl, rfl, by decide +kernel, rfl, by decide +kernel, by decide +kernel⟩
theorem len_samples : (svs samples).length = 10 := by decide +kernel
theorem ok_loop (D : TxD K mg) : FnOk P w K mg base CX0 4 D.lop.f D.lop.fd ["_law_jar_here", "_law_most"] spLoop := by
  have GS : FnOk P w K mg base CX0 1 D.sip.f D.sip.fd ["_law_jar_here", "_law_many"] spSip := gk_sip D
  have GF : FnOk P w K mg base CX0 2 D.frm.f D.frm.fd ["_law_jar_here", "_law_things"] (spFrom K) := gk_from D
  have GW : FnOk P w K mg base CX0 3 D.wds.f D.wds.fd ["_law_jar_here", "_law_steps", "_law_many"] (spWords K) := ok_words D
  refine D.lop.F.ok scLoop (fun vs H Q E h => ?_) (fun cdv A outer s H vs Q E hr h => ?_)
  · obtain ⟨j, m, rfl, _⟩ := h
    rfl
  · obtain ⟨j, m, rfl, hJ, m0, m1, k⟩ := h
    have hr1 : Room 1 _ := hr.mono (by decide)
    have hr2 : Room 2 _ := hr.mono (by decide)
    refine ⟨_, pss_cons (ps_set (i := 2) scLoop.nd rfl (.inl rfl) (pe_lst (pa_cons pe_str (pa_cons pe_str (pa_cons pe_str (pa_cons pe_str pa_nil))))))
      (pss_cons (ps_set (i := 2) scLoop.nd rfl (.inl rfl) (pe_op op_cat (pv 2) (pe_lst (pa_cons pe_str (pa_cons pe_str (pa_cons pe_str pa_nil))))))
      (pss_cons (ps_set (i := 2) scLoop.nd rfl (.inl rfl) (pe_op op_cat (pv 2) (pe_lst (pa_cons pe_str (pa_cons pe_str pa_nil)))))
      (C8.pss_cut (ps_expr (pe_bm PySem.F.plainAttrs_list PySem.F.slot_list_append PySem.F.type_list_append mt_append (pv 2) (pa_cons pe_str pa_nil)))
      (pss_cons (ps_if (pt_cmpR op_eq (pe_call GS hr1 rfl D.sip.g D.sip.k D.sip.b .nil pass0 (pa_cons (pv 0) (pa_cons pe_int pa_nil))) pe_int (nomark _))
        (pss_cons (ps_set (i := 3) scLoop.nd rfl (.inl rfl) (pe_split (pe_call GF hr2 rfl D.frm.g D.frm.k D.frm.b .nil pass0 (pa_cons (pv 0) (pa_cons (pv 2) pa_nil))) pe_str))
        (pss_cons (ps_par (i := 4) (j := 5) rfl scLoop.nd rfl rfl (by decide) rfl rfl (pa_cons (pe_split (pe_ix ix_list (pv 3) pe_int (fun _ _ => rfl)) pe_str) (pa_cons (pe_lst pa_nil) pa_nil)) (by rfl))
        (C8.pss_cut (ps_if (pt_cmpR op_gt (pe_callB call_len_seq (by rfl) D.J.len PySem.boot_len (pa_cons (pv 3) pa_nil)) pe_int (nomark _)) (pss_one (ps_set (i := 5) scLoop.nd rfl (.inl rfl) (pe_split (pe_ix ix_list (pv 3) pe_int (fun _ _ => rfl)) pe_str))) pss_nil)
        (C8.pss_cut (ps_if (pt_cmpR op_eq (pe_call GS hr1 rfl D.sip.g D.sip.k D.sip.b .nil pass0 (pa_cons (pv 0) (pa_cons pe_int pa_nil))) pe_int (nomark _))
          (pss_cons (ps_set (i := 6) scLoop.nd rfl (.inl rfl) (pe_op op_add pe_int (pe_call GS hr1 rfl D.sip.g D.sip.k D.sip.b .nil pass0 (pa_cons (pv 0) (pa_cons (pe_callB call_len_seq (by rfl) D.J.len PySem.boot_len (pa_cons (pv 4) pa_nil)) pa_nil)))))
          (pss_one (ps_set (i := 4) scLoop.nd rfl (.inl rfl) (pe_op op_cat (pe_op op_cat (pe_slice sl_list (pv 4) po_none (po_some (pv 6))) (pe_call GW hr rfl D.wds.g D.wds.k D.wds.b .nil pass0 (pa_cons (pv 0) (pa_cons (pe_lst (pa_cons pe_str (pa_cons pe_str (pa_cons pe_str (pa_cons pe_str (pa_cons pe_str pa_nil)))))) (pa_cons pe_int pa_nil)))))
            (pe_slice sl_list (pv 4) (po_some (pv 6)) po_none))))) pss_nil)
        (pss_one (ps_ret (pe_tup (pa_cons (pv 4) (pa_cons (pv 5) pa_nil))))))))) pss_nil)
      (pss_cons (ps_set (i := 4) scLoop.nd rfl (.inl rfl) (pe_op op_cat (pe_lst (pa_cons pe_str pa_nil)) (pe_call GW hr rfl D.wds.g D.wds.k D.wds.b .nil pass0 (pa_cons (pv 0) (pa_cons (pe_lst (pa_cons pe_str (pa_cons pe_str (pa_cons pe_str (pa_cons pe_str (pa_cons pe_str (pa_cons pe_str pa_nil))))))) (pa_cons (pe_call GS hr1 rfl D.sip.g D.sip.k D.sip.b .nil pass0 (pa_cons (pv 0) (pa_cons (pv 1) pa_nil))) pa_nil))))))
      (C8.pss_cut (ps_if (pt_cmpR op_eq (pe_call GS hr1 rfl D.sip.g D.sip.k D.sip.b .nil pass0 (pa_cons (pv 0) (pa_cons pe_int pa_nil))) pe_int (nomark _))
          (pss_cons (ps_set (i := 6) scLoop.nd rfl (.inl rfl) (pe_op op_add pe_int (pe_call GS hr1 rfl D.sip.g D.sip.k D.sip.b .nil pass0 (pa_cons (pv 0) (pa_cons (pe_callB call_len_seq (by rfl) D.J.len PySem.boot_len (pa_cons (pv 4) pa_nil)) pa_nil)))))
          (pss_one (ps_set (i := 4) scLoop.nd rfl (.inl rfl) (pe_op op_cat (pe_op op_cat (pe_slice sl_list (pv 4) po_none (po_some (pv 6))) (pe_call GW hr rfl D.wds.g D.wds.k D.wds.b .nil pass0 (pa_cons (pv 0) (pa_cons (pe_lst (pa_cons pe_str pa_nil)) (pa_cons pe_int pa_nil)))))
            (pe_slice sl_list (pv 4) (po_some (pv 6)) po_none))))) pss_nil)
      (pss_one (ps_ret (pe_tup (pa_cons (pv 4) (pa_cons (pe_call GW hr rfl D.wds.g D.wds.k D.wds.b .nil pass0 (pa_cons (pv 0) (pa_cons (pe_lst (pa_cons pe_str (pa_cons pe_str (pa_cons pe_str pa_nil)))) (pa_cons (pe_call GS hr1 rfl D.sip.g D.sip.k D.sip.b .nil pass0 (pa_cons (pv 0) (pa_cons pe_int pa_nil))) pa_nil)))) pa_nil))))))))))), ?_⟩
    -- the samples
    refine ⟨(by show 4 ≤ sizeLine; decide), fun x1 n1 => ?_⟩
    refine ⟨_, rfl, (by show 3 ≤ sizeLine; decide), fun x2 n2 => ⟨x1, x2, _, _, rfl, rfl, same_new n2 _ _ upd_same, upd_same, (by show 7 ≤ sizeLine; decide), fun x3 n3 => ?_⟩⟩
    refine ⟨_, rfl, (by show 2 ≤ sizeLine; decide), fun x4 n4 => ⟨x3, x4, _, _, rfl, rfl, same_new n4 _ _ upd_same, upd_same, (by show 9 ≤ sizeLine; decide), fun x5 n5 => ?_⟩⟩
    refine ⟨fun σ H' => ∃ p, σ = [some (.ref j), some (.int m), some (.ref p), none, none, none, none] ∧ Off j H H' ∧ Jar H' j ∧ p ≠ j ∧ H' p = some (.lst (svs samples)), ?_, ?_⟩
    · refine ⟨_, rfl, .inl ⟨rfl, _, SqL.of upd_same⟩, x5, _, _, rfl, rfl, upd_same, small1000 (by show 9 ≤ 1000; decide), ?_⟩
      have n50 : H x5 = none := Same.free (Same.trans (same_new n1) (Same.trans (same_new n2) (Same.trans (same_new n3) (same_new n4)))) n5
      exact ⟨x5, rfl, (Same.off (j := j) (Same.trans (same_new n1) (Same.trans (same_new n2) (Same.trans (same_new n3) (Same.trans (same_new n4) (same_new n5)))))).put2 n50, (hJ.same (Same.trans (same_new n1) (Same.trans (same_new n2) (Same.trans (same_new n3) (Same.trans (same_new n4) (same_new n5)))))).put (jar_ne hJ n50), jar_ne hJ n50, upd_same⟩
    rintro _ H1 ⟨p, rfl, o1, J1, pj, hp⟩
    clear n1 n2 n3 n4 n5
    refine ⟨_, rfl, j, 3, rfl, J1, by decide, by decide, fun H2 d _ _ o2 J2 => ⟨rfl, _, rfl, ?_⟩⟩
    have o12 := o1.trans o2
    have hp2 := o2 _ _ pj hp
    clear o1 o2 J1 hp
    refine ite2 (fun _ => ?_) (fun _ => ?_)
    · -- a sample
      refine ⟨_, rfl, _, rfl, j, p, _, rfl, J2, pj, SqL.of hp2, by rw [len_samples]; decide, by rw [len_samples]; decide, fun H3 i x hx o3 J3 => ?_⟩
      obtain ⟨t, ht, rfl⟩ := svs_get hx
      have S := samp_of (List.mem_of_getElem? ht)
      have o13 := o12.trans o3
      refine ⟨⟨_, rfl⟩, t, " | ", rfl, rfl, by decide +kernel, Nat.le_trans (Nat.add_le_add_right S.ls 2) (by decide), fun q nq => ?_⟩
      have nq0 := o13.free J3 nq
      have qj := jar_ne hJ nq0
      have hq4 : (upd H3 q (.lst (svs (sampP t)))) q = some (.lst (svs (sampP t))) := upd_same
      have o14 : Off j H (upd H3 q (.lst (svs (sampP t)))) := o13.new nq
      have J4 := J3.new (o := .lst (svs (sampP t))) nq
      show tSeq _ _ _ _ (upd H3 q (.lst (svs (sampP t))))
      generalize upd H3 q (.lst (svs (sampP t))) = H4 at hq4 o14 J4 ⊢
      have g0 : (sampP t)[0]? = some ((sampP t).getD 0 Str.empty) := by
        rw [List.getD_eq_getElem?_getD, List.getElem?_eq_getElem S.l1]
        rfl
      have l0 : ((sampP t).getD 0 Str.empty).length ≤ 100 := S.lp _ (List.mem_of_getElem? g0)
      refine ⟨_, rfl, q, _, 0, .str ((sampP t).getD 0 Str.empty), rfl, rfl, SqL.of hq4, (show atI _ ((0 : Nat) : Int) = _ from atI_nat (by rw [svs, List.getElem?_map, g0]; rfl)), ⟨_, rfl⟩, _, " ", rfl, rfl, by decide +kernel, Nat.le_trans (Nat.add_le_add_right l0 2) (by decide), fun a na => ?_⟩
      refine ⟨Nat.zero_le _, fun b nb => ?_⟩
      refine ⟨_, _, rfl, ?_⟩
      have na0 := o14.free J4 na
      have o15 : Off j H (upd H4 a (.lst (svs (sampB t)))) := o14.new na
      have J5 := J4.new (o := .lst (svs (sampB t))) na
      have nb0 := o15.free J5 nb
      have ha6 : (upd (upd H4 a (.lst (svs (sampB t)))) b (.lst [])) a = some (.lst (svs (sampB t))) := same_new nb _ _ upd_same
      have hb6 : (upd (upd H4 a (.lst (svs (sampB t)))) b (.lst [])) b = some (.lst (svs [])) := upd_same
      have hq6 : (upd (upd H4 a (.lst (svs (sampB t)))) b (.lst [])) q = some (.lst (svs (sampP t))) := same_new nb _ _ (same_new na _ _ hq4)
      have o16 : Off j H (upd (upd H4 a (.lst (svs (sampB t)))) b (.lst [])) := o15.new nb
      have J6 := J5.new (o := .lst []) nb
      show C8.tCut _ _ _ _ (upd (upd H4 a (.lst (svs (sampB t)))) b (.lst []))
      generalize upd (upd H4 a (.lst (svs (sampB t)))) b (.lst []) = H6 at ha6 hb6 hq6 o16 J6 ⊢
      clear nb na o15 J5
      refine ⟨fun σ H' => ∃ b, σ = [some (.ref j), some (.int m), some (.ref p), some (.ref q), some (.ref a), some (.ref b), none] ∧ Two j H H' a b (sampB t) (sampE t) 4, ?_, ?_⟩
      · refine ⟨_, rfl, q, _, rfl, .inl (SqL.of hq6), _, _, rfl, rfl, _, rfl, ?_⟩
        rw [svs_len']
        refine ite2 (fun c => ?_) (fun c => ?_)
        · have c1 : 1 < (sampP t).length := by have := of_decide_eq_true c; omega
          have g1 : (sampP t)[1]? = some ((sampP t).getD 1 Str.empty) := by
            rw [List.getD_eq_getElem?_getD, List.getElem?_eq_getElem c1]
            rfl
          have l1 : ((sampP t).getD 1 Str.empty).length ≤ 100 := S.lp _ (List.mem_of_getElem? g1)
          refine ⟨_, rfl, q, _, 1, .str ((sampP t).getD 1 Str.empty), rfl, rfl, SqL.of hq6, (show atI _ ((1 : Nat) : Int) = _ from atI_nat (by rw [svs, List.getElem?_map, g1]; rfl)), ⟨_, rfl⟩, _, " ", rfl, rfl, by decide +kernel, Nat.le_trans (Nat.add_le_add_right l1 2) (by decide), fun b2 nb2 => ?_⟩
          have e : sampE t = Txt.split ((sampP t).getD 1 Str.empty) " " := by unfold sampE; rw [if_pos c1]
          exact ⟨b2, rfl, o16.new nb2, J6.new nb2, na0, o16.free J6 nb2, same_new nb2 _ _ ha6, by rw [e]; exact upd_same, S.r, S.e, S.lb, Nat.le_trans S.le (by decide)⟩
        · have c1 : ¬ (sampP t).length > 1 := fun z => c (decide_eq_true (by omega))
          have e : sampE t = [] := by unfold sampE; rw [if_neg c1]
          exact ⟨b, rfl, o16, J6, na0, nb0, ha6, by rw [e]; exact hb6, S.r, S.e, S.lb, Nat.le_trans S.le (by decide)⟩
      rintro _ H7 ⟨b, rfl, W⟩
      clear ha6 hb6 hq6 o16 J6 hq4 o14 J4 nb0 g0
      refine ⟨fun σ H' => ∃ (a : Addr) (B : List Str) (v6 : Option V), σ = [some (.ref j), some (.int m), some (.ref p), some (.ref q), some (.ref a), some (.ref b), v6] ∧ Two j H H' a b B (sampE t) 5, ?_, ?_⟩
      · refine ⟨_, rfl, j, 2, rfl, W.J, by decide, by decide, fun H8 d _ _ o8 J8 => ⟨rfl, _, rfl, ?_⟩⟩
        have aj := jar_ne hJ W.na
        have bj := jar_ne hJ W.nb
        have ha8 := o8 _ _ aj W.ha
        have hb8 := o8 _ _ bj W.hb
        have o18 := W.o.trans o8
        refine ite2 (fun _ => ?_) (fun _ => ?_)
        · have lb1 : 1 ≤ (sampB t).length := List.length_pos_iff.mpr (round_ne W.rB)
          refine ⟨_, rfl, _, rfl, a, _, rfl, .inl (SqL.of ha8), j, _, rfl, J8, by rw [svs_len']; omega, by rw [svs_len']; have := W.lB; omega, fun H9 d2 d20 d21 o9 J9 => ⟨_, _, rfl, rfl, ?_⟩⟩
          rw [svs_len'] at d21
          obtain ⟨n, rfl⟩ := Int.eq_ofNat_of_zero_le d20
          have ha9 := o9 _ _ aj ha8
          have o19 := o18.trans o9
          refine ⟨_, rfl, _, rfl, ((1 + n : Nat) : Int), by simp, a, _, rfl, SqL.of ha9, fun x1 nx1 => ?_⟩
          rw [cut_to _ _ (by rw [svs_len']; omega), svs_take]
          refine ⟨_, rfl, (by show 5 ≤ sizeLine; decide), fun x2 nx2 => ?_⟩
          have o20 := (o19.new (o := .lst (svs ((sampB t).take (1 + n)))) nx1).new (o := .lst (svs plain5)) nx2
          have J20 := (J9.new (o := .lst (svs ((sampB t).take (1 + n)))) nx1).new (o := .lst (svs plain5)) nx2
          refine ⟨j, x2, plain5, 1, rfl, J20, jar_ne (J9.new nx1) nx2, SqL.of upd_same, by decide, by decide, by decide +kernel, by decide, fun H10 x3 ws o10 J10 nx3 hx3 lw hw => ?_⟩
          have x1j := jar_ne J9 nx1
          refine ⟨x1, x3, _, _, rfl, rfl, o10 _ _ x1j (same_new nx2 _ _ upd_same), hx3, ?_, fun x4 nx4 => ?_⟩
          · rw [svs_len', svs_len', List.length_take]
            have := W.lB
            exact szl (by omega)
          rw [svs_app]
          have ha10 := o10 _ _ aj (same_new nx2 _ _ (same_new nx1 _ _ ha9))
          refine ⟨_, rfl, _, rfl, ((1 + n : Nat) : Int), by simp, a, _, rfl, SqL.of (same_new nx4 _ _ ha10), fun x5 nx5 => ?_⟩
          rw [cut_from, svs_drop]
          refine ⟨x4, x5, _, _, rfl, rfl, same_new nx5 _ _ upd_same, upd_same, ?_, fun x6 nx6 => ?_⟩
          · rw [svs_len', svs_len', List.length_append, List.length_take, List.length_drop]
            have := W.lB
            exact szl (by omega)
          rw [svs_app]
          have o21 := o20.trans o10
          have na6 := (((o21.new (o := .lst (svs ((sampB t).take (1 + n) ++ ws))) nx4).new (o := .lst (svs ((sampB t).drop (1 + n)))) nx5)).free ((J10.new nx4).new nx5) nx6
          refine ⟨x6, _, _, rfl, ((o21.new nx4).new nx5).new nx6, ((J10.new nx4).new nx5).new nx6, na6, W.nb, upd_same, same_new nx6 _ _ (same_new nx5 _ _ (same_new nx4 _ _ (o10 _ _ bj (same_new nx2 _ _ (same_new nx1 _ _ (o9 _ _ bj hb8)))))), ?_, W.rE, ?_, W.lE⟩
          · refine ins_round W.rB (by omega) (fun x hx => wd_round ((hw x hx).mono (by decide +kernel))) (by have := W.lB; omega) ?_
            rw [none_filter hw]
            exact round_adds W.rB
          · rw [List.length_append, List.length_append, List.length_take, List.length_drop]
            have := W.lB
            omega
        · exact ⟨a, sampB t, none, rfl, o18, J8, W.na, W.nb, ha8, hb8, W.rB, W.rE, Nat.le_trans W.lB (by decide), W.lE⟩
      rintro _ H8 ⟨a, B, v6, rfl, W⟩
      refine ⟨_, rfl, _, rfl, (by show 2 ≤ sizeLine; decide), fun r nr => ?_⟩
      exact k _ r a b B (sampE t) ⟨W.o.new nr, W.J.new nr, W.na, W.nb, same_new nr _ _ W.ha, same_new nr _ _ W.hb, W.rB, W.rE, Nat.le_trans W.lB (by omega), W.lE⟩ upd_same
    · -- drawn words
      refine ⟨(by show 1 ≤ sizeLine; decide), fun x1 nx1 => ?_⟩
      refine ⟨_, rfl, (by show 6 ≤ sizeLine; decide), fun x2 nx2 => ?_⟩
      have o14 := (o12.new (o := .lst (svs ["ask"])) nx1).new (o := .lst (svs ["hand", "cut", "flush", "stop", "again", "stop"])) nx2
      have J4 := (J2.new (o := .lst (svs ["ask"])) nx1).new (o := .lst (svs ["hand", "cut", "flush", "stop", "again", "stop"])) nx2
      have x1j := jar_ne J2 nx1
      have x2j := jar_ne (J2.new (o := .lst (svs ["ask"])) nx1) nx2
      have h14 : (upd (upd H2 x1 (.lst (svs ["ask"]))) x2 (.lst (svs ["hand", "cut", "flush", "stop", "again", "stop"]))) x1 = some (.lst (svs ["ask"])) := same_new nx2 _ _ upd_same
      have h24 : (upd (upd H2 x1 (.lst (svs ["ask"]))) x2 (.lst (svs ["hand", "cut", "flush", "stop", "again", "stop"]))) x2 = some (.lst (svs ["hand", "cut", "flush", "stop", "again", "stop"])) := upd_same
      show tCall spSip [] E0 _ _ (upd (upd H2 x1 (.lst (svs ["ask"]))) x2 (.lst (svs ["hand", "cut", "flush", "stop", "again", "stop"]))) _
      generalize upd (upd H2 x1 (.lst (svs ["ask"]))) x2 (.lst (svs ["hand", "cut", "flush", "stop", "again", "stop"])) = H4 at o14 J4 h14 h24 ⊢
      refine ⟨_, rfl, _, rfl, j, m, rfl, J4, by omega, by omega, fun H5 d d0 d1 o5 J5 => ?_⟩
      obtain ⟨n, rfl⟩ := Int.eq_ofNat_of_zero_le d0
      refine ⟨j, x2, ["hand", "cut", "flush", "stop", "again", "stop"], n, rfl, J5, x2j, SqL.of (o5 _ _ x2j h24), by decide, by decide, by decide +kernel, by omega, fun H6 x3 ws o6 J6 nx3 hx3 lw hw => ?_⟩
      refine ⟨x1, x3, _, _, rfl, rfl, o6 _ _ x1j (o5 _ _ x1j h14), hx3, ?_, fun a na => ?_⟩
      · rw [svs_len', svs_len']
        exact szl (by show 1 + ws.length ≤ 1000; omega)
      rw [svs_app]
      have o16 := (o14.trans o5).trans o6
      have na0 := o16.free J6 na
      have aj := jar_ne hJ na0
      have hw5 : ∀ w ∈ ws, Wd plain5 w := fun w h => (hw w h).mono (by decide +kernel)
      have R := ask_round hw5 (by omega)
      have ha7 : (upd H6 a (.lst (svs ([("ask" : Str)] ++ ws)))) a = some (.lst (svs (("ask" : Str) :: ws))) := upd_same
      have o17 : Off j H (upd H6 a (.lst (svs ([("ask" : Str)] ++ ws)))) := o16.new na
      have J7 := J6.new (o := .lst (svs ([("ask" : Str)] ++ ws))) na
      show C8.tCut _ _ _ _ (upd H6 a (.lst (svs ([("ask" : Str)] ++ ws))))
      generalize upd H6 a (.lst (svs ([("ask" : Str)] ++ ws))) = H7 at ha7 o17 J7 ⊢
      clear h14 h24 o14 J4 o5 J5 o6 J6 hx3 o16 na x1j x2j
      refine ⟨fun σ H' => ∃ (a : Addr) (B : List Str) (v6 : Option V), σ = [some (.ref j), some (.int m), some (.ref p), none, some (.ref a), none, v6] ∧ Off j H H' ∧ Jar H' j ∧ H a = none ∧ H' a = some (.lst (svs B)) ∧ isRound B = true ∧ B.length ≤ m + 1, ?_, ?_⟩
      · refine ⟨_, rfl, j, 2, rfl, J7, by decide, by decide, fun H8 d _ _ o8 J8 => ⟨rfl, _, rfl, ?_⟩⟩
        have ha8 := o8 _ _ aj ha7
        have o18 := o17.trans o8
        refine ite2 (fun _ => ?_) (fun _ => ?_)
        · refine ⟨_, rfl, _, rfl, a, _, rfl, .inl (SqL.of ha8), j, _, rfl, J8, by rw [svs_len', List.length_cons]; omega, by rw [svs_len', List.length_cons]; omega, fun H9 d2 d20 d21 o9 J9 => ⟨_, _, rfl, rfl, ?_⟩⟩
          rw [svs_len', List.length_cons] at d21
          obtain ⟨n2, rfl⟩ := Int.eq_ofNat_of_zero_le d20
          have ha9 := o9 _ _ aj ha8
          have o19 := o18.trans o9
          refine ⟨_, rfl, _, rfl, ((1 + n2 : Nat) : Int), by simp, a, _, rfl, SqL.of ha9, fun x1 nx1 => ?_⟩
          rw [cut_to _ _ (by rw [svs_len', List.length_cons]; omega), svs_take]
          refine ⟨_, rfl, (by show 1 ≤ sizeLine; decide), fun x2 nx2 => ?_⟩
          have o20 := (o19.new (o := .lst (svs ((("ask" : Str) :: ws).take (1 + n2)))) nx1).new (o := .lst (svs ["add"])) nx2
          have J20 := (J9.new (o := .lst (svs ((("ask" : Str) :: ws).take (1 + n2)))) nx1).new (o := .lst (svs ["add"])) nx2
          refine ⟨j, x2, ["add"], 1, rfl, J20, jar_ne (J9.new nx1) nx2, SqL.of upd_same, by decide, by decide, by decide +kernel, by decide, fun H10 x3 xs o10 J10 nx3 hx3 lx hxs => ?_⟩
          have x1j := jar_ne J9 nx1
          refine ⟨x1, x3, _, _, rfl, rfl, o10 _ _ x1j (same_new nx2 _ _ upd_same), hx3, ?_, fun x4 nx4 => ?_⟩
          · rw [svs_len', svs_len', List.length_take]
            exact szl (by omega)
          rw [svs_app]
          have ha10 := o10 _ _ aj (same_new nx2 _ _ (same_new nx1 _ _ ha9))
          refine ⟨_, rfl, _, rfl, ((1 + n2 : Nat) : Int), by simp, a, _, rfl, SqL.of (same_new nx4 _ _ ha10), fun x5 nx5 => ?_⟩
          rw [cut_from, svs_drop]
          refine ⟨x4, x5, _, _, rfl, rfl, same_new nx5 _ _ upd_same, upd_same, ?_, fun x6 nx6 => ?_⟩
          · rw [svs_len', svs_len', List.length_append, List.length_take, List.length_drop, List.length_cons]
            exact szl (by omega)
          rw [svs_app]
          have o21 := o20.trans o10
          have na6 := (((o21.new (o := .lst (svs ((("ask" : Str) :: ws).take (1 + n2) ++ xs))) nx4).new (o := .lst (svs ((("ask" : Str) :: ws).drop (1 + n2)))) nx5)).free ((J10.new nx4).new nx5) nx6
          refine ⟨x6, _, _, rfl, ((o21.new nx4).new nx5).new nx6, ((J10.new nx4).new nx5).new nx6, na6, upd_same, ?_, ?_⟩
          · refine ins_round R.1 (by omega) (fun x hx => wd_round ((hxs x hx).mono (by decide +kernel))) (by rw [List.length_cons]; omega) ?_
            rw [R.2]
            have := one_filter lx
            omega
          · rw [List.length_append, List.length_append, List.length_take, List.length_drop, List.length_cons]
            omega
        · exact ⟨a, _, none, rfl, o18, J8, na0, ha8, R.1, by rw [List.length_cons]; omega⟩
      rintro _ H8 ⟨a, B, v6, rfl, o8, J8, na, ha8, rB, lB⟩
      have aj := jar_ne hJ na
      refine ⟨_, rfl, _, rfl, (by show 3 ≤ sizeLine; decide), fun x2 nx2 => ?_⟩
      have x2j := jar_ne J8 nx2
      refine ⟨_, rfl, j, 3, rfl, J8.new nx2, by decide, by decide, fun H9 d d0 d1 o9 J9 => ?_⟩
      obtain ⟨n3, rfl⟩ := Int.eq_ofNat_of_zero_le d0
      have o19 := (o8.new nx2).trans o9
      refine ⟨j, x2, esteps, n3, rfl, J9, x2j, SqL.of (o9 _ _ x2j upd_same), by decide, by decide, by decide +kernel, by omega, fun H10 b E' o10 J10 nb hb lE hE => ?_⟩
      have nb0 := o19.free J9 nb
      refine ⟨(by show 2 ≤ sizeLine; decide), fun r nr => ?_⟩
      have ha10 := o10 _ _ aj (o9 _ _ aj (same_new nx2 _ _ ha8))
      exact k _ r a b B E' ⟨(o19.trans o10).new nr, J10.new nr, na, nb0, same_new nr _ _ ha10, same_new nr _ _ hb, rB, words_ending hE (by omega), lB, by omega⟩ upd_same
end
end My

namespace My
open PySem L2 Cm LM
/-! ### rows of texts as data -/
def strD (ws : List Str) : List PyData := ws.map PyData.str
theorem dpS {K : PySem.W.Frag} {H : Hp} : ∀ ws : List Str, DpAll K H (svs ws) (strD ws)
  | [] => .nil
  | x :: r => .cons (.str x) (dpS r)
theorem strD_lay : ∀ {ws : List Str}, (∀ w ∈ ws, Asc w) → PyData.canLayAll0 (strD ws) = true
  | [], _ => by simp [strD, PyData.canLayAll0]
  | x :: r, h => by
    have h1 := strD_lay (ws := r) fun w hw => h w (List.mem_cons_of_mem _ hw)
    have h2 : PyData.strOk x = true := h x (List.mem_cons_self ..)
    simp only [strD, List.map_cons, PyData.canLayAll0, PyData.canLay0, h2, Bool.true_and] at h1 ⊢
    exact h1
theorem strD_depth : ∀ ws : List Str, PyData.depthAll (strD ws) ≤ 1
  | [] => by simp [strD, PyData.depthAll]
  | x :: r => by
    have := strD_depth r
    simp only [strD, List.map_cons, PyData.depthAll, PyData.depth] at this ⊢
    omega
theorem strD_shaped {ws : List Str} (h : ∀ w ∈ ws, Asc w) : SeqAt.shaped (.list (strD ws)) = true := by
  have := strD_depth ws
  refine Bool.and_eq_true_iff.mpr ⟨by simp only [PyData.canLay0]; exact strD_lay h, decide_eq_true ?_⟩
  simp only [PyData.depth]
  omega
theorem eqv_nil (ws : List Str) : PyData.eqv (.list (strD ws)) (.list []) = decide (ws = []) := by
  cases ws with
  | nil => simp [strD, PyData.eqv, PyData.eqvAll]
  | cons x r => simp [strD, PyData.eqv, PyData.eqvAll]
section
variable {P : Program} {w : World} {K : PySem.W.Frag} {mg : Str → Option Value} {base : Heap}
/-! ### _law_line -/
def spLine : Sp := fun vs H Q _ => ∃ (a b : Addr) (B E : List Str), vs = [.ref a, .ref b] ∧ H a = some (.lst (svs B)) ∧ H b = some (.lst (svs E)) ∧ Sht 100 B ∧ Sht 100 E ∧ (∀ w ∈ E, Asc w) ∧ ∀ H', Same H H' → Q (.str (line B E)) H'
theorem scLine : FnScope ["_law_begun", "_law_ended"] ["_law_begun", "_law_ended"] (defScope sLine) := ⟨rfl, rfl, rfl, by decide +kernel, rfl, by decide +kernel, by decide +kernel⟩
theorem ok_line (D : TxD K mg) : FnOk P w K mg base CX0 1 D.lin.f D.lin.fd ["_law_begun", "_law_ended"] spLine := by
  refine D.lin.F.ok scLine (fun vs H Q E h => ?_) (fun cdv A outer s H vs Q E hr h => ?_)
  · obtain ⟨a, b, B, E, rfl, _⟩ := h
    rfl
  · obtain ⟨a, b, B, E, rfl, ha, hb, sB, sE, aE, k⟩ := h
    refine ⟨_, pss_one (ps_ret (pe_ifExp (pt_cmpR (op_neD (hu64 hr)) (pv 1) (pe_lst pa_nil) (nomark _)) (pe_join pe_str (pe_op op_cat (pe_op op_cat (pv 0) (pe_lst (pa_cons pe_str pa_nil))) (pv 1))) (pe_join pe_str (pv 0)))), ?_⟩
    refine ⟨_, rfl, Nat.zero_le _, fun e ne => ?_⟩
    refine ⟨.list (strD E), .list [], .lst (SqL.of (same_new ne _ _ hb)) (dpS E), .lst (SqL.of upd_same) .nil, strD_shaped aE, by decide, _, rfl, ?_⟩
    rw [eqv_nil]
    have s1 : Same H (upd H e (.lst [])) := same_new ne
    generalize upd H e (.lst []) = H1 at s1 ⊢
    have l1 : (" " : Str).length = 1 := by decide +kernel
    unfold line at k
    by_cases hE : E = []
    · rw [decide_eq_true hE]
      rw [if_pos hE] at k
      refine iteF ⟨⟨_, rfl⟩, _, rfl, " ", a, B, rfl, rfl, .inl (SqL.of (s1 _ _ ha)), ?_, k _ s1⟩
      rw [l1]
      have := sB.sum
      omega
    · rw [decide_eq_false hE]
      rw [if_neg hE] at k
      refine iteT ⟨⟨_, rfl⟩, _, rfl, (by show 1 ≤ sizeLine; decide), fun x nx => ?_⟩
      refine ⟨a, x, _, _, rfl, rfl, same_new nx _ _ (s1 _ _ ha), upd_same, ?_, fun y ny => ?_⟩
      · rw [svs_len']
        have := sB.2
        exact szl (by show B.length + 1 ≤ 1000; omega)
      refine ⟨_, rfl, y, b, _, _, rfl, rfl, upd_same, same_new ny _ _ (same_new nx _ _ (s1 _ _ hb)), ?_, fun z nz => ?_⟩
      · rw [List.length_append, svs_len', svs_len']
        have := sB.2
        have := sE.2
        exact szl (by show B.length + 1 + E.length ≤ 1000; omega)
      refine ⟨" ", z, B ++ [("|" : Str)] ++ E, rfl, rfl, .inl (SqL.of (by rw [upd_same]; simp [svs])), ?_, ?_⟩
      · have sh : Sht 201 (B ++ [("|" : Str)] ++ E) := by
          refine ⟨fun w hw => ?_, ?_⟩
          · rcases List.mem_append.mp hw with hw | hw
            · rcases List.mem_append.mp hw with hw | hw
              · exact sB.1 w hw
              · rw [List.mem_singleton.mp hw]
                decide +kernel
            · exact sE.1 w hw
          · rw [List.length_append, List.length_append]
            have := sB.2
            have := sE.2
            simp
            omega
        rw [l1]
        have := sh.sum
        omega
      · exact k _ (Same.trans s1 (Same.trans (same_new nx) (Same.trans (same_new ny) (same_new nz))))
end
end My

/-! loops filled up; rows without one word -/
namespace LM
open PySem L2 TL
theorem again_ok : isWord "again" rsteps = true ∧ isAdd "again" = false := by decide +kernel
theorem cut_ok : isWord "cut" esteps = true := by decide +kernel
theorem pad_round {B : List Str} (h : isRound B = true) (n : Nat) (hl : B.length + n ≤ 12) : isRound (B ++ List.replicate n ("again" : Str)) = true := by
  obtain ⟨r, rfl, h2, h3, h4⟩ := isRound_iff.mp h
  refine isRound_iff.mpr ⟨r ++ List.replicate n ("again" : Str), rfl, by rw [List.length_append, List.length_replicate]; exact hl, ?_, fun w hw => ?_⟩
  · rw [List.filter_append]
    have e : (List.replicate n ("again" : Str)).filter isAdd = [] := List.filter_eq_nil_iff.mpr fun w hw => by
      rw [List.eq_of_mem_replicate hw, again_ok.2]
      exact Bool.false_ne_true
    rw [e, List.append_nil]
    exact h3
  · rcases List.mem_append.mp hw with hw | hw
    · exact h4 w hw
    · rw [List.eq_of_mem_replicate hw]
      exact again_ok.1
theorem pad_ending {E : List Str} (h : isEnding E = true) (n : Nat) (hl : E.length + n ≤ 6) : isEnding (E ++ List.replicate n ("cut" : Str)) = true := by
  have q := isEnding_iff.mp h
  refine isEnding_iff.mpr ⟨by rw [List.length_append, List.length_replicate]; exact hl, fun w hw => ?_⟩
  rcases List.mem_append.mp hw with hw | hw
  · exact q.2 w hw
  · rw [List.eq_of_mem_replicate hw]
    exact cut_ok
/-- the two rows of a loop without the word at n -/
def outB (B : List Str) (n : Nat) : List Str := if n < B.length then B.eraseIdx n else B
def outE (B E : List Str) (n : Nat) : List Str := if n < B.length then E else E.eraseIdx (n - B.length)
theorem out_row (B E : List Str) (n m : Nat) (hm : m = B.length - (if n < B.length then 1 else 0)) : ((B ++ E).take n ++ (B ++ E).drop (n + 1)).take m = outB B n ∧ ((B ++ E).take n ++ (B ++ E).drop (n + 1)).drop m = outE B E n := by
  rw [← List.eraseIdx_eq_take_drop_succ]
  unfold outB outE
  by_cases h : n < B.length
  · rw [if_pos h] at hm ⊢
    rw [if_pos h, List.eraseIdx_append_of_lt_length h]
    have e : m = (B.eraseIdx n).length := by rw [List.length_eraseIdx, if_pos h]; exact hm
    rw [e, List.take_left, List.drop_left]
    exact ⟨rfl, rfl⟩
  · rw [if_neg h] at hm ⊢
    rw [if_neg h, List.eraseIdx_append_of_length_le (by omega)]
    have e : m = B.length := by omega
    rw [e, List.take_left, List.drop_left]
    exact ⟨rfl, rfl⟩
theorem outB_round {B : List Str} {n : Nat} (h : isRound B = true) (hn : 1 ≤ n) : isRound (outB B n) = true := by
  unfold outB
  split
  · exact round_erase h hn
  · exact h
theorem outE_ending {B E : List Str} {n : Nat} (h : isEnding E = true) : isEnding (outE B E n) = true := by
  unfold outE
  split
  · exact h
  · exact ending_erase h
theorem out_len {B E : List Str} {n : Nat} (h : n < B.length + E.length) : (outB B n).length + (outE B E n).length + 1 = B.length + E.length := by
  unfold outB outE
  by_cases hn : n < B.length
  · rw [if_pos hn, if_pos hn, List.length_eraseIdx, if_pos hn]
    omega
  · rw [if_neg hn, if_neg hn, List.length_eraseIdx, if_pos (by omega)]
    omega
end LM

/-! words taken apart by split -/
namespace LM
open PySem L2 TL
def partsOk (w : Str) : Bool := decide ((orderOf w).2 ∈ rsteps) && (if (orderOf w).1 = Str.empty then decide (Txt.split w ":" = [(orderOf w).2]) else decide (Txt.split w ":" = [(orderOf w).1, (orderOf w).2]) && decide ((orderOf w).1 ∈ tests))
theorem parts_ok : ∀ w ∈ allWd rsteps, partsOk w = true := by decide +kernel
structure Parts (w : Str) : Prop where
  s : (orderOf w).2 ∈ rsteps
  p : ((orderOf w).1 = Str.empty ∧ Txt.split w ":" = [(orderOf w).2]) ∨ ((orderOf w).1 ≠ Str.empty ∧ Txt.split w ":" = [(orderOf w).1, (orderOf w).2] ∧ (orderOf w).1 ∈ tests)
theorem parts_of {w : Str} (h : Wd rsteps w) : Parts w := by
  have q := parts_ok w h.mem
  unfold partsOk at q
  have q2 := Bool.and_eq_true_iff.mp q
  refine ⟨of_decide_eq_true q2.1, ?_⟩
  have q3 := q2.2
  split at q3
  next e => exact .inl ⟨e, of_decide_eq_true q3⟩
  next e =>
    have q4 := Bool.and_eq_true_iff.mp q3
    exact .inr ⟨e, of_decide_eq_true q4.1, of_decide_eq_true q4.2⟩
theorem emp : Str.empty = ("" : Str) := by decide +kernel
theorem esteps_flow : ∀ w ∈ allWd esteps, (orderOf w).2 ≠ "again" ∧ (orderOf w).2 ≠ "stop" := by decide +kernel
theorem ending_flow {E : List Str} (h : isEnding E = true) : ∀ o ∈ E.map orderOf, o.2 ≠ "again" ∧ o.2 ≠ "stop" := by
  intro o ho
  obtain ⟨w, hw, rfl⟩ := List.mem_map.mp ho
  exact esteps_flow w (word_wd ((isEnding_iff.mp h).2 w hw)).mem
theorem ask_order : orderOf "ask" = (("" : Str), ("ask" : Str)) := by decide +kernel
theorem round_tail_wd {B : List Str} (h : isRound B = true) : ∃ r, B = ("ask" : Str) :: r ∧ (∀ w ∈ r, Wd rsteps w) ∧ r.length ≤ 11 := by
  obtain ⟨r, rfl, h2, _, h4⟩ := isRound_iff.mp h
  rw [List.length_cons] at h2
  exact ⟨r, rfl, fun w hw => word_wd (h4 w hw), by omega⟩
theorem ending_wd {E : List Str} (h : isEnding E = true) : (∀ w ∈ E, Wd rsteps w) ∧ E.length ≤ 6 := ⟨fun w hw => (word_wd ((isEnding_iff.mp h).2 w hw)).mono e_r, (isEnding_iff.mp h).1⟩
end LM

/-! the law's own execution -/
namespace My
open PySem L2 Cm LM EM
abbrev sPassed : Stmt := top 55
abbrev sSliced : Stmt := top 56
abbrev sDone : Stmt := top 57
abbrev sFed : Stmt := top 58
abbrev sBox : Stmt := top 59
/-! ### boxes -/
def bx (r u : Addr) (g : Nat) (ov : Bool) : List (Key × V) := [(.inr "rest", .ref r), (.inr "out", .ref u), (.inr "got", .int g), (.inr "over", .bl ov)]
section
variable (r u r' : Addr) (g : Nat) (ov b : Bool)
theorem bx_r : valV (bx r u g ov) (.inr "rest") = some (.ref r) := by kernel_rfl
theorem bx_u : valV (bx r u g ov) (.inr "out") = some (.ref u) := by kernel_rfl
theorem bx_g : valV (bx r u g ov) (.inr "got") = some (.int g) := by kernel_rfl
theorem bx_o : valV (bx r u g ov) (.inr "over") = some (.bl ov) := by kernel_rfl
theorem bx_pr : putK (bx r u g ov) (.inr "rest") (.ref r') = bx r' u g ov := by kernel_rfl
theorem bx_pu : putK (bx r u g ov) (.inr "out") (.ref r') = bx r r' g ov := by kernel_rfl
theorem bx_po : putK (bx r u g ov) (.inr "over") (.bl b) = bx r u g b := by kernel_rfl
theorem bx_mk : mergeK [] (bx r u g ov) = bx r u g ov := by kernel_rfl
theorem bx_len : (bx r u g ov).length = 4 := rfl
end
section
variable {H : Hp} {b0 r u : Addr} {g : Nat} {ov : Bool}
theorem get_r (h : H b0 = some (.dK (bx r u g ov))) : DGet H b0 (.str "rest") (some (.ref r)) := by
  have := DGet.k (k := Sum.inr "rest") h
  rw [bx_r] at this
  exact this
theorem get_u (h : H b0 = some (.dK (bx r u g ov))) : DGet H b0 (.str "out") (some (.ref u)) := by
  have := DGet.k (k := Sum.inr "out") h
  rw [bx_u] at this
  exact this
theorem get_g (h : H b0 = some (.dK (bx r u g ov))) : DGet H b0 (.str "got") (some (.int g)) := by
  have := DGet.k (k := Sum.inr "got") h
  rw [bx_g] at this
  exact this
theorem get_o (h : H b0 = some (.dK (bx r u g ov))) : DGet H b0 (.str "over") (some (.bl ov)) := by
  have := DGet.k (k := Sum.inr "over") h
  rw [bx_o] at this
  exact this
theorem dput_r (r' : Addr) (h : H b0 = some (.dK (bx r u g ov))) : DPut H b0 (.str "rest") (.ref r') (upd H b0 (.dK (bx r' u g ov))) := by
  have := DPut.k (k := Sum.inr "rest") (v := .ref r') h (by rw [bx_len]; decide)
  rw [bx_pr] at this
  exact this
theorem dput_u (r' : Addr) (h : H b0 = some (.dK (bx r u g ov))) : DPut H b0 (.str "out") (.ref r') (upd H b0 (.dK (bx r r' g ov))) := by
  have := DPut.k (k := Sum.inr "out") (v := .ref r') h (by rw [bx_len]; decide)
  rw [bx_pu] at this
  exact this
theorem dput_o (o' : Bool) (h : H b0 = some (.dK (bx r u g ov))) : DPut H b0 (.str "over") (.bl o') (upd H b0 (.dK (bx r u g o'))) := by
  have := DPut.k (k := Sum.inr "over") (v := .bl o') h (by rw [bx_len]; decide)
  rw [bx_po] at this
  exact this
end
structure BoxAt (H : Hp) (b : Addr) (x : RP) (g : Nat) (ov : Bool) : Prop where
  ex : ∃ r u vs, H b = some (.dK (bx r u g ov)) ∧ H r = some (.lst (ivs x.rest)) ∧ H u = some (.lst vs) ∧ Pcs H vs x.pieces
theorem BoxAt.same {H H' : Hp} {b : Addr} {x : RP} {g : Nat} {ov : Bool} (s : Same H H') (h : BoxAt H b x g ov) : BoxAt H' b x g ov := let ⟨r, u, vs, a, b, c, d⟩ := h.ex; ⟨r, u, vs, s _ _ a, s _ _ b, s _ _ c, d.same s⟩
theorem BoxAt.off {j : Addr} {H H' : Hp} {b : Addr} {x : RP} {g : Nat} {ov : Bool} (s : Off j H H') (n : ∀ u, H j = some u → (∀ kvs, u ≠ .dK kvs) ∧ (∀ xs, u ≠ .tup xs) ∧ ∃ a b c : Int, u = .lst [.int a, .int b, .int c]) (jb : ∀ r u vs, H b = some (.dK (bx r u g ov)) → H r = some (.lst (ivs x.rest)) → H u = some (.lst vs) → r ≠ j ∧ u ≠ j ∧ b ≠ j) (tp : ∀ q xs, H q = some (.tup xs) → q ≠ j) (h : BoxAt H b x g ov) : BoxAt H' b x g ov := by
  obtain ⟨r, u, vs, h1, h2, h3, h4⟩ := h.ex
  obtain ⟨n1, n2, n3⟩ := jb r u vs h1 h2 h3
  exact ⟨r, u, vs, s _ _ n3 h1, s _ _ n1 h2, s _ _ n2 h3, h4.mono fun q xs e => s _ _ (tp q xs e) e⟩
structure TxB (K : PySem.W.Frag) (mg : Str → Option Value) where
  J : TxtJ mg
  range : mg "range" = none
  tuple : mg "tuple" = none
  list : mg "list" = none
  pas : Df K mg "_law_passed" sPassed ["_law_test", "_law_got", "_law_box_here", "_law_said", "_law_wide"]
  sli : Df K mg "_law_sliced" sSliced ["_law_row_here", "_law_wide", "_law_many"]
  don : Df K mg "_law_done" sDone ["_law_words_here", "_law_got", "_law_box_here", "_law_said", "_law_wide"]
  fed : Df K mg "_law_fed" sFed ["_law_made", "_law_box_here", "_law_many", "_law_said", "_law_wide"]
  box : Df K mg "_law_box" sBox []
section
variable {P : Program} {w : World} {K : PySem.W.Frag} {mg : Str → Option Value} {base : Heap}
/-! ### _law_passed -/
def spPd : Sp := fun vs H Q _ => ∃ (ga b : Addr) (t : Str) (got : List Int) (x : RP) (g : Nat) (ov said : Bool) (wide : Nat), vs = [.str t, .ref ga, .ref b, .bl said, .int wide] ∧ t ∈ tests ∧ H ga = some (.lst (ivs got)) ∧ BoxAt H b x g ov ∧ ∀ H', Same H H' → Q (.bl (passM wide got said t x.rest)) H'
theorem scPd : FnScope ["_law_test", "_law_got", "_law_box_here", "_law_said", "_law_wide"] ["_law_test", "_law_got", "_law_box_here", "_law_said", "_law_wide"] (defScope sPassed) := ⟨rfl, rfl, rfl, by decide +kernel, rfl, by decide +kernel, by decide +kernel⟩
theorem pass_1 {wide : Nat} {got rest : List Int} {said : Bool} {t : Str} (h : t = "empty" ∨ t = "some") : passM wide got said t rest = decide (decide (got = []) = decide (t = "empty")) := by
  have e := pos_nil got
  rcases h with rfl | rfl
  · unfold passM
    rw [if_neg (by decide +kernel), if_neg (by decide +kernel), if_neg (by decide +kernel), if_pos (by decide +kernel), e, show decide (("empty" : Str) = "some") = false by decide +kernel, show decide (("empty" : Str) = "empty") = true by decide +kernel]
    cases decide (got = []) <;> rfl
  · unfold passM
    rw [if_neg (by decide +kernel), if_neg (by decide +kernel), if_neg (by decide +kernel), if_pos (by decide +kernel), e, show decide (("some" : Str) = "some") = true by decide +kernel, show decide (("some" : Str) = "empty") = false by decide +kernel]
    cases decide (got = []) <;> rfl
theorem pass_2 {wide : Nat} {got rest : List Int} {said : Bool} {t : Str} (h : t = "short" ∨ t = "full") : passM wide got said t rest = decide (decide (got.length < wide) = decide (t = "short")) := by
  rcases h with rfl | rfl
  · unfold passM
    rw [if_neg (by decide +kernel), if_neg (by decide +kernel), if_neg (by decide +kernel), if_neg (by decide +kernel)]
    rfl
  · unfold passM
    rw [if_neg (by decide +kernel), if_neg (by decide +kernel), if_neg (by decide +kernel), if_neg (by decide +kernel)]
    rfl
theorem pass_3 {wide : Nat} {got rest : List Int} {said : Bool} {t : Str} (h : t = "told" ∨ t = "open") : passM wide got said t rest = decide (said = decide (t = "told")) := by
  have h0 : ¬ t = "" := by rcases h with rfl | rfl <;> decide +kernel
  unfold passM
  rw [if_neg h0, if_pos h]
  rfl
theorem pass_4 {wide : Nat} {got rest : List Int} {said : Bool} {t : Str} (ht : t ∈ tests) (h1 : ¬ (t = "empty" ∨ t = "some")) (h2 : ¬ (t = "short" ∨ t = "full")) (h3 : ¬ (t = "told" ∨ t = "open")) : passM wide got said t rest = decide ((!decide (rest = [])) = decide (t = "rest")) := by
  have h4 : t = "rest" ∨ t = "bare" := by
    have h5 : t = "empty" ∨ t = "some" ∨ t = "short" ∨ t = "full" ∨ t = "told" ∨ t = "open" ∨ t = "rest" ∨ t = "bare" := by simpa [tests] using ht
    rcases h5 with h | h | h | h | h | h | h | h
    · exact absurd (.inl h) h1
    · exact absurd (.inr h) h1
    · exact absurd (.inl h) h2
    · exact absurd (.inr h) h2
    · exact absurd (.inl h) h3
    · exact absurd (.inr h) h3
    · exact .inl h
    · exact .inr h
  have h0 : ¬ t = "" := by rcases h4 with rfl | rfl <;> decide +kernel
  unfold passM
  rw [if_neg h0, if_neg h3, if_pos h4, pos_nil]
  rfl
theorem ok_pd (B : TxB K mg) : FnOk P w K mg base CX0 1 B.pas.f B.pas.fd ["_law_test", "_law_got", "_law_box_here", "_law_said", "_law_wide"] spPd := by
  refine B.pas.F.ok scPd (fun vs H Q E h => ?_) (fun cdv A outer s H vs Q E hr h => ?_)
  · obtain ⟨ga, b, t, got, x, g, ov, said, wide, rfl, _⟩ := h
    rfl
  · obtain ⟨ga, b, t, got, x, g, ov, said, wide, rfl, ht, hg, hB, k⟩ := h
    have hu := hu_of hr
    refine ⟨_, pss_cons (ps_if (pt_cmpR op_in_seq (pv 0) (pe_lst (pa_cons pe_str (pa_cons pe_str pa_nil))) (by rfl)) (pss_one (ps_ret (pe_cmpR op_eq (pe_cmpR (op_eqD (hu64 hr)) (pv 1) (pe_lst pa_nil) (nomark _)) (pe_cmpR op_eq (pv 0) pe_str (nomark _)) (nomark _)))) pss_nil)
      (pss_cons (ps_if (pt_cmpR op_in_seq (pv 0) (pe_lst (pa_cons pe_str (pa_cons pe_str pa_nil))) (by rfl)) (pss_one (ps_ret (pe_cmpR op_eq (pe_cmpR op_lt (pe_callB call_len_seq (by rfl) B.J.len PySem.boot_len (pa_cons (pv 1) pa_nil)) (pv 4) (nomark _)) (pe_cmpR op_eq (pv 0) pe_str (nomark _)) (nomark _)))) pss_nil)
      (pss_cons (ps_if (pt_cmpR op_in_seq (pv 0) (pe_lst (pa_cons pe_str (pa_cons pe_str pa_nil))) (by rfl)) (pss_one (ps_ret (pe_cmpR op_eq (pv 3) (pe_cmpR op_eq (pv 0) pe_str (nomark _)) (nomark _)))) pss_nil)
      (pss_one (ps_ret (pe_cmpR op_eq (pe_cmpR (op_neD (hu64 hr)) (pe_dget hu (pv 2) pe_str (fun _ _ => rfl)) (pe_lst pa_nil) (nomark _)) (pe_cmpR op_eq (pv 0) pe_str (nomark _)) (nomark _)))))), ?_⟩
    refine ⟨_, rfl, (by show 2 ≤ sizeLine; decide), fun t1 n1 => ⟨t1, _, rfl, .inl (SqL.of upd_same), rfl, rfl, _, rfl, ?_⟩⟩
    have s1 : Same H (upd H t1 (.lst [.str "empty", .str "some"])) := same_new n1
    generalize upd H t1 (.lst [.str "empty", .str "some"]) = H1 at s1 ⊢
    rw [show (if false = true then !inV (V.str t) [V.str "empty", V.str "some"] else inV (V.str t) [V.str "empty", V.str "some"]) = decide (t = "empty" ∨ t = "some") from in2 ..]
    by_cases h1 : t = "empty" ∨ t = "some"
    · rw [decide_eq_true h1]
      refine iteT ⟨_, rfl, Nat.zero_le _, fun e ne => ?_⟩
      refine ⟨.list (intD got), .list [], .lst (SqL.of (same_new ne _ _ (s1 _ _ hg))) (dpI got), .lst (SqL.of upd_same) .nil, intD_shaped _, by decide, _, rfl, rfl, rfl, ?_⟩
      rw [eqv_inil, dS, dB]
      have := k _ (Same.trans s1 (same_new (o := .lst []) ne))
      rw [pass_1 h1] at this
      exact this
    rw [decide_eq_false h1]
    refine iteF ?_
    refine ⟨_, rfl, (by show 2 ≤ sizeLine; decide), fun t2 n2 => ⟨t2, _, rfl, .inl (SqL.of upd_same), rfl, rfl, _, rfl, ?_⟩⟩
    have s2 : Same H (upd H1 t2 (.lst [.str "short", .str "full"])) := Same.trans s1 (same_new n2)
    generalize upd H1 t2 (.lst [.str "short", .str "full"]) = H2 at s2 ⊢
    rw [show (if false = true then !inV (V.str t) [V.str "short", V.str "full"] else inV (V.str t) [V.str "short", V.str "full"]) = decide (t = "short" ∨ t = "full") from in2 ..]
    by_cases h2 : t = "short" ∨ t = "full"
    · rw [decide_eq_true h2]
      refine iteT ⟨_, rfl, ga, _, rfl, .inl (SqL.of (s2 _ _ hg)), _, rfl, _, _, rfl, rfl, _, rfl, rfl, rfl, ?_⟩
      rw [dS, dB, ivs_len, lt_dec]
      have := k _ s2
      rw [pass_2 h2] at this
      exact this
    rw [decide_eq_false h2]
    refine iteF ?_
    refine ⟨_, rfl, (by show 2 ≤ sizeLine; decide), fun t3 n3 => ⟨t3, _, rfl, .inl (SqL.of upd_same), rfl, rfl, _, rfl, ?_⟩⟩
    have s3 : Same H (upd H2 t3 (.lst [.str "told", .str "open"])) := Same.trans s2 (same_new n3)
    generalize upd H2 t3 (.lst [.str "told", .str "open"]) = H3 at s3 ⊢
    rw [show (if false = true then !inV (V.str t) [V.str "told", V.str "open"] else inV (V.str t) [V.str "told", V.str "open"]) = decide (t = "told" ∨ t = "open") from in2 ..]
    by_cases h3 : t = "told" ∨ t = "open"
    · rw [decide_eq_true h3]
      refine iteT ⟨_, rfl, _, rfl, rfl, rfl, ?_⟩
      rw [dS, dB]
      have := k _ s3
      rw [pass_3 h3] at this
      exact this
    rw [decide_eq_false h3]
    refine iteF ?_
    obtain ⟨r, u, vs, hb, hr1, hu1, hP⟩ := (hB.same s3).ex
    refine ⟨_, rfl, b, _, rfl, get_r hb, Nat.zero_le _, fun e ne => ?_⟩
    refine ⟨.list (intD x.rest), .list [], .lst (SqL.of (same_new ne _ _ hr1)) (dpI _), .lst (SqL.of upd_same) .nil, intD_shaped _, by decide, _, rfl, rfl, rfl, ?_⟩
    rw [eqv_inil, dS, dB]
    have := k _ (Same.trans s3 (same_new (o := .lst []) ne))
    rw [pass_4 ht h1 h2 h3] at this
    exact this
/-! ### _law_sliced -/
def spSl : Sp := fun vs H Q _ => ∃ (ra : Addr) (row : List Int) (wide many : Nat), vs = [.ref ra, .int wide, .int many] ∧ H ra = some (.lst (ivs row)) ∧ wide ≤ 1000 ∧ many * wide ≤ row.length ∧ row.length ≤ 4000000 ∧ many ≤ 4000000 ∧ ∀ (H' : Hp) (q : Addr) (vs : List V), Same H H' → H' q = some (.lst vs) → Pcs H' vs (cutN wide row many) → Q (.ref q) H'
theorem scSl : FnScope ["_law_row_here", "_law_wide", "_law_many", "_law_k"] ["_law_row_here", "_law_wide", "_law_many"] (defScope sSliced) := ⟨rfl, rfl, rfl, by decide +kernel, rfl, by decide +kernel, by decide +kernel⟩
/-- tuple(row[k * wide:k * wide + wide]) -/
def teSl : TE := fun σ H Q => ∃ (ra : Addr) (row : List Int) (wide k : Nat), σ[0]? = some (some (.ref ra)) ∧ σ[1]? = some (some (.int wide)) ∧ σ[3]? = some (some (.int k)) ∧ H ra = some (.lst (ivs row)) ∧ wide ≤ 1000 ∧ k * wide + wide ≤ row.length ∧
  ∀ (H' : Hp) (q : Addr), Same H H' → H' q = some (.tup (ivs ((row.drop (k * wide)).take wide))) → Q (.ref q) H'
theorem ok_sl (B : TxB K mg) : FnOk P w K mg base CX0 1 B.sli.f B.sli.fd ["_law_row_here", "_law_wide", "_law_many"] spSl := by
  refine B.sli.F.ok scSl (fun vs H Q E h => ?_) (fun cdv A outer s H vs Q E hr h => ?_)
  · obtain ⟨ra, row, wide, many, rfl, _⟩ := h
    rfl
  · obtain ⟨ra, row, wide, many, rfl, hra, w1, l1, l2, l3, k⟩ := h
    refine ⟨_, pss_one (ps_ret (pe_lc (own := [("_law_k", 3)]) (g := gName 3) (tt := tYes) (te := teSl) rfl scSl.nd (pi_range1 rfl B.range (pa_cons (pv 2) pa_nil)) (blkOk_by (own := [("_law_k", 3)]) (N := ["_law_row_here", "_law_wide", "_law_many", "_law_k"]) (sc := defScope sSliced) (by decide +kernel))
      (fun _ _ _ _ _ => pg_name (i := 3) scSl.nd rfl (Or.inl rfl)) (fun _ _ _ _ _ => pts_nil)
      (fun _ _ _ _ _ => pe_imp (pe_callTy call_tuple_of (by rfl) B.tuple (by decide +kernel) (pa_cons (pe_slice sl_list (pv 0) (po_some (pe_op op_mul (pv 3) (pv 1))) (po_some (pe_op op_add (pe_op op_mul (pv 3) (pv 1)) (pv 1)))) pa_nil)) (by
        rintro σ H Q ⟨ra, row, wide, k, h0, h1, h3, hra, w1, l1, q⟩
        refine ⟨_, h0, _, h3, _, h1, _, _, rfl, rfl, .inr ⟨by omega, by omega⟩, ((k * wide : Nat) : Int), by rw [Int.natCast_mul], _, h3, _, h1, _, _, rfl, rfl, .inr ⟨by omega, by omega⟩, _, h1, _, _, rfl, rfl, ((k * wide + wide : Nat) : Int), by rw [Int.natCast_add, Int.natCast_mul], ra, _, rfl, SqL.of hra, fun p np => ?_⟩
        refine ⟨p, _, rfl, .inl ⟨SqL.of upd_same, fun l nl => ?_⟩⟩
        refine q _ l (Same.trans (same_new np) (same_new nl)) ?_
        rw [upd_same, cut_mid _ _ _ (by omega) (by rw [ivs_len]; exact l1), show k * wide + wide - k * wide = wide by omega]
        simp [ivs, List.map_take, List.map_drop])))), ?_⟩
    refine ⟨_, rfl, many, rfl, by omega, by omega, fun D nD => ?_⟩
    refine lc_range (lo := 0) (n := ((many : Int)).toNat) (fun i H' => Same H H' ∧ ∃ vs, H' D = some (.lst vs) ∧ Pcs H' vs (cutN wide row i)) ⟨same_new nD, [], upd_same, .nil⟩ ?_ ?_
    · rintro i H1 hi ⟨s1, vs, hD, hP⟩
      have hi : i < many := by simpa using hi
      have m1 : (i + 1) * wide ≤ row.length := Nat.le_trans (Nat.mul_le_mul_right _ hi) l1
      have m2 : (i + 1) * wide = i * wide + wide := Nat.succ_mul i wide
      refine ⟨rfl, ra, row, wide, i, rfl, rfl, by rw [Int.zero_add]; rfl, s1 _ _ hra, w1, by omega, fun H2 q s2 hq => ?_⟩
      have hD2 := s2 _ _ hD
      have st := tup_stays (o' := .lst (vs ++ [.ref q])) hD2 (by intro xs z; cases z)
      have lp := hP.len
      refine ⟨vs, hD2, ?_, fun b o e => ?_, _, upd_same, ?_⟩
      · rw [lp, cutN, List.length_map, List.length_range]
        exact Nat.lt_of_le_of_lt (show i ≤ 4000000 by omega) (by decide)
      · rw [upd_ne (ne_of_none e nD)]
        exact s2 _ _ (s1 _ _ e)
      · rw [cutN_succ]
        exact Pcs.snoc (st _ _ hq) ((hP.same s2).mono st)
    · rintro H1 ⟨s1, vs, hD, hP⟩
      exact k H1 D vs s1 hD (by simpa using hP)
end
end My

namespace My
open PySem L2 Cm LM EM
section
variable {P : Program} {w : World} {K : PySem.W.Frag} {mg : Str → Option Value} {base : Heap}
/-- a box whose lists are not the jar -/
structure BoxJ (j : List Addr) (H : Hp) (b : Addr) (x : RP) (g : Nat) (ov : Bool) : Prop where
  ex : ∃ r u vs, H b = some (.dK (bx r u g ov)) ∧ H r = some (.lst (ivs x.rest)) ∧ H u = some (.lst vs) ∧ Pcs H vs x.pieces ∧ r ∉ j ∧ u ∉ j
theorem BoxJ.at {j : List Addr} {H : Hp} {b : Addr} {x : RP} {g : Nat} {ov : Bool} (h : BoxJ j H b x g ov) : BoxAt H b x g ov := let ⟨r, u, vs, a, b, c, d, _⟩ := h.ex; ⟨r, u, vs, a, b, c, d⟩
theorem BoxJ.same {j : List Addr} {H H' : Hp} {b : Addr} {x : RP} {g : Nat} {ov : Bool} (s : Same H H') (h : BoxJ j H b x g ov) : BoxJ j H' b x g ov := let ⟨r, u, vs, a, b, c, d, e⟩ := h.ex; ⟨r, u, vs, s _ _ a, s _ _ b, s _ _ c, d.same s, e⟩
theorem BoxJ.add {S : List Addr} {e : Addr} {H : Hp} {b : Addr} {x : RP} {g : Nat} {ov : Bool} (ne : H e = none) (h : BoxJ S H b x g ov) : BoxJ (e :: S) H b x g ov := by
  obtain ⟨r, u, vs, a, b, c, d, m, n⟩ := h.ex
  exact ⟨r, u, vs, a, b, c, d, fun z => (List.mem_cons.mp z).elim (fun y => by rw [y, ne] at b; cases b) m, fun z => (List.mem_cons.mp z).elim (fun y => by rw [y, ne] at c; cases c) n⟩
/-- lists somewhere -/
def Lss (H : Hp) (S : List Addr) : Prop := ∀ j ∈ S, ∃ xs, H j = some (.lst xs)
theorem Lss.same {H H' : Hp} {S : List Addr} (a : Lss H S) (s : Same H H') : Lss H' S := fun j hj => let ⟨xs, h⟩ := a j hj; ⟨xs, s _ _ h⟩
theorem BoxJ.offS {S : List Addr} {j : Addr} {H H' : Hp} {b : Addr} {x : RP} {g : Nat} {ov : Bool} (s : Off j H H') (hm : j ∈ S) (hj : ∃ xs, H j = some (.lst xs)) (h : BoxJ S H b x g ov) : BoxJ S H' b x g ov := by
  obtain ⟨r, u, vs, a, b, c, d, e, f⟩ := h.ex
  obtain ⟨xs, q⟩ := hj
  exact ⟨r, u, vs, s _ _ (ne_of a q (by intro z; cases z)) a, s _ _ (fun z => e (z ▸ hm)) b, s _ _ (fun z => f (z ▸ hm)) c, d.mono (fun p xs k => s _ _ (ne_of k q (by intro z; cases z)) k), e, f⟩
theorem BoxJ.sub {S T : List Addr} {H : Hp} {b : Addr} {x : RP} {g : Nat} {ov : Bool} (st : ∀ j ∈ T, j ∈ S) (h : BoxJ S H b x g ov) : BoxJ T H b x g ov := by
  obtain ⟨r, u, vs, a, b, c, d, e, f⟩ := h.ex
  exact ⟨r, u, vs, a, b, c, d, fun z => e (st _ z), fun z => f (st _ z)⟩
/-! ### _law_done -/
def ords (ws : List Str) : List (Str × Str) := ws.map orderOf
def spDn (j : List Addr) : Sp := fun vs H Q _ => ∃ (wa ga b : Addr) (ws : List Str) (got : List Int) (x : RP) (g : Nat) (ov said : Bool) (wide k c : Nat), vs = [.ref wa, .ref ga, .ref b, .bl said, .int wide] ∧ H wa = some (.lst (svs ws)) ∧ (∀ z ∈ ws, Wd rsteps z) ∧ ws.length ≤ 12 ∧ H ga = some (.lst (ivs got)) ∧ BoxJ j H b x g ov ∧ Lss H j ∧ FitK wide got k c x ∧ k ≤ 2400 ∧ c ≤ 7800000 ∧
  ∀ (H' : Hp) (z : Str), Off b H H' → BoxJ j H' b (runW wide got said (ords ws) x).1 g ov → decide (z = "stop") = (runW wide got said (ords ws) x).2 → Q (.str z) H'
theorem scDn : FnScope ["_law_words_here", "_law_got", "_law_box_here", "_law_said", "_law_wide", "_law_word_here", "_law_parts", "_law_many"] ["_law_words_here", "_law_got", "_law_box_here", "_law_said", "_law_wide"] (defScope sDone) := ⟨rfl, rfl, rfl, by decide +kernel, rfl, by decide +kernel, by decide +kernel⟩
/-- its test is not passed -/
def tSkip : TT := fun σ H Q => ∃ (q ga b : Addr) (wd : Str) (got : List Int) (x : RP) (g : Nat) (ov said : Bool) (wide : Nat), σ[6]? = some (some (.ref q)) ∧ σ[1]? = some (some (.ref ga)) ∧ σ[2]? = some (some (.ref b)) ∧ σ[3]? = some (some (.bl said)) ∧ σ[4]? = some (some (.int wide)) ∧ Parts wd ∧ H q = some (.lst (svs (Txt.split wd ":"))) ∧ H ga = some (.lst (ivs got)) ∧ BoxAt H b x g ov ∧
  ∀ H', Same H H' → Q (!(passM wide got said (orderOf wd).1 x.rest)) H'
theorem pass_0 {wide : Nat} {got rest : List Int} {said : Bool} : passM wide got said "" rest = true := by
  unfold passM
  rw [if_pos rfl]
theorem parts_last {wd : Str} (h : Parts wd) : ∃ pre, svs (Txt.split wd ":") = pre ++ [.str (orderOf wd).2] := by
  rcases h.p with ⟨_, e⟩ | ⟨_, e, _⟩
  · exact ⟨[], by rw [e]; rfl⟩
  · exact ⟨[.str (orderOf wd).1], by rw [e]; rfl⟩
theorem box_put {j : List Addr} {H H1 : Hp} {b r u r' u' : Addr} {g : Nat} {ov : Bool} {x x' : RP} {vs' : List V} (hb : H b = some (.dK (bx r u g ov))) (h1 : H r' = some (.lst (ivs x'.rest))) (h2 : H u' = some (.lst vs')) (h3 : Pcs H vs' x'.pieces) (n3 : r' ∉ j) (n4 : u' ∉ j) : BoxJ j (upd H b (.dK (bx r' u' g ov))) b x' g ov := by
  have n1 : r' ≠ b := ne_of h1 hb (by intro z; cases z)
  have n2 : u' ≠ b := ne_of h2 hb (by intro z; cases z)
  exact ⟨r', u', vs', upd_same, by rw [upd_ne n1]; exact h1, by rw [upd_ne n2]; exact h2, h3.mono (tup_stays hb (by intro xs z; cases z)), n3, n4⟩
theorem ok_dn (B : TxB K mg) (j : List Addr) : FnOk P w K mg base CX0 2 B.don.f B.don.fd ["_law_words_here", "_law_got", "_law_box_here", "_law_said", "_law_wide"] (spDn j) := by
  have GP : FnOk P w K mg base CX0 1 B.pas.f B.pas.fd ["_law_test", "_law_got", "_law_box_here", "_law_said", "_law_wide"] spPd := ok_pd B
  have GS : FnOk P w K mg base CX0 1 B.sli.f B.sli.fd ["_law_row_here", "_law_wide", "_law_many"] spSl := ok_sl B
  refine B.don.F.ok scDn (fun vs H Q E h => ?_) (fun cdv A outer s H vs Q E hr h => ?_)
  · obtain ⟨wa, ga, b, ws, got, x, g, ov, said, wide, k, c, rfl, _⟩ := h
    rfl
  · obtain ⟨wa, ga, b, ws, got, x, g, ov, said, wide, kk, cc, rfl, hwa, hwd, lws, hga, hB, hJ, hF, hk, hc, k⟩ := h
    have hu := hu_of hr
    refine ⟨_, (pss_cons (ps_for PassesOwn.never rfl (pi_list (pv 0)) (pg_name (i := 5) scDn.nd rfl (.inl rfl)) (pss_cons (ps_set (i := 6) scDn.nd rfl (.inl rfl) (pe_split (pv 5) pe_str)) (pss_cons (ps_if (pt_imp (t' := tSkip) (PW.pt (pw_and (pt_cmpR op_eq (pe_callB call_len_seq (by rfl) B.J.len PySem.boot_len (pa_cons (pv 6) pa_nil)) pe_int (nomark _)) (pw_and1 (pt_not (pt_val (pe_call GP hr rfl B.pas.g B.pas.k B.pas.b .nil pass0 (pa_cons (pe_ix ix_list (pv 6) pe_int (fun _ _ => rfl)) (pa_cons (pv 1) (pa_cons (pv 2) (pa_cons (pv 3) (pa_cons (pv 4) pa_nil))))))))))) ?imp) (pss_one ps_continue) pss_nil) (pss_cons (ps_if (pt_cmpR op_in_seq (pe_ix ix_list (pv 6) (pe_un un_neg pe_int) (fun _ _ => rfl)) (pe_lst (pa_cons pe_str (pa_cons pe_str pa_nil))) (by rfl)) (pss_one (ps_ret (pe_ix ix_list (pv 6) (pe_un un_neg pe_int) (fun _ _ => rfl)))) pss_nil) (pss_one (ps_if (pt_cmpR op_eq (pe_ix ix_list (pv 6) (pe_un un_neg pe_int) (fun _ _ => rfl)) pe_str (nomark _)) (pss_one (ps_dput hu (pv 2) pe_str (pe_op op_cat (pe_dget hu (pv 2) pe_str (fun _ _ => rfl)) (pv 1)) rfl)) (pss_one (ps_if (pt_cmpR op_eq (pe_ix ix_list (pv 6) (pe_un un_neg pe_int) (fun _ _ => rfl)) pe_str (nomark _)) (pss_one (ps_dput hu (pv 2) pe_str (pe_op op_cat (pe_dget hu (pv 2) pe_str (fun _ _ => rfl)) (pe_lst (pa_cons (pe_callTy call_tuple_of (by rfl) B.tuple (by decide +kernel) (pa_cons (pv 1) pa_nil)) pa_nil))) rfl)) (pss_one (ps_if (pt_cmpR op_eq (pe_ix ix_list (pv 6) (pe_un un_neg pe_int) (fun _ _ => rfl)) pe_str (nomark _)) (pss_one (ps_asg (pe_tup (pa_cons (pe_op op_cat (pe_dget hu (pv 2) pe_str (fun _ _ => rfl)) (pe_lst (pa_cons (pe_callTy call_tuple_of (by rfl) B.tuple (by decide +kernel) (pa_cons (pe_dget hu (pv 2) pe_str (fun _ _ => rfl)) pa_nil)) pa_nil))) (pa_cons (pe_lst pa_nil) pa_nil))) (pg_tup rfl (pgs_cons (pg_sub (pv 2) pe_str (set_dict hu)) (pgs_cons (pg_sub (pv 2) pe_str (set_dict hu)) pgs_nil))))) (pss_cons (ps_set (i := 7) scDn.nd rfl (.inl rfl) (pe_op op_fdiv (pe_callB call_len_seq (by rfl) B.J.len PySem.boot_len (pa_cons (pe_dget hu (pv 2) pe_str (fun _ _ => rfl)) pa_nil)) (pv 4))) (pss_cons (ps_dput hu (pv 2) pe_str (pe_op op_cat (pe_dget hu (pv 2) pe_str (fun _ _ => rfl)) (pe_call GS hr rfl B.sli.g B.sli.k B.sli.b .nil pass0 (pa_cons (pe_dget hu (pv 2) pe_str (fun _ _ => rfl)) (pa_cons (pv 4) (pa_cons (pv 7) pa_nil))))) rfl) (pss_one (ps_dput hu (pv 2) pe_str (pe_slice sl_list (pe_dget hu (pv 2) pe_str (fun _ _ => rfl)) (po_some (pe_op op_mul (pv 7) (pv 4))) po_none) rfl)))))))))))))) (pss_one (ps_ret pe_str))), ?_⟩
    case imp =>
      rintro σ H1 Q1 ⟨q, ga, b, wd, got, x, g, ov, said, wide, h6, h1, h2, h3, h4, hp, hq, hga, hB, k⟩
      refine ⟨_, h6, q, _, rfl, .inl (SqL.of hq), rfl, _, rfl, ?_⟩
      rw [dI]
      rcases hp.p with ⟨e1, e2⟩ | ⟨e1, e2, e3⟩
      · rw [e2, decide_eq_false (by show ¬ ((1 : Int)) = 2; decide)]
        have k1 := k H1 (Same.refl _)
        rw [e1, emp, pass_0] at k1
        exact iteF k1
      · rw [e2, decide_eq_true (by show ((2 : Int)) = 2; rfl)]
        rw [e2] at hq
        refine iteT ⟨_, h6, q, _, 0, _, rfl, rfl, SqL.of hq, rfl, _, h1, _, h2, _, h3, _, h4, ga, b, _, got, x, g, ov, said, wide, rfl, e3, hga, hB, fun H2 s2 => ⟨_, rfl, k H2 s2⟩⟩
    have lw : (svs ws).length = ws.length := svs_len' ws
    refine ⟨_, rfl, wa, rfl, ⟨_, SqL.of hwa⟩, ?_⟩
    obtain ⟨r0, u0, vs0, hb0, _⟩ := id hB.ex
    have nj : ∀ {Hx : Hp} {q : Addr}, Off b H Hx → Hx q = none → q ∉ j := fun {Hx q} o n z => by
      obtain ⟨xs1, hj⟩ := hJ q z
      have e := o q _ (ne_of hj hb0 (by intro z; cases z)) hj
      rw [e] at n
      cases n
    have wb : wa ≠ b := ne_of hwa hb0 (by intro z; cases z)
    have gb : ga ≠ b := ne_of hga hb0 (by intro z; cases z)
    refine for_list (K := K) (a := wa) (xs := svs ws) (fun i σ H' => ∃ v5 v6 v7, σ = [some (.ref wa), some (.ref ga), some (.ref b), some (.bl said), some (.int wide), v5, v6, v7] ∧ Off b H H' ∧ BoxJ j H' b (runW wide got said ((ords ws).take i) x).1 g ov ∧ goes wide got said ((ords ws).take i) x = true) ⟨none, none, none, rfl, Off.refl, hB, rfl⟩ (fun i σ H' _ ⟨_, _, _, _, o1, _⟩ => SqL.of (o1 _ _ wb hwa)) ?_ ?_
    · rintro i y σ H1 hy ⟨v5, v6, v7, rfl, o1, B1, g1⟩
      obtain ⟨wd, hwi, rfl⟩ := svs_get hy
      have hod : (ords ws)[i]? = some (orderOf wd) := by rw [ords, List.getElem?_map, hwi]; rfl
      have lo : (ords ws).length = ws.length := List.length_map ..
      have li : i < (ords ws).length := lt_of_get hod
      have Wz := hwd wd (List.mem_of_getElem? hwi)
      have hP := parts_of Wz
      have hL : wd.length ≤ 11 := (wd_fs Wz).2
      refine ⟨_, rfl, ⟨_, rfl⟩, wd, ":", rfl, rfl, by decide +kernel, Nat.le_trans (Nat.add_le_add_right hL 2) (by decide), fun q nq => ?_⟩
      have s2 : Same H1 (upd H1 q (.lst (svs (Txt.split wd ":")))) := same_new nq
      have hq2 : (upd H1 q (.lst (svs (Txt.split wd ":")))) q = some (.lst (svs (Txt.split wd ":"))) := upd_same
      show tSeq _ _ _ _ (upd H1 q (.lst (svs (Txt.split wd ":"))))
      generalize upd H1 q (.lst (svs (Txt.split wd ":"))) = H2 at s2 hq2 ⊢
      have B2 := B1.same s2
      have o2 : Off b H H2 := o1.trans (Same.off s2)
      -- the mathematics of this word
      have tk : (ords ws).take (i + 1) = (ords ws).take i ++ [orderOf wd] := take_snoc hod
      have rg := run_goes wide got said ((ords ws).take i) [orderOf wd] x g1
      rw [← tk] at rg
      have rw1 : ords ws = (ords ws).take i ++ (orderOf wd :: (ords ws).drop (i + 1)) := by
        have e := List.take_append_drop i (ords ws)
        rw [List.drop_eq_getElem_cons li] at e
        have : (ords ws)[i] = orderOf wd := (List.getElem?_eq_some_iff.mp hod).2
        rw [this] at e
        exact e.symm
      have rgs := (run_goes wide got said ((ords ws).take i) (orderOf wd :: (ords ws).drop (i + 1)) x g1).1
      rw [← rw1] at rgs
      have fe := few_run (told := said) hF.s1 hF.h ((ords ws).take i) kk cc x hF.f
      have lt : ((ords ws).take i).length ≤ 12 := by rw [List.length_take]; omega
      have fk : FitK wide got (kk + 12) (cc + 12 * (kk + 12)) (runW wide got said ((ords ws).take i) x).1 := ⟨hF.s1, hF.s2, hF.h, by omega, by omega, fe.mono (by omega) (Nat.add_le_add_left (Nat.mul_le_mul lt (by omega)) _)⟩
      generalize hy0 : (runW wide got said ((ords ws).take i) x).1 = y at rg rgs fk B1 B2
      have r1e := rg.1
      have r2e := rg.2.1
      obtain ⟨pre, hpre⟩ := parts_last hP
      have sR := hP.s
      have hqd : orderOf wd = ((orderOf wd).1, (orderOf wd).2) := rfl
      rw [hqd, runW_cons] at rgs
      rw [hqd, runW_cons] at r1e
      rw [hqd, goes_cons] at r2e
      have hga2 := o2 _ _ gb hga
      refine ⟨q, ga, b, wd, got, y, g, ov, said, wide, rfl, rfl, rfl, rfl, rfl, hP, hq2, hga2, B2.at, fun H3 s3 => ?_⟩
      have B3 := B2.same s3
      have o3 : Off b H H3 := o2.trans (Same.off s3)
      have hq3 := s3 _ _ hq2
      have hga3 := s3 _ _ hga2
      rw [hpre] at hq3
      generalize (orderOf wd).1 = t1 at rgs r1e r2e ⊢
      generalize (orderOf wd).2 = s1 at rgs r1e r2e sR hq3 ⊢
      clear hq2 hga2 B2 o2 s2 s3 hP hpre rg rw1 hqd hod
      by_cases cp : passM wide got said t1 y.rest = true
      rotate_left
      · rw [Bool.eq_false_iff.mpr cp]
        rw [if_neg cp] at r1e r2e
        exact iteT ⟨_, _, _, rfl, o3, by rw [r1e]; exact B3, r2e⟩
      rw [cp]
      rw [if_pos cp] at rgs r1e r2e
      refine iteF ?_
      -- stop, again
      refine ⟨_, rfl, _, rfl, q, _, -1, _, rfl, rfl, SqL.of hq3, atI_last _ _, (by show 2 ≤ sizeLine; decide), fun l nl => ⟨l, _, rfl, .inl (SqL.of upd_same), rfl, rfl, _, rfl, ?_⟩⟩
      have s4 : Same H3 (upd H3 l (.lst [.str "stop", .str "again"])) := same_new nl
      generalize upd H3 l (.lst [.str "stop", .str "again"]) = H4 at s4 ⊢
      have B4 := B3.same s4
      have o4 : Off b H H4 := o3.trans (Same.off s4)
      have hq4 := s4 _ _ hq3
      have hga4 := s4 _ _ hga3
      clear B3 o3 hq3 hga3 s4
      rw [show (if false = true then !inV (V.str s1) [V.str "stop", V.str "again"] else inV (V.str s1) [V.str "stop", V.str "again"]) = decide (s1 = "stop" ∨ s1 = "again") from in2 ..]
      by_cases cs : s1 = "stop" ∨ s1 = "again"
      · rw [decide_eq_true cs]
        refine iteT ⟨_, rfl, _, rfl, q, _, -1, _, rfl, rfl, SqL.of hq4, atI_last _ _, ?_⟩
        refine k _ _ o4 ?_ ?_
        · rw [rgs]
          split
          · exact B4
          · rcases cs with c | c
            · rw [if_pos c]; exact B4
            · exact absurd c ‹_›
        · rw [rgs]
          rcases cs with c | c
          · rw [c, if_neg (by decide +kernel), if_pos rfl]
            rfl
          · rw [c, if_pos rfl]
            show decide (("again" : Str) = "stop") = false
            decide +kernel
      rw [decide_eq_false cs]
      refine iteF ?_
      have c1 : ¬ s1 = "again" := fun z => cs (.inr z)
      have c2 : ¬ s1 = "stop" := fun z => cs (.inl z)
      rw [if_neg c1, if_neg c2] at r1e r2e
      obtain ⟨r4, u4, vs4, hb4, hr4, hu4, hP4, nr4, nu4⟩ := id B4.ex
      have fit := fk.fit
      have f1 := fit.r
      have f2 := fit.p
      have f3 := fit.h
      have f4 := fit.s1
      have f5 := fit.s2
      have lp4 := hP4.len
      have done : ∀ H5 v5 v6 v7, Off b H H5 → BoxJ j H5 b (perfM wide got s1 y) g ov → ∃ w5 w6 w7 : Option V, ([some (.ref wa), some (.ref ga), some (.ref b), some (.bl said), some (.int wide), v5, v6, v7] : St) = [some (.ref wa), some (.ref ga), some (.ref b), some (.bl said), some (.int wide), w5, w6, w7] ∧ Off b H H5 ∧ BoxJ j H5 b (runW wide got said ((ords ws).take (i + 1)) x).1 g ov ∧ goes wide got said ((ords ws).take (i + 1)) x = true := fun H5 v5 v6 v7 o5 B5 => ⟨_, _, _, rfl, o5, by rw [r1e]; exact B5, r2e⟩
      refine ⟨_, rfl, _, rfl, q, _, -1, _, rfl, rfl, SqL.of hq4, atI_last _ _, rfl, _, rfl, ?_⟩
      rw [dS]
      by_cases ca : s1 = "add"
      · rw [decide_eq_true ca]
        refine iteT ⟨_, rfl, b, _, rfl, get_r hb4, _, rfl, r4, ga, _, _, rfl, rfl, hr4, hga4, ?_, fun p np => ?_⟩
        · rw [ivs_len, ivs_len]
          exact Nat.le_trans (show y.rest.length + got.length ≤ 4000000 by omega) (by decide)
        have hb5 := same_new (o := .lst (ivs y.rest ++ ivs got)) np _ _ hb4
        refine ⟨_, rfl, b, _, rfl, dput_r p hb5, ?_⟩
        refine done _ _ _ _ (o4.new np).put ?_
        have e : perfM wide got s1 y = ⟨y.rest ++ got, y.pieces⟩ := by unfold perfM; rw [if_pos ca]
        rw [e]
        exact box_put (x := y) (H1 := H4) hb5 (by rw [upd_same]; simp [ivs]) (same_new np _ _ hu4) (hP4.same (same_new np)) (nj o4 np) nu4
      rw [decide_eq_false ca]
      refine iteF ⟨_, rfl, _, rfl, q, _, -1, _, rfl, rfl, SqL.of hq4, atI_last _ _, rfl, _, rfl, ?_⟩
      rw [dS]
      by_cases ch : s1 = "hand"
      · rw [decide_eq_true ch]
        refine iteT ⟨_, rfl, b, _, rfl, get_u hb4, _, rfl, ga, _, rfl, .inl ⟨SqL.of hga4, fun tq ntq => ?_⟩⟩
        refine ⟨(by show 1 ≤ sizeLine; decide), fun lq nlq => ?_⟩
        refine ⟨u4, lq, _, _, rfl, rfl, same_new nlq _ _ (same_new ntq _ _ hu4), upd_same, ?_, fun p np => ?_⟩
        · rw [lp4]
          exact Nat.le_trans (show y.pieces.length + 1 ≤ 9000000 by omega) (by decide)
        have s5 : Same H4 (upd (upd (upd H4 tq (.tup (ivs got))) lq (.lst [.ref tq])) p (.lst (vs4 ++ [.ref tq]))) := Same.trans (same_new ntq) (Same.trans (same_new nlq) (same_new np))
        have hb5 := s5 _ _ hb4
        refine ⟨_, rfl, b, _, rfl, dput_u p hb5, ?_⟩
        refine done _ _ _ _ (o4.trans (Same.off s5)).put ?_
        have e : perfM wide got s1 y = ⟨y.rest, y.pieces ++ [got]⟩ := by unfold perfM; rw [if_neg ca, if_pos ch]
        rw [e]
        exact box_put (x := y) (H1 := H4) hb5 (s5 _ _ hr4) upd_same (Pcs.snoc (same_new np _ _ (same_new nlq _ _ upd_same)) (hP4.same s5)) nr4 (nj (o4.trans (Same.off (Same.trans (same_new ntq) (same_new nlq)))) np)
      rw [decide_eq_false ch]
      refine iteF ⟨_, rfl, _, rfl, q, _, -1, _, rfl, rfl, SqL.of hq4, atI_last _ _, rfl, _, rfl, ?_⟩
      rw [dS]
      by_cases cf : s1 = "flush"
      · rw [decide_eq_true cf]
        have cc' : ¬ s1 = "cut" := by rw [cf]; decide +kernel
        refine iteT ⟨_, rfl, b, _, rfl, get_u hb4, _, rfl, b, _, rfl, get_r hb4, r4, _, rfl, .inl ⟨SqL.of hr4, fun tq ntq => ?_⟩⟩
        refine ⟨(by show 1 ≤ sizeLine; decide), fun lq nlq => ?_⟩
        refine ⟨u4, lq, _, _, rfl, rfl, same_new nlq _ _ (same_new ntq _ _ hu4), upd_same, ?_, fun p np => ?_⟩
        · rw [lp4]
          exact Nat.le_trans (show y.pieces.length + 1 ≤ 9000000 by omega) (by decide)
        have s5 : Same H4 (upd (upd (upd H4 tq (.tup (ivs y.rest))) lq (.lst [.ref tq])) p (.lst (vs4 ++ [.ref tq]))) := Same.trans (same_new ntq) (Same.trans (same_new nlq) (same_new np))
        have hp5 : (upd (upd (upd H4 tq (.tup (ivs y.rest))) lq (.lst [.ref tq])) p (.lst (vs4 ++ [.ref tq]))) p = some (.lst (vs4 ++ [.ref tq])) := upd_same
        have ht5 : (upd (upd (upd H4 tq (.tup (ivs y.rest))) lq (.lst [.ref tq])) p (.lst (vs4 ++ [.ref tq]))) tq = some (.tup (ivs y.rest)) := same_new np _ _ (same_new nlq _ _ upd_same)
        generalize upd (upd (upd H4 tq (.tup (ivs y.rest))) lq (.lst [.ref tq])) p (.lst (vs4 ++ [.ref tq])) = H5 at s5 hp5 ht5 ⊢
        refine ⟨Nat.zero_le _, fun e5 ne5 => ?_⟩
        refine ⟨(by show 2 ≤ sizeLine; decide), fun tt ntt => ?_⟩
        have s6 : Same H4 (upd (upd H5 e5 (.lst [])) tt (.tup [.ref p, .ref e5])) := Same.trans s5 (Same.trans (same_new ne5) (same_new ntt))
        refine ⟨tt, _, rfl, SqT.of upd_same, rfl, _, _, rfl, ?_⟩
        have hb6 := s6 _ _ hb4
        refine ⟨_, rfl, b, _, rfl, dput_u p hb6, ?_⟩
        refine ⟨_, _, rfl, ?_⟩
        have he6 : (upd (upd H5 e5 (.lst [])) tt (.tup [.ref p, .ref e5])) e5 = some (.lst (ivs [])) := same_new ntt _ _ upd_same
        have hp6 := same_new (o := .tup [.ref p, .ref e5]) ntt _ _ (same_new (o := .lst []) ne5 _ _ hp5)
        have ht6 := same_new (o := .tup [.ref p, .ref e5]) ntt _ _ (same_new (o := .lst []) ne5 _ _ ht5)
        have o6 := o4.trans (Same.off s6)
        have hP6 := hP4.same s6
        generalize upd (upd H5 e5 (.lst [])) tt (.tup [.ref p, .ref e5]) = H6 at s6 hb6 he6 hp6 ht6 o6 hP6 ⊢
        have pb6 : p ≠ b := ne_of hp6 hb6 (by intro z; cases z)
        have e5b : e5 ≠ b := ne_of he6 hb6 (by intro z; cases z)
        refine ⟨_, rfl, b, _, rfl, dput_r e5 upd_same, rfl, ?_⟩
        refine done _ _ _ _ o6.put.put ?_
        have e : perfM wide got s1 y = ⟨[], y.pieces ++ [y.rest]⟩ := by unfold perfM; rw [if_neg ca, if_neg ch, if_neg cc', if_pos cf]
        rw [e]
        exact box_put (x := y) (H1 := H4) upd_same (by rw [upd_ne e5b]; exact he6) (by rw [upd_ne pb6]; exact hp6) ((Pcs.snoc ht6 hP6).mono (tup_stays hb6 (by intro xs z; cases z))) (nj (o4.trans (Same.off s5)) ne5) (nj (o4.trans (Same.off (Same.trans (same_new ntq) (same_new nlq)))) np)
      rw [decide_eq_false cf]
      refine iteF ?_
      have ccut : s1 = "cut" := by
        have h5 : s1 = "add" ∨ s1 = "hand" ∨ s1 = "cut" ∨ s1 = "flush" ∨ s1 = "stop" ∨ s1 = "again" := by simpa [rsteps] using sR
        rcases h5 with h | h | h | h | h | h
        · exact absurd h ca
        · exact absurd h ch
        · exact h
        · exact absurd h cf
        · exact absurd h c2
        · exact absurd h c1
      have le : y.rest.length / wide * wide ≤ y.rest.length := Nat.div_mul_le_self _ _
      refine ⟨_, rfl, b, _, rfl, get_r hb4, r4, _, rfl, .inl (SqL.of hr4), _, rfl, _, _, rfl, rfl, ⟨by omega, by omega⟩, ?_⟩
      have eq1 : ((ivs y.rest).length : Int) / (wide : Int) = ((y.rest.length / wide : Nat) : Int) := by rw [ivs_len, Int.natCast_ediv]
      simp only [eq1]
      have eperf : perfM wide got s1 y = ⟨y.rest.drop (y.rest.length / wide * wide), y.pieces ++ cutN wide y.rest (y.rest.length / wide)⟩ := by unfold perfM; rw [if_neg ca, if_neg ch, if_pos ccut]
      have qle : y.rest.length / wide ≤ y.rest.length := Nat.div_le_self _ _
      generalize y.rest.length / wide = qn at le eperf qle ⊢
      refine ⟨_, rfl, b, _, rfl, get_u hb4, _, rfl, b, _, rfl, get_r hb4, _, rfl, _, rfl, r4, y.rest, wide, qn, rfl, hr4, f5, le, by omega, by omega, fun H5 lq vq s5 hlq hPq => ?_⟩
      have lpq := hPq.len
      refine ⟨u4, lq, _, _, rfl, rfl, s5 _ _ hu4, hlq, ?_, fun p np => ?_⟩
      · rw [lp4, lpq, cutN, List.length_map, List.length_range]
        exact Nat.le_trans (show y.pieces.length + qn ≤ 12000000 by omega) (by decide)
      have s6 : Same H4 (upd H5 p (.lst (vs4 ++ vq))) := Same.trans s5 (same_new np)
      have hb6 := s6 _ _ hb4
      refine ⟨_, rfl, b, _, rfl, dput_u p hb6, ?_⟩
      have hp6 : (upd H5 p (.lst (vs4 ++ vq))) p = some (.lst (vs4 ++ vq)) := upd_same
      have hP6 : Pcs (upd H5 p (.lst (vs4 ++ vq))) (vs4 ++ vq) (y.pieces ++ cutN wide y.rest qn) := (hP4.same s6).app (hPq.same (same_new np))
      have o6 := o4.trans (Same.off s6)
      have hr6 := s6 _ _ hr4
      generalize upd H5 p (.lst (vs4 ++ vq)) = H6 at s6 hb6 hp6 hP6 o6 hr6 ⊢
      have r4b : r4 ≠ b := ne_of hr6 hb6 (by intro z; cases z)
      have pb : p ≠ b := ne_of hp6 hb6 (by intro z; cases z)
      refine ⟨_, rfl, b, _, rfl, get_r upd_same, _, rfl, _, rfl, _, _, rfl, rfl, .inr ⟨by omega, by omega⟩, ((qn * wide : Nat) : Int), by rw [Int.natCast_mul], r4, _, rfl, SqL.of (by rw [upd_ne r4b]; exact hr6), fun p2 np2 => ?_⟩
      rw [cut_from]
      have hb7 : (upd (upd H6 b (.dK (bx r4 p g ov))) p2 (.lst ((ivs y.rest).drop (qn * wide)))) b = some (.dK (bx r4 p g ov)) := same_new np2 _ _ upd_same
      refine ⟨_, rfl, b, _, rfl, dput_r p2 hb7, ?_⟩
      refine done _ _ _ _ (o6.put.new np2).put ?_
      rw [eperf]
      exact box_put (x := y) (H1 := H4) hb7 (by rw [upd_same]; simp [ivs, List.map_drop]) (same_new np2 _ _ (by rw [upd_ne pb]; exact hp6)) ((hP6.mono (tup_stays hb6 (by intro xs z; cases z))).same (same_new np2)) (nj o6.put np2) (nj (o4.trans (Same.off s5)) np)
    · rintro σ H1 ⟨v5, v6, v7, rfl, o1, B1, g1⟩
      have lo : (ords ws).length = ws.length := List.length_map ..
      rw [lw, ← lo, List.take_length] at B1 g1
      refine k _ _ o1 B1 ?_
      rw [(run_goes wide got said (ords ws) [] x g1).2.2]
      decide +kernel
end
end My

namespace My
open PySem L2 Cm LM EM
/-! ### the same, as the program's -/
def itemsL (f c : Nat) : List Int := (List.range c).map fun i => (f : Int) + (i : Nat)
theorem rgV_itemsL (f c : Nat) : rgV (f : Int) ((f : Int) + (c : Int)) = ivs (itemsL f c) := by
  unfold rgV itemsL ivs
  rw [show ((f : Int) + (c : Int) - (f : Int)).toNat = c by omega, List.map_map]
  rfl
theorem itemsL_len (f c : Nat) : (itemsL f c).length = c := by rw [itemsL, List.length_map, List.length_range]
theorem run_ask {wide : Nat} {got : List Int} {said : Bool} {r : List Str} {x : RP} : runW wide got said (ords (("ask" : Str) :: r)) x = runW wide got said (ords r) x := by
  show runW wide got said (orderOf "ask" :: ords r) x = _
  rw [ask_order, runW_cons, pass_0, if_pos rfl, if_neg (by decide +kernel), if_neg (by decide +kernel)]
  have e : perfM wide got "ask" x = x := by
    unfold perfM
    rw [if_neg (by decide +kernel), if_neg (by decide +kernel), if_neg (by decide +kernel), if_neg (by decide +kernel)]
  rw [e]
theorem run_end {wide : Nat} {got : List Int} {said : Bool} : ∀ {os : List (Str × Str)} {x : RP}, (∀ o ∈ os, o.2 ≠ "again" ∧ o.2 ≠ "stop") → runW wide got said os x = (endW wide got said os x, false)
  | [], _, _ => rfl
  | (t, s) :: r, x, h => by
    have h1 := h (t, s) (List.mem_cons_self ..)
    have ih := fun x => run_end (wide := wide) (got := got) (said := said) (os := r) (x := x) fun o ho => h o (List.mem_cons_of_mem _ ho)
    rw [runW_cons]
    show _ = (endW wide got said r (if passM wide got said t x.rest = true then perfM wide got s x else x), false)
    by_cases c : passM wide got said t x.rest = true
    · rw [if_pos c, if_pos c, if_neg h1.1, if_neg h1.2]
      exact ih _
    · rw [if_neg c, if_neg c]
      exact ih _
theorem jar_n {H : Hp} {j : List Addr} {p : Addr} (a : Lss H j) (n : H p = none) : p ∉ j := fun z => by
  obtain ⟨x, h⟩ := a p z
  rw [n] at h
  cases h
section
variable {P : Program} {w : World} {K : PySem.W.Frag} {mg : Str → Option Value} {base : Heap}
/-! ### _law_fed -/
def spFd (j : List Addr) : Sp := fun vs H Q _ => ∃ (ma a b0 b : Addr) (B E : List Str) (x : RP) (g : Nat) (ov said : Bool) (many wide k c : Nat), vs = [.ref ma, .ref b, .int many, .bl said, .int wide] ∧ H ma = some (.tup [.ref a, .ref b0]) ∧ H a = some (.lst (svs B)) ∧ H b0 = some (.lst (svs E)) ∧ isRound B = true ∧ isEnding E = true ∧ BoxJ j H b x g ov ∧ Lss H j ∧ 1 ≤ wide ∧ wide ≤ 1000 ∧ many ≤ wide ∧ g ≤ 1000000 ∧ Few wide k c x ∧ k ≤ 2300 ∧ c ≤ 7700000 ∧
  ∀ (H' : Hp) (d : Addr), Same H H' → H d = none → BoxJ j H' d (ansM wide (ords B) (ords E) (itemsL g many) said x).1 (g + many) (ansM wide (ords B) (ords E) (itemsL g many) said x).2 → Q (.ref d) H'
theorem scFd : FnScope ["_law_made", "_law_box_here", "_law_many", "_law_said", "_law_wide", "_law_begun", "_law_ended", "_law_after", "_law_got"] ["_law_made", "_law_box_here", "_law_many", "_law_said", "_law_wide"] (defScope sFed) := ⟨rfl, rfl, rfl, by decide +kernel, rfl, by decide +kernel, by decide +kernel⟩
theorem ok_fd (B : TxB K mg) (j : List Addr) : FnOk P w K mg base CX0 3 B.fed.f B.fed.fd ["_law_made", "_law_box_here", "_law_many", "_law_said", "_law_wide"] (spFd j) := by
  have GD : FnOk P w K mg base CX0 2 B.don.f B.don.fd ["_law_words_here", "_law_got", "_law_box_here", "_law_said", "_law_wide"] (spDn j) := ok_dn B j
  refine B.fed.F.ok scFd (fun vs H Q E h => ?_) (fun cdv A outer s H vs Q E hr h => ?_)
  · obtain ⟨ma, a, b0, b, Bg, En, x, g, ov, said, many, wide, k, c, rfl, _⟩ := h
    rfl
  · obtain ⟨ma, a, b0, b, Bg, En, x, g, ov, said, many, wide, kk, cc, rfl, hma, ha, hb0, rB, rE, hB, hJ, w1, w2, m1, g1, hF, hk, hc, k⟩ := h
    have hu := hu_of hr
    refine ⟨_, (pss_cons (ps_asg (pv 0) (pg_tup rfl (pgs_cons (pg_name (i := 5) scFd.nd rfl (.inl rfl)) (pgs_cons (pg_name (i := 6) scFd.nd rfl (.inl rfl)) pgs_nil)))) (pss_cons (ps_set (i := 7) scFd.nd rfl (.inl rfl) (pe_disp (pps_cons pe_str (pe_callTy call_list_of (by rfl) B.list (by decide +kernel) (pa_cons (pe_dget hu (pv 1) pe_str (fun _ _ => rfl)) pa_nil)) (pps_cons pe_str (pe_callTy call_list_of (by rfl) B.list (by decide +kernel) (pa_cons (pe_dget hu (pv 1) pe_str (fun _ _ => rfl)) pa_nil)) (pps_cons pe_str (pe_op op_add (pe_dget hu (pv 1) pe_str (fun _ _ => rfl)) (pv 2)) (pps_cons pe_str pe_bl pps_nil)))) (by rfl) (by rfl) (fun z => by cases z) (by decide))) (pss_cons (ps_set (i := 8) scFd.nd rfl (.inl rfl) (pe_listRg rfl rfl B.list (prg_2 rfl B.range (pe_dget hu (pv 1) pe_str (fun _ _ => rfl)) (pe_op op_add (pe_dget hu (pv 1) pe_str (fun _ _ => rfl)) (pv 2))))) (pss_cons (ps_if (pt_cmpR op_eq (pe_call GD hr rfl B.don.g B.don.k B.don.b .nil pass0 (pa_cons (pe_slice sl_list (pv 5) (po_some pe_int) po_none) (pa_cons (pv 8) (pa_cons (pv 7) (pa_cons (pv 3) (pa_cons (pv 4) pa_nil)))))) pe_str (nomark _)) (pss_cons (ps_expr (pe_call GD hr rfl B.don.g B.don.k B.don.b .nil pass0 (pa_cons (pv 6) (pa_cons (pv 8) (pa_cons (pv 7) (pa_cons (pv 3) (pa_cons (pv 4) pa_nil))))))) (pss_one (ps_dput hu (pv 7) pe_str pe_bl rfl))) pss_nil) (pss_one (ps_ret (pv 7))))))), ?_⟩
    refine ⟨_, rfl, ma, _, rfl, SqT.of hma, rfl, _, _, rfl, _, _, rfl, rfl, ?_⟩
    obtain ⟨r, u, vs, hb, hr1, hu1, hP, nr0, nu0⟩ := id hB.ex
    -- the new box
    intro d nd
    have nda : ∀ {q : Addr} {o : HO}, H q = some o → q ≠ d := fun h => ne_of_none h nd
    have s0 : Same H (upd H d (.dK [])) := same_new nd
    refine ⟨_, rfl, b, _, rfl, get_r (s0 _ _ hb), r, _, rfl, .inl (SqL.of (s0 _ _ hr1)), fun r2 nr2 => ?_⟩
    refine ⟨_, rfl, b, _, rfl, get_u (same_new nr2 _ _ (s0 _ _ hb)), u, _, rfl, .inl (SqL.of (same_new nr2 _ _ (s0 _ _ hu1))), fun u2 nu2 => ?_⟩
    refine ⟨_, rfl, b, _, rfl, get_g (same_new nu2 _ _ (same_new nr2 _ _ (s0 _ _ hb))), _, rfl, _, _, rfl, rfl, ?_⟩
    refine ⟨same_new nu2 _ _ (same_new nr2 _ _ upd_same), bx r2 u2 (g + many) false, ?_, (by rw [bx_len]; decide), ?_⟩
    · simp [bx, kV]
    rw [bx_mk]
    have r2d : r2 ≠ d := fun z => by rw [z, upd_same] at nr2; cases nr2
    have u2r : u2 ≠ r2 := fun z => by rw [z, upd_same] at nu2; cases nu2
    have u2d : u2 ≠ d := fun z => by rw [z, upd_ne r2d.symm, upd_same] at nu2; cases nu2
    have s1 : Same H (upd (upd (upd (upd H d (.dK [])) r2 (.lst (ivs x.rest))) u2 (.lst vs)) d (.dK (bx r2 u2 (g + many) false))) := fun q o e => by
      rw [upd_ne (nda e)]
      exact same_new nu2 _ _ (same_new nr2 _ _ (s0 _ _ e))
    have X1 : BoxJ j (upd (upd (upd (upd H d (.dK [])) r2 (.lst (ivs x.rest))) u2 (.lst vs)) d (.dK (bx r2 u2 (g + many) false))) d x (g + many) false := by
      refine ⟨r2, u2, vs, upd_same, ?_, ?_, hP.same s1, jar_n (hJ.same s0) nr2, jar_n ((hJ.same s0).same (same_new nr2)) nu2⟩
      · rw [upd_ne r2d, upd_ne u2r.symm, upd_same]
      · rw [upd_ne u2d, upd_same]
    generalize upd (upd (upd (upd H d (.dK [])) r2 (.lst (ivs x.rest))) u2 (.lst vs)) d (.dK (bx r2 u2 (g + many) false)) = H1 at s1 X1 ⊢
    -- the items
    have hb1 := s1 _ _ hb
    refine ⟨_, rfl, b, _, rfl, get_g hb1, _, rfl, b, _, rfl, get_g hb1, _, rfl, _, _, rfl, rfl, _, _, rfl, rfl, RgOk.of_le (by omega) (by omega) (by omega) (by omega), fun ga nga => ?_⟩
    rw [rgV_itemsL]
    have s2 : Same H1 (upd H1 ga (.lst (ivs (itemsL g many)))) := same_new nga
    have hga : (upd H1 ga (.lst (ivs (itemsL g many)))) ga = some (.lst (ivs (itemsL g many))) := upd_same
    show tSeq _ _ _ _ (upd H1 ga (.lst (ivs (itemsL g many))))
    generalize upd H1 ga (.lst (ivs (itemsL g many))) = H2 at s2 hga ⊢
    have X2 := X1.same s2
    have s12 := Same.trans s1 s2
    obtain ⟨rw0, eB, hwd, lrw⟩ := round_tail_wd rB
    subst eB
    -- the round
    refine ⟨_, rfl, 1, rfl, a, _, rfl, SqL.of (s12 _ _ ha), fun p np => ?_⟩
    rw [show (1 : Int) = ((1 : Nat) : Int) from rfl, cut_from]
    have ecut : (svs (("ask" : Str) :: rw0)).drop 1 = svs rw0 := rfl
    rw [ecut]
    have s3 : Same H2 (upd H2 p (.lst (svs rw0))) := same_new np
    have FK : FitK wide (itemsL g many) kk cc x := ⟨w1, w2, by rw [itemsL_len]; exact m1, by omega, by omega, hF⟩
    refine ⟨_, rfl, _, rfl, _, rfl, _, rfl, p, ga, d, rw0, itemsL g many, x, g + many, false, said, wide, kk, cc, rfl, upd_same, hwd, by omega, s3 _ _ hga, X2.same s3, hJ.same (Same.trans s12 s3), FK, by omega, by omega, fun H3 z o3 X3 hz => ?_⟩
    have nd1 : ∀ {q : Addr} {o : HO}, H q = some o → H3 q = some o := fun e => o3 _ _ (nda e) (s3 _ _ (s12 _ _ e))
    have dga : ga ≠ d := by
      obtain ⟨_, _, _, hd1, _⟩ := X1.ex
      exact fun e => by rw [e, hd1] at nga; cases nga
    have hga3 := o3 _ _ dga (s3 _ _ hga)
    refine ⟨rfl, _, rfl, ?_⟩
    rw [dS, hz]
    have ra : runW wide (itemsL g many) said (ords (("ask" : Str) :: rw0)) x = runW wide (itemsL g many) said (ords rw0) x := run_ask
    unfold ansM at k
    rw [ra] at k
    have sN : Same H H3 := fun q o e => nd1 e
    cases hst : (runW wide (itemsL g many) said (ords rw0) x).2 with
    | false =>
      rw [hst, if_neg Bool.false_ne_true] at k
      refine iteF ⟨_, rfl, ?_⟩
      exact k H3 d sN nd X3
    | true =>
      rw [hst, if_pos rfl] at k
      refine iteT ?_
      have fe := few_run (told := said) w1 FK.h (ords rw0) kk cc x hF
      have lo : (ords rw0).length = rw0.length := List.length_map ..
      have l11 : (ords rw0).length ≤ 12 := by omega
      have FK3 : FitK wide (itemsL g many) (kk + 12) (cc + 12 * (kk + 12)) (runW wide (itemsL g many) said (ords rw0) x).1 := ⟨w1, w2, FK.h, by omega, by omega, fe.mono (by omega) (Nat.add_le_add_left (Nat.mul_le_mul l11 (by omega)) _)⟩
      have eW := ending_wd rE
      refine ⟨_, rfl, _, rfl, _, rfl, _, rfl, _, rfl, b0, ga, d, En, itemsL g many, _, g + many, false, said, wide, kk + 12, cc + 12 * (kk + 12), rfl, nd1 hb0, eW.1, by omega, hga3, X3, hJ.same sN, FK3, by omega, by omega, fun H4 z4 o4 X4 _ => ?_⟩
      rw [run_end (os := ords En) (ending_flow rE)] at X4
      obtain ⟨r4, u4, vs4, hd4, hr4, hu4, hP4, nr4, nu4⟩ := X4.ex
      refine ⟨_, rfl, d, _, rfl, dput_o true hd4, ?_⟩
      refine ⟨_, rfl, ?_⟩
      refine k _ d (fun q o e => ?_) nd ?_
      · rw [upd_ne (nda e)]
        exact o4 _ _ (nda e) (nd1 e)
      · have n1 : r4 ≠ d := ne_of hr4 hd4 (by intro z; cases z)
        have n2 : u4 ≠ d := ne_of hu4 hd4 (by intro z; cases z)
        exact ⟨r4, u4, vs4, upd_same, by rw [upd_ne n1]; exact hr4, by rw [upd_ne n2]; exact hu4, hP4.mono (tup_stays hd4 (by intro xs z; cases z)), nr4, nu4⟩
/-! ### _law_box -/
def spBx (j : List Addr) : Sp := fun vs H Q _ => vs = [] ∧ Lss H j ∧ ∀ (H' : Hp) (d : Addr), Same H H' → H d = none → BoxJ j H' d ⟨[], []⟩ 0 false → Q (.ref d) H'
theorem scBx : FnScope [] [] (defScope sBox) := ⟨rfl, rfl, rfl, by decide +kernel, rfl, by decide +kernel, by decide +kernel⟩
theorem ok_bx (B : TxB K mg) (j : List Addr) : FnOk P w K mg base CX0 1 B.box.f B.box.fd [] (spBx j) := by
  refine B.box.F.ok scBx (fun vs H Q E h => ?_) (fun cdv A outer s H vs Q E hr h => ?_)
  · obtain ⟨rfl, _⟩ := h
    rfl
  · obtain ⟨rfl, hJ, k⟩ := h
    refine ⟨_, (pss_one (ps_ret (pe_disp (pps_cons pe_str (pe_lst pa_nil) (pps_cons pe_str (pe_lst pa_nil) (pps_cons pe_str pe_int (pps_cons pe_str pe_bl pps_nil)))) (by rfl) (by rfl) (fun z => by cases z) (by decide)))), ?_⟩
    intro d nd
    refine ⟨Nat.zero_le _, fun r2 nr2 => ?_⟩
    refine ⟨Nat.zero_le _, fun u2 nu2 => ?_⟩
    refine ⟨same_new nu2 _ _ (same_new nr2 _ _ upd_same), bx r2 u2 0 false, ?_, (by rw [bx_len]; decide), ?_⟩
    · simp [bx, kV]
    rw [bx_mk]
    have r2d : r2 ≠ d := fun z => by rw [z, upd_same] at nr2; cases nr2
    have u2r : u2 ≠ r2 := fun z => by rw [z, upd_same] at nu2; cases nu2
    have u2d : u2 ≠ d := fun z => by rw [z, upd_ne r2d.symm, upd_same] at nu2; cases nu2
    refine k _ d (fun q o e => ?_) nd ⟨r2, u2, [], upd_same, ?_, ?_, .nil, jar_n (hJ.same (same_new nd)) nr2, jar_n ((hJ.same (same_new nd)).same (same_new nr2)) nu2⟩
    · rw [upd_ne (ne_of_none e nd)]
      exact same_new nu2 _ _ (same_new nr2 _ _ (same_new nd _ _ e))
    · rw [upd_ne r2d, upd_ne u2r.symm, upd_same]
      rfl
    · rw [upd_ne u2d, upd_same]
end
end My

/-! instances of own classes without __eq__: ==, != by identity -/
namespace OwnId
open PySem PySem.Spec PyProof.Rows L2
section
variable {M : Model} {prog : Program} {w : World} {A : Around} {E : Value → Shared → Prop} {s : Shared} {K : PySem.W.Frag} {x y C : Addr} {ox oy : Obj} {od od' : Option Obj}
theorem call_eq_same {Q : Value → Shared → Prop} (X : K.In s.heap) (I : PySem.W.InstAt s.heap x ox C od) (hm : PySem.W.mroIn K C (.type "object") = some true) (hq : Q (.bool true) s) : wpAny (model prog w) A (call (.builtin "object.__eq__") [.ref x, .ref x]) Q E s :=
  wpAny_call (codeAny_call_builtin F.cmp_object.eq.plain F.cmpEntry_eq (PySem.W.check_slot F.cmpKind_eq F.cmpSplit_eq (I.type.andThen (PySem.W.looks_mroIn X hm)) (F.cmpArgs_eq _ _) (objEq_entry_same hq)))
theorem nt_of (I : PySem.W.InstAt s.heap x ox C od) : ox.cls ≠ .type "tuple" := by
  rw [I.cls]
  intro e
  cases e
theorem call_eq_other {Q : Value → Shared → Prop} (X : K.In s.heap) (I : PySem.W.InstAt s.heap x ox C od) (J : PySem.W.InstAt s.heap y oy C od') (hm : PySem.W.mroIn K C (.type "object") = some true) (hxy : x ≠ y) (hq : Q .notImplemented s) : wpAny (model prog w) A (call (.builtin "object.__eq__") [.ref x, .ref y]) Q E s :=
  wpAny_call (codeAny_call_builtin F.cmp_object.eq.plain F.cmpEntry_eq (PySem.W.check_slot F.cmpKind_eq F.cmpSplit_eq (I.type.andThen (PySem.W.looks_mroIn X hm)) (F.cmpArgs_eq _ _) (objEq_entry_other hxy I.1 J.1 (nt_of I) hq)))
theorem eq_same {Q : Value → Shared → Prop} (hu : A.units < cLine) (X : K.In s.heap) (I : PySem.W.InstAt s.heap x ox C od) (hm : PySem.W.mroIn K C (.type "object") = some true) (hs : PySem.W.findIn K (.ref C) "__eq__" = some (some (.builtin "object.__eq__"))) (hq : Q (.bool true) s) :
    wpAny (model prog w) A (richCompare .Eq (.ref x) (.ref x)) Q E s := by
  have go : wpAny (model prog w) A (tryCompare (.ref x) "__eq__" (.ref x)) (fun r s2 => ∃ v, r = some v ∧ Q v s2) E s := by
    unfold tryCompare
    exact wpAny_bind (HN.ifBound_objEq X I hs (call_eq_same X I hm (wpAny_pure ⟨_, rfl, hq⟩)))
  unfold richCompare
  simp only [oneThing_ref]
  refine wpAny_holding (wpAny_bind (wpAny_cRoomFor hu (wpAny_bind (I.type.here (wpAny_bind (I.type.here ?_))))))
  rw [cmpInfo_Eq]
  dsimp only
  split
  next q => simp at q
  next =>
    refine wpAny_bind (wpAny_pure ?_)
    simp only [Bool.false_eq_true, if_false]
    exact wpAny_bind (wpAny_mono go (fun r s2 ⟨v, e1, hq⟩ => by subst e1; exact wpAny_pure hq) fun _ _ z => z)
theorem ne_none {Q : Option Value → Shared → Prop} (hu : A.units + 1 < cLine) (X : K.In s.heap) (I : PySem.W.InstAt s.heap x ox C od) (J : PySem.W.InstAt s.heap y oy C od') (hm : PySem.W.mroIn K C (.type "object") = some true) (hs : PySem.W.findIn K (.ref C) "__eq__" = some (some (.builtin "object.__eq__")))
    (hn : PySem.W.findIn K (.ref C) "__ne__" = some (some (.builtin "object.__ne__"))) (hxy : x ≠ y) (hq : Q none s) : wpAny (model prog w) A (tryCompare (.ref x) "__ne__" (.ref y)) Q E s := by
  unfold tryCompare
  refine wpAny_bind (Own.bound_ne X I hn (wpAny_call (codeAny_call_builtin F.cmp_object.ne.plain F.cmpEntry_ne (PySem.W.check_slot F.cmpKind_ne F.cmpSplit_ne (I.type.andThen (PySem.W.looks_mroIn X hm)) (F.cmpArgs_ne _ _) ?_))))
  unfold Builtin.«object.__ne__»
  refine wpAny_bind (wpAny_of_eq (a := ((Value.ref x : Value), [Value.ref y])) (by first | rfl | (simp only [slotArgs]; rfl)) ?_)
  refine wpAny_bind (wpAny_cRoomFor (by show A.units + 1 < cLine; exact hu) ?_)
  refine wpAny_bind (m := callSpecialIfBound? (.ref x) (Str.ofString "__eq__") [.ref y]) (HN.ifBound_objEq X I hs (call_eq_other X I J hm hxy ?_))
  exact wpAny_pure (wpAny_pure hq)
theorem ne_other {Q : Value → Shared → Prop} (hu : A.units + 1 < cLine) (X : K.In s.heap) (I : PySem.W.InstAt s.heap x ox C od) (J : PySem.W.InstAt s.heap y oy C od') (hm : PySem.W.mroIn K C (.type "object") = some true) (hs : PySem.W.findIn K (.ref C) "__eq__" = some (some (.builtin "object.__eq__")))
    (hn : PySem.W.findIn K (.ref C) "__ne__" = some (some (.builtin "object.__ne__"))) (hxy : x ≠ y) (hq : Q (.bool true) s) : wpAny (model prog w) A (richCompare .NotEq (.ref x) (.ref y)) Q E s := by
  unfold richCompare
  simp only [oneThing_ref]
  refine wpAny_holding (wpAny_bind (wpAny_cRoomFor (by omega) (wpAny_bind (I.type.here (wpAny_bind (J.type.here ?_))))))
  rw [cmpInfo_NotEq]
  dsimp only
  split
  next q => simp at q
  next =>
    refine wpAny_bind (wpAny_pure ?_)
    simp only [Bool.false_eq_true, if_false]
    refine wpAny_bind (m := tryCompare (.ref x) _ (.ref y)) (ne_none hu X I J hm hs hn hxy ?_)
    refine wpAny_bind (m := tryCompare (.ref y) _ (.ref x)) (ne_none hu X J I hm hs hn hxy.symm ?_)
    exact wpAny_bind (wpAny_rule (wpAny_bind (wpAny_isSame_ref_other hxy I.1 J.1 (nt_of I) (wpAny_pure hq))))
end
/-- what the class says -/
structure IdC (K : PySem.W.Frag) (C : Addr) : Prop where
  eq : PySem.W.findIn K (.ref C) "__eq__" = some (some (.builtin "object.__eq__"))
  ne : PySem.W.findIn K (.ref C) "__ne__" = some (some (.builtin "object.__ne__"))
  mo : PySem.W.mroIn K C (.type "object") = some true
section
variable {X : Cx} {C : Addr} {k : Nat}
theorem op_eqI (c : IdC X.K C) (hr : Room k X.A) : OpR X (compareOp .Eq) (fun x y H Q => ∃ (a dx : Addr) (fs : List (Str × V)), x = .ref a ∧ y = .ref a ∧ H a = some (.ins C dx fs) ∧ Q (.bl true) H) := by
  intro pins s σ H x y v u Q I rx ry h
  obtain ⟨a, dx, fs, rfl, rfl, ha, q⟩ := h
  cases rx
  cases ry
  obtain ⟨ox, od, J⟩ := Own.inst_of I ha
  have hu := hr.un
  exact eq_same (by omega) I.kIn J c.mo c.eq ⟨.bl true, H, I, rfl, q⟩
theorem op_neI (c : IdC X.K C) (hr : Room k X.A) : OpR X (compareOp .NotEq) (fun x y H Q => ∃ (a b dx dy : Addr) (fs gs : List (Str × V)), x = .ref a ∧ y = .ref b ∧ a ≠ b ∧ H a = some (.ins C dx fs) ∧ H b = some (.ins C dy gs) ∧ Q (.bl true) H) := by
  intro pins s σ H x y v u Q I rx ry h
  obtain ⟨a, b, dx, dy, fs, gs, rfl, rfl, hab, ha, hb, q⟩ := h
  cases rx
  cases ry
  obtain ⟨ox, od, J⟩ := Own.inst_of I ha
  obtain ⟨oy, od', J'⟩ := Own.inst_of I hb
  have hu := hr.un
  exact ne_other (by omega) I.kIn J J' c.mo c.eq c.ne hab ⟨.bl true, H, I, rfl, q⟩
end
end OwnId

/-! repr of any plain data, also behind a caught error; the types of plain data; slices of lists of counts -/
namespace RpA
open PySem L2 Gd
theorem ext_same {H H' : Hp} (s : Same H H') : LamX.ExtN H H' := fun b o e _ => s b o e
mutual
theorem dq_ext {H H' : Hp} (s : LamX.ExtN H H') : ∀ {v : V} {d : PyData}, Dq H v d → Dq H' v d
  | _, _, .non => .non
  | _, _, .bl b => .bl b
  | _, _, .int i => .int i
  | _, _, .str x => .str x
  | _, _, .lst ha hd => .lst (s _ _ ha (by intro ps z; cases z)) (dqa_ext s hd)
  | _, _, .tup ha hd => .tup (s _ _ ha (by intro ps z; cases z)) (dqa_ext s hd)
  | _, _, .dct ha => .dct (s _ _ ha (by intro ps z; cases z))
theorem dqa_ext {H H' : Hp} (s : LamX.ExtN H H') : ∀ {vs : List V} {ds : List PyData}, DqA H vs ds → DqA H' vs ds
  | _, _, .nil => .nil
  | _, _, .cons a b => .cons (dq_ext s a) (dqa_ext s b)
end
theorem dqa_app {H : Hp} : ∀ {vs ws : List V} {ds es : List PyData}, DqA H vs ds → DqA H ws es → DqA H (vs ++ ws) (ds ++ es)
  | _, _, _, _, .nil, b => b
  | _, _, _, _, .cons a t, b => .cons a (dqa_app t b)
theorem dqa_len {H : Hp} : ∀ {vs : List V} {ds : List PyData}, DqA H vs ds → vs.length = ds.length
  | _, _, .nil => rfl
  | _, _, .cons _ t => by rw [List.length_cons, List.length_cons, dqa_len t]
theorem dqa_mem {H : Hp} : ∀ {vs : List V} {ds : List PyData}, DqA H vs ds → ∀ x ∈ vs, ∃ d ∈ ds, Dq H x d
  | _, _, .nil, _, h => nomatch h
  | _, _, .cons a t, x, h => by
    rcases List.mem_cons.mp h with rfl | z
    · exact ⟨_, List.mem_cons_self, a⟩
    · obtain ⟨d, m, q⟩ := dqa_mem t x z
      exact ⟨d, List.mem_cons_of_mem _ m, q⟩
/-- the name of the type -/
def tyN : PyData → String
  | .none => "NoneType"
  | .bool _ => "bool"
  | .int _ => "int"
  | .str _ => "str"
  | .list _ => "list"
  | .tuple _ => "tuple"
  | .dict _ => "dict"
theorem dq_ty {K : PySem.W.Frag} {H : Hp} {v : V} {d : PyData} (q : Dq H v d) : TyX K H v (.type (tyN d)) := by
  cases q with
  | non => exact .base .non
  | bl b => exact .base (.bl b)
  | int i => exact .base (.int i)
  | str x => exact .base (.str x)
  | lst h _ => exact .base (.lst h)
  | tup h _ => exact .base (.tup h)
  | dct h => exact .base (.dK h)
/-- repr of such data -/
def rReprA : List V → Hp → VK → Prop := fun xs H Q => ∃ (v : V) (d : PyData) (n : Nat), xs = [v] ∧ Dq H v d ∧ SkT.Sw n 64 d ∧ n ≤ sizeLine ∧ Q (.str d.shown) H
theorem call_reprA {X : Cx} {ob : Obj} (hg : X.A.guards = some []) (hu : X.A.units + 66 < cLine) (sm : X.base.get? sysModules = some ob) : CallR X (.builtin "repr") rReprA := by
  intro pins s σ H xs us Q I r h
  obtain ⟨v, d, n, rfl, hd, hs, hn, q⟩ := h
  obtain ⟨u, rfl, ru⟩ := vals1 r
  have ref : ∀ a, v = .ref a → wpAny (model X.prog X.w) X.A (PySem.call (.builtin "repr") [u]) (fun u' s' => ∃ (v' : V) (H' : Hp), Inv X pins σ H' s' ∧ RelV v' u' ∧ Q v' H') X.xe s := fun a e => by
    subst e
    cases (show u = Value.ref a from ru)
    obtain ⟨as, h1, h2⟩ := hd.reads I (u := .ref a) rfl
    have no : sysModules ∉ as := fun hm => h2 _ hm (I.env0.bs _ _ sm).2
    have := hs.dp
    refine repr_of_reads' h1 hs.sh (fun _ => no) hg (by omega) (fun _ _ e => e) (fun h' u tk hk => ?_) (Nat.le_trans hs.ln hn)
    exact ⟨.str d.shown, H, I.kept (t' := tk) hk, ⟨_, rfl⟩, q⟩
  cases hd with
  | non =>
    cases ru
    exact PySem.P.repr_of_none ⟨.str _, H, I.tok _, ⟨_, rfl⟩, q⟩
  | bl b =>
    cases ru
    exact PySem.P.repr_of_bool ⟨.str _, H, I.tok _, ⟨_, rfl⟩, q⟩
  | int i =>
    obtain ⟨t, rfl⟩ := ru
    exact PySem.P.repr_of_int (by have := hs.sh; simpa [PyData.showable] using this) ⟨.str _, H, I.tok _, ⟨_, rfl⟩, q⟩
  | str x =>
    obtain ⟨t, rfl⟩ := ru
    exact PySem.P.repr_of_str ⟨.str _, H, I.tok _, ⟨_, rfl⟩, q⟩ (Nat.le_trans hs.ln hn)
  | lst ha hd => exact ref _ rfl
  | tup ha hd => exact ref _ rfl
  | dct ha => exact ref _ rfl
theorem sl_from {K : PySem.W.Frag} {Q : VK} {H : Hp} {l : Addr} {vs : List V} {n : Int} {k : Nat} (hl : H l = some (.lst vs)) (e : n = (k : Nat)) (h : ∀ z, H z = none → ∀ H', Same H H' → H' z = some (.lst (vs.drop k)) → Q (.ref z) H') : rSlL K (.ref l) (some n) none H Q := by
  refine ⟨l, vs, rfl, SqL.of hl, fun z nz => ?_⟩
  rw [e, Cm.cut_from]
  exact h z nz _ (fun b o q => by rw [upd_ne (ne_of_none q nz)]; exact q) upd_same
theorem sl_to {K : PySem.W.Frag} {Q : VK} {H : Hp} {l : Addr} {vs : List V} {n : Int} {k : Nat} (hl : H l = some (.lst vs)) (e : n = (k : Nat)) (hk : k ≤ vs.length) (h : ∀ z, H z = none → ∀ H', Same H H' → H' z = some (.lst (vs.take k)) → Q (.ref z) H') : rSlL K (.ref l) none (some n) H Q := by
  refine ⟨l, vs, rfl, SqL.of hl, fun z nz => ?_⟩
  rw [e, Cm.cut_to _ _ hk]
  exact h z nz _ (fun b o q => by rw [upd_ne (ne_of_none q nz)]; exact q) upd_same
theorem cat {Q : VK} {H : Hp} {p r : Addr} {xs ys : List V} (hp : H p = some (.lst xs)) (hr : H r = some (.lst ys)) (hl : xs.length + ys.length ≤ sizeLine) (k : ∀ z, H z = none → ∀ H', Same H H' → H' z = some (.lst (xs ++ ys)) → Q (.ref z) H') : rCat (.ref p) (.ref r) H Q :=
  ⟨p, r, xs, ys, rfl, rfl, hp, hr, hl, fun z nz => k z nz _ (fun b o q => by rw [upd_ne (ne_of_none q nz)]; exact q) upd_same⟩
end RpA

/-! the law's tales, and how it looks at a reading -/
namespace My
open PySem L2 Cm LM EM
abbrev sTale : Stmt := top 60
abbrev sAt : Stmt := top 62
abbrev sLEq : Stmt := inClass (top 37) 2
/-! ### shown readings as data -/
theorem rdS_ok (n : Nat) : PyData.strOk (rdS n) = true := SkT.ok_app (SkT.ok_app (SkT.ok_app (by decide +kernel) (SkT.ok_of _)) (SkT.ok_of _)) (SkT.ok_of _)
def sawL (rs : List (Nat × Bool)) (x : RP) (st : Bool) (wd : Nat) : List PyData := [.tuple (repsD rs), .tuple (pcsD x.pieces), .tuple (intD x.rest), .bool st, .int (wd : Nat), .bool false, .int (rs.length : Nat), .str (rdS rs.length), .bool (decide (rs ≠ []))]
theorem saw_lay (rs : List (Nat × Bool)) (x : RP) (st : Bool) (wd : Nat) : PyData.canLay0 (.list (sawL rs x st wd)) = true := by
  simp only [sawL, PyData.canLay0, PyData.canLayAll0, (repsD_lay rs).1, (pcsD_lay x.pieces).1, intD_lay, rdS_ok, Bool.and_true, Bool.true_and]
theorem saw_shaped (rs : List (Nat × Bool)) (x : RP) (st : Bool) (wd : Nat) : SeqAt.shaped (.list (sawL rs x st wd)) = true := by
  have h1 := (repsD_lay rs).2
  have h2 := (pcsD_lay x.pieces).2
  have h3 := intD_depth x.rest
  unfold SeqAt.shaped
  rw [saw_lay, Bool.true_and]
  refine decide_eq_true ?_
  simp only [sawL, PyData.depth, PyData.depthAll]
  omega
theorem eqv_rnil (rs : List (Nat × Bool)) : PyData.eqv (.list (repsD rs)) (.list []) = decide (rs = []) := by
  cases rs with
  | nil => simp [repsD, PyData.eqv, PyData.eqvAll]
  | cons x r => simp [repsD, PyData.eqv, PyData.eqvAll]
theorem reps_shaped (rs : List (Nat × Bool)) : SeqAt.shaped (.list (repsD rs)) = true := by
  obtain ⟨a, b⟩ := repsD_lay rs
  unfold SeqAt.shaped
  rw [PyData.canLay0, a, Bool.true_and]
  exact decide_eq_true (by rw [PyData.depth]; omega)
structure TxRl (K : PySem.W.Frag) (mg : Str → Option Value) where
  T : TxRd K mg
  D : TxD K mg
  repr : mg "repr" = none
  str : mg "str" = none
  bool : mg "bool" = none
  nb : PySem.W.findIn K (.ref T.CR) "__bool__" = some none
  tale : Df K mg "_law_tale" sTale ["_law_jar_here", "_law_wide", "_law_many"]
  at_ : Df K mg "_law_is_at" sAt ["_law_live", "_law_wide", "_law_tale_here", "_law_box_here"]
  le : Sm K T.N.T.C "__eq__" "Loop.__eq__" sLEq ["self", "other"]
section
variable {P : Program} {w : World} {K : PySem.W.Frag} {mg : Str → Option Value} {base : Heap}
/-! ### Loop.__eq__ -/
def spLEq (C : Addr) : Sp := fun vs H Q _ => ∃ (o o2 : Addr) (t t2 : Str), vs = [.ref o, .ref o2] ∧ LoopAt C H o t ∧ LoopAt C H o2 t2 ∧ Q (.bl (decide (t = t2))) H
theorem scLEq : FnScope ["self", "other"] ["self", "other"] (defScope sLEq) := ⟨rfl, rfl, rfl, by decide +kernel, rfl, by decide +kernel, by decide +kernel⟩
theorem ok_leq (R : TxRl K mg) : FnOk P w K mg base CX0 1 R.le.f R.le.fd ["self", "other"] (spLEq R.T.N.T.C) := by
  refine R.le.F.ok scLEq (fun vs H Q E h => ?_) (fun cdv A outer s H vs Q E hr h => ?_)
  · obtain ⟨o, o2, t, t2, rfl, _⟩ := h
    rfl
  · obtain ⟨o, o2, t, t2, rfl, hO, hO2, k⟩ := h
    refine ⟨_, pss_one (ps_ret (pe_and (pe_callB call_isi (by rfl) R.T.N.T.isi (by decide +kernel) (pa_cons (pv 1) (pa_cons (pe_glob (v := .ref R.T.N.T.C) rfl R.T.N.T.gC rfl) pa_nil)))
      (pe_one (pe_cmpR op_eq (pe_fld (pv 0) rfl) (pe_fld (pv 1) rfl) (nomark _))))), ?_⟩
    have ty2 := loop_ty R.T hO2
    obtain ⟨dx, pr, pe, po, pq, e1, _⟩ := hO
    obtain ⟨dx2, pr2, pe2, po2, pq2, e2, _⟩ := hO2
    refine ⟨_, rfl, _, _, _, _, true, rfl, .own R.T.N.T.C, ty2, R.T.y5, true, rfl, iteT ?_⟩
    refine ⟨_, rfl, o, R.T.N.T.C, dx, _, _, rfl, e1, R.T.N.T.cl, R.T.N.T.nT, lf_text .., _, rfl, o2, R.T.N.T.C, dx2, _, _, rfl, e2, R.T.N.T.cl, R.T.N.T.nT, lf_text .., rfl, ?_⟩
    rw [dS]
    exact k
/-! ### _law_tale -/
def spTale : Sp := fun vs H Q _ => ∃ (j : Addr) (wd many : Nat), vs = [.ref j, .int wd, .int many] ∧ Jar H j ∧ 1 ≤ wd ∧ wd ≤ 1000 ∧ many ≤ 100 ∧
  ∀ (H' : Hp) (q : Addr) (xs : List V) (rs : List (Nat × Bool)), Off j H H' → Jar H' j → q ≠ j → H' q = some (.lst xs) → Rps H' xs rs → rs.length = many → (∀ r ∈ rs, r.1 ≤ wd) → Q (.ref q) H'
theorem scTale : FnScope ["_law_jar_here", "_law_wide", "_law_many", "_law_k"] ["_law_jar_here", "_law_wide", "_law_many"] (defScope sTale) := ⟨rfl, rfl, rfl, by decide +kernel, rfl, by decide +kernel, by decide +kernel⟩
def tOneR : TE := fun σ H Q => ∃ (j : Addr) (wd : Nat), σ[0]? = some (some (.ref j)) ∧ σ[1]? = some (some (.int (wd : Nat))) ∧ Jar H j ∧ 1 ≤ wd ∧ wd ≤ 1000 ∧ ∀ (H' : Hp) (q : Addr) (n : Nat) (b : Bool), Off j H H' → Jar H' j → H' q = some (.tup [.int (n : Nat), .bl b]) → n ≤ wd → Q (.ref q) H'
theorem Rps.offj {j : Addr} {H H' : Hp} (s : Off j H H') (hj : Jar H j) {vs rs} (h : Rps H vs rs) : Rps H' vs rs := by
  obtain ⟨x, y, z, hj⟩ := hj
  exact h.mono fun p xs e => s _ _ (ne_of e hj (by intro z; cases z)) e
theorem ok_tale (R : TxRl K mg) : FnOk P w K mg base CX0 3 R.tale.f R.tale.fd ["_law_jar_here", "_law_wide", "_law_many"] spTale := by
  have GS : FnOk P w K mg base CX0 1 R.D.sip.f R.D.sip.fd ["_law_jar_here", "_law_many"] spSip := gk_sip R.D
  have GF : FnOk P w K mg base CX0 2 R.D.frm.f R.D.frm.fd ["_law_jar_here", "_law_things"] (spFrom K) := gk_from R.D
  refine R.tale.F.ok scTale (fun vs H Q E h => ?_) (fun cdv A outer s H vs Q E hr h => ?_)
  · obtain ⟨j, wd, many, rfl, _⟩ := h
    rfl
  · obtain ⟨j, wd, many, rfl, hJ, w1, w2, hm, k⟩ := h
    have hr1 : Room 1 _ := hr.mono (by decide)
    refine ⟨_, (pss_one (ps_ret (pe_lc (own := [("_law_k", 3)]) (g := gName 3) (tt := tYes) (te := tOneR) rfl scTale.nd (pi_range1 rfl R.D.range (pa_cons (pv 2) pa_nil)) (blkOk_by (own := [("_law_k", 3)]) (N := ["_law_jar_here", "_law_wide", "_law_many", "_law_k"]) (sc := defScope sTale) (by decide +kernel)) (fun _ _ _ _ _ => pg_name (i := 3) scTale.nd rfl (Or.inl rfl)) (fun _ _ _ _ _ => pts_nil) (fun _ _ _ _ _ => by exact pe_imp (t' := tOneR) (pe_tup (pa_cons (pe_call GF hr rfl R.D.frm.g R.D.frm.k R.D.frm.b .nil pass0 (pa_cons (pv 0) (pa_cons (pe_lst (pa_cons pe_int (pa_cons (pv 1) (pa_cons (pe_call GS hr1 rfl R.D.sip.g R.D.sip.k R.D.sip.b .nil pass0 (pa_cons (pv 0) (pa_cons (pe_op op_add (pv 1) pe_int) pa_nil))) pa_nil)))) pa_nil))) (pa_cons (pe_cmpR op_eq (pe_call GS hr1 rfl R.D.sip.g R.D.sip.k R.D.sip.b .nil pass0 (pa_cons (pv 0) (pa_cons pe_int pa_nil))) pe_int (nomark _)) pa_nil))) (by
        rintro σ H1 Q1 ⟨j, wd, h0, h1, J1, w1, w2, k⟩
        refine ⟨_, h0, _, h1, _, h0, _, h1, _, _, rfl, rfl, j, _, rfl, J1, by omega, by omega, fun H2 d d0 d1 o2 J2 => ⟨(by show 3 ≤ sizeLine; decide), fun l nl => ?_⟩⟩
        refine ⟨j, l, _, rfl, J2.new nl, jar_ne J2 nl, SqL.of upd_same, (by show 0 < 3; decide), (by show 3 < 1073741824; decide), fun H3 i y hy o3 J3 => ?_⟩
        obtain ⟨cn, hc0, rfl⟩ : ∃ cn : Nat, cn ≤ wd ∧ y = .int cn := by
          match i, hy with
          | 0, hy => exact ⟨0, by omega, (Option.some.inj hy).symm⟩
          | 1, hy => exact ⟨wd, by omega, (Option.some.inj hy).symm⟩
          | 2, hy =>
            obtain ⟨d3, rfl⟩ := Int.eq_ofNat_of_zero_le d0
            exact ⟨d3, by omega, (Option.some.inj hy).symm⟩
        refine ⟨_, h0, j, 4, rfl, J3, by decide, by decide, fun H4 d3 _ _ o4 J4 => ⟨rfl, (by show 2 ≤ sizeLine; decide), fun t nt => ?_⟩⟩
        exact k _ t cn _ ((o2.trans ((Off.new Off.refl nl).trans (o3.trans o4))).new nt) (J4.new nt) upd_same hc0))))), ?_⟩
    refine ⟨_, rfl, many, rfl, by omega, by omega, fun D nD => ?_⟩
    have Dj := jar_ne hJ nD
    refine lc_range (lo := 0) (n := ((many : Int)).toNat) (fun i H' => Off j H H' ∧ Jar H' j ∧ ∃ xs rs, H' D = some (.lst xs) ∧ Rps H' xs rs ∧ rs.length = i ∧ ∀ r ∈ rs, r.1 ≤ wd) ⟨Off.new Off.refl nD, hJ.new nD, [], [], upd_same, .nil, rfl, fun r h => nomatch h⟩ ?_ ?_
    · rintro i H1 hi ⟨o1, J1, xs, rs, hD, hR, lr, hb⟩
      have hi2 : i < many := by simpa using hi
      have lx := hR.len
      refine ⟨rfl, j, wd, rfl, rfl, J1, w1, w2, fun H2 q n b o2 J2 hq hn => ?_⟩
      have hD2 := o2 _ _ Dj hD
      have st : ∀ (p : Addr) (ys : List V), H2 p = some (.tup ys) → (upd H2 D (.lst (xs ++ [.ref q]))) p = some (.tup ys) := tup_stays hD2 (by intro xs z; cases z)
      refine ⟨xs, hD2, small1000 (by omega), ?_, ?_, xs ++ [.ref q], rs ++ [(n, b)], upd_same, rps_snoc (r := (n, b)) (st _ _ hq) ((hR.offj o2 J1).mono st), by rw [List.length_append, lr]; rfl, fun r h => ?_⟩
      · intro b' o' nb e
        by_cases c : b' = D
        · rw [c, nD] at e
          cases e
        · rw [upd_ne c]
          exact o2 _ _ nb (o1 _ _ nb e)
      · obtain ⟨a1, a2, a3, h⟩ := J2
        exact ⟨a1, a2, a3, by rw [upd_ne Dj.symm]; exact h⟩
      · rcases List.mem_append.mp h with z | z
        · exact hb r z
        · rw [List.mem_singleton.mp z]; exact hn
    · rintro H1 ⟨o1, J1, xs, rs, hD, hR, lr, hb⟩
      exact k H1 D xs rs o1 J1 Dj hD hR (by simpa using lr) hb
end
end My

namespace My
open PySem L2 Cm LM EM
section
variable {P : Program} {w : World} {K : PySem.W.Frag} {mg : Str → Option Value} {base : Heap}
/-! ### _law_is_at -/
def spAt (R : TxRl K mg) : Sp := fun vs H Q _ => ∃ (lv dx lo m tl bx : Addr) (wd : Nat) (t : Str) (rr : List (Nat × Bool)) (xs : List V) (g : Nat), vs = [.ref lv, .int wd, .ref tl, .ref bx] ∧ RdAt R.T H lv dx lo m wd t rr ∧ H tl = some (.lst xs) ∧ Rps H xs rr.reverse ∧ BoxAt H bx (stR wd (ordsR t) (ordsE t) rr).x g (stR wd (ordsR t) (ordsE t) rr).st ∧ rr.length ≤ 100 ∧
  ∀ H', Same H H' → Q (.bl true) H'
theorem scAt : FnScope ["_law_live", "_law_wide", "_law_tale_here", "_law_box_here", "_law_seen", "_law_due"] ["_law_live", "_law_wide", "_law_tale_here", "_law_box_here"] (defScope sAt) := ⟨rfl, rfl, rfl, by decide +kernel, rfl, by decide +kernel, by decide +kernel⟩
theorem emp_app (x : Str) : Str.empty ++ x = x := TL.ext_tl (by rw [TL.tl_append]; rfl)
theorem ok_at (R : TxRl K mg) : FnOk P w K mg base CX0 5 R.at_.f R.at_.fd ["_law_live", "_law_wide", "_law_tale_here", "_law_box_here"] (spAt R) := by
  have GG : FnOk P w K mg base CX0 1 R.T.pG.f R.T.pG.fd ["self"] (spRd R.T fun g _ _ _ => .ref g) := ok_rdg R.T
  have GH : FnOk P w K mg base CX0 1 R.T.pH.f R.T.pH.fd ["self"] (spRd R.T fun _ h _ _ => .ref h) := ok_rdh R.T
  have GK : FnOk P w K mg base CX0 1 R.T.pK.f R.T.pK.fd ["self"] (spRd R.T fun _ _ k _ => .ref k) := ok_rdk R.T
  have GO : FnOk P w K mg base CX0 1 R.T.pO.f R.T.pO.fd ["self"] (spRd R.T fun _ _ _ ov => .bl ov) := ok_rdo R.T
  have GL : FnR P w K mg base CX0 1 R.T.rl.f (fun vs H Q E => spRdL R.T (vs ++ []) H Q E) := (ok_rdl R.T).raw R.T.rl.b .nil
  have GR : FnR P w K mg base CX0 1 R.T.rr.f (fun vs H Q E => spRdR R.T (vs ++ []) H Q E) := (ok_rdr R.T).raw R.T.rr.b .nil
  refine R.at_.F.ok scAt (fun vs H Q E h => ?_) (fun cdv A outer s H vs Q E hr h => ?_)
  · obtain ⟨lv, _, _, _, tl, bx, wd, _, _, _, _, rfl, _⟩ := h
    rfl
  · obtain ⟨lv, dx, lo, m, tl, bx, wd, t, rr, xs, g0, rfl, hR, htl, hRt, hB, hl, k⟩ := h
    have hu := hu_of hr
    have hr2 : Room 2 _ := hr.mono (by decide)
    refine ⟨_, (pss_cons (ps_set (i := 4) scAt.nd rfl (.inl rfl) (pe_lst (pa_cons (pe_prop (pv 0) R.T.clR R.T.pG.o GG hr2 R.T.pG.b .nil pass0 (by rfl)) (pa_cons (pe_prop (pv 0) R.T.clR R.T.pH.o GH hr2 R.T.pH.b .nil pass0 (by rfl)) (pa_cons (pe_prop (pv 0) R.T.clR R.T.pK.o GK hr2 R.T.pK.b .nil pass0 (by rfl)) (pa_cons (pe_prop (pv 0) R.T.clR R.T.pO.o GO hr2 R.T.pO.b .nil pass0 (by rfl)) (pa_cons (pe_fld (pv 0) rfl) (pa_cons (pe_fld (pv 0) rfl) (pa_cons (pe_callB (call_lenO R.T.rl.i R.T.rl.fn GL hr2) (by rfl) R.T.N.k.len PySem.boot_len (pa_cons (pv 0) pa_nil)) (pa_cons (pe_callB (Own.call_reprO R.T.rr.i R.T.rr.fn GR hr2) (by rfl) R.repr (by decide +kernel) (pa_cons (pv 0) pa_nil)) (pa_cons (pe_callTy (call_boolLO R.nb R.T.rl.i R.T.rl.fn GL hr) (by rfl) R.bool (by decide +kernel) (pa_cons (pv 0) pa_nil)) pa_nil))))))))))) (pss_cons (ps_set (i := 5) scAt.nd rfl (.inl rfl) (pe_lst (pa_cons (pe_callTy call_tuple_of (by rfl) R.T.N.k.tuple (by decide +kernel) (pa_cons (pv 2) pa_nil)) (pa_cons (pe_callTy call_tuple_of (by rfl) R.T.N.k.tuple (by decide +kernel) (pa_cons (pe_dget hu (pv 3) pe_str (fun _ _ => rfl)) pa_nil)) (pa_cons (pe_callTy call_tuple_of (by rfl) R.T.N.k.tuple (by decide +kernel) (pa_cons (pe_dget hu (pv 3) pe_str (fun _ _ => rfl)) pa_nil)) (pa_cons (pe_dget hu (pv 3) pe_str (fun _ _ => rfl)) (pa_cons (pv 1) (pa_cons pe_bl (pa_cons (pe_callB call_len_seq (by rfl) R.D.J.len PySem.boot_len (pa_cons (pv 2) pa_nil)) pa_nil))))))))) (pss_one (ps_ret (pe_cmpR (op_eqD (hu64 hr)) (pv 4) (pe_op op_cat (pv 5) (pe_lst (pa_cons (pe_op op_add_str (pe_op op_add_str pe_str (pe_callTy call_str_int (by rfl) R.str (by decide +kernel) (pa_cons (pe_callB call_len_seq (by rfl) R.D.J.len PySem.boot_len (pa_cons (pv 2) pa_nil)) pa_nil))) pe_str) (pa_cons (pe_cmpR (op_neD (hu64 hr)) (pv 2) (pe_lst pa_nil) (nomark _)) pa_nil)))) (nomark _)))))), ?_⟩
    obtain ⟨dm, g, h, kk, b, hm, hMs, _⟩ := hR.mo.head
    obtain ⟨gs, hs, hg, hRp, hh, hP, hk⟩ := id hMs
    have lg : gs.length = rr.length := by rw [hRp.len, List.length_reverse]
    have lx : xs.length = rr.length := by rw [hRt.len, List.length_reverse]
    have at_ := hR.at_
    refine ⟨_, rfl, lv, dx, _, rfl, at_, lv, dx, lo, m, dm, g, h, kk, wd, false, b, _, rfl, at_, hm, ?_⟩
    refine ⟨_, rfl, lv, dx, _, rfl, at_, lv, dx, lo, m, dm, g, h, kk, wd, false, b, _, rfl, at_, hm, ?_⟩
    refine ⟨_, rfl, lv, dx, _, rfl, at_, lv, dx, lo, m, dm, g, h, kk, wd, false, b, _, rfl, at_, hm, ?_⟩
    refine ⟨_, rfl, lv, dx, _, rfl, at_, lv, dx, lo, m, dm, g, h, kk, wd, false, b, _, rfl, at_, hm, ?_⟩
    refine ⟨_, rfl, lv, R.T.CR, dx, _, _, rfl, at_, R.T.clR, R.T.nRs, rf_s .., _, rfl, lv, R.T.CR, dx, _, _, rfl, at_, R.T.clR, R.T.nRb, rf_b .., ?_⟩
    refine ⟨_, rfl, lv, dx, _, rfl, at_, lv, dx, lo, m, dm, g, h, kk, wd, false, b, _, gs, rfl, at_, hm, hg, gs.length, rfl, by omega, ?_⟩
    refine ⟨_, rfl, lv, dx, _, rfl, at_, lv, dx, lo, m, dm, g, h, kk, wd, false, b, _, gs, rfl, at_, hm, hg, by omega, _, rfl, ?_⟩
    refine ⟨_, rfl, lv, dx, _, rfl, at_, lv, dx, lo, m, dm, g, h, kk, wd, false, b, _, gs, rfl, at_, hm, hg, gs.length, rfl, by omega, (by show 9 ≤ sizeLine; decide), fun sn nsn => ?_⟩
    rw [lg]
    obtain ⟨r0, u0, vs0, hb0, hr0, hu0, hP0⟩ := id hB.ex
    have s1 := same_new (o := .lst [.ref g, .ref h, .ref kk, .bl (stR wd (ordsR t) (ordsE t) rr).st, .int (wd : Nat), .bl false, .int (rr.length : Nat), .str (rdS rr.length), .bl (((rr.length : Nat) : Int) != 0)]) nsn
    have hsn : (upd H sn (.lst [.ref g, .ref h, .ref kk, .bl (stR wd (ordsR t) (ordsE t) rr).st, .int (wd : Nat), .bl false, .int (rr.length : Nat), .str (rdS rr.length), .bl (((rr.length : Nat) : Int) != 0)])) sn = some (.lst [.ref g, .ref h, .ref kk, .bl (stR wd (ordsR t) (ordsE t) rr).st, .int (wd : Nat), .bl false, .int (rr.length : Nat), .str (rdS rr.length), .bl (((rr.length : Nat) : Int) != 0)]) := upd_same
    show tSeq _ _ _ _ (upd H sn (.lst [.ref g, .ref h, .ref kk, .bl (stR wd (ordsR t) (ordsE t) rr).st, .int (wd : Nat), .bl false, .int (rr.length : Nat), .str (rdS rr.length), .bl (((rr.length : Nat) : Int) != 0)]))
    generalize upd H sn (.lst [.ref g, .ref h, .ref kk, .bl (stR wd (ordsR t) (ordsE t) rr).st, .int (wd : Nat), .bl false, .int (rr.length : Nat), .str (rdS rr.length), .bl (((rr.length : Nat) : Int) != 0)]) = H1 at s1 hsn ⊢
    -- due
    refine ⟨_, rfl, tl, _, rfl, .inl ⟨SqL.of (s1 _ _ htl), fun q1 n1 => ?_⟩⟩
    have u1 := same_new (o := .tup xs) n1
    refine ⟨_, rfl, bx, _, rfl, get_u (u1 _ _ (s1 _ _ hb0)), u0, _, rfl, .inl ⟨SqL.of (u1 _ _ (s1 _ _ hu0)), fun q2 n2 => ?_⟩⟩
    have u2 := same_new (o := .tup vs0) n2
    refine ⟨_, rfl, bx, _, rfl, get_r (u2 _ _ (u1 _ _ (s1 _ _ hb0))), r0, _, rfl, .inl ⟨SqL.of (u2 _ _ (u1 _ _ (s1 _ _ hr0))), fun q3 n3 => ?_⟩⟩
    have u3 := same_new (o := .tup (ivs (stR wd (ordsR t) (ordsE t) rr).x.rest)) n3
    have hb3 := u3 _ _ (u2 _ _ (u1 _ _ (s1 _ _ hb0)))
    have ht3 := u3 _ _ (u2 _ _ (u1 _ _ (s1 _ _ htl)))
    refine ⟨_, rfl, bx, _, rfl, get_o hb3, _, rfl, _, rfl, tl, _, rfl, .inl (SqL.of ht3), (by show 7 ≤ sizeLine; decide), fun du ndu => ?_⟩
    rw [lx]
    have u4 := same_new (o := .lst [.ref q1, .ref q2, .ref q3, .bl (stR wd (ordsR t) (ordsE t) rr).st, .int (wd : Nat), .bl false, .int (rr.length : Nat)]) ndu
    have s4 := Same.trans u1 (Same.trans u2 (Same.trans u3 u4))
    have hd4 : (upd (upd (upd (upd H1 q1 (.tup xs)) q2 (.tup vs0)) q3 (.tup (ivs (stR wd (ordsR t) (ordsE t) rr).x.rest))) du (.lst [.ref q1, .ref q2, .ref q3, .bl (stR wd (ordsR t) (ordsE t) rr).st, .int (wd : Nat), .bl false, .int (rr.length : Nat)])) du = some (.lst [.ref q1, .ref q2, .ref q3, .bl (stR wd (ordsR t) (ordsE t) rr).st, .int (wd : Nat), .bl false, .int (rr.length : Nat)]) := upd_same
    have e1 := u4 _ _ (u3 _ _ (u2 _ _ (upd_same (H := H1) (a := q1) (o := .tup xs))))
    have e2 := u4 _ _ (u3 _ _ (upd_same (H := upd H1 q1 (.tup xs)) (a := q2) (o := .tup vs0)))
    have e3 := u4 _ _ (upd_same (H := upd (upd H1 q1 (.tup xs)) q2 (.tup vs0)) (a := q3) (o := .tup (ivs (stR wd (ordsR t) (ordsE t) rr).x.rest)))
    have s14 := Same.trans s1 s4
    have hsn4 := s4 _ _ hsn
    refine ⟨_, rfl, _, rfl, ?_⟩
    generalize upd (upd (upd (upd H1 q1 (.tup xs)) q2 (.tup vs0)) q3 (.tup (ivs (stR wd (ordsR t) (ordsE t) rr).x.rest))) du (.lst [.ref q1, .ref q2, .ref q3, .bl (stR wd (ordsR t) (ordsE t) rr).st, .int (wd : Nat), .bl false, .int (rr.length : Nat)]) = H4 at s4 hd4 e1 e2 e3 s14 hsn4 ⊢
    have ht4 := s14 _ _ htl
    have l2 : ("Reading(" : Str).length = 8 := by decide +kernel
    have l3 : (" replies)" : Str).length = 9 := by decide +kernel
    have l4 : (Str.ofString (toString ((rr.length : Nat) : Int))).length ≤ 20 := num_short (by omega)
    have lgx : ((rr.length : Nat) : Int).natAbs.log2 < 1920 := by
      rw [Int.natAbs_natCast]
      exact Nat.lt_of_le_of_lt (Nat.log2_le_self _) (by omega)
    refine ⟨_, rfl, tl, _, rfl, .inl (SqL.of ht4), ?_⟩
    rw [lx]
    refine ⟨_, rfl, lgx, _, _, rfl, rfl, szl (by omega), _, _, rfl, rfl, szl (by rw [strLen_append]; omega), ?_⟩
    refine ⟨_, rfl, Nat.zero_le _, fun e ne => ?_⟩
    have u5 := same_new (o := .lst []) ne
    refine ⟨.list (repsD rr.reverse), .list [], .lst (SqL.of (u5 _ _ ht4)) (rps_dp ((hRt.same s14).same u5)), .lst (SqL.of upd_same) .nil, reps_shaped _, by decide, (by show 2 ≤ sizeLine; decide), fun l6 n6 => ?_⟩
    rw [eqv_rnil]
    have eS : ("Reading(" : Str) ++ Str.ofString (toString ((rr.length : Nat) : Int)) ++ (" replies)" : Str) = rdS rr.length := by
      unfold rdS
      rw [emp_app]
    rw [show (("Reading(" : Str) ++ Str.ofString (toString ((rr.length : Nat) : Int)) ++ " replies)") = rdS rr.length from eS]
    have u6 := same_new (o := .lst [.str (rdS rr.length), .bl (!decide (rr.reverse = []))]) n6
    refine RpA.cat (u6 _ _ (u5 _ _ hd4)) upd_same (by show 7 + 2 ≤ sizeLine; decide) fun z nz H7 s7 hz => ?_
    have s47 := Same.trans u5 (Same.trans u6 s7)
    have s07 := Same.trans s14 s47
    have lr : rr.reverse.length = rr.length := List.length_reverse ..
    have eb : (((rr.length : Nat) : Int) != 0) = decide (rr.reverse ≠ []) := by
      cases rr with
      | nil => rfl
      | cons a q => simp; omega
    have eb2 : (!decide (rr.reverse = [])) = decide (rr.reverse ≠ []) := by simp
    rw [eb2] at hz
    rw [eb] at hsn4
    refine ⟨.list (sawL rr.reverse (stR wd (ordsR t) (ordsE t) rr).x (stR wd (ordsR t) (ordsE t) rr).st wd), .list (sawL rr.reverse (stR wd (ordsR t) (ordsE t) rr).x (stR wd (ordsR t) (ordsE t) rr).st wd), ?_, ?_, saw_shaped .., saw_shaped .., ?_⟩
    · unfold sawL
      rw [lr]
      exact .lst (SqL.of (s47 _ _ hsn4)) (.cons (.tup (SqT.of (s07 _ _ hg)) (rps_dp (hRp.same s07))) (.cons (.tup (SqT.of (s07 _ _ hh)) (pcs_dp (hP.same s07))) (.cons (.tup (SqT.of (s07 _ _ hk)) (dpI _)) (.cons (.bl _) (.cons (.int _) (.cons (.bl _) (.cons (.int _) (.cons (.str _) (.cons (.bl _) .nil)))))))))
    · unfold sawL
      rw [lr]
      exact .lst (SqL.of hz) (.cons (.tup (SqT.of (s47 _ _ e1)) (rps_dp (hRt.same s07))) (.cons (.tup (SqT.of (s47 _ _ e2)) (pcs_dp (hP0.same s07))) (.cons (.tup (SqT.of (s47 _ _ e3)) (dpI _)) (.cons (.bl _) (.cons (.int _) (.cons (.bl _) (.cons (.int _) (.cons (.str _) (.cons (.bl _) .nil)))))))))
    · rw [SeqAt.eqv_refl _ (saw_lay ..)]
      exact k H7 s07
end
end My

/-! laws that hand lambdas to _law_came: what stays, the tables of code -/
namespace My
open PySem L2
def qLam : Str := ("_law_right" : Str) ++ ".<locals>." ++ "<lambda>"
/-- all but the jar and the tables is as it was -/
def OffN (j : Addr) (H H' : Hp) : Prop := ∀ b o, b ≠ j → (∀ ps, o ≠ .tbl ps) → H b = some o → H' b = some o
theorem OffN.refl {j : Addr} {H : Hp} : OffN j H H := fun _ _ _ _ h => h
theorem OffN.trans {j : Addr} {H H1 H2 : Hp} (a : OffN j H H1) (b : OffN j H1 H2) : OffN j H H2 := fun c o n t h => b c o n t (a c o n t h)
theorem Off.offN {j : Addr} {H H' : Hp} (a : Off j H H') : OffN j H H' := fun c o n _ h => a c o n h
theorem extN_off {j : Addr} {H H' : Hp} (a : LamX.ExtN H H') : OffN j H H' := fun c o _ t h => a c o h t
theorem Jar.ext {j : Addr} {H H' : Hp} (h : Jar H j) (a : LamX.ExtN H H') : Jar H' j := by
  obtain ⟨x, y, z, e⟩ := h
  exact ⟨x, y, z, a _ _ e (by intro ps q; cases q)⟩
theorem tabs_off {T : List (Addr × Str)} {j : Addr} {H H' : Hp} (J : Jar H j) (o : Off j H H') (t : LamX.Tabs T H) : LamX.Tabs T H' := fun p hp => by
  obtain ⟨x, y, z, q⟩ := J
  obtain ⟨ps, a1, a2, a3⟩ := t p hp
  refine ⟨ps, o _ _ (fun e => ?_) a1, a2, fun pos cv hcv => ?_⟩
  · rw [e, q] at a1
    cases a1
  · obtain ⟨c, e, h⟩ := a3 pos cv hcv
    refine ⟨c, e, o _ _ (fun e => ?_) h⟩
    rw [e, q] at h
    cases h
def spRight (PR : Addr) : Sp := fun vs H Q _ => ∃ j : Addr, vs = [.ref j] ∧ Jar H j ∧ LamX.Tabs [(PR, qLam)] H ∧ ∀ H', OffN j H H' → LamX.Tabs [(PR, qLam)] H' → Q (.bl true) H'
/-- the state of a law's turns: the jar, the tables -/
structure Ts (PR j : Addr) (H0 H : Hp) : Prop where
  off : OffN j H0 H
  jar : Jar H j
  tab : LamX.Tabs [(PR, qLam)] H
theorem Ts.same {PR j : Addr} {H0 H H' : Hp} (t : Ts PR j H0 H) (s : Same H H') : Ts PR j H0 H' := ⟨t.off.trans (Same.off s).offN, t.jar.same s, t.tab.ext s⟩
theorem Ts.off' {PR j : Addr} {H0 H H' : Hp} (t : Ts PR j H0 H) (o : Off j H H') (J : Jar H' j) : Ts PR j H0 H' := ⟨t.off.trans o.offN, J, tabs_off t.jar o t.tab⟩
theorem Ts.ext {PR j : Addr} {H0 H H' : Hp} (t : Ts PR j H0 H) (o : LamX.ExtN H H') (T : LamX.Tabs [(PR, qLam)] H') : Ts PR j H0 H' := ⟨t.off.trans (extN_off o), t.jar.ext o, T⟩
end My

/-! _law_moved -/
namespace My
open PySem L2 Cm LM EM StX IsX FvL NdefX
abbrev sMov : Stmt := top 64
/-- feeds and undos, as far as they are possible -/
def mvF (sz : Nat) (ro eo : List (Str × Str)) : List (Nat × Bool) → List (Nat × Bool) → List (Nat × Bool)
  | [], rr => rr
  | (n, said) :: st, rr => if said = true ∧ rr ≠ [] then mvF sz ro eo st rr.tail else if (stR sz ro eo rr).st = true then mvF sz ro eo st rr else mvF sz ro eo st ((min n sz, false) :: rr)
structure MvOk (sz : Nat) (ro eo : List (Str × Str)) (k : Nat) (rr : List (Nat × Bool)) : Prop where
  ok : OkR sz ro eo rr
  hc : ∀ r ∈ rr, r.1 ≤ sz
  ln : rr.length ≤ k
section
variable {P : Program} {w : World} {K : PySem.W.Frag} {mg : Str → Option Value} {base : Heap}
def spMov (T : TxRd K mg) : Sp := fun vs H Q _ => ∃ (lv dx lo m sl : Addr) (sz : Nat) (t : Str) (rr st : List (Nat × Bool)) (xs : List V), vs = [.ref lv, .int (sz : Nat), .ref sl] ∧ RdAt T H lv dx lo m sz t rr ∧ H sl = some (.lst xs) ∧ Rps H xs st ∧ st.length ≤ 10 ∧ goodText t = true ∧ 1 ≤ sz ∧ sz ≤ 1000 ∧ MvOk sz (ordsR t) (ordsE t) 60 rr ∧
  ∀ (H' : Hp) (m' : Addr), Off lv H H' → RdAt T H' lv dx lo m' sz t (mvF sz (ordsR t) (ordsE t) st rr) → MvOk sz (ordsR t) (ordsE t) (rr.length + st.length) (mvF sz (ordsR t) (ordsE t) st rr) → Q (.int ((mvF sz (ordsR t) (ordsE t) st rr).length : Nat)) H'
abbrev NMv : List Str := ["_law_live", "_law_wide", "_law_steps", "_law_many", "_law_said"]
theorem scMov : FnScope NMv ["_law_live", "_law_wide", "_law_steps"] (defScope sMov) := ⟨rfl, rfl, rfl, by decide +kernel, rfl, by decide +kernel, by decide +kernel⟩
theorem ok_mov (T : TxRd K mg) (len : mg "len" = none) (mmin : mg "min" = none) (D : Df K mg "_law_moved" sMov ["_law_live", "_law_wide", "_law_steps"]) : FnOk P w K mg base CX0 7 D.f D.fd ["_law_live", "_law_wide", "_law_steps"] (spMov T) := by
  have GO : FnOk P w K mg base CX0 1 T.pO.f T.pO.fd ["self"] (spRd T fun _ _ _ ov => .bl ov) := ok_rdo T
  have GL : FnR P w K mg base CX0 1 T.rl.f (fun vs H Q E => spRdL T (vs ++ []) H Q E) := (ok_rdl T).raw T.rl.b .nil
  have GUn : FnOk P w K mg base (L2.CX P w) 2 T.un.f T.un.fd ["self"] (spRdU T) := ok_rdu T
  have GFe : FnOk P w K mg base (L2.CX P w) 6 T.fe.f T.fe.fd ["self", "count", "told"] (spRdT T) := ok_rdf T
  refine D.F.ok scMov (fun vs H Q E h => ?_) (fun cdv A outer s H vs Q E hr h => ?_)
  · obtain ⟨lv, _, _, _, _, _, _, _, _, _, rfl, _⟩ := h
    rfl
  · obtain ⟨lv, dx, lo, m, sl, sz, t, rr, st, xs, rfl, hR, hsl, hRp, ls, gt, z1, z2, hM, k⟩ := h
    have hr2 : Room 2 _ := hr.mono (by decide)
    refine ⟨_, (pss_cons (ps_for PassesOwn.never rfl (pi_list (pv 2)) (pg_tup rfl (pgs_cons (pg_name (i := 3) scMov.nd rfl (.inl rfl)) (pgs_cons (pg_name (i := 4) scMov.nd rfl (.inl rfl)) pgs_nil))) (pss_one (ps_if (PW.pt (pw_and (pt_val (pv 4)) (pw_and1 (pt_cmpR op_gt (pe_callB (call_lenO T.rl.i T.rl.fn GL hr2) (by rfl) len PySem.boot_len (pa_cons (pv 0) pa_nil)) pe_int (nomark _))))) (pss_one (ps_expr (pe_meth0 (pv 0) T.clR T.un.m GUn hr2 T.un.b .nil pass_none))) (pss_one (ps_if (pt_not (pt_val (pe_prop (pv 0) T.clR T.pO.o GO hr2 T.pO.b .nil pass0 (by rfl)))) (pss_one (ps_expr (pe_meth (pv 0) T.clR T.fe.m GFe hr T.fe.b .nil pass_none (pa_cons (pe_callB (call_min2 rfl) (by rfl) mmin (by decide +kernel) (pa_cons (pv 3) (pa_cons (pv 1) pa_nil))) (pa_cons pe_bl pa_nil))))) pss_nil))))) (pss_one (ps_ret (pe_callB (call_lenO T.rl.i T.rl.fn GL hr2) (by rfl) len PySem.boot_len (pa_cons (pv 0) pa_nil))))), ?_⟩
    have lx : xs.length = st.length := hRp.len
    have nsl : sl ≠ lv := ne_of hsl hR.at_ (by intro z; cases z)
    have lenR : ∀ {H1 : Hp} {m1 : Addr} {rr1 : List (Nat × Bool)}, RdAt T H1 lv dx lo m1 sz t rr1 → ∃ (dm g h kk : Addr) (b : V) (gs : List V), H1 m1 = some (.ins T.CM dm (mf b g h kk (stR sz (ordsR t) (ordsE t) rr1).st)) ∧ H1 g = some (.tup gs) ∧ gs.length = rr1.length := fun R => by
      obtain ⟨dm, g, h, kk, b, hm, hMs, _⟩ := R.mo.head
      obtain ⟨gs, hs, hg, hRg, _⟩ := hMs
      exact ⟨dm, g, h, kk, b, gs, hm, hg, by rw [hRg.len, List.length_reverse]⟩
    refine ⟨_, rfl, sl, rfl, ⟨_, SqL.of hsl⟩, for_list (xs := xs) (fun i σ H' => ∃ (m1 : Addr) (rr1 : List (Nat × Bool)) (v3 v4 : Option V), σ = [some (.ref lv), some (.int (sz : Nat)), some (.ref sl), v3, v4] ∧ Off lv H H' ∧ RdAt T H' lv dx lo m1 sz t rr1 ∧ MvOk sz (ordsR t) (ordsE t) (rr.length + i) rr1 ∧ mvF sz (ordsR t) (ordsE t) (st.drop i) rr1 = mvF sz (ordsR t) (ordsE t) st rr)
      ⟨m, rr, none, none, rfl, Off.refl, hR, ⟨hM.ok, hM.hc, Nat.le_refl _⟩, rfl⟩ (fun i σ H' _ ⟨_, _, _, _, _, o, _⟩ => SqL.of (o _ _ nsl hsl)) ?_ ?_⟩
    · rintro i x σ H1 hx ⟨m1, rr1, v3, v4, rfl, o1, R1, M1, e1⟩
      obtain ⟨q0, r0, hr0, rfl, hq0⟩ := hRp.get hx
      have hi : i < st.length := (List.getElem?_eq_some_iff.mp hr0).1
      have ed : st.drop i = r0 :: st.drop (i + 1) := drop_get hr0
      rw [ed] at e1
      obtain ⟨n, said⟩ := r0
      have l1 := M1.ln
      have l2 := hM.ln
      obtain ⟨dm, g, h, kk, b, gs, hm, hg, lg⟩ := lenR R1
      refine ⟨q0, _, rfl, SqT.of (o1 _ _ (ne_of hq0 hR.at_ (by intro z; cases z)) hq0), rfl, _, _, rfl, _, _, rfl, rfl, ?_⟩
      rw [mvF] at e1
      cases said with
      | true =>
        refine ⟨_, rfl, _, rfl, iteT ⟨_, rfl, lv, dx, _, rfl, R1.at_, lv, dx, lo, m1, dm, g, h, kk, sz, false, b, _, gs, rfl, R1.at_, hm, hg, gs.length, rfl, by omega, _, _, rfl, rfl, _, rfl, ?_⟩⟩
        refine ite2 (fun c => ?_) (fun c => ?_)
        · have c := of_decide_eq_true c
          cases rr1 with
          | nil => rw [lg] at c; exact absurd c (by decide)
          | cons r1 rr1 =>
            rw [if_pos ⟨rfl, by simp⟩] at e1
            refine ⟨_, rfl, lv, dx, _, rfl, R1.at_, rf_n2 .., lv, dx, lo, m1, sz, t, _, rfl, R1, fun z => by (cases z), fun r q hq H2 m2 o2 R2 => ?_⟩
            cases hq
            exact ⟨m2, _, _, _, rfl, o1.trans o2, R2, ⟨M1.ok.2, fun r hr => M1.hc r (List.mem_cons_of_mem _ hr), by rw [List.length_cons] at l1; omega⟩, e1⟩
        · have c : ¬ (0 : Int) < (gs.length : Int) := fun z => c (decide_eq_true z)
          rw [if_neg (fun z => by
            have : 0 < rr1.length := List.length_pos_iff.mpr z.2
            exact c (by omega))] at e1
          refine ⟨_, rfl, lv, dx, _, rfl, R1.at_, lv, dx, lo, m1, dm, g, h, kk, sz, false, b, _, rfl, R1.at_, hm, _, rfl, ?_⟩
          cases hst : (stR sz (ordsR t) (ordsE t) rr1).st with
          | true =>
            rw [if_pos hst] at e1
            exact iteF ⟨m1, rr1, _, _, rfl, o1, R1, ⟨M1.ok, M1.hc, by omega⟩, e1⟩
          | false =>
            rw [if_neg (by rw [hst]; decide)] at e1
            have em : (if (sz : Int) < (n : Int) then (sz : Int) else (n : Int)) = ((min n sz : Nat) : Int) := by
              by_cases c : (sz : Int) < (n : Int)
              · rw [if_pos c, Nat.min_eq_right (by omega)]
              · rw [if_neg c, Nat.min_eq_left (by omega)]
            refine iteT ⟨_, rfl, lv, dx, _, rfl, R1.at_, rf_n1 .., _, rfl, _, rfl, (n : Int), (sz : Int), rfl, lv, dx, lo, m1, sz, min n sz, false, t, rr1, ?_, R1, gt, z1, z2, Nat.min_le_right _ _, by omega, M1.ok, M1.hc, fun z => absurd (hst.symm.trans z) (by decide), fun _ H2 m2 q2 hs2 o2 R2 _ _ _ => ⟨m2, _, _, _, rfl, o1.trans o2, R2, ⟨⟨hst, M1.ok⟩, fun r hr => ?_, by rw [List.length_cons]; omega⟩, e1⟩⟩
            · exact congrArg (fun i => [V.ref lv, V.int i, V.bl false]) em
            · rcases List.mem_cons.mp hr with rfl | hr
              · exact Nat.min_le_right _ _
              · exact M1.hc r hr
      | false =>
        rw [if_neg (fun z => by cases z.1)] at e1
        refine ⟨_, rfl, _, rfl, iteF ?_⟩
        refine ⟨_, rfl, lv, dx, _, rfl, R1.at_, lv, dx, lo, m1, dm, g, h, kk, sz, false, b, _, rfl, R1.at_, hm, _, rfl, ?_⟩
        cases hst : (stR sz (ordsR t) (ordsE t) rr1).st with
        | true =>
          rw [if_pos hst] at e1
          exact iteF ⟨m1, rr1, _, _, rfl, o1, R1, ⟨M1.ok, M1.hc, by omega⟩, e1⟩
        | false =>
          rw [if_neg (by rw [hst]; decide)] at e1
          have em : (if (sz : Int) < (n : Int) then (sz : Int) else (n : Int)) = ((min n sz : Nat) : Int) := by
            by_cases c : (sz : Int) < (n : Int)
            · rw [if_pos c, Nat.min_eq_right (by omega)]
            · rw [if_neg c, Nat.min_eq_left (by omega)]
          refine iteT ⟨_, rfl, lv, dx, _, rfl, R1.at_, rf_n1 .., _, rfl, _, rfl, (n : Int), (sz : Int), rfl, lv, dx, lo, m1, sz, min n sz, false, t, rr1, ?_, R1, gt, z1, z2, Nat.min_le_right _ _, by omega, M1.ok, M1.hc, fun z => absurd (hst.symm.trans z) (by decide), fun _ H2 m2 q2 hs2 o2 R2 _ _ _ => ⟨m2, _, _, _, rfl, o1.trans o2, R2, ⟨⟨hst, M1.ok⟩, fun r hr => ?_, by rw [List.length_cons]; omega⟩, e1⟩⟩
          · exact congrArg (fun i => [V.ref lv, V.int i, V.bl false]) em
          · rcases List.mem_cons.mp hr with rfl | hr
            · exact Nat.min_le_right _ _
            · exact M1.hc r hr
    · rintro σ H1 ⟨m1, rr1, v3, v4, rfl, o1, R1, M1, e1⟩
      rw [List.drop_eq_nil_of_le (by omega)] at e1
      have e1 : rr1 = mvF sz (ordsR t) (ordsE t) st rr := e1
      obtain ⟨dm, g, h, kk, b, gs, hm, hg, lg⟩ := lenR R1
      have l1 := M1.ln
      have l2 := hM.ln
      refine ⟨_, rfl, lv, dx, _, rfl, R1.at_, lv, dx, lo, m1, dm, g, h, kk, sz, false, b, _, gs, rfl, R1.at_, hm, hg, gs.length, rfl, by omega, ?_⟩
      rw [lg]
      rw [lx] at M1
      rw [e1] at R1 M1 ⊢
      exact k H1 m1 o1 R1 M1
end
end My

/-! lambdas within lambdas: a code object that is known with its own table -/
namespace FvT
open PySem PySem.Spec PyProof.Rows L2 LamX NdefX FvL
/-- the code object at c bears the name q and has the table at P -/
def CodeT (c : Addr) (q : Str) (P : Addr) : HO := .ext fun h => (∃ (oc : Obj) (vs : Array Value) (t : Tok), h.get? c = some oc ∧ oc.data = .fields vs ∧ vs[1]? = some (.str q t)) ∧ PySem.W.CodeHd h c P
theorem codeT_ne {c P : Addr} {q : Str} (ps : Array Value) : CodeT c q P ≠ .tbl ps := fun z => by
  unfold CodeT at z
  cases z
theorem codeT_at {Pg : Program} {w : World} {H : Hp} {h : Heap} {c P : Addr} {q : Str} (hok : HOk Pg w H h) (e : H c = some (CodeT c q P)) : h.CodeRec (.ref c) q ∧ PySem.W.CodeHd h c P := by
  obtain ⟨⟨⟨oc, vs, t, a, b, d⟩, z⟩, _⟩ := hok c _ e
  exact ⟨⟨c, oc, vs, t, rfl, a, b, d⟩, z⟩
/-- the table at P: each code object that it tells bears the name q, and has a table of its own for codes of the name q' -/
def TabT (S : List Addr) (H : Hp) (P : Addr) (q q' : Str) : Prop := ∃ ps : Array Value, H P = some (.tbl ps) ∧ TriplesOk ps.toList ∧ ∀ (pos : Pos) (cv : Value), codeAmong pos ps.toList = some cv → ∃ c P', cv = .ref c ∧ H c = some (CodeT c q P') ∧ TabS H P' q' ∧ P' ≠ P ∧ P' ∉ S
theorem TabT.nil {S : List Addr} {H : Hp} {P : Addr} {q q' : Str} (h : H P = some (.tbl #[])) : TabT S H P q q' := ⟨#[], h, True.intro, fun pos cv hc => by
  have z : codeAmong pos [] = some cv := hc
  simp [codeAmong] at z⟩
theorem TabT.ext {S : List Addr} {H H' : Hp} {P : Addr} {q q' : Str} (t : TabT S H P q q') (e : ∀ b o, H b = some o → H' b = some o) : TabT S H' P q q' := by
  obtain ⟨ps, h1, h2, h3⟩ := t
  refine ⟨ps, e _ _ h1, h2, fun pos cv hc => ?_⟩
  obtain ⟨c, P', e1, e2, e3, e4⟩ := h3 pos cv hc
  exact ⟨c, P', e1, e _ _ e2, e3.ext e, e4⟩
section
variable {X : Cx} {pins : List (Addr × Obj)} {σ : L2.St} {H : Hp} {s : Shared}
/-- the table's object is written, the code object at c and its table are new -/
theorem inv_tableT {P P' c : Addr} {q : Str} {ps more : Array Value} {h' : Heap} {t' : Nat} (I : Inv X pins σ H s) (hP : H P = some (.tbl ps)) (k : ∀ b o, b ≠ P → s.heap.get? b = some o → h'.get? b = some o)
    (hm : h'.get? P = some { cls := .none, data := .fields (ps ++ more) }) (hc : s.heap.objs.size ≤ c) (hp : s.heap.objs.size ≤ P') (ne : c ≠ P') (ho : (∃ (oc : Obj) (vs : Array Value) (t : Tok), h'.get? c = some oc ∧ oc.data = .fields vs ∧ vs[1]? = some (.str q t)) ∧ PySem.W.CodeHd h' c P')
    (ht : h'.get? P' = some { cls := .none, data := .fields #[] }) :
    Inv X pins σ (upd (upd (upd H P (.tbl (ps ++ more))) P' (.tbl #[])) c (CodeT c q P')) { s with heap := h', toks := t' } := by
  have nC : H c = none := I.hok.fresh hc
  have nT : H P' = none := I.hok.fresh hp
  have nPc : P ≠ c := ne_of_none hP nC
  have nPT : P ≠ P' := ne_of_none hP nT
  have at_ : ∀ b, b ≠ P → b ≠ P' → b ≠ c → upd (upd (upd H P (.tbl (ps ++ more))) P' (.tbl #[])) c (CodeT c q P') b = H b := fun b h1 h3 h2 => by rw [upd_ne h2, upd_ne h3, upd_ne h1]
  have atP : upd (upd (upd H P (.tbl (ps ++ more))) P' (.tbl #[])) c (CodeT c q P') P = some (.tbl (ps ++ more)) := by rw [upd_ne nPc, upd_ne nPT, upd_same]
  have atT : upd (upd (upd H P (.tbl (ps ++ more))) P' (.tbl #[])) c (CodeT c q P') P' = some (.tbl #[]) := by rw [upd_ne ne.symm, upd_same]
  have nP : ∀ b u, H b = some u → (∀ q, u ≠ .tbl q) → b ≠ P := fun b u e q z => by
    rw [z, hP] at e
    exact q ps (Option.some.inj e).symm
  have nN : ∀ b, H b = none → b ≠ P := fun b e z => by
    rw [z, hP] at e
    cases e
  have lt' : ∀ b o, s.heap.get? b = some o → b ≠ c := fun b o e z => by
    rw [z] at e
    exact Nat.lt_irrefl _ (Nat.lt_of_lt_of_le (Heap.lt_size e) hc)
  have ltT : ∀ b o, s.heap.get? b = some o → b ≠ P' := fun b o e z => by
    rw [z] at e
    exact Nat.lt_irrefl _ (Nat.lt_of_lt_of_le (Heap.lt_size e) hp)
  have sm : ∀ b u, H b = some u → b ≠ c := fun b u e => ne_of_none e nC
  have smT : ∀ b u, H b = some u → b ≠ P' := fun b u e => ne_of_none e nT
  refine I.step (g' := s.gens) (d' := s.drawn) (ch := []) (fun b hb => absurd hb (by simp)) (fun b o _ _ _ e n => k b o (nN b n) e) (fun b o _ _ _ e n => ⟨o.slots, k b o (nN b n) e⟩)
    (fun b o _ e n => by rw [at_ b (nN b n) (ltT b o e) (lt' b o e)]; exact n) (fun b o _ e => ?_) (fun b xs e => by rw [at_ b (nP b _ e (fun q z => by cases z)) (smT b _ e) (sm b _ e)]; exact e) (fun b o u e => by rw [at_ b (nP b _ e (fun q z => by cases z)) (smT b _ e) (sm b _ e)]; exact e) (fun b qs e => ?_) (fun m hn => ?_) (fun b u e => ?_) I.bare
  · by_cases hb : b = P
    · rw [hb]
      exact ⟨_, hm⟩
    · exact ⟨o, k b o hb e⟩
  · by_cases hb : b = P
    · rw [hb, hP] at e
      cases e
      rw [hb, atP]
      exact ⟨more, rfl⟩
    · rw [at_ b hb (smT b _ e) (sm b _ e), e]
      exact ⟨#[], by simp⟩
  · obtain ⟨ob, es, ep, ho, r⟩ := hn
    exact ⟨ob, es, ep, k _ ob (nN _ I.free) ho, r⟩
  · by_cases hb : b = c
    · rw [hb, upd_same] at e
      cases e
      rw [hb]
      obtain ⟨⟨oc, vs, t, e1, e2, e3⟩, z⟩ := ho
      refine ⟨⟨⟨oc, vs, t, e1, e2, e3⟩, z⟩, ⟨oc, e1⟩, fun h1 h2 ⟨⟨oc, vs, t, a, b, d⟩, ⟨o, vs2, file, tf, flags, tg, inF, text, tt, x1, xr⟩⟩ st => ⟨⟨oc, vs, t, st _ a, b, d⟩, ⟨o, vs2, file, tf, flags, tg, inF, text, tt, st _ x1, xr⟩⟩⟩
    · by_cases hb3 : b = P'
      · rw [hb3, atT] at e
        cases e
        rw [hb3]
        exact ht
      · by_cases hb2 : b = P
        · rw [hb2, atP] at e
          cases e
          rw [hb2]
          exact hm
        · rw [at_ b hb2 hb3 hb] at e
          refine (I.hok b u e).stay (fun d v hd q => k d v ?_ q) (fun d q => by rw [at_ d (nP d _ q (fun q z => by cases z)) (smT d _ q) (sm d _ q)]; exact q) fun d xs q => by rw [at_ d (nP d _ q (fun q z => by cases z)) (smT d _ q) (sm d _ q)]; exact q
          rcases hd with z | z
          · rw [z]
            exact hb2
          · exact nP d _ z (fun q z => by cases z)
end
section
variable {M : Model} {A : Around} {E : Value → Shared → Prop} {s : Shared} {name qual : Str} {params : Arguments} {body : Expr} {scope : Scope} {env : Env} {c P : Addr} {ps : Array Value} {pos : Pos} {firstLine : Nat} {mg : Str → Option Value}
  {clos : List (Str × Addr)} {Q : Value → Shared → Prop}
/-- a lambda is made, its code object told with its table -/
theorem make_T (hcl : closureFor scope env = pure clos) (hge0 : env.globals = mainGlobals) (hg : s.heap.Ns mainGlobals mg) (hcode : env.code = .ref c) (C : PySem.W.CodeHd s.heap c P) (hP : s.heap.get? P = some (PySem.W.tabObj ps)) (ht : TriplesOk ps.toList)
    (hnf : codeAmong pos ps.toList = none) (hgP : mainGlobals ≠ P) (hb : s.heap.BuiltinsAt mg P)
    (h : ∀ c' P' ctv h' tk, Heap.ExtBut P s.heap h' → s.heap.objs.size ≤ c' → c' < h'.objs.size → s.heap.objs.size ≤ P' → h'.CodeRec (.ref c') qual → PySem.W.CodeHd h' c' P' → h'.get? P' = some (PySem.W.tabObj #[]) → h'.get? P = some (PySem.W.tabObj (ps ++ #[rawInt pos.line, rawInt pos.col, .ref c'])) →
      Q (.ref h'.objs.size) { s with heap := h'.push (PySem.W.kla_obj name qual params body scope clos ((mg "__name__").getD .none) c' ctv), toks := tk }) :
    wpAny M A (makeFunction name qual params (.expr body) scope env [] [] [] pos firstLine) Q E s := by
  rw [makeFunction_eq]
  simp only [List.zip_nil_right, List.filterMap_nil, List.isEmpty_nil, if_true, pure_bind]
  obtain ⟨bm, ob, hbm, hne0, _, hneP, hbo, hcls, hdict, hdata⟩ := hb
  unfold makeTail
  rw [hcl, hge0]
  refine wpAny_bind (wpAny_pure ?_)
  cases clos with
  | nil =>
    simp only [List.isEmpty_nil, if_true]
    refine wpAny_bind (wpAny_pure ?_)
    refine wpAny_bind (wpAny_functionCodeX hcode (C.code hP ht) (C.tab hP) hnf fun c' h' tk hx hge hlt _ hrec htb ⟨P', hp', ic, it⟩ => ?_)
    have hg' := hg.extBut hx hgP
    refine wpAny_bind (wpAny_builtinsFor hg' hbm hne0 (hx _ _ hneP hbo) hcls hdict hdata ?_)
    refine wpAny_bind (wpAny_nsGet hg' ?_)
    exact wpAny_bind (wpAny_pure (wpAny_newObj_type (h c' P' .none h' tk hx hge hlt hp' hrec (PySem.W.CodeHd.of ic it) it.2 htb.2) (by size_fits)))
  | cons q r =>
    simp only [List.isEmpty_cons, Bool.false_eq_true, if_false]
    refine wpAny_bind (wpAny_newTextTuple ?_)
    refine wpAny_bind (wpAny_functionCodeX hcode ((C.keeps fun b o e => Heap.get?_push_of_some _ e).code (Heap.get?_push_of_some _ hP) ht) ((C.keeps fun b o e => Heap.get?_push_of_some _ e).tab (Heap.get?_push_of_some _ hP)) hnf fun c' h' tk hx hge hlt _ hrec htb ⟨P', hp', ic, it⟩ => ?_)
    have hg' := (hg.push _).extBut hx hgP
    have hx' : Heap.ExtBut P s.heap h' := fun b o hb' e => hx b o hb' (Heap.get?_push_of_some _ e)
    have up : ∀ {n : Nat} {oT : Obj}, (s.heap.push oT).objs.size ≤ n → s.heap.objs.size ≤ n := fun z => Nat.le_trans (by rw [Heap.size_push]; omega) z
    refine wpAny_bind (wpAny_builtinsFor hg' hbm hne0 (hx' _ _ hneP hbo) hcls hdict hdata ?_)
    refine wpAny_bind (wpAny_nsGet hg' ?_)
    exact wpAny_bind (wpAny_pure (wpAny_newObj_type (h c' P' _ h' tk hx' (up hge) hlt (up hp') hrec (PySem.W.CodeHd.of ic it) it.2 htb.2) (by size_fits)))
end
end FvT

/-! x(lambda: ..) whose code object is known with its table; a lambda made in such a lambda -/
namespace FvT
open PySem PySem.Spec PyProof.Rows L2 LamX NdefX FvL
/-- all but the table at P stays -/
def ExtP (P : Addr) (H H' : Hp) : Prop := ∀ b o, b ≠ P → H b = some o → H' b = some o
theorem ExtP.extN {P : Addr} {ps : Array Value} {H H' : Hp} (hP : H P = some (.tbl ps)) (e : ExtP P H H') : ExtN H H' := fun b o h n => e b o (fun z => by rw [z, hP] at h; exact n ps (Option.some.inj h).symm) h
theorem TabT.tbl {S : List Addr} {H : Hp} {P : Addr} {q q' : Str} (t : TabT S H P q q') : ∃ ps, H P = some (.tbl ps) := let ⟨ps, h, _⟩ := t; ⟨ps, h⟩
section
variable {X : Cx} {pins : List (Addr × Obj)} {σ : L2.St} {H : Hp} {s : Shared}
/-- the lambda is made: its code object is new, or found in the table; its own table is told -/
theorem lam_make3 {S : List Addr} {c P : Addr} {q' : Str} {params : Arguments} {body : Expr} {scope : Scope} {pos : Pos} {E : Value → Shared → Prop} {Q : Value → Shared → Prop} (I : Inv X pins σ H s) (TB : TabB X.base X.mg c P) (hcode : X.env.code = .ref c)
    (hT : TabT S H P (X.env.qual ++ "<lambda>") q') (hS : ∀ p ∈ S, H p ≠ none) (hdef : defaultsOf params X.env = ([], [])) (hfree : ∀ y ∈ scope.names, y.2 = .free → ∃ c, X.env.cells.lookup y.1 = some c)
    (h : ∀ (f c' P' : Addr) (pm ctv : Value) (H1 : Hp) (s' : Shared), Inv X pins σ H1 s' → ExtP P H H1 → TabT S H1 P (X.env.qual ++ "<lambda>") q' →
      s'.heap.get? f = some (PySem.W.kla_obj "<lambda>" (X.env.qual ++ "<lambda>") params body scope (cloFrom X.env.cells scope.names []) pm c' ctv) → H1 f = none → f ∉ frs X.stack → H1 c' = some (CodeT c' (X.env.qual ++ "<lambda>") P') → TabS H1 P' q' → P' ∉ S → P' ≠ P → Q (.ref f) s') :
    wpAny (model X.prog X.w) X.A (eval (.Lambda params body scope pos) X.env) Q E s := by
  obtain ⟨ps, hP, ht, ha⟩ := id hT
  refine PySem.W.kla_eval hdef ?_
  have bP : s.heap.BuiltinsAt X.mg P := TB.bm.keeps I.bk
  have hP' : s.heap.get? P = some { cls := .none, data := .fields ps } := I.hok P _ hP
  have nofr : ∀ f, s.heap.objs.size ≤ f → f ∉ frs X.stack := fun f hf z => by
    rcases List.mem_cons.mp (I.stkSub _ z) with e | e
    · have h1 := I.lt
      rw [← e] at h1
      exact Nat.lt_irrefl _ (Nat.lt_of_lt_of_le h1 hf)
    · exact I.nofs hf e
  cases hc : codeAmong pos ps.toList with
  | none =>
    refine make_T (mg := X.mg) (c := c) (P := P) (ps := ps) (closure_ok hfree) I.ok.glob (I.mod.glob.keeps I.bk) hcode (TB.code.keeps I.bk) hP' ht hc TB.gP bP fun c' P' ctv h' tk hx hge hlt hpe hrec hcd htn htb => ?_
    obtain ⟨c2, oc, vs, t, e2, hoc, hd, hv⟩ := hrec
    cases e2
    have hsz : s.heap.objs.size ≤ h'.objs.size := Nat.le_trans hge (Nat.le_of_lt hlt)
    have nC : H c' = none := I.hok.fresh hge
    have nT : H P' = none := I.hok.fresh hpe
    have cne : c' ≠ P' := by
      obtain ⟨_, _, _, _, _, _, _, _, _, _, _, _, _, _, _, _, _, _, z⟩ := hcd
      exact z
    have I1 := inv_tableT (t' := tk) (more := #[rawInt pos.line, rawInt pos.col, .ref c']) (h' := h'.push (PySem.W.kla_obj "<lambda>" (X.env.qual ++ "<lambda>") params body scope (cloFrom X.env.cells scope.names []) ((X.mg "__name__").getD .none) c' ctv)) I hP
      (fun b o hb e => Heap.get?_push_of_some _ (hx b o hb e)) (Heap.get?_push_of_some _ htb) hge hpe cne ⟨⟨oc, vs, t, Heap.get?_push_of_some _ hoc, hd, hv⟩, hcd.keeps fun b o e => Heap.get?_push_of_some _ e⟩ (Heap.get?_push_of_some _ htn)
    have hE : ∀ b o, b ≠ P → H b = some o → (upd (upd (upd H P (.tbl (ps ++ #[rawInt pos.line, rawInt pos.col, .ref c']))) P' (.tbl #[])) c' (CodeT c' (X.env.qual ++ "<lambda>") P')) b = some o := fun b o n e => by
      rw [upd_ne (ne_of_none e nC), upd_ne (ne_of_none e nT), upd_ne n]
      exact e
    have atT : (upd (upd (upd H P (.tbl (ps ++ #[rawInt pos.line, rawInt pos.col, .ref c']))) P' (.tbl #[])) c' (CodeT c' (X.env.qual ++ "<lambda>") P')) P' = some (.tbl #[]) := by rw [upd_ne cne.symm, upd_same]
    have eL : (ps ++ #[rawInt pos.line, rawInt pos.col, .ref c']).toList = ps.toList ++ [rawInt pos.line, rawInt pos.col, .ref c'] := by simp
    refine h h'.objs.size c' P' ((X.mg "__name__").getD .none) ctv _ _ I1 hE ?_ (Heap.get?_push_size _ rfl) ?_ (nofr _ hsz) upd_same (TabS.nil atT) (fun z => hS _ z nT) (ne_of_none hP nT).symm
    · refine ⟨_, by rw [upd_ne (ne_of_none hP nC), upd_ne (ne_of_none hP nT), upd_same], by rw [eL]; exact PySem.TriplesOk_snoc _ _ _ _ ht, fun p' cv hcv => ?_⟩
      rw [eL] at hcv
      rcases among_app _ ht hcv with z | z
      · obtain ⟨c0, P0, e1, e2, e3, e4⟩ := ha p' cv z
        refine ⟨c0, P0, e1, hE _ _ (ne_of e2 hP (codeT_ne _)) e2, ?_, e4⟩
        obtain ⟨ps0, f1, f2, f3⟩ := e3
        refine ⟨ps0, hE _ _ e4.1 f1, f2, fun p2 cv2 hcv2 => ?_⟩
        obtain ⟨c3, g1, g2⟩ := f3 p2 cv2 hcv2
        exact ⟨c3, g1, hE _ _ (ne_of g2 hP (codeO_ne _)) g2⟩
      · exact ⟨c', P', z, upd_same, TabS.nil atT, (ne_of_none hP nT).symm, fun z => hS _ z nT⟩
    · have n1 : h'.objs.size ≠ c' := Nat.ne_of_gt hlt
      have n2 : h'.objs.size ≠ P := Nat.ne_of_gt (Nat.lt_of_lt_of_le (Heap.lt_size hP') hsz)
      have n3 : h'.objs.size ≠ P' := Nat.ne_of_gt (Heap.lt_size htn)
      rw [upd_ne n1, upd_ne n3, upd_ne n2]
      exact I.hok.fresh hsz
  | some cv =>
    obtain ⟨c', P', e, hco, hts, hpp, hpS⟩ := ha pos cv hc
    subst e
    refine PySem.W.kla_makeFunctionHit (mg := X.mg) (c := c) (P := P) (ps := ps) (closure_ok hfree) I.ok.glob (I.mod.glob.keeps I.bk) hcode (TB.code.keeps I.bk) hP' ht hc bP fun ctv h' tk hx hsz => ?_
    have I1 : Inv X pins σ H { s with heap := h'.push (PySem.W.kla_obj "<lambda>" (X.env.qual ++ "<lambda>") params body scope (cloFrom X.env.cells scope.names []) ((X.mg "__name__").getD .none) c' ctv), toks := tk } := I.kept fun b o e => Heap.get?_push_of_some _ (hx b o e)
    exact h h'.objs.size c' P' ((X.mg "__name__").getD .none) ctv H _ I1 (fun b o _ e => e) hT (Heap.get?_push_size _ rfl) (I.hok.fresh hsz) (nofr _ hsz) hco hts hpS hpp
/-- a lambda made in a lambda whose code object is known with its table -/
theorem lam_makeD {c0 P0 c P : Addr} {q0 : Str} {params : Arguments} {body : Expr} {scope : Scope} {pos : Pos} {E : Value → Shared → Prop} {Q : Value → Shared → Prop} (I : Inv X pins σ H s) (TB : TabB X.base X.mg c0 P0) (hcode : X.env.code = .ref c) (hc0 : H c = some (CodeT c q0 P))
    (hT : TabS H P (X.env.qual ++ "<lambda>")) (hdef : defaultsOf params X.env = ([], [])) (hfree : ∀ y ∈ scope.names, y.2 = .free → ∃ c, X.env.cells.lookup y.1 = some c)
    (h : ∀ (f c' : Addr) (H1 : Hp) (s' : Shared), Inv X pins σ H1 s' → ExtP P H H1 → TabS H1 P (X.env.qual ++ "<lambda>") → H f = none → H1 f = some (LamO f (mkL X params scope c') body) → H1 c' = some (CodeO c' (X.env.qual ++ "<lambda>")) → Q (.ref f) s') :
    wpAny (model X.prog X.w) X.A (eval (.Lambda params body scope pos) X.env) Q E s := by
  obtain ⟨ps, hP, ht, ha⟩ := id hT
  refine PySem.W.kla_eval hdef ?_
  have C := (codeT_at I.hok hc0).2
  have bP : s.heap.BuiltinsAt X.mg P := by
    obtain ⟨bm, o, e1, e2, e3, _, e5, r⟩ := TB.bm
    exact ⟨bm, o, e1, e2, e3, (fun z => by rw [z] at e5; rw [(I.bs P o e5).2] at hP; cases hP), I.bk _ _ e5, r⟩
  have gP : mainGlobals ≠ P := fun z => by
    obtain ⟨o, es, ep, e, _⟩ := I.mod.glob
    rw [z] at e
    rw [(I.bs P o e).2] at hP
    cases hP
  have hP' : s.heap.get? P = some { cls := .none, data := .fields ps } := I.hok P _ hP
  cases hc : codeAmong pos ps.toList with
  | none =>
    refine PySem.W.kla_makeFunction (mg := X.mg) (c := c) (P := P) (ps := ps) (closure_ok hfree) I.ok.glob (I.mod.glob.keeps I.bk) hcode C hP' ht hc gP bP fun c' ctv h' tk hx hge hlt hrec htb => ?_
    obtain ⟨c2, oc, vs, t, e2, hoc, hd, hv⟩ := hrec
    cases e2
    have nC : H c' = none := I.hok.fresh hge
    have I1 := inv_table (t' := tk) (more := #[rawInt pos.line, rawInt pos.col, .ref c']) (h' := h') I hP (fun b o hb e => hx b o hb e) htb hge ⟨oc, vs, t, hoc, hd, hv⟩
    have hE : ∀ b o, b ≠ P → H b = some o → (upd (upd H P (.tbl (ps ++ #[rawInt pos.line, rawInt pos.col, .ref c']))) c' (CodeO c' (X.env.qual ++ "<lambda>"))) b = some o := fun b o n e => by
      rw [upd_ne (ne_of_none e nC), upd_ne n]
      exact e
    have eL : (ps ++ #[rawInt pos.line, rawInt pos.col, .ref c']).toList = ps.toList ++ [rawInt pos.line, rawInt pos.col, .ref c'] := by simp
    have T1 : TabS (upd (upd H P (.tbl (ps ++ #[rawInt pos.line, rawInt pos.col, .ref c']))) c' (CodeO c' (X.env.qual ++ "<lambda>"))) P (X.env.qual ++ "<lambda>") := by
      refine ⟨_, by rw [upd_ne (ne_of_none hP nC), upd_same], by rw [eL]; exact PySem.TriplesOk_snoc _ _ _ _ ht, fun p' cv hcv => ?_⟩
      rw [eL] at hcv
      rcases among_app _ ht hcv with z | z
      · obtain ⟨c0, e1, e2⟩ := ha p' cv z
        exact ⟨c0, e1, hE _ _ (ne_of e2 hP (codeO_ne _)) e2⟩
      · exact ⟨c', z, upd_same⟩
    have nF := I1.hok.fresh (Nat.le_refl _)
    have I2 := inv_lam (F := mkL X params scope c') (e := body) (t' := tk) (pm := (X.mg "__name__").getD .none) (ctv := ctv) I1 rfl
    refine h h'.objs.size c' _ _ I2 (fun b o n e => ?_) (T1.ext fun b o e => ?_) (I.hok.fresh (Nat.le_trans hge (Nat.le_of_lt hlt))) upd_same ?_
    · have e1 := hE b o n e
      exact (upd_ne (ne_of_none e1 nF)).trans e1
    · exact (upd_ne (ne_of_none e nF)).trans e
    · exact (upd_ne (Nat.ne_of_lt hlt)).trans upd_same
  | some cv =>
    obtain ⟨c', e, hco⟩ := ha pos cv hc
    subst e
    refine PySem.W.kla_makeFunctionHit (mg := X.mg) (c := c) (P := P) (ps := ps) (closure_ok hfree) I.ok.glob (I.mod.glob.keeps I.bk) hcode C hP' ht hc bP fun ctv h' tk hx hsz => ?_
    have I1 : Inv X pins σ H { s with heap := h', toks := tk } := I.kept hx
    have nF : H h'.objs.size = none := I1.hok.fresh (Nat.le_refl _)
    have I2 := inv_lam (F := mkL X params scope c') (e := body) (t' := tk) (pm := (X.mg "__name__").getD .none) (ctv := ctv) I1 rfl
    refine h h'.objs.size c' _ _ I2 (fun b o n e => ?_) (hT.ext fun b o e => ?_) nF upd_same ?_
    · exact (upd_ne (ne_of_none e nF)).trans e
    · exact (upd_ne (ne_of_none e nF)).trans e
    · exact (upd_ne (ne_of_none hco nF)).trans hco
/-- the reading of a lambda made in a lambda -/
def tLamD (c : Addr) (q0 : Str) (P : Addr) (q : Str) (mk : Addr → NF) (body : Expr) : TE := fun _ H Q => H c = some (CodeT c q0 P) ∧ TabS H P q ∧ ∀ (f c' : Addr) (H1 : Hp), ExtP P H H1 → TabS H1 P q → H f = none → H1 f = some (LamO f (mk c') body) → H1 c' = some (CodeO c' q) → Q (.ref f) H1
theorem pe_lamD {c0 P0 c P : Addr} {q0 : Str} {params : Arguments} {body : Expr} {scope : Scope} {pos : Pos} (TB : TabB X.base X.mg c0 P0) (hcode : X.env.code = .ref c) (hdef : defaultsOf params X.env = ([], [])) (hfree : X.Ok → ∀ y ∈ scope.names, y.2 = .free → ∃ c, X.env.cells.lookup y.1 = some c) :
    PE X (.Lambda params body scope pos) (tLamD c q0 P (X.env.qual ++ "<lambda>") (mkL X params scope) body) := by
  refine ⟨fun pins s σ H Q I h => ?_⟩
  obtain ⟨hc, hT, h⟩ := h
  exact lam_makeD I TB hcode hc hT hdef (hfree I.ok) fun f c' H1 s' I1 eN T1 nf hf hc2 => ⟨.ref f, H1, I1, rfl, h f c' H1 eN T1 nf hf hc2⟩
end
end FvT

/-! x(lambda: ..), where the lambda's body may make lambdas itself, and knows the maker's cells -/
namespace FvT
open PySem PySem.Spec PyProof.Rows L2 LamX NdefX FvL
/-- the def that calls what it got: whatever is known of the code object -/
def GivesToO (X : Cx) (Ng : List Str) (x : Str) (sg : Scope) (g : Addr) (cdg : Value) (bg : List Stmt) (a : Str) (TT : (XK → Hp → VK → Prop) → Hp → VK → Prop) : Prop :=
  ∀ (f c' : Addr) (o : HO) (s : Shared) (H : Hp) (Q : VK) (tl : XK → Hp → VK → Prop),
    (∀ (W : WX) (pn : List (Addr × Obj)) (xe : Value → Shared → Prop) (E : XK) (p1 p2 : Pos), Takes ((cxOf C8.CX0 X.prog X.w X.K X.mg X.base Ng x sg g cdg X.A X.stack s H C8.E0).tr pn xe) W → (∀ cls d σ' H', E cls d H' → W cls d σ' H') →
      PE ((cxOf C8.CX0 X.prog X.w X.K X.mg X.base Ng x sg g cdg X.A X.stack s H C8.E0).tr pn xe) (.Call (.Name a p1) [] [] p2) (fun σZ HZ Q => σZ[0]? = some (some (.ref f)) ∧ HZ c' = some o ∧ tl E HZ Q)) →
    H c' = some o → TT tl H Q →
    ∃ t, PSs (cxOf C8.CX0 X.prog X.w X.K X.mg X.base Ng x sg g cdg X.A X.stack s H C8.E0).nox bg t ∧ t { nx := fun _ H' => Q .non H', rt := Q } (L2.start Ng [.ref f]) H
section
variable {X : Cx} {pins : List (Addr × Obj)} {σ : L2.St} {H HZ : Hp} {s s1 : Shared} {cl : List (Str × Addr)} {fr : List Str} {js : List Nat}
/-- x(), in the def that got the lambda -/
theorem pe_act3 {CXg : CXT} {Eg : XK} {Ng : List Str} {qg : Str} {sg : Scope} {g f c' P' : Addr} {cdg pm ctv : Value} {params : Arguments} {body : Expr} {scope : Scope} {k i : Nat} {a : Str} {pn : List (Addr × Obj)} {xe : Value → Shared → Prop} {W : WX} {E : XK} {tb : TE} {p1 p2 : Pos} {ws : List (Option V)}
    (I : Inv X pins σ H s) (L : LamS X.env.scope scope) (hf : s.heap.get? f = some (PySem.W.kla_obj "<lambda>" (X.env.qual ++ "<lambda>") params body scope (cloFrom X.env.cells scope.names []) pm c' ctv)) (hfn : H f = none) (hfr : f ∉ frs X.stack)
    (hbind : bindArgs (PySem.W.kla_fn "<lambda>" (X.env.qual ++ "<lambda>") params body scope (cloFrom X.env.cells scope.names []) pm (.ref c') ctv) ⟨[], []⟩ = pure [])
    (tk : Takes ((cxOf CXg X.prog X.w X.K X.mg X.base Ng qg sg g cdg X.A X.stack s H Eg).tr pn xe) W) (hW : ∀ cls d σ' H', E cls d H' → W cls d σ' H') (hr : Room (k + 1) (X.A.deeper (envOfC qg sg s.heap.objs.size g cdg)))
    (C : CellsAt cl fr ws s.heap H) (nf : Nf cl X.stack)
    (hbody : ∀ (A : Around) (outer : List Env) (s : Shared) (H : Hp), CellsAt cl fr ws s.heap H → Nf cl (lamEnv X scope s.heap.objs.size f c' :: outer) → Room k (A.deeper (lamEnv X scope s.heap.objs.size f c')) → PE (lamCx X A outer s H E scope f c') body tb)
    (hN : Ng[i]? = some a) (hv : Vis sg a) (hd : (a == ("__debug__" : Str)) = false := by decide) (hcd : (a == ("__classdict__" : Str)) = false := by decide) :
    PE ((cxOf CXg X.prog X.w X.K X.mg X.base Ng qg sg g cdg X.A X.stack s H Eg).tr pn xe) (.Call (.Name a p1) [] [] p2)
      (fun σZ HZ Q => σZ[i]? = some (some (.ref f)) ∧ HZ c' = some (CodeT c' (X.env.qual ++ "<lambda>") P') ∧ tb σ HZ Q) := by
  refine ⟨fun pinsZ sZ σZ HZ Q IZ h => ?_⟩
  obtain ⟨hs, hc, ht⟩ := h
  refine wpAny_Call_Name_kw (thn ((pe_var (pos := p1) (i := i) hN hv hd hcd).run pinsZ sZ σZ HZ (fun v H1 => v = .ref f ∧ H1 = HZ) IZ ⟨.ref f, hs, rfl, rfl⟩) fun u s1 ⟨v, H1, I1, r1, q1⟩ => ?_)
  obtain ⟨ev, eH⟩ := q1
  subst ev
  rw [eH] at I1
  obtain rfl : u = Value.ref f := r1
  have of1 : s1.heap.get? f = some (PySem.W.kla_obj "<lambda>" (X.env.qual ++ "<lambda>") params body scope (cloFrom X.env.cells scope.names []) pm c' ctv) := I1.base.keep f _ hf hfn hfr (fun z => nomatch (show f ∈ ([] : List Addr) from z))
  refine PySem.W.callWith_F0 ⟨_, _, _, _, of1⟩ ?_
  have un : Un (frs X.stack) [] H HZ s.heap s1.heap := I1.base
  have cr := (codeT_at I1.hok hc).1
  have C1 : CellsAt cl fr ws s1.heap HZ := CellsAt.later (X := (cxOf CXg X.prog X.w X.K X.mg X.base Ng qg sg g cdg X.A X.stack s H Eg).tr pn xe) C nf (fun y c e z => nomatch (show c ∈ ([] : List Addr) from z)) I1
  have nf1 : Nf cl (lamEnv X scope s1.heap.objs.size f c' :: envOfC qg sg s.heap.objs.size g cdg :: X.stack) :=
    (nf.push rfl fun y c e => Nat.ne_of_lt (cell_lt C e)).push rfl fun y c e => Nat.ne_of_lt (cell_lt C1 e)
  have rc : codeAny (model X.prog X.w) (X.A.deeper (envOfC qg sg s.heap.objs.size g cdg)) (.call (.ref f) ⟨[], []⟩) (CR (L2.CX X.prog X.w) (envOfC qg sg s.heap.objs.size g cdg :: X.stack) X.prog X.w HZ s1 Q E) s1 := by
    refine PySem.W.kla_callFunE hr.depth of1 rfl L.co L.gen rfl cr ?_
    rw [hbind]
    refine wpAny_pure (wpAny_newFunctionEnv (fun y hy => (L.own y hy).2) (fun y hy => absurd hy (by simp)) (fun h₁ hns hsb => ⟨I1.nolimit.fresh _ hsb, ?_⟩) L.kind)
    show codeAny _ _ (.expr body (lamEnv X scope s1.heap.objs.size f c')) _ _
    have kp : ∀ b o, s1.heap.get? b = some o → h₁.get? b = some o := fun b o e => hsb.extBut b o (Nat.ne_of_lt (Heap.lt_size e)) (Heap.get?_push_of_some _ e)
    have J : Inv (lamCx X (X.A.deeper (envOfC qg sg s.heap.objs.size g cdg)) (envOfC qg sg s.heap.objs.size g cdg :: X.stack) s1 HZ E scope f c') [] σ HZ { s1 with heap := h₁, toks := s1.toks + ([] : List (Str × Value)).length } :=
      lam_start2 I L I1.env0 hr.hd un hns kp
    refine PySem.W.kla_codeExpr (wpAny_mono ((hbody _ _ s1 HZ C1 nf1 (hr.deeper _)).run [] _ _ HZ Q J ht) (fun v s' hq => ?_) fun e s' hq => hq)
    obtain ⟨w', H', J', rv, q⟩ := hq
    exact ⟨w', H', J'.os, J'.bare, J'.base, J'.hok, rv, q⟩
  have hx : Passes (L2.CX X.prog X.w) ((cxOf CXg X.prog X.w X.K X.mg X.base Ng qg sg g cdg X.A X.stack s H Eg).tr pn xe) E := passes_call tk hW
  refine wpAny_call (codeAny_mono rc fun r s' hq => ?_)
  cases r with
  | error e => exact hx pinsZ σZ HZ s1 e s' I1 hq
  | ok fl =>
    cases fl with
    | ret u => exact I1.after hq
    | next => exact False.elim hq
    | brk => exact False.elim hq
    | cont => exact False.elim hq
end
/-- the reading: what the cells of the names js hold goes into the lambda's, its code object and its table, too -/
def tLam3 (S : List Addr) (P : Addr) (q q' : Str) (TT : (XK → Hp → VK → Prop) → Hp → VK → Prop) (js : List Nat) (t : Addr → Addr → List (Option V) → XK → TE) : TE := fun σ H Q => TabT S H P q q' ∧ (∀ p ∈ S, H p ≠ none) ∧
  ∀ (c' P' : Addr) H1, ExtP P H H1 → TabT S H1 P q q' → H1 c' = some (CodeT c' q P') → TabS H1 P' q' → P' ∉ S → P' ≠ P → TT (fun E H' Q' => t c' P' (js.map (slotAt σ)) E σ H' Q') H1 Q
section
variable {X : Cx} {cl : List (Str × Addr)} {fr : List Str} {js : List Nat}
theorem pe_lamcall3 {S : List Addr} {q' : Str} {TT : (XK → Hp → VK → Prop) → Hp → VK → Prop} {x a : Str} {g c P : Addr} {k : Nat} {pg : Arguments} {bg : List Stmt} {sg : Scope} {dV kV doc pm cdv ct oc : Value} {an od : Option Addr} {osl : Array (Option Value)} {Ng : List Str}
    {params : Arguments} {body : Expr} {scope : Scope} {t : Addr → Addr → List (Option V) → XK → TE} {p lpos pos : Pos} (hg : Gl X x) (hm : X.mg x = some (.ref g)) (hk : PySem.W.keepIn X.K (.ref g) = true)
    (lk : X.K.lookup g = some ⟨oc, od, .func (PySem.W.fnOf x x pg bg sg dV kV doc pm an cdv ct), osl⟩) (hcg : PySem.W.codeIn X.K cdv x = true) (hb : L2.Binds X.K (PySem.W.fnOf x x pg bg sg dV kV doc pm an cdv ct) [a] []) (Sg : FnScope Ng [a] sg) (hNg : Ng[0]? = some a) (hva : Vis sg a)
    (hG : GivesToO X Ng x sg g cdv bg a TT)
    (TB : TabB X.base X.mg c P) (hcode : X.env.code = .ref c) (hr : Room (k + 2) X.A) (L : LamS X.env.scope scope) (hdef : defaultsOf params X.env = ([], []))
    (hbind : ∀ (q : Str) (cl : List (Str × Addr)) (pm cv ctv : Value), bindArgs (PySem.W.kla_fn "<lambda>" q params body scope cl pm cv ctv) ⟨[], []⟩ = pure [])
    (cp : X.Ok → Caps X cl fr js) (hfnX : ∀ y c, X.env.cells.lookup y = some c → X.fn y = true)
    (hbody : ∀ (ws : List (Option V)) (A : Around) (outer : List Env) (s : Shared) (H : Hp) (E : XK) (f c' P' : Addr), CellsAt cl fr ws s.heap H → Nf cl (lamEnv X scope s.heap.objs.size f c' :: outer) → Room k (A.deeper (lamEnv X scope s.heap.objs.size f c')) → PE (lamCx X A outer s H E scope f c') body (t c' P' ws E))
    (hdb : (x == ("__debug__" : Str)) = false := by decide) (hd : (a == ("__debug__" : Str)) = false := by decide) (hcd : (a == ("__classdict__" : Str)) = false := by decide) :
    PE X (.Call (.Name x p) [.Lambda params body scope lpos] [] pos) (tLam3 S P (X.env.qual ++ "<lambda>") q' TT js t) := by
  refine ⟨fun pins s σ H Q I h => ?_⟩
  obtain ⟨hT, hS, h⟩ := h
  refine wpAny_Call_Name_kw (ld_glob I hg hm ?_ hdb)
  refine PySem.W.callWith_K (h₀ := X.base) I.ok.mod.kin hk ?_ (by rfl) (by rfl)
  show wpAny _ _ (spliced ((false, eval (.Lambda params body scope lpos) X.env) :: backTo pos (starEach [] X.env))) _ _ s
  refine Calls.spliced_cons (lam_make3 I TB hcode hT hS hdef (L.has I.ok) fun f c' P' pm' ctv H1 s' I1 eN T1 hf hfn hfr hco hts hpS hpP => ?_)
  refine Calls.spliced_nil ⟨I1.kIn, ?_⟩
  have rc : codeAny (model X.prog X.w) X.A (.call (.ref g) ⟨[.ref f], []⟩) (CR C8.CX0 X.stack X.prog X.w H1 s' Q C8.E0) s' := by
    refine run_ofS (N := Ng) (ps := [a]) (us := [.ref f]) (vs := [.ref f]) lk hcg Sg hr I1.env0 (hb s' [.ref f] I1.kIn rfl) (.cons rfl .nil) rfl fun hr' => ?_
    obtain ⟨t', ht', hq'⟩ := hG f c' (CodeT c' (X.env.qual ++ "<lambda>") P') s' H1 Q (fun E H' Q' => t c' P' (js.map (slotAt σ)) E σ H' Q') (fun W pn xe E p1 p2 tk hW => pe_act3 (i := 0) I1 L hf hfn hfr (hbind _ _ _ _ _) tk hW hr' (cells_of I1 (cp I1.ok)) (nf_of I1 (cp I1.ok) hfnX) (fun A outer s H C n hr2 => hbody _ A outer s H E f c' P' C n hr2) hNg hva hd hcd) hco (h c' P' H1 eN T1 hco hts hpS hpP)
    exact ⟨t', ht'.nox, hq'⟩
  refine wpAny_call (codeAny_mono rc fun r s2 hq => ?_)
  cases r with
  | error e => exact (show False from hq).elim
  | ok fl =>
    cases fl with
    | ret u => exact I1.after hq
    | next => exact (show False from hq).elim
    | brk => exact (show False from hq).elim
    | cont => exact (show False from hq).elim
end
end FvT

/-! function values made where all tables but the maker's stay as they are -/
namespace FvT
open PySem PySem.Spec PyProof.Rows L2 LamX NdefX FvL
section
variable {X : Cx} {pins : List (Addr × Obj)} {σ : L2.St} {H : Hp} {s : Shared}
/-- a lambda as a value -/
theorem lam_makeV {c P : Addr} {params : Arguments} {body : Expr} {scope : Scope} {pos : Pos} {E : Value → Shared → Prop} {Q : Value → Shared → Prop} (I : Inv X pins σ H s) (TB : TabB X.base X.mg c P) (hcode : X.env.code = .ref c)
    (hT : TabS H P (X.env.qual ++ "<lambda>")) (hdef : defaultsOf params X.env = ([], [])) (hfree : ∀ y ∈ scope.names, y.2 = .free → ∃ c, X.env.cells.lookup y.1 = some c)
    (h : ∀ (f c' : Addr) (H1 : Hp) (s' : Shared), Inv X pins σ H1 s' → ExtP P H H1 → TabS H1 P (X.env.qual ++ "<lambda>") → H f = none → H1 f = some (LamO f (mkL X params scope c') body) → H1 c' = some (CodeO c' (X.env.qual ++ "<lambda>")) → Q (.ref f) s') :
    wpAny (model X.prog X.w) X.A (eval (.Lambda params body scope pos) X.env) Q E s := by
  obtain ⟨ps, hP, ht, ha⟩ := id hT
  refine PySem.W.kla_eval hdef ?_
  have bP : s.heap.BuiltinsAt X.mg P := TB.bm.keeps I.bk
  have hP' : s.heap.get? P = some { cls := .none, data := .fields ps } := I.hok P _ hP
  cases hc : codeAmong pos ps.toList with
  | none =>
    refine PySem.W.kla_makeFunction (mg := X.mg) (c := c) (P := P) (ps := ps) (closure_ok hfree) I.ok.glob (I.mod.glob.keeps I.bk) hcode (TB.code.keeps I.bk) hP' ht hc TB.gP bP fun c' ctv h' tk hx hge hlt hrec htb => ?_
    obtain ⟨c2, oc, vs, t, e2, hoc, hd, hv⟩ := hrec
    cases e2
    have nC : H c' = none := I.hok.fresh hge
    have I1 := inv_table (t' := tk) (more := #[rawInt pos.line, rawInt pos.col, .ref c']) (h' := h') I hP (fun b o hb e => hx b o hb e) htb hge ⟨oc, vs, t, hoc, hd, hv⟩
    have hE : ∀ b o, b ≠ P → H b = some o → (upd (upd H P (.tbl (ps ++ #[rawInt pos.line, rawInt pos.col, .ref c']))) c' (CodeO c' (X.env.qual ++ "<lambda>"))) b = some o := fun b o n e => by
      rw [upd_ne (ne_of_none e nC), upd_ne n]
      exact e
    have eL : (ps ++ #[rawInt pos.line, rawInt pos.col, .ref c']).toList = ps.toList ++ [rawInt pos.line, rawInt pos.col, .ref c'] := by simp
    have T1 : TabS (upd (upd H P (.tbl (ps ++ #[rawInt pos.line, rawInt pos.col, .ref c']))) c' (CodeO c' (X.env.qual ++ "<lambda>"))) P (X.env.qual ++ "<lambda>") := by
      refine ⟨_, by rw [upd_ne (ne_of_none hP nC), upd_same], by rw [eL]; exact PySem.TriplesOk_snoc _ _ _ _ ht, fun p' cv hcv => ?_⟩
      rw [eL] at hcv
      rcases among_app _ ht hcv with z | z
      · obtain ⟨c0, e1, e2⟩ := ha p' cv z
        exact ⟨c0, e1, hE _ _ (ne_of e2 hP (codeO_ne _)) e2⟩
      · exact ⟨c', z, upd_same⟩
    have nF := I1.hok.fresh (Nat.le_refl _)
    have I2 := inv_lam (F := mkL X params scope c') (e := body) (t' := tk) (pm := (X.mg "__name__").getD .none) (ctv := ctv) I1 rfl
    refine h h'.objs.size c' _ _ I2 (fun b o n e => ?_) (T1.ext fun b o e => ?_) (I.hok.fresh (Nat.le_trans hge (Nat.le_of_lt hlt))) upd_same ?_
    · have e1 := hE b o n e
      exact (upd_ne (ne_of_none e1 nF)).trans e1
    · exact (upd_ne (ne_of_none e nF)).trans e
    · exact (upd_ne (Nat.ne_of_lt hlt)).trans upd_same
  | some cv =>
    obtain ⟨c', e, hco⟩ := ha pos cv hc
    subst e
    refine PySem.W.kla_makeFunctionHit (mg := X.mg) (c := c) (P := P) (ps := ps) (closure_ok hfree) I.ok.glob (I.mod.glob.keeps I.bk) hcode (TB.code.keeps I.bk) hP' ht hc bP fun ctv h' tk hx hsz => ?_
    have I1 : Inv X pins σ H { s with heap := h', toks := tk } := I.kept hx
    have nF : H h'.objs.size = none := I1.hok.fresh (Nat.le_refl _)
    have I2 := inv_lam (F := mkL X params scope c') (e := body) (t' := tk) (pm := (X.mg "__name__").getD .none) (ctv := ctv) I1 rfl
    refine h h'.objs.size c' _ _ I2 (fun b o n e => ?_) (hT.ext fun b o e => ?_) nF upd_same ?_
    · exact (upd_ne (ne_of_none e nF)).trans e
    · exact (upd_ne (ne_of_none e nF)).trans e
    · exact (upd_ne (ne_of_none hco nF)).trans hco
def tLamP (P : Addr) (q : Str) (mk : Addr → NF) (body : Expr) : TE := fun _ H Q => TabS H P q ∧ ∀ (f c' : Addr) (H1 : Hp), ExtP P H H1 → TabS H1 P q → H f = none → H1 f = some (LamO f (mk c') body) → H1 c' = some (CodeO c' q) → Q (.ref f) H1
theorem pe_lamP {c P : Addr} {params : Arguments} {body : Expr} {scope : Scope} {pos : Pos} (TB : TabB X.base X.mg c P) (hcode : X.env.code = .ref c) (hdef : defaultsOf params X.env = ([], [])) (hfree : X.Ok → ∀ y ∈ scope.names, y.2 = .free → ∃ c, X.env.cells.lookup y.1 = some c) :
    PE X (.Lambda params body scope pos) (tLamP P (X.env.qual ++ "<lambda>") (mkL X params scope) body) := by
  refine ⟨fun pins s σ H Q I h => ?_⟩
  obtain ⟨hT, h⟩ := h
  exact lam_makeV I TB hcode hT hdef (hfree I.ok) fun f c' H1 s' I1 eN T1 nf hf hc2 => ⟨.ref f, H1, I1, rfl, h f c' H1 eN T1 nf hf hc2⟩
/-- a nested def -/
theorem nd_make {c P : Addr} {name : Str} {params : Arguments} {body : List Stmt} {scope : Scope} {pos : Pos} {E : Value → Shared → Prop} {Q : Value → Shared → Prop} (I : Inv X pins σ H s) (TB : TabB X.base X.mg c P) (hcode : X.env.code = .ref c)
    (hT : TabS H P (X.env.qual ++ name)) (hfree : ∀ y ∈ scope.names, y.2 = .free → ∃ c, X.env.cells.lookup y.1 = some c)
    (h : ∀ (f c' : Addr) (H1 : Hp) (s' : Shared), Inv X pins σ H1 s' → ExtP P H H1 → TabS H1 P (X.env.qual ++ name) → H f = none → H1 f = some (FnO f ⟨name, X.env.qual ++ name, params, body, scope, cloFrom X.env.cells scope.names [], c'⟩) → H1 c' = some (CodeO c' (X.env.qual ++ name)) → Q (.ref f) s') :
    wpAny (model X.prog X.w) X.A (makeFunction name (X.env.qual ++ name) params (.stmts body) scope X.env [] [] [] pos pos.line) Q E s := by
  obtain ⟨ps, hP, ht, ha⟩ := id hT
  have bP : s.heap.BuiltinsAt X.mg P := TB.bm.keeps I.bk
  have hP' : s.heap.get? P = some { cls := .none, data := .fields ps } := I.hok P _ hP
  cases hc : codeAmong pos ps.toList with
  | none =>
    refine PySem.W.makeFunction_K (mg := X.mg) (c := c) (P := P) (ps := ps) (closure_ok hfree) I.ok.glob (I.mod.glob.keeps I.bk) hcode (TB.code.keeps I.bk) hP' ht hc TB.gP bP fun c' ctv doc h' tk hx hge hlt hrec htb => ?_
    obtain ⟨c2, oc, vs, t, e2, hoc, hd, hv⟩ := hrec
    cases e2
    have nC : H c' = none := I.hok.fresh hge
    have I1 := inv_table (t' := tk) (more := #[rawInt pos.line, rawInt pos.col, .ref c']) (h' := h') I hP (fun b o hb e => hx b o hb e) htb hge ⟨oc, vs, t, hoc, hd, hv⟩
    have hE : ∀ b o, b ≠ P → H b = some o → (upd (upd H P (.tbl (ps ++ #[rawInt pos.line, rawInt pos.col, .ref c']))) c' (CodeO c' (X.env.qual ++ name))) b = some o := fun b o n e => by
      rw [upd_ne (ne_of_none e nC), upd_ne n]
      exact e
    have eL : (ps ++ #[rawInt pos.line, rawInt pos.col, .ref c']).toList = ps.toList ++ [rawInt pos.line, rawInt pos.col, .ref c'] := by simp
    have T1 : TabS (upd (upd H P (.tbl (ps ++ #[rawInt pos.line, rawInt pos.col, .ref c']))) c' (CodeO c' (X.env.qual ++ name))) P (X.env.qual ++ name) := by
      refine ⟨_, by rw [upd_ne (ne_of_none hP nC), upd_same], by rw [eL]; exact PySem.TriplesOk_snoc _ _ _ _ ht, fun p' cv hcv => ?_⟩
      rw [eL] at hcv
      rcases among_app _ ht hcv with z | z
      · obtain ⟨c0, e1, e2⟩ := ha p' cv z
        exact ⟨c0, e1, hE _ _ (ne_of e2 hP (codeO_ne _)) e2⟩
      · exact ⟨c', z, upd_same⟩
    have nF := I1.hok.fresh (Nat.le_refl _)
    have I2 := NdefX.inv_fn (F := ⟨name, X.env.qual ++ name, params, body, scope, cloFrom X.env.cells scope.names [], c'⟩) (t' := tk) (doc := doc) (pm := (X.mg "__name__").getD .none) (ctv := ctv) I1 rfl
    refine h h'.objs.size c' _ _ I2 (fun b o n e => ?_) (T1.ext fun b o e => ?_) (I.hok.fresh (Nat.le_trans hge (Nat.le_of_lt hlt))) upd_same ?_
    · have e1 := hE b o n e
      exact (upd_ne (ne_of_none e1 nF)).trans e1
    · exact (upd_ne (ne_of_none e nF)).trans e
    · exact (upd_ne (Nat.ne_of_lt hlt)).trans upd_same
  | some cv =>
    obtain ⟨c', e, hco⟩ := ha pos cv hc
    subst e
    refine PySem.W.makeFunction_hit (mg := X.mg) (c := c) (P := P) (ps := ps) (closure_ok hfree) I.ok.glob (I.mod.glob.keeps I.bk) hcode (TB.code.keeps I.bk) hP' ht hc bP fun ctv doc h' tk hx hsz => ?_
    have I1 : Inv X pins σ H { s with heap := h', toks := tk } := I.kept hx
    have nF : H h'.objs.size = none := I1.hok.fresh (Nat.le_refl _)
    have I2 := NdefX.inv_fn (F := ⟨name, X.env.qual ++ name, params, body, scope, cloFrom X.env.cells scope.names [], c'⟩) (t' := tk) (doc := doc) (pm := (X.mg "__name__").getD .none) (ctv := ctv) I1 rfl
    refine h h'.objs.size c' _ _ I2 (fun b o n e => ?_) (hT.ext fun b o e => ?_) nF upd_same ?_
    · exact (upd_ne (ne_of_none e nF)).trans e
    · exact (upd_ne (ne_of_none e nF)).trans e
    · exact (upd_ne (ne_of_none hco nF)).trans hco
def tNdefP (P : Addr) (q : Str) (i : Nat) (mk : Addr → NF) : TS := fun D σ H => TabS H P q ∧ ∀ (f c' : Addr) (H1 : Hp), ExtP P H H1 → TabS H1 P q → H f = none → H1 f = some (FnO f (mk c')) → H1 c' = some (CodeO c' q) → D.nx (σ.set i (some (.ref f))) H1
theorem ps_ndefP {st : Stmt} {c P : Addr} {name : Str} {pos : Pos} {i : Nat} (hst : st = .FunctionDef name (C8.fnArgs st) (C8.fnBody st) [] none [] (C8.fnScope st) none name pos) (TB : TabB X.base X.mg c P) (hcode : X.env.code = .ref c)
    (hfree : ∀ y ∈ (C8.fnScope st).names, y.2 = .free → X.env.scope.names.lookup y.1 = some .cell ∨ X.env.scope.names.lookup y.1 = some .free) (hd0 : (C8.fnArgs st).defaults = []) (hk0 : (C8.fnArgs st).kw_defaults = []) (ha : annTrees (C8.fnArgs st) none X.env = [])
    (hN : X.N.Nodup) (hi : X.N[i]? = some name) (hx : Loc X.env.scope name) (hf : X.fn name = true ∨ X.env.scope.names.lookup name = some .local) :
    PS X st (tNdefP P (X.env.qual ++ name) i (NF.of st name (X.env.qual ++ name) (cloFrom X.env.cells (C8.fnScope st).names []))) := by
  rw [hst]
  refine ⟨fun pins s σ H D I h => ?_⟩
  obtain ⟨hT, h⟩ := h
  have hq : qualnameIn X.env name name = X.env.qual ++ name := by
    have hk : X.env.kindOf name = some .local ∨ X.env.kindOf name = some .cell := hx
    unfold qualnameIn
    rcases hk with k | k <;> rw [k] <;> first | rfl | exact if_neg (by decide)
  refine PySem.W.nestDef_K hd0 hk0 ha ?_
  rw [hq]
  refine nd_make I TB hcode hT (fun y hy e => (hfree y hy e).elim (fun z => I.ok.has _ (.inl z)) fun z => I.ok.has _ (.inr z)) fun f c' H1 s' I1 eN T1 f0 f1 c1 => ?_
  refine store_ok I1 hN hi hx (v := .ref f) rfl (fun s'' J => ⟨_, H1, J, h f c' H1 eN T1 f0 ?_ c1⟩) hf
  rw [← hst] at *
  exact f1
/-- the lambda is made: its code object is new, or found in the table; its own table is told -/
theorem lam_makeC {c P : Addr} {params : Arguments} {body : Expr} {scope : Scope} {pos : Pos} {E : Value → Shared → Prop} {Q : Value → Shared → Prop} (I : Inv X pins σ H s) (TB : TabB X.base X.mg c P) (hcode : X.env.code = .ref c)
    (hT : TabS H P (X.env.qual ++ "<lambda>")) (hdef : defaultsOf params X.env = ([], [])) (hfree : ∀ y ∈ scope.names, y.2 = .free → ∃ c, X.env.cells.lookup y.1 = some c)
    (h : ∀ (f c' : Addr) (pm ctv : Value) (H1 : Hp) (s' : Shared), Inv X pins σ H1 s' → ExtP P H H1 → TabS H1 P (X.env.qual ++ "<lambda>") →
      s'.heap.get? f = some (PySem.W.kla_obj "<lambda>" (X.env.qual ++ "<lambda>") params body scope (cloFrom X.env.cells scope.names []) pm c' ctv) → H1 f = none → f ∉ frs X.stack → H1 c' = some (CodeO c' (X.env.qual ++ "<lambda>")) → Q (.ref f) s') :
    wpAny (model X.prog X.w) X.A (eval (.Lambda params body scope pos) X.env) Q E s := by
  obtain ⟨ps, hP, ht, ha⟩ := id hT
  refine PySem.W.kla_eval hdef ?_
  have bP : s.heap.BuiltinsAt X.mg P := TB.bm.keeps I.bk
  have hP' : s.heap.get? P = some { cls := .none, data := .fields ps } := I.hok P _ hP
  have nofr : ∀ f, s.heap.objs.size ≤ f → f ∉ frs X.stack := fun f hf z => by
    rcases List.mem_cons.mp (I.stkSub _ z) with e | e
    · have h1 := I.lt
      rw [← e] at h1
      exact Nat.lt_irrefl _ (Nat.lt_of_lt_of_le h1 hf)
    · exact I.nofs hf e
  cases hc : codeAmong pos ps.toList with
  | none =>
    refine PySem.W.kla_makeFunction (mg := X.mg) (c := c) (P := P) (ps := ps) (closure_ok hfree) I.ok.glob (I.mod.glob.keeps I.bk) hcode (TB.code.keeps I.bk) hP' ht hc TB.gP bP fun c' ctv h' tk hx hge hlt hrec htb => ?_
    obtain ⟨c2, oc, vs, t, e2, hoc, hd, hv⟩ := hrec
    cases e2
    have hsz : s.heap.objs.size ≤ h'.objs.size := Nat.le_trans hge (Nat.le_of_lt hlt)
    have nC : H c' = none := I.hok.fresh hge
    have I1 := inv_table (t' := tk) (more := #[rawInt pos.line, rawInt pos.col, .ref c']) (h' := h'.push (PySem.W.kla_obj "<lambda>" (X.env.qual ++ "<lambda>") params body scope (cloFrom X.env.cells scope.names []) ((X.mg "__name__").getD .none) c' ctv)) I hP
      (fun b o hb e => Heap.get?_push_of_some _ (hx b o hb e)) (Heap.get?_push_of_some _ htb) hge ⟨oc, vs, t, Heap.get?_push_of_some _ hoc, hd, hv⟩
    have hE : ∀ b o, b ≠ P → H b = some o → (upd (upd H P (.tbl (ps ++ #[rawInt pos.line, rawInt pos.col, .ref c']))) c' (CodeO c' (X.env.qual ++ "<lambda>"))) b = some o := fun b o n e => by
      rw [upd_ne (ne_of_none e nC), upd_ne n]
      exact e
    have eL : (ps ++ #[rawInt pos.line, rawInt pos.col, .ref c']).toList = ps.toList ++ [rawInt pos.line, rawInt pos.col, .ref c'] := by simp
    refine h h'.objs.size c' ((X.mg "__name__").getD .none) ctv _ _ I1 hE ?_ (Heap.get?_push_size _ rfl) ?_ (nofr _ hsz) upd_same
    · refine ⟨_, by rw [upd_ne (ne_of_none hP nC), upd_same], by rw [eL]; exact PySem.TriplesOk_snoc _ _ _ _ ht, fun p' cv hcv => ?_⟩
      rw [eL] at hcv
      rcases among_app _ ht hcv with z | z
      · obtain ⟨c0, e1, e2⟩ := ha p' cv z
        exact ⟨c0, e1, hE _ _ (ne_of e2 hP (codeO_ne _)) e2⟩
      · exact ⟨c', z, upd_same⟩
    · have n1 : h'.objs.size ≠ c' := Nat.ne_of_gt hlt
      have n2 : h'.objs.size ≠ P := Nat.ne_of_gt (Nat.lt_of_lt_of_le (Heap.lt_size hP') hsz)
      rw [upd_ne n1, upd_ne n2]
      exact I.hok.fresh hsz
  | some cv =>
    obtain ⟨c', e, hco⟩ := ha pos cv hc
    subst e
    refine PySem.W.kla_makeFunctionHit (mg := X.mg) (c := c) (P := P) (ps := ps) (closure_ok hfree) I.ok.glob (I.mod.glob.keeps I.bk) hcode (TB.code.keeps I.bk) hP' ht hc bP fun ctv h' tk hx hsz => ?_
    have I1 : Inv X pins σ H { s with heap := h'.push (PySem.W.kla_obj "<lambda>" (X.env.qual ++ "<lambda>") params body scope (cloFrom X.env.cells scope.names []) ((X.mg "__name__").getD .none) c' ctv), toks := tk } := I.kept fun b o e => Heap.get?_push_of_some _ (hx b o e)
    exact h h'.objs.size c' ((X.mg "__name__").getD .none) ctv H _ I1 (fun b o _ e => e) hT (Heap.get?_push_size _ rfl) (I.hok.fresh hsz) (nofr _ hsz) hco
end
section
variable {X : Cx} {pins : List (Addr × Obj)} {σ : L2.St} {H HZ : Hp} {s s1 : Shared} {cl : List (Str × Addr)} {fr : List Str} {js : List Nat}
/-- x(), in the def that got the lambda -/
theorem pe_actP {CXg : CXT} {Eg : XK} {Ng : List Str} {qg : Str} {sg : Scope} {g f c' : Addr} {cdg pm ctv : Value} {params : Arguments} {body : Expr} {scope : Scope} {k i : Nat} {a : Str} {pn : List (Addr × Obj)} {xe : Value → Shared → Prop} {W : WX} {E : XK} {tb : TE} {p1 p2 : Pos} {ws : List (Option V)}
    (I : Inv X pins σ H s) (L : LamS X.env.scope scope) (hf : s.heap.get? f = some (PySem.W.kla_obj "<lambda>" (X.env.qual ++ "<lambda>") params body scope (cloFrom X.env.cells scope.names []) pm c' ctv)) (hfn : H f = none) (hfr : f ∉ frs X.stack)
    (hbind : bindArgs (PySem.W.kla_fn "<lambda>" (X.env.qual ++ "<lambda>") params body scope (cloFrom X.env.cells scope.names []) pm (.ref c') ctv) ⟨[], []⟩ = pure [])
    (tk : Takes ((cxOf CXg X.prog X.w X.K X.mg X.base Ng qg sg g cdg X.A X.stack s H Eg).tr pn xe) W) (hW : ∀ cls d σ' H', E cls d H' → W cls d σ' H') (hr : Room (k + 1) (X.A.deeper (envOfC qg sg s.heap.objs.size g cdg)))
    (C : CellsAt cl fr ws s.heap H) (nf : Nf cl X.stack)
    (hbody : ∀ (A : Around) (outer : List Env) (s : Shared) (H : Hp), CellsAt cl fr ws s.heap H → Nf cl (lamEnv X scope s.heap.objs.size f c' :: outer) → Room k (A.deeper (lamEnv X scope s.heap.objs.size f c')) → PE (lamCx X A outer s H E scope f c') body tb)
    (hN : Ng[i]? = some a) (hv : Vis sg a) (hd : (a == ("__debug__" : Str)) = false := by decide) (hcd : (a == ("__classdict__" : Str)) = false := by decide) :
    PE ((cxOf CXg X.prog X.w X.K X.mg X.base Ng qg sg g cdg X.A X.stack s H Eg).tr pn xe) (.Call (.Name a p1) [] [] p2)
      (fun σZ HZ Q => σZ[i]? = some (some (.ref f)) ∧ HZ c' = some (CodeO c' (X.env.qual ++ "<lambda>")) ∧ tb σ HZ Q) := by
  refine ⟨fun pinsZ sZ σZ HZ Q IZ h => ?_⟩
  obtain ⟨hs, hc, ht⟩ := h
  refine wpAny_Call_Name_kw (thn ((pe_var (pos := p1) (i := i) hN hv hd hcd).run pinsZ sZ σZ HZ (fun v H1 => v = .ref f ∧ H1 = HZ) IZ ⟨.ref f, hs, rfl, rfl⟩) fun u s1 ⟨v, H1, I1, r1, q1⟩ => ?_)
  obtain ⟨ev, eH⟩ := q1
  subst ev
  rw [eH] at I1
  obtain rfl : u = Value.ref f := r1
  have of1 : s1.heap.get? f = some (PySem.W.kla_obj "<lambda>" (X.env.qual ++ "<lambda>") params body scope (cloFrom X.env.cells scope.names []) pm c' ctv) := I1.base.keep f _ hf hfn hfr (fun z => nomatch (show f ∈ ([] : List Addr) from z))
  refine PySem.W.callWith_F0 ⟨_, _, _, _, of1⟩ ?_
  have un : Un (frs X.stack) [] H HZ s.heap s1.heap := I1.base
  have cr := codeO_at I1.hok hc
  have C1 : CellsAt cl fr ws s1.heap HZ := CellsAt.later (X := (cxOf CXg X.prog X.w X.K X.mg X.base Ng qg sg g cdg X.A X.stack s H Eg).tr pn xe) C nf (fun y c e z => nomatch (show c ∈ ([] : List Addr) from z)) I1
  have nf1 : Nf cl (lamEnv X scope s1.heap.objs.size f c' :: envOfC qg sg s.heap.objs.size g cdg :: X.stack) :=
    (nf.push rfl fun y c e => Nat.ne_of_lt (cell_lt C e)).push rfl fun y c e => Nat.ne_of_lt (cell_lt C1 e)
  have rc : codeAny (model X.prog X.w) (X.A.deeper (envOfC qg sg s.heap.objs.size g cdg)) (.call (.ref f) ⟨[], []⟩) (CR (L2.CX X.prog X.w) (envOfC qg sg s.heap.objs.size g cdg :: X.stack) X.prog X.w HZ s1 Q E) s1 := by
    refine PySem.W.kla_callFunE hr.depth of1 rfl L.co L.gen rfl cr ?_
    rw [hbind]
    refine wpAny_pure (wpAny_newFunctionEnv (fun y hy => (L.own y hy).2) (fun y hy => absurd hy (by simp)) (fun h₁ hns hsb => ⟨I1.nolimit.fresh _ hsb, ?_⟩) L.kind)
    show codeAny _ _ (.expr body (lamEnv X scope s1.heap.objs.size f c')) _ _
    have kp : ∀ b o, s1.heap.get? b = some o → h₁.get? b = some o := fun b o e => hsb.extBut b o (Nat.ne_of_lt (Heap.lt_size e)) (Heap.get?_push_of_some _ e)
    have J : Inv (lamCx X (X.A.deeper (envOfC qg sg s.heap.objs.size g cdg)) (envOfC qg sg s.heap.objs.size g cdg :: X.stack) s1 HZ E scope f c') [] σ HZ { s1 with heap := h₁, toks := s1.toks + ([] : List (Str × Value)).length } :=
      lam_start2 I L I1.env0 hr.hd un hns kp
    refine PySem.W.kla_codeExpr (wpAny_mono ((hbody _ _ s1 HZ C1 nf1 (hr.deeper _)).run [] _ _ HZ Q J ht) (fun v s' hq => ?_) fun e s' hq => hq)
    obtain ⟨w', H', J', rv, q⟩ := hq
    exact ⟨w', H', J'.os, J'.bare, J'.base, J'.hok, rv, q⟩
  have hx : Passes (L2.CX X.prog X.w) ((cxOf CXg X.prog X.w X.K X.mg X.base Ng qg sg g cdg X.A X.stack s H Eg).tr pn xe) E := passes_call tk hW
  refine wpAny_call (codeAny_mono rc fun r s' hq => ?_)
  cases r with
  | error e => exact hx pinsZ σZ HZ s1 e s' I1 hq
  | ok fl =>
    cases fl with
    | ret u => exact I1.after hq
    | next => exact False.elim hq
    | brk => exact False.elim hq
    | cont => exact False.elim hq
end
/-- the reading: what the cells of the names js hold goes into the lambda's; all but the maker's table stays -/
def tLamC (P : Addr) (q : Str) (TT : (XK → Hp → VK → Prop) → Hp → VK → Prop) (js : List Nat) (t : List (Option V) → XK → TE) : TE := fun σ H Q => TabS H P q ∧ ∀ H1, ExtP P H H1 → TabS H1 P q → TT (fun E H' Q' => t (js.map (slotAt σ)) E σ H' Q') H1 Q
section
variable {X : Cx} {cl : List (Str × Addr)} {fr : List Str} {js : List Nat}
theorem pe_lamcallP {TT : (XK → Hp → VK → Prop) → Hp → VK → Prop} {x a : Str} {g c P : Addr} {k : Nat} {pg : Arguments} {bg : List Stmt} {sg : Scope} {dV kV doc pm cdv ct oc : Value} {an od : Option Addr} {osl : Array (Option Value)} {Ng : List Str}
    {params : Arguments} {body : Expr} {scope : Scope} {t : List (Option V) → XK → TE} {p lpos pos : Pos} (hg : Gl X x) (hm : X.mg x = some (.ref g)) (hk : PySem.W.keepIn X.K (.ref g) = true)
    (lk : X.K.lookup g = some ⟨oc, od, .func (PySem.W.fnOf x x pg bg sg dV kV doc pm an cdv ct), osl⟩) (hcg : PySem.W.codeIn X.K cdv x = true) (hb : L2.Binds X.K (PySem.W.fnOf x x pg bg sg dV kV doc pm an cdv ct) [a] []) (Sg : FnScope Ng [a] sg) (hNg : Ng[0]? = some a) (hva : Vis sg a)
    (hG : GivesToO X Ng x sg g cdv bg a TT)
    (TB : TabB X.base X.mg c P) (hcode : X.env.code = .ref c) (hr : Room (k + 2) X.A) (L : LamS X.env.scope scope) (hdef : defaultsOf params X.env = ([], []))
    (hbind : ∀ (q : Str) (cl : List (Str × Addr)) (pm cv ctv : Value), bindArgs (PySem.W.kla_fn "<lambda>" q params body scope cl pm cv ctv) ⟨[], []⟩ = pure [])
    (cp : X.Ok → Caps X cl fr js) (hfnX : ∀ y c, X.env.cells.lookup y = some c → X.fn y = true)
    (hbody : ∀ (ws : List (Option V)) (A : Around) (outer : List Env) (s : Shared) (H : Hp) (E : XK) (f c' : Addr), CellsAt cl fr ws s.heap H → Nf cl (lamEnv X scope s.heap.objs.size f c' :: outer) → Room k (A.deeper (lamEnv X scope s.heap.objs.size f c')) → PE (lamCx X A outer s H E scope f c') body (t ws E))
    (hdb : (x == ("__debug__" : Str)) = false := by decide) (hd : (a == ("__debug__" : Str)) = false := by decide) (hcd : (a == ("__classdict__" : Str)) = false := by decide) :
    PE X (.Call (.Name x p) [.Lambda params body scope lpos] [] pos) (tLamC P (X.env.qual ++ "<lambda>") TT js t) := by
  refine ⟨fun pins s σ H Q I h => ?_⟩
  obtain ⟨hT, h⟩ := h
  refine wpAny_Call_Name_kw (ld_glob I hg hm ?_ hdb)
  refine PySem.W.callWith_K (h₀ := X.base) I.ok.mod.kin hk ?_ (by rfl) (by rfl)
  show wpAny _ _ (spliced ((false, eval (.Lambda params body scope lpos) X.env) :: backTo pos (starEach [] X.env))) _ _ s
  refine Calls.spliced_cons (lam_makeC I TB hcode hT hdef (L.has I.ok) fun f c' pm' ctv H1 s' I1 eN T1 hf hfn hfr hco => ?_)
  refine Calls.spliced_nil ⟨I1.kIn, ?_⟩
  have rc : codeAny (model X.prog X.w) X.A (.call (.ref g) ⟨[.ref f], []⟩) (CR C8.CX0 X.stack X.prog X.w H1 s' Q C8.E0) s' := by
    refine run_ofS (N := Ng) (ps := [a]) (us := [.ref f]) (vs := [.ref f]) lk hcg Sg hr I1.env0 (hb s' [.ref f] I1.kIn rfl) (.cons rfl .nil) rfl fun hr' => ?_
    obtain ⟨t', ht', hq'⟩ := hG f c' (CodeO c' (X.env.qual ++ "<lambda>")) s' H1 Q (fun E H' Q' => t (js.map (slotAt σ)) E σ H' Q') (fun W pn xe E p1 p2 tk hW => pe_actP (i := 0) I1 L hf hfn hfr (hbind _ _ _ _ _) tk hW hr' (cells_of I1 (cp I1.ok)) (nf_of I1 (cp I1.ok) hfnX) (fun A outer s H C n hr2 => hbody _ A outer s H E f c' C n hr2) hNg hva hd hcd) hco (h H1 eN T1)
    exact ⟨t', ht'.nox, hq'⟩
  refine wpAny_call (codeAny_mono rc fun r s2 hq => ?_)
  cases r with
  | error e => exact (show False from hq).elim
  | ok fl =>
    cases fl with
    | ret u => exact I1.after hq
    | next => exact (show False from hq).elim
    | brk => exact (show False from hq).elim
    | cont => exact (show False from hq).elim
end
end FvT

/-! a def called with functions made in the running def, its promise told of any base with all that the def's cells hold -/
namespace FvL
open PySem PySem.Spec PyProof.Rows L2 LamX NdefX
theorem CellsB.part {cl cl' : List (Str × Addr)} {fr fr' : List Str} {ws ws' : List (Option V)} {base : Heap} (C : CellsB cl fr ws base) (sub : ∀ y c, cl'.lookup y = some c → cl.lookup y = some c) (sup : ∀ y ∈ fr', ∀ c, cl.lookup y = some c → cl'.lookup y = some c) (len : ws'.length = fr'.length)
    (hi : ∀ (i : Nat) (y : Str), fr'[i]? = some y → ∃ j : Nat, fr[j]? = some y ∧ ws'[i]? = ws[j]?) : CellsB cl' fr' ws' base := by
  refine ⟨len, fun y c e => C.all y c (sub y c e), fun x y c e1 e2 => C.inj x y c (sub x c e1) (sub y c e2), fun i y e => ?_⟩
  obtain ⟨j, hj, hw⟩ := hi i y e
  obtain ⟨c, hc, h⟩ := C.has j y hj
  exact ⟨c, sup y (List.mem_of_getElem? e) c hc, fun v hv => h v (hw.symm.trans hv)⟩
section
variable {X : Cx} {CX : CXT} {k : Nat} {f : Addr} {fd : FuncData} {ps : List Str} {dvs : List V} {ds : List Value} {E : XK} {x : Str} {p pos : Pos} {e : Expr} {es : List Expr} {t : TA} {cl : List (Str × Addr)} {fr : List Str} {js : List Nat} {sp : List (Option V) → Sp}
theorem Caps.all (hk : ∀ y ∈ fr, X.env.scope.names.lookup y = some .cell ∨ X.env.scope.names.lookup y = some .free) (hj : js.map (fun j => X.N[j]?) = fr.map some) : Caps X X.env.cells fr js := ⟨fun _ _ e => e, hk, fun _ _ _ e => e, hj⟩
def tCallSR (js : List Nat) (sp : List (Option V) → Sp) (dvs : List V) (E : XK) (t : TA) : TE := fun σ H Q => t σ H fun vs H1 => sp (js.map (slotAt σ)) (vs ++ dvs) H1 Q E
theorem pe_callSR (F : ∀ (ws : List (Option V)) (base' : Heap), CellsB cl fr ws base' → (∀ b o, X.base.get? b = some o → base'.get? b = some o) → FnOk X.prog X.w X.K X.mg base' CX k f fd ps (sp ws)) (cp : X.Ok → Caps X cl fr js) (hfnX : ∀ y c, X.env.cells.lookup y = some c → X.fn y = true)
    (hr : Room k X.A) (hg : Gl X x) (hm : X.mg x = some (.ref f)) (hk : PySem.W.keepIn X.K (.ref f) = true) (hb : Binds X.K fd ps ds) (hd : Vals dvs ds) (hx : Passes CX X E)
    (ha : PA X (e :: es) t) (hdb : (x == ("__debug__" : Str)) = false := by decide) (he : starEach (e :: es) X.env = (false, eval e X.env) :: starEach es X.env := by rfl) (hpl : (backTo pos (starEach es X.env)).any (·.1) = false := by rfl) :
    PE X (.Call (.Name x p) (e :: es) [] pos) (tCallSR js sp dvs E t) := by
  refine ⟨fun pins s σ H Q I h => ?_⟩
  refine wpAny_Call_Name_kw (ld_glob I hg hm ?_ hdb)
  refine PySem.W.callWith_K (h₀ := X.base) I.ok.mod.kin hk (thn (ha.run pos pins s σ H _ I h) fun us s1 ⟨vs, H1, I1, r, q⟩ => ⟨I1.kIn, ?_⟩) he hpl
  obtain ⟨base', CB, bst, e0⟩ := rebase2 I1 (NdefX.cells_of I1 (cp I1.ok)) (nf_of I1 (cp I1.ok) hfnX)
  have r2 : Vals (vs ++ dvs) (us ++ ds) := r.append hd
  have F1 := F _ base' CB bst
  have hl : (us ++ ds).length = ps.length := by rw [← r2.length]; exact F1.len _ _ _ _ q
  refine wpAny_call (codeAny_mono (F1.run X.A X.stack s1 H1 ⟨us, []⟩ (us ++ ds) (vs ++ dvs) Q E hr e0 (hb s1 us I1.kIn hl) r2 q) fun r s' hq => ?_)
  cases r with
  | error e => exact hx pins σ H1 s1 e s' I1 hq
  | ok fl =>
    cases fl with
    | ret u => exact I1.after hq
    | next => exact False.elim hq
    | brk => exact False.elim hq
    | cont => exact False.elim hq
end
end FvL

/-! _law_nested: the inner function -/
namespace My
open PySem L2 Cm LM EM StX IsX FvL NdefX FvT
abbrev sNest : Stmt := top 66
def sInn : Stmt := match defBody sNest with
  | a :: _ => a
  | [] => sNest
def sOut : Stmt := match defBody sNest with
  | _ :: a :: _ => a
  | _ => sNest
def qInn : Str := ("_law_nested" : Str) ++ ".<locals>." ++ "_law_inner"
def qOut : Str := ("_law_nested" : Str) ++ ".<locals>." ++ "_law_outer"
abbrev mkInn (cl : List (Str × Addr)) : Addr → NF := NF.of sInn "_law_inner" qInn cl
abbrev mkOut (cl : List (Str × Addr)) : Addr → NF := NF.of sOut "_law_outer" qOut cl
theorem scInn (cl : List (Str × Addr)) (c : Addr) : NScope ["_law_inner_here", "_law_wide", "_law_two"] ["_law_inner_here"] ["_law_wide", "_law_two"] (mkInn cl c).scope := nscope_by (show nscB _ _ _ (C8.fnScope sInn) = true by decide +kernel)
theorem scOut (cl : List (Str × Addr)) (c : Addr) : NScope ["_law_inner_here", "_law_wide", "_law_one", "_law_gate", "_law_inner", "_law_before", "_law_told_here"] ["_law_inner_here"] ["_law_wide", "_law_one", "_law_gate", "_law_inner"] (mkOut cl c).scope := nscope_by (show nscB _ _ _ (C8.fnScope sOut) = true by decide +kernel)
section
variable {P : Program} {w : World} {K : PySem.W.Frag} {mg : Str → Option Value} {base : Heap}
theorem spMov_mono (T : TxRd K mg) {vs : List V} {H : Hp} {Q Q1 : VK} {E E1 : XK} (f : ∀ v H2, Q v H2 → Q1 v H2) : spMov T vs H Q E → spMov T vs H Q1 E1 := fun ⟨lv, dx, lo, m, sl, sz, t, rr, st, xs, a1, a2, a3, a4, a5, a6, a7, a8, a9, k⟩ =>
  ⟨lv, dx, lo, m, sl, sz, t, rr, st, xs, a1, a2, a3, a4, a5, a6, a7, a8, a9, fun H' m' o r h => f _ _ (k H' m' o r h)⟩
/-- [_law_moved(..)] -/
def spInn (T : TxRd K mg) (ws : List (Option V)) : Sp := fun vs H Q E => ∃ (lv sl : Addr) (sz : Nat), vs = [.ref lv] ∧ ws = [some (.int (sz : Nat)), some (.ref sl)] ∧ spMov T [.ref lv, .int (sz : Nat), .ref sl] H (fun v H1 => ∀ p, H1 p = none → Q (.ref p) (upd H1 p (.lst [v]))) E
theorem spInn_mono (T : TxRd K mg) (ws : List (Option V)) : ∀ (vs : List V) (H : Hp) (Q Q1 : VK) (E1 : XK), (∀ v H2, Q v H2 → Q1 v H2) → spInn T ws vs H Q E1 → spInn T ws vs H Q1 E1 := fun vs H Q Q1 E1 f ⟨lv, sl, sz, a, b, k⟩ => ⟨lv, sl, sz, a, b, spMov_mono T (fun v H2 h p np => f _ _ (h p np)) k⟩
theorem ok_inn (T : TxRd K mg) (len : mg "len" = none) (mmin : mg "min" = none) (D : Df K mg "_law_moved" sMov ["_law_live", "_law_wide", "_law_steps"]) (f c : Addr) (cl : List (Str × Addr)) : NOk P w K mg base (L2.CX P w) 8 f (mkInn cl c) ["_law_inner_here"] ["_law_wide", "_law_two"] (spInn T) := by
  have GM : FnOk P w K mg base CX0 7 D.f D.fd ["_law_live", "_law_wide", "_law_steps"] (spMov T) := ok_mov T len mmin D
  refine nok_of (scInn cl c) (fun doc pm ctv us hl => ?_) (fun ws vs H Q E h => ?_) (fun A outer s H vs ws Q E hr hf hc hw h => ?_)
  · match us, hl with
    | [_], _ => rfl
  · obtain ⟨_, _, _, rfl, _⟩ := h
    rfl
  · obtain ⟨lv, sl, sz, rfl, rfl, k⟩ := h
    refine ⟨_, (pss_one (ps_ret (pe_lst (pa_cons (pe_call GM hr rfl D.g D.k D.b .nil pass0 (pa_cons (pv 0) (pa_cons (pv 1) (pa_cons (pv 2) pa_nil)))) pa_nil)))), ?_⟩
    refine ⟨_, rfl, _, rfl, _, rfl, ?_⟩
    have key : spMov T [.ref lv, .int (sz : Nat), .ref sl] H (fun v H2 => [v].length ≤ sizeLine ∧ ∀ p, H2 p = none → Q (.ref p) (upd H2 p (.lst [v]))) C8.E0 := spMov_mono T (fun v H2 h => ⟨(by show 1 ≤ sizeLine; decide), h⟩) k
    exact key
end
end My

/-! _law_nested: the outer function -/
namespace My
open PySem L2 Cm LM EM StX IsX FvL NdefX FvT
theorem reps_dpT {K : PySem.W.Frag} {H : Hp} {g : Addr} : ∀ {gs : List V} {rs : List (Nat × Bool)}, Rps H gs rs → DpAll K H gs (repsD rs)
  | _, _, .nil => .nil
  | _, _, .cons h t => .cons (.tup (SqT.of h) (.cons (.int _) (.cons (.bl _) .nil))) (reps_dpT (g := g) t)
theorem repsT_shaped (rs : List (Nat × Bool)) : PyData.canLay0 (.tuple (repsD rs)) = true ∧ SeqAt.shaped (.tuple (repsD rs)) = true := by
  obtain ⟨a, b⟩ := repsD_lay rs
  have e : PyData.canLay0 (.tuple (repsD rs)) = true := by rw [PyData.canLay0]; exact a
  refine ⟨e, ?_⟩
  unfold SeqAt.shaped
  rw [e, Bool.true_and]
  refine decide_eq_true ?_
  rw [PyData.depth]
  omega
section
variable {P : Program} {w : World} {K : PySem.W.Frag} {mg : Str → Option Value} {base : Heap}
theorem tf_ne_mf {C D dx dt lv g h k : Addr} {b u : V} {ov : Bool} : (HO.ins C dx (mf b g h k ov)) ≠ .ins D dt (tf lv u) := fun z => by
  have e := (HO.ins.inj z).2.2
  simp [mf, tf] at e
theorem tf_ne_lf {C D dx dt lv pr pe po pq : Addr} {t : Str} {u : V} : (HO.ins C dx (lf t pr pe po pq)) ≠ .ins D dt (tf lv u) := fun z => by
  have e := congrArg (fun l : List (Str × V) => l.lookup ("reading" : Str)) (HO.ins.inj z).2.2
  have n : (lf t pr pe po pq).lookup ("reading" : Str) = none := by kernel_rfl
  have e : (lf t pr pe po pq).lookup ("reading" : Str) = some (.ref lv) := e.trans tf_r
  rw [n] at e
  cases e
theorem rd_two {T : TxRd K mg} {H H' : Hp} {lv dx lo m gt dt C : Addr} {lvu : Addr} {u : V} {sz : Nat} {t : Str} {rr : List (Nat × Bool)} (hg : H gt = some (.ins C dt (tf lvu u))) (ob : ∀ b o, b ≠ lv → b ≠ gt → H b = some o → H' b = some o) (at_ : H' lv = some (.ins T.CR dx (rf lo sz false m))) (h : RdAt T H lv dx lo m sz t rr) : RdAt T H' lv dx lo m sz t rr := by
  have f : ∀ (p : Addr) (xs : List V), H p = some (.tup xs) → H' p = some (.tup xs) := fun p xs e => ob _ _ (ne_of e h.at_ (by intro z; cases z)) (ne_of e hg (by intro z; cases z)) e
  obtain ⟨dx1, pr, pe, po, pq, e1, e2, e3, e4, e5⟩ := h.lo
  exact ⟨at_, ⟨dx1, pr, pe, po, pq, ob _ _ (fun z => rf_ne_lf (by rw [z, h.at_] at e1; exact Option.some.inj e1)) (ne_of e1 hg tf_ne_lf) e1, f _ _ e2, f _ _ e3, e4.mono f, e5.mono f⟩, h.mo.mono f fun p dm b g hh k ov e => ob _ _ (fun z => rf_ne_mf (by rw [z, h.at_] at e; exact Option.some.inj e)) (ne_of e hg tf_ne_mf) e⟩
/-- what the outer function finds, and what it leaves -/
def spOut (T : TxTr K mg) (fi ci : Addr) (cl : List (Str × Addr)) (wsI ws : List (Option V)) : Sp := fun vs H Q _ => ∃ (lv dx lo m s1 s2 gt dt : Addr) (sz : Nat) (t : Str) (rr st1 st2 : List (Nat × Bool)) (xs1 xs2 : List V) (u : V), vs = [.ref lv] ∧ ws = [some (.int (sz : Nat)), some (.ref s1), some (.ref gt), some (.ref fi)] ∧ wsI = [some (.int (sz : Nat)), some (.ref s2)] ∧
  RdAt T.A.E.R H lv dx lo m sz t rr ∧ H s1 = some (.lst xs1) ∧ Rps H xs1 st1 ∧ st1.length ≤ 10 ∧ H s2 = some (.lst xs2) ∧ Rps H xs2 st2 ∧ st2.length ≤ 10 ∧ goodText t = true ∧ 1 ≤ sz ∧ sz ≤ 1000 ∧ MvOk sz (ordsR t) (ordsE t) 40 rr ∧ H gt = some (.ins T.CT dt (tf lv u)) ∧ JN fi (mkInn cl ci) H ∧
  ∀ (H' : Hp) (m' p q : Addr), (∀ b o, b ≠ lv → b ≠ gt → H b = some o → H' b = some o) → RdAt T.A.E.R H' lv dx lo m' sz t (mvF sz (ordsR t) (ordsE t) st1 rr) → H' gt = some (.ins T.CT dt (tf lv u)) → H' p = some (.lst [.ref q, .bl true]) → Q (.ref p) H'
theorem spOut_mono (T : TxTr K mg) (fi ci : Addr) (cl : List (Str × Addr)) (wsI ws : List (Option V)) : ∀ (vs : List V) (H : Hp) (Q Q1 : VK) (E1 : XK), (∀ v H2, Q v H2 → Q1 v H2) → spOut T fi ci cl wsI ws vs H Q E1 → spOut T fi ci cl wsI ws vs H Q1 E1 := fun vs H Q Q1 E1 f ⟨lv, dx, lo, m, s1, s2, gt, dt, sz, t, rr, st1, st2, xs1, xs2, u, a1, a2, a3, a4, a5, a6, a7, a8, a9, b1, b2, b3, b4, b5, b6, b7, k⟩ =>
  ⟨lv, dx, lo, m, s1, s2, gt, dt, sz, t, rr, st1, st2, xs1, xs2, u, a1, a2, a3, a4, a5, a6, a7, a8, a9, b1, b2, b3, b4, b5, b6, b7, fun H' m' p q c1 c2 c3 c4 => f _ _ (k H' m' p q c1 c2 c3 c4)⟩
theorem ok_out (T : TxTr K mg) (len : mg "len" = none) (mmin : mg "min" = none) (D : Df K mg "_law_moved" sMov ["_law_live", "_law_wide", "_law_steps"]) (f c fi ci : Addr) (cl clI : List (Str × Addr)) (wsI : List (Option V)) (Fi : FvOk P w K mg base (L2.CX P w) 8 fi (JN fi (mkInn clI ci)) (spInn T.A.E.R wsI)) :
    NOk P w K mg base (L2.CX P w) 17 f (mkOut cl c) ["_law_inner_here"] ["_law_wide", "_law_one", "_law_gate", "_law_inner"] (spOut T fi ci clI wsI) := by
  have GM : FnOk P w K mg base CX0 7 D.f D.fd ["_law_live", "_law_wide", "_law_steps"] (spMov T.A.E.R) := ok_mov T.A.E.R len mmin D
  have GG : FnOk P w K mg base CX0 1 T.A.E.R.pG.f T.A.E.R.pG.fd ["self"] (spRd T.A.E.R fun g _ _ _ => .ref g) := ok_rdg T.A.E.R
  have GW : FnOk P w K mg base CX0 16 T.wit.f T.wit.fd ["trial", "act"] (spWi T fi (JN fi (mkInn clI ci)) (spInn T.A.E.R wsI)) := ok_wit (k := 15) T (by decide) (by decide) Fi (spInn_mono T.A.E.R wsI)
  refine nok_of (scOut cl c) (fun doc pm ctv us hl => ?_) (fun ws vs H Q E h => ?_) (fun A outer s H vs ws Q E hr hf hc hw h => ?_)
  · match us, hl with
    | [_], _ => rfl
  · obtain ⟨lv, _, _, _, _, _, _, _, _, _, _, _, _, _, _, _, rfl, _⟩ := h
    rfl
  · obtain ⟨lv, dx, lo, m, s1, s2, gt, dt, sz, t, rr, st1, st2, xs1, xs2, u, rfl, rfl, rfl, hR, hs1, hR1, l1, hs2, hR2, l2, gt', z1, z2, hM, hgt, hJ, k⟩ := h
    have hr7 : Room 7 _ := hr.mono (by decide)
    have hr2 : Room 2 _ := hr.mono (by decide)
    refine ⟨_, (pss_cons (ps_expr (pe_call GM hr7 rfl D.g D.k D.b .nil pass0 (pa_cons (pv 0) (pa_cons (pv 1) (pa_cons (pv 2) pa_nil))))) (pss_cons (ps_set (i := 5) (scOut cl c).nd rfl (.inl rfl) (pe_prop (pv 0) T.A.E.R.clR T.A.E.R.pG.o GG hr2 T.A.E.R.pG.b .nil pass0 (by rfl))) (pss_cons (ps_set (i := 6) (scOut cl c).nd rfl (.inl rfl) (pe_call GW hr rfl T.wit.g T.wit.k T.wit.b .nil pass0 (pa_cons (pv 3) (pa_cons (pv 4) pa_nil)))) (pss_one (ps_ret (pe_lst (pa_cons (pv 6) (pa_cons (pe_cmpR (op_eqD (hu64 hr)) (pe_prop (pv 0) T.A.E.R.clR T.A.E.R.pG.o GG hr2 T.A.E.R.pG.b .nil pass0 (by rfl)) (pv 5) (nomark _)) pa_nil)))))))), ?_⟩
    have nlg : lv ≠ gt := fun z => by
      have e := hR.at_
      rw [z, hgt] at e
      exact tf_ne_rf (Option.some.inj e).symm
    refine ⟨_, rfl, _, rfl, _, rfl, lv, dx, lo, m, s1, sz, t, rr, st1, xs1, rfl, hR, hs1, hR1, l1, gt', z1, z2, ⟨hM.ok, hM.hc, Nat.le_trans hM.ln (by decide)⟩, fun H1 m1 o1 R1 M1 => ?_⟩
    obtain ⟨dm, g, h, kk, b, hm, hMs, _⟩ := R1.mo.head
    obtain ⟨gs, hs, hg, hRg, _⟩ := hMs
    refine ⟨_, rfl, lv, dx, _, rfl, R1.at_, lv, dx, lo, m1, dm, g, h, kk, sz, false, b, _, rfl, R1.at_, hm, ?_⟩
    have at0 := hR.at_
    have hgt1 := o1 _ _ nlg.symm hgt
    refine ⟨_, rfl, _, rfl, gt, dt, lv, dx, lo, m1, sz, false, u, rfl, hgt1, R1.at_, fun H2 y dy o2 ny hy ht2 => ?_⟩
    have no : ∀ {b : Addr} {o : HO}, H b = some o → b ≠ lv → b ≠ gt → H2 b = some o := fun e n1 n2 => o2 _ _ n2 (o1 _ _ n1 e)
    have hgt0 := hgt
    have fi1 : fi ≠ lv := ne_of hJ.1 at0 (by intro z; unfold FnO at z; cases z)
    have fi2 : fi ≠ gt := ne_of hJ.1 hgt (by intro z; unfold FnO at z; cases z)
    have fc1 : (mkInn clI ci).c ≠ lv := ne_of hJ.2 at0 (by intro z; unfold LamX.CodeO at z; cases z)
    have fc2 : (mkInn clI ci).c ≠ gt := ne_of hJ.2 hgt (by intro z; unfold LamX.CodeO at z; cases z)
    have at2 : H2 lv = some (.ins T.A.E.R.CR dx (rf lo sz false m1)) := o2 _ _ nlg R1.at_
    have R2 : RdAt T.A.E.R H2 lv dx lo m1 sz t (mvF sz (ordsR t) (ordsE t) st1 rr) := rd_two hgt1 (fun b o n1 n2 e => o2 b o n2 e) at2 R1
    have hs22 := no hs2 (ne_of hs2 at0 (by intro z; cases z)) (ne_of hs2 hgt (by intro z; cases z))
    have hR22 : Rps H2 xs2 st2 := hR2.mono fun p xs e => no e (ne_of e at0 (by intro z; cases z)) (ne_of e hgt (by intro z; cases z))
    have m1l := M1.ln
    have hMl := hM.ln
    refine ⟨⟨no hJ.1 fi1 fi2, no hJ.2 fc1 fc2⟩, lv, s2, sz, rfl, rfl, lv, dx, lo, m1, s2, sz, t, _, st2, xs2, rfl, R2, hs22, hR22, l2, gt', z1, z2, ⟨M1.ok, M1.hc, by omega⟩, fun H3 m3 o3 R3 M3 p np => ?_⟩
    have s4 := same_new (o := .lst [.int ((mvF sz (ordsR t) (ordsE t) st2 (mvF sz (ordsR t) (ordsE t) st1 rr)).length : Nat)]) np
    have nyl : y ≠ lv := fun z => by
      rw [z, at2] at hy
      exact lyf_ne_rf (Option.some.inj hy)
    refine ⟨s4 _ _ (o3 _ _ nlg.symm ht2), s4 _ _ (o3 _ _ nyl hy), ⟨m3, s4 _ _ R3.at_⟩, ?_⟩
    generalize upd H3 p (.lst [.int ((mvF sz (ordsR t) (ordsE t) st2 (mvF sz (ordsR t) (ordsE t) st1 rr)).length : Nat)]) = H4 at s4 ⊢
    have ob2 : ∀ b o, b ≠ lv → b ≠ gt → H2 b = some o → (upd (upd H4 lv (.ins T.A.E.R.CR dx (rf lo sz false m1))) gt (.ins T.CT dt (tf lv u))) b = some o := fun b o n1 n2 e => by
      rw [upd_ne n2, upd_ne n1]
      exact s4 _ _ (o3 _ _ n1 e)
    have at5 : (upd (upd H4 lv (.ins T.A.E.R.CR dx (rf lo sz false m1))) gt (.ins T.CT dt (tf lv u))) lv = some (.ins T.A.E.R.CR dx (rf lo sz false m1)) := by rw [upd_ne nlg, upd_same]
    have R5 := rd_two ht2 ob2 at5 R2
    have hm2 := o2 _ _ (ne_of hm hgt1 tf_ne_mf) hm
    have hg2 := o2 _ _ (ne_of hg hgt1 (by intro z; cases z)) hg
    have hm5 := ob2 _ _ (fun z => by
      rw [z, at2] at hm2
      exact rf_ne_mf (Option.some.inj hm2)) (ne_of hm2 ht2 tf_ne_mf) hm2
    have tup5 : ∀ (p : Addr) (xs : List V), H2 p = some (.tup xs) → (upd (upd H4 lv (.ins T.A.E.R.CR dx (rf lo sz false m1))) gt (.ins T.CT dt (tf lv u))) p = some (.tup xs) := fun p xs e => ob2 _ _ (ne_of e at2 (by intro z; cases z)) (ne_of e ht2 (by intro z; cases z)) e
    have hg5 := tup5 _ _ hg2
    have hRg5 : Rps (upd (upd H4 lv (.ins T.A.E.R.CR dx (rf lo sz false m1))) gt (.ins T.CT dt (tf lv u))) gs _ := (hRg.mono fun p xs e => o2 _ _ (ne_of e hgt1 (by intro z; cases z)) e).mono tup5
    have hgt5 : (upd (upd H4 lv (.ins T.A.E.R.CR dx (rf lo sz false m1))) gt (.ins T.CT dt (tf lv u))) gt = some (.ins T.CT dt (tf lv u)) := upd_same
    have obH : ∀ b o, b ≠ lv → b ≠ gt → H b = some o → (upd (upd H4 lv (.ins T.A.E.R.CR dx (rf lo sz false m1))) gt (.ins T.CT dt (tf lv u))) b = some o := fun b o n1 n2 e => ob2 b o n1 n2 (no e n1 n2)
    generalize upd (upd H4 lv (.ins T.A.E.R.CR dx (rf lo sz false m1))) gt (.ins T.CT dt (tf lv u)) = H5 at ob2 at5 R5 hm5 tup5 hg5 hRg5 hgt5 obH ⊢
    have sh := repsT_shaped (mvF sz (ordsR t) (ordsE t) st1 rr).reverse
    have dp : Dp K H5 (.ref g) (.tuple (repsD (mvF sz (ordsR t) (ordsE t) st1 rr).reverse)) := .tup (SqT.of hg5) (rps_dp hRg5)
    refine ⟨_, rfl, _, rfl, lv, dx, _, rfl, at5, lv, dx, lo, m1, dm, g, h, kk, sz, false, b, _, rfl, at5, hm5, _, rfl, _, _, dp, dp, sh.2, sh.2, (by show 2 ≤ sizeLine; decide), fun r nr => ?_⟩
    rw [SeqAt.eqv_refl _ sh.1]
    have s6 := same_new (o := .lst [.ref p, .bl true]) nr
    exact k _ m1 r p (fun b o n1 n2 e => s6 _ _ (obH b o n1 n2 e)) (R5.same s6) (s6 _ _ hgt5) upd_same
end
end My

/-! several nested defs in one def -/
namespace FvT
open PySem PySem.Spec PyProof.Rows L2 LamX NdefX FvL
theorem TabN.extK {H H' : Hp} {P : Addr} {nm : Nat → Nat → Str} (t : TabN H P nm) (e : ∀ b o, H b = some o → H' b = some o) : TabN H' P nm := NdefX.TabN.ext t e
section
variable {X : Cx} {pins : List (Addr × Obj)} {σ : L2.St} {H : Hp} {s : Shared}
/-- a nested def -/
theorem nd_makeN {nm : Nat → Nat → Str} {c P : Addr} {name : Str} {params : Arguments} {body : List Stmt} {scope : Scope} {pos : Pos} {E : Value → Shared → Prop} {Q : Value → Shared → Prop} (I : Inv X pins σ H s) (TB : TabB X.base X.mg c P) (hcode : X.env.code = .ref c)
    (hT : TabN H P nm) (hn : nm pos.line pos.col = X.env.qual ++ name) (hfree : ∀ y ∈ scope.names, y.2 = .free → ∃ c, X.env.cells.lookup y.1 = some c)
    (h : ∀ (f c' : Addr) (H1 : Hp) (s' : Shared), Inv X pins σ H1 s' → ExtP P H H1 → TabN H1 P nm → H f = none → H1 f = some (FnO f ⟨name, X.env.qual ++ name, params, body, scope, cloFrom X.env.cells scope.names [], c'⟩) → H1 c' = some (CodeO c' (X.env.qual ++ name)) → Q (.ref f) s') :
    wpAny (model X.prog X.w) X.A (makeFunction name (X.env.qual ++ name) params (.stmts body) scope X.env [] [] [] pos pos.line) Q E s := by
  obtain ⟨ps, hP, ht, ha⟩ := id hT
  have bP : s.heap.BuiltinsAt X.mg P := TB.bm.keeps I.bk
  have hP' : s.heap.get? P = some { cls := .none, data := .fields ps } := I.hok P _ hP
  cases hc : codeAmong pos ps.toList with
  | none =>
    refine PySem.W.makeFunction_K (mg := X.mg) (c := c) (P := P) (ps := ps) (closure_ok hfree) I.ok.glob (I.mod.glob.keeps I.bk) hcode (TB.code.keeps I.bk) hP' ht hc TB.gP bP fun c' ctv doc h' tk hx hge hlt hrec htb => ?_
    obtain ⟨c2, oc, vs, t, e2, hoc, hd, hv⟩ := hrec
    cases e2
    have nC : H c' = none := I.hok.fresh hge
    have I1 := inv_table (t' := tk) (more := #[rawInt pos.line, rawInt pos.col, .ref c']) (h' := h') I hP (fun b o hb e => hx b o hb e) htb hge ⟨oc, vs, t, hoc, hd, hv⟩
    have hE : ∀ b o, b ≠ P → H b = some o → (upd (upd H P (.tbl (ps ++ #[rawInt pos.line, rawInt pos.col, .ref c']))) c' (CodeO c' (X.env.qual ++ name))) b = some o := fun b o n e => by
      rw [upd_ne (ne_of_none e nC), upd_ne n]
      exact e
    have eL : (ps ++ #[rawInt pos.line, rawInt pos.col, .ref c']).toList = ps.toList ++ [rawInt pos.line, rawInt pos.col, .ref c'] := by simp
    have T1 : TabN (upd (upd H P (.tbl (ps ++ #[rawInt pos.line, rawInt pos.col, .ref c']))) c' (CodeO c' (X.env.qual ++ name))) P nm := by
      refine ⟨_, by rw [upd_ne (ne_of_none hP nC), upd_same], by rw [eL]; exact PySem.TriplesOk_snoc _ _ _ _ ht, fun p' cv hcv => ?_⟩
      rw [eL] at hcv
      rcases among_app2 _ ht hcv with z | ⟨z, z1, z2⟩
      · obtain ⟨c0, e1, e2⟩ := ha p' cv z
        exact ⟨c0, e1, hE _ _ (ne_of e2 hP (codeO_ne _)) e2⟩
      · refine ⟨c', z, ?_⟩
        rw [← z1, ← z2, hn]
        exact upd_same
    have nF := I1.hok.fresh (Nat.le_refl _)
    have I2 := NdefX.inv_fn (F := ⟨name, X.env.qual ++ name, params, body, scope, cloFrom X.env.cells scope.names [], c'⟩) (t' := tk) (doc := doc) (pm := (X.mg "__name__").getD .none) (ctv := ctv) I1 rfl
    refine h h'.objs.size c' _ _ I2 (fun b o n e => ?_) (T1.ext fun b o e => ?_) (I.hok.fresh (Nat.le_trans hge (Nat.le_of_lt hlt))) upd_same ?_
    · have e1 := hE b o n e
      exact (upd_ne (ne_of_none e1 nF)).trans e1
    · exact (upd_ne (ne_of_none e nF)).trans e
    · exact (upd_ne (Nat.ne_of_lt hlt)).trans upd_same
  | some cv =>
    obtain ⟨c', e, hco⟩ := ha pos cv hc
    subst e
    rw [hn] at hco
    refine PySem.W.makeFunction_hit (mg := X.mg) (c := c) (P := P) (ps := ps) (closure_ok hfree) I.ok.glob (I.mod.glob.keeps I.bk) hcode (TB.code.keeps I.bk) hP' ht hc bP fun ctv doc h' tk hx hsz => ?_
    have I1 : Inv X pins σ H { s with heap := h', toks := tk } := I.kept hx
    have nF : H h'.objs.size = none := I1.hok.fresh (Nat.le_refl _)
    have I2 := NdefX.inv_fn (F := ⟨name, X.env.qual ++ name, params, body, scope, cloFrom X.env.cells scope.names [], c'⟩) (t' := tk) (doc := doc) (pm := (X.mg "__name__").getD .none) (ctv := ctv) I1 rfl
    refine h h'.objs.size c' _ _ I2 (fun b o n e => ?_) (hT.ext fun b o e => ?_) nF upd_same ?_
    · exact (upd_ne (ne_of_none e nF)).trans e
    · exact (upd_ne (ne_of_none e nF)).trans e
    · exact (upd_ne (ne_of_none hco nF)).trans hco
def tNdefPN (P : Addr) (nm : Nat → Nat → Str) (q : Str) (i : Nat) (mk : Addr → NF) : TS := fun D σ H => TabN H P nm ∧ ∀ (f c' : Addr) (H1 : Hp), ExtP P H H1 → TabN H1 P nm → H f = none → H1 f = some (FnO f (mk c')) → H1 c' = some (CodeO c' q) → D.nx (σ.set i (some (.ref f))) H1
theorem ps_ndefPN {st : Stmt} {nm : Nat → Nat → Str} {c P : Addr} {name : Str} {pos : Pos} {i : Nat} (hst : st = .FunctionDef name (C8.fnArgs st) (C8.fnBody st) [] none [] (C8.fnScope st) none name pos) (TB : TabB X.base X.mg c P) (hcode : X.env.code = .ref c) (hn : nm pos.line pos.col = X.env.qual ++ name)
    (hfree : ∀ y ∈ (C8.fnScope st).names, y.2 = .free → X.env.scope.names.lookup y.1 = some .cell ∨ X.env.scope.names.lookup y.1 = some .free) (hd0 : (C8.fnArgs st).defaults = []) (hk0 : (C8.fnArgs st).kw_defaults = []) (ha : annTrees (C8.fnArgs st) none X.env = [])
    (hN : X.N.Nodup) (hi : X.N[i]? = some name) (hx : Loc X.env.scope name) (hf : X.fn name = true ∨ X.env.scope.names.lookup name = some .local) :
    PS X st (tNdefPN P nm (X.env.qual ++ name) i (NF.of st name (X.env.qual ++ name) (cloFrom X.env.cells (C8.fnScope st).names []))) := by
  rw [hst]
  refine ⟨fun pins s σ H D I h => ?_⟩
  obtain ⟨hT, h⟩ := h
  have hq : qualnameIn X.env name name = X.env.qual ++ name := by
    have hk : X.env.kindOf name = some .local ∨ X.env.kindOf name = some .cell := hx
    unfold qualnameIn
    rcases hk with k | k <;> rw [k] <;> first | rfl | exact if_neg (by decide)
  refine PySem.W.nestDef_K hd0 hk0 ha ?_
  rw [hq]
  refine nd_makeN I TB hcode hT hn (fun y hy e => (hfree y hy e).elim (fun z => I.ok.has _ (.inl z)) fun z => I.ok.has _ (.inr z)) fun f c' H1 s' I1 eN T1 f0 f1 c1 => ?_
  refine store_ok I1 hN hi hx (v := .ref f) rfl (fun s'' J => ⟨_, H1, J, h f c' H1 eN T1 f0 ?_ c1⟩) hf
  rw [← hst] at *
  exact f1
end
end FvT

/-! _law_nested -/
namespace My
open PySem L2 Cm LM EM StX IsX FvL NdefX FvT
abbrev NNs : List Str := ["_law_live", "_law_wide", "_law_gate", "_law_one", "_law_two", "_law_inner", "_law_outer"]
abbrev PNs : List Str := ["_law_live", "_law_wide", "_law_gate", "_law_one", "_law_two"]
abbrev FNs : List Str := ["_law_wide", "_law_one", "_law_gate", "_law_inner", "_law_two"]
theorem scNest : FnScope NNs PNs (defScope sNest) := ⟨rfl, rfl, rfl, by decide +kernel, rfl, by decide +kernel, by decide +kernel⟩
def lineOf : Stmt → Nat
  | .FunctionDef _ _ _ _ _ _ _ _ _ p => p.line
  | _ => 0
def nmN : Nat → Nat → Str := fun l _ => if l = lineOf sInn then qInn else qOut
def wI (ws : List (Option V)) : List (Option V) := [ws.getD 0 none, ws.getD 4 none]
def wO (ws : List (Option V)) : List (Option V) := [ws.getD 0 none, ws.getD 1 none, ws.getD 2 none, ws.getD 3 none]
theorem innFree : ∀ y ∈ (C8.fnScope sInn).names, y.2 = NameKind.free → (defScope sNest).names.lookup y.1 = some NameKind.cell ∨ (defScope sNest).names.lookup y.1 = some NameKind.free := by decide +kernel
theorem outFree : ∀ y ∈ (C8.fnScope sOut).names, y.2 = NameKind.free → (defScope sNest).names.lookup y.1 = some NameKind.cell ∨ (defScope sNest).names.lookup y.1 = some NameKind.free := by decide +kernel
theorem innIn : ∀ y ∈ (C8.fnScope sInn).names, y.2 = NameKind.free → y.1 ∈ FNs := by decide +kernel
theorem outIn : ∀ y ∈ (C8.fnScope sOut).names, y.2 = NameKind.free → y.1 ∈ FNs := by decide +kernel
theorem innSeen : ∀ y ∈ (["_law_wide", "_law_two"] : List Str), (y, NameKind.free) ∈ (C8.fnScope sInn).names := by decide +kernel
theorem outSeen : ∀ y ∈ (["_law_wide", "_law_one", "_law_gate", "_law_inner"] : List Str), (y, NameKind.free) ∈ (C8.fnScope sOut).names := by decide +kernel
theorem fnsCell : ∀ y ∈ FNs, (defScope sNest).names.lookup y = some NameKind.cell ∨ (defScope sNest).names.lookup y = some NameKind.free := by decide +kernel
theorem hasAll {cl : List (Str × Addr)} {ws : List (Option V)} {base : Heap} (C : CellsB cl FNs ws base) {names : List (Str × NameKind)} (h : ∀ y ∈ names, y.2 = NameKind.free → y.1 ∈ FNs) : ∀ y ∈ names, y.2 = .free → ∃ c, cl.lookup y.1 = some c := fun y hy e => by
  obtain ⟨i, hi⟩ := List.mem_iff_getElem?.mp (h y hy e)
  obtain ⟨c, hc, _⟩ := C.has i y.1 hi
  exact ⟨c, hc⟩
theorem partI {cl : List (Str × Addr)} {ws : List (Option V)} {base : Heap} (C : CellsB cl FNs ws base) : CellsB (cloFrom cl (C8.fnScope sInn).names []) ["_law_wide", "_law_two"] (wI ws) base := by
  have l : ws.length = 5 := C.len
  match ws, l with
  | [a, b, c, d, e], _ =>
    refine C.part (fun y c e => clo_cm (hasAll C innIn) e) (fun y hy c hc => clo_has (hasAll C innIn) (innSeen y hy) hc) rfl fun i y e => ?_
    match i, e with
    | 0, e => exact ⟨0, e, rfl⟩
    | 1, e => exact ⟨4, e, rfl⟩
theorem partO {cl : List (Str × Addr)} {ws : List (Option V)} {base : Heap} (C : CellsB cl FNs ws base) : CellsB (cloFrom cl (C8.fnScope sOut).names []) ["_law_wide", "_law_one", "_law_gate", "_law_inner"] (wO ws) base := by
  have l : ws.length = 5 := C.len
  match ws, l with
  | [a, b, c, d, e], _ =>
    refine C.part (fun y c e => clo_cm (hasAll C outIn) e) (fun y hy c hc => clo_has (hasAll C outIn) (outSeen y hy) hc) rfl fun i y e => ?_
    match i, e with
    | 0, e => exact ⟨0, e, rfl⟩
    | 1, e => exact ⟨1, e, rfl⟩
    | 2, e => exact ⟨2, e, rfl⟩
    | 3, e => exact ⟨3, e, rfl⟩
section
variable {P : Program} {w : World} {K : PySem.W.Frag} {mg : Str → Option Value} {base : Heap}
/-- a def's promise, its code object told -/
theorem okC {x qual : Str} {st : Stmt} {f : Addr} {fd : FuncData} {N ps : List Str} {k : Nat} {sp : Sp} (F : Fun K x qual st f fd) (S : FnScope N ps (defScope st)) (len : ∀ vs H Q E, sp vs H Q E → vs.length = ps.length)
    (hbody : ∀ (cdv : Value) (A : Around) (outer : List Env) (s : Shared) (H : Hp) (vs : List V) (Q : VK) (E : XK), fd.code = cdv → Room k (A.deeper (PyProof.Rows.envOfC qual (defScope st) s.heap.objs.size f cdv)) → sp vs H Q E →
      ∃ t, PSs (cxOf CX0 P w K mg base N qual (defScope st) f cdv A outer s H E).nox (defBody st) t ∧ t { nx := fun _ H' => Q .non H', rt := Q } (L2.start N vs) H) : FnOk P w K mg base CX0 (k + 1) f fd ps sp := by
  obtain ⟨oc, od, kV, doc, pm, an, cdv, ct, osl, rfl, lk, hcd⟩ := F.ex
  refine ⟨len, fun A outer s H args us vs Q E hr e0 hb r h => ?_⟩
  refine LamX.run_ofS lk hcd S hr e0 hb r (len _ _ _ _ h) fun hr2 => ?_
  obtain ⟨t, h1, q⟩ := hbody cdv A outer s H vs Q E rfl hr2 h
  exact ⟨t, h1.nox, q⟩
theorem RdAt.ext {T : TxRd K mg} {H H' : Hp} {lv dx lo m : Addr} {sz : Nat} {t : Str} {rr : List (Nat × Bool)} (s : LamX.ExtN H H') (h : RdAt T H lv dx lo m sz t rr) : RdAt T H' lv dx lo m sz t rr := by
  have f : ∀ (p : Addr) (xs : List V), H p = some (.tup xs) → H' p = some (.tup xs) := fun p xs e => s _ _ e (by intro ps z; cases z)
  obtain ⟨dx1, pr, pe, po, pq, e1, e2, e3, e4, e5⟩ := h.lo
  exact ⟨s _ _ h.at_ (by intro ps z; cases z), ⟨dx1, pr, pe, po, pq, s _ _ e1 (by intro ps z; cases z), f _ _ e2, f _ _ e3, e4.mono f, e5.mono f⟩, h.mo.mono f fun p dm b g h k ov e => s _ _ e (by intro ps z; cases z)⟩
theorem fn_exN {α : Type} {CX : CXT} {k : Nat} {f : Addr} {fd : FuncData} {ps : List Str} {sp : α → Sp} (h : ∀ j, FnOk P w K mg base CX k f fd ps (sp j)) : FnOk P w K mg base CX k f fd ps (fun vs H Q E => ∃ j, sp j vs H Q E) :=
  ⟨fun vs H Q E ⟨j, h'⟩ => (h j).1 vs H Q E h', fun A outer s H args us vs Q E hr e0 hb r ⟨j, hsp⟩ => (h j).2 A outer s H args us vs Q E hr e0 hb r hsp⟩
def spNW (T : TxTr K mg) (cells : List (Str × Addr)) (ws : List (Option V)) : Sp := fun vs H Q E => ∃ fc : (Addr × Addr) × (Addr × Addr), spWi T fc.1.1 (JN fc.1.1 (mkOut (cloFrom cells (C8.fnScope sOut).names []) fc.1.2)) (spOut T fc.2.1 fc.2.2 (cloFrom cells (C8.fnScope sInn).names []) (wI ws) (wO ws)) vs H Q E
def spNest (T : TxTr K mg) (PN : Addr) : Sp := fun vs H Q _ => ∃ (lv dx lo m s1 s2 gt dt : Addr) (sz : Nat) (t : Str) (rr st1 st2 : List (Nat × Bool)) (xs1 xs2 : List V) (u : V), vs = [.ref lv, .int (sz : Nat), .ref gt, .ref s1, .ref s2] ∧
  RdAt T.A.E.R H lv dx lo m sz t rr ∧ H s1 = some (.lst xs1) ∧ Rps H xs1 st1 ∧ st1.length ≤ 10 ∧ H s2 = some (.lst xs2) ∧ Rps H xs2 st2 ∧ st2.length ≤ 10 ∧ goodText t = true ∧ 1 ≤ sz ∧ sz ≤ 1000 ∧ MvOk sz (ordsR t) (ordsE t) 40 rr ∧ H gt = some (.ins T.CT dt (tf lv u)) ∧ TabN H PN nmN ∧
  ∀ (H1 H' : Hp) (p q : Addr), ExtP PN H H1 → TabN H1 PN nmN → (∀ b o, b ≠ lv → b ≠ gt → H1 b = some o → H' b = some o) → RdAt T.A.E.R H' lv dx lo m sz t rr → H' gt = some (.ins T.CT dt (tf lv u)) → H' p = some (.lst [.ref q, .bl true]) → Q (.ref p) H'
theorem ok_nest (T : TxTr K mg) (len : mg "len" = none) (mmin : mg "min" = none) (D : Df K mg "_law_moved" sMov ["_law_live", "_law_wide", "_law_steps"]) {f cN PN : Addr} {fd : FuncData} (F : Fun K "_law_nested" "_law_nested" sNest f fd) (hcd : fd.code = .ref cN) (TB : LamX.TabB base mg cN PN) :
    FnOk P w K mg base CX0 19 f fd PNs (spNest T PN) := by
  refine okC F scNest (fun vs H Q E h => ?_) (fun cdv A outer s H vs Q E ecd hr h => ?_)
  · obtain ⟨_, _, _, _, _, _, _, _, _, _, _, _, _, _, _, _, rfl, _⟩ := h
    rfl
  · obtain ⟨lv, dx, lo, m, s1, s2, gt, dt, sz, t, rr, st1, st2, xs1, xs2, u, rfl, hR, hs1, hR1, l1, hs2, hR2, l2, gt', z1, z2, hM, hgt, hT, k⟩ := h
    have ec : cdv = .ref cN := ecd.symm.trans hcd
    subst ec
    have hr18 : Room 18 _ := hr
    have GW : ∀ (ws : List (Option V)) (base' : Heap), CellsB ((cxOf CX0 P w K mg base NNs "_law_nested" (defScope sNest) f (.ref cN) A outer s H E).nox).env.cells FNs ws base' → (∀ b o, base.get? b = some o → base'.get? b = some o) → FnOk P w K mg base' CX0 18 T.wit.f T.wit.fd ["trial", "act"] (spNW T ((cxOf CX0 P w K mg base NNs "_law_nested" (defScope sNest) f (.ref cN) A outer s H E).nox).env.cells ws) := fun ws base' CB _ =>
      fn_exN fun fc => ok_wit (k := 17) T (by decide) (by decide) (fv_nok (ok_out T len mmin D fc.1.1 fc.1.2 fc.2.1 fc.2.2 _ _ (wI ws) (fv_nok (ok_inn T.A.E.R len mmin D fc.2.1 fc.2.2 _) (partI CB))) (partO CB)) (spOut_mono T _ _ _ _ _)
    refine ⟨_, pss_cons (ps_ndefPN (st := sInn) (nm := nmN) (name := "_law_inner") (i := 5) rfl TB rfl rfl innFree rfl rfl rfl scNest.nd rfl (.inr rfl) (.inl rfl)) (pss_cons (ps_ndefPN (st := sOut) (nm := nmN) (name := "_law_outer") (i := 6) rfl TB rfl rfl outFree rfl rfl rfl scNest.nd rfl (.inl rfl) (.inr rfl))
      (pss_one (ps_ret (pe_callSR (js := [1, 3, 2, 5, 4]) (fr := FNs) GW (fun ok => Caps.all fnsCell rfl) (fun _ _ _ => rfl) hr18 rfl T.wit.g T.wit.k T.wit.b .nil pass0 (pa_cons (pv 2) (pa_cons (pv 6) pa_nil)))))), ?_⟩
    refine ⟨hT, fun fi ci H1 e1 T1 n1 hfi hci => ⟨T1, fun fo co H2 e2 T2 n2 hfo hco => ?_⟩⟩
    obtain ⟨psN, hPN, _⟩ := id hT
    obtain ⟨psN1, hPN1, _⟩ := id T1
    have e12 : ExtP PN H H2 := fun b o n e => e2 _ _ n (e1 _ _ n e)
    have eN := ExtP.extN hPN e12
    have R2 := hR.ext eN
    have hgt2 := eN _ _ hgt (by intro ps z; cases z)
    have hs12 := eN _ _ hs1 (by intro ps z; cases z)
    have hs22 := eN _ _ hs2 (by intro ps z; cases z)
    have hR12 : Rps H2 xs1 st1 := hR1.mono fun p xs e => eN _ _ e (by intro ps z; cases z)
    have hR22 : Rps H2 xs2 st2 := hR2.mono fun p xs e => eN _ _ e (by intro ps z; cases z)
    have fiP : fi ≠ PN := ne_of hfi hPN1 (by intro z; unfold FnO at z; cases z)
    have ciP : ci ≠ PN := ne_of hci hPN1 (by intro z; unfold LamX.CodeO at z; cases z)
    have hfi2 := e2 _ _ fiP hfi
    have hci2 := e2 _ _ ciP hci
    have nlg : lv ≠ gt := fun z => by
      have e := R2.at_
      rw [z, hgt2] at e
      exact tf_ne_rf (Option.some.inj e).symm
    refine ⟨_, rfl, _, rfl, ((fo, co), (fi, ci)), gt, dt, lv, dx, lo, m, sz, false, u, rfl, hgt2, R2.at_, fun H3 y dy o3 ny hy ht3 => ?_⟩
    have nyg : y ≠ gt := (ne_of_none hgt2 ny).symm
    have nyl : y ≠ lv := (ne_of_none R2.at_ ny).symm
    have at3 := o3 _ _ nlg R2.at_
    have R3 := rd_two hgt2 (fun b o n1 n2 e => o3 b o n2 e) at3 R2
    have og : ∀ {b : Addr} {o : HO}, H2 b = some o → o ≠ .ins T.CT dt (tf lv u) → H3 b = some o := fun e n => o3 _ _ (ne_of e hgt2 n) e
    refine ⟨⟨og hfo (by intro z; unfold FnO at z; cases z), og hco (by intro z; unfold LamX.CodeO at z; cases z)⟩, lv, dx, lo, m, s1, s2, gt, dt, sz, t, rr, st1, st2, xs1, xs2, .ref y, rfl, rfl, rfl, R3, og hs12 (by intro z; cases z), hR12.mono fun p xs e => og e (by intro z; cases z), l1, og hs22 (by intro z; cases z), hR22.mono fun p xs e => og e (by intro z; cases z), l2, gt', z1, z2, hM, ht3, ⟨og hfi2 (by intro z; unfold FnO at z; cases z), og hci2 (by intro z; unfold LamX.CodeO at z; cases z)⟩, fun H4 m4 p q ob4 R4 ht4 hp4 => ⟨ht4, ob4 _ _ nyl nyg hy, ⟨m4, R4.at_⟩, ?_⟩⟩
    have ob : ∀ b o, b ≠ lv → b ≠ gt → H2 b = some o → (upd (upd H4 lv (.ins T.A.E.R.CR dx (rf lo sz false m))) gt (.ins T.CT dt (tf lv u))) b = some o := fun b o n1 n2 e => by
      rw [upd_ne n2, upd_ne n1]
      exact ob4 _ _ n1 n2 (o3 _ _ n2 e)
    exact k H2 _ p q e12 T2 ob (rd_two hgt2 ob (by rw [upd_ne nlg, upd_same]) R2) upd_same (by
      rw [upd_ne (ne_of hp4 ht4 (by intro z; cases z)), upd_ne (ne_of hp4 R4.at_ (by intro z; cases z))]
      exact hp4)
end
end My

namespace My
open PySem L2 Cm LM IsX CmH EM
abbrev sCame : Stmt := top 63
structure TxCm (K : PySem.W.Frag) (mg : Str → Option Value) (c0 c1 : Addr) where
  isi : mg "isinstance" = none
  tValueError : mg "ValueError" = none
  tLookupError : mg "LookupError" = none
  oInputError : Addr
  gInputError : mg "InputError" = some (.ref oInputError)
  oStateError : Addr
  gStateError : mg "StateError" = some (.ref oStateError)
  g0 : mg "NotAReading" = some (.ref c0)
  h0 : HF K "value" "ValueError" c0 oInputError
  x0_0 : PySem.W.exmOne K (.ref c0) (.ref c0) = some true
  g1 : mg "NothingToUndo" = some (.ref c1)
  h1 : HN K "LookupError" c1 oStateError
  x1_0 : PySem.W.exmOne K (.ref c1) (.ref c0) = some false
  x1_1 : PySem.W.exmOne K (.ref c1) (.ref c1) = some true
  cm : Df K mg "_law_came" sCame ["_law_ask"]
theorem scCame : FnScope ["_law_ask", "_law_given", "e"] ["_law_ask"] (defScope sCame) := ⟨rfl, rfl, rfl, by decide +kernel, rfl, by decide +kernel, by decide +kernel⟩
/-- the row that an error makes -/
def RwOf (c0 c1 : Addr) (cls : Value) (d : Option Addr) (H : Hp) (row : List V) : Prop :=
  (cls = .ref c0 ∧ ∃ (dd : Addr) (v : V), d = some dd ∧ H dd = some (.xd [(("value" : Str), v)]) ∧ row = [.str "NotAReading", v, .bl true]) ∨ (cls = .ref c1 ∧ d = none ∧ row = [.str "NothingToUndo", .bl true])
def TCame (c0 c1 : Addr) : (XK → Hp → VK → Prop) → Hp → VK → Prop := fun tl H Q =>
  tl (fun cls d H2 => ∃ row, RwOf c0 c1 cls d H2 row ∧ ∀ p, H2 p = none → Q (.ref p) (upd H2 p (.lst row))) H
    (fun v H2 => ∃ u : V, some (some v) = some (some u) ∧ ∀ p, H2 p = none → Q (.ref p) (upd H2 p (.lst [.str "given", u])))
theorem came_gives {X : Cx} {c0 c1 : Addr} {cdg : Value} (T : TxCm X.K X.mg c0 c1) :
    FvT.GivesToO X ["_law_ask", "_law_given", "e"] "_law_came" (defScope sCame) T.cm.f cdg (defBody sCame) "_law_ask" (TCame c0 c1) := by
  intro f c' o s H Q tl act hc h
  refine ⟨_, pss_cons (TryAs.ps_try_asN (X := (cxOf C8.CX0 X.prog X.w X.K X.mg X.base ["_law_ask", "_law_given", "e"] "_law_came" (defScope sCame) T.cm.f cdg X.A X.stack s H C8.E0).nox) (i := 2) (n := "e")
      (ks := [⟨.ref c0, tRowF c0 "NotAReading" "value"⟩, ⟨.ref c1, tRowN c1 "NothingToUndo"⟩])
      (tb := fun W D σ H => ∃ Ech : XK, (∀ (cls : Value) (d : Option Addr) (σ' : L2.St) (H' : Hp), Ech cls d H' → σ'.length = 3 → W cls d σ' H') ∧ σ[0]? = some (some (.ref f)) ∧ H c' = some o ∧ tl Ech H fun v H2 => gName 1 v σ H2 D.nx)
      (out := fun _ _ _ _ => False) rfl rfl scCame.nd rfl rfl LamX.takes0 (fun W pn xe tk _ => ?_)
      (.more ⟨rfl, by decide, .inl T.g0⟩ (fun a oe cls d pn hz hf => ?_) (.more ⟨rfl, by decide, .inl T.g1⟩ (fun a oe cls d pn hz hf => ?_) .stop)))
    (ss_imp (t' := tGiv) (pss_one (ps_ret (pe_lst (pa_cons pe_str (pa_cons (pv 1) pa_nil))))) (fun D σ H ⟨u, hσ, k⟩ => ⟨_, hσ, (by show 2 ≤ sizeLine; decide), k⟩)), ?_⟩
  · refine ⟨fun pins s2 σ H2 D I hh => ?_⟩
    obtain ⟨Ech, hW, h1, h2, h3⟩ := hh
    have hp := fun p1 p2 => act _ pn xe Ech p1 p2 (takes_len tk) (fun cls d σ' H' z => hW cls d σ' H' z)
    exact (pss_one (ps_set (i := 1) scCame.nd rfl (.inl rfl) (hp _ _))).run pins s2 σ H2 D I ⟨h1, h2, h3⟩
  · refine ss_imp (pss_one (ps_ret (pe_lst (pa_cons pe_str (pa_cons (pe_xf T.h0.x.xf T.h0.n hz hf (pv 2)) (pa_cons (pe_and (pe_callB (call_isX T.h0.x hz hf) (by rfl) T.isi (by decide +kernel) (pa_cons (pv 2) (pa_cons (pe_glob (v := .ref T.oInputError) rfl T.gInputError rfl) pa_nil)))
        (pe_one (pe_callB (call_isX T.h0.x hz hf) (by rfl) T.isi (by decide +kernel) (pa_cons (pv 2) (pa_cons (pe_bltn (v := .ty "ValueError") (by rfl) T.tValueError (by decide +kernel) rfl) pa_nil))))) pa_nil)))))) ?_
    rintro Z σ H ⟨rfl, dd, v, rfl, hdd, hσ, k⟩
    refine ⟨_, hσ, rfl, rfl, dd, _, v, rfl, hdd, by simp [List.lookup], ?_⟩
    refine ⟨_, hσ, .ref T.oInputError, .ref T.oInputError, true, dd, _, rfl, fun u z => z, rfl, rfl, hdd, T.h0.k1, true, rfl, iteT ?_⟩
    refine ⟨_, hσ, .ty "ValueError", .type "ValueError", true, dd, _, rfl, fun u z => z, rfl, rfl, hdd, T.h0.k2, ?_⟩
    exact ⟨by show 3 ≤ sizeLine; decide, k⟩
  · by_cases hcd : cls = .ref c1 ∧ d = none
    · obtain ⟨rfl, rfl⟩ := hcd
      refine ss_imp (pss_one (ps_ret (pe_lst (pa_cons pe_str (pa_cons (pe_and (pe_callB (call_isE T.h1.x hz hf) (by rfl) T.isi (by decide +kernel) (pa_cons (pv 2) (pa_cons (pe_glob (v := .ref T.oStateError) rfl T.gStateError rfl) pa_nil)))
        (pe_one (pe_callB (call_isE T.h1.x hz hf) (by rfl) T.isi (by decide +kernel) (pa_cons (pv 2) (pa_cons (pe_bltn (v := .ty "LookupError") (by rfl) T.tLookupError (by decide +kernel) rfl) pa_nil))))) pa_nil))))) ?_
      rintro Z σ H ⟨_, _, hσ, k⟩
      refine ⟨_, hσ, .ref T.oStateError, .ref T.oStateError, true, rfl, fun u z => z, T.h1.k1, true, rfl, iteT ?_⟩
      refine ⟨_, hσ, .ty "LookupError", .type "LookupError", true, rfl, fun u z => z, T.h1.k2, ?_⟩
      exact ⟨by show 2 ≤ sizeLine; decide, k⟩
    · exact ⟨fun pins s σ H D I q => absurd ⟨q.1, q.2.1⟩ hcd⟩
  · refine ⟨_, fun cls d σ' H' hh hl => ?_, rfl, hc, h⟩
    obtain ⟨row, hn, k⟩ := hh
    obtain ⟨x0, x1, x2, rfl⟩ := len3 hl
    rcases hn with ⟨rfl, dd, v, rfl, hdd, rfl⟩ | ⟨rfl, rfl, rfl⟩
    · exact ⟨true, T.x0_0, fun a na => ⟨rfl, dd, v, rfl, hdd, rfl, k⟩⟩
    · exact ⟨false, T.x1_0, true, T.x1_1, fun a na => ⟨rfl, rfl, rfl, k⟩⟩
end My

/-! attempt where it refuses -/
namespace My
open PySem L2 Cm LM EM StX FvL NdefX
abbrev sENR : Stmt := inClass (top 4) 0
theorem scENR : FnScope ["self", "value"] ["self", "value"] (defScope sENR) := ⟨rfl, rfl, rfl, by decide +kernel, rfl, by decide +kernel, by decide +kernel⟩
section
variable {P : Program} {w : World} {K : PySem.W.Frag} {mg : Str → Option Value} {base : Heap}
theorem ok_eNR (T : TxEr K mg "NotAReading" "value" sENR "NotAReading.__init__") : FnOk P w K mg base CX0 1 T.f T.fd ["self", "value"] (spER "value" T.C) := by
  refine T.F.ok scENR (fun vs H Q E h => ?_) (fun cdv A outer s H vs Q E hr h => ?_)
  · obtain ⟨a, v, rfl, _⟩ := h
    rfl
  · obtain ⟨a, v, rfl, ha, k⟩ := h
    exact ⟨_, pss_one (ps_ost (pv 0) (pv 1)), _, rfl, _, rfl, a, T.C, rfl, T.o, T.n, .inl ⟨ha, fun dx n ne => k dx n ne⟩⟩
theorem fn_noX {CX : CXT} {k : Nat} {f : Addr} {fd : FuncData} {ps : List Str} : FnOk P w K mg base CX k f fd ps (fun _ _ _ _ => False) := ⟨fun _ _ _ _ h => h.elim, fun _ _ _ _ _ _ _ _ _ _ _ _ _ h => h.elim⟩
def spAttE (T : TxTr K mg) (CE : Addr) : Sp := fun vs H _ E => ∃ v a : V, vs = [v, a] ∧ NoIn K T.A.E.R.CR H v ∧ ∀ d, H d = none → E (.ref CE) (some d) (upd H d (.xd [("value", v)]))
theorem ok_attE (T : TxTr K mg) (eN : TxEr K mg "NotAReading" "value" sENR "NotAReading.__init__") : FnOk P w K mg base (L2.CX P w) 4 T.att.f T.att.fd ["reading", "act"] (spAttE T eN.C) := by
  have GE : FnOk P w K mg base CX0 1 eN.f eN.fd ["self", "value"] (spER "value" eN.C) := ok_eNR eN
  have GW : FnOk P w K mg base (L2.CX P w) 3 T.wit.f T.wit.fd ["trial", "act"] (fun _ _ _ _ => False) := fn_noX
  have GT : FnOk P w K mg base (L2.CX P w) 3 T.tr.f T.tr.fd ["self"] (fun _ _ _ _ => False) := fn_noX
  refine T.att.F.okX scAtt (fun vs H Q E h => ?_) (fun cdv A outer s H vs Q E hr h => ?_)
  · obtain ⟨v, a, rfl, _⟩ := h
    rfl
  · obtain ⟨v, a, rfl, ⟨t, ty, kt⟩, k⟩ := h
    have hr2 : Room 2 _ := hr.mono (by decide)
    exact ⟨_, (pss_cons (ps_if (pt_not (pt_val (pe_callB call_isi (by rfl) T.A.E.R.N.k.isi (by decide +kernel) (pa_cons (pv 0) (pa_cons (pe_glob (v := .ref T.A.E.R.CR) rfl T.A.E.R.gR rfl) pa_nil))))) (pss_one (ps_raise rfl (takes_of rfl rfl rfl rfl) (pmk_oex eN.o eN.i eN.t GE hr2 eN.b .nil pass0 rfl eN.g (pa_cons (pv 0) pa_nil)))) pss_nil) (pss_one (ps_ret (pe_call (E := E) GW hr rfl T.wit.g T.wit.k T.wit.b .nil (passes_call (takes_of rfl rfl rfl rfl) fun _ _ _ _ z => z) (pa_cons (pe_meth0 (E := E) (pv 0) T.A.E.R.clR T.tr.m GT hr T.tr.b .nil (passes_call (takes_of rfl rfl rfl rfl) fun _ _ _ _ z => z)) (pa_cons (pv 1) pa_nil)))))), _, rfl, _, _, _, _, false, rfl, .own T.A.E.R.CR, ty, kt, false, rfl, iteT (mk_er (x := v) ⟨v, rfl, rfl, rfl⟩ (fun {R R'} ⟨v, e1, q⟩ f => ⟨v, e1, f _ _ q⟩) k)⟩
end
end My

/-! the lambdas that move the reading -/
namespace My
open PySem L2 Cm LM EM StX IsX FvL NdefX FvT
abbrev sRight : Stmt := top 67
/-- the lambdas of the turn's calls of attempt and within, in their order -/
def lamsE : Expr → List (Arguments × Expr × Scope)
  | .Call _ [_, .Lambda p b sc _] _ _ => [(p, b, sc)]
  | .Compare l _ _ _ => match l with
    | .Call _ [_, .Lambda p b sc _] _ _ => [(p, b, sc)]
    | _ => []
  | _ => []
def lamsS : List Stmt → List (Arguments × Expr × Scope)
  | .Assign _ e _ :: r => lamsE e ++ lamsS r
  | .If e _ _ _ :: r => lamsE e ++ lamsS r
  | _ :: r => lamsS r
  | [] => []
abbrev l1 : Arguments × Expr × Scope := match lamsS (defBody sRight) with
  | q :: _ => q
  | [] => (defArgs sRight, .Name "x" ⟨0, 0, 0, 0⟩, defScope sRight)
abbrev l2 : Arguments × Expr × Scope := match lamsS (defBody sRight) with
  | _ :: q :: _ => q
  | _ => (defArgs sRight, .Name "x" ⟨0, 0, 0, 0⟩, defScope sRight)
theorem scL1 : NScope ["_law_inner_here", "_law_wide", "_law_one"] ["_law_inner_here"] ["_law_wide", "_law_one"] l1.2.2 := nscope_by (by decide +kernel)
theorem scL2 : NScope ["_law_inner_here", "_law_wide", "_law_one"] ["_law_inner_here"] ["_law_wide", "_law_one"] l2.2.2 := nscope_by (by decide +kernel)
section
variable {P : Program} {w : World} {K : PySem.W.Frag} {mg : Str → Option Value} {base : Heap}
def spLm (T : TxRd K mg) (ws : List (Option V)) : Sp := fun vs H Q E => ∃ (lv sl : Addr) (sz : Nat), vs = [.ref lv] ∧ ws = [some (.int (sz : Nat)), some (.ref sl)] ∧ spMov T [.ref lv, .int (sz : Nat), .ref sl] H Q E
theorem spLm_mono (T : TxRd K mg) (ws : List (Option V)) : ∀ (vs : List V) (H : Hp) (Q Q1 : VK) (E1 : XK), (∀ v H2, Q v H2 → Q1 v H2) → spLm T ws vs H Q E1 → spLm T ws vs H Q1 E1 := fun vs H Q Q1 E1 f ⟨lv, sl, sz, a, b, k⟩ => ⟨lv, sl, sz, a, b, spMov_mono T f k⟩
theorem ok_l1 (T : TxRd K mg) (len : mg "len" = none) (mmin : mg "min" = none) (D : Df K mg "_law_moved" sMov ["_law_live", "_law_wide", "_law_steps"]) (X : Cx) (f c' : Addr) : LkOk P w K mg base (L2.CX P w) 8 f (mkL X l1.1 l1.2.2 c') l1.2.1 ["_law_inner_here"] ["_law_wide", "_law_one"] (spLm T) := by
  have GM : FnOk P w K mg base CX0 7 D.f D.fd ["_law_live", "_law_wide", "_law_steps"] (spMov T) := ok_mov T len mmin D
  refine lk_of scL1 (fun pm ctv us hl => ?_) (fun ws vs H Q E h => ?_) (fun A outer s H vs ws Q E hr hf hw h => ?_)
  · match us, hl with
    | [_], _ => rfl
  · obtain ⟨_, _, _, rfl, _⟩ := h
    rfl
  · obtain ⟨lv, sl, sz, rfl, rfl, k⟩ := h
    refine ⟨_, (pe_call GM hr rfl D.g D.k D.b .nil pass0 (pa_cons (pv 0) (pa_cons (pv 1) (pa_cons (pv 2) pa_nil)))), ?_⟩
    refine ⟨_, rfl, _, rfl, _, rfl, ?_⟩
    have key : spMov T [.ref lv, .int (sz : Nat), .ref sl] H Q C8.E0 := spMov_mono T (fun v H2 h => h) k
    exact key
theorem ok_l2 (T : TxRd K mg) (len : mg "len" = none) (mmin : mg "min" = none) (D : Df K mg "_law_moved" sMov ["_law_live", "_law_wide", "_law_steps"]) (X : Cx) (f c' : Addr) : LkOk P w K mg base (L2.CX P w) 8 f (mkL X l2.1 l2.2.2 c') l2.2.1 ["_law_inner_here"] ["_law_wide", "_law_one"] (spLm T) := by
  have GM : FnOk P w K mg base CX0 7 D.f D.fd ["_law_live", "_law_wide", "_law_steps"] (spMov T) := ok_mov T len mmin D
  refine lk_of scL2 (fun pm ctv us hl => ?_) (fun ws vs H Q E h => ?_) (fun A outer s H vs ws Q E hr hf hw h => ?_)
  · match us, hl with
    | [_], _ => rfl
  · obtain ⟨_, _, _, rfl, _⟩ := h
    rfl
  · obtain ⟨lv, sl, sz, rfl, rfl, k⟩ := h
    refine ⟨_, (pe_call GM hr rfl D.g D.k D.b .nil pass0 (pa_cons (pv 0) (pa_cons (pv 1) (pa_cons (pv 2) pa_nil)))), ?_⟩
    refine ⟨_, rfl, _, rfl, _, rfl, ?_⟩
    have key : spMov T [.ref lv, .int (sz : Nat), .ref sl] H Q C8.E0 := spMov_mono T (fun v H2 h => h) k
    exact key
end
end My

/-! the lambda within the watch -/
namespace My
open PySem L2 Cm LM EM StX IsX FvL NdefX FvT
/-- the watch: its parameters, body, scope -/
def kwLam : List Keyword → Option (Arguments × Expr × Scope)
  | [⟨_, .Lambda p b sc _, _⟩] => some (p, b, sc)
  | _ => none
def watS : List Stmt → Option (Arguments × Expr × Scope)
  | .Expr (.Call _ _ ks _) _ :: r => match kwLam ks with
    | some q => some q
    | none => watS r
  | _ :: r => watS r
  | [] => none
abbrev wt : Arguments × Expr × Scope := match watS (defBody sRight) with
  | some q => q
  | none => (defArgs sRight, .Name "x" ⟨0, 0, 0, 0⟩, defScope sRight)
def innL : Expr → Option (Arguments × Expr × Scope)
  | .Call _ [.Call _ [_, .Lambda p b sc _] _ _] _ _ => some (p, b, sc)
  | _ => none
abbrev wl : Arguments × Expr × Scope := match innL wt.2.1 with
  | some q => q
  | none => (defArgs sRight, .Name "x" ⟨0, 0, 0, 0⟩, defScope sRight)
theorem scWl : NScope ["_law_held"] ["_law_held"] [] wl.2.2 := nscope_by (by decide +kernel)
theorem scWt : NScope ["_law_inner_here", "_law_spot", "_law_seen", "_law_gate"] ["_law_inner_here", "_law_spot"] ["_law_seen", "_law_gate"] wt.2.2 := nscope_by (by decide +kernel)
section
variable {P : Program} {w : World} {K : PySem.W.Frag} {mg : Str → Option Value} {base : Heap}
/-- len(held) of a reading, busy or not -/
def spLn (T : TxRd K mg) (ws : List (Option V)) : Sp := fun vs H Q _ => ∃ (lv dx lo m dm g h k : Addr) (sz : Nat) (bs : Bool) (b : V) (ov : Bool) (gs : List V), vs = [.ref lv] ∧ H lv = some (.ins T.CR dx (rf lo sz bs m)) ∧ H m = some (.ins T.CM dm (mf b g h k ov)) ∧ H g = some (.tup gs) ∧ gs.length ≤ 1000 ∧ Q (.int (gs.length : Nat)) H
theorem ok_ln65 (T : TxRd K mg) (len : mg "len" = none) (X : Cx) (f c' : Addr) : LkOk P w K mg base (L2.CX P w) 3 f (mkL X wl.1 wl.2.2 c') wl.2.1 ["_law_held"] [] (spLn T) := by
  have GL : FnR P w K mg base CX0 1 T.rl.f (fun vs H Q E => spRdL T (vs ++ []) H Q E) := (ok_rdl T).raw T.rl.b .nil
  refine lk_of scWl (fun pm ctv us hl => ?_) (fun ws vs H Q E h => ?_) (fun A outer s H vs ws Q E hr hf hw h => ?_)
  · match us, hl with
    | [_], _ => rfl
  · obtain ⟨_, _, _, _, _, _, _, _, _, _, _, _, _, rfl, _⟩ := h
    rfl
  · obtain ⟨lv, dx, lo, m, dm, g, h, kk, sz, bs, b, ov, gs, rfl, at_, hm, hg, hgl, k⟩ := h
    refine ⟨_, (pe_callB (call_lenO T.rl.i T.rl.fn GL hr) (by rfl) len PySem.boot_len (pa_cons (pv 0) pa_nil)), ?_⟩
    exact ⟨_, rfl, lv, dx, _, rfl, at_, lv, dx, lo, m, dm, g, h, kk, sz, bs, b, _, gs, rfl, at_, hm, hg, gs.length, rfl, by omega, k⟩
end
end My

/-! with e as x: .., a manager of an own class, the block raises: the exit is called while the error is handled -/
namespace WiX
open PySem PySem.Spec PyProof.Rows L2
/-! ### a def that lets nothing out, called while an error is handled -/
def cxM (P : Program) (w : World) (K : PySem.W.Frag) (mg : Str → Option Value) (base : Heap) (N : List Str) (qual : Str) (scope : Scope) (f : Addr) (cd : Value) (A : Around) (outer : List Env) (s : Shared) (H : Hp) : Cx :=
  { (cxOf C8.CX0 P w K mg base N qual scope f cd A outer s H C8.E0).nox with calm := false }
structure FnM (P : Program) (w : World) (K : PySem.W.Frag) (mg : Str → Option Value) (base : Heap) (f : Addr) (fd : FuncData) (ps : List Str) (sp : Sp) : Prop where
  len : ∀ vs H Q E, sp vs H Q E → vs.length = ps.length
  run : ∀ (A : Around) (outer : List Env) (s : Shared) (H : Hp) (us : List Value) (vs : List V) (Q : VK), A.depth < recursionLimit → Env0 P w K mg base A outer s H → BindsTo s fd ⟨us, []⟩ (ps.zip us) → Vals vs us → sp vs H Q C8.E0 →
    codeAny (model P w) A (.call (.ref f) ⟨us, []⟩) (CR C8.CX0 outer P w H s Q C8.E0) s
section
variable {P : Program} {w : World} {K : PySem.W.Frag} {mg : Str → Option Value} {base : Heap} {N ps : List Str}
theorem env_mark {A : Around} {outer : List Env} {s : Shared} {H : Hp} (o : Option Value) (e : Env0 P w K mg base A outer s H) : Env0 P w K mg base (A.mark o) outer s H := ⟨e.1, e.2, e.3, e.4, e.5, e.6, e.7, e.8⟩
theorem fnM {x qual : Str} {st : Stmt} {f : Addr} {fd : FuncData} {sp : Sp} (F : Fun K x qual st f fd) (S : FnScope N ps (defScope st)) (len : ∀ vs H Q E, sp vs H Q E → vs.length = ps.length)
    (hbody : ∀ (cdv : Value) (A : Around) (outer : List Env) (s : Shared) (H : Hp) (vs : List V) (Q : VK), sp vs H Q C8.E0 → ∃ t, PSs (cxM P w K mg base N qual (defScope st) f cdv A outer s H) (defBody st) t ∧ t { nx := fun _ H' => Q .non H', rt := Q } (L2.start N vs) H) : FnM P w K mg base f fd ps sp := by
  obtain ⟨oc, od, kV, doc, pm, an, cdv, ct, osl, rfl, lk, hcd⟩ := F.ex
  refine ⟨len, fun A outer s H us vs Q hd e0 hb r hsp => ?_⟩
  have inH : K.In s.heap := e0.mod.kin.keeps fun b o e => (e0.bs b o e).1
  refine codeAny_call_function hd (inH _ _ lk) rfl S.co S.gen rfl (PySem.W.codeRec_of inH hcd) (hb _ _ _ _ (wpAny_newFunctionEnv_cells S.kind (fun y hy => (S.par y.1 (List.of_mem_zip hy).1).imp id fun q => ⟨q, PySem.W.cellsFrom_some _ _ _ (.inl q)⟩) fun env he s1 x => ?_))
  subst he
  refine ⟨(e0.mod.nolimit.keeps fun b o e => (e0.bs b o e).1).keeps x.toInCall.keep, codeAny_func ?_⟩
  have I0 := inv_start (CX := C8.CX0) (E := C8.E0) (qual := qual) (f := f) (cd := cdv) S (A := { A with handled := none }) rfl ⟨e0.1, e0.2, e0.3, e0.4, e0.5, e0.6, e0.7, e0.8⟩ (len _ _ _ _ hsp) r x
  have I : Inv (cxM P w K mg base N qual (defScope st) f cdv A outer s H) [] (L2.start N vs) H s1 :=
    ⟨⟨I0.ok.mod, I0.ok.kind, I0.ok.glob, I0.ok.blt, I0.ok.above, I0.ok.inj, I0.ok.has, I0.ok.cab, (fun z => nomatch z), I0.ok.frames, I0.ok.stk, I0.ok.exf, I0.ok.bs, I0.ok.bsz, I0.ok.noex, I0.ok.exfs, I0.ok.funs, I0.ok.frf⟩, I0.os, I0.bare, I0.base, I0.loc, I0.cell, I0.free, I0.freeC, I0.pin, I0.hok, I0.len⟩
  obtain ⟨t, ht, hq⟩ := hbody cdv A outer s H vs Q hsp
  refine wpAny_mono (ht.run [] s1 (L2.start N vs) H _ I hq) (fun g s' hs => ?_) fun _ _ z => False.elim z
  match g, hs with
  | .ret u, ⟨v, σ', H', J, rv, q⟩ => exact ⟨v, H', J.os, J.bare, J.base, J.hok, rv, q⟩
  | .next, ⟨σ', H', J, q⟩ => exact ⟨.non, H', J.os, J.bare, J.base, J.hok, rfl, q⟩
  | .brk, ⟨_, _, _, z⟩ => exact z.elim
  | .cont, ⟨_, _, _, z⟩ => exact z.elim
end
/-! ### the manager's code behind the block's error -/
section
variable {prog : Program} {w : World} {A : Around} {E : Value → Shared → Prop} {s : Shared} {env : Env} {K : PySem.W.Frag} {x C fe fx : Addr} {ox : Obj} {od : Option Obj} {pos : Pos}
def KwErr (prog : Program) (w : World) (A : Around) (E : Value → Shared → Prop) (env : Env) (x fx : Addr) (Q : Flow → Shared → Prop) (e : Value) (s : Shared) : Prop :=
  e ≠ byPass ∧ wpAny (model prog w) A (noteFrame e env) (fun _ s1 => wpAny (model prog w) A (setFlight e none) (fun _ s2 => wpAny (model prog w) A (typeOf e) (fun c s3 => wpAny (model prog w) A (tracebackOf e) (fun tb s4 =>
    codeAny (model prog w) (A.mark (some e)) (.call (.ref fx) ⟨[.ref x, c, e, tb], []⟩) (fun r s5 => match r with
      | .ok (.ret v) => v = .none ∧ wpAny (model prog w) A (passOn "with" e env) Q E s5
      | .ok _ => False
      | .error e' => E e' s5) s4) E s3) E s2) E s1) E s
/-- the two methods are found, the block starts -/
theorem kw_err {b : Value → Sem Unit} {bdy : Sem Flow} {Q : Flow → Shared → Prop} (X : K.In s.heap) (I : PySem.W.InstAt s.heap x ox C od) (he : PySem.W.findIn K (.ref C) "__enter__" = some (some (.ref fe))) (hfe : PySem.W.isFn K (.ref fe) = true)
    (hx : PySem.W.findIn K (.ref C) "__exit__" = some (some (.ref fx))) (hfx : PySem.W.isFn K (.ref fx) = true)
    (h : wpAny (model prog w) A (call (.ref fe) [.ref x]) (fun v s₂ => wpAny (model prog w) A (b v) (fun _ s₃ => wpAny (model prog w) A bdy (fun _ _ => False) (KwErr prog w A E env x fx Q) s₃) (fun _ _ => False) s₂) E s) :
    wpAny (model prog w) A (withItem false pos env (pure (.ref x)) (some b) bdy) Q E s := by
  obtain ⟨cd, hcd, ae⟩ := PySem.W.kw_along he
  obtain ⟨cd2, hcd2, ax⟩ := PySem.W.kw_along hx
  obtain rfl : cd = cd2 := Option.some.inj (hcd.symm.trans hcd2)
  obtain ⟨hh, g, d, tt, os⟩ := s
  have look1 := PySem.W.kw_special (M := model prog w) X I hcd ae
  have look2 := PySem.W.kw_special (M := model prog w) X I hcd ax
  have bind1 : PySem.W.Looks (model prog w) hh (bindSpecial (.ref fe) (.ref x)) (.ref fe, [.ref x]) := PySem.W.bind_fn X _ (beq_iff_eq.mp hfe)
  have bind2 : PySem.W.Looks (model prog w) hh (bindSpecial (.ref fx) (.ref x)) (.ref fx, [.ref x]) := PySem.W.bind_fn X _ (beq_iff_eq.mp hfx)
  have no1 : PySem.W.Looks (model prog w) hh (aMethodOfAnotherBuiltinTypeStops (.ref fe) cd.mro) () := PySem.W.Looks.of_pure rfl
  have no2 : PySem.W.Looks (model prog w) hh (aMethodOfAnotherBuiltinTypeStops (.ref fx) cd.mro) () := PySem.W.Looks.of_pure rfl
  unfold withItem
  refine wpAny_bind (wpAny_pure (wpAny_bind (wpAny_standAt ?_)))
  simp only [Bool.false_eq_true, if_false]
  open PySem.W in kw_lk
  refine wpAny_mono h (fun v s₂ h₂ => ?_) fun _ _ z => z
  open PySem.W in kw_lk
  refine wpAny_attempt (PySem.W.kw_held (wpAny_bind (wpAny_mono h₂ (fun _ s₃ h₃ => wpAny_mono h₃ (fun f s₄ h₄ => h₄.elim) fun e s₄ ⟨nb, h₄⟩ => ?_) fun _ _ z => z.elim)))
  refine wpAny_bind (wpAny_mono h₄ (fun _ s5 h5 => wpAny_bind (wpAny_mono h5 (fun _ s6 h6 => wpAny_bind (wpAny_standAt (wpAny_holding ?_))) fun _ _ z => z)) fun _ _ z => z)
  refine wpAny_bind (wpAny_mono h6 (fun c s7 h7 => wpAny_bind (wpAny_mono h7 (fun tb s8 h8 => ?_) fun _ _ z => z)) fun _ _ z => z)
  unfold withItem.marked
  refine wpAny_bind (wpAny_bind (wpAny_run (codeAny_mono h8 fun r s9 h9 => ?_) (fun q => nb (Option.some.inj q))))
  match r, h9 with
  | .error e', h9 => exact h9
  | .ok (.ret v), ⟨ev, h9⟩ =>
    subst ev
    exact wpAny_pure (wpAny_bind (wpAny_pure (wpAny_bind (wpAny_pure h9))))
end
/-! ### in our states -/
section
variable {X : Cx} {pins : List (Addr × Obj)} {σ : L2.St} {H : Hp} {s : Shared}
/-- two records that nothing of ours leans on -/
structure Two (X : Cx) (H : Hp) (h : Heap) (a b : Addr) (oa ob : Obj) : Prop where
  ga : h.get? a = some oa
  gb : h.get? b = some ob
  da : ∃ v, oa.data = .fields v
  db : ∃ v, ob.data = .fields v
  na : H a = none
  nb : H b = none
  fa : a ∉ X.env.locals :: X.fs
  fb : b ∉ X.env.locals :: X.fs
theorem Two.pinned {a b : Addr} {oa ob : Obj} (t : Two X H s.heap a b oa ob) (I : Inv X pins σ H s) : Inv X (pins ++ [(a, oa), (b, ob)]) σ H s := by
  refine ⟨I.ok, I.os, I.bare, I.base, I.loc, I.cell, I.free, I.freeC, fun p hp => ?_, I.hok, I.len⟩
  have one : ∀ {c : Addr} {o : Obj}, s.heap.get? c = some o → (∃ v, o.data = .fields v) → H c = none → c ∉ X.env.locals :: X.fs → s.heap.get? c = some o ∧ H c = none ∧ c ≠ X.env.locals ∧ c ∉ X.fs ∧ ∀ v, o.data ≠ .cell v := fun g d n f =>
    ⟨g, n, fun z => f (z ▸ List.mem_cons_self), fun z => f (List.mem_cons_of_mem _ z), fun v z => by
      obtain ⟨u, d⟩ := d
      rw [d] at z
      cases z⟩
  rcases List.mem_append.mp hp with q | q
  · exact I.pin p (List.mem_append_left _ q)
  · rcases List.mem_append.mp q with q | q
    · exact I.pin p (List.mem_append_right _ q)
    · have q : p = (a, oa) ∨ p = (b, ob) := by simpa using q
      rcases q with rfl | rfl
      · exact one t.ga t.da t.na t.fa
      · exact one t.gb t.db t.nb t.fb
theorem Two.still {a b : Addr} {oa ob : Obj} (t : Two X H s.heap a b oa ob) {σ' : L2.St} {H' : Hp} {s' : Shared} (I : Inv X (pins ++ [(a, oa), (b, ob)]) σ' H' s') : Two X H' s'.heap a b oa ob ∧ Inv X pins σ' H' s' := by
  have pa := I.pin (a, oa) (by simp)
  have pb := I.pin (b, ob) (by simp)
  exact ⟨⟨pa.1, pb.1, t.da, t.db, pa.2.1, pb.2.1, t.fa, t.fb⟩, ⟨I.ok, I.os, I.bare, I.base, I.loc, I.cell, I.free, I.freeC, fun p hp => I.pin p (by
    rw [← List.append_assoc]
    exact List.mem_append_left _ hp), I.hok, I.len⟩⟩
/-- the heap without them -/
theorem Two.off {a b : Addr} {oa ob : Obj} (t : Two X H s.heap a b oa ob) (I : Inv X pins σ H s) (h0 : ∀ c o, X.s_0.heap.get? c = some o → c ≠ a ∧ c ≠ b) (hp : ∀ p ∈ X.pn ++ pins, p.1 ≠ a ∧ p.1 ≠ b) :
    ∃ G : Heap, Inv X pins σ H { s with heap := G } ∧ (∀ c o, G.get? c = some o → s.heap.get? c = some o) ∧ G.get? a = none ∧ G.get? b = none := by
  obtain ⟨G, g1, g2⟩ := restrict s.heap fun c => decide (c ≠ a ∧ c ≠ b)
  have up : ∀ c o, G.get? c = some o → s.heap.get? c = some o := fun c o e => by
    by_cases q : c ≠ a ∧ c ≠ b
    · rw [g1 c (decide_eq_true q)] at e
      exact e
    · rw [g2 c (decide_eq_false q)] at e
      cases e
  obtain ⟨va, da⟩ := t.da
  obtain ⟨vb, db⟩ := t.db
  exact ⟨G, I.less up (fun c o n1 n2 e => (g1 c (decide_eq_true ⟨n1, n2⟩)).trans e) ⟨oa, va, t.ga, da⟩ ⟨ob, vb, t.gb, db⟩ t.na t.nb h0 hp, up, g2 a (decide_eq_false fun q => q.1 rfl), g2 b (decide_eq_false fun q => q.2 rfl)⟩
end
section
variable {X : Cx} {CX : CXT} {C fe fx : Addr} {ctx : Expr} {y : Str} {py pos : Pos} {body : List Stmt} {te : TE} {tg : TG} {tb : WX → TS} {k : Nat} {fdE fdX : FuncData} {psE psX : List Str} {spE spX : Sp} {EE : XK} {Wout : WX}
/-- what is wished of the block's error: the manager's exit, then on -/
def wWith (spX : Sp) (a : Addr) (Wout : WX) : WX := fun cls d σ H => ∀ (e : Addr) (z : V), H e = none → ∃ vc : V, RelV vc cls ∧ spX [.ref a, vc, .ref e, z] H (fun v H' => v = .non ∧ Wout cls d σ H') C8.E0
def tWithX (C : Addr) (te : TE) (spE : Sp) (EE : XK) (tg : TG) (tb : WX → TS) (spX : Sp) (Wout : WX) : TS := fun _ σ H => te σ H fun x H1 => ∃ (a dx : Addr) (fs : List (Str × V)), x = .ref a ∧ H1 a = some (.ins C dx fs) ∧
  spE [.ref a] H1 (fun v H2 => tg v σ H2 fun σ2 H3 => tb (wWith spX a Wout) { nx := fun _ _ => False, rt := fun _ _ => False, bk := fun _ _ => False, ct := fun _ _ => False } σ2 H3) EE
theorem err_ok {pins : List (Addr × Obj)} {D : Ends} {u : Value} {s' : Shared} {m : Addr} (hs : X.stack = X.env :: X.outer) (hf : X.env.frame = some X.env.locals) (hex : X.ex = []) (ok : X.Ok) (tk : Takes X Wout)
    (FX : FnM X.prog X.w X.K X.mg X.base fx fdX psX spX) (hdp : X.A.depth < recursionLimit) (bX : Binds X.K fdX psX [])
    (xx : XE (X.tr (X.pn ++ pins) (KwErr X.prog X.w X.A X.xe X.env m fx (SP X pins D))) (wWith spX m Wout) u s') :
    KwErr X.prog X.w X.A X.xe X.env m fx (SP X pins D) u s' := by
  obtain ⟨e, B, s0, ps', σ1, H1, cls, d, rfl, I0, ground, up, sky, ne, os, bare, hw⟩ := xx
  have I : Inv X pins σ1 H1 s0 := I0.ofTry ok
  refine ⟨ref_ne_byPass e, Sky.land Zc.steady (by rw [ok.frames, hs]) hf (show Sky B (X.env :: X.outer) e (Zc cls d) X.env.locals s'.heap by rw [← hs]; exact sky) fun h1 fly up1 => ?_⟩
  have I1 : Inv X pins σ1 H1 { s' with heap := h1 } := I.landed ground fly.1 (up.trans up1) os bare
  obtain ⟨_, free, frames, oe, vs, T, oT, ts, ge, hz, hd, hv1, freeT, hTe, gT, hdT, ht3⟩ := id fly
  have notFr : ∀ {b : Addr} {o : Obj} {fv : Array Value}, h1.get? b = some o → o.data = .fields fv → b ∉ X.env.locals :: X.fs := fun {b o fv} eb dd hm => by
    have hm : b ∈ frs (X.env :: X.outer) := by
      rcases List.mem_cons.mp hm with z | z
      · exact List.mem_filterMap.mpr ⟨X.env, List.mem_cons_self, by rw [hf, z]⟩
      · obtain ⟨v, hv, q⟩ := List.mem_filterMap.mp z
        exact List.mem_filterMap.mpr ⟨v, List.mem_cons_of_mem _ hv, q⟩
    obtain ⟨_, o2, e2, no⟩ := frames.mem hm
    exact no fv (by rw [← Option.some.inj (eb.symm.trans e2)]; exact dd)
  have two : Two X H1 ({ s' with heap := h1 } : Shared).heap e T oe oT := ⟨ge, gT, ⟨_, hd⟩, ⟨_, hdT⟩, ne, (I.inGround ground).gone freeT, notFr ge hd, notFr gT hdT⟩
  have IP := two.pinned I1
  -- what there was before is none of the two
  have old : ∀ c o, s0.heap.get? c = some o → c ≠ e ∧ c ≠ T := fun c o ec => by
    by_cases hc : c ∈ frs X.stack
    · have hc := I.stkSub c hc
      exact ⟨fun z => two.fa (z ▸ hc), fun z => two.fb (z ▸ hc)⟩
    · have q := ground c o ec hc
      exact ⟨fun z => (by rw [z, free] at q; cases q), fun z => by rw [z, freeT] at q; cases q⟩
  refine wpAny_typeOf_ref ge ?_
  rw [hz.1]
  have exit : ∀ (z : V) (tv : Value), RelV z tv → codeAny (model X.prog X.w) (X.A.mark (some (.ref e))) (.call (.ref fx) ⟨[.ref m, cls, .ref e, tv], []⟩) (fun r s5 => match r with
      | .ok (.ret v) => v = .none ∧ wpAny (model X.prog X.w) X.A (passOn "with" (.ref e) X.env) (SP X pins D) X.xe s5
      | .ok _ => False
      | .error e' => X.xe e' s5) { s' with heap := h1 } := fun z tv rz => by
    obtain ⟨vc, rc, hsp⟩ := hw e z ne
    have rv : Vals [.ref m, vc, .ref e, z] [.ref m, cls, .ref e, tv] := .cons rfl (.cons rc (.cons rfl (.cons rz .nil)))
    have bd := bX { s' with heap := h1 } [.ref m, cls, .ref e, tv] IP.kIn ((rv.length.symm.trans (FX.len _ _ _ _ hsp)))
    refine codeAny_mono (FX.run (X.A.mark (some (.ref e))) X.stack _ H1 _ _ _ hdp (env_mark _ IP.env0) (by rw [List.append_nil] at bd; exact bd) rv hsp) fun r s5 hq => ?_
    match r, hq with
    | .ok (.ret v5), hq =>
      obtain ⟨w5, H5, I5, r5, rfl, q5⟩ := IP.after hq
      refine ⟨r5, ?_⟩
      obtain ⟨two5, J5⟩ := two.still I5
      obtain ⟨G, JG, upG, ga, gb⟩ := two5.off J5 (fun c o ec => by
        obtain ⟨o', q⟩ := I.base.there c o ec (by rw [hex]; simp)
        exact old c o' q) (fun p hp => old p.1 p.2 (I.pin p hp).1)
      have noGr : ∀ {c : Addr}, G.get? c = none → (PySem.W.hideAll G (frs X.stack)).get? c = none := fun {c} ec => by
        cases q : (PySem.W.hideAll G (frs X.stack)).get? c with
        | none => rfl
        | some o =>
          rw [PySem.W.of_hideAll _ q] at ec
          cases ec
      have fly5 : HandSPX.FlyingZ (PySem.W.hideAll G (frs X.stack)) (X.env :: X.outer) e (Zc cls d) s5.heap :=
        ⟨fun c o ec => upG c o (PySem.W.of_hideAll _ ec), noGr ga, by
          rw [← hs]
          exact funFrames_none J5.stack fun c hc => PySem.W.hideAll_none _ hc, oe, vs, T, oT, ts, two5.ga, hz, hd, hv1, noGr gb, hTe, two5.gb, hdT, ht3⟩
      have on : wpAny (model X.prog X.w) X.A (setFlight (.ref e) X.env.frame) (fun _ s7 => wpAny (model X.prog X.w) X.A (throw (.ref e) : Sem Flow) (SP X pins D) X.xe s7) X.xe s5 := by
        rw [hf]
        refine HandSPX.setFlight_upZ fly5 fun h7 held up7 => wpAny_throw (tk _ _ ⟨e, PySem.W.hideAll G (frs X.stack), { s5 with heap := G }, pins, σ1, H5, cls, d, rfl, JG, fun c o ec hc => PySem.W.hideAll_get _ ec hc, Heap.UpToSlots.trans (Heap.UpToSlots.of_keeps upG) up7, .inr (.inr (by rw [← hs] at held; exact held)), two5.na, rfl, J5.bare, q5⟩)
      unfold PySem.passOn
      refine wpAny_bind (wpAny_field two5.ga hd hv1 ?_)
      rw [if_neg (by simp)]
      first
        | exact wpAny_bind (wpAny_pure (wpAny_bind on))
        | exact wpAny_bind on
  obtain ⟨x1, hx1⟩ : ∃ x1, ts[1]? = some x1 := ⟨ts[1]'(by have := (Array.getElem?_eq_some_iff.mp ht3).1; omega), Array.getElem?_eq_some_iff.mpr ⟨_, rfl⟩⟩
  unfold PySem.tracebackOf
  refine wpAny_bind (wpAny_field ge hd hv1 ?_)
  dsimp only
  refine wpAny_bind (wpAny_field gT hdT hx1 ?_)
  by_cases c : (x1 == Value.none) = true
  · rw [if_pos c]
    exact wpAny_pure (exit .non .none rfl)
  · rw [if_neg c]
    first
      | exact wpAny_pure (exit (.ref T) (.ref T) rfl)
      | exact wpAny_bind (wpAny_pure (wpAny_pure (exit (.ref T) (.ref T) rfl)))
theorem ps_withX (hs : X.stack = X.env :: X.outer) (hf : X.env.frame = some X.env.locals) (hex : X.ex = []) (tk : Takes X Wout) (hc : PE X ctx te) (he : Meth X.K C "__enter__" fe) (hx : Meth X.K C "__exit__" fx)
    (FE : FnOk X.prog X.w X.K X.mg X.base CX k fe fdE psE spE) (hrE : Room k X.A) (bE : Binds X.K fdE psE []) (pE : Passes CX X EE)
    (FX : FnM X.prog X.w X.K X.mg X.base fx fdX psX spX) (bX : Binds X.K fdX psX []) (hg : PG X.nox (.Name y py) tg)
    (hb : ∀ (W : WX) (pn : List (Addr × Obj)) (xe : Value → Shared → Prop), Takes (X.tr pn xe) W → PSs (X.tr pn xe) body (tb W)) :
    PS X (.With [⟨ctx, some (.Name y py)⟩] body pos) (tWithX C te spE EE tg tb spX Wout) := by
  refine ⟨fun pins s σ H D I h => PySem.W.kw_execN (thn (hc.run pins s σ H _ I h) fun u s1 ⟨x, H1, I1, rx, a, dx, fs, ex, ea, q⟩ => ?_)⟩
  subst ex
  obtain rfl : u = Value.ref a := rx
  obtain ⟨ox, od, J⟩ := Own.inst_of I1 ea
  refine kw_err I1.kIn J he.at_ he.fn hx.at_ hx.fn (wpAny_mono (run_fn (us := [.ref a]) (vs := [.ref a]) FE hrE bE .nil pE I1 (.cons rfl .nil) q) (fun v s2 ⟨vv, H2, I2, rv, q2⟩ => ?_) fun _ _ z => z)
  refine wpAny_mono (hg.run pins s2 σ H2 vv v _ (I2.wish _) rv q2) (fun _ s3 ⟨σ3, H3, I3, q3⟩ => ?_) fun _ _ z => False.elim z
  refine wpAny_mono ((hb (wWith spX a Wout) (X.pn ++ pins) _ (fun u s' xx => err_ok hs hf hex I.ok tk FX hrE.depth bX xx)).run [] s3 σ3 H3 _ (I3.unwish.toTry _) q3) (fun f s4 h4 => ?_) fun _ _ z => z
  match f, h4 with
  | .next, ⟨_, _, _, z⟩ => exact z
  | .brk, ⟨_, _, _, z⟩ => exact z
  | .cont, ⟨_, _, _, z⟩ => exact z
  | .ret _, ⟨_, _, _, _, _, z⟩ => exact z
end
end WiX

/-! _law_fallen -/
namespace My
open PySem L2 Cm LM EM StX IsX FvL NdefX FvT
section
variable {P : Program} {w : World} {K : PySem.W.Frag} {mg : Str → Option Value} {base : Heap}
theorem ok_exM (T : TxTr K mg) : WiX.FnM P w K mg base T.ex.f T.ex.fd ["self", "kind", "value", "trace"] (spEx T) := by
  refine WiX.fnM T.ex.F scTrEx (fun vs H Q E h => ?_) (fun cdv A outer s H vs Q h => ?_)
  · obtain ⟨t, _, _, _, _, _, _, _, _, _, _, _, _, _, _, rfl, _⟩ := h
    rfl
  · obtain ⟨t, dt, lv, dx, lo, m, m2, y, dy, sz, bs, u, a, b, c, rfl, ht, hy, hl, k⟩ := h
    have nt : t ≠ lv := fun z => by
      rw [z, hl] at ht
      exact tf_ne_rf (Option.some.inj ht)
    have ny : y ≠ lv := fun z => by
      rw [z, hl] at hy
      exact lyf_ne_rf (Option.some.inj hy)
    refine ⟨_, pss_cons (ps_fld (pe_fld (pv 0) rfl) (pe_fld (pe_fld (pv 0) rfl) rfl) rfl) (pss_one (ps_fld (pv 0) (pe_fld (pe_fld (pv 0) rfl) rfl) rfl)), ?_⟩
    refine ⟨_, rfl, t, T.CT, dt, _, _, rfl, ht, T.clT, T.nTl, tf_l, y, T.CY, dy, _, _, rfl, hy, T.clY, T.nYm, lyf_m, _, rfl, t, T.CT, dt, _, _, rfl, ht, T.clT, T.nTr, tf_r, lv, T.A.E.R.CR, dx, _, rfl, hl, T.A.E.R.clR, T.A.E.R.nRm, (by show 4 < 1000; decide), ?_⟩
    rw [rf_pm]
    refine ⟨_, rfl, t, T.CT, dt, _, _, rfl, by rw [upd_ne nt]; exact ht, T.clT, T.nTl, tf_l, y, T.CY, dy, _, _, rfl, by rw [upd_ne ny]; exact hy, T.clY, T.nYu, lyf_u, _, rfl, t, T.CT, dt, _, rfl, by rw [upd_ne nt]; exact ht, T.clT, T.nTl, (by show 2 < 1000; decide), ?_⟩
    rw [tf_pl]
    exact k
/-! ### within, attempt, where the block raises -/
/-- what is wished of the block's error at (t, y, m): the reading is set back -/
def exW (T : TxTr K mg) (t dt lv dx lo m y dy : Addr) (sz : Nat) (bs : Bool) (u : V) (E : XK) : XK := fun cls d H2 => (∃ vc, RelV vc cls) ∧ H2 t = some (.ins T.CT dt (tf lv (.ref y))) ∧ H2 y = some (.ins T.CY dy (lyf m u)) ∧ (∃ m2, H2 lv = some (.ins T.A.E.R.CR dx (rf lo sz bs m2))) ∧
  E cls d (upd (upd H2 lv (.ins T.A.E.R.CR dx (rf lo sz bs m))) t (.ins T.CT dt (tf lv u)))
def spWiX (T : TxTr K mg) (f : Addr) (J : Hp → Prop) (wsp : Sp) : Sp := fun vs H _ E => ∃ (t dt lv dx lo m : Addr) (sz : Nat) (bs : Bool) (u : V), vs = [.ref t, .ref f] ∧ H t = some (.ins T.CT dt (tf lv u)) ∧ H lv = some (.ins T.A.E.R.CR dx (rf lo sz bs m)) ∧
  ∀ (H' : Hp) (y dy : Addr), Off t H H' → H y = none → H' y = some (.ins T.CY dy (lyf m u)) → H' t = some (.ins T.CT dt (tf lv (.ref y))) →
    J H' ∧ wsp [.ref lv] H' (fun _ _ => False) (exW T t dt lv dx lo m y dy sz bs u E)
theorem ok_witX (T : TxTr K mg) {f : Addr} {J : Hp → Prop} {wsp : Sp} {kw k : Nat} (h3 : 3 ≤ k) (hkw : kw ≤ k) (Fn : FvOk P w K mg base (L2.CX P w) kw f J wsp) (mono : ∀ (vs : List V) (H : Hp) (Q Q1 : VK) (E1 : XK), (∀ v H2, Q v H2 → Q1 v H2) → wsp vs H Q E1 → wsp vs H Q1 E1) : FnOk P w K mg base (L2.CX P w) (k + 1) T.wit.f T.wit.fd ["trial", "act"] (spWiX T f J wsp) := by
  have GE : FnOk P w K mg base CX0 3 T.en.f T.en.fd ["self"] (spEn T) := ok_en T
  have GX : WiX.FnM P w K mg base T.ex.f T.ex.fd ["self", "kind", "value", "trace"] (spEx T) := ok_exM T
  refine T.wit.F.okX scWit (fun vs H Q E h => ?_) (fun cdv A outer s H vs Q E hr h => ?_)
  · obtain ⟨t, _, _, _, _, _, _, _, _, rfl, _⟩ := h
    rfl
  · obtain ⟨t, dt, lv, dx, lo, m, sz, bs, u, rfl, ht, hl, kk⟩ := h
    have hr3 : Room 3 _ := hr.mono h3
    refine ⟨_, pss_one (WiX.ps_withX (EE := C8.E0) (Wout := fun cls d _ H2 => E cls d H2) (tb := fun W D σ H1 => ∃ Ech : XK, (∀ cls d σ' H', Ech cls d H' → W cls d σ' H') ∧ FvG.tG (fun _ => True) (tCallV f J 1 wsp Ech (tCons (tVar 2) tNil)) σ H1 D.rt)
      rfl rfl rfl (takes_of rfl rfl rfl rfl) (pv 0) ⟨T.en.m.at_, T.en.m.fn, T.en.m.kp⟩ ⟨T.ex.m.at_, T.ex.m.fn, T.ex.m.kp⟩ GE hr3 T.en.b pass0 GX T.ex.b (pg_name (i := 2) scWit.nd rfl (.inl rfl)) (fun W pn xe tk => ⟨fun pins s2 σ H2 D I ⟨Ech, hW, hh⟩ => ?_⟩)), ?_⟩
    · exact (pss_one (ps_ret (FvL.pe_callVG (i := 1) (E := Ech) (G := fun _ => True) Fn hr hkw (fun pins σ H s e s' _ I c => passes_call tk hW pins σ H s e s' I c) rfl (.inl rfl) (pa_cons (pv 2) pa_nil)))).run pins s2 σ H2 D I hh
    · refine ⟨_, rfl, t, dt, _, rfl, ht, t, dt, lv, dx, lo, m, sz, bs, u, rfl, ht, hl, fun H' y dy o ny hy ht' => ?_⟩
      obtain ⟨kJ, kw⟩ := kk H' y dy o ny hy ht'
      refine ⟨exW T t dt lv dx lo m y dy sz bs u E, fun cls d σ' H2 ⟨⟨vc, rc⟩, a1, a2, ⟨m2, a3⟩, a4⟩ e z ne => ⟨vc, rc, t, dt, lv, dx, lo, m, m2, y, dy, sz, bs, u, vc, .ref e, z, rfl, a1, a2, a3, rfl, a4⟩, True.intro, rfl, kJ, _, rfl, kJ, mono _ _ _ _ _ (fun r H2 z => z.elim) kw⟩
def spAttX (T : TxTr K mg) (f : Addr) (J : Hp → Prop) (wsp : Sp) : Sp := fun vs H _ E => ∃ (lv dx lo m : Addr) (sz : Nat), vs = [.ref lv, .ref f] ∧ H lv = some (.ins T.A.E.R.CR dx (rf lo sz false m)) ∧
  ∀ (H' : Hp) (t dt y dy : Addr), Same H H' → H t = none → H y = none → H' y = some (.ins T.CY dy (lyf m .non)) → H' t = some (.ins T.CT dt (tf lv (.ref y))) →
    J H' ∧ wsp [.ref lv] H' (fun _ _ => False) (exW T t dt lv dx lo m y dy sz false .non E)
theorem ok_attX (T : TxTr K mg) {f : Addr} {J : Hp → Prop} {wsp : Sp} {kw : Nat} (hkw : kw ≤ 15) (Fn : FvOk P w K mg base (L2.CX P w) kw f J wsp) (mono : ∀ (vs : List V) (H : Hp) (Q Q1 : VK) (E1 : XK), (∀ v H2, Q v H2 → Q1 v H2) → wsp vs H Q E1 → wsp vs H Q1 E1) : FnOk P w K mg base (L2.CX P w) 17 T.att.f T.att.fd ["reading", "act"] (spAttX T f J wsp) := by
  have GW : FnOk P w K mg base (L2.CX P w) 16 T.wit.f T.wit.fd ["trial", "act"] (spWiX T f J wsp) := ok_witX (k := 15) T (by decide) hkw Fn mono
  have GT : FnOk P w K mg base CX0 3 T.tr.f T.tr.fd ["self"] (spTr T) := ok_tr T
  refine T.att.F.okX scAtt (fun vs H Q E h => ?_) (fun cdv A outer s H vs Q E hr h => ?_)
  · obtain ⟨lv, _, _, _, _, rfl, _⟩ := h
    rfl
  · obtain ⟨lv, dx, lo, m, sz, rfl, hl, k⟩ := h
    have hr3 : Room 3 _ := hr.mono (by decide)
    refine ⟨_, (pss_cons (ps_if (pt_not (pt_val (pe_callB call_isi (by rfl) T.A.E.R.N.k.isi (by decide +kernel) (pa_cons (pv 0) (pa_cons (pe_glob (v := .ref T.A.E.R.CR) rfl T.A.E.R.gR rfl) pa_nil))))) (pss_one ps_never) pss_nil) (pss_one (ps_ret (pe_call (E := E) GW hr rfl T.wit.g T.wit.k T.wit.b .nil (passes_call (takes_of rfl rfl rfl rfl) fun _ _ _ _ z => z) (pa_cons (pe_meth0 (pv 0) T.A.E.R.clR T.tr.m GT hr3 T.tr.b .nil pass0) (pa_cons (pv 1) pa_nil)))))), ?_⟩
    refine ⟨_, rfl, _, _, _, _, true, rfl, .own T.A.E.R.CR, .base (.ins hl T.A.E.R.clR T.y1 T.A.E.R.y2 T.A.E.R.y3 T.y4), T.y5, true, rfl, iteF ?_⟩
    refine ⟨_, rfl, lv, dx, _, rfl, hl, rf_n7, lv, dx, lo, m, sz, rfl, hl, fun H1 t dt s1 nt ht => ?_⟩
    refine ⟨_, rfl, t, dt, lv, dx, lo, m, sz, false, .non, rfl, ht, s1 _ _ hl, fun H2 y dy o2 ny hy ht2 => ?_⟩
    exact k H2 t dt y dy (fun b o e => o2 _ _ (ne_of_none e nt) (s1 _ _ e)) nt (by
      cases e : H y with
      | none => rfl
      | some o => rw [s1 _ _ e] at ny; cases ny) hy ht2
end
/-! ### the nested function -/
abbrev sFal : Stmt := top 65
def sAct : Stmt := match defBody sFal with
  | a :: _ => a
  | [] => sFal
def qAct : Str := ("_law_fallen" : Str) ++ ".<locals>." ++ "_law_act"
abbrev mkAct (cl : List (Str × Addr)) : Addr → NF := NF.of sAct "_law_act" qAct cl
theorem scAct (cl : List (Str × Addr)) (c : Addr) : NScope ["_law_inner_here"] ["_law_inner_here"] [] (mkAct cl c).scope := nscope_by (show nscB _ _ _ (C8.fnScope sAct) = true by decide +kernel)
section
variable {P : Program} {w : World} {K : PySem.W.Frag} {mg : Str → Option Value} {base : Heap}
/-- it feeds nothing, then raises -/
def spAct (T : TxRd K mg) : List (Option V) → Sp := fun _ vs H _ E => ∃ (lv dx lo m : Addr) (sz : Nat) (t : Str) (rr : List (Nat × Bool)), vs = [.ref lv] ∧ RdAt T H lv dx lo m sz t rr ∧ goodText t = true ∧ 1 ≤ sz ∧ sz ≤ 1000 ∧ rr.length ≤ 60 ∧ OkR sz (ordsR t) (ordsE t) rr ∧ (∀ r ∈ rr, r.1 ≤ sz) ∧ (stR sz (ordsR t) (ordsE t) rr).st = false ∧
  ∀ (H' : Hp) (m' : Addr), Off lv H H' → RdAt T H' lv dx lo m' sz t ((0, false) :: rr) → ∀ d, E (.type "KeyError") d H'
theorem spAct_mono (T : TxRd K mg) (ws : List (Option V)) : ∀ (vs : List V) (H : Hp) (Q Q1 : VK) (E1 : XK), (∀ v H2, Q v H2 → Q1 v H2) → spAct T ws vs H Q E1 → spAct T ws vs H Q1 E1 := fun _ _ _ _ _ _ h => h
theorem ok_act (T : TxRd K mg) (mKE : mg "KeyError" = none) (f c : Addr) (cl : List (Str × Addr)) : NOk P w K mg base (L2.CX P w) 8 f (mkAct cl c) ["_law_inner_here"] [] (spAct T) := by
  have GFe : FnOk P w K mg base (L2.CX P w) 6 T.fe.f T.fe.fd ["self", "count", "told"] (spRdT T) := ok_rdf T
  refine nok_of (scAct cl c) (fun doc pm ctv us hl => ?_) (fun ws vs H Q E h => ?_) (fun A outer s H vs ws Q E hr hf hc hw h => ?_)
  · match us, hl with
    | [_], _ => rfl
  · obtain ⟨_, _, _, _, _, _, _, rfl, _⟩ := h
    rfl
  · obtain ⟨lv, dx, lo, m, sz, t, rr, rfl, hR, gt, z1, z2, hl, ok, hc1, hst, k⟩ := h
    have hr6 : Room 6 _ := hr.mono (by decide)
    refine ⟨_, (pss_cons (ps_expr (pe_meth (E := C8.E0) (pv 0) T.clR T.fe.m GFe hr6 T.fe.b .nil pass_none (pa_cons pe_int (pa_cons pe_bl pa_nil)))) (pss_one (ps_raise rfl (takes_of rfl rfl rfl rfl) (pmk_exc PyProof.Rows.excClass_KeyError ty_KeyError rfl mKE boot_KeyError (pa_cons pe_str pa_nil))))), ?_⟩
    refine ⟨_, rfl, lv, dx, _, rfl, hR.at_, rf_n1 .., lv, dx, lo, m, sz, 0, false, t, rr, rfl, hR, gt, z1, z2, Nat.zero_le _, by omega, ok, hc1, fun z => absurd (hst.symm.trans z) (by decide), fun _ H2 m2 q2 hs2 o2 R2 _ _ _ => ⟨(by show 1 ≤ sizeLine; decide), fun d => k H2 m2 o2 R2 d⟩⟩
/-! ### _law_fallen -/
theorem rd_off {T : TxRd K mg} {H H' : Hp} {lv dx lo m : Addr} {sz : Nat} {t : Str} {rr : List (Nat × Bool)} (ob : Off lv H H') (at_ : H' lv = some (.ins T.CR dx (rf lo sz false m))) (h : RdAt T H lv dx lo m sz t rr) : RdAt T H' lv dx lo m sz t rr := by
  have f : ∀ (p : Addr) (xs : List V), H p = some (.tup xs) → H' p = some (.tup xs) := fun p xs e => ob _ _ (ne_of e h.at_ (by intro z; cases z)) e
  obtain ⟨dx1, pr, pe, po, pq, e1, e2, e3, e4, e5⟩ := h.lo
  exact ⟨at_, ⟨dx1, pr, pe, po, pq, ob _ _ (fun z => rf_ne_lf (by rw [z, h.at_] at e1; exact Option.some.inj e1)) e1, f _ _ e2, f _ _ e3, e4.mono f, e5.mono f⟩, h.mo.mono f fun p dm b g hh k ov e => ob _ _ (fun z => rf_ne_mf (by rw [z, h.at_] at e; exact Option.some.inj e)) e⟩
theorem scFal : FnScope ["_law_live", "_law_act"] ["_law_live"] (defScope sFal) := ⟨rfl, rfl, rfl, by decide +kernel, rfl, by decide +kernel, by decide +kernel⟩
theorem actFree : ∀ y ∈ (C8.fnScope sAct).names, y.2 = NameKind.free → (defScope sFal).names.lookup y.1 = some NameKind.cell ∨ (defScope sFal).names.lookup y.1 = some NameKind.free := by decide +kernel
def spFalA (T : TxTr K mg) (cells : List (Str × Addr)) (ws : List (Option V)) : Sp := fun vs H Q E => ∃ fc : Addr × Addr, spAttX T fc.1 (JN fc.1 (mkAct (cloFrom cells (C8.fnScope sAct).names []) fc.2)) (spAct T.A.E.R ws) vs H Q E
def spFal (T : TxTr K mg) (PF : Addr) : Sp := fun vs H Q _ => ∃ (lv dx lo m : Addr) (sz : Nat) (t : Str) (rr : List (Nat × Bool)), vs = [.ref lv] ∧ RdAt T.A.E.R H lv dx lo m sz t rr ∧ goodText t = true ∧ 1 ≤ sz ∧ sz ≤ 1000 ∧ rr.length ≤ 60 ∧ OkR sz (ordsR t) (ordsE t) rr ∧ (∀ r ∈ rr, r.1 ≤ sz) ∧ (stR sz (ordsR t) (ordsE t) rr).st = false ∧ LamX.TabS H PF qAct ∧
  ∀ Hm H', ExtP PF H Hm → LamX.TabS Hm PF qAct → Off lv Hm H' → RdAt T.A.E.R H' lv dx lo m sz t rr → Q (.bl true) H'
theorem ok_fal (T : TxTr K mg) (mKE : mg "KeyError" = none) {f cF PF : Addr} {fd : FuncData} (F : Fun K "_law_fallen" "_law_fallen" sFal f fd) (hcd : fd.code = .ref cF) (TB : LamX.TabB base mg cF PF) : FnOk P w K mg base CX0 18 f fd ["_law_live"] (spFal T PF) := by
  refine okC F scFal (fun vs H Q E h => ?_) (fun cdv A outer s H vs Q E ecd hr h => ?_)
  · obtain ⟨_, _, _, _, _, _, _, rfl, _⟩ := h
    rfl
  · obtain ⟨lv, dx, lo, m, sz, t, rr, rfl, hR, gt, z1, z2, hl, ok, hc, hst, hT, kQ⟩ := h
    have ec : cdv = .ref cF := ecd.symm.trans hcd
    subst ec
    have hr17 : Room 17 _ := hr
    have GF : ∀ (ws : List (Option V)) (base' : Heap), CellsB (cloFrom ((cxOf CX0 P w K mg base ["_law_live", "_law_act"] "_law_fallen" (defScope sFal) f (.ref cF) A outer s H E).nox).env.cells (C8.fnScope sAct).names []) [] ws base' → (∀ b o, base.get? b = some o → base'.get? b = some o) → FnOk P w K mg base' (L2.CX P w) 17 T.att.f T.att.fd ["reading", "act"] (spFalA T ((cxOf CX0 P w K mg base ["_law_live", "_law_act"] "_law_fallen" (defScope sFal) f (.ref cF) A outer s H E).nox).env.cells ws) := fun ws base' CB _ =>
      fn_exN fun fc => ok_attX T (by decide) (fv_nok (ok_act T.A.E.R mKE fc.1 fc.2 _) CB) (spAct_mono T.A.E.R ws)
    refine ⟨_, pss_cons (ps_ndefP (st := sAct) (name := "_law_act") (i := 1) rfl TB rfl actFree rfl rfl rfl scFal.nd rfl (.inl rfl) (.inr rfl))
      (pss_cons (ps_try_only (X := (cxOf CX0 P w K mg base ["_law_live", "_law_act"] "_law_fallen" (defScope sFal) f (.ref cF) A outer s H E).nox) (c := .type "KeyError") (tb := fun W D σ H1 => ∃ (Ech : XK) (fc : Addr × Addr), (∀ cls d σ' H', Ech cls d H' → W cls d σ' H') ∧ σ = [some (.ref lv), some (.ref fc.1)] ∧ RdAt T.A.E.R H1 lv dx lo m sz t rr ∧ JN fc.1 (mkAct (cloFrom ((cxOf CX0 P w K mg base ["_law_live", "_law_act"] "_law_fallen" (defScope sFal) f (.ref cF) A outer s H E).nox).env.cells (C8.fnScope sAct).names []) fc.2) H1 ∧ ∀ d H2, Off lv H1 H2 → RdAt T.A.E.R H2 lv dx lo m sz t rr → Ech (.type "KeyError") d H2)
          rfl rfl ⟨rfl, by decide, .inr ⟨mKE, boot_KeyError, by decide⟩⟩ LamX.takes0 (fun W pn xe tk po => ⟨fun pins s2 σ H2 D I ⟨Ech, fc, hW, hσ, hR2, hJ, kE⟩ => ?_⟩) (fun a oe cls d pn hz hf => pss_one (ps_ret pe_bl)))
        (pss_one (ps_ret pe_bl))), ?_⟩
    · refine' PSs.run (?h : PSs _ _ _) pins s2 σ H2 D I ?r
      case h => exact pss_one (ps_expr (pe_callSR (E := Ech) (js := []) (fr := []) (fun ws base' CB st => GF ws base' CB st) (fun ok => Caps.made (scope := C8.fnScope sAct) ok actFree (fun y hy => nomatch hy) rfl) (fun _ _ _ => rfl) hr17 rfl T.att.g T.att.k T.att.b .nil (passes_call tk hW) (pa_cons (pv 0) (pa_cons (pv 1) pa_nil))))
      subst hσ
      refine ⟨_, rfl, _, rfl, fc, lv, dx, lo, m, sz, rfl, hR2.at_, fun H3 tt dt y dy s3 nt ny hy ht => ?_⟩
      have R3 := hR2.same s3
      have ntl : tt ≠ lv := (ne_of_none hR2.at_ nt).symm
      have nyl : y ≠ lv := (ne_of_none hR2.at_ ny).symm
      refine ⟨⟨s3 _ _ hJ.1, s3 _ _ hJ.2⟩, lv, dx, lo, m, sz, t, rr, rfl, R3, gt, z1, z2, hl, ok, hc, hst, fun H4 m4 o4 R4 d => ⟨⟨.ty "KeyError", rfl⟩, o4 _ _ ntl ht, o4 _ _ nyl hy, ⟨m4, R4.at_⟩, ?_⟩⟩
      have off : Off lv H2 (upd (upd H4 lv (.ins T.A.E.R.CR dx (rf lo sz false m))) tt (.ins T.CT dt (tf lv .non))) := fun b o n e => by
        rw [upd_ne (ne_of_none e nt), upd_ne n]
        exact o4 _ _ n (s3 _ _ e)
      exact kE d _ off (rd_off off (by rw [upd_ne ntl.symm, upd_same]) hR2)
    · refine ⟨hT, fun f9 c9 H1 e1 T1 n9 hf9 hc9 => ?_⟩
      obtain ⟨psF, hPF, _⟩ := id hT
      have eN := ExtP.extN hPF e1
      refine ⟨fun cls d H' => cls = .type "KeyError" ∧ Q (.bl true) H', (f9, c9), fun cls d σ' H' ⟨ec, q⟩ => ?_, rfl, hR.ext eN, ⟨hf9, hc9⟩, fun d H2 o2 R2 => ⟨rfl, kQ H1 H2 e1 T1 o2 R2⟩⟩
      subst ec
      exact ⟨true, exm_KE, fun _ a na => q, fun z => by cases z⟩
end
end My

/-! lambdas as values, their code objects known with their own tables -/
namespace FvT
open PySem PySem.Spec PyProof.Rows L2 LamX NdefX FvL
section
variable {X : Cx} {pins : List (Addr × Obj)} {σ : L2.St} {H : Hp} {s : Shared}
theorem lam_makeT {S : List Addr} {c P : Addr} {q' : Str} {params : Arguments} {body : Expr} {scope : Scope} {pos : Pos} {E : Value → Shared → Prop} {Q : Value → Shared → Prop} (I : Inv X pins σ H s) (TB : TabB X.base X.mg c P) (hcode : X.env.code = .ref c)
    (hT : TabT S H P (X.env.qual ++ "<lambda>") q') (hS : ∀ p ∈ S, H p ≠ none) (hdef : defaultsOf params X.env = ([], [])) (hfree : ∀ y ∈ scope.names, y.2 = .free → ∃ c, X.env.cells.lookup y.1 = some c)
    (h : ∀ (f c' P' : Addr) (H1 : Hp) (s' : Shared), Inv X pins σ H1 s' → ExtP P H H1 → TabT S H1 P (X.env.qual ++ "<lambda>") q' → H f = none →
      H1 f = some (LamO f (mkL X params scope c') body) → H1 c' = some (CodeT c' (X.env.qual ++ "<lambda>") P') → TabS H1 P' q' → P' ∉ S → P' ≠ P → Q (.ref f) s') :
    wpAny (model X.prog X.w) X.A (eval (.Lambda params body scope pos) X.env) Q E s := by
  obtain ⟨ps, hP, ht, ha⟩ := id hT
  refine PySem.W.kla_eval hdef ?_
  have bP : s.heap.BuiltinsAt X.mg P := TB.bm.keeps I.bk
  have hP' : s.heap.get? P = some { cls := .none, data := .fields ps } := I.hok P _ hP
  cases hc : codeAmong pos ps.toList with
  | none =>
    refine make_T (mg := X.mg) (c := c) (P := P) (ps := ps) (closure_ok hfree) I.ok.glob (I.mod.glob.keeps I.bk) hcode (TB.code.keeps I.bk) hP' ht hc TB.gP bP fun c' P' ctv h' tk hx hge hlt hpe hrec hcd htn htb => ?_
    obtain ⟨c2, oc, vs, t, e2, hoc, hd, hv⟩ := hrec
    cases e2
    have nC : H c' = none := I.hok.fresh hge
    have nT : H P' = none := I.hok.fresh hpe
    have cne : c' ≠ P' := by
      obtain ⟨_, _, _, _, _, _, _, _, _, _, _, _, _, _, _, _, _, _, z⟩ := hcd
      exact z
    have I1 := inv_tableT (t' := tk) (more := #[rawInt pos.line, rawInt pos.col, .ref c']) (h' := h') I hP (fun b o hb e => hx b o hb e) htb hge hpe cne ⟨⟨oc, vs, t, hoc, hd, hv⟩, hcd⟩ htn
    have hE : ∀ b o, b ≠ P → H b = some o → (upd (upd (upd H P (.tbl (ps ++ #[rawInt pos.line, rawInt pos.col, .ref c']))) P' (.tbl #[])) c' (CodeT c' (X.env.qual ++ "<lambda>") P')) b = some o := fun b o n e => by
      rw [upd_ne (ne_of_none e nC), upd_ne (ne_of_none e nT), upd_ne n]
      exact e
    have atT : (upd (upd (upd H P (.tbl (ps ++ #[rawInt pos.line, rawInt pos.col, .ref c']))) P' (.tbl #[])) c' (CodeT c' (X.env.qual ++ "<lambda>") P')) P' = some (.tbl #[]) := by rw [upd_ne cne.symm, upd_same]
    have eL : (ps ++ #[rawInt pos.line, rawInt pos.col, .ref c']).toList = ps.toList ++ [rawInt pos.line, rawInt pos.col, .ref c'] := by simp
    have T1 : TabT S (upd (upd (upd H P (.tbl (ps ++ #[rawInt pos.line, rawInt pos.col, .ref c']))) P' (.tbl #[])) c' (CodeT c' (X.env.qual ++ "<lambda>") P')) P (X.env.qual ++ "<lambda>") q' := by
      refine ⟨_, by rw [upd_ne (ne_of_none hP nC), upd_ne (ne_of_none hP nT), upd_same], by rw [eL]; exact PySem.TriplesOk_snoc _ _ _ _ ht, fun p' cv hcv => ?_⟩
      rw [eL] at hcv
      rcases among_app _ ht hcv with z | z
      · obtain ⟨c0, P0, e1, e2, e3, e4⟩ := ha p' cv z
        refine ⟨c0, P0, e1, hE _ _ (ne_of e2 hP (codeT_ne _)) e2, ?_, e4⟩
        obtain ⟨ps0, f1, f2, f3⟩ := e3
        refine ⟨ps0, hE _ _ e4.1 f1, f2, fun p2 cv2 hcv2 => ?_⟩
        obtain ⟨c3, g1, g2⟩ := f3 p2 cv2 hcv2
        exact ⟨c3, g1, hE _ _ (ne_of g2 hP (codeO_ne _)) g2⟩
      · exact ⟨c', P', z, upd_same, TabS.nil atT, (ne_of_none hP nT).symm, fun z => hS _ z nT⟩
    have nF := I1.hok.fresh (Nat.le_refl _)
    have I2 := inv_lam (F := mkL X params scope c') (e := body) (t' := tk) (pm := (X.mg "__name__").getD .none) (ctv := ctv) I1 rfl
    refine h h'.objs.size c' P' _ _ I2 (fun b o n e => ?_) (T1.ext fun b o e => ?_) (I.hok.fresh (Nat.le_trans hge (Nat.le_of_lt hlt))) upd_same ?_ ?_ (fun z => hS _ z nT) (ne_of_none hP nT).symm
    · have e1 := hE b o n e
      exact (upd_ne (ne_of_none e1 nF)).trans e1
    · exact (upd_ne (ne_of_none e nF)).trans e
    · exact (upd_ne (Nat.ne_of_lt hlt)).trans upd_same
    · exact TabS.nil ((upd_ne (ne_of_none atT nF)).trans atT)
  | some cv =>
    obtain ⟨c', P', e, hco, hts, hpp, hpS⟩ := ha pos cv hc
    subst e
    refine PySem.W.kla_makeFunctionHit (mg := X.mg) (c := c) (P := P) (ps := ps) (closure_ok hfree) I.ok.glob (I.mod.glob.keeps I.bk) hcode (TB.code.keeps I.bk) hP' ht hc bP fun ctv h' tk hx hsz => ?_
    have I1 : Inv X pins σ H { s with heap := h', toks := tk } := I.kept hx
    have nF : H h'.objs.size = none := I1.hok.fresh (Nat.le_refl _)
    have I2 := inv_lam (F := mkL X params scope c') (e := body) (t' := tk) (pm := (X.mg "__name__").getD .none) (ctv := ctv) I1 rfl
    have up : ∀ b o, H b = some o → (upd H h'.objs.size (LamO h'.objs.size (mkL X params scope c') body)) b = some o := fun b o e => (upd_ne (ne_of_none e nF)).trans e
    exact h h'.objs.size c' P' _ _ I2 (fun b o _ e => up b o e) (hT.ext up) nF upd_same (up _ _ hco) (hts.ext up) hpS hpp
def tLamT (S : List Addr) (P : Addr) (q q' : Str) (mk : Addr → NF) (body : Expr) : TE := fun _ H Q => TabT S H P q q' ∧ (∀ p ∈ S, H p ≠ none) ∧ ∀ (f c' P' : Addr) (H1 : Hp), ExtP P H H1 → TabT S H1 P q q' → H f = none → H1 f = some (LamO f (mk c') body) → H1 c' = some (CodeT c' q P') → TabS H1 P' q' → P' ∉ S → P' ≠ P → Q (.ref f) H1
theorem pe_lamT {S : List Addr} {q' : Str} {c P : Addr} {params : Arguments} {body : Expr} {scope : Scope} {pos : Pos} (TB : TabB X.base X.mg c P) (hcode : X.env.code = .ref c) (hdef : defaultsOf params X.env = ([], [])) (hfree : X.Ok → ∀ y ∈ scope.names, y.2 = .free → ∃ c, X.env.cells.lookup y.1 = some c) :
    PE X (.Lambda params body scope pos) (tLamT S P (X.env.qual ++ "<lambda>") q' (mkL X params scope) body) := by
  refine ⟨fun pins s σ H Q I h => ?_⟩
  obtain ⟨hT, hS, h⟩ := h
  exact lam_makeT I TB hcode hT hS hdef (hfree I.ok) fun f c' P' H1 s' I1 eN T1 nf hf hc2 hts n1 n2 => ⟨.ref f, H1, I1, rfl, h f c' P' H1 eN T1 nf hf hc2 hts n1 n2⟩
end
/-- the lambda at f and its code object with its table -/
def JLT (f : Addr) (F : NF) (body : Expr) (P' : Addr) : Hp → Prop := fun H => H f = some (LamO f F body) ∧ H F.c = some (CodeT F.c F.qual P')
section
variable {CX : CXT} {P : Program} {w : World} {K : PySem.W.Frag} {mg : Str → Option Value} {base : Heap} {N ps fr : List Str} {F : NF} {f P' : Addr} {k : Nat} {sp : List (Option V) → Sp} {body : Expr} {ws : List (Option V)}
/-- its promise, by its body -/
theorem fvT_of (S : NScope N ps fr F.scope) (hb : ∀ (pm ctv : Value) (us : List Value), us.length = ps.length → bindArgs (PySem.W.kla_fn "<lambda>" F.qual F.params body F.scope F.cl pm (.ref F.c) ctv) ⟨us, []⟩ = pure (ps.zip us)) (len : ∀ ws vs H Q E, sp ws vs H Q E → vs.length = ps.length)
    (hbody : ∀ (A : Around) (outer : List Env) (s : Shared) (H : Hp) (vs : List V) (ws : List (Option V)) (Q : VK) (E : XK), Room k (A.deeper (envF F f s.heap.objs.size)) → JLT f F body P' H → ws.length = fr.length → sp ws vs H Q E →
      ∃ t, PE (ncx CX P w K mg base N F f A outer s H E) body t ∧ t (startF N vs ws) H Q) (C : CellsB F.cl fr ws base) :
    FvOk P w K mg base CX (k + 1) f (JLT f F body P') (sp ws) := by
  refine ⟨fun hok j => let ⟨_, _, ho⟩ := lamO_at hok j.1; ⟨_, _, _, _, ho⟩, fun A outer s H us vs Q E hr e0 j r hsp => ?_⟩
  have hl := len _ _ _ _ _ hsp
  have C := C.at0 e0
  have lim : s.heap.NoLimit := e0.mod.nolimit.keeps fun b o e => (e0.bs b o e).1
  obtain ⟨pm, ctv, ho⟩ := lamO_at e0.hok j.1
  refine PySem.W.kla_callFunE hr.depth ho rfl S.co S.gen rfl (codeT_at e0.hok j.2).1 ?_
  rw [hb pm ctv us (by rw [← r.length]; exact hl)]
  refine wpAny_pure (wpAny_newFunctionEnv S.nocell (fun ⟨n, _⟩ hy => S.par n (List.of_mem_zip hy).1) (fun h₁ hns hsb => ⟨lim.fresh _ hsb, ?_⟩) S.kind)
  show codeAny _ _ (.expr body (envF F f s.heap.objs.size)) _ _
  have kp : ∀ b o, s.heap.get? b = some o → h₁.get? b = some o := fun b o e => hsb.extBut b o (Nat.ne_of_lt (Heap.lt_size e)) (Heap.get?_push_of_some _ e)
  obtain ⟨t, ht, hq⟩ := hbody A outer s H vs ws Q E (hr.deeper _) j C.len hsp
  have I : Inv (ncx CX P w K mg base N F f A outer s H E) [] (startF N vs ws) H { s with heap := h₁, toks := s.toks + (ps.zip us).length } := inv_startN S hr.hd e0 hl r C hns kp
  refine PySem.W.kla_codeExpr (wpAny_mono (ht.run [] _ (startF N vs ws) H Q I hq) (fun v s' hq => ?_) fun e s' hs => hs)
  obtain ⟨w', H', J, rv, q⟩ := hq
  exact ⟨w', H', J.os, J.bare, J.base, J.hok, rv, q⟩
end
end FvT

/-! boxes and drawn replies -/
namespace My
open PySem L2 Cm LM EM StX IsX FvL NdefX FvT
abbrev sBoxes : Stmt := top 61
theorem ords_text2 {B E : List Str} (hB : isRound B = true) (hE : isEnding E = true) : ordsR (textOf B E) = ords B ∧ ordsE (textOf B E) = ords E := by
  obtain ⟨h1, h2⟩ := text_words hB hE
  unfold ordsR ordsE
  rw [h1, h2]
  exact ⟨rfl, rfl⟩
inductive BxL (j : List Addr) (sz : Nat) (ro eo : List (Str × Str)) (H : Hp) : List V → List (List (Nat × Bool)) → Prop
  | nil : BxL j sz ro eo H [] []
  | cons {b : Addr} {rr : List (Nat × Bool)} {xs : List V} {l : List (List (Nat × Bool))} (h : BoxJ j H b (stR sz ro eo rr).x (stR sz ro eo rr).f (stR sz ro eo rr).st) (t : BxL j sz ro eo H xs l) : BxL j sz ro eo H (.ref b :: xs) (rr :: l)
section
variable {j : List Addr} {sz : Nat} {ro eo : List (Str × Str)} {H H' : Hp}
theorem BxL.mono {j' : List Addr} (f : ∀ {b x g ov}, BoxJ j H b x g ov → BoxJ j' H' b x g ov) : ∀ {xs l}, BxL j sz ro eo H xs l → BxL j' sz ro eo H' xs l
  | _, _, .nil => .nil
  | _, _, .cons h t => .cons (f h) (t.mono f)
theorem BxL.len : ∀ {xs l}, BxL j sz ro eo H xs l → xs.length = l.length
  | _, _, .nil => rfl
  | _, _, .cons _ t => congrArg (· + 1) t.len
theorem BxL.snoc {b : Addr} {rr : List (Nat × Bool)} (h : BoxJ j H b (stR sz ro eo rr).x (stR sz ro eo rr).f (stR sz ro eo rr).st) : ∀ {xs l}, BxL j sz ro eo H xs l → BxL j sz ro eo H (xs ++ [.ref b]) (l ++ [rr])
  | _, _, .nil => .cons h .nil
  | _, _, .cons a t => .cons a (t.snoc h)
theorem BxL.get : ∀ {xs l} {i : Nat} {rr : List (Nat × Bool)}, BxL j sz ro eo H xs l → l[i]? = some rr → ∃ b, xs[i]? = some (.ref b) ∧ BoxJ j H b (stR sz ro eo rr).x (stR sz ro eo rr).f (stR sz ro eo rr).st
  | _, _, i, rr, .nil, e => by simp at e
  | _, _, 0, rr, .cons h _, e => ⟨_, rfl, by cases (Option.some.inj e); exact h⟩
  | _, _, i + 1, rr, .cons _ t, e => t.get (i := i) e
end
section
variable {P : Program} {w : World} {K : PySem.W.Frag} {mg : Str → Option Value} {base : Heap}
theorem fn_ex {α : Type} {CX : CXT} {k : Nat} {f : Addr} {fd : FuncData} {ps : List Str} {sp : α → Sp} (h : ∀ j, FnOk P w K mg base CX k f fd ps (sp j)) : FnOk P w K mg base CX k f fd ps (fun vs H Q E => ∃ j, sp j vs H Q E) :=
  ⟨fun vs H Q E ⟨j, h'⟩ => (h j).1 vs H Q E h', fun A outer s H args us vs Q E hr e0 hb r ⟨j, hsp⟩ => (h j).2 A outer s H args us vs Q E hr e0 hb r hsp⟩
theorem free_at {T : TxRd K mg} {H : Hp} {lv dx lo m : Addr} {sz : Nat} {t : Str} {rr : List (Nat × Bool)} (h : RdAtB T H lv dx lo m sz t rr) : RdAt T (upd H lv (.ins T.CR dx (rf lo sz false m))) lv dx lo m sz t rr := by
  have f : ∀ (p : Addr) (xs : List V), H p = some (.tup xs) → (upd H lv (.ins T.CR dx (rf lo sz false m))) p = some (.tup xs) := fun p xs e => by
    rw [upd_ne (ne_of e h.at_ (by intro z; cases z))]
    exact e
  have ob : ∀ b o, b ≠ lv → H b = some o → (upd H lv (.ins T.CR dx (rf lo sz false m))) b = some o := fun b o n e => by
    rw [upd_ne n]
    exact e
  obtain ⟨dx1, pr, pe, po, pq, e1, e2, e3, e4, e5⟩ := h.lo
  exact ⟨upd_same, ⟨dx1, pr, pe, po, pq, ob _ _ (fun z => rf_ne_lf (by rw [z, h.at_] at e1; exact Option.some.inj e1)) e1, f _ _ e2, f _ _ e3, e4.mono f, e5.mono f⟩, h.mo.mono f fun p dm b g hh k ov e => ob _ _ (fun z => rf_ne_mf (by rw [z, h.at_] at e; exact Option.some.inj e)) e⟩
end
theorem okR_drop {sz : Nat} {ro eo : List (Str × Str)} : ∀ {rr : List (Nat × Bool)} (k : Nat), OkR sz ro eo rr → OkR sz ro eo (rr.drop k)
  | _, 0, h => h
  | [], _ + 1, _ => True.intro
  | _ :: rr, k + 1, h => okR_drop (rr := rr) k h.2
/-- the first k replies, from the last on -/
def pre (rr : List (Nat × Bool)) (k : Nat) : List (Nat × Bool) := (rr.reverse.take k).reverse
theorem pre_drop (rr : List (Nat × Bool)) (k : Nat) : pre rr k = rr.drop (rr.length - k) := by
  unfold pre
  rw [List.take_reverse, List.reverse_reverse]
theorem pre_all (rr : List (Nat × Bool)) : pre rr rr.length = rr := by rw [pre_drop, Nat.sub_self]; rfl
theorem pre_ok {sz : Nat} {ro eo : List (Str × Str)} {rr : List (Nat × Bool)} (h : OkR sz ro eo rr) (k : Nat) : OkR sz ro eo (pre rr k) := by rw [pre_drop]; exact okR_drop _ h
theorem pre_mem {sz : Nat} {rr : List (Nat × Bool)} (h : ∀ r ∈ rr, r.1 ≤ sz) (k : Nat) : ∀ r ∈ pre rr k, r.1 ≤ sz := by rw [pre_drop]; exact fun r hr => h r (List.mem_of_mem_drop hr)
theorem pre_len (rr : List (Nat × Bool)) {k : Nat} (h : k ≤ rr.length) : (pre rr k).length = k := by rw [pre_drop, List.length_drop]; omega
theorem pre_tail {rr q : List (Nat × Bool)} {k : Nat} {r : Nat × Bool} (hk : k < rr.length) (h : pre rr (k + 1) = r :: q) : pre rr k = q := by
  rw [pre_drop] at h ⊢
  rw [show rr.length - k = (rr.length - (k + 1)) + 1 by omega, ← List.drop_drop, h]
  rfl
theorem pre_succ {rr : List (Nat × Bool)} {k : Nat} {r : Nat × Bool} (h : rr.reverse[k]? = some r) : pre rr (k + 1) = r :: pre rr k := by
  unfold pre
  rw [take_snoc h, List.reverse_append]
  rfl
section
variable {P : Program} {w : World} {K : PySem.W.Frag} {mg : Str → Option Value} {base : Heap}
def spBoxes : Sp := fun vs H Q _ => ∃ (j ma a b tl : Addr) (wd : Nat) (B E : List Str) (rr : List (Nat × Bool)) (xs0 : List V), vs = [.ref ma, .int wd, .ref tl] ∧ (∃ zs, H j = some (.lst zs)) ∧ H ma = some (.tup [.ref a, .ref b]) ∧ H a = some (.lst (svs B)) ∧ H b = some (.lst (svs E)) ∧ isRound B = true ∧ isEnding E = true ∧ 1 ≤ wd ∧ wd ≤ 5 ∧ H tl = some (.lst xs0) ∧ Rps H xs0 rr.reverse ∧
  OkR wd (ordsR (textOf B E)) (ordsE (textOf B E)) rr ∧ (∀ r ∈ rr, r.1 ≤ wd) ∧ rr.length ≤ 30 ∧ ∀ (H' : Hp) (p : Addr) (ys : List V), Same H H' → H p = none → H' p = some (.lst ys) → BxL [j] wd (ordsR (textOf B E)) (ordsE (textOf B E)) H' ys ((List.range (rr.length + 1)).map (pre rr)) → Q (.ref p) H'
theorem scBoxes : FnScope ["_law_made", "_law_wide", "_law_tale_here", "_law_found", "_law_many", "_law_said"] ["_law_made", "_law_wide", "_law_tale_here"] (defScope sBoxes) := ⟨rfl, rfl, rfl, by decide +kernel, rfl, by decide +kernel, by decide +kernel⟩
theorem ok_boxes (T : TxB K mg) (D : Df K mg "_law_boxes" sBoxes ["_law_made", "_law_wide", "_law_tale_here"]) : FnOk P w K mg base CX0 4 D.f D.fd ["_law_made", "_law_wide", "_law_tale_here"] spBoxes := by
  have GD : FnOk P w K mg base CX0 3 T.fed.f T.fed.fd ["_law_made", "_law_box_here", "_law_many", "_law_said", "_law_wide"] (fun vs H Q E => ∃ S, spFd S vs H Q E) := fn_ex fun j => ok_fd T j
  have GX : FnOk P w K mg base CX0 1 T.box.f T.box.fd [] (fun vs H Q E => ∃ S, spBx S vs H Q E) := fn_ex fun S => ok_bx T S
  refine D.F.ok scBoxes (fun vs H Q E h => ?_) (fun cdv A outer s H vs Q E hr h => ?_)
  · obtain ⟨_, _, _, _, _, _, _, _, _, _, rfl, _⟩ := h
    rfl
  · obtain ⟨j, ma, a, b, tl, wd, B, E', rr, xs0, rfl, ⟨zs, hj⟩, hm, ha, hb, rB, rE, w1, w2, htl, hRp, ok, hc, hl, k⟩ := h
    have hr1 : Room 1 _ := hr.mono (by decide)
    have ot := ords_text2 rB rE
    refine ⟨_, (pss_cons (ps_set (i := 3) scBoxes.nd rfl (.inl rfl) (pe_lst (pa_cons (pe_call0 GX hr1 rfl T.box.g T.box.k T.box.b .nil pass0) pa_nil))) (pss_cons (ps_for PassesOwn.never rfl (pi_list (pv 2)) (pg_tup rfl (pgs_cons (pg_name (i := 4) scBoxes.nd rfl (.inl rfl)) (pgs_cons (pg_name (i := 5) scBoxes.nd rfl (.inl rfl)) pgs_nil))) (pss_one (ps_expr (pe_bm PySem.F.plainAttrs_list PySem.F.slot_list_append PySem.F.type_list_append mt_append (pv 3) (pa_cons (pe_call GD hr rfl T.fed.g T.fed.k T.fed.b .nil pass0 (pa_cons (pv 0) (pa_cons (pe_ix ix_list (pv 3) (pe_un un_neg pe_int) (fun _ _ => rfl)) (pa_cons (pv 4) (pa_cons (pv 5) (pa_cons (pv 1) pa_nil)))))) pa_nil))))) (pss_one (ps_ret (pv 3))))), ?_⟩
    refine ⟨[j], rfl, fun p hp => by rw [List.mem_singleton.mp hp]; exact ⟨_, hj⟩, fun H1 d s1 nd hB1 => ⟨(by show 1 ≤ sizeLine; decide), fun e ne => ?_⟩⟩
    have u2 := same_new (o := .lst [.ref d]) ne
    have hB2 : BoxJ [e, j] (upd H1 e (.lst [.ref d])) d ⟨[], []⟩ 0 false := (hB1.add ne).same u2
    have he : (upd H1 e (.lst [.ref d])) e = some (.lst [.ref d]) := upd_same
    have s2 := Same.trans s1 u2
    have nE : H e = none := by
      cases q : H e with
      | none => rfl
      | some o => rw [s1 _ _ q] at ne; cases ne
    show tSeq _ _ _ _ (upd H1 e (.lst [.ref d]))
    generalize upd H1 e (.lst [.ref d]) = H2 at hB2 he s2 ⊢
    clear u2 ne hB1 s1 nd
    have lx : xs0.length = rr.length := by rw [hRp.len, List.length_reverse]
    refine ⟨_, rfl, tl, rfl, ⟨_, SqL.of (s2 _ _ htl)⟩, for_list (xs := xs0) (fun i σ H' => ∃ (v4 v5 : Option V) (qs : List V) (b9 : Addr), σ = [some (.ref ma), some (.int (wd : Nat)), some (.ref tl), some (.ref e), v4, v5] ∧ Same H H' ∧ H' e = some (.lst (qs ++ [.ref b9])) ∧ BxL [e, j] wd (ordsR (textOf B E')) (ordsE (textOf B E')) H' (qs ++ [.ref b9]) ((List.range (i + 1)).map (pre rr)) ∧ qs.length = i ∧ BoxJ [e, j] H' b9 (stR wd (ordsR (textOf B E')) (ordsE (textOf B E')) (pre rr i)).x (stR wd (ordsR (textOf B E')) (ordsE (textOf B E')) (pre rr i)).f (stR wd (ordsR (textOf B E')) (ordsE (textOf B E')) (pre rr i)).st)
      ⟨none, none, [], d, rfl, s2, he, .cons hB2 .nil, rfl, hB2⟩ (fun i σ H' _ ⟨_, _, _, _, _, s', _⟩ => SqL.of (s' _ _ htl)) ?_ ?_⟩
    · rintro i x σ H3 hx ⟨v4, v5, qs, b9, rfl, s3, he3, hBL, lq, hB9⟩
      obtain ⟨q, r, hr0, rfl, hq⟩ := hRp.get hx
      have hi : i < rr.length := by
        have := (List.getElem?_eq_some_iff.mp hx).1
        omega
      have ps := pre_succ hr0
      have okp := pre_ok ok (i + 1)
      rw [ps] at okp
      have hst := okp.1
      have lp := pre_len rr (Nat.le_of_lt hi)
      have hcp := pre_mem hc i
      have bdn := runM_bound (ro := ordsR (textOf B E')) (eo := ordsE (textOf B E')) w1 (by rw [ot.1, ords, List.length_map]; exact (round_sht rB).2) (by rw [ot.2, ords, List.length_map]; exact (ending_sht rE).2) (pre rr i).reverse (by rw [List.length_reverse]; omega) fun r h => hcp r (List.mem_reverse.mp h)
      rw [st_run, List.length_reverse] at bdn
      have f1 : (stR wd (ordsR (textOf B E')) (ordsE (textOf B E')) (pre rr i)).f ≤ 30 * 5 := Nat.le_trans bdn.2.1 (Nat.mul_le_mul (by omega) w2)
      have few : Few wd (18 * 30) (30 * 32724) (stR wd (ordsR (textOf B E')) (ordsE (textOf B E')) (pre rr i)).x := bdn.1.mono (Nat.mul_le_mul_left _ (by omega)) (Nat.mul_le_mul_right _ (by omega))
      refine ⟨q, _, rfl, SqT.of (s3 _ _ hq), rfl, _, _, rfl, _, _, rfl, rfl, ?_⟩
      refine ⟨_, rfl, .inl ⟨rfl, _, SqL.of he3⟩, _, rfl, _, rfl, _, rfl, e, _, -1, _, rfl, rfl, SqL.of he3, atI_last _ _, _, rfl, _, rfl, _, rfl, ?_⟩
      refine ⟨[e, j], ma, a, b, b9, B, E', _, _, _, r.2, r.1, wd, 18 * 30, 30 * 32724, rfl, s3 _ _ hm, s3 _ _ ha, s3 _ _ hb, rB, rE, hB9, fun p hp => by
        rcases List.mem_cons.mp hp with rfl | hp
        · exact ⟨_, he3⟩
        · rw [List.mem_singleton.mp hp]; exact ⟨_, s3 _ _ hj⟩, w1, by omega, hc r (List.mem_reverse.mp (List.mem_of_getElem? hr0)), by omega, few, by decide, by decide, fun H9 dd s9 ndd hBd => ?_⟩
      have sc := st_cons (r := r) hst
      have hBd : BoxJ [e, j] H9 dd (stR wd (ordsR (textOf B E')) (ordsE (textOf B E')) (r :: pre rr i)).x (stR wd (ordsR (textOf B E')) (ordsE (textOf B E')) (r :: pre rr i)).f (stR wd (ordsR (textOf B E')) (ordsE (textOf B E')) (r :: pre rr i)).st := by
        rw [sc]
        rw [← ot.1, ← ot.2] at hBd
        exact hBd
      rw [← ps] at hBd
      have he9 := s9 _ _ he3
      have oe : Off e H9 (upd H9 e (.lst ((qs ++ [.ref b9]) ++ [.ref dd]))) := fun b o nb q => by rw [upd_ne nb]; exact q
      have box : ∀ {b x g ov}, BoxJ [e, j] H9 b x g ov → BoxJ [e, j] (upd H9 e (.lst ((qs ++ [.ref b9]) ++ [.ref dd]))) b x g ov := fun h => h.offS oe List.mem_cons_self ⟨_, he9⟩
      refine ⟨e, _, _, rfl, rfl, he9, small1000 (by rw [List.length_append]; show qs.length + 1 ≤ 1000; omega), _, _, qs ++ [.ref b9], dd, rfl, fun b' o' z => ?_, upd_same, ?_, by rw [List.length_append, lq]; rfl, box hBd⟩
      · rw [upd_ne (ne_of_none z nE)]
        exact s9 _ _ (s3 _ _ z)
      · rw [List.range_succ, List.map_append]
        exact (BxL.mono (fun h => box (h.same s9)) hBL).snoc (box hBd)
    · rintro σ H3 ⟨v4, v5, qs, b9, rfl, s3, he3, hBL, lq, hB9⟩
      rw [lx] at hBL
      exact ⟨_, rfl, k H3 e _ s3 nE he3 (hBL.mono fun h => h.sub (by simp))⟩
theorem BoxJ.ext {S : List Addr} {H H' : Hp} {b : Addr} {x : RP} {g : Nat} {ov : Bool} (s : LamX.ExtN H H') (h : BoxJ S H b x g ov) : BoxJ S H' b x g ov := by
  obtain ⟨r, u, vs, a, b, c, d, e⟩ := h.ex
  exact ⟨r, u, vs, s _ _ a (by intro ps z; cases z), s _ _ b (by intro ps z; cases z), s _ _ c (by intro ps z; cases z), d.mono (fun p xs e => s _ _ e (by intro ps z; cases z)), e⟩
theorem RdAt.offq {T : TxRd K mg} {H H' : Hp} {lv dx lo m sq : Addr} {sz : Nat} {t : Str} {rr : List (Nat × Bool)} {acc : List V} (hq : H sq = some (.lst acc)) (ob : ∀ b o, b ≠ sq → H b = some o → H' b = some o) (h : RdAt T H lv dx lo m sz t rr) : RdAt T H' lv dx lo m sz t rr := by
  have f : ∀ (p : Addr) (xs : List V), H p = some (.tup xs) → H' p = some (.tup xs) := fun p xs e => ob _ _ (ne_of e hq (by intro z; cases z)) e
  have fi : ∀ {p C dx : Addr} {fs : List (Str × V)}, H p = some (.ins C dx fs) → H' p = some (.ins C dx fs) := fun e => ob _ _ (ne_of e hq (by intro z; cases z)) e
  obtain ⟨dx1, pr, pe, po, pq, e1, e2, e3, e4, e5⟩ := h.lo
  exact ⟨fi h.at_, ⟨dx1, pr, pe, po, pq, fi e1, f _ _ e2, f _ _ e3, e4.mono f, e5.mono f⟩, h.mo.mono f fun p dm b g hh k ov e => fi e⟩
theorem rps_app {H : Hp} : ∀ {xs ys : List V} {rs ss : List (Nat × Bool)}, Rps H xs rs → Rps H ys ss → Rps H (xs ++ ys) (rs ++ ss)
  | _, _, _, _, .nil, b => b
  | _, _, _, _, .cons a t, b => .cons a (rps_app t b)
theorem rps_take {H : Hp} : ∀ {xs : List V} {rs : List (Nat × Bool)} (k : Nat), Rps H xs rs → Rps H (xs.take k) (rs.take k)
  | _, _, 0, _ => .nil
  | _, _, _ + 1, .nil => .nil
  | _, _, k + 1, .cons a t => .cons a (rps_take k t)
end
/-- all stays but tables; of these, those in S, and not P -/
structure KpS (S : List Addr) (P : Addr) (H H' : Hp) : Prop where
  kp : ∀ b o, H b = some o → b ≠ P → (b ∈ S ∨ ∀ ps, o ≠ .tbl ps) → H' b = some o
  no : ∀ b, H' b = none → H b = none
theorem KpS.trans {S : List Addr} {P : Addr} {H H1 H2 : Hp} (a : KpS S P H H1) (b : KpS S P H1 H2) : KpS S P H H2 := ⟨fun c o e n t => b.kp c o (a.kp c o e n t) n t, fun c e => a.no c (b.no c e)⟩
theorem KpS.of {S : List Addr} {P : Addr} {H H' : Hp} (s : Same H H') : KpS S P H H' := ⟨fun b o e _ _ => s b o e, fun b e => by
  cases q : H b with
  | none => rfl
  | some o => rw [s _ _ q] at e; cases e⟩
theorem ext_no {P : Addr} {H H' : Hp} {o : HO} (s : ExtP P H H') (h : H' P = some o) : ∀ b, H' b = none → H b = none := fun b e => by
  cases q : H b with
  | none => rfl
  | some u =>
    by_cases z : b = P
    · rw [z, h] at e; cases e
    · rw [s _ _ z q] at e; cases e
theorem KpS.ofP {S : List Addr} {P : Addr} {H H' : Hp} {o : HO} (s : ExtP P H H') (h : H' P = some o) : KpS S P H H' := ⟨fun b o e n _ => s b o n e, ext_no s h⟩
theorem KpS.ofI {S : List Addr} {P P' : Addr} {q : Str} {H H' : Hp} (hT : LamX.TabS H P' q) (hT' : LamX.TabS H' P' q) (n : P' ∉ S) (s : ExtP P' H H') : KpS S P H H' := ⟨fun b o e _ t => s b o (fun z => by
  obtain ⟨ps, h, _⟩ := hT
  rcases t with t | t
  · exact n (z ▸ t)
  · rw [z, h] at e
    exact t ps (Option.some.inj e).symm) e, by
  obtain ⟨ps, h, _⟩ := hT'
  exact ext_no s h⟩
theorem KpS.has {S : List Addr} {P : Addr} {H H' : Hp} (k : KpS S P H H') (hS : ∀ p ∈ S, H p ≠ none) : ∀ p ∈ S, H' p ≠ none := fun p hp z => hS p hp (k.no p z)
/-- an inner table grows -/
theorem TabT.inner {S : List Addr} {H H' : Hp} {P P' : Addr} {q q' : Str} (t : TabT S H P q q') (hn : P' ≠ P) (hT : LamX.TabS H P' q') (e : ExtP P' H H') (hT' : LamX.TabS H' P' q') : TabT S H' P q q' := by
  obtain ⟨ps, h1, h2, h3⟩ := t
  obtain ⟨ps1, g1, _⟩ := id hT
  refine ⟨ps, e _ _ hn.symm h1, h2, fun pos cv hc => ?_⟩
  obtain ⟨c, P2, e1, e2, e3, e4⟩ := h3 pos cv hc
  refine ⟨c, P2, e1, e _ _ (ne_of e2 g1 (codeT_ne _)) e2, ?_, e4⟩
  by_cases z : P2 = P'
  · rw [z]
    exact hT'
  · obtain ⟨ps2, f1, f2, f3⟩ := e3
    refine ⟨ps2, e _ _ z f1, f2, fun p2 cv2 hcv2 => ?_⟩
    obtain ⟨c3, k1, k2⟩ := f3 p2 cv2 hcv2
    exact ⟨c3, k1, e _ _ (ne_of k2 g1 (LamX.codeO_ne _)) k2⟩
theorem no_free {X : Cx} {scope : Scope} (h : (scope.names.all fun y => !decide (y.2 = NameKind.free)) = true) : X.Ok → ∀ y ∈ scope.names, y.2 = .free → ∃ c, X.env.cells.lookup y.1 = some c := fun _ y hy e => by
  have := List.all_eq_true.mp h y hy
  rw [e] at this
  cases this
/-- tables, code objects and functions stay -/
def Kt (H H' : Hp) : Prop := ∀ b o, H b = some o → ((∃ ps, o = .tbl ps) ∨ ∃ g, o = .ext g) → H' b = some o
theorem tabS_kt {H H' : Hp} {P : Addr} {q : Str} (o : Kt H H') (h : LamX.TabS H P q) : LamX.TabS H' P q := by
  obtain ⟨ps, a1, a2, a3⟩ := h
  refine ⟨ps, o _ _ a1 (.inl ⟨_, rfl⟩), a2, fun pos cv hc => ?_⟩
  obtain ⟨c, e, h⟩ := a3 pos cv hc
  exact ⟨c, e, o _ _ h (.inr ⟨_, rfl⟩)⟩
theorem tabT_kt {S : List Addr} {H H' : Hp} {P : Addr} {q q' : Str} (o : Kt H H') (h : TabT S H P q q') : TabT S H' P q q' := by
  obtain ⟨ps, a1, a2, a3⟩ := h
  refine ⟨ps, o _ _ a1 (.inl ⟨_, rfl⟩), a2, fun pos cv hc => ?_⟩
  obtain ⟨c, P', e1, e2, e3, e4⟩ := a3 pos cv hc
  exact ⟨c, P', e1, o _ _ e2 (.inr ⟨_, rfl⟩), tabS_kt o e3, e4⟩
theorem kt_same {H H' : Hp} (s : Same H H') : Kt H H' := fun b o e _ => s b o e
theorem kt_off {j : Addr} {H H' : Hp} {u : HO} (hj : H j = some u) (n1 : ∀ ps, u ≠ .tbl ps) (n2 : ∀ g, u ≠ .ext g) (o : Off j H H') : Kt H H' := fun b v e k => o b v (fun z => by
  rw [z, hj] at e
  rcases k with ⟨ps, rfl⟩ | ⟨g, rfl⟩
  · exact n1 ps (Option.some.inj e)
  · exact n2 g (Option.some.inj e)) e
theorem tabS_extP {P P' : Addr} {q : Str} {H H' : Hp} (hP : ∃ ps, H P' = some (.tbl ps)) (n : P ≠ P') (e : ExtP P' H H') (t : LamX.TabS H P q) : LamX.TabS H' P q := by
  obtain ⟨ps', hP⟩ := hP
  obtain ⟨ps, a1, a2, a3⟩ := t
  refine ⟨ps, e _ _ n a1, a2, fun pos cv hc => ?_⟩
  obtain ⟨c, z, h⟩ := a3 pos cv hc
  exact ⟨c, z, e _ _ (ne_of h hP (LamX.codeO_ne _)) h⟩
theorem tabT_extP {S : List Addr} {P P' : Addr} {q q' : Str} {H H' : Hp} (hP : ∃ ps, H P' = some (.tbl ps)) (n : P ≠ P') (hm : P' ∈ S) (e : ExtP P' H H') (t : TabT S H P q q') : TabT S H' P q q' := by
  obtain ⟨ps, a1, a2, a3⟩ := t
  refine ⟨ps, e _ _ n a1, a2, fun pos cv hc => ?_⟩
  obtain ⟨c, P2, e1, e2, e3, e4, e5⟩ := a3 pos cv hc
  obtain ⟨ps', hP⟩ := id hP
  exact ⟨c, P2, e1, e _ _ (ne_of e2 hP (codeT_ne _)) e2, tabS_extP ⟨_, hP⟩ (fun z => e5 (z ▸ hm)) e e3, e4, e5⟩
theorem tabS_tbl {P : Addr} {q : Str} {H : Hp} (t : LamX.TabS H P q) : ∃ ps, H P = some (.tbl ps) := let ⟨ps, h, _⟩ := t; ⟨ps, h⟩
/-- all but a few places stays, tables aside -/
def KN (N : List Addr) (H H' : Hp) : Prop := ∀ b o, b ∉ N → (∀ ps, o ≠ .tbl ps) → H b = some o → H' b = some o
theorem KN.trans {N : List Addr} {H H1 H2 : Hp} (a : KN N H H1) (b : KN N H1 H2) : KN N H H2 := fun c o n t e => b c o n t (a c o n t e)
theorem KN.sub {N M : List Addr} {H H1 : Hp} (h : ∀ b ∈ N, b ∈ M) (a : KN N H H1) : KN M H H1 := fun c o n t e => a c o (fun z => n (h c z)) t e
theorem KN.same {N : List Addr} {H H1 : Hp} (s : Same H H1) : KN N H H1 := fun c o _ _ e => s c o e
theorem KN.off {N : List Addr} {j : Addr} {H H1 : Hp} (hj : j ∈ N) (s : Off j H H1) : KN N H H1 := fun c o n _ e => s c o (fun z => n (z ▸ hj)) e
theorem KN.extP {N : List Addr} {P : Addr} {H H1 : Hp} (hP : ∃ ps, H P = some (.tbl ps)) (s : ExtP P H H1) : KN N H H1 := fun c o _ t e => s c o (fun z => by
  obtain ⟨ps, h⟩ := hP
  rw [z, h] at e
  exact t ps (Option.some.inj e).symm) e
/-- the places are the jar, instances, or new -/
def GN (H : Hp) (j : Addr) (N : List Addr) : Prop := ∀ b ∈ N, b = j ∨ (∃ C dx fs, H b = some (.ins C dx fs)) ∨ ∀ o, H b = some o → ∃ ps, o = .tbl ps
section
variable {H H' : Hp} {j : Addr} {N : List Addr}
theorem kn_tup (J : Jar H j) (G : GN H j N) (k : KN N H H') : ∀ (p : Addr) (xs : List V), H p = some (.tup xs) → H' p = some (.tup xs) := fun p xs e => k _ _ (fun z => by
  obtain ⟨x, y, u, hj⟩ := J
  rcases G p z with rfl | ⟨C, dx, fs, h⟩ | h
  · rw [hj] at e; cases e
  · rw [h] at e; cases e
  · obtain ⟨ps, z⟩ := h _ e; cases z) (by intro ps z; cases z) e
theorem kn_lst (G : GN H j N) (k : KN N H H') {p : Addr} {xs : List V} (n : p ≠ j) (e : H p = some (.lst xs)) : H' p = some (.lst xs) := k _ _ (fun z => by
  rcases G p z with rfl | ⟨C, dx, fs, h⟩ | h
  · exact n rfl
  · rw [h] at e; cases e
  · obtain ⟨ps, z⟩ := h _ e; cases z) (by intro ps z; cases z) e
theorem kn_box (J : Jar H j) (G : GN H j N) (k : KN N H H') {b : Addr} {x : RP} {g : Nat} {ov : Bool} (h : BoxJ [j] H b x g ov) : BoxAt H' b x g ov := by
  obtain ⟨r, u, vs, e1, e2, e3, d, n1, n2⟩ := h.ex
  obtain ⟨x1, y1, z1, hj⟩ := id J
  refine ⟨r, u, vs, k _ _ (fun z => ?_) (by intro ps z; cases z) e1, kn_lst G k (fun z => n1 (by rw [z]; simp)) e2, kn_lst G k (fun z => n2 (by rw [z]; simp)) e3, d.mono (kn_tup J G k)⟩
  rcases G b z with rfl | ⟨C, dx, fs, h⟩ | h
  · rw [hj] at e1; cases e1
  · rw [h] at e1; cases e1
  · obtain ⟨ps, z⟩ := h _ e1; cases z
end
/-- a busy reading where all but tables and lists stays -/
theorem RdAtB.nt {K : PySem.W.Frag} {mg : Str → Option Value} {T : TxRd K mg} {H H' : Hp} {lv dx lo m : Addr} {sz : Nat} {t : Str} {rr : List (Nat × Bool)} (f : ∀ b o, (∀ ps, o ≠ .tbl ps) → (∀ xs, o ≠ .lst xs) → H b = some o → H' b = some o) (h : RdAtB T H lv dx lo m sz t rr) : RdAtB T H' lv dx lo m sz t rr := by
  have ft : ∀ (p : Addr) (xs : List V), H p = some (.tup xs) → H' p = some (.tup xs) := fun p xs e => f _ _ (by intro ps z; cases z) (by intro ps z; cases z) e
  have fi : ∀ {p C dx : Addr} {fs : List (Str × V)}, H p = some (.ins C dx fs) → H' p = some (.ins C dx fs) := fun e => f _ _ (by intro ps z; cases z) (by intro ps z; cases z) e
  obtain ⟨dx1, pr, pe, po, pq, e1, e2, e3, e4, e5⟩ := h.lo
  exact ⟨fi h.at_, ⟨dx1, pr, pe, po, pq, fi e1, ft _ _ e2, ft _ _ e3, e4.mono ft, e5.mono ft⟩, h.mo.mono ft fun p dm b g hh k ov e => fi e⟩
end My

/-! loops that never stop while nothing is told; the tables; the watch -/
namespace My
open PySem L2 Cm LM EM StX IsX FvL NdefX FvT TL
theorem joinL_mem (S : List Nat) : ∀ {ws : List (List Nat)} {w : List Nat}, w ∈ ws → ∃ p q, joinL S ws = p ++ (w ++ q)
  | [a], w, h => by
    rw [List.mem_singleton.mp h]
    exact ⟨[], [], by simp [joinL]⟩
  | a :: b :: r, w, h => by
    rcases List.mem_cons.mp h with rfl | h
    · exact ⟨[], S ++ joinL S (b :: r), by simp [joinL]⟩
    · obtain ⟨p, q, e⟩ := joinL_mem S h
      exact ⟨a ++ (S ++ p), q, by simp [joinL, e]⟩
theorem order_tl {w : Str} (h : (orderOf w).2 = "stop") : ∃ p, tl w = p ++ tl ("stop" : Str) := by
  unfold orderOf at h
  cases hc : ((Txt.partition w ":").2.1.length != 0) with
  | true =>
    rw [if_pos hc] at h
    have h : (Txt.partition w ":").2.2 = "stop" := h
    have e := part_back hc
    exact ⟨tl ((Txt.partition w ":").1 ++ (":" : Str)), by rw [← h, ← tl_append, ← e]⟩
  | false =>
    rw [if_neg (by rw [hc]; exact Bool.false_ne_true)] at h
    have h : w = "stop" := h
    exact ⟨[], by rw [h]; rfl⟩
/-- a text in which "stop" is not found has no such order -/
theorem no_stop {B : List Str} (h : (!(Builtin.Str.occurrences (Txt.join " " B) "stop" 0 (Txt.join " " B).length 1).isEmpty) = false) : ∀ p ∈ ords B, p.2 ≠ "stop" := fun p hp e => by
  obtain ⟨w, hw, rfl⟩ := List.mem_map.mp (show p ∈ B.map orderOf from hp)
  obtain ⟨a, ea⟩ := order_tl e
  obtain ⟨b, c, eb⟩ := joinL_mem [32] (List.mem_map_of_mem (f := tl) hw)
  have ej : tl (Txt.join " " B) = (b ++ a) ++ (tl ("stop" : Str) ++ c) := by rw [tl_joinSp, eb, ea]; simp
  refine absurd ((StrLaws.found_iff (Txt.join " " B) "stop").mpr ⟨(b ++ a).length, ?_, ?_⟩) (by rw [h]; decide)
  · have l := congrArg List.length ej
    rw [← len_tl, List.length_append, List.length_append, List.length_append, ← len_tl] at l
    rw [List.length_append]
    omega
  · rw [StrLaws.subAt_eq]
    show (((tl (Txt.join " " B)).drop (b ++ a).length).take ("stop" : Str).length == tl ("stop" : Str)) = true
    rw [ej, List.drop_left, len_tl, List.take_left]
    exact beq_self_eq_true _
/-- the loop never stops while nothing is told -/
def NoSt (sz : Nat) (t : Str) : Prop := ∀ rr : List (Nat × Bool), (∀ r ∈ rr, r.1 ≤ sz ∧ r.2 = false) → (stR sz (ordsR t) (ordsE t) rr).st = false
theorem runW_no {sz : Nat} {held : List Int} {told : Bool} : ∀ {ro : List (Str × Str)} {x : RP}, (∀ p ∈ ro, p.2 ≠ "stop") → (runW sz held told ro x).2 = false
  | [], _, _ => rfl
  | (t, s) :: r, x, h => by
    have hs : s ≠ "stop" := h _ List.mem_cons_self
    have hr := fun p hp => h p (List.mem_cons_of_mem _ hp)
    rw [runW]
    by_cases c : passM sz held told t x.rest = true
    · rw [if_pos c]
      by_cases c2 : s = "again"
      · rw [if_pos c2]
      · rw [if_neg c2, if_neg hs]
        exact runW_no hr
    · rw [if_neg c]
      exact runW_no hr
theorem noSt_no {sz : Nat} {t : Str} (h : ∀ p ∈ ordsR t, p.2 ≠ "stop") : NoSt sz t := by
  intro rr
  induction rr with
  | nil => exact fun _ => rfl
  | cons r rr ih =>
    intro hr
    rw [st_cons (ih fun q hq => hr q (List.mem_cons_of_mem _ hq))]
    show (ansM _ _ _ _ _ _).2 = false
    unfold ansM
    rw [runW_no h]
    rfl
abbrev t0 : Str := "ask add cut told:stop | rest:flush"
def B0 : List Str := ["ask", "add", "cut", "told:stop"]
def E0 : List Str := ["rest:flush"]
theorem t0_text : textOf B0 E0 = t0 := by decide +kernel
theorem t0_good : goodText t0 = true := by decide +kernel
theorem B0_round : isRound B0 = true := by decide +kernel
theorem E0_end : isEnding E0 = true := by decide +kernel
theorem t0_r : ordsR t0 = [(("" : Str), ("ask" : Str)), (("" : Str), ("add" : Str)), (("" : Str), ("cut" : Str)), (("told" : Str), ("stop" : Str))] := by decide +kernel
theorem run_t0 (sz : Nat) (held : List Int) (x : RP) : (runW sz held false [(("" : Str), ("ask" : Str)), (("" : Str), ("add" : Str)), (("" : Str), ("cut" : Str)), (("told" : Str), ("stop" : Str))] x).2 = false := by
  have d : ∀ rest, passM sz held false "" rest = true := fun rest => by unfold passM; rw [if_pos rfl]
  have d2 : ∀ rest, passM sz held false "told" rest = false := fun rest => by
    unfold passM
    rw [if_neg (by decide), if_pos (.inl rfl)]
    decide
  rw [runW, if_pos (d _), if_neg (by decide), if_neg (by decide), runW, if_pos (d _), if_neg (by decide), if_neg (by decide), runW, if_pos (d _), if_neg (by decide), if_neg (by decide), runW, if_neg (by rw [d2]; decide), runW]
theorem noSt (sz : Nat) : NoSt sz t0 := by
  intro rr
  induction rr with
  | nil => exact fun _ => rfl
  | cons r rr ih =>
    intro h
    have h0 := ih fun q hq => h q (List.mem_cons_of_mem _ hq)
    have hr := (h r List.mem_cons_self).2
    rw [st_cons h0, hr]
    have e := run_t0 sz (itemsF (stR sz (ordsR t0) (ordsE t0) rr).f r.1) (stR sz (ordsR t0) (ordsE t0) rr).x
    rw [← t0_r] at e
    show (ansM _ _ _ _ _ _).2 = false
    unfold ansM
    rw [e]
    rfl
end My

/-! lambdas with tables; the watch -/
namespace My
open PySem L2 Cm LM EM StX IsX FvL NdefX FvT
/-- deeds of n items each, nothing told -/
def fsV (ns : List Nat) : List (V × V) := ns.map fun n => (V.int (n : Nat), V.bl false)
def revF : List Nat → List (Nat × Bool) → List (Nat × Bool)
  | [], rr => rr
  | n :: ns, rr => revF ns ((n, false) :: rr)
def E1of {K : PySem.W.Frag} {mg : Str → Option Value} (T : TxFa K mg) (lv dx lo m : Addr) (sz : Nat) (E : XK) : XK := fun cls d H2 => ∃ m1, H2 lv = some (.ins T.E.R.CR dx (rf lo sz true m1)) ∧ E cls d (upd H2 lv (.ins T.E.R.CR dx (rf lo sz false m)))
section
variable {P : Program} {w : World} {K : PySem.W.Frag} {mg : Str → Option Value} {base : Heap}
theorem rr_cons {sz n : Nat} {rr : List (Nat × Bool)} (hn : n ≤ sz) (h : ∀ r ∈ rr, r.1 ≤ sz ∧ r.2 = false) : ∀ r ∈ (n, false) :: rr, r.1 ≤ sz ∧ r.2 = false := fun r hr => by
  rcases List.mem_cons.mp hr with rfl | hr
  · exact ⟨hn, rfl⟩
  · exact h r hr
theorem fa_runN {T : TxFa K mg} {lv dx lo : Addr} {sz : Nat} {t : Str} {W : Nat → Hp → (Hp → Prop) → Prop} {done : Hp → Addr → List (Nat × Bool) → Prop} {E1 : XK} (Z : Nat → List (Nat × Bool) → Hp → Prop) (L : Nat) (gt : goodText t = true) (z1 : 1 ≤ sz) (z2 : sz ≤ 1000) (hst : NoSt sz t)
    (hs : ∀ {i rr H H1}, Same H H1 → Z i rr H → Z i rr H1) (ho : ∀ {i rr H H1 m}, RdAtB T.E.R H lv dx lo m sz t rr → Off lv H H1 → Z i rr H → Z i rr H1)
    (hW : ∀ {i n rr H m} {cont : Hp → Prop}, Z i rr H → RdAtB T.E.R H lv dx lo m sz t ((n, false) :: rr) → n ≤ sz → rr.length < 100 → i < L → (∀ H2, (∀ p xs, H p = some (.tup xs) → H2 p = some (.tup xs)) → RdAtB T.E.R H2 lv dx lo m sz t ((n, false) :: rr) → Z (i + 1) ((n, false) :: rr) H2 → cont H2) → W i H cont) :
    ∀ {ns : List Nat} {i : Nat} {rr : List (Nat × Bool)} {H : Hp} {m : Addr}, RdAtB T.E.R H lv dx lo m sz t rr → Z i rr H → (∀ r ∈ rr, r.1 ≤ sz ∧ r.2 = false) → OkR sz (ordsR t) (ordsE t) rr → (∀ n ∈ ns, n ≤ sz) → rr.length + ns.length ≤ 100 → i + ns.length ≤ L →
      (∀ H1 m1, RdAtB T.E.R H1 lv dx lo m1 sz t (revF ns rr) → Z (i + ns.length) (revF ns rr) H1 → done H1 m1 (revF ns rr)) → FaRun T lv dx lo sz t W done E1 (fsV ns) i rr H m
  | [], i, rr, H, m, hR, hZ, hc, ok, hn, hl, hL, kG => fun H1 s1 => kG H1 m (hR.same s1) (hs s1 hZ)
  | n :: ns, i, rr, H, m, hR, hZ, hc, ok, hn, hl, hL, kG => fun H1 s1 => by
    rw [List.length_cons] at hl hL
    have n1 := hn n List.mem_cons_self
    refine .inr ⟨n, false, rfl, rfl, gt, z1, z2, n1, by omega, ok, fun r hr => (hc r hr).1, hst rr hc, fun H' m' o' hR' => ?_⟩
    refine hW (ho (hR.same s1) o' (hs s1 hZ)) hR' n1 (by omega) (by omega) fun H2 f2 hR2 hZ2 => ⟨f2, hR2, ?_⟩
    refine fa_runN Z L gt z1 z2 hst hs ho hW hR2 hZ2 (rr_cons n1 hc) ⟨hst rr hc, ok⟩ (fun q hq => hn q (List.mem_cons_of_mem _ hq)) (by rw [List.length_cons]; omega) (by omega) fun H3 m3 hR3 hZ3 => ?_
    exact kG H3 m3 hR3 (by rw [List.length_cons, show i + (ns.length + 1) = i + 1 + ns.length by omega]; exact hZ3)
theorem sp_faN {T : TxFa K mg} {WW : Addr → XK → Nat → Hp → (Hp → Prop) → Prop} {kv : V} {lv dx lo m p : Addr} {sz : Nat} {t : Str} {rr : List (Nat × Bool)} {ds : List V} {ns : List Nat} {H : Hp} {Q : VK} {E : XK} (Z : Nat → List (Nat × Bool) → Hp → Prop) (gt : goodText t = true) (z1 : 1 ≤ sz) (z2 : sz ≤ 1000) (hst : NoSt sz t)
    (hs : ∀ {i rr H H1}, Same H H1 → Z i rr H → Z i rr H1) (ho : ∀ {i rr H H1 m}, RdAtB T.E.R H lv dx lo m sz t rr → Off lv H H1 → Z i rr H → Z i rr H1)
    (hW : ∀ {i n rr H m1} {cont : Hp → Prop}, Z i rr H → RdAtB T.E.R H lv dx lo m1 sz t ((n, false) :: rr) → n ≤ sz → rr.length < 100 → i < ns.length → (∀ H2, (∀ p xs, H p = some (.tup xs) → H2 p = some (.tup xs)) → RdAtB T.E.R H2 lv dx lo m1 sz t ((n, false) :: rr) → Z (i + 1) ((n, false) :: rr) H2 → cont H2) → WW lv (E1of T lv dx lo m sz E) i H cont)
    (hR : RdAt T.E.R H lv dx lo m sz t rr) (hp : H p = some (.tup ds)) (hD : DsAt H ds (fsV ns)) (hc : ∀ r ∈ rr, r.1 ≤ sz ∧ r.2 = false) (ok : OkR sz (ordsR t) (ordsE t) rr) (hn : ∀ n ∈ ns, n ≤ sz) (hl : rr.length + ns.length ≤ 100)
    (z0 : ∀ H', Off lv H H' → Z 0 rr H') (kQ : ∀ H1 m1, RdAtB T.E.R H1 lv dx lo m1 sz t (revF ns rr) → Z ns.length (revF ns rr) H1 → Q .non (upd H1 lv (.ins T.E.R.CR dx (rf lo sz false m1)))) :
    spFA T WW kv kv [.ref lv, .ref p] H Q E := by
  have ld : ds.length = ns.length := by rw [hD.len]; unfold fsV; rw [List.length_map]
  refine ⟨rfl, lv, dx, lo, m, p, sz, t, rr, ds, rfl, hR, hp, by omega, .inr ⟨_, hD, fun H' o' at' => ⟨E1of T lv dx lo m sz E, fun _ _ _ h => h, ?_⟩⟩⟩
  have tups : ∀ (p : Addr) (xs : List V), H p = some (.tup xs) → H' p = some (.tup xs) := fun p xs e => o' _ _ (ne_of e hR.at_ (by intro z; cases z)) e
  exact fa_runN Z ns.length gt z1 z2 hst hs ho hW (busy_at hR tups o' at') (z0 H' o') hc ok hn hl (by omega) fun H1 m1 hR1 hZ1 => kQ H1 m1 hR1 (by rw [Nat.zero_add] at hZ1; exact hZ1)
theorem fnK_ex {α : Type} {CX : CXT} {k : Nat} {f : Addr} {kn : Str} {sp : α → V → Sp} (F : ∀ a, StK.FnK P w K mg base CX k f kn (sp a)) : StK.FnK P w K mg base CX k f kn (fun kv vs H Q E => ∃ a, sp a kv vs H Q E) :=
  fun A outer s H us vs ku kv Q E hr e0 r rk ⟨a, h⟩ => F a A outer s H us vs ku kv Q E hr e0 r rk h
def qIn : Str := qLam ++ ".<locals>." ++ "<lambda>"
theorem TabB.keeps {base base' : Heap} {mg : Str → Option Value} {c P : Addr} (t : LamX.TabB base mg c P) (st : ∀ b o, base.get? b = some o → base'.get? b = some o) : LamX.TabB base' mg c P := ⟨t.code.keeps st, t.bm.keeps st, t.gP⟩
theorem clo_nil (cells : List (Str × Addr)) : ∀ (names : List (Str × NameKind)) (acc : List (Str × Addr)), (names.all fun y => !(y.2 == NameKind.free)) = true → cloFrom cells names acc = acc
  | [], _, _ => rfl
  | (n, k) :: r, acc, h => by
    have h2 := Bool.and_eq_true_iff.mp (show ((!(k == NameKind.free)) && r.all fun y => !(y.2 == NameKind.free)) = true from h)
    rw [cloFrom, if_neg (by intro z; rw [z] at h2; exact absurd h2.1 (by decide))]
    exact clo_nil cells r acc h2.2
theorem cellsB_nil {base : Heap} : CellsB [] [] [] base := ⟨rfl, (fun y c e => nomatch e), (fun x y c e => nomatch e), (fun i y e => nomatch e)⟩
theorem cb_nil {cl : List (Str × Addr)} {base : Heap} (h : cl = []) : CellsB cl [] [] base := by
  rw [h]
  exact cellsB_nil
/-- a lambda moves the reading -/
theorem fv_l1 (T : TxRd K mg) (len : mg "len" = none) (mmin : mg "min" = none) (D : Df K mg "_law_moved" sMov ["_law_live", "_law_wide", "_law_steps"]) (X : Cx) (f c' P' : Addr) {ws : List (Option V)} (C : CellsB (cloFrom X.env.cells l1.2.2.names []) ["_law_wide", "_law_one"] ws base) :
    FvOk P w K mg base (L2.CX P w) 8 f (JLT f (mkL X l1.1 l1.2.2 c') l1.2.1 P') (spLm T ws) := by
  have GM : FnOk P w K mg base CX0 7 D.f D.fd ["_law_live", "_law_wide", "_law_steps"] (spMov T) := ok_mov T len mmin D
  refine fvT_of scL1 (fun pm ctv us hl => ?_) (fun ws vs H Q E h => ?_) (fun A outer s H vs ws Q E hr hf hw h => ?_) C
  · match us, hl with
    | [_], _ => rfl
  · obtain ⟨_, _, _, rfl, _⟩ := h
    rfl
  · obtain ⟨lv, sl, sz, rfl, rfl, k⟩ := h
    refine ⟨_, (pe_call GM hr rfl D.g D.k D.b .nil pass0 (pa_cons (pv 0) (pa_cons (pv 1) (pa_cons (pv 2) pa_nil)))), ?_⟩
    refine ⟨_, rfl, _, rfl, _, rfl, ?_⟩
    have key : spMov T [.ref lv, .int (sz : Nat), .ref sl] H Q C8.E0 := spMov_mono T (fun v H2 h => h) k
    exact key
theorem fv_l2 (T : TxRd K mg) (len : mg "len" = none) (mmin : mg "min" = none) (D : Df K mg "_law_moved" sMov ["_law_live", "_law_wide", "_law_steps"]) (X : Cx) (f c' P' : Addr) {ws : List (Option V)} (C : CellsB (cloFrom X.env.cells l2.2.2.names []) ["_law_wide", "_law_one"] ws base) :
    FvOk P w K mg base (L2.CX P w) 8 f (JLT f (mkL X l2.1 l2.2.2 c') l2.2.1 P') (spLm T ws) := by
  have GM : FnOk P w K mg base CX0 7 D.f D.fd ["_law_live", "_law_wide", "_law_steps"] (spMov T) := ok_mov T len mmin D
  refine fvT_of scL2 (fun pm ctv us hl => ?_) (fun ws vs H Q E h => ?_) (fun A outer s H vs ws Q E hr hf hw h => ?_) C
  · match us, hl with
    | [_], _ => rfl
  · obtain ⟨_, _, _, rfl, _⟩ := h
    rfl
  · obtain ⟨lv, sl, sz, rfl, rfl, k⟩ := h
    refine ⟨_, (pe_call GM hr rfl D.g D.k D.b .nil pass0 (pa_cons (pv 0) (pa_cons (pv 1) (pa_cons (pv 2) pa_nil)))), ?_⟩
    refine ⟨_, rfl, _, rfl, _, rfl, ?_⟩
    have key : spMov T [.ref lv, .int (sz : Nat), .ref sl] H Q C8.E0 := spMov_mono T (fun v H2 h => h) k
    exact key
/-! ### the watch -/
theorem spLn_mono (T : TxRd K mg) (ws : List (Option V)) : ∀ (vs : List V) (H : Hp) (Q Q1 : VK) (E1 : XK), (∀ v H2, Q v H2 → Q1 v H2) → spLn T ws vs H Q E1 → spLn T ws vs H Q1 E1 := fun vs H Q Q1 E1 f ⟨lv, dx, lo, m, dm, g, h, k, sz, bs, b, ov, gs, a1, a2, a3, a4, a5, q⟩ => ⟨lv, dx, lo, m, dm, g, h, k, sz, bs, b, ov, gs, a1, a2, a3, a4, a5, f _ _ q⟩
/-- what the watch does: it notes the number of replies -/
def spWt (T : TxTr K mg) (P' : Addr) (ws : List (Option V)) : Sp := fun vs H Q _ => ∃ (lv dx lo m dm g h k gt dt sq : Addr) (sz i : Nat) (b u : V) (ov : Bool) (gs acc : List V), ws = [some (.ref sq), some (.ref gt)] ∧ vs = [.ref lv, .int (i : Nat)] ∧ H lv = some (.ins T.A.E.R.CR dx (rf lo sz true m)) ∧ H m = some (.ins T.A.E.R.CM dm (mf b g h k ov)) ∧
  H g = some (.tup gs) ∧ gs.length ≤ 1000 ∧ H gt = some (.ins T.CT dt (tf lv u)) ∧ H sq = some (.lst acc) ∧ acc.length ≤ 900 ∧ LamX.TabS H P' qIn ∧
  ∀ H' : Hp, ExtP P' H H' → LamX.TabS H' P' qIn → Q .non (upd H' sq (.lst (acc ++ [.int (gs.length : Nat)])))
theorem spWt_mono (T : TxTr K mg) (P' : Addr) (ws : List (Option V)) : ∀ (vs : List V) (H : Hp) (Q Q1 : VK) (E1 : XK), (∀ v H2, Q v H2 → Q1 v H2) → spWt T P' ws vs H Q E1 → spWt T P' ws vs H Q1 E1 := fun vs H Q Q1 E1 f ⟨lv, dx, lo, m, dm, g, h, k, gt, dt, sq, sz, i, b, u, ov, gs, acc, a1, a2, a3, a4, a5, a6, a7, a8, a9, a10, q⟩ =>
  ⟨lv, dx, lo, m, dm, g, h, k, gt, dt, sq, sz, i, b, u, ov, gs, acc, a1, a2, a3, a4, a5, a6, a7, a8, a9, a10, fun H' e t => f _ _ (q H' e t)⟩
theorem wlFree : (wl.2.2.names.all fun y => !(y.2 == NameKind.free)) = true := by decide +kernel
theorem ok_wt65 (T : TxTr K mg) (len : mg "len" = none) {cR PR : Addr} (TB : LamX.TabB base mg cR PR) (X : Cx) (hq : X.env.qual = ("_law_right" : Str) ++ ".<locals>.") (f c' P' : Addr) {ws : List (Option V)} (C : CellsB (cloFrom X.env.cells wt.2.2.names []) ["_law_seen", "_law_gate"] ws base) :
    FvOk P w K mg base (L2.CX P w) 6 f (JLT f (mkL X wt.1 wt.2.2 c') wt.2.1 P') (spWt T P' ws) := by
  refine fvT_of scWt (fun pm ctv us hl => ?_) (fun ws vs H Q E h => ?_) (fun A outer s H vs ws Q E hr hf hw h => ?_) C
  · match us, hl with
    | [_, _], _ => rfl
  · obtain ⟨_, _, _, _, _, _, _, _, _, _, _, _, _, _, _, _, _, _, _, rfl, _⟩ := h
    rfl
  · obtain ⟨lv, dx, lo, m, dm, g, h, kk, gt, dt, sq, sz, i, b, u, ov, gs, acc, rfl, rfl, at_, hm, hg, hgl, hgt, hsq, hal, hTS, k⟩ := h
    have hr4 : Room 4 _ := hr.mono (by decide)
    have GW : FnOk P w K mg base CX0 4 T.wit.f T.wit.fd ["trial", "act"] (fun vs H1 Q1 E1 => ∃ fc : Addr × Addr, spWi T fc.1 (JL fc.1 (mkL (ncx (L2.CX P w) P w K mg base ["_law_inner_here", "_law_spot", "_law_seen", "_law_gate"] (mkL X wt.1 wt.2.2 c') f A outer s H E) wl.1 wl.2.2 fc.2) wl.2.1) (spLn T.A.E.R []) vs H1 Q1 E1) :=
      fn_exN fun fc => ok_wit (k := 3) T (by decide) (by decide) ((ok_ln65 T.A.E.R len _ fc.1 fc.2).fv (cb_nil (clo_nil _ _ _ wlFree))) (spLn_mono T.A.E.R [])
    refine ⟨_, (pe_bm PySem.F.plainAttrs_list PySem.F.slot_list_append PySem.F.type_list_append mt_append (pv 2) (pa_cons (pe_call GW hr4 rfl T.wit.g T.wit.k T.wit.b .nil pass0 (pa_cons (pv 3) (pa_cons (pe_lamD (q0 := qLam) (P := P') TB rfl rfl (no_free (by decide +kernel))) pa_nil))) pa_nil)), ?_⟩
    have eq1 : (mkL X wt.1 wt.2.2 c').qual = qLam := by
      show X.env.qual ++ "<lambda>" = _
      rw [hq]
      rfl
    have hc := hf.2
    rw [eq1] at hc
    have eq2 : (ncx (L2.CX P w) P w K mg base ["_law_inner_here", "_law_spot", "_law_seen", "_law_gate"] (mkL X wt.1 wt.2.2 c') f A outer s H E).env.qual ++ "<lambda>" = qIn := by
      show ((mkL X wt.1 wt.2.2 c').qual ++ ".<locals>.") ++ "<lambda>" = qIn
      rw [eq1]
      rfl
    obtain ⟨psI, hI, _⟩ := id hTS
    refine ⟨_, rfl, .inl ⟨rfl, _, SqL.of hsq⟩, _, rfl, hc, by rw [eq2]; exact hTS, fun f2 c2 H1 e1 T1 n2 hf2 hc2 => ?_⟩
    have st : ∀ {b : Addr} {o : HO}, H b = some o → (∀ ps, o ≠ .tbl ps) → H1 b = some o := fun e n => e1 _ _ (ne_of e hI (n _)) e
    have at1 := st at_ (by intro ps z; cases z)
    have gt1 := st hgt (by intro ps z; cases z)
    have nlg : lv ≠ gt := fun z => by
      rw [z, hgt] at at_
      exact tf_ne_rf (Option.some.inj at_).symm
    refine ⟨(f2, c2), gt, dt, lv, dx, lo, m, sz, true, u, rfl, gt1, at1, fun H2 y dy o2 ny hy ht2 => ?_⟩
    have at2 := o2 _ _ nlg at1
    have og : ∀ {b : Addr} {o : HO}, H1 b = some o → b ≠ gt → H2 b = some o := fun e n => o2 _ _ n e
    have ngt : ∀ {b : Addr} {o : HO}, H1 b = some o → o ≠ .ins T.CT dt (tf lv u) → b ≠ gt := fun e n => ne_of e gt1 n
    have hm1 := st hm (by intro ps z; cases z)
    have hg1 := st hg (by intro ps z; cases z)
    have nmt : ∀ {dm g h k : Addr} {b : V} {ov : Bool}, (HO.ins T.A.E.R.CM dm (mf b g h k ov)) ≠ .ins T.CT dt (tf lv u) := tf_ne_mf
    refine ⟨⟨og hf2 (ngt hf2 (by intro z; unfold LamO at z; cases z)), by
      rw [show ((mkL (ncx (L2.CX P w) P w K mg base ["_law_inner_here", "_law_spot", "_law_seen", "_law_gate"] (mkL X wt.1 wt.2.2 c') f A outer s H E) wl.1 wl.2.2 c2)).qual = _ from rfl]
      exact og hc2 (ngt hc2 (by intro z; unfold LamX.CodeO at z; cases z))⟩, lv, dx, lo, m, dm, g, h, kk, sz, true, b, ov, gs, rfl, at2, og hm1 (ngt hm1 nmt), og hg1 (ngt hg1 (by intro z; cases z)), hgl, ht2, hy, ⟨m, at2⟩, ?_⟩
    have back : ∀ b o, H1 b = some o → (upd (upd H2 lv (.ins T.A.E.R.CR dx (rf lo sz true m))) gt (.ins T.CT dt (tf lv u))) b = some o := fun b o e => by
      by_cases n : b = gt
      · rw [n, upd_same]
        rw [n, gt1] at e
        exact e
      · rw [upd_ne n]
        by_cases n2 : b = lv
        · rw [n2, upd_same]
          rw [n2, at1] at e
          exact e
        · rw [upd_ne n2]
          exact og e n
    have T1' : LamX.TabS H1 P' qIn := by rw [← eq2]; exact T1
    refine ⟨sq, _, _, rfl, rfl, back _ _ (st hsq (by intro ps z; cases z)), small1000 (by omega), k _ (fun b o n e => back _ _ (e1 b o n e)) (T1'.ext back)⟩
end
end My

/-! repr of loops -/
namespace My
open PySem L2 Cm LM
abbrev sLR : Stmt := inClass (top 37) 4
structure TxLr (K : PySem.W.Frag) (mg : Str → Option Value) where
  T : TxC K mg
  lr : Sm K T.C "__repr__" "Loop.__repr__" sLR ["self"]
section
variable {P : Program} {w : World} {K : PySem.W.Frag} {mg : Str → Option Value} {base : Heap}
def spLR (C : Addr) : Sp := fun vs H Q _ => ∃ (o : Addr) (t : Str), vs = [.ref o] ∧ LoopAt C H o t ∧ Bd t ∧ Q (.str (("Loop(" : Str) ++ t ++ ")")) H
theorem scLR : FnScope ["self"] ["self"] (defScope sLR) := ⟨rfl, rfl, rfl, by decide +kernel, rfl, by decide +kernel, by decide +kernel⟩
theorem empty_app (x : Str) : Str.empty ++ x = x := TL.ext_tl (by rw [TL.tl_append]; rfl)
theorem ok_lr (M : TxLr K mg) : FnOk P w K mg base CX0 1 M.lr.f M.lr.fd ["self"] (spLR M.T.C) := by
  refine M.lr.F.ok scLR (fun vs H Q E h => ?_) (fun cdv A outer s H vs Q E hr h => ?_)
  · obtain ⟨o, t, rfl, _⟩ := h
    rfl
  · obtain ⟨o, t, rfl, ⟨dx, pr, pe, po, pq, e, _⟩, bd, k⟩ := h
    refine ⟨_, pss_one (ps_ret (pe_joined (.cons pe_str (.cons (pe_fmt (pe_fld (pv 0) rfl)) (.cons pe_str .nil))))), ?_⟩
    have l0 : (Str.empty).length = 0 := rfl
    have l2 : ("Loop(" : Str).length = 5 := by decide +kernel
    have l3 : (")" : Str).length = 1 := by decide +kernel
    unfold Bd at bd
    refine ⟨_, rfl, szl (by rw [strLen_append]; omega), ?_⟩
    refine ⟨_, rfl, o, M.T.C, dx, _, _, rfl, e, M.T.cl, M.T.nT, lf_text .., .inl ⟨t, rfl, Nat.le_of_lt (szM (by omega)), t, rfl, Nat.le_of_lt (szM (by rw [strLen_append, strLen_append]; omega)), ?_⟩⟩
    refine ⟨_, rfl, Nat.le_of_lt (szM (by rw [strLen_append, strLen_append, strLen_append]; omega)), ?_⟩
    rw [empty_app]
    exact k
end
end My

/-! repr of a list in which instances with an own __repr__ stand -/
namespace RpL
open PySem PySem.Spec PyProof.Rows L2 Builtin Builtin.List
section
variable {M : Model} {prog : Program} {w : World} {A : Around} {E : Value → Shared → Prop} {s : Shared} {K : PySem.W.Frag} {x C f : Addr} {ox : Obj} {od : Option Obj} {name : Str}
theorem boundBy_K {last : Value → List Value → Sem Value} {Q : Option Value → Shared → Prop} (X : K.In s.heap) (I : PySem.W.InstAt s.heap x ox C od) (hs : PySem.W.findIn K (.ref C) name = some (some (.ref f))) (hf : PySem.W.isFn K (.ref f) = true)
    (h : wpAny M A (last (.ref f) [.ref x]) (fun v => Q (some v)) E s) : wpAny M A (callSpecialIfBoundBy? last (.ref x) name) Q E s := by
  simp only [callSpecialIfBoundBy?, bindSpecialIfBound?]
  refine wpAny_holding (wpAny_bind (wpAny_bind (wpAny_bind (I.type.here ((PySem.W.looks_findIn X hs).here ?_)))))
  refine wpAny_bind (wpAny_askSetting (wpAny_ite ?_))
  have fin : wpAny M A (last (.ref f) [.ref x] >>= fun v => pure (some v)) Q E s := wpAny_bind (wpAny_mono h (fun v s' h' => wpAny_pure h') fun _ _ h' => h')
  split
  · exact wpAny_bind ((PySem.W.bind_fn X _ (beq_iff_eq.mp hf)).here (wpAny_pure (by exact fin)))
  · exact wpAny_tryCatch (wpAny_bind ((PySem.W.bind_fn X _ (beq_iff_eq.mp hf)).here (wpAny_pure (by exact fin))))
end
/-- it shows as t wherever one asks below the running body, and only makes objects -/
def It (X : Cx) (n : Nat) (H : Hp) (v : V) (t : Str) : Prop :=
  ∀ (H1 : Hp), Same H H1 → ∀ (A : Around), Sub X n A → ∀ (pins : List (Addr × Obj)) (s : Shared) (σ : L2.St) (u : Value) (base : Nat) (Q : Str → Shared → Prop) (E : Value → Shared → Prop), Inv X pins σ H1 s → RelV v u → base + t.length ≤ sizeLine →
    (∀ (s' : Shared) (H2 : Hp), Same H1 H2 → Inv X pins σ H2 s' → Q t s') → wpAny (model X.prog X.w) A (pyReprUnder base u) Q E s
section
variable {X : Cx} {n : Nat} {H : Hp}
theorem it_is {v : V} {t : Str} (h : ∀ u, RelV v u → ReprIs X.prog X.w u t) : It X n H v t := fun H1 _ A _ pins s σ u base Q E I ru hb hQ =>
  h u ru base hb A E s Q fun tk => hQ _ H1 (Same.refl _) (I.tok tk)
theorem it_str {x : Str} (h : (reprText x).length ≤ sizeLine) : It X n H (.str x) (reprText x) := it_is fun u ru => by
  obtain ⟨t, rfl⟩ := ru
  exact ReprIs.str x t h
theorem it_int {i : Int} (h : i.natAbs.log2 < 1920) : It X n H (.int i) (toString i) := it_is fun u ru => by
  obtain ⟨t, rfl⟩ := ru
  exact ReprIs.int t h
theorem it_bl (b : Bool) : It X n H (.bl b) (if b then "True" else "False") := it_is fun u ru => by
  cases ru
  exact ReprIs.bool b
theorem it_non : It X n H .non "None" := it_is fun u ru => by
  cases ru
  exact ReprIs.none
/-- an instance with an own __repr__ -/
theorem it_own {C g o dx : Addr} {fs : List (Str × V)} {sp : Sp} {t : Str} (hs : PySem.W.findIn X.K (.ref C) "__repr__" = some (some (.ref g))) (hf : PySem.W.isFn X.K (.ref g) = true) (F : FnR X.prog X.w X.K X.mg X.base CX0 n g sp) (ho : H o = some (.ins C dx fs))
    (hsp : ∀ H1, Same H H1 → sp [.ref o] H1 (fun v H2 => v = .str t ∧ Same H1 H2) fun _ _ _ => False) : It X n H (.ref o) t := by
  intro H1 s1 A sb pins s σ u base Q E I ru hb hQ
  cases (show u = Value.ref o from ru)
  obtain ⟨ox, od, J⟩ := Own.inst_of I (s1 _ _ ho)
  have hu := sb.room.un
  refine wpAny_pyReprUnder_ref (by omega) ?_
  unfold pyReprObjUnder pyReprObjBy
  refine wpAny_bind (wpAny_cRoomFor (by omega) ?_)
  refine wpAny_bind (wpAny_bind (J.type.here ((PySem.W.looks_findIn I.kIn hs).here ?_)))
  show wpAny _ _ (if (some (Value.ref g)).isNone = true then _ else _) _ _ _
  rw [if_neg (by simp)]
  have e0 : Env0 X.prog X.w X.K X.mg X.base A X.stack s H1 := ⟨sb.fr.trans I.env0.frames, I.env0.mod, I.env0.bs, I.env0.bsz, I.env0.funs, I.env0.frf, I.env0.hok, I.env0.bare⟩
  refine wpAny_bind (m := callSpecialIfBoundBy? _ (.ref o) (Str.ofString "__repr__")) (boundBy_K I.kIn J hs hf ?_)
  show wpAny _ _ (call (.ref g) ([Value.ref o] ++ [])) _ _ _
  refine wpAny_call (codeAny_mono (F A X.stack s H1 [.ref o] [.ref o] _ _ sb.room e0 (.cons rfl .nil) (hsp H1 s1)) fun r s' hq => ?_)
  cases r with
  | error e => exact (show False from hq).elim
  | ok fl =>
    cases fl with
    | ret u =>
      obtain ⟨v, H2, I2, rv, ev, s2⟩ := I.after hq
      subst ev
      obtain ⟨tk, rfl⟩ := (show ∃ tk, u = Value.str t tk from rv)
      exact wpAny_bind (wpAny_isInstance (T := "str") (b := true) rfl isSubtype_str_str (wpAny_pure ⟨_, _, rfl, hQ s' H2 s2 I2⟩))
    | next => exact False.elim hq
    | brk => exact False.elim hq
    | cont => exact False.elim hq
end
section
variable {X : Cx} {n : Nat} {H : Hp}
theorem sub_under {A : Around} {args : Args} (sb : Sub X (n + 1) A) : Sub X n (A.under (.builtin "list.__repr__.loop" args)) := by
  have h1 := sb.room.hd
  have h2 := sb.room.dp
  have h3 := sb.room.un
  have e1 : (A.under (.builtin "list.__repr__.loop" args)).handled = A.handled := by first | rfl | simp [Around.under]
  have e2 : (A.under (.builtin "list.__repr__.loop" args)).depth = A.depth + 1 := by
    show A.depth + (Code.builtin "list.__repr__.loop" args).weight = _
    have : (Code.builtin "list.__repr__.loop" args).weight = 1 := by
      unfold Code.weight
      rw [isGuard_list_loop]
      rfl
    rw [this]
  have e3 : (A.under (.builtin "list.__repr__.loop" args)).frames = A.frames := by first | rfl | simp [Around.under, Code.frames, Code.isFrame]
  have e4 := units_under_list_loop A args
  exact ⟨⟨e1.trans h1, by rw [e2]; omega, by rw [e4]; omega⟩, e3.trans sb.fr⟩
theorem loop {A : Around} {R : Result → Shared → Prop} {a P : Addr} {vs : List V} {ts : List Str} {base : Nat} {pins : List (Addr × Obj)} {σ : L2.St} (sb : Sub X (n + 1) A) (hP0 : H P = none) (ha : H a = some (.lst vs)) (hlen : ts.length = vs.length) (hT : ∀ (i : Nat) (v : V), vs[i]? = some v → ∃ t, ts[i]? = some t ∧ It X n H v t) (hsz : base + (listText ts).length ≤ sizeLine)
    (hR : ∀ (s' : Shared) (H2 : Hp) (tk : Tok), Same H H2 → Inv X pins σ H2 s' → R (.ok (.ret (.str (listText ts) tk))) s') :
    ∀ (k i : Nat) (s : Shared) (H1 : Hp), vs.length - i = k → i ≤ vs.length → Same H H1 → Inv X pins σ H1 s → H1 P = some (.lst ((ts.take i).map V.str)) →
    codeAny (model X.prog X.w) A (.builtin "list.__repr__.loop" ⟨[.ref a, rawInt i, .ref P, rawInt ((base + piled (ts.take i) : Nat) : Int)], []⟩) R s := by
  have hX : (listText ts).length = (textFrom 0 "[" ts).length + 1 := by
    show (textFrom 0 "[" ts ++ "]").length = _
    rw [strLen_append]; rfl
  have hL := textFrom_len ts 0 "["
  have hsz2 : ∀ t ∈ ts, t.length ≤ sizeLine := fun t ht => by
    have h2 := hL.2.1 t ht
    omega
  have hsz3 : (listText ts).length ≤ sizeLine := by omega
  have hp3 := piled_le_listText ts
  have vals_str : ∀ (l : List Str) (its : List Value), Vals (l.map V.str) its → ∃ d : List (Str × Tok), its = strValues d ∧ d.map (·.1) = l := by
    intro l
    induction l with
    | nil =>
      intro its h
      cases h
      exact ⟨[], rfl, rfl⟩
    | cons x r ih =>
      intro its h
      cases h with
      | cons a t =>
        obtain ⟨tk, rfl⟩ := a
        obtain ⟨d, rfl, e⟩ := ih _ t
        exact ⟨(x, tk) :: d, rfl, by rw [List.map_cons, e]⟩
  intro k
  induction k with
  | zero =>
    intro i s H1 hk hi s1 I hP
    have hin : i = vs.length := by omega
    obtain ⟨z, its, na, rv, lv, ea⟩ := I.lstM (s1 _ _ ha)
    obtain ⟨zP, itsP, nP, rP, lP, eP⟩ := I.lstM hP
    refine codeAny_builtin F.entry_list_repr_loop ?_
    show wpAny _ _ («list.__repr__.loop» ⟨[.ref a, .int i 0, .ref P, .int ((base + piled (ts.take i) : Nat) : Int) 0], []⟩) _ _ s
    rw [repr_loop_tree]
    refine wpAny_bind (wpAny_listItems ea rfl ?_)
    have hnone : its.toArray[(i : Int).toNat]? = none := by simp; omega
    simp only [hnone]
    unfold reprEnd
    refine wpAny_bind (wpAny_listItems eP rfl ?_)
    obtain ⟨d, rfl, ed⟩ := vals_str _ _ rP
    have hall : d.map (·.1) = ts := by rw [ed, hin, ← hlen, List.take_length]
    rw [List.toList_toArray, repr_fold]
    refine wpAny_bind (wpAny_pure ?_)
    rw [hall]
    refine wpAny_bind (wpAny_mkStr (wpAny_pure ?_) hsz3)
    exact hR _ H1 _ s1 (I.tok _)
  | succ k ih =>
    intro i s H1 hk hi s1 I hP
    have hlt : i < vs.length := by omega
    obtain ⟨z, its, na, rv, lv, ea⟩ := I.lstM (s1 _ _ ha)
    obtain ⟨t, ht, hit⟩ := hT i vs[i] (List.getElem?_eq_getElem hlt)
    have hp1 := piled_take_succ ht
    have hp2 := piled_take_le ts (i + 1)
    have hil : i < its.length := by omega
    have ru : RelV vs[i] its[i] := by
      obtain ⟨u, e, r⟩ := rv.get (List.getElem?_eq_getElem hlt)
      rw [List.getElem?_eq_getElem hil] at e
      cases e
      exact r
    refine codeAny_builtin F.entry_list_repr_loop ?_
    show wpAny _ _ («list.__repr__.loop» ⟨[.ref a, .int i 0, .ref P, .int ((base + piled (ts.take i) : Nat) : Int) 0], []⟩) _ _ s
    rw [repr_loop_tree]
    refine wpAny_bind (wpAny_listItems ea rfl ?_)
    have hsome : its.toArray[(i : Int).toNat]? = some its[i] := by simp [hil]
    simp only [hsome]
    rw [Int.toNat_natCast]
    refine wpAny_bind (wpAny_holding (hit H1 s1 _ (sub_under sb) pins s σ _ (base + piled (ts.take i) + 1) _ _ I ru (by omega) fun s' H2 s2 I2 => ?_))
    refine wpAny_bind (wpAny_mkStr ?_ (hsz2 t (List.mem_of_getElem? ht)))
    refine wpAny_bind ?_
    show wpAny _ _ (updateSeq P _) _ _ _
    have hP2 := s2 _ _ hP
    have I3 := I2.tok (s'.toks + 1)
    obtain ⟨zP, itsP, nP, rP, lP, eP⟩ := I3.lstM hP2
    have hasz : itsP.toArray.size ≤ sizeLine := by
      rw [List.size_toArray, ← lP, List.length_map, List.length_take]
      omega
    refine wpAny_updateSeq eP rfl (wpAny_pure ⟨F.quiet_list_repr_loop _, ?_⟩) hasz
    have e1 : ((i : Int) + 1) = ((i + 1 : Nat) : Int) := by omega
    have e2 : base + piled (ts.take i) + (t.length + 2) = base + piled (ts.take (i + 1)) := by omega
    rw [e1, e2]
    have tk : ts.take (i + 1) = ts.take i ++ [t] := by rw [List.take_add_one, ht]; rfl
    refine ih (i + 1) _ (upd H2 P (.lst ((ts.take (i + 1)).map V.str))) (by omega) hlt (fun b o e => ?_) ?_ upd_same
    · rw [upd_ne (ne_of_none e hP0)]
      exact s2 _ _ (s1 _ _ e)
    · have := I3.lset (its' := itsP ++ [Value.str t s'.toks]) (f := fun x => x.push (Value.str t s'.toks)) (ys := (ts.take (i + 1)).map V.str) (t' := s'.toks + 1) hP2 eP (by simp) (by rw [tk, List.map_append]; exact rP.append (.cons ⟨_, rfl⟩ .nil)) (by rw [List.length_map, List.length_take]; omega)
      exact this
end
/-- repr of such a list -/
def rReprL (X : Cx) (n : Nat) : List V → Hp → VK → Prop := fun xs H Q => ∃ (a : Addr) (vs : List V) (ts : List Str), xs = [.ref a] ∧ H a = some (.lst vs) ∧ vs ≠ [] ∧ ts.length = vs.length ∧ (∀ (i : Nat) (v : V), vs[i]? = some v → ∃ t, ts[i]? = some t ∧ It X n H v t) ∧ (listText ts).length ≤ sizeLine ∧ ∀ H', Same H H' → Q (.str (listText ts)) H'
theorem call_reprL {X : Cx} {n : Nat} (hg : X.A.guards = some []) (sb : Sub X (n + 1) X.A.in1) : CallR X (.builtin "repr") (rReprL X n) := by
  intro pins s σ H xs us Q I r h
  obtain ⟨a, vs, ts, rfl, ha, hne, hlen, hT, hsz, q⟩ := h
  obtain ⟨u, rfl, ru⟩ := vals1 r
  cases (show u = Value.ref a from ru)
  obtain ⟨z, its, na, rv, lv, ea⟩ := I.lstM ha
  obtain ⟨x, l, rfl⟩ : ∃ x l, its = x :: l := by
    cases its with
    | nil => cases vs with
      | nil => exact absurd rfl hne
      | cons => simp at lv
    | cons x l => exact ⟨x, l, rfl⟩
  have hTy : s.TypeIs (.ref a) "list" := ⟨_, ea, rfl⟩
  refine call_repr_slot (by have := sb.room.un; have : X.A.in1.units = X.A.units + 1 := rfl; omega) hTy F.slot_list_repr.toG ?_
  refine wpAny_call (codeAny_call_builtin F.slot_list_repr.plain F.entry_list_repr (F.slot_list_repr.check _ _ _ _ _ _ _ _ hTy (F.args_list_repr_1 _) ?_))
  show wpAny _ _ (Builtin.listReprAt 0 ⟨[.ref a], []⟩) _ _ _
  refine wpAny_list_repr_head (g := []) hg (fun v rest kw hm => nomatch hm) ea rfl ?_
  refine wpAny_bind (m := newList []) (wpAny_newObj_type ?_)
  refine wpAny_pure ⟨F.quiet_list_repr_loop _, ?_⟩
  have hP0 := I.fresh
  refine loop (base := 0) (R := fun r s' => match r with | .ok (.ret v) => ∃ x t, v = Value.str x t ∧ EP X pins σ Q v s' | .ok _ => False | .error e => X.xe e s') (pins := pins) (σ := σ) sb hP0 ha hlen hT (by omega) (fun s' H2 tk s2 I2 => ⟨_, _, rfl, .str (listText ts), H2, I2, ⟨tk, rfl⟩, q H2 s2⟩) vs.length 0 _ (upd H s.heap.objs.size (.lst [])) (by omega) (by omega) (fun b o e => by rw [upd_ne (ne_of_none e hP0)]; exact e) ?_ upd_same
  exact I.lnew .nil (by simp)
end RpL

/-! repr of lists within lists, in which instances with an own __repr__ stand: D is the part of the heap in which the value lives -/
namespace RpL
open PySem PySem.Spec PyProof.Rows L2 Builtin Builtin.List
def ItN (X : Cx) (n : Nat) (D : Hp) (v : V) (t : Str) : Prop :=
  ∀ (H1 : Hp), Same D H1 → ∀ (A : Around) (g : List Code), Sub X n A → A.guards = some g → (∀ b, D b ≠ none → Clear g b) → ∀ (pins : List (Addr × Obj)) (s : Shared) (σ : L2.St) (u : Value) (base : Nat) (Q : Str → Shared → Prop) (E : Value → Shared → Prop), Inv X pins σ H1 s → RelV v u → base + t.length ≤ sizeLine →
    (∀ (s' : Shared) (H2 : Hp), Same H1 H2 → Inv X pins σ H2 s' → Q t s') → wpAny (model X.prog X.w) A (pyReprUnder base u) Q E s
section
variable {X : Cx} {n : Nat} {H D : Hp}
theorem itN_of {v : V} {t : Str} (h : It X n D v t) : ItN X n D v t := fun H1 s1 A g sb _ _ pins s σ u base Q E I ru hb hQ => h H1 s1 A sb pins s σ u base Q E I ru hb hQ
theorem ItN.same {v : V} {t : Str} {D' : Hp} (h : ItN X n D v t) (sD : Same D D') : ItN X n D' v t := fun H1 s1 A g sb hg hc pins s σ u base Q E I ru hb hQ => h H1 (fun b o e => s1 _ _ (sD _ _ e)) A g sb hg (fun b hb => hc b (fun z => by
  cases e : D b with
  | none => exact hb e
  | some o =>
    rw [sD _ _ e] at z
    cases z)) pins s σ u base Q E I ru hb hQ
theorem ItN.mono {v : V} {t : Str} {m : Nat} (h : ItN X n D v t) (hm : n ≤ m) : ItN X m D v t := fun H1 s1 A g sb hg hc => h H1 s1 A g (sb.mono hm) hg hc
/-- what the library shows, over known places -/
theorem itN_k {v : V} {t : Str} (h : ∀ (pins : List (Addr × Obj)) (σ : L2.St) (s : Shared) (H1 : Hp) (u : Value), Inv X pins σ H1 s → Same D H1 → RelV v u → ∃ (as : List Addr) (d : Nat), ReprK X.prog X.w as s.heap d u t ∧ d ≤ 100 ∧ ∀ b ∈ as, D b ≠ none) : ItN X n D v t := by
  intro H1 s1 A g sb hg hc pins s σ u base Q E I ru hb hQ
  obtain ⟨as, d, hk, hd, ha⟩ := h pins σ s H1 u I s1 ru
  have hu := sb.room.un
  exact hk base hb A g E s Q hg (fun b hb => hc b (ha b hb)) (by omega) (fun _ _ e => e) fun h' tk hkp => hQ _ H1 (Same.refl _) (I.kept (t' := tk) hkp)
theorem loopN {g : List Code} {D0 : Hp} {A : Around} {R : Result → Shared → Prop} {a P : Addr} {vs : List V} {ts : List Str} {base : Nat} {pins : List (Addr × Obj)} {σ : L2.St} (sb : Sub X (n + 1) A) (hg : A.guards = some g) (hcl : ∀ b, D0 b ≠ none → Clear g b) (nA : D0 a = none) (sD : Same D0 H) (hP0 : H P = none) (ha : H a = some (.lst vs)) (hlen : ts.length = vs.length) (hT : ∀ (i : Nat) (v : V), vs[i]? = some v → ∃ t, ts[i]? = some t ∧ ItN X n D0 v t) (hsz : base + (listText ts).length ≤ sizeLine)
    (hR : ∀ (s' : Shared) (H2 : Hp) (tk : Tok), Same H H2 → Inv X pins σ H2 s' → R (.ok (.ret (.str (listText ts) tk))) s') :
    ∀ (k i : Nat) (s : Shared) (H1 : Hp), vs.length - i = k → i ≤ vs.length → Same H H1 → Inv X pins σ H1 s → H1 P = some (.lst ((ts.take i).map V.str)) →
    codeAny (model X.prog X.w) A (.builtin "list.__repr__.loop" ⟨[.ref a, rawInt i, .ref P, rawInt ((base + piled (ts.take i) : Nat) : Int)], []⟩) R s := by
  have hX : (listText ts).length = (textFrom 0 "[" ts).length + 1 := by
    show (textFrom 0 "[" ts ++ "]").length = _
    rw [strLen_append]; rfl
  have hL := textFrom_len ts 0 "["
  have hsz2 : ∀ t ∈ ts, t.length ≤ sizeLine := fun t ht => by
    have h2 := hL.2.1 t ht
    omega
  have hsz3 : (listText ts).length ≤ sizeLine := by omega
  have hp3 := piled_le_listText ts
  have vals_str : ∀ (l : List Str) (its : List Value), Vals (l.map V.str) its → ∃ d : List (Str × Tok), its = strValues d ∧ d.map (·.1) = l := by
    intro l
    induction l with
    | nil =>
      intro its h
      cases h
      exact ⟨[], rfl, rfl⟩
    | cons x r ih =>
      intro its h
      cases h with
      | cons a t =>
        obtain ⟨tk, rfl⟩ := a
        obtain ⟨d, rfl, e⟩ := ih _ t
        exact ⟨(x, tk) :: d, rfl, by rw [List.map_cons, e]⟩
  intro k
  induction k with
  | zero =>
    intro i s H1 hk hi s1 I hP
    have hin : i = vs.length := by omega
    obtain ⟨z, its, na, rv, lv, ea⟩ := I.lstM (s1 _ _ ha)
    obtain ⟨zP, itsP, nP, rP, lP, eP⟩ := I.lstM hP
    refine codeAny_builtin F.entry_list_repr_loop ?_
    show wpAny _ _ («list.__repr__.loop» ⟨[.ref a, .int i 0, .ref P, .int ((base + piled (ts.take i) : Nat) : Int) 0], []⟩) _ _ s
    rw [repr_loop_tree]
    refine wpAny_bind (wpAny_listItems ea rfl ?_)
    have hnone : its.toArray[(i : Int).toNat]? = none := by simp; omega
    simp only [hnone]
    unfold reprEnd
    refine wpAny_bind (wpAny_listItems eP rfl ?_)
    obtain ⟨d, rfl, ed⟩ := vals_str _ _ rP
    have hall : d.map (·.1) = ts := by rw [ed, hin, ← hlen, List.take_length]
    rw [List.toList_toArray, repr_fold]
    refine wpAny_bind (wpAny_pure ?_)
    rw [hall]
    refine wpAny_bind (wpAny_mkStr (wpAny_pure ?_) hsz3)
    exact hR _ H1 _ s1 (I.tok _)
  | succ k ih =>
    intro i s H1 hk hi s1 I hP
    have hlt : i < vs.length := by omega
    obtain ⟨z, its, na, rv, lv, ea⟩ := I.lstM (s1 _ _ ha)
    obtain ⟨t, ht, hit⟩ := hT i vs[i] (List.getElem?_eq_getElem hlt)
    have hp1 := piled_take_succ ht
    have hp2 := piled_take_le ts (i + 1)
    have hil : i < its.length := by omega
    have ru : RelV vs[i] its[i] := by
      obtain ⟨u, e, r⟩ := rv.get (List.getElem?_eq_getElem hlt)
      rw [List.getElem?_eq_getElem hil] at e
      cases e
      exact r
    refine codeAny_builtin F.entry_list_repr_loop ?_
    show wpAny _ _ («list.__repr__.loop» ⟨[.ref a, .int i 0, .ref P, .int ((base + piled (ts.take i) : Nat) : Int) 0], []⟩) _ _ s
    rw [repr_loop_tree]
    refine wpAny_bind (wpAny_listItems ea rfl ?_)
    have hsome : its.toArray[(i : Int).toNat]? = some its[i] := by simp [hil]
    simp only [hsome]
    rw [Int.toNat_natCast]
    refine wpAny_bind (wpAny_holding (hit H1 (Same.trans sD s1) _ _ (sub_under sb) (guards_under_guard (isGuard_list_loop _) hg) (fun b hb => (hcl b hb).cons (a := a) fun e => hb (by rw [← e]; exact nA)) pins s σ _ (base + piled (ts.take i) + 1) _ _ I ru (by omega) fun s' H2 s2 I2 => ?_))
    refine wpAny_bind (wpAny_mkStr ?_ (hsz2 t (List.mem_of_getElem? ht)))
    refine wpAny_bind ?_
    show wpAny _ _ (updateSeq P _) _ _ _
    have hP2 := s2 _ _ hP
    have I3 := I2.tok (s'.toks + 1)
    obtain ⟨zP, itsP, nP, rP, lP, eP⟩ := I3.lstM hP2
    have hasz : itsP.toArray.size ≤ sizeLine := by
      rw [List.size_toArray, ← lP, List.length_map, List.length_take]
      omega
    refine wpAny_updateSeq eP rfl (wpAny_pure ⟨F.quiet_list_repr_loop _, ?_⟩) hasz
    have e1 : ((i : Int) + 1) = ((i + 1 : Nat) : Int) := by omega
    have e2 : base + piled (ts.take i) + (t.length + 2) = base + piled (ts.take (i + 1)) := by omega
    rw [e1, e2]
    have tk : ts.take (i + 1) = ts.take i ++ [t] := by rw [List.take_add_one, ht]; rfl
    refine ih (i + 1) _ (upd H2 P (.lst ((ts.take (i + 1)).map V.str))) (by omega) hlt (fun b o e => ?_) ?_ upd_same
    · rw [upd_ne (ne_of_none e hP0)]
      exact s2 _ _ (s1 _ _ e)
    · have := I3.lset (its' := itsP ++ [Value.str t s'.toks]) (f := fun x => x.push (Value.str t s'.toks)) (ys := (ts.take (i + 1)).map V.str) (t' := s'.toks + 1) hP2 eP (by simp) (by rw [tk, List.map_append]; exact rP.append (.cons ⟨_, rfl⟩ .nil)) (by rw [List.length_map, List.length_take]; omega)
      exact this

/-- a list of such values, at a place in which they don't live -/
theorem itN_list {a : Addr} {vs : List V} {ts : List Str} (na : D a = none) (sD : Same D H) (ha : H a = some (.lst vs)) (hne : vs ≠ []) (hlen : ts.length = vs.length) (hT : ∀ (i : Nat) (v : V), vs[i]? = some v → ∃ t, ts[i]? = some t ∧ ItN X n D v t) : ItN X (n + 1) H (.ref a) (listText ts) := by
  intro H1 s1 A g sb hg hc pins s σ u base Q E I ru hb hQ
  cases (show u = Value.ref a from ru)
  have ha1 := s1 _ _ ha
  obtain ⟨z, its, nn, rv, lv, ea⟩ := I.lstM ha1
  obtain ⟨x, l, rfl⟩ : ∃ x l, its = x :: l := by
    cases its with
    | nil => cases vs with
      | nil => exact absurd rfl hne
      | cons => simp at lv
    | cons x l => exact ⟨x, l, rfl⟩
  have hTy : s.TypeIs (.ref a) "list" := ⟨_, ea, rfl⟩
  have hu := sb.room.un
  refine wpAny_pyReprUnder_ref (by omega) ?_
  refine wpAny_pyReprObjUnder_twin (twin := "list.__repr__.under") hTy F.slot_list_repr.toG rfl (by omega) ?_
  refine call_twin_plain F.plain_list_repr_under F.entry_list_repr_under F.check_list_repr_under hTy F.slot_list_repr.toG (F.args_list_repr_1 _) ?_
  refine wpAny_list_repr_head (g := g) hg (fun v rest kw hm => listSameRef_of_ne (hc a (by rw [ha]; simp) _ _ _ _ hm)) ea rfl ?_
  refine wpAny_bind (m := newList []) (wpAny_newObj_type ?_)
  refine wpAny_pure ⟨F.quiet_list_repr_loop _, ?_⟩
  have hP0 := I.fresh
  refine loopN (base := base) (g := g) (D0 := D) (H := H1) (R := callEnd (fun v s' => (∃ x u, v = Value.str x u) ∧ ∃ x u, v = Value.str x u ∧ Q x s') E) (pins := pins) (σ := σ) sb hg (fun b hb => hc b fun z => by
    cases e : D b with
    | none => exact hb e
    | some o =>
      rw [sD _ _ e] at z
      cases z) na (Same.trans sD s1) hP0 ha1 hlen hT hb (fun s' H2 tk s2 I2 => ⟨⟨_, _, rfl⟩, _, _, rfl, hQ s' H2 s2 I2⟩) vs.length 0 _ (upd H1 s.heap.objs.size (.lst [])) (by omega) (by omega) (fun b o e => by rw [upd_ne (ne_of_none e hP0)]; exact e) ?_ upd_same
  exact I.lnew .nil (by simp)
/-! ### flat data -/
theorem rk_all {prog : Program} {w : World} {h0 : Heap} : ∀ {vs : List V} {us : List Value} {ts : List Str}, (∀ (i : Nat) (v : V), vs[i]? = some v → ∃ t, ts[i]? = some t ∧ ∀ u, RelV v u → ReprIs prog w u t) → ts.length = vs.length → Vals vs us → ReprAllK prog w [] h0 0 us ts
  | [], _, ts, _, hl, .nil => by
    cases ts with
    | nil => exact .nil
    | cons _ _ => simp at hl
  | v :: vs, _, [], _, hl, .cons _ _ => by simp at hl
  | v :: vs, _, t :: ts, h, hl, .cons r rs => by
    obtain ⟨t', e, k⟩ := h 0 v rfl
    cases (Option.some.inj e)
    exact .cons (ReprK.of_is (k _ r) _ _ _) (rk_all (fun i v hv => h (i + 1) v hv) (by simpa using hl) rs)
theorem itN_tup {a : Addr} {vs : List V} {ts : List Str} (ha : D a = some (.tup vs)) (hlen : ts.length = vs.length) (hT : ∀ (i : Nat) (v : V), vs[i]? = some v → ∃ t, ts[i]? = some t ∧ ∀ u, RelV v u → ReprIs X.prog X.w u t) : ItN X n D (.ref a) (tupleText ts) := by
  refine itN_k fun pins σ s H1 u I sD ru => ?_
  cases (show u = Value.ref a from ru)
  obtain ⟨_, its, rv, o, e, c, m, hn⟩ := (show ObjOk X.prog X.w H1 s.heap a (.tup vs) from I.hok a _ (sD _ _ ha))
  exact ⟨[a], 1, ReprK.tuple e c hn (by simp) (by simpa using rk_all hT hlen rv), by decide, fun b hb => by rw [List.mem_singleton.mp hb, ha]; simp⟩
theorem itN_nil {a : Addr} (ha : D a = some (.lst [])) : ItN X n D (.ref a) "[]" := by
  refine itN_k fun pins σ s H1 u I sD ru => ?_
  cases (show u = Value.ref a from ru)
  obtain ⟨_, its, m, rv, e⟩ := (show ObjOk X.prog X.w H1 s.heap a (.lst []) from I.hok a _ (sD _ _ ha))
  cases rv
  exact ⟨[], 0, ReprK.listEmpty e rfl rfl, by decide, fun b hb => nomatch hb⟩
end
/-- repr of a list of such values -/
def rReprN (X : Cx) (n : Nat) : List V → Hp → VK → Prop := fun xs H Q => ∃ (a : Addr) (D : Hp) (vs : List V) (ts : List Str), xs = [.ref a] ∧ D a = none ∧ Same D H ∧ H a = some (.lst vs) ∧ vs ≠ [] ∧ ts.length = vs.length ∧ (∀ (i : Nat) (v : V), vs[i]? = some v → ∃ t, ts[i]? = some t ∧ ItN X n D v t) ∧ (listText ts).length ≤ sizeLine ∧ ∀ H', Same H H' → Q (.str (listText ts)) H'
theorem call_reprN {X : Cx} {n : Nat} (hg : X.A.guards = some []) (sb : Sub X (n + 1) X.A.in1) : CallR X (.builtin "repr") (rReprN X n) := by
  intro pins s σ H xs us Q I r h
  obtain ⟨a, D, vs, ts, rfl, na, sD, ha, hne, hlen, hT, hsz, q⟩ := h
  obtain ⟨u, rfl, ru⟩ := vals1 r
  cases (show u = Value.ref a from ru)
  obtain ⟨z, its, nn, rv, lv, ea⟩ := I.lstM ha
  obtain ⟨x, l, rfl⟩ : ∃ x l, its = x :: l := by
    cases its with
    | nil => cases vs with
      | nil => exact absurd rfl hne
      | cons => simp at lv
    | cons x l => exact ⟨x, l, rfl⟩
  have hTy : s.TypeIs (.ref a) "list" := ⟨_, ea, rfl⟩
  refine call_repr_slot (by have := sb.room.un; have : X.A.in1.units = X.A.units + 1 := rfl; omega) hTy F.slot_list_repr.toG ?_
  refine wpAny_call (codeAny_call_builtin F.slot_list_repr.plain F.entry_list_repr (F.slot_list_repr.check _ _ _ _ _ _ _ _ hTy (F.args_list_repr_1 _) ?_))
  show wpAny _ _ (Builtin.listReprAt 0 ⟨[.ref a], []⟩) _ _ _
  refine wpAny_list_repr_head (g := []) hg (fun v rest kw hm => nomatch hm) ea rfl ?_
  refine wpAny_bind (m := newList []) (wpAny_newObj_type ?_)
  refine wpAny_pure ⟨F.quiet_list_repr_loop _, ?_⟩
  have hP0 := I.fresh
  refine loopN (base := 0) (g := []) (D0 := D) (R := fun r s' => match r with | .ok (.ret v) => ∃ x t, v = Value.str x t ∧ EP X pins σ Q v s' | .ok _ => False | .error e => X.xe e s') (pins := pins) (σ := σ) sb hg (fun b _ => Clear.nil b) na sD hP0 ha hlen hT (by omega) (fun s' H2 tk s2 I2 => ⟨_, _, rfl, .str (listText ts), H2, I2, ⟨tk, rfl⟩, q H2 s2⟩) vs.length 0 _ (upd H s.heap.objs.size (.lst [])) (by omega) (by omega) (fun b o e => by rw [upd_ne (ne_of_none e hP0)]; exact e) ?_ upd_same
  exact I.lnew .nil (by simp)
end RpL

/-! plain data as it is shown within lists in which own instances stand; the part of a heap without its tables -/
namespace RpL
open PySem PySem.Spec PyProof.Rows L2 Builtin Builtin.List Gd
section
variable {X : Cx} {n : Nat} {D H1 : Hp} {pins : List (Addr × Obj)} {σ : L2.St} {s : Shared}
mutual
theorem dq_rk (I : Inv X pins σ H1 s) (sD : Same D H1) (no : D sysModules = none) : ∀ {v : V} {d : PyData} {u : Value}, Dq D v d → RelV v u → d.showable = true → d.shown.length ≤ sizeLine →
    ∃ bs, ReadAtMost s.heap d.depth bs ∧ ReprK X.prog X.w bs s.heap d.depth u d.shown ∧ ∀ b ∈ bs, D b ≠ none
  | _, _, _, .non, r, _, _ => by
    cases r
    refine ⟨[], (fun _ z => nomatch z), ?_, fun _ z => nomatch z⟩
    rw [PyData.shown]
    exact ReprK.of_is .none _ _ _
  | _, _, _, .bl b, r, _, _ => by
    cases r
    refine ⟨[], (fun _ z => nomatch z), ?_, fun _ z => nomatch z⟩
    rw [PyData.shown]
    exact ReprK.of_is (.bool b) _ _ _
  | _, _, _, .int i, r, sh, _ => by
    obtain ⟨t, rfl⟩ := r
    refine ⟨[], (fun _ z => nomatch z), ?_, fun _ z => nomatch z⟩
    rw [PyData.shown]
    exact ReprK.of_is (.int t (by simpa [PyData.showable] using sh)) _ _ _
  | _, _, _, .str x, r, _, ln => by
    obtain ⟨t, rfl⟩ := r
    refine ⟨[], (fun _ z => nomatch z), ?_, fun _ z => nomatch z⟩
    rw [PyData.shown] at ln ⊢
    exact ReprK.of_is (.str x t ln) _ _ _
  | _, _, u, .lst (a := a) (xs := xs) (ds := ds) ha hd, r, sh, ln => by
    cases (show u = Value.ref a from r)
    rw [PyData.shown] at ln
    obtain ⟨_, its, m, rv, e⟩ := (show ObjOk X.prog X.w H1 s.heap a (.lst xs) from I.hok a _ (sD _ _ ha))
    obtain ⟨bs, b1, b2, b3⟩ := dqa_rk I sD no hd rv (by simpa [PyData.showable] using sh) fun t ht => Nat.le_trans (listText_mem_le ht) ln
    obtain ⟨as, rr, _⟩ := Dq.reads I (u := .ref a) (Dq.same sD (.lst ha hd)) rfl
    have na : a ∉ bs := not_mem_of_deeper rr (by simp only [PyData.depth]; omega) b1
    refine ⟨a :: bs, ReadAtMost.cons rr (by simp only [PyData.depth]; omega) b1, ?_, fun b hb => ?_⟩
    · simp only [PyData.depth, PyData.shown]
      cases its with
      | nil =>
        cases rv
        cases hd
        simp only [PyData.shownAll, listText_nil]
        exact .listEmpty e rfl rfl
      | cons y l => exact .list e rfl rfl na (by simpa using b2.length_eq) fun i z q => b2.item i z (by simpa using q)
    · rcases List.mem_cons.mp hb with rfl | hb
      · rw [ha]; simp
      · exact b3 b hb
  | _, _, u, .tup (a := a) (xs := xs) (ds := ds) ha hd, r, sh, ln => by
    cases (show u = Value.ref a from r)
    rw [PyData.shown] at ln
    obtain ⟨_, its, rv, o, e, c, m, hn⟩ := (show ObjOk X.prog X.w H1 s.heap a (.tup xs) from I.hok a _ (sD _ _ ha))
    obtain ⟨bs, b1, b2, b3⟩ := dqa_rk I sD no hd rv (by simpa [PyData.showable] using sh) fun t ht => Nat.le_trans (tupleText_mem_le ht) ln
    obtain ⟨as, rr, _⟩ := Dq.reads I (u := .ref a) (Dq.same sD (.tup ha hd)) rfl
    have na : a ∉ bs := not_mem_of_deeper rr (by simp only [PyData.depth]; omega) b1
    refine ⟨a :: bs, ReadAtMost.cons rr (by simp only [PyData.depth]; omega) b1, ?_, fun b hb => ?_⟩
    · simp only [PyData.depth, PyData.shown]
      exact .tuple e c hn na (by simpa using b2)
    · rcases List.mem_cons.mp hb with rfl | hb
      · rw [ha]; simp
      · exact b3 b hb
  | _, _, u, .dct (a := a) ha, r, _, _ => by
    cases (show u = Value.ref a from r)
    obtain ⟨_, _, vs, kv, o, es, ep, e, hx, hdt, _, hes, _⟩ := (show ObjOk X.prog X.w H1 s.heap a (.dK []) from I.hok a _ (sD _ _ ha))
    cases kv
    have e0 : es.toList = [] := by
      generalize es.toList = zs at hes
      cases hes
      rfl
    have ns : (a == sysModules) = false := beq_eq_false_iff_ne.mpr fun z => by
      rw [z, no] at ha
      cases ha
    obtain ⟨as, rr, _⟩ := Dq.reads I (u := .ref a) (Dq.same sD (.dct ha)) rfl
    refine ⟨[a], ReadAtMost.cons rr (Nat.le_refl _) (fun _ z => nomatch z), ?_, fun b hb => by rw [List.mem_singleton.mp hb, ha]; simp⟩
    have k := ReprK.dict (prog := X.prog) (w := X.w) (as := []) (d := 0) (ps := []) e hx.1 hdt ns (by simp) (by rw [e0]; exact .nil)
    simp only [PyData.depth, PyData.shown, PyData.shownKv, PyData.depthKv]
    exact k
theorem dqa_rk (I : Inv X pins σ H1 s) (sD : Same D H1) (no : D sysModules = none) : ∀ {vs : List V} {ds : List PyData} {us : List Value}, DqA D vs ds → Vals vs us → PyData.showableAll ds = true → (∀ t ∈ PyData.shownAll ds, t.length ≤ sizeLine) →
    ∃ bs, ReadAtMost s.heap (PyData.depthAll ds) bs ∧ ReprAllK X.prog X.w bs s.heap (PyData.depthAll ds) us (PyData.shownAll ds) ∧ ∀ b ∈ bs, D b ≠ none
  | _, _, _, .nil, r, _, _ => by
    cases r
    refine ⟨[], (fun _ z => nomatch z), ?_, fun _ z => nomatch z⟩
    rw [PyData.shownAll]
    exact .nil
  | _, _, _, .cons (d := d) (ds := ds) hd ht, .cons r rt, sh, ln => by
    have sh2 : d.showable = true ∧ PyData.showableAll ds = true := by simpa [PyData.showableAll] using sh
    obtain ⟨b1, h1, k1, m1⟩ := dq_rk I sD no hd r sh2.1 (ln _ (by simp only [PyData.shownAll]; exact List.mem_cons_self))
    obtain ⟨b2, h2, k2, m2⟩ := dqa_rk I sD no ht rt sh2.2 fun t q => ln t (by simp only [PyData.shownAll]; exact List.mem_cons_of_mem _ q)
    refine ⟨b1 ++ b2, fun b q => ?_, ?_, fun b q => (List.mem_append.mp q).elim (m1 b) (m2 b)⟩
    · simp only [PyData.depthAll]
      rcases List.mem_append.mp q with q | q
      · obtain ⟨e, as, x, y⟩ := h1 b q
        exact ⟨e, as, x, Nat.le_trans y (Nat.le_max_left _ _)⟩
      · obtain ⟨e, as, x, y⟩ := h2 b q
        exact ⟨e, as, x, Nat.le_trans y (Nat.le_max_right _ _)⟩
    · simp only [PyData.depthAll, PyData.shownAll]
      exact .cons ((k1.more fun b q => List.mem_append_left _ q).level_le (Nat.le_max_left _ _)) (k2.more_le (fun b q => List.mem_append_right _ q) (Nat.le_max_right _ _))
end
end
/-- plain data -/
theorem itN_dq {X : Cx} {n : Nat} {D : Hp} {v : V} {d : PyData} {m k : Nat} {ob : Obj} (sm : X.base.get? sysModules = some ob) (h : Dq D v d) (sw : SkT.Sw m k d) (hm : m ≤ sizeLine) (hk : k ≤ 100) : ItN X n D v d.shown := by
  refine itN_k fun pins σ s H1 u I sD ru => ?_
  have no : D sysModules = none := by
    cases e : D sysModules with
    | none => rfl
    | some o =>
      have q := sD _ _ e
      rw [(I.env0.bs _ _ sm).2] at q
      cases q
  obtain ⟨bs, _, b2, b3⟩ := dq_rk I sD no h ru sw.sh (Nat.le_trans sw.ln hm)
  exact ⟨bs, _, b2, Nat.le_trans sw.dp hk, b3⟩
/-! ### the part of a heap without its tables and some places -/
def cut (as : List Addr) (H : Hp) : Hp := fun b => if b ∈ as then none else match H b with | some (.tbl _) => none | z => z
theorem cut_at {as : List Addr} {H : Hp} {b : Addr} {o : HO} (n : b ∉ as) (h : H b = some o) (t : ∀ ps, o ≠ .tbl ps) : cut as H b = some o := by
  unfold cut
  rw [if_neg n, h]
  cases o with
  | tbl ps => exact absurd rfl (t ps)
  | _ => rfl
theorem cut_of {as : List Addr} {H : Hp} {b : Addr} {o : HO} (h : cut as H b = some o) : b ∉ as ∧ H b = some o ∧ ∀ ps, o ≠ .tbl ps := by
  unfold cut at h
  split at h
  · cases h
  · rename_i n
    refine ⟨n, ?_⟩
    cases e : H b with
    | none => rw [e] at h; cases h
    | some q =>
      rw [e] at h
      cases q with
      | tbl ps => cases h
      | _ => cases h; exact ⟨rfl, by intro ps z; cases z⟩
theorem cut_up {as : List Addr} {H : Hp} : Same (cut as H) H := fun _ _ h => (cut_of h).2.1
theorem cut_no {as : List Addr} {H : Hp} {b : Addr} (h : b ∈ as) : cut as H b = none := if_pos h
theorem cut_none {as : List Addr} {H : Hp} {b : Addr} (h : H b = none) : cut as H b = none := by
  cases e : cut as H b with
  | none => rfl
  | some o => rw [(cut_of e).2.1] at h; cases h
theorem cut_same {as : List Addr} {H H' : Hp} (f : ∀ b o, b ∉ as → (∀ ps, o ≠ .tbl ps) → H b = some o → H' b = some o) : Same (cut as H) (cut as H') := fun b o h => by
  obtain ⟨n, e, t⟩ := cut_of h
  exact cut_at n (f b o n t e) t
theorem cut_keep {as : List Addr} {H H' : Hp} (f : ∀ b o, b ∉ as → (∀ ps, o ≠ .tbl ps) → H b = some o → H' b = some o) : Same (cut as H) H' := fun b o h => by
  obtain ⟨n, e, t⟩ := cut_of h
  exact f b o n t e
end RpL

/-! lists of rows that a law gathers, and the heap without one place -/
namespace Sn
open PySem L2 Gd RpA SkT
/-! ### the heap without what stands at j -/
def Hj (j : Addr) (H : Hp) : Hp := fun b => if b = j then none else H b
theorem hj_at {j a : Addr} {H : Hp} {o : HO} (n : a ≠ j) (h : H a = some o) : Hj j H a = some o := by
  unfold Hj
  rw [if_neg n]
  exact h
theorem hj_of {j a : Addr} {H : Hp} {o : HO} (h : Hj j H a = some o) : a ≠ j ∧ H a = some o := by
  unfold Hj at h
  split at h
  · cases h
  · exact ⟨by assumption, h⟩
theorem hj_off {j : Addr} {H H' : Hp} (f : ∀ b o, b ≠ j → H b = some o → H' b = some o) : Same (Hj j H) (Hj j H') := fun b o h => by
  obtain ⟨n, e⟩ := hj_of h
  exact hj_at n (f b o n e)
theorem hj_same {j : Addr} {H H' : Hp} (s : Same H H') : Same (Hj j H) (Hj j H') := hj_off fun b o _ e => s b o e
theorem hj_up {j : Addr} {H : Hp} : Same (Hj j H) H := fun b o h => (hj_of h).2
/-! ### rows -/
inductive Rows (H : Hp) : List V → List (List V) → Prop
  | nil : Rows H [] []
  | cons {q : Addr} {r : List V} {xs : List V} {rs : List (List V)} (h : H q = some (.lst r)) (t : Rows H xs rs) : Rows H (.ref q :: xs) (r :: rs)
theorem Rows.ext {H H' : Hp} (s : LamX.ExtN H H') : ∀ {xs rs}, Rows H xs rs → Rows H' xs rs
  | _, _, .nil => .nil
  | _, _, .cons h t => .cons (s _ _ h (by intro ps z; cases z)) (t.ext s)
theorem Rows.len {H : Hp} : ∀ {xs rs}, Rows H xs rs → xs.length = rs.length
  | _, _, .nil => rfl
  | _, _, .cons _ t => congrArg (· + 1) t.len
theorem Rows.snoc {H : Hp} {q : Addr} {r : List V} (h : H q = some (.lst r)) : ∀ {xs rs}, Rows H xs rs → Rows H (xs ++ [.ref q]) (rs ++ [r])
  | _, _, .nil => .cons h .nil
  | _, _, .cons a t => .cons a (t.snoc h)
theorem Rows.app {H : Hp} : ∀ {xs ys rs ss}, Rows H xs rs → Rows H ys ss → Rows H (xs ++ ys) (rs ++ ss)
  | _, _, _, _, .nil, b => b
  | _, _, _, _, .cons a t, b => .cons a (t.app b)
/-- a row begins with a word -/
def Wd (r : List V) : Prop := ∃ (s : Str) (t : List V), r = .str s :: t
theorem Rows.ne {H : Hp} {D q : Addr} {acc r : List V} {as : List (List V)} (hD : H D = some (.lst acc)) (ha : Rows H acc as) (w : Wd r) (h : H q = some (.lst r)) : q ≠ D := fun z => by
  obtain ⟨s, t, rfl⟩ := w
  rw [z, hD] at h
  cases ha <;> cases h
theorem Rows.put {H : Hp} {D : Addr} {acc ys : List V} {as : List (List V)} (hD : H D = some (.lst acc)) (ha : Rows H acc as) : ∀ {xs rs}, (∀ r ∈ rs, Wd r) → Rows H xs rs → Rows (upd H D (.lst ys)) xs rs
  | _, _, _, .nil => .nil
  | _, _, w, .cons h t => .cons (by rw [upd_ne (Rows.ne hD ha (w _ List.mem_cons_self) h)]; exact h) (Rows.put hD ha (fun r hr => w r (List.mem_cons_of_mem _ hr)) t)
theorem tabs_put {T : List (Addr × Str)} {H : Hp} {q : Addr} {ys zs : List V} (hq : H q = some (.lst ys)) (h : LamX.Tabs T H) : LamX.Tabs T (upd H q (.lst zs)) := fun p hp => by
  obtain ⟨ps, a1, a2, a3⟩ := h p hp
  refine ⟨ps, by rw [upd_ne (ne_of a1 hq (by intro z; cases z))]; exact a1, a2, fun pos cv hcv => ?_⟩
  obtain ⟨c, e, hc⟩ := a3 pos cv hcv
  exact ⟨c, e, by rw [upd_ne (ne_of hc hq (by intro z; unfold LamX.CodeO at z; cases z))]; exact hc⟩
/-- the list of what came, so far -/
structure Seen (T : List (Addr × Str)) (Ha H : Hp) (sq : Addr) (xs : List V) (rs : List (List V)) : Prop where
  ext : LamX.ExtN Ha H
  tab : LamX.Tabs T H
  at_ : H sq = some (.lst xs)
  row : Rows H xs rs
  wd : ∀ r ∈ rs, Wd r
theorem new_ne {Ha Hb : Hp} {sq : Addr} (e : LamX.ExtN Ha Hb) (n : Hb sq = none) : ∀ b o, Ha b = some o → (∀ ps, o ≠ .tbl ps) → b ≠ sq := fun b o h t => ne_of_none (e b o h t) n
theorem Seen.first {T : List (Addr × Str)} {Ha Hb : Hp} {sq p : Addr} {r : List V} (e : LamX.ExtN Ha Hb) (t : LamX.Tabs T Hb) (hp : Hb p = some (.lst r)) (w : Wd r) (n : Hb sq = none) : Seen T Ha (upd Hb sq (.lst [.ref p])) sq [.ref p] [r] := by
  have s : Same Hb (upd Hb sq (.lst [.ref p])) := fun b o q => by rw [upd_ne (ne_of_none q n)]; exact q
  exact ⟨e.trans (ext_same s), t.ext s, upd_same, .cons (s _ _ hp) .nil, fun r' h => by rw [List.mem_singleton.mp h]; exact w⟩
theorem Seen.step {T : List (Addr × Str)} {Ha H H1 : Hp} {sq p : Addr} {xs r : List V} {rs : List (List V)} (s : Seen T Ha H sq xs rs) (nq : ∀ b o, Ha b = some o → (∀ ps, o ≠ .tbl ps) → b ≠ sq) (e1 : LamX.ExtN H H1) (T1 : LamX.Tabs T H1) (hp : H1 p = some (.lst r)) (w : Wd r) :
    H1 sq = some (.lst xs) ∧ Seen T Ha (upd H1 sq (.lst (xs ++ [.ref p]))) sq (xs ++ [.ref p]) (rs ++ [r]) := by
  have h1 : H1 sq = some (.lst xs) := e1 _ _ s.at_ (by intro ps z; cases z)
  have r1 := s.row.ext e1
  have w' : ∀ r' ∈ rs ++ [r], Wd r' := fun r' h => (List.mem_append.mp h).elim (s.wd r') fun z => by rw [List.mem_singleton.mp z]; exact w
  refine ⟨h1, fun b o h n => ?_, tabs_put h1 T1, upd_same, ?_, w'⟩
  · rw [upd_ne (nq b o h n)]
    exact e1 _ _ (s.ext b o h n) n
  · exact Rows.snoc (by rw [upd_ne (Rows.ne h1 r1 w hp)]; exact hp) (Rows.put h1 r1 s.wd r1)
/-- rows as data -/
inductive DqR (H : Hp) : List (List V) → List PyData → Prop
  | nil : DqR H [] []
  | cons {r : List V} {ds : List PyData} {rs : List (List V)} {es : List PyData} (h : DqA H r ds) (t : DqR H rs es) : DqR H (r :: rs) (.list ds :: es)
theorem Rows.dq {H : Hp} : ∀ {xs rs es}, Rows H xs rs → DqR H rs es → DqA H xs es
  | _, _, _, .nil, .nil => .nil
  | _, _, _, .cons h t, .cons a b => .cons (.lst h a) (t.dq b)
theorem DqR.ext {H H' : Hp} (s : LamX.ExtN H H') : ∀ {rs es}, DqR H rs es → DqR H' rs es
  | _, _, .nil => .nil
  | _, _, .cons h t => .cons (dqa_ext s h) (t.ext s)
end Sn

/-! how great counts are shown -/
namespace SH
open PySem L2
theorem log_nat {n : Nat} (h : n < 10 ^ 20) : (n : Nat).log2 < 1920 := by
  by_cases h0 : n = 0
  · rw [h0]; decide
  · exact Nat.lt_of_lt_of_le ((Nat.log2_lt h0).mpr (Nat.lt_of_lt_of_le h (show 10 ^ 20 ≤ 2 ^ 70 by decide))) (by decide)
theorem num_le {n : Nat} (h : n < 10 ^ 20) : (PyData.shown (.int (n : Int))).length ≤ 20 := by
  show (Str.ofString (toString ((n : Nat) : Int))).length ≤ 20
  rw [TL.len_tl, TL.tl_num]
  exact TL.numL_len (by decide) h
def pairD (a b : Nat) : PyData := .tuple [.int a, .int b]
theorem join_le : ∀ ts : List Str, (Str.join ", " ts).length ≤ (ts.map fun t => t.length + 2).sum
  | [] => Nat.le_refl _
  | [x] => by
    show x.length ≤ _
    simp
  | x :: y :: r => by
    show (x ++ ", " ++ Str.join ", " (y :: r)).length ≤ _
    rw [strLen_append, strLen_append, show (", " : Str).length = 2 by decide +kernel]
    have := join_le (y :: r)
    rw [List.map_cons, List.sum_cons]
    omega
theorem tup_le (ts : List Str) : (tupleText ts).length ≤ (ts.map fun t => t.length + 2).sum + 3 := by
  unfold tupleText
  rw [strLen_append, strLen_append, show ("(" : Str).length = 1 by decide +kernel]
  have := join_le ts
  have : (Str.ofString (if ts.length == 1 then ",)" else ")" : String)).length ≤ 2 := by
    split
    · decide +kernel
    · decide +kernel
  omega
theorem pair_ok {a b : Nat} (ha : a < 10 ^ 20) (hb : b < 10 ^ 20) : (pairD a b).showable = true ∧ (pairD a b).depth ≤ 64 ∧ (pairD a b).shown.length ≤ sizeLine := by
  refine ⟨?_, ?_, ?_⟩
  · simp only [pairD, PyData.showable, PyData.showableAll, Bool.and_true, Bool.and_eq_true, decide_eq_true_eq]
    exact ⟨by rw [Int.natAbs_natCast]; exact log_nat ha, by rw [Int.natAbs_natCast]; exact log_nat hb⟩
  · simp [pairD, PyData.depth, PyData.depthAll]
  · unfold pairD
    rw [PyData.shown]
    have := tup_le (PyData.shownAll [.int (a : Int), .int (b : Int)])
    have h1 := num_le ha
    have h2 := num_le hb
    simp only [PyData.shownAll, List.map_cons, List.map_nil, List.sum_cons, List.sum_nil] at this
    refine Nat.le_trans this (Nat.le_trans (show _ ≤ 100 by omega) (by decide))
end SH
namespace SH
open PySem L2
def tripD (a b c : Nat) : PyData := .list [.int a, .int b, .int c]
theorem from_le : ∀ (ts : List Str) (k : Nat) (acc : Str), (textFrom k acc ts).length ≤ acc.length + (ts.map fun t => t.length + 2).sum
  | [], _, _ => by simp [textFrom]
  | t :: r, k, acc => by
    rw [textFrom]
    have ih := from_le r (k + 1) (acc ++ (if k > 0 then ", " else "" : String) ++ t)
    rw [strLen_append, strLen_append] at ih
    have : (Str.ofString (if k > 0 then ", " else "" : String)).length ≤ 2 := by
      split
      · decide +kernel
      · decide +kernel
    rw [List.map_cons, List.sum_cons]
    omega
theorem list_le (ts : List Str) : (listText ts).length ≤ (ts.map fun t => t.length + 2).sum + 2 := by
  unfold listText
  rw [strLen_append, show ("]" : Str).length = 1 by decide +kernel]
  have := from_le ts 0 "["
  rw [show ("[" : Str).length = 1 by decide +kernel] at this
  omega
theorem trip_ok {a b c : Nat} (ha : a < 10 ^ 20) (hb : b < 10 ^ 20) (hc : c < 10 ^ 20) : (tripD a b c).showable = true ∧ (tripD a b c).depth ≤ 64 ∧ (tripD a b c).shown.length ≤ sizeLine := by
  refine ⟨?_, ?_, ?_⟩
  · simp only [tripD, PyData.showable, PyData.showableAll, Bool.and_true, Bool.and_eq_true, decide_eq_true_eq]
    exact ⟨by rw [Int.natAbs_natCast]; exact log_nat ha, by rw [Int.natAbs_natCast]; exact log_nat hb, by rw [Int.natAbs_natCast]; exact log_nat hc⟩
  · simp [tripD, PyData.depth, PyData.depthAll]
  · unfold tripD
    rw [PyData.shown]
    have := list_le (PyData.shownAll [.int (a : Int), .int (b : Int), .int (c : Int)])
    have h1 := num_le ha
    have h2 := num_le hb
    have h3 := num_le hc
    simp only [PyData.shownAll, List.map_cons, List.map_nil, List.sum_cons, List.sum_nil] at this
    refine Nat.le_trans this (Nat.le_trans (show _ ≤ 200 by omega) (by decide))
end SH

/-! what is drawn as no reading: its kind, how it shows -/
namespace My
open PySem L2 Cm LM EM StX IsX FvL NdefX FvT Gd RpA SkT Sn
/-- no built-in thing is an instance of the class at C -/
def NoB (K : PySem.W.Frag) (C : Addr) : Prop := ∀ d : PyData, PySem.W.kitOne K (.type (tyN d)) (.ref C) = some false
theorem noIn_dq {K : PySem.W.Frag} {C : Addr} {H : Hp} {v : V} {d : PyData} (N : NoB K C) (q : Dq H v d) : NoIn K C H v := ⟨_, dq_ty q, N d⟩
structure TxO (K : PySem.W.Frag) (mg : Str → Option Value) where
  T : TxRd K mg
  L : TxLr K mg
  eL : L.T = T.N.T
  no : NoB K T.CR
  kL : PySem.W.kitOne K (.ref T.N.T.C) (.ref T.CR) = some false
/-- it shows, and is no reading -/
def OddOk (X : Cx) (CR : Addr) (D : Hp) (v : V) : Prop := ∃ t : Str, t.length ≤ 600 ∧ RpL.ItN X 2 D v t ∧ ∀ H', Same D H' → NoIn X.K CR H' v
theorem odd_dq {X : Cx} {CR : Addr} {D : Hp} {v : V} {d : PyData} {ob : Obj} (N : NoB X.K CR) (sm : X.base.get? sysModules = some ob) (q : Dq D v d) (h1 : d.showable = true) (h2 : d.depth ≤ 2) (h3 : d.shown.length ≤ 30) (h4 : PyData.strOk d.shown = true) : OddOk X CR D v :=
  ⟨d.shown, by omega, RpL.itN_dq sm q (⟨h1, h2, h3, h4⟩ : Sw 30 2 d) (szl (by decide)) (by decide), fun H' s' => noIn_dq N (q.same s')⟩
theorem odd65 {X : Cx} (U : TxO X.K X.mg) {ob : Obj} (sm : X.base.get? sysModules = some ob) {D : Hp} {tp dd l1 lv dx lo m : Addr} {sz : Nat} {t : Str} {rr : List (Nat × Bool)} (ht : D tp = some (.tup [])) (hd : D dd = some (.dK [])) (hl : D l1 = some (.lst [.ref lv])) (hR : RdAt U.T D lv dx lo m sz t rr) (hn : rr.length ≤ 100) (bd : t.length ≤ 300)
    {i : Nat} {x : V} (hx : ([.non, .str "reading", .int 5, .ref tp, .ref lo, .ref dd, .ref l1] : List V)[i]? = some x) : OddOk X U.T.CR D x := by
  have GLr : FnR X.prog X.w X.K X.mg X.base CX0 1 U.L.lr.f (fun vs H Q E => spLR U.L.T.C (vs ++ []) H Q E) := (ok_lr U.L).raw U.L.lr.b .nil
  have GRr : FnR X.prog X.w X.K X.mg X.base CX0 1 U.T.rr.f (fun vs H Q E => spRdR U.T (vs ++ []) H Q E) := (ok_rdr U.T).raw U.T.rr.b .nil
  match i, hx with
  | 0, hx => cases (Option.some.inj hx); exact odd_dq U.no sm .non (by decide +kernel) (by decide +kernel) (by decide +kernel) (by decide +kernel)
  | 1, hx => cases (Option.some.inj hx); exact odd_dq U.no sm (.str "reading") (by decide +kernel) (by decide +kernel) (by decide +kernel) (by decide +kernel)
  | 2, hx => cases (Option.some.inj hx); exact odd_dq U.no sm (.int 5) (by decide +kernel) (by decide +kernel) (by decide +kernel) (by decide +kernel)
  | 3, hx => cases (Option.some.inj hx); exact odd_dq U.no sm (.tup ht .nil) (by decide +kernel) (by decide +kernel) (by decide +kernel) (by decide +kernel)
  | 4, hx =>
    cases (Option.some.inj hx)
    have hlo : LoopAt U.L.T.C D lo t := by rw [U.eL]; exact hR.lo
    have bT : Bd t := Nat.le_trans bd (by decide)
    obtain ⟨dx', pr, pe, po, pq, ex, _⟩ := id hlo
    refine ⟨("Loop(" : Str) ++ t ++ ")", ?_, (RpL.itN_of (RpL.it_own U.L.lr.i U.L.lr.fn GLr ex fun H9 s9 => ⟨lo, t, rfl, hlo.same s9, bT, rfl, Same.refl _⟩)).mono (by decide), fun H' s' => ⟨_, loop_ty U.T (hR.lo.same s'), U.kL⟩⟩
    have l2 : ("Loop(" : Str).length = 5 := by decide +kernel
    have l3 : (")" : Str).length = 1 := by decide +kernel
    rw [strLen_append, strLen_append]
    omega
  | 5, hx => cases (Option.some.inj hx); exact odd_dq U.no sm (.dct hd) (by decide +kernel) (by decide +kernel) (by decide +kernel) (by decide +kernel)
  | 6, hx =>
    cases (Option.some.inj hx)
    obtain ⟨dm, g, h, kk, b, hm, hMs, _⟩ := hR.mo.head
    obtain ⟨gs, hs, hg, hRg, _⟩ := hMs
    have lg : gs.length ≤ 1000 := by rw [hRg.len, List.length_reverse]; omega
    have l4 := num_short lg
    have own : RpL.ItN X 1 (Hj l1 D) (.ref lv) (rdS gs.length) := by
      have e1 : Hj l1 D lv = some (.ins U.T.CR dx (rf lo sz false m)) := hj_at (ne_of hR.at_ hl (by intro z; cases z)) hR.at_
      have e2 : Hj l1 D m = some (.ins U.T.CM dm (mf b g h kk (stR sz (ordsR t) (ordsE t) rr).st)) := hj_at (ne_of hm hl (by intro z; cases z)) hm
      have e3 : Hj l1 D g = some (.tup gs) := hj_at (ne_of hg hl (by intro z; cases z)) hg
      exact RpL.itN_of (RpL.it_own U.T.rr.i U.T.rr.fn GRr e1 fun H9 s9 => ⟨lv, dx, lo, m, dm, g, h, kk, sz, false, b, _, gs, rfl, s9 _ _ e1, s9 _ _ e2, s9 _ _ e3, lg, rfl, Same.refl _⟩)
    refine ⟨listText [rdS gs.length], ?_, RpL.itN_list (D := Hj l1 D) (H := D) (by simp [Hj]) hj_up hl (by simp) rfl fun i v hv => ?_, fun H' s' => ⟨_, .base (.lst (s' _ _ hl)), U.no (.list [])⟩⟩
    · have b1 := list_le [rdS gs.length]
      have l1' : (Str.empty).length = 0 := rfl
      have l2 : ("Reading(" : Str).length = 8 := by decide +kernel
      have l3 : (" replies)" : Str).length = 9 := by decide +kernel
      have l5 : (rdS gs.length).length ≤ 40 := by
        unfold rdS
        rw [strLen_append, strLen_append, strLen_append]
        omega
      simp only [List.map_cons, List.map_nil, List.sum_cons, List.sum_nil] at b1
      omega
    · match i, hv with
      | 0, h => cases h; exact ⟨_, rfl, own⟩
      | n + 1, h => cases h
theorem OddOk.same {X : Cx} {CR : Addr} {D D' : Hp} {v : V} (s : Same D D') (o : OddOk X CR D v) : OddOk X CR D' v := by
  obtain ⟨t, a, b, c⟩ := o
  exact ⟨t, a, b.same s, fun H' s' => c H' (Same.trans s s')⟩
/-- the row with it, shown -/
theorem odd_els {X : Cx} {D : Hp} {v : V} {t : Str} (o : RpL.ItN X 2 D v t) : ∀ (i : Nat) (x : V), ([.str "NotAReading", v, .bl true] : List V)[i]? = some x → ∃ s, ([reprText "NotAReading", t, "True"] : List Str)[i]? = some s ∧ RpL.ItN X 2 D x s := fun i x hv => by
  match i, hv with
  | 0, h => cases h; exact ⟨_, rfl, RpL.itN_of (RpL.it_str (by decide +kernel))⟩
  | 1, h => cases h; exact ⟨_, rfl, o⟩
  | 2, h => cases h; exact ⟨("True" : Str), rfl, RpL.itN_of (RpL.it_bl true)⟩
  | n + 3, h => cases h
theorem odd_len {t : Str} (l : t.length ≤ 600) : (listText [reprText "NotAReading", t, "True"]).length ≤ sizeLine := by
  have b1 := list_le [reprText "NotAReading", t, "True"]
  have b4 : (reprText "NotAReading").length ≤ 30 := by decide +kernel
  have b5 : ("True" : Str).length ≤ 30 := by decide +kernel
  simp only [List.map_cons, List.map_nil, List.sum_cons, List.sum_nil] at b1
  exact szl (by omega)
end My

/-! the tables; the state of the turn -/
namespace My
open PySem L2 Cm LM EM StX IsX FvL NdefX FvT Gd RpA SkT Sn
theorem tabN_tbl {P : Addr} {nm : Nat → Nat → Str} {H : Hp} (t : TabN H P nm) : ∃ ps, H P = some (.tbl ps) := let ⟨ps, h, _⟩ := t; ⟨ps, h⟩
theorem tabN_nil {P : Addr} {nm : Nat → Nat → Str} {H : Hp} (h : H P = some (.tbl #[])) : TabN H P nm := ⟨#[], h, True.intro, fun pos cv hc => by
  have z : codeAmong pos [] = some cv := hc
  simp [codeAmong] at z⟩
theorem tabN_kt {H H' : Hp} {P : Addr} {nm : Nat → Nat → Str} (o : Kt H H') (h : TabN H P nm) : TabN H' P nm := by
  obtain ⟨ps, a1, a2, a3⟩ := h
  refine ⟨ps, o _ _ a1 (.inl ⟨_, rfl⟩), a2, fun pos cv hc => ?_⟩
  obtain ⟨c, e, h⟩ := a3 pos cv hc
  exact ⟨c, e, o _ _ h (.inr ⟨_, rfl⟩)⟩
theorem tabN_extP {P P' : Addr} {nm : Nat → Nat → Str} {H H' : Hp} (hP : ∃ ps, H P' = some (.tbl ps)) (n : P ≠ P') (e : ExtP P' H H') (t : TabN H P nm) : TabN H' P nm := by
  obtain ⟨ps', hP⟩ := hP
  obtain ⟨ps, a1, a2, a3⟩ := t
  refine ⟨ps, e _ _ n a1, a2, fun pos cv hc => ?_⟩
  obtain ⟨c, z, h⟩ := a3 pos cv hc
  exact ⟨c, z, e _ _ (ne_of h hP (LamX.codeO_ne _)) h⟩
/-- the tables of the law: the fallen one's, the nested ones', the turn's -/
structure Tk (PF PN PR : Addr) (H : Hp) : Prop where
  tf : LamX.TabS H PF qAct
  tn : TabN H PN nmN
  tr : TabT [PF, PN] H PR qLam qIn
  n1 : PF ≠ PN
  n2 : PR ∉ [PF, PN]
section
variable {PF PN PR : Addr} {H H' : Hp}
theorem Tk.kt (o : Kt H H') (t : Tk PF PN PR H) : Tk PF PN PR H' := ⟨tabS_kt o t.tf, tabN_kt o t.tn, tabT_kt o t.tr, t.n1, t.n2⟩
theorem Tk.nF (t : Tk PF PN PR H) : PR ≠ PF := fun z => t.n2 (by rw [z]; simp)
theorem Tk.nN (t : Tk PF PN PR H) : PR ≠ PN := fun z => t.n2 (by rw [z]; simp)
theorem Tk.has (t : Tk PF PN PR H) : ∀ p ∈ [PF, PN], H p ≠ none := fun p hp z => by
  rcases List.mem_cons.mp hp with rfl | hp
  · obtain ⟨ps, h⟩ := tabS_tbl t.tf
    rw [h] at z; cases z
  · rw [List.mem_singleton.mp hp] at z
    obtain ⟨ps, h⟩ := tabN_tbl t.tn
    rw [h] at z; cases z
theorem Tk.extR (e : ExtP PR H H') (h : TabT [PF, PN] H' PR qLam qIn) (t : Tk PF PN PR H) : Tk PF PN PR H' := ⟨tabS_extP t.tr.tbl t.nF.symm e t.tf, tabN_extP t.tr.tbl t.nN.symm e t.tn, h, t.n1, t.n2⟩
theorem Tk.extF (e : ExtP PF H H') (h : LamX.TabS H' PF qAct) (t : Tk PF PN PR H) : Tk PF PN PR H' := ⟨h, tabN_extP (tabS_tbl t.tf) t.n1.symm e t.tn, tabT_extP (tabS_tbl t.tf) t.nF (by simp) e t.tr, t.n1, t.n2⟩
theorem Tk.extN (e : ExtP PN H H') (h : TabN H' PN nmN) (t : Tk PF PN PR H) : Tk PF PN PR H' := ⟨tabS_extP (tabN_tbl t.tn) t.n1 e t.tf, h, tabT_extP (tabN_tbl t.tn) t.nN (by simp) e t.tr, t.n1, t.n2⟩
theorem Tk.inner {P' : Addr} (e : ExtP P' H H') (h0 : LamX.TabS H P' qIn) (h : LamX.TabS H' P' qIn) (n1 : P' ∉ [PF, PN]) (n2 : P' ≠ PR) (t : Tk PF PN PR H) : Tk PF PN PR H' :=
  ⟨tabS_extP (tabS_tbl h0) (fun z => n1 (by rw [← z]; simp)) e t.tf, tabN_extP (tabS_tbl h0) (fun z => n1 (by rw [← z]; simp)) e t.tn, TabT.inner t.tr n2 h0 e h, t.n1, t.n2⟩
end
/-- the jar, the tables -/
structure Q5 (PF PN PR j : Addr) (H0 H : Hp) : Prop where
  off : OffN j H0 H
  jar : Jar H j
  tk : Tk PF PN PR H
section
variable {PF PN PR j : Addr} {H0 H H' : Hp}
theorem Q5.same (s : Same H H') (q : Q5 PF PN PR j H0 H) : Q5 PF PN PR j H0 H' := ⟨q.off.trans (Same.off s).offN, q.jar.same s, q.tk.kt (kt_same s)⟩
theorem Q5.offj (o : Off j H H') (J : Jar H' j) (q : Q5 PF PN PR j H0 H) : Q5 PF PN PR j H0 H' := ⟨q.off.trans o.offN, J, q.tk.kt (by
  obtain ⟨x, y, z, e⟩ := q.jar
  exact kt_off e (by intro ps z; cases z) (by intro ps z; cases z) o)⟩
/-- a new thing of ours is written -/
theorem Q5.offl {lv : Addr} {u : HO} (hl : H lv = some u) (n1 : ∀ ps, u ≠ .tbl ps) (n2 : ∀ g, u ≠ .ext g) (lj : lv ≠ j) (nl : ∀ b o, b ≠ j → (∀ ps, o ≠ .tbl ps) → H0 b = some o → b ≠ lv) (o : Off lv H H') (q : Q5 PF PN PR j H0 H) : Q5 PF PN PR j H0 H' :=
  ⟨fun b u nb nt e => o _ _ (nl b u nb nt e) (q.off b u nb nt e), by
    obtain ⟨x, y, z, e⟩ := q.jar
    exact ⟨x, y, z, o _ _ lj.symm e⟩, q.tk.kt (kt_off hl n1 n2 o)⟩
/-- two of them -/
theorem Q5.off2 {lv gt : Addr} {u v : HO} (hl : H lv = some u) (hg : H gt = some v) (u1 : ∀ ps, u ≠ .tbl ps) (u2 : ∀ g, u ≠ .ext g) (v1 : ∀ ps, v ≠ .tbl ps) (v2 : ∀ g, v ≠ .ext g) (lj : lv ≠ j) (gj : gt ≠ j) (nl : ∀ b o, b ≠ j → (∀ ps, o ≠ .tbl ps) → H0 b = some o → b ≠ lv) (ng : ∀ b o, b ≠ j → (∀ ps, o ≠ .tbl ps) → H0 b = some o → b ≠ gt)
    (o : ∀ b o, b ≠ lv → b ≠ gt → H b = some o → H' b = some o) (q : Q5 PF PN PR j H0 H) : Q5 PF PN PR j H0 H' :=
  ⟨fun b u nb nt e => o _ _ (nl b u nb nt e) (ng b u nb nt e) (q.off b u nb nt e), by
    obtain ⟨x, y, z, e⟩ := q.jar
    exact ⟨x, y, z, o _ _ lj.symm gj.symm e⟩, q.tk.kt fun b w e k => o b w (fun z => by
      rw [z, hl] at e
      rcases k with ⟨ps, rfl⟩ | ⟨g, rfl⟩
      · exact u1 ps (Option.some.inj e)
      · exact u2 g (Option.some.inj e)) (fun z => by
      rw [z, hg] at e
      rcases k with ⟨ps, rfl⟩ | ⟨g, rfl⟩
      · exact v1 ps (Option.some.inj e)
      · exact v2 g (Option.some.inj e)) e⟩
theorem Q5.extP {P : Addr} (hP : ∃ ps, H P = some (.tbl ps)) (e : ExtP P H H') (t : Tk PF PN PR H') (q : Q5 PF PN PR j H0 H) : Q5 PF PN PR j H0 H' := by
  obtain ⟨ps, hP⟩ := hP
  obtain ⟨x, y, z, hj⟩ := q.jar
  exact ⟨fun b u nb nt h => ExtP.extN hP e _ _ (q.off b u nb nt h) nt, ⟨x, y, z, ExtP.extN hP e _ _ hj (by intro ps z; cases z)⟩, t⟩
end
/-- a reading where all but tables and lists stays -/
theorem RdAt.nt {K : PySem.W.Frag} {mg : Str → Option Value} {T : TxRd K mg} {H H' : Hp} {lv dx lo m : Addr} {sz : Nat} {t : Str} {rr : List (Nat × Bool)} (f : ∀ b o, (∀ ps, o ≠ .tbl ps) → (∀ xs, o ≠ .lst xs) → H b = some o → H' b = some o) (h : RdAt T H lv dx lo m sz t rr) : RdAt T H' lv dx lo m sz t rr := by
  have ft : ∀ (p : Addr) (xs : List V), H p = some (.tup xs) → H' p = some (.tup xs) := fun p xs e => f _ _ (by intro ps z; cases z) (by intro ps z; cases z) e
  have fi : ∀ {p C dx : Addr} {fs : List (Str × V)}, H p = some (.ins C dx fs) → H' p = some (.ins C dx fs) := fun e => f _ _ (by intro ps z; cases z) (by intro ps z; cases z) e
  obtain ⟨dx1, pr, pe, po, pq, e1, e2, e3, e4, e5⟩ := h.lo
  exact ⟨fi h.at_, ⟨dx1, pr, pe, po, pq, fi e1, ft _ _ e2, ft _ _ e3, e4.mono ft, e5.mono ft⟩, h.mo.mono ft fun p dm b g hh k ov e => fi e⟩
theorem cj {j : Addr} {H : Hp} {b : Addr} {o : HO} (n : b ≠ j) (h : H b = some o) (t : ∀ ps, o ≠ .tbl ps) : RpL.cut [j] H b = some o := RpL.cut_at (by simpa using n) h t
/-! ### keywords -/
def gAt (us ws : List Value) : List Value := match us, ws with | [], [a, b] => [a, b] | _, _ => []
def gAtV (us ws : List V) : List V := match us, ws with | [], [a, b] => [a, b] | _, _ => []
theorem gAt_rel {vs zs : List V} {us ws : List Value} (h1 : Vals vs us) (h2 : Vals zs ws) : Vals (gAtV vs zs) (gAt us ws) := by
  cases h1 with
  | cons _ _ => exact .nil
  | nil => cases h2 with
    | nil => exact .nil
    | cons a t => cases t with
      | nil => exact .nil
      | cons b t => cases t with
        | nil => exact .cons a (.cons b .nil)
        | cons _ _ => exact .nil
/-- replies that tell nothing -/
def mkR (l : List Nat) : List (Nat × Bool) := (l.map fun n => (n, false)).reverse
theorem mkR_len (l : List Nat) : (mkR l).length = l.length := by unfold mkR; rw [List.length_reverse, List.length_map]
theorem mkR_mem {sz : Nat} {l : List Nat} (h : ∀ n ∈ l, n ≤ sz) : ∀ r ∈ mkR l, r.1 ≤ sz ∧ r.2 = false := fun r hr => by
  unfold mkR at hr
  obtain ⟨n, hn, rfl⟩ := List.mem_map.mp (List.mem_reverse.mp hr)
  exact ⟨h n hn, rfl⟩
theorem mkR_snoc (l : List Nat) (n : Nat) : mkR (l ++ [n]) = (n, false) :: mkR l := by unfold mkR; rw [List.map_append, List.reverse_append]; rfl
theorem okN {sz : Nat} {t : Str} (ns : NoSt sz t) : ∀ {rr : List (Nat × Bool)}, (∀ r ∈ rr, r.1 ≤ sz ∧ r.2 = false) → OkR sz (ordsR t) (ordsE t) rr
  | [], _ => True.intro
  | _ :: rr, h => ⟨ns rr fun r hr => h r (List.mem_cons_of_mem _ hr), okN ns fun r hr => h r (List.mem_cons_of_mem _ hr)⟩
theorem drop_cons {α : Type} {l : List α} {i : Nat} (h : i < l.length) : ∃ r, l.drop i = r :: l.drop (i + 1) := ⟨l[i], List.drop_eq_getElem_cons h⟩
theorem svsB0 : svs B0 = [V.str "ask", .str "add", .str "cut", .str "told:stop"] := rfl
theorem svsE0 : svs E0 = [V.str "rest:flush"] := rfl
end My

/-! f(k = v, ..): a def called by keywords alone -/
namespace FKw
open PySem L2
def tCallK0 (sp : Sp) (gV : List V → List V → List V) (E : XK) (tk : TA) : TE := fun σ H Q => tk σ H fun zs H2 => sp (gV [] zs) H2 Q E
theorem pe_callK0 {X : Cx} {CX : CXT} {k : Nat} {f : Addr} {fd : FuncData} {ps ks : List Str} {sp : Sp} {E : XK} {x : Str} {p pos : Pos} {kws : List Keyword} {tk : TA} {g : List Value → List Value → List Value} {gV : List V → List V → List V}
    (F : FnOk X.prog X.w X.K X.mg X.base CX k f fd ps sp) (hr : Room k X.A) (hg : Gl X x) (hm : X.mg x = some (.ref f)) (hk : PySem.W.keepIn X.K (.ref f) = true) (hb : KBinds X.K fd ps ks g gV) (hx : Passes CX X E) (hkw : PK X kws tk)
    (hall : (backToKw pos (keywordEach kws X.env)).all (·.1.isSome) = true := by rfl) (hks : (backToKw pos (keywordEach kws X.env)).filterMap (·.1) = ks := by rfl) (hdb : (x == ("__debug__" : Str)) = false := by decide)
    (hpl : ((backTo pos (starEach [] X.env)).any (·.1) || (backToKw pos (keywordEach kws X.env)).any (·.1.isNone)) = false := by rfl) :
    PE X (.Call (.Name x p) [] kws pos) (tCallK0 sp gV E tk) := by
  refine ⟨fun pins s σ H Q I h => ?_⟩
  refine wpAny_Call_Name_kw (ld_glob I hg hm ?_ hdb)
  refine PySem.W.callWith_KW0 (first := []) (h₀ := X.base) I.ok.mod.kin hk hall ?_ hpl
  refine thn (hkw.run pos pins s σ H _ I h) fun ws s2 ⟨zs, H2, I2, rz, q2⟩ => ⟨I2.kIn, ?_⟩
  rw [hks]
  exact run_fnk (us := []) (vs := []) F hr hb hx I2 .nil rz q2
end FKw

/-! the turn -/
namespace My
open PySem L2 Cm LM EM StX IsX FvL NdefX FvT Gd RpA SkT Sn
abbrev NR : List Str := ["_law_jar_here", "_law_made", "_law_wide", "_law_live", "_law_tale_here", "_law_many", "_law_said", "_law_boxes_here", "_law_one", "_law_two", "_law_gate", "_law_told_here", "_law_seen", "_law_k", "_law_odd"]
theorem scRight : FnScope NR ["_law_jar_here"] (defScope sRight) := ⟨rfl, rfl, rfl, by decide +kernel, rfl, by decide +kernel, by decide +kernel⟩
theorem l1Free : ∀ y ∈ l1.2.2.names, y.2 = NameKind.free → (defScope sRight).names.lookup y.1 = some NameKind.cell ∨ (defScope sRight).names.lookup y.1 = some NameKind.free := by decide +kernel
theorem l1Seen : ∀ y ∈ (["_law_wide", "_law_one"] : List Str), (y, NameKind.free) ∈ l1.2.2.names := by decide +kernel
theorem l2Free : ∀ y ∈ l2.2.2.names, y.2 = NameKind.free → (defScope sRight).names.lookup y.1 = some NameKind.cell ∨ (defScope sRight).names.lookup y.1 = some NameKind.free := by decide +kernel
theorem l2Seen : ∀ y ∈ (["_law_wide", "_law_one"] : List Str), (y, NameKind.free) ∈ l2.2.2.names := by decide +kernel
theorem wtFree : ∀ y ∈ wt.2.2.names, y.2 = NameKind.free → (defScope sRight).names.lookup y.1 = some NameKind.cell ∨ (defScope sRight).names.lookup y.1 = some NameKind.free := by decide +kernel
theorem wtSeen : ∀ y ∈ (["_law_seen", "_law_gate"] : List Str), (y, NameKind.free) ∈ wt.2.2.names := by decide +kernel
/-- the reading of the inner lambda, of the keywords -/
def tIn65 (c' P' : Addr) : L2.TE := fun _ H Q => H c' = some (CodeT c' qLam P') ∧ LamX.TabS H P' qIn ∧ ∀ (f2 : Addr) (H1 : Hp), ExtP P' H H1 → LamX.TabS H1 P' qIn → Q (.ref f2) H1
def tKs (c' P' : Addr) : TA := tCons (tVar 14) (tCons (tIn65 c' P') tNil)
structure TxR (K : PySem.W.Frag) (mg : Str → Option Value) where
  T : TxTr K mg
  eN : TxEr K mg "NotAReading" "value" sENR "NotAReading.__init__"
  C : TxCm K mg eN.C T.A.E.R.xN.C
  L : TxLr K mg
  eL : L.T = T.A.E.R.N.T
  no : NoB K T.A.E.R.CR
  kL : PySem.W.kitOne K (.ref T.A.E.R.N.T.C) (.ref T.A.E.R.CR) = some false
  D : TxD K mg
  B : TxB K mg
  mmin : mg "min" = none
  repr : mg "repr" = none
  str : mg "str" = none
  bool : mg "bool" = none
  nb : PySem.W.findIn K (.ref T.A.E.R.CR) "__bool__" = some none
  tale : Df K mg "_law_tale" sTale ["_law_jar_here", "_law_wide", "_law_many"]
  at_ : Df K mg "_law_is_at" sAt ["_law_live", "_law_wide", "_law_tale_here", "_law_box_here"]
  le : Sm K T.A.E.R.N.T.C "__eq__" "Loop.__eq__" sLEq ["self", "other"]
  mov : Df K mg "_law_moved" sMov ["_law_live", "_law_wide", "_law_steps"]
  nst : Df K mg "_law_nested" sNest PNs
  fal : Df K mg "_law_fallen" sFal ["_law_live"]
  bxs : Df K mg "_law_boxes" sBoxes ["_law_made", "_law_wide", "_law_tale_here"]
  mKE : mg "KeyError" = none
  KA : KBinds K T.att.fd ["reading", "act"] ["reading", "act"] gAt gAtV
section
variable {P : Program} {w : World} {K : PySem.W.Frag} {mg : Str → Option Value} {base : Heap}
def TxR.Lr (R : TxR K mg) : TxRl K mg := ⟨R.T.A.E.R, R.D, R.repr, R.str, R.bool, R.nb, R.tale, R.at_, R.le⟩
def TxR.O (R : TxR K mg) : TxO K mg := ⟨R.T.A.E.R, R.L, R.eL, R.no, R.kL⟩
def spA1 (T : TxTr K mg) (X : Cx) (ws : List (Option V)) : Sp := fun vs H Q E => ∃ fc : (Addr × Addr) × Addr, spAtt T fc.1.1 (JLT fc.1.1 (mkL X l1.1 l1.2.2 fc.1.2) l1.2.1 fc.2) (spLm T.A.E.R ws) vs H Q E
def spW2 (T : TxTr K mg) (X : Cx) (ws : List (Option V)) : Sp := fun vs H Q E => ∃ fc : (Addr × Addr) × Addr, spWi T fc.1.1 (JLT fc.1.1 (mkL X l2.1 l2.2.2 fc.1.2) l2.2.1 fc.2) (spLm T.A.E.R ws) vs H Q E
def spFW (T : TxTr K mg) (X : Cx) (ws : List (Option V)) : V → Sp := fun kv vs H Q E => ∃ fc : (Addr × Addr) × Addr, ∃ ws' rest, vs = ws' ++ rest ∧ ws'.length = ["self"].length ∧ rest.length ≤ sizeLine ∧ ∀ p, H p = Option.none → spFA T.A (fun lv E1 i H' cont => JLT fc.1.1 (mkL X wt.1 wt.2.2 fc.1.2) wt.2.1 fc.2 H' ∧ spWt T fc.2 ws [.ref lv, .int (i : Nat)] H' (fun _ H2 => cont H2) E1) (.ref fc.1.1) kv (ws' ++ [V.ref p]) (upd H p (.tup rest)) Q E
def spRight5 (PF PN PR : Addr) : Sp := fun vs H Q _ => ∃ j : Addr, vs = [.ref j] ∧ Jar H j ∧ Tk PF PN PR H ∧ ∀ H', OffN j H H' → Tk PF PN PR H' → Q (.bl true) H'
theorem ok_right {f cR cF cN PF PN PR : Addr} {fd : FuncData} (F : Fun K "_law_right" "_law_right" sRight f fd) (R : TxR K mg) (hcd : fd.code = .ref cR) (sm : ∃ ob, base.get? sysModules = some ob) (TB : LamX.TabB base mg cR PR) (hcF : R.fal.fd.code = .ref cF) (TF : LamX.TabB base mg cF PF) (hcN : R.nst.fd.code = .ref cN) (TN : LamX.TabB base mg cN PN) : Gd.FnG P w K mg base CX0 20 f fd ["_law_jar_here"] (spRight5 PF PN PR) := by
  have GS : FnOk P w K mg base CX0 1 R.D.sip.f R.D.sip.fd ["_law_jar_here", "_law_many"] spSip := gk_sip R.D
  have GF : FnOk P w K mg base CX0 2 R.D.frm.f R.D.frm.fd ["_law_jar_here", "_law_things"] (spFrom K) := gk_from R.D
  have GO : FnOk P w K mg base CX0 4 R.D.lop.f R.D.lop.fd ["_law_jar_here", "_law_most"] spLoop := ok_loop R.D
  have GLn : FnOk P w K mg base CX0 1 R.D.lin.f R.D.lin.fd ["_law_begun", "_law_ended"] spLine := ok_line R.D
  have GM : FnOk P w K mg base (L2.CX P w) 4 R.T.A.E.R.N.T.fI R.T.A.E.R.N.T.fdI ["self", "text"] (spLI K R.T.A.E.R.N.T.C R.T.A.E.R.N.T.E.C) := ok_li R.T.A.E.R.N.T
  have GRd : FnOk P w K mg base (L2.CX P w) 4 R.T.A.E.R.fR R.T.A.E.R.fdR ["self", "loop", "size"] (spRdI R.T.A.E.R) := ok_rdi R.T.A.E.R
  have GT : FnOk P w K mg base CX0 3 R.tale.f R.tale.fd ["_law_jar_here", "_law_wide", "_law_many"] spTale := ok_tale R.Lr
  have GFe : FnOk P w K mg base (L2.CX P w) 6 R.T.A.E.R.fe.f R.T.A.E.R.fe.fd ["self", "count", "told"] (spRdT R.T.A.E.R) := ok_rdf R.T.A.E.R
  have GA : FnOk P w K mg base CX0 5 R.at_.f R.at_.fd ["_law_live", "_law_wide", "_law_tale_here", "_law_box_here"] (spAt R.Lr) := ok_at R.Lr
  have GUn : FnOk P w K mg base (L2.CX P w) 2 R.T.A.E.R.un.f R.T.A.E.R.un.fd ["self"] (spRdU R.T.A.E.R) := ok_rdu R.T.A.E.R
  have GBx : FnOk P w K mg base CX0 4 R.bxs.f R.bxs.fd ["_law_made", "_law_wide", "_law_tale_here"] spBoxes := ok_boxes R.B R.bxs
  have GTr : FnOk P w K mg base CX0 3 R.T.tr.f R.T.tr.fd ["self"] (spTr R.T) := ok_tr R.T
  have GFal : FnOk P w K mg base CX0 18 R.fal.f R.fal.fd ["_law_live"] (spFal R.T PF) := ok_fal R.T R.mKE R.fal.F hcF TF
  have GNs : FnOk P w K mg base CX0 19 R.nst.f R.nst.fd PNs (spNest R.T PN) := ok_nest R.T R.D.J.len R.mmin R.mov R.nst.F hcN TN
  have GL : FnR P w K mg base CX0 1 R.T.A.E.R.rl.f (fun vs H Q E => spRdL R.T.A.E.R (vs ++ []) H Q E) := (ok_rdl R.T.A.E.R).raw R.T.A.E.R.rl.b .nil
  have GH : FnOk P w K mg base CX0 1 R.T.A.E.R.pH.f R.T.A.E.R.pH.fd ["self"] (spRd R.T.A.E.R fun _ h _ _ => .ref h) := ok_rdh R.T.A.E.R
  have GAE : FnOk P w K mg base (L2.CX P w) 4 R.T.att.f R.T.att.fd ["reading", "act"] (spAttE R.T R.eN.C) := ok_attE R.T R.eN
  obtain ⟨ob, sm⟩ := sm
  obtain ⟨oc, od, kV, doc, pm, an, cdv0, ct, osl, efd, lkC, hcgC⟩ := R.C.cm.F.ex
  have bC := R.C.cm.b
  rw [efd] at bC lkC
  refine Gd.okG F scRight (fun vs H Q E h => ?_) (fun cdv A outer s H vs Q E _ _ ecd hgd hr h => ?_)
  · obtain ⟨j, rfl, _⟩ := h
    rfl
  · obtain ⟨j, rfl, hJ, hT, k⟩ := h
    have ec : cdv = .ref cR := ecd.symm.trans hcd
    subst ec
    have hu := hu_of hr
    have hr1 : Room 1 _ := hr.mono (by decide)
    have hr2 : Room 2 _ := hr.mono (by decide)
    have hr3 : Room 3 _ := hr.mono (by decide)
    have hr4 : Room 4 _ := hr.mono (by decide)
    have hr5 : Room 5 _ := hr.mono (by decide)
    have hr6 : Room 6 _ := hr.mono (by decide)
    have hr16 : Room 16 _ := hr.mono (by decide)
    have hr17 : Room 17 _ := hr.mono (by decide)
    have hr18 : Room 18 _ := hr.mono (by decide)
    have hr19 : Room 19 _ := hr
    have sb : L2.Sub (cxOf CX0 P w K mg base NR "_law_right" (defScope sRight) f (.ref cR) A outer s H E).nox 3 ((cxOf CX0 P w K mg base NR "_law_right" (defScope sRight) f (.ref cR) A outer s H E).nox).A.in1 := ⟨hr4.in1, rfl⟩
    have GA1 : ∀ (ws : List (Option V)) (base' : Heap), CellsB (cloFrom ((cxOf CX0 P w K mg base NR "_law_right" (defScope sRight) f (.ref cR) A outer s H E).nox).env.cells l1.2.2.names []) ["_law_wide", "_law_one"] ws base' → (∀ b o, base.get? b = some o → base'.get? b = some o) → FnOk P w K mg base' CX0 17 R.T.att.f R.T.att.fd ["reading", "act"] (spA1 R.T (cxOf CX0 P w K mg base NR "_law_right" (defScope sRight) f (.ref cR) A outer s H E).nox ws) := fun ws base' CB st =>
      fn_exN fun fc => ok_att R.T (by decide) (fv_l1 R.T.A.E.R R.D.J.len R.mmin R.mov _ fc.1.1 fc.1.2 fc.2 CB) (spLm_mono R.T.A.E.R ws)
    have GW2 : ∀ (ws : List (Option V)) (base' : Heap), CellsB (cloFrom ((cxOf CX0 P w K mg base NR "_law_right" (defScope sRight) f (.ref cR) A outer s H E).nox).env.cells l2.2.2.names []) ["_law_wide", "_law_one"] ws base' → (∀ b o, base.get? b = some o → base'.get? b = some o) → FnOk P w K mg base' CX0 16 R.T.wit.f R.T.wit.fd ["trial", "act"] (spW2 R.T (cxOf CX0 P w K mg base NR "_law_right" (defScope sRight) f (.ref cR) A outer s H E).nox ws) := fun ws base' CB st =>
      fn_exN fun fc => ok_wit (k := 15) R.T (by decide) (by decide) (fv_l2 R.T.A.E.R R.D.J.len R.mmin R.mov _ fc.1.1 fc.1.2 fc.2 CB) (spLm_mono R.T.A.E.R ws)
    have GFW : ∀ (ws : List (Option V)) (base' : Heap), CellsB (cloFrom ((cxOf CX0 P w K mg base NR "_law_right" (defScope sRight) f (.ref cR) A outer s H E).nox).env.cells wt.2.2.names []) ["_law_seen", "_law_gate"] ws base' → (∀ b o, base.get? b = some o → base'.get? b = some o) → StK.FnK P w K mg base' (L2.CX P w) 16 R.T.A.fA "watch" (spFW R.T (cxOf CX0 P w K mg base NR "_law_right" (defScope sRight) f (.ref cR) A outer s H E).nox ws) := fun ws base' CB st =>
      fnK_ex fun fc => ok_faV R.T.A (by decide) (ok_wt65 R.T R.D.J.len (TabB.keeps TB st) _ rfl fc.1.1 fc.1.2 fc.2 CB) (spWt_mono R.T fc.2 ws)
    have lam : ∀ {X : Cx} {params : Arguments} {body : Expr} {scope : Scope} {t : Addr → Addr → List (Option V) → XK → L2.TE} {p lpos pos : Pos} (eX : X = (cxOf CX0 P w K mg base NR "_law_right" (defScope sRight) f (.ref cR) A outer s H E).nox) (L : LamX.LamS X.env.scope scope) (hdef : defaultsOf params X.env = ([], []))
        (hbind : ∀ (q : Str) (cl : List (Str × Addr)) (pm cv ctv : Value), bindArgs (PySem.W.kla_fn "<lambda>" q params body scope cl pm cv ctv) ⟨[], []⟩ = pure [])
        (hbody : ∀ (ws : List (Option V)) (A : Around) (outer : List Env) (s : Shared) (H : Hp) (E : XK) (f c' P' : Addr), Room 6 (A.deeper (LamX.lamEnv X scope s.heap.objs.size f c')) → PE (LamX.lamCx X A outer s H E scope f c') body (t c' P' ws E)),
        PE X (.Call (.Name "_law_came" p) [.Lambda params body scope lpos] [] pos) (tLam3 [PF, PN] PR qLam qIn (TCame R.eN.C R.T.A.E.R.xN.C) [] t) := by
      intro X params body scope t p lpos pos eX L hdef hbind hbody
      subst eX
      exact pe_lamcall3 (k := 6) (cl := []) (fr := []) (js := []) rfl R.C.cm.g R.C.cm.k lkC hcgC bC scCame rfl (.inl rfl) (came_gives (X := (cxOf CX0 P w K mg base NR "_law_right" (defScope sRight) f (.ref cR) A outer s H E).nox) R.C) TB rfl (hr.mono (by decide)) L hdef hbind (fun ok => ⟨(fun y c e => by cases e), (fun y hy => nomatch hy), (fun y hy => nomatch hy), rfl⟩) (fun _ _ _ => rfl) (fun ws A outer s H E f c' P' _ _ hr2 => hbody ws A outer s H E f c' P' hr2)
    refine ⟨_, (C8.pss_cut (ps_asg (pe_tup (pa_cons (pe_call GO hr4 rfl R.D.lop.g R.D.lop.k R.D.lop.b .nil pass0 (pa_cons (pv 0) (pa_cons pe_int pa_nil))) (pa_cons (pe_op op_add pe_int (pe_call GS hr1 rfl R.D.sip.g R.D.sip.k R.D.sip.b .nil pass0 (pa_cons (pv 0) (pa_cons pe_int pa_nil)))) pa_nil))) (pg_tup rfl (pgs_cons (pg_name (i := 1) scRight.nd rfl (.inl rfl)) (pgs_cons (pg_name (i := 2) scRight.nd rfl (.inr rfl)) pgs_nil)))) (C8.pss_cut (ps_if (pt_cmpR op_in_str pe_str (pe_join pe_str (pe_ix ix_tup (pv 1) pe_int (fun _ _ => rfl))) (by rfl)) (pss_one (ps_set (i := 1) scRight.nd rfl (.inl rfl) (pe_tup (pa_cons (pe_lst (pa_cons pe_str (pa_cons pe_str (pa_cons pe_str (pa_cons pe_str pa_nil))))) (pa_cons (pe_lst (pa_cons pe_str pa_nil)) pa_nil))))) pss_nil) (C8.pss_cut (ps_asg (pe_tup (pa_cons (pe_make R.T.A.E.R.MR GRd hr5 rfl R.T.A.E.R.gR R.T.A.E.R.bR .nil pass_none (pa_cons (pe_make R.T.A.E.R.N.T.MI GM hr5 rfl R.T.A.E.R.N.T.gC R.T.A.E.R.N.T.bI .nil pass_none (pa_cons (pe_call GLn hr1 rfl R.D.lin.g R.D.lin.k R.D.lin.b .nil pass0 (pa_cons (pe_ix ix_tup (pv 1) pe_int (fun _ _ => rfl)) (pa_cons (pe_ix ix_tup (pv 1) pe_int (fun _ _ => rfl)) pa_nil))) pa_nil)) (pa_cons (pv 2) pa_nil))) (pa_cons (pe_lst pa_nil) pa_nil))) (pg_tup rfl (pgs_cons (pg_name (i := 3) scRight.nd rfl (.inr rfl)) (pgs_cons (pg_name (i := 4) scRight.nd rfl (.inl rfl)) pgs_nil)))) (C8.pss_cut (ps_for PassesOwn.never rfl (pi_list (pe_call GT hr3 rfl R.tale.g R.tale.k R.tale.b .nil pass0 (pa_cons (pv 0) (pa_cons (pv 2) (pa_cons (pe_call GS hr1 rfl R.D.sip.g R.D.sip.k R.D.sip.b .nil pass0 (pa_cons (pv 0) (pa_cons pe_int pa_nil))) pa_nil))))) (pg_tup rfl (pgs_cons (pg_name (i := 5) scRight.nd rfl (.inl rfl)) (pgs_cons (pg_name (i := 6) scRight.nd rfl (.inl rfl)) pgs_nil))) (pss_cons (ps_expr (pe_meth (pv 3) R.T.A.E.R.clR R.T.A.E.R.fe.m GFe hr6 R.T.A.E.R.fe.b .nil pass_none (pa_cons (pv 5) (pa_cons pe_bl pa_nil)))) (pss_one (ps_expr (pe_bm PySem.F.plainAttrs_list PySem.F.slot_list_append PySem.F.type_list_append mt_append (pv 4) (pa_cons (pe_tup (pa_cons (pv 5) (pa_cons pe_bl pa_nil))) pa_nil)))))) (C8.pss_cut (ps_asg (pe_tup (pa_cons (pe_call GBx hr4 rfl R.bxs.g R.bxs.k R.bxs.b .nil pass0 (pa_cons (pv 1) (pa_cons (pv 2) (pa_cons (pv 4) pa_nil)))) (pa_cons (pe_call GT hr3 rfl R.tale.g R.tale.k R.tale.b .nil pass0 (pa_cons (pv 0) (pa_cons (pv 2) (pa_cons pe_int pa_nil)))) (pa_cons (pe_call GT hr3 rfl R.tale.g R.tale.k R.tale.b .nil pass0 (pa_cons (pv 0) (pa_cons (pv 2) (pa_cons pe_int pa_nil)))) pa_nil)))) (pg_tup rfl (pgs_cons (pg_name (i := 7) scRight.nd rfl (.inl rfl)) (pgs_cons (pg_name (i := 8) scRight.nd rfl (.inr rfl)) (pgs_cons (pg_name (i := 9) scRight.nd rfl (.inl rfl)) pgs_nil))))) (C8.pss_cut (ps_set (i := 5) scRight.nd rfl (.inl rfl) (pe_callSR (js := [2, 8]) (fr := ["_law_wide", "_law_one"]) (fun ws base' CB st => GA1 ws base' CB st) (fun ok => Caps.made (scope := l1.2.2) ok l1Free l1Seen rfl) (fun _ _ _ => rfl) hr17 rfl R.T.att.g R.T.att.k R.T.att.b .nil pass0 (pa_cons (pv 3) (pa_cons (pe_lamT (S := [PF, PN]) (q' := qIn) (params := l1.1) (body := l1.2.1) (scope := l1.2.2) TB rfl rfl (fun ok y hy e => (l1Free y hy e).elim (fun z => ok.has _ (.inl z)) fun z => ok.has _ (.inr z))) pa_nil)))) (C8.pss_cut (ps_set (i := 10) scRight.nd rfl (.inr rfl) (pe_meth0 (pv 3) R.T.A.E.R.clR R.T.tr.m GTr hr3 R.T.tr.b .nil pass0)) (C8.pss_cut (ps_if (pt_not (pt_val (pe_call GA hr5 rfl R.at_.g R.at_.k R.at_.b .nil pass0 (pa_cons (pv 3) (pa_cons (pv 2) (pa_cons (pv 4) (pa_cons (pe_ix ix_list (pv 7) (pe_un un_neg pe_int) (fun _ _ => rfl)) pa_nil))))))) (pss_one (ps_ret pe_bl)) pss_nil) (C8.pss_cut (ps_if (pt_cmpR op_ne (pe_callSR (js := [2, 8]) (fr := ["_law_wide", "_law_one"]) (fun ws base' CB st => GW2 ws base' CB st) (fun ok => Caps.made (scope := l2.2.2) ok l2Free l2Seen rfl) (fun _ _ _ => rfl) hr16 rfl R.T.wit.g R.T.wit.k R.T.wit.b .nil pass0 (pa_cons (pv 10) (pa_cons (pe_lamT (S := [PF, PN]) (q' := qIn) (params := l2.1) (body := l2.2.1) (scope := l2.2.2) TB rfl rfl (fun ok y hy e => (l2Free y hy e).elim (fun z => ok.has _ (.inl z)) fun z => ok.has _ (.inr z))) pa_nil))) (pv 5) (nomark _)) (pss_one (ps_ret pe_bl)) pss_nil) (C8.pss_cut (ps_set (i := 11) scRight.nd rfl (.inl rfl) (pe_call GNs hr19 rfl R.nst.g R.nst.k R.nst.b .nil pass0 (pa_cons (pv 3) (pa_cons (pv 2) (pa_cons (pv 10) (pa_cons (pv 8) (pa_cons (pv 9) pa_nil))))))) (C8.pss_cut (ps_if (PW.pt (pw_or (pt_cmpR op_notBl (pe_ix ix_list (pv 11) pe_int (fun _ _ => rfl)) pe_bl (nomark _)) (pw_or (pt_not (pt_val (pe_call GA hr5 rfl R.at_.g R.at_.k R.at_.b .nil pass0 (pa_cons (pv 3) (pa_cons (pv 2) (pa_cons (pv 4) (pa_cons (pe_ix ix_list (pv 7) (pe_un un_neg pe_int) (fun _ _ => rfl)) pa_nil))))))) (pw_or1 (pt_not (pt_val (pe_call GFal hr18 rfl R.fal.g R.fal.k R.fal.b .nil pass0 (pa_cons (pv 3) pa_nil)))))))) (pss_one (ps_ret pe_bl)) pss_nil) (C8.pss_cut (ps_if (pt_not (pt_val (pe_call GA hr5 rfl R.at_.g R.at_.k R.at_.b .nil pass0 (pa_cons (pv 3) (pa_cons (pv 2) (pa_cons (pv 4) (pa_cons (pe_ix ix_list (pv 7) (pe_un un_neg pe_int) (fun _ _ => rfl)) pa_nil))))))) (pss_one (ps_ret pe_bl)) pss_nil) (pss_cons (ps_set (i := 12) scRight.nd rfl (.inr rfl) (pe_lst pa_nil)) (C8.pss_cut (ps_expr (StK.pe_methSR (E := C8.E0) (js := [12, 10]) (fr := ["_law_seen", "_law_gate"]) (pv 3) R.T.A.E.R.clR R.T.A.mA (fun ws base' CB st => GFW ws base' CB st) (fun ok => Caps.made (scope := wt.2.2) ok wtFree wtSeen rfl) (fun _ _ _ => rfl) hr16 pass_none (pa_cons (pe_tup (pa_cons pe_str (pa_cons pe_int (pa_cons pe_bl pa_nil)))) pa_nil) (pk_cons (pe_lamT (S := [PF, PN]) (q' := qIn) (params := wt.1) (body := wt.2.1) (scope := wt.2.2) TB rfl rfl (fun ok y hy e => (wtFree y hy e).elim (fun z => ok.has _ (.inl z)) fun z => ok.has _ (.inr z))) pk_nil))) (C8.pss_cut (ps_if (PW.pt (pw_or (pt_cmpR (op_neD (hu64 hr)) (pv 12) (pe_lst (pa_cons (pe_op op_add (pe_callB call_len_seq (by rfl) R.D.J.len PySem.boot_len (pa_cons (pv 4) pa_nil)) pe_int) pa_nil)) (nomark _)) (pw_or1 (pt_cmpR op_ne (pe_callB (call_lenO R.T.A.E.R.rl.i R.T.A.E.R.rl.fn GL hr2) (by rfl) R.D.J.len PySem.boot_len (pa_cons (pv 3) pa_nil)) (pe_op op_add (pe_callB call_len_seq (by rfl) R.D.J.len PySem.boot_len (pa_cons (pv 4) pa_nil)) pe_int) (nomark _))))) (pss_one (ps_ret pe_bl)) pss_nil) (C8.pss_cut (ps_for PassesOwn.never rfl (pi_range1 rfl R.D.range (pa_cons (pe_op op_add (pe_callB call_len_seq (by rfl) R.D.J.len PySem.boot_len (pa_cons (pv 4) pa_nil)) pe_int) pa_nil)) (pg_name (i := 13) scRight.nd rfl (.inl rfl)) (pss_one (ps_expr (pe_meth0 (pv 3) R.T.A.E.R.clR R.T.A.E.R.un.m GUn hr2 R.T.A.E.R.un.b .nil pass_none)))) (C8.pss_cut (ps_set (i := 14) scRight.nd rfl (.inr rfl) (pe_call GF hr2 rfl R.D.frm.g R.D.frm.k R.D.frm.b .nil pass0 (pa_cons (pv 0) (pa_cons (pe_lst (pa_cons pe_non (pa_cons pe_str (pa_cons pe_int (pa_cons (pe_tup pa_nil) (pa_cons (pe_fld (pv 3) rfl) (pa_cons pe_dnewK (pa_cons (pe_lst (pa_cons (pv 3) pa_nil)) pa_nil)))))))) pa_nil)))) (C8.pss_cut (ps_if (PW.pt (pw_or (pt_cmpR (op_neD (hu64 hr)) (lam (t := fun _ _ _ E => tMeth R.T.A.E.R.CR "undo" (spRdU R.T.A.E.R) [] E (tVar 3) tNil) rfl (LamX.lamS_by (sc := defScope sRight) (by decide +kernel)) rfl (fun _ _ _ _ _ => rfl) (fun ws A outer s H E f c' P' hrl => pe_meth0 (pv 3) R.T.A.E.R.clR R.T.A.E.R.un.m GUn (hrl.mono (by decide)) R.T.A.E.R.un.b .nil (passes_call (takes_of rfl rfl rfl rfl) fun _ _ _ _ z => z))) (pe_lst (pa_cons pe_str (pa_cons pe_bl pa_nil))) (nomark _)) (pw_or1 (pt_cmpR (op_neD (hu64 hr)) (pe_prop (pv 3) R.T.A.E.R.clR R.T.A.E.R.pH.o GH hr2 R.T.A.E.R.pH.b .nil pass0 (by rfl)) (pe_tup pa_nil) (nomark _))))) (pss_one (ps_ret pe_bl)) pss_nil) (pss_one (ps_ret (pe_cmpR op_eq (pe_callB (RpL.call_reprN (n := 2) hgd sb) (by rfl) R.repr (by decide +kernel) (pa_cons (lam (t := fun c' P' _ E => FKw.tCallK0 (spAttE R.T R.eN.C) gAtV E (tKs c' P')) rfl (LamX.lamS_by (sc := defScope sRight) (by decide +kernel)) rfl (fun _ _ _ _ _ => rfl) (fun ws A outer s H E f c' P' hrl => FKw.pe_callK0 (E := E) GAE (hrl.mono (by decide)) rfl R.T.att.g R.T.att.k R.KA (passes_call (takes_of rfl rfl rfl rfl) fun _ _ _ _ z => z) (pk_cons (pv 14) (pk_cons (by exact pe_imp (t' := tIn65 c' P') (pe_lamD (q0 := qLam) (P := P') TB rfl rfl (no_free (by decide +kernel))) (fun σ H Q ⟨a, b, k⟩ => ⟨a, b, fun f c2 H1 e t _ _ _ => k f H1 e t⟩)) pk_nil)))) pa_nil)) (pe_callB (RpL.call_reprN (n := 2) hgd sb) (by rfl) R.repr (by decide +kernel) (pa_cons (pe_lst (pa_cons pe_str (pa_cons (pv 14) (pa_cons pe_bl pa_nil)))) pa_nil)) (nomark _)))))))))))))))))))))), ?_⟩
    have Q0 : Q5 PF PN PR j H H := ⟨OffN.refl, hJ, hT⟩
    -- made, wide
    refine ⟨fun σ H' => ∃ (ma a b : Addr) (B E : List Str) (wd : Nat), σ = [some (.ref j), some (.ref ma), some (.int (wd : Nat)), none, none, none, none, none, none, none, none, none, none, none, none] ∧ Q5 PF PN PR j H H' ∧ a ≠ j ∧ b ≠ j ∧ H' ma = some (.tup [.ref a, .ref b]) ∧ H' a = some (.lst (svs B)) ∧ H' b = some (.lst (svs E)) ∧ isRound B = true ∧ isEnding E = true ∧ 1 ≤ wd ∧ wd ≤ 4, ?_, ?_⟩
    · refine ⟨_, rfl, j, 6, rfl, hJ, by decide, by decide, fun H2 ma a b B E' W hm => ?_⟩
      have mj : ma ≠ j := fun z => by
        obtain ⟨_, _, _, q⟩ := W.J
        rw [z, q] at hm
        cases hm
      have aj := jar_ne hJ W.na
      have bj := jar_ne hJ W.nb
      refine ⟨_, rfl, j, 4, rfl, W.J, by decide, by decide, fun H3 d d0 d1 o3 J3 => ⟨_, _, rfl, rfl, (by show 2 ≤ sizeLine; decide), fun q nq => ⟨q, _, rfl, SqT.of upd_same, rfl, _, _, rfl, _, _, rfl, rfl, ?_⟩⟩⟩
      obtain ⟨n, rfl⟩ := Int.eq_ofNat_of_zero_le d0
      have e4 : (1 : Int) + (n : Int) = ((1 + n : Nat) : Int) := by omega
      have u1 := same_new (o := .tup [.ref ma, .int ((1 : Int) + (n : Int))]) nq
      refine ⟨ma, a, b, B, E', 1 + n, ?_, ((Q0.offj W.o W.J).offj o3 J3).same u1, aj, bj, u1 _ _ (o3 _ _ mj hm), u1 _ _ (o3 _ _ aj W.ha), u1 _ _ (o3 _ _ bj W.hb), W.rB, W.rE, by omega, by omega⟩
      simp only [← e4]
      rfl
    rintro _ H2 ⟨ma0, a0, b0, B1, E1, wd, rfl, Q2, aj0, bj0, hm0, ha0, hb0, rB0, rE0, w1, w2⟩
    clear Q0
    -- a loop that stops is taken for another
    refine ⟨fun σ H' => ∃ (ma a b : Addr) (B E : List Str), σ = [some (.ref j), some (.ref ma), some (.int (wd : Nat)), none, none, none, none, none, none, none, none, none, none, none, none] ∧ Q5 PF PN PR j H H' ∧ a ≠ j ∧ b ≠ j ∧ H' ma = some (.tup [.ref a, .ref b]) ∧ H' a = some (.lst (svs B)) ∧ H' b = some (.lst (svs E)) ∧ isRound B = true ∧ isEnding E = true ∧ NoSt wd (textOf B E), ?_, ?_⟩
    · have sh0 := (round_sht rB0).mono (m := 100) (by decide)
      refine ⟨⟨_, rfl⟩, _, rfl, ma0, _, 0, _, rfl, rfl, SqT.of hm0, rfl, " ", a0, B1, rfl, rfl, .inl (SqL.of ha0), ?_, _, _, rfl, rfl, _, rfl, ?_⟩
      · rw [show (" " : Str).length = 1 by decide +kernel]
        have := sh0.sum
        omega
      refine ite2 (fun c => ?_) (fun c => ?_)
      · refine ⟨(by show 4 ≤ sizeLine; decide), fun a na => ⟨(by show 1 ≤ sizeLine; decide), fun b nb => ⟨(by show 2 ≤ sizeLine; decide), fun ma nma => ?_⟩⟩⟩
        have u1 := same_new (o := .lst [V.str "ask", .str "add", .str "cut", .str "told:stop"]) na
        have u2 := same_new (o := .lst [V.str "rest:flush"]) nb
        have u3 := same_new (o := .tup [.ref a, .ref b]) nma
        exact ⟨ma, a, b, B0, E0, rfl, ((Q2.same u1).same u2).same u3, jar_ne Q2.jar na, jar_ne (Q2.same u1).jar nb, upd_same, u3 _ _ (u2 _ _ upd_same), u3 _ _ upd_same, B0_round, E0_end, by rw [t0_text]; exact noSt wd⟩
      · refine ⟨ma0, a0, b0, B1, E1, rfl, Q2, aj0, bj0, hm0, ha0, hb0, rB0, rE0, noSt_no ?_⟩
        rw [(ords_text2 rB0 rE0).1]
        exact no_stop (Bool.eq_false_iff.mpr c)
    rintro _ H3 ⟨ma, a, b, B, E', rfl, Q3, aj, bj, hm, ha, hb, rB, rE, ns⟩
    clear Q2 hm0 ha0 hb0 aj0 bj0 rB0 rE0
    have gt := text_good rB rE
    have hlen := text_len rB rE
    have bd : Bd (textOf B E') := Nat.le_trans hlen (by decide)
    have nB : B ≠ [] := round_ne rB
    have shB := (round_sht rB).mono (m := 100) (by decide)
    have shE := (ending_sht rE).mono (m := 100) (by decide)
    -- live, tale
    refine ⟨fun σ H' => ∃ (lv dx lo m tl : Addr), σ = [some (.ref j), some (.ref ma), some (.int (wd : Nat)), some (.ref lv), some (.ref tl), none, none, none, none, none, none, none, none, none, none] ∧ (∀ b o, b ≠ j → (∀ ps, o ≠ .tbl ps) → H b = some o → b ≠ lv) ∧ Q5 PF PN PR j H H' ∧ RdAt R.T.A.E.R H' lv dx lo m wd (textOf B E') [] ∧ H' ma = some (.tup [.ref a, .ref b]) ∧ H' a = some (.lst (svs B)) ∧ H' b = some (.lst (svs E')) ∧ tl ≠ j ∧ a ≠ tl ∧ b ≠ tl ∧ (∀ b o, b ≠ j → (∀ ps, o ≠ .tbl ps) → H b = some o → b ≠ tl) ∧ H' tl = some (.lst []), ?_, ?_⟩
    · refine ⟨_, rfl, ma, _, 0, _, rfl, rfl, SqT.of hm, rfl, _, rfl, ma, _, 1, _, rfl, rfl, SqT.of hm, rfl, a, b, B, E', rfl, ha, hb, shB, shE, ending_asc rE, fun H4 s4 => ?_⟩
      rw [line_text nB]
      intro lo dlo nlo ndlo nex
      refine ⟨lo, dlo, _, rfl, upd_same, typed_str _, bd, fun t' et _ H5 o5 l5 => ⟨rfl, ?_⟩, fun z => absurd (gt.symm.trans z) (by decide)⟩
      cases et
      have s5 := Same.trans s4 (made_same nlo ndlo o5)
      have Q5' := Q3.same s5
      refine ⟨_, rfl, ?_⟩
      intro x dx nx ndx nex2
      have sM : Same H5 (upd (upd H5 dx (.own x)) x (.ins R.T.A.E.R.CR dx [])) := fun b u e => by
        rw [upd_ne (ne_of_none e nx), upd_ne (ne_of_none e ndx)]
        exact e
      refine ⟨x, dx, lo, wd, textOf B E', rfl, upd_same, l5.same sM, w1, by omega, fun H6 m o6 hR6 => ⟨rfl, ?_⟩⟩
      have s6 := made_same nx ndx o6
      have Q6 := Q5'.same s6
      refine ⟨Nat.zero_le _, fun tl ntl => ⟨(by show 2 ≤ sizeLine; decide), fun q nq => ⟨q, _, rfl, SqT.of upd_same, rfl, _, _, rfl, _, _, rfl, rfl, ?_⟩⟩⟩
      have u1 := same_new (o := .lst []) ntl
      have u2 := same_new (o := .tup [.ref x, .ref tl]) nq
      have u := Same.trans u1 u2
      have s3 := Same.trans s5 (Same.trans s6 u)
      have nl0 : ∀ b o, b ≠ j → (∀ ps, o ≠ .tbl ps) → H b = some o → b ≠ x := fun b o nb nt e => ne_of_none (Q5'.off b o nb nt e) nx
      have nt0 : ∀ b o, b ≠ j → (∀ ps, o ≠ .tbl ps) → H b = some o → b ≠ tl := fun b o nb nt e => ne_of_none (Q6.off b o nb nt e) ntl
      have s36 := Same.trans s5 s6
      exact ⟨x, dx, lo, m, tl, rfl, nl0, Q6.same u, hR6.same u, s3 _ _ hm, s3 _ _ ha, s3 _ _ hb, jar_ne Q6.jar ntl, ne_of_none (s36 _ _ ha) ntl, ne_of_none (s36 _ _ hb) ntl, nt0, u2 _ _ upd_same⟩
    rintro _ H4 ⟨lv, dx, lo, m0, tl, rfl, nl, Q4, R4, hm4, ha4, hb4, tlj, atl, btl, ntl, htl4⟩
    clear Q3 hm ha hb
    have lj : lv ≠ j := by
      obtain ⟨_, _, _, e⟩ := Q4.jar
      exact ne_of R4.at_ e (by intro z; cases z)
    have ltl : lv ≠ tl := ne_of R4.at_ htl4 (by intro z; cases z)
    -- fed
    refine ⟨fun σ H' => ∃ (m : Addr) (xs : List V) (ns : List Nat) (v5 v6 : Option V), σ = [some (.ref j), some (.ref ma), some (.int (wd : Nat)), some (.ref lv), some (.ref tl), v5, v6, none, none, none, none, none, none, none, none] ∧ Q5 PF PN PR j H H' ∧ RdAt R.T.A.E.R H' lv dx lo m wd (textOf B E') (mkR ns) ∧ H' ma = some (.tup [.ref a, .ref b]) ∧ H' a = some (.lst (svs B)) ∧ H' b = some (.lst (svs E')) ∧ H' tl = some (.lst xs) ∧ Rps H' xs (ns.map fun n => (n, false)) ∧ ns.length ≤ 4 ∧ ∀ n ∈ ns, n ≤ wd, ?_, ?_⟩
    · refine ⟨_, rfl, _, rfl, _, rfl, j, 5, rfl, Q4.jar, by decide, by decide, fun H5 d d0 d1 o5 J5 => ?_⟩
      obtain ⟨dn, rfl⟩ := Int.eq_ofNat_of_zero_le d0
      refine ⟨j, wd, dn, rfl, J5, w1, by omega, by omega, fun H6 q xs rs o6 J6 qj hq hRq lr hbq => ?_⟩
      have o46 := o5.trans o6
      obtain ⟨jx, jy, jz, hj4⟩ := id Q4.jar
      have Q6 := Q4.offj o46 J6
      have R6 := R4.offq hj4 o46
      have hm6 := o46 _ _ (ne_of hm4 hj4 (by intro z; cases z)) hm4
      have ha6 := o46 _ _ aj ha4
      have hb6 := o46 _ _ bj hb4
      have htl6 := o46 _ _ tlj htl4
      have lx := hRq.len
      have ok2 : ∀ {Hx : Hp} {ys : List V} {k : Nat}, (∀ b o, b ≠ lv → b ≠ tl → H6 b = some o → Hx b = some o) → Hx tl = some (.lst ys) → Rps Hx ys (((rs.map (·.1)).take k).map fun n => (n, false)) → Hx q = some (.lst xs) := fun {Hx ys k} ob hy hr => by
        by_cases c : q = tl
        · rw [c] at hq ⊢
          rw [htl6] at hq
          have e0 : xs = [] := (HO.lst.inj (Option.some.inj hq)).symm
          rw [e0] at lx
          have e1 : rs = [] := List.length_eq_zero_iff.mp lx.symm
          rw [e1] at hr
          have l2 := hr.len
          simp at l2
          rw [hy, l2, e0]
        · exact ob _ _ (ne_of hq R6.at_ (by intro z; cases z)) c hq
      refine ⟨q, rfl, ⟨_, SqL.of hq⟩, for_list (xs := xs) (fun i σ H' => ∃ (m : Addr) (ys : List V) (v5 v6 : Option V), σ = [some (.ref j), some (.ref ma), some (.int (wd : Nat)), some (.ref lv), some (.ref tl), v5, v6, none, none, none, none, none, none, none, none] ∧ (∀ b o, b ≠ lv → b ≠ tl → H6 b = some o → H' b = some o) ∧ RdAt R.T.A.E.R H' lv dx lo m wd (textOf B E') (mkR ((rs.map (·.1)).take i)) ∧ H' tl = some (.lst ys) ∧ Rps H' ys (((rs.map (·.1)).take i).map fun n => (n, false)))
        ⟨m0, [], none, none, rfl, (fun b o _ _ e => e), R6, htl6, .nil⟩ (fun i σ H' _ ⟨_, _, _, _, _, ob, _, hy, hr⟩ => SqL.of (ok2 ob hy hr)) ?_ ?_⟩
      · rintro i x σ H7 hx ⟨m, ys, v5, v6, rfl, ob, R7, hys, hRy⟩
        obtain ⟨q0, r0, hr0, rfl, hq0⟩ := hRq.get hx
        have hni : (rs.map (·.1))[i]? = some r0.1 := by rw [List.getElem?_map, hr0]; rfl
        have hi : i < rs.length := (List.getElem?_eq_some_iff.mp hr0).1
        have hbn : ∀ n ∈ (rs.map (·.1)).take i, n ≤ wd := fun n hn => by
          obtain ⟨r, hr, rfl⟩ := List.mem_map.mp (List.mem_of_mem_take hn)
          exact hbq r hr
        have hmm := mkR_mem (sz := wd) hbn
        have ll : (mkR ((rs.map (·.1)).take i)).length ≤ 4 := by rw [mkR_len, List.length_take]; omega
        have ly := hRy.len
        rw [List.length_map, List.length_take, List.length_map] at ly
        refine ⟨q0, _, rfl, SqT.of (ob _ _ (ne_of hq0 R6.at_ (by intro z; cases z)) (ne_of hq0 htl6 (by intro z; cases z)) hq0), rfl, _, _, rfl, _, _, rfl, rfl, ?_⟩
        refine ⟨_, rfl, lv, dx, _, rfl, R7.at_, rf_n1 .., _, rfl, lv, dx, lo, m, wd, r0.1, false, textOf B E', _, rfl, R7, gt, w1, by omega, hbq r0 (List.mem_of_getElem? hr0), by omega, okN ns hmm, fun r hr => (hmm r hr).1, fun z => absurd ((ns _ hmm).symm.trans z) (by decide), fun _ H8 m8 q8 hs8 o8 R8 _ _ _ => ?_⟩
        have hys8 := o8 _ _ ltl.symm hys
        refine ⟨_, rfl, .inl ⟨rfl, _, SqL.of hys8⟩, _, rfl, (by show 2 ≤ sizeLine; decide), fun z nz => ?_⟩
        have u9 := same_new (o := .tup [.int (r0.1 : Nat), .bl false]) nz
        have hz : (upd H8 z (.tup [.int (r0.1 : Nat), .bl false])) z = some (.tup [.int (r0.1 : Nat), .bl false]) := upd_same
        have hys9 := u9 _ _ hys8
        have st : ∀ (p : Addr) (zs : List V), (upd H8 z (.tup [.int (r0.1 : Nat), .bl false])) p = some (.tup zs) → (upd (upd H8 z (.tup [.int (r0.1 : Nat), .bl false])) tl (.lst (ys ++ [.ref z]))) p = some (.tup zs) := tup_stays hys9 (by intro xs z; cases z)
        refine ⟨tl, _, _, rfl, rfl, hys9, small1000 (by omega), m8, ys ++ [.ref z], _, _, rfl, fun b' o' n1 n2 e => ?_, ?_, upd_same, ?_⟩
        · rw [upd_ne n2]
          exact u9 _ _ (o8 _ _ n1 (ob _ _ n1 n2 e))
        · rw [take_snoc hni, mkR_snoc]
          exact (R8.same u9).offq hys9 fun b' o' n e => by rw [upd_ne n]; exact e
        · rw [take_snoc hni, List.map_append]
          exact rps_snoc (r := (r0.1, false)) (st _ _ hz) ((hRy.mono fun p zs e => u9 _ _ (o8 _ _ (ne_of e R7.at_ (by intro z; cases z)) e)).mono st)
      · rintro σ H7 ⟨m, ys, v5, v6, rfl, ob, R7, hys, hRy⟩
        rw [lx, List.take_of_length_le (by rw [List.length_map]; exact Nat.le_refl _)] at R7 hRy
        refine ⟨m, ys, rs.map (·.1), v5, v6, rfl, Q6.off2 R6.at_ htl6 (by intro ps z; cases z) (by intro g z; cases z) (by intro ps z; cases z) (by intro g z; cases z) lj tlj nl ntl ob, R7, ob _ _ (ne_of hm6 R6.at_ (by intro z; cases z)) (ne_of hm6 htl6 (by intro z; cases z)) hm6, ob _ _ (ne_of ha6 R6.at_ (by intro z; cases z)) atl ha6, ob _ _ (ne_of hb6 R6.at_ (by intro z; cases z)) btl hb6, hys, hRy, by rw [List.length_map]; omega, fun n hn => ?_⟩
        obtain ⟨r, hr, rfl⟩ := List.mem_map.mp hn
        exact hbq r hr
    rintro _ H5 ⟨m1, xs, nn, v5, v6, rfl, Q6, R5, hm5, ha5, hb5, htl5, hRp5, ln, hn⟩
    clear Q4 R4 hm4 ha4 hb4 htl4
    have hmR := mkR_mem (sz := wd) hn
    have lR := mkR_len nn
    have hRr : ∀ {Hx : Hp}, Rps Hx xs (nn.map fun n => (n, false)) → Rps Hx xs (mkR nn).reverse := fun h => by unfold mkR; rw [List.reverse_reverse]; exact h
    -- boxes, one, two
    refine ⟨fun σ H' => ∃ (bb bx s1 s2 : Addr) (ys qs xs1 xs2 : List V) (st1 st2 : List (Nat × Bool)), σ = [some (.ref j), some (.ref ma), some (.int (wd : Nat)), some (.ref lv), some (.ref tl), v5, v6, some (.ref bb), some (.ref s1), some (.ref s2), none, none, none, none, none] ∧ Q5 PF PN PR j H H' ∧ RdAt R.T.A.E.R H' lv dx lo m1 wd (textOf B E') (mkR nn) ∧ H' tl = some (.lst xs) ∧ Rps H' xs (nn.map fun n => (n, false)) ∧
      bb ≠ j ∧ H' bb = some (.lst ys) ∧ ys = qs ++ [.ref bx] ∧ BoxJ [j] H' bx (stR wd (ordsR (textOf B E')) (ordsE (textOf B E')) (mkR nn)).x (stR wd (ordsR (textOf B E')) (ordsE (textOf B E')) (mkR nn)).f (stR wd (ordsR (textOf B E')) (ordsE (textOf B E')) (mkR nn)).st ∧
      s1 ≠ j ∧ H' s1 = some (.lst xs1) ∧ Rps H' xs1 st1 ∧ st1.length = 5 ∧ s2 ≠ j ∧ H' s2 = some (.lst xs2) ∧ Rps H' xs2 st2 ∧ st2.length = 4, ?_, ?_⟩
    · obtain ⟨jx, jy, jz, hj5⟩ := id Q6.jar
      refine ⟨_, rfl, _, rfl, _, rfl, j, ma, a, b, tl, wd, B, E', mkR nn, xs, rfl, ⟨_, hj5⟩, hm5, ha5, hb5, rB, rE, w1, by omega, htl5, hRr hRp5, okN ns hmR, fun r hr => (hmR r hr).1, by omega, fun H6 bb ys s6 nbb hbb hBL => ?_⟩
      obtain ⟨bx, hyl, hBx⟩ := hBL.get (i := (mkR nn).length) (rr := mkR nn) (by rw [List.getElem?_map, List.getElem?_range (by omega)]; exact congrArg some (pre_all _))
      have ly := hBL.len
      rw [List.length_map, List.length_range] at ly
      have ey : ys = ys.take (mkR nn).length ++ [.ref bx] := by
        have e := take_snoc hyl
        rw [List.take_of_length_le (by omega)] at e
        exact e
      have hj6 := s6 _ _ hj5
      have bbj : bb ≠ j := (ne_of_none hj5 nbb).symm
      have Q7 := Q6.same s6
      refine ⟨_, rfl, _, rfl, j, wd, 5, rfl, Q7.jar, w1, by omega, by omega, fun H7 s1 xs1 st1 o7 J7 s1j hs1 hR1 l1 b1 => ?_⟩
      have Q8 := Q7.offj o7 J7
      obtain ⟨jx7, jy7, jz7, hj7⟩ := id J7
      refine ⟨_, rfl, _, rfl, j, wd, 4, rfl, J7, w1, by omega, by omega, fun H8 s2 xs2 st2 o8 J8 s2j hs2 hR2 l2 b2 => ?_⟩
      refine ⟨(by show 3 ≤ sizeLine; decide), fun q nq => ⟨q, _, rfl, SqT.of upd_same, rfl, _, _, rfl, _, _, rfl, _, _, rfl, rfl, ?_⟩⟩
      have u := same_new (o := .tup [.ref bb, .ref s1, .ref s2]) nq
      have tup7 : ∀ (p : Addr) (zs : List V), H7 p = some (.tup zs) → H8 p = some (.tup zs) := fun p zs e => o8 _ _ (ne_of e hj7 (by intro z; cases z)) e
      have tup6 : ∀ (p : Addr) (zs : List V), H6 p = some (.tup zs) → H7 p = some (.tup zs) := fun p zs e => o7 _ _ (ne_of e hj6 (by intro z; cases z)) e
      exact ⟨bb, bx, s1, s2, ys, _, xs1, xs2, st1, st2, rfl, (Q8.offj o8 J8).same u, (((R5.same s6).offq hj6 o7).offq hj7 o8).same u, u _ _ (o8 _ _ tlj (o7 _ _ tlj (s6 _ _ htl5))), ((((hRp5.mono fun p zs e => s6 _ _ e).mono tup6).mono tup7).mono fun p zs e => u _ _ e), bbj, u _ _ (o8 _ _ bbj (o7 _ _ bbj hbb)), ey, ((hBx.offS o7 (by simp) ⟨_, hj6⟩).offS o8 (by simp) ⟨_, hj7⟩).same u, s1j, u _ _ (o8 _ _ s1j hs1), (hR1.mono tup7).mono (fun p zs e => u _ _ e), l1, s2j, u _ _ hs2, hR2.mono (fun p zs e => u _ _ e), l2⟩
    rintro _ H6 ⟨bb, bx, s1, s2, ys, qs, xs1, xs2, st1, st2, rfl, Q7, R6, htl6, hRp6, bbj, hbb6, ey, hBx6, s1j, hs1, hR1, l1, s2j, hs2, hR2, l2⟩
    clear Q6 R5 hm5 ha5 hb5 htl5 hRp5
    have mv : MvOk wd (ordsR (textOf B E')) (ordsE (textOf B E')) 40 (mkR nn) := ⟨okN ns hmR, fun r hr => (hmR r hr).1, by omega⟩
    -- attempt
    refine ⟨fun σ H' => σ = [some (.ref j), some (.ref ma), some (.int (wd : Nat)), some (.ref lv), some (.ref tl), some (.int ((mvF wd (ordsR (textOf B E')) (ordsE (textOf B E')) st1 (mkR nn)).length : Nat)), v6, some (.ref bb), some (.ref s1), some (.ref s2), none, none, none, none, none] ∧ KN [] H6 H' ∧ Q5 PF PN PR j H H', ?_, ?_⟩
    · refine ⟨_, rfl, Q7.tk.tr, Q7.tk.has, fun f1 c1 P1 H7 e7 T7 nf7 hf7 hc7 hts7 np1 np2 => ?_⟩
      have Q8 := Q7.extP Q7.tk.tr.tbl e7 (Q7.tk.extR e7 T7)
      have k7 : KN [] H6 H7 := KN.extP Q7.tk.tr.tbl e7
      have kn : ∀ {b : Addr} {o : HO}, (∀ ps, o ≠ .tbl ps) → H6 b = some o → H7 b = some o := fun t e => k7 _ _ (by simp) t e
      have at7 := kn (by intro ps z; cases z) R6.at_
      have R7 := R6.ext fun b o e t => kn t e
      refine ⟨((f1, c1), P1), lv, dx, lo, m1, wd, rfl, at7, fun H8 tt dt y dy s8 ntt ny hy htt => ⟨⟨s8 _ _ hf7, s8 _ _ hc7⟩, lv, s1, wd, rfl, rfl, lv, dx, lo, m1, s1, wd, textOf B E', mkR nn, st1, xs1, rfl, R7.same s8, s8 _ _ (kn (by intro ps z; cases z) hs1), hR1.mono fun p zs e => s8 _ _ (kn (by intro ps z; cases z) e), by omega, gt, w1, by omega, ⟨mv.ok, mv.hc, Nat.le_trans mv.ln (by decide)⟩, fun H9 m9 o9 R9 _ => ?_⟩⟩
      have ntl2 : tt ≠ lv := (ne_of_none at7 ntt).symm
      have nyl2 : y ≠ lv := (ne_of_none at7 ny).symm
      refine ⟨o9 _ _ ntl2 htt, o9 _ _ nyl2 hy, ⟨m9, R9.at_⟩, ?_⟩
      have back : Same H7 (upd (upd H9 lv (.ins R.T.A.E.R.CR dx (rf lo wd false m1))) tt (.ins R.T.CT dt (tf lv .non))) := fun b o e => by
        rw [upd_ne (ne_of_none e ntt)]
        by_cases c : b = lv
        · rw [c, upd_same]
          rw [c, at7] at e
          exact e
        · rw [upd_ne c]
          exact o9 _ _ c (s8 _ _ e)
      exact ⟨rfl, k7.trans (KN.same back), Q8.same back⟩
    rintro _ H7 ⟨rfl, k7, Q8⟩
    have kn7 : ∀ {b : Addr} {o : HO}, (∀ ps, o ≠ .tbl ps) → H6 b = some o → H7 b = some o := fun t e => k7 _ _ (by simp) t e
    have R7 := R6.ext fun b o e t => kn7 t e
    -- the gate
    refine ⟨fun σ H' => ∃ gt0 dt : Addr, σ = [some (.ref j), some (.ref ma), some (.int (wd : Nat)), some (.ref lv), some (.ref tl), some (.int ((mvF wd (ordsR (textOf B E')) (ordsE (textOf B E')) st1 (mkR nn)).length : Nat)), v6, some (.ref bb), some (.ref s1), some (.ref s2), some (.ref gt0), none, none, none, none] ∧ Same H7 H' ∧ H7 gt0 = none ∧ H' gt0 = some (.ins R.T.CT dt (tf lv .non)), ?_, ?_⟩
    · exact ⟨_, rfl, lv, dx, _, rfl, R7.at_, rf_n7, lv, dx, lo, m1, wd, rfl, R7.at_, fun H8 g dt s8 ng hg => ⟨g, dt, rfl, s8, ng, hg⟩⟩
    rintro _ H8 ⟨ga, dt, rfl, s8, nga, hga⟩
    have Q9 := Q8.same s8
    have k8 := k7.trans (KN.same s8)
    have R8 := R7.same s8
    have ngl : ga ≠ lv := (ne_of_none R7.at_ nga).symm
    have ng0 : ∀ b o, b ≠ j → (∀ ps, o ≠ .tbl ps) → H b = some o → b ≠ ga := fun b o nb nt e => ne_of_none (Q8.off b o nb nt e) nga
    have gaj : ga ≠ j := by
      obtain ⟨_, _, _, e⟩ := Q8.jar
      exact (ne_of_none e nga).symm
    have nga6 : ∀ o, H6 ga = some o → ∃ ps, o = .tbl ps := fun o e => Classical.byContradiction fun c => by
      rw [k7 ga o (by simp) (fun ps z => c ⟨ps, z⟩) e] at nga
      cases nga
    clear Q8 R7 k7 kn7 nga
    -- it is as it was
    have G0 : GN H6 j [] := fun b hb => by cases hb
    have isAt : ∀ {Hx : Hp} {N : List Addr}, GN H6 j N → KN N H6 Hx → Hx tl = some (.lst xs) ∧ Rps Hx xs (mkR nn).reverse ∧ BoxAt Hx bx (stR wd (ordsR (textOf B E')) (ordsE (textOf B E')) (mkR nn)).x (stR wd (ordsR (textOf B E')) (ordsE (textOf B E')) (mkR nn)).f (stR wd (ordsR (textOf B E')) (ordsE (textOf B E')) (mkR nn)).st ∧ Hx bb = some (.lst ys) := fun {Hx N} G kx =>
      ⟨kn_lst G kx tlj htl6, (hRr hRp6).mono (kn_tup Q7.jar G kx), kn_box Q7.jar G kx hBx6, kn_lst G kx bbj hbb6⟩
    refine ⟨fun σ H' => σ = [some (.ref j), some (.ref ma), some (.int (wd : Nat)), some (.ref lv), some (.ref tl), some (.int ((mvF wd (ordsR (textOf B E')) (ordsE (textOf B E')) st1 (mkR nn)).length : Nat)), v6, some (.ref bb), some (.ref s1), some (.ref s2), some (.ref ga), none, none, none, none] ∧ Same H8 H', ?_, ?_⟩
    · obtain ⟨a1, a2, a3, a4⟩ := isAt G0 k8
      exact ⟨_, rfl, _, rfl, _, rfl, _, rfl, _, rfl, bb, _, -1, _, rfl, rfl, SqL.of a4, by rw [ey]; exact atI_last _ _, lv, dx, lo, m1, tl, bx, wd, textOf B E', mkR nn, xs, _, rfl, R8, a1, a2, a3, by omega, fun H' s' => ⟨_, rfl, iteF ⟨rfl, s'⟩⟩⟩
    rintro _ H9 ⟨rfl, s9⟩
    have Q10 := Q9.same s9
    have k9 := k8.trans (KN.same s9)
    have R9 := R8.same s9
    have hga9 := s9 _ _ hga
    clear Q9 k8 R8 hga s8 s9
    -- within
    refine ⟨fun σ H' => σ = [some (.ref j), some (.ref ma), some (.int (wd : Nat)), some (.ref lv), some (.ref tl), some (.int ((mvF wd (ordsR (textOf B E')) (ordsE (textOf B E')) st1 (mkR nn)).length : Nat)), v6, some (.ref bb), some (.ref s1), some (.ref s2), some (.ref ga), none, none, none, none] ∧ KN [] H9 H' ∧ Q5 PF PN PR j H H', ?_, ?_⟩
    · refine ⟨_, rfl, Q10.tk.tr, Q10.tk.has, fun f1 c1 P1 H10 e10 T10 nf hf hc hts np1 np2 => ?_⟩
      have Q11 := Q10.extP Q10.tk.tr.tbl e10 (Q10.tk.extR e10 T10)
      have k10 : KN [] H9 H10 := KN.extP Q10.tk.tr.tbl e10
      have kn : ∀ {b : Addr} {o : HO}, (∀ ps, o ≠ .tbl ps) → H9 b = some o → H10 b = some o := fun t e => k10 _ _ (by simp) t e
      have at10 := kn (by intro ps z; cases z) R9.at_
      have R10 := R9.ext fun b o e t => kn t e
      have ga10 := kn (by intro ps z; cases z) hga9
      have s110 := kn (by intro ps z; cases z) (k9 _ _ (by simp) (by intro ps z; cases z) hs1)
      refine ⟨((f1, c1), P1), ga, dt, lv, dx, lo, m1, wd, false, .non, rfl, ga10, at10, fun H11 y dy o11 ny hy ht => ?_⟩
      have nyl2 : y ≠ lv := (ne_of_none at10 ny).symm
      have og : ∀ {b : Addr} {o : HO}, H10 b = some o → o ≠ .ins R.T.CT dt (tf lv .non) → H11 b = some o := fun e n => o11 _ _ (ne_of e ga10 n) e
      have at11 := o11 _ _ ngl.symm at10
      have R11 := rd_two ga10 (fun b o n1 n2 e => o11 b o n2 e) at11 R10
      refine ⟨⟨og hf (by intro z; unfold LamO at z; cases z), og hc (by intro z; unfold CodeT at z; cases z)⟩, lv, s1, wd, rfl, rfl, lv, dx, lo, m1, s1, wd, textOf B E', mkR nn, st1, xs1, rfl, R11, og s110 (by intro z; cases z), hR1.mono fun p zs e => og (kn (by intro ps z; cases z) (k9 _ _ (by simp) (by intro ps z; cases z) e)) (by intro z; cases z), by omega, gt, w1, by omega, ⟨mv.ok, mv.hc, Nat.le_trans mv.ln (by decide)⟩, fun H12 m12 o12 R12 _ => ?_⟩
      refine ⟨o12 _ _ ngl ht, o12 _ _ nyl2 hy, ⟨m12, R12.at_⟩, ?_⟩
      have back : Same H10 (upd (upd H12 lv (.ins R.T.A.E.R.CR dx (rf lo wd false m1))) ga (.ins R.T.CT dt (tf lv .non))) := fun b o e => by
        by_cases c2 : b = ga
        · rw [c2, upd_same]
          rw [c2, ga10] at e
          exact e
        rw [upd_ne c2]
        by_cases c : b = lv
        · rw [c, upd_same]
          rw [c, at10] at e
          exact e
        · rw [upd_ne c]
          exact o12 _ _ c (o11 _ _ c2 e)
      refine ⟨_, rfl, rfl, _, rfl, ?_⟩
      rw [decide_eq_true rfl]
      exact iteF ⟨rfl, k10.trans (KN.same back), Q11.same back⟩
    rintro _ H10 ⟨rfl, k10, Q11⟩
    have kn10 : ∀ {b : Addr} {o : HO}, (∀ ps, o ≠ .tbl ps) → H9 b = some o → H10 b = some o := fun t e => k10 _ _ (by simp) t e
    have R10 := R9.ext fun b o e t => kn10 t e
    have ga10 := kn10 (by intro ps z; cases z) hga9
    have kk10 := k9.trans k10
    clear Q10 R9 hga9 k9 k10 kn10
    -- nested
    refine ⟨fun σ H' => ∃ p q : Addr, σ = [some (.ref j), some (.ref ma), some (.int (wd : Nat)), some (.ref lv), some (.ref tl), some (.int ((mvF wd (ordsR (textOf B E')) (ordsE (textOf B E')) st1 (mkR nn)).length : Nat)), v6, some (.ref bb), some (.ref s1), some (.ref s2), some (.ref ga), some (.ref p), none, none, none] ∧ H' p = some (.lst [.ref q, .bl true]) ∧ KN [ga, lv] H10 H' ∧ Q5 PF PN PR j H H' ∧ RdAt R.T.A.E.R H' lv dx lo m1 wd (textOf B E') (mkR nn) ∧ H' ga = some (.ins R.T.CT dt (tf lv .non)), ?_, ?_⟩
    · refine ⟨_, rfl, _, rfl, _, rfl, _, rfl, _, rfl, lv, dx, lo, m1, s1, s2, ga, dt, wd, textOf B E', mkR nn, st1, st2, xs1, xs2, .non, rfl, R10, kk10 _ _ (by simp) (by intro ps z; cases z) hs1, hR1.mono fun p zs e => kk10 _ _ (by simp) (by intro ps z; cases z) e, by omega, kk10 _ _ (by simp) (by intro ps z; cases z) hs2, hR2.mono fun p zs e => kk10 _ _ (by simp) (by intro ps z; cases z) e, by omega, gt, w1, by omega, mv, ga10, Q11.tk.tn, fun H11 H12 p q e11 T11 ob R12 hga12 hp => ?_⟩
      have Q12 := Q11.extP (tabN_tbl Q11.tk.tn) e11 (Q11.tk.extN e11 T11)
      have k11 : KN [ga, lv] H10 H11 := KN.extP (tabN_tbl Q11.tk.tn) e11
      obtain ⟨psN, hPN⟩ := tabN_tbl Q11.tk.tn
      have at11 := e11 _ _ (ne_of R10.at_ hPN (by intro z; cases z)) R10.at_
      have ga11 := e11 _ _ (ne_of ga10 hPN (by intro z; cases z)) ga10
      exact ⟨p, q, rfl, hp, k11.trans (fun b o n t e => ob _ _ (fun z => n (by rw [z]; simp)) (fun z => n (by rw [z]; simp)) e), Q12.off2 at11 ga11 (by intro ps z; cases z) (by intro g z; cases z) (by intro ps z; cases z) (by intro g z; cases z) lj gaj nl ng0 ob, R12, hga12⟩
    rintro _ H11 ⟨p0, q0, rfl, hp0, k11, Q12, R11, ga11⟩
    have kk11 : KN [ga, lv] H6 H11 := (kk10.sub (by simp)).trans k11
    clear Q11 R10 ga10 k11 kk10
    have G2 : GN H6 j [ga, lv] := fun b hb => by
      rcases List.mem_cons.mp hb with rfl | hb
      · exact .inr (.inr nga6)
      · rw [List.mem_singleton.mp hb]
        exact .inr (.inl ⟨_, _, _, R6.at_⟩)
    -- it came back
    refine ⟨fun σ H' => σ = [some (.ref j), some (.ref ma), some (.int (wd : Nat)), some (.ref lv), some (.ref tl), some (.int ((mvF wd (ordsR (textOf B E')) (ordsE (textOf B E')) st1 (mkR nn)).length : Nat)), v6, some (.ref bb), some (.ref s1), some (.ref s2), some (.ref ga), some (.ref p0), none, none, none] ∧ KN [ga, lv] H6 H' ∧ Q5 PF PN PR j H H' ∧ RdAt R.T.A.E.R H' lv dx lo m1 wd (textOf B E') (mkR nn) ∧ H' ga = some (.ins R.T.CT dt (tf lv .non)), ?_, ?_⟩
    · refine ⟨_, rfl, p0, _, 1, _, rfl, rfl, SqL.of hp0, rfl, true, true, rfl, rfl, _, rfl, iteF ?_⟩
      obtain ⟨a1, a2, a3, a4⟩ := isAt G2 kk11
      refine ⟨_, rfl, _, rfl, _, rfl, _, rfl, _, rfl, bb, _, -1, _, rfl, rfl, SqL.of a4, by rw [ey]; exact atI_last _ _, lv, dx, lo, m1, tl, bx, wd, textOf B E', mkR nn, xs, _, rfl, R11, a1, a2, a3, by omega, fun H12 s12 => ⟨_, rfl, iteF ?_⟩⟩
      have Q13 := Q12.same s12
      have R12 := R11.same s12
      refine ⟨_, rfl, lv, dx, lo, m1, wd, textOf B E', mkR nn, rfl, R12, gt, w1, by omega, by omega, okN ns hmR, fun r hr => (hmR r hr).1, ns _ hmR, Q13.tk.tf, fun Hm H13 e13 T13 o13 R13 => ⟨_, rfl, iteF ?_⟩⟩
      have Qm := Q13.extP (tabS_tbl Q13.tk.tf) e13 (Q13.tk.extF e13 T13)
      obtain ⟨psF, hPF⟩ := tabS_tbl Q13.tk.tf
      have atm := e13 _ _ (ne_of R12.at_ hPF (by intro z; cases z)) R12.at_
      exact ⟨rfl, ((kk11.trans (KN.same s12)).trans (KN.extP ⟨_, hPF⟩ e13)).trans (KN.off (by simp) o13), Qm.offl atm (by intro ps z; cases z) (by intro g z; cases z) lj nl o13, R13, o13 _ _ ngl (e13 _ _ (ne_of (s12 _ _ ga11) hPF (by intro z; cases z)) (s12 _ _ ga11))⟩
    rintro _ H12 ⟨rfl, k12, Q13, R12, ga12⟩
    clear kk11 Q12 R11 ga11 hp0
    refine ⟨fun σ H' => σ = [some (.ref j), some (.ref ma), some (.int (wd : Nat)), some (.ref lv), some (.ref tl), some (.int ((mvF wd (ordsR (textOf B E')) (ordsE (textOf B E')) st1 (mkR nn)).length : Nat)), v6, some (.ref bb), some (.ref s1), some (.ref s2), some (.ref ga), some (.ref p0), none, none, none] ∧ Same H12 H', ?_, ?_⟩
    · obtain ⟨a1, a2, a3, a4⟩ := isAt G2 k12
      exact ⟨_, rfl, _, rfl, _, rfl, _, rfl, _, rfl, bb, _, -1, _, rfl, rfl, SqL.of a4, by rw [ey]; exact atI_last _ _, lv, dx, lo, m1, tl, bx, wd, textOf B E', mkR nn, xs, _, rfl, R12, a1, a2, a3, by omega, fun H' s' => ⟨_, rfl, iteF ⟨rfl, s'⟩⟩⟩
    rintro _ H13 ⟨rfl, s13⟩
    have Q14 := Q13.same s13
    have k13 := k12.trans (KN.same s13)
    have R13 := R12.same s13
    have ga13 := s13 _ _ ga12
    clear Q13 k12 R12 ga12 s13
    -- seen
    refine ⟨Nat.zero_le _, fun sq nsq => ?_⟩
    have u14 := same_new (o := .lst []) nsq
    have hsq14 : (upd H13 sq (.lst [])) sq = some (.lst []) := upd_same
    show tSeq _ _ _ [some (.ref j), some (.ref ma), some (.int (wd : Nat)), some (.ref lv), some (.ref tl), some (.int ((mvF wd (ordsR (textOf B E')) (ordsE (textOf B E')) st1 (mkR nn)).length : Nat)), v6, some (.ref bb), some (.ref s1), some (.ref s2), some (.ref ga), some (.ref p0), some (.ref sq), none, none] (upd H13 sq (.lst []))
    have Q15 := Q14.same u14
    have R14 := R13.same u14
    have k14 := k13.trans (KN.same u14)
    have ga14 := u14 _ _ ga13
    have nsq0 : ∀ b o, b ≠ j → (∀ ps, o ≠ .tbl ps) → H b = some o → b ≠ sq := fun b o nb nt e => ne_of_none (Q14.off b o nb nt e) nsq
    have sqj : sq ≠ j := by
      obtain ⟨_, _, _, e⟩ := Q14.jar
      exact (ne_of_none e nsq).symm
    have sql : sq ≠ lv := (ne_of_none R13.at_ nsq).symm
    have sqg : sq ≠ ga := (ne_of_none ga13 nsq).symm
    have nsq6 : ∀ o, H6 sq = some o → ∃ ps, o = .tbl ps := fun o e => Classical.byContradiction fun c => by
      rw [k13 sq o (by simp [sqg, sql]) (fun ps z => c ⟨ps, z⟩) e] at nsq
      cases nsq
    have G3 : GN H6 j [ga, lv, sq] := fun b hb => by
      rcases List.mem_cons.mp hb with rfl | hb
      · exact .inr (.inr nga6)
      rcases List.mem_cons.mp hb with rfl | hb
      · exact .inr (.inl ⟨_, _, _, R6.at_⟩)
      · rw [List.mem_singleton.mp hb]
        exact .inr (.inr nsq6)
    generalize upd H13 sq (.lst []) = H14 at u14 hsq14 Q15 R14 k14 ga14 ⊢
    clear Q14 R13 k13 ga13 u14
    -- fed within a watch
    refine ⟨fun σ H' => ∃ m2 : Addr, σ = [some (.ref j), some (.ref ma), some (.int (wd : Nat)), some (.ref lv), some (.ref tl), some (.int ((mvF wd (ordsR (textOf B E')) (ordsE (textOf B E')) st1 (mkR nn)).length : Nat)), v6, some (.ref bb), some (.ref s1), some (.ref s2), some (.ref ga), some (.ref p0), some (.ref sq), none, none] ∧ KN [ga, lv, sq] H6 H' ∧ Q5 PF PN PR j H H' ∧ RdAt R.T.A.E.R H' lv dx lo m2 wd (textOf B E') ((1, false) :: mkR nn) ∧ H' sq = some (.lst [.int ((nn.length + 1 : Nat) : Int)]), ?_, ?_⟩
    · refine ⟨_, rfl, lv, dx, _, rfl, R14.at_, rf_n6 .., (by show 3 ≤ sizeLine; decide), fun z nz => ?_⟩
      have uz := same_new (o := .tup [.str "feed", .int 1, .bl false]) nz
      have hz : (upd H14 z (.tup [.str "feed", .int 1, .bl false])) z = some (.tup [.str "feed", .int 1, .bl false]) := upd_same
      have Q16 := Q15.same uz
      have R15 := R14.same uz
      generalize upd H14 z (.tup [.str "feed", .int 1, .bl false]) = H15 at uz hz Q16 R15 ⊢
      refine ⟨Q16.tk.tr, Q16.tk.has, fun f1 c1 P1 H16 e16 T16 nf hf hc hts np1 np2 => ?_⟩
      have Q17 := Q16.extP Q16.tk.tr.tbl e16 (Q16.tk.extR e16 T16)
      have k16 : KN [lv, sq] H15 H16 := KN.extP Q16.tk.tr.tbl e16
      have kn : ∀ {b : Addr} {o : HO}, (∀ ps, o ≠ .tbl ps) → H15 b = some o → H16 b = some o := fun {b o} t e => (KN.extP (N := []) Q16.tk.tr.tbl e16) b o (by simp) t e
      have R16 := R15.ext fun b o e t => kn t e
      refine ⟨_, rfl, ((f1, c1), P1), [.ref lv], [.ref z], rfl, rfl, (by show 1 ≤ sizeLine; decide), fun p np => ?_⟩
      have sp := same_new (o := .tup [.ref z]) np
      have hp : (upd H16 p (.tup [.ref z])) p = some (.tup [.ref z]) := upd_same
      have Q18 := Q17.same sp
      have R17 := R16.same sp
      have hsq17 := sp _ _ (kn (by intro ps z; cases z) (uz _ _ hsq14))
      have ga17 := sp _ _ (kn (by intro ps z; cases z) (uz _ _ ga14))
      have hz17 := sp _ _ (kn (by intro ps z; cases z) hz)
      have hf17 := sp _ _ hf
      have hc17 := sp _ _ hc
      have hts17 := hts.ext sp
      have k17 : KN [lv, sq] H14 (upd H16 p (.tup [.ref z])) := ((KN.same uz).trans k16).trans (KN.same sp)
      generalize upd H16 p (.tup [.ref z]) = H17 at sp hp Q18 R17 hsq17 ga17 hz17 hf17 hc17 hts17 k17 ⊢
      refine sp_faN (ns := [1]) (fun i rr' Hx => ∃ acc : List V, (i = 0 → acc = [] ∧ rr' = mkR nn) ∧ (i = 1 → acc = [.int ((nn.length + 1 : Nat) : Int)]) ∧ acc.length ≤ 1 ∧ Hx sq = some (.lst acc) ∧ KN [lv, sq] H17 Hx ∧ Tk PF PN PR Hx ∧ LamX.TabS Hx P1 qIn) gt w1 (by omega) ns
        (fun s' ⟨acc, a1, a2, a3, a4, a5, a6, a7⟩ => ⟨acc, a1, a2, a3, s' _ _ a4, a5.trans (KN.same s'), a6.kt (kt_same s'), a7.ext s'⟩)
        (fun hB o ⟨acc, a1, a2, a3, a4, a5, a6, a7⟩ => ⟨acc, a1, a2, a3, o _ _ sql a4, a5.trans (KN.off (by simp) o), a6.kt (kt_off hB.at_ (by intro ps z; cases z) (by intro g z; cases z) o), tabS_kt (kt_off hB.at_ (by intro ps z; cases z) (by intro g z; cases z) o) a7⟩)
        (fun {i n rr' Hx m4 cont} ⟨acc, a1, a2, a3, a4, a5, a6, a7⟩ hB hn' hl' hi kc => ?_) R17 hp (.cons hz17 .nil) hmR (okN ns hmR) (fun n hn => by rw [List.mem_singleton.mp hn]; exact w1) (by show (mkR nn).length + 1 ≤ 100; omega)
        (fun H' o => ⟨[], (fun _ => ⟨rfl, rfl⟩), (fun z => by cases z), Nat.zero_le _, o _ _ sql hsq17, KN.off (by simp) o, Q18.tk.kt (kt_off R17.at_ (by intro ps z; cases z) (by intro g z; cases z) o), tabS_kt (kt_off R17.at_ (by intro ps z; cases z) (by intro g z; cases z) o) hts17⟩)
        (fun H18 m4 hB ⟨acc, a1, a2, a3, a4, a5, a6, a7⟩ => ?_)
      · have i0 : i = 0 := by
          have : i < 1 := hi
          omega
        obtain ⟨ea, er⟩ := a1 i0
        subst ea er
        obtain ⟨dm, g, h, kk, b9, hm, hMs, _⟩ := hB.mo.head
        obtain ⟨gs, hs9, hg, hRg, _⟩ := hMs
        have lg : gs.length = nn.length + 1 := by rw [hRg.len, List.length_reverse, List.length_cons, lR]
        have ga9 := a5 _ _ (by simp [sqg.symm, ngl]) (by intro ps z; cases z) ga17
        obtain ⟨psI, hI, _⟩ := id a7
        refine ⟨⟨a5 _ _ (by simp only [List.mem_cons, List.not_mem_nil, or_false, not_or]; exact ⟨ne_of hf17 R17.at_ (by intro z; unfold LamO at z; cases z), ne_of hf17 hsq17 (by intro z; unfold LamO at z; cases z)⟩) (by intro ps z; unfold LamO at z; cases z) hf17, a5 _ _ (by simp only [List.mem_cons, List.not_mem_nil, or_false, not_or]; exact ⟨ne_of hc17 R17.at_ (by intro z; unfold CodeT at z; cases z), ne_of hc17 hsq17 (by intro z; unfold CodeT at z; cases z)⟩) (by intro ps z; unfold CodeT at z; cases z) hc17⟩, lv, dx, lo, m4, dm, g, h, kk, ga, dt, sq, wd, i, b9, .non, _, gs, [], rfl, rfl, hB.at_, hm, hg, by omega, ga9, a4, by decide, a7, fun H' e t => ?_⟩
        have hsq' := e _ _ (ne_of a4 hI (by intro z; cases z)) a4
        have up : ∀ b o, b ≠ sq → (∀ ps, o ≠ .tbl ps) → Hx b = some o → (upd H' sq (.lst ([] ++ [.int (gs.length : Nat)]))) b = some o := fun b o n t e2 => by
          rw [upd_ne n]
          exact e _ _ (ne_of e2 hI (t _)) e2
        have ko : Kt H' (upd H' sq (.lst ([] ++ [.int (gs.length : Nat)]))) := kt_off hsq' (by intro ps z; cases z) (by intro g z; cases z) fun b o n e => by rw [upd_ne n]; exact e
        refine kc _ (fun p zs e2 => up _ _ (ne_of e2 a4 (by intro z; cases z)) (by intro ps z; cases z) e2) (hB.nt fun b o t n e2 => up b o (ne_of e2 a4 (n _)) t e2) ⟨_, (fun z => by omega), (fun _ => by rw [lg]; rfl), by show 1 ≤ 1; decide, upd_same, a5.trans fun b o n t e2 => up b o (fun z => n (by rw [z]; simp)) t e2, (a6.inner e a7 t np1 np2).kt ko, tabS_kt ko t⟩
      · have ea := a2 rfl
        subst ea
        have kf : KN [lv, sq] H18 (upd H18 lv (.ins R.T.A.E.R.CR dx (rf lo wd false m4))) := KN.off (j := lv) (by simp) fun b o n e => by rw [upd_ne n]; exact e
        have ka := (k17.trans a5).trans kf
        have off : OffN j H17 (upd H18 lv (.ins R.T.A.E.R.CR dx (rf lo wd false m4))) → True := fun _ => True.intro
        have kq := a5.trans kf
        refine ⟨m4, rfl, (k14.sub (by simp)).trans (ka.sub (by simp)), ⟨fun b o nb nt e => kq _ _ (by simp only [List.mem_cons, List.not_mem_nil, or_false, not_or]; exact ⟨nl b o nb nt e, nsq0 b o nb nt e⟩) nt (Q18.off b o nb nt e), ?_, a6.kt (kt_off hB.at_ (by intro ps z; cases z) (by intro g z; cases z) fun b o n e => by rw [upd_ne n]; exact e)⟩, free_at hB, by rw [upd_ne sql]; exact a4⟩
        obtain ⟨x, y, z9, e⟩ := Q18.jar
        exact ⟨x, y, z9, kq _ _ (by simp only [List.mem_cons, List.not_mem_nil, or_false, not_or]; exact ⟨lj.symm, sqj.symm⟩) (by intro ps z; cases z) e⟩
    rintro _ H15 ⟨m2, rfl, k15, Q16, R15, hsq15⟩
    clear Q15 R14 k14 ga14 hsq14
    have htl15 := kn_lst G3 k15 tlj htl6
    have lxs : xs.length = nn.length := by rw [hRp6.len, List.length_map]
    -- what was seen
    refine ⟨fun σ H' => σ = [some (.ref j), some (.ref ma), some (.int (wd : Nat)), some (.ref lv), some (.ref tl), some (.int ((mvF wd (ordsR (textOf B E')) (ordsE (textOf B E')) st1 (mkR nn)).length : Nat)), v6, some (.ref bb), some (.ref s1), some (.ref s2), some (.ref ga), some (.ref p0), some (.ref sq), none, none] ∧ Same H15 H', ?_, ?_⟩
    · refine ⟨_, rfl, _, rfl, tl, _, rfl, .inl (SqL.of htl15), _, _, rfl, rfl, (by show 1 ≤ sizeLine; decide), fun L nL => ?_⟩
      have u1 := same_new (o := .lst [.int ((xs.length : Int) + 1)]) nL
      have en : (xs.length : Int) + 1 = ((nn.length + 1 : Nat) : Int) := by omega
      refine ⟨.list [.int ((nn.length + 1 : Nat) : Int)], .list [.int ((nn.length + 1 : Nat) : Int)], .lst (SqL.of (u1 _ _ hsq15)) (.cons (.int _) .nil), .lst (SqL.of (by rw [upd_same]; exact congrArg (fun i => some (HO.lst [V.int i])) en)) (.cons (.int _) .nil), by rfl, by rfl, _, rfl, ?_⟩
      rw [SeqAt.eqv_refl _ (by rfl)]
      refine iteF ?_
      have R16 := R15.same u1
      obtain ⟨dm, g, h, kk, b9, hm, hMs, _⟩ := R16.mo.head
      obtain ⟨gs, hs9, hg, hRg, _⟩ := hMs
      have lg : gs.length = nn.length + 1 := by rw [hRg.len, List.length_reverse, List.length_cons, lR]
      refine ⟨_, rfl, lv, dx, _, rfl, R16.at_, lv, dx, lo, m2, dm, g, h, kk, wd, false, b9, _, gs, rfl, R16.at_, hm, hg, gs.length, rfl, by omega, ?_⟩
      refine ⟨_, rfl, tl, _, rfl, .inl (SqL.of (u1 _ _ htl15)), _, _, rfl, rfl, rfl, _, rfl, ?_⟩
      rw [show decide (V.int (gs.length : Nat) = V.int ((xs.length : Int) + 1)) = true from decide_eq_true (by rw [lg, en])]
      exact iteF ⟨rfl, u1⟩
    rintro _ H16 ⟨rfl, s16⟩
    have Q17 := Q16.same s16
    have R16 := R15.same s16
    have htl16 := s16 _ _ htl15
    clear Q16 R15 htl15 s16 k15 hsq15
    -- taken back
    have lrr : ((1, false) :: mkR nn).length = xs.length + 1 := by rw [List.length_cons, lR, lxs]
    generalize (1, false) :: mkR nn = rr2 at R16 lrr
    refine ⟨fun σ H' => ∃ (m : Addr) (v13 : Option V), σ = [some (.ref j), some (.ref ma), some (.int (wd : Nat)), some (.ref lv), some (.ref tl), some (.int ((mvF wd (ordsR (textOf B E')) (ordsE (textOf B E')) st1 (mkR nn)).length : Nat)), v6, some (.ref bb), some (.ref s1), some (.ref s2), some (.ref ga), some (.ref p0), some (.ref sq), v13, none] ∧ Off lv H16 H' ∧ RdAt R.T.A.E.R H' lv dx lo m wd (textOf B E') [], ?_, ?_⟩
    · refine ⟨_, rfl, tl, _, rfl, .inl (SqL.of htl16), _, _, rfl, rfl, _, rfl, by omega, by omega, ?_⟩
      rw [show ((xs.length : Int) + 1).toNat = xs.length + 1 by omega]
      refine for_range (lo := 0) (n := xs.length + 1) (fun i σ H' => ∃ (m : Addr) (v13 : Option V), σ = [some (.ref j), some (.ref ma), some (.int (wd : Nat)), some (.ref lv), some (.ref tl), some (.int ((mvF wd (ordsR (textOf B E')) (ordsE (textOf B E')) st1 (mkR nn)).length : Nat)), v6, some (.ref bb), some (.ref s1), some (.ref s2), some (.ref ga), some (.ref p0), some (.ref sq), v13, none] ∧ Off lv H16 H' ∧ RdAt R.T.A.E.R H' lv dx lo m wd (textOf B E') (rr2.drop i))
        ⟨m2, none, rfl, Off.refl, R16⟩ ?_ ?_
      · rintro i σ H17 hi ⟨m, v13, rfl, o1, R17⟩
        have hi2 : i < rr2.length := by rw [lrr]; exact hi
        obtain ⟨r0, er⟩ := drop_cons hi2
        refine ⟨_, rfl, lv, dx, _, rfl, R17.at_, rf_n2 .., lv, dx, lo, m, wd, textOf B E', _, rfl, R17, fun h0 => ?_, fun r q hrr H18 m3 o2 R18 => ⟨m3, _, rfl, o1.trans o2, ?_⟩⟩
        · rw [er] at h0; cases h0
        · rw [er] at hrr
          cases hrr
          exact R18
      · rintro σ H17 ⟨m, v13, rfl, o1, R17⟩
        rw [List.drop_eq_nil_of_le (by omega)] at R17
        exact ⟨m, v13, rfl, o1, R17⟩
    rintro _ H17 ⟨m3, v13, rfl, o17, R17⟩
    have Q18 := Q17.offl R16.at_ (by intro ps z; cases z) (by intro g z; cases z) lj nl o17
    clear Q17 R16 htl16 o17
    -- what is drawn
    refine ⟨fun σ H' => ∃ odd : V, σ = [some (.ref j), some (.ref ma), some (.int (wd : Nat)), some (.ref lv), some (.ref tl), some (.int ((mvF wd (ordsR (textOf B E')) (ordsE (textOf B E')) st1 (mkR nn)).length : Nat)), v6, some (.ref bb), some (.ref s1), some (.ref s2), some (.ref ga), some (.ref p0), some (.ref sq), v13, some odd] ∧ Q5 PF PN PR j H H' ∧ RdAt R.T.A.E.R H' lv dx lo m3 wd (textOf B E') [] ∧ OddOk (cxOf CX0 P w K mg base NR "_law_right" (defScope sRight) f (.ref cR) A outer s H E).nox R.T.A.E.R.CR (RpL.cut [j] H') odd, ?_, ?_⟩
    · refine ⟨_, rfl, ?_⟩
      refine ⟨(by show 0 ≤ sizeLine; decide), fun t1 n1 => ?_⟩
      have u1 := same_new (o := .tup []) n1
      have R18 := R17.same u1
      refine ⟨_, rfl, lv, R.T.A.E.R.CR, dx, _, _, rfl, R18.at_, R.T.A.E.R.clR, R.T.A.E.R.nRl, rf_l .., fun dd ndd => ⟨_, rfl, (by show 1 ≤ sizeLine; decide), fun l1 nl1 => ⟨(by show 7 ≤ sizeLine; decide), fun L nL => ?_⟩⟩⟩
      have u2 := same_new (o := .dK []) ndd
      have u3 := same_new (o := .lst [.ref lv]) nl1
      have u4 := same_new (o := .lst [.non, .str "reading", .int 5, .ref t1, .ref lo, .ref dd, .ref l1]) nL
      have u13 := Same.trans u1 (Same.trans u2 u3)
      have u14 := Same.trans u13 u4
      have J17 := Q18.jar
      refine ⟨j, L, [.non, .str "reading", .int 5, .ref t1, .ref lo, .ref dd, .ref l1], rfl, J17.same u14, jar_ne (J17.same u13) nL, SqL.of upd_same, (by show 0 < 7; decide), (by show 7 < 1073741824; decide), fun H18 i4 xn hxn o18 J18 => ?_⟩
      have tj := jar_ne J17 n1
      have dj := jar_ne (J17.same u1) ndd
      have l1j := jar_ne (J17.same (Same.trans u1 u2)) nl1
      obtain ⟨jx, jy, jz, hj⟩ := J17.same u14
      have R19 := (R17.same u14).offq hj o18
      refine ⟨xn, rfl, (Q18.same u14).offj o18 J18, R19, ?_⟩
      obtain ⟨jx8, jy8, jz8, hj8⟩ := id J18
      exact odd65 (X := (cxOf CX0 P w K mg base NR "_law_right" (defScope sRight) f (.ref cR) A outer s H E).nox) R.O sm (cj tj (o18 _ _ tj (u4 _ _ (u3 _ _ (u2 _ _ upd_same)))) (by intro ps z; cases z)) (cj dj (o18 _ _ dj (u4 _ _ (u3 _ _ upd_same))) (by intro ps z; cases z)) (cj l1j (o18 _ _ l1j (u4 _ _ upd_same)) (by intro ps z; cases z))
        (R19.nt fun b o t n e => cj (ne_of e hj8 (n _)) e t) (Nat.zero_le _) hlen hxn
    rintro _ H18 ⟨odd, rfl, Q19, R18, hodd⟩
    clear Q18 R17
    -- nothing is left to take back
    refine ⟨fun σ H' => σ = [some (.ref j), some (.ref ma), some (.int (wd : Nat)), some (.ref lv), some (.ref tl), some (.int ((mvF wd (ordsR (textOf B E')) (ordsE (textOf B E')) st1 (mkR nn)).length : Nat)), v6, some (.ref bb), some (.ref s1), some (.ref s2), some (.ref ga), some (.ref p0), some (.ref sq), v13, some odd] ∧ Same (RpL.cut [j] H18) H' ∧ Q5 PF PN PR j H H', ?_, ?_⟩
    · refine ⟨Q19.tk.tr, Q19.tk.has, fun c1 P1 H19 e19 T19 hc hts np1 np2 => ?_⟩
      have Q20 := Q19.extP Q19.tk.tr.tbl e19 (Q19.tk.extR e19 T19)
      obtain ⟨psR, hPR⟩ := Q19.tk.tr.tbl
      have eN := ExtP.extN hPR e19
      have R19 := R18.ext eN
      refine ⟨_, rfl, lv, dx, _, rfl, R19.at_, rf_n2 .., lv, dx, lo, m3, wd, textOf B E', [], rfl, R19, fun _ => ⟨_, .inr ⟨rfl, rfl, rfl⟩, fun p np => ?_⟩, fun r q h => by cases h⟩
      have u1 := same_new (o := .lst [.str "NothingToUndo", .bl true]) np
      refine ⟨(by show 2 ≤ sizeLine; decide), fun q nq => ⟨.list [.str "NothingToUndo", .bool true], .list [.str "NothingToUndo", .bool true], .lst (SqL.of (same_new nq _ _ upd_same)) (.cons (.str _) (.cons (.bl _) .nil)), .lst (SqL.of upd_same) (.cons (.str _) (.cons (.bl _) .nil)), by decide +kernel, by decide +kernel, _, rfl, ?_⟩⟩
      have u2 := same_new (o := .lst [.str "NothingToUndo", .bl true]) nq
      rw [show PyData.eqv (.list [.str "NothingToUndo", .bool true]) (.list [.str "NothingToUndo", .bool true]) = true by decide +kernel]
      refine iteF ?_
      have R21 := (R19.same u1).same u2
      obtain ⟨dm, g, h, kk, b9, hm, hMs, _⟩ := R21.mo.head
      obtain ⟨gs, hs9, hg, hRg, hh9, hPh, _⟩ := hMs
      have hPh : Pcs _ hs9 [] := hPh
      cases hPh
      refine ⟨_, rfl, lv, dx, _, rfl, R21.at_, lv, dx, lo, m3, dm, g, h, kk, wd, false, b9, _, rfl, R21.at_, hm, (by show 0 ≤ sizeLine; decide), fun t nt => ?_⟩
      have u3 := same_new (o := .tup []) nt
      refine ⟨.tuple [], .tuple [], .tup (SqT.of (u3 _ _ hh9)) .nil, .tup (SqT.of upd_same) .nil, by decide +kernel, by decide +kernel, _, rfl, ?_⟩
      rw [show PyData.eqv (.tuple []) (.tuple []) = true by decide +kernel]
      have u := Same.trans u1 (Same.trans u2 u3)
      exact iteF ⟨rfl, fun b o e => u _ _ (eN _ _ (RpL.cut_up _ _ e) (RpL.cut_of e).2.2), Q20.same u⟩
    rintro _ H19 ⟨rfl, sD, Q20⟩
    clear R18 Q19
    -- the last
    obtain ⟨txt, lt, it, nin⟩ := hodd
    have hDt : ∀ b ps, RpL.cut [j] H18 b ≠ some (.tbl ps) := fun b ps z => (RpL.cut_of z).2.2 ps rfl
    generalize RpL.cut [j] H18 = D at sD it nin hDt
    refine ⟨Q20.tk.tr, Q20.tk.has, fun c1 P1 H20 e20 T20 hc hts np1 np2 => ?_⟩
    have Q21 := Q20.extP Q20.tk.tr.tbl e20 (Q20.tk.extR e20 T20)
    obtain ⟨psR, hPR⟩ := Q20.tk.tr.tbl
    have sD20 : Same D H20 := fun b o e => e20 _ _ (ne_of (sD _ _ e) hPR (fun z => hDt b psR (by rw [e, z]))) (sD _ _ e)
    refine ⟨_, rfl, hc, hts, fun f2 H21 e21 hts21 => ?_⟩
    obtain ⟨psI, hPI⟩ := tabS_tbl hts
    have sD21 : Same D H21 := fun b o e => e21 _ _ (ne_of (sD20 _ _ e) hPI (fun z => hDt b psI (by rw [e, z]))) (sD20 _ _ e)
    have Q22 := Q21.extP ⟨_, hPI⟩ e21 (Q21.tk.inner e21 hts hts21 np1 np2)
    refine ⟨odd, .ref f2, rfl, nin H21 sD21, fun d nd => ⟨_, .inl ⟨rfl, d, odd, rfl, upd_same, rfl⟩, fun p np => ?_⟩⟩
    have u1 := same_new (o := .xd [("value", odd)]) nd
    have u2 := same_new (o := .lst [.str "NotAReading", odd, .bl true]) np
    have no : ∀ {Hx : Hp} {b : Addr}, Same D Hx → Hx b = none → D b = none := fun {Hx b} s n => by
      cases e : D b with
      | none => rfl
      | some o => rw [s _ _ e] at n; cases n
    have s1 := Same.trans sD21 u1
    refine ⟨p, D, _, [reprText "NotAReading", txt, "True"], rfl, no s1 np, Same.trans s1 u2, upd_same, by simp, rfl, odd_els it, odd_len lt, fun H22 s22 => ?_⟩
    have s2 := Same.trans (Same.trans s1 u2) s22
    refine ⟨_, rfl, (by show 3 ≤ sizeLine; decide), fun q nq => ?_⟩
    have u3 := same_new (o := .lst [.str "NotAReading", odd, .bl true]) nq
    refine ⟨q, D, _, [reprText "NotAReading", txt, "True"], rfl, no s2 nq, Same.trans s2 u3, upd_same, by simp, rfl, odd_els it, odd_len lt, fun H23 s23 => ⟨rfl, ?_⟩⟩
    rw [decide_eq_true rfl]
    have Q24 := (((((Q22.same u1).same u2).same s22).same u3).same s23)
    exact k H23 Q24.off Q24.tk
end
end My

namespace My
open PySem L2 Cm LM
abbrev sLaw : Stmt := top 68
def spLaw (K : PySem.W.Frag) (PF PN PR : Addr) : Sp := fun vs H Q _ => ∃ (a : Addr) (ns : List Int), vs = [.ref a] ∧ SqL K H a (ns.map V.int) ∧ ns.length ≤ 63 ∧ Tk PF PN PR H ∧ ∀ H', Q (.bl true) H'
theorem scLaw : FnScope ["_law_script", "_law_k"] ["_law_script"] (defScope sLaw) := ⟨rfl, rfl, rfl, by decide +kernel, rfl, by decide +kernel, by decide +kernel⟩
theorem all_true : ∀ n : Nat, (List.replicate n true).all id = true
  | 0 => rfl
  | n + 1 => all_true n
theorem extN_sq {K : PySem.W.Frag} {a : Addr} {H H' : Hp} {xs : List V} (e : LamX.ExtN H H') (h : SqL K H a xs) : SqL K H' a xs := by
  rcases h with (h | ⟨o, h⟩) | h
  · exact .inl (.inl (e _ _ h (by intro ps z; cases z)))
  · exact .inl (.inr ⟨o, e _ _ h (by intro ps z; cases z)⟩)
  · exact .inr h
section
variable {P : Program} {w : World} {K : PySem.W.Frag} {mg : Str → Option Value} {base : Heap} {PF PN PR : Addr}
theorem ok_law {f fJ fR : Addr} {fd fdJ fdR : FuncData} (F : Fun K "law" "law" sLaw f fd) (TJ : TxtJ mg) (mrange : mg "range" = none) (mall : mg "all" = none) (kR9 : Nat) (GR : Gd.FnG P w K mg base CX0 kR9 fR fdR ["_law_jar_here"] (spRight5 PF PN PR))
    (FJ : Fun K "_law_jar" "_law_jar" sJar fJ fdJ) (bJ : Binds K fdJ ["_law_script", "_law_k"] []) (gJ : mg "_law_jar" = some (.ref fJ)) (kJ : PySem.W.keepIn K (.ref fJ) = true) (k1 : 1 ≤ kR9)
    (bR : Binds K fdR ["_law_jar_here"] []) (gR : mg "_law_right" = some (.ref fR)) (kR : PySem.W.keepIn K (.ref fR) = true) (mmax : mg "max" = none) (mmin : mg "min" = none) :
    Gd.FnG P w K mg base CX0 (kR9 + 1) f fd ["_law_script"] (spLaw K PF PN PR) := by
  have GJ : FnOk P w K mg base CX0 1 fJ fdJ ["_law_script", "_law_k"] (spJar K) := ok_jar FJ TJ
  refine Gd.okG F scLaw (fun vs H Q E h => ?_) (fun cdv A outer s H vs Q E _ _ _ hgd hr h => ?_)
  · obtain ⟨a, ns, rfl, _⟩ := h
    rfl
  · obtain ⟨a, ns, rfl, hS, hl, hT, k⟩ := h
    have hr1 : Room 1 _ := hr.mono k1
    refine ⟨_, pss_one (ps_ret (pe_callB (cr_all rfl) (by rfl) mall (by decide +kernel) (pa_cons (pe_lc (own := [("_law_k", 1)]) (g := gName 1) (tt := tYes) rfl scLaw.nd
      (pi_range1 rfl mrange (pa_cons (pe_callB (call_max2 rfl) (by rfl) mmax (by decide +kernel) (pa_cons pe_int (pa_cons (pe_callB (call_min2 rfl) (by rfl) mmin (by decide +kernel) (pa_cons (pe_callB call_len_seq (by rfl) TJ.len PySem.boot_len (pa_cons (pv 0) pa_nil)) (pa_cons pe_int pa_nil))) pa_nil))) pa_nil))
      (blkOk_by (own := [("_law_k", 1)]) (N := ["_law_script", "_law_k"]) (sc := defScope sLaw) (by decide +kernel)) (fun _ _ _ _ _ => pg_name (i := 1) scLaw.nd rfl (Or.inl rfl)) (fun _ _ _ _ _ => pts_nil)
      (fun _ _ _ _ _ => Gd.pe_callG GR hgd hr rfl gR kR bR .nil pass0 (pa_cons (pe_call GJ hr1 rfl gJ kJ bJ .nil pass0 (pa_cons (pv 0) (pa_cons (pv 1) pa_nil))) pa_nil))) pa_nil))), ?_⟩
    refine ⟨_, rfl, a, _, rfl, .inl hS, _, _, rfl, _, _, rfl, ?_⟩
    rw [List.length_map]
    have hm : ∃ n : Nat, (if (if (5 : Int) < (ns.length : Int) then 5 else (ns.length : Int)) > 2 then (if (5 : Int) < (ns.length : Int) then 5 else (ns.length : Int)) else 2) = (n : Int) ∧ n ≤ 5 := by
      by_cases h5 : (5 : Int) < (ns.length : Int)
      · rw [if_pos h5]
        exact ⟨5, rfl, Nat.le_refl _⟩
      · rw [if_neg h5]
        by_cases h2 : (ns.length : Int) > 2
        · rw [if_pos h2]
          exact ⟨ns.length, rfl, by omega⟩
        · rw [if_neg h2]
          exact ⟨2, rfl, by omega⟩
    obtain ⟨n, en, hn⟩ := hm
    refine ⟨_, rfl, by rw [en]; omega, by rw [en]; omega, fun D nD => ?_⟩
    rw [en]
    refine lc_range (lo := 0) (n := ((n : Int)).toNat) (fun i H' => LamX.ExtN H H' ∧ Tk PF PN PR H' ∧ H' D = some (.lst ((List.replicate i true).map V.bl))) ⟨LamX.ExtN.of (same_upd nD), hT.kt (kt_same (same_upd nD)), upd_same⟩ ?_ ?_
    · rintro i H1 hi ⟨x1, T1, hD⟩
      refine ⟨rfl, _, rfl, _, rfl, a, ns, i, by rw [Int.zero_add]; rfl, extN_sq x1 hS, hl, fun H2 j s2 nj J2 => ?_⟩
      refine ⟨j, rfl, J2, T1.kt (kt_same s2), fun H3 o3 T3 => ?_⟩
      have x3 : LamX.ExtN H1 H3 := fun b o q n => o3 b o (fun z => by rw [z, nj] at q; cases q) n (s2 b o q)
      have hD3 := x3 _ _ hD (by intro ps z; cases z)
      refine ⟨_, hD3, small1000 (by rw [List.length_map, List.length_replicate]; omega), fun b o q n => ?_, ?_, ?_⟩
      · rw [upd_ne (ne_of_none q nD)]
        exact x3 _ _ (x1 b o q n) n
      · exact T3.kt (kt_off hD3 (by intro ps z; cases z) (by intro ps z; cases z) fun b o nb e => by rw [upd_ne nb]; exact e)
      · rw [upd_same, List.replicate_succ', List.map_append]
        rfl
    · rintro H1 ⟨x1, T1, hD⟩
      refine ⟨D, List.replicate _ true, rfl, SqL.of hD, ?_⟩
      rw [all_true]
      exact k H1
end
theorem all_mk {l : PySem.W.OpenLaw} {w : World} {K : PySem.W.Frag} {h : Heap} {mg : Str → Option Value} {fa pT pR pE fwo foo fiw faw fir fie CIT fIT CL fli fiib fcks CES fES CX fxi fxa fxq fxp fxr fxc flx fsip ffrm fwds flop flin fpas fsli fdon ffed fbox CM fmi CQ fqi fckl pqgp fqgp pqhp fqhp pqkp fqkp pqop fqop fql fqr fqf fqu fqc fqk fqt CStp CNtu CEL fEL CEC fEC CET fET CEM fEM CED fED fisd fckd ffa DFa CTr ftri CLy flyi ften ftex fqtr fatt fwit CENR fENR CBInputError CBStateError fcm flr ftale flat flq fmov fbxs fjar cR1 PR1 ffal cR2 PR2 fnst cR3 PR3 frt flaw : Addr} (X : K.In h) (G : h.Ns mainGlobals mg) (hfa : mg "law" = some (.ref fa))
    {odT odR odE odwo anwo odoo anoo odiw aniw odaw anaw odir anir odie anie odIT anIT odli anli odiib aniib odcks ancks odES anES odxi anxi odxa anxa odxq anxq odxp anxp odxr anxr odxc anxc odlx anlx odsip ansip odfrm anfrm odwds anwds odlop anlop odlin anlin odpas anpas odsli ansli oddon andon odfed anfed odbox anbox odmi anmi odqi anqi odckl anckl odqgp anqgp odqhp anqhp odqkp anqkp odqop anqop odql anql odqr anqr odqf anqf odqu anqu odqc anqc odqk anqk odqt anqt odEL anEL odEC anEC odET anET odEM anEM odED anED odisd anisd odckd anckd odfa anfa odtri antri odlyi anlyi odten anten odtex antex odqtr anqtr odatt anatt odwit anwit odENR anENR odcm ancm odlr anlr odtale antale odlat anlat odlq anlq odmov anmov odbxs anbxs odjar anjar odC1 odfal anfal odC2 odnst annst odC3 odrt anrt odlaw anlaw : Option Addr}
    {slT slR slE slwo sloo sliw slaw slir slie slIT slli sliib slcks slES slxi slxa slxq slxp slxr slxc sllx slsip slfrm slwds sllop sllin slpas slsli sldon slfed slbox slmi slqi slckl slqgp slqhp slqkp slqop slql slqr slqf slqu slqc slqk slqt slEL slEC slET slEM slED slisd slckd slfa sltri sllyi slten sltex slqtr slatt slwit slENR slcm sllr sltale sllat sllq slmov slbxs sljar slC1 slfal slC2 slnst slC3 slrt sllaw : Array (Option Value)}
    {ocwo kVwo dcwo pmwo cdwo ctwo ocoo kVoo dcoo pmoo cdoo ctoo ociw kViw dciw pmiw cdiw ctiw ocaw kVaw dcaw pmaw cdaw ctaw ocir kVir dcir pmir cdir ctir ocie kVie dcie pmie cdie ctie ocIT kVIT dcIT pmIT cdIT ctIT ocli kVli dcli pmli cdli ctli ociib kViib dciib pmiib cdiib ctiib occks kVcks dccks pmcks cdcks ctcks ocES kVES dcES pmES cdES ctES ocxi kVxi dcxi pmxi cdxi ctxi ocxa kVxa dcxa pmxa cdxa ctxa ocxq kVxq dcxq pmxq cdxq ctxq ocxp kVxp dcxp pmxp cdxp ctxp ocxr kVxr dcxr pmxr cdxr ctxr ocxc kVxc dcxc pmxc cdxc ctxc oclx kVlx dclx pmlx cdlx ctlx ocsip kVsip dcsip pmsip cdsip ctsip ocfrm kVfrm dcfrm pmfrm cdfrm ctfrm ocwds kVwds dcwds pmwds cdwds ctwds oclop kVlop dclop pmlop cdlop ctlop oclin kVlin dclin pmlin cdlin ctlin ocpas kVpas dcpas pmpas cdpas ctpas ocsli kVsli dcsli pmsli cdsli ctsli ocdon kVdon dcdon pmdon cddon ctdon ocfed kVfed dcfed pmfed cdfed ctfed ocbox kVbox dcbox pmbox cdbox ctbox ocmi kVmi dcmi pmmi cdmi ctmi ocqi kVqi dcqi pmqi cdqi ctqi occkl kVckl dcckl pmckl cdckl ctckl ocqgp kVqgp dcqgp pmqgp cdqgp ctqgp ocqhp kVqhp dcqhp pmqhp cdqhp ctqhp ocqkp kVqkp dcqkp pmqkp cdqkp ctqkp ocqop kVqop dcqop pmqop cdqop ctqop ocql kVql dcql pmql cdql ctql ocqr kVqr dcqr pmqr cdqr ctqr ocqf kVqf dcqf pmqf cdqf ctqf ocqu kVqu dcqu pmqu cdqu ctqu ocqc kVqc dcqc pmqc cdqc ctqc ocqk kVqk dcqk pmqk cdqk ctqk ocqt kVqt dcqt pmqt cdqt ctqt ocEL kVEL dcEL pmEL cdEL ctEL ocEC kVEC dcEC pmEC cdEC ctEC ocET kVET dcET pmET cdET ctET ocEM kVEM dcEM pmEM cdEM ctEM ocED kVED dcED pmED cdED ctED ocisd kVisd dcisd pmisd cdisd ctisd occkd kVckd dcckd pmckd cdckd ctckd ocfa dcfa pmfa cdfa ctfa octri kVtri dctri pmtri cdtri cttri oclyi kVlyi dclyi pmlyi cdlyi ctlyi octen kVten dcten pmten cdten ctten octex kVtex dctex pmtex cdtex cttex ocqtr kVqtr dcqtr pmqtr cdqtr ctqtr ocatt kVatt dcatt pmatt cdatt ctatt ocwit kVwit dcwit pmwit cdwit ctwit ocENR kVENR dcENR pmENR cdENR ctENR occm kVcm dccm pmcm cdcm ctcm oclr kVlr dclr pmlr cdlr ctlr octale kVtale dctale pmtale cdtale cttale oclat kVlat dclat pmlat cdlat ctlat oclq kVlq dclq pmlq cdlq ctlq ocmov kVmov dcmov pmmov cdmov ctmov ocbxs kVbxs dcbxs pmbxs cdbxs ctbxs ocjar kVjar dcjar pmjar cdjar ctjar ocC1 ocfal kVfal dcfal pmfal ctfal ocC2 ocnst kVnst dcnst pmnst ctnst ocC3 ocrt kVrt dcrt pmrt ctrt oclaw kVlaw dclaw pmlaw cdlaw ctlaw : Value}
    {tkT0 tkT1 tkT2 tkT3 tkT4 tkT5 tkT6 tkT7 tkR0 tkR1 tkR2 tkR3 tkR4 tkR5 tkE0 tkE1 tkE2 tkB tkMR tkME tkMP tkMI : Tok}
    {nT nR nE : Nat}
    {nmIT qIT : Str} {NIT : Addr} {bsIT bmIT : List Value} {snIT : List Str} {subIT : List Value} {abIT : Bool} {colIT : Option Bool} {ddIT : Option Addr} {m0IT m1IT m2IT m3IT m5IT : Option Value}
    {nmES qES : Str} {NES : Addr} {bsES bmES : List Value} {snES : List Str} {subES : List Value} {abES : Bool} {colES : Option Bool} {ddES : Option Addr} {m0ES m1ES m2ES m3ES m5ES : Option Value}
    {rsqgp : List Value}
    {rsqhp : List Value}
    {rsqkp : List Value}
    {rsqop : List Value}
    {nmEL qEL : Str} {NEL : Addr} {bsEL bmEL : List Value} {snEL : List Str} {subEL : List Value} {abEL : Bool} {colEL : Option Bool} {ddEL : Option Addr} {m0EL m1EL m2EL m3EL m5EL : Option Value}
    {nmEC qEC : Str} {NEC : Addr} {bsEC bmEC : List Value} {snEC : List Str} {subEC : List Value} {abEC : Bool} {colEC : Option Bool} {ddEC : Option Addr} {m0EC m1EC m2EC m3EC m5EC : Option Value}
    {nmET qET : Str} {NET : Addr} {bsET bmET : List Value} {snET : List Str} {subET : List Value} {abET : Bool} {colET : Option Bool} {ddET : Option Addr} {m0ET m1ET m2ET m3ET m5ET : Option Value}
    {nmEM qEM : Str} {NEM : Addr} {bsEM bmEM : List Value} {snEM : List Str} {subEM : List Value} {abEM : Bool} {colEM : Option Bool} {ddEM : Option Addr} {m0EM m1EM m2EM m3EM m5EM : Option Value}
    {nmED qED : Str} {NED : Addr} {bsED bmED : List Value} {snED : List Str} {subED : List Value} {abED : Bool} {colED : Option Bool} {ddED : Option Addr} {m0ED m1ED m2ED m3ED m5ED : Option Value}
    {nmENR qENR : Str} {NENR : Addr} {bsENR bmENR : List Value} {snENR : List Str} {subENR : List Value} {abENR : Bool} {colENR : Option Bool} {ddENR : Option Addr} {m0ENR m1ENR m2ENR m3ENR m5ENR : Option Value}
    {vsC1 : Array Value}
    {vsC2 : Array Value}
    {vsC3 : Array Value}
    (gT : PySem.W.nsIn K mainGlobals "TESTS" = some (some (.ref pT)))
    (tT : K.lookup pT = some ⟨.type "tuple", odT, .seq #[.str "empty" tkT0, .str "some" tkT1, .str "short" tkT2, .str "full" tkT3, .str "told" tkT4, .str "open" tkT5, .str "rest" tkT6, .str "bare" tkT7] nT, slT⟩)
    (gR : PySem.W.nsIn K mainGlobals "ROUND_STEPS" = some (some (.ref pR)))
    (tR : K.lookup pR = some ⟨.type "tuple", odR, .seq #[.str "add" tkR0, .str "hand" tkR1, .str "cut" tkR2, .str "flush" tkR3, .str "stop" tkR4, .str "again" tkR5] nR, slR⟩)
    (gE : PySem.W.nsIn K mainGlobals "ENDING_STEPS" = some (some (.ref pE)))
    (tE : K.lookup pE = some ⟨.type "tuple", odE, .seq #[.str "hand" tkE0, .str "cut" tkE1, .str "flush" tkE2] nE, slE⟩)
    (mB : PySem.W.nsIn K mainGlobals "BAR" = some (some (.str " | " tkB)))
    (mMR : PySem.W.nsIn K mainGlobals "MOST_ROUND" = some (some (.int 12 tkMR)))
    (mME : PySem.W.nsIn K mainGlobals "MOST_ENDING" = some (some (.int 6 tkME)))
    (awo : PySem.W.nsIn K mainGlobals "words_of" = some (some (.ref fwo)))
    (lwo : K.lookup fwo = some ⟨ocwo, odwo, .func (PySem.W.fnOf "words_of" "words_of" (defArgs sWO) (defBody sWO) (defScope sWO) .none kVwo dcwo pmwo anwo cdwo ctwo), slwo⟩)
    (cwo : PySem.W.codeIn K cdwo "words_of" = true)
    (kwo : PySem.W.keepIn K (.ref fwo) = true)
    (aoo : PySem.W.nsIn K mainGlobals "order_of" = some (some (.ref foo)))
    (loo : K.lookup foo = some ⟨ocoo, odoo, .func (PySem.W.fnOf "order_of" "order_of" (defArgs sOO) (defBody sOO) (defScope sOO) .none kVoo dcoo pmoo anoo cdoo ctoo), sloo⟩)
    (coo : PySem.W.codeIn K cdoo "order_of" = true)
    (koo : PySem.W.keepIn K (.ref foo) = true)
    (aiw : PySem.W.nsIn K mainGlobals "is_word" = some (some (.ref fiw)))
    (liw : K.lookup fiw = some ⟨ociw, odiw, .func (PySem.W.fnOf "is_word" "is_word" (defArgs sIW) (defBody sIW) (defScope sIW) .none kViw dciw pmiw aniw cdiw ctiw), sliw⟩)
    (ciw : PySem.W.codeIn K cdiw "is_word" = true)
    (kiw : PySem.W.keepIn K (.ref fiw) = true)
    (aaw : PySem.W.nsIn K mainGlobals "are_words" = some (some (.ref faw)))
    (law : K.lookup faw = some ⟨ocaw, odaw, .func (PySem.W.fnOf "are_words" "are_words" (defArgs sAW) (defBody sAW) (defScope sAW) .none kVaw dcaw pmaw anaw cdaw ctaw), slaw⟩)
    (caw : PySem.W.codeIn K cdaw "are_words" = true)
    (kaw : PySem.W.keepIn K (.ref faw) = true)
    (air : PySem.W.nsIn K mainGlobals "is_round" = some (some (.ref fir)))
    (lir : K.lookup fir = some ⟨ocir, odir, .func (PySem.W.fnOf "is_round" "is_round" (defArgs sIR) (defBody sIR) (defScope sIR) .none kVir dcir pmir anir cdir ctir), slir⟩)
    (cir : PySem.W.codeIn K cdir "is_round" = true)
    (kir : PySem.W.keepIn K (.ref fir) = true)
    (aie : PySem.W.nsIn K mainGlobals "is_ending" = some (some (.ref fie)))
    (lie : K.lookup fie = some ⟨ocie, odie, .func (PySem.W.fnOf "is_ending" "is_ending" (defArgs sIE) (defBody sIE) (defScope sIE) .none kVie dcie pmie anie cdie ctie), slie⟩)
    (cie : PySem.W.codeIn K cdie "is_ending" = true)
    (kie : PySem.W.keepIn K (.ref fie) = true)
    (aCIT : PySem.W.nsIn K mainGlobals "InvalidText" = some (some (.ref CIT)))
    (aIT : PySem.W.findIn K (.ref CIT) "__init__" = some (some (.ref fIT)))
    (iIT : PySem.W.isFn K (.ref fIT) = true)
    (lIT : K.lookup fIT = some ⟨ocIT, odIT, .func (PySem.W.fnOf "__init__" "InvalidText.__init__" (defArgs sEI) (defBody sEI) (defScope sEI) .none kVIT dcIT pmIT anIT cdIT ctIT), slIT⟩)
    (cIT : PySem.W.codeIn K cdIT "InvalidText.__init__" = true)
    (kIT : PySem.W.keepIn K (.ref fIT) = true)
    (xIT : K.lookup CIT = some (excClassObj nmIT qIT CIT NIT bsIT bmIT true snIT subIT abIT colIT ddIT m0IT m1IT m2IT m3IT m5IT "ValueError.__new__"))
    (xrIT : PySem.HandSPX.refsVE bmIT = true)
    (e1IT : PySem.W.findIn K (.ref CIT) "__setattr__" = some (some (.builtin "object.__setattr__")))
    (e2IT : PySem.W.subIn K (.ref CIT) (.type "BaseException") = some true)
    (e3IT : PySem.W.typeIn K (.ref CIT) = some (.type "type"))
    (e4IT : PySem.W.keepIn K (.ref CIT) = true)
    (e5IT : PySem.W.typeIn K (.ref fIT) = some (.type "function"))
    (e6IT : PySem.W.findIn K (.ref CIT) "value" = some none)
    (aCL : PySem.W.nsIn K mainGlobals "Loop" = some (some (.ref CL)))
    (pgL : PySem.W.plainGet K CL Str.empty = true)
    (hdL : PySem.W.hasDictIn K CL = true)
    (poL : PySem.W.plainOver K CL = true)
    (saL : PySem.W.findIn K (.ref CL) "__setattr__" = some (some (.builtin "object.__setattr__")))
    (mkL : PySem.W.makesIn K CL = true)
    (kcL : PySem.W.keepIn K (.ref CL) = true)
    (nL0 : PySem.W.findIn K (.ref CL) "text" = some none)
    (nL1 : PySem.W.findIn K (.ref CL) "round" = some none)
    (nL2 : PySem.W.findIn K (.ref CL) "ending" = some none)
    (nL3 : PySem.W.findIn K (.ref CL) "round_orders" = some none)
    (nL4 : PySem.W.findIn K (.ref CL) "ending_orders" = some none)
    (ali : PySem.W.findIn K (.ref CL) "__init__" = some (some (.ref fli)))
    (ili : PySem.W.isFn K (.ref fli) = true)
    (lli : K.lookup fli = some ⟨ocli, odli, .func (PySem.W.fnOf "__init__" "Loop.__init__" (defArgs sLI) (defBody sLI) (defScope sLI) .none kVli dcli pmli anli cdli ctli), slli⟩)
    (cli : PySem.W.codeIn K cdli "Loop.__init__" = true)
    (kli : PySem.W.keepIn K (.ref fli) = true)
    (mMP : PySem.W.nsIn K mainGlobals "MOST_REPLIES" = some (some (.int 100 tkMP)))
    (mMI : PySem.W.nsIn K mainGlobals "MOST_ITEMS" = some (some (.int 1000 tkMI)))
    (aiib : PySem.W.nsIn K mainGlobals "is_integer_between" = some (some (.ref fiib)))
    (liib : K.lookup fiib = some ⟨ociib, odiib, .func (PySem.W.fnOf "is_integer_between" "is_integer_between" (defArgs sIIB) (defBody sIIB) (defScope sIIB) .none kViib dciib pmiib aniib cdiib ctiib), sliib⟩)
    (ciib : PySem.W.codeIn K cdiib "is_integer_between" = true)
    (kiib : PySem.W.keepIn K (.ref fiib) = true)
    (acks : PySem.W.nsIn K mainGlobals "check_size" = some (some (.ref fcks)))
    (lcks : K.lookup fcks = some ⟨occks, odcks, .func (PySem.W.fnOf "check_size" "check_size" (defArgs sCKS) (defBody sCKS) (defScope sCKS) .none kVcks dccks pmcks ancks cdcks ctcks), slcks⟩)
    (ccks : PySem.W.codeIn K cdcks "check_size" = true)
    (kcks : PySem.W.keepIn K (.ref fcks) = true)
    (aCES : PySem.W.nsIn K mainGlobals "InvalidSize" = some (some (.ref CES)))
    (aES : PySem.W.findIn K (.ref CES) "__init__" = some (some (.ref fES)))
    (iES : PySem.W.isFn K (.ref fES) = true)
    (lES : K.lookup fES = some ⟨ocES, odES, .func (PySem.W.fnOf "__init__" "InvalidSize.__init__" (defArgs sES) (defBody sES) (defScope sES) .none kVES dcES pmES anES cdES ctES), slES⟩)
    (cES : PySem.W.codeIn K cdES "InvalidSize.__init__" = true)
    (kES : PySem.W.keepIn K (.ref fES) = true)
    (xES : K.lookup CES = some (excClassObj nmES qES CES NES bsES bmES true snES subES abES colES ddES m0ES m1ES m2ES m3ES m5ES "ValueError.__new__"))
    (xrES : PySem.HandSPX.refsVE bmES = true)
    (e1ES : PySem.W.findIn K (.ref CES) "__setattr__" = some (some (.builtin "object.__setattr__")))
    (e2ES : PySem.W.subIn K (.ref CES) (.type "BaseException") = some true)
    (e3ES : PySem.W.typeIn K (.ref CES) = some (.type "type"))
    (e4ES : PySem.W.keepIn K (.ref CES) = true)
    (e5ES : PySem.W.typeIn K (.ref fES) = some (.type "function"))
    (e6ES : PySem.W.findIn K (.ref CES) "value" = some none)
    (aCX : PySem.W.nsIn K mainGlobals "Execution" = some (some (.ref CX)))
    (pgX : PySem.W.plainGet K CX Str.empty = true)
    (hdX : PySem.W.hasDictIn K CX = true)
    (poX : PySem.W.plainOver K CX = true)
    (saX : PySem.W.findIn K (.ref CX) "__setattr__" = some (some (.builtin "object.__setattr__")))
    (mkX : PySem.W.makesIn K CX = true)
    (kcX : PySem.W.keepIn K (.ref CX) = true)
    (nX0 : PySem.W.findIn K (.ref CX) "round_orders" = some none)
    (nX1 : PySem.W.findIn K (.ref CX) "ending_orders" = some none)
    (nX2 : PySem.W.findIn K (.ref CX) "size" = some none)
    (nX3 : PySem.W.findIn K (.ref CX) "held" = some none)
    (nX4 : PySem.W.findIn K (.ref CX) "told" = some none)
    (nX5 : PySem.W.findIn K (.ref CX) "kept" = some none)
    (nX6 : PySem.W.findIn K (.ref CX) "handed" = some none)
    (nX7 : PySem.W.findIn K (.ref CX) "asked" = some none)
    (nX8 : PySem.W.findIn K (.ref CX) "over" = some none)
    (axi : PySem.W.findIn K (.ref CX) "__init__" = some (some (.ref fxi)))
    (ixi : PySem.W.isFn K (.ref fxi) = true)
    (lxi : K.lookup fxi = some ⟨ocxi, odxi, .func (PySem.W.fnOf "__init__" "Execution.__init__" (defArgs sXI) (defBody sXI) (defScope sXI) .none kVxi dcxi pmxi anxi cdxi ctxi), slxi⟩)
    (cxi : PySem.W.codeIn K cdxi "Execution.__init__" = true)
    (kxi : PySem.W.keepIn K (.ref fxi) = true)
    (axa : PySem.W.findIn K (.ref CX) "answer" = some (some (.ref fxa)))
    (ixa : PySem.W.isFn K (.ref fxa) = true)
    (lxa : K.lookup fxa = some ⟨ocxa, odxa, .func (PySem.W.fnOf "answer" "Execution.answer" (defArgs sXA) (defBody sXA) (defScope sXA) .none kVxa dcxa pmxa anxa cdxa ctxa), slxa⟩)
    (cxa : PySem.W.codeIn K cdxa "Execution.answer" = true)
    (kxa : PySem.W.keepIn K (.ref fxa) = true)
    (axq : PySem.W.findIn K (.ref CX) "finish" = some (some (.ref fxq)))
    (ixq : PySem.W.isFn K (.ref fxq) = true)
    (lxq : K.lookup fxq = some ⟨ocxq, odxq, .func (PySem.W.fnOf "finish" "Execution.finish" (defArgs sXF) (defBody sXF) (defScope sXF) .none kVxq dcxq pmxq anxq cdxq ctxq), slxq⟩)
    (cxq : PySem.W.codeIn K cdxq "Execution.finish" = true)
    (kxq : PySem.W.keepIn K (.ref fxq) = true)
    (axp : PySem.W.findIn K (.ref CX) "passes" = some (some (.ref fxp)))
    (ixp : PySem.W.isFn K (.ref fxp) = true)
    (lxp : K.lookup fxp = some ⟨ocxp, odxp, .func (PySem.W.fnOf "passes" "Execution.passes" (defArgs sXP) (defBody sXP) (defScope sXP) .none kVxp dcxp pmxp anxp cdxp ctxp), slxp⟩)
    (cxp : PySem.W.codeIn K cdxp "Execution.passes" = true)
    (kxp : PySem.W.keepIn K (.ref fxp) = true)
    (axr : PySem.W.findIn K (.ref CX) "perform" = some (some (.ref fxr)))
    (ixr : PySem.W.isFn K (.ref fxr) = true)
    (lxr : K.lookup fxr = some ⟨ocxr, odxr, .func (PySem.W.fnOf "perform" "Execution.perform" (defArgs sXR) (defBody sXR) (defScope sXR) .none kVxr dcxr pmxr anxr cdxr ctxr), slxr⟩)
    (cxr : PySem.W.codeIn K cdxr "Execution.perform" = true)
    (kxr : PySem.W.keepIn K (.ref fxr) = true)
    (axc : PySem.W.findIn K (.ref CX) "cut_off" = some (some (.ref fxc)))
    (ixc : PySem.W.isFn K (.ref fxc) = true)
    (lxc : K.lookup fxc = some ⟨ocxc, odxc, .func (PySem.W.fnOf "cut_off" "Execution.cut_off" (defArgs sXC) (defBody sXC) (defScope sXC) .none kVxc dcxc pmxc anxc cdxc ctxc), slxc⟩)
    (cxc : PySem.W.codeIn K cdxc "Execution.cut_off" = true)
    (kxc : PySem.W.keepIn K (.ref fxc) = true)
    (alx : PySem.W.findIn K (.ref CL) "execution" = some (some (.ref flx)))
    (ilx : PySem.W.isFn K (.ref flx) = true)
    (llx : K.lookup flx = some ⟨oclx, odlx, .func (PySem.W.fnOf "execution" "Loop.execution" (defArgs sLX) (defBody sLX) (defScope sLX) .none kVlx dclx pmlx anlx cdlx ctlx), sllx⟩)
    (clx : PySem.W.codeIn K cdlx "Loop.execution" = true)
    (klx : PySem.W.keepIn K (.ref flx) = true)
    (asip : PySem.W.nsIn K mainGlobals "_law_sip" = some (some (.ref fsip)))
    (lsip : K.lookup fsip = some ⟨ocsip, odsip, .func (PySem.W.fnOf "_law_sip" "_law_sip" (defArgs sSip) (defBody sSip) (defScope sSip) .none kVsip dcsip pmsip ansip cdsip ctsip), slsip⟩)
    (csip : PySem.W.codeIn K cdsip "_law_sip" = true)
    (ksip : PySem.W.keepIn K (.ref fsip) = true)
    (afrm : PySem.W.nsIn K mainGlobals "_law_from" = some (some (.ref ffrm)))
    (lfrm : K.lookup ffrm = some ⟨ocfrm, odfrm, .func (PySem.W.fnOf "_law_from" "_law_from" (defArgs sFrom) (defBody sFrom) (defScope sFrom) .none kVfrm dcfrm pmfrm anfrm cdfrm ctfrm), slfrm⟩)
    (cfrm : PySem.W.codeIn K cdfrm "_law_from" = true)
    (kfrm : PySem.W.keepIn K (.ref ffrm) = true)
    (awds : PySem.W.nsIn K mainGlobals "_law_words" = some (some (.ref fwds)))
    (lwds : K.lookup fwds = some ⟨ocwds, odwds, .func (PySem.W.fnOf "_law_words" "_law_words" (defArgs sWords) (defBody sWords) (defScope sWords) .none kVwds dcwds pmwds anwds cdwds ctwds), slwds⟩)
    (cwds : PySem.W.codeIn K cdwds "_law_words" = true)
    (kwds : PySem.W.keepIn K (.ref fwds) = true)
    (alop : PySem.W.nsIn K mainGlobals "_law_loop" = some (some (.ref flop)))
    (llop : K.lookup flop = some ⟨oclop, odlop, .func (PySem.W.fnOf "_law_loop" "_law_loop" (defArgs sLoop) (defBody sLoop) (defScope sLoop) .none kVlop dclop pmlop anlop cdlop ctlop), sllop⟩)
    (clop : PySem.W.codeIn K cdlop "_law_loop" = true)
    (klop : PySem.W.keepIn K (.ref flop) = true)
    (alin : PySem.W.nsIn K mainGlobals "_law_line" = some (some (.ref flin)))
    (llin : K.lookup flin = some ⟨oclin, odlin, .func (PySem.W.fnOf "_law_line" "_law_line" (defArgs sLine) (defBody sLine) (defScope sLine) .none kVlin dclin pmlin anlin cdlin ctlin), sllin⟩)
    (clin : PySem.W.codeIn K cdlin "_law_line" = true)
    (klin : PySem.W.keepIn K (.ref flin) = true)
    (apas : PySem.W.nsIn K mainGlobals "_law_passed" = some (some (.ref fpas)))
    (lpas : K.lookup fpas = some ⟨ocpas, odpas, .func (PySem.W.fnOf "_law_passed" "_law_passed" (defArgs sPassed) (defBody sPassed) (defScope sPassed) .none kVpas dcpas pmpas anpas cdpas ctpas), slpas⟩)
    (cpas : PySem.W.codeIn K cdpas "_law_passed" = true)
    (kpas : PySem.W.keepIn K (.ref fpas) = true)
    (asli : PySem.W.nsIn K mainGlobals "_law_sliced" = some (some (.ref fsli)))
    (lsli : K.lookup fsli = some ⟨ocsli, odsli, .func (PySem.W.fnOf "_law_sliced" "_law_sliced" (defArgs sSliced) (defBody sSliced) (defScope sSliced) .none kVsli dcsli pmsli ansli cdsli ctsli), slsli⟩)
    (csli : PySem.W.codeIn K cdsli "_law_sliced" = true)
    (ksli : PySem.W.keepIn K (.ref fsli) = true)
    (adon : PySem.W.nsIn K mainGlobals "_law_done" = some (some (.ref fdon)))
    (ldon : K.lookup fdon = some ⟨ocdon, oddon, .func (PySem.W.fnOf "_law_done" "_law_done" (defArgs sDone) (defBody sDone) (defScope sDone) .none kVdon dcdon pmdon andon cddon ctdon), sldon⟩)
    (cdon : PySem.W.codeIn K cddon "_law_done" = true)
    (kdon : PySem.W.keepIn K (.ref fdon) = true)
    (afed : PySem.W.nsIn K mainGlobals "_law_fed" = some (some (.ref ffed)))
    (lfed : K.lookup ffed = some ⟨ocfed, odfed, .func (PySem.W.fnOf "_law_fed" "_law_fed" (defArgs sFed) (defBody sFed) (defScope sFed) .none kVfed dcfed pmfed anfed cdfed ctfed), slfed⟩)
    (cfed : PySem.W.codeIn K cdfed "_law_fed" = true)
    (kfed : PySem.W.keepIn K (.ref ffed) = true)
    (abox : PySem.W.nsIn K mainGlobals "_law_box" = some (some (.ref fbox)))
    (lbox : K.lookup fbox = some ⟨ocbox, odbox, .func (PySem.W.fnOf "_law_box" "_law_box" (defArgs sBox) (defBody sBox) (defScope sBox) .none kVbox dcbox pmbox anbox cdbox ctbox), slbox⟩)
    (cbox : PySem.W.codeIn K cdbox "_law_box" = true)
    (kbox : PySem.W.keepIn K (.ref fbox) = true)
    (aCM : PySem.W.nsIn K mainGlobals "Moment" = some (some (.ref CM)))
    (pgM : PySem.W.plainGet K CM Str.empty = true)
    (hdM : PySem.W.hasDictIn K CM = true)
    (poM : PySem.W.plainOver K CM = true)
    (saM : PySem.W.findIn K (.ref CM) "__setattr__" = some (some (.builtin "object.__setattr__")))
    (mkM : PySem.W.makesIn K CM = true)
    (kcM : PySem.W.keepIn K (.ref CM) = true)
    (nM0 : PySem.W.findIn K (.ref CM) "before" = some none)
    (nM1 : PySem.W.findIn K (.ref CM) "given" = some none)
    (nM2 : PySem.W.findIn K (.ref CM) "handed" = some none)
    (nM3 : PySem.W.findIn K (.ref CM) "kept" = some none)
    (nM4 : PySem.W.findIn K (.ref CM) "over" = some none)
    (ami : PySem.W.findIn K (.ref CM) "__init__" = some (some (.ref fmi)))
    (imi : PySem.W.isFn K (.ref fmi) = true)
    (lmi : K.lookup fmi = some ⟨ocmi, odmi, .func (PySem.W.fnOf "__init__" "Moment.__init__" (defArgs sMmI) (defBody sMmI) (defScope sMmI) .none kVmi dcmi pmmi anmi cdmi ctmi), slmi⟩)
    (cmi : PySem.W.codeIn K cdmi "Moment.__init__" = true)
    (kmi : PySem.W.keepIn K (.ref fmi) = true)
    (aCQ : PySem.W.nsIn K mainGlobals "Reading" = some (some (.ref CQ)))
    (pgQ : PySem.W.plainGet K CQ Str.empty = true)
    (hdQ : PySem.W.hasDictIn K CQ = true)
    (poQ : PySem.W.plainOver K CQ = true)
    (saQ : PySem.W.findIn K (.ref CQ) "__setattr__" = some (some (.builtin "object.__setattr__")))
    (mkQ : PySem.W.makesIn K CQ = true)
    (kcQ : PySem.W.keepIn K (.ref CQ) = true)
    (nQ0 : PySem.W.findIn K (.ref CQ) "loop" = some none)
    (nQ1 : PySem.W.findIn K (.ref CQ) "size" = some none)
    (nQ2 : PySem.W.findIn K (.ref CQ) "busy" = some none)
    (nQ3 : PySem.W.findIn K (.ref CQ) "moment" = some none)
    (aqi : PySem.W.findIn K (.ref CQ) "__init__" = some (some (.ref fqi)))
    (iqi : PySem.W.isFn K (.ref fqi) = true)
    (lqi : K.lookup fqi = some ⟨ocqi, odqi, .func (PySem.W.fnOf "__init__" "Reading.__init__" (defArgs sRdI) (defBody sRdI) (defScope sRdI) .none kVqi dcqi pmqi anqi cdqi ctqi), slqi⟩)
    (cqi : PySem.W.codeIn K cdqi "Reading.__init__" = true)
    (kqi : PySem.W.keepIn K (.ref fqi) = true)
    (ackl : PySem.W.nsIn K mainGlobals "check_loop" = some (some (.ref fckl)))
    (lckl : K.lookup fckl = some ⟨occkl, odckl, .func (PySem.W.fnOf "check_loop" "check_loop" (defArgs sCKL) (defBody sCKL) (defScope sCKL) .none kVckl dcckl pmckl anckl cdckl ctckl), slckl⟩)
    (cckl : PySem.W.codeIn K cdckl "check_loop" = true)
    (kckl : PySem.W.keepIn K (.ref fckl) = true)
    (w1 : PySem.W.findIn K (.ref CL) "__class__" = some (some (.builtin "object.__class__")))
    (w2 : PySem.W.specialIn K (.builtin "object.__class__") "__get__" = some (some (.builtin "getset_descriptor.__get__")))
    (w3 : PySem.W.takesIn K (.builtin "object.__class__") = some true)
    (w4 : PySem.W.mroIn K CL (.type "object") = some true)
    (w5 : PySem.W.kitOne K (.ref CL) (.ref CL) = some true)
    (aqgp : PySem.W.findIn K (.ref CQ) "replies" = some (some (.ref pqgp)))
    (gqgp : PySem.W.specialIn K (.ref pqgp) "__get__" = some (some (.builtin "property.__get__")))
    (tqgp : PySem.W.takesIn K (.ref pqgp) = some true)
    (rqgp : PySem.W.recIn K pqgp "property" = some (.ref fqgp :: rsqgp))
    (lqgp : K.lookup fqgp = some ⟨ocqgp, odqgp, .func (PySem.W.fnOf "replies" "Reading.replies" (defArgs sRdG) (defBody sRdG) (defScope sRdG) .none kVqgp dcqgp pmqgp anqgp cdqgp ctqgp), slqgp⟩)
    (cqgp : PySem.W.codeIn K cdqgp "Reading.replies" = true)
    (kqgp : PySem.W.keepIn K (.ref fqgp) = true)
    (aqhp : PySem.W.findIn K (.ref CQ) "pieces" = some (some (.ref pqhp)))
    (gqhp : PySem.W.specialIn K (.ref pqhp) "__get__" = some (some (.builtin "property.__get__")))
    (tqhp : PySem.W.takesIn K (.ref pqhp) = some true)
    (rqhp : PySem.W.recIn K pqhp "property" = some (.ref fqhp :: rsqhp))
    (lqhp : K.lookup fqhp = some ⟨ocqhp, odqhp, .func (PySem.W.fnOf "pieces" "Reading.pieces" (defArgs sRdH) (defBody sRdH) (defScope sRdH) .none kVqhp dcqhp pmqhp anqhp cdqhp ctqhp), slqhp⟩)
    (cqhp : PySem.W.codeIn K cdqhp "Reading.pieces" = true)
    (kqhp : PySem.W.keepIn K (.ref fqhp) = true)
    (aqkp : PySem.W.findIn K (.ref CQ) "rest" = some (some (.ref pqkp)))
    (gqkp : PySem.W.specialIn K (.ref pqkp) "__get__" = some (some (.builtin "property.__get__")))
    (tqkp : PySem.W.takesIn K (.ref pqkp) = some true)
    (rqkp : PySem.W.recIn K pqkp "property" = some (.ref fqkp :: rsqkp))
    (lqkp : K.lookup fqkp = some ⟨ocqkp, odqkp, .func (PySem.W.fnOf "rest" "Reading.rest" (defArgs sRdK) (defBody sRdK) (defScope sRdK) .none kVqkp dcqkp pmqkp anqkp cdqkp ctqkp), slqkp⟩)
    (cqkp : PySem.W.codeIn K cdqkp "Reading.rest" = true)
    (kqkp : PySem.W.keepIn K (.ref fqkp) = true)
    (aqop : PySem.W.findIn K (.ref CQ) "stopped" = some (some (.ref pqop)))
    (gqop : PySem.W.specialIn K (.ref pqop) "__get__" = some (some (.builtin "property.__get__")))
    (tqop : PySem.W.takesIn K (.ref pqop) = some true)
    (rqop : PySem.W.recIn K pqop "property" = some (.ref fqop :: rsqop))
    (lqop : K.lookup fqop = some ⟨ocqop, odqop, .func (PySem.W.fnOf "stopped" "Reading.stopped" (defArgs sRdO) (defBody sRdO) (defScope sRdO) .none kVqop dcqop pmqop anqop cdqop ctqop), slqop⟩)
    (cqop : PySem.W.codeIn K cdqop "Reading.stopped" = true)
    (kqop : PySem.W.keepIn K (.ref fqop) = true)
    (aql : PySem.W.findIn K (.ref CQ) "__len__" = some (some (.ref fql)))
    (iql : PySem.W.isFn K (.ref fql) = true)
    (lql : K.lookup fql = some ⟨ocql, odql, .func (PySem.W.fnOf "__len__" "Reading.__len__" (defArgs sRdL) (defBody sRdL) (defScope sRdL) .none kVql dcql pmql anql cdql ctql), slql⟩)
    (cql : PySem.W.codeIn K cdql "Reading.__len__" = true)
    (kql : PySem.W.keepIn K (.ref fql) = true)
    (aqr : PySem.W.findIn K (.ref CQ) "__repr__" = some (some (.ref fqr)))
    (iqr : PySem.W.isFn K (.ref fqr) = true)
    (lqr : K.lookup fqr = some ⟨ocqr, odqr, .func (PySem.W.fnOf "__repr__" "Reading.__repr__" (defArgs sRdR) (defBody sRdR) (defScope sRdR) .none kVqr dcqr pmqr anqr cdqr ctqr), slqr⟩)
    (cqr : PySem.W.codeIn K cdqr "Reading.__repr__" = true)
    (kqr : PySem.W.keepIn K (.ref fqr) = true)
    (aqf : PySem.W.findIn K (.ref CQ) "feed" = some (some (.ref fqf)))
    (iqf : PySem.W.isFn K (.ref fqf) = true)
    (lqf : K.lookup fqf = some ⟨ocqf, odqf, .func (PySem.W.fnOf "feed" "Reading.feed" (defArgs sRdF) (defBody sRdF) (defScope sRdF) .none kVqf dcqf pmqf anqf cdqf ctqf), slqf⟩)
    (cqf : PySem.W.codeIn K cdqf "Reading.feed" = true)
    (kqf : PySem.W.keepIn K (.ref fqf) = true)
    (aqu : PySem.W.findIn K (.ref CQ) "undo" = some (some (.ref fqu)))
    (iqu : PySem.W.isFn K (.ref fqu) = true)
    (lqu : K.lookup fqu = some ⟨ocqu, odqu, .func (PySem.W.fnOf "undo" "Reading.undo" (defArgs sRdU) (defBody sRdU) (defScope sRdU) .none kVqu dcqu pmqu anqu cdqu ctqu), slqu⟩)
    (cqu : PySem.W.codeIn K cdqu "Reading.undo" = true)
    (kqu : PySem.W.keepIn K (.ref fqu) = true)
    (aqc : PySem.W.findIn K (.ref CQ) "check_free" = some (some (.ref fqc)))
    (iqc : PySem.W.isFn K (.ref fqc) = true)
    (lqc : K.lookup fqc = some ⟨ocqc, odqc, .func (PySem.W.fnOf "check_free" "Reading.check_free" (defArgs sRdCf) (defBody sRdCf) (defScope sRdCf) .none kVqc dcqc pmqc anqc cdqc ctqc), slqc⟩)
    (cqc : PySem.W.codeIn K cdqc "Reading.check_free" = true)
    (kqc : PySem.W.keepIn K (.ref fqc) = true)
    (aqk : PySem.W.findIn K (.ref CQ) "check_reply" = some (some (.ref fqk)))
    (iqk : PySem.W.isFn K (.ref fqk) = true)
    (lqk : K.lookup fqk = some ⟨ocqk, odqk, .func (PySem.W.fnOf "check_reply" "Reading.check_reply" (defArgs sRdCr) (defBody sRdCr) (defScope sRdCr) .none kVqk dcqk pmqk anqk cdqk ctqk), slqk⟩)
    (cqk : PySem.W.codeIn K cdqk "Reading.check_reply" = true)
    (kqk : PySem.W.keepIn K (.ref fqk) = true)
    (aqt : PySem.W.findIn K (.ref CQ) "take" = some (some (.ref fqt)))
    (iqt : PySem.W.isFn K (.ref fqt) = true)
    (lqt : K.lookup fqt = some ⟨ocqt, odqt, .func (PySem.W.fnOf "take" "Reading.take" (defArgs sRdT) (defBody sRdT) (defScope sRdT) .none kVqt dcqt pmqt anqt cdqt ctqt), slqt⟩)
    (cqt : PySem.W.codeIn K cdqt "Reading.take" = true)
    (kqt : PySem.W.keepIn K (.ref fqt) = true)
    (aCStp : PySem.W.nsIn K mainGlobals "Stopped" = some (some (.ref CStp)))
    (qStp : PySem.W.excIn K CStp [.type "LookupError", .type "Exception", .type "BaseException", .type "object"] "LookupError.__new__" = true)
    (kStp : PySem.W.keepIn K (.ref CStp) = true)
    (sStp : PySem.W.subIn K (.ref CStp) (.type "BaseException") = some true)
    (tStp : PySem.W.typeIn K (.ref CStp) = some (.type "type"))
    (aCNtu : PySem.W.nsIn K mainGlobals "NothingToUndo" = some (some (.ref CNtu)))
    (qNtu : PySem.W.excIn K CNtu [.type "LookupError", .type "Exception", .type "BaseException", .type "object"] "LookupError.__new__" = true)
    (kNtu : PySem.W.keepIn K (.ref CNtu) = true)
    (sNtu : PySem.W.subIn K (.ref CNtu) (.type "BaseException") = some true)
    (tNtu : PySem.W.typeIn K (.ref CNtu) = some (.type "type"))
    (aCEL : PySem.W.nsIn K mainGlobals "NotALoop" = some (some (.ref CEL)))
    (aEL : PySem.W.findIn K (.ref CEL) "__init__" = some (some (.ref fEL)))
    (iEL : PySem.W.isFn K (.ref fEL) = true)
    (lEL : K.lookup fEL = some ⟨ocEL, odEL, .func (PySem.W.fnOf "__init__" "NotALoop.__init__" (defArgs sEL) (defBody sEL) (defScope sEL) .none kVEL dcEL pmEL anEL cdEL ctEL), slEL⟩)
    (cEL : PySem.W.codeIn K cdEL "NotALoop.__init__" = true)
    (kEL : PySem.W.keepIn K (.ref fEL) = true)
    (xEL : K.lookup CEL = some (excClassObj nmEL qEL CEL NEL bsEL bmEL true snEL subEL abEL colEL ddEL m0EL m1EL m2EL m3EL m5EL "ValueError.__new__"))
    (xrEL : PySem.HandSPX.refsVE bmEL = true)
    (e1EL : PySem.W.findIn K (.ref CEL) "__setattr__" = some (some (.builtin "object.__setattr__")))
    (e2EL : PySem.W.subIn K (.ref CEL) (.type "BaseException") = some true)
    (e3EL : PySem.W.typeIn K (.ref CEL) = some (.type "type"))
    (e4EL : PySem.W.keepIn K (.ref CEL) = true)
    (e5EL : PySem.W.typeIn K (.ref fEL) = some (.type "function"))
    (e6EL : PySem.W.findIn K (.ref CEL) "value" = some none)
    (aCEC : PySem.W.nsIn K mainGlobals "InvalidCount" = some (some (.ref CEC)))
    (aEC : PySem.W.findIn K (.ref CEC) "__init__" = some (some (.ref fEC)))
    (iEC : PySem.W.isFn K (.ref fEC) = true)
    (lEC : K.lookup fEC = some ⟨ocEC, odEC, .func (PySem.W.fnOf "__init__" "InvalidCount.__init__" (defArgs sEC) (defBody sEC) (defScope sEC) .none kVEC dcEC pmEC anEC cdEC ctEC), slEC⟩)
    (cEC : PySem.W.codeIn K cdEC "InvalidCount.__init__" = true)
    (kEC : PySem.W.keepIn K (.ref fEC) = true)
    (xEC : K.lookup CEC = some (excClassObj nmEC qEC CEC NEC bsEC bmEC true snEC subEC abEC colEC ddEC m0EC m1EC m2EC m3EC m5EC "ValueError.__new__"))
    (xrEC : PySem.HandSPX.refsVE bmEC = true)
    (e1EC : PySem.W.findIn K (.ref CEC) "__setattr__" = some (some (.builtin "object.__setattr__")))
    (e2EC : PySem.W.subIn K (.ref CEC) (.type "BaseException") = some true)
    (e3EC : PySem.W.typeIn K (.ref CEC) = some (.type "type"))
    (e4EC : PySem.W.keepIn K (.ref CEC) = true)
    (e5EC : PySem.W.typeIn K (.ref fEC) = some (.type "function"))
    (e6EC : PySem.W.findIn K (.ref CEC) "value" = some none)
    (aCET : PySem.W.nsIn K mainGlobals "InvalidTold" = some (some (.ref CET)))
    (aET : PySem.W.findIn K (.ref CET) "__init__" = some (some (.ref fET)))
    (iET : PySem.W.isFn K (.ref fET) = true)
    (lET : K.lookup fET = some ⟨ocET, odET, .func (PySem.W.fnOf "__init__" "InvalidTold.__init__" (defArgs sET) (defBody sET) (defScope sET) .none kVET dcET pmET anET cdET ctET), slET⟩)
    (cET : PySem.W.codeIn K cdET "InvalidTold.__init__" = true)
    (kET : PySem.W.keepIn K (.ref fET) = true)
    (xET : K.lookup CET = some (excClassObj nmET qET CET NET bsET bmET true snET subET abET colET ddET m0ET m1ET m2ET m3ET m5ET "ValueError.__new__"))
    (xrET : PySem.HandSPX.refsVE bmET = true)
    (e1ET : PySem.W.findIn K (.ref CET) "__setattr__" = some (some (.builtin "object.__setattr__")))
    (e2ET : PySem.W.subIn K (.ref CET) (.type "BaseException") = some true)
    (e3ET : PySem.W.typeIn K (.ref CET) = some (.type "type"))
    (e4ET : PySem.W.keepIn K (.ref CET) = true)
    (e5ET : PySem.W.typeIn K (.ref fET) = some (.type "function"))
    (e6ET : PySem.W.findIn K (.ref CET) "value" = some none)
    (aCEM : PySem.W.nsIn K mainGlobals "TooManyReplies" = some (some (.ref CEM)))
    (aEM : PySem.W.findIn K (.ref CEM) "__init__" = some (some (.ref fEM)))
    (iEM : PySem.W.isFn K (.ref fEM) = true)
    (lEM : K.lookup fEM = some ⟨ocEM, odEM, .func (PySem.W.fnOf "__init__" "TooManyReplies.__init__" (defArgs sEM) (defBody sEM) (defScope sEM) .none kVEM dcEM pmEM anEM cdEM ctEM), slEM⟩)
    (cEM : PySem.W.codeIn K cdEM "TooManyReplies.__init__" = true)
    (kEM : PySem.W.keepIn K (.ref fEM) = true)
    (xEM : K.lookup CEM = some (excClassObj nmEM qEM CEM NEM bsEM bmEM true snEM subEM abEM colEM ddEM m0EM m1EM m2EM m3EM m5EM "ArithmeticError.__new__"))
    (xrEM : ExV.Behind [.type "ArithmeticError", .type "Exception", .type "BaseException", .type "object"] bmEM)
    (e1EM : PySem.W.findIn K (.ref CEM) "__setattr__" = some (some (.builtin "object.__setattr__")))
    (e2EM : PySem.W.subIn K (.ref CEM) (.type "BaseException") = some true)
    (e3EM : PySem.W.typeIn K (.ref CEM) = some (.type "type"))
    (e4EM : PySem.W.keepIn K (.ref CEM) = true)
    (e5EM : PySem.W.typeIn K (.ref fEM) = some (.type "function"))
    (e6EM : PySem.W.findIn K (.ref CEM) "limit" = some none)
    (aCED : PySem.W.nsIn K mainGlobals "InvalidDeeds" = some (some (.ref CED)))
    (aED : PySem.W.findIn K (.ref CED) "__init__" = some (some (.ref fED)))
    (iED : PySem.W.isFn K (.ref fED) = true)
    (lED : K.lookup fED = some ⟨ocED, odED, .func (PySem.W.fnOf "__init__" "InvalidDeeds.__init__" (defArgs sEID) (defBody sEID) (defScope sEID) .none kVED dcED pmED anED cdED ctED), slED⟩)
    (cED : PySem.W.codeIn K cdED "InvalidDeeds.__init__" = true)
    (kED : PySem.W.keepIn K (.ref fED) = true)
    (xED : K.lookup CED = some (excClassObj nmED qED CED NED bsED bmED true snED subED abED colED ddED m0ED m1ED m2ED m3ED m5ED "ValueError.__new__"))
    (xrED : PySem.HandSPX.refsVE bmED = true)
    (e1ED : PySem.W.findIn K (.ref CED) "__setattr__" = some (some (.builtin "object.__setattr__")))
    (e2ED : PySem.W.subIn K (.ref CED) (.type "BaseException") = some true)
    (e3ED : PySem.W.typeIn K (.ref CED) = some (.type "type"))
    (e4ED : PySem.W.keepIn K (.ref CED) = true)
    (e5ED : PySem.W.typeIn K (.ref fED) = some (.type "function"))
    (e6ED : PySem.W.findIn K (.ref CED) "index" = some none)
    (aisd : PySem.W.nsIn K mainGlobals "is_deed" = some (some (.ref fisd)))
    (lisd : K.lookup fisd = some ⟨ocisd, odisd, .func (PySem.W.fnOf "is_deed" "is_deed" (defArgs sIsD) (defBody sIsD) (defScope sIsD) .none kVisd dcisd pmisd anisd cdisd ctisd), slisd⟩)
    (cisd : PySem.W.codeIn K cdisd "is_deed" = true)
    (kisd : PySem.W.keepIn K (.ref fisd) = true)
    (ackd : PySem.W.nsIn K mainGlobals "check_deeds" = some (some (.ref fckd)))
    (lckd : K.lookup fckd = some ⟨occkd, odckd, .func (PySem.W.fnOf "check_deeds" "check_deeds" (defArgs sCkD) (defBody sCkD) (defScope sCkD) .none kVckd dcckd pmckd anckd cdckd ctckd), slckd⟩)
    (cckd : PySem.W.codeIn K cdckd "check_deeds" = true)
    (kckd : PySem.W.keepIn K (.ref fckd) = true)
    (afa : PySem.W.findIn K (.ref CQ) "feed_all" = some (some (.ref ffa)))
    (ifa : PySem.W.isFn K (.ref ffa) = true)
    (lfa : K.lookup ffa = some ⟨ocfa, odfa, .func (PySem.W.fnOf "feed_all" "Reading.feed_all" (defArgs sFA) (defBody sFA) (defScope sFA) .none (.ref DFa) dcfa pmfa anfa cdfa ctfa), slfa⟩)
    (cfa : PySem.W.codeIn K cdfa "Reading.feed_all" = true)
    (kfa : PySem.W.keepIn K (.ref ffa) = true)
    (wfa : PySem.W.nsIn K DFa "watch" = some (some .none))
    (aCTr : PySem.W.nsIn K mainGlobals "Trial" = some (some (.ref CTr)))
    (pgTr : PySem.W.plainGet K CTr Str.empty = true)
    (hdTr : PySem.W.hasDictIn K CTr = true)
    (poTr : PySem.W.plainOver K CTr = true)
    (saTr : PySem.W.findIn K (.ref CTr) "__setattr__" = some (some (.builtin "object.__setattr__")))
    (mkTr : PySem.W.makesIn K CTr = true)
    (kcTr : PySem.W.keepIn K (.ref CTr) = true)
    (nTr0 : PySem.W.findIn K (.ref CTr) "reading" = some none)
    (nTr1 : PySem.W.findIn K (.ref CTr) "layer" = some none)
    (atri : PySem.W.findIn K (.ref CTr) "__init__" = some (some (.ref ftri)))
    (itri : PySem.W.isFn K (.ref ftri) = true)
    (ltri : K.lookup ftri = some ⟨octri, odtri, .func (PySem.W.fnOf "__init__" "Trial.__init__" (defArgs sTrI) (defBody sTrI) (defScope sTrI) .none kVtri dctri pmtri antri cdtri cttri), sltri⟩)
    (ctri : PySem.W.codeIn K cdtri "Trial.__init__" = true)
    (ktri : PySem.W.keepIn K (.ref ftri) = true)
    (aCLy : PySem.W.nsIn K mainGlobals "Layer" = some (some (.ref CLy)))
    (pgLy : PySem.W.plainGet K CLy Str.empty = true)
    (hdLy : PySem.W.hasDictIn K CLy = true)
    (poLy : PySem.W.plainOver K CLy = true)
    (saLy : PySem.W.findIn K (.ref CLy) "__setattr__" = some (some (.builtin "object.__setattr__")))
    (mkLy : PySem.W.makesIn K CLy = true)
    (kcLy : PySem.W.keepIn K (.ref CLy) = true)
    (nLy0 : PySem.W.findIn K (.ref CLy) "moment" = some none)
    (nLy1 : PySem.W.findIn K (.ref CLy) "under" = some none)
    (alyi : PySem.W.findIn K (.ref CLy) "__init__" = some (some (.ref flyi)))
    (ilyi : PySem.W.isFn K (.ref flyi) = true)
    (llyi : K.lookup flyi = some ⟨oclyi, odlyi, .func (PySem.W.fnOf "__init__" "Layer.__init__" (defArgs sLyI) (defBody sLyI) (defScope sLyI) .none kVlyi dclyi pmlyi anlyi cdlyi ctlyi), sllyi⟩)
    (clyi : PySem.W.codeIn K cdlyi "Layer.__init__" = true)
    (klyi : PySem.W.keepIn K (.ref flyi) = true)
    (aten : PySem.W.findIn K (.ref CTr) "__enter__" = some (some (.ref ften)))
    (iten : PySem.W.isFn K (.ref ften) = true)
    (lten : K.lookup ften = some ⟨octen, odten, .func (PySem.W.fnOf "__enter__" "Trial.__enter__" (defArgs sTrEn) (defBody sTrEn) (defScope sTrEn) .none kVten dcten pmten anten cdten ctten), slten⟩)
    (cten : PySem.W.codeIn K cdten "Trial.__enter__" = true)
    (kten : PySem.W.keepIn K (.ref ften) = true)
    (atex : PySem.W.findIn K (.ref CTr) "__exit__" = some (some (.ref ftex)))
    (itex : PySem.W.isFn K (.ref ftex) = true)
    (ltex : K.lookup ftex = some ⟨octex, odtex, .func (PySem.W.fnOf "__exit__" "Trial.__exit__" (defArgs sTrEx) (defBody sTrEx) (defScope sTrEx) .none kVtex dctex pmtex antex cdtex cttex), sltex⟩)
    (ctex : PySem.W.codeIn K cdtex "Trial.__exit__" = true)
    (ktex : PySem.W.keepIn K (.ref ftex) = true)
    (aqtr : PySem.W.findIn K (.ref CQ) "trial" = some (some (.ref fqtr)))
    (iqtr : PySem.W.isFn K (.ref fqtr) = true)
    (lqtr : K.lookup fqtr = some ⟨ocqtr, odqtr, .func (PySem.W.fnOf "trial" "Reading.trial" (defArgs sRdTr) (defBody sRdTr) (defScope sRdTr) .none kVqtr dcqtr pmqtr anqtr cdqtr ctqtr), slqtr⟩)
    (cqtr : PySem.W.codeIn K cdqtr "Reading.trial" = true)
    (kqtr : PySem.W.keepIn K (.ref fqtr) = true)
    (z1 : PySem.W.findIn K (.ref CQ) "__class__" = some (some (.builtin "object.__class__")))
    (id3 : PySem.W.mroIn K CQ (.type "object") = some true)
    (z5 : PySem.W.kitOne K (.ref CQ) (.ref CQ) = some true)
    (aatt : PySem.W.nsIn K mainGlobals "attempt" = some (some (.ref fatt)))
    (latt : K.lookup fatt = some ⟨ocatt, odatt, .func (PySem.W.fnOf "attempt" "attempt" (defArgs sAtt) (defBody sAtt) (defScope sAtt) .none kVatt dcatt pmatt anatt cdatt ctatt), slatt⟩)
    (catt : PySem.W.codeIn K cdatt "attempt" = true)
    (katt : PySem.W.keepIn K (.ref fatt) = true)
    (awit : PySem.W.nsIn K mainGlobals "within" = some (some (.ref fwit)))
    (lwit : K.lookup fwit = some ⟨ocwit, odwit, .func (PySem.W.fnOf "within" "within" (defArgs sWit) (defBody sWit) (defScope sWit) .none kVwit dcwit pmwit anwit cdwit ctwit), slwit⟩)
    (cwit : PySem.W.codeIn K cdwit "within" = true)
    (kwit : PySem.W.keepIn K (.ref fwit) = true)
    (aCENR : PySem.W.nsIn K mainGlobals "NotAReading" = some (some (.ref CENR)))
    (aENR : PySem.W.findIn K (.ref CENR) "__init__" = some (some (.ref fENR)))
    (iENR : PySem.W.isFn K (.ref fENR) = true)
    (lENR : K.lookup fENR = some ⟨ocENR, odENR, .func (PySem.W.fnOf "__init__" "NotAReading.__init__" (defArgs sENR) (defBody sENR) (defScope sENR) .none kVENR dcENR pmENR anENR cdENR ctENR), slENR⟩)
    (cENR : PySem.W.codeIn K cdENR "NotAReading.__init__" = true)
    (kENR : PySem.W.keepIn K (.ref fENR) = true)
    (xENR : K.lookup CENR = some (excClassObj nmENR qENR CENR NENR bsENR bmENR true snENR subENR abENR colENR ddENR m0ENR m1ENR m2ENR m3ENR m5ENR "ValueError.__new__"))
    (xrENR : PySem.HandSPX.refsVE bmENR = true)
    (e1ENR : PySem.W.findIn K (.ref CENR) "__setattr__" = some (some (.builtin "object.__setattr__")))
    (e2ENR : PySem.W.subIn K (.ref CENR) (.type "BaseException") = some true)
    (e3ENR : PySem.W.typeIn K (.ref CENR) = some (.type "type"))
    (e4ENR : PySem.W.keepIn K (.ref CENR) = true)
    (e5ENR : PySem.W.typeIn K (.ref fENR) = some (.type "function"))
    (e6ENR : PySem.W.findIn K (.ref CENR) "value" = some none)
    (aCBInputError : PySem.W.nsIn K mainGlobals "InputError" = some (some (.ref CBInputError)))
    (aCBStateError : PySem.W.nsIn K mainGlobals "StateError" = some (some (.ref CBStateError)))
    (kAENR : PySem.W.kitOne K (.ref CENR) (.ref CBInputError) = some true)
    (kBENR : PySem.W.kitOne K (.ref CENR) (.type "ValueError") = some true)
    (x7ENR : PySem.W.findIn K (.ref CENR) "__getattribute__" = some (some (.builtin "BaseException.__getattribute__")))
    (x8ENR : PySem.W.findIn K (.ref CENR) "__getattr__" = some none)
    (x9ENR : PySem.W.hasDictIn K CENR = true)
    (xAENR : (PySem.W.clsIn K CENR).isSome = true)
    (xBENR : PySem.W.findIn K (.ref CENR) "__class__" = some (some (.builtin "object.__class__")))
    (xg1 : PySem.W.specialIn K (.builtin "object.__class__") "__get__" = some (some (.builtin "getset_descriptor.__get__")))
    (xg2 : PySem.W.takesIn K (.builtin "object.__class__") = some true)
    (xCENR : PySem.W.mroIn K CENR (.type "object") = some true)
    (xxENRENR : PySem.W.exmOne K (.ref CENR) (.ref CENR) = some true)
    (kANtu : PySem.W.kitOne K (.ref CNtu) (.ref CBStateError) = some true)
    (kBNtu : PySem.W.kitOne K (.ref CNtu) (.type "LookupError") = some true)
    (x7Ntu : PySem.W.findIn K (.ref CNtu) "__getattribute__" = some (some (.builtin "BaseException.__getattribute__")))
    (x8Ntu : PySem.W.findIn K (.ref CNtu) "__getattr__" = some none)
    (x9Ntu : PySem.W.hasDictIn K CNtu = true)
    (xBNtu : PySem.W.findIn K (.ref CNtu) "__class__" = some (some (.builtin "object.__class__")))
    (xCNtu : PySem.W.mroIn K CNtu (.type "object") = some true)
    (xxNtuENR : PySem.W.exmOne K (.ref CNtu) (.ref CENR) = some false)
    (xxNtuNtu : PySem.W.exmOne K (.ref CNtu) (.ref CNtu) = some true)
    (acm : PySem.W.nsIn K mainGlobals "_law_came" = some (some (.ref fcm)))
    (lcm : K.lookup fcm = some ⟨occm, odcm, .func (PySem.W.fnOf "_law_came" "_law_came" (defArgs sCame) (defBody sCame) (defScope sCame) .none kVcm dccm pmcm ancm cdcm ctcm), slcm⟩)
    (ccm : PySem.W.codeIn K cdcm "_law_came" = true)
    (kcm : PySem.W.keepIn K (.ref fcm) = true)
    (alr : PySem.W.findIn K (.ref CL) "__repr__" = some (some (.ref flr)))
    (ilr : PySem.W.isFn K (.ref flr) = true)
    (llr : K.lookup flr = some ⟨oclr, odlr, .func (PySem.W.fnOf "__repr__" "Loop.__repr__" (defArgs sLR) (defBody sLR) (defScope sLR) .none kVlr dclr pmlr anlr cdlr ctlr), sllr⟩)
    (clr : PySem.W.codeIn K cdlr "Loop.__repr__" = true)
    (klr : PySem.W.keepIn K (.ref flr) = true)
    (nbQNoneType : PySem.W.kitOne K (.type "NoneType") (.ref CQ) = some false)
    (nbQbool : PySem.W.kitOne K (.type "bool") (.ref CQ) = some false)
    (nbQint : PySem.W.kitOne K (.type "int") (.ref CQ) = some false)
    (nbQstr : PySem.W.kitOne K (.type "str") (.ref CQ) = some false)
    (nbQlist : PySem.W.kitOne K (.type "list") (.ref CQ) = some false)
    (nbQtuple : PySem.W.kitOne K (.type "tuple") (.ref CQ) = some false)
    (nbQdict : PySem.W.kitOne K (.type "dict") (.ref CQ) = some false)
    (kLQ : PySem.W.kitOne K (.ref CL) (.ref CQ) = some false)
    (nbQ : PySem.W.findIn K (.ref CQ) "__bool__" = some none)
    (atale : PySem.W.nsIn K mainGlobals "_law_tale" = some (some (.ref ftale)))
    (ltale : K.lookup ftale = some ⟨octale, odtale, .func (PySem.W.fnOf "_law_tale" "_law_tale" (defArgs sTale) (defBody sTale) (defScope sTale) .none kVtale dctale pmtale antale cdtale cttale), sltale⟩)
    (ctale : PySem.W.codeIn K cdtale "_law_tale" = true)
    (ktale : PySem.W.keepIn K (.ref ftale) = true)
    (alat : PySem.W.nsIn K mainGlobals "_law_is_at" = some (some (.ref flat)))
    (llat : K.lookup flat = some ⟨oclat, odlat, .func (PySem.W.fnOf "_law_is_at" "_law_is_at" (defArgs sAt) (defBody sAt) (defScope sAt) .none kVlat dclat pmlat anlat cdlat ctlat), sllat⟩)
    (clat : PySem.W.codeIn K cdlat "_law_is_at" = true)
    (klat : PySem.W.keepIn K (.ref flat) = true)
    (alq : PySem.W.findIn K (.ref CL) "__eq__" = some (some (.ref flq)))
    (ilq : PySem.W.isFn K (.ref flq) = true)
    (llq : K.lookup flq = some ⟨oclq, odlq, .func (PySem.W.fnOf "__eq__" "Loop.__eq__" (defArgs sLEq) (defBody sLEq) (defScope sLEq) .none kVlq dclq pmlq anlq cdlq ctlq), sllq⟩)
    (clq : PySem.W.codeIn K cdlq "Loop.__eq__" = true)
    (klq : PySem.W.keepIn K (.ref flq) = true)
    (amov : PySem.W.nsIn K mainGlobals "_law_moved" = some (some (.ref fmov)))
    (lmov : K.lookup fmov = some ⟨ocmov, odmov, .func (PySem.W.fnOf "_law_moved" "_law_moved" (defArgs sMov) (defBody sMov) (defScope sMov) .none kVmov dcmov pmmov anmov cdmov ctmov), slmov⟩)
    (cmov : PySem.W.codeIn K cdmov "_law_moved" = true)
    (kmov : PySem.W.keepIn K (.ref fmov) = true)
    (abxs : PySem.W.nsIn K mainGlobals "_law_boxes" = some (some (.ref fbxs)))
    (lbxs : K.lookup fbxs = some ⟨ocbxs, odbxs, .func (PySem.W.fnOf "_law_boxes" "_law_boxes" (defArgs sBoxes) (defBody sBoxes) (defScope sBoxes) .none kVbxs dcbxs pmbxs anbxs cdbxs ctbxs), slbxs⟩)
    (cbxs : PySem.W.codeIn K cdbxs "_law_boxes" = true)
    (kbxs : PySem.W.keepIn K (.ref fbxs) = true)
    (ajar : PySem.W.nsIn K mainGlobals "_law_jar" = some (some (.ref fjar)))
    (ljar : K.lookup fjar = some ⟨ocjar, odjar, .func (PySem.W.fnOf "_law_jar" "_law_jar" (defArgs sJar) (defBody sJar) (defScope sJar) .none kVjar dcjar pmjar anjar cdjar ctjar), sljar⟩)
    (cjar : PySem.W.codeIn K cdjar "_law_jar" = true)
    (kjar : PySem.W.keepIn K (.ref fjar) = true)
    (afal : PySem.W.nsIn K mainGlobals "_law_fallen" = some (some (.ref ffal)))
    (lfal : K.lookup ffal = some ⟨ocfal, odfal, .func (PySem.W.fnOf "_law_fallen" "_law_fallen" (defArgs sFal) (defBody sFal) (defScope sFal) .none kVfal dcfal pmfal anfal (.ref cR1) ctfal), slfal⟩)
    (cfal : PySem.W.codeIn K (.ref cR1) "_law_fallen" = true)
    (kfal : PySem.W.keepIn K (.ref ffal) = true)
    (anst : PySem.W.nsIn K mainGlobals "_law_nested" = some (some (.ref fnst)))
    (lnst : K.lookup fnst = some ⟨ocnst, odnst, .func (PySem.W.fnOf "_law_nested" "_law_nested" (defArgs sNest) (defBody sNest) (defScope sNest) .none kVnst dcnst pmnst annst (.ref cR2) ctnst), slnst⟩)
    (cnst : PySem.W.codeIn K (.ref cR2) "_law_nested" = true)
    (knst : PySem.W.keepIn K (.ref fnst) = true)
    (art : PySem.W.nsIn K mainGlobals "_law_right" = some (some (.ref frt)))
    (lrt : K.lookup frt = some ⟨ocrt, odrt, .func (PySem.W.fnOf "_law_right" "_law_right" (defArgs sRight) (defBody sRight) (defScope sRight) .none kVrt dcrt pmrt anrt (.ref cR3) ctrt), slrt⟩)
    (crt : PySem.W.codeIn K (.ref cR3) "_law_right" = true)
    (krt : PySem.W.keepIn K (.ref frt) = true)
    (alaw : PySem.W.nsIn K mainGlobals "law" = some (some (.ref flaw)))
    (llaw : K.lookup flaw = some ⟨oclaw, odlaw, .func (PySem.W.fnOf "law" "law" (defArgs sLaw) (defBody sLaw) (defScope sLaw) .none kVlaw dclaw pmlaw anlaw cdlaw ctlaw), sllaw⟩)
    (claw : PySem.W.codeIn K cdlaw "law" = true)
    (klaw : PySem.W.keepIn K (.ref flaw) = true)
    (q11 : K.lookup cR1 = some ⟨ocC1, odC1, .fields vsC1, slC1⟩)
    (q21 : vsC1[11]? = some (.ref PR1))
    (q31 : PySem.W.codeHdIn K cR1 PR1 = true)
    (q41 : K.lookup PR1 = none)
    (q51 : h.get? PR1 = some { cls := .none, data := .fields #[] })
    (q12 : K.lookup cR2 = some ⟨ocC2, odC2, .fields vsC2, slC2⟩)
    (q22 : vsC2[11]? = some (.ref PR2))
    (q32 : PySem.W.codeHdIn K cR2 PR2 = true)
    (q42 : K.lookup PR2 = none)
    (q52 : h.get? PR2 = some { cls := .none, data := .fields #[] })
    (q13 : K.lookup cR3 = some ⟨ocC3, odC3, .fields vsC3, slC3⟩)
    (q23 : vsC3[11]? = some (.ref PR3))
    (q33 : PySem.W.codeHdIn K cR3 PR3 = true)
    (q43 : K.lookup PR3 = none)
    (q53 : h.get? PR3 = some { cls := .none, data := .fields #[] })
    (neP : PR1 ≠ PR2)
    (ne13 : PR1 ≠ PR3)
    (ne23 : PR2 ≠ PR3)
    (z_tuple : PySem.W.nsIn K mainGlobals "tuple" = some none)
    (z_len : PySem.W.nsIn K mainGlobals "len" = some none)
    (z_all : PySem.W.nsIn K mainGlobals "all" = some none)
    (z_isinstance : PySem.W.nsIn K mainGlobals "isinstance" = some none)
    (z_str : PySem.W.nsIn K mainGlobals "str" = some none)
    (z_int : PySem.W.nsIn K mainGlobals "int" = some none)
    (z_bool : PySem.W.nsIn K mainGlobals "bool" = some none)
    (z_range : PySem.W.nsIn K mainGlobals "range" = some none)
    (z_abs : PySem.W.nsIn K mainGlobals "abs" = some none)
    (z_divmod : PySem.W.nsIn K mainGlobals "divmod" = some none)
    (z_list : PySem.W.nsIn K mainGlobals "list" = some none)
    (z_sum : PySem.W.nsIn K mainGlobals "sum" = some none)
    (z_enumerate : PySem.W.nsIn K mainGlobals "enumerate" = some none)
    (z_ValueError : PySem.W.nsIn K mainGlobals "ValueError" = some none)
    (z_LookupError : PySem.W.nsIn K mainGlobals "LookupError" = some none)
    (z_min : PySem.W.nsIn K mainGlobals "min" = some none)
    (z_repr : PySem.W.nsIn K mainGlobals "repr" = some none)
    (z_KeyError : PySem.W.nsIn K mainGlobals "KeyError" = some none)
    (z_max : PySem.W.nsIn K mainGlobals "max" = some none) :
    Gd.LawG l w K 21 63 "_law_script" mg fa h := by
  have e := hfa.symm.trans (PySem.W.mg_of X G alaw)
  cases e
  have Fwo := fun_mk (st := sWO) lwo cwo kwo
  have bwo := Fwo.binds (ps := ["text"]) fun _ _ _ _ _ _ => Ln.len1 fun _  => rfl
  have Foo := fun_mk (st := sOO) loo coo koo
  have boo := Foo.binds (ps := ["word"]) fun _ _ _ _ _ _ => Ln.len1 fun _  => rfl
  have Fiw := fun_mk (st := sIW) liw ciw kiw
  have biw := Fiw.binds (ps := ["word", "steps"]) fun _ _ _ _ _ _ => Ln.len2 fun _ _  => rfl
  have Faw := fun_mk (st := sAW) law caw kaw
  have baw := Faw.binds (ps := ["words", "steps"]) fun _ _ _ _ _ _ => Ln.len2 fun _ _  => rfl
  have Fir := fun_mk (st := sIR) lir cir kir
  have bir := Fir.binds (ps := ["words"]) fun _ _ _ _ _ _ => Ln.len1 fun _  => rfl
  have Fie := fun_mk (st := sIE) lie cie kie
  have bie := Fie.binds (ps := ["words"]) fun _ _ _ _ _ _ => Ln.len1 fun _  => rfl
  let TL : TxL K mg := ⟨PySem.W.mg_none_of X G z_tuple, PySem.W.mg_none_of X G z_len, PySem.W.mg_none_of X G z_all, ⟨_, PySem.W.mg_of X G mB⟩, ⟨_, PySem.W.mg_of X G mMR⟩, ⟨_, PySem.W.mg_of X G mME⟩, pT, pR, pE, PySem.W.mg_of X G gT, PySem.W.mg_of X G gR, PySem.W.mg_of X G gE, fun H => .inr ⟨_, _, _, tT, rfl, rfl, (by show 8 ≤ sizeLine; decide), .cons ⟨_, rfl⟩ (.cons ⟨_, rfl⟩ (.cons ⟨_, rfl⟩ (.cons ⟨_, rfl⟩ (.cons ⟨_, rfl⟩ (.cons ⟨_, rfl⟩ (.cons ⟨_, rfl⟩ (.cons ⟨_, rfl⟩ (.nil))))))))⟩, fun H => .inr ⟨_, _, _, tR, rfl, rfl, (by show 6 ≤ sizeLine; decide), .cons ⟨_, rfl⟩ (.cons ⟨_, rfl⟩ (.cons ⟨_, rfl⟩ (.cons ⟨_, rfl⟩ (.cons ⟨_, rfl⟩ (.cons ⟨_, rfl⟩ (.nil))))))⟩, fun H => .inr ⟨_, _, _, tE, rfl, rfl, (by show 3 ≤ sizeLine; decide), .cons ⟨_, rfl⟩ (.cons ⟨_, rfl⟩ (.cons ⟨_, rfl⟩ (.nil)))⟩, ⟨fwo, _, Fwo, bwo, PySem.W.mg_of X G awo, kwo⟩, ⟨foo, _, Foo, boo, PySem.W.mg_of X G aoo, koo⟩, ⟨fiw, _, Fiw, biw, PySem.W.mg_of X G aiw, kiw⟩, ⟨faw, _, Faw, baw, PySem.W.mg_of X G aaw, kaw⟩, ⟨fir, _, Fir, bir, PySem.W.mg_of X G air, kir⟩, ⟨fie, _, Fie, bie, PySem.W.mg_of X G aie, kie⟩⟩
  have FIT := fun_mk (st := sEI) lIT cIT kIT
  have bIT := FIT.binds (ps := ["self", "value"]) fun _ _ _ _ _ _ => Ln.len2 fun _ _  => rfl
  have Fli := fun_mk (st := sLI) lli cli kli
  have bli := Fli.binds (ps := ["self", "text"]) fun _ _ _ _ _ _ => Ln.len2 fun _ _  => rfl
  let TC : TxC K mg := ⟨TL, ⟨CIT, fIT, _, PySem.W.mg_of X G aCIT, ⟨⟨nmIT, qIT, NIT, bsIT, bmIT, snIT, subIT, abIT, colIT, ddIT, m0IT, m1IT, m2IT, m3IT, m5IT, xIT, xrIT⟩, e1IT, e2IT, e3IT, e4IT⟩, aIT, e5IT, e6IT, FIT, bIT⟩, PySem.W.mg_none_of X G z_isinstance, PySem.W.mg_none_of X G z_str, CL, PySem.W.mg_of X G aCL, ⟨pgL, hdL, poL, saL⟩, nL0, nL1, nL2, nL3, nL4, fli, _, Fli, bli, ⟨mkL, ali, ili, kcL⟩⟩
  have Fiib := fun_mk (st := sIIB) liib ciib kiib
  have biib := Fiib.binds (ps := ["value", "low", "high"]) fun _ _ _ _ _ _ => Ln.len3 fun _ _ _  => rfl
  have Fcks := fun_mk (st := sCKS) lcks ccks kcks
  have bcks := Fcks.binds (ps := ["size"]) fun _ _ _ _ _ _ => Ln.len1 fun _  => rfl
  have FES := fun_mk (st := sES) lES cES kES
  have bES := FES.binds (ps := ["self", "value"]) fun _ _ _ _ _ _ => Ln.len2 fun _ _  => rfl
  let TK : TxK K mg := ⟨PySem.W.mg_none_of X G z_isinstance, PySem.W.mg_none_of X G z_int, PySem.W.mg_none_of X G z_bool, PySem.W.mg_none_of X G z_tuple, PySem.W.mg_none_of X G z_len, ⟨_, PySem.W.mg_of X G mMP⟩, ⟨_, PySem.W.mg_of X G mMI⟩, ⟨fiib, _, Fiib, biib, PySem.W.mg_of X G aiib, kiib⟩, ⟨fcks, _, Fcks, bcks, PySem.W.mg_of X G acks, kcks⟩, ⟨CES, fES, _, PySem.W.mg_of X G aCES, ⟨⟨nmES, qES, NES, bsES, bmES, snES, subES, abES, colES, ddES, m0ES, m1ES, m2ES, m3ES, m5ES, xES, xrES⟩, e1ES, e2ES, e3ES, e4ES⟩, aES, e5ES, e6ES, FES, bES⟩⟩
  have Fxi := fun_mk (st := sXI) lxi cxi kxi
  have bxi := Fxi.binds (ps := ["self", "round_orders", "ending_orders", "size", "kept"]) fun _ _ _ _ _ _ => Ln.len5 fun _ _ _ _ _  => rfl
  have Fxa := fun_mk (st := sXA) lxa cxa kxa
  have bxa := Fxa.binds (ps := ["self", "held", "told"]) fun _ _ _ _ _ _ => Ln.len3 fun _ _ _  => rfl
  have Fxq := fun_mk (st := sXF) lxq cxq kxq
  have bxq := Fxq.binds (ps := ["self"]) fun _ _ _ _ _ _ => Ln.len1 fun _  => rfl
  have Fxp := fun_mk (st := sXP) lxp cxp kxp
  have bxp := Fxp.binds (ps := ["self", "test"]) fun _ _ _ _ _ _ => Ln.len2 fun _ _  => rfl
  have Fxr := fun_mk (st := sXR) lxr cxr kxr
  have bxr := Fxr.binds (ps := ["self", "step"]) fun _ _ _ _ _ _ => Ln.len2 fun _ _  => rfl
  have Fxc := fun_mk (st := sXC) lxc cxc kxc
  have bxc := Fxc.binds (ps := ["self"]) fun _ _ _ _ _ _ => Ln.len1 fun _  => rfl
  let TX : TxX K mg := ⟨PySem.W.mg_none_of X G z_len, PySem.W.mg_none_of X G z_range, CX, PySem.W.mg_of X G aCX, ⟨pgX, hdX, poX, saX⟩, nX0, nX1, nX2, nX3, nX4, nX5, nX6, nX7, nX8, fxi, _, Fxi, bxi, ⟨mkX, axi, ixi, kcX⟩, ⟨fxa, _, Fxa, bxa, ⟨axa, ixa, kxa⟩⟩, ⟨fxq, _, Fxq, bxq, ⟨axq, ixq, kxq⟩⟩, ⟨fxp, _, Fxp, bxp, ⟨axp, ixp, kxp⟩⟩, ⟨fxr, _, Fxr, bxr, ⟨axr, ixr, kxr⟩⟩, ⟨fxc, _, Fxc, bxc, ⟨axc, ixc, kxc⟩⟩⟩
  have Flx := fun_mk (st := sLX) llx clx klx
  have blx := Flx.binds (ps := ["self", "size", "kept"]) fun _ _ _ _ _ _ => Ln.len3 fun _ _ _  => rfl
  let TN : TxN K mg := ⟨TC, TX, TK, ⟨flx, _, Flx, blx, ⟨alx, ilx, klx⟩⟩⟩
  have Fsip := fun_mk (st := sSip) lsip csip ksip
  have bsip := Fsip.binds (ps := ["_law_jar_here", "_law_many"]) fun _ _ _ _ _ _ => Ln.len2 fun _ _  => rfl
  have Ffrm := fun_mk (st := sFrom) lfrm cfrm kfrm
  have bfrm := Ffrm.binds (ps := ["_law_jar_here", "_law_things"]) fun _ _ _ _ _ _ => Ln.len2 fun _ _  => rfl
  have Fwds := fun_mk (st := sWords) lwds cwds kwds
  have bwds := Fwds.binds (ps := ["_law_jar_here", "_law_steps", "_law_many"]) fun _ _ _ _ _ _ => Ln.len3 fun _ _ _  => rfl
  have Flop := fun_mk (st := sLoop) llop clop klop
  have blop := Flop.binds (ps := ["_law_jar_here", "_law_most"]) fun _ _ _ _ _ _ => Ln.len2 fun _ _  => rfl
  have Flin := fun_mk (st := sLine) llin clin klin
  have blin := Flin.binds (ps := ["_law_begun", "_law_ended"]) fun _ _ _ _ _ _ => Ln.len2 fun _ _  => rfl
  let TD : TxD K mg := ⟨⟨PySem.W.mg_none_of X G z_len, PySem.W.mg_none_of X G z_int, PySem.W.mg_none_of X G z_abs, PySem.W.mg_none_of X G z_divmod⟩, PySem.W.mg_none_of X G z_range, ⟨fsip, _, Fsip, bsip, PySem.W.mg_of X G asip, ksip⟩, ⟨ffrm, _, Ffrm, bfrm, PySem.W.mg_of X G afrm, kfrm⟩, ⟨fwds, _, Fwds, bwds, PySem.W.mg_of X G awds, kwds⟩, ⟨flop, _, Flop, blop, PySem.W.mg_of X G alop, klop⟩, ⟨flin, _, Flin, blin, PySem.W.mg_of X G alin, klin⟩⟩
  have Fpas := fun_mk (st := sPassed) lpas cpas kpas
  have bpas := Fpas.binds (ps := ["_law_test", "_law_got", "_law_box_here", "_law_said", "_law_wide"]) fun _ _ _ _ _ _ => Ln.len5 fun _ _ _ _ _  => rfl
  have Fsli := fun_mk (st := sSliced) lsli csli ksli
  have bsli := Fsli.binds (ps := ["_law_row_here", "_law_wide", "_law_many"]) fun _ _ _ _ _ _ => Ln.len3 fun _ _ _  => rfl
  have Fdon := fun_mk (st := sDone) ldon cdon kdon
  have bdon := Fdon.binds (ps := ["_law_words_here", "_law_got", "_law_box_here", "_law_said", "_law_wide"]) fun _ _ _ _ _ _ => Ln.len5 fun _ _ _ _ _  => rfl
  have Ffed := fun_mk (st := sFed) lfed cfed kfed
  have bfed := Ffed.binds (ps := ["_law_made", "_law_box_here", "_law_many", "_law_said", "_law_wide"]) fun _ _ _ _ _ _ => Ln.len5 fun _ _ _ _ _  => rfl
  have Fbox := fun_mk (st := sBox) lbox cbox kbox
  have bbox := Fbox.binds (ps := []) fun _ _ _ _ _ _ => Ln.len0 fun (_ : Unit) => rfl
  let TB : TxB K mg := ⟨⟨PySem.W.mg_none_of X G z_len, PySem.W.mg_none_of X G z_int, PySem.W.mg_none_of X G z_abs, PySem.W.mg_none_of X G z_divmod⟩, PySem.W.mg_none_of X G z_range, PySem.W.mg_none_of X G z_tuple, PySem.W.mg_none_of X G z_list, ⟨fpas, _, Fpas, bpas, PySem.W.mg_of X G apas, kpas⟩, ⟨fsli, _, Fsli, bsli, PySem.W.mg_of X G asli, ksli⟩, ⟨fdon, _, Fdon, bdon, PySem.W.mg_of X G adon, kdon⟩, ⟨ffed, _, Ffed, bfed, PySem.W.mg_of X G afed, kfed⟩, ⟨fbox, _, Fbox, bbox, PySem.W.mg_of X G abox, kbox⟩⟩
  have Fmi := fun_mk (st := sMmI) lmi cmi kmi
  have bmi := Fmi.binds (ps := ["self", "before", "given", "handed", "kept", "over"]) fun _ _ _ _ _ _ => Ln.len6 fun _ _ _ _ _ _  => rfl
  have Fqi := fun_mk (st := sRdI) lqi cqi kqi
  have bqi := Fqi.binds (ps := ["self", "loop", "size"]) fun _ _ _ _ _ _ => Ln.len3 fun _ _ _  => rfl
  have Fckl := fun_mk (st := sCKL) lckl cckl kckl
  have bckl := Fckl.binds (ps := ["loop"]) fun _ _ _ _ _ _ => Ln.len1 fun _  => rfl
  have Fqgp := fun_mk (st := sRdG) lqgp cqgp kqgp
  have bqgp := Fqgp.binds (ps := ["self"]) fun _ _ _ _ _ _ => Ln.len1 fun _ => rfl
  have Fqhp := fun_mk (st := sRdH) lqhp cqhp kqhp
  have bqhp := Fqhp.binds (ps := ["self"]) fun _ _ _ _ _ _ => Ln.len1 fun _ => rfl
  have Fqkp := fun_mk (st := sRdK) lqkp cqkp kqkp
  have bqkp := Fqkp.binds (ps := ["self"]) fun _ _ _ _ _ _ => Ln.len1 fun _ => rfl
  have Fqop := fun_mk (st := sRdO) lqop cqop kqop
  have bqop := Fqop.binds (ps := ["self"]) fun _ _ _ _ _ _ => Ln.len1 fun _ => rfl
  have Fql := fun_mk (st := sRdL) lql cql kql
  have bql := Fql.binds (ps := ["self"]) fun _ _ _ _ _ _ => Ln.len1 fun _  => rfl
  have Fqr := fun_mk (st := sRdR) lqr cqr kqr
  have bqr := Fqr.binds (ps := ["self"]) fun _ _ _ _ _ _ => Ln.len1 fun _  => rfl
  have Fqf := fun_mk (st := sRdF) lqf cqf kqf
  have bqf := Fqf.binds (ps := ["self", "count", "told"]) fun _ _ _ _ _ _ => Ln.len3 fun _ _ _  => rfl
  have Fqu := fun_mk (st := sRdU) lqu cqu kqu
  have bqu := Fqu.binds (ps := ["self"]) fun _ _ _ _ _ _ => Ln.len1 fun _  => rfl
  have Fqc := fun_mk (st := sRdCf) lqc cqc kqc
  have bqc := Fqc.binds (ps := ["self"]) fun _ _ _ _ _ _ => Ln.len1 fun _  => rfl
  have Fqk := fun_mk (st := sRdCr) lqk cqk kqk
  have bqk := Fqk.binds (ps := ["self", "count", "told"]) fun _ _ _ _ _ _ => Ln.len3 fun _ _ _  => rfl
  have Fqt := fun_mk (st := sRdT) lqt cqt kqt
  have bqt := Fqt.binds (ps := ["self", "count", "told"]) fun _ _ _ _ _ _ => Ln.len3 fun _ _ _  => rfl
  let TRd : TxRd K mg := ⟨TN, PySem.W.mg_none_of X G z_sum, CM, PySem.W.mg_of X G aCM, ⟨pgM, hdM, poM, saM⟩, nM0, nM1, nM2, nM3, nM4, fmi, _, Fmi, bmi, ⟨mkM, ami, imi, kcM⟩, CQ, PySem.W.mg_of X G aCQ, ⟨pgQ, hdQ, poQ, saQ⟩, nQ0, nQ1, nQ2, nQ3, fqi, _, Fqi, bqi, ⟨mkQ, aqi, iqi, kcQ⟩, ⟨fckl, _, Fckl, bckl, PySem.W.mg_of X G ackl, kckl⟩, w1, w2, w3, w4, w5, ⟨pqgp, fqgp, _, Fqgp, bqgp, ⟨aqgp, gqgp, tqgp, ⟨_, rqgp⟩⟩⟩, ⟨pqhp, fqhp, _, Fqhp, bqhp, ⟨aqhp, gqhp, tqhp, ⟨_, rqhp⟩⟩⟩, ⟨pqkp, fqkp, _, Fqkp, bqkp, ⟨aqkp, gqkp, tqkp, ⟨_, rqkp⟩⟩⟩, ⟨pqop, fqop, _, Fqop, bqop, ⟨aqop, gqop, tqop, ⟨_, rqop⟩⟩⟩, ⟨fql, _, Fql, bql, aql, iql⟩, ⟨fqr, _, Fqr, bqr, aqr, iqr⟩, ⟨fqf, _, Fqf, bqf, ⟨aqf, iqf, kqf⟩⟩, ⟨fqu, _, Fqu, bqu, ⟨aqu, iqu, kqu⟩⟩, ⟨fqc, _, Fqc, bqc, ⟨aqc, iqc, kqc⟩⟩, ⟨fqk, _, Fqk, bqk, ⟨aqk, iqk, kqk⟩⟩, ⟨fqt, _, Fqt, bqt, ⟨aqt, iqt, kqt⟩⟩, ⟨CStp, PySem.W.mg_of X G aCStp, qStp, kStp, sStp, tStp⟩, ⟨CNtu, PySem.W.mg_of X G aCNtu, qNtu, kNtu, sNtu, tNtu⟩⟩
  have FEL := fun_mk (st := sEL) lEL cEL kEL
  have bEL := FEL.binds (ps := ["self", "value"]) fun _ _ _ _ _ _ => Ln.len2 fun _ _  => rfl
  have FEC := fun_mk (st := sEC) lEC cEC kEC
  have bEC := FEC.binds (ps := ["self", "value"]) fun _ _ _ _ _ _ => Ln.len2 fun _ _  => rfl
  have FET := fun_mk (st := sET) lET cET kET
  have bET := FET.binds (ps := ["self", "value"]) fun _ _ _ _ _ _ => Ln.len2 fun _ _  => rfl
  have FEM := fun_mk (st := sEM) lEM cEM kEM
  have bEM := FEM.binds (ps := ["self", "limit"]) fun _ _ _ _ _ _ => Ln.len2 fun _ _  => rfl
  let TRe : TxRe K mg := ⟨TRd, ⟨CEL, fEL, _, PySem.W.mg_of X G aCEL, ⟨⟨nmEL, qEL, NEL, bsEL, bmEL, snEL, subEL, abEL, colEL, ddEL, m0EL, m1EL, m2EL, m3EL, m5EL, xEL, xrEL⟩, e1EL, e2EL, e3EL, e4EL⟩, aEL, e5EL, e6EL, FEL, bEL⟩, ⟨CEC, fEC, _, PySem.W.mg_of X G aCEC, ⟨⟨nmEC, qEC, NEC, bsEC, bmEC, snEC, subEC, abEC, colEC, ddEC, m0EC, m1EC, m2EC, m3EC, m5EC, xEC, xrEC⟩, e1EC, e2EC, e3EC, e4EC⟩, aEC, e5EC, e6EC, FEC, bEC⟩, ⟨CET, fET, _, PySem.W.mg_of X G aCET, ⟨⟨nmET, qET, NET, bsET, bmET, snET, subET, abET, colET, ddET, m0ET, m1ET, m2ET, m3ET, m5ET, xET, xrET⟩, e1ET, e2ET, e3ET, e4ET⟩, aET, e5ET, e6ET, FET, bET⟩, ⟨CEM, fEM, _, PySem.W.mg_of X G aCEM, ⟨⟨nmEM, qEM, NEM, bsEM, bmEM, snEM, subEM, abEM, colEM, ddEM, m0EM, m1EM, m2EM, m3EM, m5EM, xEM, xrEM⟩, e1EM, e4EM⟩, e2EM, e3EM, aEM, e5EM, e6EM, FEM, bEM⟩⟩
  have FED := fun_mk (st := sEID) lED cED kED
  have bED := FED.binds (ps := ["self", "index"]) fun _ _ _ _ _ _ => Ln.len2 fun _ _  => rfl
  have Fisd := fun_mk (st := sIsD) lisd cisd kisd
  have bisd := Fisd.binds (ps := ["value"]) fun _ _ _ _ _ _ => Ln.len1 fun _  => rfl
  have Fckd := fun_mk (st := sCkD) lckd cckd kckd
  have bckd := Fckd.binds (ps := ["deeds"]) fun _ _ _ _ _ _ => Ln.len1 fun _  => rfl
  let TFa : TxFa K mg := ⟨TRe, PySem.W.mg_none_of X G z_str, PySem.W.mg_none_of X G z_enumerate, ⟨CED, fED, _, PySem.W.mg_of X G aCED, ⟨⟨nmED, qED, NED, bsED, bmED, snED, subED, abED, colED, ddED, m0ED, m1ED, m2ED, m3ED, m5ED, xED, xrED⟩, e1ED, e2ED, e3ED, e4ED⟩, aED, e5ED, e6ED, FED, bED⟩, ⟨fisd, _, Fisd, bisd, PySem.W.mg_of X G aisd, kisd⟩, ⟨fckd, _, Fckd, bckd, PySem.W.mg_of X G ackd, kckd⟩, ffa, ⟨_, _, _, _, _, _, _, _, _, lfa, cfa, wfa⟩, ⟨afa, ifa, kfa⟩⟩
  have Ftri := fun_mk (st := sTrI) ltri ctri ktri
  have btri := Ftri.binds (ps := ["self", "reading"]) fun _ _ _ _ _ _ => Ln.len2 fun _ _  => rfl
  have Flyi := fun_mk (st := sLyI) llyi clyi klyi
  have blyi := Flyi.binds (ps := ["self", "moment", "under"]) fun _ _ _ _ _ _ => Ln.len3 fun _ _ _  => rfl
  have Ften := fun_mk (st := sTrEn) lten cten kten
  have bten := Ften.binds (ps := ["self"]) fun _ _ _ _ _ _ => Ln.len1 fun _  => rfl
  have Ftex := fun_mk (st := sTrEx) ltex ctex ktex
  have btex := Ftex.binds (ps := ["self", "kind", "value", "trace"]) fun _ _ _ _ _ _ => Ln.len4 fun _ _ _ _  => rfl
  have Fqtr := fun_mk (st := sRdTr) lqtr cqtr kqtr
  have bqtr := Fqtr.binds (ps := ["self"]) fun _ _ _ _ _ _ => Ln.len1 fun _  => rfl
  have Fatt := fun_mk (st := sAtt) latt catt katt
  have batt := Fatt.binds (ps := ["reading", "act"]) fun _ _ _ _ _ _ => Ln.len2 fun _ _  => rfl
  have Fwit := fun_mk (st := sWit) lwit cwit kwit
  have bwit := Fwit.binds (ps := ["trial", "act"]) fun _ _ _ _ _ _ => Ln.len2 fun _ _  => rfl
  let TTr : TxTr K mg := ⟨TFa, CTr, PySem.W.mg_of X G aCTr, ⟨pgTr, hdTr, poTr, saTr⟩, nTr0, nTr1, ftri, _, Ftri, btri, ⟨mkTr, atri, itri, kcTr⟩, CLy, PySem.W.mg_of X G aCLy, ⟨pgLy, hdLy, poLy, saLy⟩, nLy0, nLy1, flyi, _, Flyi, blyi, ⟨mkLy, alyi, ilyi, kcLy⟩, ⟨ften, _, Ften, bten, ⟨aten, iten, kten⟩⟩, ⟨ftex, _, Ftex, btex, ⟨atex, itex, ktex⟩⟩, ⟨fqtr, _, Fqtr, bqtr, ⟨aqtr, iqtr, kqtr⟩⟩, z1, id3, z5, ⟨fatt, _, Fatt, batt, PySem.W.mg_of X G aatt, katt⟩, ⟨fwit, _, Fwit, bwit, PySem.W.mg_of X G awit, kwit⟩⟩
  have FENR := fun_mk (st := sENR) lENR cENR kENR
  have bENR := FENR.binds (ps := ["self", "value"]) fun _ _ _ _ _ _ => Ln.len2 fun _ _  => rfl
  let TEn : TxEr K mg "NotAReading" "value" sENR "NotAReading.__init__" := ⟨CENR, fENR, _, PySem.W.mg_of X G aCENR, ⟨⟨nmENR, qENR, NENR, bsENR, bmENR, snENR, subENR, abENR, colENR, ddENR, m0ENR, m1ENR, m2ENR, m3ENR, m5ENR, xENR, xrENR⟩, e1ENR, e2ENR, e3ENR, e4ENR⟩, aENR, e5ENR, e6ENR, FENR, bENR⟩
  have Fcm := fun_mk (st := sCame) lcm ccm kcm
  have bcm := Fcm.binds (ps := ["_law_ask"]) fun _ _ _ _ _ _ => Ln.len1 fun _  => rfl
  let TCm : TxCm K mg CENR CNtu := ⟨PySem.W.mg_none_of X G z_isinstance, PySem.W.mg_none_of X G z_ValueError, PySem.W.mg_none_of X G z_LookupError, CBInputError, PySem.W.mg_of X G aCBInputError, CBStateError, PySem.W.mg_of X G aCBStateError, PySem.W.mg_of X G aCENR, ⟨⟨⟨x7ENR, x8ENR, e2ENR, x9ENR⟩, xAENR, xBENR, xg1, xg2, xCENR⟩, e6ENR, kAENR, kBENR⟩, xxENRENR, PySem.W.mg_of X G aCNtu, ⟨⟨x7Ntu, x8Ntu, sNtu, x9Ntu, xBNtu, xg1, xg2, xCNtu⟩, kANtu, kBNtu⟩, xxNtuENR, xxNtuNtu, ⟨fcm, _, Fcm, bcm, PySem.W.mg_of X G acm, kcm⟩⟩
  have Flr := fun_mk (st := sLR) llr clr klr
  have blr := Flr.binds (ps := ["self"]) fun _ _ _ _ _ _ => Ln.len1 fun _  => rfl
  have Ftale := fun_mk (st := sTale) ltale ctale ktale
  have btale := Ftale.binds (ps := ["_law_jar_here", "_law_wide", "_law_many"]) fun _ _ _ _ _ _ => Ln.len3 fun _ _ _  => rfl
  have Flat := fun_mk (st := sAt) llat clat klat
  have blat := Flat.binds (ps := ["_law_live", "_law_wide", "_law_tale_here", "_law_box_here"]) fun _ _ _ _ _ _ => Ln.len4 fun _ _ _ _  => rfl
  have Flq := fun_mk (st := sLEq) llq clq klq
  have blq := Flq.binds (ps := ["self", "other"]) fun _ _ _ _ _ _ => Ln.len2 fun _ _  => rfl
  have Fmov := fun_mk (st := sMov) lmov cmov kmov
  have bmov := Fmov.binds (ps := ["_law_live", "_law_wide", "_law_steps"]) fun _ _ _ _ _ _ => Ln.len3 fun _ _ _  => rfl
  have Fbxs := fun_mk (st := sBoxes) lbxs cbxs kbxs
  have bbxs := Fbxs.binds (ps := ["_law_made", "_law_wide", "_law_tale_here"]) fun _ _ _ _ _ _ => Ln.len3 fun _ _ _  => rfl
  have KA : KBinds K (PySem.W.fnOf "attempt" "attempt" (defArgs sAtt) (defBody sAtt) (defScope sAtt) .none kVatt dcatt pmatt anatt cdatt ctatt) ["reading", "act"] ["reading", "act"] gAt gAtV := ⟨fun s us ws _ hl => by
      match us, ws, hl with
      | [], [_, _], _ => exact .of_eq rfl, fun h1 h2 => gAt_rel h1 h2⟩
  have Fjar := fun_mk (st := sJar) ljar cjar kjar
  have bjar := Fjar.binds (ps := ["_law_script", "_law_k"]) fun _ _ _ _ _ _ => Ln.len2 fun _ _  => rfl
  have Ffal := fun_mk (st := sFal) lfal cfal kfal
  have bfal := Ffal.binds (ps := ["_law_live"]) fun _ _ _ _ _ _ => Ln.len1 fun _  => rfl
  have Fnst := fun_mk (st := sNest) lnst cnst knst
  have bnst := Fnst.binds (ps := ["_law_live", "_law_wide", "_law_gate", "_law_one", "_law_two"]) fun _ _ _ _ _ _ => Ln.len5 fun _ _ _ _ _  => rfl
  have Frt := fun_mk (st := sRight) lrt crt krt
  have brt := Frt.binds (ps := ["_law_jar_here"]) fun _ _ _ _ _ _ => Ln.len1 fun _  => rfl
  have Flaw := fun_mk (st := sLaw) llaw claw klaw
  let R : TxR K mg := ⟨TTr, TEn, TCm, ⟨TC, ⟨flr, _, Flr, blr, alr, ilr⟩⟩, rfl, (fun d => match d with | .none => nbQNoneType | .bool _ => nbQbool | .int _ => nbQint | .str _ => nbQstr | .list _ => nbQlist | .tuple _ => nbQtuple | .dict _ => nbQdict), kLQ, TD, TB, PySem.W.mg_none_of X G z_min, PySem.W.mg_none_of X G z_repr, PySem.W.mg_none_of X G z_str, PySem.W.mg_none_of X G z_bool, nbQ, ⟨ftale, _, Ftale, btale, PySem.W.mg_of X G atale, ktale⟩, ⟨flat, _, Flat, blat, PySem.W.mg_of X G alat, klat⟩, ⟨flq, _, Flq, blq, alq, ilq⟩, ⟨fmov, _, Fmov, bmov, PySem.W.mg_of X G amov, kmov⟩, ⟨fnst, _, Fnst, bnst, PySem.W.mg_of X G anst, knst⟩, ⟨ffal, _, Ffal, bfal, PySem.W.mg_of X G afal, kfal⟩, ⟨fbxs, _, Fbxs, bbxs, PySem.W.mg_of X G abxs, kbxs⟩, PySem.W.mg_none_of X G z_KeyError, KA⟩
  refine ⟨_, [(cR1, PR1), (cR2, PR2), (cR3, PR3)], spLaw K PR1 PR2 PR3, fun p hp => ?_, fun p hp => ?_, fun p hp => ?_, fun s v => .of_eq rfl, fun H a ns hl hT hS => ?_, fun base _ _ sm hB => ok_law Flaw TD.J TD.range (PySem.W.mg_none_of X G z_all) 20 (ok_right Frt R rfl sm (hB (cR3, PR3) (List.mem_cons_of_mem _ (List.mem_cons_of_mem _ List.mem_cons_self))) rfl (hB (cR1, PR1) List.mem_cons_self) rfl (hB (cR2, PR2) (List.mem_cons_of_mem _ List.mem_cons_self))) Fjar bjar (PySem.W.mg_of X G ajar) kjar (by decide) brt (PySem.W.mg_of X G art) krt (PySem.W.mg_none_of X G z_max) (PySem.W.mg_none_of X G z_min)⟩
  · skip
    rcases List.mem_cons.mp hp with hp | hp
    · cases hp
      exact q51
    rcases List.mem_cons.mp hp with hp | hp
    · cases hp
      exact q52
    · cases List.mem_singleton.mp hp
      exact q53
  · skip
    rcases List.mem_cons.mp hp with hp | hp
    · cases hp
      exact q41
    rcases List.mem_cons.mp hp with hp | hp
    · cases hp
      exact q42
    · cases List.mem_singleton.mp hp
      exact q43
  · skip
    rcases List.mem_cons.mp hp with hp | hp
    · cases hp
      exact PySem.W.codeHd_of_K X q31
    rcases List.mem_cons.mp hp with hp | hp
    · cases hp
      exact PySem.W.codeHd_of_K X q32
    · cases List.mem_singleton.mp hp
      exact PySem.W.codeHd_of_K X q33
  · exact ⟨a, ns, rfl, hS, hl, ⟨LamX.TabS.nil (hT (cR1, PR1) List.mem_cons_self), tabN_nil (hT (cR2, PR2) (List.mem_cons_of_mem _ List.mem_cons_self)), FvT.TabT.nil (hT (cR3, PR3) (List.mem_cons_of_mem _ (List.mem_cons_of_mem _ List.mem_cons_self))), neP, by simp [ne13.symm, ne23.symm]⟩, fun _ => rfl⟩
end My
open PySem PySem.W PyProof.Rows in
set_option maxRecDepth 100000 in
set_option maxHeartbeats 0 in
theorem PySem.Challenge.cw_lastshort_k65_whole_trials_holds : PySem.Challenge.rw_lastshort_k65_whole_trials.Holds := by
  refine Hd65 ?_
  k_fill
  refine Gd.walk_ofG (l := PySem.Challenge.rw_lastshort_k65_whole_trials) (n := 63) (k := 21) (x := "_law_script") rfl (by decide) rfl (by decide +kernel) ⟨rfl, by decide, by decide⟩ (fun w h Y => PySem.W.km_in_of Y) ?F
  case F =>
    intro w mg fa h Y KX G hmg
    refine' My.all_mk KX G hmg ?gT ?tT ?gR ?tR ?gE ?tE ?mB ?mMR ?mME ?awo ?lwo ?cwo ?kwo ?aoo ?loo ?coo ?koo ?aiw ?liw ?ciw ?kiw ?aaw ?law ?caw ?kaw ?air ?lir ?cir ?kir ?aie ?lie ?cie ?kie ?aCIT ?aIT ?iIT ?lIT ?cIT ?kIT ?xIT ?xrIT ?e1IT ?e2IT ?e3IT ?e4IT ?e5IT ?e6IT ?aCL ?pgL ?hdL ?poL ?saL ?mkL ?kcL ?nL0 ?nL1 ?nL2 ?nL3 ?nL4 ?ali ?ili ?lli ?cli ?kli ?mMP ?mMI ?aiib ?liib ?ciib ?kiib ?acks ?lcks ?ccks ?kcks ?aCES ?aES ?iES ?lES ?cES ?kES ?xES ?xrES ?e1ES ?e2ES ?e3ES ?e4ES ?e5ES ?e6ES ?aCX ?pgX ?hdX ?poX ?saX ?mkX ?kcX ?nX0 ?nX1 ?nX2 ?nX3 ?nX4 ?nX5 ?nX6 ?nX7 ?nX8 ?axi ?ixi ?lxi ?cxi ?kxi ?axa ?ixa ?lxa ?cxa ?kxa ?axq ?ixq ?lxq ?cxq ?kxq ?axp ?ixp ?lxp ?cxp ?kxp ?axr ?ixr ?lxr ?cxr ?kxr ?axc ?ixc ?lxc ?cxc ?kxc ?alx ?ilx ?llx ?clx ?klx ?asip ?lsip ?csip ?ksip ?afrm ?lfrm ?cfrm ?kfrm ?awds ?lwds ?cwds ?kwds ?alop ?llop ?clop ?klop ?alin ?llin ?clin ?klin ?apas ?lpas ?cpas ?kpas ?asli ?lsli ?csli ?ksli ?adon ?ldon ?cdon ?kdon ?afed ?lfed ?cfed ?kfed ?abox ?lbox ?cbox ?kbox ?aCM ?pgM ?hdM ?poM ?saM ?mkM ?kcM ?nM0 ?nM1 ?nM2 ?nM3 ?nM4 ?ami ?imi ?lmi ?cmi ?kmi ?aCQ ?pgQ ?hdQ ?poQ ?saQ ?mkQ ?kcQ ?nQ0 ?nQ1 ?nQ2 ?nQ3 ?aqi ?iqi ?lqi ?cqi ?kqi ?ackl ?lckl ?cckl ?kckl ?w1 ?w2 ?w3 ?w4 ?w5 ?aqgp ?gqgp ?tqgp ?rqgp ?lqgp ?cqgp ?kqgp ?aqhp ?gqhp ?tqhp ?rqhp ?lqhp ?cqhp ?kqhp ?aqkp ?gqkp ?tqkp ?rqkp ?lqkp ?cqkp ?kqkp ?aqop ?gqop ?tqop ?rqop ?lqop ?cqop ?kqop ?aql ?iql ?lql ?cql ?kql ?aqr ?iqr ?lqr ?cqr ?kqr ?aqf ?iqf ?lqf ?cqf ?kqf ?aqu ?iqu ?lqu ?cqu ?kqu ?aqc ?iqc ?lqc ?cqc ?kqc ?aqk ?iqk ?lqk ?cqk ?kqk ?aqt ?iqt ?lqt ?cqt ?kqt ?aCStp ?qStp ?kStp ?sStp ?tStp ?aCNtu ?qNtu ?kNtu ?sNtu ?tNtu ?aCEL ?aEL ?iEL ?lEL ?cEL ?kEL ?xEL ?xrEL ?e1EL ?e2EL ?e3EL ?e4EL ?e5EL ?e6EL ?aCEC ?aEC ?iEC ?lEC ?cEC ?kEC ?xEC ?xrEC ?e1EC ?e2EC ?e3EC ?e4EC ?e5EC ?e6EC ?aCET ?aET ?iET ?lET ?cET ?kET ?xET ?xrET ?e1ET ?e2ET ?e3ET ?e4ET ?e5ET ?e6ET ?aCEM ?aEM ?iEM ?lEM ?cEM ?kEM ?xEM ?xrEM ?e1EM ?e2EM ?e3EM ?e4EM ?e5EM ?e6EM ?aCED ?aED ?iED ?lED ?cED ?kED ?xED ?xrED ?e1ED ?e2ED ?e3ED ?e4ED ?e5ED ?e6ED ?aisd ?lisd ?cisd ?kisd ?ackd ?lckd ?cckd ?kckd ?afa ?ifa ?lfa ?cfa ?kfa ?wfa ?aCTr ?pgTr ?hdTr ?poTr ?saTr ?mkTr ?kcTr ?nTr0 ?nTr1 ?atri ?itri ?ltri ?ctri ?ktri ?aCLy ?pgLy ?hdLy ?poLy ?saLy ?mkLy ?kcLy ?nLy0 ?nLy1 ?alyi ?ilyi ?llyi ?clyi ?klyi ?aten ?iten ?lten ?cten ?kten ?atex ?itex ?ltex ?ctex ?ktex ?aqtr ?iqtr ?lqtr ?cqtr ?kqtr ?z1 ?id3 ?z5 ?aatt ?latt ?catt ?katt ?awit ?lwit ?cwit ?kwit ?aCENR ?aENR ?iENR ?lENR ?cENR ?kENR ?xENR ?xrENR ?e1ENR ?e2ENR ?e3ENR ?e4ENR ?e5ENR ?e6ENR ?aCBInputError ?aCBStateError ?kAENR ?kBENR ?x7ENR ?x8ENR ?x9ENR ?xAENR ?xBENR ?xg1 ?xg2 ?xCENR ?xxENRENR ?kANtu ?kBNtu ?x7Ntu ?x8Ntu ?x9Ntu ?xBNtu ?xCNtu ?xxNtuENR ?xxNtuNtu ?acm ?lcm ?ccm ?kcm ?alr ?ilr ?llr ?clr ?klr ?nbQNoneType ?nbQbool ?nbQint ?nbQstr ?nbQlist ?nbQtuple ?nbQdict ?kLQ ?nbQ ?atale ?ltale ?ctale ?ktale ?alat ?llat ?clat ?klat ?alq ?ilq ?llq ?clq ?klq ?amov ?lmov ?cmov ?kmov ?abxs ?lbxs ?cbxs ?kbxs ?ajar ?ljar ?cjar ?kjar ?afal ?lfal ?cfal ?kfal ?anst ?lnst ?cnst ?knst ?art ?lrt ?crt ?krt ?alaw ?llaw ?claw ?klaw ?q11 ?q21 ?q31 ?q41 ?q51 ?q12 ?q22 ?q32 ?q42 ?q52 ?q13 ?q23 ?q33 ?q43 ?q53 ?neP ?ne13 ?ne23 ?z_tuple ?z_len ?z_all ?z_isinstance ?z_str ?z_int ?z_bool ?z_range ?z_abs ?z_divmod ?z_list ?z_sum ?z_enumerate ?z_ValueError ?z_LookupError ?z_min ?z_repr ?z_KeyError ?z_max
    (case gT => k_is)
    (case tT => k_is)
    (case gR => k_is)
    (case tR => k_is)
    (case gE => k_is)
    (case tE => k_is)
    (case mB => k_is)
    (case mMR => k_is)
    (case mME => k_is)
    (case awo => k_is)
    (case lwo => k_is)
    (case cwo => k_is)
    (case kwo => k_is)
    (case aoo => k_is)
    (case loo => k_is)
    (case coo => k_is)
    (case koo => k_is)
    (case aiw => k_is)
    (case liw => k_is)
    (case ciw => k_is)
    (case kiw => k_is)
    (case aaw => k_is)
    (case law => k_is)
    (case caw => k_is)
    (case kaw => k_is)
    (case air => k_is)
    (case lir => k_is)
    (case cir => k_is)
    (case kir => k_is)
    (case aie => k_is)
    (case lie => k_is)
    (case cie => k_is)
    (case kie => k_is)
    (case aCIT => k_is)
    (case aIT => k_is)
    (case iIT => k_is)
    (case lIT => k_is)
    (case cIT => k_is)
    (case kIT => k_is)
    (case xIT => k_is)
    (case xrIT => decide +kernel)
    (case e1IT => k_is)
    (case e2IT => k_is)
    (case e3IT => k_is)
    (case e4IT => k_is)
    (case e5IT => k_is)
    (case e6IT => k_is)
    (case aCL => k_is)
    (case pgL => k_is)
    (case hdL => k_is)
    (case poL => k_is)
    (case saL => k_is)
    (case mkL => k_is)
    (case kcL => k_is)
    (case nL0 => k_is)
    (case nL1 => k_is)
    (case nL2 => k_is)
    (case nL3 => k_is)
    (case nL4 => k_is)
    (case ali => k_is)
    (case ili => k_is)
    (case lli => k_is)
    (case cli => k_is)
    (case kli => k_is)
    (case mMP => k_is)
    (case mMI => k_is)
    (case aiib => k_is)
    (case liib => k_is)
    (case ciib => k_is)
    (case kiib => k_is)
    (case acks => k_is)
    (case lcks => k_is)
    (case ccks => k_is)
    (case kcks => k_is)
    (case aCES => k_is)
    (case aES => k_is)
    (case iES => k_is)
    (case lES => k_is)
    (case cES => k_is)
    (case kES => k_is)
    (case xES => k_is)
    (case xrES => decide +kernel)
    (case e1ES => k_is)
    (case e2ES => k_is)
    (case e3ES => k_is)
    (case e4ES => k_is)
    (case e5ES => k_is)
    (case e6ES => k_is)
    (case aCX => k_is)
    (case pgX => k_is)
    (case hdX => k_is)
    (case poX => k_is)
    (case saX => k_is)
    (case mkX => k_is)
    (case kcX => k_is)
    (case nX0 => k_is)
    (case nX1 => k_is)
    (case nX2 => k_is)
    (case nX3 => k_is)
    (case nX4 => k_is)
    (case nX5 => k_is)
    (case nX6 => k_is)
    (case nX7 => k_is)
    (case nX8 => k_is)
    (case axi => k_is)
    (case ixi => k_is)
    (case lxi => k_is)
    (case cxi => k_is)
    (case kxi => k_is)
    (case axa => k_is)
    (case ixa => k_is)
    (case lxa => k_is)
    (case cxa => k_is)
    (case kxa => k_is)
    (case axq => k_is)
    (case ixq => k_is)
    (case lxq => k_is)
    (case cxq => k_is)
    (case kxq => k_is)
    (case axp => k_is)
    (case ixp => k_is)
    (case lxp => k_is)
    (case cxp => k_is)
    (case kxp => k_is)
    (case axr => k_is)
    (case ixr => k_is)
    (case lxr => k_is)
    (case cxr => k_is)
    (case kxr => k_is)
    (case axc => k_is)
    (case ixc => k_is)
    (case lxc => k_is)
    (case cxc => k_is)
    (case kxc => k_is)
    (case alx => k_is)
    (case ilx => k_is)
    (case llx => k_is)
    (case clx => k_is)
    (case klx => k_is)
    (case asip => k_is)
    (case lsip => k_is)
    (case csip => k_is)
    (case ksip => k_is)
    (case afrm => k_is)
    (case lfrm => k_is)
    (case cfrm => k_is)
    (case kfrm => k_is)
    (case awds => k_is)
    (case lwds => k_is)
    (case cwds => k_is)
    (case kwds => k_is)
    (case alop => k_is)
    (case llop => k_is)
    (case clop => k_is)
    (case klop => k_is)
    (case alin => k_is)
    (case llin => k_is)
    (case clin => k_is)
    (case klin => k_is)
    (case apas => k_is)
    (case lpas => k_is)
    (case cpas => k_is)
    (case kpas => k_is)
    (case asli => k_is)
    (case lsli => k_is)
    (case csli => k_is)
    (case ksli => k_is)
    (case adon => k_is)
    (case ldon => k_is)
    (case cdon => k_is)
    (case kdon => k_is)
    (case afed => k_is)
    (case lfed => k_is)
    (case cfed => k_is)
    (case kfed => k_is)
    (case abox => k_is)
    (case lbox => k_is)
    (case cbox => k_is)
    (case kbox => k_is)
    (case aCM => k_is)
    (case pgM => k_is)
    (case hdM => k_is)
    (case poM => k_is)
    (case saM => k_is)
    (case mkM => k_is)
    (case kcM => k_is)
    (case nM0 => k_is)
    (case nM1 => k_is)
    (case nM2 => k_is)
    (case nM3 => k_is)
    (case nM4 => k_is)
    (case ami => k_is)
    (case imi => k_is)
    (case lmi => k_is)
    (case cmi => k_is)
    (case kmi => k_is)
    (case aCQ => k_is)
    (case pgQ => k_is)
    (case hdQ => k_is)
    (case poQ => k_is)
    (case saQ => k_is)
    (case mkQ => k_is)
    (case kcQ => k_is)
    (case nQ0 => k_is)
    (case nQ1 => k_is)
    (case nQ2 => k_is)
    (case nQ3 => k_is)
    (case aqi => k_is)
    (case iqi => k_is)
    (case lqi => k_is)
    (case cqi => k_is)
    (case kqi => k_is)
    (case ackl => k_is)
    (case lckl => k_is)
    (case cckl => k_is)
    (case kckl => k_is)
    (case w1 => k_is)
    (case w2 => k_is)
    (case w3 => k_is)
    (case w4 => k_is)
    (case w5 => kernel_rfl)
    (case aqgp => k_is)
    (case gqgp => k_is)
    (case tqgp => k_is)
    (case rqgp => k_is)
    (case lqgp => k_is)
    (case cqgp => k_is)
    (case kqgp => k_is)
    (case aqhp => k_is)
    (case gqhp => k_is)
    (case tqhp => k_is)
    (case rqhp => k_is)
    (case lqhp => k_is)
    (case cqhp => k_is)
    (case kqhp => k_is)
    (case aqkp => k_is)
    (case gqkp => k_is)
    (case tqkp => k_is)
    (case rqkp => k_is)
    (case lqkp => k_is)
    (case cqkp => k_is)
    (case kqkp => k_is)
    (case aqop => k_is)
    (case gqop => k_is)
    (case tqop => k_is)
    (case rqop => k_is)
    (case lqop => k_is)
    (case cqop => k_is)
    (case kqop => k_is)
    (case aql => k_is)
    (case iql => k_is)
    (case lql => k_is)
    (case cql => k_is)
    (case kql => k_is)
    (case aqr => k_is)
    (case iqr => k_is)
    (case lqr => k_is)
    (case cqr => k_is)
    (case kqr => k_is)
    (case aqf => k_is)
    (case iqf => k_is)
    (case lqf => k_is)
    (case cqf => k_is)
    (case kqf => k_is)
    (case aqu => k_is)
    (case iqu => k_is)
    (case lqu => k_is)
    (case cqu => k_is)
    (case kqu => k_is)
    (case aqc => k_is)
    (case iqc => k_is)
    (case lqc => k_is)
    (case cqc => k_is)
    (case kqc => k_is)
    (case aqk => k_is)
    (case iqk => k_is)
    (case lqk => k_is)
    (case cqk => k_is)
    (case kqk => k_is)
    (case aqt => k_is)
    (case iqt => k_is)
    (case lqt => k_is)
    (case cqt => k_is)
    (case kqt => k_is)
    (case aCStp => k_is)
    (case qStp => kernel_rfl)
    (case kStp => k_is)
    (case sStp => k_is)
    (case tStp => k_is)
    (case aCNtu => k_is)
    (case qNtu => kernel_rfl)
    (case kNtu => k_is)
    (case sNtu => k_is)
    (case tNtu => k_is)
    (case aCEL => k_is)
    (case aEL => k_is)
    (case iEL => k_is)
    (case lEL => k_is)
    (case cEL => k_is)
    (case kEL => k_is)
    (case xEL => k_is)
    (case xrEL => decide +kernel)
    (case e1EL => k_is)
    (case e2EL => k_is)
    (case e3EL => k_is)
    (case e4EL => k_is)
    (case e5EL => k_is)
    (case e6EL => k_is)
    (case aCEC => k_is)
    (case aEC => k_is)
    (case iEC => k_is)
    (case lEC => k_is)
    (case cEC => k_is)
    (case kEC => k_is)
    (case xEC => k_is)
    (case xrEC => decide +kernel)
    (case e1EC => k_is)
    (case e2EC => k_is)
    (case e3EC => k_is)
    (case e4EC => k_is)
    (case e5EC => k_is)
    (case e6EC => k_is)
    (case aCET => k_is)
    (case aET => k_is)
    (case iET => k_is)
    (case lET => k_is)
    (case cET => k_is)
    (case kET => k_is)
    (case xET => k_is)
    (case xrET => decide +kernel)
    (case e1ET => k_is)
    (case e2ET => k_is)
    (case e3ET => k_is)
    (case e4ET => k_is)
    (case e5ET => k_is)
    (case e6ET => k_is)
    (case aCEM => k_is)
    (case aEM => k_is)
    (case iEM => k_is)
    (case lEM => k_is)
    (case cEM => k_is)
    (case kEM => k_is)
    (case xEM => k_is)
    (case xrEM => exact .own .here)
    (case e1EM => k_is)
    (case e2EM => k_is)
    (case e3EM => k_is)
    (case e4EM => k_is)
    (case e5EM => k_is)
    (case e6EM => k_is)
    (case aCED => k_is)
    (case aED => k_is)
    (case iED => k_is)
    (case lED => k_is)
    (case cED => k_is)
    (case kED => k_is)
    (case xED => k_is)
    (case xrED => decide +kernel)
    (case e1ED => k_is)
    (case e2ED => k_is)
    (case e3ED => k_is)
    (case e4ED => k_is)
    (case e5ED => k_is)
    (case e6ED => k_is)
    (case aisd => k_is)
    (case lisd => k_is)
    (case cisd => k_is)
    (case kisd => k_is)
    (case ackd => k_is)
    (case lckd => k_is)
    (case cckd => k_is)
    (case kckd => k_is)
    (case afa => k_is)
    (case ifa => k_is)
    (case lfa => k_is)
    (case cfa => k_is)
    (case kfa => k_is)
    (case wfa => k_is)
    (case aCTr => k_is)
    (case pgTr => k_is)
    (case hdTr => k_is)
    (case poTr => k_is)
    (case saTr => k_is)
    (case mkTr => k_is)
    (case kcTr => k_is)
    (case nTr0 => k_is)
    (case nTr1 => k_is)
    (case atri => k_is)
    (case itri => k_is)
    (case ltri => k_is)
    (case ctri => k_is)
    (case ktri => k_is)
    (case aCLy => k_is)
    (case pgLy => k_is)
    (case hdLy => k_is)
    (case poLy => k_is)
    (case saLy => k_is)
    (case mkLy => k_is)
    (case kcLy => k_is)
    (case nLy0 => k_is)
    (case nLy1 => k_is)
    (case alyi => k_is)
    (case ilyi => k_is)
    (case llyi => k_is)
    (case clyi => k_is)
    (case klyi => k_is)
    (case aten => k_is)
    (case iten => k_is)
    (case lten => k_is)
    (case cten => k_is)
    (case kten => k_is)
    (case atex => k_is)
    (case itex => k_is)
    (case ltex => k_is)
    (case ctex => k_is)
    (case ktex => k_is)
    (case aqtr => k_is)
    (case iqtr => k_is)
    (case lqtr => k_is)
    (case cqtr => k_is)
    (case kqtr => k_is)
    (case z1 => k_is)
    (case id3 => k_is)
    (case z5 => kernel_rfl)
    (case aatt => k_is)
    (case latt => k_is)
    (case catt => k_is)
    (case katt => k_is)
    (case awit => k_is)
    (case lwit => k_is)
    (case cwit => k_is)
    (case kwit => k_is)
    (case aCENR => k_is)
    (case aENR => k_is)
    (case iENR => k_is)
    (case lENR => k_is)
    (case cENR => k_is)
    (case kENR => k_is)
    (case xENR => k_is)
    (case xrENR => decide +kernel)
    (case e1ENR => k_is)
    (case e2ENR => k_is)
    (case e3ENR => k_is)
    (case e4ENR => k_is)
    (case e5ENR => k_is)
    (case e6ENR => k_is)
    (case aCBInputError => k_is)
    (case aCBStateError => k_is)
    (case kAENR => kernel_rfl)
    (case kBENR => kernel_rfl)
    (case x7ENR => k_is)
    (case x8ENR => k_is)
    (case x9ENR => k_is)
    (case xAENR => kernel_rfl)
    (case xBENR => k_is)
    (case xg1 => k_is)
    (case xg2 => k_is)
    (case xCENR => k_is)
    (case xxENRENR => kernel_rfl)
    (case kANtu => kernel_rfl)
    (case kBNtu => kernel_rfl)
    (case x7Ntu => k_is)
    (case x8Ntu => k_is)
    (case x9Ntu => k_is)
    (case xBNtu => k_is)
    (case xCNtu => k_is)
    (case xxNtuENR => kernel_rfl)
    (case xxNtuNtu => kernel_rfl)
    (case acm => k_is)
    (case lcm => k_is)
    (case ccm => k_is)
    (case kcm => k_is)
    (case alr => k_is)
    (case ilr => k_is)
    (case llr => k_is)
    (case clr => k_is)
    (case klr => k_is)
    (case nbQNoneType => kernel_rfl)
    (case nbQbool => kernel_rfl)
    (case nbQint => kernel_rfl)
    (case nbQstr => kernel_rfl)
    (case nbQlist => kernel_rfl)
    (case nbQtuple => kernel_rfl)
    (case nbQdict => kernel_rfl)
    (case kLQ => kernel_rfl)
    (case nbQ => k_is)
    (case atale => k_is)
    (case ltale => k_is)
    (case ctale => k_is)
    (case ktale => k_is)
    (case alat => k_is)
    (case llat => k_is)
    (case clat => k_is)
    (case klat => k_is)
    (case alq => k_is)
    (case ilq => k_is)
    (case llq => k_is)
    (case clq => k_is)
    (case klq => k_is)
    (case amov => k_is)
    (case lmov => k_is)
    (case cmov => k_is)
    (case kmov => k_is)
    (case abxs => k_is)
    (case lbxs => k_is)
    (case cbxs => k_is)
    (case kbxs => k_is)
    (case ajar => k_is)
    (case ljar => k_is)
    (case cjar => k_is)
    (case kjar => k_is)
    (case afal => k_is)
    (case lfal => k_is)
    (case cfal => k_is)
    (case kfal => k_is)
    (case anst => k_is)
    (case lnst => k_is)
    (case cnst => k_is)
    (case knst => k_is)
    (case art => k_is)
    (case lrt => k_is)
    (case crt => k_is)
    (case krt => k_is)
    (case alaw => k_is)
    (case llaw => k_is)
    (case claw => k_is)
    (case klaw => k_is)
    (case q11 => k_is)
    (case q21 => rfl)
    (case q31 => kernel_rfl)
    (case q41 => kernel_rfl)
    (case q51 => exact PySem.W.km_tabs_of Y _ (by decide))
    (case q12 => k_is)
    (case q22 => rfl)
    (case q32 => kernel_rfl)
    (case q42 => kernel_rfl)
    (case q52 => exact PySem.W.km_tabs_of Y _ (by decide))
    (case q13 => k_is)
    (case q23 => rfl)
    (case q33 => kernel_rfl)
    (case q43 => kernel_rfl)
    (case q53 => exact PySem.W.km_tabs_of Y _ (by decide))
    (case neP => decide)
    (case ne13 => decide)
    (case ne23 => decide)
    (case z_tuple => k_is)
    (case z_len => k_is)
    (case z_all => k_is)
    (case z_isinstance => k_is)
    (case z_str => k_is)
    (case z_int => k_is)
    (case z_bool => k_is)
    (case z_range => k_is)
    (case z_abs => k_is)
    (case z_divmod => k_is)
    (case z_list => k_is)
    (case z_sum => k_is)
    (case z_enumerate => k_is)
    (case z_ValueError => k_is)
    (case z_LookupError => k_is)
    (case z_min => k_is)
    (case z_repr => k_is)
    (case z_KeyError => k_is)
    (case z_max => k_is)
