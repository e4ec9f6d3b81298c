import PyProof.Rows.All
import Wide.All
import OpenK.AllK
import Wide.FinOn
import HandS.ForMost
import HandS.Codes
import HandS.IsInst
import HandS.TupAny
import HandS.SlotsOwn
import HandS.ExcInit
import HandS.ExcField
import HandS.WordsExc
import KE.KCallOwn
import OpenK.KOps
import HandS.FStr
import HandS.RaiseMore
import PyProof.Rows.ChunkEnd
import HandS.Conv
import KE.GoesEnum
import PyProof.ReprRoads
import HandS.Small
import HandS.ExcOwn
import HandS.ExcIs
import PyProof.ExcBaseAll.LookupError
import HandS.Property
import HandS.ExcValue
import HandS.MakeKwOnly
import KE.KExcIs
import HandS.TryMany
import HandS.Lambda
import HandS.StrMore
import PyProof.StrLawsAffix
import PyProof.ReprReads
import HandS.Text
import PyProof.StrBlock2
import HandS.Call
import HandS.HeadHook3
import HandS.Deep
import PyProof.InstEq
import HandS.Comp
import HandS.Exc
import KE.GoesComp
import KE.KAsSuite
import HandS.OwnEq
import PySem.Challenge.RW_lastshort_k67_consoles_and_reports_refus
set_option Elab.async false
set_option linter.all false
set_option maxRecDepth 100000
set_option maxHeartbeats 8000000
/-! lists of a known length: smaller than a match in the place -/
namespace Ln
theorem len0 {α : Type} {p : List α → Prop} (h : Unit → p []) : ∀ us : List α, us.length = 0 → p us
  | [], _ => h ()
theorem len1 {α : Type} {p : List α → Prop} (h : ∀ a0, p [a0]) : ∀ us : List α, us.length = 1 → p us
  | [a0], _ => h a0
theorem len2 {α : Type} {p : List α → Prop} (h : ∀ a0 a1, p [a0, a1]) : ∀ us : List α, us.length = 2 → p us
  | [a0, a1], _ => h a0 a1
theorem len3 {α : Type} {p : List α → Prop} (h : ∀ a0 a1 a2, p [a0, a1, a2]) : ∀ us : List α, us.length = 3 → p us
  | [a0, a1, a2], _ => h a0 a1 a2
theorem len4 {α : Type} {p : List α → Prop} (h : ∀ a0 a1 a2 a3, p [a0, a1, a2, a3]) : ∀ us : List α, us.length = 4 → p us
  | [a0, a1, a2, a3], _ => h a0 a1 a2 a3
theorem len5 {α : Type} {p : List α → Prop} (h : ∀ a0 a1 a2 a3 a4, p [a0, a1, a2, a3, a4]) : ∀ us : List α, us.length = 5 → p us
  | [a0, a1, a2, a3, a4], _ => h a0 a1 a2 a3 a4
theorem len6 {α : Type} {p : List α → Prop} (h : ∀ a0 a1 a2 a3 a4 a5, p [a0, a1, a2, a3, a4, a5]) : ∀ us : List α, us.length = 6 → p us
  | [a0, a1, a2, a3, a4, a5], _ => h a0 a1 a2 a3 a4 a5
theorem len7 {α : Type} {p : List α → Prop} (h : ∀ a0 a1 a2 a3 a4 a5 a6, p [a0, a1, a2, a3, a4, a5, a6]) : ∀ us : List α, us.length = 7 → p us
  | [a0, a1, a2, a3, a4, a5, a6], _ => h a0 a1 a2 a3 a4 a5 a6
theorem len8 {α : Type} {p : List α → Prop} (h : ∀ a0 a1 a2 a3 a4 a5 a6 a7, p [a0, a1, a2, a3, a4, a5, a6, a7]) : ∀ us : List α, us.length = 8 → p us
  | [a0, a1, a2, a3, a4, a5, a6, a7], _ => h a0 a1 a2 a3 a4 a5 a6 a7
theorem len9 {α : Type} {p : List α → Prop} (h : ∀ a0 a1 a2 a3 a4 a5 a6 a7 a8, p [a0, a1, a2, a3, a4, a5, a6, a7, a8]) : ∀ us : List α, us.length = 9 → p us
  | [a0, a1, a2, a3, a4, a5, a6, a7, a8], _ => h a0 a1 a2 a3 a4 a5 a6 a7 a8
end Ln

namespace HdS
open PySem PySem.W
/-- parts of the objects that the head looks at -/
def sg (i n : Nat) (as : List Addr) (s : Shared) : List (Option Obj) := ((as.drop i).take n).map s.heap.get?
def vg (i n : Nat) (K : Params → Frag) (w : World) : List (Option Obj) := (((K w.params).drop i).take n).map fun p => some p.2
def sl (i : Nat) (as : List Addr) (s : Shared) : List (Option Obj) := (as.drop i).map s.heap.get?
def vl (i : Nat) (K : Params → Frag) (w : World) : List (Option Obj) := ((K w.params).drop i).map fun p => some p.2
theorem step {K : Params → Frag} {as : List Addr} {w : World} {s : Shared} {i n : Nat} (h : sg i n as s = vg i n K w) (r : sl (i + n) as s = vl (i + n) K w) : sl i as s = vl i K w := by
  have e1 : as.drop i = (as.drop i).take n ++ as.drop (i + n) := by rw [← List.drop_drop, List.take_append_drop]
  have e2 : (K w.params).drop i = ((K w.params).drop i).take n ++ (K w.params).drop (i + n) := by rw [← List.drop_drop, List.take_append_drop]
  unfold sl vl
  rw [e1, e2, List.map_append, List.map_append]
  exact congr (congrArg _ h) r
theorem whole {K : Params → Frag} {as : List Addr} (e : ∀ P, as = (K P).map (·.1)) (w : World) (s : Shared)
    (h : ((((sg 0 64 as s, sg 64 64 as s), (sg 128 64 as s, sg 192 64 as s)), ((sg 256 64 as s, sg 320 64 as s), (sg 384 64 as s, sg 448 64 as s))), (((sg 512 64 as s, sg 576 64 as s), (sg 640 64 as s, sg 704 64 as s)), ((sg 768 64 as s, sg 832 64 as s), (sg 896 64 as s, sl 960 as s)))) = ((((vg 0 64 K w, vg 64 64 K w), (vg 128 64 K w, vg 192 64 K w)), ((vg 256 64 K w, vg 320 64 K w), (vg 384 64 K w, vg 448 64 K w))), (((vg 512 64 K w, vg 576 64 K w), (vg 640 64 K w, vg 704 64 K w)), ((vg 768 64 K w, vg 832 64 K w), (vg 896 64 K w, vl 960 K w))))) : InK K w s.heap := by
  have h0 := congrArg (fun x => x.1.1.1.1) h
  have h1 := congrArg (fun x => x.1.1.1.2) h
  have h2 := congrArg (fun x => x.1.1.2.1) h
  have h3 := congrArg (fun x => x.1.1.2.2) h
  have h4 := congrArg (fun x => x.1.2.1.1) h
  have h5 := congrArg (fun x => x.1.2.1.2) h
  have h6 := congrArg (fun x => x.1.2.2.1) h
  have h7 := congrArg (fun x => x.1.2.2.2) h
  have h8 := congrArg (fun x => x.2.1.1.1) h
  have h9 := congrArg (fun x => x.2.1.1.2) h
  have h10 := congrArg (fun x => x.2.1.2.1) h
  have h11 := congrArg (fun x => x.2.1.2.2) h
  have h12 := congrArg (fun x => x.2.2.1.1) h
  have h13 := congrArg (fun x => x.2.2.1.2) h
  have h14 := congrArg (fun x => x.2.2.2.1) h
  have h15 := congrArg (fun x => x.2.2.2.2) h
  have r := step h0 (step h1 (step h2 (step h3 (step h4 (step h5 (step h6 (step h7 (step h8 (step h9 (step h10 (step h11 (step h12 (step h13 (step h14 (h15)))))))))))))))
  exact InK.of e w s r
theorem wholeM {K : Params → Frag} {as : List Addr} (e : ∀ P, as = (K P).map (·.1)) (ts : List Addr) (w : World) (s : Shared)
    (h : (((((sg 0 64 as s, sg 64 64 as s), (sg 128 64 as s, sg 192 64 as s)), ((sg 256 64 as s, sg 320 64 as s), (sg 384 64 as s, sg 448 64 as s))), (((sg 512 64 as s, sg 576 64 as s), (sg 640 64 as s, sg 704 64 as s)), ((sg 768 64 as s, sg 832 64 as s), (sg 896 64 as s, sl 960 as s)))), ts.map s.heap.get?) = (((((vg 0 64 K w, vg 64 64 K w), (vg 128 64 K w, vg 192 64 K w)), ((vg 256 64 K w, vg 320 64 K w), (vg 384 64 K w, vg 448 64 K w))), (((vg 512 64 K w, vg 576 64 K w), (vg 640 64 K w, vg 704 64 K w)), ((vg 768 64 K w, vg 832 64 K w), (vg 896 64 K w, vl 960 K w)))), ts.map fun _ => some (tabObj #[]))) : InK K w s.heap ∧ ∀ P ∈ ts, s.heap.get? P = some (tabObj #[]) :=
  ⟨whole e w s (Prod.mk.inj h).1, List.map_inj_left.mp (Prod.mk.inj h).2⟩
end HdS

/-! the trees of the stages get no twins: their names are taken -/
def PySem.W.Fast.tw9669435281635665567 : Unit := ()
def PySem.W.Fast.tw8181888792452525065 : Unit := ()
def PySem.W.Fast.tw1532655530516833479 : Unit := ()
def PySem.W.Fast.tw10167203666001957780 : Unit := ()
def PySem.W.Fast.tw870273232167679580 : Unit := ()
def PySem.W.Fast.tw7482830898310412017 : Unit := ()
def PySem.W.Fast.tw12697331006714034299 : Unit := ()
def PySem.W.Fast.tw16427269096880073771 : Unit := ()
def PySem.W.Fast.tw487765568425452214 : Unit := ()
def PySem.W.Fast.tw1914227409165069301 : Unit := ()
def PySem.W.Fast.tw2659414026135710048 : Unit := ()
def PySem.W.Fast.tw3817584808395812395 : Unit := ()
def PySem.W.Fast.tw6620487909038953598 : Unit := ()
def PySem.W.Fast.tw14109999181430779079 : Unit := ()
def PySem.W.Fast.tw8999240691607409590 : Unit := ()
def PySem.W.Fast.tw15275069220434657652 : Unit := ()
def PySem.W.Fast.tw17658920319651599698 : Unit := ()
def PySem.W.Fast.tw2335884775894713678 : Unit := ()
def PySem.W.Fast.tw17307237041467552942 : Unit := ()
def PySem.W.Fast.tw4601745550515582458 : Unit := ()
def PySem.W.Fast.tw49971309070275130 : Unit := ()
def PySem.W.Fast.tw12206148638749287408 : Unit := ()
def PySem.W.Fast.tw11045424240334211414 : Unit := ()
def PySem.W.Fast.tw17355847243967280736 : Unit := ()
def PySem.W.Fast.tw3708189681008888504 : Unit := ()
def PySem.W.Fast.tw18302479888124878376 : Unit := ()
def PySem.W.Fast.tw10528360396023267289 : Unit := ()
def PySem.W.Fast.tw4110045222581243497 : Unit := ()
def PySem.W.Fast.tw15646811768819427189 : Unit := ()
def PySem.W.Fast.tw9122996730535826310 : Unit := ()
def PySem.W.Fast.tw8667583592223919892 : Unit := ()
def PySem.W.Fast.tw16943677966977008736 : Unit := ()
def PySem.W.Fast.tw8838522174715328577 : Unit := ()
def PySem.W.Fast.tw11448761380972269980 : Unit := ()
def PySem.W.Fast.tw770782725977684671 : Unit := ()
def PySem.W.Fast.tw13914976223049713392 : Unit := ()
def PySem.W.Fast.tw3408694996560594873 : Unit := ()
def PySem.W.Fast.tw1896136190829760218 : Unit := ()
def PySem.W.Fast.tw351910475364196819 : Unit := ()
def PySem.W.Fast.tw13228322937359427430 : Unit := ()
def PySem.W.Fast.tw12542421665213915734 : Unit := ()
section
open PySem PySem.W HdS
local macro_rules
  | `(tactic| refine $t:term) => do
    let r := t.raw
    let as := r[1].getArgs
    unless r.isOfKind ``Lean.Parser.Term.app && as.size > 10 do Lean.Macro.throwUnsupported
    let y := as[4]!
    let z := as[5]!
    unless y.isOfKind ``Lean.Parser.Term.namedArgument && y[1].getId.eraseMacroScopes == `Yf && z[1].getId.eraseMacroScopes == `Ya do Lean.Macro.throwUnsupported
    let h0 := y[3][1][0]
    let h := if h0.isOfKind ``Lean.Parser.Term.paren then h0[1] else h0
    unless h.isOfKind ``Lean.Parser.Term.app do Lean.Macro.throwUnsupported
    let nm := h[0].getId.eraseMacroScopes
    let k : Lean.Term := ⟨h[1][0]⟩
    let a : Lean.Term := ⟨h[1][1]⟩
    let e : Lean.Term := ⟨h[1][2]⟩
    let put (o v p : Lean.Term) : Lean.Term := ⟨r.setArg 1 (r[1].setArgs (((as.set! 4 (y.setArg 3 o)).set! 5 (z.setArg 3 v)).set! 9 p))⟩
    if nm == `kHook then
      let n := put (← `(fun s => ((((HdS.sg 0 64 $a s, HdS.sg 64 64 $a s), (HdS.sg 128 64 $a s, HdS.sg 192 64 $a s)), ((HdS.sg 256 64 $a s, HdS.sg 320 64 $a s), (HdS.sg 384 64 $a s, HdS.sg 448 64 $a s))), (((HdS.sg 512 64 $a s, HdS.sg 576 64 $a s), (HdS.sg 640 64 $a s, HdS.sg 704 64 $a s)), ((HdS.sg 768 64 $a s, HdS.sg 832 64 $a s), (HdS.sg 896 64 $a s, HdS.sl 960 $a s)))))) (← `(fun w => ((((HdS.vg 0 64 $k w, HdS.vg 64 64 $k w), (HdS.vg 128 64 $k w, HdS.vg 192 64 $k w)), ((HdS.vg 256 64 $k w, HdS.vg 320 64 $k w), (HdS.vg 384 64 $k w, HdS.vg 448 64 $k w))), (((HdS.vg 512 64 $k w, HdS.vg 576 64 $k w), (HdS.vg 640 64 $k w, HdS.vg 704 64 $k w)), ((HdS.vg 768 64 $k w, HdS.vg 832 64 $k w), (HdS.vg 896 64 $k w, HdS.vl 960 $k w)))))) (← `((HdS.whole (K := $k) (as := $a) $e)))
      `(tactic| refine $n:term)
    else if nm == `kmHook then
      let l : Lean.Term := ⟨h[1][3]⟩
      let n := put (← `(fun s => (((((HdS.sg 0 64 $a s, HdS.sg 64 64 $a s), (HdS.sg 128 64 $a s, HdS.sg 192 64 $a s)), ((HdS.sg 256 64 $a s, HdS.sg 320 64 $a s), (HdS.sg 384 64 $a s, HdS.sg 448 64 $a s))), (((HdS.sg 512 64 $a s, HdS.sg 576 64 $a s), (HdS.sg 640 64 $a s, HdS.sg 704 64 $a s)), ((HdS.sg 768 64 $a s, HdS.sg 832 64 $a s), (HdS.sg 896 64 $a s, HdS.sl 960 $a s)))), List.map s.heap.get? $l))) (← `(fun w => (((((HdS.vg 0 64 $k w, HdS.vg 64 64 $k w), (HdS.vg 128 64 $k w, HdS.vg 192 64 $k w)), ((HdS.vg 256 64 $k w, HdS.vg 320 64 $k w), (HdS.vg 384 64 $k w, HdS.vg 448 64 $k w))), (((HdS.vg 512 64 $k w, HdS.vg 576 64 $k w), (HdS.vg 640 64 $k w, HdS.vg 704 64 $k w)), ((HdS.vg 768 64 $k w, HdS.vg 832 64 $k w), (HdS.vg 896 64 $k w, HdS.vl 960 $k w)))), List.map (fun _ => some (tabObj #[])) $l))) (← `((HdS.wholeM (K := $k) (as := $a) $e $l)))
      `(tactic| refine $n:term)
    else Lean.Macro.throwUnsupported
open PySem PySem.W PyProof.Rows in
open_top Hd67 for PySem.Challenge.rw_lastshort_k67_consoles_and_reports_refus
end

/-! the draws of the law: jar, sip, from -/
namespace My
open PySem L2
def top (i : Nat) : Stmt := PySem.Challenge.pw_lastshort_k67_consoles_and_reports_refus.main.body.getD i (.Pass ⟨0, 0, 0, 0⟩)
abbrev sJar : Stmt := top 133
abbrev sSip : Stmt := top 134
abbrev sFrom : Stmt := top 135
/-! ### heaps -/
/-- all but what stands at j is as it was -/
def Off (j : Addr) (H H' : Hp) : Prop := ∀ b o, b ≠ j → H b = some o → H' b = some o
theorem Off.refl {j : Addr} {H : Hp} : Off j H H := fun _ _ _ e => e
theorem Off.trans {j : Addr} {H H1 H2 : Hp} (a : Off j H H1) (b : Off j H1 H2) : Off j H H2 := fun c o n e => b c o n (a c o n e)
theorem Off.new {j p : Addr} {H H1 : Hp} {o : HO} (a : Off j H H1) (n : H1 p = none) : Off j H (upd H1 p o) := fun b u nb e => by
  rw [upd_ne (ne_of_none (a b u nb e) n)]
  exact a b u nb e
theorem Off.put {j : Addr} {H H1 : Hp} {o : HO} (a : Off j H H1) : Off j H (upd H1 j o) := fun b u nb e => by
  rw [upd_ne nb]
  exact a b u nb e
theorem Off.seq {K : PySem.W.Frag} {j a : Addr} {H H' : Hp} {xs : List V} (e : Off j H H') (n : a ≠ j) (h : SqL K H a xs) : SqL K H' a xs := by
  rcases h with (h | ⟨o, h⟩) | h
  · exact .inl (.inl (e _ _ n h))
  · exact .inl (.inr ⟨o, e _ _ n h⟩)
  · exact .inr h
theorem Off.set {K : PySem.W.Frag} {j a : Addr} {H H' : Hp} {xs : List V} (e : Off j H H') (n : a ≠ j) (h : SqT K H a xs) : SqT K H' a xs := by
  rcases h with (h | ⟨o, h⟩) | h
  · exact .inl (.inl (e _ _ n h))
  · exact .inl (.inr ⟨o, e _ _ n h⟩)
  · exact .inr h
theorem Off.same {j : Addr} {H0 H H' : Hp} (e : Off j H H') (s : Same H0 H) (n : H0 j = none) : Same H0 H' := fun b o q => e b o (fun z => by rw [z, n] at q; cases q) (s b o q)
theorem same_upd {H : Hp} {p : Addr} {o : HO} (h : H p = none) : Same H (upd H p o) := fun b x e => by
  rw [upd_ne (ne_of_none e h)]
  exact e
theorem Same.off {j : Addr} {H H' : Hp} (s : Same H H') : Off j H H' := fun b o _ e => s b o e
/-- a jar: three whole numbers -/
def Jar (H : Hp) (j : Addr) : Prop := ∃ a b c : Int, H j = some (.lst [.int a, .int b, .int c])
theorem Jar.new {H : Hp} {j p : Addr} {o : HO} (a : Jar H j) (n : H p = none) : Jar (upd H p o) j := by
  obtain ⟨x, y, z, h⟩ := a
  exact ⟨x, y, z, by rw [upd_ne (ne_of_none h n)]; exact h⟩
theorem Jar.same {H H' : Hp} {j : Addr} (a : Jar H j) (s : Same H H') : Jar H' j := by
  obtain ⟨x, y, z, h⟩ := a
  exact ⟨x, y, z, s _ _ h⟩
/-! ### promises -/
def spSip : Sp := fun vs H Q _ => ∃ (j : Addr) (m : Int), vs = [.ref j, .int m] ∧ Jar H j ∧ 0 < m ∧ m < 1073741824 ∧
  ∀ (H' : Hp) (d : Int), 0 ≤ d → d < m → Off j H H' → Jar H' j → Q (.int d) H'
def spFrom (K : PySem.W.Frag) : Sp := fun vs H Q _ => ∃ (j p : Addr) (xs : List V), vs = [.ref j, .ref p] ∧ Jar H j ∧ p ≠ j ∧ SqL K H p xs ∧ 0 < xs.length ∧ xs.length < 1073741824 ∧
  ∀ (H' : Hp) (i : Nat) (x : V), xs[i]? = some x → Off j H H' → Jar H' j → Q x H'
def spJar (K : PySem.W.Frag) : Sp := fun vs H Q _ => ∃ (a : Addr) (ns : List Int) (k : Nat), vs = [.ref a, .int k] ∧ SqL K H a (ns.map V.int) ∧ ns.length ≤ 63 ∧
  ∀ (H' : Hp) (j : Addr), Same H H' → H j = none → Jar H' j → Q (.ref j) H'
/-- the built-ins of the draws are still the built-ins -/
structure TxtJ (mg : Str → Option Value) : Prop where
  len : mg "len" = none
  int : mg "int" = none
  abs : mg "abs" = none
  divmod : mg "divmod" = none
section
variable {P : Program} {w : World} {K : PySem.W.Frag} {mg : Str → Option Value} {base : Heap}
theorem scSip : FnScope ["_law_jar_here", "_law_many", "_law_digit"] ["_law_jar_here", "_law_many"] (defScope sSip) := ⟨rfl, rfl, rfl, by decide +kernel, rfl, by decide +kernel, by decide +kernel⟩
theorem ok_sip {f : Addr} {fd : FuncData} (F : Fun K "_law_sip" "_law_sip" sSip f fd) (T : TxtJ mg) : FnOk P w K mg base CX0 1 f fd ["_law_jar_here", "_law_many"] spSip := by
  refine F.ok scSip (fun vs H Q E h => ?_) (fun cdv A outer s H vs Q E hr h => ?_)
  · obtain ⟨j, m, rfl, _⟩ := h
    rfl
  · obtain ⟨j, m, rfl, ⟨a, b, c, hj⟩, m0, m1, k⟩ := h
    refine ⟨_, pss_cons (ps_asg (pe_op op_add (pe_ix ix_list (pv 0) pe_int (fun _ _ => rfl)) pe_int) (pg_sub (pv 0) pe_int set_list))
      (pss_cons (ps_if (pt_cmpR op_gt (pe_ix ix_list (pv 0) pe_int (fun _ _ => rfl)) pe_int (nomark _))
        (pss_cons (ps_asg (pe_callB call_divmod (by rfl) T.divmod (by decide +kernel) (pa_cons (pe_callTy call_int1 (by rfl) T.int (by decide +kernel) (pa_cons (pe_ix ix_list (pv 0) pe_int (fun _ _ => rfl)) pa_nil)) (pa_cons (pv 1) pa_nil)))
            (pg_tup (by rfl) (pgs_cons (pg_sub (pv 0) pe_int set_list) (pgs_cons (pg_name (i := 2) scSip.nd rfl (.inl rfl)) pgs_nil))))
          (pss_one (ps_ret (pv 2)))) pss_nil)
      (pss_cons (ps_asg (pe_op op_mod (pe_callTy call_int1 (by rfl) T.int (by decide +kernel) (pa_cons (pe_op op_add (pe_op op_add (pe_op op_mul (pe_ix ix_list (pv 0) pe_int (fun _ _ => rfl)) pe_int) (pe_op op_mul (pe_ix ix_list (pv 0) pe_int (fun _ _ => rfl)) pe_int))
            (pe_op op_mul (pe_op op_fdiv (pe_ix ix_list (pv 0) pe_int (fun _ _ => rfl)) pe_int) pe_int)) pa_nil)) pe_int) (pg_sub (pv 0) pe_int set_list))
      (pss_one (ps_ret (pe_op op_mod (pe_callTy call_int1 (by rfl) T.int (by decide +kernel) (pa_cons (pe_op op_fdiv (pe_ix ix_list (pv 0) pe_int (fun _ _ => rfl)) pe_int) pa_nil)) (pv 1)))))), ?_⟩
    -- jar[2] = jar[2] + 1
    refine ⟨_, rfl, j, _, 2, _, rfl, rfl, SqL.of hj, rfl, _, _, rfl, rfl, _, rfl, j, _, 2, 2, rfl, rfl, hj, rfl, ?_⟩
    -- if jar[0] > 0
    refine ⟨_, rfl, j, _, 0, _, rfl, rfl, SqL.of upd_same, rfl, _, _, rfl, rfl, _, rfl, ?_⟩
    have o1 : Off j H (upd H j (.lst [.int a, .int b, .int (c + 1)])) := Off.put Off.refl
    refine ite2 (fun _ => ?_) (fun _ => ?_)
    · refine ⟨_, rfl, j, _, 0, _, rfl, rfl, SqL.of upd_same, rfl, .inl ⟨_, rfl, _, rfl, a, m, rfl, ⟨m0, m1⟩, fun p np => ?_⟩⟩
      have npj : p ≠ j := fun e => by
        rw [e, upd_same] at np
        cases np
      refine ⟨p, _, rfl, SqT.of upd_same, rfl, _, _, rfl, _, rfl, j, _, 0, 0, rfl, rfl, (by rw [upd_ne npj.symm]; exact upd_same), rfl, _, _, rfl, rfl, ?_⟩
      refine ⟨_, rfl, ?_⟩
      exact k _ _ (Int.emod_nonneg _ (by omega)) (Int.emod_lt_of_pos _ m0) (Off.put (Off.new o1 np)) ⟨_, _, _, upd_same⟩
    · refine ⟨_, rfl, j, _, 1, _, rfl, rfl, SqL.of upd_same, rfl, _, _, rfl, rfl, .inr (by decide), ?_⟩
      refine ⟨_, rfl, j, _, 2, _, rfl, rfl, SqL.of upd_same, rfl, _, _, rfl, rfl, .inr (by decide), _, _, rfl, rfl, ?_⟩
      refine ⟨_, rfl, j, _, 1, _, rfl, rfl, SqL.of upd_same, rfl, _, _, rfl, rfl, ⟨by decide, by decide⟩, _, _, rfl, rfl, .inr (by decide), _, _, rfl, rfl, .inl ⟨_, rfl, _, _, rfl, rfl, (by show (0 : Int) < 1999999927; decide), ?_⟩⟩
      refine ⟨_, rfl, j, _, 1, 1, rfl, rfl, upd_same, rfl, ?_⟩
      refine ⟨_, rfl, j, _, 1, _, rfl, rfl, SqL.of upd_same, rfl, _, _, rfl, rfl, ⟨by decide, by decide⟩, .inl ⟨_, rfl, _, rfl, _, _, rfl, rfl, m0, ?_⟩⟩
      exact k _ _ (Int.emod_nonneg _ (by omega)) (Int.emod_lt_of_pos _ m0) (Off.put o1) ⟨_, _, _, upd_same⟩

/-! ### from -/
structure TxtS (K : PySem.W.Frag) (mg : Str → Option Value) (fS : Addr) : Prop where
  g : mg "_law_sip" = some (.ref fS)
  k : PySem.W.keepIn K (.ref fS) = true
theorem scFrom : FnScope ["_law_jar_here", "_law_things"] ["_law_jar_here", "_law_things"] (defScope sFrom) := ⟨rfl, rfl, rfl, by decide +kernel, rfl, by decide +kernel, by decide +kernel⟩
theorem ok_from {f fS : Addr} {fd fdS : FuncData} (F : Fun K "_law_from" "_law_from" sFrom f fd) (T : TxtJ mg) (S : TxtS K mg fS) (FS : Fun K "_law_sip" "_law_sip" sSip fS fdS) (bS : Binds K fdS ["_law_jar_here", "_law_many"] []) :
    FnOk P w K mg base CX0 2 f fd ["_law_jar_here", "_law_things"] (spFrom K) := by
  have GS : FnOk P w K mg base CX0 1 fS fdS ["_law_jar_here", "_law_many"] spSip := ok_sip FS T
  refine F.ok scFrom (fun vs H Q E h => ?_) (fun cdv A outer s H vs Q E hr h => ?_)
  · obtain ⟨j, p, xs, rfl, _⟩ := h
    rfl
  · obtain ⟨j, p, xs, rfl, hJ, npj, hS, l0, l1, k⟩ := h
    refine ⟨_, pss_one (ps_ret (pe_ix ix_list (pv 1) (pe_call GS hr rfl S.g S.k bS .nil pass0 (pa_cons (pv 0) (pa_cons (pe_callB call_len_seq (by rfl) T.len PySem.boot_len (pa_cons (pv 1) pa_nil)) pa_nil))) (fun _ _ => rfl))), ?_⟩
    refine ⟨_, rfl, _, rfl, _, rfl, p, xs, rfl, .inl hS, j, _, rfl, hJ, by omega, by omega, fun H' d d0 d1 o J => ?_⟩
    obtain ⟨n, rfl⟩ := Int.eq_ofNat_of_zero_le d0
    have hn : n < xs.length := by omega
    exact ⟨p, xs, _, xs[n], rfl, rfl, o.seq npj hS, atI_nat (List.getElem?_eq_getElem hn), k H' n _ (List.getElem?_eq_getElem hn) o J⟩
/-! ### jar -/
theorem scJar : FnScope ["_law_script", "_law_k", "_law_own", "_law_mixed", "_law_entry"] ["_law_script", "_law_k"] (defScope sJar) := ⟨rfl, rfl, rfl, by decide +kernel, rfl, by decide +kernel, by decide +kernel⟩
theorem int_of_map {ns : List Int} {i : Nat} {y : V} (h : (ns.map V.int)[i]? = some y) : ∃ u, y = V.int u := by
  rw [List.getElem?_map] at h
  cases e : ns[i]? with
  | none =>
    rw [e] at h
    cases h
  | some u =>
    rw [e] at h
    exact ⟨u, (Option.some.inj h).symm⟩
theorem cut_map (ns : List Int) (lo hi : Option Int) : ∃ ms : List Int, cutV (ns.map V.int) lo hi = ms.map V.int :=
  ⟨(ns.drop (HT.sIx (ns.map V.int).length 0 lo)).take (HT.sIx (ns.map V.int).length (ns.map V.int).length hi - HT.sIx (ns.map V.int).length 0 lo), by
    unfold cutV
    rw [List.map_take, List.map_drop]⟩
theorem ok_jar {f : Addr} {fd : FuncData} (F : Fun K "_law_jar" "_law_jar" sJar f fd) (T : TxtJ mg) : FnOk P w K mg base CX0 1 f fd ["_law_script", "_law_k"] (spJar K) := by
  refine F.ok scJar (fun vs H Q E h => ?_) (fun cdv A outer s H vs Q E hr h => ?_)
  · obtain ⟨a, ns, k, rfl, _⟩ := h
    rfl
  · obtain ⟨a, ns, k, rfl, hS, hl, q⟩ := h
    refine ⟨_, C8.pss_cut (ps_set (i := 2) scJar.nd rfl (.inl rfl) (pe_ifExp (pt_cmpR op_lt (pv 1) (pe_callB call_len_seq (by rfl) T.len PySem.boot_len (pa_cons (pv 0) pa_nil)) (nomark _))
          (pe_callTy call_int1 (by rfl) T.int (by decide +kernel) (pa_cons (pe_ix ix_list (pv 0) (pv 1) (fun _ _ => rfl)) pa_nil)) (pe_op op_add (pe_op op_mul pe_int (pv 1)) pe_int)))
      (pss_cons (ps_set (i := 3) scJar.nd rfl (.inl rfl) (pe_op op_add pe_int (pe_op op_mul pe_int (pv 1))))
      (pss_cons (ps_for PassesOwn.never rfl (pi_list (pe_slice sl_list (pv 0) po_none (po_some pe_int))) (pg_name (i := 4) scJar.nd rfl (.inl rfl))
        (pss_one (ps_set (i := 3) scJar.nd rfl (.inl rfl) (pe_op op_mod (pe_callTy call_int1 (by rfl) T.int (by decide +kernel) (pa_cons (pe_op op_add (pe_op op_mul (pv 3) pe_int) (pe_op op_mod (pe_callTy call_int1 (by rfl) T.int (by decide +kernel) (pa_cons (pv 4) pa_nil)) pe_int)) pa_nil)) pe_int))))
      (pss_one (ps_ret (pe_lst (pa_cons (pe_ifExp (PW.pt (pw_or (pt_cmpR op_lt (pv 2) pe_int (nomark _)) (pw_or1 (pt_cmpR op_ge (pv 2) (pe_op op_pow pe_int pe_int) (nomark _))))) (pe_callB call_abs (by rfl) T.abs (by decide +kernel) (pa_cons (pv 2) pa_nil)) pe_int)
        (pa_cons (pe_op op_mod (pe_callTy call_int1 (by rfl) T.int (by decide +kernel) (pa_cons (pe_op op_add (pe_op op_mul (pv 3) pe_int) (pe_op op_mod (pv 2) pe_int)) pa_nil)) pe_int) (pa_cons pe_int pa_nil)))))))), ?_⟩
    refine ⟨fun σ H' => H = H' ∧ ∃ own : Int, σ = [some (.ref a), some (.int k), some (.int own), none, none], ?_, ?_⟩
    · refine ⟨_, rfl, _, rfl, a, _, rfl, .inl hS, _, _, rfl, rfl, _, rfl, ?_⟩
      refine ite2 (fun c => ?_) (fun c => ?_)
      · have hk : k < ns.length := by
          have c' := of_decide_eq_true c
          rw [List.length_map] at c'
          omega
        exact ⟨_, rfl, _, rfl, a, _, _, .int ns[k], rfl, rfl, hS, atI_nat (by rw [List.getElem?_map, List.getElem?_eq_getElem hk]; rfl), .inl ⟨_, rfl, rfl, _, rfl⟩⟩
      · exact ⟨_, rfl, _, _, rfl, rfl, .inl (by decide), _, _, rfl, rfl, rfl, _, rfl⟩
    · rintro _ _ ⟨rfl, own, rfl⟩
      refine ⟨_, rfl, _, _, rfl, rfl, .inl (by decide), _, _, rfl, rfl, ?_⟩
      refine ⟨_, rfl, 13, rfl, a, _, rfl, hS, fun p np => ?_⟩
      obtain ⟨ms, ems⟩ := cut_map ns none (some 13)
      rw [ems]
      refine ⟨p, rfl, ⟨_, SqL.of upd_same⟩, for_list (K := K) (a := p) (xs := ms.map V.int) (fun i σ H' => ∃ (mx : Int) (v : Option V), σ = [some (.ref a), some (.int k), some (.int own), some (.int mx), v] ∧ H' = upd H p (.lst (ms.map V.int)))
        ⟨_, none, rfl, rfl⟩ (fun i σ H' _ ⟨_, _, _, e⟩ => by rw [e]; exact SqL.of upd_same) ?_ ?_⟩
      · rintro i y σ H' hi ⟨mx, v, rfl, rfl⟩
        obtain ⟨u, rfl⟩ := int_of_map hi
        refine ⟨_, rfl, _, _, rfl, rfl, .inr (by decide), ?_⟩
        refine ⟨_, rfl, .inl ⟨_, rfl, _, _, rfl, rfl, (by show (0 : Int) < 1999999927; decide), _, _, rfl, rfl, .inl ⟨_, rfl, _, _, rfl, rfl, (by show (0 : Int) < 1999999927; decide), ?_⟩⟩⟩
        exact ⟨_, _, rfl, rfl⟩
      · rintro σ H' ⟨mx, v, rfl, rfl⟩
        have fin : ∀ (x : Int), tCons (tOp (rI (fun x j => 0 < j) fun i j => V.int (i % j)) (tCB (fun xs H Q => (∃ i, xs = [V.int i] ∧ Q (V.int i) H) ∨ ∃ k, xs = [V.bl k] ∧ Q (V.int (if k = true then 1 else 0)) H)
            (tCons (tOp (rI0 fun i j => V.int (i + j)) (tOp (rI CMul fun i j => V.int (i * j)) (tVar 3) (tC (V.int 5))) (tOp (rI (fun x j => 0 < j) fun i j => V.int (i % j)) (tVar 2) (tC (V.int 1999999927)))) tNil)) (tC (V.int 1999999927)))
          (tCons (tC (V.int 0)) tNil) [some (.ref a), some (.int k), some (.int own), some (.int mx), v] (upd H p (.lst (ms.map V.int))) (fun xs H1 => (V.int x :: xs).length ≤ sizeLine ∧ ∀ p, H1 p = none → Q (.ref p) (upd H1 p (.lst (V.int x :: xs)))) := by
          intro x
          refine ⟨_, rfl, _, _, rfl, rfl, .inr (by decide), _, rfl, _, _, rfl, rfl, (by show (0 : Int) < 1999999927; decide), _, _, rfl, rfl, .inl ⟨_, rfl, _, _, rfl, rfl, (by show (0 : Int) < 1999999927; decide), ?_⟩⟩
          refine ⟨(by show 3 ≤ sizeLine; decide), fun jj nj => ?_⟩
          exact q _ jj (Same.trans (same_upd np) (same_upd nj)) ((same_upd np).free nj) ⟨_, _, _, upd_same⟩
        refine ⟨_, rfl, _, _, rfl, rfl, _, rfl, ?_⟩
        refine ite2 (fun _ => ?_) (fun _ => ?_)
        · refine iteT ?_
          exact ⟨_, rfl, _, rfl, fin _⟩
        · refine ⟨_, rfl, _, _, rfl, rfl, ⟨by decide, by decide, by decide⟩, _, _, rfl, rfl, _, rfl, ?_⟩
          refine ite2 (fun _ => ?_) (fun _ => ?_)
          · exact ⟨_, rfl, _, rfl, fin _⟩
          · exact fin _
end
end My

/-! what every proof about a program of several defs wants -/
namespace Cm
open PySem PySem.Spec PyProof.Rows L2
/-- a def of the module -/
structure Df (K : PySem.W.Frag) (mg : Str → Option Value) (x : Str) (st : Stmt) (ps : List Str) where
  f : Addr
  fd : FuncData
  F : Fun K x x st f fd
  b : Binds K fd ps []
  g : mg x = some (.ref f)
  k : PySem.W.keepIn K (.ref f) = true
/-- a method of the class at C -/
structure Mt (K : PySem.W.Frag) (C : Addr) (x q : Str) (st : Stmt) (ps : List Str) where
  f : Addr
  fd : FuncData
  F : Fun K x q st f fd
  b : Binds K fd ps []
  m : Meth K C x f
theorem dI (a b : Int) : decide (V.int a = V.int b) = decide (a = b) := decide_eq_decide.mpr ⟨fun z => by cases z; rfl, fun z => by rw [z]⟩
theorem dS (a b : Str) : decide (V.str a = V.str b) = decide (a = b) := decide_eq_decide.mpr ⟨fun z => by cases z; rfl, fun z => by rw [z]⟩
theorem dB (a b : Bool) : decide (V.bl a = V.bl b) = decide (a = b) := decide_eq_decide.mpr ⟨fun z => by cases z; rfl, fun z => by rw [z]⟩
theorem putF_len (f : Str) (v : V) : ∀ fs : List (Str × V), (putF f v fs).length ≤ fs.length + 1
  | [] => Nat.le_refl _
  | (g, x) :: r => by
    unfold putF
    by_cases h : g = f
    · rw [if_pos h]
      exact Nat.le_succ _
    · rw [if_neg h]
      exact Nat.succ_le_succ (putF_len f v r)
theorem szl {n : Nat} (h : n ≤ 1000) : n ≤ sizeLine := Nat.le_of_lt (small1000 h)
theorem szM {n : Nat} (h : n ≤ 1000000) : n < sizeLine := Nat.lt_of_le_of_lt h (by decide)
theorem Same.set {K : PySem.W.Frag} {H H' : Hp} {a : Addr} {xs : List V} (e : Same H H') (h : SqT K H a xs) : SqT K H' a xs := by
  rcases h with (h | ⟨o, h⟩) | h
  · exact .inl (.inl (e _ _ h))
  · exact .inl (.inr ⟨o, e _ _ h⟩)
  · exact .inr h
theorem same_new {H : Hp} {p : Addr} {o : HO} (h : H p = none) : Same H (upd H p o) := fun b x e => by
  rw [upd_ne (ne_of_none e h)]
  exact e
theorem pass_none {P : Program} {w : World} {X : Cx} : Passes (L2.CX P w) X (fun _ _ _ => False) := fun pins σ H s e s2 I h => by
  obtain ⟨_, _, _, _, _, _, _, _, _, _, _, _, h⟩ := h
  exact h.elim
/-! ### len and truth of an instance with an own __len__ -/
section
variable {X : Cx} {C g : Addr} {n : Nat} {sp : Sp}
theorem inst_of {pins : List (Addr × Obj)} {σ : L2.St} {H : Hp} {s : Shared} {a dx : Addr} {fs : List (Str × V)} (I : Inv X pins σ H s) (e : H a = some (.ins C dx fs)) : ∃ (ox : Obj) (od : Option Obj), PySem.W.InstAt s.heap a ox C od := by
  obtain ⟨mA, O, _⟩ := ins_get I.hok e
  obtain ⟨od, J, _⟩ := O.look
  exact ⟨_, _, J⟩
def rLenO (C : Addr) (sp : Sp) : List V → Hp → VK → Prop := fun xs H Q => ∃ (a dx : Addr) (fs : List (Str × V)), xs = [.ref a] ∧ H a = some (.ins C dx fs) ∧ sp [.ref a] H (fun v H2 => ∃ k : Nat, v = .int k ∧ k ≤ 1000000 ∧ Q (.int k) H2) fun _ _ _ => False
theorem call_lenO (hs : PySem.W.findIn X.K (.ref C) "__len__" = some (some (.ref g))) (hf : PySem.W.isFn X.K (.ref g) = true) (F : FnR X.prog X.w X.K X.mg X.base CX0 n g sp) (hr : Room (n + 1) X.A) : CallR X (.builtin "len") (rLenO C sp) := by
  intro pins s σ H xs us Q I r h
  obtain ⟨a, dx, fs, rfl, ha, q⟩ := h
  obtain ⟨u, rfl, ru⟩ := vals1 r
  cases (show u = Value.ref a from ru)
  obtain ⟨ox, od, J⟩ := inst_of I ha
  obtain ⟨m, fr⟩ := I.fr
  refine PySem.W.len_K fr I.ok.mod.kin J hs hf ?_
  refine wpAny_mono (wpAny_call (SlX.run_at (us := [.ref a]) (ws := [.ref a]) F hr.in1 I.env0.in1 pass0 I (.cons rfl .nil) q)) (fun z s2 hz => ?_) fun _ _ e => e
  obtain ⟨z2, H2, I2, rz, k, rfl, hk, qz⟩ := hz
  obtain ⟨tk, rfl⟩ := (show ∃ tk, z = Value.int k tk from rz)
  exact ⟨⟨by omega, by omega⟩, .int k, H2, I2.tok _, ⟨_, rfl⟩, qz⟩
end
/-! ### bool of an instance with an own __len__ -/
section
variable {prog : Program} {w : World} {A : Around} {E : Value → Shared → Prop} {s : Shared} {K : PySem.W.Frag} {x C f : Addr} {ox : Obj} {od : Option Obj}
theorem len_bodyK {Q : Value → Shared → Prop} (X : K.In s.heap) (I : PySem.W.InstAt s.heap x ox C od) (hs : PySem.W.findIn K (.ref C) "__len__" = some (some (.ref f))) (hf : PySem.W.isFn K (.ref f) = true)
    (h : wpAny (model prog w) A (call (.ref f) [.ref x]) (PySem.W.LenBack Q) E s) : wpAny (model prog w) A (Builtin.«len» ⟨[.ref x], []⟩) (fun fin s' => ∃ r, fin = .done (.ret r) ∧ Q r s') E s := by
  unfold Builtin.«len»
  refine wpAny_bind (m := oneArg "len" _) (wpAny_pure ?_)
  refine wpAny_bind (m := callSpecial? (.ref x) (Str.ofString "__len__")) (PySem.W.special_fn X I hs (beq_iff_eq.mp hf) (wpAny_mono h (fun r s' hr => ?_) fun _ _ y => y))
  cases r <;> first | exact hr.elim | skip
  rename_i n u
  obtain ⟨⟨h0, h1⟩, hq⟩ := hr
  refine wpAny_bind (wpAny_holding (wpAny_pure ?_))
  refine wpAny_bind (wpAny_letGo ?_)
  show wpAny _ _ (if n < 0 then _ else _) _ _ _
  rw [if_neg (by omega)]
  show wpAny _ _ (if n ≥ 2 ^ 63 then _ else _) _ _ _
  rw [if_neg (by omega)]
  exact wpAny_bind (wpAny_mkInt (wpAny_pure ⟨_, rfl, hq⟩))
theorem truthy_KL {Q : Bool → Shared → Prop} (X : K.In s.heap) (I : PySem.W.InstAt s.heap x ox C od) (hb : PySem.W.findIn K (.ref C) "__bool__" = some none) (hl : PySem.W.findIn K (.ref C) "__len__" = some (some (.ref f))) (hf : PySem.W.isFn K (.ref f) = true)
    (h : wpAny (model prog w) A.in1 (call (.ref f) [.ref x]) (PySem.W.LenBack fun v s' => ∃ n t, v = .int n t ∧ Q (n != 0) s') E s) : wpAny (model prog w) A (truthy (.ref x)) Q E s := by
  have key : wpAny (model prog w) A (runValue (.builtin "len" ⟨[.ref x], []⟩)) (fun r s' => ∃ n t, r = .int n t ∧ Q (n != 0) s') E s := by
    refine wpAny_runValue (codeAny_builtin entry_len ?_)
    rw [Around.under_plainId plain_len _]
    exact wpAny_mono (len_bodyK X I hl hf h) (fun fin s' h' => by obtain ⟨r, rfl, hq⟩ := h'; exact hq) fun _ _ e => e
  unfold truthy
  refine wpAny_bind (m := callSpecial? (.ref x) (Str.ofString "__bool__")) (wpAny_bind (wpAny_bind (I.type.here ((PySem.W.looks_findIn X hb).here (wpAny_pure ?_)))))
  refine wpAny_bind (wpAny_bind (I.type.here ((PySem.W.looks_findIn X hl).here ?_)))
  exact wpAny_bind (wpAny_mono key (fun r s' h' => by obtain ⟨n, t, rfl, hq⟩ := h'; exact wpAny_pure hq) fun _ _ e => e)
theorem bool_KL {Q : Value → Shared → Prop} (X : K.In s.heap) (I : PySem.W.InstAt s.heap x ox C od) (hb : PySem.W.findIn K (.ref C) "__bool__" = some none) (hl : PySem.W.findIn K (.ref C) "__len__" = some (some (.ref f))) (hf : PySem.W.isFn K (.ref f) = true)
    (h : wpAny (model prog w) A.in1.in1.in1 (call (.ref f) [.ref x]) (PySem.W.LenBack fun v s' => ∃ n t, v = .int n t ∧ Q (.bool (n != 0)) s') E s) : wpAny (model prog w) A (call (.type "bool") [.ref x]) Q E s := by
  refine callType_codes (T := "bool") (Bi := Builtin.«object.__init__») (Q₁ := fun r s₁ => ∃ b, r = .bool b ∧ Q r s₁) PySem.F.called_bool (PySem.F.typeCall_bool_1 _) PySem.F.entry_object_init ?_ ?_
  · refine codeAny_of_tree ?_
    show wpAny _ A.in1.in1 (do checkBuiltinCall "bool.__new__" ⟨[.type "bool", .ref x], []⟩; again (.builtin "bool.__new__" ⟨[.type "bool", .ref x], []⟩)) _ _ s
    refine wpAny_bind (wpAny_of_eq (PySem.F.newCall_bool_1 _) (wpAny_pure ⟨plainId_quiet (by decide +kernel) _, codeAny_builtin PySem.F.entry_bool_new ?_⟩))
    rw [Around.under_plainId (by decide +kernel) _]
    have f1 := PySem.F.conv_sub_bool
    have key : wpAny (model prog w) A.in1.in1 (truthy (.ref x)) (fun b s1 => Q (.bool b) s1) E s := truthy_KL X I hb hl hf (wpAny_mono h (fun v s1 hv => by
      cases v <;> first | exact hv.elim | skip
      obtain ⟨h01, n, t, e, hq⟩ := hv
      cases e
      exact ⟨h01, _, _, rfl, hq⟩) fun _ _ z => z)
    unfold Builtin.«bool.__new__»
    show wpAny _ _ (isType (.type "bool") >>= _) _ _ s
    refine wpAny_bind (wpAny_pure ?_)
    refine wpAny_bind (wpAny_of_eq f1 ?_)
    refine wpAny_bind (wpAny_pure ?_)
    exact wpAny_bind (wpAny_mono key (fun b s1 hb1 => wpAny_pure ⟨_, rfl, hb1⟩) fun _ _ z => z)
  · rintro obj s₁ ⟨b, rfl, hq⟩
    exact ⟨rfl, PySem.F.args_object_init_2 _ _, object_init_meets PySem.F.called_bool.init.lookup PySem.F.called_bool.made (by decide) prog w A.in1 _ s₁ ⟨rfl, rfl, hq⟩⟩
end
section
variable {X : Cx} {C g : Addr} {n : Nat} {sp : Sp}
def rBoolL (C : Addr) (sp : Sp) : List V → Hp → VK → Prop := fun xs H Q => ∃ (a dx : Addr) (fs : List (Str × V)), xs = [.ref a] ∧ H a = some (.ins C dx fs) ∧ sp [.ref a] H (fun v H2 => ∃ k : Nat, v = .int k ∧ k ≤ 1000000 ∧ Q (.bl ((k : Int) != 0)) H2) fun _ _ _ => False
theorem call_boolLO (hb : PySem.W.findIn X.K (.ref C) "__bool__" = some none) (hs : PySem.W.findIn X.K (.ref C) "__len__" = some (some (.ref g))) (hf : PySem.W.isFn X.K (.ref g) = true) (F : FnR X.prog X.w X.K X.mg X.base CX0 n g sp) (hr : Room (n + 3) X.A) : CallR X (.type "bool") (rBoolL C sp) := by
  intro pins s σ H xs us Q I r h
  obtain ⟨a, dx, fs, rfl, ha, q⟩ := h
  obtain ⟨u, rfl, ru⟩ := vals1 r
  cases (show u = Value.ref a from ru)
  obtain ⟨ox, od, J⟩ := inst_of I ha
  have hr2 : Room (n + 2) X.A.in1 := hr.in1
  have hr1 : Room (n + 1) X.A.in1.in1 := hr2.in1
  refine bool_KL I.kIn J hb hs hf ?_
  refine wpAny_mono (wpAny_call (SlX.run_at (us := [.ref a]) (ws := [.ref a]) F hr1.in1 I.env0.in1.in1.in1 pass0 I (.cons rfl .nil) q)) (fun z s2 hz => ?_) fun _ _ e => e
  obtain ⟨z2, H2, I2, rz, k, rfl, hk, qz⟩ := hz
  obtain ⟨tk, rfl⟩ := (show ∃ tk, z = Value.int k tk from rz)
  exact ⟨⟨by omega, by omega⟩, _, _, rfl, .bl _, H2, I2.tok _, rfl, qz⟩
end
/-! ### tuples cut and put together -/
theorem cut_to (xs : List V) (k : Nat) (h : k ≤ xs.length) : cutV xs none (some (k : Int)) = xs.take k := by
  unfold cutV
  rw [HT.sIx_none, HT.sIx_nat, Nat.min_eq_left h]
  rfl
theorem cut_from (xs : List V) (k : Nat) : cutV xs (some (k : Int)) none = xs.drop k := by
  unfold cutV
  rw [HT.sIx_none, HT.sIx_nat]
  by_cases h : k ≤ xs.length
  · rw [Nat.min_eq_left h]
    exact List.take_of_length_le (by rw [List.length_drop]; omega)
  · rw [Nat.min_eq_right (by omega), List.drop_length, List.drop_eq_nil_of_le (by omega)]
    simp
section
variable {X : Cx}
def rSlS (K : PySem.W.Frag) : V → Option Int → Option Int → Hp → VK → Prop := fun x lo hi H Q => ∃ a xs, x = .ref a ∧ SqT K H a xs ∧ ∀ (H' : Hp) (q : Addr), Same H H' → SqT K H' q (cutV xs lo hi) → Q (.ref q) H'
theorem sl_tupS : SlR X (rSlS X.K) := by
  intro pins s σ H x v vl vu lo hi sl Q I rx hs pl pu h
  obtain ⟨a, xs, rfl, hx, q⟩ := h
  refine sl_tupA pins s σ H _ v vl vu lo hi sl Q I rx hs pl pu ⟨a, xs, rfl, hx, fun z => ?_, fun _ p np => q _ p (same_new np) (SqT.of upd_same)⟩
  refine q H a (Same.refl _) ?_
  have e : cutV xs lo hi = xs := by
    unfold cutV
    rw [z.1, z.2]
    simp
  rw [e]
  exact hx
def rCatS (K : PySem.W.Frag) : R2 := fun x y H Q => ∃ a b xs ys, x = .ref a ∧ y = .ref b ∧ SqT K H a xs ∧ SqT K H b ys ∧ xs.length + ys.length ≤ sizeLine ∧ ∀ (H' : Hp) (q : Addr), Same H H' → SqT K H' q (xs ++ ys) → Q (.ref q) H'
theorem op_catS : OpR X (binaryOp .Add) (rCatS X.K) := by
  intro pins s σ H x y v u Q I rx ry h
  obtain ⟨a, b, xs, ys, rfl, rfl, ha, hb, hz, q⟩ := h
  refine op_catA pins s σ H _ _ v u Q I rx ry ⟨a, b, xs, ys, rfl, rfl, ha, hb, hz, fun z => ?_, fun _ z => ?_, fun _ _ p np => q _ p (same_new np) (SqT.of upd_same)⟩
  · refine q H b (Same.refl _) ?_
    rw [z]
    exact hb
  · refine q H a (Same.refl _) ?_
    rw [z, List.append_nil]
    exact ha
end
/-! ### a reading may be asked for more -/
section
variable {X : Cx} {e : Expr} {es : List Expr} {st : Stmt} {sts : List Stmt}
theorem pe_imp {t t' : TE} (h : PE X e t) (k : ∀ σ H Q, t' σ H Q → t σ H Q) : PE X e t' := ⟨fun pins s σ H Q I q => h.run pins s σ H Q I (k σ H Q q)⟩
theorem pa_imp {t t' : TA} (h : PA X es t) (k : ∀ σ H Q, t' σ H Q → t σ H Q) : PA X es t' := ⟨fun pos pins s σ H Q I q => h.run pos pins s σ H Q I (k σ H Q q)⟩
theorem pt_imp {t t' : TT} (h : PT X e t) (k : ∀ σ H Q, t' σ H Q → t σ H Q) : PT X e t' := ⟨fun pins s σ H Q I q => h.run pins s σ H Q I (k σ H Q q)⟩
theorem ps_imp {t t' : TS} (h : PS X st t) (k : ∀ D σ H, t' D σ H → t D σ H) : PS X st t' := ⟨fun pins s σ H D I q => h.run pins s σ H D I (k D σ H q)⟩
theorem pss_imp {t t' : TS} (h : PSs X sts t) (k : ∀ D σ H, t' D σ H → t D σ H) : PSs X sts t' := ⟨fun pins s σ H D I q => h.run pins s σ H D I (k D σ H q)⟩
end
theorem hu64 {A : Around} {k : Nat} (hr : Room k A) : A.units + 64 < cLine := by
  have := hr.un
  omega
/-! ### the same, for tuples that are tracked -/
section
variable {X : Cx}
def rSlH : V → Option Int → Option Int → Hp → VK → Prop := fun x lo hi H Q => ∃ a xs, x = .ref a ∧ H a = some (.tup xs) ∧ ∀ (H' : Hp) (q : Addr), Same H H' → H' q = some (.tup (cutV xs lo hi)) → Q (.ref q) H'
theorem sl_tupH : SlR X rSlH := by
  intro pins s σ H x v vl vu lo hi sl Q I rx hs pl pu h
  obtain ⟨a, xs, rfl, hx, q⟩ := h
  refine sl_tupA pins s σ H _ v vl vu lo hi sl Q I rx hs pl pu ⟨a, xs, rfl, SqT.of hx, fun z => ?_, fun _ p np => q _ p (same_new np) upd_same⟩
  refine q H a (Same.refl _) ?_
  have e : cutV xs lo hi = xs := by
    unfold cutV
    rw [z.1, z.2]
    simp
  rw [e]
  exact hx
def rCatH : R2 := fun x y H Q => ∃ a b xs ys, x = .ref a ∧ y = .ref b ∧ H a = some (.tup xs) ∧ H b = some (.tup ys) ∧ xs.length + ys.length ≤ sizeLine ∧ ∀ (H' : Hp) (q : Addr), Same H H' → H' q = some (.tup (xs ++ ys)) → Q (.ref q) H'
theorem op_catH : OpR X (binaryOp .Add) rCatH := by
  intro pins s σ H x y v u Q I rx ry h
  obtain ⟨a, b, xs, ys, rfl, rfl, ha, hb, hz, q⟩ := h
  refine op_catA pins s σ H _ _ v u Q I rx ry ⟨a, b, xs, ys, rfl, rfl, SqT.of ha, SqT.of hb, hz, fun z => ?_, fun _ z => ?_, fun _ _ p np => q _ p (same_new np) upd_same⟩
  · refine q H b (Same.refl _) ?_
    rw [z]
    exact hb
  · refine q H a (Same.refl _) ?_
    rw [z, List.append_nil]
    exact ha
end
theorem cut_mid (xs : List V) (a b : Nat) (h1 : a ≤ b) (h2 : b ≤ xs.length) : cutV xs (some (a : Int)) (some (b : Int)) = (xs.drop a).take (b - a) := by
  unfold cutV
  rw [HT.sIx_nat, HT.sIx_nat, Nat.min_eq_left h2, Nat.min_eq_left (by omega)]
end Cm

/-! texts of loops: what their words are, and when they are right -/
namespace LM
open PySem L2 TL
def tests : List Str := ["empty", "some", "short", "full", "told", "open", "rest", "bare"]
def rsteps : List Str := ["add", "hand", "cut", "flush", "stop", "again"]
def esteps : List Str := ["hand", "cut", "flush"]
def wordsR (t : Str) : List Str := Txt.split (Txt.partition t " | ").1 " "
def wordsE (t : Str) : List Str := if (Txt.partition t " | ").2.1.length != 0 then Txt.split (Txt.partition t " | ").2.2 " " else []
def orderOf (w : Str) : Str × Str := if (Txt.partition w ":").2.1.length != 0 then ((Txt.partition w ":").1, (Txt.partition w ":").2.2) else ("", w)
def isWord (w : Str) (ss : List Str) : Bool := if (Txt.partition w ":").2.1.length != 0 then decide ((Txt.partition w ":").1 ∈ tests) && decide ((Txt.partition w ":").2.2 ∈ ss) else decide (w ∈ ss)
def areWords (ws ss : List Str) : Bool := ws.all fun w => isWord w ss
def isAdd (w : Str) : Bool := decide ((orderOf w).2 = "add")
def isRound (ws : List Str) : Bool := decide (ws.head? = some "ask") && (decide (ws.length ≤ 12) && (decide ((ws.filter isAdd).length ≤ 1) && areWords ws.tail rsteps))
def isEnding (ws : List Str) : Bool := decide (ws.length ≤ 6) && areWords ws esteps
def goodText (t : Str) : Bool := isRound (wordsR t) && isEnding (wordsE t)
def svs (ws : List Str) : List V := ws.map V.str
theorem svs_flat : ∀ ws : List Str, (svs ws).all flatV = true
  | [] => rfl
  | _ :: r => svs_flat r
theorem inV_svs (w : Str) : ∀ ws : List Str, inV (.str w) (svs ws) = decide (w ∈ ws)
  | [] => by simp [inV, svs]
  | x :: r => by
    have ih := inV_svs w r
    show (eqV (.str x) (.str w) || inV (.str w) (svs r)) = _
    rw [ih]
    show ((x == w) || decide (w ∈ r)) = _
    by_cases h : x = w
    · subst h
      simp
    · have h2 : (x == w) = false := by
        cases hh : (x == w) with
        | false => rfl
        | true => exact absurd (eq_of_beq hh) h
      rw [h2, Bool.false_or]
      refine decide_eq_decide.mpr ⟨fun z => List.mem_cons_of_mem _ z, fun z => ?_⟩
      rcases List.mem_cons.mp z with z | z
      · exact absurd z.symm h
      · exact z
theorem split_ne (x y : Str) : Txt.split x y ≠ [] := by
  unfold Txt.split
  split
  · simp
  · split
    · simp
    · rw [PySem.StrLaws.partsBetween_eq]
      cases Builtin.Str.occurrences x y 0 x.length (x.length + 1) <;> simp [PySem.StrLaws.partsFrom]
/-! ### drawn words -/
/-- a step of these, or a test before it -/
def Wd (ss : List Str) (w : Str) : Prop := ∃ s ∈ ss, w = s ∨ ∃ t ∈ tests, w = t ++ (":" : Str) ++ s
def allWd (ss : List Str) : List Str := ss ++ (tests.map fun t : Str => ss.map fun s : Str => t ++ (":" : Str) ++ s).flatten
theorem Wd.mem {ss : List Str} {w : Str} (h : Wd ss w) : w ∈ allWd ss := by
  obtain ⟨s, hs, rfl | ⟨t, ht, rfl⟩⟩ := h
  · exact List.mem_append.mpr (.inl hs)
  · exact List.mem_append.mpr (.inr (List.mem_flatten.mpr ⟨_, List.mem_map.mpr ⟨t, ht, rfl⟩, List.mem_map.mpr ⟨s, hs, rfl⟩⟩))
theorem Wd.mono {ss zs : List Str} {w : Str} (f : ∀ s ∈ ss, s ∈ zs) (h : Wd ss w) : Wd zs w := let ⟨s, hs, q⟩ := h; ⟨s, f s hs, q⟩
/-- what is known of a word -/
def wdOk (w : Str) : Bool := isWord w rsteps && (decide (32 ∉ tl w) && (decide (124 ∉ tl w) && decide (w.length ≤ 11)))
theorem wd_ok : ∀ w ∈ allWd rsteps, wdOk w = true := by decide +kernel
theorem wd_end : ∀ w ∈ allWd esteps, isWord w esteps = true := by decide +kernel
theorem wd_noadd : ∀ w ∈ allWd ["hand", "cut", "flush", "stop", "again"], isAdd w = false := by decide +kernel
/-! ### lines -/
def line (B E : List Str) : Str := if E = [] then Txt.join " " B else Txt.join " " (B ++ [("|" : Str)] ++ E)
def textOf (B E : List Str) : Str := if E = [] then Txt.join " " B else Txt.join " " B ++ " | " ++ Txt.join " " E
/-- no space and no bar is in it -/
def Fre (w : Str) : Prop := 32 ∉ tl w ∧ 124 ∉ tl w
theorem tlSp : tl (" " : Str) = [32] := by decide +kernel
theorem tlBar : tl (" | " : Str) = [32, 124, 32] := by decide +kernel
theorem tlB1 : tl ("|" : Str) = [124] := by decide +kernel
theorem joinL_app (S : List Nat) : ∀ (a b : List (List Nat)), a ≠ [] → b ≠ [] → joinL S (a ++ b) = joinL S a ++ (S ++ joinL S b)
  | [], _, h, _ => absurd rfl h
  | [p], b, _, hb => by
    cases b with
    | nil => exact absurd rfl hb
    | cons q r => rfl
  | p :: q :: r, b, _, hb => by
    show p ++ (S ++ joinL S (q :: r ++ b)) = p ++ (S ++ joinL S (q :: r)) ++ (S ++ joinL S b)
    rw [joinL_app S (q :: r) b (by simp) hb]
    simp [List.append_assoc]
theorem joinL_mem {S : List Nat} {c : Nat} : ∀ {a : List (List Nat)}, c ∈ joinL S a → c ∈ S ∨ ∃ p ∈ a, c ∈ p
  | [], h => nomatch h
  | [p], h => .inr ⟨p, List.mem_singleton.mpr rfl, h⟩
  | p :: q :: r, h => by
    rcases List.mem_append.mp (show c ∈ p ++ (S ++ joinL S (q :: r)) from h) with h | h
    · exact .inr ⟨p, List.mem_cons_self .., h⟩
    · rcases List.mem_append.mp h with h | h
      · exact .inl h
      · rcases joinL_mem h with h | ⟨z, hz, hc⟩
        · exact .inl h
        · exact .inr ⟨z, List.mem_cons_of_mem _ hz, hc⟩
theorem tl_joinSp (B : List Str) : tl (Txt.join " " B) = joinL [32] (B.map tl) := by rw [join_eq, tl_join, tlSp]
theorem nobar {B : List Str} (h : ∀ w ∈ B, Fre w) : 124 ∉ tl (Txt.join " " B) := by
  rw [tl_joinSp]
  intro hm
  rcases joinL_mem hm with hm | ⟨p, hp, hc⟩
  · exact absurd hm (by decide)
  · obtain ⟨w, hw, rfl⟩ := List.mem_map.mp hp
    exact (h w hw).2 hc
theorem line_text {B E : List Str} (hB : B ≠ []) : line B E = textOf B E := by
  unfold line textOf
  by_cases hE : E = []
  · rw [if_pos hE, if_pos hE]
  · rw [if_neg hE, if_neg hE]
    refine ext_tl ?_
    rw [tl_append, tl_append, tl_joinSp, tl_joinSp, tl_joinSp, tlBar, List.map_append, List.map_append, joinL_app _ _ _ (by simp) (by simpa using hE), joinL_app _ _ _ (by simpa using hB) (by simp)]
    simp [joinL, tlB1]
theorem pre_bar {l : List Nat} (h : pre [32, 124, 32] l = true) : ∃ r, l = 32 :: 124 :: 32 :: r := by
  have e : l.take 3 = [32, 124, 32] := eq_of_beq h
  match l, e with
  | a :: b :: c :: r, e =>
    simp at e
    obtain ⟨rfl, rfl, rfl⟩ := e
    exact ⟨r, rfl⟩
theorem no_bar {p q : List Nat} (h : 124 ∉ p) (hq : q = [] ∨ ∃ r, q = 32 :: r) : ∀ i, i < p.length → pre [32, 124, 32] ((p ++ q).drop i) = false := by
  intro i hi
  cases hp : pre [32, 124, 32] ((p ++ q).drop i) with
  | false => rfl
  | true =>
    obtain ⟨r, e⟩ := pre_bar hp
    have e1 : (p ++ q)[i + 1]? = some 124 := by
      have : ((p ++ q).drop i)[1]? = some 124 := by rw [e]; rfl
      rw [List.getElem?_drop] at this
      exact this
    by_cases h1 : i + 1 < p.length
    · rw [List.getElem?_append_left h1] at e1
      exact absurd (List.mem_of_getElem? e1) h
    · rw [List.getElem?_append_right (by omega)] at e1
      rcases hq with rfl | ⟨r, rfl⟩
      · simp at e1
      · have : i + 1 - p.length = 0 := by omega
        rw [this] at e1
        simp at e1
theorem part_no {x : Str} (h : 124 ∉ tl x) : Txt.partition x " | " = (x, Str.empty, Str.empty) := by
  rw [partition_par _ _ (by rw [tlBar]; simp), tlBar, par_none]
  intro i hi
  have := no_bar (q := []) h (.inl rfl) i hi
  rwa [List.append_nil] at this
theorem part_yes {x y : Str} (h : 124 ∉ tl x) : Txt.partition (x ++ " | " ++ y) " | " = (x, (" | " : Str), y) := by
  rw [partition_par _ _ (by rw [tlBar]; simp), tl_append, tl_append, List.append_assoc, tlBar, par_part (by simp) (no_bar h (.inr ⟨_, rfl⟩))]
  show ((⟨([] ++ tl x).toArray⟩ : Str), _, (⟨(tl y).toArray⟩ : Str)) = _
  rw [List.nil_append, mk_tl, mk_tl]
theorem split_words {B : List Str} (hB : B ≠ []) (h : ∀ w ∈ B, Fre w) : Txt.split (Txt.join " " B) " " = B :=
  split_join (s := 32) (S := []) tlSp (by decide +kernel) hB fun p hp => (h p hp).1
theorem words_text {B E : List Str} (hB : B ≠ []) (h1 : ∀ w ∈ B, Fre w) (h2 : ∀ w ∈ E, Fre w) : wordsR (textOf B E) = B ∧ wordsE (textOf B E) = E := by
  unfold wordsR wordsE textOf
  by_cases hE : E = []
  · rw [if_pos hE, part_no (nobar h1)]
    refine ⟨split_words hB h1, ?_⟩
    rw [hE]
    rfl
  · rw [if_neg hE, part_yes (nobar h1)]
    refine ⟨split_words hB h1, ?_⟩
    exact (if_pos (show ((" | " : Str).length != 0) = true by decide +kernel)).trans (split_words hE h2)
theorem words_line {B E : List Str} (hB : B ≠ []) (h1 : ∀ w ∈ B, Fre w) (h2 : ∀ w ∈ E, Fre w) : wordsR (line B E) = B ∧ wordsE (line B E) = E := by
  rw [line_text hB]
  exact words_text hB h1 h2
/-! ### lengths -/
theorem sum_le {n : Nat} : ∀ {B : List Str}, (∀ w ∈ B, w.length ≤ n) → (B.map (·.length)).sum ≤ n * B.length
  | [], _ => Nat.zero_le _
  | w :: r, h => by
    have a := h w (List.mem_cons_self ..)
    have b := sum_le (B := r) fun z hz => h z (List.mem_cons_of_mem _ hz)
    rw [List.map_cons, List.sum_cons, List.length_cons, Nat.mul_succ]
    omega
theorem join_len : ∀ B : List Str, (Txt.join " " B).length ≤ (B.map (·.length)).sum + B.length := by
  intro B
  rw [len_tl, tl_joinSp]
  induction B with
  | nil => simp [joinL]
  | cons w r ih =>
    cases r with
    | nil =>
      show (tl w).length ≤ _
      rw [← len_tl]
      simp
    | cons x r =>
      show (tl w ++ ([32] ++ joinL [32] ((x :: r).map tl))).length ≤ _
      rw [List.length_append, List.length_append, ← len_tl]
      simp only [List.map_cons, List.sum_cons, List.length_cons, List.length_nil] at ih ⊢
      omega
/-- short words, not many -/
def Sht (n : Nat) (B : List Str) : Prop := (∀ w ∈ B, w.length ≤ 11) ∧ B.length ≤ n
theorem Sht.sum {n : Nat} {B : List Str} (h : Sht n B) : (B.map (·.length)).sum + B.length * 1 ≤ 12 * n := by
  have := sum_le h.1
  have := h.2
  omega
theorem Sht.join {n : Nat} {B : List Str} (h : Sht n B) : (Txt.join " " B).length ≤ 12 * n := by
  have := h.sum
  have := join_len B
  omega
/-! ### bounds of what is cut -/
theorem spl_len (S : List Nat) : ∀ (k : Nat) (acc l : List Nat), (spl S k acc l).length ≤ l.length + 1
  | k, acc, [] => by rw [spl_nil]; simp
  | 0, acc, c :: r => by
    cases h : pre S (c :: r) with
    | true =>
      rw [spl_hit h, List.length_cons, List.length_cons]
      have := spl_len S (S.length - 1) [] r
      omega
    | false =>
      rw [spl_miss h, List.length_cons]
      have := spl_len S 0 (acc ++ [c]) r
      omega
  | k + 1, acc, _ :: r => by
    show (spl S k acc r).length ≤ _
    have := spl_len S k acc r
    rw [List.length_cons]
    omega
theorem spl_word (S : List Nat) : ∀ (k : Nat) (acc l : List Nat), ∀ p ∈ spl S k acc l, p.length ≤ acc.length + l.length
  | k, acc, [], p, hp => by
    rw [spl_nil] at hp
    rw [List.mem_singleton.mp hp]
    omega
  | 0, acc, c :: r, p, hp => by
    cases h : pre S (c :: r) with
    | true =>
      rw [spl_hit h] at hp
      rcases List.mem_cons.mp hp with rfl | hp
      · omega
      · have := spl_word S (S.length - 1) [] r p hp
        simp at this ⊢
        omega
    | false =>
      rw [spl_miss h] at hp
      have := spl_word S 0 (acc ++ [c]) r p hp
      simp at this ⊢
      omega
  | k + 1, acc, _ :: r, p, hp => by
    have := spl_word S k acc r p hp
    simp at this ⊢
    omega
theorem split_sp (x : Str) : (Txt.split x " ").map tl = spl [32] 0 [] (tl x) := by
  have := split_spl x " " (by rw [tlSp]; simp) (kind_ok (by decide +kernel))
  rwa [tlSp] at this
theorem split_len (x : Str) : (Txt.split x " ").length ≤ x.length + 1 := by
  have := spl_len [32] 0 [] (tl x)
  rw [← split_sp, List.length_map, ← len_tl] at this
  exact this
theorem split_word {x w : Str} (h : w ∈ Txt.split x " ") : w.length ≤ x.length := by
  have := spl_word [32] 0 [] (tl x) (tl w) (by rw [← split_sp]; exact List.mem_map.mpr ⟨w, h, rfl⟩)
  rw [← len_tl, ← len_tl] at this
  simpa using this
theorem part_len (x y : Str) : (Txt.partition x y).1.length ≤ x.length ∧ (Txt.partition x y).2.1.length ≤ y.length ∧ (Txt.partition x y).2.2.length ≤ x.length := by
  rcases PyProof.Rows.partition_whole x y with ⟨e, _⟩ | ⟨i, e, _, _⟩
  · rw [e]
    exact ⟨Nat.le_refl _, Nat.zero_le _, Nat.zero_le _⟩
  · rw [e]
    refine ⟨?_, Nat.le_refl _, ?_⟩
    · rw [len_tl, tl_strSub, List.length_take, List.length_drop, ← len_tl]
      omega
    · rw [len_tl, tl_strSub_end, List.length_drop, ← len_tl]
      omega
/-- the words of a text of at most n signs -/
theorem wordsR_len (t : Str) : (wordsR t).length ≤ t.length + 1 := by
  have := split_len (Txt.partition t " | ").1
  have := (part_len t " | ").1
  unfold wordsR
  omega
theorem wordsE_len (t : Str) : (wordsE t).length ≤ t.length + 1 := by
  unfold wordsE
  split
  · have := split_len (Txt.partition t " | ").2.2
    have := (part_len t " | ").2.2
    omega
  · simp
theorem wordsR_word {t w : Str} (h : w ∈ wordsR t) : w.length ≤ t.length := Nat.le_trans (split_word h) (part_len t " | ").1
theorem wordsE_word {t w : Str} (h : w ∈ wordsE t) : w.length ≤ t.length := by
  unfold wordsE at h
  split at h
  · exact Nat.le_trans (split_word h) (part_len t " | ").2.2
  · exact nomatch h
theorem wordsR_ne (t : Str) : wordsR t ≠ [] := split_ne _ _
end LM

/-! what many parts want: the error about texts, small lemmas -/
namespace My
open PySem L2 Cm LM
abbrev sEI : Stmt := inClass (top 6) 0
theorem nz (n : Nat) : ((n : Int) != 0) = (n != 0) := by
  cases n with
  | zero => rfl
  | succ k => simp; omega
/-- no text is longer -/
def Bd (t : Str) : Prop := t.length ≤ 100000
theorem Bd.part {t : Str} (y : Str) (h : Bd t) : Bd (Txt.partition t y).1 ∧ Bd (Txt.partition t y).2.2 := ⟨Nat.le_trans (part_len t y).1 h, Nat.le_trans (part_len t y).2.2 h⟩
theorem Bd.line {t : Str} (h : Bd t) : t.length ≤ sizeLine := Nat.le_of_lt (szM (Nat.le_trans h (by decide)))
theorem Bd.line2 {t : Str} (h : Bd t) : t.length + 2 ≤ sizeLine := Nat.le_of_lt (szM (by unfold Bd at h; omega))
theorem svs_get {ws : List Str} {i : Nat} {x : V} (h : (svs ws)[i]? = some x) : ∃ z, ws[i]? = some z ∧ x = .str z := by
  unfold svs at h
  rw [List.getElem?_map] at h
  cases e : ws[i]? with
  | none => rw [e] at h; cases h
  | some z =>
    rw [e] at h
    exact ⟨z, rfl, (Option.some.inj h).symm⟩
theorem take_snoc {α : Type} {xs : List α} {i : Nat} {x : α} (h : xs[i]? = some x) : xs.take (i + 1) = xs.take i ++ [x] := by
  rw [List.take_succ, h]
  rfl
theorem lt_of_get {α : Type} {xs : List α} {i : Nat} {x : α} (h : xs[i]? = some x) : i < xs.length := (List.getElem?_eq_some_iff.mp h).1
/-- not many words, none too long -/
def BdW (ws : List Str) : Prop := (∀ z ∈ ws, Bd z) ∧ ws.length ≤ 100001
theorem made_same {H H' : Hp} {x dx C : Addr} (nx : H x = none) (ndx : H dx = none) (o : Off x (upd (upd H dx (.own x)) x (.ins C dx [])) H') : Same H H' := fun b u e => o b u (ne_of_none e nx) (by rw [upd_ne (ne_of_none e nx), upd_ne (ne_of_none e ndx)]; exact e)
/-- a special method of the class at C -/
structure Sm (K : PySem.W.Frag) (C : Addr) (x q : Str) (st : Stmt) (ps : List Str) where
  f : Addr
  fd : FuncData
  F : Fun K x q st f fd
  b : Binds K fd ps []
  i : PySem.W.findIn K (.ref C) x = some (some (.ref f))
  fn : PySem.W.isFn K (.ref f) = true
theorem TyX_same {K : PySem.W.Frag} {H H' : Hp} (s : Same H H') {x : V} {t : Value} (h : TyX K H x t) : TyX K H' x t := by
  cases h with
  | base b =>
    refine .base ?_
    cases b with
    | non => exact .non
    | bl x => exact .bl x
    | int i => exact .int i
    | str x => exact .str x
    | flt x => exact .flt x
    | lst e => exact .lst (s _ _ e)
    | frz e => exact .frz (s _ _ e)
    | tup e => exact .tup (s _ _ e)
    | dK e => exact .dK (s _ _ e)
    | dT e => exact .dT (s _ _ e)
    | ins e a b c d f => exact .ins (s _ _ e) a b c d f
  | byt b => exact .byt b
  | set e => exact .set (s _ _ e)
  | kList e c => exact .kList e c
  | kTuple e c => exact .kTuple e c
  | kDict e c => exact .kDict e c
  | fTuple e => exact .fTuple (s _ _ e)
  | fDict e => exact .fDict (s _ _ e)
theorem jar_ne {H : Hp} {j p : Addr} (a : Jar H j) (n : H p = none) : p ≠ j := fun z => by
  obtain ⟨_, _, _, q⟩ := a
  rw [z, q] at n
  cases n
theorem Jar.put {H : Hp} {j p : Addr} {o : HO} (a : Jar H j) (n : p ≠ j) : Jar (upd H p o) j := by
  obtain ⟨x, y, z, q⟩ := a
  exact ⟨x, y, z, by rw [upd_ne n.symm]; exact q⟩
/-- a store to what was not there at first -/
theorem Off.put2 {j q : Addr} {H H1 : Hp} {o : HO} (a : Off j H H1) (n : H q = none) : Off j H (upd H1 q o) := fun b u nb e => by
  rw [upd_ne (ne_of_none e n)]
  exact a b u nb e
/-- tuples that stand stay, if what is written is no tuple -/
theorem tup_stays {H : Hp} {x : Addr} {o o' : HO} (hx : H x = some o) (n : ∀ xs, o ≠ .tup xs) : ∀ (p : Addr) (xs : List V), H p = some (.tup xs) → (upd H x o') p = some (.tup xs) := fun p xs e => by
  rw [upd_ne]
  · exact e
  · intro z
    rw [z, hx] at e
    exact n xs (Option.some.inj e)
def isS : V → Bool
  | .str _ => true
  | _ => false
/-- its type is told -/
def Typed (K : PySem.W.Frag) (H : Hp) (x : V) : Prop := ∃ t, TyX K H x t ∧ PySem.W.kitOne K t (.type "str") = some (isS x)
theorem typed_str {K : PySem.W.Frag} {H : Hp} (x : Str) : Typed K H (.str x) := ⟨_, .base (.str x), kit_ty (show kitB "str" "str" = some true by decide +kernel)⟩
/-! ### the error -/
structure TxE (K : PySem.W.Frag) (mg : Str → Option Value) where
  C : Addr
  f : Addr
  fd : FuncData
  g : mg "InvalidText" = some (.ref C)
  o : OexC K C
  i : PySem.W.findIn K (.ref C) "__init__" = some (some (.ref f))
  t : PySem.W.typeIn K (.ref f) = some (.type "function")
  n : PySem.W.findIn K (.ref C) "value" = some none
  F : Fun K "__init__" "InvalidText.__init__" sEI f fd
  b : Binds K fd ["self", "value"] []
section
variable {P : Program} {w : World} {K : PySem.W.Frag} {mg : Str → Option Value} {base : Heap}
def spEI (CE : Addr) : Sp := fun vs H Q _ => ∃ (a : Addr) (v : V), vs = [.ref a, v] ∧ H a = some (exo a CE none) ∧ ∀ dx, H dx = none → dx ≠ a → Q .non (upd (upd H dx (exd dx [("value", v)])) a (exo a CE (some dx)))
theorem scEI : FnScope ["self", "value"] ["self", "value"] (defScope sEI) := ⟨rfl, rfl, rfl, by decide +kernel, rfl, by decide +kernel, by decide +kernel⟩
theorem ok_ei (T : TxE K mg) : FnOk P w K mg base CX0 1 T.f T.fd ["self", "value"] (spEI T.C) := by
  refine T.F.ok scEI (fun vs H Q E h => ?_) (fun cdv A outer s H vs Q E hr h => ?_)
  · obtain ⟨a, v, rfl, _⟩ := h
    rfl
  · obtain ⟨a, v, rfl, ha, k⟩ := h
    refine ⟨_, pss_one (ps_ost (pv 0) (pv 1)), ?_⟩
    exact ⟨_, rfl, _, rfl, a, T.C, rfl, T.o, T.n, .inl ⟨ha, fun dx n ne => k dx n ne⟩⟩
/-- raise X(x), as its making is read -/
theorem mk_err {CE : Addr} {ta : TA} {σ : St} {H : Hp} {Q : XK} {x : V} (h : ta σ H fun vs H1 => vs = [x] ∧ H1 = H) (mono : ∀ {R R' : List V → Hp → Prop}, ta σ H R → (∀ v H1, R v H1 → R' v H1) → ta σ H R')
    (q : ∀ d, H d = none → Q (.ref CE) (some d) (upd H d (.xd [("value", x)]))) : tMkO CE (spEI CE) [] ta σ H Q := by
  refine mono h fun vs H1 hh => ?_
  obtain ⟨rfl, rfl⟩ := hh
  refine ⟨by show 1 ≤ 1000; decide, fun a na => ⟨a, x, rfl, upd_same, fun dx ndx nda => ⟨rfl, dx, [("value", x)], upd_same, ?_, ?_, ?_⟩⟩⟩
  · rw [upd_ne nda, upd_same]
  · rw [upd_ne nda] at ndx
    exact ndx
  · have e : upd (del (upd (upd (upd H1 a (exo a CE none)) dx (exd dx [("value", x)])) a (exo a CE (some dx))) a) dx (.xd [("value", x)]) = upd H1 dx (.xd [("value", x)]) := by
      funext b
      by_cases h1 : b = dx
      · rw [h1, upd_same, upd_same]
      · rw [upd_ne h1, upd_ne h1]
        by_cases h2 : b = a
        · rw [h2, del_same, na]
        · rw [del_ne h2, upd_ne h2, upd_ne h1, upd_ne h2]
    rw [e]
    rw [upd_ne nda] at ndx
    exact q dx ndx
end
end My

/-! the defs about texts of loops -/
namespace My
open PySem L2 Cm LM
abbrev sWO : Stmt := top 56
abbrev sOO : Stmt := top 58
abbrev sIW : Stmt := top 59
abbrev sAW : Stmt := top 60
abbrev sIR : Stmt := top 61
abbrev sIE : Stmt := top 62
/-- what the module's top has for these defs -/
structure TxL (K : PySem.W.Frag) (mg : Str → Option Value) where
  tuple : mg "tuple" = none
  len : mg "len" = none
  all : mg "all" = none
  bar : ∃ t, mg "BAR" = some (.str " | " t)
  mr : ∃ t, mg "MOST_ROUND" = some (.int 12 t)
  me : ∃ t, mg "MOST_ENDING" = some (.int 6 t)
  pT : Addr
  pR : Addr
  pE : Addr
  gT : mg "TESTS" = some (.ref pT)
  gR : mg "ROUND_STEPS" = some (.ref pR)
  gE : mg "ENDING_STEPS" = some (.ref pE)
  lT : ∀ H, SqT K H pT (svs tests)
  lR : ∀ H, SqT K H pR (svs rsteps)
  lE : ∀ H, SqT K H pE (svs esteps)
  wo : Df K mg "words_of" sWO ["text"]
  oo : Df K mg "order_of" sOO ["word"]
  iw : Df K mg "is_word" sIW ["word", "steps"]
  aw : Df K mg "are_words" sAW ["words", "steps"]
  ir : Df K mg "is_round" sIR ["words"]
  ie : Df K mg "is_ending" sIE ["words"]
section
variable {P : Program} {w : World} {K : PySem.W.Frag} {mg : Str → Option Value} {base : Heap}
/-! ### words_of -/
def spWO : Sp := fun vs H Q _ => ∃ t : Str, vs = [.str t] ∧ Bd t ∧ ∀ (H' : Hp) (p a b : Addr), Same H H' → H' p = some (.tup [.ref a, .ref b]) → H' a = some (.tup (svs (wordsR t))) → H' b = some (.tup (svs (wordsE t))) → Q (.ref p) H'
theorem scWO : FnScope ["text", "head", "bar", "tail"] ["text"] (defScope sWO) := ⟨rfl, rfl, rfl, by decide +kernel, rfl, by decide +kernel, by decide +kernel⟩
theorem ok_wo (T : TxL K mg) : FnOk P w K mg base CX0 1 T.wo.f T.wo.fd ["text"] spWO := by
  obtain ⟨tb, hb⟩ := T.bar
  refine T.wo.F.ok scWO (fun vs H Q E h => ?_) (fun cdv A outer s H vs Q E hr h => ?_)
  · obtain ⟨t, rfl, _⟩ := h
    rfl
  · obtain ⟨t, rfl, bd, k⟩ := h
    refine ⟨_, pss_cons (ps_asg (pe_partition (pv 0) (pe_glob (v := .str " | ") rfl hb ⟨_, rfl⟩)) (pg_tup rfl (pgs_cons (pg_name (i := 1) scWO.nd rfl (.inl rfl)) (pgs_cons (pg_name (i := 2) scWO.nd rfl (.inl rfl)) (pgs_cons (pg_name (i := 3) scWO.nd rfl (.inl rfl)) pgs_nil)))))
      (pss_one (ps_ret (pe_tup (pa_cons (pe_callTy call_tuple_of (by rfl) T.tuple (by decide +kernel) (pa_cons (pe_split (pv 1) pe_str) pa_nil))
        (pa_cons (pe_ifExp (pt_truth (pv 2) (by intro _; rfl)) (pe_callTy call_tuple_of (by rfl) T.tuple (by decide +kernel) (pa_cons (pe_split (pv 3) pe_str) pa_nil)) (pe_tup pa_nil)) pa_nil))))), ?_⟩
    have bp := Bd.part " | " bd
    refine ⟨_, rfl, ⟨_, rfl⟩, t, " | ", rfl, rfl, by decide +kernel, bd.line, fun q nq => ?_⟩
    refine ⟨q, _, rfl, SqT.of upd_same, rfl, _, _, rfl, _, _, rfl, _, _, rfl, rfl, ?_⟩
    have s1 : Same H (upd H q (.tup [.str (Txt.partition t " | ").1, .str (Txt.partition t " | ").2.1, .str (Txt.partition t " | ").2.2])) := same_new nq
    generalize upd H q (.tup [.str (Txt.partition t " | ").1, .str (Txt.partition t " | ").2.1, .str (Txt.partition t " | ").2.2]) = H1 at s1 ⊢
    refine ⟨_, rfl, ⟨_, rfl⟩, _, " ", rfl, rfl, by decide +kernel, bp.1.line2, fun l nl => ?_⟩
    refine ⟨l, _, rfl, .inl ⟨SqL.of upd_same, fun a na => ?_⟩⟩
    have s2 : Same H1 (upd (upd H1 l (.lst (svs (wordsR t)))) a (.tup (svs (wordsR t)))) := Same.trans (same_new nl) (same_new na)
    have ha : (upd (upd H1 l (.lst (svs (wordsR t)))) a (.tup (svs (wordsR t)))) a = some (.tup (svs (wordsR t))) := upd_same
    show tCons _ _ _ (upd (upd H1 l (.lst (svs (wordsR t)))) a (.tup (svs (wordsR t)))) _
    generalize upd (upd H1 l (.lst (svs (wordsR t)))) a (.tup (svs (wordsR t))) = H2 at s2 ha ⊢
    refine ⟨_, rfl, _, ⟨Nat.le_trans (part_len t " | ").2.1 (by decide +kernel), rfl⟩, ?_⟩
    rw [nz]
    cases hc : ((Txt.partition t " | ").2.1.length != 0) with
    | true =>
      have e : wordsE t = Txt.split (Txt.partition t " | ").2.2 " " := by unfold wordsE; rw [if_pos hc]
      refine iteT ?_
      refine ⟨_, rfl, ⟨_, rfl⟩, _, " ", rfl, rfl, by decide +kernel, bp.2.line2, fun l2 nl2 => ?_⟩
      rw [← e]
      refine ⟨l2, _, rfl, .inl ⟨SqL.of upd_same, fun b nb => ?_⟩⟩
      refine ⟨(by show 2 ≤ sizeLine; decide), fun p np => ?_⟩
      exact k _ p a b (Same.trans s1 (Same.trans s2 (Same.trans (same_new nl2) (Same.trans (same_new nb) (same_new np))))) upd_same (same_new np _ _ (same_new nb _ _ (same_new nl2 _ _ ha))) (same_new np _ _ upd_same)
    | false =>
      have e : wordsE t = [] := by unfold wordsE; rw [if_neg (by rw [hc]; exact Bool.false_ne_true)]
      refine iteF ?_
      refine ⟨Nat.zero_le _, fun b nb => ?_⟩
      refine ⟨(by show 2 ≤ sizeLine; decide), fun p np => ?_⟩
      refine k _ p a b (Same.trans s1 (Same.trans s2 (Same.trans (same_new nb) (same_new np)))) upd_same (same_new np _ _ (same_new nb _ _ ha)) ?_
      rw [e]
      exact same_new np _ _ upd_same
/-! ### order_of -/
def spOO : Sp := fun vs H Q _ => ∃ t : Str, vs = [.str t] ∧ Bd t ∧ ∀ (H' : Hp) (p : Addr), Same H H' → H p = none → H' p = some (.tup [.str (orderOf t).1, .str (orderOf t).2]) → Q (.ref p) H'
theorem scOO : FnScope ["word", "test", "colon", "step"] ["word"] (defScope sOO) := ⟨rfl, rfl, rfl, by decide +kernel, rfl, by decide +kernel, by decide +kernel⟩
theorem ok_oo (T : TxL K mg) : FnOk P w K mg base CX0 1 T.oo.f T.oo.fd ["word"] spOO := by
  refine T.oo.F.ok scOO (fun vs H Q E h => ?_) (fun cdv A outer s H vs Q E hr h => ?_)
  · obtain ⟨t, rfl, _⟩ := h
    rfl
  · obtain ⟨t, rfl, bd, k⟩ := h
    refine ⟨_, pss_cons (ps_asg (pe_partition (pv 0) pe_str) (pg_tup rfl (pgs_cons (pg_name (i := 1) scOO.nd rfl (.inl rfl)) (pgs_cons (pg_name (i := 2) scOO.nd rfl (.inl rfl)) (pgs_cons (pg_name (i := 3) scOO.nd rfl (.inl rfl)) pgs_nil)))))
      (pss_one (ps_ret (pe_ifExp (pt_truth (pv 2) (by intro _; rfl)) (pe_tup (pa_cons (pv 1) (pa_cons (pv 3) pa_nil))) (pe_tup (pa_cons pe_str (pa_cons (pv 0) pa_nil)))))), ?_⟩
    refine ⟨_, rfl, ⟨_, rfl⟩, t, ":", rfl, rfl, by decide +kernel, bd.line, fun q nq => ?_⟩
    refine ⟨q, _, rfl, SqT.of upd_same, rfl, _, _, rfl, _, _, rfl, _, _, rfl, rfl, ?_⟩
    have s1 : Same H (upd H q (.tup [.str (Txt.partition t ":").1, .str (Txt.partition t ":").2.1, .str (Txt.partition t ":").2.2])) := same_new nq
    generalize upd H q (.tup [.str (Txt.partition t ":").1, .str (Txt.partition t ":").2.1, .str (Txt.partition t ":").2.2]) = H1 at s1 ⊢
    refine ⟨_, rfl, _, ⟨Nat.le_trans (part_len t ":").2.1 (by decide +kernel), rfl⟩, ?_⟩
    rw [nz]
    unfold orderOf at k
    cases hc : ((Txt.partition t ":").2.1.length != 0) with
    | true =>
      rw [if_pos hc] at k
      refine iteT ?_
      refine ⟨_, rfl, _, rfl, (by show 2 ≤ sizeLine; decide), fun p np => ?_⟩
      exact k _ p (Same.trans s1 (same_new np)) (s1.free np) upd_same
    | false =>
      rw [if_neg (by rw [hc]; exact Bool.false_ne_true)] at k
      refine iteF ?_
      refine ⟨_, rfl, (by show 2 ≤ sizeLine; decide), fun p np => ?_⟩
      exact k _ p (Same.trans s1 (same_new np)) (s1.free np) upd_same
/-! ### is_word -/
def spIW (K : PySem.W.Frag) : Sp := fun vs H Q _ => ∃ (t : Str) (p : Addr) (ss : List Str), vs = [.str t, .ref p] ∧ Bd t ∧ SqT K H p (svs ss) ∧ ∀ H' : Hp, Same H H' → Q (.bl (isWord t ss)) H'
theorem scIW : FnScope ["word", "steps", "test", "colon", "step"] ["word", "steps"] (defScope sIW) := ⟨rfl, rfl, rfl, by decide +kernel, rfl, by decide +kernel, by decide +kernel⟩
theorem ok_iw (T : TxL K mg) : FnOk P w K mg base CX0 1 T.iw.f T.iw.fd ["word", "steps"] (spIW K) := by
  refine T.iw.F.ok scIW (fun vs H Q E h => ?_) (fun cdv A outer s H vs Q E hr h => ?_)
  · obtain ⟨t, p, ss, rfl, _⟩ := h
    rfl
  · obtain ⟨t, p, ss, rfl, bd, hp, k⟩ := h
    refine ⟨_, pss_cons (ps_asg (pe_partition (pv 0) pe_str) (pg_tup rfl (pgs_cons (pg_name (i := 2) scIW.nd rfl (.inl rfl)) (pgs_cons (pg_name (i := 3) scIW.nd rfl (.inl rfl)) (pgs_cons (pg_name (i := 4) scIW.nd rfl (.inl rfl)) pgs_nil)))))
      (pss_one (ps_ret (pe_ifExp (pt_truth (pv 3) (by intro _; rfl)) (pe_and (pe_cmpR op_in_seq (pv 2) (pe_glob (v := .ref T.pT) rfl T.gT rfl) (by rfl)) (pe_one (pe_cmpR op_in_seq (pv 4) (pv 1) (by rfl)))) (pe_cmpR op_in_seq (pv 0) (pv 1) (by rfl))))), ?_⟩
    refine ⟨_, rfl, ⟨_, rfl⟩, t, ":", rfl, rfl, by decide +kernel, bd.line, fun q nq => ?_⟩
    refine ⟨q, _, rfl, SqT.of upd_same, rfl, _, _, rfl, _, _, rfl, _, _, rfl, rfl, ?_⟩
    have s1 : Same H (upd H q (.tup [.str (Txt.partition t ":").1, .str (Txt.partition t ":").2.1, .str (Txt.partition t ":").2.2])) := same_new nq
    generalize upd H q (.tup [.str (Txt.partition t ":").1, .str (Txt.partition t ":").2.1, .str (Txt.partition t ":").2.2]) = H1 at s1 ⊢
    refine ⟨_, rfl, _, ⟨Nat.le_trans (part_len t ":").2.1 (by decide +kernel), rfl⟩, ?_⟩
    rw [nz]
    have k1 := k H1 s1
    unfold isWord at k1
    cases hc : ((Txt.partition t ":").2.1.length != 0) with
    | true =>
      rw [if_pos hc] at k1
      refine iteT ?_
      refine ⟨_, rfl, T.pT, _, rfl, .inr (T.lT _), rfl, svs_flat _, _, rfl, ?_⟩
      show if (inV _ (svs tests)) = true then _ else _
      rw [inV_svs]
      by_cases h1 : (Txt.partition t ":").1 ∈ tests
      · rw [decide_eq_true h1] at k1 ⊢
        refine iteT ⟨_, rfl, _, rfl, p, _, rfl, .inr (Cm.Same.set s1 hp), rfl, svs_flat _, ?_⟩
        show _
        rw [Bool.true_and] at k1
        have := inV_svs (Txt.partition t ":").2.2 ss
        rw [← this] at k1
        exact k1
      · rw [decide_eq_false h1] at k1 ⊢
        exact iteF k1
    | false =>
      rw [if_neg (by rw [hc]; exact Bool.false_ne_true)] at k1
      refine iteF ?_
      refine ⟨_, rfl, _, rfl, p, _, rfl, .inr (Cm.Same.set s1 hp), rfl, svs_flat _, ?_⟩
      rw [← inV_svs] at k1
      exact k1
end
end My

namespace My
open PySem L2 Cm LM
section
variable {P : Program} {w : World} {K : PySem.W.Frag} {mg : Str → Option Value} {base : Heap}
/-! ### are_words -/
def spAW (K : PySem.W.Frag) : Sp := fun vs H Q _ => ∃ (a p : Addr) (ws ss : List Str), vs = [.ref a, .ref p] ∧ BdW ws ∧ SqT K H a (svs ws) ∧ SqT K H p (svs ss) ∧ ∀ H' : Hp, Same H H' → Q (.bl (areWords ws ss)) H'
theorem scAW : FnScope ["words", "steps", "word"] ["words", "steps"] (defScope sAW) := ⟨rfl, rfl, rfl, by decide +kernel, rfl, by decide +kernel, by decide +kernel⟩
theorem ok_aw (T : TxL K mg) : FnOk P w K mg base CX0 2 T.aw.f T.aw.fd ["words", "steps"] (spAW K) := by
  have G1 : FnOk P w K mg base CX0 1 T.iw.f T.iw.fd ["word", "steps"] (spIW K) := ok_iw T
  refine T.aw.F.ok scAW (fun vs H Q E h => ?_) (fun cdv A outer s H vs Q E hr h => ?_)
  · obtain ⟨a, p, ws, ss, rfl, _⟩ := h
    rfl
  · obtain ⟨a, p, ws, ss, rfl, bd, ha, hp, k⟩ := h
    refine ⟨_, pss_one (ps_ret (pe_callB (cr_all rfl) (by rfl) T.all (by decide +kernel) (pa_cons (pe_lc (own := [("word", 2)]) (g := gName 2) (tt := tYes) (te := tCall (spIW K) [] E0 (tCons (tVar 2) (tCons (tVar 1) tNil))) rfl scAW.nd (pi_tup (pv 0))
      (blkOk_by (own := [("word", 2)]) (N := ["words", "steps", "word"]) (sc := defScope sAW) (by decide +kernel)) (fun _ _ _ _ _ => pg_name (i := 2) scAW.nd rfl (Or.inl rfl)) (fun _ _ _ _ _ => pts_nil)
      (fun _ _ _ _ _ => by exact pe_call G1 hr rfl T.iw.g T.iw.k T.iw.b .nil pass0 (pa_cons (pv 2) (pa_cons (pv 1) pa_nil)))) pa_nil))), ?_⟩
    refine ⟨_, rfl, a, rfl, ⟨_, ha⟩, fun D nD => lc_tup (K := K) (a := a) (xs := svs ws) (fun i H' => Same H H' ∧ H' D = some (.lst (((ws.take i).map fun z => isWord z ss).map V.bl))) ⟨same_new nD, upd_same⟩ (fun i H' _ ⟨s', _⟩ => Cm.Same.set s' ha) ?_ ?_⟩
    · rintro i x H' hx ⟨s', hD⟩
      obtain ⟨z, hz, rfl⟩ := svs_get hx
      refine ⟨rfl, _, rfl, _, rfl, z, p, ss, rfl, bd.1 z (List.mem_of_getElem? hz), Cm.Same.set s' hp, fun H2 s2 => ?_⟩
      refine ⟨_, s2 _ _ hD, szM ?_, fun b o q => ?_, ?_⟩
      · rw [List.length_map, List.length_map, List.length_take]
        have := bd.2
        omega
      · rw [upd_ne (ne_of_none q nD)]
        exact s2 _ _ (s' _ _ q)
      · rw [upd_same, take_snoc hz]
        simp
    · rintro H' ⟨s', hD⟩
      have e : (svs ws).length = ws.length := List.length_map ..
      rw [e, List.take_length] at hD
      refine ⟨D, ws.map fun z => isWord z ss, rfl, SqL.of hD, ?_⟩
      have k1 := k H' s'
      unfold areWords at k1
      rw [List.all_map]
      exact k1
/-! ### is_round -/
def spIR (K : PySem.W.Frag) : Sp := fun vs H Q _ => ∃ (a : Addr) (ws : List Str), vs = [.ref a] ∧ ws ≠ [] ∧ BdW ws ∧ SqT K H a (svs ws) ∧ ∀ H' : Hp, Same H H' → Q (.bl (isRound ws)) H'
theorem scIR : FnScope ["words", "adding", "word"] ["words"] (defScope sIR) := ⟨rfl, rfl, rfl, by decide +kernel, rfl, by decide +kernel, by decide +kernel⟩
def ttAdd (K : PySem.W.Frag) : TT := tTest (tOp rEq (tOp (rIxT K) (tCall spOO [] E0 (tCons (tVar 2) tNil)) (tC (.int 1))) (tC (.str "add")))
theorem ok_ir (T : TxL K mg) : FnOk P w K mg base CX0 3 T.ir.f T.ir.fd ["words"] (spIR K) := by
  have GO : FnOk P w K mg base CX0 1 T.oo.f T.oo.fd ["word"] spOO := ok_oo T
  have GA : FnOk P w K mg base CX0 2 T.aw.f T.aw.fd ["words", "steps"] (spAW K) := ok_aw T
  obtain ⟨tm, mr⟩ := T.mr
  refine T.ir.F.ok scIR (fun vs H Q E h => ?_) (fun cdv A outer s H vs Q E hr h => ?_)
  · obtain ⟨a, ws, rfl, _⟩ := h
    rfl
  · obtain ⟨a, ws, rfl, ne, bd, ha, k⟩ := h
    have hr1 : Room 1 _ := hr.mono (by decide)
    refine ⟨_, pss_cons (ps_if (PW.pt (pw_or (pt_cmpR op_ne (pe_ix ix_tup (pv 0) pe_int (fun _ _ => rfl)) pe_str (nomark _)) (pw_or1 (pt_cmpR op_gt (pe_callB call_len_seq (by rfl) T.len PySem.boot_len (pa_cons (pv 0) pa_nil)) (pe_glob (v := .int 12) rfl mr ⟨_, rfl⟩) (nomark _))))) (pss_one (ps_ret pe_bl)) pss_nil)
      (pss_cons (ps_setLc (i := 1) (own := [("word", 2)]) (g := gName 2) (tt := ttAdd K) (te := tVar 2) rfl scIR.nd rfl rfl (sw_true rfl rfl rfl (by decide +kernel)) (pi_tup (pv 0)) (blkOk_by (own := [("word", 2)]) (N := ["words", "adding", "word"]) (sc := defScope sIR) (by decide +kernel)) (fun _ _ _ _ _ => pg_name (i := 2) scIR.nd rfl (Or.inl rfl))
          (fun _ _ _ _ _ => by exact pts_one (pt_cmpR op_eq (pe_ix ix_tup (pe_call (E := E0) GO hr1 rfl T.oo.g T.oo.k T.oo.b .nil pass0 (pa_cons (pv 2) pa_nil)) pe_int (fun _ _ => rfl)) pe_str (nomark _))) (fun _ _ _ _ _ => pv 2))
      (pss_one (ps_ret (pe_and (pe_cmpR op_le (pe_callB call_len_seq (by rfl) T.len PySem.boot_len (pa_cons (pv 1) pa_nil)) pe_int (nomark _)) (pe_one (pe_call GA hr rfl T.aw.g T.aw.k T.aw.b .nil pass0 (pa_cons (pe_slice sl_tupA (pv 0) (po_some pe_int) po_none) (pa_cons (pe_glob (v := .ref T.pR) rfl T.gR rfl) pa_nil))))))))
      , ?_⟩
    obtain ⟨w0, r, rfl⟩ : ∃ w0 r, ws = w0 :: r := by
      cases ws with
      | nil => exact absurd rfl ne
      | cons w0 r => exact ⟨w0, r, rfl⟩
    refine ⟨_, rfl, a, _, 0, .str w0, rfl, rfl, ha, (show atI (svs (w0 :: r)) ((0 : Nat) : Int) = some (V.str w0) from atI_nat rfl), rfl, _, rfl, ?_⟩
    unfold isRound at k
    rw [dS]
    by_cases h0 : w0 = "ask"
    · subst h0
      rw [show decide ((("ask" : Str) :: r).head? = some "ask") = true from decide_eq_true rfl, Bool.true_and] at k
      rw [decide_eq_true rfl]
      refine iteF ?_
      refine ⟨_, rfl, a, _, rfl, .inr ha, _, _, rfl, rfl, _, rfl, ?_⟩
      have el : (svs ((("ask" : Str)) :: r)).length = ((("ask" : Str)) :: r).length := List.length_map ..
      rw [el]
      by_cases h12 : ((("ask" : Str)) :: r).length ≤ 12
      · rw [decide_eq_false (show ¬ ((12 : Int) < ((("ask" : Str) :: r).length : Int)) by omega)]
        rw [decide_eq_true h12, Bool.true_and] at k
        refine iteF ?_
        refine ⟨_, rfl, a, rfl, ⟨_, ha⟩, fun D nD => lc_tup (K := K) (a := a) (xs := svs (("ask" : Str) :: r)) (fun i H' => Same H H' ∧ H' D = some (.lst (svs (((("ask" : Str) :: r).take i).filter isAdd)))) ⟨same_new nD, upd_same⟩ (fun i H' _ ⟨s', _⟩ => Cm.Same.set s' ha) ?_ ?_⟩
        · rintro i x H' hx ⟨s', hD⟩
          obtain ⟨z, hz, rfl⟩ := svs_get hx
          refine ⟨rfl, _, rfl, z, rfl, bd.1 z (List.mem_of_getElem? hz), fun H2 p s2 np hp => ?_⟩
          refine ⟨p, _, 1, _, rfl, rfl, SqT.of hp, rfl, rfl, _, rfl, ?_⟩
          rw [dS]
          have ed : decide ((orderOf z).2 = "add") = isAdd z := rfl
          rw [ed]
          rw [take_snoc hz, List.filter_append]
          cases hc : isAdd z with
          | true =>
            refine iteT ?_
            refine ⟨_, rfl, _, s2 _ _ hD, szM ?_, fun b o q => ?_, ?_⟩
            · rw [show (svs (List.filter isAdd (List.take i (("ask" : Str) :: r)))).length = _ from List.length_map ..]
              have := List.length_filter_le isAdd (List.take i (("ask" : Str) :: r))
              rw [List.length_take] at this
              have := bd.2
              omega
            · rw [upd_ne (ne_of_none q nD)]
              exact s2 _ _ (s' _ _ q)
            · rw [upd_same]
              simp [svs, hc]
          | false =>
            refine iteF ?_
            refine ⟨Same.trans s' s2, ?_⟩
            rw [s2 _ _ hD]
            simp [hc]
        · rintro H' ⟨s', hD⟩
          rw [el, List.take_length] at hD
          refine ⟨_, rfl, D, _, rfl, .inl (SqL.of hD), _, _, rfl, rfl, _, rfl, ?_⟩
          have ef : (svs (List.filter isAdd (("ask" : Str) :: r))).length = (List.filter isAdd (("ask" : Str) :: r)).length := List.length_map ..
          rw [ef]
          by_cases h1 : (List.filter isAdd (("ask" : Str) :: r)).length ≤ 1
          · rw [decide_eq_true (show (((List.filter isAdd (("ask" : Str) :: r)).length : Int) ≤ 1) by omega)]
            rw [decide_eq_true h1, Bool.true_and] at k
            refine iteT ?_
            have cut : cutV (svs (("ask" : Str) :: r)) (some 1) none = svs r := by
              unfold cutV
              rw [HT.sIx_none, show (some (1 : Int)) = some ((1 : Nat) : Int) from rfl, HT.sIx_nat, el]
              simp [svs]
              exact List.take_of_length_le (by simp)
            refine ⟨_, rfl, 1, rfl, a, _, rfl, Cm.Same.set s' ha, fun z => ?_, fun _ p np => ?_⟩
            · exfalso
              have := z.1
              rw [show (some (1 : Int)) = some ((1 : Nat) : Int) from rfl, HT.sIx_nat, el] at this
              simp at this
            · rw [cut]
              refine ⟨p, T.pR, r, rsteps, rfl, ⟨fun z hz => bd.1 z (List.mem_cons_of_mem _ hz), ?_⟩, SqT.of upd_same, T.lR _, fun H2 s2 => ?_⟩
              · have := bd.2
                rw [List.length_cons] at this
                omega
              · exact k _ (Same.trans s' (Same.trans (same_new np) s2))
          · rw [decide_eq_false (show ¬ (((List.filter isAdd (("ask" : Str) :: r)).length : Int) ≤ 1) by omega)]
            rw [decide_eq_false h1, Bool.false_and] at k
            exact iteF (k H' s')
      · rw [decide_eq_true (show ((12 : Int) < ((("ask" : Str) :: r).length : Int)) by omega)]
        rw [decide_eq_false h12, Bool.false_and] at k
        exact iteT (k H (Same.refl _))
    · rw [decide_eq_false h0]
      rw [show decide ((w0 :: r).head? = some "ask") = false from decide_eq_false (fun z => h0 (Option.some.inj z)), Bool.false_and] at k
      exact iteT (iteT (k H (Same.refl _)))
/-! ### is_ending -/
def spIE (K : PySem.W.Frag) : Sp := fun vs H Q _ => ∃ (a : Addr) (ws : List Str), vs = [.ref a] ∧ BdW ws ∧ SqT K H a (svs ws) ∧ ∀ H' : Hp, Same H H' → Q (.bl (isEnding ws)) H'
theorem scIE : FnScope ["words"] ["words"] (defScope sIE) := ⟨rfl, rfl, rfl, by decide +kernel, rfl, by decide +kernel, by decide +kernel⟩
theorem ok_ie (T : TxL K mg) : FnOk P w K mg base CX0 3 T.ie.f T.ie.fd ["words"] (spIE K) := by
  have GA : FnOk P w K mg base CX0 2 T.aw.f T.aw.fd ["words", "steps"] (spAW K) := ok_aw T
  obtain ⟨tm, me⟩ := T.me
  refine T.ie.F.ok scIE (fun vs H Q E h => ?_) (fun cdv A outer s H vs Q E hr h => ?_)
  · obtain ⟨a, ws, rfl, _⟩ := h
    rfl
  · obtain ⟨a, ws, rfl, bd, ha, k⟩ := h
    refine ⟨_, pss_one (ps_ret (pe_and (pe_cmpR op_le (pe_callB call_len_seq (by rfl) T.len PySem.boot_len (pa_cons (pv 0) pa_nil)) (pe_glob (v := .int 6) rfl me ⟨_, rfl⟩) (nomark _)) (pe_one (pe_call GA hr rfl T.aw.g T.aw.k T.aw.b .nil pass0 (pa_cons (pv 0) (pa_cons (pe_glob (v := .ref T.pE) rfl T.gE rfl) pa_nil)))))), ?_⟩
    refine ⟨_, rfl, a, _, rfl, .inr ha, _, _, rfl, rfl, _, rfl, ?_⟩
    have el : (svs ws).length = ws.length := List.length_map ..
    rw [el]
    unfold isEnding at k
    by_cases h6 : ws.length ≤ 6
    · rw [decide_eq_true (show ((ws.length : Int) ≤ 6) by omega)]
      rw [decide_eq_true h6, Bool.true_and] at k
      exact iteT ⟨_, rfl, a, T.pE, ws, esteps, rfl, bd, ha, T.lE _, k⟩
    · rw [decide_eq_false (show ¬ ((ws.length : Int) ≤ 6) by omega)]
      rw [decide_eq_false h6, Bool.false_and] at k
      exact iteF (k H (Same.refl _))
end
end My

/-! the class Loop: its making -/
namespace My
open PySem L2 Cm LM
abbrev sLI : Stmt := inClass (top 64) 0
section
variable {P : Program} {w : World} {K : PySem.W.Frag} {mg : Str → Option Value} {base : Heap}
/-! ### loops as objects -/
def lf (t : Str) (pr pe po pq : Addr) : List (Str × V) := putF "ending_orders" (.ref pq) (putF "round_orders" (.ref po) (putF "ending" (.ref pe) (putF "round" (.ref pr) (putF "text" (.str t) []))))
theorem lf_text (t : Str) (pr pe po pq : Addr) : (lf t pr pe po pq).lookup ("text" : Str) = some (.str t) := by
  unfold lf
  rw [lookup_putF, if_neg (by decide +kernel), lookup_putF, if_neg (by decide +kernel), lookup_putF, if_neg (by decide +kernel), lookup_putF, if_neg (by decide +kernel), lookup_putF, if_pos rfl]
theorem lf_round (t : Str) (pr pe po pq : Addr) : (lf t pr pe po pq).lookup ("round" : Str) = some (.ref pr) := by
  unfold lf
  rw [lookup_putF, if_neg (by decide +kernel), lookup_putF, if_neg (by decide +kernel), lookup_putF, if_neg (by decide +kernel), lookup_putF, if_pos rfl]
theorem lf_ending (t : Str) (pr pe po pq : Addr) : (lf t pr pe po pq).lookup ("ending" : Str) = some (.ref pe) := by
  unfold lf
  rw [lookup_putF, if_neg (by decide +kernel), lookup_putF, if_neg (by decide +kernel), lookup_putF, if_pos rfl]
theorem lf_ro (t : Str) (pr pe po pq : Addr) : (lf t pr pe po pq).lookup ("round_orders" : Str) = some (.ref po) := by
  unfold lf
  rw [lookup_putF, if_neg (by decide +kernel), lookup_putF, if_pos rfl]
theorem lf_eo (t : Str) (pr pe po pq : Addr) : (lf t pr pe po pq).lookup ("ending_orders" : Str) = some (.ref pq) := by
  unfold lf
  rw [lookup_putF, if_pos rfl]
theorem lf_no (t : Str) (pr pe po pq : Addr) {m : Str} (h1 : ¬ m = "ending_orders") (h2 : ¬ m = "round_orders") (h3 : ¬ m = "ending") (h4 : ¬ m = "round") (h5 : ¬ m = "text") : (lf t pr pe po pq).lookup m = none := by
  unfold lf
  rw [lookup_putF, if_neg h1, lookup_putF, if_neg h2, lookup_putF, if_neg h3, lookup_putF, if_neg h4, lookup_putF, if_neg h5]
  rfl
/-- rows of pairs of texts -/
inductive Prs (H : Hp) : List V → List (Str × Str) → Prop
  | nil : Prs H [] []
  | cons {p : Addr} {o : Str × Str} {xs : List V} {os : List (Str × Str)} (h : H p = some (.tup [.str o.1, .str o.2])) (t : Prs H xs os) : Prs H (.ref p :: xs) (o :: os)
theorem Prs.mono {H H' : Hp} (f : ∀ (p : Addr) (xs : List V), H p = some (.tup xs) → H' p = some (.tup xs)) : ∀ {xs os}, Prs H xs os → Prs H' xs os
  | _, _, .nil => .nil
  | _, _, .cons h t => .cons (f _ _ h) (t.mono f)
theorem Prs.same {H H' : Hp} (s : Same H H') {xs os} (h : Prs H xs os) : Prs H' xs os := h.mono fun _ _ q => s _ _ q
theorem Prs.snoc {H : Hp} {p : Addr} {o : Str × Str} (h : H p = some (.tup [.str o.1, .str o.2])) : ∀ {xs os}, Prs H xs os → Prs H (xs ++ [.ref p]) (os ++ [o])
  | _, _, .nil => .cons h .nil
  | _, _, .cons a t => .cons a (t.snoc h)
theorem Prs.len {H : Hp} : ∀ {xs os}, Prs H xs os → xs.length = os.length
  | _, _, .nil => rfl
  | _, _, .cons _ t => congrArg (· + 1) t.len
def Ords (H : Hp) (p : Addr) (ws : List Str) : Prop := ∃ xs, H p = some (.tup xs) ∧ Prs H xs (ws.map orderOf)
/-- a loop of this text stands at o -/
def LoopAt (C : Addr) (H : Hp) (o : Addr) (t : Str) : Prop := ∃ dx pr pe po pq, H o = some (.ins C dx (lf t pr pe po pq)) ∧ H pr = some (.tup (svs (wordsR t))) ∧ H pe = some (.tup (svs (wordsE t))) ∧ Ords H po (wordsR t) ∧ Ords H pq (wordsE t)
theorem Ords.mono {H H' : Hp} (f : ∀ (p : Addr) (xs : List V), H p = some (.tup xs) → H' p = some (.tup xs)) {p : Addr} {ws : List Str} (h : Ords H p ws) : Ords H' p ws := let ⟨xs, e, q⟩ := h; ⟨xs, f _ _ e, q.mono f⟩
theorem LoopAt.same {C : Addr} {H H' : Hp} {o : Addr} {t : Str} (s : Same H H') (h : LoopAt C H o t) : LoopAt C H' o t := let ⟨dx, pr, pe, po, pq, a, b, c, d, e⟩ := h; ⟨dx, pr, pe, po, pq, s _ _ a, s _ _ b, s _ _ c, d.mono fun _ _ z => s _ _ z, e.mono fun _ _ z => s _ _ z⟩
theorem LoopAt.off {C j : Addr} {H H' : Hp} {o : Addr} {t : Str} (s : Off j H H') (hj : Jar H j) (h : LoopAt C H o t) : LoopAt C H' o t := by
  obtain ⟨x, y, z, hj⟩ := hj
  have f : ∀ (p : Addr) (xs : List V), H p = some (.tup xs) → H' p = some (.tup xs) := fun p xs e => s _ _ (ne_of e hj (by intro z; cases z)) e
  obtain ⟨dx, pr, pe, po, pq, a, b, c, d, e⟩ := h
  exact ⟨dx, pr, pe, po, pq, s _ _ (ne_of a hj (by intro z; cases z)) a, f _ _ b, f _ _ c, d.mono f, e.mono f⟩
/-! ### the text of the class -/
structure TxC (K : PySem.W.Frag) (mg : Str → Option Value) where
  L : TxL K mg
  E : TxE K mg
  isi : mg "isinstance" = none
  str : mg "str" = none
  C : Addr
  gC : mg "Loop" = some (.ref C)
  cl : Cls K C
  nT : NoAttr K C "text"
  nR : NoAttr K C "round"
  nE : NoAttr K C "ending"
  nO : NoAttr K C "round_orders"
  nQ : NoAttr K C "ending_orders"
  fI : Addr
  fdI : FuncData
  FI : Fun K "__init__" "Loop.__init__" sLI fI fdI
  bI : Binds K fdI ["self", "text"] []
  MI : Mk K C fI
/-- v makes a loop -/
def good : V → Bool
  | .str t => goodText t
  | _ => false
def BdV : V → Prop
  | .str t => Bd t
  | _ => True
def spLI (K : PySem.W.Frag) (C CE : Addr) : Sp := fun vs H Q E => ∃ (x dx : Addr) (v : V), vs = [.ref x, v] ∧ H x = some (.ins C dx []) ∧ Typed K H v ∧ BdV v ∧
  (∀ t, v = .str t → goodText t = true → ∀ H' : Hp, Off x H H' → LoopAt C H' x t → Q .non H') ∧
  (good v = false → ∀ (H' : Hp) (d : Addr), Same H H' → H' d = none → E (.ref CE) (some d) (upd H' d (.xd [("value", v)])))
theorem scLI : FnScope ["self", "text", "first_words", "last_words", "word"] ["self", "text"] (defScope sLI) := ⟨rfl, rfl, rfl, by decide +kernel, rfl, by decide +kernel, by decide +kernel⟩
/-- [order_of(word) for word in words] -/
theorem ords_lc {K : PySem.W.Frag} {σ : St} {H1 : Hp} {D a : Addr} {ws : List Str} {Qd : Hp → Prop} (h4 : ∀ v, ((wipe σ [4]).set 4 (some v))[4]? = some (some v) ∧ wipe ((wipe σ [4]).set 4 (some v)) [4] = wipe σ [4])
    (ha : H1 a = some (.tup (svs ws))) (bd : BdW ws) (nD : H1 D = none) (hd : ∀ (H' : Hp) (xs : List V), Same H1 H' → H' D = some (.lst xs) → Prs H' xs (ws.map orderOf) → Qd H') :
    ∃ W : Nat → Nat → Hp → Prop, (∃ m, W 0 m (upd H1 D (.lst []))) ∧ ∀ (i m : Nat) (H : Hp), W i m H →
      ((Itt K a).stop i H ∧ Qd H) ∨ ((Itt K a).go i H ∧ ∃ Nx : Hp → Prop, (∀ H', Nx H' → ∃ m', m' < m ∧ W (i + 1) m' H') ∧ ∀ (x : V) (H' : Hp), (Itt K a).yld i H x H' → gName 4 x (wipe σ [4]) H' fun σ2 H2 => wipe σ2 [4] = wipe σ [4] ∧ tYes σ2 H2 fun b H3 =>
        if b = true then tCall spOO [] E0 (tCons (tVar 4) tNil) σ2 H3 fun y H4 => ∃ acc, H4 D = some (.lst acc) ∧ acc.length < sizeLine ∧ Nx (upd H4 D (.lst (acc ++ [y]))) else Nx H3) := by
  refine lc_tup (K := K) (a := a) (xs := svs ws) (fun i H' => Same H1 H' ∧ ∃ acc, H' D = some (.lst acc) ∧ Prs H' acc ((ws.take i).map orderOf)) ⟨same_new nD, [], upd_same, .nil⟩ (fun i H' _ ⟨s, _⟩ => SqT.of (s _ _ ha)) ?_ ?_
  · rintro i x H' hx ⟨s, acc, hD, hP⟩
    obtain ⟨z, hz, rfl⟩ := svs_get hx
    obtain ⟨z4, zw⟩ := h4 (.str z)
    refine ⟨zw, _, z4, z, rfl, bd.1 z (List.mem_of_getElem? hz), fun H2 p s2 np hp => ?_⟩
    have hD2 := s2 _ _ hD
    have st := tup_stays (o' := .lst (acc ++ [.ref p])) hD2 (by intro xs z; cases z)
    have la := hP.len
    rw [List.length_map, List.length_take] at la
    have := bd.2
    refine ⟨acc, hD2, szM (by omega), fun b o q => ?_, _, upd_same, ?_⟩
    · rw [upd_ne (ne_of_none q nD)]
      exact s2 _ _ (s _ _ q)
    · rw [take_snoc hz, List.map_append]
      exact Prs.snoc (st _ _ hp) ((hP.same s2).mono st)
  · rintro H' ⟨s, acc, hD, hP⟩
    have e : (svs ws).length = ws.length := List.length_map ..
    rw [e, List.take_length] at hP
    exact hd H' acc s hD hP
theorem ok_li (T : TxC K mg) : FnOk P w K mg base (L2.CX P w) 4 T.fI T.fdI ["self", "text"] (spLI K T.C T.E.C) := by
  have GW : FnOk P w K mg base CX0 1 T.L.wo.f T.L.wo.fd ["text"] spWO := ok_wo T.L
  have GO : FnOk P w K mg base CX0 1 T.L.oo.f T.L.oo.fd ["word"] spOO := ok_oo T.L
  have GR : FnOk P w K mg base CX0 3 T.L.ir.f T.L.ir.fd ["words"] (spIR K) := ok_ir T.L
  have GN : FnOk P w K mg base CX0 3 T.L.ie.f T.L.ie.fd ["words"] (spIE K) := ok_ie T.L
  have GE : FnOk P w K mg base CX0 1 T.E.f T.E.fd ["self", "value"] (spEI T.E.C) := ok_ei T.E
  refine T.FI.okX scLI (fun vs H Q E h => ?_) (fun cdv A outer s H vs Q E hr h => ?_)
  · obtain ⟨x, dx, v, rfl, _⟩ := h
    rfl
  · obtain ⟨x, dx, v, rfl, hx, ⟨t, ty, kt⟩, bd, kg, kb⟩ := h
    have hr1 : Room 1 _ := hr.mono (by decide)
    have hr2 : Room 2 _ := hr.mono (by decide)
    have ps : Bool := true
    refine ⟨_, pss_cons (ps_if (pt_not (pt_val (pe_callB call_isi (by rfl) T.isi (by decide +kernel) (pa_cons (pv 1) (pa_cons (pe_bltn (v := .ty "str") (by rfl) T.str (by decide +kernel) rfl) pa_nil))))) (pss_one (ps_raise rfl (takes_of rfl rfl rfl rfl) (pmk_oex T.E.o T.E.i T.E.t GE hr2 T.E.b .nil pass0 rfl T.E.g (pa_cons (pv 1) pa_nil)))) pss_nil)
      (pss_cons (ps_asg (pe_call GW hr1 rfl T.L.wo.g T.L.wo.k T.L.wo.b .nil pass0 (pa_cons (pv 1) pa_nil)) (pg_tup rfl (pgs_cons (pg_name (i := 2) scLI.nd rfl (.inl rfl)) (pgs_cons (pg_name (i := 3) scLI.nd rfl (.inl rfl)) pgs_nil))))
      (pss_cons (ps_if (PW.pt (pw_or (pt_not (pt_val (pe_call GR hr rfl T.L.ir.g T.L.ir.k T.L.ir.b .nil pass0 (pa_cons (pv 2) pa_nil)))) (pw_or1 (pt_not (pt_val (pe_call GN hr rfl T.L.ie.g T.L.ie.k T.L.ie.b .nil pass0 (pa_cons (pv 3) pa_nil)))))))
          (pss_one (ps_raise rfl (takes_of rfl rfl rfl rfl) (pmk_oex T.E.o T.E.i T.E.t GE hr2 T.E.b .nil pass0 rfl T.E.g (pa_cons (pv 1) pa_nil)))) pss_nil)
      (pss_cons (ps_fld (pv 0) (pv 1) rfl) (pss_cons (ps_fld (pv 0) (pv 2) rfl) (pss_cons (ps_fld (pv 0) (pv 3) rfl)
      (pss_cons (ps_fld (pv 0) (pe_callTy call_tuple_of (by rfl) T.L.tuple (by decide +kernel) (pa_cons (pe_lc (own := [("word", 4)]) (g := gName 4) (tt := tYes) (te := tCall spOO [] E0 (tCons (tVar 4) tNil)) rfl scLI.nd (pi_tup (pv 2)) (blkOk_by (own := [("word", 4)]) (N := ["self", "text", "first_words", "last_words", "word"]) (sc := defScope sLI) (by decide +kernel))
          (fun _ _ _ _ _ => pg_name (i := 4) scLI.nd rfl (Or.inl rfl)) (fun _ _ _ _ _ => pts_nil) (fun _ _ _ _ _ => by exact pe_call GO hr1 rfl T.L.oo.g T.L.oo.k T.L.oo.b .nil pass0 (pa_cons (pv 4) pa_nil))) pa_nil)) rfl)
      (pss_one (ps_fld (pv 0) (pe_callTy call_tuple_of (by rfl) T.L.tuple (by decide +kernel) (pa_cons (pe_lc (own := [("word", 4)]) (g := gName 4) (tt := tYes) (te := tCall spOO [] E0 (tCons (tVar 4) tNil)) rfl scLI.nd (pi_tup (pv 3)) (blkOk_by (own := [("word", 4)]) (N := ["self", "text", "first_words", "last_words", "word"]) (sc := defScope sLI) (by decide +kernel))
          (fun _ _ _ _ _ => pg_name (i := 4) scLI.nd rfl (Or.inl rfl)) (fun _ _ _ _ _ => pts_nil) (fun _ _ _ _ _ => by exact pe_call GO hr1 rfl T.L.oo.g T.L.oo.k T.L.oo.b .nil pass0 (pa_cons (pv 4) pa_nil))) pa_nil)) rfl)))))))), ?_⟩
    refine ⟨_, rfl, _, _, _, _, isS v, rfl, .ty "str", ty, kt, _, rfl, ?_⟩
    cases hs : isS v with
    | false =>
      refine iteT ?_
      have gv : good v = false := by
        cases v <;> first | rfl | cases hs
      exact mk_err (x := v) ⟨v, rfl, rfl, rfl⟩ (fun {R R'} ⟨v, e1, q⟩ f => ⟨v, e1, f _ _ q⟩) (kb gv H · (Same.refl _))
    | true =>
      obtain ⟨t, rfl⟩ : ∃ t, v = .str t := by
        cases v <;> first | exact ⟨_, rfl⟩ | cases hs
      have bd : Bd t := bd
      have kg := kg t rfl
      refine iteF ?_
      refine ⟨_, rfl, t, rfl, bd, fun H1 p a b s1 hp ha hb => ?_⟩
      refine ⟨p, _, rfl, SqT.of hp, rfl, _, _, rfl, _, _, rfl, rfl, ?_⟩
      have bR : BdW (wordsR t) := ⟨fun z hz => Nat.le_trans (wordsR_word hz) bd, Nat.le_trans (wordsR_len t) (by unfold Bd at bd; omega)⟩
      have bE : BdW (wordsE t) := ⟨fun z hz => Nat.le_trans (wordsE_word hz) bd, Nat.le_trans (wordsE_len t) (by unfold Bd at bd; omega)⟩
      refine ⟨_, rfl, a, wordsR t, rfl, wordsR_ne t, bR, SqT.of ha, fun H2 s2 => ?_⟩
      have gt : goodText t = (isRound (wordsR t) && isEnding (wordsE t)) := rfl
      have gv : good (.str t) = goodText t := rfl
      rw [gv] at kb
      refine ⟨_, rfl, ?_⟩
      cases h1 : isRound (wordsR t) with
      | false =>
        rw [gt, h1] at kb
        refine iteT (iteT ?_)
        exact mk_err (x := .str t) ⟨.str t, rfl, rfl, rfl⟩ (fun {R R'} ⟨v, e1, q⟩ f => ⟨v, e1, f _ _ q⟩) (kb rfl H2 · (Same.trans s1 s2))
      | true =>
        refine iteF ?_
        refine ⟨_, rfl, b, wordsE t, rfl, bE, SqT.of (s2 _ _ hb), fun H3 s3 => ?_⟩
        refine ⟨_, rfl, ?_⟩
        have s13 := Same.trans s1 (Same.trans s2 s3)
        cases h2 : isEnding (wordsE t) with
        | false =>
          rw [gt, h1, h2] at kb
          refine iteT ?_
          exact mk_err (x := .str t) ⟨.str t, rfl, rfl, rfl⟩ (fun {R R'} ⟨v, e1, q⟩ f => ⟨v, e1, f _ _ q⟩) (kb rfl H3 · s13)
        | true =>
          have kg := kg (by rw [gt, h1, h2]; rfl)
          refine iteF ?_
          have hx3 := s13 _ _ hx
          have ha3 := s3 _ _ (s2 _ _ ha)
          have hb3 := s3 _ _ (s2 _ _ hb)
          have o3 : Off x H H3 := Same.off s13
          clear s1 s2 s3 hp ha hb hx kb s13
          -- text
          refine ⟨_, rfl, _, rfl, x, T.C, dx, _, rfl, hx3, T.cl, T.nT, (by show 0 < 1000; decide), ?_⟩
          have st := tup_stays (o' := .ins T.C dx (putF "text" (.str t) [])) hx3 (by intro xs z; cases z)
          have hx4 : (upd H3 x (.ins T.C dx (putF "text" (.str t) []))) x = some (.ins T.C dx (putF "text" (.str t) [])) := upd_same
          have ha4 := st _ _ ha3
          have hb4 := st _ _ hb3
          have o4 : Off x H (upd H3 x (.ins T.C dx (putF "text" (.str t) []))) := o3.put
          generalize upd H3 x (.ins T.C dx (putF "text" (.str t) [])) = H4 at hx4 ha4 hb4 o4 ⊢
          clear st ha3 hb3 o3 hx3
          -- round
          refine ⟨_, rfl, _, rfl, x, T.C, dx, _, rfl, hx4, T.cl, T.nR, (by show 1 < 1000; decide), ?_⟩
          have st := tup_stays (o' := .ins T.C dx (putF "round" (.ref a) (putF "text" (.str t) []))) hx4 (by intro xs z; cases z)
          have hx5 : (upd H4 x (.ins T.C dx (putF "round" (.ref a) (putF "text" (.str t) [])))) x = some (.ins T.C dx (putF "round" (.ref a) (putF "text" (.str t) []))) := upd_same
          have ha5 := st _ _ ha4
          have hb5 := st _ _ hb4
          have o5 : Off x H (upd H4 x (.ins T.C dx (putF "round" (.ref a) (putF "text" (.str t) [])))) := o4.put
          generalize upd H4 x (.ins T.C dx (putF "round" (.ref a) (putF "text" (.str t) []))) = H5 at hx5 ha5 hb5 o5 ⊢
          clear st ha4 hb4 o4 hx4
          -- ending
          refine ⟨_, rfl, _, rfl, x, T.C, dx, _, rfl, hx5, T.cl, T.nE, Nat.lt_of_le_of_lt (putF_len _ _ _) (Nat.lt_of_le_of_lt (Nat.add_le_add_right (putF_len _ _ _) 1) (by decide)), ?_⟩
          have st := tup_stays (o' := .ins T.C dx (putF "ending" (.ref b) (putF "round" (.ref a) (putF "text" (.str t) [])))) hx5 (by intro xs z; cases z)
          have hx6 : (upd H5 x (.ins T.C dx (putF "ending" (.ref b) (putF "round" (.ref a) (putF "text" (.str t) []))))) x = some (.ins T.C dx (putF "ending" (.ref b) (putF "round" (.ref a) (putF "text" (.str t) [])))) := upd_same
          have ha6 := st _ _ ha5
          have hb6 := st _ _ hb5
          have o6 : Off x H (upd H5 x (.ins T.C dx (putF "ending" (.ref b) (putF "round" (.ref a) (putF "text" (.str t) []))))) := o5.put
          generalize upd H5 x (.ins T.C dx (putF "ending" (.ref b) (putF "round" (.ref a) (putF "text" (.str t) [])))) = H6 at hx6 ha6 hb6 o6 ⊢
          clear st ha5 hb5 o5 hx5
          -- round_orders
          refine ⟨_, rfl, a, rfl, ⟨_, SqT.of ha6⟩, fun D nD => ords_lc (K := K) (a := a) (ws := wordsR t) (fun v => ⟨rfl, rfl⟩) ha6 bR nD fun H7 os s7 hD hP => ?_⟩
          refine ⟨D, os, rfl, .inl ⟨SqL.of hD, fun po npo => ?_⟩⟩
          have s8 : Same H6 (upd H7 po (.tup os)) := Same.trans s7 (same_new npo)
          have hpo : (upd H7 po (.tup os)) po = some (.tup os) := upd_same
          have hP8 := hP.same (same_new (o := .tup os) npo)
          refine ⟨_, rfl, x, T.C, dx, _, rfl, s8 _ _ hx6, T.cl, T.nO, Nat.lt_of_le_of_lt (putF_len _ _ _) (Nat.lt_of_le_of_lt (Nat.add_le_add_right (putF_len _ _ _) 1) (Nat.lt_of_le_of_lt (Nat.add_le_add_right (Nat.add_le_add_right (putF_len _ _ _) 1) 1) (by decide))), ?_⟩
          generalize upd H7 po (.tup os) = H8 at s8 hpo hP8 ⊢
          have hx8 := s8 _ _ hx6
          have o8 : Off x H H8 := o6.trans (Same.off s8)
          have ha8 := s8 _ _ ha6
          have hb8 := s8 _ _ hb6
          clear ha6 hb6 o6 hx6 s8 hD hP npo s7 nD
          have st := tup_stays (o' := .ins T.C dx (putF "round_orders" (.ref po) (putF "ending" (.ref b) (putF "round" (.ref a) (putF "text" (.str t) []))))) hx8 (by intro xs z; cases z)
          have hx9 : (upd H8 x (.ins T.C dx (putF "round_orders" (.ref po) (putF "ending" (.ref b) (putF "round" (.ref a) (putF "text" (.str t) [])))))) x = some (.ins T.C dx (putF "round_orders" (.ref po) (putF "ending" (.ref b) (putF "round" (.ref a) (putF "text" (.str t) []))))) := upd_same
          have ha9 := st _ _ ha8
          have hb9 := st _ _ hb8
          have hpo9 : Ords _ po (wordsR t) := ⟨os, st _ _ hpo, hP8.mono st⟩
          have o9 : Off x H (upd H8 x (.ins T.C dx (putF "round_orders" (.ref po) (putF "ending" (.ref b) (putF "round" (.ref a) (putF "text" (.str t) [])))))) := o8.put
          generalize upd H8 x (.ins T.C dx (putF "round_orders" (.ref po) (putF "ending" (.ref b) (putF "round" (.ref a) (putF "text" (.str t) []))))) = H9 at hx9 ha9 hb9 o9 hpo9 ⊢
          clear st ha8 hb8 o8 hx8 hpo hP8
          -- ending_orders
          refine ⟨_, rfl, b, rfl, ⟨_, SqT.of hb9⟩, fun D nD => ords_lc (K := K) (a := b) (ws := wordsE t) (fun v => ⟨rfl, rfl⟩) hb9 bE nD fun H10 os2 s10 hD hP => ?_⟩
          refine ⟨D, os2, rfl, .inl ⟨SqL.of hD, fun pq npq => ?_⟩⟩
          have s11 : Same H9 (upd H10 pq (.tup os2)) := Same.trans s10 (same_new npq)
          have hpq : (upd H10 pq (.tup os2)) pq = some (.tup os2) := upd_same
          have hP11 := hP.same (same_new (o := .tup os2) npq)
          refine ⟨_, rfl, x, T.C, dx, _, rfl, s11 _ _ hx9, T.cl, T.nQ, Nat.lt_of_le_of_lt (putF_len _ _ _) (Nat.lt_of_le_of_lt (Nat.add_le_add_right (putF_len _ _ _) 1) (Nat.lt_of_le_of_lt (Nat.add_le_add_right (Nat.add_le_add_right (putF_len _ _ _) 1) 1) (Nat.lt_of_le_of_lt (Nat.add_le_add_right (Nat.add_le_add_right (Nat.add_le_add_right (putF_len _ _ _) 1) 1) 1) (by decide)))), ?_⟩
          generalize upd H10 pq (.tup os2) = H11 at s11 hpq hP11 ⊢
          have hx11 := s11 _ _ hx9
          have st := tup_stays (o' := .ins T.C dx (lf t a b po pq)) hx11 (by intro xs z; cases z)
          refine kg _ (Off.put (o9.trans (Same.off s11))) ⟨dx, a, b, po, pq, upd_same, st _ _ (s11 _ _ ha9), st _ _ (s11 _ _ hb9), (hpo9.mono fun _ _ z => s11 _ _ z).mono st, os2, st _ _ hpq, hP11.mono st⟩
end
end My

/-! what a loop does with a reply -/
namespace EM
open PySem L2
def ivs (xs : List Int) : List V := xs.map V.int
theorem ivs_len (xs : List Int) : (ivs xs).length = xs.length := List.length_map ..
/-- what the words of a round change -/
structure RP where
  rest : List Int
  pieces : List (List Int)
def passM (size : Nat) (held : List Int) (told : Bool) (t : Str) (rest : List Int) : Bool :=
  if t = "" then true
  else if t = "told" ∨ t = "open" then told == decide (t = "told")
  else if t = "rest" ∨ t = "bare" then decide (0 < rest.length) == decide (t = "rest")
  else if t = "empty" ∨ t = "some" then decide (0 < held.length) == decide (t = "some")
  else decide (held.length < size) == decide (t = "short")
def cutN (size : Nat) (rest : List Int) (n : Nat) : List (List Int) := (List.range n).map fun k => (rest.drop (k * size)).take size
def perfM (size : Nat) (held : List Int) (s : Str) (x : RP) : RP :=
  if s = "add" then ⟨x.rest ++ held, x.pieces⟩
  else if s = "hand" then ⟨x.rest, x.pieces ++ [held]⟩
  else if s = "cut" then ⟨x.rest.drop (x.rest.length / size * size), x.pieces ++ cutN size x.rest (x.rest.length / size)⟩
  else if s = "flush" then ⟨[], x.pieces ++ [x.rest]⟩
  else x
def runW (size : Nat) (held : List Int) (told : Bool) : List (Str × Str) → RP → RP × Bool
  | [], x => (x, false)
  | (t, s) :: r, x => if passM size held told t x.rest = true then (if s = "again" then (x, false) else if s = "stop" then (x, true) else runW size held told r (perfM size held s x)) else runW size held told r x
def endW (size : Nat) (held : List Int) (told : Bool) : List (Str × Str) → RP → RP
  | [], x => x
  | (t, s) :: r, x => endW size held told r (if passM size held told t x.rest = true then perfM size held s x else x)
def ansM (size : Nat) (ro eo : List (Str × Str)) (held : List Int) (told : Bool) (x : RP) : RP × Bool :=
  if (runW size held told ro x).2 = true then (endW size held told eo (runW size held told ro x).1, true) else ((runW size held told ro x).1, false)
/-! ### bounds -/
/-- the rest has at most k sizes of items, and there are at most c pieces -/
def Few (size k c : Nat) (x : RP) : Prop := x.rest.length ≤ k * size ∧ x.pieces.length ≤ c
theorem Few.mono {size k c k' c' : Nat} {x : RP} (h : Few size k c x) (hk : k ≤ k') (hc : c ≤ c') : Few size k' c' x := ⟨Nat.le_trans h.1 (Nat.mul_le_mul_right _ hk), Nat.le_trans h.2 hc⟩
theorem few_perf {size k c : Nat} {held : List Int} {s : Str} {x : RP} (hs : 1 ≤ size) (hh : held.length ≤ size) (h : Few size k c x) : Few size (k + 1) (c + (k + 1)) (perfM size held s x) := by
  have e : (k + 1) * size = k * size + size := Nat.succ_mul k size
  have q : x.rest.length / size ≤ k := by
    have := Nat.div_le_div_right (c := size) h.1
    rwa [Nat.mul_div_cancel _ (by omega)] at this
  obtain ⟨h1, h2⟩ := h
  unfold perfM Few
  split
  · refine ⟨?_, by show x.pieces.length ≤ _; omega⟩
    show (x.rest ++ held).length ≤ _
    rw [List.length_append]
    omega
  · split
    · refine ⟨by show x.rest.length ≤ _; omega, ?_⟩
      show (x.pieces ++ [held]).length ≤ _
      rw [List.length_append]
      show x.pieces.length + 1 ≤ _
      omega
    · split
      · refine ⟨?_, ?_⟩
        · show (x.rest.drop _).length ≤ _
          rw [List.length_drop]
          omega
        · show (x.pieces ++ cutN size x.rest (x.rest.length / size)).length ≤ _
          rw [List.length_append, cutN, List.length_map, List.length_range]
          omega
      · split
        · refine ⟨Nat.zero_le _, ?_⟩
          show (x.pieces ++ [x.rest]).length ≤ _
          rw [List.length_append]
          show x.pieces.length + 1 ≤ _
          omega
        · exact ⟨by omega, by omega⟩
theorem few_run {size : Nat} {held : List Int} {told : Bool} (hs : 1 ≤ size) (hh : held.length ≤ size) : ∀ (ro : List (Str × Str)) (k c : Nat) (x : RP), Few size k c x → Few size (k + ro.length) (c + ro.length * (k + ro.length)) (runW size held told ro x).1
  | [], k, c, x, h => by simpa [runW] using h
  | (t, s) :: r, k, c, x, h => by
    have m : Few size (k + (r.length + 1)) (c + (r.length + 1) * (k + (r.length + 1))) x := h.mono (by omega) (by omega)
    unfold runW
    rw [List.length_cons]
    split
    · split
      · exact m
      · split
        · exact m
        · have ih := few_run (told := told) hs hh r (k + 1) (c + (k + 1)) _ (few_perf (s := s) hs hh h)
          refine ih.mono (by omega) ?_
          rw [Nat.succ_mul]
          have e1 : k + 1 + r.length = k + (r.length + 1) := by omega
          rw [e1]
          omega
    · have ih := few_run (told := told) hs hh r k c x h
      refine ih.mono (by omega) ?_
      have : r.length * (k + r.length) ≤ (r.length + 1) * (k + (r.length + 1)) := Nat.mul_le_mul (by omega) (by omega)
      omega
theorem few_end {size : Nat} {held : List Int} {told : Bool} (hs : 1 ≤ size) (hh : held.length ≤ size) : ∀ (eo : List (Str × Str)) (k c : Nat) (x : RP), Few size k c x → Few size (k + eo.length) (c + eo.length * (k + eo.length)) (endW size held told eo x)
  | [], k, c, x, h => by simpa [endW] using h
  | (t, s) :: r, k, c, x, h => by
    unfold endW
    rw [List.length_cons]
    have h2 : Few size (k + 1) (c + (k + 1)) (if passM size held told t x.rest = true then perfM size held s x else x) := by
      split
      · exact few_perf hs hh h
      · exact h.mono (by omega) (by omega)
    have ih := few_end (told := told) hs hh r (k + 1) (c + (k + 1)) _ h2
    refine ih.mono (by omega) ?_
    rw [Nat.succ_mul]
    have e1 : k + 1 + r.length = k + (r.length + 1) := by omega
    rw [e1]
    omega
/-- after one reply -/
theorem few_ans {size : Nat} {ro eo : List (Str × Str)} {held : List Int} {told : Bool} {k c : Nat} {x : RP} (hs : 1 ≤ size) (hh : held.length ≤ size) (l1 : ro.length ≤ 12) (l2 : eo.length ≤ 6) (h : Few size k c x) :
    Few size (k + 18) (c + 18 * (k + 18)) (ansM size ro eo held told x).1 := by
  have a := few_run (told := told) hs hh ro k c x h
  have a1 : Few size (k + 12) (c + 12 * (k + 12)) (runW size held told ro x).1 := a.mono (by omega) (Nat.add_le_add_left (Nat.mul_le_mul l1 (by omega)) _)
  unfold ansM
  split
  · have b := few_end (told := told) hs hh eo _ _ _ a1
    refine b.mono (by omega) ?_
    have : eo.length * (k + 12 + eo.length) ≤ 6 * (k + 18) := Nat.mul_le_mul l2 (by omega)
    omega
  · exact a1.mono (by omega) (by omega)
end EM

/-! the class Execution -/
namespace My
open PySem L2 Cm LM EM
abbrev sXI : Stmt := inClass (top 50) 0
abbrev sXA : Stmt := inClass (top 50) 1
abbrev sXF : Stmt := inClass (top 50) 3
abbrev sXP : Stmt := inClass (top 50) 4
abbrev sXR : Stmt := inClass (top 50) 5
abbrev sXC : Stmt := inClass (top 50) 6
/-! ### the data -/
def xf (ro eo : Addr) (ak sz : Nat) (h : Addr) (t : Bool) (r p : Addr) (st : Bool) : List (Str × V) := [("round_orders", .ref ro), ("ending_orders", .ref eo), ("size", .int sz), ("held", .ref h), ("told", .bl t), ("kept", .ref r), ("handed", .ref p), ("asked", .int ak), ("over", .bl st)]
section
variable (ro eo h r p h' : Addr) (ak ak' sz : Nat) (t st b : Bool)
theorem xf_ro : (xf ro eo ak sz h t r p st).lookup ("round_orders" : Str) = some (.ref ro) := by kernel_rfl
theorem xf_eo : (xf ro eo ak sz h t r p st).lookup ("ending_orders" : Str) = some (.ref eo) := by kernel_rfl
theorem xf_sz : (xf ro eo ak sz h t r p st).lookup ("size" : Str) = some (.int sz) := by kernel_rfl
theorem xf_h : (xf ro eo ak sz h t r p st).lookup ("held" : Str) = some (.ref h) := by kernel_rfl
theorem xf_t : (xf ro eo ak sz h t r p st).lookup ("told" : Str) = some (.bl t) := by kernel_rfl
theorem xf_r : (xf ro eo ak sz h t r p st).lookup ("kept" : Str) = some (.ref r) := by kernel_rfl
theorem xf_p : (xf ro eo ak sz h t r p st).lookup ("handed" : Str) = some (.ref p) := by kernel_rfl
theorem xf_st : (xf ro eo ak sz h t r p st).lookup ("over" : Str) = some (.bl st) := by kernel_rfl
theorem put_h : putF "held" (.ref h') (xf ro eo ak sz h t r p st) = xf ro eo ak sz h' t r p st := by kernel_rfl
theorem put_t : putF "told" (.bl b) (xf ro eo ak sz h t r p st) = xf ro eo ak sz h b r p st := by kernel_rfl
theorem put_r : putF "kept" (.ref h') (xf ro eo ak sz h t r p st) = xf ro eo ak sz h t h' p st := by kernel_rfl
theorem xf_ak : (xf ro eo ak sz h t r p st).lookup ("asked" : Str) = some (.int ak) := by kernel_rfl
theorem put_ak : putF "asked" (.int ak') (xf ro eo ak sz h t r p st) = xf ro eo ak' sz h t r p st := by kernel_rfl
theorem put_st : putF "over" (.bl b) (xf ro eo ak sz h t r p st) = xf ro eo ak sz h t r p b := by kernel_rfl
theorem xf_mk : putF "over" (.bl st) (putF "asked" (.int ak) (putF "handed" (.ref p) (putF "kept" (.ref r) (putF "told" (.bl t) (putF "held" (.ref h) (putF "size" (.int sz) (putF "ending_orders" (.ref eo) (putF "round_orders" (.ref ro) [])))))))) = xf ro eo ak sz h t r p st := by kernel_rfl
theorem xf_len : (xf ro eo ak sz h t r p st).length = 9 := rfl
theorem xf_noA : (xf ro eo ak sz h t r p st).lookup ("answer" : Str) = none ∧ (xf ro eo ak sz h t r p st).lookup ("finish" : Str) = none ∧ (xf ro eo ak sz h t r p st).lookup ("passes" : Str) = none ∧ (xf ro eo ak sz h t r p st).lookup ("perform" : Str) = none ∧ (xf ro eo ak sz h t r p st).lookup ("cut_off" : Str) = none ∧ (xf ro eo ak sz h t r p st).lookup ("answer_nothing" : Str) = none := ⟨by kernel_rfl, by kernel_rfl, by kernel_rfl, by kernel_rfl, by kernel_rfl, by kernel_rfl⟩
end
/-- rows of pieces -/
inductive Pcs (H : Hp) : List V → List (List Int) → Prop
  | nil : Pcs H [] []
  | cons {q : Addr} {x : List Int} {vs : List V} {xs : List (List Int)} (h : H q = some (.tup (ivs x))) (t : Pcs H vs xs) : Pcs H (.ref q :: vs) (x :: xs)
theorem Pcs.mono {H H' : Hp} (f : ∀ (p : Addr) (xs : List V), H p = some (.tup xs) → H' p = some (.tup xs)) : ∀ {vs xs}, Pcs H vs xs → Pcs H' vs xs
  | _, _, .nil => .nil
  | _, _, .cons h t => .cons (f _ _ h) (t.mono f)
theorem Pcs.snoc {H : Hp} {q : Addr} {x : List Int} (h : H q = some (.tup (ivs x))) : ∀ {vs xs}, Pcs H vs xs → Pcs H (vs ++ [.ref q]) (xs ++ [x])
  | _, _, .nil => .cons h .nil
  | _, _, .cons a t => .cons a (t.snoc h)
theorem Pcs.len {H : Hp} : ∀ {vs xs}, Pcs H vs xs → vs.length = xs.length
  | _, _, .nil => rfl
  | _, _, .cons _ t => congrArg (· + 1) t.len
/-- tuples stay -/
def TS (H H' : Hp) : Prop := ∀ (p : Addr) (xs : List V), H p = some (.tup xs) → H' p = some (.tup xs)
theorem TS.refl {H : Hp} : TS H H := fun _ _ e => e
theorem TS.trans {H H1 H2 : Hp} (a : TS H H1) (b : TS H1 H2) : TS H H2 := fun p xs e => b p xs (a p xs e)
theorem Same.ts {H H' : Hp} (s : Same H H') : TS H H' := fun _ _ e => s _ _ e
/-- an execution stands at o, its pieces at p -/
structure ExAt (C : Addr) (H : Hp) (o dx ro eo p : Addr) (ak sz : Nat) (held : List Int) (told : Bool) (x : RP) (st : Bool) : Prop where
  ex : ∃ h r vs, H o = some (.ins C dx (xf ro eo ak sz h told r p st)) ∧ H h = some (.tup (ivs held)) ∧ H r = some (.tup (ivs x.rest)) ∧ H p = some (.lst vs) ∧ Pcs H vs x.pieces
theorem ExAt.same {C : Addr} {H H' : Hp} {o dx ro eo p : Addr} {ak sz : Nat} {held : List Int} {told : Bool} {x : RP} {st : Bool} (s : Same H H') (h : ExAt C H o dx ro eo p ak sz held told x st) : ExAt C H' o dx ro eo p ak sz held told x st := by
  obtain ⟨h', r, vs, a, b, c, d, e⟩ := h.ex
  exact ⟨h', r, vs, s _ _ a, s _ _ b, s _ _ c, s _ _ d, e.mono fun _ _ q => s _ _ q⟩
/-- all but what stands at o and at p is as it was -/
def Off2 (o p : Addr) (H H' : Hp) : Prop := ∀ b u, b ≠ o → b ≠ p → H b = some u → H' b = some u
theorem Off2.refl {o p : Addr} {H : Hp} : Off2 o p H H := fun _ _ _ _ e => e
theorem Off2.trans {o p : Addr} {H H1 H2 : Hp} (a : Off2 o p H H1) (b : Off2 o p H1 H2) : Off2 o p H H2 := fun c u n m e => b c u n m (a c u n m e)
theorem Off2.same {o p : Addr} {H H1 H2 : Hp} (a : Off2 o p H H1) (s : Same H1 H2) : Off2 o p H H2 := fun c u n m e => s _ _ (a c u n m e)
theorem Off2.putO {o p : Addr} {H H1 : Hp} {u : HO} (a : Off2 o p H H1) : Off2 o p H (upd H1 o u) := fun c u n m e => by
  rw [upd_ne n]
  exact a c u n m e
theorem Off2.putP {o p : Addr} {H H1 : Hp} {u : HO} (a : Off2 o p H H1) : Off2 o p H (upd H1 p u) := fun c u n m e => by
  rw [upd_ne m]
  exact a c u n m e
structure TxX (K : PySem.W.Frag) (mg : Str → Option Value) where
  len : mg "len" = none
  range : mg "range" = none
  C : Addr
  gC : mg "Execution" = some (.ref C)
  cl : Cls K C
  nRo : NoAttr K C "round_orders"
  nEo : NoAttr K C "ending_orders"
  nSz : NoAttr K C "size"
  nH : NoAttr K C "held"
  nT : NoAttr K C "told"
  nR : NoAttr K C "kept"
  nP : NoAttr K C "handed"
  nA : NoAttr K C "asked"
  nSt : NoAttr K C "over"
  fI : Addr
  fdI : FuncData
  FI : Fun K "__init__" "Execution.__init__" sXI fI fdI
  bI : Binds K fdI ["self", "round_orders", "ending_orders", "size", "kept"] []
  MI : Mk K C fI
  an : Mt K C "answer" "Execution.answer" sXA ["self", "held", "told"]
  fi : Mt K C "finish" "Execution.finish" sXF ["self"]
  ps : Mt K C "passes" "Execution.passes" sXP ["self", "test"]
  pf : Mt K C "perform" "Execution.perform" sXR ["self", "step"]
  co : Mt K C "cut_off" "Execution.cut_off" sXC ["self"]
section
variable {P : Program} {w : World} {K : PySem.W.Frag} {mg : Str → Option Value} {base : Heap}
/-! ### __init__ -/
def spXI (C : Addr) : Sp := fun vs H Q _ => ∃ (o dx ro eo r : Addr) (sz : Nat) (rest : List Int), vs = [.ref o, .ref ro, .ref eo, .int sz, .ref r] ∧ H o = some (.ins C dx []) ∧ H r = some (.tup (ivs rest)) ∧
  ∀ (H' : Hp) (p : Addr), Off o H H' → H p = none → ExAt C H' o dx ro eo p 0 sz [] false ⟨rest, []⟩ false → Q .non H'
theorem scXI : FnScope ["self", "round_orders", "ending_orders", "size", "kept"] ["self", "round_orders", "ending_orders", "size", "kept"] (defScope sXI) := ⟨rfl, rfl, rfl, by decide +kernel, rfl, by decide +kernel, by decide +kernel⟩
theorem small8 {fs : List (Str × V)} (h : fs.length ≤ 8) : fs.length < 1000 := by omega
theorem putF8 {f : Str} {v : V} {fs : List (Str × V)} {n : Nat} (h : fs.length ≤ n) : (putF f v fs).length ≤ n + 1 := Nat.le_trans (putF_len f v fs) (by omega)
theorem ok_xi (T : TxX K mg) : FnOk P w K mg base CX0 1 T.fI T.fdI ["self", "round_orders", "ending_orders", "size", "kept"] (spXI T.C) := by
  refine T.FI.ok scXI (fun vs H Q E h => ?_) (fun cdv A outer s H vs Q E hr h => ?_)
  · obtain ⟨o, dx, ro, eo, r, sz, rest, rfl, _⟩ := h
    rfl
  · obtain ⟨o, dx, ro, eo, r, sz, rest, rfl, ho, hr', k⟩ := h
    refine ⟨_, pss_cons (ps_fld (pv 0) (pv 1) rfl) (pss_cons (ps_fld (pv 0) (pv 2) rfl) (pss_cons (ps_fld (pv 0) (pv 3) rfl) (pss_cons (ps_fld (pv 0) (pe_tup pa_nil) rfl) (pss_cons (ps_fld (pv 0) pe_bl rfl) (pss_cons (ps_fld (pv 0) (pv 4) rfl)
      (pss_cons (ps_fld (pv 0) (pe_lst pa_nil) rfl) (pss_cons (ps_fld (pv 0) pe_int rfl) (pss_one (ps_fld (pv 0) pe_bl rfl))))))))), ?_⟩
    have l0 : ([] : List (Str × V)).length ≤ 0 := Nat.le_refl _
    refine ⟨_, rfl, _, rfl, o, T.C, dx, _, rfl, ho, T.cl, T.nRo, by decide, ?_⟩
    refine ⟨_, rfl, _, rfl, o, T.C, dx, _, rfl, upd_same, T.cl, T.nEo, Nat.lt_of_le_of_lt (putF8 l0) (by decide), ?_⟩
    refine ⟨_, rfl, _, rfl, o, T.C, dx, _, rfl, upd_same, T.cl, T.nSz, Nat.lt_of_le_of_lt (putF8 (putF8 l0)) (by decide), ?_⟩
    refine ⟨Nat.zero_le _, fun h nh => ?_⟩
    have no : h ≠ o := fun z => by rw [z, upd_same] at nh; cases nh
    refine ⟨_, rfl, o, T.C, dx, _, rfl, (by rw [upd_ne no.symm]; exact upd_same), T.cl, T.nH, Nat.lt_of_le_of_lt (putF8 (putF8 (putF8 l0))) (by decide), ?_⟩
    refine ⟨_, rfl, o, T.C, dx, _, rfl, upd_same, T.cl, T.nT, Nat.lt_of_le_of_lt (putF8 (putF8 (putF8 (putF8 l0)))) (by decide), ?_⟩
    refine ⟨_, rfl, _, rfl, o, T.C, dx, _, rfl, upd_same, T.cl, T.nR, Nat.lt_of_le_of_lt (putF8 (putF8 (putF8 (putF8 (putF8 l0))))) (by decide), ?_⟩
    refine ⟨Nat.zero_le _, fun p np => ?_⟩
    have po : p ≠ o := fun z => by rw [z, upd_same] at np; cases np
    refine ⟨_, rfl, o, T.C, dx, _, rfl, (by rw [upd_ne po.symm]; exact upd_same), T.cl, T.nP, Nat.lt_of_le_of_lt (putF8 (putF8 (putF8 (putF8 (putF8 (putF8 l0)))))) (by decide), ?_⟩
    refine ⟨_, rfl, o, T.C, dx, _, rfl, upd_same, T.cl, T.nA, Nat.lt_of_le_of_lt (putF8 (putF8 (putF8 (putF8 (putF8 (putF8 (putF8 l0))))))) (by decide), ?_⟩
    refine ⟨_, rfl, o, T.C, dx, _, rfl, upd_same, T.cl, T.nSt, Nat.lt_of_le_of_lt (putF8 (putF8 (putF8 (putF8 (putF8 (putF8 (putF8 (putF8 l0)))))))) (by decide), ?_⟩
    rw [show V.int 0 = V.int ((0 : Nat) : Int) from rfl, xf_mk]
    rw [upd_ne po, upd_ne po, upd_ne po] at np
    have ph : p ≠ h := fun z => by rw [z, upd_same] at np; cases np
    rw [upd_ne ph, upd_ne po, upd_ne po, upd_ne po] at np
    rw [upd_ne no, upd_ne no, upd_ne no] at nh
    have r1 : r ≠ o := ne_of hr' ho (by intro z; cases z)
    have r2 : r ≠ h := ne_of_none hr' nh
    have r3 : r ≠ p := ne_of_none hr' np
    refine k _ p (fun b u nb e => ?_) np ⟨h, r, [], upd_same, ?_, ?_, ?_, .nil⟩
    · have b2 : b ≠ h := ne_of_none e nh
      have b3 : b ≠ p := ne_of_none e np
      rw [upd_ne nb, upd_ne nb, upd_ne nb, upd_ne b3, upd_ne nb, upd_ne nb, upd_ne nb, upd_ne b2, upd_ne nb, upd_ne nb, upd_ne nb]
      exact e
    · rw [upd_ne no, upd_ne no, upd_ne no, upd_ne ph.symm, upd_ne no, upd_ne no, upd_ne no, upd_same]
      rfl
    · rw [upd_ne r1, upd_ne r1, upd_ne r1, upd_ne r3, upd_ne r1, upd_ne r1, upd_ne r1, upd_ne r2, upd_ne r1, upd_ne r1, upd_ne r1]
      exact hr'
    · rw [upd_ne po, upd_ne po, upd_ne po, upd_same]
end
end My

namespace My
open PySem L2 Cm LM EM
theorem in2 (t a b : Str) : inV (.str t) [.str a, .str b] = decide (t = a ∨ t = b) := by
  have e : inV (.str t) [.str a, .str b] = decide (t ∈ [a, b]) := inV_svs t [a, b]
  rw [e]
  exact decide_eq_decide.mpr (by simp)
theorem rgC_up {q s : Nat} (hs : 1 ≤ s) (h1 : s ≤ 1000) (h2 : q * s ≤ 4000000) : RgC 0 ((q * s : Nat) : Int) (s : Int) q := by
  have sz : Builtin.Range.rangeSize 0 ((q * s : Nat) : Int) (s : Int) = (q : Int) := by
    rw [PyProof.Rows.rangeSize_pos (by omega) (by omega)]
    have e : ((q * s : Nat) : Int) + (s : Int) - 1 = ((s : Int) - 1) + (q : Int) * (s : Int) := by
      rw [Int.natCast_mul]
      omega
    rw [e, Int.add_mul_ediv_right _ _ (by omega), Int.ediv_eq_zero_of_lt (by omega) (by omega)]
    omega
  refine ⟨by omega, by omega, ?_, sz⟩
  have hq : q ≤ 4000000 := Nat.le_trans (Nat.le_mul_of_pos_right q hs) h2
  unfold Builtin.Range.small
  rw [sz]
  generalize q * s = m at h2 ⊢
  simp only [Builtin.Range.rangeFitsLong, Bool.and_eq_true, Bool.or_eq_true, decide_eq_true_eq, beq_iff_eq, show (s : Int) > 0 by omega, if_true]
  omega
section
variable {P : Program} {w : World} {K : PySem.W.Frag} {mg : Str → Option Value} {base : Heap}
/-! ### passes -/
def spXP (C : Addr) : Sp := fun vs H Q _ => ∃ (o dx ro eo p : Addr) (ak sz : Nat) (held : List Int) (told : Bool) (x : RP) (st : Bool) (t : Str), vs = [.ref o, .str t] ∧ ExAt C H o dx ro eo p ak sz held told x st ∧ ∀ H', Same H H' → Q (.bl (passM sz held told t x.rest)) H'
theorem scXP : FnScope ["self", "test"] ["self", "test"] (defScope sXP) := ⟨rfl, rfl, rfl, by decide +kernel, rfl, by decide +kernel, by decide +kernel⟩
theorem pos_dec (n : Nat) : decide ((n : Int) > 0) = decide (0 < n) := decide_eq_decide.mpr ⟨fun z => by omega, fun z => by omega⟩
theorem lt_dec (n m : Nat) : decide ((n : Int) < (m : Int)) = decide (n < m) := decide_eq_decide.mpr ⟨fun z => by omega, fun z => by omega⟩
theorem ok_xp (T : TxX K mg) : FnOk P w K mg base CX0 1 T.ps.f T.ps.fd ["self", "test"] (spXP T.C) := by
  refine T.ps.F.ok scXP (fun vs H Q E h => ?_) (fun cdv A outer s H vs Q E hr h => ?_)
  · obtain ⟨o, dx, ro, eo, p, ak, sz, held, told, x, st, t, rfl, _⟩ := h
    rfl
  · obtain ⟨o, dx, ro, eo, p, ak, sz, held, told, x, st, t, rfl, hX, k⟩ := h
    refine ⟨_, pss_cons (ps_if (pt_cmpR op_eq (pv 1) pe_str (nomark _)) (pss_one (ps_ret pe_bl)) pss_nil)
      (pss_cons (ps_if (pt_cmpR op_in_seq (pv 1) (pe_tup (pa_cons pe_str (pa_cons pe_str pa_nil))) (by rfl)) (pss_one (ps_ret (pe_cmpR op_eq (pe_fld (pv 0) rfl) (pe_cmpR op_eq (pv 1) pe_str (nomark _)) (nomark _)))) pss_nil)
      (pss_cons (ps_if (pt_cmpR op_in_seq (pv 1) (pe_tup (pa_cons pe_str (pa_cons pe_str pa_nil))) (by rfl)) (pss_one (ps_ret (pe_cmpR op_eq (pe_cmpR op_gt (pe_callB call_len_seq (by rfl) T.len PySem.boot_len (pa_cons (pe_fld (pv 0) rfl) pa_nil)) pe_int (nomark _)) (pe_cmpR op_eq (pv 1) pe_str (nomark _)) (nomark _)))) pss_nil)
      (pss_cons (ps_if (pt_cmpR op_in_seq (pv 1) (pe_tup (pa_cons pe_str (pa_cons pe_str pa_nil))) (by rfl)) (pss_one (ps_ret (pe_cmpR op_eq (pe_cmpR op_gt (pe_callB call_len_seq (by rfl) T.len PySem.boot_len (pa_cons (pe_fld (pv 0) rfl) pa_nil)) pe_int (nomark _)) (pe_cmpR op_eq (pv 1) pe_str (nomark _)) (nomark _)))) pss_nil)
      (pss_one (ps_ret (pe_cmpR op_eq (pe_cmpR op_lt (pe_callB call_len_seq (by rfl) T.len PySem.boot_len (pa_cons (pe_fld (pv 0) rfl) pa_nil)) (pe_fld (pv 0) rfl) (nomark _)) (pe_cmpR op_eq (pv 1) pe_str (nomark _)) (nomark _))))))), ?_⟩
    unfold passM at k
    refine ⟨_, rfl, rfl, _, rfl, ?_⟩
    rw [dS]
    by_cases h0 : t = ""
    · rw [decide_eq_true h0]
      rw [if_pos h0] at k
      exact iteT (k H (Same.refl _))
    rw [decide_eq_false h0]
    rw [if_neg h0] at k
    refine iteF ?_
    refine ⟨_, rfl, (by show 2 ≤ sizeLine; decide), fun t1 n1 => ⟨t1, _, rfl, .inr (SqT.of upd_same), rfl, rfl, _, rfl, ?_⟩⟩
    have s1 : Same H (upd H t1 (.tup [.str "told", .str "open"])) := same_new n1
    generalize upd H t1 (.tup [.str "told", .str "open"]) = H1 at s1 ⊢
    have X1 := hX.same s1
    obtain ⟨h, r, vs, eo1, hh1, hr1, hp1, _⟩ := id X1.ex
    rw [show (if false = true then !inV (V.str t) [V.str "told", V.str "open"] else inV (V.str t) [V.str "told", V.str "open"]) = decide (t = "told" ∨ t = "open") from in2 ..]
    by_cases h1 : t = "told" ∨ t = "open"
    · rw [decide_eq_true h1]
      rw [if_pos h1] at k
      refine iteT ⟨_, rfl, o, T.C, dx, _, _, rfl, eo1, T.cl, T.nT, xf_t .., _, rfl, rfl, rfl, ?_⟩
      rw [dS, dB]
      exact k H1 s1
    rw [decide_eq_false h1]
    rw [if_neg h1] at k
    refine iteF ?_
    refine ⟨_, rfl, (by show 2 ≤ sizeLine; decide), fun t2 n2 => ⟨t2, _, rfl, .inr (SqT.of upd_same), rfl, rfl, _, rfl, ?_⟩⟩
    have s2 : Same H (upd H1 t2 (.tup [.str "rest", .str "bare"])) := Same.trans s1 (same_new n2)
    generalize upd H1 t2 (.tup [.str "rest", .str "bare"]) = H2 at s2 ⊢
    have X2 := hX.same s2
    clear eo1 hh1 hr1 hp1 X1
    obtain ⟨h, r, vs, eo1, hh1, hr1, hp1, _⟩ := id X2.ex
    rw [show (if false = true then !inV (V.str t) [V.str "rest", V.str "bare"] else inV (V.str t) [V.str "rest", V.str "bare"]) = decide (t = "rest" ∨ t = "bare") from in2 ..]
    by_cases h2 : t = "rest" ∨ t = "bare"
    · rw [decide_eq_true h2]
      rw [if_pos h2] at k
      refine iteT ⟨_, rfl, o, T.C, dx, _, _, rfl, eo1, T.cl, T.nR, xf_r .., r, _, rfl, .inr (SqT.of hr1), _, _, rfl, rfl, _, rfl, rfl, rfl, ?_⟩
      rw [dS, dB, ivs_len, pos_dec]
      exact k H2 s2
    rw [decide_eq_false h2]
    rw [if_neg h2] at k
    refine iteF ?_
    refine ⟨_, rfl, (by show 2 ≤ sizeLine; decide), fun t3 n3 => ⟨t3, _, rfl, .inr (SqT.of upd_same), rfl, rfl, _, rfl, ?_⟩⟩
    have s3 : Same H (upd H2 t3 (.tup [.str "empty", .str "some"])) := Same.trans s2 (same_new n3)
    generalize upd H2 t3 (.tup [.str "empty", .str "some"]) = H3 at s3 ⊢
    have X3 := hX.same s3
    clear eo1 hh1 hr1 hp1 X2
    obtain ⟨h, r, vs, eo1, hh1, hr1, hp1, _⟩ := id X3.ex
    rw [show (if false = true then !inV (V.str t) [V.str "empty", V.str "some"] else inV (V.str t) [V.str "empty", V.str "some"]) = decide (t = "empty" ∨ t = "some") from in2 ..]
    by_cases h3 : t = "empty" ∨ t = "some"
    · rw [decide_eq_true h3]
      rw [if_pos h3] at k
      refine iteT ⟨_, rfl, o, T.C, dx, _, _, rfl, eo1, T.cl, T.nH, xf_h .., h, _, rfl, .inr (SqT.of hh1), _, _, rfl, rfl, _, rfl, rfl, rfl, ?_⟩
      rw [dS, dB, ivs_len, pos_dec]
      exact k H3 s3
    rw [decide_eq_false h3]
    rw [if_neg h3] at k
    refine iteF ?_
    refine ⟨_, rfl, o, T.C, dx, _, _, rfl, eo1, T.cl, T.nH, xf_h .., h, _, rfl, .inr (SqT.of hh1), _, rfl, o, T.C, dx, _, _, rfl, eo1, T.cl, T.nSz, xf_sz .., _, _, rfl, rfl, _, rfl, rfl, rfl, ?_⟩
    rw [dS, dB, ivs_len, lt_dec]
    exact k H3 s3
/-! ### cut_off -/
/-- not too much -/
structure Fit (sz : Nat) (held : List Int) (x : RP) : Prop where
  s1 : 1 ≤ sz
  s2 : sz ≤ 1000
  h : held.length ≤ sz
  r : x.rest.length ≤ 3000000
  p : x.pieces.length ≤ 8000000
def spXC (C : Addr) : Sp := fun vs H Q _ => ∃ (o dx ro eo p : Addr) (ak sz : Nat) (held : List Int) (told : Bool) (x : RP) (st : Bool), vs = [.ref o] ∧ ExAt C H o dx ro eo p ak sz held told x st ∧ Fit sz held x ∧
  ∀ H', Off2 o p H H' → ExAt C H' o dx ro eo p ak sz held told (perfM sz held "cut" x) st → Q .non H'
theorem scXC : FnScope ["self", "end", "start"] ["self"] (defScope sXC) := ⟨rfl, rfl, rfl, by decide +kernel, rfl, by decide +kernel, by decide +kernel⟩
theorem cutN_succ (sz : Nat) (xs : List Int) (i : Nat) : cutN sz xs (i + 1) = cutN sz xs i ++ [(xs.drop (i * sz)).take sz] := by
  unfold cutN
  rw [List.range_succ, List.map_append]
  rfl
theorem ok_xc (T : TxX K mg) : FnOk P w K mg base CX0 1 T.co.f T.co.fd ["self"] (spXC T.C) := by
  refine T.co.F.ok scXC (fun vs H Q E h => ?_) (fun cdv A outer s H vs Q E hr h => ?_)
  · obtain ⟨o, dx, ro, eo, p, ak, sz, held, told, x, st, rfl, _⟩ := h
    rfl
  · obtain ⟨o, dx, ro, eo, p, ak, sz, held, told, x, st, rfl, hX, hF, k⟩ := h
    refine ⟨_, pss_cons (ps_set (i := 1) scXC.nd rfl (.inl rfl) (pe_op op_mul (pe_op op_fdiv (pe_callB call_len_seq (by rfl) T.len PySem.boot_len (pa_cons (pe_fld (pv 0) rfl) pa_nil)) (pe_fld (pv 0) rfl)) (pe_fld (pv 0) rfl)))
      (pss_cons (ps_for PassesOwn.never rfl (pi_range3 rfl T.range (pa_cons pe_int (pa_cons (pv 1) (pa_cons (pe_fld (pv 0) rfl) pa_nil)))) (pg_name (i := 2) scXC.nd rfl (Or.inl rfl))
        (pss_one (ps_expr (pe_bm PySem.F.plainAttrs_list PySem.F.slot_list_append PySem.F.type_list_append mt_append (pe_fld (pv 0) rfl) (pa_cons (pe_slice sl_tupH (pe_fld (pv 0) rfl) (po_some (pv 2)) (po_some (pe_op op_add (pv 2) (pe_fld (pv 0) rfl)))) pa_nil)))))
      (pss_one (ps_fld (pv 0) (pe_slice sl_tupH (pe_fld (pv 0) rfl) (po_some (pv 1)) po_none) rfl))), ?_⟩
    obtain ⟨h0, r0, vs0, e0, hh0, hr0, hp0, hP0⟩ := id hX.ex
    have s1 := hF.s1
    have s2 := hF.s2
    have s3 := hF.r
    have s4 := hF.p
    refine ⟨_, rfl, o, T.C, dx, _, _, rfl, e0, T.cl, T.nR, xf_r .., r0, _, rfl, .inr (SqT.of hr0), _, rfl, o, T.C, dx, _, _, rfl, e0, T.cl, T.nSz, xf_sz .., _, _, rfl, rfl, ⟨by omega, by omega⟩, _, rfl, o, T.C, dx, _, _, rfl, e0, T.cl, T.nSz, xf_sz .., _, _, rfl, rfl, .inr ⟨by omega, by omega⟩, ?_⟩
    have eq : ((ivs x.rest).length : Int) / (sz : Int) * (sz : Int) = ((x.rest.length / sz * sz : Nat) : Int) := by
      rw [ivs_len, Int.natCast_mul, Int.natCast_ediv]
    simp only [eq]
    have le : x.rest.length / sz * sz ≤ x.rest.length := Nat.div_mul_le_self _ _
    generalize hq : x.rest.length / sz = q at le ⊢
    refine ⟨_, rfl, _, rfl, o, T.C, dx, _, _, rfl, e0, T.cl, T.nSz, xf_sz .., _, _, _, q, rfl, rgC_up s1 s2 (by omega), ?_⟩
    refine for_rangeC (lo := 0) (c := (sz : Int)) (n := q) (fun i σ H' => ∃ v2, σ = [some (.ref o), some (.int ((q * sz : Nat) : Int)), v2] ∧ Off2 o p H H' ∧ ExAt T.C H' o dx ro eo p ak sz held told ⟨x.rest, x.pieces ++ cutN sz x.rest i⟩ st) ⟨none, rfl, Off2.refl, ?_⟩ ?_ ?_
    · refine ⟨h0, r0, vs0, e0, hh0, hr0, hp0, ?_⟩
      rw [show x.pieces ++ cutN sz x.rest 0 = x.pieces from List.append_nil _]
      exact hP0
    · rintro i σ H' hi ⟨v2, rfl, o1, X1⟩
      obtain ⟨h1, r1, vs1, e1, hh1, hr1, hp1, hP1⟩ := id X1.ex
      have m1 : (i + 1) * sz ≤ x.rest.length := Nat.le_trans (Nat.mul_le_mul_right _ hi) le
      have m2 : (i + 1) * sz = i * sz + sz := Nat.succ_mul i sz
      refine ⟨_, rfl, o, T.C, dx, _, _, rfl, e1, T.cl, T.nP, xf_p .., .inl ⟨rfl, _, SqL.of hp1⟩, ?_⟩
      refine ⟨_, rfl, o, T.C, dx, _, _, rfl, e1, T.cl, T.nR, xf_r .., _, rfl, ((i * sz : Nat) : Int), by rw [Int.zero_add, Int.natCast_mul], _, rfl, _, rfl, o, T.C, dx, _, _, rfl, e1, T.cl, T.nSz, xf_sz .., _, _, rfl, rfl, ((i * sz + sz : Nat) : Int), by rw [Int.zero_add, Int.natCast_add, Int.natCast_mul], r1, _, rfl, hr1, fun H2 qq s2' hq2 => ?_⟩
      rw [cut_mid _ _ _ (by omega) (by rw [ivs_len]; show i * sz + sz ≤ x.rest.length; omega), show i * sz + sz - i * sz = sz by omega] at hq2
      have hp2 := s2' _ _ hp1
      have lp := hP1.len
      refine ⟨p, vs1, _, rfl, rfl, hp2, ?_, ?_⟩
      · rw [lp]
        show (x.pieces ++ cutN sz x.rest i).length < sizeLine
        rw [List.length_append, cutN, List.length_map, List.length_range]
        have : q ≤ x.rest.length := Nat.le_trans (Nat.le_mul_of_pos_right q s1) le
        exact Nat.lt_of_le_of_lt (show x.pieces.length + i ≤ 11000000 by omega) (by decide)
      have st := tup_stays (o' := .lst (vs1 ++ [.ref qq])) hp2 (by intro xs z; cases z)
      have po : o ≠ p := ne_of (s2' _ _ e1) hp2 (by intro z; cases z)
      refine ⟨_, rfl, (o1.same s2').putP, h1, r1, _, by rw [upd_ne po]; exact s2' _ _ e1, st _ _ (s2' _ _ hh1), st _ _ (s2' _ _ hr1), upd_same, ?_⟩
      rw [cutN_succ, ← List.append_assoc]
      refine Pcs.snoc ?_ ((hP1.mono fun _ _ z => s2' _ _ z).mono st)
      rw [st _ _ hq2]
      simp [ivs, List.map_take, List.map_drop]
    · rintro σ H' ⟨v2, rfl, o1, X1⟩
      obtain ⟨h1, r1, vs1, e1, hh1, hr1, hp1, hP1⟩ := id X1.ex
      refine ⟨_, rfl, o, T.C, dx, _, _, rfl, e1, T.cl, T.nR, xf_r .., _, rfl, ((q * sz : Nat) : Int), rfl, r1, _, rfl, hr1, fun H2 r2 s2' hq2 => ?_⟩
      rw [cut_from] at hq2
      refine ⟨_, rfl, o, T.C, dx, _, rfl, s2' _ _ e1, T.cl, T.nR, by rw [xf_len]; decide, ?_⟩
      rw [put_r]
      have st := tup_stays (o' := .ins T.C dx (xf ro eo ak sz h1 told r2 p st)) (s2' _ _ e1) (by intro xs z; cases z)
      have po : p ≠ o := ne_of hp1 e1 (by intro z; cases z)
      refine k _ (o1.same s2').putO ⟨h1, r2, vs1, upd_same, st _ _ (s2' _ _ hh1), ?_, by rw [upd_ne po]; exact s2' _ _ hp1, ?_⟩
      · rw [st _ _ hq2]
        unfold perfM
        rw [if_neg (by decide +kernel), if_neg (by decide +kernel), if_pos rfl, hq]
        simp [ivs, List.map_drop]
      · unfold perfM
        rw [if_neg (by decide +kernel), if_neg (by decide +kernel), if_pos rfl, hq]
        exact (hP1.mono fun _ _ z => s2' _ _ z).mono st
end
end My

namespace My
open PySem L2 Cm LM EM
section
variable {P : Program} {w : World} {K : PySem.W.Frag} {mg : Str → Option Value} {base : Heap}
/-! ### perform -/
def spXR (C : Addr) : Sp := fun vs H Q _ => ∃ (o dx ro eo p : Addr) (ak sz : Nat) (held : List Int) (told : Bool) (x : RP) (st : Bool) (s : Str), vs = [.ref o, .str s] ∧ ExAt C H o dx ro eo p ak sz held told x st ∧ Fit sz held x ∧
  ∀ H', Off2 o p H H' → ExAt C H' o dx ro eo p ak sz held told (perfM sz held s x) st → Q .non H'
theorem scXR : FnScope ["self", "step"] ["self", "step"] (defScope sXR) := ⟨rfl, rfl, rfl, by decide +kernel, rfl, by decide +kernel, by decide +kernel⟩
theorem ok_xr (T : TxX K mg) : FnOk P w K mg base CX0 2 T.pf.f T.pf.fd ["self", "step"] (spXR T.C) := by
  have GC : FnOk P w K mg base CX0 1 T.co.f T.co.fd ["self"] (spXC T.C) := ok_xc T
  refine T.pf.F.ok scXR (fun vs H Q E h => ?_) (fun cdv A outer s H vs Q E hr h => ?_)
  · obtain ⟨o, dx, ro, eo, p, ak, sz, held, told, x, st, s, rfl, _⟩ := h
    rfl
  · obtain ⟨o, dx, ro, eo, p, ak, sz, held, told, x, st, s, rfl, hX, hF, k⟩ := h
    refine ⟨_, pss_one (ps_if (pt_cmpR op_eq (pv 1) pe_str (nomark _)) (pss_one (ps_fld (pv 0) (pe_op op_catH (pe_fld (pv 0) rfl) (pe_fld (pv 0) rfl)) rfl))
      (pss_one (ps_if (pt_cmpR op_eq (pv 1) pe_str (nomark _)) (pss_one (ps_expr (pe_bm PySem.F.plainAttrs_list PySem.F.slot_list_append PySem.F.type_list_append mt_append (pe_fld (pv 0) rfl) (pa_cons (pe_fld (pv 0) rfl) pa_nil))))
      (pss_one (ps_if (pt_cmpR op_eq (pv 1) pe_str (nomark _)) (pss_one (ps_expr (pe_meth0 (pv 0) T.cl T.co.m GC hr T.co.b .nil pass0)))
      (pss_one (ps_if (pt_cmpR op_eq (pv 1) pe_str (nomark _)) (pss_cons (ps_expr (pe_bm PySem.F.plainAttrs_list PySem.F.slot_list_append PySem.F.type_list_append mt_append (pe_fld (pv 0) rfl) (pa_cons (pe_fld (pv 0) rfl) pa_nil))) (pss_one (ps_fld (pv 0) (pe_tup pa_nil) rfl))) pss_nil))))))), ?_⟩
    obtain ⟨h0, r0, vs0, e0, hh0, hr0, hp0, hP0⟩ := id hX.ex
    have s1 := hF.s1
    have s2 := hF.s2
    have s3 := hF.r
    have s4 := hF.p
    have s5 := hF.h
    have po : p ≠ o := ne_of hp0 e0 (by intro z; cases z)
    have lp := hP0.len
    refine ⟨_, rfl, rfl, _, rfl, ?_⟩
    rw [dS]
    by_cases h1 : s = "add"
    · rw [decide_eq_true h1]
      refine iteT ?_
      unfold perfM at k
      rw [if_pos h1] at k
      refine ⟨_, rfl, o, T.C, dx, _, _, rfl, e0, T.cl, T.nR, xf_r .., _, rfl, o, T.C, dx, _, _, rfl, e0, T.cl, T.nH, xf_h .., r0, h0, _, _, rfl, rfl, hr0, hh0, ?_, fun H2 q s2' hq => ?_⟩
      · rw [ivs_len, ivs_len]
        exact Nat.le_trans (show x.rest.length + held.length ≤ 4000000 by omega) (by decide)
      refine ⟨_, rfl, o, T.C, dx, _, rfl, s2' _ _ e0, T.cl, T.nR, by rw [xf_len]; decide, ?_⟩
      rw [put_r]
      have st' := tup_stays (o' := .ins T.C dx (xf ro eo ak sz h0 told q p st)) (s2' _ _ e0) (by intro xs z; cases z)
      refine k _ ((Off2.refl).same s2').putO ⟨h0, q, vs0, upd_same, st' _ _ (s2' _ _ hh0), ?_, by rw [upd_ne po]; exact s2' _ _ hp0, (hP0.mono fun _ _ z => s2' _ _ z).mono st'⟩
      rw [st' _ _ hq]
      simp [ivs]
    rw [decide_eq_false h1]
    refine iteF ⟨_, rfl, rfl, _, rfl, ?_⟩
    rw [dS]
    by_cases h2 : s = "hand"
    · rw [decide_eq_true h2]
      refine iteT ?_
      unfold perfM at k
      rw [if_neg h1, if_pos h2] at k
      refine ⟨_, rfl, o, T.C, dx, _, _, rfl, e0, T.cl, T.nP, xf_p .., .inl ⟨rfl, _, SqL.of hp0⟩, _, rfl, o, T.C, dx, _, _, rfl, e0, T.cl, T.nH, xf_h .., p, vs0, _, rfl, rfl, hp0, ?_, ?_⟩
      · rw [lp]
        exact Nat.lt_of_le_of_lt s4 (by decide)
      have st' := tup_stays (o' := .lst (vs0 ++ [.ref h0])) hp0 (by intro xs z; cases z)
      exact k _ Off2.refl.putP ⟨h0, r0, _, by rw [upd_ne po.symm]; exact e0, st' _ _ hh0, st' _ _ hr0, upd_same, Pcs.snoc (st' _ _ hh0) (hP0.mono st')⟩
    rw [decide_eq_false h2]
    refine iteF ⟨_, rfl, rfl, _, rfl, ?_⟩
    rw [dS]
    by_cases h3 : s = "cut"
    · rw [decide_eq_true h3]
      refine iteT ?_
      rw [h3] at k
      exact ⟨_, rfl, o, dx, _, rfl, e0, (xf_noA ..).2.2.2.2.1, o, dx, ro, eo, p, ak, sz, held, told, x, st, rfl, hX, hF, k⟩
    rw [decide_eq_false h3]
    refine iteF ⟨_, rfl, rfl, _, rfl, ?_⟩
    rw [dS]
    by_cases h4 : s = "flush"
    · rw [decide_eq_true h4]
      refine iteT ?_
      unfold perfM at k
      rw [if_neg h1, if_neg h2, if_neg h3, if_pos h4] at k
      refine ⟨_, rfl, o, T.C, dx, _, _, rfl, e0, T.cl, T.nP, xf_p .., .inl ⟨rfl, _, SqL.of hp0⟩, _, rfl, o, T.C, dx, _, _, rfl, e0, T.cl, T.nR, xf_r .., p, vs0, _, rfl, rfl, hp0, ?_, ?_⟩
      · rw [lp]
        exact Nat.lt_of_le_of_lt s4 (by decide)
      have st1 := tup_stays (o' := .lst (vs0 ++ [.ref r0])) hp0 (by intro xs z; cases z)
      refine ⟨Nat.zero_le _, fun q nq => ?_⟩
      have e1 : (upd (upd H p (.lst (vs0 ++ [.ref r0]))) q (.tup [])) o = some (.ins T.C dx (xf ro eo ak sz h0 told r0 p st)) := same_new nq _ _ (by rw [upd_ne po.symm]; exact e0)
      refine ⟨_, rfl, o, T.C, dx, _, rfl, e1, T.cl, T.nR, by rw [xf_len]; decide, ?_⟩
      rw [put_r]
      have st2 := tup_stays (o' := .ins T.C dx (xf ro eo ak sz h0 told q p st)) e1 (by intro xs z; cases z)
      have f : ∀ (a : Addr) (xs : List V), H a = some (.tup xs) → (upd (upd (upd H p (.lst (vs0 ++ [.ref r0]))) q (.tup [])) o (.ins T.C dx (xf ro eo ak sz h0 told q p st))) a = some (.tup xs) := fun a xs z => st2 _ _ (same_new nq _ _ (st1 _ _ z))
      refine k _ ((Off2.refl.putP).same (same_new nq)).putO ⟨h0, q, _, upd_same, f _ _ hh0, st2 _ _ upd_same, ?_, Pcs.snoc (f _ _ hr0) (hP0.mono f)⟩
      rw [upd_ne po]
      exact same_new nq _ _ upd_same
    rw [decide_eq_false h4]
    unfold perfM at k
    rw [if_neg h1, if_neg h2, if_neg h3, if_neg h4] at k
    exact iteF (k H Off2.refl hX)
/-! ### finish -/
theorem Off2.ts {C : Addr} {H H' : Hp} {o dx ro eo p : Addr} {ak sz : Nat} {held : List Int} {told : Bool} {x : RP} {st : Bool} (a : Off2 o p H H') (h : ExAt C H o dx ro eo p ak sz held told x st) : TS H H' := fun q xs e => by
  obtain ⟨h0, r0, vs0, e0, _, _, hp0, _⟩ := h.ex
  exact a _ _ (ne_of e e0 (by intro z; cases z)) (ne_of e hp0 (by intro z; cases z)) e
/-- a row of orders stands -/
def OrdT (H : Hp) (p : Addr) (os : List (Str × Str)) : Prop := ∃ xs, H p = some (.tup xs) ∧ Prs H xs os
theorem OrdT.ts {H H' : Hp} {p : Addr} {os : List (Str × Str)} (s : TS H H') (h : OrdT H p os) : OrdT H' p os := let ⟨xs, e, q⟩ := h; ⟨xs, s _ _ e, q.mono s⟩
theorem Prs.get {H : Hp} : ∀ {xs os} {i : Nat} {y : V}, Prs H xs os → xs[i]? = some y → ∃ (q : Addr) (o : Str × Str), os[i]? = some o ∧ y = .ref q ∧ H q = some (.tup [.str o.1, .str o.2])
  | _, _, i, y, .nil, h => by simp at h
  | _, _, 0, y, .cons h _, e => ⟨_, _, rfl, (Option.some.inj e).symm, h⟩
  | _, _, i + 1, y, .cons _ t, e => t.get (i := i) e
theorem endW_app (sz : Nat) (held : List Int) (told : Bool) : ∀ (a b : List (Str × Str)) (x : RP), endW sz held told (a ++ b) x = endW sz held told b (endW sz held told a x)
  | [], _, _ => rfl
  | (t, s) :: r, b, x => endW_app sz held told r b _
/-- enough room for a round and an ending -/
structure FitK (sz : Nat) (held : List Int) (k c : Nat) (x : RP) : Prop where
  s1 : 1 ≤ sz
  s2 : sz ≤ 1000
  h : held.length ≤ sz
  hk : k ≤ 2500
  hc : c ≤ 7900000
  f : Few sz k c x
theorem FitK.fit {sz : Nat} {held : List Int} {k c : Nat} {x : RP} (h : FitK sz held k c x) : Fit sz held x := by
  refine ⟨h.s1, h.s2, h.h, Nat.le_trans h.f.1 ?_, Nat.le_trans h.f.2 (Nat.le_trans h.hc (by decide))⟩
  exact Nat.le_trans (Nat.mul_le_mul h.hk h.s2) (by decide)
def spXF (C : Addr) : Sp := fun vs H Q _ => ∃ (o dx ro eo p : Addr) (ak sz : Nat) (held : List Int) (told : Bool) (x : RP) (st : Bool) (os : List (Str × Str)) (k c : Nat), vs = [.ref o] ∧ ExAt C H o dx ro eo p ak sz held told x st ∧ OrdT H eo os ∧ os.length ≤ 6 ∧ FitK sz held k c x ∧ k ≤ 2400 ∧ c ≤ 7800000 ∧
  ∀ H', Off2 o p H H' → ExAt C H' o dx ro eo p ak sz held told (endW sz held told os x) true → Q .non H'
theorem scXF : FnScope ["self", "test", "step"] ["self"] (defScope sXF) := ⟨rfl, rfl, rfl, by decide +kernel, rfl, by decide +kernel, by decide +kernel⟩
theorem ok_xfin (T : TxX K mg) : FnOk P w K mg base CX0 3 T.fi.f T.fi.fd ["self"] (spXF T.C) := by
  have GP : FnOk P w K mg base CX0 1 T.ps.f T.ps.fd ["self", "test"] (spXP T.C) := ok_xp T
  have GR : FnOk P w K mg base CX0 2 T.pf.f T.pf.fd ["self", "step"] (spXR T.C) := ok_xr T
  refine T.fi.F.ok scXF (fun vs H Q E h => ?_) (fun cdv A outer s H vs Q E hr h => ?_)
  · obtain ⟨o, dx, ro, eo, p, ak, sz, held, told, x, st, os, k, c, rfl, _⟩ := h
    rfl
  · obtain ⟨o, dx, ro, eo, p, ak, sz, held, told, x, st, os, kk, cc, rfl, hX, hO, hl, hF, hk, hc, k⟩ := h
    have hr1 : Room 1 _ := hr.mono (by decide)
    refine ⟨_, pss_cons (ps_for PassesOwn.never rfl (pi_tup (pe_fld (pv 0) rfl)) (pg_tup rfl (pgs_cons (pg_name (i := 1) scXF.nd rfl (.inl rfl)) (pgs_cons (pg_name (i := 2) scXF.nd rfl (.inl rfl)) pgs_nil)))
        (pss_one (ps_if (pt_val (pe_meth (pv 0) T.cl T.ps.m GP hr1 T.ps.b .nil pass0 (pa_cons (pv 1) pa_nil))) (pss_one (ps_expr (pe_meth (pv 0) T.cl T.pf.m GR hr T.pf.b .nil pass0 (pa_cons (pv 2) pa_nil)))) pss_nil)))
      (pss_one (ps_fld (pv 0) pe_bl rfl)), ?_⟩
    obtain ⟨h0, r0, vs0, e0, _⟩ := id hX.ex
    obtain ⟨xs, hxs, hPr⟩ := id hO
    have lx := hPr.len
    refine ⟨_, rfl, o, T.C, dx, _, _, rfl, e0, T.cl, T.nEo, xf_eo .., eo, rfl, ⟨_, SqT.of hxs⟩, ?_⟩
    refine for_tup (K := K) (a := eo) (xs := xs) (fun i σ H' => ∃ v1 v2, σ = [some (.ref o), v1, v2] ∧ Off2 o p H H' ∧ ExAt T.C H' o dx ro eo p ak sz held told (endW sz held told (os.take i) x) st) ⟨none, none, rfl, Off2.refl, hX⟩ (fun i σ H' _ ⟨_, _, _, o1, _⟩ => SqT.of (o1.ts hX _ _ hxs)) ?_ ?_
    · rintro i y σ H' hy ⟨v1, v2, rfl, o1, X1⟩
      obtain ⟨q, od, hod, rfl, hq⟩ := hPr.get hy
      have hq1 := o1.ts hX _ _ hq
      have li : i < os.length := lt_of_get hod
      refine ⟨q, _, rfl, SqT.of hq1, rfl, _, _, rfl, _, _, rfl, rfl, ?_⟩
      obtain ⟨h1, r1, vs1, e1, _⟩ := id X1.ex
      refine ⟨_, rfl, o, dx, _, rfl, e1, (xf_noA ..).2.2.1, _, rfl, o, dx, ro, eo, p, ak, sz, held, told, _, st, od.1, rfl, X1, fun H2 s2 => ⟨_, rfl, ?_⟩⟩
      have X2 := X1.same s2
      have tk : os.take (i + 1) = os.take i ++ [od] := take_snoc hod
      have ef : endW sz held told (os.take (i + 1)) x = (if passM sz held told od.1 (endW sz held told (os.take i) x).rest = true then perfM sz held od.2 (endW sz held told (os.take i) x) else endW sz held told (os.take i) x) := by
        rw [tk, endW_app]
        rfl
      have fe := few_end (told := told) hF.s1 hF.h (os.take i) kk cc x hF.f
      have lt : (os.take i).length ≤ 6 := by rw [List.length_take]; omega
      have fk : FitK sz held (kk + 6) (cc + 6 * (kk + 6)) (endW sz held told (os.take i) x) := ⟨hF.s1, hF.s2, hF.h, by omega, by omega, fe.mono (by omega) (Nat.add_le_add_left (Nat.mul_le_mul lt (by omega)) _)⟩
      obtain ⟨h2, r2, vs2, e2, _⟩ := id X2.ex
      refine ite2 (fun c => ?_) (fun c => ?_)
      · rw [if_pos c] at ef
        refine ⟨_, rfl, o, dx, _, rfl, e2, (xf_noA ..).2.2.2.1, _, rfl, o, dx, ro, eo, p, ak, sz, held, told, _, st, od.2, rfl, X2, fk.fit, fun H3 o3 X3 => ?_⟩
        exact ⟨_, _, rfl, (o1.same s2).trans o3, by rw [ef]; exact X3⟩
      · rw [if_neg c] at ef
        exact ⟨_, _, rfl, o1.same s2, by rw [ef]; exact X2⟩
    · rintro σ H' ⟨v1, v2, rfl, o1, X1⟩
      rw [lx, List.take_length] at X1
      obtain ⟨h1, r1, vs1, e1, hh1, hr1', hp1, hP1⟩ := id X1.ex
      refine ⟨_, rfl, o, T.C, dx, _, rfl, e1, T.cl, T.nSt, by rw [xf_len]; decide, ?_⟩
      rw [put_st]
      have st' := tup_stays (o' := .ins T.C dx (xf ro eo ak sz h1 told r1 p true)) e1 (by intro xs z; cases z)
      have po : p ≠ o := ne_of hp1 e1 (by intro z; cases z)
      exact k _ o1.putO ⟨h1, r1, vs1, upd_same, st' _ _ hh1, st' _ _ hr1', by rw [upd_ne po]; exact hp1, hP1.mono st'⟩
/-! ### answer -/
/-- not stopped and not left so far -/
def goes (sz : Nat) (held : List Int) (told : Bool) : List (Str × Str) → RP → Bool
  | [], _ => true
  | (t, s) :: r, x => if passM sz held told t x.rest = true then (if s = "again" then false else if s = "stop" then false else goes sz held told r (perfM sz held s x)) else goes sz held told r x
theorem runW_cons (sz : Nat) (held : List Int) (told : Bool) (t s : Str) (r : List (Str × Str)) (x : RP) : runW sz held told ((t, s) :: r) x = if passM sz held told t x.rest = true then (if s = "again" then (x, false) else if s = "stop" then (x, true) else runW sz held told r (perfM sz held s x)) else runW sz held told r x := rfl
theorem goes_cons (sz : Nat) (held : List Int) (told : Bool) (t s : Str) (r : List (Str × Str)) (x : RP) : goes sz held told ((t, s) :: r) x = if passM sz held told t x.rest = true then (if s = "again" then false else if s = "stop" then false else goes sz held told r (perfM sz held s x)) else goes sz held told r x := rfl
theorem run_goes (sz : Nat) (held : List Int) (told : Bool) : ∀ (a b : List (Str × Str)) (x : RP), goes sz held told a x = true →
    runW sz held told (a ++ b) x = runW sz held told b (runW sz held told a x).1 ∧ goes sz held told (a ++ b) x = goes sz held told b (runW sz held told a x).1 ∧ (runW sz held told a x).2 = false
  | [], _, _, _ => ⟨rfl, rfl, rfl⟩
  | (t, s) :: r, b, x, h => by
    rw [goes_cons] at h
    rw [List.cons_append, runW_cons, runW_cons, goes_cons]
    by_cases c : passM sz held told t x.rest = true
    · rw [if_pos c] at h
      rw [if_pos c, if_pos c, if_pos c]
      by_cases c1 : s = "again"
      · rw [if_pos c1] at h
        cases h
      rw [if_neg c1] at h
      rw [if_neg c1, if_neg c1, if_neg c1]
      by_cases c2 : s = "stop"
      · rw [if_pos c2] at h
        cases h
      rw [if_neg c2] at h
      rw [if_neg c2, if_neg c2, if_neg c2]
      exact run_goes sz held told r b _ h
    · rw [if_neg c] at h
      rw [if_neg c, if_neg c, if_neg c]
      exact run_goes sz held told r b _ h
def spXA (C : Addr) : Sp := fun vs H Q _ => ∃ (o dx ro eo p h : Addr) (ak sz : Nat) (held0 held : List Int) (told0 told : Bool) (x : RP) (rs es : List (Str × Str)) (k c : Nat), vs = [.ref o, .ref h, .bl told] ∧ ExAt C H o dx ro eo p ak sz held0 told0 x false ∧ H h = some (.tup (ivs held)) ∧ OrdT H ro rs ∧ OrdT H eo es ∧ rs.length ≤ 12 ∧ es.length ≤ 6 ∧ FitK sz held k c x ∧ k ≤ 2300 ∧ c ≤ 7700000 ∧
  ∀ H', Off2 o p H H' → ExAt C H' o dx ro eo p (ak + 1) sz held told (ansM sz rs es held told x).1 (ansM sz rs es held told x).2 → Q .non H'
theorem scXA : FnScope ["self", "held", "told", "test", "step"] ["self", "held", "told"] (defScope sXA) := ⟨rfl, rfl, rfl, by decide +kernel, rfl, by decide +kernel, by decide +kernel⟩
theorem ok_xa (T : TxX K mg) : FnOk P w K mg base CX0 4 T.an.f T.an.fd ["self", "held", "told"] (spXA T.C) := by
  have GP : FnOk P w K mg base CX0 1 T.ps.f T.ps.fd ["self", "test"] (spXP T.C) := ok_xp T
  have GR : FnOk P w K mg base CX0 2 T.pf.f T.pf.fd ["self", "step"] (spXR T.C) := ok_xr T
  have GF : FnOk P w K mg base CX0 3 T.fi.f T.fi.fd ["self"] (spXF T.C) := ok_xfin T
  refine T.an.F.ok scXA (fun vs H Q E h => ?_) (fun cdv A outer s H vs Q E hr h => ?_)
  · obtain ⟨o, dx, ro, eo, p, h, ak, sz, held0, held, told0, told, x, rs, es, k, c, rfl, _⟩ := h
    rfl
  · obtain ⟨o, dx, ro, eo, p, h, ak, sz, held0, held, told0, told, x, rs, es, kk, cc, rfl, hX, hh, hO, hE, l1, l2, hF, hk, hc, k⟩ := h
    have hr1 : Room 1 _ := hr.mono (by decide)
    have hr2 : Room 2 _ := hr.mono (by decide)
    refine ⟨_, pss_cons (ps_fld (pv 0) (pv 1) rfl) (pss_cons (ps_fld (pv 0) (pv 2) rfl) (pss_cons (ps_fldaug (pv 0) pe_int in_add)
      (pss_one (ps_for PassesOwn.never rfl (pi_tup (pe_fld (pv 0) rfl)) (pg_tup rfl (pgs_cons (pg_name (i := 3) scXA.nd rfl (.inl rfl)) (pgs_cons (pg_name (i := 4) scXA.nd rfl (.inl rfl)) pgs_nil)))
        (pss_one (ps_if (pt_val (pe_meth (pv 0) T.cl T.ps.m GP hr1 T.ps.b .nil pass0 (pa_cons (pv 3) pa_nil)))
          (pss_cons (ps_if (pt_cmpR op_eq (pv 4) pe_str (nomark _)) (pss_one ps_retN) pss_nil)
          (pss_cons (ps_if (pt_cmpR op_eq (pv 4) pe_str (nomark _)) (pss_cons (ps_expr (pe_meth0 (pv 0) T.cl T.fi.m GF hr T.fi.b .nil pass0)) (pss_one ps_retN)) pss_nil)
          (pss_one (ps_expr (pe_meth (pv 0) T.cl T.pf.m GR hr2 T.pf.b .nil pass0 (pa_cons (pv 4) pa_nil)))))) pss_nil)))))), ?_⟩
    obtain ⟨h0, r0, vs0, e0, hh0, hr0, hp0, hP0⟩ := id hX.ex
    refine ⟨_, rfl, _, rfl, o, T.C, dx, _, rfl, e0, T.cl, T.nH, by rw [xf_len]; decide, ?_⟩
    rw [put_h]
    refine ⟨_, rfl, _, rfl, o, T.C, dx, _, rfl, upd_same, T.cl, T.nT, by rw [xf_len]; decide, ?_⟩
    rw [put_t]
    refine ⟨_, rfl, o, T.C, dx, _, _, rfl, upd_same, T.cl, T.nA, xf_ak .., _, _, rfl, rfl, dx, _, upd_same, by rw [xf_len]; decide, ?_⟩
    rw [show V.int ((ak : Int) + 1) = V.int ((ak + 1 : Nat) : Int) from rfl, put_ak]
    have po : p ≠ o := ne_of hp0 e0 (by intro z; cases z)
    have ts0 : TS H (upd (upd (upd H o (.ins T.C dx (xf ro eo ak sz h told0 r0 p false))) o (.ins T.C dx (xf ro eo ak sz h told r0 p false))) o (.ins T.C dx (xf ro eo (ak + 1) sz h told r0 p false))) := fun q xs e => tup_stays (o := .ins T.C dx (xf ro eo ak sz h told r0 p false)) upd_same (by intro xs z; cases z) _ _ (tup_stays (o := .ins T.C dx (xf ro eo ak sz h told0 r0 p false)) upd_same (by intro xs z; cases z) _ _ (tup_stays e0 (by intro xs z; cases z) _ _ e))
    have X0 : ExAt T.C (upd (upd (upd H o (.ins T.C dx (xf ro eo ak sz h told0 r0 p false))) o (.ins T.C dx (xf ro eo ak sz h told r0 p false))) o (.ins T.C dx (xf ro eo (ak + 1) sz h told r0 p false))) o dx ro eo p (ak + 1) sz held told x false := ⟨h, r0, vs0, upd_same, ts0 _ _ hh, ts0 _ _ hr0, by rw [upd_ne po, upd_ne po, upd_ne po]; exact hp0, hP0.mono ts0⟩
    have o0 : Off2 o p H (upd (upd (upd H o (.ins T.C dx (xf ro eo ak sz h told0 r0 p false))) o (.ins T.C dx (xf ro eo ak sz h told r0 p false))) o (.ins T.C dx (xf ro eo (ak + 1) sz h told r0 p false))) := Off2.refl.putO.putO.putO
    have hO1 := hO.ts ts0
    have hE1 := hE.ts ts0
    generalize upd (upd (upd H o (.ins T.C dx (xf ro eo ak sz h told0 r0 p false))) o (.ins T.C dx (xf ro eo ak sz h told r0 p false))) o (.ins T.C dx (xf ro eo (ak + 1) sz h told r0 p false)) = H1 at X0 o0 hO1 hE1 ⊢
    clear ts0 hO hE
    obtain ⟨xs, hxs, hPr⟩ := id hO1
    have lx := hPr.len
    obtain ⟨h1, r1, vs1, e1, _⟩ := id X0.ex
    refine ⟨_, rfl, o, T.C, dx, _, _, rfl, e1, T.cl, T.nRo, xf_ro .., ro, rfl, ⟨_, SqT.of hxs⟩, ?_⟩
    refine for_tup (K := K) (a := ro) (xs := xs) (fun i σ H' => ∃ v1 v2, σ = [some (.ref o), some (.ref h), some (.bl told), v1, v2] ∧ Off2 o p H1 H' ∧ ExAt T.C H' o dx ro eo p (ak + 1) sz held told (runW sz held told (rs.take i) x).1 false ∧ goes sz held told (rs.take i) x = true) ⟨none, none, rfl, Off2.refl, X0, rfl⟩ (fun i σ H' _ ⟨_, _, _, o1, _⟩ => SqT.of (o1.ts X0 _ _ hxs)) ?_ ?_
    · rintro i y σ H' hy ⟨v1, v2, rfl, o1, X1, g1⟩
      obtain ⟨q, od, hod, rfl, hq⟩ := hPr.get hy
      have hq1 := o1.ts X0 _ _ hq
      have li : i < rs.length := lt_of_get hod
      refine ⟨q, _, rfl, SqT.of hq1, rfl, _, _, rfl, _, _, rfl, rfl, ?_⟩
      obtain ⟨h1, r1, vs1, e1, _⟩ := id X1.ex
      refine ⟨_, rfl, o, dx, _, rfl, e1, (xf_noA ..).2.2.1, _, rfl, o, dx, ro, eo, p, ak + 1, sz, held, told, _, false, od.1, rfl, X1, fun H2 s2 => ⟨_, rfl, ?_⟩⟩
      have X2 := X1.same s2
      have tk : rs.take (i + 1) = rs.take i ++ [od] := take_snoc hod
      have rg := run_goes sz held told (rs.take i) [od] x g1
      rw [← tk] at rg
      have rw1 : rs = rs.take i ++ (od :: rs.drop (i + 1)) := by
        have e := List.take_append_drop i rs
        rw [List.drop_eq_getElem_cons li] at e
        have : rs[i] = od := (List.getElem?_eq_some_iff.mp hod).2
        rw [this] at e
        exact e.symm
      have rgs := (run_goes sz held told (rs.take i) (od :: rs.drop (i + 1)) x g1).1
      rw [← rw1] at rgs
      have fe := few_run (told := told) hF.s1 hF.h (rs.take i) kk cc x hF.f
      have lt : (rs.take i).length ≤ 12 := by rw [List.length_take]; omega
      have fk : FitK sz held (kk + 12) (cc + 12 * (kk + 12)) (runW sz held told (rs.take i) x).1 := ⟨hF.s1, hF.s2, hF.h, by omega, by omega, fe.mono (by omega) (Nat.add_le_add_left (Nat.mul_le_mul lt (by omega)) _)⟩
      obtain ⟨h2, r2, vs2, e2, _⟩ := id X2.ex
      generalize hy0 : (runW sz held told (rs.take i) x).1 = y at rg rgs fk X1 X2 ⊢
      obtain ⟨t1, s1⟩ := od
      rw [runW_cons] at rgs
      have r1e := rg.1
      have r2e := rg.2.1
      rw [runW_cons] at r1e
      rw [goes_cons] at r2e
      refine ite2 (fun c => ?_) (fun c => ?_)
      · rw [if_pos c] at rgs r1e r2e
        refine ⟨_, rfl, rfl, _, rfl, ?_⟩
        rw [dS]
        by_cases c1 : s1 = "again"
        · rw [decide_eq_true c1]
          refine iteT ?_
          rw [if_pos c1] at rgs
          refine k _ (o0.trans (o1.same s2)) ?_
          unfold ansM
          rw [rgs]
          exact X2
        rw [decide_eq_false c1]
        rw [if_neg c1] at rgs r1e r2e
        refine iteF ⟨_, rfl, rfl, _, rfl, ?_⟩
        rw [dS]
        by_cases c2 : s1 = "stop"
        · rw [decide_eq_true c2]
          refine iteT ?_
          rw [if_pos c2] at rgs
          refine ⟨_, rfl, o, dx, _, rfl, e2, (xf_noA ..).2.1, o, dx, ro, eo, p, ak + 1, sz, held, told, y, false, es, _, _, rfl, X2, hE1.ts ((o1.same s2).ts X0), l2, fk, by omega, by omega, fun H3 o3 X3 => ?_⟩
          refine k _ ((o0.trans (o1.same s2)).trans o3) ?_
          unfold ansM
          rw [rgs]
          exact X3
        rw [decide_eq_false c2]
        rw [if_neg c2] at rgs r1e r2e
        refine iteF ?_
        refine ⟨_, rfl, o, dx, _, rfl, e2, (xf_noA ..).2.2.2.1, _, rfl, o, dx, ro, eo, p, ak + 1, sz, held, told, y, false, s1, rfl, X2, fk.fit, fun H3 o3 X3 => ?_⟩
        exact ⟨_, _, rfl, (o1.same s2).trans o3, by rw [r1e]; exact X3, r2e⟩
      · rw [if_neg c] at rgs r1e r2e
        exact ⟨_, _, rfl, o1.same s2, by rw [r1e]; exact X2, r2e⟩
    · rintro σ H' ⟨v1, v2, rfl, o1, X1, g1⟩
      rw [lx, List.take_length] at X1 g1
      refine k _ (o0.trans o1) ?_
      unfold ansM
      rw [(run_goes sz held told rs [] x g1).2.2]
      exact X1
end
end My

/-! enumerate of a tuple, as a walk of the hand layer -/
namespace ETup
open PySem PySem.Spec PyProof.Rows L2
open Sem (wp)
/-- what enumerate(v) makes: the inner iterator, then itself -/
abbrev eo (n : Addr) : Obj := { cls := .type "enumerate", data := .fields #[.none, .bool false, .ref n, rawInt 0, .none, .none] }
theorem new1 {v : Value} {ob : Obj} {HP : Heap → Prop} (B : Begins v ob HP) :
    Meets (Builtin.«enumerate.__new__» ⟨[.type "enumerate", v], []⟩) (fun _ R st => HP st.heap ∧
      R (.ok (.ret (.ref (st.heap.push ob).objs.size))) { st with heap := (st.heap.push ob).push (eo st.heap.objs.size) }) :=
  .of_wp fun pr wo Ar R st hh => by
    obtain ⟨hp, g, dd, tk, os⟩ := st; obtain ⟨a1, a2⟩ := hh
    have subE := sub_enumerate
    have run : ∀ {A2 : Around} {E2 : Value → Shared → Prop} {Q2 : Value → Shared → Prop}, Q2 (.ref hp.objs.size) ⟨hp.push ob, g, dd, tk, os⟩ →
        wpAny (model pr wo) A2 (pyIter v) Q2 E2 ⟨hp, g, dd, tk, os⟩ := fun z => B.iter pr wo _ _ ⟨hp, g, dd, tk, os⟩ _ a1 z
    wp_walk using run
    refine wpAny_stack_any fun stk => wpAny_pure ?_
    split
    next c _ _ _ _ _ =>
      cases (c == Value.type "enumerate") <;> (wp_walk using run; exact ⟨_, rfl, a2⟩)
    next => wp_walk using run; exact ⟨_, rfl, a2⟩
section
variable {prog : Program} {w : World} {A : Around} {E : Value → Shared → Prop} {s : Shared}
theorem made {v : Value} {ob : Obj} {HP : Heap → Prop} {Q : Value → Shared → Prop} (B : Begins v ob HP) (h1 : HP s.heap)
    (k : ∀ hn, IsEnum hn (s.heap.objs.size + 1) s.heap.objs.size 0 .none → hn.get? s.heap.objs.size = some ob → (∀ b u, s.heap.get? b = some u → hn.get? b = some u) → Q (.ref (s.heap.objs.size + 1)) { s with heap := hn }) :
    wpAny (model prog w) A (call (.type "enumerate") [v]) Q E s := by
  refine callType_new F.called_enumerate (by decide) (F.typeCall_enumerate_1 _) (F.newCall_enumerate_1 _) (fun ob2 => F.args_object_init_2 ob2 _) F.entry_enumerate_new (new1 B) ⟨h1, ?_⟩
  have sz : (s.heap.push ob).objs.size = s.heap.objs.size + 1 := Heap.size_push ..
  show _ ∧ _
  rw [sz]
  have isE : IsEnum ((s.heap.push ob).push (eo s.heap.objs.size)) (s.heap.objs.size + 1) s.heap.objs.size 0 .none := by
    have g1 := Heap.get?_push_size (s.heap.push ob) (o := eo s.heap.objs.size) rfl
    rw [sz] at g1
    exact g1
  exact ⟨⟨_, isE, rfl⟩, k _ isE (Heap.get?_push_of_some _ (Heap.get?_push_size _ B.free)) fun b u x => Heap.get?_push_of_some _ (Heap.get?_push_of_some _ x)⟩
end
/-- the tuple at a, each item in a new pair with its place -/
def Itu (K : PySem.W.Frag) (a : Addr) : It :=
  ⟨fun i H => ∃ (xs : List V) (x : V), SqT K H a xs ∧ xs[i]? = some x,
   fun i H v H' => ∃ T x, v = .ref T ∧ H T = none ∧ H' = upd H T (.tup [.int (i : Nat), x]) ∧ ∀ xs, SqT K H a xs → xs[i]? = some x,
   fun i H => ∃ xs : List V, SqT K H a xs ∧ xs.length ≤ i⟩
theorem turn {P : Program} {w : World} {K : PySem.W.Frag} {elts : List Expr} {kk : Nat} {tpos : Pos} (a e it : Addr) :
    Turn P w K (.Tuple elts kk tpos) (Itu K a) [e, it] e (fun i h => (∃ old, IsEnum h e it ((i : Nat) : Int) old) ∧ h.IsTupleIter it a i ∧ e ≠ it ∧ a ≠ it ∧ e ≠ a) where
  mem := by simp
  obj := fun i h st b hb => by
    obtain ⟨⟨old, isE⟩, ⟨ob, ho, hc, hd⟩, _⟩ := st
    have two : b = e ∨ b = it := by simpa using hb
    rcases two with rfl | rfl
    · exact ⟨_, isE, fun v q => nomatch q⟩
    · exact ⟨ob, ho, fun v q => by rw [hd] at q; cases q⟩
  keep := fun i h h2 st k => let ⟨⟨old, isE⟩, isT, r⟩ := st; ⟨⟨old, k e (by simp) _ isE⟩, isT.at fun ob q => k it (by simp) ob q, r⟩
  item := by
    intro X hP hw hK hcalm i pins s σ H E I fpo st hg
    subst hP hw hK
    obtain ⟨⟨old, isE⟩, isT, nei, nai, nea⟩ := st
    obtain ⟨xs, x, hq, hx⟩ := hg
    obtain ⟨its, rv, tp, hz⟩ := I.tuple hq
    obtain ⟨u, hu, ru⟩ := rv.get hx
    have ltE : e < s.heap.objs.size := Heap.lt_size isE
    have ltI : it < s.heap.objs.size := by obtain ⟨_, q, _⟩ := isT; exact Heap.lt_size q
    have hsz : i < its.toArray.size := by
      have z := (List.getElem?_eq_some_iff.mp hu).1
      simpa using z
    have D := Draws.tuple (prog := X.prog) (w := X.w) (A := X.A.in1) (show X.A.in1.handled = none from I.ok.hd hcalm) it a nai its.toArray
    refine wpAny_pyNext_enum_itemD D isE ⟨isT, tp⟩ hsz nei (by simp [nei, nea]) fun y h2 tk hy ho st2 hT hsz2 hk => ?_
    have ey : y = u := by
      have z : its[i]? = some y := by simpa using hy
      rw [hu] at z
      exact (Option.some.inj z).symm
    subst ey
    refine ⟨_, rfl, wpAny_letOwnedTupleGo_enum (s := { s with heap := h2, toks := tk + 1 }) ho fun h3 isE3 sb => ?_⟩
    have hT3 : h3.get? s.heap.objs.size = some { cls := .type "tuple", data := .seq #[.int i tk, y] } := (sb.2 _ (Nat.ne_of_gt ltE)).trans hT
    have ok : ObjOk X.prog X.w (upd H s.heap.objs.size (.tup [.int (i : Nat), x])) h3 s.heap.objs.size (.tup [.int (i : Nat), x]) :=
      ⟨by show 2 ≤ sizeLine; decide, [.int i tk, y], .cons ⟨_, rfl⟩ (.cons ru .nil), ⟨_, hT3, rfl, _, rfl⟩⟩
    have J : Inv X pins σ (upd H s.heap.objs.size (.tup [.int (i : Nat), x])) { s with heap := h3, toks := tk + 1 } :=
      I.turnedNew (ch := [e, it]) (fun b ob hb q => (sb.2 b (fun z => hb (by simp [z]))).trans (hk b ob (fun z => hb (by simp [z])) (fun z => hb (by simp [z])) q)) fpo (Nat.le_refl _) ok
    refine ⟨.ref s.heap.objs.size, _, J, rfl, ⟨_, x, rfl, I.hok.fresh (Nat.le_refl _), rfl, fun ys hy => by rw [I.tuple_inj hy hq]; exact hx⟩, ⟨⟨y, ?_⟩, st2.1.at fun ob q => (sb.2 it (Ne.symm nei)).trans q, nei, nai, nea⟩, fun b hb => ?_⟩
    · have e1 : ((i + 1 : Nat) : Int) = (i : Int) + 1 := by omega
      rw [e1]
      exact isE3
    · have lt2 : b < s.heap.objs.size := by
        have two : b = e ∨ b = it := by simpa using hb
        rcases two with rfl | rfl
        · exact ltE
        · exact ltI
      rw [upd_ne (Nat.ne_of_lt lt2)]
      exact (fpo b hb).1
  done := by
    intro X hP hw hK hcalm i pins s σ H E I fpo st hg
    subst hP hw hK
    obtain ⟨⟨old, isE⟩, isT, nei, nai, nea⟩ := st
    obtain ⟨xs, hq, hx⟩ := hg
    obtain ⟨its, rv, tp, hz⟩ := I.tuple hq
    obtain ⟨f0, f1, f2, f3, f4, f5⟩ := fpo it (by simp)
    have hl := rv.length
    have hT : s.TypeIs (.ref e) "enumerate" := ⟨_, isE, rfl⟩
    unfold pyNext
    refine wpAny_bind (wpAny_attempt (wpAny_callSpecial?_slot (name := Str.ofString "__next__") hT F.slot_enumerate_next
      (wpAny_call_entry F.slot_enumerate_next hT F.entry_enumerate_next ?_ (F.args_enumerate_next_1 _))))
    show wpAny (model X.prog X.w) _ (field (Value.ref e) 2 >>= _) _ _ s
    refine wpAny_bind (wpAny_field isE rfl (x := .ref it) rfl ?_)
    refine wpAny_bind (wpAny_nextOf_tuple_end (show X.A.in1.handled = none from I.ok.hd hcalm) isT tp (by simp; omega) fun h2 x eb hx2 => ?_)
    obtain ⟨ob, ho, hc⟩ := hx2
    refine wpAny_bind (wpAny_isInstance (T := "StopIteration") (b := true) ⟨ob, ho, hc⟩ isSubtype_stop ?_)
    exact wpAny_pure ⟨rfl, I.turned (t' := s.toks) (fun b ob hb q => eb b ob hb q) f0 f1 f3 f4 f5⟩
  self := fun A i s Q E st h => let ⟨⟨_, isE⟩, _⟩ := st; wpAny_pyIter_enum isE h
def iEnumT (K : PySem.W.Frag) (ta : TA) : TI := fun σ H R => ta σ H fun vs H1 => ∃ a xs, vs = [.ref a] ∧ SqT K H1 a xs ∧ R (Itu K a) H1
/-- for i, x in enumerate(t), t a tuple -/
theorem pi_enumT {X : Cx} {e : Expr} {ta : TA} {p pos tpos : Pos} {elts : List Expr} {kk : Nat} (hg : Gl X "enumerate") (hm : X.mg "enumerate" = none) (ha : PA X [e] ta) (hs : starEach [e] X.env = [(false, eval e X.env)] := by rfl) :
    PI X (.Tuple elts kk tpos) (.Call (.Name "enumerate" p) [e] [] pos) (iEnumT X.K ta) := by
  refine ⟨fun pins s σ H R I h => ?_⟩
  refine Call_ (ld_blt I hg hm boot_enumerate (PyProof.Rows.callWith_type1 (thn (ha.run pos pins s σ H _ I h) fun us s1 ⟨vs, H1, I1, r1, q1⟩ => ?_) hs rfl))
  obtain ⟨a, xs, ex, hq, q⟩ := q1
  subst ex
  cases r1 with
  | cons r rr =>
    cases rr
    cases r
    obtain ⟨its, rv, tp, hz⟩ := I1.tuple hq
    have lta : a < s1.heap.objs.size := by obtain ⟨_, z, _⟩ := tp; exact Heap.lt_size z
    refine made (begins_tuple a its.toArray) tp fun hn isE isT hk => wpAny_pyIter_enum isE ?_
    have I2 : Inv X pins σ H1 { s1 with heap := hn } := I1.kept (t' := s1.toks) hk
    refine ⟨s1.heap.objs.size + 1, [s1.heap.objs.size + 1, s1.heap.objs.size], _, _, H1, rfl, I2, turn a (s1.heap.objs.size + 1) s1.heap.objs.size,
      ⟨⟨.none, isE⟩, ⟨_, isT, rfl, rfl⟩, Nat.succ_ne_self _, Nat.ne_of_lt lta, Nat.ne_of_gt (Nat.lt_succ_of_lt lta)⟩, fun b hb => ?_, q⟩
    have two : b = s1.heap.objs.size + 1 ∨ b = s1.heap.objs.size := by simpa using hb
    have hle : s1.heap.objs.size ≤ b := by rcases two with rfl | rfl <;> omega
    exact I1.fpOk hle (I1.hok.fresh hle)
/-- the loop's word -/
theorem for_enumT {K : PySem.W.Frag} {a : Addr} {xs : List V} {g : TG} {tb : TS} {D : Ends} {σ : L2.St} {H : Hp} (Pv : Nat → L2.St → Hp → Prop) (h0 : Pv 0 σ H) (hl : ∀ i σ H, i ≤ xs.length → Pv i σ H → SqT K H a xs)
    (hs : ∀ i x σ H T, xs[i]? = some x → Pv i σ H → H T = none → g (.ref T) σ (upd H T (.tup [.int (i : Nat), x])) fun σ2 H2 => tb { D with nx := Pv (i + 1), ct := Pv (i + 1), bk := D.nx } σ2 H2) (hd : ∀ σ H, Pv xs.length σ H → D.nx σ H) :
    ∃ W : Nat → Nat → L2.St → Hp → Prop, (∃ m, W 0 m σ H) ∧ ∀ i m σ H, W i m σ H →
      ((Itu K a).stop i H ∧ D.nx σ H) ∨ ((Itu K a).go i H ∧ ∃ N : L2.St → Hp → Prop, (∀ σ' H', N σ' H' → ∃ m', m' < m ∧ W (i + 1) m' σ' H') ∧ ∀ x H', (Itu K a).yld i H x H' → g x σ H' fun σ2 H2 => tb { D with nx := N, ct := N, bk := D.nx } σ2 H2) := by
  refine ⟨fun i m σ H => m = xs.length - i ∧ i ≤ xs.length ∧ Pv i σ H, ⟨xs.length, by simp, Nat.zero_le _, h0⟩, ?_⟩
  rintro i m σ H ⟨rfl, hi, p⟩
  have q := hl i σ H hi p
  rcases Nat.lt_or_ge i xs.length with lt | ge
  · refine .inr ⟨⟨xs, xs[i], q, by simp [lt]⟩, Pv (i + 1), fun σ2 H2 p2 => ⟨xs.length - (i + 1), by omega, rfl, lt, p2⟩, fun x H2 y => ?_⟩
    obtain ⟨T, z, rfl, nT, rfl, hz⟩ := y
    exact hs i z σ H T (hz xs q) p nT
  · obtain rfl : i = xs.length := by omega
    exact .inl ⟨⟨xs, q, Nat.le_refl _⟩, hd σ H p⟩
end ETup

/-! the checks of sizes and replies -/
namespace My
open PySem L2 Cm LM
abbrev sIIB : Stmt := top 29
abbrev sCKS : Stmt := top 31
abbrev sES : Stmt := inClass (top 9) 0
structure TxEr (K : PySem.W.Frag) (mg : Str → Option Value) (name fld : Str) (st : Stmt) (qual : Str) where
  C : Addr
  f : Addr
  fd : FuncData
  g : mg name = some (.ref C)
  o : OexC K C
  i : PySem.W.findIn K (.ref C) "__init__" = some (some (.ref f))
  t : PySem.W.typeIn K (.ref f) = some (.type "function")
  n : PySem.W.findIn K (.ref C) fld = some none
  F : Fun K "__init__" qual st f fd
  b : Binds K fd ["self", fld] []
structure TxK (K : PySem.W.Frag) (mg : Str → Option Value) where
  isi : mg "isinstance" = none
  int : mg "int" = none
  bool : mg "bool" = none
  tuple : mg "tuple" = none
  len : mg "len" = none
  mr : ∃ t, mg "MOST_REPLIES" = some (.int 100 t)
  mi : ∃ t, mg "MOST_ITEMS" = some (.int 1000 t)
  iib : Df K mg "is_integer_between" sIIB ["value", "low", "high"]
  cks : Df K mg "check_size" sCKS ["size"]
  eS : TxEr K mg "InvalidSize" "value" sES "InvalidSize.__init__"
section
variable {P : Program} {w : World} {K : PySem.W.Frag} {mg : Str → Option Value} {base : Heap}
def spER (fld : Str) (CE : Addr) : Sp := fun vs H Q _ => ∃ (a : Addr) (v : V), vs = [.ref a, v] ∧ H a = some (exo a CE none) ∧ ∀ dx, H dx = none → dx ≠ a → Q .non (upd (upd H dx (exd dx [(fld, v)])) a (exo a CE (some dx)))
theorem scES : FnScope ["self", "value"] ["self", "value"] (defScope sES) := ⟨rfl, rfl, rfl, by decide +kernel, rfl, by decide +kernel, by decide +kernel⟩
theorem ok_eS (T : TxEr K mg "InvalidSize" "value" sES "InvalidSize.__init__") : FnOk P w K mg base CX0 1 T.f T.fd ["self", "value"] (spER "value" T.C) := by
  refine T.F.ok scES (fun vs H Q E h => ?_) (fun cdv A outer s H vs Q E hr h => ?_)
  · obtain ⟨a, v, rfl, _⟩ := h
    rfl
  · obtain ⟨a, v, rfl, ha, k⟩ := h
    exact ⟨_, pss_one (ps_ost (pv 0) (pv 1)), _, rfl, _, rfl, a, T.C, rfl, T.o, T.n, .inl ⟨ha, fun dx n ne => k dx n ne⟩⟩
theorem mk_er {fld : Str} {CE : Addr} {ta : TA} {σ : St} {H : Hp} {Q : XK} {x : V} (h : ta σ H fun vs H1 => vs = [x] ∧ H1 = H) (mono : ∀ {R R' : List V → Hp → Prop}, ta σ H R → (∀ v H1, R v H1 → R' v H1) → ta σ H R')
    (q : ∀ d, H d = none → Q (.ref CE) (some d) (upd H d (.xd [(fld, x)]))) : tMkO CE (spER fld CE) [] ta σ H Q := by
  refine mono h fun vs H1 hh => ?_
  obtain ⟨rfl, rfl⟩ := hh
  refine ⟨by show 1 ≤ 1000; decide, fun a na => ⟨a, x, rfl, upd_same, fun dx ndx nda => ⟨rfl, dx, [(fld, x)], upd_same, ?_, ?_, ?_⟩⟩⟩
  · rw [upd_ne nda, upd_same]
  · rw [upd_ne nda] at ndx
    exact ndx
  · have e : upd (del (upd (upd (upd H1 a (exo a CE none)) dx (exd dx [(fld, x)])) a (exo a CE (some dx))) a) dx (.xd [(fld, x)]) = upd H1 dx (.xd [(fld, x)]) := by
      funext b
      by_cases h1 : b = dx
      · rw [h1, upd_same, upd_same]
      · rw [upd_ne h1, upd_ne h1]
        by_cases h2 : b = a
        · rw [h2, del_same, na]
        · rw [del_ne h2, upd_ne h2, upd_ne h1, upd_ne h2]
    rw [e]
    rw [upd_ne nda] at ndx
    exact q dx ndx
/-! ### is_integer_between -/
def isI : V → Bool
  | .int _ => true
  | _ => false
def isB : V → Bool
  | .bl _ => true
  | _ => false
/-- an integer within these bounds -/
def btw (lo hi : Int) : V → Bool
  | .int i => decide (lo ≤ i ∧ i ≤ hi)
  | _ => false
def TypedI (K : PySem.W.Frag) (H : Hp) (x : V) : Prop := ∃ t, TyX K H x t ∧ PySem.W.kitOne K t (.type "int") = some (isI x || isB x) ∧ PySem.W.kitOne K t (.type "bool") = some (isB x)
theorem TypedI.same {H H' : Hp} {x : V} (s : Same H H') (h : TypedI K H x) : TypedI K H' x := let ⟨t, a, b⟩ := h; ⟨t, TyX_same s a, b⟩
theorem typed_int {H : Hp} (i : Int) : TypedI K H (.int i) := ⟨_, .base (.int i), kit_ty (show kitB "int" "int" = some true by decide +kernel), kit_ty (show kitB "int" "bool" = some false by decide +kernel)⟩
theorem typed_bl {H : Hp} (i : Bool) : TypedI K H (.bl i) := ⟨_, .base (.bl i), kit_ty (show kitB "bool" "int" = some true by decide +kernel), kit_ty (show kitB "bool" "bool" = some true by decide +kernel)⟩
def spIIB (K : PySem.W.Frag) : Sp := fun vs H Q _ => ∃ (v : V) (lo hi : Int), vs = [v, .int lo, .int hi] ∧ TypedI K H v ∧ Q (.bl (btw lo hi v)) H
theorem scIIB : FnScope ["value", "low", "high"] ["value", "low", "high"] (defScope sIIB) := ⟨rfl, rfl, rfl, by decide +kernel, rfl, by decide +kernel, by decide +kernel⟩
theorem ok_iib (M : TxK K mg) : FnOk P w K mg base CX0 1 M.iib.f M.iib.fd ["value", "low", "high"] (spIIB K) := by
  refine M.iib.F.ok scIIB (fun vs H Q E h => ?_) (fun cdv A outer s H vs Q E hr h => ?_)
  · obtain ⟨v, lo, hi, rfl, _⟩ := h
    rfl
  · obtain ⟨v, lo, hi, rfl, ⟨t, ty, k1, k2⟩, k⟩ := h
    refine ⟨_, pss_one (ps_ret (pe_and (pe_callB call_isi (by rfl) M.isi (by decide +kernel) (pa_cons (pv 0) (pa_cons (pe_bltn (v := .ty "int") (by rfl) M.int (by decide +kernel) rfl) pa_nil)))
      (pe_and (pe_not (pe_callB call_isi (by rfl) M.isi (by decide +kernel) (pa_cons (pv 0) (pa_cons (pe_bltn (v := .ty "bool") (by rfl) M.bool (by decide +kernel) rfl) pa_nil))))
        (pe_one (pe_chain op_le op_le (pv 1) (pv 0) (pv 2)))))), ?_⟩
    refine ⟨_, rfl, _, _, _, _, _, rfl, .ty "int", ty, k1, _, rfl, ?_⟩
    cases hv : (isI v || isB v) with
    | false =>
      refine iteF ?_
      have e : btw lo hi v = false := by
        cases v <;> first | rfl | cases hv
      rw [e] at k
      exact k
    | true =>
      refine iteT ?_
      refine ⟨_, rfl, _, _, _, _, _, rfl, .ty "bool", ty, k2, _, rfl, _, rfl, ?_⟩
      cases hb : isB v with
      | true =>
        have e : btw lo hi v = false := by
          cases v <;> first | rfl | cases hb
        rw [e] at k
        exact iteF k
      | false =>
        refine iteT ?_
        rw [hb, Bool.or_false] at hv
        obtain ⟨i, rfl⟩ : ∃ i, v = .int i := by
          cases v <;> first | exact ⟨_, rfl⟩ | cases hv
        refine ⟨_, rfl, _, rfl, _, _, rfl, rfl, _, rfl, ?_⟩
        have k : Q (.bl (decide (lo ≤ i ∧ i ≤ hi))) H := k
        refine ite2 (fun c => ?_) (fun c => ?_)
        · refine ⟨_, rfl, _, _, rfl, rfl, ?_⟩
          have c1 : lo ≤ i := of_decide_eq_true c
          have e : decide (lo ≤ i ∧ i ≤ hi) = decide (i ≤ hi) := decide_eq_decide.mpr ⟨fun z => z.2, fun z => ⟨c1, z⟩⟩
          rw [e] at k
          exact k
        · have c1 : ¬ lo ≤ i := fun z => c (decide_eq_true z)
          rw [show decide (lo ≤ i ∧ i ≤ hi) = false from decide_eq_false fun z => c1 z.1] at k
          exact k
/-! ### check_size -/
def spCKS (K : PySem.W.Frag) (CE : Addr) : Sp := fun vs H Q E => ∃ v : V, vs = [v] ∧ TypedI K H v ∧ (btw 1 1000 v = true → Q .non H) ∧ (btw 1 1000 v = false → ∀ d, H d = none → E (.ref CE) (some d) (upd H d (.xd [("value", v)])))
theorem scCKS : FnScope ["size"] ["size"] (defScope sCKS) := ⟨rfl, rfl, rfl, by decide +kernel, rfl, by decide +kernel, by decide +kernel⟩
theorem ok_cks (M : TxK K mg) : FnOk P w K mg base (L2.CX P w) 3 M.cks.f M.cks.fd ["size"] (spCKS K M.eS.C) := by
  have GI : FnOk P w K mg base CX0 1 M.iib.f M.iib.fd ["value", "low", "high"] (spIIB K) := ok_iib M
  have GE : FnOk P w K mg base CX0 1 M.eS.f M.eS.fd ["self", "value"] (spER "value" M.eS.C) := ok_eS M.eS
  obtain ⟨tm, mi⟩ := M.mi
  refine M.cks.F.okX scCKS (fun vs H Q E h => ?_) (fun cdv A outer s H vs Q E hr h => ?_)
  · obtain ⟨v, rfl, _⟩ := h
    rfl
  · obtain ⟨v, rfl, ty, k1, k2⟩ := h
    have hr1 : Room 1 _ := hr.mono (by decide)
    refine ⟨_, pss_one (ps_if (pt_not (pt_val (pe_call GI hr1 rfl M.iib.g M.iib.k M.iib.b .nil pass0 (pa_cons (pv 0) (pa_cons pe_int (pa_cons (pe_glob (v := .int 1000) rfl mi ⟨_, rfl⟩) pa_nil))))))
      (pss_one (ps_raise rfl (takes_of rfl rfl rfl rfl) (pmk_oex M.eS.o M.eS.i M.eS.t GE hr M.eS.b .nil pass0 rfl M.eS.g (pa_cons (pv 0) pa_nil)))) pss_nil), ?_⟩
    refine ⟨_, rfl, v, 1, 1000, rfl, ty, _, rfl, ?_⟩
    cases hb : btw 1 1000 v with
    | true => exact iteF (k1 hb)
    | false => exact iteT (mk_er (x := v) ⟨v, rfl, rfl, rfl⟩ (fun {R R'} ⟨v, e1, q⟩ f => ⟨v, e1, f _ _ q⟩) (k2 hb))
end
end My

/-! right loops: their words, and loops without a word -/
namespace LM
open PySem L2 TL
theorem part_back {x y : Str} (h : ((Txt.partition x y).2.1.length != 0) = true) : x = (Txt.partition x y).1 ++ y ++ (Txt.partition x y).2.2 := by
  rcases PyProof.Rows.partition_whole x y with ⟨e, _⟩ | ⟨i, e, hi, _⟩
  · rw [e] at h
    exact absurd (show ((Str.empty).length != 0) = true from h) (by decide)
  · rw [e]
    refine ext_tl ?_
    rw [tl_append, tl_append, tl_strSub, tl_strSub_end, List.drop_zero, Nat.sub_zero]
    by_cases hy : tl y = []
    · have : y.length = 0 := by rw [len_tl, hy]; rfl
      rw [hy, this, List.append_nil, Nat.add_zero, List.take_append_drop]
    · have hp := (at_iff hy i).mp hi
      have e2 : ((tl x).drop i).take (tl y).length = tl y := eq_of_beq hp
      have e3 : tl y ++ (tl x).drop (i + y.length) = (tl x).drop i := by
        rw [len_tl y, ← drop_two]
        have := List.take_append_drop (tl y).length ((tl x).drop i)
        rw [e2] at this
        exact this
      rw [List.append_assoc, e3, List.take_append_drop]
theorem word_wd {w : Str} {ss : List Str} (h : isWord w ss = true) : Wd ss w := by
  unfold isWord at h
  cases hc : ((Txt.partition w ":").2.1.length != 0) with
  | true =>
    rw [if_pos hc] at h
    have h2 := Bool.and_eq_true_iff.mp h
    exact ⟨_, of_decide_eq_true h2.2, .inr ⟨_, of_decide_eq_true h2.1, part_back hc⟩⟩
  | false =>
    rw [if_neg (by rw [hc]; exact Bool.false_ne_true)] at h
    exact ⟨w, of_decide_eq_true h, .inl rfl⟩
/-- free and short -/
def FS (w : Str) : Prop := Fre w ∧ w.length ≤ 11
theorem wd_fs {w : Str} (h : Wd rsteps w) : FS w := by
  have := wd_ok w h.mem
  unfold wdOk at this
  simp only [Bool.and_eq_true, decide_eq_true_eq] at this
  exact ⟨⟨this.2.1, this.2.2.1⟩, this.2.2.2⟩
theorem e_r : ∀ s ∈ esteps, s ∈ rsteps := by decide +kernel
theorem ask_fs : FS "ask" := ⟨⟨by decide +kernel, by decide +kernel⟩, by decide +kernel⟩
theorem areWords_iff {ws ss : List Str} : areWords ws ss = true ↔ ∀ w ∈ ws, isWord w ss = true := List.all_eq_true
theorem isRound_iff {B : List Str} : isRound B = true ↔ ∃ r, B = ("ask" : Str) :: r ∧ B.length ≤ 12 ∧ (B.filter isAdd).length ≤ 1 ∧ ∀ w ∈ r, isWord w rsteps = true := by
  unfold isRound
  simp only [Bool.and_eq_true, decide_eq_true_eq, areWords_iff]
  constructor
  · rintro ⟨h1, h2, h3, h4⟩
    cases B with
    | nil => cases h1
    | cons x r =>
      have : x = "ask" := Option.some.inj h1
      subst this
      exact ⟨r, rfl, h2, h3, h4⟩
  · rintro ⟨r, rfl, h2, h3, h4⟩
    exact ⟨rfl, h2, h3, h4⟩
theorem isEnding_iff {E : List Str} : isEnding E = true ↔ E.length ≤ 6 ∧ ∀ w ∈ E, isWord w esteps = true := by
  unfold isEnding
  simp only [Bool.and_eq_true, decide_eq_true_eq, areWords_iff]
theorem round_fs {B : List Str} (h : isRound B = true) : ∀ w ∈ B, FS w := by
  obtain ⟨r, rfl, _, _, h4⟩ := isRound_iff.mp h
  intro w hw
  rcases List.mem_cons.mp hw with rfl | hw
  · exact ask_fs
  · exact wd_fs (word_wd (h4 w hw))
theorem ending_fs {E : List Str} (h : isEnding E = true) : ∀ w ∈ E, FS w := fun w hw => wd_fs ((word_wd ((isEnding_iff.mp h).2 w hw)).mono e_r)
theorem round_ne {B : List Str} (h : isRound B = true) : B ≠ [] := by
  obtain ⟨r, rfl, _⟩ := isRound_iff.mp h
  simp
theorem round_sht {B : List Str} (h : isRound B = true) : Sht 12 B := ⟨fun w hw => (round_fs h w hw).2, let ⟨_, _, h2, _⟩ := isRound_iff.mp h; h2⟩
theorem ending_sht {E : List Str} (h : isEnding E = true) : Sht 6 E := ⟨fun w hw => (ending_fs h w hw).2, (isEnding_iff.mp h).1⟩
theorem Sht.mono {n m : Nat} {B : List Str} (h : Sht n B) (l : n ≤ m) : Sht m B := ⟨h.1, Nat.le_trans h.2 l⟩
theorem text_words {B E : List Str} (hB : isRound B = true) (hE : isEnding E = true) : wordsR (textOf B E) = B ∧ wordsE (textOf B E) = E := words_text (round_ne hB) (fun w hw => (round_fs hB w hw).1) (fun w hw => (ending_fs hE w hw).1)
theorem text_good {B E : List Str} (hB : isRound B = true) (hE : isEnding E = true) : goodText (textOf B E) = true := by
  have := text_words hB hE
  unfold goodText
  rw [this.1, this.2, hB, hE]
  rfl
theorem text_len {B E : List Str} (hB : isRound B = true) (hE : isEnding E = true) : (textOf B E).length ≤ 300 := by
  have h1 := (round_sht hB).join
  have h2 := (ending_sht hE).join
  unfold textOf
  split
  · omega
  · rw [strLen_append, strLen_append]
    have : (" | " : Str).length = 3 := by decide +kernel
    omega
/-- without the word at i -/
theorem round_erase {B : List Str} {i : Nat} (hB : isRound B = true) (hi : 1 ≤ i) : isRound (B.eraseIdx i) = true := by
  obtain ⟨r, rfl, h2, h3, h4⟩ := isRound_iff.mp hB
  obtain ⟨k, rfl⟩ : ∃ k, i = k + 1 := ⟨i - 1, by omega⟩
  have sub : (("ask" : Str) :: r.eraseIdx k).Sublist (("ask" : Str) :: r) := (List.eraseIdx_sublist r k).cons_cons _
  refine isRound_iff.mpr ⟨r.eraseIdx k, rfl, Nat.le_trans sub.length_le h2, Nat.le_trans (sub.filter isAdd).length_le h3, fun w hw => h4 w ((List.eraseIdx_sublist r k).subset hw)⟩
theorem ending_erase {E : List Str} {i : Nat} (hE : isEnding E = true) : isEnding (E.eraseIdx i) = true := by
  have h := isEnding_iff.mp hE
  exact isEnding_iff.mpr ⟨Nat.le_trans (List.eraseIdx_sublist E i).length_le h.1, fun w hw => h.2 w ((List.eraseIdx_sublist E i).subset hw)⟩
theorem good_iff {t : Str} : goodText t = true ↔ isRound (wordsR t) = true ∧ isEnding (wordsE t) = true := Bool.and_eq_true_iff
end LM

/-! Loop.execution, Loop.run -/
namespace My
open PySem L2 Cm LM EM
abbrev sLX : Stmt := inClass (top 64) 8
/-! ### the mirror -/
def itemsF (f c : Nat) : List Int := (List.range c).map fun i => (f : Int) + (i : Nat)
theorem itemsF_len (f c : Nat) : (itemsF f c).length = c := by rw [itemsF, List.length_map, List.length_range]
theorem rgV_items (f c : Nat) : rgV (f : Int) ((f : Int) + (c : Int)) = ivs (itemsF f c) := by
  unfold rgV itemsF ivs
  rw [show ((f : Int) + (c : Int) - (f : Int)).toNat = c by omega, List.map_map]
  rfl
/-- what a run has done: the row, the first item that comes next, the replies used, whether it has stopped -/
structure RS where
  x : RP
  f : Nat
  u : Nat
  st : Bool
def stepM (sz : Nat) (ro eo : List (Str × Str)) (s : RS) (r : Nat × Bool) : RS := if s.st = true then s else ⟨(ansM sz ro eo (itemsF s.f r.1) r.2 s.x).1, s.f + r.1, s.u + 1, (ansM sz ro eo (itemsF s.f r.1) r.2 s.x).2⟩
def runM (sz : Nat) (ro eo : List (Str × Str)) (rs : List (Nat × Bool)) : RS := rs.foldl (stepM sz ro eo) ⟨⟨[], []⟩, 0, 0, false⟩
theorem runM_stop {sz : Nat} {ro eo : List (Str × Str)} : ∀ {rs : List (Nat × Bool)} {s : RS}, s.st = true → rs.foldl (stepM sz ro eo) s = s
  | [], _, _ => rfl
  | r :: rs, s, h => by
    rw [List.foldl_cons, show stepM sz ro eo s r = s by unfold stepM; rw [if_pos h]]
    exact runM_stop h
theorem fold_bound {sz : Nat} {ro eo : List (Str × Str)} (hs : 1 ≤ sz) (l1 : ro.length ≤ 12) (l2 : eo.length ≤ 6) : ∀ (rs : List (Nat × Bool)) (k : Nat) (s : RS), k + rs.length ≤ 100 → (∀ r ∈ rs, r.1 ≤ sz) → Few sz (18 * k) (k * 32724) s.x → s.f ≤ k * sz → s.u ≤ k →
    Few sz (18 * (k + rs.length)) ((k + rs.length) * 32724) (rs.foldl (stepM sz ro eo) s).x ∧ (rs.foldl (stepM sz ro eo) s).f ≤ (k + rs.length) * sz ∧ (rs.foldl (stepM sz ro eo) s).u ≤ k + rs.length
  | [], k, s, _, _, f1, f2, f3 => ⟨f1, f2, f3⟩
  | r :: rs, k, s, hn, hr, f1, f2, f3 => by
    rw [List.length_cons] at hn
    have em : (k + 1) * sz = k * sz + sz := Nat.succ_mul _ _
    have hr1 : r.1 ≤ sz := hr r (List.mem_cons_self ..)
    have st : Few sz (18 * (k + 1)) ((k + 1) * 32724) (stepM sz ro eo s r).x ∧ (stepM sz ro eo s r).f ≤ (k + 1) * sz ∧ (stepM sz ro eo s r).u ≤ k + 1 := by
      unfold stepM
      split
      · exact ⟨f1.mono (by omega) (by omega), by omega, by omega⟩
      · refine ⟨?_, by show s.f + r.1 ≤ _; omega, by show s.u + 1 ≤ _; omega⟩
        have := few_ans (ro := ro) (eo := eo) (held := itemsF s.f r.1) (told := r.2) hs (by rw [itemsF_len]; exact hr1) l1 l2 f1
        exact this.mono (by omega) (by omega)
    have ih := fold_bound hs l1 l2 rs (k + 1) (stepM sz ro eo s r) (by omega) (fun q hq => hr q (List.mem_cons_of_mem _ hq)) st.1 st.2.1 st.2.2
    rw [List.foldl_cons, List.length_cons, show k + (rs.length + 1) = k + 1 + rs.length by omega]
    exact ih
theorem runM_bound {sz : Nat} {ro eo : List (Str × Str)} (hs : 1 ≤ sz) (l1 : ro.length ≤ 12) (l2 : eo.length ≤ 6) (rs : List (Nat × Bool)) (hn : rs.length ≤ 100) (hr : ∀ r ∈ rs, r.1 ≤ sz) :
    Few sz (18 * rs.length) (rs.length * 32724) (runM sz ro eo rs).x ∧ (runM sz ro eo rs).f ≤ rs.length * sz ∧ (runM sz ro eo rs).u ≤ rs.length := by
  have := fold_bound (ro := ro) (eo := eo) hs l1 l2 rs 0 ⟨⟨[], []⟩, 0, 0, false⟩ (by omega) hr ⟨Nat.zero_le _, Nat.zero_le _⟩ (Nat.zero_le _) (Nat.zero_le _)
  rw [Nat.zero_add] at this
  exact this
/-- rows of replies -/
inductive Rps (H : Hp) : List V → List (Nat × Bool) → Prop
  | nil : Rps H [] []
  | cons {q : Addr} {r : Nat × Bool} {vs : List V} {rs : List (Nat × Bool)} (h : H q = some (.tup [.int r.1, .bl r.2])) (t : Rps H vs rs) : Rps H (.ref q :: vs) (r :: rs)
theorem Rps.mono {H H' : Hp} (f : ∀ (p : Addr) (xs : List V), H p = some (.tup xs) → H' p = some (.tup xs)) : ∀ {vs rs}, Rps H vs rs → Rps H' vs rs
  | _, _, .nil => .nil
  | _, _, .cons h t => .cons (f _ _ h) (t.mono f)
theorem Rps.same {H H' : Hp} (s : Same H H') {vs rs} (h : Rps H vs rs) : Rps H' vs rs := h.mono fun _ _ e => s _ _ e
theorem Rps.len {H : Hp} : ∀ {vs rs}, Rps H vs rs → vs.length = rs.length
  | _, _, .nil => rfl
  | _, _, .cons _ t => congrArg (· + 1) t.len
theorem Rps.get {H : Hp} : ∀ {vs rs} {i : Nat} {y : V}, Rps H vs rs → vs[i]? = some y → ∃ (q : Addr) (r : Nat × Bool), rs[i]? = some r ∧ y = .ref q ∧ H q = some (.tup [.int r.1, .bl r.2])
  | _, _, i, y, .nil, h => by simp at h
  | _, _, 0, y, .cons h _, e => ⟨_, _, rfl, (Option.some.inj e).symm, h⟩
  | _, _, i + 1, y, .cons _ t, e => t.get (i := i) e
structure TxN (K : PySem.W.Frag) (mg : Str → Option Value) where
  T : TxC K mg
  X : TxX K mg
  k : TxK K mg
  lx : Mt K T.C "execution" "Loop.execution" sLX ["self", "size", "kept"]
def ordsR (t : Str) : List (Str × Str) := (wordsR t).map orderOf
def ordsE (t : Str) : List (Str × Str) := (wordsE t).map orderOf
section
variable {P : Program} {w : World} {K : PySem.W.Frag} {mg : Str → Option Value} {base : Heap}
def spLX (CL CX : Addr) : Sp := fun vs H Q _ => ∃ (o r : Addr) (t : Str) (sz : Nat) (rest : List Int), vs = [.ref o, .int sz, .ref r] ∧ LoopAt CL H o t ∧ H r = some (.tup (ivs rest)) ∧
  ∀ (H' : Hp) (x dx ro eo p : Addr), Same H H' → H x = none → H p = none → ExAt CX H' x dx ro eo p 0 sz [] false ⟨rest, []⟩ false → OrdT H' ro (ordsR t) → OrdT H' eo (ordsE t) → Q (.ref x) H'
theorem scLX : FnScope ["self", "size", "kept"] ["self", "size", "kept"] (defScope sLX) := ⟨rfl, rfl, rfl, by decide +kernel, rfl, by decide +kernel, by decide +kernel⟩
theorem ok_lx (N : TxN K mg) : FnOk P w K mg base CX0 3 N.lx.f N.lx.fd ["self", "size", "kept"] (spLX N.T.C N.X.C) := by
  have GI : FnOk P w K mg base CX0 1 N.X.fI N.X.fdI ["self", "round_orders", "ending_orders", "size", "kept"] (spXI N.X.C) := ok_xi N.X
  refine N.lx.F.ok scLX (fun vs H Q E h => ?_) (fun cdv A outer s H vs Q E hr h => ?_)
  · obtain ⟨o, r, t, sz, rest, rfl, _⟩ := h
    rfl
  · obtain ⟨o, r, t, sz, rest, rfl, ⟨dx, pr, pe, po, pq, e, _, _, h1, h2⟩, hr', k⟩ := h
    refine ⟨_, pss_one (ps_ret (pe_make N.X.MI GI hr rfl N.X.gC N.X.bI .nil pass0 (pa_cons (pe_fld (pv 0) rfl) (pa_cons (pe_fld (pv 0) rfl) (pa_cons (pv 1) (pa_cons (pv 2) pa_nil)))))), ?_⟩
    refine ⟨_, rfl, o, N.T.C, dx, _, _, rfl, e, N.T.cl, N.T.nO, lf_ro .., _, rfl, o, N.T.C, dx, _, _, rfl, e, N.T.cl, N.T.nQ, lf_eo .., _, rfl, _, rfl, ?_⟩
    intro x dx' nx ndx nex
    refine ⟨x, dx', po, pq, r, sz, rest, rfl, upd_same, ?_, fun H2 p o2 np X2 => ⟨rfl, ?_⟩⟩
    · rw [upd_ne (ne_of_none hr' nx), upd_ne (ne_of_none hr' ndx)]
      exact hr'
    · have s2 := made_same nx ndx o2
      have np0 : H p = none := by
        by_cases e1 : p = x
        · rw [e1]; exact nx
        · rw [upd_ne e1] at np
          by_cases e2 : p = dx'
          · rw [e2]; exact ndx
          · rw [upd_ne e2] at np
            exact np
      exact k H2 x dx' po pq p s2 nx np0 X2 (h1.mono fun _ _ z => s2 _ _ z) (h2.mono fun _ _ z => s2 _ _ z)
end
theorem Pcs.app {H : Hp} : ∀ {vs xs ws ys}, Pcs H vs xs → Pcs H ws ys → Pcs H (vs ++ ws) (xs ++ ys)
  | _, _, _, _, .nil, h => h
  | _, _, _, _, .cons a t, h => .cons a (t.app h)
theorem Pcs.same {H H' : Hp} (s : Same H H') {vs xs} (h : Pcs H vs xs) : Pcs H' vs xs := h.mono fun _ _ e => s _ _ e
def intD (xs : List Int) : List PyData := xs.map PyData.int
theorem dpI {K : PySem.W.Frag} {H : Hp} : ∀ xs : List Int, DpAll K H (ivs xs) (intD xs)
  | [] => .nil
  | x :: r => .cons (.int x) (dpI r)
theorem intD_lay : ∀ xs : List Int, PyData.canLayAll0 (intD xs) = true
  | [] => by simp [intD, PyData.canLayAll0]
  | x :: r => by
    have := intD_lay r
    simp only [intD, List.map_cons, PyData.canLayAll0, PyData.canLay0, Bool.true_and] at this ⊢
    exact this
theorem intD_depth : ∀ xs : List Int, PyData.depthAll (intD xs) ≤ 1
  | [] => by simp [intD, PyData.depthAll]
  | x :: r => by
    have := intD_depth r
    simp only [intD, List.map_cons, PyData.depthAll, PyData.depth] at this ⊢
    omega
theorem intD_shaped (xs : List Int) : SeqAt.shaped (.list (intD xs)) = true := by
  have := intD_depth xs
  refine Bool.and_eq_true_iff.mpr ⟨by simp only [PyData.canLay0]; exact intD_lay xs, decide_eq_true ?_⟩
  simp only [PyData.depth]
  omega
theorem eqv_inil (xs : List Int) : PyData.eqv (.list (intD xs)) (.list []) = decide (xs = []) := by
  cases xs with
  | nil => simp [intD, PyData.eqv, PyData.eqvAll]
  | cons x r => simp [intD, PyData.eqv, PyData.eqvAll]
theorem pos_nil (xs : List Int) : decide (0 < xs.length) = !decide (xs = []) := by cases xs <;> simp
end My

/-! shown data as data: code points, lengths -/
namespace SkT
open PySem
theorem ok_of (s : String) : PyData.strOk (Str.ofString s) = true := by
  unfold PyData.strOk
  rw [Str.ofString_eq_toList, List.all_toArray, List.all_eq_true]
  intro n hn
  obtain ⟨c, _, rfl⟩ := List.mem_map.mp hn
  refine decide_eq_true ?_
  have := c.valid
  unfold Char.toNat
  rcases this with h | h
  · exact Nat.lt_trans h (by decide)
  · exact h.2
theorem ok_app {a b : Str} (h1 : PyData.strOk a = true) (h2 : PyData.strOk b = true) : PyData.strOk (a ++ b) = true := by
  unfold PyData.strOk at h1 h2 ⊢
  show (a.cps ++ b.cps).all _ = true
  rw [Array.all_append, h1, h2]
  rfl
theorem ok_join {sep : Str} (hs : PyData.strOk sep = true) : ∀ {ts : List Str}, (∀ t ∈ ts, PyData.strOk t = true) → PyData.strOk (Str.join sep ts) = true
  | [], _ => (by decide +kernel : PyData.strOk Str.empty = true)
  | [x], h => h x List.mem_cons_self
  | x :: y :: r, h => ok_app (ok_app (h x List.mem_cons_self) hs) (ok_join hs fun t ht => h t (List.mem_cons_of_mem _ ht))
theorem ok_from : ∀ {ts : List Str} {k : Nat} {acc : Str}, PyData.strOk acc = true → (∀ t ∈ ts, PyData.strOk t = true) → PyData.strOk (textFrom k acc ts) = true
  | [], _, _, ha, _ => ha
  | t :: r, k, acc, ha, h => by
    rw [textFrom]
    exact ok_from (ok_app (ok_app ha (ok_of _)) (h t List.mem_cons_self)) fun x hx => h x (List.mem_cons_of_mem _ hx)
theorem ok_list {ts : List Str} (h : ∀ t ∈ ts, PyData.strOk t = true) : PyData.strOk (listText ts) = true := ok_app (ok_from (ok_of _) h) (ok_of _)
theorem ok_tup {ts : List Str} (h : ∀ t ∈ ts, PyData.strOk t = true) : PyData.strOk (tupleText ts) = true := ok_app (ok_app (ok_of _) (ok_join (ok_of _) h)) (ok_of _)
theorem join_le : ∀ ts : List Str, (Str.join ", " ts).length ≤ (ts.map fun t => t.length + 2).sum
  | [] => Nat.le_refl _
  | [x] => by
    show x.length ≤ _
    simp
  | x :: y :: r => by
    show (x ++ ", " ++ Str.join ", " (y :: r)).length ≤ _
    rw [strLen_append, strLen_append, show (", " : Str).length = 2 by decide +kernel]
    have := join_le (y :: r)
    rw [List.map_cons, List.sum_cons]
    omega
theorem tup_le (ts : List Str) : (tupleText ts).length ≤ (ts.map fun t => t.length + 2).sum + 3 := by
  unfold tupleText
  rw [strLen_append, strLen_append, show ("(" : Str).length = 1 by decide +kernel]
  have := join_le ts
  have : (Str.ofString (if ts.length == 1 then ",)" else ")" : String)).length ≤ 2 := by
    split
    · decide +kernel
    · decide +kernel
  omega
theorem from_le : ∀ (ts : List Str) (k : Nat) (acc : Str), (textFrom k acc ts).length ≤ acc.length + (ts.map fun t => t.length + 2).sum
  | [], _, _ => by simp [textFrom]
  | t :: r, k, acc => by
    rw [textFrom]
    have ih := from_le r (k + 1) (acc ++ (if k > 0 then ", " else "" : String) ++ t)
    rw [strLen_append, strLen_append] at ih
    have : (Str.ofString (if k > 0 then ", " else "" : String)).length ≤ 2 := by
      split
      · decide +kernel
      · decide +kernel
    rw [List.map_cons, List.sum_cons]
    omega
theorem list_le (ts : List Str) : (listText ts).length ≤ (ts.map fun t => t.length + 2).sum + 2 := by
  unfold listText
  rw [strLen_append, show ("]" : Str).length = 1 by decide +kernel]
  have := from_le ts 0 "["
  rw [show ("[" : Str).length = 1 by decide +kernel] at this
  omega
/-- data that can be shown; n bounds its text, k its depth -/
structure Sw (n k : Nat) (d : PyData) : Prop where
  sh : d.showable = true
  dp : d.depth ≤ k
  ln : d.shown.length ≤ n
  ok : PyData.strOk d.shown = true
theorem Sw.mono {n m k j : Nat} {d : PyData} (h : Sw n k d) (a : n ≤ m) (b : k ≤ j) : Sw m j d := ⟨h.sh, Nat.le_trans h.dp b, Nat.le_trans h.ln a, h.ok⟩
theorem sw_all {n k : Nat} : ∀ {ds : List PyData}, (∀ x ∈ ds, Sw n k x) → PyData.showableAll ds = true ∧ PyData.depthAll ds ≤ k ∧ ((PyData.shownAll ds).map fun t => t.length + 2).sum ≤ (n + 2) * ds.length ∧ ∀ t ∈ PyData.shownAll ds, PyData.strOk t = true
  | [], _ => ⟨rfl, by simp [PyData.depthAll], by simp [PyData.shownAll], fun t h => by simp [PyData.shownAll] at h⟩
  | d :: r, h => by
    obtain ⟨a, b, c, e⟩ := sw_all (ds := r) fun x hx => h x (List.mem_cons_of_mem _ hx)
    have hd := h d List.mem_cons_self
    refine ⟨?_, ?_, ?_, ?_⟩
    · rw [PyData.showableAll, a, hd.sh]; rfl
    · rw [PyData.depthAll]; exact Nat.max_le.mpr ⟨hd.dp, b⟩
    · rw [PyData.shownAll, List.map_cons, List.sum_cons, List.length_cons, Nat.mul_succ]
      have := hd.ln
      omega
    · intro t ht
      rw [PyData.shownAll] at ht
      rcases List.mem_cons.mp ht with rfl | z
      · exact hd.ok
      · exact e t z
theorem sw_tup {n k : Nat} {ds : List PyData} (h : ∀ x ∈ ds, Sw n k x) : Sw ((n + 2) * ds.length + 3) (k + 1) (.tuple ds) := by
  obtain ⟨a, b, c, e⟩ := sw_all h
  refine ⟨by rw [PyData.showable]; exact a, by rw [PyData.depth]; omega, ?_, ?_⟩
  · rw [PyData.shown]
    exact Nat.le_trans (tup_le _) (by omega)
  · rw [PyData.shown]
    exact ok_tup e
theorem sw_lst {n k : Nat} {ds : List PyData} (h : ∀ x ∈ ds, Sw n k x) : Sw ((n + 2) * ds.length + 2) (k + 1) (.list ds) := by
  obtain ⟨a, b, c, e⟩ := sw_all h
  refine ⟨by rw [PyData.showable]; exact a, by rw [PyData.depth]; omega, ?_, ?_⟩
  · rw [PyData.shown]
    exact Nat.le_trans (list_le _) (by omega)
  · rw [PyData.shown]
    exact ok_list e
theorem log_nat {n : Nat} (h : n < 10 ^ 20) : (n : Nat).log2 < 1920 := by
  by_cases h0 : n = 0
  · rw [h0]; decide
  · exact Nat.lt_of_lt_of_le ((Nat.log2_lt h0).mpr (Nat.lt_of_lt_of_le h (show 10 ^ 20 ≤ 2 ^ 70 by decide))) (by decide)
theorem sw_int {i : Int} {n : Nat} (h : i.natAbs < 10 ^ 20) (hl : (PyData.shown (.int i)).length ≤ n) : Sw n 0 (.int i) := ⟨by simp only [PyData.showable, decide_eq_true_eq]; exact log_nat h, by simp [PyData.depth], hl, ok_of _⟩
theorem sw_bl (b : Bool) : Sw 5 0 (.bool b) := by cases b <;> exact ⟨rfl, by simp [PyData.depth], by decide +kernel, by decide +kernel⟩
theorem sw_non : Sw 4 0 .none := ⟨rfl, by simp [PyData.depth], by decide +kernel, by decide +kernel⟩
/-- two rows of two words as data -/
theorem shaped2 {a b : Str} (h1 : PyData.strOk a = true) (h2 : PyData.strOk b = true) : SeqAt.shaped (.list [.str a, .str b]) = true := by
  unfold SeqAt.shaped
  simp [PyData.canLay0, PyData.canLayAll0, h1, h2, PyData.depth, PyData.depthAll]
theorem shaped3 {a b : Str} {c : Bool} (h1 : PyData.strOk a = true) (h2 : PyData.strOk b = true) : SeqAt.shaped (.list [.str a, .str b, .bool c]) = true := by
  unfold SeqAt.shaped
  simp [PyData.canLay0, PyData.canLayAll0, h1, h2, PyData.depth, PyData.depthAll]
end SkT

/-! replies and pieces as data -/
namespace My
open PySem L2 Cm LM EM
def repsD (rs : List (Nat × Bool)) : List PyData := rs.map fun r => PyData.tuple [.int (r.1 : Nat), .bool r.2]
def pcsD (ps : List (List Int)) : List PyData := ps.map fun p => PyData.tuple (intD p)
theorem rps_dp {K : PySem.W.Frag} {H : Hp} : ∀ {vs rs}, Rps H vs rs → DpAll K H vs (repsD rs)
  | _, _, .nil => .nil
  | _, _, .cons h t => .cons (.tup (SqT.of h) (.cons (.int _) (.cons (.bl _) .nil))) (rps_dp t)
theorem pcs_dp {K : PySem.W.Frag} {H : Hp} : ∀ {vs ps}, Pcs H vs ps → DpAll K H vs (pcsD ps)
  | _, _, .nil => .nil
  | _, _, .cons h t => .cons (.tup (SqT.of h) (dpI _)) (pcs_dp t)
theorem repsD_lay : ∀ rs : List (Nat × Bool), PyData.canLayAll0 (repsD rs) = true ∧ PyData.depthAll (repsD rs) ≤ 1
  | [] => ⟨by simp [repsD, PyData.canLayAll0], by simp [repsD, PyData.depthAll]⟩
  | r :: q => by
    obtain ⟨a, b⟩ := repsD_lay q
    have e : repsD (r :: q) = PyData.tuple [.int (r.1 : Nat), .bool r.2] :: repsD q := rfl
    rw [e]
    refine ⟨?_, ?_⟩
    · rw [PyData.canLayAll0, a]; simp [PyData.canLay0, PyData.canLayAll0]
    · rw [PyData.depthAll]; exact Nat.max_le.mpr ⟨by simp [PyData.depth, PyData.depthAll], b⟩
theorem pcsD_lay : ∀ ps : List (List Int), PyData.canLayAll0 (pcsD ps) = true ∧ PyData.depthAll (pcsD ps) ≤ 2
  | [] => ⟨by simp [pcsD, PyData.canLayAll0], by simp [pcsD, PyData.depthAll]⟩
  | p :: q => by
    obtain ⟨a, b⟩ := pcsD_lay q
    have e : pcsD (p :: q) = PyData.tuple (intD p) :: pcsD q := rfl
    have h := intD_depth p
    rw [e]
    refine ⟨?_, ?_⟩
    · rw [PyData.canLayAll0, a, PyData.canLay0, intD_lay]; rfl
    · rw [PyData.depthAll]; exact Nat.max_le.mpr ⟨by rw [PyData.depth]; omega, b⟩
end My

/-! raise C() of an own class without own __init__ -/
namespace MkO
open PySem PySem.Spec PyProof.Rows L2
section
variable {X : Cx}
theorem pmk_own0 {C : Addr} {bmB : List Value} {B newId initId : String} {x : Str} {p pos : Pos} (F : ExcBaseFacts B newId initId bmB) (q : PySem.W.excIn X.K C bmB newId = true) (gC : X.mg x = some (.ref C))
    (kC : PySem.W.keepIn X.K (.ref C) = true) (r : Raises X (.ref C)) (hg : Gl X x) (hdb : (x == ("__debug__" : Str)) = false := by decide) :
    PMk X (.Call (.Name x p) [] [] pos) (fun _ H Q => Q (.ref C) none H) := by
  intro pins s σ H Q I h
  refine wpAny_Call_Name_kw (ld_glob I hg gC ?_ hdb)
  refine PySem.W.callWith_K0 I.kIn kC ?_
  show wpAny _ _ (call (.ref C) []) _ _ _
  obtain ⟨bm, N, nm, qn, bs, hdct, sn, sub, ab, col, dd, k0, k1, k2, k3, k5, mN, hC, hN, hni, T⟩ := exc_obj I.kIn q
  refine wpAny_call_exc_subT F T hC hN hni (fun h' e hm => ?_) (by show 0 ≤ sizeLine; rw [sizeLine_eq]; omega)
  exact mk_of I hm r h (I.hok.gone hm.new)
end
end MkO

/-! pieces that were handed before do not matter -/
namespace EM
open PySem L2
def addP (ps : List (List Int)) (x : RP) : RP := ⟨x.rest, ps ++ x.pieces⟩
theorem addP_rest (ps : List (List Int)) (x : RP) : (addP ps x).rest = x.rest := rfl
theorem perf_add (size : Nat) (held : List Int) (s : Str) (ps : List (List Int)) (x : RP) : perfM size held s (addP ps x) = addP ps (perfM size held s x) := by
  unfold perfM addP
  split
  · rfl
  · split
    · show RP.mk _ _ = RP.mk _ _
      rw [List.append_assoc]
    · split
      · show RP.mk _ _ = RP.mk _ _
        rw [List.append_assoc]
      · split
        · show RP.mk _ _ = RP.mk _ _
          rw [List.append_assoc]
        · rfl
theorem run_add (size : Nat) (held : List Int) (told : Bool) (ps : List (List Int)) : ∀ (os : List (Str × Str)) (x : RP), runW size held told os (addP ps x) = (addP ps (runW size held told os x).1, (runW size held told os x).2)
  | [], x => rfl
  | (t, s) :: r, x => by
    unfold runW
    rw [addP_rest]
    split
    · split
      · rfl
      · split
        · rfl
        · rw [perf_add]
          exact run_add size held told ps r _
    · exact run_add size held told ps r x
theorem end_add (size : Nat) (held : List Int) (told : Bool) (ps : List (List Int)) : ∀ (os : List (Str × Str)) (x : RP), endW size held told os (addP ps x) = addP ps (endW size held told os x)
  | [], x => rfl
  | (t, s) :: r, x => by
    unfold endW
    rw [addP_rest]
    split
    · rw [perf_add]
      exact end_add size held told ps r _
    · exact end_add size held told ps r x
theorem ans_add (size : Nat) (ro eo : List (Str × Str)) (held : List Int) (told : Bool) (ps : List (List Int)) (x : RP) : ansM size ro eo held told (addP ps x) = (addP ps (ansM size ro eo held told x).1, (ansM size ro eo held told x).2) := by
  unfold ansM
  rw [run_add]
  split
  · rw [end_add]
  · rfl
/-- from the rest alone -/
theorem ans_from (size : Nat) (ro eo : List (Str × Str)) (held : List Int) (told : Bool) (x : RP) : ansM size ro eo held told x = (⟨(ansM size ro eo held told ⟨x.rest, []⟩).1.rest, x.pieces ++ (ansM size ro eo held told ⟨x.rest, []⟩).1.pieces⟩, (ansM size ro eo held told ⟨x.rest, []⟩).2) := by
  have e : x = addP x.pieces ⟨x.rest, []⟩ := by
    obtain ⟨r, p⟩ := x
    show RP.mk r p = RP.mk r (p ++ [])
    rw [List.append_nil]
  conv => lhs; rw [e, ans_add]
  rfl
end EM

/-! readings: Moment, Reading -/
namespace My
open PySem L2 Cm LM EM
abbrev sMmI : Stmt := inClass (top 116) 0
abbrev sRdI : Stmt := inClass (top 119) 0
abbrev sRdG : Stmt := inClass (top 119) 1
abbrev sRdH : Stmt := inClass (top 119) 2
abbrev sRdK : Stmt := inClass (top 119) 3
abbrev sRdO : Stmt := inClass (top 119) 4
abbrev sRdL : Stmt := inClass (top 119) 5
abbrev sRdR : Stmt := inClass (top 119) 6
abbrev sRdF : Stmt := inClass (top 119) 7
abbrev sRdU : Stmt := inClass (top 119) 9
abbrev sRdCf : Stmt := inClass (top 119) 11
abbrev sRdCr : Stmt := inClass (top 119) 12
abbrev sRdT : Stmt := inClass (top 119) 13
abbrev sCKL : Stmt := top 63
/-! ### what has been read, from the last reply on -/
def stR (sz : Nat) (ro eo : List (Str × Str)) : List (Nat × Bool) → RS
  | [] => ⟨⟨[], []⟩, 0, 0, false⟩
  | r :: rr => stepM sz ro eo (stR sz ro eo rr) r
def OkR (sz : Nat) (ro eo : List (Str × Str)) : List (Nat × Bool) → Prop
  | [] => True
  | _ :: rr => (stR sz ro eo rr).st = false ∧ OkR sz ro eo rr
section
variable {sz : Nat} {ro eo : List (Str × Str)}
theorem st_run : ∀ rr : List (Nat × Bool), runM sz ro eo rr.reverse = stR sz ro eo rr
  | [] => rfl
  | r :: rr => by
    have ih := st_run rr
    unfold runM at ih ⊢
    rw [List.reverse_cons, List.foldl_append, ih]
    rfl
theorem st_cons {r : Nat × Bool} {rr : List (Nat × Bool)} (h : (stR sz ro eo rr).st = false) : stR sz ro eo (r :: rr) = ⟨(ansM sz ro eo (itemsF (stR sz ro eo rr).f r.1) r.2 (stR sz ro eo rr).x).1, (stR sz ro eo rr).f + r.1, (stR sz ro eo rr).u + 1, (ansM sz ro eo (itemsF (stR sz ro eo rr).f r.1) r.2 (stR sz ro eo rr).x).2⟩ := by
  show stepM sz ro eo (stR sz ro eo rr) r = _
  unfold stepM
  rw [if_neg (by rw [h]; decide)]
theorem ok_u : ∀ {rr : List (Nat × Bool)}, OkR sz ro eo rr → (stR sz ro eo rr).u = rr.length
  | [], _ => rfl
  | r :: rr, h => by
    rw [st_cons h.1]
    show (stR sz ro eo rr).u + 1 = _
    rw [ok_u h.2]
    rfl
theorem ok_f : ∀ {rr : List (Nat × Bool)}, OkR sz ro eo rr → (stR sz ro eo rr).f = (rr.reverse.map (·.1)).sum
  | [], _ => rfl
  | r :: rr, h => by
    rw [st_cons h.1]
    show (stR sz ro eo rr).f + r.1 = _
    rw [ok_f h.2, List.reverse_cons, List.map_append, List.sum_append]
    simp
end
/-! ### the objects -/
def mf (b : V) (g h k : Addr) (ov : Bool) : List (Str × V) := [("before", b), ("given", .ref g), ("handed", .ref h), ("kept", .ref k), ("over", .bl ov)]
def rf (lo : Addr) (sz : Nat) (bs : Bool) (m : Addr) : List (Str × V) := [("loop", .ref lo), ("size", .int sz), ("busy", .bl bs), ("moment", .ref m)]
section
variable (b : V) (g h k lo m m' : Addr) (ov bs : Bool) (sz : Nat)
theorem mf_b : (mf b g h k ov).lookup ("before" : Str) = some b := by kernel_rfl
theorem mf_g : (mf b g h k ov).lookup ("given" : Str) = some (.ref g) := by kernel_rfl
theorem mf_h : (mf b g h k ov).lookup ("handed" : Str) = some (.ref h) := by kernel_rfl
theorem mf_k : (mf b g h k ov).lookup ("kept" : Str) = some (.ref k) := by kernel_rfl
theorem mf_o : (mf b g h k ov).lookup ("over" : Str) = some (.bl ov) := by kernel_rfl
theorem rf_l : (rf lo sz bs m).lookup ("loop" : Str) = some (.ref lo) := by kernel_rfl
theorem rf_s : (rf lo sz bs m).lookup ("size" : Str) = some (.int sz) := by kernel_rfl
theorem rf_b : (rf lo sz bs m).lookup ("busy" : Str) = some (.bl bs) := by kernel_rfl
theorem rf_m : (rf lo sz bs m).lookup ("moment" : Str) = some (.ref m) := by kernel_rfl
theorem rf_pm : putF "moment" (.ref m') (rf lo sz bs m) = rf lo sz bs m' := by kernel_rfl
theorem rf_n1 : (rf lo sz bs m).lookup ("feed" : Str) = none := by kernel_rfl
theorem rf_n2 : (rf lo sz bs m).lookup ("undo" : Str) = none := by kernel_rfl
theorem rf_n3 : (rf lo sz bs m).lookup ("take" : Str) = none := by kernel_rfl
theorem rf_n4 : (rf lo sz bs m).lookup ("check_free" : Str) = none := by kernel_rfl
theorem rf_n5 : (rf lo sz bs m).lookup ("check_reply" : Str) = none := by kernel_rfl
end
/-- the replies, the pieces and the rest of a moment -/
def MsAt (H : Hp) (g h k : Addr) (rs : List (Nat × Bool)) (x : RP) : Prop := ∃ gs hs, H g = some (.tup gs) ∧ Rps H gs rs ∧ H h = some (.tup hs) ∧ Pcs H hs x.pieces ∧ H k = some (.tup (ivs x.rest))
theorem MsAt.mono {H H' : Hp} {g h k : Addr} {rs : List (Nat × Bool)} {x : RP} (f : ∀ (p : Addr) (xs : List V), H p = some (.tup xs) → H' p = some (.tup xs)) (a : MsAt H g h k rs x) : MsAt H' g h k rs x := let ⟨gs, hs, a, b, c, d, e⟩ := a; ⟨gs, hs, f _ _ a, b.mono f, f _ _ c, d.mono f, f _ _ e⟩
inductive Mom (C : Addr) (sz : Nat) (ro eo : List (Str × Str)) (H : Hp) : Addr → List (Nat × Bool) → Prop
  | nil {m dm g h k : Addr} (e : H m = some (.ins C dm (mf .non g h k false))) (a : MsAt H g h k [] ⟨[], []⟩) : Mom C sz ro eo H m []
  | cons {m m' dm g h k : Addr} {r : Nat × Bool} {rr : List (Nat × Bool)} (e : H m = some (.ins C dm (mf (.ref m') g h k (stR sz ro eo (r :: rr)).st))) (a : MsAt H g h k (r :: rr).reverse (stR sz ro eo (r :: rr)).x) (t : Mom C sz ro eo H m' rr) : Mom C sz ro eo H m (r :: rr)
theorem Mom.mono {C : Addr} {sz : Nat} {ro eo : List (Str × Str)} {H H' : Hp} (f : ∀ (p : Addr) (xs : List V), H p = some (.tup xs) → H' p = some (.tup xs)) (f2 : ∀ (p dm : Addr) (b : V) (g h k : Addr) (ov : Bool), H p = some (.ins C dm (mf b g h k ov)) → H' p = some (.ins C dm (mf b g h k ov))) :
    ∀ {m rr}, Mom C sz ro eo H m rr → Mom C sz ro eo H' m rr
  | _, _, .nil e a => .nil (f2 _ _ _ _ _ _ _ e) (a.mono f)
  | _, _, .cons e a t => .cons (f2 _ _ _ _ _ _ _ e) (a.mono f) (t.mono f f2)
theorem Mom.head {C : Addr} {sz : Nat} {ro eo : List (Str × Str)} {H : Hp} {m : Addr} {rr : List (Nat × Bool)} (h : Mom C sz ro eo H m rr) : ∃ (dm g h k : Addr) (b : V), H m = some (.ins C dm (mf b g h k (stR sz ro eo rr).st)) ∧ MsAt H g h k rr.reverse (stR sz ro eo rr).x ∧ ((rr = [] ∧ b = .non) ∨ ∃ (r : Nat × Bool) (q : List (Nat × Bool)) (m' : Addr), rr = r :: q ∧ b = .ref m' ∧ Mom C sz ro eo H m' q) := by
  cases h with
  | nil e a => exact ⟨_, _, _, _, _, e, a, .inl ⟨rfl, rfl⟩⟩
  | cons e a t => exact ⟨_, _, _, _, _, e, a, .inr ⟨_, _, _, rfl, rfl, t⟩⟩
/-- a property -/
structure Pr (K : PySem.W.Frag) (C : Addr) (x q : Str) (st : Stmt) where
  p : Addr
  f : Addr
  fd : FuncData
  F : Fun K x q st f fd
  b : Binds K fd ["self"] []
  o : PropOf K C x p f
/-- an error without fields, over LookupError -/
structure Ex0 (K : PySem.W.Frag) (mg : Str → Option Value) (name : Str) where
  C : Addr
  g : mg name = some (.ref C)
  q : PySem.W.excIn K C [.type "LookupError", .type "Exception", .type "BaseException", .type "object"] "LookupError.__new__" = true
  k : PySem.W.keepIn K (.ref C) = true
  s : PySem.W.subIn K (.ref C) (.type "BaseException") = some true
  t : PySem.W.typeIn K (.ref C) = some (.type "type")
structure TxRd (K : PySem.W.Frag) (mg : Str → Option Value) where
  N : TxN K mg
  sum : mg "sum" = none
  CM : Addr
  gM : mg "Moment" = some (.ref CM)
  clM : Cls K CM
  nMb : NoAttr K CM "before"
  nMg : NoAttr K CM "given"
  nMh : NoAttr K CM "handed"
  nMk : NoAttr K CM "kept"
  nMo : NoAttr K CM "over"
  fM : Addr
  fdM : FuncData
  FM : Fun K "__init__" "Moment.__init__" sMmI fM fdM
  bM : Binds K fdM ["self", "before", "given", "handed", "kept", "over"] []
  MM : Mk K CM fM
  CR : Addr
  gR : mg "Reading" = some (.ref CR)
  clR : Cls K CR
  nRl : NoAttr K CR "loop"
  nRs : NoAttr K CR "size"
  nRb : NoAttr K CR "busy"
  nRm : NoAttr K CR "moment"
  fR : Addr
  fdR : FuncData
  FR : Fun K "__init__" "Reading.__init__" sRdI fR fdR
  bR : Binds K fdR ["self", "loop", "size"] []
  MR : Mk K CR fR
  ckl : Df K mg "check_loop" sCKL ["loop"]
  y1 : PySem.W.findIn K (.ref N.T.C) "__class__" = some (some (.builtin "object.__class__"))
  y2 : PySem.W.specialIn K (.builtin "object.__class__") "__get__" = some (some (.builtin "getset_descriptor.__get__"))
  y3 : PySem.W.takesIn K (.builtin "object.__class__") = some true
  y4 : PySem.W.mroIn K N.T.C (.type "object") = some true
  y5 : PySem.W.kitOne K (.ref N.T.C) (.ref N.T.C) = some true
  pG : Pr K CR "replies" "Reading.replies" sRdG
  pH : Pr K CR "pieces" "Reading.pieces" sRdH
  pK : Pr K CR "rest" "Reading.rest" sRdK
  pO : Pr K CR "stopped" "Reading.stopped" sRdO
  rl : Sm K CR "__len__" "Reading.__len__" sRdL ["self"]
  rr : Sm K CR "__repr__" "Reading.__repr__" sRdR ["self"]
  fe : Mt K CR "feed" "Reading.feed" sRdF ["self", "count", "told"]
  un : Mt K CR "undo" "Reading.undo" sRdU ["self"]
  cf : Mt K CR "check_free" "Reading.check_free" sRdCf ["self"]
  cr : Mt K CR "check_reply" "Reading.check_reply" sRdCr ["self", "count", "told"]
  ta : Mt K CR "take" "Reading.take" sRdT ["self", "count", "told"]
  xS : Ex0 K mg "Stopped"
  xN : Ex0 K mg "NothingToUndo"
section
variable {P : Program} {w : World} {K : PySem.W.Frag} {mg : Str → Option Value} {base : Heap}
/-- a reading stands at lv -/
structure RdAt (T : TxRd K mg) (H : Hp) (lv dx lo m : Addr) (sz : Nat) (t : Str) (rr : List (Nat × Bool)) : Prop where
  at_ : H lv = some (.ins T.CR dx (rf lo sz false m))
  lo : LoopAt T.N.T.C H lo t
  mo : Mom T.CM sz (ordsR t) (ordsE t) H m rr
theorem RdAt.same {T : TxRd K mg} {H H' : Hp} {lv dx lo m : Addr} {sz : Nat} {t : Str} {rr : List (Nat × Bool)} (s : Same H H') (h : RdAt T H lv dx lo m sz t rr) : RdAt T H' lv dx lo m sz t rr := ⟨s _ _ h.at_, h.lo.same s, h.mo.mono (fun _ _ e => s _ _ e) fun _ _ _ _ _ _ _ e => s _ _ e⟩
theorem rf_ne_mf {C D dx dm lo m g h k : Addr} {sz : Nat} {bs ov : Bool} {b : V} : (HO.ins C dx (rf lo sz bs m)) ≠ .ins D dm (mf b g h k ov) := fun z => by
  have e := (HO.ins.inj z).2.2
  simp [rf, mf] at e
theorem rf_ne_lf {C D dx dm lo m pr pe po pq : Addr} {sz : Nat} {bs : Bool} {t : Str} : (HO.ins C dx (rf lo sz bs m)) ≠ .ins D dm (lf t pr pe po pq) := fun z => by
  have e := congrArg List.length (HO.ins.inj z).2.2
  have : (lf t pr pe po pq).length = 5 := rfl
  rw [this] at e
  simp [rf] at e
/-- the reading itself may change -/
theorem Mom.off {C CR lv dx lo m0 : Addr} {s0 : Nat} {bs : Bool} {sz : Nat} {ro eo : List (Str × Str)} {H H' : Hp} (a : H lv = some (.ins CR dx (rf lo s0 bs m0))) (o : Off lv H H') {m : Addr} {rr : List (Nat × Bool)} (h : Mom C sz ro eo H m rr) : Mom C sz ro eo H' m rr :=
  h.mono (fun p xs e => o _ _ (ne_of e a (by intro z; cases z)) e) fun p dm b g h k ov e => o _ _ (ne_of e a fun z => rf_ne_mf z.symm) e
theorem LoopAt.off3 {C CR lv dx lo m0 : Addr} {s0 : Nat} {bs : Bool} {H H' : Hp} (a : H lv = some (.ins CR dx (rf lo s0 bs m0))) (o : Off lv H H') {q : Addr} {t : Str} (h : LoopAt C H q t) : LoopAt C H' q t := by
  have f : ∀ (p : Addr) (xs : List V), H p = some (.tup xs) → H' p = some (.tup xs) := fun p xs e => o _ _ (ne_of e a (by intro z; cases z)) e
  obtain ⟨dx, pr, pe, po, pq, e1, e2, e3, e4, e5⟩ := h
  exact ⟨dx, pr, pe, po, pq, o _ _ (ne_of e1 a fun z => rf_ne_lf z.symm) e1, f _ _ e2, f _ _ e3, e4.mono f, e5.mono f⟩
/-! ### Moment.__init__ -/
def spMmI (C : Addr) : Sp := fun vs H Q _ => ∃ (x dx g h k : Addr) (b : V) (ov : Bool), vs = [.ref x, b, .ref g, .ref h, .ref k, .bl ov] ∧ H x = some (.ins C dx []) ∧ ∀ H' : Hp, Off x H H' → H' x = some (.ins C dx (mf b g h k ov)) → Q .non H'
theorem scMmI : FnScope ["self", "before", "given", "handed", "kept", "over"] ["self", "before", "given", "handed", "kept", "over"] (defScope sMmI) := ⟨rfl, rfl, rfl, by decide +kernel, rfl, by decide +kernel, by decide +kernel⟩
theorem ok_mmi (T : TxRd K mg) : FnOk P w K mg base CX0 1 T.fM T.fdM ["self", "before", "given", "handed", "kept", "over"] (spMmI T.CM) := by
  refine T.FM.ok scMmI (fun vs H Q E h => ?_) (fun cdv A outer s H vs Q E hr h => ?_)
  · obtain ⟨x, dx, g, h, k, b, ov, rfl, _⟩ := h
    rfl
  · obtain ⟨x, dx, g, h, kk, b, ov, rfl, hx, k⟩ := h
    refine ⟨_, pss_cons (ps_fld (pv 0) (pv 1) rfl) (pss_cons (ps_fld (pv 0) (pv 2) rfl) (pss_cons (ps_fld (pv 0) (pv 3) rfl) (pss_cons (ps_fld (pv 0) (pv 4) rfl) (pss_one (ps_fld (pv 0) (pv 5) rfl))))), ?_⟩
    refine ⟨_, rfl, _, rfl, x, T.CM, dx, _, rfl, hx, T.clM, T.nMb, (by show 0 < 1000; decide), ?_⟩
    refine ⟨_, rfl, _, rfl, x, T.CM, dx, _, rfl, upd_same, T.clM, T.nMg, (by show 1 < 1000; decide), ?_⟩
    refine ⟨_, rfl, _, rfl, x, T.CM, dx, _, rfl, upd_same, T.clM, T.nMh, small8 (Nat.le_trans (putF8 (n := 1) (by show 1 ≤ 1; decide)) (by decide)), ?_⟩
    refine ⟨_, rfl, _, rfl, x, T.CM, dx, _, rfl, upd_same, T.clM, T.nMk, small8 (Nat.le_trans (putF8 (putF8 (n := 1) (by show 1 ≤ 1; decide))) (by decide)), ?_⟩
    refine ⟨_, rfl, _, rfl, x, T.CM, dx, _, rfl, upd_same, T.clM, T.nMo, small8 (Nat.le_trans (putF8 (putF8 (putF8 (n := 1) (by show 1 ≤ 1; decide)))) (by decide)), ?_⟩
    refine k _ (fun b o nb e => ?_) upd_same
    rw [upd_ne nb, upd_ne nb, upd_ne nb, upd_ne nb, upd_ne nb]
    exact e
/-! ### the properties, len -/
def spRd (T : TxRd K mg) (val : Addr → Addr → Addr → Bool → V) : Sp := fun vs H Q _ => ∃ (lv dx lo m dm g h k : Addr) (sz : Nat) (bs : Bool) (b : V) (ov : Bool), vs = [.ref lv] ∧ H lv = some (.ins T.CR dx (rf lo sz bs m)) ∧ H m = some (.ins T.CM dm (mf b g h k ov)) ∧ Q (val g h k ov) H
theorem scRdG : FnScope ["self"] ["self"] (defScope sRdG) := ⟨rfl, rfl, rfl, by decide +kernel, rfl, by decide +kernel, by decide +kernel⟩
theorem scRdH : FnScope ["self"] ["self"] (defScope sRdH) := ⟨rfl, rfl, rfl, by decide +kernel, rfl, by decide +kernel, by decide +kernel⟩
theorem scRdK : FnScope ["self"] ["self"] (defScope sRdK) := ⟨rfl, rfl, rfl, by decide +kernel, rfl, by decide +kernel, by decide +kernel⟩
theorem scRdO : FnScope ["self"] ["self"] (defScope sRdO) := ⟨rfl, rfl, rfl, by decide +kernel, rfl, by decide +kernel, by decide +kernel⟩
theorem ok_rdg (T : TxRd K mg) : FnOk P w K mg base CX0 1 T.pG.f T.pG.fd ["self"] (spRd T fun g _ _ _ => .ref g) := by
  refine T.pG.F.ok scRdG (fun vs H Q E h => ?_) (fun cdv A outer s H vs Q E hr h => ?_)
  · obtain ⟨lv, _, _, _, _, _, _, _, _, _, _, _, rfl, _⟩ := h
    rfl
  · obtain ⟨lv, dx, lo, m, dm, g, h, kk, sz, bs, b, ov, rfl, h1, h2, k⟩ := h
    exact ⟨_, pss_one (ps_ret (pe_fld (pe_fld (pv 0) rfl) rfl)), _, rfl, lv, T.CR, dx, _, _, rfl, h1, T.clR, T.nRm, rf_m .., m, T.CM, dm, _, _, rfl, h2, T.clM, T.nMg, mf_g .., k⟩
theorem ok_rdh (T : TxRd K mg) : FnOk P w K mg base CX0 1 T.pH.f T.pH.fd ["self"] (spRd T fun _ h _ _ => .ref h) := by
  refine T.pH.F.ok scRdH (fun vs H Q E h => ?_) (fun cdv A outer s H vs Q E hr h => ?_)
  · obtain ⟨lv, _, _, _, _, _, _, _, _, _, _, _, rfl, _⟩ := h
    rfl
  · obtain ⟨lv, dx, lo, m, dm, g, h, kk, sz, bs, b, ov, rfl, h1, h2, k⟩ := h
    exact ⟨_, pss_one (ps_ret (pe_fld (pe_fld (pv 0) rfl) rfl)), _, rfl, lv, T.CR, dx, _, _, rfl, h1, T.clR, T.nRm, rf_m .., m, T.CM, dm, _, _, rfl, h2, T.clM, T.nMh, mf_h .., k⟩
theorem ok_rdk (T : TxRd K mg) : FnOk P w K mg base CX0 1 T.pK.f T.pK.fd ["self"] (spRd T fun _ _ k _ => .ref k) := by
  refine T.pK.F.ok scRdK (fun vs H Q E h => ?_) (fun cdv A outer s H vs Q E hr h => ?_)
  · obtain ⟨lv, _, _, _, _, _, _, _, _, _, _, _, rfl, _⟩ := h
    rfl
  · obtain ⟨lv, dx, lo, m, dm, g, h, kk, sz, bs, b, ov, rfl, h1, h2, k⟩ := h
    exact ⟨_, pss_one (ps_ret (pe_fld (pe_fld (pv 0) rfl) rfl)), _, rfl, lv, T.CR, dx, _, _, rfl, h1, T.clR, T.nRm, rf_m .., m, T.CM, dm, _, _, rfl, h2, T.clM, T.nMk, mf_k .., k⟩
theorem ok_rdo (T : TxRd K mg) : FnOk P w K mg base CX0 1 T.pO.f T.pO.fd ["self"] (spRd T fun _ _ _ ov => .bl ov) := by
  refine T.pO.F.ok scRdO (fun vs H Q E h => ?_) (fun cdv A outer s H vs Q E hr h => ?_)
  · obtain ⟨lv, _, _, _, _, _, _, _, _, _, _, _, rfl, _⟩ := h
    rfl
  · obtain ⟨lv, dx, lo, m, dm, g, h, kk, sz, bs, b, ov, rfl, h1, h2, k⟩ := h
    exact ⟨_, pss_one (ps_ret (pe_fld (pe_fld (pv 0) rfl) rfl)), _, rfl, lv, T.CR, dx, _, _, rfl, h1, T.clR, T.nRm, rf_m .., m, T.CM, dm, _, _, rfl, h2, T.clM, T.nMo, mf_o .., k⟩
def spRdL (T : TxRd K mg) : Sp := fun vs H Q _ => ∃ (lv dx lo m dm g h k : Addr) (sz : Nat) (bs : Bool) (b : V) (ov : Bool) (gs : List V), vs = [.ref lv] ∧ H lv = some (.ins T.CR dx (rf lo sz bs m)) ∧ H m = some (.ins T.CM dm (mf b g h k ov)) ∧ H g = some (.tup gs) ∧ Q (.int (gs.length : Nat)) H
theorem scRdL : FnScope ["self"] ["self"] (defScope sRdL) := ⟨rfl, rfl, rfl, by decide +kernel, rfl, by decide +kernel, by decide +kernel⟩
theorem ok_rdl (T : TxRd K mg) : FnOk P w K mg base CX0 1 T.rl.f T.rl.fd ["self"] (spRdL T) := by
  refine T.rl.F.ok scRdL (fun vs H Q E h => ?_) (fun cdv A outer s H vs Q E hr h => ?_)
  · obtain ⟨lv, _, _, _, _, _, _, _, _, _, _, _, _, rfl, _⟩ := h
    rfl
  · obtain ⟨lv, dx, lo, m, dm, g, h, kk, sz, bs, b, ov, gs, rfl, h1, h2, h3, k⟩ := h
    exact ⟨_, (pss_one (ps_ret (pe_callB call_len_seq (by rfl) T.N.k.len PySem.boot_len (pa_cons (pe_fld (pe_fld (pv 0) rfl) rfl) pa_nil)))), _, rfl, lv, T.CR, dx, _, _, rfl, h1, T.clR, T.nRm, rf_m .., m, T.CM, dm, _, _, rfl, h2, T.clM, T.nMg, mf_g .., g, _, rfl, .inr (SqT.of h3), k⟩
end
end My

namespace My
open PySem L2 Cm LM EM
section
variable {P : Program} {w : World} {K : PySem.W.Frag} {mg : Str → Option Value} {base : Heap}
/-! ### __repr__ -/
def rdS (n : Nat) : Str := Str.empty ++ ("Reading(" : Str) ++ Str.ofString (toString ((n : Nat) : Int)) ++ (" replies)" : Str)
def spRdR (T : TxRd K mg) : Sp := fun vs H Q _ => ∃ (lv dx lo m dm g h k : Addr) (sz : Nat) (bs : Bool) (b : V) (ov : Bool) (gs : List V), vs = [.ref lv] ∧ H lv = some (.ins T.CR dx (rf lo sz bs m)) ∧ H m = some (.ins T.CM dm (mf b g h k ov)) ∧ H g = some (.tup gs) ∧ gs.length ≤ 1000 ∧ Q (.str (rdS gs.length)) H
theorem scRdR : FnScope ["self"] ["self"] (defScope sRdR) := ⟨rfl, rfl, rfl, by decide +kernel, rfl, by decide +kernel, by decide +kernel⟩
theorem num_short {n : Nat} (h : n ≤ 1000) : (Str.ofString (toString ((n : Nat) : Int))).length ≤ 20 := by
  rw [TL.len_tl, TL.tl_num]
  exact TL.numL_len (by decide) (by omega)
theorem ok_rdr (T : TxRd K mg) : FnOk P w K mg base CX0 1 T.rr.f T.rr.fd ["self"] (spRdR T) := by
  refine T.rr.F.ok scRdR (fun vs H Q E h => ?_) (fun cdv A outer s H vs Q E hr h => ?_)
  · obtain ⟨lv, _, _, _, _, _, _, _, _, _, _, _, _, rfl, _⟩ := h
    rfl
  · obtain ⟨lv, dx, lo, m, dm, g, h, kk, sz, bs, b, ov, gs, rfl, h1, h2, h3, hl, k⟩ := h
    refine ⟨_, (pss_one (ps_ret (pe_joined (.cons pe_str (.cons (pe_fmt (pe_callB call_len_seq (by rfl) T.N.k.len PySem.boot_len (pa_cons (pe_fld (pe_fld (pv 0) rfl) rfl) pa_nil))) (.cons pe_str .nil)))))), ?_⟩
    have l1 : (Str.empty).length = 0 := rfl
    have l2 : ("Reading(" : Str).length = 8 := by decide +kernel
    have l3 : (" replies)" : Str).length = 9 := by decide +kernel
    have l4 := num_short hl
    have lg : ((gs.length : Nat) : Int).natAbs.log2 < 1920 := by
      rw [Int.natAbs_natCast]
      exact Nat.lt_of_le_of_lt (Nat.log2_le_self _) (by omega)
    refine ⟨_, rfl, szl (by rw [strLen_append]; omega), ?_⟩
    refine ⟨_, rfl, lv, T.CR, dx, _, _, rfl, h1, T.clR, T.nRm, rf_m .., m, T.CM, dm, _, _, rfl, h2, T.clM, T.nMg, mf_g .., g, _, rfl, .inr (SqT.of h3), .inr ⟨_, rfl, lg, _, rfl, szl (by rw [strLen_append, strLen_append]; omega), ?_⟩⟩
    refine ⟨_, rfl, szl (by rw [strLen_append, strLen_append, strLen_append]; omega), ?_⟩
    exact k
/-! ### check_free -/
def spRdCf (T : TxRd K mg) : Sp := fun vs H Q _ => ∃ (lv dx lo m : Addr) (sz : Nat), vs = [.ref lv] ∧ H lv = some (.ins T.CR dx (rf lo sz false m)) ∧ Q .non H
theorem scRdCf : FnScope ["self"] ["self"] (defScope sRdCf) := ⟨rfl, rfl, rfl, by decide +kernel, rfl, by decide +kernel, by decide +kernel⟩
theorem ok_rdcf (T : TxRd K mg) : FnOk P w K mg base CX0 1 T.cf.f T.cf.fd ["self"] (spRdCf T) := by
  refine T.cf.F.ok scRdCf (fun vs H Q E h => ?_) (fun cdv A outer s H vs Q E hr h => ?_)
  · obtain ⟨lv, _, _, _, _, rfl, _⟩ := h
    rfl
  · obtain ⟨lv, dx, lo, m, sz, rfl, h1, k⟩ := h
    exact ⟨_, (pss_one (ps_if (pt_val (pe_fld (pv 0) rfl)) (pss_one ps_never) pss_nil)), _, rfl, lv, T.CR, dx, _, _, rfl, h1, T.clR, T.nRb, rf_b .., false, rfl, iteF k⟩
/-! ### check_reply -/
def spRdCr (T : TxRd K mg) : Sp := fun vs H Q E => ∃ (lv dx lo m : Addr) (sz n : Nat) (said : Bool) (t : Str) (rr : List (Nat × Bool)), vs = [.ref lv, .int n, .bl said] ∧ RdAt T H lv dx lo m sz t rr ∧ n ≤ sz ∧ rr.length < 100 ∧
  ((stR sz (ordsR t) (ordsE t) rr).st = true → E (.ref T.xS.C) none H) ∧ ((stR sz (ordsR t) (ordsE t) rr).st = false → Q .non H)
theorem scRdCr : FnScope ["self", "count", "told"] ["self", "count", "told"] (defScope sRdCr) := ⟨rfl, rfl, rfl, by decide +kernel, rfl, by decide +kernel, by decide +kernel⟩
theorem ok_rdcr (T : TxRd K mg) : FnOk P w K mg base (L2.CX P w) 3 T.cr.f T.cr.fd ["self", "count", "told"] (spRdCr T) := by
  have GI : FnOk P w K mg base CX0 1 T.N.k.iib.f T.N.k.iib.fd ["value", "low", "high"] (spIIB K) := ok_iib T.N.k
  have GO : FnOk P w K mg base CX0 1 T.pO.f T.pO.fd ["self"] (spRd T fun _ _ _ ov => .bl ov) := ok_rdo T
  have GL : FnR P w K mg base CX0 1 T.rl.f (fun vs H Q E => spRdL T (vs ++ []) H Q E) := (ok_rdl T).raw T.rl.b .nil
  obtain ⟨tm, mr⟩ := T.N.k.mr
  refine T.cr.F.okX scRdCr (fun vs H Q E h => ?_) (fun cdv A outer s H vs Q E hr h => ?_)
  · obtain ⟨lv, _, _, _, _, _, _, _, _, rfl, _⟩ := h
    rfl
  · obtain ⟨lv, dx, lo, m, sz, n, said, t, rr, rfl, hR, hn, hl, kE, k⟩ := h
    have hr1 : Room 1 _ := hr.mono (by decide)
    refine ⟨_, (pss_cons (ps_if (pt_not (pt_val (pe_call GI hr1 rfl T.N.k.iib.g T.N.k.iib.k T.N.k.iib.b .nil pass0 (pa_cons (pv 1) (pa_cons pe_int (pa_cons (pe_fld (pv 0) rfl) pa_nil)))))) (pss_one ps_never) pss_nil) (pss_cons (ps_if (pt_not (pt_val (pe_callB call_isi (by rfl) T.N.k.isi (by decide +kernel) (pa_cons (pv 2) (pa_cons (pe_bltn (v := .ty "bool") (by rfl) T.N.k.bool (by decide +kernel) rfl) pa_nil))))) (pss_one ps_never) pss_nil) (pss_cons (ps_if (pt_val (pe_prop (pv 0) T.clR T.pO.o GO hr T.pO.b .nil pass0 (by rfl))) (pss_one (ps_raise rfl (takes_of rfl rfl rfl rfl) (MkO.pmk_own0 PySem.F.excBase_LookupError T.xS.q T.xS.g T.xS.k (raises_own T.xS.s T.xS.t) rfl))) pss_nil) (pss_one (ps_if (pt_cmpR op_ge (pe_callB (call_lenO T.rl.i T.rl.fn GL hr) (by rfl) T.N.k.len PySem.boot_len (pa_cons (pv 0) pa_nil)) (pe_glob (v := .int 100) rfl mr ⟨_, rfl⟩) (nomark _)) (pss_one ps_never) pss_nil))))), ?_⟩
    obtain ⟨dm, g, h, kk, b, hm, hMs, _⟩ := hR.mo.head
    obtain ⟨gs, hs, hg, hRp, _⟩ := id hMs
    have bt : btw 0 (sz : Int) (.int (n : Nat)) = true := decide_eq_true (show (0 : Int) ≤ (n : Int) ∧ (n : Int) ≤ (sz : Int) from ⟨by omega, by omega⟩)
    refine ⟨_, rfl, _, rfl, lv, T.CR, dx, _, _, rfl, hR.at_, T.clR, T.nRs, rf_s .., _, 0, sz, rfl, typed_int _, _, rfl, ?_⟩
    rw [bt]
    refine iteF ?_
    refine ⟨_, rfl, _, _, _, _, true, rfl, .ty "bool", .base (.bl said), kit_ty (by decide +kernel), true, rfl, iteF ?_⟩
    refine ⟨_, rfl, lv, dx, _, rfl, hR.at_, lv, dx, lo, m, dm, g, h, kk, sz, false, b, _, rfl, hR.at_, hm, _, rfl, ?_⟩
    cases hst : (stR sz (ordsR t) (ordsE t) rr).st with
    | true => exact iteT (kE hst)
    | false =>
      refine iteF ?_
      have lg : gs.length = rr.length := by rw [hRp.len, List.length_reverse]
      refine ⟨_, rfl, lv, dx, _, rfl, hR.at_, lv, dx, lo, m, dm, g, h, kk, sz, false, b, _, gs, rfl, hR.at_, hm, hg, gs.length, rfl, by omega, _, _, rfl, rfl, _, rfl, ?_⟩
      rw [show decide ((100 : Int) ≤ ((gs.length : Nat) : Int)) = false from decide_eq_false (by omega)]
      exact iteF (k hst)
/-! ### undo -/
def spRdU (T : TxRd K mg) : Sp := fun vs H Q E => ∃ (lv dx lo m : Addr) (sz : Nat) (t : Str) (rr : List (Nat × Bool)), vs = [.ref lv] ∧ RdAt T H lv dx lo m sz t rr ∧
  (rr = [] → E (.ref T.xN.C) none H) ∧ ∀ r q, rr = r :: q → ∀ (H' : Hp) (m' : Addr), Off lv H H' → RdAt T H' lv dx lo m' sz t q → Q .non H'
theorem scRdU : FnScope ["self"] ["self"] (defScope sRdU) := ⟨rfl, rfl, rfl, by decide +kernel, rfl, by decide +kernel, by decide +kernel⟩
theorem ok_rdu (T : TxRd K mg) : FnOk P w K mg base (L2.CX P w) 2 T.un.f T.un.fd ["self"] (spRdU T) := by
  have GC : FnOk P w K mg base CX0 1 T.cf.f T.cf.fd ["self"] (spRdCf T) := ok_rdcf T
  refine T.un.F.okX scRdU (fun vs H Q E h => ?_) (fun cdv A outer s H vs Q E hr h => ?_)
  · obtain ⟨lv, _, _, _, _, _, _, rfl, _⟩ := h
    rfl
  · obtain ⟨lv, dx, lo, m, sz, t, rr, rfl, hR, kE, k⟩ := h
    refine ⟨_, (pss_cons (ps_expr (pe_meth0 (pv 0) T.clR T.cf.m GC hr T.cf.b .nil pass0)) (pss_cons (ps_if (pt_cmpR op_isN (pe_fld (pe_fld (pv 0) rfl) rfl) pe_non (nomark _)) (pss_one (ps_raise rfl (takes_of rfl rfl rfl rfl) (MkO.pmk_own0 PySem.F.excBase_LookupError T.xN.q T.xN.g T.xN.k (raises_own T.xN.s T.xN.t) rfl))) pss_nil) (pss_one (ps_fld (pv 0) (pe_fld (pe_fld (pv 0) rfl) rfl) rfl)))), ?_⟩
    obtain ⟨dm, g, h, kk, b, hm, hMs, hb⟩ := hR.mo.head
    refine ⟨_, rfl, lv, dx, _, rfl, hR.at_, rf_n4 .., lv, dx, lo, m, sz, rfl, hR.at_, ?_⟩
    refine ⟨_, rfl, lv, T.CR, dx, _, _, rfl, hR.at_, T.clR, T.nRm, rf_m .., m, T.CM, dm, _, _, rfl, hm, T.clM, T.nMb, mf_b .., rfl, _, rfl, ?_⟩
    rcases hb with ⟨rfl, rfl⟩ | ⟨r, q, m', rfl, rfl, hM'⟩
    · rw [decide_eq_true rfl]
      exact iteT (kE rfl)
    · rw [show decide (V.ref m' = V.non) = false from decide_eq_false (by intro z; cases z)]
      refine iteF ?_
      refine ⟨_, rfl, lv, T.CR, dx, _, _, rfl, hR.at_, T.clR, T.nRm, rf_m .., m, T.CM, dm, _, _, rfl, hm, T.clM, T.nMb, mf_b .., _, rfl, lv, T.CR, dx, _, rfl, hR.at_, T.clR, T.nRm, (by show 4 < 1000; decide), ?_⟩
      rw [rf_pm]
      have o : Off lv H (upd H lv (.ins T.CR dx (rf lo sz false m'))) := Off.put Off.refl
      exact k r q rfl _ m' o ⟨upd_same, hR.lo.off3 hR.at_ o, hM'.off hR.at_ o⟩
end
end My

namespace My
open PySem L2 Cm LM EM
section
variable {P : Program} {w : World} {K : PySem.W.Frag} {mg : Str → Option Value} {base : Heap}
theorem sumI : ∀ rs : List (Nat × Bool), (rs.map fun r => ((r.1 : Nat) : Int)).sum = (((rs.map (·.1)).sum : Nat) : Int)
  | [] => rfl
  | r :: q => by
    rw [List.map_cons, List.sum_cons, sumI q, List.map_cons, List.sum_cons]
    omega
theorem rps_snoc {H : Hp} {q : Addr} {r : Nat × Bool} (h : H q = some (.tup [.int r.1, .bl r.2])) : ∀ {vs rs}, Rps H vs rs → Rps H (vs ++ [.ref q]) (rs ++ [r])
  | _, _, .nil => .cons h .nil
  | _, _, .cons a t => .cons a (rps_snoc h t)
theorem st_from {sz : Nat} {ro eo : List (Str × Str)} {r : Nat × Bool} {rr : List (Nat × Bool)} (h : (stR sz ro eo rr).st = false) :
    (stR sz ro eo (r :: rr)).x = ⟨(ansM sz ro eo (itemsF (stR sz ro eo rr).f r.1) r.2 ⟨(stR sz ro eo rr).x.rest, []⟩).1.rest, (stR sz ro eo rr).x.pieces ++ (ansM sz ro eo (itemsF (stR sz ro eo rr).f r.1) r.2 ⟨(stR sz ro eo rr).x.rest, []⟩).1.pieces⟩ ∧
    (stR sz ro eo (r :: rr)).st = (ansM sz ro eo (itemsF (stR sz ro eo rr).f r.1) r.2 ⟨(stR sz ro eo rr).x.rest, []⟩).2 := by
  rw [st_cons h]
  show (ansM sz ro eo (itemsF (stR sz ro eo rr).f r.1) r.2 (stR sz ro eo rr).x).1 = _ ∧ (ansM sz ro eo (itemsF (stR sz ro eo rr).f r.1) r.2 (stR sz ro eo rr).x).2 = _
  rw [ans_from]
  exact ⟨rfl, rfl⟩
/-! ### take -/
/-- the pieces that a reply hands on -/
def newP (sz : Nat) (t : Str) (rr : List (Nat × Bool)) (n : Nat) (said : Bool) : List (List Int) := (ansM sz (ordsR t) (ordsE t) (itemsF (stR sz (ordsR t) (ordsE t) rr).f n) said ⟨(stR sz (ordsR t) (ordsE t) rr).x.rest, []⟩).1.pieces
def spRdT (T : TxRd K mg) : Sp := fun vs H Q E => ∃ (lv dx lo m : Addr) (sz n : Nat) (said : Bool) (t : Str) (rr : List (Nat × Bool)), vs = [.ref lv, .int n, .bl said] ∧ RdAt T H lv dx lo m sz t rr ∧ goodText t = true ∧ 1 ≤ sz ∧ sz ≤ 1000 ∧ n ≤ sz ∧ rr.length < 100 ∧ OkR sz (ordsR t) (ordsE t) rr ∧ (∀ r ∈ rr, r.1 ≤ sz) ∧
  ((stR sz (ordsR t) (ordsE t) rr).st = true → E (.ref T.xS.C) none H) ∧
  ((stR sz (ordsR t) (ordsE t) rr).st = false → ∀ (H' : Hp) (m' q : Addr) (hs : List V), Off lv H H' → RdAt T H' lv dx lo m' sz t ((n, said) :: rr) → H q = none → H' q = some (.tup hs) → Pcs H' hs (newP sz t rr n said) → Q (.ref q) H')
abbrev NT : List Str := ["self", "count", "told", "now", "first", "work", "handed", "reply"]
theorem scRdT : FnScope NT ["self", "count", "told"] (defScope sRdT) := ⟨rfl, rfl, rfl, by decide +kernel, rfl, by decide +kernel, by decide +kernel⟩
/-- reply[0] -/
def tRe0 : TE := fun σ H Q => ∃ (q : Addr) (c : Nat) (b : Bool), σ[7]? = some (some (.ref q)) ∧ H q = some (.tup [.int (c : Nat), .bl b]) ∧ Q (.int (c : Nat)) H
theorem ok_rdt (T : TxRd K mg) : FnOk P w K mg base (L2.CX P w) 5 T.ta.f T.ta.fd ["self", "count", "told"] (spRdT T) := by
  have GC : FnOk P w K mg base (L2.CX P w) 3 T.cr.f T.cr.fd ["self", "count", "told"] (spRdCr T) := ok_rdcr T
  have GX : FnOk P w K mg base CX0 3 T.N.lx.f T.N.lx.fd ["self", "size", "kept"] (spLX T.N.T.C T.N.X.C) := ok_lx T.N
  have GA : FnOk P w K mg base CX0 4 T.N.X.an.f T.N.X.an.fd ["self", "held", "told"] (spXA T.N.X.C) := ok_xa T.N.X
  have GM : FnOk P w K mg base CX0 1 T.fM T.fdM ["self", "before", "given", "handed", "kept", "over"] (spMmI T.CM) := ok_mmi T
  refine T.ta.F.okX scRdT (fun vs H Q E h => ?_) (fun cdv A outer s H vs Q E hr h => ?_)
  · obtain ⟨lv, _, _, _, _, _, _, _, _, rfl, _⟩ := h
    rfl
  · obtain ⟨lv, dx, lo, m, sz, n, said, t, rr, rfl, hR, gt, z1, z2, hn, hl, hok, hc, kE, k⟩ := h
    have hr3 : Room 3 _ := hr.mono (by decide)
    have hr2 : Room 2 _ := hr.mono (by decide)
    refine ⟨_, (pss_cons (ps_expr (pe_meth (E := E) (pv 0) T.clR T.cr.m GC hr3 T.cr.b .nil (passes_call (takes_of rfl rfl rfl rfl) fun _ _ _ _ z => z) (pa_cons (pv 1) (pa_cons (pv 2) pa_nil)))) (pss_cons (ps_set (i := 3) scRdT.nd rfl (.inl rfl) (pe_fld (pv 0) rfl)) (C8.pss_cut (ps_set (i := 4) scRdT.nd rfl (.inl rfl) (pe_callB (cr_sum rfl) (by rfl) T.sum (by decide +kernel) (pa_cons (pe_lc (own := [("reply", 7)]) (g := gName 7) (tt := tYes) (te := tRe0) rfl scRdT.nd (pi_tup (pe_fld (pv 3) rfl)) (blkOk_by (own := [("reply", 7)]) (N := NT) (sc := defScope sRdT) (by decide +kernel)) (fun _ _ _ _ _ => pg_name (i := 7) scRdT.nd rfl (Or.inl rfl)) (fun _ _ _ _ _ => pts_nil) (fun _ _ _ _ _ => by exact pe_imp (t' := tRe0) (pe_ix ix_tup (pv 7) pe_int (fun _ _ => rfl)) (fun σ H Q ⟨q, c, b, h7, hq, k⟩ => ⟨_, h7, q, _, 0, _, rfl, rfl, SqT.of hq, rfl, k⟩))) pa_nil))) (pss_cons (ps_set (i := 5) scRdT.nd rfl (.inl rfl) (pe_meth (pe_fld (pv 0) rfl) T.N.T.cl T.N.lx.m GX hr3 T.N.lx.b .nil pass0 (pa_cons (pe_fld (pv 0) rfl) (pa_cons (pe_fld (pv 3) rfl) pa_nil)))) (pss_cons (ps_expr (pe_meth (pv 5) T.N.X.cl T.N.X.an.m GA hr T.N.X.an.b .nil pass0 (pa_cons (pe_tupRg rfl rfl T.N.k.tuple (prg_2 rfl T.N.X.range (pv 4) (pe_op op_add (pv 4) (pv 1)))) (pa_cons (pv 2) pa_nil)))) (pss_cons (ps_set (i := 6) scRdT.nd rfl (.inl rfl) (pe_callTy call_tuple_of (by rfl) T.N.k.tuple (by decide +kernel) (pa_cons (pe_fld (pv 5) rfl) pa_nil))) (pss_cons (ps_fld (pv 0) (pe_make T.MM GM hr2 rfl T.gM T.bM .nil pass0 (pa_cons (pv 3) (pa_cons (pe_op op_catH (pe_fld (pv 3) rfl) (pe_tup (pa_cons (pe_tup (pa_cons (pv 1) (pa_cons (pv 2) pa_nil))) pa_nil))) (pa_cons (pe_op op_catH (pe_fld (pv 3) rfl) (pv 6)) (pa_cons (pe_fld (pv 5) rfl) (pa_cons (pe_fld (pv 5) rfl) pa_nil)))))) rfl) (pss_one (ps_ret (pv 6)))))))))), ?_⟩
    obtain ⟨dm, g, h, kk, b, hm, hMs, _⟩ := hR.mo.head
    refine ⟨_, rfl, lv, dx, _, rfl, hR.at_, rf_n5 .., _, rfl, _, rfl, lv, dx, lo, m, sz, n, said, t, rr, rfl, hR, hn, hl, kE, fun hst => ?_⟩
    have k := k hst
    obtain ⟨gs, hs, hg, hRp, hh, hP, hk⟩ := id hMs
    refine ⟨_, rfl, lv, T.CR, dx, _, _, rfl, hR.at_, T.clR, T.nRm, rf_m .., ?_⟩
    have lg := hRp.len
    rw [List.length_reverse] at lg
    have ef := ok_f hok
    have gn := good_iff.mp gt
    have lR : (ordsR t).length ≤ 12 := by rw [ordsR, List.length_map]; exact (round_sht gn.1).2
    have lE : (ordsE t).length ≤ 6 := by rw [ordsE, List.length_map]; exact (ending_sht gn.2).2
    have bd := runM_bound (ro := ordsR t) (eo := ordsE t) z1 lR lE rr.reverse (by rw [List.length_reverse]; omega) fun q hq => hc q (List.mem_reverse.mp hq)
    rw [st_run, List.length_reverse] at bd
    have f1 : (stR sz (ordsR t) (ordsE t) rr).f ≤ 99 * 1000 := Nat.le_trans bd.2.1 (Nat.mul_le_mul (by omega) z2)
    have l99 : rr.length ≤ 99 := by omega
    have few : Few sz (18 * 99) (99 * 32724) ⟨(stR sz (ordsR t) (ordsE t) rr).x.rest, []⟩ := ⟨Nat.le_trans bd.1.1 (Nat.mul_le_mul_right _ (Nat.mul_le_mul_left _ l99)), Nat.zero_le _⟩
    have fa := few_ans (ro := ordsR t) (eo := ordsE t) (held := itemsF (stR sz (ordsR t) (ordsE t) rr).f n) (told := said) z1 (by rw [itemsF_len]; exact hn) lR lE (⟨few.1, Nat.zero_le _⟩ : Few sz (18 * 99) 0 ⟨(stR sz (ordsR t) (ordsE t) rr).x.rest, []⟩)
    have sf := st_from (r := (n, said)) hst
    have en : newP sz t rr n said = (ansM sz (ordsR t) (ordsE t) (itemsF (stR sz (ordsR t) (ordsE t) rr).f n) said ⟨(stR sz (ordsR t) (ordsE t) rr).x.rest, []⟩).1.pieces := rfl
    rw [en] at k
    have pl : (stR sz (ordsR t) (ordsE t) rr).x.pieces.length ≤ 99 * 32724 := Nat.le_trans bd.1.2 (Nat.mul_le_mul_right _ l99)
    generalize (stR sz (ordsR t) (ordsE t) rr).f = ff at *
    -- first
    refine ⟨fun σ H' => σ = [some (.ref lv), some (.int n), some (.bl said), some (.ref m), some (.int ff), none, none, none] ∧ Same H H', ?_, ?_⟩
    · refine ⟨_, rfl, m, T.CM, dm, _, _, rfl, hm, T.clM, T.nMg, mf_g .., g, rfl, ⟨_, SqT.of hg⟩, fun D nD => lc_tup (K := K) (a := g) (xs := gs) (fun i H' => Same H H' ∧ H' D = some (.lst (((rr.reverse.take i).map fun r => ((r.1 : Nat) : Int)).map V.int))) ⟨same_new nD, upd_same⟩ (fun i H' _ ⟨s', _⟩ => SqT.of (s' _ _ hg)) ?_ ?_⟩
      · rintro i y H' hy ⟨s', hD⟩
        obtain ⟨q, r, hr0, rfl, hq⟩ := hRp.get hy
        refine ⟨rfl, q, r.1, r.2, rfl, s' _ _ hq, _, hD, szM (by rw [List.length_map, List.length_map, List.length_take, List.length_reverse]; omega), fun b o z => ?_, ?_⟩
        · rw [upd_ne (ne_of_none z nD)]
          exact s' _ _ z
        · rw [upd_same, take_snoc hr0, List.map_append, List.map_append]
          rfl
      · rintro H' ⟨s', hD⟩
        rw [lg, ← List.length_reverse, List.take_length] at hD
        refine ⟨D, _, rfl, SqL.of hD, ?_⟩
        rw [sumI, ← ef]
        exact ⟨rfl, s'⟩
    rintro _ H1 ⟨rfl, s1⟩
    -- work
    have hR1 := hR.same s1
    have hm1 := s1 _ _ hm
    obtain ⟨dlo, pr, pe, po, pq, elo, _⟩ := id hR1.lo
    refine ⟨_, rfl, lv, T.CR, dx, _, _, rfl, hR1.at_, T.clR, T.nRl, rf_l .., lo, dlo, _, rfl, elo, lf_no _ _ _ _ _ (by decide +kernel) (by decide +kernel) (by decide +kernel) (by decide +kernel) (by decide +kernel), ?_⟩
    refine ⟨_, rfl, lv, T.CR, dx, _, _, rfl, hR1.at_, T.clR, T.nRs, rf_s .., _, rfl, m, T.CM, dm, _, _, rfl, hm1, T.clM, T.nMk, mf_k .., ?_⟩
    refine ⟨lo, kk, t, sz, _, rfl, hR1.lo, s1 _ _ hk, fun H2 x dxx ro eo pp s2 nx np X2 hRo hEo => ?_⟩
    obtain ⟨h0, r0, vs0, ee, _⟩ := id X2.ex
    refine ⟨_, rfl, x, dxx, _, rfl, ee, (xf_noA ..).1, _, rfl, _, rfl, _, rfl, _, _, rfl, rfl, _, _, rfl, rfl, RgOk.of_le (by omega) (by omega) (by omega) (by omega), fun z nz => ?_⟩
    rw [rgV_items]
    have s3 : Same H2 (upd H2 z (.tup (ivs (itemsF ff n)))) := same_new nz
    refine ⟨_, rfl, x, dxx, ro, eo, pp, z, _, sz, [], itemsF ff n, false, said, ⟨(stR sz (ordsR t) (ordsE t) rr).x.rest, []⟩, ordsR t, ordsE t, 18 * 99, 99 * 32724, rfl, X2.same s3, upd_same, hRo.ts fun _ _ e => s3 _ _ e, hEo.ts fun _ _ e => s3 _ _ e, lR, lE, ⟨z1, z2, by rw [itemsF_len]; exact hn, by decide, by decide, few⟩, by decide, by decide, fun H4 o4 X4 => ?_⟩
    have s14 : Same H1 H4 := fun b u e => o4 b u (ne_of_none e nx) (ne_of_none e np) (s3 _ _ (s2 _ _ e))
    have s04 := Same.trans s1 s14
    generalize ansM sz (ordsR t) (ordsE t) (itemsF ff n) said ⟨(stR sz (ordsR t) (ordsE t) rr).x.rest, []⟩ = AA at X4 k sf fa
    obtain ⟨h4, r4, vs4, ee4, hh4, hr4, hp4, hP4⟩ := id X4.ex
    -- handed
    refine ⟨_, rfl, x, T.N.X.C, dxx, _, _, rfl, ee4, T.N.X.cl, T.N.X.nP, xf_p .., pp, vs4, rfl, .inl ⟨SqL.of hp4, fun q nq => ?_⟩⟩
    have s5 := same_new (o := .tup vs4) nq
    have hq5 : (upd H4 q (.tup vs4)) q = some (.tup vs4) := upd_same
    have s05 := Same.trans s04 s5
    have ee5 := s5 _ _ ee4
    have hr5 := s5 _ _ hr4
    have hP5 := hP4.same s5
    have nq0 : H q = none := s04.free nq
    show tSeq _ _ _ _ (upd H4 q (.tup vs4))
    generalize upd H4 q (.tup vs4) = H5 at s5 hq5 s05 ee5 hr5 hP5 ⊢
    have lv4 : vs4.length = AA.1.pieces.length := hP4.len
    -- the new moment
    have hm5 := s05 _ _ hm
    refine ⟨_, rfl, _, rfl, m, T.CM, dm, _, _, rfl, hm5, T.clM, T.nMg, mf_g .., _, rfl, _, rfl, (by show 2 ≤ sizeLine; decide), fun a1 n1 => ⟨(by show 1 ≤ sizeLine; decide), fun a2 n2 => ?_⟩⟩
    have u1 := same_new (o := .tup [.int n, .bl said]) n1
    have u2 := same_new (o := .tup [.ref a1]) n2
    have lh : hs.length = (stR sz (ordsR t) (ordsE t) rr).x.pieces.length := hP.len
    have la : AA.1.pieces.length ≤ 0 + 18 * (18 * 99 + 18) := fa.2
    have big : 99 * 32724 + 32400 ≤ sizeLine := by decide
    refine ⟨g, a2, _, _, rfl, rfl, u2 _ _ (u1 _ _ (s05 _ _ hg)), upd_same, szl (by rw [lg]; show rr.length + 1 ≤ 1000; omega), fun H6 q1 s6 h6 => ?_⟩
    have s56 := Same.trans u1 (Same.trans u2 s6)
    refine ⟨_, rfl, m, T.CM, dm, _, _, rfl, s56 _ _ hm5, T.clM, T.nMh, mf_h .., _, rfl, h, q, _, _, rfl, rfl, s56 _ _ (s05 _ _ hh), s56 _ _ hq5, by omega, fun H7 q2 s7 h7 => ?_⟩
    have s57 := Same.trans s56 s7
    refine ⟨_, rfl, x, T.N.X.C, dxx, _, _, rfl, s57 _ _ ee5, T.N.X.cl, T.N.X.nR, xf_r .., _, rfl, x, T.N.X.C, dxx, _, _, rfl, s57 _ _ ee5, T.N.X.cl, T.N.X.nSt, xf_st .., ?_⟩
    intro y dy ny ndy ney
    refine ⟨y, dy, q1, q2, r4, .ref m, AA.2, rfl, upd_same, fun H8 o8 hy => ⟨rfl, ?_⟩⟩
    have s78 := made_same ny ndy o8
    have s58 := Same.trans s57 s78
    have s08 := Same.trans s05 s58
    have at8 := s08 _ _ hR.at_
    have yl : y ≠ lv := (ne_of_none (s57 _ _ (s05 _ _ hR.at_)) ny).symm
    refine ⟨_, rfl, lv, T.CR, dx, _, rfl, at8, T.clR, T.nRm, (by show 4 < 1000; decide), ?_⟩
    rw [rf_pm]
    refine ⟨_, rfl, ?_⟩
    have oL : Off lv H8 (upd H8 lv (.ins T.CR dx (rf lo sz false y))) := Off.put Off.refl
    have ft : ∀ (p : Addr) (xs : List V), H8 p = some (.tup xs) → (upd H8 lv (.ins T.CR dx (rf lo sz false y))) p = some (.tup xs) := fun p xs e => oL _ _ (ne_of e at8 (by intro z; cases z)) e
    have ms : MsAt H8 q1 q2 r4 ((n, said) :: rr).reverse (stR sz (ordsR t) (ordsE t) ((n, said) :: rr)).x := by
      rw [sf.1, List.reverse_cons]
      exact ⟨_, _, s78 _ _ (s7 _ _ h6), rps_snoc (r := (n, said)) (s78 _ _ (s7 _ _ (s6 _ _ (u2 _ _ upd_same)))) (hRp.same s08), s78 _ _ h7, (hP.same s08).app (hP5.same s58), s58 _ _ hr5⟩
    refine k _ y q vs4 (fun b o nb e => by rw [upd_ne nb]; exact s08 _ _ e) ⟨upd_same, (hR.lo.same s08).off3 at8 oL, ?_⟩ nq0 (ft _ _ (s58 _ _ hq5)) ((hP5.same s58).mono ft)
    refine .cons (m' := m) (dm := dy) ?_ (ms.mono ft) ((hR.same s08).mo.off at8 oL)
    rw [upd_ne yl, hy, sf.2]
/-! ### feed -/
theorem scRdF : FnScope ["self", "count", "told"] ["self", "count", "told"] (defScope sRdF) := ⟨rfl, rfl, rfl, by decide +kernel, rfl, by decide +kernel, by decide +kernel⟩
theorem ok_rdf (T : TxRd K mg) : FnOk P w K mg base (L2.CX P w) 6 T.fe.f T.fe.fd ["self", "count", "told"] (spRdT T) := by
  have GC : FnOk P w K mg base CX0 1 T.cf.f T.cf.fd ["self"] (spRdCf T) := ok_rdcf T
  have GT : FnOk P w K mg base (L2.CX P w) 5 T.ta.f T.ta.fd ["self", "count", "told"] (spRdT T) := ok_rdt T
  refine T.fe.F.okX scRdF (fun vs H Q E h => ?_) (fun cdv A outer s H vs Q E hr h => ?_)
  · obtain ⟨lv, _, _, _, _, _, _, _, _, rfl, _⟩ := h
    rfl
  · obtain ⟨lv, dx, lo, m, sz, n, said, t, rr, rfl, hR, rest⟩ := h
    have hr1 : Room 1 _ := hr.mono (by decide)
    refine ⟨_, (pss_cons (ps_expr (pe_meth0 (pv 0) T.clR T.cf.m GC hr1 T.cf.b .nil pass0)) (pss_one (ps_ret (pe_meth (E := E) (pv 0) T.clR T.ta.m GT hr T.ta.b .nil (passes_call (takes_of rfl rfl rfl rfl) fun _ _ _ _ z => z) (pa_cons (pv 1) (pa_cons (pv 2) pa_nil)))))), ?_⟩
    refine ⟨_, rfl, lv, dx, _, rfl, hR.at_, rf_n4 .., lv, dx, lo, m, sz, rfl, hR.at_, ?_⟩
    exact ⟨_, rfl, lv, dx, _, rfl, hR.at_, rf_n3 .., _, rfl, _, rfl, lv, dx, lo, m, sz, n, said, t, rr, rfl, hR, rest⟩
/-! ### check_loop, __init__ -/
def spCKL (T : TxRd K mg) : Sp := fun vs H Q _ => ∃ (lo : Addr) (t : Str), vs = [.ref lo] ∧ LoopAt T.N.T.C H lo t ∧ Q .non H
theorem scCKL : FnScope ["loop"] ["loop"] (defScope sCKL) := ⟨rfl, rfl, rfl, by decide +kernel, rfl, by decide +kernel, by decide +kernel⟩
theorem loop_ty (T : TxRd K mg) {H : Hp} {o : Addr} {t : Str} (h : LoopAt T.N.T.C H o t) : TyX K H (.ref o) (.ref T.N.T.C) := by
  obtain ⟨dx, pr, pe, po, pq, e, _⟩ := h
  exact .base (.ins e T.N.T.cl T.y1 T.y2 T.y3 T.y4)
theorem ok_ckl (T : TxRd K mg) : FnOk P w K mg base CX0 1 T.ckl.f T.ckl.fd ["loop"] (spCKL T) := by
  refine T.ckl.F.ok scCKL (fun vs H Q E h => ?_) (fun cdv A outer s H vs Q E hr h => ?_)
  · obtain ⟨lo, t, rfl, _⟩ := h
    rfl
  · obtain ⟨lo, t, rfl, hL, k⟩ := h
    exact ⟨_, (pss_one (ps_if (pt_not (pt_val (pe_callB call_isi (by rfl) T.N.k.isi (by decide +kernel) (pa_cons (pv 0) (pa_cons (pe_glob (v := .ref T.N.T.C) rfl T.N.T.gC rfl) pa_nil))))) (pss_one ps_never) pss_nil)), _, rfl, _, _, _, _, true, rfl, .own T.N.T.C, loop_ty T hL, T.y5, true, rfl, iteF k⟩
def spRdI (T : TxRd K mg) : Sp := fun vs H Q _ => ∃ (x dx lo : Addr) (sz : Nat) (t : Str), vs = [.ref x, .ref lo, .int sz] ∧ H x = some (.ins T.CR dx []) ∧ LoopAt T.N.T.C H lo t ∧ 1 ≤ sz ∧ sz ≤ 1000 ∧ ∀ (H' : Hp) (m : Addr), Off x H H' → RdAt T H' x dx lo m sz t [] → Q .non H'
theorem scRdI : FnScope ["self", "loop", "size"] ["self", "loop", "size"] (defScope sRdI) := ⟨rfl, rfl, rfl, by decide +kernel, rfl, by decide +kernel, by decide +kernel⟩
theorem ok_rdi (T : TxRd K mg) : FnOk P w K mg base (L2.CX P w) 4 T.fR T.fdR ["self", "loop", "size"] (spRdI T) := by
  have GK : FnOk P w K mg base CX0 1 T.ckl.f T.ckl.fd ["loop"] (spCKL T) := ok_ckl T
  have GS : FnOk P w K mg base (L2.CX P w) 3 T.N.k.cks.f T.N.k.cks.fd ["size"] (spCKS K T.N.k.eS.C) := ok_cks T.N.k
  have GM : FnOk P w K mg base CX0 1 T.fM T.fdM ["self", "before", "given", "handed", "kept", "over"] (spMmI T.CM) := ok_mmi T
  refine T.FR.okX scRdI (fun vs H Q E h => ?_) (fun cdv A outer s H vs Q E hr h => ?_)
  · obtain ⟨x, dx, lo, sz, t, rfl, _⟩ := h
    rfl
  · obtain ⟨x, dx, lo, sz, t, rfl, hx, hL, z1, z2, k⟩ := h
    have hr1 : Room 1 _ := hr.mono (by decide)
    have hr2 : Room 2 _ := hr.mono (by decide)
    refine ⟨_, (pss_cons (ps_expr (pe_call GK hr1 rfl T.ckl.g T.ckl.k T.ckl.b .nil pass0 (pa_cons (pv 1) pa_nil))) (pss_cons (ps_expr (pe_call GS hr rfl T.N.k.cks.g T.N.k.cks.k T.N.k.cks.b .nil pass_none (pa_cons (pv 2) pa_nil))) (pss_cons (ps_fld (pv 0) (pv 1) rfl) (pss_cons (ps_fld (pv 0) (pv 2) rfl) (pss_cons (ps_fld (pv 0) pe_bl rfl) (pss_one (ps_fld (pv 0) (pe_make T.MM GM hr2 rfl T.gM T.bM .nil pass0 (pa_cons pe_non (pa_cons (pe_tup pa_nil) (pa_cons (pe_tup pa_nil) (pa_cons (pe_tup pa_nil) (pa_cons pe_bl pa_nil)))))) rfl))))))), ?_⟩
    refine ⟨_, rfl, lo, t, rfl, hL, ?_⟩
    have hb : btw 1 1000 (.int (sz : Int)) = true := decide_eq_true (show (1 : Int) ≤ (sz : Int) ∧ (sz : Int) ≤ 1000 from ⟨by omega, by omega⟩)
    refine ⟨_, rfl, .int sz, rfl, typed_int _, fun _ => ?_, fun z => absurd (hb.symm.trans z) (by decide)⟩
    refine ⟨_, rfl, _, rfl, x, T.CR, dx, _, rfl, hx, T.clR, T.nRl, (by show 0 < 1000; decide), ?_⟩
    refine ⟨_, rfl, _, rfl, x, T.CR, dx, _, rfl, upd_same, T.clR, T.nRs, (by show 1 < 1000; decide), ?_⟩
    refine ⟨_, rfl, x, T.CR, dx, _, rfl, upd_same, T.clR, T.nRb, small8 (Nat.le_trans (putF8 (n := 1) (by show 1 ≤ 1; decide)) (by decide)), ?_⟩
    have o1 : Off x H (upd (upd (upd H x (.ins T.CR dx (putF "loop" (.ref lo) []))) x (.ins T.CR dx (putF "size" (.int sz) (putF "loop" (.ref lo) [])))) x (.ins T.CR dx (putF "busy" (.bl false) (putF "size" (.int sz) (putF "loop" (.ref lo) []))))) := fun b o nb e => by
      rw [upd_ne nb, upd_ne nb, upd_ne nb]
      exact e
    have hx1 : (upd (upd (upd H x (.ins T.CR dx (putF "loop" (.ref lo) []))) x (.ins T.CR dx (putF "size" (.int sz) (putF "loop" (.ref lo) [])))) x (.ins T.CR dx (putF "busy" (.bl false) (putF "size" (.int sz) (putF "loop" (.ref lo) []))))) x = some (.ins T.CR dx (putF "busy" (.bl false) (putF "size" (.int sz) (putF "loop" (.ref lo) [])))) := upd_same
    generalize upd (upd (upd H x (.ins T.CR dx (putF "loop" (.ref lo) []))) x (.ins T.CR dx (putF "size" (.int sz) (putF "loop" (.ref lo) [])))) x (.ins T.CR dx (putF "busy" (.bl false) (putF "size" (.int sz) (putF "loop" (.ref lo) [])))) = H1 at o1 hx1 ⊢
    refine ⟨(by show 0 ≤ sizeLine; decide), fun g ng => ⟨(by show 0 ≤ sizeLine; decide), fun h nh => ⟨(by show 0 ≤ sizeLine; decide), fun kk nk => ?_⟩⟩⟩
    have u1 := same_new (o := .tup []) ng
    have u2 := same_new (o := .tup []) nh
    have u3 := same_new (o := .tup []) nk
    intro y dy ny ndy ney
    refine ⟨y, dy, g, h, kk, .non, false, rfl, upd_same, fun H8 o8 hy => ⟨rfl, ?_⟩⟩
    have s8 := Same.trans u1 (Same.trans u2 (Same.trans u3 (made_same ny ndy o8)))
    have hx8 := s8 _ _ hx1
    have yx : y ≠ x := (ne_of_none (u3 _ _ (u2 _ _ (u1 _ _ hx1))) ny).symm
    have sy := made_same ny ndy o8
    refine ⟨_, rfl, x, T.CR, dx, _, rfl, hx8, T.clR, T.nRm, small8 (Nat.le_trans (putF8 (putF8 (n := 1) (by show 1 ≤ 1; decide))) (by decide)), ?_⟩
    have oF : Off x H (upd H8 x (.ins T.CR dx (rf lo sz false y))) := fun b o nb e => by
      rw [upd_ne nb]
      exact s8 _ _ (o1 _ _ nb e)
    have ft : ∀ (p : Addr) (xs : List V), H8 p = some (.tup xs) → (upd H8 x (.ins T.CR dx (rf lo sz false y))) p = some (.tup xs) := fun p xs e => by
      rw [upd_ne (ne_of e hx8 (by intro z; cases z))]
      exact e
    refine k (upd H8 x (.ins T.CR dx (rf lo sz false y))) y oF ⟨upd_same, ?_, ?_⟩
    · have f0 : ∀ (p : Addr) (xs : List V), H p = some (.tup xs) → (upd H8 x (.ins T.CR dx (rf lo sz false y))) p = some (.tup xs) := fun p xs e => oF _ _ (ne_of e hx (by intro z; cases z)) e
      obtain ⟨dlo, pr, pe, po, pq, e1, e2, e3, e4, e5⟩ := hL
      exact ⟨dlo, pr, pe, po, pq, oF _ _ (ne_of e1 hx fun z => by have e := congrArg List.length (HO.ins.inj z).2.2; have l5 : (lf t pr pe po pq).length = 5 := rfl; rw [l5] at e; cases e) e1, f0 _ _ e2, f0 _ _ e3, e4.mono f0, e5.mono f0⟩
    · refine .nil (dm := dy) (g := g) (h := h) (k := kk) (by rw [upd_ne yx]; exact hy) ⟨[], [], ft _ _ (sy _ _ (u3 _ _ (u2 _ _ upd_same))), .nil, ft _ _ (sy _ _ (u3 _ _ upd_same)), .nil, ft _ _ (sy _ _ upd_same)⟩
end
end My

/-! own exceptions as values: made by position and by keyword, read, asked for their classes -/
namespace ExV
open PySem PySem.W PySem.Calls PyProof.Rows PySem.HandSPX Builtin
section
variable {prog : Program} {w : World} {A : Around} {Er : Value → Shared → Prop} {R : Result → Shared → Prop} {hp : Heap} {g : Array GenState} {dr : Drawn} {tk : Nat} {os : OsState}
variable {nm q : Str} {C N : Addr} {bs bm tail : List Value} {hasD : Bool} {sn : List Str} {sub : List Value} {ab : Bool} {col : Option Bool} {dd : Option Addr} {k0 k1 k2 k3 k5 : Option Value} {B nId iId : String} {kw : List (Str × Value)}
theorem chkK {M : Model} {Q : Unit → Shared → Prop} (F : ExcBaseFacts B nId iId tail) (same : ∀ Y : String, bm.contains (.type Y) = tail.contains (.type Y)) (atC : hp.get? C = some (excClassObj nm q C N bs bm hasD sn sub ab col dd k0 k1 k2 k3 k5 nId)) (hq : Q () ⟨hp, g, dr, tk, os⟩) :
    wpAny M A (checkBuiltinCall nId ⟨[.ref C], kw⟩) Q Er ⟨hp, g, dr, tk, os⟩ := by
  have inB : (Value.ref C :: bm).contains (.type B) = true := by
    rw [List.contains_cons, same, F.hasB]
    simp
  have noS := F.noStar
  unfold checkBuiltinCall
  simp only [F.newKind, F.newSplit, F.newRow]
  repeat (first | refine wpAny_loadPart_at atC ?_ | (refine wpAny_isSubtype_exc atC ?_; rw [inB]) | refine wpAny_staticBase_exc atC ?_ | refine wpAny_madeBy_exc atC ?_ | simp only [bne_self_eq_false, Bool.false_eq_true, if_false] | wp_step)
  exact hq
theorem newK (F : ExcBaseFacts B nId iId tail) (same : ∀ Y : String, bm.contains (.type Y) = tail.contains (.type Y)) (atC : hp.get? C = some (excClassObj nm q C N bs bm hasD sn sub ab col dd k0 k1 k2 k3 k5 nId))
    (hq : R (.ok (.ret (.ref (hp.objs.size + 1)))) ⟨(hp.push (kdv_tup [])).push (excO C hp.objs.size), g, dr, tk, os⟩) : codeAny (model prog w) A (.builtin nId ⟨[.ref C], kw⟩) R ⟨hp, g, dr, tk, os⟩ := by
  have ends := F.ends
  have inB : (Value.ref C :: bm).contains (.type B) = true := by
    rw [List.contains_cons, same, F.hasB]
    simp
  have inA : (Value.ref C :: bm).contains (.type "AttributeError") = false := by
    rw [List.contains_cons, same, F.noAttr]
    rfl
  have inN : (Value.ref C :: bm).contains (.type "NameError") = false := by
    rw [List.contains_cons, same, F.noName]
    rfl
  have few : ([] : List Value).length ≤ sizeLine := Nat.zero_le _
  refine codeAny_builtinAt F.entry ?_
  unfold Builtin.«BaseException.__new__»
  refine PySem.wpAt_bind ?_
  show PySem.wpAt _ _ _ (stack >>= _) _ _ _
  refine PySem.wpAt_bind (PySem.wpAt_stack fun p below => PySem.wpAt_of_wpAny ?_)
  wp_walk
  refine PySem.wpAt_of_wpAny ?_
  rw [F.owner]
  repeat (first | with_reducible refine wpAny_madeHere_exc F.canon atC ?_ | with_reducible refine wpAny_loadPart_at atC ?_ | (with_reducible refine wpAny_isSubtype_exc atC ?_; first | rw [inB] | rw [inA] | rw [inN]) | wp_step)
  show R _ _
  rw [Heap.size_push]
  exact hq
theorem typeK {fI : Addr} {Q : Fin → Shared → Prop} (F : ExcBaseFacts B nId iId tail) (same : ∀ Y : String, bm.contains (.type Y) = tail.contains (.type Y)) (atC : hp.get? C = some (excClassObj nm q C N bs bm hasD sn sub ab col dd k0 k1 k2 k3 k5 nId))
    (find : Looks (model prog w) hp (typeLookup (.ref C) "__init__") (some (.ref fI))) (bind : ∀ self, Looks (model prog w) hp (bindSpecial (.ref fI) self) (.ref fI, [self]))
    (hq : codeAny (model prog w) A (.call (.ref fI) ⟨[.ref (hp.objs.size + 1)], kw⟩) (fun r s' => match r with | .ok (.ret v) => v = .none ∧ Q (.done (.ret (.ref (hp.objs.size + 1)))) s' | .ok _ => False | .error e => Er e s')
      ⟨(hp.push (kdv_tup [])).push (excO C hp.objs.size), g, dr, tk, os⟩) : wpAny (model prog w) A (Builtin.«type.__call__» ⟨[.ref C], kw⟩) Q Er ⟨hp, g, dr, tk, os⟩ := by
  repeat (first | with_reducible refine wpAny_loadPart_at atC ?_ | with_reducible refine wpAny_madeBy_exc atC ?_ | wp_step)
  refine codeAny_call_builtin_code (Code.quiet_builtin _ F.quiet) (chkK F same atC ?_)
  refine newK F same atC ?_
  show wpAny _ _ _ _ _ _
  have stay : ∀ b o, hp.get? b = some o → ((hp.push (kdv_tup [])).push (excO C hp.objs.size)).get? b = some o := fun b o e => Heap.get?_push_of_some _ (Heap.get?_push_of_some _ e)
  have atC1 := stay _ _ atC
  have new : ((hp.push (kdv_tup [])).push (excO C hp.objs.size)).get? (hp.objs.size + 1) = some (excO C hp.objs.size) := by heap_get
  have itself : (Value.ref C :: bm).contains (.ref C) = true := by simp
  have f1 := find.keeps stay
  have b1 := (bind (.ref (hp.objs.size + 1))).keeps stay
  unfold isInstance
  repeat (first | with_reducible refine wpAny_loadPart_at new ?_ | (with_reducible refine wpAny_isSubtype_exc atC1 ?_; rw [itself]) | wp_step)
  show wpAny _ _ (typeLookup (.ref C) _) _ _ _
  refine f1.at ?_
  refine wpAny_holding (wpAny_bind (b1.at ?_))
  refine wpAny_bind (wpAny_call (codeAny_mono hq fun r s' z => ?_))
  rcases r with e | (v | _ | _ | _) <;> first | exact z | exact z.elim | skip
  obtain ⟨rfl, z⟩ := z
  first
    | exact wpAny_pure (wpAny_pure z)
    | (wp_walk; exact z)
theorem callK {fI : Addr} (F : ExcBaseFacts B nId iId tail) (same : ∀ Y : String, bm.contains (.type Y) = tail.contains (.type Y)) (atC : hp.get? C = some (excClassObj nm q C N bs bm hasD sn sub ab col dd k0 k1 k2 k3 k5 nId))
    (find : Looks (model prog w) hp (typeLookup (.ref C) "__init__") (some (.ref fI))) (bind : ∀ self, Looks (model prog w) hp (bindSpecial (.ref fI) self) (.ref fI, [self]))
    (hq : codeAny (model prog w) (A.under (.builtin "type.__call__" ⟨[.ref C], kw⟩)) (.call (.ref fI) ⟨[.ref (hp.objs.size + 1)], kw⟩) (InitBack (hp.objs.size + 1) R) ⟨(hp.push (kdv_tup [])).push (excO C hp.objs.size), g, dr, tk, os⟩) :
    codeAny (model prog w) A (.call (.ref C) ⟨[], kw⟩) R ⟨hp, g, dr, tk, os⟩ := by
  have f1 := tc_lookup
  have f2 := tc_bind (.ref C)
  have isTy : (⟨hp, g, dr, tk, os⟩ : Shared).TypeIs (.ref C) "type" := ⟨_, atC, rfl⟩
  refine codeAny_of_tree ?_
  show wpAny _ _ (callAny (.ref C) _) _ _ _
  repeat (any_goals (first | assumption | with_reducible refine wpAny_loadPart_at atC ?_ | wp_step))
  refine ⟨rfl, ?_⟩
  refine codeAny_call_builtin_at (Code.quiet_builtin _ (by decide +kernel)) entry_typeCall (wpAny_check_type_call_sub atC (typeK F same atC find bind ?_))
  refine codeAny_mono hq fun r s' z => ?_
  rcases r with e | (v | _ | _ | _) <;> exact z
end
/-! ### what stands behind the own classes -/
inductive Behind (tail : List Value) : List Value → Prop
  | here : Behind tail tail
  | own {c : Addr} {r : List Value} : Behind tail r → Behind tail (.ref c :: r)
structure Tail (B nId iId : String) (tail : List Value) : Prop where
  F : ExcBaseFacts B nId iId tail
  pass : ∀ self, refuseLoop self "__setattr__" tail = pure ()
  obj : tail.contains (.type "object") = true
  ne : tail.isEmpty = false
theorem tail_V : Tail "ValueError" "ValueError.__new__" "ValueError.__init__" [.type "ValueError", .type "Exception", .type "BaseException", .type "object"] := ⟨PySem.F.excBase_ValueError, fun self => PySem.F.store_ValueError.passes self, by decide +kernel, rfl⟩
theorem tail_A : Tail "ArithmeticError" "ArithmeticError.__new__" "ArithmeticError.__init__" [.type "ArithmeticError", .type "Exception", .type "BaseException", .type "object"] := ⟨PySem.F.excBase_ArithmeticError, fun self => PySem.F.store_ArithmeticError.passes self, by decide +kernel, rfl⟩
theorem Behind.contains {tail l : List Value} (h : Behind tail l) (Y : String) : l.contains (.type Y) = tail.contains (.type Y) := by
  induction h with
  | here => rfl
  | own _ ih =>
    rw [List.contains_cons, ih]
    rfl
theorem Behind.pass {B nId iId : String} {tail l : List Value} (T : Tail B nId iId tail) (h : Behind tail l) (self : Value) : refuseLoop self "__setattr__" l = pure () := by
  induction h with
  | here => exact T.pass self
  | own _ ih =>
    rw [refuseLoop_ref]
    exact ih
theorem Behind.ne {B nId iId : String} {tail l : List Value} (T : Tail B nId iId tail) (h : Behind tail l) : l.isEmpty = false := by
  cases h with
  | here => exact T.ne
  | own _ => rfl
section
open ObjectAttr
variable {prog : Program} {w : World} {A : Around} {R : Result → Shared → Prop} {hp : Heap} {g : Array GenState} {dr : Drawn} {tk : Nat} {os : OsState}
/-- the first field of an exception -/
theorem osaT {K : Frag} {name : Str} {tn : Tok} {v : Value} {x C : Addr} {fv : Array Value} {cd : ClassData} {B nId iId : String} {tail : List Value} (T : Tail B nId iId tail)
    (X : K.In hp) (hx : hp.get? x = some { cls := .ref C, data := .fields fv }) (hcd : clsIn K C = some cd) (hm : Behind tail cd.mro) (hh : cd.hasDict = true) (no : findIn K (.ref C) name = some none)
    (hq : ∀ h' tk', (∀ b o, b ≠ x → hp.get? b = some o → h'.get? b = some o) → h'.get? x = some { cls := .ref C, dict := some hp.objs.size, data := .fields fv } →
      h'.Ns1 hp.objs.size (fun y => if y = name then some v else none) → R (.ok (.ret .none)) ⟨h', g, dr, tk', os⟩) :
    codeAny (model prog w) A (.call (.builtin "object.__setattr__") ⟨[.ref x, .str name tn, v], []⟩) R ⟨hp, g, dr, tk, os⟩ := by
  have at_ : InstAt hp x { cls := .ref C, data := .fields fv } C none := ⟨hx, rfl, rfl, trivial⟩
  have S := PySem.F.store_object
  have mroHas : cd.mro.contains (.type "object") = true := (hm.contains "object").trans T.obj
  have apart : x ≠ hp.objs.size := Nat.ne_of_lt (Heap.lt_size hx)
  have isObj : Looks (model prog w) hp (isInstance (.ref x) (.type "object")) true := at_.type.andThen (looks_mroIn X (by
    unfold mroIn
    rw [hcd, Option.bind_some, if_neg (by rw [hm.ne T]; decide), mroHas]))
  refine codeAny_call_builtin S.slot.plain S.entry ?_
  refine @check_slot (model prog w) _ _ ⟨hp, g, dr, tk, os⟩ "object.__setattr__" "object" "__setattr__" (.ref x) [.str name tn, v] [] _ S.kind S.split isObj (S.args (.ref x) (.str name tn) v) ?_
  have mroIs : Looks (model prog w) hp (mroOf (.ref C)) cd.mro := (looks_clsIn X hcd).andThen .now
  have noTaker : Looks (model prog w) hp (storeTaker? none) none := .now
  have dataIs : Looks (model prog w) hp (classData C) cd := looks_clsIn X hcd
  rw [osa_eq, refuse_eq]
  refine wpAny_bind (wpAny_bind (at_.type.at (wpAny_bind (mroIs.at ?_))))
  rw [hm.pass T]
  refine wpAny_pure (wpAny_bind (at_.type.at (wpAny_bind ((looks_findIn X no).at (wpAny_bind (noTaker.at ?_))))))
  show wpAny _ _ (storeInOwnDict (.ref x) (.ref C) (.str name tn) name v false) _ _ _
  obtain ⟨c1, c2, c3, c4, c5, c6, c7, c8, c9, ca, cb⟩ := cd
  dsimp only at hh
  subst hh
  unfold storeInOwnDict ownDictForStores
  repeat (first | with_reducible refine store_in_new ?_ ?_ | with_reducible refine wpAny_loadPart_at hx ?_ | with_reducible refine dataIs.at ?_ | wp_step)
  · exact ⟨_, #[], _, (Heap.get?_update_ne _ _ _ _ apart.symm).trans (Heap.get?_push_at rfl rfl), rfl, fun e he => absurd he (by simp), fun _ => rfl⟩
  · intro h' tk' ns but
    have hx1 : (hp.push { cls := .type "dict", data := .dict #[] }).get? x = some { cls := .ref C, data := .fields fv } := Heap.get?_push_of_some _ hx
    refine hq h' tk' (fun b o nb e => ?_) ((but.2 x apart).trans (Heap.get?_update_self _ hx1 rfl)) ns
    refine (but.2 b (Nat.ne_of_lt (Heap.lt_size e))).trans ?_
    rw [Heap.get?_update_ne _ _ _ _ nb]
    exact Heap.get?_push_of_some _ e
end
end ExV

namespace ExV
open PySem PySem.Spec PyProof.Rows L2
/-- what the written part says of an own exception class -/
structure XvC (K : PySem.W.Frag) (C : Addr) (nId : String) (tail : List Value) : Prop where
  cls : ∃ nm q N bs bm sn sub ab col dd k0 k1 k2 k3 k5, K.lookup C = some (excClassObj nm q C N bs bm true sn sub ab col dd k0 k1 k2 k3 k5 nId) ∧ Behind tail bm
  sa : PySem.W.findIn K (.ref C) "__setattr__" = some (some (.builtin "object.__setattr__"))
  kC : PySem.W.keepIn K (.ref C) = true
/-- an error of the class at C, at a: its field f holds v -/
def Err (H : Hp) (a C : Addr) (f : Str) (v : V) : Prop := ∃ dx, H a = some (exo a C (some dx)) ∧ H dx = some (exd dx [(f, v)])
theorem Err.same {H H' : Hp} {a C : Addr} {f : Str} {v : V} (h : Err H a C f v) (s : ∀ b o, H b = some o → H' b = some o) : Err H' a C f v := let ⟨dx, x, y⟩ := h; ⟨dx, s _ _ x, s _ _ y⟩
section
variable {X : Cx} {pins : List (Addr × Obj)} {σ : L2.St} {H : Hp} {s : Shared} {a C : Addr} {f : Str} {y : V} {u : Value} {Q : Unit → Shared → Prop} {Er : Value → Shared → Prop} {A : Around} {B nId iId : String} {tail : List Value}
theorem ostV (T : Tail B nId iId tail) (VC : XvC X.K C nId tail) (I : Inv X pins σ H s) (e : H a = some (exo a C none)) (no : PySem.W.findIn X.K (.ref C) f = some none) (ry : RelV y u)
    (h : ∀ dx s', H dx = none → dx ≠ a → Inv X pins σ (upd (upd H dx (exd dx [(f, y)])) a (exo a C (some dx))) s' → Q () s') : wpAny (model X.prog X.w) A (setAttr (.ref a) f u) Q Er s := by
  obtain ⟨nm, q, N, bs, bm, sn, sub, ab, col, dd, k0, k1, k2, k3, k5, lC, beh⟩ := VC.cls
  have cd : PySem.W.clsIn X.K C = some { name := nm, bases := bs, mro := .ref C :: bm, ns := N, qualname := q, hasDict := true, slotNames := sn, subclasses := sub, abstract := ab, collection := col, hasDel := false } := by
    unfold PySem.W.clsIn
    rw [lC] <;> rfl
  obtain ⟨t1, at_⟩ := exo_at I.hok e
  obtain ⟨hp, g, d, t, os⟩ := s
  refine PySem.W.set_plain I.kIn (ox := { cls := .ref C, dict := none, data := .fields #[.ref t1, .none, .none, .none, .bool false, .none] }) (od := none) ⟨at_, rfl, rfl, trivial⟩ VC.sa ?_
  refine osaT T I.kIn at_ cd (.own beh) rfl no fun h' tk' k hx hn => ?_
  have nd : H hp.objs.size = none := I.hok.fresh (Nat.le_refl _)
  have ne : hp.objs.size ≠ a := Nat.ne_of_gt (Heap.lt_size at_)
  obtain ⟨oD, es, ep, atD, rD⟩ := id hn
  have fr : oD.isFreed = false := by
    obtain ⟨r1, _⟩ := rD
    cases oD
    dsimp only at r1
    subst r1
    rfl
  have J1 : Inv X pins σ (upd H hp.objs.size (exd hp.objs.size [(f, y)])) ⟨hp.push oD, g, d, tk', os⟩ :=
    I.laid (t' := tk') (fun b o q => Heap.get?_push_of_some _ q) (Nat.le_refl _) (exd_ok (mA := fun z => if z = f then some u else none) ⟨oD, es, ep, Heap.get?_push_at rfl fr, rD⟩ (relO_put (fs := []) ry fun _ => True.intro))
  have stay : ∀ b o, b ≠ a → (hp.push oD).get? b = some o → h'.get? b = some o := fun b o nb q => by
    rcases Heap.get?_push_cases q with ⟨rfl, rfl⟩ | q
    · exact atD
    · exact k b o nb q
  have e1 : (upd H hp.objs.size (exd hp.objs.size [(f, y)])) a = some (exo a C none) := by
    rw [upd_ne (Ne.symm ne)]
    exact e
  exact h _ _ nd ne (J1.write (t' := tk') (x := a) (e := a) (o := exo a C (some hp.objs.size)) (by rw [e1]; exact True.intro) (.inl rfl) stay ⟨_, hx⟩ (exo_ok hx))
end
/-- self.f = e, where self has no field yet -/
def tOstV (K : PySem.W.Frag) (f : Str) (to te : TE) : TS := fun D σ H => te σ H fun y H1 => to σ H1 fun x H2 => ∃ (a C : Addr) (B nId iId : String) (tail : List Value), x = .ref a ∧ Tail B nId iId tail ∧ XvC K C nId tail ∧ PySem.W.findIn K (.ref C) f = some none ∧
  H2 a = some (exo a C none) ∧ ∀ dx, H2 dx = none → dx ≠ a → D.nx σ (upd (upd H2 dx (exd dx [(f, y)])) a (exo a C (some dx)))
/-- what such an __init__ promises -/
def spIni (C : Addr) (f : Str) : Sp := fun vs H Q _ => ∃ (a : Addr) (v : V), vs = [.ref a, v] ∧ H a = some (exo a C none) ∧ ∀ dx, H dx = none → dx ≠ a → Q .non (upd (upd H dx (exd dx [(f, v)])) a (exo a C (some dx)))
theorem made {C a : Addr} {f : Str} {v : V} {H1 : Hp} {Q : VK} (na : H1 a = none) (q : ∀ (a : Addr) (H' : Hp), Same H1 H' → Err H' a C f v → Q (.ref a) H') :
    spIni C f [.ref a, v] (upd H1 a (exo a C none)) (fun r H2 => r = .non ∧ Q (.ref a) H2) fun _ _ _ => False := by
  refine ⟨a, v, rfl, upd_same, fun dx ndx nda => ⟨rfl, q a _ (fun b o e => ?_) ⟨dx, upd_same, ?_⟩⟩⟩
  · rw [upd_ne nda] at ndx
    rw [upd_ne (ne_of_none e na), upd_ne (ne_of_none e ndx), upd_ne (ne_of_none e na)]
    exact e
  · rw [upd_ne nda, upd_same]
def tMkV (C : Addr) (f : Str) (te : TE) : TE := fun σ H Q => te σ H fun v H1 => ∀ (a : Addr) (H' : Hp), Same H1 H' → Err H' a C f v → Q (.ref a) H'
section
variable {X : Cx} {o e : Expr} {to te : TE} {f : Str} {p p' pos : Pos}
theorem ps_ostV (ho : PE X o to) (he : PE X e te) (hs : swapsWith e (some (.Attribute o f p')) pos.line X.env = pure false := by rfl) : PS X (.Assign [.Attribute o f p'] e pos) (tOstV X.K f to te) := by
  refine ⟨fun pins s σ H D I h => ?_⟩
  refine plainObj_wpAny_Assign_Attribute (thn (he.run pins s σ H _ I h) fun v s1 w1 => ?_) hs
  obtain ⟨y, H1, I1, r1, q1⟩ := w1
  refine thn (ho.run pins s1 σ H1 _ I1 q1) fun u s2 w2 => ?_
  obtain ⟨x, H2, I2, r2, a, C, B, nId, iId, tail, rfl, T, VC, no, ea, q⟩ := w2
  cases r2
  exact ostV T VC I2 ea no r1 fun dx s' n ne J => ⟨σ, _, J, q dx n ne⟩
/-- C(e), as a value -/
theorem pe_mkV {x : Str} {C fI : Addr} {k : Nat} {fd : FuncData} {n1 n2 : Str} {B nId iId : String} {tail : List Value} (T : Tail B nId iId tail) (VC : XvC X.K C nId tail) (iC : PySem.W.findIn X.K (.ref C) "__init__" = some (some (.ref fI))) (tI : PySem.W.typeIn X.K (.ref fI) = some (.type "function"))
    (F1 : FnOk X.prog X.w X.K X.mg X.base CX0 k fI fd [n1, n2] (spIni C f)) (hr : Room (k + 1) X.A) (hb : Binds X.K fd [n1, n2] []) (hg : Gl X x) (hm : X.mg x = some (.ref C)) (he : PE X e te)
    (hdb : (x == ("__debug__" : Str)) = false := by decide) (hs : starEach [e] X.env = (false, eval e X.env) :: starEach [] X.env := by rfl) :
    PE X (.Call (.Name x p) [e] [] pos) (tMkV C f te) := by
  refine ⟨fun pins s σ H Q I h => ?_⟩
  obtain ⟨nm, q, N, bs, bm, sn, sub, ab, col, dd, k0, k1, k2, k3, k5, lC, beh⟩ := VC.cls
  refine wpAny_Call_Name_kw (ld_glob I hg hm ?_ hdb)
  refine PySem.W.callWith_K (h₀ := X.base) I.ok.mod.kin VC.kC ?_ hs (by rfl)
  rw [hs]
  refine Calls.spliced_cons (thn (he.run pins s σ H _ I h) fun u s1 ⟨v, H1, I1, r1, q1⟩ => Calls.spliced_nil ⟨I1.kIn, ?_⟩)
  show wpAny _ _ (call (.ref C) [u]) _ _ _
  obtain ⟨hp, g, dr, tk, os⟩ := s1
  have room : hp.objs.size ≤ hp.objs.size + 1 := Nat.le_succ _
  have na : H1 (hp.objs.size + 1) = none := I1.hok.fresh room
  have hq := made (C := C) (f := f) (Q := Q) na q1
  have I2 : Inv X pins σ (upd H1 (hp.objs.size + 1) (exo (hp.objs.size + 1) C none)) ⟨(hp.push (PySem.W.kdv_tup [u])).push (PySem.HandSPX.excO C hp.objs.size), g, dr, tk, os⟩ :=
    I1.laid (t' := tk) (fun b o z => Heap.get?_push_of_some _ (Heap.get?_push_of_some _ z)) room (exo_ok (t1 := hp.objs.size) (by heap_get))
  have r2 : Vals [V.ref (hp.objs.size + 1), v] [Value.ref (hp.objs.size + 1), u] := .cons rfl (.cons r1 .nil)
  refine wpAny_call (PySem.HandSPX.call_own T.F (fun Y => beh.contains Y) (I1.kIn _ _ lC) (PySem.W.looks_findIn I1.kIn iC) (fun self => PySem.W.bind_fn I1.kIn self tI) (by show 1 ≤ sizeLine; decide) ?_)
  refine codeAny_mono (F1.run _ X.stack _ _ ⟨[Value.ref (hp.objs.size + 1), u], []⟩ [Value.ref (hp.objs.size + 1), u] _ _ _ (hr.make C [u] []) (I2.env0.make C [u] []) (hb _ [Value.ref (hp.objs.size + 1), u] I2.kIn rfl) r2 hq) fun r s' hq' => ?_
  match r, hq' with
  | .error er, hq' => exact (show False from hq').elim
  | .ok (.ret z), hq' =>
    obtain ⟨v2, H', I3, rv, rfl, q3⟩ := I2.after hq'
    exact ⟨rv, ⟨V.ref (hp.objs.size + 1), H', I3, rfl, q3⟩⟩
/-- C(f=e), as a value -/
theorem pe_mkVK {x : Str} {C fI : Addr} {k : Nat} {fd : FuncData} {n1 n2 : Str} {kws : List Keyword} {tk : TA} {B nId iId : String} {tail : List Value} {gF : List Value → List Value → List Value} {gV : List V → List V → List V} (T : Tail B nId iId tail) (VC : XvC X.K C nId tail) (iC : PySem.W.findIn X.K (.ref C) "__init__" = some (some (.ref fI))) (tI : PySem.W.typeIn X.K (.ref fI) = some (.type "function"))
    (F1 : FnOk X.prog X.w X.K X.mg X.base CX0 k fI fd [n1, n2] (spIni C f)) (hr : Room (k + 1) X.A) (hb : KBn X.K fd [n1, n2] 1 [n2] gF gV) (hgV : ∀ x y, gV [x] [y] = [x, y]) (hg : Gl X x) (hm : X.mg x = some (.ref C)) (hkw : PK X kws tk)
    (hall : (backToKw pos (keywordEach kws X.env)).all (·.1.isSome) = true := by rfl) (hks : (backToKw pos (keywordEach kws X.env)).filterMap (·.1) = [n2] := by rfl) (hdb : (x == ("__debug__" : Str)) = false := by decide)
    (hpl : ((backTo pos (starEach [] X.env)).any (·.1) || (backToKw pos (keywordEach kws X.env)).any (·.1.isNone)) = false := by rfl) :
    PE X (.Call (.Name x p) [] kws pos) (fun σ H Q => tk σ H fun vs H1 => ∃ v, vs = [v] ∧ ∀ (a : Addr) (H' : Hp), Same H1 H' → Err H' a C f v → Q (.ref a) H') := by
  refine ⟨fun pins s σ H Q I h => ?_⟩
  obtain ⟨nm, q, N, bs, bm, sn, sub, ab, col, dd, k0, k1, k2, k3, k5, lC, beh⟩ := VC.cls
  refine wpAny_Call_Name_kw (ld_glob I hg hm ?_ hdb)
  refine PySem.W.callWith_KW0 (h₀ := X.base) I.ok.mod.kin VC.kC hall ?_ hpl
  refine thn (hkw.run pos pins s σ H _ I h) fun ws s1 ⟨zs, H1, I1, rz, v, ev, q1⟩ => ⟨I1.kIn, ?_⟩
  rw [hks]
  subst ev
  obtain ⟨u, rfl, r1⟩ := vals1 rz
  show wpAny _ _ (call (.ref C) [] [(n2, u)]) _ _ _
  obtain ⟨hp, g, dr, tk, os⟩ := s1
  have room : hp.objs.size ≤ hp.objs.size + 1 := Nat.le_succ _
  have na : H1 (hp.objs.size + 1) = none := I1.hok.fresh room
  have hq := made (C := C) (f := f) (Q := Q) na q1
  have I2 : Inv X pins σ (upd H1 (hp.objs.size + 1) (exo (hp.objs.size + 1) C none)) ⟨(hp.push (PySem.W.kdv_tup [])).push (PySem.HandSPX.excO C hp.objs.size), g, dr, tk, os⟩ :=
    I1.laid (t' := tk) (fun b o z => Heap.get?_push_of_some _ (Heap.get?_push_of_some _ z)) room (exo_ok (t1 := hp.objs.size) (by heap_get))
  have r2 : Vals (gV [V.ref (hp.objs.size + 1)] [v]) (gF [Value.ref (hp.objs.size + 1)] [u]) := hb.rel (.cons rfl .nil) (.cons r1 .nil)
  rw [hgV] at r2
  refine wpAny_call (callK T.F (fun Y => beh.contains Y) (I1.kIn _ _ lC) (PySem.W.looks_findIn I1.kIn iC) (fun self => PySem.W.bind_fn I1.kIn self tI) ?_)
  refine codeAny_mono (F1.run _ X.stack _ _ ⟨[Value.ref (hp.objs.size + 1)], [(n2, u)]⟩ _ _ _ _ (hr.make C [] [(n2, u)]) (I2.env0.make C [] [(n2, u)]) (hb.to _ [Value.ref (hp.objs.size + 1)] [u] I2.kIn rfl rfl) r2 hq) fun r s' hq' => ?_
  match r, hq' with
  | .error er, hq' => exact (show False from hq').elim
  | .ok (.ret z), hq' =>
    obtain ⟨v2, H', I3, rv, rfl, q3⟩ := I2.after hq'
    exact ⟨rv, ⟨V.ref (hp.objs.size + 1), H', I3, rfl, q3⟩⟩
/-- C(), C without own __init__, as a value -/
theorem pe_mk0 {C : Addr} {tail : List Value} {B nId iId : String} {x : Str} (F : ExcBaseFacts B nId iId tail) (q : PySem.W.excIn X.K C tail nId = true) (gC : X.mg x = some (.ref C)) (kC : PySem.W.keepIn X.K (.ref C) = true) (hg : Gl X x) (hdb : (x == ("__debug__" : Str)) = false := by decide) :
    PE X (.Call (.Name x p) [] [] pos) (fun σ H Q => ∀ (a : Addr) (H' : Hp), Same H H' → H' a = some (ExO (.ref C) a) → Q (.ref a) H') := by
  refine ⟨fun pins s σ H Q I h => ?_⟩
  refine wpAny_Call_Name_kw (ld_glob I hg gC ?_ hdb)
  refine PySem.W.callWith_K0 I.kIn kC ?_
  show wpAny _ _ (call (.ref C) []) _ _ _
  obtain ⟨bm, N, nm, qn, bs, hdct, sn, sub, ab, col, dd, k0, k1, k2, k3, k5, mN, hC, hN, hni, T⟩ := exc_obj I.kIn q
  refine wpAny_call_exc_subT F T hC hN hni (fun h' a hm => ?_) (Nat.zero_le _)
  have hn : H a = none := I.hok.gone hm.new
  obtain ⟨t, ht, _, _⟩ := hm.there
  exact ⟨.ref a, upd H a (ExO (.ref C) a), I.laidN hm.keeps hm.new hn (exO_ok ht ⟨rfl, rfl⟩ rfl rfl rfl (show 4 < 6 by decide)), rfl, h a _ (fun b o z => by rw [upd_ne (ne_of_none z hn)]; exact z) upd_same⟩
/-- e.f -/
def tXv (K : PySem.W.Frag) (n : Str) (te : TE) : TE := fun σ H Q => te σ H fun x H1 => ∃ (a C : Addr) (v : V), x = .ref a ∧ XfC K C ∧ PySem.W.findIn K (.ref C) n = some none ∧ Err H1 a C n v ∧ Q v H1
theorem pe_xv {n : Str} (he : PE X e te) (hb : attributeBase e n X.env (eval e X.env) = eval e X.env := by rfl) : PE X (.Attribute e n pos) (tXv X.K n te) := by
  refine ⟨fun pins s σ H Q I h => ?_⟩
  refine attr_of hb (thn (he.run pins s σ H _ I h) fun u s1 w1 => ?_)
  obtain ⟨x, H1, I1, rx, a, C, v, rfl, T, no, ⟨dx, ea, ed⟩, q⟩ := w1
  cases rx
  obtain ⟨t1, ha⟩ := exo_at I1.hok ea
  obtain ⟨mA, hns, hr⟩ := exd_at I1.hok ed
  obtain ⟨od, ho, hl⟩ := lookIn_ns hns
  obtain ⟨u, hu, ru⟩ := RelO.some_of (v := v) (o := mA n) (by
    have z := hr n
    rw [lookup_put, if_pos rfl] at z
    exact z)
  have J : PySem.W.InstAt s1.heap a { cls := .ref C, dict := some dx, data := .fields #[.ref t1, .none, .none, .none, .bool false, .none] } C (some od) := ⟨ha, rfl, rfl, ho⟩
  exact HandSPX.exc_get I1.kIn J T.ga T.gg T.exC (PySem.W.findObj_own T.hdC no rfl (by rw [hl, hu])) (handed_of ru) ⟨v, H1, I1.tok _, ru, q⟩
end
/-! ### isinstance -/
structure XiC (K : PySem.W.Frag) (D : Addr) : Prop where
  xf : XfC K D
  ic : (PySem.W.clsIn K D).isSome = true
  c1 : PySem.W.findIn K (.ref D) "__class__" = some (some (.builtin "object.__class__"))
  c2 : PySem.W.specialIn K (.builtin "object.__class__") "__get__" = some (some (.builtin "getset_descriptor.__get__"))
  c3 : PySem.W.takesIn K (.builtin "object.__class__") = some true
  c4 : PySem.W.mroIn K D (.type "object") = some true
/-- at a stands an exception of the class at C -/
def Exn (H : Hp) (a C : Addr) : Prop := (∃ d, H a = some (exo a C (some d)) ∧ ∃ fs, H d = some (exd d fs)) ∨ H a = some (ExO (.ref C) a)
theorem Exn.same {H H' : Hp} {a C : Addr} (h : Exn H a C) (s : ∀ b o, H b = some o → H' b = some o) : Exn H' a C := by
  rcases h with ⟨d, x, fs, y⟩ | x
  · exact .inl ⟨d, s _ _ x, fs, s _ _ y⟩
  · exact .inr (s _ _ x)
theorem Err.exn {H : Hp} {a C : Addr} {f : Str} {v : V} (h : Err H a C f v) : Exn H a C := let ⟨d, x, y⟩ := h; .inl ⟨d, x, _, y⟩
def rIsV (K : PySem.W.Frag) : List V → Hp → VK → Prop := fun xs H Q => ∃ (a C : Addr) (c : V) (cv : Value) (b : Bool), xs = [.ref a, c] ∧ (∀ u, RelV c u → u = cv) ∧ Exn H a C ∧ XiC K C ∧ PySem.W.kitOne K (.ref C) cv = some b ∧ Q (.bl b) H
theorem call_isV {X : Cx} : CallR X (.builtin "isinstance") (rIsV X.K) := by
  intro pins s σ H xs us Q I r h
  obtain ⟨a, C, c, cv, b, rfl, hcv, hex, XC, e, q⟩ := h
  cases r with
  | cons rx rr =>
    cases rr with
    | cons rt rr =>
      cases rr
      cases rx
      cases hcv _ rt
      have at_ : ∃ (oe : Obj) (od : Option Obj), PySem.W.InstAt s.heap a oe C od := by
        rcases hex with ⟨d, ea, fs, ed⟩ | ea
        · obtain ⟨t1, ha⟩ := exo_at I.hok ea
          obtain ⟨mA, hns, _⟩ := exd_at I.hok ed
          obtain ⟨od, ho, _⟩ := lookIn_ns hns
          exact ⟨_, some od, ha, rfl, rfl, ho⟩
        · obtain ⟨⟨oe, vs, ho, hz, hd, _⟩, _, _⟩ := I.hok a _ ea
          refine ⟨oe, none, ho, hz.1, by unfold PySem.W.notCls; rw [hd] <;> rfl, ?_⟩
          rw [hz.2]
          exact trivial
      obtain ⟨oe, od, J⟩ := at_
      exact PySem.W.kia_one (PySem.W.kitx_exc (gt := none) XC.ic XC.xf.ga XC.xf.gg XC.xf.exC XC.c1 XC.c2 XC.c3 XC.c4) I.kIn J e (fun z => nomatch z) fun tk => ⟨.bl b, H, I.kept (t' := tk) fun _ _ z => z, rfl, q⟩
end ExV

/-! raise C(e), C an own class with an own __init__ of one field, over any base -/
namespace ExV
open PySem PySem.Spec PyProof.Rows L2
section
variable {X : Cx} {e : Expr} {te : TE} {f : Str} {p pos : Pos}
def tRz (C : Addr) (f : Str) (te : TE) : L2.St → Hp → XK → Prop := fun σ H Q => te σ H fun v H1 => ∀ d, H1 d = none → Q (.ref C) (some d) (upd H1 d (.xd [(f, v)]))
theorem rz_mk {C a : Addr} {f : Str} {v : V} {H1 : Hp} {Q : XK} (na : H1 a = none) (q : ∀ d, H1 d = none → Q (.ref C) (some d) (upd H1 d (.xd [(f, v)]))) :
    spIni C f [.ref a, v] (upd H1 a (exo a C none)) (fun r H2 => r = .non ∧ ∃ (d : Addr) (fs : List (Str × V)), H2 a = some (exo a C (some d)) ∧ H2 d = some (exd d fs) ∧ H1 d = none ∧ Q (.ref C) (some d) (upd (del H2 a) d (.xd fs))) fun _ _ _ => False := by
  refine ⟨a, v, rfl, upd_same, fun dx ndx nda => ⟨rfl, dx, [(f, v)], upd_same, ?_, ?_, ?_⟩⟩
  · rw [upd_ne nda, upd_same]
  · rw [upd_ne nda] at ndx
    exact ndx
  · have e : upd (del (upd (upd (upd H1 a (exo a C none)) dx (exd dx [(f, v)])) a (exo a C (some dx))) a) dx (.xd [(f, v)]) = upd H1 dx (.xd [(f, v)]) := by
      funext b
      by_cases h1 : b = dx
      · rw [h1, upd_same, upd_same]
      · rw [upd_ne h1, upd_ne h1]
        by_cases h2 : b = a
        · rw [h2, del_same, na]
        · rw [del_ne h2, upd_ne h2, upd_ne h1, upd_ne h2]
    rw [e]
    rw [upd_ne nda] at ndx
    exact q dx ndx
theorem pmk_V {x : Str} {C fI : Addr} {k : Nat} {fd : FuncData} {n1 n2 : Str} {B nId iId : String} {tail : List Value} (T : Tail B nId iId tail) (VC : XvC X.K C nId tail) (rz : Raises X (.ref C)) (iC : PySem.W.findIn X.K (.ref C) "__init__" = some (some (.ref fI))) (tI : PySem.W.typeIn X.K (.ref fI) = some (.type "function"))
    (F1 : FnOk X.prog X.w X.K X.mg X.base CX0 k fI fd [n1, n2] (spIni C f)) (hr : Room (k + 1) X.A) (hb : Binds X.K fd [n1, n2] []) (hg : Gl X x) (hm : X.mg x = some (.ref C)) (he : PE X e te)
    (hdb : (x == ("__debug__" : Str)) = false := by decide) (hs : starEach [e] X.env = (false, eval e X.env) :: starEach [] X.env := by rfl) :
    PMk X (.Call (.Name x p) [e] [] pos) (tRz C f te) := by
  intro pins s σ H Q I h
  obtain ⟨nm, q, N, bs, bm, sn, sub, ab, col, dd, k0, k1, k2, k3, k5, lC, beh⟩ := VC.cls
  refine wpAny_Call_Name_kw (ld_glob I hg hm ?_ hdb)
  refine PySem.W.callWith_K (h₀ := X.base) I.ok.mod.kin VC.kC ?_ hs (by rfl)
  rw [hs]
  refine Calls.spliced_cons (thn (he.run pins s σ H _ I h) fun u s1 ⟨v, H1, I1, r1, q1⟩ => Calls.spliced_nil ⟨I1.kIn, ?_⟩)
  show wpAny _ _ (call (.ref C) [u]) _ _ _
  obtain ⟨hp, g, dr, tk, os⟩ := s1
  have room : hp.objs.size ≤ hp.objs.size + 1 := Nat.le_succ _
  have na : H1 (hp.objs.size + 1) = none := I1.hok.fresh room
  have hq := rz_mk (C := C) (f := f) (Q := Q) na q1
  have kk : ∀ b o, hp.get? b = some o → ((hp.push (PySem.W.kdv_tup [u])).push (PySem.HandSPX.excO C hp.objs.size)).get? b = some o := fun b o z => Heap.get?_push_of_some _ (Heap.get?_push_of_some _ z)
  have I2 : Inv X pins σ (upd H1 (hp.objs.size + 1) (exo (hp.objs.size + 1) C none)) ⟨(hp.push (PySem.W.kdv_tup [u])).push (PySem.HandSPX.excO C hp.objs.size), g, dr, tk, os⟩ :=
    I1.laid (t' := tk) kk room (exo_ok (t1 := hp.objs.size) (by heap_get))
  have r2 : Vals [V.ref (hp.objs.size + 1), v] [Value.ref (hp.objs.size + 1), u] := .cons rfl (.cons r1 .nil)
  refine wpAny_call (PySem.HandSPX.call_own T.F (fun Y => beh.contains Y) (I1.kIn _ _ lC) (PySem.W.looks_findIn I1.kIn iC) (fun self => PySem.W.bind_fn I1.kIn self tI) (by show 1 ≤ sizeLine; decide) ?_)
  refine codeAny_mono (F1.run _ X.stack _ _ ⟨[Value.ref (hp.objs.size + 1), u], []⟩ [Value.ref (hp.objs.size + 1), u] _ _ _ (hr.make C [u] []) (I2.env0.make C [u] []) (hb _ [Value.ref (hp.objs.size + 1), u] I2.kIn rfl) r2 hq) fun r s' hq' => ?_
  match r, hq' with
  | .error er, hq' => exact (show False from hq').elim
  | .ok (.ret z), hq' =>
    obtain ⟨v2, H2, os2, bare2, un2, hok2, rv, ev, d, fs, ea, ed, hd1, q2⟩ := hq'
    subst ev
    obtain ⟨h2, g2, d2, t2, os'⟩ := s'
    exact ⟨rv, mk_end rz I1 room kk un2 hok2 os2 bare2 ea ed hd1 q2⟩
end
end ExV

/-! try with several clauses `except C as n`, all of one name -/
namespace TryAs
open PySem PySem.Spec PyProof.Rows L2
/-- a clause: its class, and what its suite does -/
structure Cl where
  c : Value
  ts : Addr → Value → Option Addr → TS
/-- behind a suite the name is gone -/
def bare (i : Nat) (D : Ends) : Ends := ⟨fun σ H => D.nx (σ.set i none) H, D.rt, fun σ H => D.bk (σ.set i none) H, fun σ H => D.ct (σ.set i none) H⟩
def wish (K : PySem.W.Frag) (i : Nat) (out : WX) (D : Ends) : List Cl → WX
  | [] => out
  | k :: ks => fun cls d σ H => ∃ yes, PySem.W.exmOne K cls k.c = some yes ∧ cond yes (∀ e, H e = none → k.ts e cls d (bare i D) (σ.set i (some (.ref e))) H) (wish K i out D ks cls d σ H)
inductive Cls (X : Cx) (n : Str) : List ExceptHandler → List Cl → Prop
  | stop : Cls X n [] []
  | more {x : Str} {k : Cl} {st : Stmt} {sts : List Stmt} {p1 p2 : Pos} {hds : List ExceptHandler} {ks : List Cl} : Names X x k.c →
      (∀ (e : Addr) (o : Obj) (cls : Value) (d : Option Addr) (pn : List (Addr × Obj)), Zc cls d o → (∃ vs, o.data = .fields vs) → PSs (X.suite e ((e, o) :: pn)) (st :: sts) (k.ts e cls d)) → Cls X n hds ks →
      Cls X n (.ExceptHandler (some (.Name x p1)) (some n) (st :: sts) p2 :: hds) (k :: ks)
section
variable {X : Cx} {n : Str} {i : Nat} {out : WX} {D : Ends} {pins : List (Addr × Obj)} {σ : L2.St} {H : Hp} {sI : Shared} {B : Heap} {e : Addr} {cls : Value} {d : Option Addr}
/-- an error that has come down in X, sI is the state without it -/
structure Down (X : Cx) (pins : List (Addr × Obj)) (σ : L2.St) (H : Hp) (sI : Shared) (B : Heap) (e : Addr) (cls : Value) (d : Option Addr) (h : Heap) : Prop where
  J : Inv X pins σ H sI
  nb : ∀ b o, sI.heap.get? b = some o → b ∉ frs X.stack → B.get? b = some o
  up : sI.heap.UpToSlots h
  fl : HandSPX.FlyingZ B (X.env :: X.outer) e (Zc cls d) h
  na : H e = none
theorem Down.here {h : Heap} {s : Shared} (Z : Down X pins σ H sI B e cls d h) (os : s.os = sI.os) (ag : AllBare s.gens) : Inv X pins σ H { s with heap := h } := Z.J.landed Z.nb Z.fl.1 Z.up os ag
theorem Down.outside {h : Heap} (Z : Down X pins σ H sI B e cls d h) (hf : X.env.frame = some X.env.locals) : e ≠ X.env.locals ∧ e ∉ X.fs := by
  have no : e ∉ frs (X.env :: X.outer) := fun m => by
    obtain ⟨o1, vs, g1, _, f1⟩ := Z.fl.there
    obtain ⟨_, o2, g2, f2⟩ := Z.fl.2.2.1.mem m
    exact f2 vs ((congrArg Obj.data (Option.some.inj (g2.symm.trans g1))).trans f1)
  refine ⟨fun q => no ?_, fun q => no ?_⟩
  · exact q ▸ List.mem_filterMap.mpr ⟨X.env, List.mem_cons_self, hf⟩
  · obtain ⟨v, h1, h2⟩ := List.mem_filterMap.mp q
    exact List.mem_filterMap.mpr ⟨v, List.mem_cons_of_mem _ h1, h2⟩
/-- no clause has taken it: it goes on -/
theorem Down.on {h : Heap} {s : Shared} (Z : Down X pins σ H sI B e cls d h) (hs : X.stack = X.env :: X.outer) (hf : X.env.frame = some X.env.locals) (tk : Takes X out) (os : s.os = sI.os) (ag : AllBare s.gens) (w : out cls d σ H) :
    wpAny (model X.prog X.w) X.A (handleBy (.ref e) X.env []) (SP X pins D) X.xe { s with heap := h } := by
  refine wpAny_handleBy_nil ?_
  have last : wpAny (model X.prog X.w) X.A (setFlight (.ref e) X.env.frame) (fun _ t => wpAny (model X.prog X.w) X.A (throw (.ref e) : Sem Flow) (SP X pins D) X.xe t) X.xe { s with heap := h } := by
    rw [hf]
    exact HandSPX.setFlight_upZ Z.fl fun g held u => wpAny_throw (tk _ _ ⟨e, B, sI, pins, σ, H, cls, d, rfl, Z.J, Z.nb, Z.up.trans u, .inr (.inr (hs ▸ held)), Z.na, os, ag, w⟩)
  obtain ⟨_, _, _, o, vs, T, _, _, g1, _, g2, g3, _⟩ := id Z.fl
  unfold PySem.passOn
  refine wpAny_bind (wpAny_field g1 g2 g3 ?_)
  have ne : ¬ ((Value.ref T == Value.none) = true) := by simp
  rw [if_neg ne]
  first
    | exact wpAny_bind (wpAny_pure (wpAny_bind last))
    | exact wpAny_bind last
theorem Cls.run (hs : X.stack = X.env :: X.outer) (hf : X.env.frame = some X.env.locals) (nd : X.N.Nodup) (hi : X.N[i]? = some n) (ln : X.env.kindOf n = some .local) (tk : Takes X out) {h : Heap} {s : Shared} (Z : Down X pins σ H sI B e cls d h) (os : s.os = sI.os) (ag : AllBare s.gens) :
    ∀ {hds : List ExceptHandler} {ks : List Cl}, Cls X n hds ks → wish X.K i out D ks cls d σ H → wpAny (model X.prog X.w) X.A (handleBy (.ref e) X.env hds) (SP X pins D) X.xe { s with heap := h }
  | _, _, .stop, w => Z.on hs hf tk os ag w
  | _, _, .more (x := x) (k := k) (p1 := p1) (p2 := p2) nm ru re, w => by
    obtain ⟨yes, ex, w⟩ := w
    have I3 := Z.here os ag
    obtain ⟨n1, n2⟩ := Z.outside hf
    obtain ⟨o3, v3, g3, z3, f3⟩ := Z.fl.there
    have S3 := I3.suite g3 f3 Z.na n1 n2
    have ty : PySem.W.Looks (model X.prog X.w) h (typeOf (.ref e)) cls := fun _ _ _ _ kk q => wpAny_typeOf_ref (kk _ _ g3) (z3.1.symm ▸ q)
    have mt := PySem.W.exm_one (M := model X.prog X.w) I3.kIn ty ex
    have look : ∀ {Q E : Value → Shared → Prop}, Q k.c { s with heap := h } → wpAny (model X.prog X.w) (X.A.mark (some (.ref e))) (eval (.Name x p1) X.env) Q E { s with heap := h } := fun {Q E} q => by
      obtain ⟨gl, db, m1 | ⟨m1, m2, m3⟩⟩ := nm
      · exact ld_glob (X := X.suite e ((e, o3) :: (X.pn ++ pins))) S3 gl m1 q db
      · exact ld_blt (X := X.suite e ((e, o3) :: (X.pn ++ pins))) S3 gl m1 m2 q m3 db
    refine wpAny_handleBy_cons (codeAny_handlers_test (look (mt.here ?_))) fun q => nomatch q
    cases yes with
    | false => exact Cls.run hs hf nd hi ln tk Z os ag re w
    | true =>
      refine codeAny_handlers_suite_as (HandSPX.lands_againZ Z.fl fun g fl u => ?_)
      have Z4 : Down X pins σ H sI B e cls d g := ⟨Z.J, Z.nb, Z.up.trans u, fl, Z.na⟩
      have I4 := Z4.here os ag
      obtain ⟨o4, v4, g4, z4, f4⟩ := fl.there
      refine store_ok (X := X.suite e ((e, o4) :: (X.pn ++ pins))) (v := .ref e) (I4.suite g4 f4 Z.na n1 n2) nd hi (.inl ln) rfl (fun s5 S5 => ?_) (.inr ln)
      have run5 := (ru e o4 cls d (X.pn ++ pins) z4 ⟨v4, f4⟩).run [] s5 _ H (bare i D) S5 (w e Z.na)
      refine wpAny_mono run5 (fun fw s6 r6 => ?_) fun _ _ z => z.elim
      have gone : ∀ {σ6 : L2.St} {H6 : Hp} {q : Addr × Obj} {Q : Shared → Prop}, Inv (X.suite e (q :: (X.pn ++ pins))) [] σ6 H6 s6 → (∀ s7, Inv X pins (σ6.set i none) H6 s7 → Q s7) → wpAny (model X.prog X.w) X.A (do bindName X.env n .none; unbindBehindTheSuite X.env n p2) (fun _ s7 => Q s7) X.xe s6 :=
        fun S6 k => gone_ok (S6.unsuite Z.J.ok) nd hi ln k
      match fw, r6 with
      | .next, ⟨σ6, H6, S6, k6⟩ => exact gone S6 fun s7 I7 => ⟨_, _, I7, k6⟩
      | .brk, ⟨σ6, H6, S6, k6⟩ => exact gone S6 fun s7 I7 => ⟨_, _, I7, k6⟩
      | .cont, ⟨σ6, H6, S6, k6⟩ => exact gone S6 fun s7 I7 => ⟨_, _, I7, k6⟩
      | .ret v, ⟨v6, σ6, H6, S6, rv, k6⟩ => exact gone S6 fun s7 I7 => ⟨_, _, _, I7, rv, k6⟩
variable {body : List Stmt} {hd : ExceptHandler} {hds : List ExceptHandler} {ks : List Cl} {pos : Pos} {tb : WX → TS}
/-- the rule -/
theorem ps_try_asN (hs : X.stack = X.env :: X.outer) (hf : X.env.frame = some X.env.locals) (nd : X.N.Nodup) (hi : X.N[i]? = some n) (ln : X.env.kindOf n = some .local) (tk : Takes X out)
    (hb : ∀ (W : WX) (pn : List (Addr × Obj)) (xe : Value → Shared → Prop), Takes (X.tr pn xe) W → PassesOwn (model X.prog X.w) X.A X.env xe → PSs (X.tr pn xe) body (tb W)) (hh : Cls X n (hd :: hds) ks) :
    PS X (.Try body (hd :: hds) [] [] pos) fun D σ H => tb (wish X.K i out D ks) D σ H := by
  refine ⟨fun pins s σ H D I h => wpAny_Try_except ?_⟩
  have fr : X.A.frames = some (X.env :: X.outer) := I.ok.frames.trans (congrArg some hs)
  refine wpAny_mono ((hb _ (X.pn ++ pins) _ ?_ PassesOwn.looking).run [] s σ H D (I.toTry _) h) (fun fw t r => ?_) fun _ _ z => z
  · rintro _ t ⟨e, B, sI, _, σ1, H1, cls, d, rfl, J, nb, up, sky, na, os, ag, w⟩
    refine Sky.land Zc.steady fr hf (hs ▸ sky) fun g fl u => ?_
    exact Cls.run hs hf nd hi ln tk ⟨J.ofTry I.ok, nb, up.trans u, fl, na⟩ os ag hh w
  · match fw, r with
    | .next, ⟨_, _, J, q⟩ => exact wpAny_execs_nil ⟨_, _, J.ofTry I.ok, q⟩
    | .brk, ⟨_, _, J, q⟩ => exact ⟨_, _, J.ofTry I.ok, q⟩
    | .cont, ⟨_, _, J, q⟩ => exact ⟨_, _, J.ofTry I.ok, q⟩
    | .ret v, ⟨_, _, _, J, rv, q⟩ => exact ⟨_, _, _, J.ofTry I.ok, rv, q⟩
end
end TryAs

namespace IsX
open PySem L2
/-! ### isinstance of a caught error that bears a field -/
structure XiC (K : PySem.W.Frag) (D : Addr) : Prop where
  xf : XfC K D
  ic : (PySem.W.clsIn K D).isSome = true
  c1 : PySem.W.findIn K (.ref D) "__class__" = some (some (.builtin "object.__class__"))
  c2 : PySem.W.specialIn K (.builtin "object.__class__") "__get__" = some (some (.builtin "getset_descriptor.__get__"))
  c3 : PySem.W.takesIn K (.builtin "object.__class__") = some true
  c4 : PySem.W.mroIn K D (.type "object") = some true
def rIsX (K : PySem.W.Frag) (D a : Addr) (cls : Value) (d : Option Addr) : List V → Hp → VK → Prop := fun xs H Q => ∃ (c : V) (cv : Value) (b : Bool) (dd : Addr) (fs : List (Str × V)), xs = [.ref a, c] ∧ (∀ u, RelV c u → u = cv) ∧ cls = .ref D ∧ d = some dd ∧ H dd = some (.xd fs) ∧ PySem.W.kitOne K (.ref D) cv = some b ∧ Q (.bl b) H
theorem call_isX {X : Cx} {a D : Addr} {oe : Obj} {cls : Value} {d : Option Addr} {pn : List (Addr × Obj)} (C : XiC X.K D) (hz : Zc cls d oe) (hf : ∃ vs, oe.data = .fields vs) : CallR (X.suite a ((a, oe) :: pn)) (.builtin "isinstance") (rIsX X.K D a cls d) := by
  intro pins s σ H xs us Q I r h
  obtain ⟨c, cv, b, dd, fs, rfl, hcv, rfl, rfl, hdd, e, q⟩ := h
  cases r with
  | cons rx rr =>
    cases rr with
    | cons rt rr =>
      cases rr
      cases rx
      cases hcv _ rt
      obtain ⟨hget, _⟩ := I.pin (a, oe) (List.mem_append.mpr (.inl List.mem_cons_self))
      obtain ⟨vs, hv⟩ := hf
      have hx : ObjOk X.prog X.w H s.heap dd (.xd fs) := I.hok dd _ hdd
      obtain ⟨mA, hns, _⟩ := hx
      obtain ⟨od, ho, _⟩ := lookIn_ns hns
      have J : PySem.W.InstAt s.heap a oe D (some od) := ⟨hget, hz.1, by unfold PySem.W.notCls; rw [hv] <;> rfl, by rw [hz.2]; exact ho⟩
      exact PySem.W.kia_one (PySem.W.kitx_exc (gt := none) C.ic C.xf.ga C.xf.gg C.xf.exC C.c1 C.c2 C.c3 C.c4) I.kIn J e (fun z => nomatch z) fun tk => ⟨.bl b, H, I.kept (t' := tk) fun _ _ z => z, rfl, q⟩
/-- the slots are as many as the names -/
theorem takes_len {X : Cx} {W : WX} (tk : Takes X W) : Takes X (fun cls d σ H => σ.length = X.N.length → W cls d σ H) := fun u s2 ⟨a, B, sI, pins, σ, H, cls, d, e, I, nb, up, sky, na, os, ag, h⟩ =>
  tk u s2 ⟨a, B, sI, pins, σ, H, cls, d, e, I, nb, up, sky, na, os, ag, h I.len⟩
theorem len3 {σ : St} (h : σ.length = 3) : ∃ a b c, σ = [a, b, c] := by
  match σ, h with
  | [a, b, c], _ => exact ⟨a, b, c, rfl⟩
end IsX

/-! readings, where they refuse -/
namespace My
open PySem L2 Cm LM EM
abbrev sEL : Stmt := inClass (top 3) 0
abbrev sEC : Stmt := inClass (top 11) 0
abbrev sET : Stmt := inClass (top 12) 0
abbrev sEM : Stmt := inClass (top 21) 0
/-- an error with one field, over ArithmeticError -/
structure TxMx (K : PySem.W.Frag) (mg : Str → Option Value) where
  C : Addr
  f : Addr
  fd : FuncData
  g : mg "TooManyReplies" = some (.ref C)
  V : ExV.XvC K C "ArithmeticError.__new__" [.type "ArithmeticError", .type "Exception", .type "BaseException", .type "object"]
  s : PySem.W.subIn K (.ref C) (.type "BaseException") = some true
  ty : PySem.W.typeIn K (.ref C) = some (.type "type")
  i : PySem.W.findIn K (.ref C) "__init__" = some (some (.ref f))
  t : PySem.W.typeIn K (.ref f) = some (.type "function")
  n : PySem.W.findIn K (.ref C) "limit" = some none
  F : Fun K "__init__" "TooManyReplies.__init__" sEM f fd
  b : Binds K fd ["self", "limit"] []
structure TxRe (K : PySem.W.Frag) (mg : Str → Option Value) where
  R : TxRd K mg
  eL : TxEr K mg "NotALoop" "value" sEL "NotALoop.__init__"
  eC : TxEr K mg "InvalidCount" "value" sEC "InvalidCount.__init__"
  eT : TxEr K mg "InvalidTold" "value" sET "InvalidTold.__init__"
  xM : TxMx K mg
/-- it is told to be no instance of the class at C -/
def NoIn (K : PySem.W.Frag) (C : Addr) (H : Hp) (v : V) : Prop := ∃ t, TyX K H v t ∧ PySem.W.kitOne K t (.ref C) = some false
theorem NoIn.same {K : PySem.W.Frag} {C : Addr} {H H' : Hp} {v : V} (s : Same H H') (h : NoIn K C H v) : NoIn K C H' v := let ⟨t, a, b⟩ := h; ⟨t, TyX_same s a, b⟩
section
variable {P : Program} {w : World} {K : PySem.W.Frag} {mg : Str → Option Value} {base : Heap}
theorem scEL : FnScope ["self", "value"] ["self", "value"] (defScope sEL) := ⟨rfl, rfl, rfl, by decide +kernel, rfl, by decide +kernel, by decide +kernel⟩
theorem scEC : FnScope ["self", "value"] ["self", "value"] (defScope sEC) := ⟨rfl, rfl, rfl, by decide +kernel, rfl, by decide +kernel, by decide +kernel⟩
theorem scET : FnScope ["self", "value"] ["self", "value"] (defScope sET) := ⟨rfl, rfl, rfl, by decide +kernel, rfl, by decide +kernel, by decide +kernel⟩
theorem scEM : FnScope ["self", "limit"] ["self", "limit"] (defScope sEM) := ⟨rfl, rfl, rfl, by decide +kernel, rfl, by decide +kernel, by decide +kernel⟩
theorem ok_eL (T : TxEr K mg "NotALoop" "value" sEL "NotALoop.__init__") : FnOk P w K mg base CX0 1 T.f T.fd ["self", "value"] (spER "value" T.C) := by
  refine T.F.ok scEL (fun vs H Q E h => ?_) (fun cdv A outer s H vs Q E hr h => ?_)
  · obtain ⟨a, v, rfl, _⟩ := h
    rfl
  · obtain ⟨a, v, rfl, ha, k⟩ := h
    exact ⟨_, pss_one (ps_ost (pv 0) (pv 1)), _, rfl, _, rfl, a, T.C, rfl, T.o, T.n, .inl ⟨ha, fun dx n ne => k dx n ne⟩⟩
theorem ok_eC (T : TxEr K mg "InvalidCount" "value" sEC "InvalidCount.__init__") : FnOk P w K mg base CX0 1 T.f T.fd ["self", "value"] (spER "value" T.C) := by
  refine T.F.ok scEC (fun vs H Q E h => ?_) (fun cdv A outer s H vs Q E hr h => ?_)
  · obtain ⟨a, v, rfl, _⟩ := h
    rfl
  · obtain ⟨a, v, rfl, ha, k⟩ := h
    exact ⟨_, pss_one (ps_ost (pv 0) (pv 1)), _, rfl, _, rfl, a, T.C, rfl, T.o, T.n, .inl ⟨ha, fun dx n ne => k dx n ne⟩⟩
theorem ok_eT (T : TxEr K mg "InvalidTold" "value" sET "InvalidTold.__init__") : FnOk P w K mg base CX0 1 T.f T.fd ["self", "value"] (spER "value" T.C) := by
  refine T.F.ok scET (fun vs H Q E h => ?_) (fun cdv A outer s H vs Q E hr h => ?_)
  · obtain ⟨a, v, rfl, _⟩ := h
    rfl
  · obtain ⟨a, v, rfl, ha, k⟩ := h
    exact ⟨_, pss_one (ps_ost (pv 0) (pv 1)), _, rfl, _, rfl, a, T.C, rfl, T.o, T.n, .inl ⟨ha, fun dx n ne => k dx n ne⟩⟩
theorem ok_eM (T : TxMx K mg) : FnOk P w K mg base CX0 1 T.f T.fd ["self", "limit"] (ExV.spIni T.C "limit") := by
  refine T.F.ok scEM (fun vs H Q E h => ?_) (fun cdv A outer s H vs Q E hr h => ?_)
  · obtain ⟨a, v, rfl, _⟩ := h
    rfl
  · obtain ⟨a, v, rfl, ha, k⟩ := h
    exact ⟨_, pss_one (ExV.ps_ostV (pv 0) (pv 1)), _, rfl, _, rfl, a, T.C, _, _, _, _, rfl, ExV.tail_A, T.V, T.n, ha, fun dx n ne => k dx n ne⟩
/-! ### check_loop, where it refuses -/
def spCKLe (T : TxRe K mg) : Sp := fun vs H _ E => ∃ v : V, vs = [v] ∧ NoIn K T.R.N.T.C H v ∧ ∀ d, H d = none → E (.ref T.eL.C) (some d) (upd H d (.xd [("value", v)]))
theorem ok_ckle (T : TxRe K mg) : FnOk P w K mg base (L2.CX P w) 3 T.R.ckl.f T.R.ckl.fd ["loop"] (spCKLe T) := by
  have GE : FnOk P w K mg base CX0 1 T.eL.f T.eL.fd ["self", "value"] (spER "value" T.eL.C) := ok_eL T.eL
  refine T.R.ckl.F.okX scCKL (fun vs H Q E h => ?_) (fun cdv A outer s H vs Q E hr h => ?_)
  · obtain ⟨v, rfl, _⟩ := h
    rfl
  · obtain ⟨v, rfl, ⟨t, ty, kt⟩, k⟩ := h
    exact ⟨_, (pss_one (ps_if (pt_not (pt_val (pe_callB call_isi (by rfl) T.R.N.k.isi (by decide +kernel) (pa_cons (pv 0) (pa_cons (pe_glob (v := .ref T.R.N.T.C) rfl T.R.N.T.gC rfl) pa_nil))))) (pss_one (ps_raise rfl (takes_of rfl rfl rfl rfl) (pmk_oex T.eL.o T.eL.i T.eL.t GE hr T.eL.b .nil pass0 rfl T.eL.g (pa_cons (pv 0) pa_nil)))) pss_nil)), _, rfl, _, _, _, _, false, rfl, .own T.R.N.T.C, ty, kt, false, rfl, iteT (mk_er (x := v) ⟨v, rfl, rfl, rfl⟩ (fun {R R'} ⟨v, e1, q⟩ f => ⟨v, e1, f _ _ q⟩) k)⟩
/-! ### Reading(.., ..), where it refuses -/
def spRdIe (T : TxRe K mg) : Sp := fun vs H _ E => ∃ (x : Addr) (v z : V), vs = [.ref x, v, z] ∧
  ((NoIn K T.R.N.T.C H v ∧ ∀ d, H d = none → E (.ref T.eL.C) (some d) (upd H d (.xd [("value", v)]))) ∨
   ∃ (lo : Addr) (t : Str), v = .ref lo ∧ LoopAt T.R.N.T.C H lo t ∧ TypedI K H z ∧ btw 1 1000 z = false ∧ ∀ d, H d = none → E (.ref T.R.N.k.eS.C) (some d) (upd H d (.xd [("value", z)])))
theorem fn_or {CX : CXT} {k : Nat} {f : Addr} {fd : FuncData} {ps : List Str} {s1 s2 : Sp} (F1 : FnOk P w K mg base CX k f fd ps s1) (F2 : FnOk P w K mg base CX k f fd ps s2) : FnOk P w K mg base CX k f fd ps (fun vs H Q E => s1 vs H Q E ∨ s2 vs H Q E) :=
  ⟨fun vs H Q E h => h.elim (F1.len vs H Q E) (F2.len vs H Q E), fun A outer s H args us vs Q E hr e0 hb r h => h.elim (F1.run A outer s H args us vs Q E hr e0 hb r) (F2.run A outer s H args us vs Q E hr e0 hb r)⟩
theorem fn_up {k : Nat} {f : Addr} {fd : FuncData} {ps : List Str} {sp : Sp} (F : FnOk P w K mg base CX0 k f fd ps sp) (h0 : ∀ vs H Q (E E' : XK), sp vs H Q E → sp vs H Q E') : FnOk P w K mg base (L2.CX P w) k f fd ps sp :=
  ⟨F.len, fun A outer s H args us vs Q E hr e0 hb r h => codeAny_mono (F.run A outer s H args us vs Q (fun _ _ _ => False) hr e0 hb r (h0 _ _ _ _ _ h)) fun r s' q => by
    cases r with
    | error e => exact (show False from q).elim
    | ok fl => cases fl <;> exact q⟩
theorem ok_rdie (T : TxRe K mg) : FnOk P w K mg base (L2.CX P w) 4 T.R.fR T.R.fdR ["self", "loop", "size"] (spRdIe T) := by
  have GK : FnOk P w K mg base (L2.CX P w) 3 T.R.ckl.f T.R.ckl.fd ["loop"] (fun vs H Q E => spCKLe T vs H Q E ∨ spCKL T.R vs H Q E) := fn_or (ok_ckle T) ((fn_up (ok_ckl T.R) fun vs H Q E E' ⟨a, b, c⟩ => ⟨a, b, c⟩).mono (by decide))
  have GS : FnOk P w K mg base (L2.CX P w) 3 T.R.N.k.cks.f T.R.N.k.cks.fd ["size"] (spCKS K T.R.N.k.eS.C) := ok_cks T.R.N.k
  refine T.R.FR.okX scRdI (fun vs H Q E h => ?_) (fun cdv A outer s H vs Q E hr h => ?_)
  · obtain ⟨x, v, z, rfl, _⟩ := h
    rfl
  · obtain ⟨x, v, z, rfl, h⟩ := h
    refine ⟨_, (pss_cons (ps_expr (pe_call (E := E) GK hr rfl T.R.ckl.g T.R.ckl.k T.R.ckl.b .nil (passes_call (takes_of rfl rfl rfl rfl) fun _ _ _ _ z => z) (pa_cons (pv 1) pa_nil))) (pss_cons (ps_expr (pe_call (E := E) GS hr rfl T.R.N.k.cks.g T.R.N.k.cks.k T.R.N.k.cks.b .nil (passes_call (takes_of rfl rfl rfl rfl) fun _ _ _ _ z => z) (pa_cons (pv 2) pa_nil))) (pss_cons ps_never (pss_cons ps_never (pss_cons ps_never (pss_one ps_never)))))), ?_⟩
    rcases h with ⟨hn, k⟩ | ⟨lo, t, rfl, hL, ty, hb, k⟩
    · exact ⟨_, rfl, .inl ⟨v, rfl, hn, k⟩⟩
    · exact ⟨_, rfl, .inr ⟨lo, t, rfl, hL, _, rfl, z, rfl, ty, fun q => absurd (hb.symm.trans q) (by decide), fun _ => k⟩⟩
/-! ### check_reply, take, feed, where they refuse -/
def BadR (T : TxRe K mg) (sz : Nat) (t : Str) (rr : List (Nat × Bool)) (c b : V) (H : Hp) (E : XK) : Prop :=
  (btw 0 (sz : Int) c = false ∧ ∀ d, H d = none → E (.ref T.eC.C) (some d) (upd H d (.xd [("value", c)]))) ∨
  (btw 0 (sz : Int) c = true ∧ ((isB b = false ∧ ∀ d, H d = none → E (.ref T.eT.C) (some d) (upd H d (.xd [("value", b)]))) ∨
    (isB b = true ∧ (((stR sz (ordsR t) (ordsE t) rr).st = true ∧ E (.ref T.R.xS.C) none H) ∨
      ((stR sz (ordsR t) (ordsE t) rr).st = false ∧ rr.length = 100 ∧ ∀ d, H d = none → E (.ref T.xM.C) (some d) (upd H d (.xd [("limit", .int 100)])))))))
def spRdCe (T : TxRe K mg) : Sp := fun vs H _ E => ∃ (lv dx lo m : Addr) (sz : Nat) (c b : V) (t : Str) (rr : List (Nat × Bool)), vs = [.ref lv, c, b] ∧ RdAt T.R H lv dx lo m sz t rr ∧ TypedI K H c ∧ TypedI K H b ∧ rr.length ≤ 100 ∧ BadR T sz t rr c b H E
theorem ok_rdcre (T : TxRe K mg) : FnOk P w K mg base (L2.CX P w) 3 T.R.cr.f T.R.cr.fd ["self", "count", "told"] (spRdCe T) := by
  have GI : FnOk P w K mg base CX0 1 T.R.N.k.iib.f T.R.N.k.iib.fd ["value", "low", "high"] (spIIB K) := ok_iib T.R.N.k
  have GO : FnOk P w K mg base CX0 1 T.R.pO.f T.R.pO.fd ["self"] (spRd T.R fun _ _ _ ov => .bl ov) := ok_rdo T.R
  have GL : FnR P w K mg base CX0 1 T.R.rl.f (fun vs H Q E => spRdL T.R (vs ++ []) H Q E) := (ok_rdl T.R).raw T.R.rl.b .nil
  have G1 : FnOk P w K mg base CX0 1 T.eC.f T.eC.fd ["self", "value"] (spER "value" T.eC.C) := ok_eC T.eC
  have G2 : FnOk P w K mg base CX0 1 T.eT.f T.eT.fd ["self", "value"] (spER "value" T.eT.C) := ok_eT T.eT
  have G3 : FnOk P w K mg base CX0 1 T.xM.f T.xM.fd ["self", "limit"] (ExV.spIni T.xM.C "limit") := ok_eM T.xM
  obtain ⟨tm, mr⟩ := T.R.N.k.mr
  refine T.R.cr.F.okX scRdCr (fun vs H Q E h => ?_) (fun cdv A outer s H vs Q E hr h => ?_)
  · obtain ⟨lv, _, _, _, _, _, _, _, _, rfl, _⟩ := h
    rfl
  · obtain ⟨lv, dx, lo, m, sz, c, bb, t, rr, rfl, hR, tc, tb, hl, bad⟩ := h
    have hr1 : Room 1 _ := hr.mono (by decide)
    refine ⟨_, (pss_cons (ps_if (pt_not (pt_val (pe_call GI hr1 rfl T.R.N.k.iib.g T.R.N.k.iib.k T.R.N.k.iib.b .nil pass0 (pa_cons (pv 1) (pa_cons pe_int (pa_cons (pe_fld (pv 0) rfl) pa_nil)))))) (pss_one (ps_raise rfl (takes_of rfl rfl rfl rfl) (pmk_oex T.eC.o T.eC.i T.eC.t G1 hr T.eC.b .nil pass0 rfl T.eC.g (pa_cons (pv 1) pa_nil)))) pss_nil) (pss_cons (ps_if (pt_not (pt_val (pe_callB call_isi (by rfl) T.R.N.k.isi (by decide +kernel) (pa_cons (pv 2) (pa_cons (pe_bltn (v := .ty "bool") (by rfl) T.R.N.k.bool (by decide +kernel) rfl) pa_nil))))) (pss_one (ps_raise rfl (takes_of rfl rfl rfl rfl) (pmk_oex T.eT.o T.eT.i T.eT.t G2 hr T.eT.b .nil pass0 rfl T.eT.g (pa_cons (pv 2) pa_nil)))) pss_nil) (pss_cons (ps_if (pt_val (pe_prop (pv 0) T.R.clR T.R.pO.o GO hr T.R.pO.b .nil pass0 (by rfl))) (pss_one (ps_raise rfl (takes_of rfl rfl rfl rfl) (MkO.pmk_own0 PySem.F.excBase_LookupError T.R.xS.q T.R.xS.g T.R.xS.k (raises_own T.R.xS.s T.R.xS.t) rfl))) pss_nil) (pss_one (ps_if (pt_cmpR op_ge (pe_callB (call_lenO T.R.rl.i T.R.rl.fn GL hr) (by rfl) T.R.N.k.len PySem.boot_len (pa_cons (pv 0) pa_nil)) (pe_glob (v := .int 100) rfl mr ⟨_, rfl⟩) (nomark _)) (pss_one (ps_raise rfl (takes_of rfl rfl rfl rfl) (ExV.pmk_V ExV.tail_A T.xM.V (raises_own T.xM.s T.xM.ty) T.xM.i T.xM.t G3 hr T.xM.b rfl T.xM.g (pe_glob (v := .int 100) rfl mr ⟨_, rfl⟩)))) pss_nil))))), ?_⟩
    obtain ⟨dm, g, h, kk, b0, hm, hMs, _⟩ := hR.mo.head
    obtain ⟨gs, hs, hg, hRp, _⟩ := id hMs
    refine ⟨_, rfl, _, rfl, lv, T.R.CR, dx, _, _, rfl, hR.at_, T.R.clR, T.R.nRs, rf_s .., _, 0, sz, rfl, tc, _, rfl, ?_⟩
    rcases bad with ⟨h1, k⟩ | ⟨h1, bad⟩
    · rw [h1]
      exact iteT (mk_er (x := c) ⟨c, rfl, rfl, rfl⟩ (fun {R R'} ⟨v, e1, q⟩ f => ⟨v, e1, f _ _ q⟩) k)
    rw [h1]
    refine iteF ?_
    obtain ⟨ty, ty1, ty2, ty3⟩ := tb
    refine ⟨_, rfl, _, _, _, _, isB bb, rfl, .ty "bool", ty1, ty3, _, rfl, ?_⟩
    rcases bad with ⟨h2, k⟩ | ⟨h2, bad⟩
    · rw [h2]
      exact iteT (mk_er (x := bb) ⟨bb, rfl, rfl, rfl⟩ (fun {R R'} ⟨v, e1, q⟩ f => ⟨v, e1, f _ _ q⟩) k)
    rw [h2]
    refine iteF ?_
    refine ⟨_, rfl, lv, dx, _, rfl, hR.at_, lv, dx, lo, m, dm, g, h, kk, sz, false, b0, _, rfl, hR.at_, hm, _, rfl, ?_⟩
    rcases bad with ⟨h3, k⟩ | ⟨h3, h4, k⟩
    · rw [h3]
      exact iteT k
    rw [h3]
    refine iteF ?_
    have lg : gs.length = rr.length := by rw [hRp.len, List.length_reverse]
    refine ⟨_, rfl, lv, dx, _, rfl, hR.at_, lv, dx, lo, m, dm, g, h, kk, sz, false, b0, _, gs, rfl, hR.at_, hm, hg, gs.length, rfl, by omega, _, _, rfl, rfl, _, rfl, ?_⟩
    rw [show decide ((100 : Int) ≤ ((gs.length : Nat) : Int)) = true from decide_eq_true (by omega)]
    exact iteT k
theorem ok_rdte (T : TxRe K mg) : FnOk P w K mg base (L2.CX P w) 5 T.R.ta.f T.R.ta.fd ["self", "count", "told"] (spRdCe T) := by
  have GC : FnOk P w K mg base (L2.CX P w) 3 T.R.cr.f T.R.cr.fd ["self", "count", "told"] (spRdCe T) := ok_rdcre T
  refine T.R.ta.F.okX scRdT (fun vs H Q E h => ?_) (fun cdv A outer s H vs Q E hr h => ?_)
  · obtain ⟨lv, _, _, _, _, _, _, _, _, rfl, _⟩ := h
    rfl
  · obtain ⟨lv, dx, lo, m, sz, c, bb, t, rr, rfl, hR, rest⟩ := h
    have hr3 : Room 3 _ := hr.mono (by decide)
    refine ⟨_, (pss_cons (ps_expr (pe_meth (E := E) (pv 0) T.R.clR T.R.cr.m GC hr3 T.R.cr.b .nil (passes_call (takes_of rfl rfl rfl rfl) fun _ _ _ _ z => z) (pa_cons (pv 1) (pa_cons (pv 2) pa_nil)))) (pss_cons ps_never (pss_cons ps_never (pss_cons ps_never (pss_cons ps_never (pss_cons ps_never (pss_cons ps_never (pss_one ps_never)))))))), ?_⟩
    exact ⟨_, rfl, lv, dx, _, rfl, hR.at_, rf_n5 .., _, rfl, _, rfl, lv, dx, lo, m, sz, c, bb, t, rr, rfl, hR, rest⟩
theorem ok_rdfe (T : TxRe K mg) : FnOk P w K mg base (L2.CX P w) 6 T.R.fe.f T.R.fe.fd ["self", "count", "told"] (spRdCe T) := by
  have GC : FnOk P w K mg base CX0 1 T.R.cf.f T.R.cf.fd ["self"] (spRdCf T.R) := ok_rdcf T.R
  have GT : FnOk P w K mg base (L2.CX P w) 5 T.R.ta.f T.R.ta.fd ["self", "count", "told"] (spRdCe T) := ok_rdte T
  refine T.R.fe.F.okX scRdF (fun vs H Q E h => ?_) (fun cdv A outer s H vs Q E hr h => ?_)
  · obtain ⟨lv, _, _, _, _, _, _, _, _, rfl, _⟩ := h
    rfl
  · obtain ⟨lv, dx, lo, m, sz, c, bb, t, rr, rfl, hR, rest⟩ := h
    have hr1 : Room 1 _ := hr.mono (by decide)
    refine ⟨_, (pss_cons (ps_expr (pe_meth0 (pv 0) T.R.clR T.R.cf.m GC hr1 T.R.cf.b .nil pass0)) (pss_one (ps_ret (pe_meth (E := E) (pv 0) T.R.clR T.R.ta.m GT hr T.R.ta.b .nil (passes_call (takes_of rfl rfl rfl rfl) fun _ _ _ _ z => z) (pa_cons (pv 1) (pa_cons (pv 2) pa_nil)))))), ?_⟩
    refine ⟨_, rfl, lv, dx, _, rfl, hR.at_, rf_n4 .., lv, dx, lo, m, sz, rfl, hR.at_, ?_⟩
    exact ⟨_, rfl, lv, dx, _, rfl, hR.at_, rf_n3 .., _, rfl, _, rfl, lv, dx, lo, m, sz, c, bb, t, rr, rfl, hR, rest⟩
/-- feed, both ways -/
def spFe (T : TxRe K mg) : Sp := fun vs H Q E => spRdT T.R vs H Q E ∨ spRdCe T vs H Q E
theorem ok_fe (T : TxRe K mg) : FnOk P w K mg base (L2.CX P w) 6 T.R.fe.f T.R.fe.fd ["self", "count", "told"] (spFe T) := fn_or (ok_rdf T.R) (ok_rdfe T)
def spRi (T : TxRe K mg) : Sp := fun vs H Q E => spRdI T.R vs H Q E ∨ spRdIe T vs H Q E
theorem ok_ri (T : TxRe K mg) : FnOk P w K mg base (L2.CX P w) 4 T.R.fR T.R.fdR ["self", "loop", "size"] (spRi T) := fn_or (ok_rdi T.R) (ok_rdie T)
end
end My

/-! rows said to a console: the text read -/
namespace CoR
open PySem PySem.Builtin PySem.Builtin.Str PySem.StrLaws TL
def F : List Nat := [102, 101, 101, 100, 32]
theorem tlF : tl ("feed " : Str) = F := by decide +kernel
theorem tlB : tl ("!" : Str) = [33] := by decide +kernel
theorem lenF : ("feed " : Str).length = 5 := by decide +kernel
theorem lenB : ("!" : Str).length = 1 := by decide +kernel
theorem sub0 (x : Str) : subAt x "feed " 0 = decide ((tl x).take 5 = F) := by
  rw [subAt_eq, lenF, List.drop_zero]
  show ((tl x).take 5 == tl ("feed " : Str)) = _
  rw [tlF]
  by_cases h : (tl x).take 5 = F
  · rw [h]; decide
  · rw [decide_eq_false h, beq_eq_false_iff_ne]; exact h
theorem take_len {x : Str} (h : (tl x).take 5 = F) : 5 ≤ x.length := by
  have := congrArg List.length h
  rw [List.length_take] at this
  rw [len_tl]
  have e : F.length = 5 := rfl
  omega
theorem sw_feed (x : Str) : Txt.startswith x "feed " = decide ((tl x).take 5 = F) := by
  unfold Txt.startswith
  rw [sub0, lenF]
  by_cases h : (tl x).take 5 = F
  · have := take_len h
    rw [decide_eq_true h, Bool.and_true]
    exact decide_eq_true (by omega)
  · rw [decide_eq_false h, Bool.and_false]
theorem rp_feed {x : Str} (h : (tl x).take 5 = F) : tl (Txt.removeprefix x "feed ") = (tl x).drop 5 := by
  have l := take_len h
  unfold Txt.removeprefix
  rw [sub0, decide_eq_true h, if_pos rfl, lenF]
  show tl (if x.length - 5 == x.length then x else strSub x 5 x.length) = _
  rw [if_neg (by simp; omega), tl_strSub, List.take_of_length_le (by rw [List.length_drop, len_tl]; exact Nat.le_refl _)]
theorem subB {x : Str} (h : 1 ≤ x.length) : subAt x "!" (x.length - 1) = decide ((tl x).getLast? = some 33) := by
  rw [subAt_eq, lenB]
  show (((tl x).drop (x.length - 1)).take 1 == tl ("!" : Str)) = _
  rw [tlB]
  have hn : tl x ≠ [] := fun z => by rw [len_tl, z] at h; exact absurd h (by decide)
  have e : (tl x).drop (x.length - 1) = [(tl x).getLast hn] := by
    rw [len_tl]
    generalize tl x = l at hn
    rcases List.eq_nil_or_concat l with z | ⟨ys, y, rfl⟩
    · exact absurd z hn
    · rw [List.concat_eq_append] at *
      simp
  rw [e, List.getLast?_eq_some_getLast hn]
  by_cases c : (tl x).getLast hn = 33
  · rw [c]; decide
  · rw [decide_eq_false (by intro z; exact c (Option.some.inj z))]
    exact beq_eq_false_iff_ne.mpr fun z => c (List.cons.inj z).1
theorem ew_bang (x : Str) : Txt.endswith x "!" = decide ((tl x).getLast? = some 33) := by
  unfold Txt.endswith
  rw [lenB]
  by_cases h : 1 ≤ x.length
  · rw [subB h, decide_eq_true (by omega : 0 + 1 ≤ x.length), Bool.true_and]
  · have e : tl x = [] := List.length_eq_zero_iff.mp (by rw [← len_tl]; omega)
    rw [decide_eq_false (by omega : ¬ 0 + 1 ≤ x.length), Bool.false_and, e]
    rfl
theorem rs_bang (x : Str) : tl (Txt.removesuffix x "!") = if (tl x).getLast? = some 33 then (tl x).dropLast else tl x := by
  unfold Txt.removesuffix
  rw [lenB]
  by_cases h : 1 ≤ x.length
  · rw [subB h, decide_eq_true (by omega : 1 ≤ x.length), Bool.true_and]
    by_cases c : (tl x).getLast? = some 33
    · rw [decide_eq_true c, if_pos rfl, if_pos c]
      show tl (if x.length - 1 - 0 == x.length then x else strSub x 0 (x.length - 1)) = _
      rw [if_neg (by simp; omega), tl_strSub, List.drop_zero, List.dropLast_eq_take, len_tl]
      rfl
    · rw [decide_eq_false c, if_neg (by decide), if_neg c]
      rfl
  · have e : tl x = [] := List.length_eq_zero_iff.mp (by rw [← len_tl]; omega)
    rw [decide_eq_false (by omega : ¬ 1 ≤ x.length), Bool.false_and, if_neg (by decide), e, if_neg (by decide)]
    exact e
theorem sw0 (x : Str) : Txt.startswith x "0" = decide ((tl x).head? = some 48) := by
  unfold Txt.startswith
  rw [subAt_eq, show ("0" : Str).length = 1 by decide +kernel, List.drop_zero, len_tl]
  show (decide (0 + 1 ≤ (tl x).length) && ((tl x).take 1 == tl ("0" : Str))) = _
  rw [show tl ("0" : Str) = [48] by decide +kernel]
  generalize tl x = l
  cases l with
  | nil => rfl
  | cons c r =>
    by_cases h : c = 48
    · subst h
      simp
    · rw [show decide ((c :: r).head? = some 48) = false from decide_eq_false (fun z => h (Option.some.inj z))]
      simp [h]
/-- a digit -/
def dg (c : Nat) : Bool := decide (48 ≤ c) && decide (c ≤ 57)
/-- the text of a count -/
def isC (d : List Nat) : Bool := d.all dg && !d.isEmpty && (decide (d = [48]) || !decide (d.head? = some 48))
/-- a reply: what the row says -/
def replyL (l : List Nat) : Option (Nat × Bool) :=
  if l.take 5 = F then
    let d := l.drop 5
    let b := decide (d.getLast? = some 33)
    let num := if b = true then d.dropLast else d
    if isC num = true then some (NumText.digitsVal num, b) else none
  else none
/-- ascii and digits -/
theorem ascii_digit : ∀ c : Nat, c < 128 → Unicode.isDigit c = dg c := by decide +kernel
theorem asc_dig (x : Str) : (Txt.isascii x && Txt.isdigit x) = ((tl x).all dg && !(tl x).isEmpty) := by
  unfold Txt.isascii Txt.isdigit
  rw [← Array.all_toList, ← Array.all_toList, len_tl]
  show ((tl x).all (fun c => decide (c < 128)) && (decide ((tl x).length > 0) && (tl x).all Unicode.isDigit)) = _
  generalize tl x = l
  have key : ∀ l : List Nat, (l.all (fun c => decide (c < 128)) && l.all Unicode.isDigit) = l.all dg := fun l => by
    induction l with
    | nil => rfl
    | cons c r ih =>
      rw [List.all_cons, List.all_cons, List.all_cons, ← ih]
      by_cases h : c < 128
      · rw [decide_eq_true h, ascii_digit c h]
        cases dg c <;> cases r.all (fun c => decide (c < 128)) <;> cases r.all Unicode.isDigit <;> rfl
      · have : dg c = false := by unfold dg; rw [Bool.and_eq_false_iff]; exact .inr (decide_eq_false (by omega))
        rw [decide_eq_false h, this]
        rfl
  rw [← key l]
  cases l with
  | nil => rfl
  | cons c r => simp [Bool.and_assoc]
/-- the digits that the program reads -/
def digs (x : Str) : Str := Txt.removesuffix (Txt.removeprefix x "feed ") "!"
theorem digs_tl {x : Str} (h : (tl x).take 5 = F) : tl (digs x) = if decide (((tl x).drop 5).getLast? = some 33) = true then ((tl x).drop 5).dropLast else (tl x).drop 5 := by
  unfold digs
  rw [rs_bang, rp_feed h]
  simp
/-- the last sign of the row -/
theorem last_feed {x : Str} (h : (tl x).take 5 = F) : Txt.endswith x "!" = decide (((tl x).drop 5).getLast? = some 33) := by
  rw [ew_bang]
  have e : tl x = F ++ (tl x).drop 5 := by
    have := List.take_append_drop 5 (tl x)
    rw [h] at this
    exact this.symm
  generalize (tl x).drop 5 = d at e ⊢
  rw [e]
  cases d with
  | nil => decide
  | cons c r => rw [List.getLast?_append, List.getLast?_eq_some_getLast (by simp : c :: r ≠ [])]; rfl
theorem isC_all {d : List Nat} (h : isC d = true) : NumText.AllDigits d ∧ d ≠ [] := by
  unfold isC at h
  rw [Bool.and_eq_true, Bool.and_eq_true] at h
  obtain ⟨⟨a, b⟩, _⟩ := h
  refine ⟨fun c hc => ?_, fun z => by rw [z] at b; exact absurd b (by decide)⟩
  have := List.all_eq_true.mp a c hc
  unfold dg at this
  rw [Bool.and_eq_true, decide_eq_true_eq, decide_eq_true_eq] at this
  exact this
theorem reply_none {x : Str} (h : (tl x).take 5 = F) (c : isC (tl (digs x)) = false) : replyL (tl x) = none := by
  rw [digs_tl h] at c
  unfold replyL
  rw [if_pos h]
  simp only [c]
  rfl
theorem reply_some {x : Str} (h : (tl x).take 5 = F) (c : isC (tl (digs x)) = true) : replyL (tl x) = some (NumText.digitsVal (tl (digs x)), Txt.endswith x "!") := by
  have l := last_feed h
  rw [digs_tl h] at c ⊢
  rw [l]
  unfold replyL
  rw [if_pos h]
  simp only [c]
  rfl
theorem reply_far {x : Str} (h : ¬ (tl x).take 5 = F) : replyL (tl x) = none := by
  unfold replyL
  rw [if_neg h]
theorem digs_len (x : Str) : (digs x).length ≤ x.length := by
  have a := rs_bang (Txt.removeprefix x "feed ")
  have b : (tl (Txt.removeprefix x "feed ")).length ≤ (tl x).length := by
    by_cases h : (tl x).take 5 = F
    · rw [rp_feed h, List.length_drop]; omega
    · unfold Txt.removeprefix
      rw [sub0, decide_eq_false h, if_neg (by decide)]
      exact Nat.le_refl _
  unfold digs
  rw [len_tl, len_tl x, a]
  split
  · rw [List.length_dropLast]; omega
  · exact b
theorem pre_len (x : Str) : (Txt.removeprefix x "feed ").length ≤ x.length := by
  by_cases h : (tl x).take 5 = F
  · rw [len_tl, len_tl x, rp_feed h, List.length_drop]; omega
  · unfold Txt.removeprefix
    rw [sub0, decide_eq_false h, if_neg (by decide)]
    exact Nat.le_refl _
end CoR

/-! how great counts are shown -/
namespace SH
open PySem L2
theorem log_nat {n : Nat} (h : n < 10 ^ 20) : (n : Nat).log2 < 1920 := by
  by_cases h0 : n = 0
  · rw [h0]; decide
  · exact Nat.lt_of_lt_of_le ((Nat.log2_lt h0).mpr (Nat.lt_of_lt_of_le h (show 10 ^ 20 ≤ 2 ^ 70 by decide))) (by decide)
theorem num_le {n : Nat} (h : n < 10 ^ 20) : (PyData.shown (.int (n : Int))).length ≤ 20 := by
  show (Str.ofString (toString ((n : Nat) : Int))).length ≤ 20
  rw [TL.len_tl, TL.tl_num]
  exact TL.numL_len (by decide) h
def pairD (a b : Nat) : PyData := .tuple [.int a, .int b]
theorem join_le : ∀ ts : List Str, (Str.join ", " ts).length ≤ (ts.map fun t => t.length + 2).sum
  | [] => Nat.le_refl _
  | [x] => by
    show x.length ≤ _
    simp
  | x :: y :: r => by
    show (x ++ ", " ++ Str.join ", " (y :: r)).length ≤ _
    rw [strLen_append, strLen_append, show (", " : Str).length = 2 by decide +kernel]
    have := join_le (y :: r)
    rw [List.map_cons, List.sum_cons]
    omega
theorem tup_le (ts : List Str) : (tupleText ts).length ≤ (ts.map fun t => t.length + 2).sum + 3 := by
  unfold tupleText
  rw [strLen_append, strLen_append, show ("(" : Str).length = 1 by decide +kernel]
  have := join_le ts
  have : (Str.ofString (if ts.length == 1 then ",)" else ")" : String)).length ≤ 2 := by
    split
    · decide +kernel
    · decide +kernel
  omega
theorem pair_ok {a b : Nat} (ha : a < 10 ^ 20) (hb : b < 10 ^ 20) : (pairD a b).showable = true ∧ (pairD a b).depth ≤ 64 ∧ (pairD a b).shown.length ≤ sizeLine := by
  refine ⟨?_, ?_, ?_⟩
  · simp only [pairD, PyData.showable, PyData.showableAll, Bool.and_true, Bool.and_eq_true, decide_eq_true_eq]
    exact ⟨by rw [Int.natAbs_natCast]; exact log_nat ha, by rw [Int.natAbs_natCast]; exact log_nat hb⟩
  · simp [pairD, PyData.depth, PyData.depthAll]
  · unfold pairD
    rw [PyData.shown]
    have := tup_le (PyData.shownAll [.int (a : Int), .int (b : Int)])
    have h1 := num_le ha
    have h2 := num_le hb
    simp only [PyData.shownAll, List.map_cons, List.map_nil, List.sum_cons, List.sum_nil] at this
    refine Nat.le_trans this (Nat.le_trans (show _ ≤ 100 by omega) (by decide))
end SH
namespace SH
open PySem L2
def tripD (a b c : Nat) : PyData := .list [.int a, .int b, .int c]
theorem from_le : ∀ (ts : List Str) (k : Nat) (acc : Str), (textFrom k acc ts).length ≤ acc.length + (ts.map fun t => t.length + 2).sum
  | [], _, _ => by simp [textFrom]
  | t :: r, k, acc => by
    rw [textFrom]
    have ih := from_le r (k + 1) (acc ++ (if k > 0 then ", " else "" : String) ++ t)
    rw [strLen_append, strLen_append] at ih
    have : (Str.ofString (if k > 0 then ", " else "" : String)).length ≤ 2 := by
      split
      · decide +kernel
      · decide +kernel
    rw [List.map_cons, List.sum_cons]
    omega
theorem list_le (ts : List Str) : (listText ts).length ≤ (ts.map fun t => t.length + 2).sum + 2 := by
  unfold listText
  rw [strLen_append, show ("]" : Str).length = 1 by decide +kernel]
  have := from_le ts 0 "["
  rw [show ("[" : Str).length = 1 by decide +kernel] at this
  omega
theorem trip_ok {a b c : Nat} (ha : a < 10 ^ 20) (hb : b < 10 ^ 20) (hc : c < 10 ^ 20) : (tripD a b c).showable = true ∧ (tripD a b c).depth ≤ 64 ∧ (tripD a b c).shown.length ≤ sizeLine := by
  refine ⟨?_, ?_, ?_⟩
  · simp only [tripD, PyData.showable, PyData.showableAll, Bool.and_true, Bool.and_eq_true, decide_eq_true_eq]
    exact ⟨by rw [Int.natAbs_natCast]; exact log_nat ha, by rw [Int.natAbs_natCast]; exact log_nat hb, by rw [Int.natAbs_natCast]; exact log_nat hc⟩
  · simp [tripD, PyData.depth, PyData.depthAll]
  · unfold tripD
    rw [PyData.shown]
    have := list_le (PyData.shownAll [.int (a : Int), .int (b : Int), .int (c : Int)])
    have h1 := num_le ha
    have h2 := num_le hb
    have h3 := num_le hc
    simp only [PyData.shownAll, List.map_cons, List.map_nil, List.sum_cons, List.sum_nil] at this
    refine Nat.le_trans this (Nat.le_trans (show _ ≤ 200 by omega) (by decide))
end SH

/-! how much a run hands on, and how long it is when it is shown -/
namespace EM
open PySem L2
def wt (ps : List (List Int)) : Nat := (ps.map fun p => p.length + 1).sum
theorem wt_app (a b : List (List Int)) : wt (a ++ b) = wt a + wt b := by simp [wt, List.map_append, List.sum_append]
theorem cutN_succ' (sz : Nat) (xs : List Int) (i : Nat) : cutN sz xs (i + 1) = cutN sz xs i ++ [(xs.drop (i * sz)).take sz] := by
  unfold cutN
  rw [List.range_succ, List.map_append]
  rfl
theorem wt_cut (sz : Nat) (xs : List Int) : ∀ n, wt (cutN sz xs n) ≤ n * sz + n
  | 0 => by simp [wt, cutN]
  | n + 1 => by
    have ih := wt_cut sz xs n
    rw [cutN_succ', wt_app, Nat.succ_mul]
    have : wt [(xs.drop (n * sz)).take sz] ≤ sz + 1 := by
      simp only [wt, List.map_cons, List.map_nil, List.sum_cons, List.sum_nil, List.length_take]
      omega
    omega
/-- the rest has at most r items, the pieces weigh at most w -/
def Lt (r w : Nat) (x : RP) : Prop := x.rest.length ≤ r ∧ wt x.pieces ≤ w
theorem Lt.mono {r w r' w' : Nat} {x : RP} (h : Lt r w x) (h1 : r ≤ r') (h2 : w ≤ w') : Lt r' w' x := ⟨Nat.le_trans h.1 h1, Nat.le_trans h.2 h2⟩
def isA (s : Str) : Nat := if s = "add" then 1 else 0
theorem lt_perf {size r w h : Nat} {held : List Int} {s : Str} {x : RP} (hh : held.length ≤ h) (hx : Lt r w x) : Lt (r + isA s * h) (w + (2 * r + h + 1)) (perfM size held s x) := by
  obtain ⟨h1, h2⟩ := hx
  have w1 : ∀ p : List Int, wt [p] = p.length + 1 := fun p => by simp [wt]
  unfold perfM isA Lt
  split
  · refine ⟨?_, by show wt x.pieces ≤ _; omega⟩
    show (x.rest ++ held).length ≤ _
    rw [List.length_append]
    omega
  · split
    · refine ⟨by show x.rest.length ≤ _; omega, ?_⟩
      show wt (x.pieces ++ [held]) ≤ _
      rw [wt_app, w1]
      omega
    · split
      · refine ⟨?_, ?_⟩
        · show (x.rest.drop _).length ≤ _
          rw [List.length_drop]
          omega
        · show wt (x.pieces ++ cutN size x.rest (x.rest.length / size)) ≤ _
          rw [wt_app]
          have a := wt_cut size x.rest (x.rest.length / size)
          have b := Nat.div_mul_le_self x.rest.length size
          have c := Nat.div_le_self x.rest.length size
          omega
      · split
        · refine ⟨Nat.zero_le _, ?_⟩
          show wt (x.pieces ++ [x.rest]) ≤ _
          rw [wt_app, w1]
          omega
        · exact ⟨by show x.rest.length ≤ _; omega, by show wt x.pieces ≤ _; omega⟩
def adds : List (Str × Str) → Nat
  | [] => 0
  | (_, s) :: r => isA s + adds r
theorem lt_run {size h : Nat} {held : List Int} {told : Bool} (hh : held.length ≤ h) : ∀ (os : List (Str × Str)) (r w : Nat) (x : RP), Lt r w x → Lt (r + adds os * h) (w + os.length * (2 * (r + adds os * h) + h + 1)) (runW size held told os x).1
  | [], r, w, x, hx => by simpa [runW, adds] using hx
  | (t, s) :: os, r, w, x, hx => by
    have e1 : (isA s + adds os) * h = isA s * h + adds os * h := Nat.add_mul _ _ _
    have m : Lt (r + adds ((t, s) :: os) * h) (w + (os.length + 1) * (2 * (r + adds ((t, s) :: os) * h) + h + 1)) x := hx.mono (Nat.le_add_right _ _) (Nat.le_add_right _ _)
    unfold runW
    rw [List.length_cons]
    split
    · split
      · exact m
      · split
        · exact m
        · have ih := lt_run (size := size) (told := told) hh os _ _ _ (lt_perf (size := size) (s := s) hh hx)
          have e2 : r + isA s * h + adds os * h = r + adds ((t, s) :: os) * h := by show _ = r + (isA s + adds os) * h; omega
          rw [e2] at ih
          refine ih.mono (Nat.le_refl _) ?_
          have : 2 * r + h + 1 ≤ 2 * (r + adds ((t, s) :: os) * h) + h + 1 := by omega
          generalize 2 * (r + adds ((t, s) :: os) * h) + h + 1 = M at this ⊢
          have e3 : (os.length + 1) * M = os.length * M + M := Nat.succ_mul _ _
          omega
    · have ih := lt_run (size := size) (told := told) hh os r w x hx
      refine ih.mono ?_ ?_
      · show _ ≤ r + (isA s + adds os) * h
        omega
      · have a : os.length * (2 * (r + adds os * h) + h + 1) ≤ (os.length + 1) * (2 * (r + adds ((t, s) :: os) * h) + h + 1) := Nat.mul_le_mul (by omega) (by show _ ≤ 2 * (r + (isA s + adds os) * h) + h + 1; omega)
        omega
theorem lt_end {size h : Nat} {held : List Int} {told : Bool} (hh : held.length ≤ h) : ∀ (os : List (Str × Str)) (r w : Nat) (x : RP), Lt r w x → Lt (r + adds os * h) (w + os.length * (2 * (r + adds os * h) + h + 1)) (endW size held told os x)
  | [], r, w, x, hx => by simpa [endW, adds] using hx
  | (t, s) :: os, r, w, x, hx => by
    have e1 : (isA s + adds os) * h = isA s * h + adds os * h := Nat.add_mul _ _ _
    unfold endW
    rw [List.length_cons]
    have h2 : Lt (r + isA s * h) (w + (2 * r + h + 1)) (if passM size held told t x.rest = true then perfM size held s x else x) := by
      split
      · exact lt_perf hh hx
      · exact hx.mono (by omega) (by omega)
    have ih := lt_end (size := size) (told := told) hh os _ _ _ h2
    have e2 : r + isA s * h + adds os * h = r + adds ((t, s) :: os) * h := by show _ = r + (isA s + adds os) * h; omega
    rw [e2] at ih
    refine ih.mono (Nat.le_refl _) ?_
    have : 2 * r + h + 1 ≤ 2 * (r + adds ((t, s) :: os) * h) + h + 1 := by omega
    generalize 2 * (r + adds ((t, s) :: os) * h) + h + 1 = M at this ⊢
    have e3 : (os.length + 1) * M = os.length * M + M := Nat.succ_mul _ _
    omega
theorem lt_ans {size h r w : Nat} {ro eo : List (Str × Str)} {held : List Int} {told : Bool} {x : RP} (hh : held.length ≤ h) (l1 : ro.length ≤ 12) (l2 : eo.length ≤ 6) (a1 : adds ro ≤ 1) (a2 : adds eo = 0) (hx : Lt r w x) : Lt (r + h) (w + 18 * (2 * (r + h) + h + 1)) (ansM size ro eo held told x).1 := by
  have a := lt_run (size := size) (told := told) hh ro r w x hx
  have e1 : adds ro * h ≤ h := by
    have := Nat.mul_le_mul_right h a1
    omega
  have b : Lt (r + h) (w + 12 * (2 * (r + h) + h + 1)) (runW size held told ro x).1 := a.mono (by omega) (Nat.add_le_add_left (Nat.mul_le_mul l1 (by omega)) _)
  unfold ansM
  split
  · have c := lt_end (size := size) (told := told) hh eo _ _ _ b
    rw [a2, Nat.zero_mul, Nat.add_zero] at c
    refine c.mono (Nat.le_refl _) ?_
    have : eo.length * (2 * (r + h) + h + 1) ≤ 6 * (2 * (r + h) + h + 1) := Nat.mul_le_mul_right _ l2
    show w + 12 * (2 * (r + h) + h + 1) + eo.length * (2 * (r + h) + h + 1) ≤ w + 18 * (2 * (r + h) + h + 1)
    omega
  · exact b.mono (Nat.le_refl _) (by omega)
/-! ### the numbers of items -/
def AllB (N : Nat) (xs : List Int) : Prop := ∀ i ∈ xs, 0 ≤ i ∧ i < (N : Int)
def AB (N : Nat) (x : RP) : Prop := AllB N x.rest ∧ ∀ p ∈ x.pieces, AllB N p
theorem AllB.app {N : Nat} {a b : List Int} (ha : AllB N a) (hb : AllB N b) : AllB N (a ++ b) := fun i hi => (List.mem_append.mp hi).elim (ha i) (hb i)
theorem ab_perf {N size : Nat} {held : List Int} {s : Str} {x : RP} (hh : AllB N held) (hx : AB N x) : AB N (perfM size held s x) := by
  obtain ⟨h1, h2⟩ := hx
  unfold perfM
  split
  · exact ⟨h1.app hh, h2⟩
  · split
    · refine ⟨h1, fun p hp => ?_⟩
      rcases List.mem_append.mp hp with hp | hp
      · exact h2 p hp
      · rw [List.mem_singleton.mp hp]
        exact hh
    · split
      · refine ⟨fun i hi => h1 i (List.mem_of_mem_drop hi), fun p hp => ?_⟩
        rcases List.mem_append.mp hp with hp | hp
        · exact h2 p hp
        · obtain ⟨k, _, rfl⟩ := List.mem_map.mp hp
          exact fun i hi => h1 i (List.mem_of_mem_drop (List.mem_of_mem_take hi))
      · split
        · refine ⟨fun i hi => (nomatch hi), fun p hp => ?_⟩
          rcases List.mem_append.mp hp with hp | hp
          · exact h2 p hp
          · rw [List.mem_singleton.mp hp]
            exact h1
        · exact ⟨h1, h2⟩
theorem ab_run {N size : Nat} {held : List Int} {told : Bool} (hh : AllB N held) : ∀ (os : List (Str × Str)) (x : RP), AB N x → AB N (runW size held told os x).1
  | [], x, hx => hx
  | (t, s) :: os, x, hx => by
    unfold runW
    split
    · split
      · exact hx
      · split
        · exact hx
        · exact ab_run hh os _ (ab_perf hh hx)
    · exact ab_run hh os _ hx
theorem ab_end {N size : Nat} {held : List Int} {told : Bool} (hh : AllB N held) : ∀ (os : List (Str × Str)) (x : RP), AB N x → AB N (endW size held told os x)
  | [], x, hx => hx
  | (t, s) :: os, x, hx => by
    unfold endW
    refine ab_end hh os _ ?_
    split
    · exact ab_perf hh hx
    · exact hx
theorem ab_ans {N size : Nat} {ro eo : List (Str × Str)} {held : List Int} {told : Bool} {x : RP} (hh : AllB N held) (hx : AB N x) : AB N (ansM size ro eo held told x).1 := by
  unfold ansM
  split
  · exact ab_end hh eo _ (ab_run hh ro x hx)
  · exact ab_run hh ro x hx
/-! ### shown -/
def pieceD (p : List Int) : PyData := .tuple (p.map PyData.int)
def runD (ps : List (List Int)) (u : Nat) (st : Bool) : PyData := .tuple [.tuple (ps.map pieceD), .int u, .bool st]
theorem join_le : ∀ ts : List Str, (Str.join ", " ts).length ≤ (ts.map fun t => t.length + 2).sum
  | [] => Nat.le_refl _
  | [x] => by
    show x.length ≤ _
    simp
  | x :: y :: r => by
    show (x ++ ", " ++ Str.join ", " (y :: r)).length ≤ _
    rw [strLen_append, strLen_append, show (", " : Str).length = 2 by decide +kernel]
    have := join_le (y :: r)
    rw [List.map_cons, List.sum_cons]
    omega
theorem tup_le (ts : List Str) : (tupleText ts).length ≤ (ts.map fun t => t.length + 2).sum + 3 := by
  unfold tupleText
  rw [strLen_append, strLen_append, show ("(" : Str).length = 1 by decide +kernel]
  have := join_le ts
  have : (Str.ofString (if ts.length == 1 then ",)" else ")" : String)).length ≤ 2 := by
    split
    · decide +kernel
    · decide +kernel
  omega
theorem int_le {i : Int} (h0 : 0 ≤ i) (h1 : i < 1000000) : (PyData.shown (.int i)).length ≤ 6 := by
  obtain ⟨n, rfl⟩ := Int.eq_ofNat_of_zero_le h0
  show (Str.ofString (toString ((n : Nat) : Int))).length ≤ 6
  rw [TL.len_tl, TL.tl_num]
  exact TL.numL_len (by decide) (by omega)
theorem sum_ints {N : Nat} (hN : N ≤ 1000000) : ∀ {p : List Int}, AllB N p → ((PyData.shownAll (p.map PyData.int)).map fun t => t.length + 2).sum ≤ 8 * p.length
  | [], _ => by simp [PyData.shownAll]
  | i :: r, h => by
    have a := h i (List.mem_cons_self ..)
    have b := int_le (i := i) a.1 (by omega)
    have c := sum_ints hN (p := r) fun z hz => h z (List.mem_cons_of_mem _ hz)
    rw [List.map_cons, PyData.shownAll, List.map_cons, List.sum_cons, List.length_cons]
    omega
theorem piece_le {N : Nat} (hN : N ≤ 1000000) {p : List Int} (h : AllB N p) : (PyData.shown (pieceD p)).length ≤ 8 * p.length + 3 := by
  unfold pieceD
  rw [PyData.shown]
  have := tup_le (PyData.shownAll (p.map PyData.int))
  have := sum_ints hN h
  omega
theorem sum_pieces {N : Nat} (hN : N ≤ 1000000) : ∀ {ps : List (List Int)}, (∀ p ∈ ps, AllB N p) → ((PyData.shownAll (ps.map pieceD)).map fun t => t.length + 2).sum ≤ 8 * wt ps
  | [], _ => by simp [PyData.shownAll, wt]
  | p :: r, h => by
    have b := piece_le hN (h p (List.mem_cons_self ..))
    have c := sum_pieces hN (ps := r) fun z hz => h z (List.mem_cons_of_mem _ hz)
    rw [List.map_cons, PyData.shownAll, List.map_cons, List.sum_cons]
    have e : wt (p :: r) = p.length + 1 + wt r := by simp [wt]
    omega
theorem run_le {N : Nat} (hN : N ≤ 1000000) {ps : List (List Int)} {u : Nat} {st : Bool} (h : ∀ p ∈ ps, AllB N p) (hu : u < 1000000) : (PyData.shown (runD ps u st)).length ≤ 8 * wt ps + 40 := by
  unfold runD
  rw [PyData.shown]
  have a := tup_le (PyData.shownAll [.tuple (ps.map pieceD), .int (u : Int), .bool st])
  have b : (PyData.shown (.tuple (ps.map pieceD))).length ≤ 8 * wt ps + 3 := by
    rw [PyData.shown]
    have := tup_le (PyData.shownAll (ps.map pieceD))
    have := sum_pieces hN h
    omega
  have c := int_le (i := (u : Int)) (by omega) (by omega)
  have d : (PyData.shown (.bool st)).length ≤ 5 := by cases st <;> decide +kernel
  simp only [PyData.shownAll, List.map_cons, List.map_nil, List.sum_cons, List.sum_nil] at a ⊢
  omega
/-- two of them in a list -/
theorem from_le : ∀ (ts : List Str) (k : Nat) (acc : Str), (textFrom k acc ts).length ≤ acc.length + (ts.map fun t => t.length + 2).sum
  | [], _, _ => by simp [textFrom]
  | t :: r, k, acc => by
    rw [textFrom]
    have ih := from_le r (k + 1) (acc ++ (if k > 0 then ", " else "" : String) ++ t)
    rw [strLen_append, strLen_append] at ih
    have : (Str.ofString (if k > 0 then ", " else "" : String)).length ≤ 2 := by
      split
      · decide +kernel
      · decide +kernel
    rw [List.map_cons, List.sum_cons]
    omega
theorem list_le (ts : List Str) : (listText ts).length ≤ (ts.map fun t => t.length + 2).sum + 2 := by
  unfold listText
  rw [strLen_append, show ("]" : Str).length = 1 by decide +kernel]
  have := from_le ts 0 "["
  rw [show ("[" : Str).length = 1 by decide +kernel] at this
  omega
def twoD (ps : List (List Int)) (u : Nat) (st : Bool) : PyData := .list [runD ps u st, runD ps u st]
theorem two_le {N : Nat} (hN : N ≤ 1000000) {ps : List (List Int)} {u : Nat} {st : Bool} (h : ∀ p ∈ ps, AllB N p) (hu : u < 1000000) : (PyData.shown (twoD ps u st)).length ≤ 16 * wt ps + 90 := by
  unfold twoD
  rw [PyData.shown]
  have a := list_le (PyData.shownAll [runD ps u st, runD ps u st])
  have b := run_le hN (u := u) (st := st) h hu
  simp only [PyData.shownAll, List.map_cons, List.map_nil, List.sum_cons, List.sum_nil] at a ⊢
  omega
theorem ints_showable : ∀ p : List Int, AllB 1000000 p → PyData.showableAll (p.map PyData.int) = true
  | [], _ => by simp [PyData.showableAll]
  | i :: r, h => by
    have a := h i (List.mem_cons_self ..)
    have b := ints_showable r fun z hz => h z (List.mem_cons_of_mem _ hz)
    rw [List.map_cons, PyData.showableAll, PyData.showable, b, Bool.and_true]
    refine decide_eq_true ?_
    obtain ⟨n, rfl⟩ := Int.eq_ofNat_of_zero_le a.1
    show (n : Nat).log2 < 1920
    have hn : n < 1000000 := by omega
    by_cases h0 : n = 0
    · rw [h0]; decide
    · exact Nat.lt_of_lt_of_le ((Nat.log2_lt h0).mpr (Nat.lt_of_lt_of_le hn (show 1000000 ≤ 2 ^ 20 by decide))) (by decide)
theorem pieces_showable : ∀ ps : List (List Int), (∀ p ∈ ps, AllB 1000000 p) → PyData.showableAll (ps.map pieceD) = true
  | [], _ => by simp [PyData.showableAll]
  | p :: r, h => by
    have a := ints_showable p (h p (List.mem_cons_self ..))
    have b := pieces_showable r fun z hz => h z (List.mem_cons_of_mem _ hz)
    rw [List.map_cons, PyData.showableAll, b, Bool.and_true]
    unfold pieceD
    rw [PyData.showable]
    exact a
theorem two_showable {ps : List (List Int)} {u : Nat} {st : Bool} (h : ∀ p ∈ ps, AllB 1000000 p) (hu : u < 1000000) : PyData.showable (twoD ps u st) = true := by
  have a := pieces_showable ps h
  have b := ints_showable [(u : Int)] fun i hi => by rw [List.mem_singleton.mp hi]; exact ⟨by omega, by omega⟩
  simp only [List.map_cons, List.map_nil, PyData.showableAll, Bool.and_true] at b
  simp only [twoD, runD, PyData.showable, PyData.showableAll, a, Bool.true_and, Bool.and_true]
  simp only [PyData.showable] at b
  rw [b]
  rfl
theorem ints_depth : ∀ p : List Int, PyData.depthAll (p.map PyData.int) ≤ 1
  | [] => by simp [PyData.depthAll]
  | x :: r => by
    have := ints_depth r
    simp only [List.map_cons, PyData.depthAll, PyData.depth] at this ⊢
    omega
theorem pieces_depth : ∀ ps : List (List Int), PyData.depthAll (ps.map pieceD) ≤ 2
  | [] => by simp [PyData.depthAll]
  | p :: r => by
    have := pieces_depth r
    have := ints_depth p
    simp only [List.map_cons, PyData.depthAll, PyData.depth, pieceD] at *
    omega
theorem two_depth (ps : List (List Int)) (u : Nat) (st : Bool) : PyData.depth (twoD ps u st) ≤ 64 := by
  have := pieces_depth ps
  simp only [twoD, runD, PyData.depth, PyData.depthAll]
  omega
end EM

/-! the texts of pieces -/
namespace CoR
open PySem PySem.Builtin PySem.Builtin.Str PySem.StrLaws TL
def nmS (i : Int) : Str := Str.ofString (toString i)
/-- the text of items -/
def itT (xs : List Int) : Str := if xs = [] then "-" else Txt.join "," (xs.map nmS)
/-- the text of pieces -/
def pcT (ps : List (List Int)) : Str := if ps = [] then "none" else Txt.join " " (ps.map itT)
/-- items of ordinary size -/
def Ord (xs : List Int) : Prop := ∀ i ∈ xs, 0 ≤ i ∧ i < 10 ^ 20
theorem nm_len {i : Int} (h : 0 ≤ i ∧ i < 10 ^ 20) : (nmS i).length ≤ 20 := by
  obtain ⟨n, rfl⟩ := Int.eq_ofNat_of_zero_le h.1
  exact SH.num_le (by omega)
theorem nm_log {i : Int} (h : 0 ≤ i ∧ i < 10 ^ 20) : i.natAbs.log2 < 1920 := by
  obtain ⟨n, rfl⟩ := Int.eq_ofNat_of_zero_le h.1
  rw [Int.natAbs_natCast]
  exact SH.log_nat (by omega)
theorem nms_sum : ∀ {xs : List Int}, Ord xs → ((xs.map nmS).map (·.length)).sum ≤ 20 * xs.length
  | [], _ => Nat.le_refl _
  | x :: r, h => by
    have a := nm_len (h x (List.mem_cons_self ..))
    have b := nms_sum (xs := r) fun i hi => h i (List.mem_cons_of_mem _ hi)
    rw [List.map_cons, List.map_cons, List.sum_cons, List.length_cons]
    omega
theorem joinK_len (S : Str) : ∀ B : List Str, (Txt.join S B).length ≤ (B.map (·.length)).sum + B.length * S.length
  | [] => by
    rw [len_tl, TL.join_eq, tl_join]
    exact Nat.zero_le _
  | [x] => by
    rw [List.map_cons, List.sum_cons]
    have : Txt.join S [x] = x := rfl
    rw [this]
    omega
  | x :: y :: r => by
    have ih := joinK_len S (y :: r)
    have e : tl (Txt.join S (x :: y :: r)) = tl x ++ (tl S ++ tl (Txt.join S (y :: r))) := by
      rw [TL.join_eq, TL.join_eq, tl_join, tl_join]
      rfl
    rw [len_tl, e, List.length_append, List.length_append, ← len_tl, ← len_tl, ← len_tl]
    rw [List.map_cons, List.sum_cons, List.length_cons, Nat.succ_mul]
    omega
theorem it_len {xs : List Int} (h : Ord xs) : (itT xs).length ≤ 1 + 21 * xs.length := by
  unfold itT
  split
  · exact Nat.le_trans (show ("-" : Str).length ≤ 1 by decide +kernel) (by omega)
  · have a := joinK_len "," (xs.map nmS)
    have b := nms_sum h
    rw [List.length_map, show ("," : Str).length = 1 by decide +kernel] at a
    omega
end CoR

/-! loops that are drawn -/
namespace LM
open PySem L2 TL
def sBar : Str := " | "
def sSp : Str := " "
def samples : List Str := ["ask empty:stop hand", "ask hand short:stop", "ask add cut told:stop | rest:flush", "ask told:stop hand", "ask add empty:stop | rest:flush", "ask add cut empty:stop | flush", "ask some:hand told:stop", "ask empty:stop add cut | rest:flush", "ask empty:again hand told:stop", "ask add full:flush told:stop"]
def sampP (s : Str) : List Str := Txt.split s " | "
def sampB (s : Str) : List Str := Txt.split ((sampP s).getD 0 Str.empty) " "
def sampE (s : Str) : List Str := if (sampP s).length > 1 then Txt.split ((sampP s).getD 1 Str.empty) " " else []
def sampOk (s : Str) : Bool := isRound (sampB s) && (isEnding (sampE s) && (decide ((sampB s).length ≤ 4) && (decide ((sampE s).length ≤ 1) && (decide (1 ≤ (sampP s).length) && (decide (s.length ≤ 100) && (sampP s).all fun p => decide (p.length ≤ 100))))))
theorem samp_ok : ∀ s ∈ samples, sampOk s = true := by decide +kernel
structure Samp (s : Str) : Prop where
  r : isRound (sampB s) = true
  e : isEnding (sampE s) = true
  lb : (sampB s).length ≤ 4
  le : (sampE s).length ≤ 1
  l1 : 1 ≤ (sampP s).length
  ls : s.length ≤ 100
  lp : ∀ p ∈ sampP s, p.length ≤ 100
theorem samp_of {s : Str} (h : s ∈ samples) : Samp s := by
  have := samp_ok s h
  unfold sampOk at this
  simp only [Bool.and_eq_true, decide_eq_true_eq, List.all_eq_true] at this
  exact ⟨this.1, this.2.1, this.2.2.1, this.2.2.2.1, this.2.2.2.2.1, this.2.2.2.2.2.1, this.2.2.2.2.2.2⟩
/-! ### a word more -/
def plain5 : List Str := ["hand", "cut", "flush", "stop", "again"]
theorem wd_round {w : Str} (h : Wd rsteps w) : isWord w rsteps = true := by
  have := wd_ok w h.mem
  unfold wdOk at this
  exact (Bool.and_eq_true_iff.mp this).1
theorem wd_ending {w : Str} (h : Wd esteps w) : isWord w esteps = true := wd_end w h.mem
theorem wd_plain {w : Str} (h : Wd plain5 w) : isAdd w = false := wd_noadd w h.mem
theorem ask_noadd : isAdd "ask" = false := by decide +kernel
theorem ins_round {B xs : List Str} {i : Nat} (hB : isRound B = true) (hi : 1 ≤ i) (hx : ∀ x ∈ xs, isWord x rsteps = true) (hl : B.length + xs.length ≤ 12) (ha : (B.filter isAdd).length + (xs.filter isAdd).length ≤ 1) :
    isRound (B.take i ++ xs ++ B.drop i) = true := by
  obtain ⟨r, rfl, h2, h3, h4⟩ := isRound_iff.mp hB
  obtain ⟨k, rfl⟩ : ∃ k, i = k + 1 := ⟨i - 1, by omega⟩
  refine isRound_iff.mpr ⟨r.take k ++ xs ++ r.drop k, rfl, ?_, ?_, fun w hw => ?_⟩
  · rw [List.length_append, List.length_append, List.length_take, List.length_drop]
    omega
  · rw [List.filter_append, List.filter_append, List.length_append, List.length_append]
    have e : (((("ask" : Str) :: r).take (k + 1)).filter isAdd).length + (((("ask" : Str) :: r).drop (k + 1)).filter isAdd).length = ((("ask" : Str) :: r).filter isAdd).length := by
      rw [← List.length_append, ← List.filter_append, List.take_append_drop]
    omega
  · rcases List.mem_append.mp hw with hw | hw
    · rcases List.mem_append.mp hw with hw | hw
      · exact h4 w (List.mem_of_mem_take hw)
      · exact hx w hw
    · exact h4 w (List.mem_of_mem_drop hw)
theorem ask_round {ws : List Str} (h : ∀ w ∈ ws, Wd plain5 w) (hl : ws.length ≤ 11) : isRound (("ask" : Str) :: ws) = true ∧ ((("ask" : Str) :: ws).filter isAdd).length = 0 := by
  have e : ((("ask" : Str) :: ws).filter isAdd) = [] := by
    refine List.filter_eq_nil_iff.mpr fun w hw => ?_
    rcases List.mem_cons.mp hw with rfl | hw
    · rw [ask_noadd]; exact Bool.false_ne_true
    · rw [wd_plain (h w hw)]; exact Bool.false_ne_true
  refine ⟨isRound_iff.mpr ⟨ws, rfl, by rw [List.length_cons]; omega, by rw [e]; exact Nat.zero_le _, fun w hw => wd_round ((h w hw).mono (by decide +kernel))⟩, by rw [e]; rfl⟩
theorem one_filter {xs : List Str} (h : xs.length = 1) : (xs.filter isAdd).length ≤ 1 := Nat.le_trans (List.length_filter_le ..) (by omega)
theorem none_filter {xs : List Str} (h : ∀ w ∈ xs, Wd plain5 w) : (xs.filter isAdd).length = 0 := by
  rw [show xs.filter isAdd = [] from List.filter_eq_nil_iff.mpr fun w hw => by rw [wd_plain (h w hw)]; exact Bool.false_ne_true]
  rfl
theorem round_adds {B : List Str} (h : isRound B = true) : (B.filter isAdd).length ≤ 1 := let ⟨_, _, _, h3, _⟩ := isRound_iff.mp h; h3
theorem words_ending {E : List Str} (h : ∀ w ∈ E, Wd esteps w) (hl : E.length ≤ 6) : isEnding E = true := isEnding_iff.mpr ⟨hl, fun w hw => wd_ending (h w hw)⟩
/-! ### signs that are signs -/
def Asc (w : Str) : Prop := PyData.strOk w = true
theorem asc_iff {w : Str} : Asc w ↔ ∀ c ∈ tl w, c < 1114112 := by
  unfold Asc PyData.strOk
  rw [← Array.all_toList, List.all_eq_true]
  simp
theorem Asc.app {a b : Str} (ha : Asc a) (hb : Asc b) : Asc (a ++ b) := by
  rw [asc_iff] at ha hb ⊢
  rw [tl_append]
  intro c hc
  exact (List.mem_append.mp hc).elim (ha c) (hb c)
theorem asc_join {B : List Str} (h : ∀ w ∈ B, Asc w) : Asc (Txt.join " " B) := by
  rw [asc_iff, tl_joinSp]
  intro c hc
  rcases joinL_mem hc with hc | ⟨p, hp, hc⟩
  · rw [List.mem_singleton.mp hc]
    decide
  · obtain ⟨w, hw, rfl⟩ := List.mem_map.mp hp
    exact asc_iff.mp (h w hw) c hc
theorem asc_bar : Asc " | " := by unfold Asc; decide +kernel
theorem asc_text {B E : List Str} (h1 : ∀ w ∈ B, Asc w) (h2 : ∀ w ∈ E, Asc w) : Asc (textOf B E) := by
  unfold textOf
  split
  · exact asc_join h1
  · exact ((asc_join h1).app asc_bar).app (asc_join h2)
theorem wd_asc' : ∀ w ∈ allWd rsteps, PyData.strOk w = true := by decide +kernel
theorem wd_asc {w : Str} (h : Wd rsteps w) : Asc w := wd_asc' w h.mem
theorem ask_asc : Asc "ask" := by unfold Asc; decide +kernel
theorem round_asc {B : List Str} (h : isRound B = true) : ∀ w ∈ B, Asc w := by
  obtain ⟨r, rfl, _, _, h4⟩ := isRound_iff.mp h
  intro w hw
  rcases List.mem_cons.mp hw with rfl | hw
  · exact ask_asc
  · exact wd_asc (word_wd (h4 w hw))
theorem ending_asc {E : List Str} (h : isEnding E = true) : ∀ w ∈ E, Asc w := fun w hw => wd_asc ((word_wd ((isEnding_iff.mp h).2 w hw)).mono e_r)
end LM

/-! rows of pieces: what cutters make of them -/
namespace CH
def evenly (n w : Nat) : List Nat := List.replicate (n / w) w ++ (if n % w = 0 then [] else [n % w])
def chop (xs : List Nat) (w : Nat) : List Nat := xs.flatMap fun x => evenly x w
def tailS (xs : List Nat) (w : Nat) : List Nat := if 2 ≤ xs.length ∧ xs.getD (xs.length - 1) 0 < w then xs.take (xs.length - 2) ++ [xs.getD (xs.length - 2) 0 + xs.getD (xs.length - 1) 0] else xs
inductive Kd | cut | fill | tail
  deriving DecidableEq
def applyS (n : Nat) (c : Kd × Nat) (xs : List Nat) : List Nat := match c.1 with
  | .cut => chop xs c.2
  | .fill => evenly n c.2
  | .tail => tailS xs c.2
def wholeS (n : Nat) : List Nat := if n = 0 then [] else [n]
/-- the sizes of the pieces -/
def lens (cs : List (Kd × Nat)) (n : Nat) : List Nat := cs.foldl (fun xs c => applyS n c xs) (wholeS n)
structure Rw where
  unit : List Nat
  times : Nat
  last : List Nat
def Rw.sizes (r : Rw) : List Nat := (List.replicate r.times r.unit).flatten ++ r.last
def Rw.many (r : Rw) : Nat := r.times * r.unit.length + r.last.length
def Rw.tot (r : Rw) : Nat := r.times * r.unit.sum + r.last.sum
def fillR (r : Rw) (w : Nat) : Rw := ⟨[w], r.tot / w, if r.tot % w = 0 then [] else [r.tot % w]⟩
def cutR (r : Rw) (w : Nat) : Rw := if r.many = 1 then fillR r w else ⟨chop r.unit w, r.times, chop r.last w⟩
def pull (u : List Nat) : Nat → List Nat → Nat × List Nat
  | 0, l => (0, l)
  | t + 1, l => if l.length < 2 then pull u t (u ++ l) else (t + 1, l)
def tailR (r : Rw) (w : Nat) : Rw := ⟨r.unit, (pull r.unit r.times r.last).1, tailS (pull r.unit r.times r.last).2 w⟩
def wholeR (n : Nat) : Rw := ⟨[], 0, wholeS n⟩
def applyR (c : Kd × Nat) (r : Rw) : Rw := match c.1 with
  | .cut => cutR r c.2
  | .fill => fillR r c.2
  | .tail => tailR r c.2
def rowOf (cs : List (Kd × Nat)) (n : Nat) : Rw := cs.foldl (fun r c => applyR c r) (wholeR n)
/-! ### lists -/
theorem rep_len (u : List Nat) : ∀ t, (List.replicate t u).flatten.length = t * u.length
  | 0 => by simp
  | t + 1 => by rw [List.replicate_succ, List.flatten_cons, List.length_append, rep_len u t, Nat.succ_mul]; omega
theorem rep_sum (u : List Nat) : ∀ t, (List.replicate t u).flatten.sum = t * u.sum
  | 0 => by simp
  | t + 1 => by rw [List.replicate_succ, List.flatten_cons, List.sum_append, rep_sum u t, Nat.succ_mul]; omega
theorem sizes_len (r : Rw) : r.sizes.length = r.many := by unfold Rw.sizes Rw.many; rw [List.length_append, rep_len]
theorem sizes_sum (r : Rw) : r.sizes.sum = r.tot := by unfold Rw.sizes Rw.tot; rw [List.sum_append, rep_sum]
theorem flat_one (w : Nat) : ∀ t, (List.replicate t [w]).flatten = List.replicate t w
  | 0 => rfl
  | t + 1 => by rw [List.replicate_succ, List.flatten_cons, flat_one w t, List.replicate_succ]; rfl
theorem fill_sizes (r : Rw) (w : Nat) : (fillR r w).sizes = evenly r.tot w := by
  unfold fillR Rw.sizes evenly
  rw [flat_one]
theorem evenly_sum (n w : Nat) : (evenly n w).sum = n := by
  unfold evenly
  rw [List.sum_append, List.sum_replicate_nat]
  have := Nat.div_add_mod n w
  split
  · rw [List.sum_nil]; rw [Nat.mul_comm]; omega
  · rw [List.sum_singleton, Nat.mul_comm]; omega
theorem chop_app (a b : List Nat) (w : Nat) : chop (a ++ b) w = chop a w ++ chop b w := by unfold chop; rw [List.flatMap_append]
theorem chop_rep (u : List Nat) (w : Nat) : ∀ t, chop (List.replicate t u).flatten w = (List.replicate t (chop u w)).flatten
  | 0 => rfl
  | t + 1 => by rw [List.replicate_succ, List.flatten_cons, chop_app, chop_rep u w t, List.replicate_succ, List.flatten_cons]
theorem chop_sum (w : Nat) : ∀ xs, (chop xs w).sum = xs.sum
  | [] => rfl
  | x :: r => by
    show (evenly x w ++ chop r w).sum = _
    rw [List.sum_append, evenly_sum, chop_sum w r, List.sum_cons]
theorem cut_sizes (r : Rw) (w : Nat) : (cutR r w).sizes = chop r.sizes w := by
  unfold cutR
  split
  · rename_i h
    rw [fill_sizes]
    rw [← sizes_len] at h
    rw [← sizes_sum]
    match r.sizes, h with
    | [x], _ =>
      show evenly (x + 0) w = evenly x w ++ []
      rw [List.append_nil]; rfl
  · show (List.replicate r.times (chop r.unit w)).flatten ++ chop r.last w = _
    unfold Rw.sizes
    rw [chop_app, chop_rep]
theorem pull_sizes (u : List Nat) : ∀ (t : Nat) (l : List Nat), (List.replicate (pull u t l).1 u).flatten ++ (pull u t l).2 = (List.replicate t u).flatten ++ l
  | 0, l => rfl
  | t + 1, l => by
    unfold pull
    split
    · rw [pull_sizes u t (u ++ l), List.replicate_succ', List.flatten_append, List.append_assoc]
      simp
    · rfl
theorem pull_end (u : List Nat) : ∀ (t : Nat) (l : List Nat), (pull u t l).1 = 0 ∨ 2 ≤ (pull u t l).2.length
  | 0, l => .inl rfl
  | t + 1, l => by
    unfold pull
    split
    · exact pull_end u t (u ++ l)
    · right; show 2 ≤ l.length; omega
theorem getD_app (a b : List Nat) (i : Nat) (h : a.length ≤ i) : (a ++ b).getD i 0 = b.getD (i - a.length) 0 := by
  rw [List.getD_eq_getElem?_getD, List.getD_eq_getElem?_getD, List.getElem?_append_right h]
theorem tailS_app (a b : List Nat) (w : Nat) (h : 2 ≤ b.length) : tailS (a ++ b) w = a ++ tailS b w := by
  unfold tailS
  rw [List.length_append, getD_app a b _ (by omega), getD_app a b _ (by omega), show a.length + b.length - 1 - a.length = b.length - 1 by omega, show a.length + b.length - 2 - a.length = b.length - 2 by omega]
  by_cases c : b.getD (b.length - 1) 0 < w
  · rw [if_pos ⟨by omega, c⟩, if_pos ⟨h, c⟩, List.take_append, List.take_of_length_le (by omega), List.append_assoc, show a.length + b.length - 2 - a.length = b.length - 2 by omega]
  · rw [if_neg fun z => c z.2, if_neg fun z => c z.2]
theorem tail_sizes (r : Rw) (w : Nat) : (tailR r w).sizes = tailS r.sizes w := by
  show (List.replicate (pull r.unit r.times r.last).1 r.unit).flatten ++ tailS (pull r.unit r.times r.last).2 w = _
  have e := pull_sizes r.unit r.times r.last
  unfold Rw.sizes
  rw [← e]
  rcases pull_end r.unit r.times r.last with h | h
  · rw [h]; rfl
  · rw [tailS_app _ _ _ h]
theorem getD_eq {xs : List Nat} {i : Nat} (h : i < xs.length) : xs.getD i 0 = xs[i] := by rw [List.getD_eq_getElem?_getD, List.getElem?_eq_getElem h]; rfl
theorem two_last {xs : List Nat} (h : 2 ≤ xs.length) : xs = xs.take (xs.length - 2) ++ [xs.getD (xs.length - 2) 0, xs.getD (xs.length - 1) 0] := by
  have e : xs.drop (xs.length - 2) = [xs.getD (xs.length - 2) 0, xs.getD (xs.length - 1) 0] := by
    rw [List.drop_eq_getElem_cons (by omega), List.drop_eq_getElem_cons (by omega), List.drop_of_length_le (by omega)]
    rw [getD_eq (by omega), getD_eq (by omega)]
    have e : xs.length - 2 + 1 = xs.length - 1 := by omega
    simp [e]
  rw [← e, List.take_append_drop]
theorem tailS_sum (xs : List Nat) (w : Nat) : (tailS xs w).sum = xs.sum := by
  unfold tailS
  split
  · rename_i h
    rw [List.sum_append]
    conv => rhs; rw [two_last h.1]
    rw [List.sum_append]
    simp
  · rfl
theorem wholeS_sum (n : Nat) : (wholeS n).sum = n := by
  unfold wholeS
  split
  · rename_i h; rw [h]; rfl
  · simp
theorem applyS_sum (n : Nat) (c : Kd × Nat) (xs : List Nat) (h : xs.sum = n) : (applyS n c xs).sum = n := by
  unfold applyS
  split
  · rw [chop_sum, h]
  · rw [evenly_sum]
  · rw [tailS_sum, h]
theorem fold_sizes (n : Nat) : ∀ (cs : List (Kd × Nat)) (r : Rw) (xs : List Nat), r.sizes = xs → xs.sum = n → (cs.foldl (fun r c => applyR c r) r).sizes = cs.foldl (fun xs c => applyS n c xs) xs ∧ (cs.foldl (fun xs c => applyS n c xs) xs).sum = n
  | [], r, xs, h1, h2 => ⟨h1, h2⟩
  | c :: cs, r, xs, h1, h2 => by
    refine fold_sizes n cs (applyR c r) (applyS n c xs) ?_ (applyS_sum n c xs h2)
    unfold applyR applyS
    split
    · rw [cut_sizes, h1]
    · rw [fill_sizes, ← sizes_sum, h1, h2]
    · rw [tail_sizes, h1]
theorem row_sizes (cs : List (Kd × Nat)) (n : Nat) : (rowOf cs n).sizes = lens cs n := (fold_sizes n cs (wholeR n) (wholeS n) rfl (wholeS_sum n)).1
theorem lens_sum (cs : List (Kd × Nat)) (n : Nat) : (lens cs n).sum = n := (fold_sizes n cs (wholeR n) (wholeS n) rfl (wholeS_sum n)).2
theorem row_many (cs : List (Kd × Nat)) (n : Nat) : (rowOf cs n).many = (lens cs n).length := by rw [← sizes_len, row_sizes]
theorem row_tot (cs : List (Kd × Nat)) (n : Nat) : (rowOf cs n).tot = n := by rw [← sizes_sum, row_sizes, lens_sum]
/-! ### all pieces have items -/
def Pos (xs : List Nat) : Prop := ∀ x ∈ xs, 0 < x
theorem Pos.app {a b : List Nat} (ha : Pos a) (hb : Pos b) : Pos (a ++ b) := fun x h => (List.mem_append.mp h).elim (ha x) (hb x)
theorem Pos.len {xs : List Nat} (h : Pos xs) : xs.length ≤ xs.sum := by
  induction xs with
  | nil => simp
  | cons x r ih =>
    have a := h x (List.mem_cons_self ..)
    have b := ih fun y hy => h y (List.mem_cons_of_mem _ hy)
    rw [List.length_cons, List.sum_cons]
    omega
theorem pos_evenly {n w : Nat} (hw : 0 < w) : Pos (evenly n w) := by
  intro x hx
  unfold evenly at hx
  rcases List.mem_append.mp hx with h | h
  · rw [(List.mem_replicate.mp h).2]; exact hw
  · split at h
    · cases h
    · rw [List.mem_singleton.mp h]; omega
theorem pos_chop {xs : List Nat} {w : Nat} (hw : 0 < w) : Pos (chop xs w) := by
  intro x hx
  obtain ⟨y, _, h⟩ := List.mem_flatMap.mp hx
  exact pos_evenly hw x h
theorem pos_tailS {xs : List Nat} {w : Nat} (h : Pos xs) : Pos (tailS xs w) := by
  unfold tailS
  split
  · rename_i c
    refine Pos.app (fun x hx => h x (List.mem_of_mem_take hx)) fun x hx => ?_
    rw [List.mem_singleton.mp hx]
    have := h (xs.getD (xs.length - 2) 0) (by rw [getD_eq (by omega)]; exact List.getElem_mem _)
    omega
  · exact h
theorem pos_wholeS (n : Nat) : Pos (wholeS n) := by
  unfold wholeS
  split
  · intro x h; cases h
  · intro x h; rw [List.mem_singleton.mp h]; omega
theorem pos_rep {u : List Nat} {t : Nat} (h : Pos u) : Pos (List.replicate t u).flatten := by
  intro x hx
  obtain ⟨l, hl, hx⟩ := List.mem_flatten.mp hx
  rw [(List.mem_replicate.mp hl).2] at hx
  exact h x hx
/-- what holds of a row behind k cutters -/
structure Inv (k : Nat) (r : Rw) : Prop where
  pu : Pos r.unit
  pl : Pos r.last
  f : (r.unit = [] ∧ r.times = 0 ∧ r.last.length ≤ 1) ∨ (r.unit ≠ [] ∧ r.unit.sum ≤ 12 ∧ r.last.sum ≤ 24 * k + 12)
theorem inv_whole (n : Nat) : Inv 0 (wholeR n) := ⟨fun x h => (nomatch h), pos_wholeS n, .inl ⟨rfl, rfl, by show (wholeS n).length ≤ 1; unfold wholeS; split <;> simp⟩⟩
theorem inv_fill {k : Nat} {r : Rw} {w : Nat} (hw : 0 < w) (h12 : w ≤ 12) : Inv (k + 1) (fillR r w) := by
  refine ⟨fun x h => ?_, fun x h => ?_, .inr ⟨by simp [fillR], by show [w].sum ≤ 12; simpa using h12, ?_⟩⟩
  · rw [List.mem_singleton.mp h]; exact hw
  · unfold fillR at h
    simp only at h
    split at h
    · cases h
    · rw [List.mem_singleton.mp h]; omega
  · show (if r.tot % w = 0 then [] else [r.tot % w]).sum ≤ _
    have := Nat.mod_lt r.tot hw
    split
    · simp
    · simp; omega
theorem evenly_ne {n w : Nat} (hn : 0 < n) : evenly n w ≠ [] := fun e => by
  have := evenly_sum n w
  rw [e] at this
  simp at this
  omega
theorem inv_cut {k : Nat} {r : Rw} {w : Nat} (hw : 0 < w) (h12 : w ≤ 12) (h : Inv k r) : Inv (k + 1) (cutR r w) := by
  unfold cutR
  split
  · exact inv_fill hw h12
  · rename_i hm
    refine ⟨pos_chop hw, pos_chop hw, ?_⟩
    rcases h.f with ⟨a, b, c⟩ | ⟨a, b, c⟩
    · left
      refine ⟨by rw [a]; rfl, b, ?_⟩
      have : r.last.length = 0 := by
        unfold Rw.many at hm
        rw [b] at hm
        omega
      rw [List.eq_nil_of_length_eq_zero this]
      simp [chop]
    · right
      refine ⟨fun e => ?_, by rw [chop_sum]; exact b, by rw [chop_sum]; show r.last.sum ≤ _; omega⟩
      obtain ⟨x, u, hu⟩ := List.exists_cons_of_ne_nil a
      rw [hu] at e
      have e2 : evenly x w ++ chop u w = [] := e
      exact evenly_ne (h.pu x (by rw [hu]; exact List.mem_cons_self ..)) (List.append_eq_nil_iff.mp e2).1
theorem pull_len (u : List Nat) (hu : u ≠ []) : ∀ (t : Nat) (l : List Nat), (pull u t l).2.sum ≤ l.sum + (2 - l.length) * u.sum
  | 0, l => by show l.sum ≤ _; omega
  | t + 1, l => by
    unfold pull
    split
    · have ih := pull_len u hu t (u ++ l)
      have hl : 1 ≤ u.length := List.length_pos_iff.mpr hu
      rw [List.sum_append, List.length_append] at ih
      have : (2 - (u.length + l.length)) * u.sum ≤ (1 - l.length) * u.sum := Nat.mul_le_mul_right _ (by omega)
      have e : (2 - l.length) * u.sum = (1 - l.length) * u.sum + u.sum := by
        rw [show 2 - l.length = (1 - l.length) + 1 by omega, Nat.succ_mul]
      omega
    · show l.sum ≤ _; omega
theorem pos_pull {u : List Nat} (hu : Pos u) : ∀ (t : Nat) {l : List Nat}, Pos l → Pos (pull u t l).2
  | 0, l, h => h
  | t + 1, l, h => by
    unfold pull
    split
    · exact pos_pull hu t (hu.app h)
    · exact h
theorem inv_tail {k : Nat} {r : Rw} {w : Nat} (h : Inv k r) : Inv (k + 1) (tailR r w) := by
  refine ⟨h.pu, pos_tailS (pos_pull h.pu _ h.pl), ?_⟩
  rcases h.f with ⟨a, b, c⟩ | ⟨a, b, c⟩
  · left
    refine ⟨a, ?_, ?_⟩
    · show (pull r.unit r.times r.last).1 = 0
      rw [b]; rfl
    · show (tailS (pull r.unit r.times r.last).2 w).length ≤ 1
      rw [b]
      show (tailS r.last w).length ≤ 1
      unfold tailS
      rw [if_neg (fun z => by have := z.1; omega)]
      exact c
  · right
    refine ⟨a, b, ?_⟩
    show (tailS (pull r.unit r.times r.last).2 w).sum ≤ _
    rw [tailS_sum]
    have := pull_len r.unit a r.times r.last
    have : (2 - r.last.length) * r.unit.sum ≤ 2 * 12 := Nat.mul_le_mul (by omega) b
    omega
theorem inv_apply {k : Nat} {r : Rw} {c : Kd × Nat} (h1 : 0 < c.2) (h2 : c.2 ≤ 12) (h : Inv k r) : Inv (k + 1) (applyR c r) := by
  unfold applyR
  split
  · exact inv_cut h1 h2 h
  · exact inv_fill h1 h2
  · exact inv_tail h
/-! ### pieces and places -/
theorem take_rep (u : List Nat) : ∀ (t i : Nat), i < t * u.length → ((List.replicate t u).flatten.take i).sum = i / u.length * u.sum + (u.take (i % u.length)).sum ∧ (List.replicate t u).flatten[i]? = u[i % u.length]?
  | 0, i, h => by omega
  | t + 1, i, h => by
    rw [List.replicate_succ, List.flatten_cons]
    rw [Nat.succ_mul] at h
    by_cases c : i < u.length
    · rw [Nat.div_eq_of_lt c, Nat.mod_eq_of_lt c, List.take_append, List.getElem?_append_left c, show i - u.length = 0 by omega]
      simp
    · have hp : 0 < u.length := by
        rcases Nat.eq_zero_or_pos u.length with z | z
        · rw [z] at h; omega
        · exact z
      obtain ⟨a, b⟩ := take_rep u t (i - u.length) (by omega)
      rw [List.take_append, List.take_of_length_le (by omega), List.sum_append, List.getElem?_append_right (by omega), a, b, Nat.mod_eq_sub_mod (by omega : u.length ≤ i), Nat.div_eq_sub_div hp (by omega : u.length ≤ i)]
      refine ⟨?_, rfl⟩
      rw [Nat.succ_mul]
      omega
/-- the place of the piece with this item -/
def placeA : List Nat → Nat → Nat
  | [], _ => 0
  | x :: r, i => if i < x then 0 else 1 + placeA r (i - x)
theorem placeA_app : ∀ (a b : List Nat) (i : Nat), placeA (a ++ b) i = if i < a.sum then placeA a i else a.length + placeA b (i - a.sum)
  | [], b, i => by simp
  | x :: r, b, i => by
    rw [List.cons_append, List.sum_cons, List.length_cons]
    show (if i < x then 0 else 1 + placeA (r ++ b) (i - x)) = _
    have e : placeA (x :: r) i = if i < x then 0 else 1 + placeA r (i - x) := rfl
    rw [placeA_app r b, e]
    by_cases h1 : i < x
    · rw [if_pos h1, if_pos (by omega), if_pos h1]
    · rw [if_neg h1]
      by_cases h2 : i < x + r.sum
      · rw [if_pos h2, if_neg h1, if_pos (by omega)]
      · rw [if_neg h2, if_neg (by omega), show i - x - r.sum = i - (x + r.sum) by omega]
        omega
theorem placeA_rep (u : List Nat) : ∀ (t i : Nat), i < t * u.sum → placeA (List.replicate t u).flatten i = i / u.sum * u.length + placeA u (i % u.sum)
  | 0, i, h => by omega
  | t + 1, i, h => by
    rw [List.replicate_succ, List.flatten_cons, placeA_app]
    rw [Nat.succ_mul] at h
    by_cases c : i < u.sum
    · rw [if_pos c, Nat.div_eq_of_lt c, Nat.mod_eq_of_lt c]
      omega
    · rw [if_neg c]
      have hp : 0 < u.sum := by
        rcases Nat.eq_zero_or_pos u.sum with z | z
        · rw [z] at h; omega
        · exact z
      rw [placeA_rep u t (i - u.sum) (by omega), Nat.mod_eq_sub_mod (by omega : u.sum ≤ i), Nat.div_eq_sub_div hp (by omega : u.sum ≤ i), Nat.succ_mul]
      omega
theorem placeA_lt : ∀ (xs : List Nat) (i : Nat), i < xs.sum → placeA xs i < xs.length ∧ (xs.take (placeA xs i)).sum ≤ i ∧ i < (xs.take (placeA xs i)).sum + xs.getD (placeA xs i) 0
  | [], i, h => by simp at h
  | x :: r, i, h => by
    rw [List.sum_cons] at h
    have e : placeA (x :: r) i = if i < x then 0 else 1 + placeA r (i - x) := rfl
    rw [e]
    by_cases c : i < x
    · rw [if_pos c]
      simp
      exact c
    · rw [if_neg c]
      obtain ⟨a, b, d⟩ := placeA_lt r (i - x) (by omega)
      rw [Nat.add_comm 1, List.take_succ_cons, List.sum_cons, List.length_cons]
      refine ⟨by omega, by omega, ?_⟩
      show i < x + _ + (r.getD _ 0)
      omega
/-- the answers of a row -/
def pieceR (r : Rw) (p : Nat) : Nat × Nat := if p < r.times * r.unit.length then (p / r.unit.length * r.unit.sum + (r.unit.take (p % r.unit.length)).sum, r.unit.getD (p % r.unit.length) 0)
  else (r.times * r.unit.sum + (r.last.take (p - r.times * r.unit.length)).sum, r.last.getD (p - r.times * r.unit.length) 0)
def placeR (r : Rw) (i : Nat) : Nat := if i < r.times * r.unit.sum then i / r.unit.sum * r.unit.length + placeA r.unit (i % r.unit.sum) else r.times * r.unit.length + placeA r.last (i - r.times * r.unit.sum)
theorem piece_sizes (r : Rw) (p : Nat) : pieceR r p = ((r.sizes.take p).sum, r.sizes.getD p 0) := by
  unfold pieceR Rw.sizes
  split
  · rename_i h
    obtain ⟨a, b⟩ := take_rep r.unit r.times p h
    rw [List.take_append, show p - (List.replicate r.times r.unit).flatten.length = 0 by rw [rep_len]; omega]
    rw [List.getD_eq_getElem?_getD, List.getD_eq_getElem?_getD, List.getElem?_append_left (by rw [rep_len]; exact h), b]
    simp [a]
  · rename_i h
    rw [List.take_append, List.take_of_length_le (l := (List.replicate r.times r.unit).flatten) (by rw [rep_len]; omega), List.sum_append, rep_sum, rep_len, getD_app _ _ _ (by rw [rep_len]; omega), rep_len]
theorem place_sizes (r : Rw) (i : Nat) : placeR r i = placeA r.sizes i := by
  unfold placeR Rw.sizes
  rw [placeA_app, rep_sum, rep_len]
  split
  · rename_i h
    rw [placeA_rep _ _ _ h]
  · rfl
end CH
namespace CH
/-! ### where an item is -/
theorem sum_take_succ {xs : List Nat} {a : Nat} (h : a < xs.length) : (xs.take (a + 1)).sum = (xs.take a).sum + xs.getD a 0 := by
  rw [List.take_succ, List.sum_append, getD_eq h, List.getElem?_eq_getElem h]
  simp
theorem sum_take_mono {xs : List Nat} {a b : Nat} (h : a ≤ b) : (xs.take a).sum ≤ (xs.take b).sum := by
  have e : xs.take a = (xs.take b).take a := by rw [List.take_take, Nat.min_eq_left h]
  rw [e]
  have := congrArg List.sum (List.take_append_drop a (xs.take b))
  rw [List.sum_append] at this
  omega
theorem getD_pos {xs : List Nat} (h : Pos xs) {a : Nat} (ha : a < xs.length) : 0 < xs.getD a 0 := by
  rw [getD_eq ha]
  exact h _ (List.getElem_mem _)
theorem placeA_at : ∀ {xs : List Nat} {a i : Nat}, a < xs.length → (xs.take a).sum ≤ i → i < (xs.take a).sum + xs.getD a 0 → placeA xs i = a
  | [], _, _, h, _, _ => by simp at h
  | x :: r, 0, i, _, _, h3 => by
    have h3 : i < 0 + x := h3
    show (if i < x then 0 else 1 + placeA r (i - x)) = 0
    rw [if_pos (by omega)]
  | x :: r, a + 1, i, h1, h2, h3 => by
    rw [List.take_succ_cons, List.sum_cons] at h2 h3
    have h3 : i < x + (r.take a).sum + r.getD a 0 := h3
    have h1 : a < r.length := by simpa using h1
    show (if i < x then 0 else 1 + placeA r (i - x)) = a + 1
    rw [if_neg (by omega), placeA_at h1 (by omega) (by omega)]
    omega
/-- a piece begins with item 0 just if it is the first, and it has the last item just if it is the last -/
theorem begins {xs : List Nat} (h : Pos xs) {a : Nat} (ha : a < xs.length) : (xs.take a).sum = 0 ↔ a = 0 := by
  constructor
  · intro e
    cases a with
    | zero => rfl
    | succ a =>
      have := sum_take_succ (xs := xs) (a := a) (by omega)
      have := getD_pos h (a := a) (by omega)
      omega
  · intro e
    rw [e]
    rfl
theorem ends {xs : List Nat} (h : Pos xs) {a : Nat} (ha : a < xs.length) : (xs.take a).sum + xs.getD a 0 ≤ xs.sum ∧ ((xs.take a).sum + xs.getD a 0 = xs.sum ↔ a = xs.length - 1) := by
  have e := sum_take_succ ha
  rw [← e]
  have l : (xs.take (a + 1)).sum ≤ (xs.take xs.length).sum := sum_take_mono (by omega)
  rw [List.take_length] at l
  refine ⟨l, fun z => ?_, fun z => ?_⟩
  · rcases Nat.lt_or_ge (a + 1) xs.length with c | c
    · have e2 := sum_take_succ c
      have p := getD_pos h c
      have l2 : (xs.take (a + 1 + 1)).sum ≤ (xs.take xs.length).sum := sum_take_mono (by omega)
      rw [List.take_length] at l2
      omega
    · omega
  · rw [List.take_of_length_le (by omega)]
end CH

/-! texts of chains -/
namespace CH
open PySem L2 TL
def kdS : Kd → Str
  | .cut => "cut"
  | .fill => "fill"
  | .tail => "tail"
def nS (n : Nat) : Str := Str.ofString (toString ((n : Nat) : Int))
def kds : List Str := ["cut", "fill", "tail"]
def widths : List Str := (List.range 12).map fun i => nS (i + 1)
def kdOf (w : Str) : Option Kd := if w = "cut" then some .cut else if w = "fill" then some .fill else if w = "tail" then some .tail else none
def numOf (d : Str) : Option Nat := (List.range 12).findSome? fun i => if d = nS (i + 1) then some (i + 1) else none
def cutterOf (t : Str) : Option (Kd × Nat) := match kdOf (Txt.partition t " ").1, numOf (Txt.partition t " ").2.2 with
  | some k, some n => some (k, n)
  | _, _ => none
def parts (t : Str) : List Str := Txt.split t ", "
def goodC (t : Str) : Bool := (parts t).all (fun p => (cutterOf p).isSome) && decide ((parts t).length ≤ 6)
def cuttersOf (t : Str) : List (Kd × Nat) := (parts t).filterMap cutterOf
def cutT (c : Kd × Nat) : Str := kdS c.1 ++ (" " : Str) ++ nS c.2
def cline (cs : List (Kd × Nat)) : Str := Txt.join ", " (cs.map cutT)
theorem kdOf_some {w : Str} {k : Kd} (h : kdOf w = some k) : w = kdS k := by
  unfold kdOf at h
  by_cases c1 : w = "cut"
  · rw [if_pos c1] at h; cases h; exact c1
  rw [if_neg c1] at h
  by_cases c2 : w = "fill"
  · rw [if_pos c2] at h; cases h; exact c2
  rw [if_neg c2] at h
  by_cases c3 : w = "tail"
  · rw [if_pos c3] at h; cases h; exact c3
  rw [if_neg c3] at h
  cases h
theorem kdOf_none {w : Str} (h : kdOf w = none) : w ∉ kds := by
  unfold kdOf at h
  by_cases c1 : w = "cut"
  · rw [if_pos c1] at h; cases h
  rw [if_neg c1] at h
  by_cases c2 : w = "fill"
  · rw [if_pos c2] at h; cases h
  rw [if_neg c2] at h
  by_cases c3 : w = "tail"
  · rw [if_pos c3] at h; cases h
  intro z
  simp [kds, c1, c2, c3] at z
theorem kdOf_kdS (k : Kd) : kdOf (kdS k) = some k := by cases k <;> decide +kernel
theorem numOf_some {d : Str} {n : Nat} (h : numOf d = some n) : d = nS n ∧ 1 ≤ n ∧ n ≤ 12 := by
  obtain ⟨i, hi, e⟩ := List.exists_of_findSome?_eq_some h
  have := List.mem_range.mp hi
  split at e
  · rename_i c
    cases e
    exact ⟨c, by omega, by omega⟩
  · cases e
theorem numOf_mem (d : Str) : decide (d ∈ widths) = (numOf d).isSome := by
  cases h : numOf d with
  | none =>
    refine decide_eq_false fun z => ?_
    obtain ⟨i, hi, e⟩ := List.mem_map.mp z
    have := List.findSome?_eq_none_iff.mp h i hi
    rw [if_pos e.symm] at this
    cases this
  | some n =>
    obtain ⟨e, h1, h2⟩ := numOf_some h
    refine decide_eq_true (List.mem_map.mpr ⟨n - 1, List.mem_range.mpr (by omega), ?_⟩)
    rw [e, show n - 1 + 1 = n by omega]
/-- all cutters -/
def allC : List (Kd × Nat) := [Kd.cut, Kd.fill, Kd.tail].flatMap fun k => (List.range 12).map fun i => (k, i + 1)
def Ct (c : Kd × Nat) : Prop := 1 ≤ c.2 ∧ c.2 ≤ 12
theorem Ct.mem {c : Kd × Nat} (h : Ct c) : c ∈ allC := by
  obtain ⟨k, n⟩ := c
  refine List.mem_flatMap.mpr ⟨k, by cases k <;> simp, List.mem_map.mpr ⟨n - 1, List.mem_range.mpr ?_, ?_⟩⟩
  · have := h.2
    have := h.1
    show n - 1 < 12
    omega
  · have := h.1
    show (k, n - 1 + 1) = (k, n)
    rw [show n - 1 + 1 = n by have : 1 ≤ n := h.1; omega]
def okC (c : Kd × Nat) : Bool := decide (cutterOf (cutT c) = some c) && (decide (44 ∉ tl (cutT c)) && (decide ((cutT c).length ≤ 7) && (PyData.strOk (cutT c) && (decide ((kdS c.1 ++ (" " : Str)).length ≤ 5) && decide (Txt.split (cutT c) " " = [kdS c.1, nS c.2])))))
theorem allC_ok : ∀ c ∈ allC, okC c = true := by decide +kernel
structure CtF (c : Kd × Nat) : Prop where
  p : cutterOf (cutT c) = some c
  m : 44 ∉ tl (cutT c)
  l : (cutT c).length ≤ 7
  a : PyData.strOk (cutT c) = true
  s : Txt.split (cutT c) " " = [kdS c.1, nS c.2]
theorem Ct.f {c : Kd × Nat} (h : Ct c) : CtF c := by
  have q := allC_ok c h.mem
  unfold okC at q
  simp only [Bool.and_eq_true, decide_eq_true_eq] at q
  exact ⟨q.1, q.2.1, q.2.2.1, q.2.2.2.1, q.2.2.2.2.2⟩
theorem nS_len {n : Nat} (h : n ≤ 12) : (nS n).length ≤ 2 := by
  have : ∀ i ∈ List.range 13, (nS i).length ≤ 2 := by decide +kernel
  exact this n (List.mem_range.mpr (by omega))
theorem cutter_ct {t : Str} {c : Kd × Nat} (h : cutterOf t = some c) : Ct c := by
  unfold cutterOf at h
  split at h
  · rename_i k n h1 h2
    cases h
    exact (numOf_some h2).2
  · cases h
theorem cutters_ct {t : Str} : ∀ c ∈ cuttersOf t, Ct c := fun c h => by
  obtain ⟨p, _, e⟩ := List.mem_filterMap.mp h
  exact cutter_ct e
theorem cutters_len {t : Str} (h : goodC t = true) : (cuttersOf t).length ≤ 6 ∧ (cuttersOf t).length = (parts t).length := by
  unfold goodC at h
  rw [Bool.and_eq_true, List.all_eq_true] at h
  have e : ∀ (l : List Str), (∀ p ∈ l, (cutterOf p).isSome = true) → (l.filterMap cutterOf).length = l.length := by
    intro l
    induction l with
    | nil => intro _; rfl
    | cons p r ih =>
      intro hp
      obtain ⟨c, hc⟩ := Option.isSome_iff_exists.mp (hp p (List.mem_cons_self ..))
      rw [List.filterMap_cons, hc, List.length_cons, List.length_cons, ih fun q hq => hp q (List.mem_cons_of_mem _ hq)]
  have := e (parts t) h.1
  have h2 := of_decide_eq_true h.2
  unfold cuttersOf
  omega
theorem tlCm : tl (", " : Str) = [44, 32] := by decide +kernel
theorem parts_line {cs : List (Kd × Nat)} (ne : cs ≠ []) (h : ∀ c ∈ cs, Ct c) : parts (cline cs) = cs.map cutT :=
  split_join (s := 44) (S := [32]) tlCm (by decide +kernel) (fun e => ne (List.map_eq_nil_iff.mp e)) fun p hp => by
    obtain ⟨c, hc, rfl⟩ := List.mem_map.mp hp
    exact (h c hc).f.m
theorem line_good {cs : List (Kd × Nat)} (ne : cs ≠ []) (h : ∀ c ∈ cs, Ct c) (hl : cs.length ≤ 6) : goodC (cline cs) = true := by
  unfold goodC
  rw [parts_line ne h, Bool.and_eq_true, List.all_eq_true, List.length_map]
  refine ⟨fun p hp => ?_, decide_eq_true hl⟩
  obtain ⟨c, hc, rfl⟩ := List.mem_map.mp hp
  rw [(h c hc).f.p]
  rfl
theorem line_cutters {cs : List (Kd × Nat)} (ne : cs ≠ []) (h : ∀ c ∈ cs, Ct c) : cuttersOf (cline cs) = cs := by
  unfold cuttersOf
  rw [parts_line ne h]
  clear ne
  induction cs with
  | nil => rfl
  | cons c r ih =>
    rw [List.map_cons, List.filterMap_cons, (h c (List.mem_cons_self ..)).f.p, ih fun q hq => h q (List.mem_cons_of_mem _ hq)]
theorem joinC_len : ∀ B : List Str, (Txt.join ", " B).length ≤ (B.map (·.length)).sum + B.length * 2 := by
  intro B
  rw [len_tl, join_eq, tl_join, tlCm]
  induction B with
  | nil => simp [joinL]
  | cons w r ih =>
    cases r with
    | nil =>
      show (tl w).length ≤ _
      rw [← len_tl]
      simp
    | cons x r =>
      show (tl w ++ ([44, 32] ++ joinL [44, 32] ((x :: r).map tl))).length ≤ _
      rw [List.length_append, List.length_append, ← len_tl]
      simp only [List.map_cons, List.sum_cons, List.length_cons, List.length_nil] at ih ⊢
      omega
theorem line_sum {cs : List (Kd × Nat)} (h : ∀ c ∈ cs, Ct c) : ((cs.map cutT).map (·.length)).sum ≤ 7 * cs.length := by
  have := LM.sum_le (n := 7) (B := cs.map cutT) fun w hw => by
    obtain ⟨c, hc, rfl⟩ := List.mem_map.mp hw
    exact (h c hc).f.l
  rwa [List.length_map] at this
theorem line_len {cs : List (Kd × Nat)} (h : ∀ c ∈ cs, Ct c) : (cline cs).length ≤ 9 * cs.length := by
  have a := joinC_len (cs.map cutT)
  have b := line_sum h
  rw [List.length_map] at a
  unfold cline
  omega
theorem splitC (x : Str) : (parts x).map tl = spl [44, 32] 0 [] (tl x) := by
  have := split_spl x ", " (by rw [tlCm]; simp) (kind_ok (by decide +kernel))
  rwa [tlCm] at this
theorem parts_len (x : Str) : (parts x).length ≤ x.length + 1 := by
  have := LM.spl_len [44, 32] 0 [] (tl x)
  rw [← splitC, List.length_map, ← len_tl] at this
  exact this
theorem parts_word {x w : Str} (h : w ∈ parts x) : w.length ≤ x.length := by
  have := LM.spl_word [44, 32] 0 [] (tl x) (tl w) (by rw [← splitC]; exact List.mem_map.mpr ⟨w, h, rfl⟩)
  rw [← len_tl, ← len_tl] at this
  simpa using this
/-- plain signs -/
theorem asc_joinC {B : List Str} (h : ∀ w ∈ B, LM.Asc w) : LM.Asc (Txt.join ", " B) := by
  rw [LM.asc_iff, join_eq, tl_join, tlCm]
  intro c hc
  rcases LM.joinL_mem hc with h1 | ⟨p, hp, h1⟩
  · have : c = 44 ∨ c = 32 := by simpa using h1
    omega
  · obtain ⟨w, hw, rfl⟩ := List.mem_map.mp hp
    exact LM.asc_iff.mp (h w hw) c h1
theorem line_asc {cs : List (Kd × Nat)} (h : ∀ c ∈ cs, Ct c) : LM.Asc (cline cs) := asc_joinC fun w hw => by
  obtain ⟨c, hc, rfl⟩ := List.mem_map.mp hw
  exact (h c hc).f.a
theorem line_inj {a b : List (Kd × Nat)} (na : a ≠ []) (nb : b ≠ []) (ha : ∀ c ∈ a, Ct c) (hb : ∀ c ∈ b, Ct c) (e : cline a = cline b) : a = b := by
  rw [← line_cutters na ha, e, line_cutters nb hb]
end CH

/-! texts of chains, read by splitting at spaces; changed texts -/
namespace CH
open PySem L2 TL
def pieceOk (p : Str) : Bool := match Txt.split p " " with
  | [a, b] => decide (a ∈ kds) && decide (b ∈ widths)
  | _ => false
theorem nS_ne {n : Nat} (h1 : 1 ≤ n) (h2 : n ≤ 12) : nS n ≠ Str.empty := by
  have : ∀ i ∈ List.range 13, 1 ≤ i → nS i ≠ Str.empty := by decide +kernel
  exact this n (List.mem_range.mpr (by omega)) h1
theorem kdS_mem (k : Kd) : kdS k ∈ kds := by cases k <;> decide +kernel
theorem mem_kds {w : Str} (h : w ∈ kds) : ∃ k, w = kdS k := by
  cases e : kdOf w with
  | none => exact absurd h (kdOf_none e)
  | some k => exact ⟨k, kdOf_some e⟩
theorem mem_wid {d : Str} (h : d ∈ widths) : ∃ n, d = nS n ∧ 1 ≤ n ∧ n ≤ 12 := by
  have q := numOf_mem d
  rw [decide_eq_true h] at q
  obtain ⟨n, e⟩ := Option.isSome_iff_exists.mp q.symm
  exact ⟨n, numOf_some e⟩
theorem wid_mem {n : Nat} (h1 : 1 ≤ n) (h2 : n ≤ 12) : nS n ∈ widths := List.mem_map.mpr ⟨n - 1, List.mem_range.mpr (by omega), by rw [show n - 1 + 1 = n by omega]⟩
theorem cutter_text {p : Str} {c : Kd × Nat} (h : cutterOf p = some c) : p = cutT c := by
  unfold cutterOf at h
  cases h1 : kdOf (Txt.partition p " ").1 with
  | none => rw [h1] at h; cases h
  | some k =>
    cases h2 : numOf (Txt.partition p " ").2.2 with
    | none => rw [h1, h2] at h; cases h
    | some n =>
      rw [h1, h2] at h
      cases h
      obtain ⟨e, n1, n2⟩ := numOf_some h2
      have e0 := kdOf_some h1
      have hne : ((Txt.partition p " ").2.1.length != 0) = true := by
        rcases PyProof.Rows.partition_whole p " " with ⟨z, _⟩ | ⟨i, z, _⟩
        · rw [z] at e
          exact absurd e.symm (nS_ne n1 n2)
        · rw [z]
          show ((" " : Str).length != 0) = true
          decide +kernel
      have := LM.part_back hne
      rw [e0, e] at this
      exact this
theorem piece_iff (p : Str) : pieceOk p = (cutterOf p).isSome := by
  cases h : cutterOf p with
  | some c =>
    have ct := cutter_ct h
    unfold pieceOk
    rw [cutter_text h, ct.f.s]
    show (decide (kdS c.1 ∈ kds) && decide (nS c.2 ∈ widths)) = true
    rw [decide_eq_true (kdS_mem _), decide_eq_true (wid_mem ct.1 ct.2)]
    rfl
  | none =>
    cases hp : pieceOk p with
    | false => rfl
    | true =>
      unfold pieceOk at hp
      split at hp
      · rename_i a b e
        rw [Bool.and_eq_true] at hp
        obtain ⟨k, rfl⟩ := mem_kds (of_decide_eq_true hp.1)
        obtain ⟨n, rfl, n1, n2⟩ := mem_wid (of_decide_eq_true hp.2)
        have j := PySem.StrLaws.join_split p " "
        rw [e] at j
        have j : kdS k ++ (" " : Str) ++ nS n = p := j
        have ct : Ct (k, n) := ⟨n1, n2⟩
        have := ct.f.p
        rw [show cutT (k, n) = p from j, h] at this
        cases this
      · cases hp
theorem good_line (t : Str) : goodC t = (decide ((parts t).length ≤ 6) && (parts t).all pieceOk) := by
  unfold goodC
  rw [Bool.and_comm]
  congr 1
  congr 1
  funext p
  exact (piece_iff p).symm
/-! ### signs of changed texts -/
theorem asc_cut {z : Str} (h : LM.Asc z) (lo hi : Option Int) : LM.Asc (cutS z lo hi) := by
  rw [LM.asc_iff] at h ⊢
  intro c hc
  refine h c ?_
  have : tl (cutS z lo hi) = ((tl z).drop (HT.sIx z.length 0 lo)).take (HT.sIx z.length z.length hi - HT.sIx z.length 0 lo) := rfl
  rw [this] at hc
  exact List.mem_of_mem_drop (List.mem_of_mem_take hc)
theorem spl_in (S : List Nat) : ∀ (k : Nat) (acc l : List Nat), ∀ p ∈ spl S k acc l, ∀ c ∈ p, c ∈ acc ∨ c ∈ l
  | k, acc, [], p, hp, c, hc => by
    rw [spl_nil] at hp
    rw [List.mem_singleton.mp hp] at hc
    exact .inl hc
  | 0, acc, x :: r, p, hp, c, hc => by
    cases h : pre S (x :: r) with
    | true =>
      rw [spl_hit h] at hp
      rcases List.mem_cons.mp hp with rfl | hp
      · exact .inl hc
      · rcases spl_in S (S.length - 1) [] r p hp c hc with h | h
        · exact nomatch h
        · exact .inr (List.mem_cons_of_mem _ h)
    | false =>
      rw [spl_miss h] at hp
      rcases spl_in S 0 (acc ++ [x]) r p hp c hc with h | h
      · rcases List.mem_append.mp h with h | h
        · exact .inl h
        · rw [List.mem_singleton.mp h]
          exact .inr List.mem_cons_self
      · exact .inr (List.mem_cons_of_mem _ h)
  | k + 1, acc, x :: r, p, hp, c, hc => by
    have hp : p ∈ spl S k acc r := hp
    rcases spl_in S k acc r p hp c hc with h | h
    · exact .inl h
    · exact .inr (List.mem_cons_of_mem _ h)
theorem asc_parts {z : Str} (h : LM.Asc z) : ∀ p ∈ parts z, LM.Asc p := fun p hp => by
  rw [LM.asc_iff] at h ⊢
  intro c hc
  rcases spl_in [44, 32] 0 [] (tl z) (tl p) (by rw [← splitC]; exact List.mem_map.mpr ⟨p, hp, rfl⟩) c hc with q | q
  · exact nomatch q
  · exact h c q
theorem parts_ne (z : Str) : parts z ≠ [] := fun e => by
  have := splitC z
  rw [e] at this
  have l := congrArg List.length this
  have : ∀ (k : Nat) (acc l : List Nat), spl [44, 32] k acc l ≠ [] := by
    intro k acc l
    induction l generalizing k acc with
    | nil => rw [spl_nil]; simp
    | cons x r ih =>
      cases k with
      | zero =>
        cases h : pre [44, 32] (x :: r) with
        | true => rw [spl_hit h]; simp
        | false => rw [spl_miss h]; exact ih _ _
      | succ k => exact ih _ _
  exact this 0 [] (tl z) (List.length_eq_zero_iff.mp l.symm)
/-- a changed text: plain signs, not long -/
structure Chg (t : Str) : Prop where
  a : LM.Asc t
  l : t.length ≤ 50000
/-- rows of such pieces -/
structure ChgL (n k : Nat) (ws : List Str) : Prop where
  a : ∀ w ∈ ws, LM.Asc w ∧ w.length ≤ k
  l : ws.length ≤ n
theorem ChgL.sum {n k : Nat} {ws : List Str} (h : ChgL n k ws) : (ws.map (·.length)).sum ≤ k * n := by
  have := LM.sum_le (n := k) (B := ws) fun w hw => (h.a w hw).2
  exact Nat.le_trans this (Nat.mul_le_mul_left _ h.l)
theorem ChgL.join {n k : Nat} {ws : List Str} (h : ChgL n k ws) (hz : k * n + n * 2 ≤ 50000) : Chg (Txt.join ", " ws) := by
  refine ⟨asc_joinC fun w hw => (h.a w hw).1, ?_⟩
  have a := joinC_len ws
  have b := h.sum
  have c := h.l
  omega
theorem ChgL.take {n k m : Nat} {ws : List Str} (h : ChgL n k ws) : ChgL n k (ws.take m) := ⟨fun w hw => h.a w (List.mem_of_mem_take hw), by rw [List.length_take]; have := h.l; omega⟩
theorem ChgL.drop {n k m : Nat} {ws : List Str} (h : ChgL n k ws) : ChgL n k (ws.drop m) := ⟨fun w hw => h.a w (List.mem_of_mem_drop hw), by rw [List.length_drop]; have := h.l; omega⟩
theorem ChgL.app {n m k : Nat} {ws us : List Str} (h : ChgL n k ws) (h2 : ChgL m k us) : ChgL (n + m) k (ws ++ us) := ⟨fun w hw => (List.mem_append.mp hw).elim (h.a w) (h2.a w), by rw [List.length_append]; have := h.l; have := h2.l; omega⟩
theorem parts_chg {z : Str} (h : LM.Asc z) (hl : z.length ≤ 100) : ChgL 101 100 (parts z) := ⟨fun w hw => ⟨asc_parts h w hw, Nat.le_trans (parts_word hw) hl⟩, by have := parts_len z; omega⟩
end CH
namespace CH
open PySem L2
/-- a text times an int -/
theorem op_mulS {X : Cx} : OpR X (binaryOp .Mult) (fun x y H Q => ∃ a n, x = .str a ∧ y = .int n ∧ MulOk a n ∧ Q (.str (Txt.mul a n)) H) := by
  intro pins s σ H x y v u Q I rx ry h
  obtain ⟨a, n, rfl, rfl, hok, q⟩ := h
  obtain ⟨t, rfl⟩ := rx
  obtain ⟨t', rfl⟩ := ry
  exact SB.mul hok fun t' tk => ⟨.str (Txt.mul a n), H, I.tok _, ⟨_, rfl⟩, q⟩
end CH

/-! texts of loops, read by splitting alone -/
namespace LM
open PySem L2 TL
theorem spl_par {s : Nat} {S : List Nat} : ∀ (L acc : List Nat), spl (s :: S) 0 acc L = match par (s :: S) acc L with | some (p, q) => p :: spl (s :: S) 0 [] q | none => [acc ++ L]
  | [], acc => by rw [spl_nil]; simp [par]
  | c :: r, acc => by
    cases h : pre (s :: S) (c :: r) with
    | true =>
      rw [spl_hit h, spl_pass]
      show _ = match (if pre (s :: S) (c :: r) = true then some (acc, (c :: r).drop (s :: S).length) else par (s :: S) (acc ++ [c]) r) with | some (p, q) => p :: spl (s :: S) 0 [] q | none => [acc ++ c :: r]
      rw [if_pos h]
      rfl
    | false =>
      rw [spl_miss h, spl_par r (acc ++ [c])]
      show _ = match (if pre (s :: S) (c :: r) = true then some (acc, (c :: r).drop (s :: S).length) else par (s :: S) (acc ++ [c]) r) with | some (p, q) => p :: spl (s :: S) 0 [] q | none => [acc ++ c :: r]
      rw [if_neg (by rw [h]; exact Bool.false_ne_true)]
      cases par (s :: S) (acc ++ [c]) r with
      | none => simp
      | some z => rfl
theorem map_tl_inj : ∀ {a b : List Str}, a.map tl = b.map tl → a = b
  | [], [], _ => rfl
  | [], _ :: _, h => by simp at h
  | _ :: _, [], h => by simp at h
  | x :: r, y :: q, h => by
    rw [List.map_cons, List.map_cons] at h
    injection h with h1 h2
    rw [ext_tl h1, map_tl_inj h2]
theorem split_part (x : Str) {y : Str} {s : Nat} {S : List Nat} (ey : tl y = s :: S) (hk : y.cps.all (· < 256) = true) :
    (Txt.partition x y = (x, Str.empty, Str.empty) ∧ Txt.split x y = [x]) ∨ ∃ a b, Txt.partition x y = (a, y, b) ∧ Txt.split x y = a :: Txt.split b y := by
  have hy : tl y ≠ [] := by rw [ey]; simp
  have h1 := partition_par x y hy
  have h2 := split_spl x y hy (kind_ok hk)
  have h3 := spl_par (s := s) (S := S) (tl x) []
  rw [ey] at h1 h2
  rw [h3] at h2
  cases h : par (s :: S) [] (tl x) with
  | none =>
    rw [h] at h1 h2
    exact .inl ⟨h1, map_tl_inj (by rw [h2]; rfl)⟩
  | some z =>
    obtain ⟨p, q⟩ := z
    rw [h] at h1 h2
    refine .inr ⟨_, _, h1, map_tl_inj ?_⟩
    rw [h2, List.map_cons, split_spl _ y hy (kind_ok hk), ey]
theorem tlCol : tl (":" : Str) = 58 :: [] := by decide +kernel
theorem part_col (w : Str) : (Txt.partition w ":" = (w, Str.empty, Str.empty) ∧ Txt.split w ":" = [w]) ∨ ∃ a b, Txt.partition w ":" = (a, (":" : Str), b) ∧ Txt.split w ":" = a :: Txt.split b ":" := split_part w tlCol (by decide +kernel)
theorem part_bar (w : Str) : (Txt.partition w " | " = (w, Str.empty, Str.empty) ∧ Txt.split w " | " = [w]) ∨ ∃ a b, Txt.partition w " | " = (a, (" | " : Str), b) ∧ Txt.split w " | " = a :: Txt.split b " | " := split_part w tlBar (by decide +kernel)
/-! ### words -/
def isWordL (w : Str) (ss : List Str) : Bool := match Txt.split w ":" with
  | [a] => decide (a ∈ ss)
  | [a, b] => decide (a ∈ tests) && decide (b ∈ ss)
  | _ => false
def NoCol (ss : List Str) : Prop := ∀ s ∈ ss, 58 ∉ tl s
theorem nocol_r : NoCol rsteps := by unfold NoCol; decide +kernel
theorem nocol_e : NoCol esteps := by unfold NoCol; decide +kernel
theorem back_of {x y a b : Str} (hy : (y.length != 0) = true) (h : Txt.partition x y = (a, y, b)) : x = a ++ y ++ b := by
  have := part_back (x := x) (y := y) (by rw [h]; exact hy)
  rw [h] at this
  exact this
theorem col_len : ((":" : Str).length != 0) = true := by decide +kernel
theorem emp_len : ((Str.empty).length != 0) = false := rfl
theorem wordL_eq {w : Str} {ss : List Str} (hn : NoCol ss) : isWordL w ss = isWord w ss := by
  unfold isWordL isWord
  rcases part_col w with ⟨hp, hs⟩ | ⟨a, b, hp, hs⟩
  · rw [hs, hp, emp_len]
    rfl
  · rcases part_col b with ⟨hp2, hs2⟩ | ⟨a2, b2, hp2, hs2⟩
    · rw [hs, hs2, hp, col_len]
      rfl
    · rw [hs, hs2, hp, col_len]
      have hb := back_of col_len hp2
      have nb : b ∉ ss := fun z => hn b z (by rw [hb, tl_append, tl_append, tlCol]; simp)
      cases hs3 : Txt.split b2 ":" with
      | nil => exact absurd hs3 (split_ne _ _)
      | cons c r =>
        show false = (decide (a ∈ tests) && decide (b ∈ ss))
        rw [decide_eq_false nb, Bool.and_false]
def isAddL (w : Str) : Bool := decide ((Txt.split w ":").getLast? = some "add")
theorem addL_eq {w : Str} {ss : List Str} (h : isWordL w ss = true) : isAddL w = isAdd w := by
  unfold isWordL at h
  unfold isAddL isAdd orderOf
  rcases part_col w with ⟨hp, hs⟩ | ⟨a, b, hp, hs⟩
  · rw [hs, hp, emp_len]
    show decide (some w = some "add") = decide (w = "add")
    simp
  · rcases part_col b with ⟨hp2, hs2⟩ | ⟨a2, b2, hp2, hs2⟩
    · rw [hs, hs2, hp, col_len]
      show decide (some b = some "add") = decide (b = "add")
      simp
    · rw [hs, hs2] at h
      cases hs3 : Txt.split b2 ":" with
      | nil => exact absurd hs3 (split_ne _ _)
      | cons c r =>
        rw [hs3] at h
        cases h
theorem ask_add : isAddL "ask" = isAdd "ask" := by decide +kernel
/-! ### whole texts -/
def okL (B E : List Str) : Bool := decide (B.head? = some "ask") && (decide (B.length ≤ 12) && (decide (E.length ≤ 6) && (decide ((B.filter isAddL).length ≤ 1) && ((B.tail.all fun w => isWordL w rsteps) && E.all fun w => isWordL w esteps))))
def textL (t : Str) : Bool := match Txt.split t " | " with
  | [a] => okL (Txt.split a " ") []
  | [a, b] => okL (Txt.split a " ") (Txt.split b " ")
  | _ => false
theorem all_eq {ws ss : List Str} (hn : NoCol ss) : (ws.all fun w => isWordL w ss) = areWords ws ss := by
  unfold areWords
  congr 1
  funext w
  exact wordL_eq hn
theorem okL_eq (B E : List Str) : okL B E = (isRound B && isEnding E) := by
  unfold okL isRound isEnding
  rw [all_eq nocol_r, all_eq nocol_e]
  by_cases h1 : B.head? = some "ask"
  · cases h2 : areWords B.tail rsteps with
    | false => simp
    | true =>
      have e : B.filter isAddL = B.filter isAdd := List.filter_congr fun w hw => by
        cases B with
        | nil => exact nomatch hw
        | cons x r =>
          cases (Option.some.inj h1)
          rcases List.mem_cons.mp hw with rfl | hw
          · exact ask_add
          · exact addL_eq (ss := rsteps) (by rw [wordL_eq nocol_r]; exact List.all_eq_true.mp h2 w hw)
      rw [e, decide_eq_true h1]
      cases decide (B.length ≤ 12) <;> cases decide (E.length ≤ 6) <;> cases decide ((B.filter isAdd).length ≤ 1) <;> cases areWords E esteps <;> rfl
  · rw [decide_eq_false h1]
    rfl
theorem spl_app1 {c : Nat} : ∀ (u acc v : List Nat), spl [c] 0 acc (u ++ c :: v) = spl [c] 0 acc u ++ spl [c] 0 [] v
  | [], acc, v => by
    have : pre [c] (c :: v) = true := by simp [pre]
    rw [List.nil_append, spl_hit this, spl_nil]
    rfl
  | x :: r, acc, v => by
    rw [List.cons_append]
    cases h : pre [c] (x :: r) with
    | true =>
      have h' : pre [c] (x :: (r ++ c :: v)) = true := by simpa [pre] using h
      rw [spl_hit h, spl_hit h']
      show acc :: spl [c] 0 [] (r ++ c :: v) = acc :: spl [c] 0 [] r ++ _
      rw [spl_app1 r [] v]
      rfl
    | false =>
      have h' : pre [c] (x :: (r ++ c :: v)) = false := by simpa [pre] using h
      rw [spl_miss h, spl_miss h', spl_app1 r (acc ++ [x]) v]
theorem bar_in {a b : Str} : ("|" : Str) ∈ Txt.split (a ++ " | " ++ b) " " := by
  have h := split_spl (a ++ " | " ++ b) " " (by rw [tlSp]; simp) (kind_ok (by decide +kernel))
  rw [tl_append, tl_append, tlSp, tlBar] at h
  have e : tl a ++ 32 :: [124, 32] ++ tl b = tl a ++ 32 :: ([124] ++ 32 :: tl b) := by simp
  rw [e, spl_app1, spl_app1] at h
  have m : ([124] : List Nat) ∈ (Txt.split (a ++ " | " ++ b) " ").map tl := by
    rw [h]
    have : spl [32] 0 [] [124] = [[124]] := by decide +kernel
    rw [this]
    simp
  obtain ⟨w, hw, ew⟩ := List.mem_map.mp m
  have : w = ("|" : Str) := ext_tl (by rw [ew]; decide +kernel)
  exact this ▸ hw
theorem textL_eq (t : Str) : textL t = goodText t := by
  unfold textL goodText wordsR wordsE
  have bl : ((" | " : Str).length != 0) = true := by decide +kernel
  rcases part_bar t with ⟨hp, hs⟩ | ⟨a, b, hp, hs⟩
  · rw [hs, hp, emp_len]
    exact okL_eq _ _
  · rcases part_bar b with ⟨hp2, hs2⟩ | ⟨a2, b2, hp2, hs2⟩
    · rw [hs, hs2, hp, bl]
      exact okL_eq _ _
    · rw [hs, hs2, hp, bl]
      cases hs3 : Txt.split b2 " | " with
      | nil => exact absurd hs3 (split_ne _ _)
      | cons c r =>
        show false = (isRound _ && isEnding (Txt.split b " "))
        have hb := back_of bl hp2
        have : isEnding (Txt.split b " ") = false := by
          unfold isEnding areWords
          rw [Bool.and_eq_false_iff]
          refine .inr (List.all_eq_false.mpr ⟨"|", by rw [hb]; exact bar_in, by decide +kernel⟩)
        rw [this, Bool.and_false]
theorem split_lenY {x y : Str} {s : Nat} {S : List Nat} (ey : tl y = s :: S) (hk : y.cps.all (· < 256) = true) : (Txt.split x y).length ≤ x.length + 1 ∧ ∀ w ∈ Txt.split x y, w.length ≤ x.length ∧ (Asc x → Asc w) := by
  have hy : tl y ≠ [] := by rw [ey]; simp
  have h2 := split_spl x y hy (kind_ok hk)
  refine ⟨?_, fun w hw => ⟨?_, fun ha => ?_⟩⟩
  · have := spl_len (tl y) 0 [] (tl x)
    rw [← h2, List.length_map, ← len_tl] at this
    exact this
  · have := spl_word (tl y) 0 [] (tl x) (tl w) (by rw [← h2]; exact List.mem_map.mpr ⟨w, hw, rfl⟩)
    rw [← len_tl, ← len_tl] at this
    simpa using this
  · rw [asc_iff] at ha ⊢
    intro c hc
    rcases CH.spl_in (tl y) 0 [] (tl x) (tl w) (by rw [← h2]; exact List.mem_map.mpr ⟨w, hw, rfl⟩) c hc with q | q
    · exact nomatch q
    · exact ha c q
structure SpB (x : Str) (ws : List Str) : Prop where
  l : ws.length ≤ x.length + 1
  w : ∀ w ∈ ws, w.length ≤ x.length ∧ (Asc x → Asc w)
theorem col_b (x : Str) : SpB x (Txt.split x ":") := ⟨(split_lenY tlCol (by decide +kernel)).1, (split_lenY tlCol (by decide +kernel)).2⟩
theorem bar_b (x : Str) : SpB x (Txt.split x " | ") := ⟨(split_lenY tlBar (by decide +kernel)).1, (split_lenY tlBar (by decide +kernel)).2⟩
theorem sp_b (x : Str) : SpB x (Txt.split x " ") := ⟨(split_lenY tlSp (by decide +kernel)).1, (split_lenY tlSp (by decide +kernel)).2⟩
end LM

/-! consoles: is_count, reply_of, items_text, pieces_text -/
namespace My
open PySem L2 Cm LM EM
abbrev sIC : Stmt := top 124
abbrev sRO : Stmt := top 125
abbrev sIT : Stmt := top 126
abbrev sPT : Stmt := top 127
structure TxCo (K : PySem.W.Frag) (mg : Str → Option Value) where
  int : mg "int" = none
  str : mg "str" = none
  fe : ∃ t, mg "FEED" = some (.str "feed " t)
  to : ∃ t, mg "TOLD" = some (.str "!" t)
  ic : Df K mg "is_count" sIC ["text"]
  ro : Df K mg "reply_of" sRO ["row"]
  it : Df K mg "items_text" sIT ["items"]
  pt : Df K mg "pieces_text" sPT ["pieces"]
section
variable {P : Program} {w : World} {K : PySem.W.Frag} {mg : Str → Option Value} {base : Heap}
/-! ### is_count -/
def spIC : Sp := fun vs H Q _ => ∃ x : Str, vs = [.str x] ∧ Q (.bl (CoR.isC (TL.tl x))) H
theorem scIC : FnScope ["text"] ["text"] (defScope sIC) := ⟨rfl, rfl, rfl, by decide +kernel, rfl, by decide +kernel, by decide +kernel⟩
theorem ok_ic (T : TxCo K mg) : FnOk P w K mg base CX0 1 T.ic.f T.ic.fd ["text"] spIC := by
  refine T.ic.F.ok scIC (fun vs H Q E h => ?_) (fun cdv A outer s H vs Q E hr h => ?_)
  · obtain ⟨x, rfl, _⟩ := h
    rfl
  · obtain ⟨x, rfl, k⟩ := h
    refine ⟨_, (pss_cons (ps_if (PW.pt (pw_or (pt_not (pt_val (pe_m0 PySem.F.slot_str_isascii PySem.F.type_str_isascii mt_isascii (pv 0)))) (pw_or1 (pt_not (pt_val (pe_m0 PySem.F.slot_str_isdigit PySem.F.type_str_isdigit mt_isdigit (pv 0))))))) (pss_one (ps_ret pe_bl)) pss_nil) (pss_one (ps_ret (pe_or (pe_cmpR op_eq (pv 0) pe_str (nomark _)) (pe_one (pe_not (pe_m1 PySem.F.slot_str_startswith PySem.F.type_str_startswith mt_startswith (pv 0) pe_str))))))), ?_⟩
    have e := CoR.asc_dig x
    unfold CoR.isC at k
    rw [← e] at k
    refine ⟨_, rfl, ⟨_, rfl⟩, x, rfl, rfl, trivial, _, rfl, ?_⟩
    cases ha : Txt.isascii x with
    | false =>
      rw [ha] at k
      exact iteT k
    | true =>
      rw [ha] at k
      refine iteF ⟨_, rfl, ⟨_, rfl⟩, x, rfl, rfl, trivial, _, rfl, ?_⟩
      cases hd : Txt.isdigit x with
      | false =>
        rw [hd] at k
        exact iteT k
      | true =>
        rw [hd] at k
        refine iteF ?_
        have z0 : decide (V.str x = V.str "0") = decide (TL.tl x = [48]) := decide_eq_decide.mpr ⟨fun h => by injection h with h; rw [h]; decide +kernel, fun h => by rw [TL.ext_tl (h.trans (by decide +kernel : [48] = TL.tl ("0" : Str)))]⟩
        refine ⟨_, rfl, rfl, _, rfl, ?_⟩
        rw [z0]
        by_cases h0 : TL.tl x = [48]
        · rw [decide_eq_true h0] at k ⊢
          exact iteT k
        · rw [decide_eq_false h0] at k ⊢
          refine iteF ⟨_, rfl, ⟨_, rfl⟩, x, _, rfl, rfl, _, rfl, ?_⟩
          rw [CoR.sw0]
          exact k
/-! ### reply_of -/
def spRO : Sp := fun vs H Q _ => ∃ x : Str, vs = [.str x] ∧ x.length ≤ 640 ∧ (CoR.replyL (TL.tl x) = none → Q .non H) ∧ ∀ n b, CoR.replyL (TL.tl x) = some (n, b) → ∀ (H' : Hp) (q : Addr), Same H H' → H' q = some (.tup [.int (n : Nat), .bl b]) → Q (.ref q) H'
theorem scRO : FnScope ["row", "digits"] ["row"] (defScope sRO) := ⟨rfl, rfl, rfl, by decide +kernel, rfl, by decide +kernel, by decide +kernel⟩
theorem ok_ro (T : TxCo K mg) : FnOk P w K mg base CX0 2 T.ro.f T.ro.fd ["row"] spRO := by
  have GI : FnOk P w K mg base CX0 1 T.ic.f T.ic.fd ["text"] spIC := ok_ic T
  obtain ⟨t1, mf⟩ := T.fe
  obtain ⟨t2, mt⟩ := T.to
  refine T.ro.F.ok scRO (fun vs H Q E h => ?_) (fun cdv A outer s H vs Q E hr h => ?_)
  · obtain ⟨x, rfl, _⟩ := h
    rfl
  · obtain ⟨x, rfl, hl, k0, k1⟩ := h
    have hr1 : Room 1 _ := hr.mono (by decide)
    refine ⟨_, (pss_cons (ps_set (i := 1) scRO.nd rfl (.inl rfl) (pe_m1 PySem.F.slot_str_removesuffix PySem.F.type_str_removesuffix mt_removesuffix (pe_m1 PySem.F.slot_str_removeprefix PySem.F.type_str_removeprefix mt_removeprefix (pv 0) (pe_glob (v := .str "feed ") rfl mf ⟨_, rfl⟩)) (pe_glob (v := .str "!") rfl mt ⟨_, rfl⟩))) (pss_cons (ps_if (PW.pt (pw_or (pt_not (pt_val (pe_m1 PySem.F.slot_str_startswith PySem.F.type_str_startswith mt_startswith (pv 0) (pe_glob (v := .str "feed ") rfl mf ⟨_, rfl⟩)))) (pw_or1 (pt_not (pt_val (pe_call GI hr1 rfl T.ic.g T.ic.k T.ic.b .nil pass0 (pa_cons (pv 1) pa_nil))))))) (pss_one (ps_ret pe_non)) pss_nil) (pss_one (ps_ret (pe_tup (pa_cons (pe_callTy call_int_str (by rfl) T.int (by decide +kernel) (pa_cons (pv 1) pa_nil)) (pa_cons (pe_m1 PySem.F.slot_str_endswith PySem.F.type_str_endswith mt_endswith (pv 0) (pe_glob (v := .str "!") rfl mt ⟨_, rfl⟩)) pa_nil))))))), ?_⟩
    have l1 : x.length ≤ sizeLine := Nat.le_of_lt (szM (by omega))
    have l2 := CoR.pre_len x
    refine ⟨_, rfl, ⟨_, rfl⟩, x, _, rfl, rfl, l1, ⟨_, rfl⟩, _, _, rfl, rfl, Nat.le_of_lt (szM (by omega)), ?_⟩
    refine ⟨_, rfl, ⟨_, rfl⟩, x, _, rfl, rfl, _, rfl, ?_⟩
    rw [CoR.sw_feed]
    by_cases h : (TL.tl x).take 5 = CoR.F
    · rw [decide_eq_true h]
      refine iteF ⟨_, rfl, CoR.digs x, rfl, _, rfl, ?_⟩
      cases c : CoR.isC (TL.tl (CoR.digs x)) with
      | false => exact iteT (k0 (CoR.reply_none h c))
      | true =>
        obtain ⟨a1, a2⟩ := CoR.isC_all c
        have ld := CoR.digs_len x
        refine iteF ⟨_, rfl, CoR.digs x, _, rfl, intText_digits a1 a2 (by omega), by omega, ?_⟩
        refine ⟨_, rfl, ⟨_, rfl⟩, x, _, rfl, rfl, (by show 2 ≤ sizeLine; decide), fun q nq => ?_⟩
        exact k1 _ _ (CoR.reply_some h c) _ q (same_new nq) upd_same
    · rw [decide_eq_false h]
      exact iteT (k0 (CoR.reply_far h))
/-! ### items_text -/
theorem take_snocI {xs : List Int} {i : Nat} {x : Int} (h : xs[i]? = some x) : xs.take (i + 1) = xs.take i ++ [x] := by
  rw [List.take_add_one, h]
  rfl
def spIT (K : PySem.W.Frag) : Sp := fun vs H Q _ => ∃ (p : Addr) (xs : List Int), vs = [.ref p] ∧ H p = some (.tup (ivs xs)) ∧ CoR.Ord xs ∧ xs.length ≤ 500000 ∧ ∀ H', Same H H' → Q (.str (CoR.itT xs)) H'
theorem scIT : FnScope ["items", "item"] ["items"] (defScope sIT) := ⟨rfl, rfl, rfl, by decide +kernel, rfl, by decide +kernel, by decide +kernel⟩
theorem ok_it (T : TxCo K mg) : FnOk P w K mg base CX0 1 T.it.f T.it.fd ["items"] (spIT K) := by
  refine T.it.F.ok scIT (fun vs H Q E h => ?_) (fun cdv A outer s H vs Q E hr h => ?_)
  · obtain ⟨p, xs, rfl, _⟩ := h
    rfl
  · obtain ⟨p, xs, rfl, hp, ho, hl, k⟩ := h
    refine ⟨_, pss_one (ps_ret (pe_ifExp (pt_truth (pv 0) (by intro _; rfl)) (pe_join pe_str (pe_lc (own := [("item", 1)]) (g := gName 1) (tt := tYes) rfl scIT.nd (pi_tup (pv 0))
      (blkOk_by (own := [("item", 1)]) (N := ["items", "item"]) (sc := defScope sIT) (by decide +kernel)) (fun _ _ _ _ _ => pg_name (i := 1) scIT.nd rfl (Or.inl rfl)) (fun _ _ _ _ _ => pts_nil)
      (fun _ _ _ _ _ => pe_callTy call_str_int (by rfl) T.str (by decide +kernel) (pa_cons (pv 1) pa_nil)))) pe_str)), ?_⟩
    refine ⟨_, rfl, _, .inr (.inl ⟨_, SqT.of hp, rfl⟩), ?_⟩
    unfold CoR.itT at k
    by_cases e : xs = []
    · subst e
      exact k H (Same.refl _)
    · rw [if_neg e] at k
      have ne : (!(ivs xs).isEmpty) = true := by
        cases xs with
        | nil => exact absurd rfl e
        | cons _ _ => rfl
      rw [ne]
      refine iteT ?_
      refine ⟨⟨_, rfl⟩, _, rfl, p, rfl, ⟨_, SqT.of hp⟩, fun D nD => lc_tup (K := K) (a := p) (xs := ivs xs) (fun i H' => Same H H' ∧ H' D = some (.lst (svs ((xs.take i).map CoR.nmS)))) ⟨same_new nD, upd_same⟩ (fun i H' _ ⟨s', _⟩ => SqT.of (s' _ _ hp)) ?_ ?_⟩
      · rintro i y H' hy ⟨s', hD⟩
        obtain ⟨x, hx, rfl⟩ : ∃ x, xs[i]? = some x ∧ y = .int x := by
          unfold ivs at hy
          rw [List.getElem?_map] at hy
          cases hx : xs[i]? with
          | none => rw [hx] at hy; cases hy
          | some x => rw [hx] at hy; exact ⟨x, rfl, (Option.some.inj hy).symm⟩
        have ox := ho x (List.mem_of_getElem? hx)
        refine ⟨rfl, _, rfl, _, rfl, CoR.nm_log ox, _, hD, ?_, fun b o z => ?_, ?_⟩
        · rw [show (svs ((xs.take i).map CoR.nmS)).length = (xs.take i).length by simp [svs], List.length_take]
          exact szM (by omega)
        · rw [upd_ne (ne_of_none z nD)]
          exact s' _ _ z
        · rw [upd_same, take_snocI hx, List.map_append]
          simp [svs, CoR.nmS]
      · rintro H' ⟨s', hD⟩
        have lv : (ivs xs).length = xs.length := by simp [ivs]
        rw [lv, List.take_length] at hD
        refine ⟨",", D, xs.map CoR.nmS, rfl, rfl, .inl (SqL.of hD), ?_, k H' s'⟩
        have := CoR.nms_sum ho
        rw [List.length_map, show ("," : Str).length = 1 by decide +kernel]
        omega
/-! ### pieces_text -/
/-- all pieces are of ordinary size -/
def OrdP (ps : List (List Int)) : Prop := ∀ p ∈ ps, CoR.Ord p
theorem its_sum : ∀ {ps : List (List Int)}, OrdP ps → ((ps.map CoR.itT).map (·.length)).sum ≤ ps.length + 21 * (ps.map (·.length)).sum
  | [], _ => Nat.le_refl _
  | x :: r, h => by
    have a := CoR.it_len (h x (List.mem_cons_self ..))
    have b := its_sum (ps := r) fun i hi => h i (List.mem_cons_of_mem _ hi)
    simp only [List.map_cons, List.sum_cons, List.length_cons] at b ⊢
    omega
def spPT (K : PySem.W.Frag) : Sp := fun vs H Q _ => ∃ (p : Addr) (hs : List V) (ps : List (List Int)), vs = [.ref p] ∧ H p = some (.tup hs) ∧ Pcs H hs ps ∧ OrdP ps ∧ ps.length + (ps.map (·.length)).sum ≤ 500000 ∧ ∀ H', Same H H' → Q (.str (CoR.pcT ps)) H'
theorem scPT : FnScope ["pieces", "items"] ["pieces"] (defScope sPT) := ⟨rfl, rfl, rfl, by decide +kernel, rfl, by decide +kernel, by decide +kernel⟩
theorem Pcs.get {H : Hp} : ∀ {vs : List V} {xs : List (List Int)} {i : Nat} {y : V}, Pcs H vs xs → vs[i]? = some y → ∃ q x, xs[i]? = some x ∧ y = .ref q ∧ H q = some (.tup (ivs x))
  | _, _, i, y, .nil, h => by simp at h
  | _, _, 0, y, .cons h t, e => by
    cases e
    exact ⟨_, _, rfl, rfl, h⟩
  | _, _, i + 1, y, .cons h t, e => by
    obtain ⟨q, x, a, b, c⟩ := Pcs.get t (i := i) e
    exact ⟨q, x, a, b, c⟩
theorem sum_mem : ∀ {ps : List (List Int)} {x : List Int}, x ∈ ps → x.length ≤ (ps.map (·.length)).sum
  | p :: r, x, h => by
    rw [List.map_cons, List.sum_cons]
    rcases List.mem_cons.mp h with rfl | h
    · omega
    · have := sum_mem h
      omega
theorem ok_pt (T : TxCo K mg) : FnOk P w K mg base CX0 2 T.pt.f T.pt.fd ["pieces"] (spPT K) := by
  have GI : FnOk P w K mg base CX0 1 T.it.f T.it.fd ["items"] (spIT K) := ok_it T
  refine T.pt.F.ok scPT (fun vs H Q E h => ?_) (fun cdv A outer s H vs Q E hr h => ?_)
  · obtain ⟨p, hs, ps, rfl, _⟩ := h
    rfl
  · obtain ⟨p, hs, ps, rfl, hp, hP, ho, hl, k⟩ := h
    have hr1 : Room 1 _ := hr.mono (by decide)
    refine ⟨_, pss_one (ps_ret (pe_ifExp (pt_truth (pv 0) (by intro _; rfl)) (pe_join pe_str (pe_lc (own := [("items", 1)]) (g := gName 1) (tt := tYes) (te := tCall (spIT K) [] E0 (tCons (tVar 1) tNil)) rfl scPT.nd (pi_tup (pv 0))
      (blkOk_by (own := [("items", 1)]) (N := ["pieces", "items"]) (sc := defScope sPT) (by decide +kernel)) (fun _ _ _ _ _ => pg_name (i := 1) scPT.nd rfl (Or.inl rfl)) (fun _ _ _ _ _ => pts_nil)
      (fun _ _ _ _ _ => by exact pe_call GI hr1 rfl T.it.g T.it.k T.it.b .nil pass0 (pa_cons (pv 1) pa_nil)))) pe_str)), ?_⟩
    refine ⟨_, rfl, _, .inr (.inl ⟨_, SqT.of hp, rfl⟩), ?_⟩
    have ln := hP.len
    unfold CoR.pcT at k
    by_cases e : ps = []
    · subst e
      cases hP
      exact k H (Same.refl _)
    · rw [if_neg e] at k
      have ne : (!hs.isEmpty) = true := by
        cases hP with
        | nil => exact absurd rfl e
        | cons _ _ => rfl
      rw [ne]
      refine iteT ?_
      refine ⟨⟨_, rfl⟩, _, rfl, p, rfl, ⟨_, SqT.of hp⟩, fun D nD => lc_tup (K := K) (a := p) (xs := hs) (fun i H' => Same H H' ∧ H' D = some (.lst (svs ((ps.take i).map CoR.itT)))) ⟨same_new nD, upd_same⟩ (fun i H' _ ⟨s', _⟩ => SqT.of (s' _ _ hp)) ?_ ?_⟩
      · rintro i y H' hy ⟨s', hD⟩
        obtain ⟨q, x, hx, rfl, hq⟩ := hP.get hy
        have mx := List.mem_of_getElem? hx
        have sx := sum_mem mx
        refine ⟨rfl, _, rfl, q, x, rfl, s' _ _ hq, ho x mx, by omega, fun H2 s2 => ⟨_, s2 _ _ hD, ?_, fun b o z => ?_, ?_⟩⟩
        · rw [show (svs ((ps.take i).map CoR.itT)).length = (ps.take i).length by simp [svs], List.length_take]
          exact szM (by omega)
        · rw [upd_ne (ne_of_none z nD)]
          exact s2 _ _ (s' _ _ z)
        · rw [upd_same]
          rw [List.take_add_one, hx, List.map_append]
          simp [svs]
      · rintro H' ⟨s', hD⟩
        rw [ln, List.take_length] at hD
        refine ⟨" ", D, ps.map CoR.itT, rfl, rfl, .inl (SqL.of hD), ?_, k H' s'⟩
        have := its_sum ho
        rw [List.length_map, show (" " : Str).length = 1 by decide +kernel]
        omega
end
end My

/-! defs that are called where no repr is running, and repr of plain data there -/
namespace Gd
open PySem PySem.Spec PyProof.Rows L2
/-- a def's promise, for callers around whom no guard stands -/
structure FnG (P : Program) (w : World) (K : PySem.W.Frag) (mg : Str → Option Value) (base : Heap) (CX : CXT) (k : Nat) (f : Addr) (fd : FuncData) (ps : List Str) (sp : Sp) : Prop where
  len : ∀ vs H Q E, sp vs H Q E → vs.length = ps.length
  run : ∀ (A : Around) (outer : List Env) (s : Shared) (H : Hp) (args : Args) (us : List Value) (vs : List V) (Q : VK) (E : XK), A.guards = some [] → Room k A → Env0 P w K mg base A outer s H → BindsTo s fd args (ps.zip us) → Vals vs us → sp vs H Q E →
    codeAny (model P w) A (.call (.ref f) args) (CR CX outer P w H s Q E) s
section
variable {P : Program} {w : World} {K : PySem.W.Frag} {mg : Str → Option Value} {base : Heap}
/-- the rule of a def, its guards told -/
theorem okG {x qual : Str} {st : Stmt} {f : Addr} {fd : FuncData} {N ps : List Str} {k : Nat} {sp : Sp} (F : Fun K x qual st f fd) (S : FnScope N ps (defScope st)) (len : ∀ vs H Q E, sp vs H Q E → vs.length = ps.length)
    (hbody : ∀ (cdv : Value) (A : Around) (outer : List Env) (s : Shared) (H : Hp) (vs : List V) (Q : VK) (E : XK), K.lookup f ≠ none → PySem.W.codeIn K cdv qual = true → fd.code = cdv → A.guards = some [] → Room k (A.deeper (envOfC qual (defScope st) s.heap.objs.size f cdv)) → sp vs H Q E →
      ∃ t, PSs (cxOf CX0 P w K mg base N qual (defScope st) f cdv A outer s H E).nox (defBody st) t ∧ t { nx := fun _ H' => Q .non H', rt := Q } (L2.start N vs) H) : FnG P w K mg base CX0 (k + 1) f fd ps sp := by
  obtain ⟨oc, od, kV, doc, pm, an, cdv, ct, osl, rfl, lk, hcd⟩ := F.ex
  refine ⟨len, fun A outer s H args us vs Q E hg hr e0 hb r h => ?_⟩
  refine LamX.run_ofS lk hcd S hr e0 hb r (len _ _ _ _ h) fun hr2 => ?_
  obtain ⟨t, h1, q⟩ := hbody cdv A outer s H vs Q E (by rw [lk]; simp) hcd rfl hg hr2 h
  exact ⟨t, h1.nox, q⟩
end
section
variable {X : Cx} {CX : CXT} {k : Nat} {f : Addr} {fd : FuncData} {ps : List Str} {sp : Sp} {E : XK} {x : Str} {p pos : Pos} {e : Expr} {es : List Expr} {t : TA} {ds : List Value} {dvs : List V}
/-- f(e, ..) -/
theorem pe_callG (F : FnG X.prog X.w X.K X.mg X.base CX k f fd ps sp) (hgd : X.A.guards = some []) (hr : Room k X.A) (hg : Gl X x) (hm : X.mg x = some (.ref f)) (hk : PySem.W.keepIn X.K (.ref f) = true) (hb : L2.Binds X.K fd ps ds) (hd : Vals dvs ds) (hx : Passes CX X E) (ha : PA X (e :: es) t)
    (hdb : (x == ("__debug__" : Str)) = false := by decide) (he : starEach (e :: es) X.env = (false, eval e X.env) :: starEach es X.env := by rfl) (hpl : (backTo pos (starEach es X.env)).any (·.1) = false := by rfl) :
    PE X (.Call (.Name x p) (e :: es) [] pos) (tCall sp dvs E t) := by
  refine ⟨fun pins s σ H Q I h => ?_⟩
  refine wpAny_Call_Name_kw (ld_glob I hg hm ?_ hdb)
  refine PySem.W.callWith_K (h₀ := X.base) I.ok.mod.kin hk (thn (ha.run pos pins s σ H _ I h) fun us s1 ⟨vs, H1, I1, r, q⟩ => ⟨I1.kIn, ?_⟩) he hpl
  have r2 : Vals (vs ++ dvs) (us ++ ds) := r.append hd
  have hl : (us ++ ds).length = ps.length := by
    rw [← r2.length]
    exact F.len _ _ _ _ q
  refine wpAny_call (codeAny_mono (F.run X.A X.stack s1 H1 ⟨us, []⟩ (us ++ ds) (vs ++ dvs) Q E hgd hr I1.env0 (hb s1 us I1.kIn hl) r2 q) fun rr s2 hq => ?_)
  match rr, hq with
  | .error er, hq => exact hx pins σ H1 s1 er s2 I1 hq
  | .ok (.ret u), hq => exact I1.after hq
end
/-! ### plain data, all of it tracked -/
mutual
inductive Dq (H : Hp) : V → PyData → Prop
  | non : Dq H .non .none
  | bl (b : Bool) : Dq H (.bl b) (.bool b)
  | int (i : Int) : Dq H (.int i) (.int i)
  | str (x : Str) : Dq H (.str x) (.str x)
  | lst {a : Addr} {xs : List V} {ds : List PyData} : H a = some (.lst xs) → DqA H xs ds → Dq H (.ref a) (.list ds)
  | tup {a : Addr} {xs : List V} {ds : List PyData} : H a = some (.tup xs) → DqA H xs ds → Dq H (.ref a) (.tuple ds)
  | dct {a : Addr} : H a = some (.dK []) → Dq H (.ref a) (.dict [])
inductive DqA (H : Hp) : List V → List PyData → Prop
  | nil : DqA H [] []
  | cons {v : V} {vs : List V} {d : PyData} {ds : List PyData} : Dq H v d → DqA H vs ds → DqA H (v :: vs) (d :: ds)
end
section
variable {X : Cx} {pins : List (Addr × Obj)} {σ : L2.St} {H : Hp} {s : Shared}
mutual
theorem Dq.reads (I : Inv X pins σ H s) : ∀ {v : V} {d : PyData} {u : Value}, Dq H v d → RelV v u → ∃ as, Reads s.heap u d as ∧ ∀ b ∈ as, H b ≠ none
  | _, _, _, .non, r => by
    cases r
    exact ⟨_, .none, fun b h => nomatch h⟩
  | _, _, _, .bl b, r => by
    cases r
    exact ⟨_, .bool b, fun b h => nomatch h⟩
  | _, _, _, .int i, r => by
    obtain ⟨t, rfl⟩ := r
    exact ⟨_, .int i t, fun b h => nomatch h⟩
  | _, _, _, .str x, r => by
    obtain ⟨t, rfl⟩ := r
    exact ⟨_, .str x t, fun b h => nomatch h⟩
  | _, _, _, .lst (a := a) (xs := xs) ha hd, r => by
    cases r
    obtain ⟨_, its, n, rv, e⟩ := (show ObjOk X.prog X.w H s.heap a (.lst xs) from I.hok a _ ha)
    obtain ⟨as, h1, h2⟩ := DqA.reads I hd rv
    refine ⟨_, .list e rfl rfl (by simpa using h1), fun b hb => ?_⟩
    rcases List.mem_cons.mp hb with rfl | hb
    · rw [ha]; simp
    · exact h2 b hb
  | _, _, _, .tup (a := a) (xs := xs) ha hd, r => by
    cases r
    obtain ⟨_, its, rv, o, e, c, n, hn⟩ := (show ObjOk X.prog X.w H s.heap a (.tup xs) from I.hok a _ ha)
    obtain ⟨as, h1, h2⟩ := DqA.reads I hd rv
    exact ⟨_, .tuple e c hn (by simpa using h1), h2⟩
  | _, _, _, .dct (a := a) ha, r => by
    cases r
    obtain ⟨_, _, vs, kv, o, es, ep, e, hx, hdt, _, hes, _⟩ := (show ObjOk X.prog X.w H s.heap a (.dK []) from I.hok a _ ha)
    cases kv
    have e0 : es.toList = [] := by
      generalize es.toList = zs at hes
      cases hes
      rfl
    refine ⟨_, .dict (kvs := []) e hx.1 hdt (by rw [e0]; exact .nil) (by rw [e0]; exact .nil), fun b hb => ?_⟩
    have : b = a := by simpa using hb
    rw [this, ha]; simp
theorem DqA.reads (I : Inv X pins σ H s) : ∀ {vs : List V} {ds : List PyData} {us : List Value}, DqA H vs ds → Vals vs us → ∃ as, ReadsAll s.heap us ds as ∧ ∀ b ∈ as, H b ≠ none
  | _, _, _, .nil, r => by
    cases r
    exact ⟨_, .nil, fun b h => nomatch h⟩
  | _, _, _, .cons hd ht, .cons r rt => by
    obtain ⟨as, h1, h2⟩ := Dq.reads I hd r
    obtain ⟨bs, h3, h4⟩ := DqA.reads I ht rt
    exact ⟨_, .cons h1 h3, fun b hb => (List.mem_append.mp hb).elim (h2 b) (h4 b)⟩
end
end
mutual
theorem Dq.same {H H' : Hp} (s : Same H H') : ∀ {v : V} {d : PyData}, Dq H v d → Dq H' v d
  | _, _, .non => .non
  | _, _, .bl b => .bl b
  | _, _, .int i => .int i
  | _, _, .str x => .str x
  | _, _, .lst ha hd => .lst (s _ _ ha) (DqA.same s hd)
  | _, _, .tup ha hd => .tup (s _ _ ha) (DqA.same s hd)
  | _, _, .dct ha => .dct (s _ _ ha)
theorem DqA.same {H H' : Hp} (s : Same H H') : ∀ {vs : List V} {ds : List PyData}, DqA H vs ds → DqA H' vs ds
  | _, _, .nil => .nil
  | _, _, .cons a b => .cons (Dq.same s a) (DqA.same s b)
end
/-- repr of a list, a tuple or an empty dict of such data -/
def rReprD : List V → Hp → VK → Prop := fun xs H Q => ∃ (a : Addr) (d : PyData), xs = [.ref a] ∧ Dq H (.ref a) d ∧ d.showable = true ∧ d.depth ≤ 64 ∧ d.shown.length ≤ sizeLine ∧ Q (.str d.shown) H
theorem call_reprD {X : Cx} {k : Nat} {ob : Obj} (hg : X.A.guards = some []) (hr : Room k X.A) (sm : X.base.get? sysModules = some ob) : CallR X (.builtin "repr") rReprD := by
  intro pins s σ H xs us Q I r h
  obtain ⟨a, d, rfl, hd, hs, hdep, hz, q⟩ := h
  obtain ⟨u, rfl, ru⟩ := vals1 r
  cases (show u = Value.ref a from ru)
  obtain ⟨as, h1, h2⟩ := hd.reads I (u := .ref a) rfl
  have no : sysModules ∉ as := fun hm => h2 _ hm (I.env0.bs _ _ sm).2
  have hu := hr.un
  refine repr_of_reads' h1 hs (fun _ => no) hg (by omega) (fun _ _ e => e) (fun h' u tk hk => ?_) hz
  exact ⟨.str d.shown, H, I.kept (t' := tk) hk, ⟨_, rfl⟩, q⟩
/-! ### the end of a law, from such a promise -/
/-- at the law's call: the tables, and the script unless the module itself holds it -/
def H0 (K : PySem.W.Frag) (tabs : List Addr) (a : Addr) (u : HO) : Hp := fun b => if b ∈ tabs then some (.tbl #[]) else if b = a ∧ K.lookup a = none then some u else none
theorem H0_tab {K : PySem.W.Frag} {tabs : List Addr} {a b : Addr} {u : HO} (h : b ∈ tabs) : H0 K tabs a u b = some (.tbl #[]) := if_pos h
theorem H0_cases {K : PySem.W.Frag} {tabs : List Addr} {a b : Addr} {u o : HO} (h : H0 K tabs a u b = some o) : (b ∈ tabs ∧ o = .tbl #[]) ∨ (b ∉ tabs ∧ b = a ∧ K.lookup a = none ∧ o = u) := by
  unfold H0 at h
  split at h
  next hb => exact .inl ⟨hb, (Option.some.inj h).symm⟩
  next hb =>
    split at h
    next hc => exact .inr ⟨hb, hc.1, hc.2, (Option.some.inj h).symm⟩
    next => cases h
theorem law_callG {P : Program} {w : World} {K : PySem.W.Frag} {mg mb : Str → Option Value} {k : Nat} {fa a : Addr} {cs : List (Addr × Addr)} {fd : FuncData} {x : Str} {sp : Sp} {st : Shared} {vs : List Value} {ns : List Int}
    (KX : K.In st.heap) (gNs : st.heap.Ns mainGlobals mg) (bNs : st.heap.Ns builtinsNs mb) (bEq : ∀ x : Str, x ≠ "__name__" → mb x = bootBuiltins x) (lim : st.heap.NoLimit) (noG : st.gens = #[])
    (isT : ∀ p ∈ cs, st.heap.get? p.2 = some { cls := .none, data := .fields #[] }) (nK : ∀ p ∈ cs, K.lookup p.2 = none) (isC : ∀ p ∈ cs, PySem.W.CodeHd st.heap p.1 p.2)
    (bMain : ∃ (bm : Addr) (ob : Obj), mg "__builtins__" = some (.ref bm) ∧ bm ≠ builtinsNs ∧ st.heap.get? bm = some ob ∧ ob.cls = .type "module" ∧ ob.dict = some builtinsNs ∧ ob.data = .plain)
    (scr : st.heap.get? a = some { cls := .type "list", data := .seq vs.toArray }) (intsA : IntsAre vs ns) (few : ns.length ≤ sizeLine) (room : Room k callerA)
    (mods : ∃ mm, st.heap.Ns sysModules mm)
    (F : ∀ base : Heap, K.In base → base.Ns mainGlobals mg → (∃ ob, base.get? sysModules = some ob) → (∀ p ∈ cs, LamX.TabB base mg p.1 p.2) → FnG P w K mg base CX0 k fa fd [x] sp) (bind : ∀ (s : Shared) (u : Value), BindsTo s fd ⟨[u], []⟩ [(x, u)])
    (hsp : ∀ H : Hp, (∀ p ∈ cs, H p.2 = some (.tbl #[])) → SqL K H a (ns.map V.int) → sp [.ref a] H (fun v _ => v = .bl true) fun _ _ _ => False) :
    codeAny (model P w) callerA (.call (.ref fa) ⟨[.ref a], []⟩) (fun r s2 => r = .ok (.ret (.bool true)) ∧ OldK st.heap s2.heap ∧ s2.os = st.os ∧ AllBare s2.gens) st := by
  have vals := vals_ints intsA
  have tabAt : ∀ b ∈ cs.map (·.2), st.heap.get? b = some { cls := .none, data := .fields #[] } := fun b hb => by
    obtain ⟨p, hp, rfl⟩ := List.mem_map.mp hb
    exact isT p hp
  generalize hu : (HO.frz { cls := .type "list", data := .seq vs.toArray } (.lst (ns.map V.int))) = u
  generalize hH : H0 K (cs.map (·.2)) a u = H
  have tabH : ∀ p ∈ cs, H p.2 = some (.tbl #[]) := fun p hp => by
    rw [← hH]
    exact H0_tab (List.mem_map.mpr ⟨p, hp, rfl⟩)
  have what : ∀ b o, H b = some o → (b ∈ cs.map (·.2) ∧ o = .tbl #[]) ∨ (b ∉ cs.map (·.2) ∧ b = a ∧ K.lookup a = none ∧ o = u) := fun b o e => by
    rw [← hH] at e
    exact H0_cases e
  have held : HOk P w H st.heap := fun b o e => by
    rcases what b o e with ⟨h1, rfl⟩ | ⟨_, rfl, _, rfl⟩
    · exact tabAt b h1
    · rw [← hu]
      exact ⟨scr, by rw [List.length_map]; exact few, vs, _, vals, scr⟩
  have seen : SqL K H a (ns.map V.int) := by
    cases hk : K.lookup a with
    | some o =>
      have e := KX a o hk
      rw [scr] at e
      cases e
      exact .inr ⟨_, vs.toArray, _, hk, rfl, rfl, rfl, by rw [List.size_toArray, intsA.length]; exact few, by simpa using vals⟩
    | none =>
      refine .inl (.inr ⟨{ cls := .type "list", data := .seq vs.toArray }, ?_⟩)
      have nt : a ∉ cs.map (·.2) := fun z => by
        have q := tabAt a z
        rw [scr] at q
        cases congrArg Obj.data (Option.some.inj q)
      rw [← hH, ← hu]
      exact (if_neg nt).trans (if_pos ⟨rfl, hk⟩)
  -- what is neither a list nor an empty table is not tracked
  have untracked : ∀ {b : Addr} {o : Obj}, st.heap.get? b = some o → (∀ us m, o.data ≠ .seq us m) → o.data ≠ .fields #[] → H b = none := fun {b o} e h1 h2 => by
    cases q : H b with
    | none => rfl
    | some z =>
      rcases what b z q with ⟨hb, _⟩ | ⟨_, rfl, _⟩
      · rw [tabAt b hb] at e
        exact absurd (congrArg Obj.data (Option.some.inj e)).symm h2
      · rw [scr] at e
        exact absurd (congrArg Obj.data (Option.some.inj e)).symm (h1 _ _)
  have stays : ∀ {b : Addr} {o : Obj}, st.heap.get? b = some o → (∀ us m, o.data ≠ .seq us m) → o.data ≠ .fields #[] → (hidT st.heap H).get? b = some o := fun e h1 h2 => hidT_get e (untracked e h1 h2)
  have names : ∀ {b : Addr} {m : Str → Option Value}, st.heap.Ns b m → (hidT st.heap H).Ns b m := fun ⟨o, es, ep, e, dt, r⟩ =>
    ⟨o, es, ep, stays e (fun _ _ z => by rw [dt] at z; cases z) (fun z => by rw [dt] at z; cases z), dt, r⟩
  have inB : K.In (hidT st.heap H) := fun b o e => hidT_get (KX b o e) (by
    cases q : H b with
    | none => rfl
    | some z =>
      rcases what b z q with ⟨hb, _⟩ | ⟨_, rfl, hn, _⟩
      · obtain ⟨p, hp, rfl⟩ := List.mem_map.mp hb
        rw [nK p hp] at e
        cases e
      · rw [hn] at e
        cases e)
  obtain ⟨mc, lim1, lim2⟩ := lim
  have modu : L2.Mod K mg (hidT st.heap H) := ⟨inB, names gNs, ⟨mb, names bNs, bEq⟩, ⟨mc, names lim1, lim2⟩⟩
  have tabB : ∀ p ∈ cs, LamX.TabB (hidT st.heap H) mg p.1 p.2 := fun p hp => by
    have atP := isT p hp
    refine { code := ?_, bm := ?_, gP := fun z => ?_ }
    · obtain ⟨o, us, file, tf, flags, tg, inF, text, tt, e1, r1, r2, r3, r4⟩ := isC p hp
      exact ⟨o, us, file, tf, flags, tg, inF, text, tt, stays e1 (fun _ _ z => by rw [r2] at z; cases z) (fun z => by rw [r2] at z; cases z; simp at r3), r1, r2, r3, r4⟩
    · obtain ⟨bm, ob, b1, b2, b3, b4, b5, b6⟩ := bMain
      refine ⟨bm, ob, b1, b2, fun z => ?_, fun z => ?_, stays b3 (fun _ _ z => by rw [b6] at z; cases z) (fun z => by rw [b6] at z; cases z), b4, b5, b6⟩
      · obtain ⟨o, es, ep, e, dt, _⟩ := gNs
        rw [z, e] at b3
        cases b3
        rw [dt] at b6
        cases b6
      · rw [z, atP] at b3
        cases b3
        cases b6
    · obtain ⟨o, es, ep, e, dt, _⟩ := gNs
      rw [z, atP] at e
      cases e
      cases dt
  have env : Env0 P w K mg (hidT st.heap H) callerA [] st H := ⟨rfl, modu, fun b o e => of_hidT e, Nat.le_of_eq (hidT_size _ _), trivial, (fun b hb => absurd (show b ∈ ([] : List Addr) from hb) (by simp)), held, .of_eq noG⟩
  have hm : ∃ ob, (hidT st.heap H).get? sysModules = some ob := by
    obtain ⟨mm, hm⟩ := mods
    obtain ⟨o, es, ep, e, _⟩ := names hm
    exact ⟨o, e⟩
  refine codeAny_mono ((F _ inB (names gNs) hm tabB).run callerA [] st H ⟨[.ref a], []⟩ [.ref a] [.ref a] _ _ rfl room env (bind st (.ref a)) (.cons rfl .nil) (hsp H tabH seen)) fun r s2 h => ?_
  match r, h with
  | .error e, h => exact (show False from h).elim
  | .ok (.ret z), h =>
    obtain ⟨v, H2, os2, bare, un, held2, rz, q⟩ := h
    cases (show v = .bl true from q)
    cases (show z = Value.bool true from rz)
    have kept : ∀ b o, b ∉ cs.map (·.2) → st.heap.get? b = some o → s2.heap.get? b = some o := fun b o nb e => by
      cases q : H b with
      | none => exact un.keep b o e q (fun z => absurd (show b ∈ ([] : List Addr) from z) (by simp)) (by simp)
      | some y =>
        rcases what b y q with ⟨hb, _⟩ | ⟨_, rfl, _, rfl⟩
        · exact absurd hb nb
        · rw [← hu] at q
          have e1 := (held2 _ _ (un.frzs _ _ _ q)).1
          rw [scr] at e
          cases e
          exact e1
    have grew : ∀ p ∈ cs, ∃ more : Array Value, s2.heap.get? p.2 = some { cls := .none, data := .fields more } := fun p hp => by
      obtain ⟨more, z⟩ := un.tbls p.2 #[] (tabH p hp)
      exact ⟨_, held2 p.2 _ z⟩
    refine ⟨rfl, ⟨fun b o e => ?_, fun b o e => ?_⟩, os2, bare⟩
    · by_cases hb : b ∈ cs.map (·.2)
      · obtain ⟨p, hp, rfl⟩ := List.mem_map.mp hb
        obtain ⟨more, hm⟩ := grew p hp
        rw [isT p hp] at e
        cases e
        exact .inr (.inl ⟨((isC p hp).tab (isT p hp)).isCodeTable, rfl, #[], more, rfl, by rw [Array.empty_append]; exact hm⟩)
      · exact .inl (kept b o hb e)
    · by_cases hb : b ∈ cs.map (·.2)
      · obtain ⟨p, hp, rfl⟩ := List.mem_map.mp hb
        obtain ⟨more, hm⟩ := grew p hp
        exact ⟨_, hm⟩
      · exact ⟨o, kept b o hb e⟩
/-- what the law's def promises where the head has ended -/
def LawG (l : PySem.W.OpenLaw) (w : World) (K : PySem.W.Frag) (k n : Nat) (x : Str) (mg : Str → Option Value) (fa : Addr) (h : Heap) : Prop :=
  ∃ (fd : FuncData) (cs : List (Addr × Addr)) (sp : Sp), (∀ p ∈ cs, h.get? p.2 = some { cls := .none, data := .fields #[] }) ∧ (∀ p ∈ cs, K.lookup p.2 = none) ∧ (∀ p ∈ cs, PySem.W.CodeHd h p.1 p.2) ∧ (∀ (s : Shared) (u : Value), BindsTo s fd ⟨[u], []⟩ [(x, u)]) ∧
    (∀ (H : Hp) (a : Addr) (ns : List Int), ns.length ≤ n → (∀ p ∈ cs, H p.2 = some (.tbl #[])) → SqL K H a (ns.map V.int) → sp [.ref a] H (fun v _ => v = .bl true) fun _ _ _ => False) ∧
    ∀ base : Heap, K.In base → base.Ns mainGlobals mg → (∃ ob, base.get? sysModules = some ob) → (∀ p ∈ cs, LamX.TabB base mg p.1 p.2) → FnG l.prog w K mg base CX0 k fa fd [x] sp
theorem walk_ofG {l : PySem.W.OpenLaw} {n k : Nat} {q : Program} {loose : List Str} {XP : (Str → Option Value) → Heap → Prop} {YP : World → Heap → Prop} {d : DefRec} {K : Params → PySem.W.Frag} {x : Str}
    (hn : l.most = some n) (hn2 : n ≤ sizeLine) (hdf : d.params.defaults = []) (hi : importsNone q = true) (hr : Room k callerA) (hY : ∀ (w : World) (h : Heap), YP w h → (K w.params).In h)
    (F : ∀ (w : World) (mg : Str → Option Value) (fa : Addr) (h : Heap), YP w h → (K w.params).In h → h.Ns mainGlobals mg → mg d.name = some (.ref fa) → LawG l w (K w.params) k n x mg fa h) :
    PySem.W.WalkO q loose XP YP l.row.toRowW d [] (fun f vs => PySem.call f vs) := by
  refine Att.attach_call hn hdf fun w t0 t1 mg mb fa o pm cd doc a vs ns gr y1 ho hd hcd hmg hobj hints hlen hgen => ?_
  obtain ⟨fd, cs, sp, c1, c2, c3, c4, c5, c6⟩ := F w mg fa _ y1 (hY w _ y1) gr.T.g hmg
  exact law_callG (hY w _ y1) gr.T.g gr.T.b gr.T.builtins gr.T.nolimit hgen c1 c2 c3 gr.T.bmain hobj hints (Nat.le_trans hlen hn2) hr (let ⟨mm, hm, _⟩ := (gr.T.seer hi).mods; ⟨mm, hm⟩) c6 c4 fun H tabs sq => c5 H a ns hlen tabs sq
end Gd

/-! repr of any plain data, also behind a caught error; the types of plain data; slices of lists of counts -/
namespace RpA
open PySem L2 Gd
theorem ext_same {H H' : Hp} (s : Same H H') : LamX.ExtN H H' := fun b o e _ => s b o e
mutual
theorem dq_ext {H H' : Hp} (s : LamX.ExtN H H') : ∀ {v : V} {d : PyData}, Dq H v d → Dq H' v d
  | _, _, .non => .non
  | _, _, .bl b => .bl b
  | _, _, .int i => .int i
  | _, _, .str x => .str x
  | _, _, .lst ha hd => .lst (s _ _ ha (by intro ps z; cases z)) (dqa_ext s hd)
  | _, _, .tup ha hd => .tup (s _ _ ha (by intro ps z; cases z)) (dqa_ext s hd)
  | _, _, .dct ha => .dct (s _ _ ha (by intro ps z; cases z))
theorem dqa_ext {H H' : Hp} (s : LamX.ExtN H H') : ∀ {vs : List V} {ds : List PyData}, DqA H vs ds → DqA H' vs ds
  | _, _, .nil => .nil
  | _, _, .cons a b => .cons (dq_ext s a) (dqa_ext s b)
end
theorem dqa_app {H : Hp} : ∀ {vs ws : List V} {ds es : List PyData}, DqA H vs ds → DqA H ws es → DqA H (vs ++ ws) (ds ++ es)
  | _, _, _, _, .nil, b => b
  | _, _, _, _, .cons a t, b => .cons a (dqa_app t b)
theorem dqa_len {H : Hp} : ∀ {vs : List V} {ds : List PyData}, DqA H vs ds → vs.length = ds.length
  | _, _, .nil => rfl
  | _, _, .cons _ t => by rw [List.length_cons, List.length_cons, dqa_len t]
theorem dqa_mem {H : Hp} : ∀ {vs : List V} {ds : List PyData}, DqA H vs ds → ∀ x ∈ vs, ∃ d ∈ ds, Dq H x d
  | _, _, .nil, _, h => nomatch h
  | _, _, .cons a t, x, h => by
    rcases List.mem_cons.mp h with rfl | z
    · exact ⟨_, List.mem_cons_self, a⟩
    · obtain ⟨d, m, q⟩ := dqa_mem t x z
      exact ⟨d, List.mem_cons_of_mem _ m, q⟩
/-- the name of the type -/
def tyN : PyData → String
  | .none => "NoneType"
  | .bool _ => "bool"
  | .int _ => "int"
  | .str _ => "str"
  | .list _ => "list"
  | .tuple _ => "tuple"
  | .dict _ => "dict"
theorem dq_ty {K : PySem.W.Frag} {H : Hp} {v : V} {d : PyData} (q : Dq H v d) : TyX K H v (.type (tyN d)) := by
  cases q with
  | non => exact .base .non
  | bl b => exact .base (.bl b)
  | int i => exact .base (.int i)
  | str x => exact .base (.str x)
  | lst h _ => exact .base (.lst h)
  | tup h _ => exact .base (.tup h)
  | dct h => exact .base (.dK h)
/-- repr of such data -/
def rReprA : List V → Hp → VK → Prop := fun xs H Q => ∃ (v : V) (d : PyData) (n : Nat), xs = [v] ∧ Dq H v d ∧ SkT.Sw n 64 d ∧ n ≤ sizeLine ∧ Q (.str d.shown) H
theorem call_reprA {X : Cx} {ob : Obj} (hg : X.A.guards = some []) (hu : X.A.units + 66 < cLine) (sm : X.base.get? sysModules = some ob) : CallR X (.builtin "repr") rReprA := by
  intro pins s σ H xs us Q I r h
  obtain ⟨v, d, n, rfl, hd, hs, hn, q⟩ := h
  obtain ⟨u, rfl, ru⟩ := vals1 r
  have ref : ∀ a, v = .ref a → wpAny (model X.prog X.w) X.A (PySem.call (.builtin "repr") [u]) (fun u' s' => ∃ (v' : V) (H' : Hp), Inv X pins σ H' s' ∧ RelV v' u' ∧ Q v' H') X.xe s := fun a e => by
    subst e
    cases (show u = Value.ref a from ru)
    obtain ⟨as, h1, h2⟩ := hd.reads I (u := .ref a) rfl
    have no : sysModules ∉ as := fun hm => h2 _ hm (I.env0.bs _ _ sm).2
    have := hs.dp
    refine repr_of_reads' h1 hs.sh (fun _ => no) hg (by omega) (fun _ _ e => e) (fun h' u tk hk => ?_) (Nat.le_trans hs.ln hn)
    exact ⟨.str d.shown, H, I.kept (t' := tk) hk, ⟨_, rfl⟩, q⟩
  cases hd with
  | non =>
    cases ru
    exact PySem.P.repr_of_none ⟨.str _, H, I.tok _, ⟨_, rfl⟩, q⟩
  | bl b =>
    cases ru
    exact PySem.P.repr_of_bool ⟨.str _, H, I.tok _, ⟨_, rfl⟩, q⟩
  | int i =>
    obtain ⟨t, rfl⟩ := ru
    exact PySem.P.repr_of_int (by have := hs.sh; simpa [PyData.showable] using this) ⟨.str _, H, I.tok _, ⟨_, rfl⟩, q⟩
  | str x =>
    obtain ⟨t, rfl⟩ := ru
    exact PySem.P.repr_of_str ⟨.str _, H, I.tok _, ⟨_, rfl⟩, q⟩ (Nat.le_trans hs.ln hn)
  | lst ha hd => exact ref _ rfl
  | tup ha hd => exact ref _ rfl
  | dct ha => exact ref _ rfl
theorem sl_from {K : PySem.W.Frag} {Q : VK} {H : Hp} {l : Addr} {vs : List V} {n : Int} {k : Nat} (hl : H l = some (.lst vs)) (e : n = (k : Nat)) (h : ∀ z, H z = none → ∀ H', Same H H' → H' z = some (.lst (vs.drop k)) → Q (.ref z) H') : rSlL K (.ref l) (some n) none H Q := by
  refine ⟨l, vs, rfl, SqL.of hl, fun z nz => ?_⟩
  rw [e, Cm.cut_from]
  exact h z nz _ (fun b o q => by rw [upd_ne (ne_of_none q nz)]; exact q) upd_same
theorem sl_to {K : PySem.W.Frag} {Q : VK} {H : Hp} {l : Addr} {vs : List V} {n : Int} {k : Nat} (hl : H l = some (.lst vs)) (e : n = (k : Nat)) (hk : k ≤ vs.length) (h : ∀ z, H z = none → ∀ H', Same H H' → H' z = some (.lst (vs.take k)) → Q (.ref z) H') : rSlL K (.ref l) none (some n) H Q := by
  refine ⟨l, vs, rfl, SqL.of hl, fun z nz => ?_⟩
  rw [e, Cm.cut_to _ _ hk]
  exact h z nz _ (fun b o q => by rw [upd_ne (ne_of_none q nz)]; exact q) upd_same
theorem cat {Q : VK} {H : Hp} {p r : Addr} {xs ys : List V} (hp : H p = some (.lst xs)) (hr : H r = some (.lst ys)) (hl : xs.length + ys.length ≤ sizeLine) (k : ∀ z, H z = none → ∀ H', Same H H' → H' z = some (.lst (xs ++ ys)) → Q (.ref z) H') : rCat (.ref p) (.ref r) H Q :=
  ⟨p, r, xs, ys, rfl, rfl, hp, hr, hl, fun z nz => k z nz _ (fun b o q => by rw [upd_ne (ne_of_none q nz)]; exact q) upd_same⟩
end RpA

/-! laws that hand lambdas to _law_came: what stays, the tables of code -/
namespace My
open PySem L2
def qLam : Str := ("_law_right" : Str) ++ ".<locals>." ++ "<lambda>"
/-- all but the jar and the tables is as it was -/
def OffN (j : Addr) (H H' : Hp) : Prop := ∀ b o, b ≠ j → (∀ ps, o ≠ .tbl ps) → H b = some o → H' b = some o
theorem OffN.refl {j : Addr} {H : Hp} : OffN j H H := fun _ _ _ _ h => h
theorem OffN.trans {j : Addr} {H H1 H2 : Hp} (a : OffN j H H1) (b : OffN j H1 H2) : OffN j H H2 := fun c o n t h => b c o n t (a c o n t h)
theorem Off.offN {j : Addr} {H H' : Hp} (a : Off j H H') : OffN j H H' := fun c o n _ h => a c o n h
theorem extN_off {j : Addr} {H H' : Hp} (a : LamX.ExtN H H') : OffN j H H' := fun c o _ t h => a c o h t
theorem Jar.ext {j : Addr} {H H' : Hp} (h : Jar H j) (a : LamX.ExtN H H') : Jar H' j := by
  obtain ⟨x, y, z, e⟩ := h
  exact ⟨x, y, z, a _ _ e (by intro ps q; cases q)⟩
theorem tabs_off {T : List (Addr × Str)} {j : Addr} {H H' : Hp} (J : Jar H j) (o : Off j H H') (t : LamX.Tabs T H) : LamX.Tabs T H' := fun p hp => by
  obtain ⟨x, y, z, q⟩ := J
  obtain ⟨ps, a1, a2, a3⟩ := t p hp
  refine ⟨ps, o _ _ (fun e => ?_) a1, a2, fun pos cv hcv => ?_⟩
  · rw [e, q] at a1
    cases a1
  · obtain ⟨c, e, h⟩ := a3 pos cv hcv
    refine ⟨c, e, o _ _ (fun e => ?_) h⟩
    rw [e, q] at h
    cases h
def spRight (PR : Addr) : Sp := fun vs H Q _ => ∃ j : Addr, vs = [.ref j] ∧ Jar H j ∧ LamX.Tabs [(PR, qLam)] H ∧ ∀ H', OffN j H H' → LamX.Tabs [(PR, qLam)] H' → Q (.bl true) H'
/-- the state of a law's turns: the jar, the tables -/
structure Ts (PR j : Addr) (H0 H : Hp) : Prop where
  off : OffN j H0 H
  jar : Jar H j
  tab : LamX.Tabs [(PR, qLam)] H
theorem Ts.same {PR j : Addr} {H0 H H' : Hp} (t : Ts PR j H0 H) (s : Same H H') : Ts PR j H0 H' := ⟨t.off.trans (Same.off s).offN, t.jar.same s, t.tab.ext s⟩
theorem Ts.off' {PR j : Addr} {H0 H H' : Hp} (t : Ts PR j H0 H) (o : Off j H H') (J : Jar H' j) : Ts PR j H0 H' := ⟨t.off.trans o.offN, J, tabs_off t.jar o t.tab⟩
theorem Ts.ext {PR j : Addr} {H0 H H' : Hp} (t : Ts PR j H0 H) (o : LamX.ExtN H H') (T : LamX.Tabs [(PR, qLam)] H') : Ts PR j H0 H' := ⟨t.off.trans (extN_off o), t.jar.ext o, T⟩
end My

/-! try with a clause `except (C1, C2) as n` or `except (C1, C2, C3) as n` -/
namespace TryAs
open PySem PySem.Spec PyProof.Rows L2
def wishT (K : PySem.W.Frag) (i : Nat) (out : WX) (D : Ends) (cs : List Value) (ts : Addr → Value → Option Addr → TS) : WX := fun cls d σ H => ∃ yes, PySem.W.exmAny K cls cs = some yes ∧ cond yes (∀ e, H e = none → ts e cls d (bare i D) (σ.set i (some (.ref e))) H) (out cls d σ H)
/-- a tuple of names, and what it gives -/
inductive TupN (X : Cx) : Expr → List Value → Prop
  | two {x1 x2 : Str} {c1 c2 : Value} {p1 p2 tp : Pos} {kk : Nat} : Names X x1 c1 → Names X x2 c2 → TupN X (.Tuple [.Name x1 p1, .Name x2 p2] kk tp) [c1, c2]
  | three {x1 x2 x3 : Str} {c1 c2 c3 : Value} {p1 p2 p3 tp : Pos} {kk : Nat} : Names X x1 c1 → Names X x2 c2 → Names X x3 c3 → TupN X (.Tuple [.Name x1 p1, .Name x2 p2, .Name x3 p3] kk tp) [c1, c2, c3]
section
variable {X : Cx} {n : Str} {i : Nat} {out : WX} {D : Ends} {pins : List (Addr × Obj)} {σ : L2.St} {H : Hp} {sI : Shared} {B : Heap} {e : Addr} {cls : Value} {d : Option Addr}
theorem flyZ_keeps {base : Heap} {l : List Env} {Z : Obj → Prop} {h h' : Heap} (R : HandSPX.FlyingZ base l e Z h) (k : ∀ b o, h.get? b = some o → h'.get? b = some o) : HandSPX.FlyingZ base l e Z h' := by
  obtain ⟨f1, f2, f3, o, vs, T, oT, ts, g1, g2, g3, g4, g5, g6, g7, g8⟩ := R
  exact ⟨fun b o q => k b o (f1 b o q), f2, f3.of_keeps fun b o q _ => ⟨o, k b o q, rfl⟩, o, vs, T, oT, ts, k _ _ g1, g2, g3, g4, g5, g6, k _ _ g7, g8⟩
theorem Down.keeps {h h' : Heap} (Z : Down X pins σ H sI B e cls d h) (k : ∀ b o, h.get? b = some o → h'.get? b = some o) : Down X pins σ H sI B e cls d h' :=
  ⟨Z.J, Z.nb, Z.up.trans (Heap.UpToSlots.of_keeps k), flyZ_keeps Z.fl k, Z.na⟩
theorem runT (hs : X.stack = X.env :: X.outer) (hf : X.env.frame = some X.env.locals) (nd : X.N.Nodup) (hi : X.N[i]? = some n) (ln : X.env.kindOf n = some .local) (tk : Takes X out) {h : Heap} {s : Shared} (Z : Down X pins σ H sI B e cls d h) (os : s.os = sI.os) (ag : AllBare s.gens)
    {te : Expr} {cs : List Value} {st : Stmt} {sts : List Stmt} {p2 : Pos} {ts : Addr → Value → Option Addr → TS} (tn : TupN X te cs)
    (ru : ∀ (e : Addr) (o : Obj) (cls : Value) (d : Option Addr) (pn : List (Addr × Obj)), Zc cls d o → (∃ vs, o.data = .fields vs) → PSs (X.suite e ((e, o) :: pn)) (st :: sts) (ts e cls d)) (w : wishT X.K i out D cs ts cls d σ H) :
    wpAny (model X.prog X.w) X.A (handleBy (.ref e) X.env [.ExceptHandler (some te) (some n) (st :: sts) p2]) (SP X pins D) X.xe { s with heap := h } := by
  obtain ⟨yes, ex, w⟩ := w
  have I3 := Z.here os ag
  obtain ⟨n1, n2⟩ := Z.outside hf
  obtain ⟨o3, v3, g3, z3, f3⟩ := Z.fl.there
  have S3 := I3.suite g3 f3 Z.na n1 n2
  have ty : PySem.W.Looks (model X.prog X.w) h (typeOf (.ref e)) cls := fun _ _ _ _ kk q => wpAny_typeOf_ref (kk _ _ g3) (z3.1.symm ▸ q)
  have look : ∀ {x : Str} {c : Value} {p1 : Pos} {Q E : Value → Shared → Prop}, Names X x c → Q c { s with heap := h } → wpAny (model X.prog X.w) (X.A.mark (some (.ref e))) (eval (.Name x p1) X.env) Q E { s with heap := h } := fun {x c p1 Q E} nm q => by
    obtain ⟨gl, db, m1 | ⟨m1, m2, m3⟩⟩ := nm
    · exact ld_glob (X := X.suite e ((e, o3) :: (X.pn ++ pins))) S3 gl m1 q db
    · exact ld_blt (X := X.suite e ((e, o3) :: (X.pn ++ pins))) S3 gl m1 m2 q m3 db
  -- behind the test
  have test : ∀ {Q : Bool → Shared → Prop} {E : Value → Shared → Prop}, (∀ h' : Heap, (∀ b o, h.get? b = some o → h'.get? b = some o) → Q yes { s with heap := h' }) →
      wpAny (model X.prog X.w) (X.A.mark (some (.ref e))) (eval te X.env) (fun c s1 => wpAny (model X.prog X.w) (X.A.mark (some (.ref e))) (excMatches (.ref e) c) Q E s1) E { s with heap := h } := fun {Q E} q => by
    cases tn with
    | @two x1 x2 c1 c2 p1 p2 tp kk a1 a2 =>
      refine wpAny_Tuple ?_
      refine wpAny_items_cons (look a1 ?_)
      refine wpAny_items_cons (look a2 ?_)
      refine wpAny_items_nil ⟨by size_fits, ?_⟩
      have kp : ∀ b o, h.get? b = some o → (h.push { cls := .type "tuple", data := .seq [c1, c2].toArray }).get? b = some o := fun _ _ z => Heap.get?_push_of_some _ z
      exact (PySem.W.exm_tup2 (I3.kIn.keeps kp) (ty.keeps kp) (Heap.get?_push_size h rfl) ex).here (q _ kp)
    | @three x1 x2 x3 c1 c2 c3 p1 p2 p3 tp kk a1 a2 a3 =>
      refine wpAny_Tuple ?_
      refine wpAny_items_cons (look a1 ?_)
      refine wpAny_items_cons (look a2 ?_)
      refine wpAny_items_cons (look a3 ?_)
      refine wpAny_items_nil ⟨by size_fits, ?_⟩
      have kp : ∀ b o, h.get? b = some o → (h.push { cls := .type "tuple", data := .seq [c1, c2, c3].toArray }).get? b = some o := fun _ _ z => Heap.get?_push_of_some _ z
      exact (PySem.W.exm_tup3 (I3.kIn.keeps kp) (ty.keeps kp) (Heap.get?_push_size h rfl) ex).here (q _ kp)
  refine wpAny_handleBy_cons (codeAny_handlers_test (test fun h' kp => ?_)) fun q => nomatch q
  have Z' := Z.keeps kp
  cases yes with
  | false => exact Z'.on hs hf tk os ag w
  | true =>
    refine codeAny_handlers_suite_as (HandSPX.lands_againZ Z'.fl fun g fl u => ?_)
    have Z4 : Down X pins σ H sI B e cls d g := ⟨Z'.J, Z'.nb, Z'.up.trans u, fl, Z'.na⟩
    have I4 := Z4.here os ag
    obtain ⟨o4, v4, g4, z4, f4⟩ := fl.there
    refine store_ok (X := X.suite e ((e, o4) :: (X.pn ++ pins))) (v := .ref e) (I4.suite g4 f4 Z.na n1 n2) nd hi (.inl ln) rfl (fun s5 S5 => ?_) (.inr ln)
    have run5 := (ru e o4 cls d (X.pn ++ pins) z4 ⟨v4, f4⟩).run [] s5 _ H (bare i D) S5 (w e Z.na)
    refine wpAny_mono run5 (fun fw s6 r6 => ?_) fun _ _ z => z.elim
    have gone : ∀ {σ6 : L2.St} {H6 : Hp} {q : Addr × Obj} {Q : Shared → Prop}, Inv (X.suite e (q :: (X.pn ++ pins))) [] σ6 H6 s6 → (∀ s7, Inv X pins (σ6.set i none) H6 s7 → Q s7) → wpAny (model X.prog X.w) X.A (do bindName X.env n .none; unbindBehindTheSuite X.env n p2) (fun _ s7 => Q s7) X.xe s6 :=
      fun S6 k => gone_ok (S6.unsuite Z.J.ok) nd hi ln k
    match fw, r6 with
    | .next, ⟨σ6, H6, S6, k6⟩ => exact gone S6 fun s7 I7 => ⟨_, _, I7, k6⟩
    | .brk, ⟨σ6, H6, S6, k6⟩ => exact gone S6 fun s7 I7 => ⟨_, _, I7, k6⟩
    | .cont, ⟨σ6, H6, S6, k6⟩ => exact gone S6 fun s7 I7 => ⟨_, _, I7, k6⟩
    | .ret v, ⟨v6, σ6, H6, S6, rv, k6⟩ => exact gone S6 fun s7 I7 => ⟨_, _, _, I7, rv, k6⟩
variable {body : List Stmt} {pos : Pos} {tb : WX → TS} {te : Expr} {cs : List Value} {st : Stmt} {sts : List Stmt} {p2 : Pos} {ts : Addr → Value → Option Addr → TS}
/-- the rule -/
theorem ps_try_asT (hs : X.stack = X.env :: X.outer) (hf : X.env.frame = some X.env.locals) (nd : X.N.Nodup) (hi : X.N[i]? = some n) (ln : X.env.kindOf n = some .local) (tk : Takes X out) (tn : TupN X te cs)
    (hb : ∀ (W : WX) (pn : List (Addr × Obj)) (xe : Value → Shared → Prop), Takes (X.tr pn xe) W → PassesOwn (model X.prog X.w) X.A X.env xe → PSs (X.tr pn xe) body (tb W))
    (ru : ∀ (e : Addr) (o : Obj) (cls : Value) (d : Option Addr) (pn : List (Addr × Obj)), Zc cls d o → (∃ vs, o.data = .fields vs) → PSs (X.suite e ((e, o) :: pn)) (st :: sts) (ts e cls d)) :
    PS X (.Try body [.ExceptHandler (some te) (some n) (st :: sts) p2] [] [] pos) fun D σ H => tb (wishT X.K i out D cs ts) D σ H := by
  refine ⟨fun pins s σ H D I h => wpAny_Try_except ?_⟩
  have fr : X.A.frames = some (X.env :: X.outer) := I.ok.frames.trans (congrArg some hs)
  refine wpAny_mono ((hb _ (X.pn ++ pins) _ ?_ PassesOwn.looking).run [] s σ H D (I.toTry _) h) (fun fw t r => ?_) fun _ _ z => z
  · rintro _ t ⟨e, B, sI, _, σ1, H1, cls, d, rfl, J, nb, up, sky, na, os, ag, w⟩
    refine Sky.land Zc.steady fr hf (hs ▸ sky) fun g fl u => ?_
    exact runT hs hf nd hi ln tk ⟨J.ofTry I.ok, nb, up.trans u, fl, na⟩ os ag tn ru w
  · match fw, r with
    | .next, ⟨_, _, J, q⟩ => exact wpAny_execs_nil ⟨_, _, J.ofTry I.ok, q⟩
    | .brk, ⟨_, _, J, q⟩ => exact ⟨_, _, J.ofTry I.ok, q⟩
    | .cont, ⟨_, _, J, q⟩ => exact ⟨_, _, J.ofTry I.ok, q⟩
    | .ret v, ⟨_, _, _, J, rv, q⟩ => exact ⟨_, _, _, J.ofTry I.ok, rv, q⟩
end
end TryAs

/-! try with a clause `except (C1, C2):` or `except (C1, C2, C3):` without a name -/
namespace TryAs
open PySem PySem.Spec PyProof.Rows L2
def wishN (K : PySem.W.Frag) (out : WX) (D : Ends) (cs : List Value) (ts : Addr → Value → Option Addr → TS) : WX := fun cls d σ H => ∃ yes, PySem.W.exmAny K cls cs = some yes ∧ cond yes (∀ e, H e = none → ts e cls d D σ H) (out cls d σ H)
section
variable {X : Cx} {out : WX} {D : Ends} {pins : List (Addr × Obj)} {σ : L2.St} {H : Hp} {sI : Shared} {B : Heap} {e : Addr} {cls : Value} {d : Option Addr}
theorem runN (hs : X.stack = X.env :: X.outer) (hf : X.env.frame = some X.env.locals) (tk : Takes X out) {h : Heap} {s : Shared} (Z : Down X pins σ H sI B e cls d h) (os : s.os = sI.os) (ag : AllBare s.gens)
    {te : Expr} {cs : List Value} {st : Stmt} {sts : List Stmt} {p2 : Pos} {ts : Addr → Value → Option Addr → TS} (tn : TupN X te cs)
    (ru : ∀ (e : Addr) (o : Obj) (cls : Value) (d : Option Addr) (pn : List (Addr × Obj)), Zc cls d o → (∃ vs, o.data = .fields vs) → PSs (X.suite e ((e, o) :: pn)) (st :: sts) (ts e cls d)) (w : wishN X.K out D cs ts cls d σ H) :
    wpAny (model X.prog X.w) X.A (handleBy (.ref e) X.env [.ExceptHandler (some te) none (st :: sts) p2]) (SP X pins D) X.xe { s with heap := h } := by
  obtain ⟨yes, ex, w⟩ := w
  have I3 := Z.here os ag
  obtain ⟨n1, n2⟩ := Z.outside hf
  obtain ⟨o3, v3, g3, z3, f3⟩ := Z.fl.there
  have S3 := I3.suite g3 f3 Z.na n1 n2
  have ty : PySem.W.Looks (model X.prog X.w) h (typeOf (.ref e)) cls := fun _ _ _ _ kk q => wpAny_typeOf_ref (kk _ _ g3) (z3.1.symm ▸ q)
  have look : ∀ {x : Str} {c : Value} {p1 : Pos} {Q E : Value → Shared → Prop}, Names X x c → Q c { s with heap := h } → wpAny (model X.prog X.w) (X.A.mark (some (.ref e))) (eval (.Name x p1) X.env) Q E { s with heap := h } := fun {x c p1 Q E} nm q => by
    obtain ⟨gl, db, m1 | ⟨m1, m2, m3⟩⟩ := nm
    · exact ld_glob (X := X.suite e ((e, o3) :: (X.pn ++ pins))) S3 gl m1 q db
    · exact ld_blt (X := X.suite e ((e, o3) :: (X.pn ++ pins))) S3 gl m1 m2 q m3 db
  -- behind the test
  have test : ∀ {Q : Bool → Shared → Prop} {E : Value → Shared → Prop}, (∀ h' : Heap, (∀ b o, h.get? b = some o → h'.get? b = some o) → Q yes { s with heap := h' }) →
      wpAny (model X.prog X.w) (X.A.mark (some (.ref e))) (eval te X.env) (fun c s1 => wpAny (model X.prog X.w) (X.A.mark (some (.ref e))) (excMatches (.ref e) c) Q E s1) E { s with heap := h } := fun {Q E} q => by
    cases tn with
    | @two x1 x2 c1 c2 p1 p2 tp kk a1 a2 =>
      refine wpAny_Tuple ?_
      refine wpAny_items_cons (look a1 ?_)
      refine wpAny_items_cons (look a2 ?_)
      refine wpAny_items_nil ⟨by size_fits, ?_⟩
      have kp : ∀ b o, h.get? b = some o → (h.push { cls := .type "tuple", data := .seq [c1, c2].toArray }).get? b = some o := fun _ _ z => Heap.get?_push_of_some _ z
      exact (PySem.W.exm_tup2 (I3.kIn.keeps kp) (ty.keeps kp) (Heap.get?_push_size h rfl) ex).here (q _ kp)
    | @three x1 x2 x3 c1 c2 c3 p1 p2 p3 tp kk a1 a2 a3 =>
      refine wpAny_Tuple ?_
      refine wpAny_items_cons (look a1 ?_)
      refine wpAny_items_cons (look a2 ?_)
      refine wpAny_items_cons (look a3 ?_)
      refine wpAny_items_nil ⟨by size_fits, ?_⟩
      have kp : ∀ b o, h.get? b = some o → (h.push { cls := .type "tuple", data := .seq [c1, c2, c3].toArray }).get? b = some o := fun _ _ z => Heap.get?_push_of_some _ z
      exact (PySem.W.exm_tup3 (I3.kIn.keeps kp) (ty.keeps kp) (Heap.get?_push_size h rfl) ex).here (q _ kp)
  refine wpAny_handleBy_cons (codeAny_handlers_test (test fun h' kp => ?_)) fun q => nomatch q
  have Z' := Z.keeps kp
  cases yes with
  | false => exact Z'.on hs hf tk os ag w
  | true =>
    refine codeAny_handlers_suite (HandSPX.lands_againZ Z'.fl fun g fl u => ?_)
    have Z4 : Down X pins σ H sI B e cls d g := ⟨Z'.J, Z'.nb, Z'.up.trans u, fl, Z'.na⟩
    have I4 := Z4.here os ag
    obtain ⟨o4, v4, g4, z4, f4⟩ := fl.there
    have S4 := I4.suite g4 f4 Z.na n1 n2
    refine wpAny_mono ((ru e o4 cls d (X.pn ++ pins) z4 ⟨v4, f4⟩).run [] _ σ H D S4 (w e Z.na)) (fun fw s6 r6 => ?_) fun _ _ z => z.elim
    match fw, r6 with
    | .next, ⟨σ6, H6, S6, q6⟩ => exact ⟨_, _, S6.unsuite Z.J.ok, q6⟩
    | .brk, ⟨σ6, H6, S6, q6⟩ => exact ⟨_, _, S6.unsuite Z.J.ok, q6⟩
    | .cont, ⟨σ6, H6, S6, q6⟩ => exact ⟨_, _, S6.unsuite Z.J.ok, q6⟩
    | .ret v, ⟨v6, σ6, H6, S6, rv, q6⟩ => exact ⟨_, _, _, S6.unsuite Z.J.ok, rv, q6⟩
variable {body : List Stmt} {pos : Pos} {tb : WX → TS} {te : Expr} {cs : List Value} {st : Stmt} {sts : List Stmt} {p2 : Pos} {ts : Addr → Value → Option Addr → TS}
/-- the rule -/
theorem ps_try_tup (hs : X.stack = X.env :: X.outer) (hf : X.env.frame = some X.env.locals) (tk : Takes X out) (tn : TupN X te cs)
    (hb : ∀ (W : WX) (pn : List (Addr × Obj)) (xe : Value → Shared → Prop), Takes (X.tr pn xe) W → PassesOwn (model X.prog X.w) X.A X.env xe → PSs (X.tr pn xe) body (tb W))
    (ru : ∀ (e : Addr) (o : Obj) (cls : Value) (d : Option Addr) (pn : List (Addr × Obj)), Zc cls d o → (∃ vs, o.data = .fields vs) → PSs (X.suite e ((e, o) :: pn)) (st :: sts) (ts e cls d)) :
    PS X (.Try body [.ExceptHandler (some te) none (st :: sts) p2] [] [] pos) fun D σ H => tb (wishN X.K out D cs ts) D σ H := by
  refine ⟨fun pins s σ H D I h => wpAny_Try_except ?_⟩
  have fr : X.A.frames = some (X.env :: X.outer) := I.ok.frames.trans (congrArg some hs)
  refine wpAny_mono ((hb _ (X.pn ++ pins) _ ?_ PassesOwn.looking).run [] s σ H D (I.toTry _) h) (fun fw t r => ?_) fun _ _ z => z
  · rintro _ t ⟨e, B, sI, _, σ1, H1, cls, d, rfl, J, nb, up, sky, na, os, ag, w⟩
    refine Sky.land Zc.steady fr hf (hs ▸ sky) fun g fl u => ?_
    exact runN hs hf tk ⟨J.ofTry I.ok, nb, up.trans u, fl, na⟩ os ag tn ru w
  · match fw, r with
    | .next, ⟨_, _, J, q⟩ => exact wpAny_execs_nil ⟨_, _, J.ofTry I.ok, q⟩
    | .brk, ⟨_, _, J, q⟩ => exact ⟨_, _, J.ofTry I.ok, q⟩
    | .cont, ⟨_, _, J, q⟩ => exact ⟨_, _, J.ofTry I.ok, q⟩
    | .ret v, ⟨_, _, _, J, rv, q⟩ => exact ⟨_, _, _, J.ofTry I.ok, rv, q⟩
end
end TryAs

/-! what a law's _law_came asks of the classes that it catches -/
namespace CmH
open PySem L2 IsX
theorem ss_imp {X : Cx} {ss : List Stmt} {t t' : L2.TS} (h : PSs X ss t) (f : ∀ D σ H, t' D σ H → t D σ H) : PSs X ss t' := ⟨fun pins s σ H D I q => h.run pins s σ H D I (f _ _ _ q)⟩
/-- an error with a field; CB its own base, bt Python's -/
structure HF (K : PySem.W.Frag) (fld : Str) (bt : String) (C CB : Addr) : Prop where
  x : XiC K C
  n : PySem.W.findIn K (.ref C) fld = some none
  k1 : PySem.W.kitOne K (.ref C) (.ref CB) = some true
  k2 : PySem.W.kitOne K (.ref C) (.type bt) = some true
/-- an error without fields -/
structure HN (K : PySem.W.Frag) (bt : String) (C CB : Addr) : Prop where
  x : ExcC K C
  k1 : PySem.W.kitOne K (.ref C) (.ref CB) = some true
  k2 : PySem.W.kitOne K (.ref C) (.type bt) = some true
def tRowF (D : Addr) (nm fld : Str) (a : Addr) (cls : Value) (d : Option Addr) : L2.TS := fun Z σ H => cls = .ref D ∧ ∃ (dd : Addr) (v : V), d = some dd ∧ H dd = some (.xd [(fld, v)]) ∧ σ[2]? = some (some (.ref a)) ∧ ∀ p, H p = none → Z.rt (.ref p) (upd H p (.lst [.str nm, v, .bl true]))
def tRowN (D : Addr) (nm : Str) (a : Addr) (cls : Value) (d : Option Addr) : L2.TS := fun Z σ H => cls = .ref D ∧ d = none ∧ σ[2]? = some (some (.ref a)) ∧ ∀ p, H p = none → Z.rt (.ref p) (upd H p (.lst [.str nm, .bl true]))
def tGiv : L2.TS := fun D σ H => ∃ u : V, σ[1]? = some (some u) ∧ ∀ p, H p = none → D.rt (.ref p) (upd H p (.lst [.str "given", u]))
end CmH

/-! Console: answer_undo, answer_feed -/
namespace My
open PySem L2 Cm LM EM
abbrev sCnU : Stmt := inClass (top 128) 2
abbrev sCnF : Stmt := inClass (top 128) 3
abbrev sCnS : Stmt := inClass (top 128) 1
abbrev sCnI : Stmt := inClass (top 128) 0
abbrev sEIR : Stmt := inClass (top 14) 0
structure TxCn (K : PySem.W.Frag) (mg : Str → Option Value) where
  E : TxRe K mg
  T : TxCo K mg
  C : Addr
  gC : mg "Console" = some (.ref C)
  cl : Cls K C
  nR : NoAttr K C "reading"
  fI : Addr
  fdI : FuncData
  FI : Fun K "__init__" "Console.__init__" sCnI fI fdI
  bI : Binds K fdI ["self", "loop", "size"] []
  MI : Mk K C fI
  rf : ∃ t, mg "REFUSED" = some (.str "refused" t)
  eR : TxEr K mg "InvalidRow" "value" sEIR "InvalidRow.__init__"
  au : Mt K C "answer_undo" "Console.answer_undo" sCnU ["self"]
  af : Mt K C "answer_feed" "Console.answer_feed" sCnF ["self", "reply"]
  say : Mt K C "say" "Console.say" sCnS ["self", "row"]
  iE : Addr
  sE : Addr
  zE : Addr
  gI : mg "InputError" = some (.ref iE)
  gS : mg "StateError" = some (.ref sE)
  gZ : mg "SizeError" = some (.ref zE)
  xn : PySem.W.exmOne K (.ref E.R.xN.C) (.ref E.R.xN.C) = some true
  xc : PySem.W.exmAny K (.ref E.eC.C) [.ref iE, .ref sE, .ref zE] = some true
  xs : PySem.W.exmAny K (.ref E.R.xS.C) [.ref iE, .ref sE, .ref zE] = some true
  xm : PySem.W.exmAny K (.ref E.xM.C) [.ref iE, .ref sE, .ref zE] = some true
def conf (lv : Addr) : List (Str × V) := [("reading", .ref lv)]
theorem conf_rd (lv : Addr) : (conf lv).lookup ("reading" : Str) = some (.ref lv) := by simp [conf, List.lookup]
/-- a console stands at dk -/
structure ConAt {K : PySem.W.Frag} {mg : Str → Option Value} (T : TxCn K mg) (H : Hp) (dk ddx lv dx lo m : Addr) (sz : Nat) (t : Str) (rr : List (Nat × Bool)) : Prop where
  at_ : H dk = some (.ins T.C ddx (conf lv))
  rd : RdAt T.E.R H lv dx lo m sz t rr
section
variable {P : Program} {w : World} {K : PySem.W.Frag} {mg : Str → Option Value} {base : Heap}
/-! ### answer_undo -/
def spAU (T : TxCn K mg) : Sp := fun vs H Q _ => ∃ (dk ddx lv dx lo m : Addr) (sz : Nat) (t : Str) (rr : List (Nat × Bool)), vs = [.ref dk] ∧ ConAt T H dk ddx lv dx lo m sz t rr ∧
  (rr = [] → Q (.str "refused") H) ∧ ∀ r q, rr = r :: q → ∀ (H' : Hp) (m' : Addr), Off lv H H' → RdAt T.E.R H' lv dx lo m' sz t q → Q (.str "ok") H'
theorem scAU : FnScope ["self"] ["self"] (defScope sCnU) := ⟨rfl, rfl, rfl, by decide +kernel, rfl, by decide +kernel, by decide +kernel⟩
theorem ok_au (T : TxCn K mg) : FnOk P w K mg base CX0 3 T.au.f T.au.fd ["self"] (spAU T) := by
  have GU : FnOk P w K mg base (L2.CX P w) 2 T.E.R.un.f T.E.R.un.fd ["self"] (spRdU T.E.R) := ok_rdu T.E.R
  obtain ⟨tr, mr⟩ := T.rf
  refine T.au.F.ok scAU (fun vs H Q E h => ?_) (fun cdv A outer s H vs Q E hr h => ?_)
  · obtain ⟨dk, _, _, _, _, _, _, _, _, rfl, _⟩ := h
    rfl
  · obtain ⟨dk, ddx, lv, dx, lo, m, sz, t, rr, rfl, hC, k0, k1⟩ := h
    refine ⟨_, pss_cons (ps_try_many (X := (cxOf CX0 P w K mg base ["self"] "Console.answer_undo" (defScope sCnU) T.au.f cdv A outer s H E).nox) (Wout := fun _ _ _ _ => False)
        (tb := fun W D σ H => ∃ (Ech : XK) (dk ddx lv dx : Addr) (fs : List (Str × V)), (∀ cls d σ' H', Ech cls d H' → W cls d σ' H') ∧ σ[0]? = some (some (.ref dk)) ∧ H dk = some (.ins T.C ddx (conf lv)) ∧ H lv = some (.ins T.E.R.CR dx fs) ∧ fs.lookup ("undo" : Str) = none ∧ spRdU T.E.R [.ref lv] H (fun _ H2 => D.nx σ H2) Ech)
        (l := [(.ref T.E.R.xN.C, fun _ _ _ D σ H => D.rt (.str "refused") H)]) rfl rfl LamX.takes0 (fun W pn xe tk _ => ⟨fun pins s2 σ H2 D I ⟨Ech, dk, ddx, lv, dx, fs, hW, h0, h1, h2, h3, h4⟩ => ?_⟩)
        ?hd)
      (pss_one (ps_ret pe_str)), ?_⟩
    case hd =>
      refine .cons ⟨rfl, by decide, .inl T.E.R.xN.g⟩ ?_ .nil
      intro a oe cls d pn _ _
      refine CmH.ss_imp (pss_one (ps_ret (pe_glob (v := .str "refused") rfl mr ⟨_, rfl⟩))) ?_
      exact fun D σ H h => h
    · refine (pss_one (ps_expr (pe_meth0 (E := Ech) (pe_fld (pv 0) rfl) T.E.R.clR T.E.R.un.m GU hr T.E.R.un.b .nil (passes_call tk hW)))).run pins s2 σ H2 D I ?_
      exact ⟨_, h0, dk, T.C, ddx, _, _, rfl, h1, T.cl, T.nR, conf_rd lv, lv, dx, fs, rfl, h2, h3, h4⟩
    · refine ⟨fun cls d H' => cls = .ref T.E.R.xN.C ∧ rr = [] ∧ H' = H, dk, ddx, lv, dx, _, ?_, rfl, hC.at_, hC.rd.at_, rf_n2 .., ?_⟩
      · rintro cls d σ' H' ⟨rfl, hrr, rfl⟩
        exact ⟨true, T.xn, fun _ a na => k0 hrr, fun z => Bool.noConfusion z⟩
      · exact ⟨lv, dx, lo, m, sz, t, rr, rfl, hC.rd, fun h => ⟨rfl, h, rfl⟩, fun r q e H' m' o hR => k1 r q e H' m' o hR⟩
/-! ### answer_feed -/
def spAF (T : TxCn K mg) : Sp := fun vs H Q _ => ∃ (dk ddx lv dx lo m q : Addr) (sz n : Nat) (b : Bool) (t : Str) (rr : List (Nat × Bool)), vs = [.ref dk, .ref q] ∧ H q = some (.tup [.int (n : Nat), .bl b]) ∧ ConAt T H dk ddx lv dx lo m sz t rr ∧
  goodText t = true ∧ 1 ≤ sz ∧ sz ≤ 1000 ∧ rr.length ≤ 100 ∧ OkR sz (ordsR t) (ordsE t) rr ∧ (∀ r ∈ rr, r.1 ≤ sz) ∧
  ((sz < n ∨ (stR sz (ordsR t) (ordsE t) rr).st = true ∨ rr.length = 100) → ∀ H', Same H H' → Q (.str "refused") H') ∧
  (n ≤ sz → (stR sz (ordsR t) (ordsE t) rr).st = false → rr.length < 100 → OrdP (newP sz t rr n b) ∧ (newP sz t rr n b).length + ((newP sz t rr n b).map (·.length)).sum ≤ 500000 ∧ ∀ (H' : Hp) (m' : Addr), Off lv H H' → RdAt T.E.R H' lv dx lo m' sz t ((n, b) :: rr) → Q (.str (CoR.pcT (newP sz t rr n b))) H')
abbrev NAF : List Str := ["self", "reply", "count", "told"]
theorem scAF : FnScope NAF ["self", "reply"] (defScope sCnF) := ⟨rfl, rfl, rfl, by decide +kernel, rfl, by decide +kernel, by decide +kernel⟩
theorem ok_af (T : TxCn K mg) : FnOk P w K mg base CX0 7 T.af.f T.af.fd ["self", "reply"] (spAF T) := by
  have GF : FnOk P w K mg base (L2.CX P w) 6 T.E.R.fe.f T.E.R.fe.fd ["self", "count", "told"] (spFe T.E) := ok_fe T.E
  have GP : FnOk P w K mg base CX0 2 T.T.pt.f T.T.pt.fd ["pieces"] (spPT K) := ok_pt T.T
  obtain ⟨tr, mr⟩ := T.rf
  refine T.af.F.ok scAF (fun vs H Q E h => ?_) (fun cdv A outer s H vs Q E hr h => ?_)
  · obtain ⟨dk, _, _, _, _, _, q, _, _, _, _, _, rfl, _⟩ := h
    rfl
  · obtain ⟨dk, ddx, lv, dx, lo, m, q, sz, n, b, t, rr, rfl, hq, hC, gt, z1, z2, hl, ok, hc, k0, k1⟩ := h
    have hr2 : Room 2 _ := hr.mono (by decide)
    refine ⟨_, pss_cons (ps_asg (pv 1) (pg_tup rfl (pgs_cons (pg_name (i := 2) scAF.nd rfl (.inl rfl)) (pgs_cons (pg_name (i := 3) scAF.nd rfl (.inl rfl)) pgs_nil)))) (pss_one (TryAs.ps_try_tup (X := (cxOf CX0 P w K mg base NAF "Console.answer_feed" (defScope sCnF) T.af.f cdv A outer s H E).nox) (out := fun _ _ _ _ => False) (cs := [.ref T.iE, .ref T.sE, .ref T.zE]) (ts := fun _ _ _ D σ H => D.rt (.str "refused") H)
        (tb := fun W D σ H => ∃ (Ech : XK) (dk ddx lv dx : Addr) (fs : List (Str × V)) (n : Nat) (b : Bool), (∀ cls d σ' H', Ech cls d H' → W cls d σ' H') ∧ σ[0]? = some (some (.ref dk)) ∧ σ[2]? = some (some (.int n)) ∧ σ[3]? = some (some (.bl b)) ∧ H dk = some (.ins T.C ddx (conf lv)) ∧ H lv = some (.ins T.E.R.CR dx fs) ∧ fs.lookup ("feed" : Str) = none ∧ spFe T.E [.ref lv, .int n, .bl b] H (fun v H2 => spPT K [v] H2 D.rt E0) Ech)
        rfl rfl LamX.takes0 (.three ⟨rfl, by decide, .inl T.gI⟩ ⟨rfl, by decide, .inl T.gS⟩ ⟨rfl, by decide, .inl T.gZ⟩) (fun W pn xe tk _ => ⟨fun pins s2 σ H2 D I ⟨Ech, dk, ddx, lv, dx, fs, n, b, hW, h0, h2, h3, h4, h5, h6, h7⟩ => ?_⟩)
        ?hd)), ?_⟩
    case hd =>
      intro a oe cls d pn _ _
      refine CmH.ss_imp (pss_one (ps_ret (pe_glob (v := .str "refused") rfl mr ⟨_, rfl⟩))) ?_
      exact fun D σ H h => h
    · refine' PSs.run (?h : PSs _ _ _) pins s2 σ H2 D I ?r
      case h => exact pss_one (ps_ret (pe_call GP hr2 rfl T.T.pt.g T.T.pt.k T.T.pt.b .nil pass0 (pa_cons (pe_meth (E := Ech) (pe_fld (pv 0) rfl) T.E.R.clR T.E.R.fe.m GF hr T.E.R.fe.b .nil (passes_call tk hW) (pa_cons (pv 2) (pa_cons (pv 3) pa_nil))) pa_nil)))
      exact ⟨_, h0, dk, T.C, ddx, _, _, rfl, h4, T.cl, T.nR, conf_rd lv, lv, dx, fs, rfl, h5, h6, _, h2, _, h3, h7⟩
    · refine ⟨_, rfl, q, _, rfl, SqT.of hq, rfl, _, _, rfl, _, _, rfl, rfl, ?_⟩
      by_cases bad : sz < n ∨ (stR sz (ordsR t) (ordsE t) rr).st = true ∨ rr.length = 100
      · have kk := k0 bad
        refine ⟨fun cls d H' => (cls = .ref T.E.eC.C ∨ cls = .ref T.E.R.xS.C ∨ cls = .ref T.E.xM.C) ∧ Same H H', dk, ddx, lv, dx, _, n, b, ?_, rfl, rfl, rfl, hC.at_, hC.rd.at_, rf_n1 .., .inr ?_⟩
        · rintro cls d σ' H' ⟨hcl, s'⟩
          rcases hcl with rfl | rfl | rfl
          · exact ⟨true, T.xc, fun e ne => kk H' s'⟩
          · exact ⟨true, T.xs, fun e ne => kk H' s'⟩
          · exact ⟨true, T.xm, fun e ne => kk H' s'⟩
        · refine ⟨lv, dx, lo, m, sz, .int n, .bl b, t, rr, rfl, hC.rd, typed_int _, typed_bl _, hl, ?_⟩
          by_cases h1 : n ≤ sz
          · refine .inr ⟨decide_eq_true ⟨by omega, by omega⟩, .inr ⟨rfl, ?_⟩⟩
            cases hs : (stR sz (ordsR t) (ordsE t) rr).st with
            | true => exact .inl ⟨rfl, .inr (.inl rfl), Same.refl _⟩
            | false =>
              refine .inr ⟨rfl, ?_, fun d nd => ⟨.inr (.inr rfl), same_new nd⟩⟩
              rcases bad with z | z | z
              · omega
              · rw [hs] at z; cases z
              · exact z
          · exact .inl ⟨decide_eq_false (fun z => by omega), fun d nd => ⟨.inl rfl, same_new nd⟩⟩
      · have b1 : n ≤ sz := Nat.le_of_not_lt fun z => bad (.inl z)
        have b2 : (stR sz (ordsR t) (ordsE t) rr).st = false := by
          cases hs : (stR sz (ordsR t) (ordsE t) rr).st with
          | true => exact absurd (.inr (.inl hs)) bad
          | false => rfl
        have b3 : rr.length < 100 := Nat.lt_of_le_of_ne hl fun z => bad (.inr (.inr z))
        obtain ⟨oP, sP, kk⟩ := k1 b1 b2 b3
        refine ⟨fun _ _ _ => False, dk, ddx, lv, dx, _, n, b, fun _ _ _ _ z => z.elim, rfl, rfl, rfl, hC.at_, hC.rd.at_, rf_n1 .., .inl ?_⟩
        refine ⟨lv, dx, lo, m, sz, n, b, t, rr, rfl, hC.rd, gt, z1, z2, b1, b3, ok, hc, fun z => absurd (b2.symm.trans z) (by decide), fun _ H' m' p hs o hR np hp hP => ?_⟩
        refine ⟨p, hs, _, rfl, hp, hP, oP, sP, fun H2 s2 => ?_⟩
        exact kk H2 m' (fun x u nx e => s2 _ _ (o x u nx e)) (hR.same s2)
end
end My

/-! Console.say -/
namespace My
open PySem L2 Cm LM EM
theorem scEIR : FnScope ["self", "value"] ["self", "value"] (defScope sEIR) := ⟨rfl, rfl, rfl, by decide +kernel, rfl, by decide +kernel, by decide +kernel⟩
theorem ok_eir {P : Program} {w : World} {K : PySem.W.Frag} {mg : Str → Option Value} {base : Heap} (T : TxEr K mg "InvalidRow" "value" sEIR "InvalidRow.__init__") : FnOk P w K mg base CX0 1 T.f T.fd ["self", "value"] (spER "value" T.C) := by
  refine T.F.ok scEIR (fun vs H Q E h => ?_) (fun cdv A outer s H vs Q E hr h => ?_)
  · obtain ⟨a, v, rfl, _⟩ := h
    rfl
  · obtain ⟨a, v, rfl, ha, k⟩ := h
    exact ⟨_, pss_one (ps_ost (pv 0) (pv 1)), _, rfl, _, rfl, a, T.C, rfl, T.o, T.n, .inl ⟨ha, fun dx n ne => k dx n ne⟩⟩
section
variable {P : Program} {w : World} {K : PySem.W.Frag} {mg : Str → Option Value} {base : Heap}
/-- what a console answers to a text -/
def SayX (T : TxCn K mg) (dk ddx lv dx lo m : Addr) (sz : Nat) (t : Str) (rr : List (Nat × Bool)) (x : Str) (H : Hp) (Q : VK) (E : XK) : Prop :=
  (x = "undo" ∧ spAU T [.ref dk] H Q E0) ∨
  (x = "rest" ∧ CoR.Ord (stR sz (ordsR t) (ordsE t) rr).x.rest ∧ (stR sz (ordsR t) (ordsE t) rr).x.rest.length ≤ 500000 ∧ ∀ H', Same H H' → Q (.str (CoR.itT (stR sz (ordsR t) (ordsE t) rr).x.rest)) H') ∨
  (x = "state" ∧ Q (.str (if (stR sz (ordsR t) (ordsE t) rr).st = true then "stopped" else "open")) H) ∨
  (x ≠ "undo" ∧ x ≠ "rest" ∧ x ≠ "state" ∧ (CoR.replyL (TL.tl x) = none → ∀ d, H d = none → E (.ref T.eR.C) (some d) (upd H d (.xd [("value", .str x)]))) ∧
    ∀ n b, CoR.replyL (TL.tl x) = some (n, b) → ∀ (H' : Hp) (q : Addr), Same H H' → H' q = some (.tup [.int (n : Nat), .bl b]) → spAF T [.ref dk, .ref q] H' Q E0)
def spSy (T : TxCn K mg) : Sp := fun vs H Q E => ∃ (dk ddx lv dx lo m : Addr) (sz : Nat) (t : Str) (rr : List (Nat × Bool)) (v : V), vs = [.ref dk, v] ∧ ConAt T H dk ddx lv dx lo m sz t rr ∧
  ((∃ ty, TyX K H v ty ∧ PySem.W.kitOne K ty (.type "str") = some false ∧ ∀ d, H d = none → E (.ref T.eR.C) (some d) (upd H d (.xd [("value", v)]))) ∨
   ∃ x : Str, v = .str x ∧ x.length ≤ 640 ∧ SayX T dk ddx lv dx lo m sz t rr x H Q E)
theorem scSy : FnScope ["self", "row", "reply"] ["self", "row"] (defScope sCnS) := ⟨rfl, rfl, rfl, by decide +kernel, rfl, by decide +kernel, by decide +kernel⟩
theorem ok_sy (T : TxCn K mg) : FnOk P w K mg base (L2.CX P w) 8 T.say.f T.say.fd ["self", "row"] (spSy T) := by
  have GU : FnOk P w K mg base CX0 3 T.au.f T.au.fd ["self"] (spAU T) := ok_au T
  have GA : FnOk P w K mg base CX0 7 T.af.f T.af.fd ["self", "reply"] (spAF T) := ok_af T
  have GR : FnOk P w K mg base CX0 2 T.T.ro.f T.T.ro.fd ["row"] spRO := ok_ro T.T
  have GI : FnOk P w K mg base CX0 1 T.T.it.f T.T.it.fd ["items"] (spIT K) := ok_it T.T
  have GK : FnOk P w K mg base CX0 1 T.E.R.pK.f T.E.R.pK.fd ["self"] (spRd T.E.R fun _ _ k _ => .ref k) := ok_rdk T.E.R
  have GO : FnOk P w K mg base CX0 1 T.E.R.pO.f T.E.R.pO.fd ["self"] (spRd T.E.R fun _ _ _ ov => .bl ov) := ok_rdo T.E.R
  have GE : FnOk P w K mg base CX0 1 T.eR.f T.eR.fd ["self", "value"] (spER "value" T.eR.C) := ok_eir T.eR
  refine T.say.F.okX scSy (fun vs H Q E h => ?_) (fun cdv A outer s H vs Q E hr h => ?_)
  · obtain ⟨dk, _, _, _, _, _, _, _, _, v, rfl, _⟩ := h
    rfl
  · obtain ⟨dk, ddx, lv, dx, lo, m, sz, t, rr, v, rfl, hC, hv⟩ := h
    have hr1 : Room 1 _ := hr.mono (by decide)
    have hr2 : Room 2 _ := hr.mono (by decide)
    have hr3 : Room 3 _ := hr.mono (by decide)
    refine ⟨_, (pss_cons (ps_if (pt_not (pt_val (pe_callB call_isi (by rfl) T.E.R.N.k.isi (by decide +kernel) (pa_cons (pv 1) (pa_cons (pe_bltn (v := .ty "str") (by rfl) T.T.str (by decide +kernel) rfl) pa_nil))))) (pss_one (ps_raise rfl (takes_of rfl rfl rfl rfl) (pmk_oex T.eR.o T.eR.i T.eR.t GE hr2 T.eR.b .nil pass0 rfl T.eR.g (pa_cons (pv 1) pa_nil)))) pss_nil) (pss_cons (ps_if (pt_cmpR op_eq (pv 1) pe_str (nomark _)) (pss_one (ps_ret (pe_meth0 (pv 0) T.cl T.au.m GU hr3 T.au.b .nil pass0))) pss_nil) (pss_cons (ps_if (pt_cmpR op_eq (pv 1) pe_str (nomark _)) (pss_one (ps_ret (pe_call GI hr1 rfl T.T.it.g T.T.it.k T.T.it.b .nil pass0 (pa_cons (pe_prop (pe_fld (pv 0) rfl) T.E.R.clR T.E.R.pK.o GK hr2 T.E.R.pK.b .nil pass0 (by rfl)) pa_nil)))) pss_nil) (pss_cons (ps_if (pt_cmpR op_eq (pv 1) pe_str (nomark _)) (pss_one (ps_ret (pe_ifExp (pt_val (pe_prop (pe_fld (pv 0) rfl) T.E.R.clR T.E.R.pO.o GO hr2 T.E.R.pO.b .nil pass0 (by rfl))) pe_str pe_str))) pss_nil) (pss_cons (ps_set (i := 2) scSy.nd rfl (.inl rfl) (pe_call GR hr2 rfl T.T.ro.g T.T.ro.k T.T.ro.b .nil pass0 (pa_cons (pv 1) pa_nil))) (pss_cons (ps_if (pt_cmpR op_isN (pv 2) pe_non (nomark _)) (pss_one (ps_raise rfl (takes_of rfl rfl rfl rfl) (pmk_oex T.eR.o T.eR.i T.eR.t GE hr2 T.eR.b .nil pass0 rfl T.eR.g (pa_cons (pv 1) pa_nil)))) pss_nil) (pss_one (ps_ret (pe_meth (pv 0) T.cl T.af.m GA hr T.af.b .nil pass0 (pa_cons (pv 2) pa_nil)))))))))), ?_⟩
    have noU : (conf lv).lookup ("answer_undo" : Str) = none := by
      have e : (("answer_undo" : Str) == "reading") = false := by decide +kernel
      simp [conf, List.lookup, e]
    have noF : (conf lv).lookup ("answer_feed" : Str) = none := by
      have e : (("answer_feed" : Str) == "reading") = false := by decide +kernel
      simp [conf, List.lookup, e]
    obtain ⟨dm, g, h, kk, b0, hm, hMs, _⟩ := hC.rd.mo.head
    obtain ⟨gs, hs, hg, hRp, hh, hPc, hk⟩ := id hMs
    rcases hv with ⟨ty, h1, h2, kE⟩ | ⟨x, rfl, hl, sx⟩
    · refine ⟨_, rfl, _, _, _, _, false, rfl, .ty "str", h1, h2, _, rfl, iteT ?_⟩
      exact mk_er (x := v) ⟨v, rfl, rfl, rfl⟩ (fun {R R'} ⟨v, e1, q⟩ f => ⟨v, e1, f _ _ q⟩) kE
    refine ⟨_, rfl, _, _, _, _, true, rfl, .ty "str", .base (.str x), kit_ty (show kitB "str" "str" = some true by decide +kernel), _, rfl, iteF ?_⟩
    have eU : ∀ y : Str, decide (V.str x = V.str y) = decide (x = y) := fun y => decide_eq_decide.mpr ⟨fun h => by injection h, fun h => by rw [h]⟩
    refine ⟨_, rfl, rfl, _, rfl, ?_⟩
    rw [eU]
    rcases sx with ⟨ex, k⟩ | ⟨ex, o1, o2, k⟩ | ⟨ex, k⟩ | ⟨n1, n2, n3, k0, k1⟩
    · rw [decide_eq_true ex]
      exact iteT ⟨_, rfl, dk, ddx, _, rfl, hC.at_, noU, k⟩
    · rw [show decide (x = "undo") = false by rw [ex]; decide +kernel]
      refine iteF ⟨_, rfl, rfl, _, rfl, ?_⟩
      rw [eU, decide_eq_true ex]
      exact iteT ⟨_, rfl, dk, T.C, ddx, _, _, rfl, hC.at_, T.cl, T.nR, conf_rd lv, lv, dx, _, rfl, hC.rd.at_, lv, dx, lo, m, dm, g, h, kk, sz, false, b0, _, rfl, hC.rd.at_, hm, kk, _, rfl, hk, o1, o2, k⟩
    · rw [show decide (x = "undo") = false by rw [ex]; decide +kernel]
      refine iteF ⟨_, rfl, rfl, _, rfl, ?_⟩
      rw [eU, show decide (x = "rest") = false by rw [ex]; decide +kernel]
      refine iteF ⟨_, rfl, rfl, _, rfl, ?_⟩
      rw [eU, decide_eq_true ex]
      refine iteT ⟨_, rfl, dk, T.C, ddx, _, _, rfl, hC.at_, T.cl, T.nR, conf_rd lv, lv, dx, _, rfl, hC.rd.at_, lv, dx, lo, m, dm, g, h, kk, sz, false, b0, _, rfl, hC.rd.at_, hm, _, rfl, ?_⟩
      cases hst : (stR sz (ordsR t) (ordsE t) rr).st with
      | true =>
        rw [hst, if_pos rfl] at k
        exact iteT k
      | false =>
        rw [hst, if_neg (by decide)] at k
        exact iteF k
    · rw [decide_eq_false n1]
      refine iteF ⟨_, rfl, rfl, _, rfl, ?_⟩
      rw [eU, decide_eq_false n2]
      refine iteF ⟨_, rfl, rfl, _, rfl, ?_⟩
      rw [eU, decide_eq_false n3]
      refine iteF ⟨_, rfl, x, rfl, hl, fun hn => ?_, fun n b hrp H' q s' hq => ?_⟩
      · refine ⟨_, rfl, rfl, _, rfl, iteT ?_⟩
        exact mk_er (x := .str x) ⟨.str x, rfl, rfl, rfl⟩ (fun {R R'} ⟨v, e1, q⟩ f => ⟨v, e1, f _ _ q⟩) (k0 hn)
      · exact ⟨_, rfl, rfl, _, rfl, iteF ⟨_, rfl, dk, ddx, _, rfl, s' _ _ hC.at_, noF, _, rfl, k1 n b hrp H' q s' hq⟩⟩
end
end My

/-! kinds of sources: check_word, Source.__init__, Source.__repr__ -/
namespace My
open PySem L2 Cm LM
abbrev sQW : Stmt := top 91
abbrev sUI : Stmt := inClass (top 93) 0
abbrev sUR : Stmt := inClass (top 93) 3
def sfU (A B E : Str) : List (Str × V) := [("amount", .str A), ("patience", .str B), ("end", .str E)]
/-- a kind of sources stands at o -/
def SrcU (C : Addr) (H : Hp) (o : Addr) (A B E : Str) : Prop := ∃ dx, H o = some (.ins C dx (sfU A B E))
theorem SrcU.same {C : Addr} {H H' : Hp} {o : Addr} {A B E : Str} (s : Same H H') (h : SrcU C H o A B E) : SrcU C H' o A B E := let ⟨dx, e⟩ := h; ⟨dx, s _ _ e⟩
structure TxU (K : PySem.W.Frag) (mg : Str → Option Value) where
  isi : mg "isinstance" = none
  str : mg "str" = none
  pA : Addr
  pP : Addr
  pE : Addr
  gA : mg "AMOUNTS" = some (.ref pA)
  gP : mg "PATIENCES" = some (.ref pP)
  gE : mg "ENDS" = some (.ref pE)
  lA : ∀ H, SqT K H pA [.str "exact", .str "short"]
  lP : ∀ H, SqT K H pP [.str "prompt", .str "waiting"]
  lE : ∀ H, SqT K H pE [.str "empty", .str "with", .str "behind"]
  ckw : Df K mg "check_word" sQW ["word", "words"]
  C : Addr
  gC : mg "Source" = some (.ref C)
  cl : Cls K C
  nA : NoAttr K C "amount"
  nP : NoAttr K C "patience"
  nE : NoAttr K C "end"
  fI : Addr
  fdI : FuncData
  FI : Fun K "__init__" "Source.__init__" sUI fI fdI
  bI : Binds K fdI ["self", "amount", "patience", "end"] []
  MI : Mk K C fI
  ur : Sm K C "__repr__" "Source.__repr__" sUR ["self"]
  y1 : PySem.W.findIn K (.ref C) "__class__" = some (some (.builtin "object.__class__"))
  y2 : PySem.W.specialIn K (.builtin "object.__class__") "__get__" = some (some (.builtin "getset_descriptor.__get__"))
  y3 : PySem.W.takesIn K (.builtin "object.__class__") = some true
  y4 : PySem.W.mroIn K C (.type "object") = some true
  y5 : PySem.W.kitOne K (.ref C) (.ref C) = some true
section
variable {P : Program} {w : World} {K : PySem.W.Frag} {mg : Str → Option Value} {base : Heap}
theorem SrcU.ty (M : TxU K mg) {H : Hp} {o : Addr} {A B E : Str} (h : SrcU M.C H o A B E) : TyX K H (.ref o) (.ref M.C) := by
  obtain ⟨dx, e⟩ := h
  exact .base (.ins e M.cl M.y1 M.y2 M.y3 M.y4)
/-! ### check_word, __init__ of the right words -/
def spCKW (K : PySem.W.Frag) : Sp := fun vs H Q _ => ∃ (x : Str) (p : Addr) (xs : List V), vs = [.str x, .ref p] ∧ SqT K H p xs ∧ xs.all flatV = true ∧ inV (.str x) xs = true ∧ Q .non H
theorem scQW : FnScope ["word", "words"] ["word", "words"] (defScope sQW) := ⟨rfl, rfl, rfl, by decide +kernel, rfl, by decide +kernel, by decide +kernel⟩
theorem ok_ckw (M : TxU K mg) : FnOk P w K mg base CX0 1 M.ckw.f M.ckw.fd ["word", "words"] (spCKW K) := by
  refine M.ckw.F.ok scQW (fun vs H Q E h => ?_) (fun cdv A outer s H vs Q E hr h => ?_)
  · obtain ⟨x, p, xs, rfl, _⟩ := h
    rfl
  · obtain ⟨x, p, xs, rfl, hp, hf, hi, k⟩ := h
    refine ⟨_, pss_one (ps_if (PW.pt (pw_or (pt_not (pt_val (pe_callB call_isi (by rfl) M.isi (by decide +kernel) (pa_cons (pv 0) (pa_cons (pe_bltn (v := .ty "str") (by rfl) M.str (by decide +kernel) rfl) pa_nil)))))
          (pw_or1 (pt_cmpR op_notIn_seq (pv 0) (pv 1) (by rfl))))) (pss_one ps_never) pss_nil), ?_⟩
    refine ⟨_, rfl, _, _, _, _, true, rfl, .ty "str", .base (.str x), kit_ty (by decide +kernel), true, rfl, iteF ?_⟩
    refine ⟨_, rfl, _, rfl, p, xs, rfl, .inr hp, rfl, hf, _, rfl, ?_⟩
    rw [hi]
    exact iteF k
def isAm (A : Str) : Prop := A = "exact" ∨ A = "short"
def isPa (B : Str) : Prop := B = "prompt" ∨ B = "waiting"
def isEn (E : Str) : Prop := E = "empty" ∨ E = "with" ∨ E = "behind"
def spUI (C : Addr) : Sp := fun vs H Q _ => ∃ (x dx : Addr) (A B E : Str), vs = [.ref x, .str A, .str B, .str E] ∧ isAm A ∧ isPa B ∧ isEn E ∧ H x = some (.ins C dx []) ∧
  ∀ H' : Hp, (∀ b o, b ≠ x → H b = some o → H' b = some o) → H' x = some (.ins C dx (sfU A B E)) → Q .non H'
theorem scUI : FnScope ["self", "amount", "patience", "end"] ["self", "amount", "patience", "end"] (defScope sUI) := ⟨rfl, rfl, rfl, by decide +kernel, rfl, by decide +kernel, by decide +kernel⟩
theorem ok_ui (M : TxU K mg) : FnOk P w K mg base CX0 2 M.fI M.fdI ["self", "amount", "patience", "end"] (spUI M.C) := by
  have G1 : FnOk P w K mg base CX0 1 M.ckw.f M.ckw.fd ["word", "words"] (spCKW K) := ok_ckw M
  refine M.FI.ok scUI (fun vs H Q E h => ?_) (fun cdv A outer s H vs Q E hr h => ?_)
  · obtain ⟨x, dx, A, B, E, rfl, _⟩ := h
    rfl
  · obtain ⟨x, dx, A, B, E, rfl, hA, hB, hE, hx, k⟩ := h
    refine ⟨_, pss_cons (ps_expr (pe_call G1 hr rfl M.ckw.g M.ckw.k M.ckw.b .nil pass0 (pa_cons (pv 1) (pa_cons (pe_glob (v := .ref M.pA) rfl M.gA rfl) pa_nil))))
      (pss_cons (ps_expr (pe_call G1 hr rfl M.ckw.g M.ckw.k M.ckw.b .nil pass0 (pa_cons (pv 2) (pa_cons (pe_glob (v := .ref M.pP) rfl M.gP rfl) pa_nil))))
      (pss_cons (ps_expr (pe_call G1 hr rfl M.ckw.g M.ckw.k M.ckw.b .nil pass0 (pa_cons (pv 3) (pa_cons (pe_glob (v := .ref M.pE) rfl M.gE rfl) pa_nil))))
      (pss_cons (ps_fld (pv 0) (pv 1) rfl) (pss_cons (ps_fld (pv 0) (pv 2) rfl) (pss_one (ps_fld (pv 0) (pv 3) rfl)))))), ?_⟩
    refine ⟨_, rfl, A, M.pA, _, rfl, M.lA _, rfl, ?_, ?_⟩
    · rcases hA with rfl | rfl <;> decide +kernel
    refine ⟨_, rfl, B, M.pP, _, rfl, M.lP _, rfl, ?_, ?_⟩
    · rcases hB with rfl | rfl <;> decide +kernel
    refine ⟨_, rfl, E, M.pE, _, rfl, M.lE _, rfl, ?_, ?_⟩
    · rcases hE with rfl | rfl | rfl <;> decide +kernel
    refine ⟨_, rfl, _, rfl, x, M.C, dx, _, rfl, hx, M.cl, M.nA, (by show 0 < 1000; decide), ?_⟩
    refine ⟨_, rfl, _, rfl, x, M.C, dx, _, rfl, upd_same, M.cl, M.nP, (by show 1 < 1000; decide), ?_⟩
    refine ⟨_, rfl, _, rfl, x, M.C, dx, _, rfl, upd_same, M.cl, M.nE, ?_, ?_⟩
    · exact Nat.lt_of_le_of_lt (putF_len _ _ _) (Nat.lt_of_le_of_lt (Nat.add_le_add_right (putF_len _ _ _) 1) (by decide))
    · refine k _ (fun b o nb e => ?_) upd_same
      rw [upd_ne nb, upd_ne nb, upd_ne nb]
      exact e
theorem uf_am (A B E : Str) : (sfU A B E).lookup ("amount" : Str) = some (.str A) := rfl
theorem uf_pa (A B E : Str) : (sfU A B E).lookup ("patience" : Str) = some (.str B) := rfl
theorem uf_en (A B E : Str) : (sfU A B E).lookup ("end" : Str) = some (.str E) := rfl
/-! ### __repr__ -/
def srS : Str := ("Source(" : Str) ++ "short" ++ " " ++ "prompt" ++ " " ++ "empty" ++ ")"
def spUR (C : Addr) : Sp := fun vs H Q _ => ∃ o : Addr, vs = [.ref o] ∧ SrcU C H o "short" "prompt" "empty" ∧ Q (.str srS) H
theorem scUR : FnScope ["self"] ["self"] (defScope sUR) := ⟨rfl, rfl, rfl, by decide +kernel, rfl, by decide +kernel, by decide +kernel⟩
theorem ok_ur (M : TxU K mg) : FnOk P w K mg base CX0 1 M.ur.f M.ur.fd ["self"] (spUR M.C) := by
  refine M.ur.F.ok scUR (fun vs H Q E h => ?_) (fun cdv A outer s H vs Q E hr h => ?_)
  · obtain ⟨o, rfl, _⟩ := h
    rfl
  · obtain ⟨o, rfl, ⟨dx, e⟩, k⟩ := h
    refine ⟨_, pss_one (ps_ret (pe_joined (.cons pe_str (.cons (pe_fmt (pe_fld (pv 0) rfl)) (.cons pe_str (.cons (pe_fmt (pe_fld (pv 0) rfl)) (.cons pe_str (.cons (pe_fmt (pe_fld (pv 0) rfl)) (.cons pe_str .nil))))))))), ?_⟩
    refine ⟨_, rfl, szl (by decide +kernel), ?_⟩
    refine ⟨_, rfl, o, M.C, dx, _, _, rfl, e, M.cl, M.nA, uf_am .., .inl ⟨"short", rfl, szl (by decide +kernel), _, rfl, szl (by decide +kernel), ?_⟩⟩
    refine ⟨_, rfl, szl (by decide +kernel), ?_⟩
    refine ⟨_, rfl, o, M.C, dx, _, _, rfl, e, M.cl, M.nP, uf_pa .., .inl ⟨"prompt", rfl, szl (by decide +kernel), _, rfl, szl (by decide +kernel), ?_⟩⟩
    refine ⟨_, rfl, szl (by decide +kernel), ?_⟩
    refine ⟨_, rfl, o, M.C, dx, _, _, rfl, e, M.cl, M.nE, uf_en .., .inl ⟨"empty", rfl, szl (by decide +kernel), _, rfl, szl (by decide +kernel), ?_⟩⟩
    refine ⟨_, rfl, szl (by decide +kernel), ?_⟩
    rw [show Str.empty ++ ("Source(" : Str) ++ "short" ++ " " ++ "prompt" ++ " " ++ "empty" ++ ")" = srS by decide +kernel]
    exact k
end
end My

/-! sample_loop, sample_source -/
namespace My
open PySem L2 Cm LM
abbrev sSL : Stmt := top 130
abbrev sSS : Stmt := top 131
def txS : Str := "ask empty:stop hand"
theorem txS_good : goodText txS = true := by decide +kernel
structure TxSm (K : PySem.W.Frag) (mg : Str → Option Value) where
  T : TxC K mg
  U : TxU K mg
  sl : Df K mg "sample_loop" sSL []
  ss : Df K mg "sample_source" sSS []
section
variable {P : Program} {w : World} {K : PySem.W.Frag} {mg : Str → Option Value} {base : Heap}
def spSL (C : Addr) : Sp := fun vs H Q _ => vs = [] ∧ ∀ (H' : Hp) (o : Addr), Same H H' → H o = none → LoopAt C H' o txS → Q (.ref o) H'
theorem scSL : FnScope [] [] (defScope sSL) := ⟨rfl, rfl, rfl, by decide +kernel, rfl, by decide +kernel, by decide +kernel⟩
theorem ok_sl (M : TxSm K mg) : FnOk P w K mg base CX0 6 M.sl.f M.sl.fd [] (spSL M.T.C) := by
  have GM : FnOk P w K mg base (L2.CX P w) 4 M.T.fI M.T.fdI ["self", "text"] (spLI K M.T.C M.T.E.C) := ok_li M.T
  refine M.sl.F.ok scSL (fun vs H Q E h => ?_) (fun cdv A outer s H vs Q E hr h => ?_)
  · obtain ⟨rfl, _⟩ := h
    rfl
  · obtain ⟨rfl, k⟩ := h
    refine ⟨_, pss_one (ps_ret (pe_make M.T.MI GM hr rfl M.T.gC M.T.bI .nil pass_none (pa_cons pe_str pa_nil))), ?_⟩
    intro x dx nx ndx nex
    refine ⟨x, dx, .str txS, rfl, upd_same, typed_str _, ?_, fun t e g H' o hL => ⟨rfl, ?_⟩, fun z => ?_⟩
    · exact (show txS.length ≤ 100000 by decide +kernel)
    · cases e
      exact k H' x (made_same nx ndx o) nx hL
    · have : good (.str txS) = true := txS_good
      rw [this] at z
      cases z
def spSS (C : Addr) : Sp := fun vs H Q _ => vs = [] ∧ ∀ (H' : Hp) (o : Addr), Same H H' → H o = none → SrcU C H' o "short" "prompt" "empty" → Q (.ref o) H'
theorem scSS : FnScope [] [] (defScope sSS) := ⟨rfl, rfl, rfl, by decide +kernel, rfl, by decide +kernel, by decide +kernel⟩
theorem ok_ss (M : TxSm K mg) : FnOk P w K mg base CX0 4 M.ss.f M.ss.fd [] (spSS M.U.C) := by
  have GM : FnOk P w K mg base CX0 2 M.U.fI M.U.fdI ["self", "amount", "patience", "end"] (spUI M.U.C) := ok_ui M.U
  refine M.ss.F.ok scSS (fun vs H Q E h => ?_) (fun cdv A outer s H vs Q E hr h => ?_)
  · obtain ⟨rfl, _⟩ := h
    rfl
  · obtain ⟨rfl, k⟩ := h
    have hr2 : Room 3 _ := hr.mono (by decide)
    refine ⟨_, pss_one (ps_ret (pe_make M.U.MI GM hr2 rfl M.U.gC M.U.bI .nil pass0 (pa_cons pe_str (pa_cons pe_str (pa_cons pe_str pa_nil))))), ?_⟩
    intro x dx nx ndx nex
    refine ⟨x, dx, "short", "prompt", "empty", rfl, .inr rfl, .inl rfl, .inl rfl, upd_same, fun H' f hx => ⟨rfl, ?_⟩⟩
    exact k H' x (made_same nx ndx fun b o nb e => f b o nb e) nx ⟨dx, hx⟩
end
end My

/-! a dict of the module with text keys: what it has not -/
namespace CD
open PySem L2
theorem no_key {P : Params} {z : Str} : ∀ {l : List DictEntry} {ks : List Str}, l.map He.keyOf = He.keysIn P ks → z ∉ ks → l.find? (·.key.isStr z) = none ∧ l.any (·.refKey) = false
  | [], _, _, _ => ⟨rfl, rfl⟩
  | e :: r, [], h, _ => by cases h
  | e :: r, k :: ks, h, hz => by
    have h1 : He.keyOf e :: r.map He.keyOf = some (k, PyData.keyHash P k) :: He.keysIn P ks := h
    injection h1 with h2 h3
    obtain ⟨a, b⟩ := no_key (z := z) h3 fun q => hz (List.mem_cons_of_mem _ q)
    unfold He.keyOf at h2
    split at h2
    · rename_i x t q
      obtain ⟨h5, h6⟩ := Prod.mk.inj (Option.some.inj h2)
      have ne : x ≠ z := fun q => hz (by rw [← q, h5]; exact List.mem_cons_self ..)
      have e1 : e.key.isStr z = false := by
        rw [q, PySem.W.isStr_of]
        show (x == z) = false
        exact beq_eq_false_iff_ne.mpr ne
      have e2 : e.refKey = false := by
        unfold PySem.DictEntry.refKey
        rw [q]
      rw [List.find?_cons, e1, List.any_cons, e2]
      exact ⟨a, by rw [b]; rfl⟩
    · cases h2
theorem dic_no {K : PySem.W.Frag} {P : Params} {a : Addr} {ks : List Str} (h : He.dicW K a = some (He.keysIn P ks)) {z : Str} (hz : z ∉ ks) : PySem.W.nsIn K a z = some none := by
  unfold He.dicW at h
  unfold PySem.W.nsIn
  cases q : K.lookup a with
  | none => rw [q] at h; cases h
  | some o =>
    obtain ⟨oc, od, dt, osl⟩ := o
    rw [q] at h
    cases oc with
    | type c =>
      cases od with
      | none =>
        cases dt with
        | dict es n =>
          have h1 : (match decide (c = "dict") && (osl.isEmpty && !(a == sysModules)) with
              | true => some (es.toList.map He.keyOf)
              | false => none) = some (He.keysIn P ks) := h
          split at h1
          · obtain ⟨e1, e2⟩ := no_key (Option.some.inj h1) hz
            show (match es.toList.find? (·.key.isStr z) with
              | some e => some (some e.val)
              | none => if es.toList.any (·.refKey) then none else some none) = _
            rw [e1, e2]
            rfl
          · cases h1
        | _ => cases h
      | some _ => cases h
    | _ => cases h
end CD

/-! chains: their texts and their making -/
namespace My
open PySem L2 Cm LM CH
abbrev sCO : Stmt := top 43
abbrev sAI : Stmt := inClass (top 46) 0
structure TxA (w : World) (K : PySem.W.Frag) (mg : Str → Option Value) where
  E : TxE K mg
  len : mg "len" = none
  str : mg "str" = none
  int : mg "int" = none
  range : mg "range" = none
  tuple : mg "tuple" = none
  isi : mg "isinstance" = none
  mw : ∃ t, mg "MOST_WIDTH" = some (.int 12 t)
  mc : ∃ t, mg "MOST_CUTTERS" = some (.int 6 t)
  dC : Addr
  gD : mg "CUTTERS" = some (.ref dC)
  dw : He.dicW K dC = some (He.keysIn w.params kds)
  fk : Kd → Addr
  nk : ∀ k, PySem.W.nsIn K dC (kdS k) = some (some (.ref (fk k)))
  co : Df K mg "cutter_of" sCO ["text"]
  C : Addr
  gC : mg "Chain" = some (.ref C)
  cl : Cls K C
  nT : NoAttr K C "text"
  nC : NoAttr K C "cutters"
  fI : Addr
  fdI : FuncData
  FI : Fun K "__init__" "Chain.__init__" sAI fI fdI
  bI : Binds K fdI ["self", "text"] []
  MI : Mk K C fI
/-- what cutter_of hands back -/
def CutV (H : Hp) (v : V) : Option (Kd × Nat) → Prop
  | none => v = .non
  | some c => ∃ p, v = .ref p ∧ H p = some (.tup [.str (kdS c.1), .int c.2])
theorem CutV.mono {H H' : Hp} (f : ∀ (p : Addr) (xs : List V), H p = some (.tup xs) → H' p = some (.tup xs)) {v : V} : ∀ {o}, CutV H v o → CutV H' v o
  | none, h => h
  | some _, ⟨p, e, h⟩ => ⟨p, e, f _ _ h⟩
inductive CutVs (H : Hp) : List V → List (Option (Kd × Nat)) → Prop
  | nil : CutVs H [] []
  | cons {v : V} {o : Option (Kd × Nat)} {vs : List V} {os : List (Option (Kd × Nat))} (h : CutV H v o) (t : CutVs H vs os) : CutVs H (v :: vs) (o :: os)
theorem CutVs.mono {H H' : Hp} (f : ∀ (p : Addr) (xs : List V), H p = some (.tup xs) → H' p = some (.tup xs)) : ∀ {vs os}, CutVs H vs os → CutVs H' vs os
  | _, _, .nil => .nil
  | _, _, .cons h t => .cons (h.mono f) (t.mono f)
theorem CutVs.snoc {H : Hp} {v : V} {o : Option (Kd × Nat)} (h : CutV H v o) : ∀ {vs os}, CutVs H vs os → CutVs H (vs ++ [v]) (os ++ [o])
  | _, _, .nil => .cons h .nil
  | _, _, .cons a t => .cons a (t.snoc h)
theorem CutVs.len {H : Hp} : ∀ {vs os}, CutVs H vs os → vs.length = os.length
  | _, _, .nil => rfl
  | _, _, .cons _ t => congrArg (· + 1) t.len
/-- rows of cutters -/
inductive Cuts (H : Hp) : List V → List (Kd × Nat) → Prop
  | nil : Cuts H [] []
  | cons {p : Addr} {c : Kd × Nat} {vs : List V} {cs : List (Kd × Nat)} (h : H p = some (.tup [.str (kdS c.1), .int c.2])) (t : Cuts H vs cs) : Cuts H (.ref p :: vs) (c :: cs)
theorem Cuts.mono {H H' : Hp} (f : ∀ (p : Addr) (xs : List V), H p = some (.tup xs) → H' p = some (.tup xs)) : ∀ {vs os}, Cuts H vs os → Cuts H' vs os
  | _, _, .nil => .nil
  | _, _, .cons h t => .cons (f _ _ h) (t.mono f)
theorem Cuts.same {H H' : Hp} (s : Same H H') {vs os} (h : Cuts H vs os) : Cuts H' vs os := h.mono fun _ _ q => s _ _ q
theorem Cuts.snoc {H : Hp} {p : Addr} {c : Kd × Nat} (h : H p = some (.tup [.str (kdS c.1), .int c.2])) : ∀ {vs os}, Cuts H vs os → Cuts H (vs ++ [.ref p]) (os ++ [c])
  | _, _, .nil => .cons h .nil
  | _, _, .cons a t => .cons a (t.snoc h)
theorem Cuts.len {H : Hp} : ∀ {vs os}, Cuts H vs os → vs.length = os.length
  | _, _, .nil => rfl
  | _, _, .cons _ t => congrArg (· + 1) t.len
theorem Cuts.get {H : Hp} : ∀ {xs os} {i : Nat} {y : V}, Cuts H xs os → xs[i]? = some y → ∃ (q : Addr) (o : Kd × Nat), os[i]? = some o ∧ y = .ref q ∧ H q = some (.tup [.str (kdS o.1), .int o.2])
  | _, _, i, y, .nil, h => by simp at h
  | _, _, 0, y, .cons h _, e => ⟨_, _, rfl, (Option.some.inj e).symm, h⟩
  | _, _, i + 1, y, .cons _ t, e => t.get (i := i) e
theorem CutVs.all {H : Hp} : ∀ {vs : List V} {ps : List Str}, CutVs H vs (ps.map cutterOf) → (ps.all fun p => (cutterOf p).isSome) = true → Cuts H vs (ps.filterMap cutterOf)
  | [], [], _, _ => .nil
  | v :: vs, p :: ps, h, q => by
    cases h with
    | cons h1 h2 =>
      rw [List.all_cons, Bool.and_eq_true] at q
      obtain ⟨c, hc⟩ := Option.isSome_iff_exists.mp q.1
      rw [hc] at h1
      obtain ⟨a, rfl, ha⟩ := h1
      rw [List.filterMap_cons, hc]
      exact .cons ha (h2.all q.2)
/-- as data -/
def dOf : Option (Kd × Nat) → PyData
  | none => .none
  | some c => .tuple [.str (kdS c.1), .int c.2]
theorem CutVs.dp {K : PySem.W.Frag} {H : Hp} : ∀ {vs os}, CutVs H vs os → DpAll K H vs (os.map dOf)
  | _, _, .nil => .nil
  | _, _, .cons (o := none) h t => by
    cases (show _ = V.non from h)
    exact .cons .non t.dp
  | _, _, .cons (o := some c) h t => by
    obtain ⟨p, rfl, hp⟩ := h
    exact .cons (.tup (SqT.of hp) (.cons (.str _) (.cons (.int _) .nil))) t.dp
theorem kd_ok (k : Kd) : PyData.strOk (kdS k) = true := by cases k <;> decide +kernel
theorem dOf_lay : ∀ os : List (Option (Kd × Nat)), PyData.canLayAll0 (os.map dOf) = true ∧ PyData.depthAll (os.map dOf) ≤ 1
  | [] => ⟨by simp [PyData.canLayAll0], by simp [PyData.depthAll]⟩
  | none :: r => by
    obtain ⟨a, b⟩ := dOf_lay r
    rw [List.map_cons]
    refine ⟨?_, ?_⟩
    · rw [PyData.canLayAll0, a]; simp [dOf, PyData.canLay0]
    · rw [PyData.depthAll]; simp [dOf, PyData.depth]; exact b
  | some c :: r => by
    obtain ⟨a, b⟩ := dOf_lay r
    rw [List.map_cons]
    refine ⟨?_, ?_⟩
    · rw [PyData.canLayAll0, a]; simp [dOf, PyData.canLay0, PyData.canLayAll0, kd_ok]
    · rw [PyData.depthAll]; simp [dOf, PyData.depth, PyData.depthAll]; omega
theorem dOf_shaped (os : List (Option (Kd × Nat))) : SeqAt.shaped (.list (os.map dOf)) = true := by
  obtain ⟨a, b⟩ := dOf_lay os
  unfold SeqAt.shaped
  rw [Bool.and_eq_true]
  refine ⟨by rw [PyData.canLay0]; exact a, decide_eq_true ?_⟩
  rw [PyData.depth]
  omega
theorem dOf_any (os : List (Option (Kd × Nat))) : ((os.map dOf).any fun z => PyData.eqv z .none) = os.any (·.isNone) := by
  rw [List.any_map]
  congr 1
  funext o
  cases o with
  | none => simp [dOf, PyData.eqv]
  | some c => simp [dOf, PyData.eqv]
section
variable {P : Program} {w : World} {K : PySem.W.Frag} {mg : Str → Option Value} {base : Heap}
theorem room65 {k : Nat} {A : Around} (r : Room k A) : A.units + 65 < cLine := by have := r.un; omega
theorem kd_in (T : TxA w K mg) (z : Str) : ∃ r, PySem.W.nsIn K T.dC z = some r ∧ r.isSome = (kdOf z).isSome := by
  cases h : kdOf z with
  | none => exact ⟨none, CD.dic_no T.dw (kdOf_none h), rfl⟩
  | some k => exact ⟨_, by rw [kdOf_some h]; exact T.nk k, rfl⟩
/-! ### cutter_of -/
def spCO : Sp := fun vs H Q _ => ∃ t : Str, vs = [.str t] ∧ Bd t ∧ ∀ (H' : Hp) (v : V), Same H H' → CutV H' v (cutterOf t) → Q v H'
theorem scCO : FnScope ["text", "word", "space", "digits", "widths", "width"] ["text"] (defScope sCO) := ⟨rfl, rfl, rfl, by decide +kernel, rfl, by decide +kernel, by decide +kernel⟩
def teW : TE := tCB (fun xs H Q => ∃ i, xs = [.int i] ∧ i.natAbs.log2 < 1920 ∧ Q (.str (toString i)) H) (tCons (tVar 5) tNil)
theorem int_nS {n : Nat} (h1 : 1 ≤ n) (h2 : n ≤ 12) : PySem.intText? (nS n) = some (n : Int) := by
  have : ∀ i ∈ List.range 13, PySem.intText? (nS i) = some (i : Int) := by decide +kernel
  exact this n (List.mem_range.mpr (by omega))
theorem ok_co (T : TxA w K mg) : FnOk P w K mg base CX0 1 T.co.f T.co.fd ["text"] spCO := by
  obtain ⟨tw, mw⟩ := T.mw
  obtain ⟨es, n, D⟩ := He.dicW_ok T.dw
  refine T.co.F.ok scCO (fun vs H Q E h => ?_) (fun cdv A outer s H vs Q E hr h => ?_)
  · obtain ⟨t, rfl, _⟩ := h
    rfl
  · obtain ⟨t, rfl, bd, k⟩ := h
    refine ⟨_, pss_cons (ps_asg (pe_partition (pv 0) pe_str) (pg_tup rfl (pgs_cons (pg_name (i := 1) scCO.nd rfl (.inl rfl)) (pgs_cons (pg_name (i := 2) scCO.nd rfl (.inl rfl)) (pgs_cons (pg_name (i := 3) scCO.nd rfl (.inl rfl)) pgs_nil)))))
      (pss_cons (ps_setLc (i := 4) (own := [("width", 5)]) (g := gName 5) (tt := tYes) (te := teW) rfl scCO.nd rfl rfl (sw_true rfl rfl rfl (by decide +kernel)) (pi_range2 rfl T.range (pa_cons pe_int (pa_cons (pe_op op_add (pe_glob (v := .int 12) rfl mw ⟨_, rfl⟩) pe_int) pa_nil))) (blkOk_by (own := [("width", 5)]) (N := ["text", "word", "space", "digits", "widths", "width"]) (sc := defScope sCO) (by decide +kernel)) (fun _ _ _ _ _ => pg_name (i := 5) scCO.nd rfl (Or.inl rfl))
          (fun _ _ _ _ _ => pts_nil) (fun _ _ _ _ _ => pe_callTy call_str_int (by rfl) T.str (by decide +kernel) (pa_cons (pv 5) pa_nil)))
      (pss_one (ps_ret (pe_ifExp (PW.pt (pw_and (pt_cmpR (op_in_kd D) (pv 1) (pe_glob (v := .ref T.dC) rfl T.gD rfl) (by rfl)) (pw_and1 (pt_cmpR op_in_seq (pv 3) (pv 4) (by rfl)))))
          (pe_tup (pa_cons (pv 1) (pa_cons (pe_callTy call_int_str (by rfl) T.int (by decide +kernel) (pa_cons (pv 3) pa_nil)) pa_nil))) pe_non)))), ?_⟩
    refine ⟨_, rfl, ⟨_, rfl⟩, t, " ", rfl, rfl, by decide +kernel, bd.line, fun q nq => ?_⟩
    refine ⟨q, _, rfl, SqT.of upd_same, rfl, _, _, rfl, _, _, rfl, _, _, rfl, rfl, ?_⟩
    have s1 : Same H (upd H q (.tup [.str (Txt.partition t " ").1, .str (Txt.partition t " ").2.1, .str (Txt.partition t " ").2.2])) := same_new nq
    generalize upd H q (.tup [.str (Txt.partition t " ").1, .str (Txt.partition t " ").2.1, .str (Txt.partition t " ").2.2]) = H1 at s1 ⊢
    refine ⟨_, _, rfl, rfl, 1, 13, rfl, by decide, fun Dd nD => lc_range (lo := 1) (n := 12) (fun i H' => Same H1 H' ∧ H' Dd = some (.lst (svs ((List.range i).map fun i => nS (i + 1))))) ⟨same_new nD, upd_same⟩ ?_ ?_⟩
    · rintro i H' hi ⟨s', hD⟩
      refine ⟨rfl, _, rfl, _, rfl, ?_, _, hD, ?_, ?_⟩
      · have : ((1 : Int) + (i : Int)).natAbs = 1 + i := by omega
        rw [this]
        exact Nat.lt_of_le_of_lt (Nat.log2_le_self _) (by omega)
      · rw [show (svs ((List.range i).map fun i => nS (i + 1))).length = i by simp [svs]]
        exact szM (by omega)
      · refine ⟨fun b o q => ?_, ?_⟩
        · rw [upd_ne (ne_of_none q nD)]
          exact s' _ _ q
        · rw [upd_same, List.range_succ, List.map_append]
          have e : (1 : Int) + (i : Int) = ((i + 1 : Nat) : Int) := by omega
          rw [e]
          simp [svs, nS]
    · rintro H2 ⟨s2, hD⟩
      have hD : H2 Dd = some (.lst (svs widths)) := hD
      obtain ⟨r, hr1, hr2⟩ := kd_in T (Txt.partition t " ").1
      refine ⟨_, rfl, _, _, rfl, rfl, hr1, _, rfl, ?_⟩
      rw [hr2]
      have k := k
      unfold cutterOf at k
      cases h1 : kdOf (Txt.partition t " ").1 with
      | none =>
        rw [h1] at k
        refine iteF (iteF ?_)
        exact k H2 .non (Same.trans s1 s2) rfl
      | some kk =>
        rw [h1] at k
        refine iteT ?_
        refine ⟨_, rfl, _, rfl, Dd, _, rfl, .inl (SqL.of hD), rfl, svs_flat _, _, rfl, ?_⟩
        show if (inV _ (svs widths)) = true then _ else _
        rw [inV_svs, numOf_mem]
        cases h2 : numOf (Txt.partition t " ").2.2 with
        | none =>
          rw [h2] at k
          exact iteF (k H2 .non (Same.trans s1 s2) rfl)
        | some m =>
          rw [h2] at k
          obtain ⟨e, m1, m2⟩ := numOf_some h2
          have e0 := kdOf_some h1
          refine iteT ⟨_, rfl, _, rfl, _, (m : Int), rfl, by rw [e]; exact int_nS m1 m2, by rw [e]; exact Nat.le_trans (nS_len m2) (by decide), (by show 2 ≤ sizeLine; decide), fun p np => ?_⟩
          exact k _ (.ref p) (Same.trans (Same.trans s1 s2) (same_new np)) ⟨p, rfl, by rw [upd_same, e0]⟩
/-! ### chains as objects -/
def cf (t : Str) (p : Addr) : List (Str × V) := [("text", .str t), ("cutters", .ref p)]
theorem cf_text (t : Str) (p : Addr) : (cf t p).lookup ("text" : Str) = some (.str t) := by kernel_rfl
theorem cf_cut (t : Str) (p : Addr) : (cf t p).lookup ("cutters" : Str) = some (.ref p) := by kernel_rfl
theorem cf_no (t : Str) (p : Addr) {m : Str} (h1 : ¬ m = "text") (h2 : ¬ m = "cutters") : (cf t p).lookup m = none := by
  unfold cf
  rw [List.lookup_cons, beq_eq_false_iff_ne.mpr h1, List.lookup_cons, beq_eq_false_iff_ne.mpr h2]
  rfl
theorem cf_mk (t : Str) (p : Addr) : putF "cutters" (.ref p) (putF "text" (.str t) []) = cf t p := by kernel_rfl
/-- a chain of this text stands at o -/
def ChainAt (C : Addr) (H : Hp) (o : Addr) (t : Str) : Prop := ∃ dx p vs, H o = some (.ins C dx (cf t p)) ∧ H p = some (.tup vs) ∧ Cuts H vs (cuttersOf t)
theorem ChainAt.same {C : Addr} {H H' : Hp} {o : Addr} {t : Str} (s : Same H H') (h : ChainAt C H o t) : ChainAt C H' o t := let ⟨dx, p, vs, a, b, c⟩ := h; ⟨dx, p, vs, s _ _ a, s _ _ b, c.same s⟩
theorem ChainAt.off {C j : Addr} {H H' : Hp} {o : Addr} {t : Str} (s : Off j H H') (hj : Jar H j) (h : ChainAt C H o t) : ChainAt C H' o t := by
  obtain ⟨x, y, z, hj⟩ := hj
  have f : ∀ (p : Addr) (xs : List V), H p = some (.tup xs) → H' p = some (.tup xs) := fun p xs e => s _ _ (ne_of e hj (by intro z; cases z)) e
  obtain ⟨dx, p, vs, a, b, c⟩ := h
  exact ⟨dx, p, vs, s _ _ (ne_of a hj (by intro z; cases z)) a, f _ _ b, c.mono f⟩
def goodCV : V → Bool
  | .str t => goodC t
  | _ => false
def BdS : V → Prop
  | .str t => Bd t
  | _ => True
def spAI (K : PySem.W.Frag) (C CE : Addr) : Sp := fun vs H Q E => ∃ (x dx : Addr) (v : V), vs = [.ref x, v] ∧ H x = some (.ins C dx []) ∧ Typed K H v ∧ BdS v ∧
  (∀ t, v = .str t → goodC t = true → ∀ H' : Hp, Off x H H' → ChainAt C H' x t → Q .non H') ∧
  (goodCV v = false → ∀ (H' : Hp) (d : Addr), Same H H' → H' d = none → E (.ref CE) (some d) (upd H' d (.xd [("value", v)])))
theorem scAI : FnScope ["self", "text", "cutters", "part"] ["self", "text"] (defScope sAI) := ⟨rfl, rfl, rfl, by decide +kernel, rfl, by decide +kernel, by decide +kernel⟩
theorem any_none (ps : List Str) : (ps.map cutterOf).any (·.isNone) = !(ps.all fun p => (cutterOf p).isSome) := by
  induction ps with
  | nil => rfl
  | cons p r ih =>
    rw [List.map_cons, List.any_cons, List.all_cons, ih]
    cases cutterOf p <;> rfl
theorem ok_ai (T : TxA w K mg) : FnOk P w K mg base (L2.CX P w) 3 T.fI T.fdI ["self", "text"] (spAI K T.C T.E.C) := by
  obtain ⟨tc, mc⟩ := T.mc
  have GC : FnOk P w K mg base CX0 1 T.co.f T.co.fd ["text"] spCO := ok_co T
  have GE : FnOk P w K mg base CX0 1 T.E.f T.E.fd ["self", "value"] (spEI T.E.C) := ok_ei T.E
  refine T.FI.okX scAI (fun vs H Q E h => ?_) (fun cdv A outer s H vs Q E hr h => ?_)
  · obtain ⟨x, dx, v, rfl, _⟩ := h
    rfl
  · obtain ⟨x, dx, v, rfl, hx, ⟨t, ty, kt⟩, bd, kg, kb⟩ := h
    have hr1 : Room 1 _ := hr.mono (by decide)
    refine ⟨_, pss_cons (ps_if (pt_not (pt_val (pe_callB call_isi (by rfl) T.isi (by decide +kernel) (pa_cons (pv 1) (pa_cons (pe_bltn (v := .ty "str") (by rfl) T.str (by decide +kernel) rfl) pa_nil))))) (pss_one (ps_raise rfl (takes_of rfl rfl rfl rfl) (pmk_oex T.E.o T.E.i T.E.t GE hr T.E.b .nil pass0 rfl T.E.g (pa_cons (pv 1) pa_nil)))) pss_nil)
      (pss_cons (ps_setLc (i := 2) (own := [("part", 3)]) (g := gName 3) (tt := tYes) (te := tCall spCO [] E0 (tCons (tVar 3) tNil)) rfl scAI.nd rfl rfl (sw_true rfl rfl rfl (by decide +kernel)) (pi_list (pe_split (pv 1) pe_str)) (blkOk_by (own := [("part", 3)]) (N := ["self", "text", "cutters", "part"]) (sc := defScope sAI) (by decide +kernel)) (fun _ _ _ _ _ => pg_name (i := 3) scAI.nd rfl (Or.inl rfl))
          (fun _ _ _ _ _ => pts_nil) (fun _ _ _ _ _ => by exact pe_call GC hr1 rfl T.co.g T.co.k T.co.b .nil pass0 (pa_cons (pv 3) pa_nil)))
      (pss_cons (ps_if (PW.pt (pw_or (pt_cmpR (op_inD (room65 hr)) pe_non (pv 2) (by rfl)) (pw_or1 (pt_cmpR op_gt (pe_callB call_len_seq (by rfl) T.len PySem.boot_len (pa_cons (pv 2) pa_nil)) (pe_glob (v := .int 6) rfl mc ⟨_, rfl⟩) (nomark _)))))
          (pss_one (ps_raise rfl (takes_of rfl rfl rfl rfl) (pmk_oex T.E.o T.E.i T.E.t GE hr T.E.b .nil pass0 rfl T.E.g (pa_cons (pv 1) pa_nil)))) pss_nil)
      (pss_cons (ps_fld (pv 0) (pv 1) rfl)
      (pss_one (ps_fld (pv 0) (pe_callTy call_tuple_of (by rfl) T.tuple (by decide +kernel) (pa_cons (pv 2) pa_nil)) rfl))))), ?_⟩
    refine ⟨_, rfl, _, _, _, _, isS v, rfl, .ty "str", ty, kt, _, rfl, ?_⟩
    cases hs : isS v with
    | false =>
      refine iteT ?_
      have gv : goodCV v = false := by
        cases v <;> first | rfl | cases hs
      exact mk_err (x := v) ⟨v, rfl, rfl, rfl⟩ (fun {R R'} ⟨v, e1, q⟩ f => ⟨v, e1, f _ _ q⟩) (kb gv H · (Same.refl _))
    | true =>
      obtain ⟨t, rfl⟩ : ∃ t, v = .str t := by
        cases v <;> first | exact ⟨_, rfl⟩ | cases hs
      have bd : Bd t := bd
      have kg := kg t rfl
      refine iteF ?_
      refine ⟨_, rfl, ⟨_, rfl⟩, t, ", ", rfl, rfl, by decide +kernel, bd.line2, fun l nl => ?_⟩
      have s1 : Same H (upd H l (.lst ((Txt.split t ", ").map V.str))) := same_new nl
      have hl1 : (upd H l (.lst ((Txt.split t ", ").map V.str))) l = some (.lst (svs (parts t))) := upd_same
      generalize upd H l (.lst ((Txt.split t ", ").map V.str)) = H1 at s1 hl1 ⊢
      refine ⟨l, rfl, ⟨_, SqL.of hl1⟩, fun Dd nD => lc_list (K := K) (a := l) (xs := svs (parts t)) (fun i H' => Same H1 H' ∧ ∃ acc, H' Dd = some (.lst acc) ∧ CutVs H' acc (((parts t).take i).map cutterOf)) ⟨same_new nD, [], upd_same, .nil⟩ (fun i H' _ ⟨s', _⟩ => SqL.of (s' _ _ hl1)) ?_ ?_⟩
      · rintro i y H' hy ⟨s', acc, hD, hP⟩
        obtain ⟨z, hz, rfl⟩ := svs_get hy
        refine ⟨rfl, _, rfl, z, rfl, Nat.le_trans (parts_word (List.mem_of_getElem? hz)) bd, fun H2 v s2 hv => ?_⟩
        have hD2 := s2 _ _ hD
        have st := tup_stays (o' := .lst (acc ++ [v])) hD2 (by intro xs z; cases z)
        have la := hP.len
        rw [List.length_map, List.length_take] at la
        have lp := parts_len t
        unfold Bd at bd
        refine ⟨acc, hD2, szM (by omega), fun b o q => ?_, _, upd_same, ?_⟩
        · rw [upd_ne (ne_of_none q nD)]
          exact s2 _ _ (s' _ _ q)
        · rw [take_snoc hz, List.map_append]
          exact CutVs.snoc (hv.mono st) ((hP.mono fun _ _ q => s2 _ _ q).mono st)
      · rintro H2 ⟨s2, acc, hD, hP⟩
        have e : (svs (parts t)).length = (parts t).length := List.length_map ..
        rw [e, List.take_length] at hP
        have s02 := Same.trans s1 s2
        have la := hP.len
        rw [List.length_map] at la
        refine ⟨_, rfl, .none, (((parts t).map cutterOf).map dOf), .non, .lst (SqL.of hD) hP.dp, by decide +kernel, dOf_shaped _, _, rfl, ?_⟩
        rw [dOf_any, any_none]
        have gt : goodCV (.str t) = goodC t := rfl
        have gt2 : goodC t = ((parts t).all (fun p => (cutterOf p).isSome) && decide ((parts t).length ≤ 6)) := rfl
        cases h1 : (parts t).all (fun p => (cutterOf p).isSome) with
        | false =>
          rw [gt, gt2, h1] at kb
          refine iteT (iteT ?_)
          exact mk_err (x := .str t) ⟨.str t, rfl, rfl, rfl⟩ (fun {R R'} ⟨v, e1, q⟩ f => ⟨v, e1, f _ _ q⟩) (kb rfl H2 · s02)
        | true =>
          refine iteF ?_
          refine ⟨_, rfl, Dd, _, rfl, .inl (SqL.of hD), _, _, rfl, rfl, _, rfl, ?_⟩
          rw [la]
          by_cases h2 : (parts t).length ≤ 6
          · rw [decide_eq_false (show ¬ ((6 : Int) < ((parts t).length : Int)) by omega)]
            have kg := kg (by rw [gt2, h1, decide_eq_true h2]; rfl)
            refine iteF ?_
            have hx2 := s02 _ _ hx
            refine ⟨_, rfl, _, rfl, x, T.C, dx, _, rfl, hx2, T.cl, T.nT, (by show 0 < 1000; decide), ?_⟩
            have xD : Dd ≠ x := fun q => by rw [q, hx2] at hD; cases hD
            refine ⟨_, rfl, Dd, acc, rfl, .inl ⟨SqL.of (by rw [upd_ne xD]; exact hD), fun q nq => ?_⟩⟩
            have qx : q ≠ x := fun z => by rw [z, upd_same] at nq; cases nq
            refine ⟨_, rfl, x, T.C, dx, _, rfl, (by rw [upd_ne qx.symm]; exact upd_same), T.cl, T.nC, Nat.lt_of_le_of_lt (putF_len _ _ _) (by decide), ?_⟩
            rw [cf_mk]
            have st1 := tup_stays (o' := .ins T.C dx (putF "text" (.str t) [])) hx2 (by intro xs z; cases z)
            have st2 : ∀ (p : Addr) (xs : List V), H2 p = some (.tup xs) → (upd (upd (upd H2 x (.ins T.C dx (putF "text" (.str t) []))) q (.tup acc)) x (.ins T.C dx (cf t q))) p = some (.tup xs) := fun p xs z =>
              tup_stays (o := .ins T.C dx (putF "text" (.str t) [])) (by rw [upd_ne qx.symm]; exact upd_same) (by intro xs z; cases z) _ _ (same_new nq _ _ (st1 _ _ z))
            have o2 : Off x H H2 := Same.off s02
            refine kg _ (Off.put (Off.trans (o2.put) (Same.off (same_new nq)))) ⟨dx, q, acc, upd_same, by rw [upd_ne qx]; exact upd_same, (hP.all h1).mono st2⟩
          · rw [decide_eq_true (show ((6 : Int) < ((parts t).length : Int)) by omega)]
            rw [gt, gt2, h1, decide_eq_false h2] at kb
            refine iteT ?_
            exact mk_err (x := .str t) ⟨.str t, rfl, rfl, rfl⟩ (fun {R R'} ⟨v, e1, q⟩ f => ⟨v, e1, f _ _ q⟩) (kb rfl H2 · s02)
end
end My

/-! instances of own classes: ==, != by an own __eq__; str, repr by own defs; bool -/
namespace Own
open PySem PySem.Spec PyProof.Rows L2
section
variable {M : Model} {prog : Program} {w : World} {A : Around} {E : Value → Shared → Prop} {s : Shared} {K : PySem.W.Frag} {x C f : Addr} {ox : Obj} {od : Option Obj} {b tb : Value}
theorem bound_ne {args : List Value} {Q : Option Value → Shared → Prop} (X : K.In s.heap) (I : PySem.W.InstAt s.heap x ox C od) (hn : PySem.W.findIn K (.ref C) "__ne__" = some (some (.builtin "object.__ne__")))
    (h : wpAny M A (call (.builtin "object.__ne__") (.ref x :: args)) (fun v => Q (some v)) E s) : wpAny M A (callSpecialIfBound? (.ref x) "__ne__" args) Q E s := by
  simp only [callSpecialIfBound?, bindSpecialIfBound?]
  refine wpAny_holding (wpAny_bind (wpAny_bind (wpAny_bind (I.type.here ((PySem.W.looks_findIn X hn).here (wpAny_bind (wpAny_askSetting (wpAny_ite ?_))))))))
  have last : wpAny M A (call (.builtin "object.__ne__") ([.ref x] ++ args) >>= fun v => pure (some v)) Q E s := wpAny_bind (wpAny_mono h (fun _ _ z => wpAny_pure z) fun _ _ z => z)
  split
  next => exact wpAny_bind (wpAny_of_eq (F.cmp_object.ne.bind _) (wpAny_pure (by exact last)))
  next => exact wpAny_tryCatch (wpAny_bind (wpAny_of_eq (F.cmp_object.ne.bind _) (wpAny_pure (by exact last))))
/-- object.__ne__ asks the own __eq__ and turns the answer round -/
theorem ne_body {Q : Fin → Shared → Prop} (hu : A.units < cLine) (X : K.In s.heap) (I : PySem.W.InstAt s.heap x ox C od) (hs : PySem.W.findIn K (.ref C) "__eq__" = some (some (.ref f))) (hf : PySem.W.isFn K (.ref f) = true)
    (h : wpAny (model prog w) A (call (.ref f) [.ref x, b]) (fun v s2 => ∃ z, v = .bool z ∧ Q (.done (.ret (.bool (!z)))) s2) E s) : wpAny (model prog w) A (Builtin.«object.__ne__» ⟨[.ref x, b], []⟩) Q E s := by
  unfold Builtin.«object.__ne__»
  refine wpAny_bind (wpAny_of_eq (a := ((Value.ref x : Value), [b])) (by first | rfl | (simp only [slotArgs]; rfl)) ?_)
  refine wpAny_bind (wpAny_cRoomFor hu ?_)
  refine wpAny_bind (m := callSpecialIfBound? (.ref x) (Str.ofString "__eq__") [b]) (PySem.W.ifBound_K X I hs hf (wpAny_mono h (fun r s2 hr => ?_) fun _ _ z => z))
  obtain ⟨z, rfl, hq⟩ := hr
  exact wpAny_bind (m := truthy (.bool z)) (wpAny_truthy_bool (wpAny_pure hq))
theorem ne_rich {Q : Value → Shared → Prop} (hu : A.units + 1 < cLine) (X : K.In s.heap) (I : PySem.W.InstAt s.heap x ox C od) (hm : PySem.W.mroIn K C (.type "object") = some true) (hn : PySem.W.findIn K (.ref C) "__ne__" = some (some (.builtin "object.__ne__")))
    (hs : PySem.W.findIn K (.ref C) "__eq__" = some (some (.ref f))) (hf : PySem.W.isFn K (.ref f) = true) (hb : PySem.W.Looks (model prog w) s.heap (typeOf b) tb) (nf : PySem.W.notFirst K C tb = true)
    (h : wpAny (model prog w) A.in1 (call (.ref f) [.ref x, b]) (fun v s2 => ∃ z, v = .bool z ∧ Q (.bool (!z)) s2) E s) : wpAny (model prog w) A (richCompare .NotEq (.ref x) b) Q E s := by
  have go : wpAny (model prog w) A (tryCompare (.ref x) "__ne__" b) (fun r s2 => ∃ v, r = some v ∧ Q v s2) E s := by
    unfold tryCompare
    refine wpAny_bind (bound_ne X I hn (wpAny_call (codeAny_call_builtin F.cmp_object.ne.plain F.cmpEntry_ne (PySem.W.check_slot F.cmpKind_ne F.cmpSplit_ne (I.type.andThen (PySem.W.looks_mroIn X hm)) (F.cmpArgs_ne _ _) ?_))))
    refine ne_body (by show A.units + 1 < cLine; exact hu) X I hs hf (wpAny_mono h (fun v s2 hv => ?_) fun _ _ z => z)
    obtain ⟨z, rfl, hq⟩ := hv
    exact ⟨z, rfl, wpAny_pure ⟨_, rfl, hq⟩⟩
  unfold richCompare
  simp only [oneThing_ref]
  refine wpAny_holding (wpAny_bind (wpAny_cRoomFor (by omega) (wpAny_bind (I.type.here (wpAny_bind (hb.here ?_))))))
  rw [cmpInfo_NotEq]
  dsimp only
  split
  next q =>
    have e : PySem.W.subIn K tb (.ref C) = some false := (Bool.or_eq_true_iff.mp nf).elim (fun z => by rw [beq_iff_eq.mp z] at q; simp at q) fun z => beq_iff_eq.mp z
    refine wpAny_bind ((PySem.W.looks_subIn X e).here ?_)
    simp only [Bool.false_eq_true, if_false]
    exact wpAny_bind (wpAny_mono go (fun r s2 ⟨v, e1, hq⟩ => by subst e1; exact wpAny_pure hq) fun _ _ z => z)
  next =>
    refine wpAny_bind (wpAny_pure ?_)
    simp only [Bool.false_eq_true, if_false]
    exact wpAny_bind (wpAny_mono go (fun r s2 ⟨v, e1, hq⟩ => by subst e1; exact wpAny_pure hq) fun _ _ z => z)
end
/-- the class at C has its own __eq__ at g, and no more of the kind -/
structure EqC (K : PySem.W.Frag) (C g : Addr) : Prop where
  eq : PySem.W.findIn K (.ref C) "__eq__" = some (some (.ref g))
  ne : PySem.W.findIn K (.ref C) "__ne__" = some (some (.builtin "object.__ne__"))
  fn : PySem.W.isFn K (.ref g) = true
  ob : PySem.W.mroIn K C (.type "object") = some true
section
variable {X : Cx} {C g : Addr} {n : Nat} {sp : Sp}
theorem inst_of {pins : List (Addr × Obj)} {σ : L2.St} {H : Hp} {s : Shared} {a dx : Addr} {fs : List (Str × V)} (I : Inv X pins σ H s) (e : H a = some (.ins C dx fs)) : ∃ (ox : Obj) (od : Option Obj), PySem.W.InstAt s.heap a ox C od := by
  obtain ⟨mA, O, _⟩ := ins_get I.hok e
  obtain ⟨od, J, _⟩ := O.look
  exact ⟨_, _, J⟩
/-- x == y: x an instance of C, y of a class that is not below C -/
def rEqO (K : PySem.W.Frag) (C : Addr) (sp : Sp) : R2 := fun x y H Q => ∃ (a dx : Addr) (fs : List (Str × V)) (t : Value), x = .ref a ∧ H a = some (.ins C dx fs) ∧ TyX K H y t ∧ PySem.W.notFirst K C t = true ∧ sp [x, y] H Q fun _ _ _ => False
def rNeO (K : PySem.W.Frag) (C : Addr) (sp : Sp) : R2 := fun x y H Q => ∃ (a dx : Addr) (fs : List (Str × V)) (t : Value), x = .ref a ∧ H a = some (.ins C dx fs) ∧ TyX K H y t ∧ PySem.W.notFirst K C t = true ∧ sp [x, y] H (fun v H2 => ∃ b, v = .bl b ∧ Q (.bl (!b)) H2) fun _ _ _ => False
theorem op_eqO (c : EqC X.K C g) (F : FnR X.prog X.w X.K X.mg X.base CX0 n g sp) (hr : Room n X.A) : OpR X (compareOp .Eq) (rEqO X.K C sp) := by
  intro pins s σ H x y v u Q I rx ry h
  obtain ⟨a, dx, fs, t, rfl, ha, ty, nf, q⟩ := h
  cases (show v = Value.ref a from rx)
  obtain ⟨ox, od, J⟩ := inst_of I ha
  obtain ⟨m, fr⟩ := I.fr
  obtain ⟨PP, Z, pz, _⟩ := kit_of I ry ty
  show wpAny (model X.prog X.w) X.A (richCompare .Eq (.ref a) u) _ _ s
  refine PySem.W.cmp_K (op := .Eq) hr.units0 fr I.ok.mod.kin J (Z.ty _ _ I.kIn pz) nf c.eq c.fn ?_
  refine wpAny_mono (wpAny_call (run_fnR (us := [.ref a, u]) (vs := [.ref a, y]) F hr pass0 I (.cons rfl (.cons ry .nil)) q)) (fun z s2 hz => ?_) fun _ _ e => e
  obtain ⟨z2, H2, I2, rz, qz⟩ := hz
  exact SlX.cmpback rz ⟨z2, H2, I2, rz, qz⟩
theorem op_neO (c : EqC X.K C g) (F : FnR X.prog X.w X.K X.mg X.base CX0 n g sp) (hr : Room (n + 1) X.A) : OpR X (compareOp .NotEq) (rNeO X.K C sp) := by
  intro pins s σ H x y v u Q I rx ry h
  obtain ⟨a, dx, fs, t, rfl, ha, ty, nf, q⟩ := h
  cases (show v = Value.ref a from rx)
  obtain ⟨ox, od, J⟩ := inst_of I ha
  obtain ⟨PP, Z, pz, _⟩ := kit_of I ry ty
  show wpAny (model X.prog X.w) X.A (richCompare .NotEq (.ref a) u) _ _ s
  refine ne_rich (by have := hr.un; omega) I.kIn J c.ob c.ne c.eq c.fn (Z.ty _ _ I.kIn pz) nf ?_
  refine wpAny_mono (wpAny_call (SlX.run_at (us := [.ref a, u]) (ws := [.ref a, y]) F hr.in1 I.env0.in1 pass0 I (.cons rfl (.cons ry .nil)) q)) (fun z s2 hz => ?_) fun _ _ e => e
  obtain ⟨z2, H2, I2, rz, bb, rfl, qz⟩ := hz
  cases (show z = Value.bool bb from rz)
  exact ⟨bb, rfl, .bl (!bb), H2, I2, rfl, qz⟩
/-- str(x), repr(x): the own def's text -/
def rTxtO (C : Addr) (sp : Sp) : List V → Hp → VK → Prop := fun xs H Q => ∃ (a dx : Addr) (fs : List (Str × V)), xs = [.ref a] ∧ H a = some (.ins C dx fs) ∧ sp [.ref a] H (fun v H2 => ∃ z, v = .str z ∧ Q (.str z) H2) fun _ _ _ => False
theorem call_strO (hs : PySem.W.findIn X.K (.ref C) "__str__" = some (some (.ref g))) (hf : PySem.W.isFn X.K (.ref g) = true) (F : FnR X.prog X.w X.K X.mg X.base CX0 n g sp) (hr : Room (n + 2) X.A) : CallR X (.type "str") (rTxtO C sp) := by
  intro pins s σ H xs us Q I r h
  obtain ⟨a, dx, fs, rfl, ha, q⟩ := h
  obtain ⟨u, rfl, ru⟩ := vals1 r
  cases (show u = Value.ref a from ru)
  obtain ⟨ox, od, J⟩ := inst_of I ha
  have hr1 : Room (n + 1) X.A.in1 := hr.in1
  refine PySem.W.kso_call (by have := hr.un; show X.A.units + 1 + 1 < cLine; omega) I.kIn J hs hf ?_
  refine wpAny_mono (wpAny_call (SlX.run_at (us := [.ref a]) (ws := [.ref a]) F hr1.in1 I.env0.in1.in1 pass0 I (.cons rfl .nil) q)) (fun z s2 hz => ?_) fun _ _ e => e
  obtain ⟨z2, H2, I2, rz, t, rfl, qz⟩ := hz
  obtain ⟨tk, rfl⟩ := (show ∃ tk, z = Value.str t tk from rz)
  exact ⟨.str t, H2, I2, ⟨_, rfl⟩, qz⟩
theorem call_reprO (hs : PySem.W.findIn X.K (.ref C) "__repr__" = some (some (.ref g))) (hf : PySem.W.isFn X.K (.ref g) = true) (F : FnR X.prog X.w X.K X.mg X.base CX0 n g sp) (hr : Room (n + 1) X.A) : CallR X (.builtin "repr") (rTxtO C sp) := by
  intro pins s σ H xs us Q I r h
  obtain ⟨a, dx, fs, rfl, ha, q⟩ := h
  obtain ⟨u, rfl, ru⟩ := vals1 r
  cases (show u = Value.ref a from ru)
  obtain ⟨ox, od, J⟩ := inst_of I ha
  obtain ⟨m, fr⟩ := I.fr
  refine PySem.W.repr_K (by have := hr.un; show X.A.units + 1 < cLine; omega) fr I.ok.mod.kin J hs hf ?_
  refine wpAny_mono (wpAny_call (SlX.run_at (us := [.ref a]) (ws := [.ref a]) F hr.in1 I.env0.in1 pass0 I (.cons rfl .nil) q)) (fun z s2 hz => ?_) fun _ _ e => e
  obtain ⟨z2, H2, I2, rz, t, rfl, qz⟩ := hz
  obtain ⟨tk, rfl⟩ := (show ∃ tk, z = Value.str t tk from rz)
  exact ⟨.str t, H2, I2, ⟨_, rfl⟩, qz⟩
/-- bool(x): no __bool__, no __len__ -/
def rBoolO (C : Addr) : List V → Hp → VK → Prop := fun xs H Q => ∃ (a dx : Addr) (fs : List (Str × V)), xs = [.ref a] ∧ H a = some (.ins C dx fs) ∧ Q (.bl true) H
theorem call_boolO (hb : PySem.W.findIn X.K (.ref C) "__bool__" = some none) (hl : PySem.W.findIn X.K (.ref C) "__len__" = some none) : CallR X (.type "bool") (rBoolO C) := by
  intro pins s σ H xs us Q I r h
  obtain ⟨a, dx, fs, rfl, ha, q⟩ := h
  obtain ⟨u, rfl, ru⟩ := vals1 r
  cases (show u = Value.ref a from ru)
  obtain ⟨ox, od, J⟩ := inst_of I ha
  obtain ⟨m, fr⟩ := I.fr
  have mt : Meets (Builtin.«bool.__new__» ⟨[.type "bool", .ref a], []⟩) (fun _ R st => (∃ m, Fr X.base X.env.locals st.heap m) ∧ PySem.W.InstAt st.heap a ox C od ∧ R (.ok (.ret (.bool true))) st) :=
    Meets.of_wp fun pr wo Ar R st hh => by
      obtain ⟨⟨m2, fr2⟩, J2, hR⟩ := hh
      obtain ⟨hp, gg, dd, tk, os⟩ := st
      have f1 := PySem.F.conv_sub_bool
      repeat (any_goals (first | assumption | (with_reducible refine PySem.W.truthy_K0 fr2 I.ok.mod.kin J2 hb hl ?_) | wp_step))
      all_goals first | exact ⟨_, rfl, hR⟩ | exact hR | skip
  exact call_bool_1 mt ⟨⟨m, fr⟩, J, rfl, .bl true, H, I, rfl, q⟩
end
end Own

/-! chains: ==, str, repr -/
namespace My
open PySem L2 Cm LM CH
abbrev sAE : Stmt := inClass (top 46) 1
abbrev sAS : Stmt := inClass (top 46) 2
abbrev sAR : Stmt := inClass (top 46) 3
/-- the class as a type -/
structure TyC (K : PySem.W.Frag) (C : Addr) : Prop where
  c1 : PySem.W.findIn K (.ref C) "__class__" = some (some (.builtin "object.__class__"))
  c2 : PySem.W.specialIn K (.builtin "object.__class__") "__get__" = some (some (.builtin "getset_descriptor.__get__"))
  c3 : PySem.W.takesIn K (.builtin "object.__class__") = some true
  c4 : PySem.W.mroIn K C (.type "object") = some true
  k1 : PySem.W.kitOne K (.ref C) (.ref C) = some true
structure TxAm (w : World) (K : PySem.W.Frag) (mg : Str → Option Value) where
  T : TxA w K mg
  ae : Sm K T.C "__eq__" "Chain.__eq__" sAE ["self", "other"]
  as : Sm K T.C "__str__" "Chain.__str__" sAS ["self"]
  ar : Sm K T.C "__repr__" "Chain.__repr__" sAR ["self"]
  ne : PySem.W.findIn K (.ref T.C) "__ne__" = some (some (.builtin "object.__ne__"))
  ty : TyC K T.C
section
variable {P : Program} {w : World} {K : PySem.W.Frag} {mg : Str → Option Value} {base : Heap}
theorem ChainAt.ty (T : TxA w K mg) (c : TyC K T.C) {H : Hp} {o : Addr} {t : Str} (h : ChainAt T.C H o t) : TyX K H (.ref o) (.ref T.C) := by
  obtain ⟨dx, p, vs, e, _⟩ := h
  exact .base (.ins e T.cl c.c1 c.c2 c.c3 c.c4)
def spAE (K : PySem.W.Frag) (C : Addr) : Sp := fun vs H Q _ => ∃ (o : Addr) (t : Str) (y : V), vs = [.ref o, y] ∧ ChainAt C H o t ∧
  ((∃ (o2 : Addr) (t2 : Str), y = .ref o2 ∧ ChainAt C H o2 t2 ∧ Q (.bl (decide (t = t2))) H) ∨ ∃ ty, TyX K H y ty ∧ PySem.W.kitOne K ty (.ref C) = some false ∧ Q (.bl false) H)
theorem scAE : FnScope ["self", "other"] ["self", "other"] (defScope sAE) := ⟨rfl, rfl, rfl, by decide +kernel, rfl, by decide +kernel, by decide +kernel⟩
theorem ok_ae (M : TxAm w K mg) : FnOk P w K mg base CX0 1 M.ae.f M.ae.fd ["self", "other"] (spAE K M.T.C) := by
  refine M.ae.F.ok scAE (fun vs H Q E h => ?_) (fun cdv A outer s H vs Q E hr h => ?_)
  · obtain ⟨o, t, y, rfl, _⟩ := h
    rfl
  · obtain ⟨o, t, y, rfl, hO, k⟩ := h
    refine ⟨_, pss_one (ps_ret (pe_and (pe_callB call_isi (by rfl) M.T.isi (by decide +kernel) (pa_cons (pv 1) (pa_cons (pe_glob (v := .ref M.T.C) rfl M.T.gC rfl) pa_nil)))
      (pe_one (pe_cmpR op_eq (pe_fld (pv 0) rfl) (pe_fld (pv 1) rfl) (nomark _))))), ?_⟩
    rcases k with ⟨o2, t2, rfl, hO2, k⟩ | ⟨ty, hty, kt, k⟩
    · have ty2 := hO2.ty M.T M.ty
      obtain ⟨dx, p, vs, e1, _⟩ := hO
      obtain ⟨dx2, p2, vs2, e2, _⟩ := hO2
      refine ⟨_, rfl, _, _, _, _, true, rfl, .own M.T.C, ty2, M.ty.k1, true, rfl, iteT ?_⟩
      refine ⟨_, rfl, o, M.T.C, dx, _, _, rfl, e1, M.T.cl, M.T.nT, cf_text .., _, rfl, o2, M.T.C, dx2, _, _, rfl, e2, M.T.cl, M.T.nT, cf_text .., rfl, ?_⟩
      rw [dS]
      exact k
    · exact ⟨_, rfl, _, _, _, _, false, rfl, .own M.T.C, hty, kt, false, rfl, iteF k⟩
def spAS (C : Addr) : Sp := fun vs H Q _ => ∃ (o : Addr) (t : Str), vs = [.ref o] ∧ ChainAt C H o t ∧ Q (.str t) H
theorem scAS : FnScope ["self"] ["self"] (defScope sAS) := ⟨rfl, rfl, rfl, by decide +kernel, rfl, by decide +kernel, by decide +kernel⟩
theorem ok_as (M : TxAm w K mg) : FnOk P w K mg base CX0 1 M.as.f M.as.fd ["self"] (spAS M.T.C) := by
  refine M.as.F.ok scAS (fun vs H Q E h => ?_) (fun cdv A outer s H vs Q E hr h => ?_)
  · obtain ⟨o, t, rfl, _⟩ := h
    rfl
  · obtain ⟨o, t, rfl, ⟨dx, p, vs, e, _⟩, k⟩ := h
    refine ⟨_, pss_one (ps_ret (pe_callTy SkE.call_str_str (by rfl) M.T.str (by decide +kernel) (pa_cons (pe_fld (pv 0) rfl) pa_nil))), ?_⟩
    exact ⟨_, rfl, o, M.T.C, dx, _, _, rfl, e, M.T.cl, M.T.nT, cf_text .., t, rfl, k⟩
def spAR (C : Addr) : Sp := fun vs H Q _ => ∃ (o : Addr) (t : Str), vs = [.ref o] ∧ ChainAt C H o t ∧ Bd t ∧ Q (.str (("Chain(" : Str) ++ t ++ ")")) H
theorem scAR : FnScope ["self"] ["self"] (defScope sAR) := ⟨rfl, rfl, rfl, by decide +kernel, rfl, by decide +kernel, by decide +kernel⟩
theorem empty_app' (x : Str) : Str.empty ++ x = x := TL.ext_tl (by rw [TL.tl_append]; rfl)
theorem ok_ar (M : TxAm w K mg) : FnOk P w K mg base CX0 1 M.ar.f M.ar.fd ["self"] (spAR M.T.C) := by
  refine M.ar.F.ok scAR (fun vs H Q E h => ?_) (fun cdv A outer s H vs Q E hr h => ?_)
  · obtain ⟨o, t, rfl, _⟩ := h
    rfl
  · obtain ⟨o, t, rfl, ⟨dx, p, vs, e, _⟩, bd, k⟩ := h
    refine ⟨_, pss_one (ps_ret (pe_joined (.cons pe_str (.cons (pe_fmt (pe_fld (pv 0) rfl)) (.cons pe_str .nil))))), ?_⟩
    have l0 : (Str.empty).length = 0 := rfl
    have l2 : ("Chain(" : Str).length = 6 := by decide +kernel
    have l3 : (")" : Str).length = 1 := by decide +kernel
    unfold Bd at bd
    refine ⟨_, rfl, szl (by rw [strLen_append]; omega), ?_⟩
    refine ⟨_, rfl, o, M.T.C, dx, _, _, rfl, e, M.T.cl, M.T.nT, cf_text .., .inl ⟨t, rfl, Nat.le_of_lt (szM (by omega)), t, rfl, Nat.le_of_lt (szM (by rw [strLen_append, strLen_append]; omega)), ?_⟩⟩
    refine ⟨_, rfl, Nat.le_of_lt (szM (by rw [strLen_append, strLen_append, strLen_append]; omega)), ?_⟩
    rw [empty_app']
    exact k
end
end My

/-! repr of loops -/
namespace My
open PySem L2 Cm LM
abbrev sLR : Stmt := inClass (top 64) 4
structure TxLr (K : PySem.W.Frag) (mg : Str → Option Value) where
  T : TxC K mg
  lr : Sm K T.C "__repr__" "Loop.__repr__" sLR ["self"]
section
variable {P : Program} {w : World} {K : PySem.W.Frag} {mg : Str → Option Value} {base : Heap}
def spLR (C : Addr) : Sp := fun vs H Q _ => ∃ (o : Addr) (t : Str), vs = [.ref o] ∧ LoopAt C H o t ∧ Bd t ∧ Q (.str (("Loop(" : Str) ++ t ++ ")")) H
theorem scLR : FnScope ["self"] ["self"] (defScope sLR) := ⟨rfl, rfl, rfl, by decide +kernel, rfl, by decide +kernel, by decide +kernel⟩
theorem empty_app (x : Str) : Str.empty ++ x = x := TL.ext_tl (by rw [TL.tl_append]; rfl)
theorem ok_lr (M : TxLr K mg) : FnOk P w K mg base CX0 1 M.lr.f M.lr.fd ["self"] (spLR M.T.C) := by
  refine M.lr.F.ok scLR (fun vs H Q E h => ?_) (fun cdv A outer s H vs Q E hr h => ?_)
  · obtain ⟨o, t, rfl, _⟩ := h
    rfl
  · obtain ⟨o, t, rfl, ⟨dx, pr, pe, po, pq, e, _⟩, bd, k⟩ := h
    refine ⟨_, pss_one (ps_ret (pe_joined (.cons pe_str (.cons (pe_fmt (pe_fld (pv 0) rfl)) (.cons pe_str .nil))))), ?_⟩
    have l0 : (Str.empty).length = 0 := rfl
    have l2 : ("Loop(" : Str).length = 5 := by decide +kernel
    have l3 : (")" : Str).length = 1 := by decide +kernel
    unfold Bd at bd
    refine ⟨_, rfl, szl (by rw [strLen_append]; omega), ?_⟩
    refine ⟨_, rfl, o, M.T.C, dx, _, _, rfl, e, M.T.cl, M.T.nT, lf_text .., .inl ⟨t, rfl, Nat.le_of_lt (szM (by omega)), t, rfl, Nat.le_of_lt (szM (by rw [strLen_append, strLen_append]; omega)), ?_⟩⟩
    refine ⟨_, rfl, Nat.le_of_lt (szM (by rw [strLen_append, strLen_append, strLen_append]; omega)), ?_⟩
    rw [empty_app]
    exact k
end
end My

/-! a comprehension whose first step raises -/
namespace LcR
open PySem PySem.Spec PyProof.Rows L2
theorem note_same {u : Value} {c e : Env} (h : c.frame = e.frame) : noteFrame u c = noteFrame u e := by
  unfold noteFrame PySem.frameOf
  rw [h]
section
variable {X : Cx} {pins : List (Addr × Obj)} {σ : L2.St} {H3 H5 : Hp} {s3 s5 t : Shared} {E : XK} {u : Value} {C : Addr} {fp : List Addr}
/-- a call's error leaves the block, whose names stand at C -/
theorem flies (tk : Takes X fun cls d _ H => E cls d H) (hs : X.stack = X.env :: X.outer) (hf : X.env.frame = some X.env.locals) (I : Inv X pins σ H3 s3) (hC : s3.heap.get? C = none) (un : Un (frs X.stack) fp H3 H5 s3.heap s5.heap)
    (hfp : ∀ b ∈ fp, (b ∈ X.ex ∨ X.s_0.heap.objs.size ≤ b) ∧ b ≠ X.env.locals ∧ (∀ x c, X.env.cells.lookup x = some c → c ≠ b) ∧ ∀ p ∈ X.pn ++ pins, p.1 ≠ b) (nC : H5 C = none) (dC : ∃ m, s5.heap.Ns C m) (nfr : C ∉ frs X.stack) (o5 : s5.os = s3.os)
    (cx : L2.CX X.prog X.w X.stack H5 s5 E u t) {ce : Env} (hce : ce.frame = X.env.frame) (hl : ce.locals = C) :
    notedBy (model X.prog X.w) X.A ce (CompFails (model X.prog X.w) X.A X.xe ce) u t := by
  obtain ⟨a, B, H', cls, d, rfl, fl, hok, ub, na, os, ag, hE⟩ := cx
  have frames : X.A.frames = some (X.env :: X.outer) := I.ok.frames.trans (by rw [hs])
  obtain ⟨B2, g1, g2⟩ := restrict B fun b => decide (b ≠ C)
  have kB : ∀ b o, B2.get? b = some o → b ≠ C ∧ B.get? b = some o := fun b o e => by
    by_cases z : b = C
    · rw [g2 b (by simp [z])] at e; cases e
    · exact ⟨z, by rw [← g1 b (by simp [z])]; exact e⟩
  have kB' : ∀ b o, B.get? b = some o → b ≠ C → B2.get? b = some o := fun b o e z => by rw [g1 b (by simp [z])]; exact e
  obtain ⟨m, o, es, ep, hCo, hr⟩ := dC
  have BC : B.get? C = some o := ub.keep C o hCo nC nfr
  unfold notedBy
  rw [note_same hce]
  rw [hs] at fl
  refine HandSPX.looks_onZ Zc.steady frames hf fl fun h1 hd up => ?_
  obtain ⟨d1, d2, d3, oe, vs, T, oT, ts, he, hz, hdt, h1v, hnT, hTe, hT, hdT, h3⟩ := hd
  have aC : a ≠ C := fun z => by rw [z] at d2; rw [d2] at BC; cases BC
  have TC : T ≠ C := fun z => by rw [z] at hnT; rw [hnT] at BC; cases BC
  unfold CompFails
  rw [hl]
  refine ⟨m, ⟨o, es, ep, d1 C o BC, hr⟩, fun h2 m2 hn2 sb => ?_⟩
  unfold PySem.passOn
  refine wpAny_bind (wpAny_field ((sb.2 a aC).trans he) hdt h1v ?_)
  rw [if_neg (show ¬ ((Value.ref T == Value.none) = true) from by simp), hce, hf]
  have nT2 : B2.get? T = none := by
    cases q : B2.get? T with
    | none => rfl
    | some x => rw [(kB T x q).2] at hnT; cases hnT
  have tr2 : HandSPX.TracedZ h2 B2 a (Zc cls d) (rawInt X.env.locals) := ⟨oe, vs, T, oT, ts, (sb.2 a aC).trans he, hz, hdt, h1v, nT2, hTe, (sb.2 T TC).trans hT, hdT, h3⟩
  have st2 : B2.StaysIn h2 := fun b x e => (sb.2 b (kB b x e).1).trans (d1 b x (kB b x e).2)
  have ff2 : h2.FunFrames B2 X.stack := by
    rw [hs]
    refine funFrames_none (Heap.FunFrames.sameBut sb hn2 d3) fun L hL => ?_
    cases q : B2.get? L with
    | none => rfl
    | some x =>
      have z := (kB L x q).2
      rw [(d3.mem hL).1] at z
      cases z
  have fin : wpAny (model X.prog X.w) X.A (setFlight (.ref a) (some X.env.locals)) (fun _ s4 => wpAny (model X.prog X.w) X.A (throw (.ref a) : Sem Value) (fun _ _ => False) X.xe s4) X.xe { t with heap := h2 } := by
    refine HandSPX.setFlight_anyZ st2 ff2 tr2 fun h4 k1 k2 k3 k4 => wpAny_throw (tk _ _ ?_)
    obtain ⟨G, q1, q2⟩ := restrict h4 fun b => (B2.get? b).isSome || decide (b ∈ frs X.stack)
    have gB : ∀ b x, B2.get? b = some x → G.get? b = some x := fun b x e => by
      rw [q1 b (by rw [e]; rfl)]
      exact k1 b x e
    have gF : ∀ b, b ∈ frs X.stack → G.get? b = h4.get? b := fun b hb => q1 b (by rw [decide_eq_true hb, Bool.or_true])
    have og : ∀ b x, G.get? b = some x → h4.get? b = some x ∧ ((B2.get? b).isSome = true ∨ b ∈ frs X.stack) := fun b x e => by
      cases q : ((B2.get? b).isSome || decide (b ∈ frs X.stack)) with
      | false => rw [q2 b q] at e; cases e
      | true =>
        rw [q1 b q] at e
        refine ⟨e, ?_⟩
        rcases Bool.or_eq_true_iff.mp q with z | z
        · exact .inl z
        · exact .inr (of_decide_eq_true z)
    -- frames stand, but for their slots
    have fs : ∀ b, b ∈ frs X.stack → ∀ x, t.heap.get? b = some x → (∀ vs, x.data ≠ .fields vs) → ∃ sl, G.get? b = some { x with slots := sl } := fun b hb x e nf => by
      obtain ⟨s1, e1⟩ := up b x e nf
      have bC : b ≠ C := fun z => nfr (z ▸ hb)
      obtain ⟨s2, e2⟩ := k4 b _ ((sb.2 b bC).trans e1) nf
      exact ⟨s2, (gF b hb).trans e2⟩
    have nC3 : ∀ b x, s3.heap.get? b = some x → b ≠ C := fun b x e z => by rw [z, hC] at e; cases e
    refine ⟨a, B2, { s3 with heap := G, gens := t.gens, drawn := t.drawn, toks := t.toks }, pins, σ, H', cls, d, rfl, ?_, fun b x e hb => ?_, Heap.UpToSlots.of_keeps fun b x e => (og b x e).1, .inr (.inr ⟨k1, ?_, k2, k3⟩), na, os.trans o5, ag, hE⟩
    · have nC' : H' C = none := ub.free C o hCo nC
      have hokG : HOk X.prog X.w H' G := fun b y e => by
        have nb : ∀ c z, H' c = some z → c ≠ C := fun c z q w => by rw [w, nC'] at q; cases q
        refine (hok b y e).stay (fun c v hc q => ?_) (fun _ q => q) fun _ _ q => q
        refine gB c v (kB' c v q ?_)
        rcases hc with z | z
        · rw [z]; exact nb b y e
        · exact nb c _ z
      refine I.call (ch := fp) ⟨fun b x e n hb hc => ?_, fun b x e n hb hc => ?_, fun b x e n hc => ?_, fun b x e hc => ?_, fun b xs e => ub.tups b xs (un.tups b xs e), fun b y xs e => ub.frzs b y xs (un.frzs b y xs e), fun b ps e => ?_⟩ hokG ag hfp
      · exact gB b x (kB' b x (ub.keep b x (un.keep b x e n hb hc) (un.free b x e n hc) hb) (nC3 b x e))
      · obtain ⟨s1, e1⟩ := un.slot b x e n hb hc
        obtain ⟨s2, e2⟩ := ub.slot b _ e1 hb
        obtain ⟨_, x', e', nf⟩ := I.stack.mem hb
        rw [e] at e'
        cases e'
        obtain ⟨s4, e4⟩ := fs b hb _ e2 nf
        exact ⟨s4, e4⟩
      · obtain ⟨s1, e1⟩ := un.any e n hc
        exact ub.free b _ e1 (un.free b x e n hc)
      · obtain ⟨x5, e5⟩ := un.there b x e hc
        by_cases hb : b ∈ frs X.stack
        · obtain ⟨s2, e2⟩ := ub.slot b _ e5 hb
          have hb' := hb
          rw [hs] at hb'
          obtain ⟨_, x1, e1, nf⟩ := d3.mem hb'
          have bC : b ≠ C := fun z => nfr (z ▸ hb)
          obtain ⟨s3', e3⟩ := k4 b _ ((sb.2 b bC).trans e1) nf
          exact ⟨_, (gF b hb).trans e3⟩
        · obtain ⟨x', e'⟩ := ub.there b x5 e5 hb
          exact ⟨x', gB b x' (kB' b x' e' (nC3 b x e))⟩
      · obtain ⟨m1, e1⟩ := un.tbls b ps e
        obtain ⟨m3, e2⟩ := ub.tbls b _ e1
        exact ⟨m1 ++ m3, by rw [e2, Array.append_assoc]⟩
    · obtain ⟨e', h⟩ := og b x e
      rcases h with h | h
      · obtain ⟨y, q⟩ := Option.isSome_iff_exists.mp h
        rw [k1 b y q] at e'
        rw [← e']
        exact q
      · exact absurd h hb
    · cases q : B2.get? a with
      | none => rfl
      | some x => rw [(kB a x q).2] at d2; cases d2
  first
    | exact wpAny_bind (wpAny_pure (wpAny_bind fin))
    | exact wpAny_bind fin
end
end LcR
namespace LcR
open PySem PySem.Spec PyProof.Rows L2
section
variable {X : Cx}
/-- the reading: the first item is bound, and its step raises -/
def tLcR (wi : TI) (g : TG) (te : TE) (vs : List Nat) : TE := fun σ H _ => wi σ H fun J H1 => ∀ D, H1 D = none → J.go 0 (upd H1 D (.lst [])) ∧ ∀ x H', J.yld 0 (upd H1 D (.lst [])) x H' → g x (wipe σ vs) H' fun σ2 H2 => te σ2 H2 fun _ _ => False
theorem pe_lcR {elt tg iter : Expr} {scope : Scope} {own : List (Str × Nat)} {pos : Pos} {wi : TI} {g : TG} {te : TE} {E : XK} (tk : Takes X fun cls d _ H => E cls d H) (hs : X.stack = X.env :: X.outer) (hf : X.env.frame = some X.env.locals) (hc : X.calm = true) (hN : X.N.Nodup)
    (hi : PI X tg iter wi) (ok : BlkOk X.N X.env.scope scope own) (hg : ∀ (s : Shared) (H : Hp) (C : Addr) (cl : List (Str × Addr)) (fp : List Addr), PG (X.blk s H scope (compEnvC scope cl C X.env) fp) tg g)
    (he : ∀ (s : Shared) (H : Hp) (C : Addr) (cl : List (Str × Addr)) (fp : List Addr) (xe : Value → Shared → Prop), Passes (L2.CX X.prog X.w) ((X.blk s H scope (compEnvC scope cl C X.env) fp).wish xe) E → PE ((X.blk s H scope (compEnvC scope cl C X.env) fp).wish xe) elt te)
    (hfs : ∀ x, foldedSetIterable iter X.env x = pure x := by intro _; rfl) : PE X (.ListComp elt [⟨tg, iter, [], 0⟩] scope pos) (tLcR wi g te (own.map (·.2))) := by
  constructor
  intro pins s σ H Q I h
  have caught : ∀ y ∈ scope.names, y.2 = .free → ∃ c, X.env.cells.lookup y.1 = some c := fun y hy e => (ok.free y hy e).elim (fun k => I.ok.has _ (.inl k)) fun k => I.ok.has _ (.inr k)
  rw [eval_ListComp]
  refine comprehension_at (use := none) rfl hfs (closure_ok caught) ok.kind (fun y hy e => by rw [ok.uniq y hy, e]) (wpAny_mono (hi.run pins s σ H _ I h) (fun xv s1 hx => wpAny_mono hx (fun itv s2 h2 => ?_) fun _ _ z => z) fun _ _ z => z)
  obtain ⟨it, fp, tn, J, H2, ei, I2, T, st2, f2, q⟩ := h2
  subst ei
  refine wpAny_newObj_type (newEnv_comp ?_) (by show 0 ≤ sizeLine; decide)
  have nD : H2 s2.heap.objs.size = none := I2.hok.fresh (Nat.le_refl _)
  obtain ⟨go, step⟩ := q _ nD
  obtain ⟨s3, e3⟩ : ∃ s3 : Shared, ({ s2 with heap := s2.heap.push { cls := .type "list", data := .seq ([] : List Value).toArray } } : Shared) = s3 := ⟨_, rfl⟩
  obtain ⟨D, eD⟩ : ∃ D, s2.heap.objs.size = D := ⟨_, rfl⟩
  have h3 : s3.heap = s2.heap.push { cls := .type "list", data := .seq ([] : List Value).toArray } := by rw [← e3]
  have I3 : Inv X pins σ (upd H2 D (.lst [])) s3 := by
    subst e3 eD
    exact I2.laid (t' := s2.toks) (fun b o e => Heap.get?_push_of_some _ e) (Nat.le_refl _) ⟨Nat.zero_le _, [], 0, .nil, Heap.get?_push_size _ rfl⟩
  have young : ∀ b ∈ fp, b < s2.heap.objs.size := fun b hb => let ⟨o, e, _⟩ := T.obj _ _ st2 b hb; Heap.lt_size e
  have f3 : ∀ b ∈ fp, FpOk X pins (upd H2 D (.lst [])) b ∧ b < s3.heap.objs.size := fun b hb => by
    have lt := young b hb
    constructor
    · exact ⟨by rw [upd_ne (by rw [← eD]; exact Nat.ne_of_lt lt)]; exact (f2 b hb).1, (f2 b hb).2⟩
    · rw [h3, Heap.size_push]
      exact Nat.lt_succ_of_lt lt
  have st3 : tn 0 s3.heap := T.keep _ _ _ st2 fun b _ o e => by rw [h3]; exact Heap.get?_push_of_some _ e
  rw [e3]
  rw [eD] at go step ⊢
  obtain ⟨H3, eH⟩ : ∃ H3, upd H2 D (.lst []) = H3 := ⟨_, rfl⟩
  rw [eH] at I3 f3 go step
  have I4 := block_start I3 ok hN f3
  obtain ⟨cl, ecl⟩ : ∃ cl, cellsFrom (s3.heap.objs.size + 1) scope.names (cloFrom X.env.cells scope.names []) = cl := ⟨_, rfl⟩
  rw [ecl] at I4
  obtain ⟨C, eC⟩ : ∃ C, s3.heap.objs.size = C := ⟨_, rfl⟩
  have noC : s3.heap.get? C = none := by
    cases z : s3.heap.get? C with
    | none => rfl
    | some o => exact absurd (Heap.lt_size z) (by rw [eC]; exact Nat.lt_irrefl _)
  have nfr : C ∉ frs X.stack := fun z => by
    obtain ⟨_, o, e, _⟩ := I3.stack.mem z
    rw [noC] at e
    cases e
  rw [eC] at I4
  let ce := compEnvC scope cl C X.env
  let Xb := X.blk s3 H3 scope ce fp
  let xb : Value → Shared → Prop := notedBy (model X.prog X.w) X.A ce (CompFails (model X.prog X.w) X.A X.xe ce)
  have ps : Passes (L2.CX X.prog X.w) (Xb.wish xb) E := fun pins' σ' H' s' e s'' I' cx => by
    refine flies (C := C) tk hs hf I3 noC (un := I'.base) (fun b hb => ⟨(f3 b hb).1.2.2.2.1, (f3 b hb).1.2.1, (f3 b hb).1.2.2.2.2.1, (f3 b hb).1.2.2.2.2.2⟩) I'.free ?_ nfr I'.os cx rfl rfl
    obtain ⟨m, hm, _⟩ := I'.loc
    exact ⟨m, hm⟩
  have pe := he s3 H3 C cl fp xb ps
  have pg := hg s3 H3 C cl fp
  obtain ⟨s4, e4⟩ : ∃ s4 : Shared, ({ s3 with heap := pushCells (s3.heap.push { cls := .type "dict", data := .dict #[] }) scope.names } : Shared) = s4 := ⟨_, rfl⟩
  rw [e4] at I4 ⊢
  have st4 : tn 0 s4.heap := T.keep _ _ _ st3 fun b _ o e => by rw [← e4]; exact pushCells_keeps _ _ _ _ (Heap.get?_push_of_some _ e)
  rw [ecl, eC]
  have loose : ∀ {σ' : L2.St} {H' : Hp} {s' : Shared}, Inv Xb [] σ' H' s' → (∀ b ∈ fp, H' b = none) → ∀ b ∈ fp, FpOk Xb [] H' b := fun I' n b hb => ⟨n b hb, (I'.ok.exf b hb).1, I'.ok.exfs b hb, .inl hb, fun x c e => (I'.ok.exf b hb).2 x c e, fun p hp => absurd (show p ∈ ([] : List (Addr × Obj)) ++ [] from hp) (by simp)⟩
  have block : codeAny (model X.prog X.w) X.A (.compLoop (.ListComp elt [⟨tg, iter, [], 0⟩] scope pos) 0 (.ref it) (.ref D) ce) (compEnds (model X.prog X.w) X.A X.xe none (EP X pins σ Q) (.ref D) ce) s4 := by
    refine compLoop_any (fun _ s' => s' = s4) ?_ 0 rfl
    intro n0 s0 e0
    rw [e0]
    refine thnF (T.item Xb rfl rfl rfl hc 0 [] s4 _ H3 (fun _ _ => False) I4 (loose I4 fun b hb => (f3 b hb).1.1) st4 go) fun r s6 ⟨u, hr, h6⟩ => ?_
    subst hr
    refine thnF h6 fun _ s7 ⟨x, H7, I7, r7, y7, st7, n7⟩ => ?_
    refine thnF (pg.run _ s7 _ H7 x u _ (I7.pinned (loose I7 n7) (T.obj _ _ st7)) r7 (step x H7 y7)) fun _ s8 ⟨σ8, H8, I8, q8⟩ => ?_
    refine wpAny_tests_nil ?_
    rw [if_pos rfl]
    refine wpAny_mono (pe.run _ s8 σ8 H8 _ (I8.wish xb) q8) (fun z s9 hz => ?_) fun _ _ y => y
    obtain ⟨_, _, _, _, no⟩ := hz
    exact no.elim
  exact codeAny_compStart_list block (T.self X.A 0 _ _ _ st4 block)
end
end LcR

/-! functions that refuse -/
namespace My
open PySem L2 Cm LM EM
abbrev sES9 : Stmt := inClass (top 4) 0
abbrev sEN9 : Stmt := inClass (top 10) 0
abbrev sEW9 : Stmt := inClass (top 7) 0
abbrev sEC9 : Stmt := inClass (top 5) 0
abbrev sEI9 : Stmt := inClass (top 8) 0
abbrev sCku : Stmt := top 92
abbrev sCkn : Stmt := top 95
abbrev sCke : Stmt := top 106
abbrev sCkc : Stmt := top 44
abbrev sCki : Stmt := top 30
abbrev sAlw : Stmt := top 96
abbrev sFlt : Stmt := top 97
abbrev sCer : Stmt := top 112
abbrev sFtb : Stmt := top 101
abbrev sFut : Stmt := top 100
abbrev sFiU : Stmt := top 110
abbrev sCeU : Stmt := top 113
abbrev sFiD : Stmt := top 48
abbrev sCeC : Stmt := top 114
abbrev sPtb : Stmt := top 102
structure Tx67 (w : World) (K : PySem.W.Frag) (mg : Str → Option Value) where
  N : TxCn K mg
  S : TxSm K mg
  A : TxAm w K mg
  L : TxLr K mg
  eST : S.T = N.E.R.N.T
  eLT : L.T = N.E.R.N.T
  eS9 : TxEr K mg "NotASource" "value" sES9 "NotASource.__init__"
  eN9 : TxEr K mg "InvalidName" "value" sEN9 "InvalidName.__init__"
  eW9 : TxEr K mg "InvalidWord" "value" sEW9 "InvalidWord.__init__"
  eC9 : TxEr K mg "NotAChain" "value" sEC9 "NotAChain.__init__"
  eI9 : TxEr K mg "InvalidItems" "value" sEI9 "InvalidItems.__init__"
  cku : Df K mg "check_source" sCku ["source"]
  ckn : Df K mg "check_name" sCkn ["name"]
  cke : Df K mg "check_end" sCke ["end"]
  ckc : Df K mg "check_chain" sCkc ["chain"]
  cki : Df K mg "check_items" sCki ["items"]
  alw : Df K mg "always" sAlw ["loop", "source", "name"]
  flt : Df K mg "fault" sFlt ["loop", "source", "name"]
  cer : Df K mg "certify" sCer ["loop", "source", "name"]
  ftb : Df K mg "fault_table" sFtb ["loop", "source"]
  fut : Df K mg "fault_text" sFut ["found"]
  fiU : Df K mg "first_unlike" sFiU ["loop", "other_loop", "end"]
  ceU : Df K mg "certify_unlike" sCeU ["loop", "other_loop", "end"]
  fiD : Df K mg "first_difference" sFiD ["chain", "other_chain"]
  ceC : Df K mg "certify_chains" sCeC ["chain", "other_chain"]
  ptb : Df K mg "piece_table" sPtb ["chain", "items"]
  pN : Addr
  gN : mg "NAMES" = some (.ref pN)
  lN : ∀ H, SqT K H pN [.str "whole", .str "filled", .str "even", .str "quiet", .str "ends"]
/-- an instance of the class at C -/
def InC (K : PySem.W.Frag) (C : Addr) (H : Hp) (v : V) : Prop := ∃ t, TyX K H v t ∧ PySem.W.kitOne K t (.ref C) = some true
/-- an error of the class at C with v -/
def Er (C : Addr) (v : V) (H : Hp) (E : XK) : Prop := ∀ d, H d = none → E (.ref C) (some d) (upd H d (.xd [("value", v)]))
def spCk (K : PySem.W.Frag) (C CE : Addr) : Sp := fun vs H Q E => ∃ v : V, vs = [v] ∧ ((NoIn K C H v ∧ Er CE v H E) ∨ (InC K C H v ∧ Q .non H))
/-- not one of these words -/
def noOf (xs : List V) : V → Bool
  | .str x => !inV (.str x) xs
  | _ => true
def wN : List V := [.str "whole", .str "filled", .str "even", .str "quiet", .str "ends"]
def wE : List V := [.str "empty", .str "with", .str "behind"]
section
variable {P : Program} {w : World} {K : PySem.W.Frag} {mg : Str → Option Value} {base : Heap}
theorem scES9 : FnScope ["self", "value"] ["self", "value"] (defScope sES9) := ⟨rfl, rfl, rfl, by decide +kernel, rfl, by decide +kernel, by decide +kernel⟩
theorem ok_eS9 (T : TxEr K mg "NotASource" "value" sES9 "NotASource.__init__") : FnOk P w K mg base CX0 1 T.f T.fd ["self", "value"] (spER "value" T.C) := by
  refine T.F.ok scES9 (fun vs H Q E h => ?_) (fun cdv A outer s H vs Q E hr h => ?_)
  · obtain ⟨a, v, rfl, _⟩ := h
    rfl
  · obtain ⟨a, v, rfl, ha, k⟩ := h
    exact ⟨_, pss_one (ps_ost (pv 0) (pv 1)), _, rfl, _, rfl, a, T.C, rfl, T.o, T.n, .inl ⟨ha, fun dx n ne => k dx n ne⟩⟩
theorem scEN9 : FnScope ["self", "value"] ["self", "value"] (defScope sEN9) := ⟨rfl, rfl, rfl, by decide +kernel, rfl, by decide +kernel, by decide +kernel⟩
theorem ok_eN9 (T : TxEr K mg "InvalidName" "value" sEN9 "InvalidName.__init__") : FnOk P w K mg base CX0 1 T.f T.fd ["self", "value"] (spER "value" T.C) := by
  refine T.F.ok scEN9 (fun vs H Q E h => ?_) (fun cdv A outer s H vs Q E hr h => ?_)
  · obtain ⟨a, v, rfl, _⟩ := h
    rfl
  · obtain ⟨a, v, rfl, ha, k⟩ := h
    exact ⟨_, pss_one (ps_ost (pv 0) (pv 1)), _, rfl, _, rfl, a, T.C, rfl, T.o, T.n, .inl ⟨ha, fun dx n ne => k dx n ne⟩⟩
theorem scEW9 : FnScope ["self", "value"] ["self", "value"] (defScope sEW9) := ⟨rfl, rfl, rfl, by decide +kernel, rfl, by decide +kernel, by decide +kernel⟩
theorem ok_eW9 (T : TxEr K mg "InvalidWord" "value" sEW9 "InvalidWord.__init__") : FnOk P w K mg base CX0 1 T.f T.fd ["self", "value"] (spER "value" T.C) := by
  refine T.F.ok scEW9 (fun vs H Q E h => ?_) (fun cdv A outer s H vs Q E hr h => ?_)
  · obtain ⟨a, v, rfl, _⟩ := h
    rfl
  · obtain ⟨a, v, rfl, ha, k⟩ := h
    exact ⟨_, pss_one (ps_ost (pv 0) (pv 1)), _, rfl, _, rfl, a, T.C, rfl, T.o, T.n, .inl ⟨ha, fun dx n ne => k dx n ne⟩⟩
theorem scEC9 : FnScope ["self", "value"] ["self", "value"] (defScope sEC9) := ⟨rfl, rfl, rfl, by decide +kernel, rfl, by decide +kernel, by decide +kernel⟩
theorem ok_eC9 (T : TxEr K mg "NotAChain" "value" sEC9 "NotAChain.__init__") : FnOk P w K mg base CX0 1 T.f T.fd ["self", "value"] (spER "value" T.C) := by
  refine T.F.ok scEC9 (fun vs H Q E h => ?_) (fun cdv A outer s H vs Q E hr h => ?_)
  · obtain ⟨a, v, rfl, _⟩ := h
    rfl
  · obtain ⟨a, v, rfl, ha, k⟩ := h
    exact ⟨_, pss_one (ps_ost (pv 0) (pv 1)), _, rfl, _, rfl, a, T.C, rfl, T.o, T.n, .inl ⟨ha, fun dx n ne => k dx n ne⟩⟩
theorem scEI9 : FnScope ["self", "value"] ["self", "value"] (defScope sEI9) := ⟨rfl, rfl, rfl, by decide +kernel, rfl, by decide +kernel, by decide +kernel⟩
theorem ok_eI9 (T : TxEr K mg "InvalidItems" "value" sEI9 "InvalidItems.__init__") : FnOk P w K mg base CX0 1 T.f T.fd ["self", "value"] (spER "value" T.C) := by
  refine T.F.ok scEI9 (fun vs H Q E h => ?_) (fun cdv A outer s H vs Q E hr h => ?_)
  · obtain ⟨a, v, rfl, _⟩ := h
    rfl
  · obtain ⟨a, v, rfl, ha, k⟩ := h
    exact ⟨_, pss_one (ps_ost (pv 0) (pv 1)), _, rfl, _, rfl, a, T.C, rfl, T.o, T.n, .inl ⟨ha, fun dx n ne => k dx n ne⟩⟩
theorem scCkL : FnScope ["loop"] ["loop"] (defScope sCKL) := ⟨rfl, rfl, rfl, by decide +kernel, rfl, by decide +kernel, by decide +kernel⟩
theorem ok_CkL (T : Tx67 w K mg) : FnOk P w K mg base (L2.CX P w) 3 T.N.E.R.ckl.f T.N.E.R.ckl.fd ["loop"] (spCk K T.N.E.R.N.T.C T.N.E.eL.C) := by
  have GE : FnOk P w K mg base CX0 1 T.N.E.eL.f T.N.E.eL.fd ["self", "value"] (spER "value" T.N.E.eL.C) := ok_eL T.N.E.eL
  refine T.N.E.R.ckl.F.okX scCkL (fun vs H Q E h => ?_) (fun cdv A outer s H vs Q E hr h => ?_)
  · obtain ⟨v, rfl, _⟩ := h
    rfl
  · obtain ⟨v, rfl, h⟩ := h
    refine ⟨_, (pss_one (ps_if (pt_not (pt_val (pe_callB call_isi (by rfl) T.N.E.R.N.k.isi (by decide +kernel) (pa_cons (pv 0) (pa_cons (pe_glob (v := .ref T.N.E.R.N.T.C) rfl T.N.E.R.N.T.gC rfl) pa_nil))))) (pss_one (ps_raise rfl (takes_of rfl rfl rfl rfl) (pmk_oex T.N.E.eL.o T.N.E.eL.i T.N.E.eL.t GE hr T.N.E.eL.b .nil pass0 rfl T.N.E.eL.g (pa_cons (pv 0) pa_nil)))) pss_nil)), ?_⟩
    rcases h with ⟨⟨t, ty, kt⟩, k⟩ | ⟨⟨t, ty, kt⟩, k⟩
    · exact ⟨_, rfl, _, _, _, _, false, rfl, .own T.N.E.R.N.T.C, ty, kt, false, rfl, iteT (mk_er (x := v) ⟨v, rfl, rfl, rfl⟩ (fun {R R'} ⟨v, e1, q⟩ f => ⟨v, e1, f _ _ q⟩) k)⟩
    · exact ⟨_, rfl, _, _, _, _, true, rfl, .own T.N.E.R.N.T.C, ty, kt, true, rfl, iteF k⟩
theorem scCku : FnScope ["source"] ["source"] (defScope sCku) := ⟨rfl, rfl, rfl, by decide +kernel, rfl, by decide +kernel, by decide +kernel⟩
theorem ok_Cku (T : Tx67 w K mg) : FnOk P w K mg base (L2.CX P w) 3 T.cku.f T.cku.fd ["source"] (spCk K T.S.U.C T.eS9.C) := by
  have GE : FnOk P w K mg base CX0 1 T.eS9.f T.eS9.fd ["self", "value"] (spER "value" T.eS9.C) := ok_eS9 T.eS9
  refine T.cku.F.okX scCku (fun vs H Q E h => ?_) (fun cdv A outer s H vs Q E hr h => ?_)
  · obtain ⟨v, rfl, _⟩ := h
    rfl
  · obtain ⟨v, rfl, h⟩ := h
    refine ⟨_, (pss_one (ps_if (pt_not (pt_val (pe_callB call_isi (by rfl) T.N.E.R.N.k.isi (by decide +kernel) (pa_cons (pv 0) (pa_cons (pe_glob (v := .ref T.S.U.C) rfl T.S.U.gC rfl) pa_nil))))) (pss_one (ps_raise rfl (takes_of rfl rfl rfl rfl) (pmk_oex T.eS9.o T.eS9.i T.eS9.t GE hr T.eS9.b .nil pass0 rfl T.eS9.g (pa_cons (pv 0) pa_nil)))) pss_nil)), ?_⟩
    rcases h with ⟨⟨t, ty, kt⟩, k⟩ | ⟨⟨t, ty, kt⟩, k⟩
    · exact ⟨_, rfl, _, _, _, _, false, rfl, .own T.S.U.C, ty, kt, false, rfl, iteT (mk_er (x := v) ⟨v, rfl, rfl, rfl⟩ (fun {R R'} ⟨v, e1, q⟩ f => ⟨v, e1, f _ _ q⟩) k)⟩
    · exact ⟨_, rfl, _, _, _, _, true, rfl, .own T.S.U.C, ty, kt, true, rfl, iteF k⟩
theorem scCkc : FnScope ["chain"] ["chain"] (defScope sCkc) := ⟨rfl, rfl, rfl, by decide +kernel, rfl, by decide +kernel, by decide +kernel⟩
theorem ok_Ckc (T : Tx67 w K mg) : FnOk P w K mg base (L2.CX P w) 3 T.ckc.f T.ckc.fd ["chain"] (spCk K T.A.T.C T.eC9.C) := by
  have GE : FnOk P w K mg base CX0 1 T.eC9.f T.eC9.fd ["self", "value"] (spER "value" T.eC9.C) := ok_eC9 T.eC9
  refine T.ckc.F.okX scCkc (fun vs H Q E h => ?_) (fun cdv A outer s H vs Q E hr h => ?_)
  · obtain ⟨v, rfl, _⟩ := h
    rfl
  · obtain ⟨v, rfl, h⟩ := h
    refine ⟨_, (pss_one (ps_if (pt_not (pt_val (pe_callB call_isi (by rfl) T.N.E.R.N.k.isi (by decide +kernel) (pa_cons (pv 0) (pa_cons (pe_glob (v := .ref T.A.T.C) rfl T.A.T.gC rfl) pa_nil))))) (pss_one (ps_raise rfl (takes_of rfl rfl rfl rfl) (pmk_oex T.eC9.o T.eC9.i T.eC9.t GE hr T.eC9.b .nil pass0 rfl T.eC9.g (pa_cons (pv 0) pa_nil)))) pss_nil)), ?_⟩
    rcases h with ⟨⟨t, ty, kt⟩, k⟩ | ⟨⟨t, ty, kt⟩, k⟩
    · exact ⟨_, rfl, _, _, _, _, false, rfl, .own T.A.T.C, ty, kt, false, rfl, iteT (mk_er (x := v) ⟨v, rfl, rfl, rfl⟩ (fun {R R'} ⟨v, e1, q⟩ f => ⟨v, e1, f _ _ q⟩) k)⟩
    · exact ⟨_, rfl, _, _, _, _, true, rfl, .own T.A.T.C, ty, kt, true, rfl, iteF k⟩
def spCki (K : PySem.W.Frag) (CE : Addr) : Sp := fun vs H _ E => ∃ v : V, vs = [v] ∧ TypedI K H v ∧ btw 0 1000 v = false ∧ Er CE v H E
theorem scCki : FnScope ["items"] ["items"] (defScope sCki) := ⟨rfl, rfl, rfl, by decide +kernel, rfl, by decide +kernel, by decide +kernel⟩
theorem ok_cki (T : Tx67 w K mg) : FnOk P w K mg base (L2.CX P w) 3 T.cki.f T.cki.fd ["items"] (spCki K T.eI9.C) := by
  have GI : FnOk P w K mg base CX0 1 T.N.E.R.N.k.iib.f T.N.E.R.N.k.iib.fd ["value", "low", "high"] (spIIB K) := ok_iib T.N.E.R.N.k
  have GE : FnOk P w K mg base CX0 1 T.eI9.f T.eI9.fd ["self", "value"] (spER "value" T.eI9.C) := ok_eI9 T.eI9
  obtain ⟨tm, mi⟩ := T.N.E.R.N.k.mi
  refine T.cki.F.okX scCki (fun vs H Q E h => ?_) (fun cdv A outer s H vs Q E hr h => ?_)
  · obtain ⟨v, rfl, _⟩ := h
    rfl
  · obtain ⟨v, rfl, ty, hb, k⟩ := h
    have hr1 : Room 1 _ := hr.mono (by decide)
    refine ⟨_, (pss_one (ps_if (pt_not (pt_val (pe_call GI hr1 rfl T.N.E.R.N.k.iib.g T.N.E.R.N.k.iib.k T.N.E.R.N.k.iib.b .nil pass0 (pa_cons (pv 0) (pa_cons pe_int (pa_cons (pe_glob (v := .int 1000) rfl mi ⟨_, rfl⟩) pa_nil)))))) (pss_one (ps_raise rfl (takes_of rfl rfl rfl rfl) (pmk_oex T.eI9.o T.eI9.i T.eI9.t GE hr T.eI9.b .nil pass0 rfl T.eI9.g (pa_cons (pv 0) pa_nil)))) pss_nil)), ?_⟩
    refine ⟨_, rfl, _, 0, 1000, rfl, ty, _, rfl, ?_⟩
    rw [hb]
    exact iteT (mk_er (x := v) ⟨v, rfl, rfl, rfl⟩ (fun {R R'} ⟨v, e1, q⟩ f => ⟨v, e1, f _ _ q⟩) k)
def spCkn (T : Tx67 w K mg) : Sp := fun vs H _ E => ∃ v : V, vs = [v] ∧ Typed K H v ∧ noOf wN v = true ∧ Er T.eN9.C v H E
theorem scCkn : FnScope ["name"] ["name"] (defScope sCkn) := ⟨rfl, rfl, rfl, by decide +kernel, rfl, by decide +kernel, by decide +kernel⟩
theorem ok_ckn (T : Tx67 w K mg) : FnOk P w K mg base (L2.CX P w) 3 T.ckn.f T.ckn.fd ["name"] (spCkn T) := by
  have GE : FnOk P w K mg base CX0 1 T.eN9.f T.eN9.fd ["self", "value"] (spER "value" T.eN9.C) := ok_eN9 T.eN9
  refine T.ckn.F.okX scCkn (fun vs H Q E h => ?_) (fun cdv A outer s H vs Q E hr h => ?_)
  · obtain ⟨v, rfl, _⟩ := h
    rfl
  · obtain ⟨v, rfl, ⟨t, ty, kt⟩, nn, k⟩ := h
    refine ⟨_, pss_one (ps_if (PW.pt (pw_or (pt_not (pt_val (pe_callB call_isi (by rfl) T.S.U.isi (by decide +kernel) (pa_cons (pv 0) (pa_cons (pe_bltn (v := .ty "str") (by rfl) T.S.U.str (by decide +kernel) rfl) pa_nil)))))
          (pw_or1 (pt_cmpR op_notIn_seq (pv 0) (pe_glob (v := .ref T.pN) rfl T.gN rfl) (by rfl))))) (pss_one (ps_raise rfl (takes_of rfl rfl rfl rfl) (pmk_oex T.eN9.o T.eN9.i T.eN9.t GE hr T.eN9.b .nil pass0 rfl T.eN9.g (pa_cons (pv 0) pa_nil)))) pss_nil), ?_⟩
    have fin := mk_er (CE := T.eN9.C) (ta := tCons (tVar 0) tNil) (σ := L2.start ["name"] [v]) (H := H) (Q := E) (x := v) ⟨v, rfl, rfl, rfl⟩ (fun {R R'} ⟨v, e1, q⟩ f => ⟨v, e1, f _ _ q⟩) k
    refine ⟨_, rfl, _, _, _, _, isS v, rfl, .ty "str", ty, kt, _, rfl, ?_⟩
    cases hs : isS v with
    | false => exact iteT (iteT fin)
    | true =>
      refine iteF ?_
      obtain ⟨x, rfl⟩ : ∃ x, v = .str x := by
        cases v <;> first | exact ⟨_, rfl⟩ | cases hs
      refine ⟨_, rfl, T.pN, _, rfl, .inr (T.lN _), rfl, rfl, _, rfl, ?_⟩
      have e : inV (.str x) [.str "whole", .str "filled", .str "even", .str "quiet", .str "ends"] = false := by
        have : (!inV (.str x) [.str "whole", .str "filled", .str "even", .str "quiet", .str "ends"]) = true := nn
        simpa using this
      rw [e]
      exact iteT fin
def spCkwE (T : Tx67 w K mg) : Sp := fun vs H _ E => ∃ v : V, vs = [v, .ref T.S.U.pE] ∧ Typed K H v ∧ noOf wE v = true ∧ Er T.eW9.C v H E
theorem ok_ckwE (T : Tx67 w K mg) : FnOk P w K mg base (L2.CX P w) 3 T.S.U.ckw.f T.S.U.ckw.fd ["word", "words"] (spCkwE T) := by
  have GE : FnOk P w K mg base CX0 1 T.eW9.f T.eW9.fd ["self", "value"] (spER "value" T.eW9.C) := ok_eW9 T.eW9
  refine T.S.U.ckw.F.okX scQW (fun vs H Q E h => ?_) (fun cdv A outer s H vs Q E hr h => ?_)
  · obtain ⟨v, rfl, _⟩ := h
    rfl
  · obtain ⟨v, rfl, ⟨t, ty, kt⟩, nn, k⟩ := h
    refine ⟨_, pss_one (ps_if (PW.pt (pw_or (pt_not (pt_val (pe_callB call_isi (by rfl) T.S.U.isi (by decide +kernel) (pa_cons (pv 0) (pa_cons (pe_bltn (v := .ty "str") (by rfl) T.S.U.str (by decide +kernel) rfl) pa_nil)))))
          (pw_or1 (pt_cmpR op_notIn_seq (pv 0) (pv 1) (by rfl))))) (pss_one (ps_raise rfl (takes_of rfl rfl rfl rfl) (pmk_oex T.eW9.o T.eW9.i T.eW9.t GE hr T.eW9.b .nil pass0 rfl T.eW9.g (pa_cons (pv 0) pa_nil)))) pss_nil), ?_⟩
    have fin := mk_er (CE := T.eW9.C) (ta := tCons (tVar 0) tNil) (σ := L2.start ["word", "words"] [v, .ref T.S.U.pE]) (H := H) (Q := E) (x := v) ⟨v, rfl, rfl, rfl⟩ (fun {R R'} ⟨v, e1, q⟩ f => ⟨v, e1, f _ _ q⟩) k
    refine ⟨_, rfl, _, _, _, _, isS v, rfl, .ty "str", ty, kt, _, rfl, ?_⟩
    cases hs : isS v with
    | false => exact iteT (iteT fin)
    | true =>
      refine iteF ?_
      obtain ⟨x, rfl⟩ : ∃ x, v = .str x := by
        cases v <;> first | exact ⟨_, rfl⟩ | cases hs
      refine ⟨_, rfl, _, rfl, T.S.U.pE, _, rfl, .inr (T.S.U.lE _), rfl, rfl, _, rfl, ?_⟩
      have e : inV (.str x) [.str "empty", .str "with", .str "behind"] = false := by
        have : (!inV (.str x) [.str "empty", .str "with", .str "behind"]) = true := nn
        simpa using this
      rw [e]
      exact iteT fin
def spCkeE (T : Tx67 w K mg) : Sp := fun vs H _ E => ∃ v : V, vs = [v] ∧ Typed K H v ∧ noOf wE v = true ∧ Er T.eW9.C v H E
theorem scCke : FnScope ["end"] ["end"] (defScope sCke) := ⟨rfl, rfl, rfl, by decide +kernel, rfl, by decide +kernel, by decide +kernel⟩
theorem ok_ckeE (T : Tx67 w K mg) : FnOk P w K mg base (L2.CX P w) 4 T.cke.f T.cke.fd ["end"] (spCkeE T) := by
  have G1 : FnOk P w K mg base (L2.CX P w) 3 T.S.U.ckw.f T.S.U.ckw.fd ["word", "words"] (spCkwE T) := ok_ckwE T
  refine T.cke.F.okX scCke (fun vs H Q E h => ?_) (fun cdv A outer s H vs Q E hr h => ?_)
  · obtain ⟨v, rfl, _⟩ := h
    rfl
  · obtain ⟨v, rfl, ty, nn, k⟩ := h
    exact ⟨_, (pss_one (ps_expr (pe_call (E := E) G1 hr rfl T.S.U.ckw.g T.S.U.ckw.k T.S.U.ckw.b .nil (passes_call (takes_of rfl rfl rfl rfl) fun _ _ _ _ z => z) (pa_cons (pv 0) (pa_cons (pe_glob (v := .ref T.S.U.pE) rfl T.S.U.gE rfl) pa_nil))))), _, rfl, v, rfl, ty, nn, k⟩
theorem pss_dead' {X : Cx} {ss : List Stmt} : PSs X ss (fun _ _ _ => False) := ⟨fun _ _ _ _ _ _ z => z.elim⟩
/-! ### what is wrong with the arguments -/
abbrev cL (T : Tx67 w K mg) : Addr := T.N.E.R.N.T.C
abbrev eLo (T : Tx67 w K mg) : Addr := T.N.E.eL.C
/-- v is refused by a check of the class at C, or it passes and the rest holds -/
def BadC (K : PySem.W.Frag) (C CE : Addr) (v : V) (H : Hp) (E : XK) (more : Prop) : Prop := (NoIn K C H v ∧ Er CE v H E) ∨ (InC K C H v ∧ more)
def sp3 (T : Tx67 w K mg) : Sp := fun vs H _ E => ∃ l u n : V, vs = [l, u, n] ∧ BadC K (cL T) (eLo T) l H E (BadC K T.S.U.C T.eS9.C u H E (Typed K H n ∧ noOf wN n = true ∧ Er T.eN9.C n H E))
def sp2 (T : Tx67 w K mg) : Sp := fun vs H _ E => ∃ l u : V, vs = [l, u] ∧ BadC K (cL T) (eLo T) l H E (NoIn K T.S.U.C H u ∧ Er T.eS9.C u H E)
def spUn (T : Tx67 w K mg) : Sp := fun vs H _ E => ∃ l m e : V, vs = [l, m, e] ∧ BadC K (cL T) (eLo T) l H E (BadC K (cL T) (eLo T) m H E (Typed K H e ∧ noOf wE e = true ∧ Er T.eW9.C e H E))
def spCc (T : Tx67 w K mg) : Sp := fun vs H _ E => ∃ c d : V, vs = [c, d] ∧ BadC K T.A.T.C T.eC9.C c H E (NoIn K T.A.T.C H d ∧ Er T.eC9.C d H E)
def spPt (T : Tx67 w K mg) : Sp := fun vs H _ E => ∃ c n : V, vs = [c, n] ∧ BadC K T.A.T.C T.eC9.C c H E (TypedI K H n ∧ btw 0 1000 n = false ∧ Er T.eI9.C n H E)
theorem scAlw : FnScope ["loop", "source", "name"] ["loop", "source", "name"] (defScope sAlw) := ⟨rfl, rfl, rfl, by decide +kernel, rfl, by decide +kernel, by decide +kernel⟩
theorem ok_alw (T : Tx67 w K mg) : FnOk P w K mg base (L2.CX P w) 4 T.alw.f T.alw.fd ["loop", "source", "name"] (sp3 T) := by
  have GL : FnOk P w K mg base (L2.CX P w) 3 T.N.E.R.ckl.f T.N.E.R.ckl.fd ["loop"] (spCk K (cL T) (eLo T)) := ok_CkL T
  have GU : FnOk P w K mg base (L2.CX P w) 3 T.cku.f T.cku.fd ["source"] (spCk K T.S.U.C T.eS9.C) := ok_Cku T
  have GN : FnOk P w K mg base (L2.CX P w) 3 T.ckn.f T.ckn.fd ["name"] (spCkn T) := ok_ckn T
  refine T.alw.F.okX scAlw (fun vs H Q E h => ?_) (fun cdv A outer s H vs Q E hr h => ?_)
  · obtain ⟨l, u, n, rfl, _⟩ := h
    rfl
  · obtain ⟨l, u, n, rfl, h⟩ := h
    have hr3 : Room 3 _ := hr.mono (by decide)
    have hr4 : Room 3 _ := hr.mono (by decide)
    refine ⟨_, (pss_cons (ps_expr (pe_call (E := E) GL hr3 rfl T.N.E.R.ckl.g T.N.E.R.ckl.k T.N.E.R.ckl.b .nil (passes_call (takes_of rfl rfl rfl rfl) fun _ _ _ _ z => z) (pa_cons (pv 0) pa_nil))) (pss_cons (ps_expr (pe_call (E := E) GU hr3 rfl T.cku.g T.cku.k T.cku.b .nil (passes_call (takes_of rfl rfl rfl rfl) fun _ _ _ _ z => z) (pa_cons (pv 1) pa_nil))) (pss_cons (ps_expr (pe_call (E := E) GN hr3 rfl T.ckn.g T.ckn.k T.ckn.b .nil (passes_call (takes_of rfl rfl rfl rfl) fun _ _ _ _ z => z) (pa_cons (pv 2) pa_nil))) pss_dead'))), ?_⟩
    rcases h with ⟨a, k⟩ | ⟨i1, h⟩
    · exact ⟨_, rfl, l, rfl, .inl ⟨a, k⟩⟩
    refine ⟨_, rfl, l, rfl, .inr ⟨i1, ?_⟩⟩
    rcases h with ⟨a, k⟩ | ⟨i2, h⟩
    · exact ⟨_, rfl, u, rfl, .inl ⟨a, k⟩⟩
    refine ⟨_, rfl, u, rfl, .inr ⟨i2, ?_⟩⟩
    exact ⟨_, rfl, n, rfl, h⟩
theorem scFiU : FnScope ["loop", "other_loop", "end", "items", "size"] ["loop", "other_loop", "end"] (defScope sFiU) := ⟨rfl, rfl, rfl, by decide +kernel, rfl, by decide +kernel, by decide +kernel⟩
theorem ok_fiU (T : Tx67 w K mg) : FnOk P w K mg base (L2.CX P w) 5 T.fiU.f T.fiU.fd ["loop", "other_loop", "end"] (spUn T) := by
  have GL : FnOk P w K mg base (L2.CX P w) 3 T.N.E.R.ckl.f T.N.E.R.ckl.fd ["loop"] (spCk K (cL T) (eLo T)) := ok_CkL T
  have GE : FnOk P w K mg base (L2.CX P w) 4 T.cke.f T.cke.fd ["end"] (spCkeE T) := ok_ckeE T
  refine T.fiU.F.okX scFiU (fun vs H Q E h => ?_) (fun cdv A outer s H vs Q E hr h => ?_)
  · obtain ⟨l, u, n, rfl, _⟩ := h
    rfl
  · obtain ⟨l, u, n, rfl, h⟩ := h
    have hr3 : Room 3 _ := hr.mono (by decide)
    have hr4 : Room 4 _ := hr.mono (by decide)
    refine ⟨_, (pss_cons (ps_expr (pe_call (E := E) GL hr3 rfl T.N.E.R.ckl.g T.N.E.R.ckl.k T.N.E.R.ckl.b .nil (passes_call (takes_of rfl rfl rfl rfl) fun _ _ _ _ z => z) (pa_cons (pv 0) pa_nil))) (pss_cons (ps_expr (pe_call (E := E) GL hr3 rfl T.N.E.R.ckl.g T.N.E.R.ckl.k T.N.E.R.ckl.b .nil (passes_call (takes_of rfl rfl rfl rfl) fun _ _ _ _ z => z) (pa_cons (pv 1) pa_nil))) (pss_cons (ps_expr (pe_call (E := E) GE hr4 rfl T.cke.g T.cke.k T.cke.b .nil (passes_call (takes_of rfl rfl rfl rfl) fun _ _ _ _ z => z) (pa_cons (pv 2) pa_nil))) pss_dead'))), ?_⟩
    rcases h with ⟨a, k⟩ | ⟨i1, h⟩
    · exact ⟨_, rfl, l, rfl, .inl ⟨a, k⟩⟩
    refine ⟨_, rfl, l, rfl, .inr ⟨i1, ?_⟩⟩
    rcases h with ⟨a, k⟩ | ⟨i2, h⟩
    · exact ⟨_, rfl, u, rfl, .inl ⟨a, k⟩⟩
    refine ⟨_, rfl, u, rfl, .inr ⟨i2, ?_⟩⟩
    exact ⟨_, rfl, n, rfl, h⟩
theorem scFiD : FnScope ["chain", "other_chain", "items"] ["chain", "other_chain"] (defScope sFiD) := ⟨rfl, rfl, rfl, by decide +kernel, rfl, by decide +kernel, by decide +kernel⟩
theorem ok_fiD (T : Tx67 w K mg) : FnOk P w K mg base (L2.CX P w) 4 T.fiD.f T.fiD.fd ["chain", "other_chain"] (spCc T) := by
  have GC : FnOk P w K mg base (L2.CX P w) 3 T.ckc.f T.ckc.fd ["chain"] (spCk K T.A.T.C T.eC9.C) := ok_Ckc T
  refine T.fiD.F.okX scFiD (fun vs H Q E h => ?_) (fun cdv A outer s H vs Q E hr h => ?_)
  · obtain ⟨l, u, rfl, _⟩ := h
    rfl
  · obtain ⟨l, u, rfl, h⟩ := h
    have hr3 : Room 3 _ := hr.mono (by decide)
    have hr4 : Room 3 _ := hr.mono (by decide)
    refine ⟨_, (pss_cons (ps_expr (pe_call (E := E) GC hr3 rfl T.ckc.g T.ckc.k T.ckc.b .nil (passes_call (takes_of rfl rfl rfl rfl) fun _ _ _ _ z => z) (pa_cons (pv 0) pa_nil))) (pss_cons (ps_expr (pe_call (E := E) GC hr3 rfl T.ckc.g T.ckc.k T.ckc.b .nil (passes_call (takes_of rfl rfl rfl rfl) fun _ _ _ _ z => z) (pa_cons (pv 1) pa_nil))) pss_dead')), ?_⟩
    rcases h with ⟨a, k⟩ | ⟨i1, h⟩
    · exact ⟨_, rfl, l, rfl, .inl ⟨a, k⟩⟩
    refine ⟨_, rfl, l, rfl, .inr ⟨i1, ?_⟩⟩
    exact ⟨_, rfl, u, rfl, .inl h⟩
theorem scPtb : FnScope ["chain", "items", "lines", "first", "size"] ["chain", "items"] (defScope sPtb) := ⟨rfl, rfl, rfl, by decide +kernel, rfl, by decide +kernel, by decide +kernel⟩
theorem ok_ptb (T : Tx67 w K mg) : FnOk P w K mg base (L2.CX P w) 4 T.ptb.f T.ptb.fd ["chain", "items"] (spPt T) := by
  have GC : FnOk P w K mg base (L2.CX P w) 3 T.ckc.f T.ckc.fd ["chain"] (spCk K T.A.T.C T.eC9.C) := ok_Ckc T
  have GI : FnOk P w K mg base (L2.CX P w) 3 T.cki.f T.cki.fd ["items"] (spCki K T.eI9.C) := ok_cki T
  refine T.ptb.F.okX scPtb (fun vs H Q E h => ?_) (fun cdv A outer s H vs Q E hr h => ?_)
  · obtain ⟨l, u, rfl, _⟩ := h
    rfl
  · obtain ⟨l, u, rfl, h⟩ := h
    have hr3 : Room 3 _ := hr.mono (by decide)
    have hr4 : Room 3 _ := hr.mono (by decide)
    refine ⟨_, (pss_cons (ps_expr (pe_call (E := E) GC hr3 rfl T.ckc.g T.ckc.k T.ckc.b .nil (passes_call (takes_of rfl rfl rfl rfl) fun _ _ _ _ z => z) (pa_cons (pv 0) pa_nil))) (pss_cons (ps_expr (pe_call (E := E) GI hr3 rfl T.cki.g T.cki.k T.cki.b .nil (passes_call (takes_of rfl rfl rfl rfl) fun _ _ _ _ z => z) (pa_cons (pv 1) pa_nil))) pss_dead')), ?_⟩
    rcases h with ⟨a, k⟩ | ⟨i1, h⟩
    · exact ⟨_, rfl, l, rfl, .inl ⟨a, k⟩⟩
    refine ⟨_, rfl, l, rfl, .inr ⟨i1, ?_⟩⟩
    exact ⟨_, rfl, u, rfl, h⟩
theorem scFlt : FnScope ["loop", "source", "name"] ["loop", "source", "name"] (defScope sFlt) := ⟨rfl, rfl, rfl, by decide +kernel, rfl, by decide +kernel, by decide +kernel⟩
theorem ok_flt (T : Tx67 w K mg) : FnOk P w K mg base (L2.CX P w) 5 T.flt.f T.flt.fd ["loop", "source", "name"] (sp3 T) := by
  have G1 : FnOk P w K mg base (L2.CX P w) 4 T.alw.f T.alw.fd ["loop", "source", "name"] (sp3 T) := ok_alw T
  refine T.flt.F.okX scFlt (fun vs H Q E h => ?_) (fun cdv A outer s H vs Q E hr h => ?_)
  · obtain ⟨l, u, n, rfl, _⟩ := h
    rfl
  · obtain ⟨l, u, n, rfl, h⟩ := h
    exact ⟨_, (pss_cons (ps_if (pt_val (pe_call (E := E) G1 hr rfl T.alw.g T.alw.k T.alw.b .nil (passes_call (takes_of rfl rfl rfl rfl) fun _ _ _ _ z => z) (pa_cons (pv 0) (pa_cons (pv 1) (pa_cons (pv 2) pa_nil))))) pss_dead' pss_nil) pss_dead'), _, rfl, _, rfl, _, rfl, l, u, n, rfl, h⟩
theorem scCer : FnScope ["loop", "source", "name", "found"] ["loop", "source", "name"] (defScope sCer) := ⟨rfl, rfl, rfl, by decide +kernel, rfl, by decide +kernel, by decide +kernel⟩
theorem ok_cer (T : Tx67 w K mg) : FnOk P w K mg base (L2.CX P w) 6 T.cer.f T.cer.fd ["loop", "source", "name"] (sp3 T) := by
  have G1 : FnOk P w K mg base (L2.CX P w) 5 T.flt.f T.flt.fd ["loop", "source", "name"] (sp3 T) := ok_flt T
  refine T.cer.F.okX scCer (fun vs H Q E h => ?_) (fun cdv A outer s H vs Q E hr h => ?_)
  · obtain ⟨l, u, n, rfl, _⟩ := h
    rfl
  · obtain ⟨l, u, n, rfl, h⟩ := h
    exact ⟨_, (pss_cons (ps_set (i := 3) scCer.nd rfl (.inl rfl) (pe_call (E := E) G1 hr rfl T.flt.g T.flt.k T.flt.b .nil (passes_call (takes_of rfl rfl rfl rfl) fun _ _ _ _ z => z) (pa_cons (pv 0) (pa_cons (pv 1) (pa_cons (pv 2) pa_nil))))) pss_dead'), _, rfl, _, rfl, _, rfl, l, u, n, rfl, h⟩
theorem scCeU : FnScope ["loop", "other_loop", "end", "found"] ["loop", "other_loop", "end"] (defScope sCeU) := ⟨rfl, rfl, rfl, by decide +kernel, rfl, by decide +kernel, by decide +kernel⟩
theorem ok_ceU (T : Tx67 w K mg) : FnOk P w K mg base (L2.CX P w) 6 T.ceU.f T.ceU.fd ["loop", "other_loop", "end"] (spUn T) := by
  have G1 : FnOk P w K mg base (L2.CX P w) 5 T.fiU.f T.fiU.fd ["loop", "other_loop", "end"] (spUn T) := ok_fiU T
  refine T.ceU.F.okX scCeU (fun vs H Q E h => ?_) (fun cdv A outer s H vs Q E hr h => ?_)
  · obtain ⟨l, u, n, rfl, _⟩ := h
    rfl
  · obtain ⟨l, u, n, rfl, h⟩ := h
    exact ⟨_, (pss_cons (ps_set (i := 3) scCeU.nd rfl (.inl rfl) (pe_call (E := E) G1 hr rfl T.fiU.g T.fiU.k T.fiU.b .nil (passes_call (takes_of rfl rfl rfl rfl) fun _ _ _ _ z => z) (pa_cons (pv 0) (pa_cons (pv 1) (pa_cons (pv 2) pa_nil))))) pss_dead'), _, rfl, _, rfl, _, rfl, l, u, n, rfl, h⟩
theorem scCeC : FnScope ["chain", "other_chain", "found"] ["chain", "other_chain"] (defScope sCeC) := ⟨rfl, rfl, rfl, by decide +kernel, rfl, by decide +kernel, by decide +kernel⟩
theorem ok_ceC (T : Tx67 w K mg) : FnOk P w K mg base (L2.CX P w) 5 T.ceC.f T.ceC.fd ["chain", "other_chain"] (spCc T) := by
  have G1 : FnOk P w K mg base (L2.CX P w) 4 T.fiD.f T.fiD.fd ["chain", "other_chain"] (spCc T) := ok_fiD T
  refine T.ceC.F.okX scCeC (fun vs H Q E h => ?_) (fun cdv A outer s H vs Q E hr h => ?_)
  · obtain ⟨l, u, rfl, _⟩ := h
    rfl
  · obtain ⟨l, u, rfl, h⟩ := h
    exact ⟨_, (pss_cons (ps_set (i := 2) scCeC.nd rfl (.inl rfl) (pe_call (E := E) G1 hr rfl T.fiD.g T.fiD.k T.fiD.b .nil (passes_call (takes_of rfl rfl rfl rfl) fun _ _ _ _ z => z) (pa_cons (pv 0) (pa_cons (pv 1) pa_nil)))) pss_dead'), _, rfl, _, rfl, l, u, rfl, h⟩
end
end My

/-! consoles: Console.__init__ -/
namespace My
open PySem L2 Cm LM EM SkT
section
variable {K : PySem.W.Frag} {mg : Str → Option Value}
theorem RdAt.mono {T : TxRd K mg} {H H' : Hp} {lv dx lo m : Addr} {sz : Nat} {t : Str} {rr : List (Nat × Bool)} (f : ∀ (p : Addr) (xs : List V), H p = some (.tup xs) → H' p = some (.tup xs)) (f1 : ∀ (p C d : Addr) (fs : List (Str × V)), 2 ≤ fs.length → p ≠ lv → H p = some (.ins C d fs) → H' p = some (.ins C d fs)) (f2 : H' lv = some (.ins T.CR dx (rf lo sz false m))) (h : RdAt T H lv dx lo m sz t rr) : RdAt T H' lv dx lo m sz t rr := by
  have nl : ∀ {p C d : Addr} {fs : List (Str × V)}, fs.length = 5 → H p = some (.ins C d fs) → p ≠ lv := fun l e => ne_of e h.at_ fun z => by
    have := (HO.ins.inj z).2.2
    rw [this] at l
    cases l
  obtain ⟨dx1, pr, pe, po, pq, e1, e2, e3, e4, e5⟩ := h.lo
  exact ⟨f2, ⟨dx1, pr, pe, po, pq, f1 _ _ _ _ (show 2 ≤ 5 by decide) (nl rfl e1) e1, f _ _ e2, f _ _ e3, e4.mono f, e5.mono f⟩, h.mo.mono f fun p dm b g h k ov e => f1 _ _ _ _ (show 2 ≤ 5 by decide) (nl rfl e) e⟩
/-- all but the reading and the tables is as it was -/
def KeepL (lv : Addr) (H H' : Hp) : Prop := ∀ b o, b ≠ lv → (∀ ps, o ≠ .tbl ps) → H b = some o → H' b = some o
theorem KeepL.ext {lv : Addr} {H H1 H2 : Hp} (a : LamX.ExtN H H1) (b : KeepL lv H1 H2) : KeepL lv H H2 := fun c o n t e => b c o n t (a c o e t)
theorem KeepL.same {lv : Addr} {H H1 H2 : Hp} (a : KeepL lv H H1) (s : Same H1 H2) : KeepL lv H H2 := fun c o n t e => s _ _ (a c o n t e)
theorem Ts.keepl {PR j lv dx : Addr} {C : Addr} {fs : List (Str × V)} {H0 H H' : Hp} (t : Ts PR j H0 H) (nl : ∀ b o, b ≠ j → (∀ ps, o ≠ .tbl ps) → H0 b = some o → b ≠ lv) (hl : H lv = some (.ins C dx fs)) (k : KeepL lv H H') (tab : LamX.Tabs [(PR, qLam)] H') : Ts PR j H0 H' := by
  refine ⟨fun b o nb nt e => k b o (nl b o nb nt e) nt (t.off b o nb nt e), ?_, tab⟩
  obtain ⟨x, y, z, h⟩ := t.jar
  exact ⟨x, y, z, k _ _ (ne_of h hl (by intro z; cases z)) (by intro ps q; cases q) h⟩
theorem tabs_offl {T : List (Addr × Str)} {C lv dx : Addr} {fs : List (Str × V)} {H H' : Hp} (hl : H lv = some (.ins C dx fs)) (o : Off lv H H') (t : LamX.Tabs T H) : LamX.Tabs T H' := fun p hp => by
  obtain ⟨ps, a1, a2, a3⟩ := t p hp
  refine ⟨ps, o _ _ (ne_of a1 hl (by intro z; cases z)) a1, a2, fun pos cv hcv => ?_⟩
  obtain ⟨c, e, h⟩ := a3 pos cv hcv
  exact ⟨c, e, o _ _ (ne_of h hl (by intro z; unfold LamX.CodeO at z; cases z)) h⟩
theorem RdAt.ext {T : TxRd K mg} {H H' : Hp} {lv dx lo m : Addr} {sz : Nat} {t : Str} {rr : List (Nat × Bool)} (s : LamX.ExtN H H') (h : RdAt T H lv dx lo m sz t rr) : RdAt T H' lv dx lo m sz t rr :=
  h.mono (fun p xs e => s _ _ e (by intro ps z; cases z)) (fun p C d fs _ _ e => s _ _ e (by intro ps z; cases z)) (s _ _ h.at_ (by intro ps z; cases z))
theorem ConAt.ext {T : TxCn K mg} {H H' : Hp} {dk ddx lv dx lo m : Addr} {sz : Nat} {t : Str} {rr : List (Nat × Bool)} (s : LamX.ExtN H H') (h : ConAt T H dk ddx lv dx lo m sz t rr) : ConAt T H' dk ddx lv dx lo m sz t rr := ⟨s _ _ h.at_ (by intro ps z; cases z), h.rd.ext s⟩
theorem ConAt.same {T : TxCn K mg} {H H' : Hp} {dk ddx lv dx lo m : Addr} {sz : Nat} {t : Str} {rr : List (Nat × Bool)} (s : Same H H') (h : ConAt T H dk ddx lv dx lo m sz t rr) : ConAt T H' dk ddx lv dx lo m sz t rr := ⟨s _ _ h.at_, h.rd.same s⟩
theorem ConAt.ne {T : TxCn K mg} {H : Hp} {dk ddx lv dx lo m : Addr} {sz : Nat} {t : Str} {rr : List (Nat × Bool)} (h : ConAt T H dk ddx lv dx lo m sz t rr) : dk ≠ lv := ne_of h.at_ h.rd.at_ fun z => by
  have e := congrArg List.length (HO.ins.inj z).2.2
  cases e
theorem ConAt.offj {T : TxCn K mg} {j : Addr} {H H' : Hp} {dk ddx lv dx lo m : Addr} {sz : Nat} {t : Str} {rr : List (Nat × Bool)} (J : Jar H j) (o : Off j H H') (h : ConAt T H dk ddx lv dx lo m sz t rr) : ConAt T H' dk ddx lv dx lo m sz t rr := by
  obtain ⟨x, y, z, hj⟩ := J
  have g : ∀ {p : Addr} {u : HO}, (∀ xs, u ≠ .lst xs) → H p = some u → H' p = some u := fun n e => o _ _ (ne_of e hj (n _)) e
  exact ⟨g (by intro xs z; cases z) h.at_, h.rd.mono (fun p xs e => g (by intro xs z; cases z) e) (fun p C d fs _ _ e => g (by intro xs z; cases z) e) (g (by intro xs z; cases z) h.rd.at_)⟩
end
section
variable {P : Program} {w : World} {K : PySem.W.Frag} {mg : Str → Option Value} {base : Heap}
/-! ### Console.__init__ -/
def spCnI (T : TxCn K mg) : Sp := fun vs H Q _ => ∃ (x ddx lo : Addr) (sz : Nat) (t : Str), vs = [.ref x, .ref lo, .int sz] ∧ H x = some (.ins T.C ddx []) ∧ LoopAt T.E.R.N.T.C H lo t ∧ 1 ≤ sz ∧ sz ≤ 1000 ∧ ∀ (H' : Hp) (lv dx m : Addr), Off x H H' → H lv = none → ConAt T H' x ddx lv dx lo m sz t [] → Q .non H'
theorem scCnI : FnScope ["self", "loop", "size"] ["self", "loop", "size"] (defScope sCnI) := ⟨rfl, rfl, rfl, by decide +kernel, rfl, by decide +kernel, by decide +kernel⟩
theorem ok_cni (T : TxCn K mg) : FnOk P w K mg base (L2.CX P w) 6 T.fI T.fdI ["self", "loop", "size"] (spCnI T) := by
  have GR : FnOk P w K mg base (L2.CX P w) 4 T.E.R.fR T.E.R.fdR ["self", "loop", "size"] (spRdI T.E.R) := ok_rdi T.E.R
  refine T.FI.okX scCnI (fun vs H Q E h => ?_) (fun cdv A outer s H vs Q E hr h => ?_)
  · obtain ⟨x, ddx, lo, sz, t, rfl, _⟩ := h
    rfl
  · obtain ⟨x, ddx, lo, sz, t, rfl, hx, hL, z1, z2, k⟩ := h
    refine ⟨_, pss_one (ps_fld (pv 0) (pe_make (E := E) T.E.R.MR GR hr rfl T.E.R.gR T.E.R.bR .nil (passes_call (takes_of rfl rfl rfl rfl) fun _ _ _ _ z => z) (pa_cons (pv 1) (pa_cons (pv 2) pa_nil))) rfl), ?_⟩
    refine ⟨_, rfl, _, rfl, ?_⟩
    intro y dy ny ndy ney
    have sM : Same H (upd (upd H dy (.own y)) y (.ins T.E.R.CR dy [])) := fun b u e => by
      rw [upd_ne (ne_of_none e ny), upd_ne (ne_of_none e ndy)]
      exact e
    refine ⟨y, dy, lo, sz, t, rfl, upd_same, hL.same sM, z1, z2, fun H4 m o4 hR4 => ⟨rfl, ?_⟩⟩
    have s4 := made_same ny ndy o4
    have hx4 := s4 _ _ hx
    have xy := ne_of_none hx ny
    refine ⟨_, rfl, x, T.C, ddx, _, rfl, hx4, T.cl, T.nR, (by show 0 < 1000; decide), ?_⟩
    have e0 : (upd H4 x (.ins T.C ddx (putF "reading" (.ref y) []))) x = some (.ins T.C ddx (conf y)) := upd_same
    refine k _ y dy m (fun b o nb e => ?_) ny ⟨e0, hR4.mono (fun p xs e => ?_) (fun p C d fs l np e => ?_) ?_⟩
    · rw [upd_ne nb]
      exact s4 _ _ e
    · rw [upd_ne (ne_of e hx4 (by intro z; cases z))]
      exact e
    · rw [upd_ne (ne_of e hx4 fun z => by rw [(HO.ins.inj z).2.2] at l; exact absurd l (by decide))]
      exact e
    · rw [upd_ne xy.symm]
      exact hR4.at_
end
end My

/-! fault_table and Console.__init__, where they refuse -/
namespace My
open PySem L2 Cm LM EM
section
variable {P : Program} {w : World} {K : PySem.W.Frag} {mg : Str → Option Value} {base : Heap}
theorem fn_no {CX : CXT} {k : Nat} {f : Addr} {fd : FuncData} {ps : List Str} : FnOk P w K mg base CX k f fd ps (fun _ _ _ _ => False) :=
  ⟨fun _ _ _ _ h => h.elim, fun _ _ _ _ _ _ _ _ _ _ _ _ _ h => h.elim⟩
abbrev NFt : List Str := ["loop", "source", "name"]
theorem scFtb : FnScope NFt ["loop", "source"] (defScope sFtb) := ⟨rfl, rfl, rfl, by decide +kernel, rfl, by decide +kernel, by decide +kernel⟩
def spFt (T : Tx67 w K mg) : Sp := fun vs H _ E => ∃ l u : V, vs = [l, u] ∧ ∀ H', Same H H' → BadC K (cL T) (eLo T) l H' E (NoIn K T.S.U.C H' u ∧ Er T.eS9.C u H' E)
theorem ok_ftb (T : Tx67 w K mg) : FnOk P w K mg base (L2.CX P w) 6 T.ftb.f T.ftb.fd ["loop", "source"] (spFt T) := by
  have GL : FnOk P w K mg base (L2.CX P w) 5 T.flt.f T.flt.fd ["loop", "source", "name"] (sp3 T) := ok_flt T
  have G0 : FnOk P w K mg base (L2.CX P w) 5 T.fut.f T.fut.fd ["found"] (fun _ _ _ _ => False) := fn_no
  refine T.ftb.F.okX scFtb (fun vs H Q E h => ?_) (fun cdv A outer s H vs Q E hr h => ?_)
  · obtain ⟨l, u, rfl, _⟩ := h
    rfl
  · obtain ⟨l, u, rfl, h⟩ := h
    refine ⟨_, pss_one (ps_ret (pe_join pe_str (LcR.pe_lcR (E := E) (own := [("name", 2)]) (g := gName 2) (takes_of rfl rfl rfl rfl) rfl rfl rfl scFtb.nd (pi_tup (pe_glob (v := .ref T.pN) rfl T.gN rfl)) (blkOk_by (own := [("name", 2)]) (N := NFt) (sc := defScope sFtb) (by decide +kernel)) (fun _ _ _ _ _ => pg_name (i := 2) scFtb.nd rfl (Or.inl rfl))
      (fun _ _ _ _ _ _ ps => by exact pe_joined (.cons (pe_fmt (pv 2)) (.cons pe_str (.cons (pe_fmt (pe_call (E := E) G0 hr rfl T.fut.g T.fut.k T.fut.b .nil ps (pa_cons (pe_call (E := E) GL hr rfl T.flt.g T.flt.k T.flt.b .nil ps (pa_cons (pv 0) (pa_cons (pv 1) (pa_cons (pv 2) pa_nil)))) pa_nil))) .nil))))))), ?_⟩
    refine ⟨⟨_, rfl⟩, T.pN, rfl, ⟨_, T.lN _⟩, fun D nD => ⟨⟨_, _, T.lN _, rfl⟩, fun x H' y => ?_⟩⟩
    obtain ⟨e, y⟩ := y
    subst e
    have ex := y _ (T.lN _)
    cases (Option.some.inj ex)
    refine ⟨_, rfl, .inl ⟨_, rfl, szl (by decide +kernel), _, rfl, szl (by decide +kernel), ?_⟩⟩
    refine ⟨_, rfl, szl (by decide +kernel), ?_⟩
    refine ⟨_, rfl, _, rfl, _, rfl, l, u, .str "whole", rfl, ?_⟩
    rcases h _ (same_new nD) with ⟨a, k⟩ | ⟨i1, a, k⟩
    · exact .inl ⟨a, k⟩
    · exact .inr ⟨i1, .inl ⟨a, k⟩⟩
/-! ### Console.__init__ -/
def spCnIe (T : Tx67 w K mg) : Sp := fun vs H _ E => ∃ (x : Addr) (v z : V), vs = [.ref x, v, z] ∧ ∀ H', Same H H' → (NoIn K (cL T) H' v ∧ Er (eLo T) v H' E) ∨
  ∃ (lo : Addr) (t : Str), v = .ref lo ∧ LoopAt (cL T) H' lo t ∧ TypedI K H' z ∧ btw 1 1000 z = false ∧ Er T.N.E.R.N.k.eS.C z H' E
theorem ok_cnie (T : Tx67 w K mg) : FnOk P w K mg base (L2.CX P w) 6 T.N.fI T.N.fdI ["self", "loop", "size"] (spCnIe T) := by
  have GR : FnOk P w K mg base (L2.CX P w) 4 T.N.E.R.fR T.N.E.R.fdR ["self", "loop", "size"] (spRdIe T.N.E) := ok_rdie T.N.E
  refine T.N.FI.okX scCnI (fun vs H Q E h => ?_) (fun cdv A outer s H vs Q E hr h => ?_)
  · obtain ⟨x, v, z, rfl, _⟩ := h
    rfl
  · obtain ⟨x, v, z, rfl, h⟩ := h
    refine ⟨_, pss_one (ps_fld (pv 0) (pe_make (E := E) T.N.E.R.MR GR hr rfl T.N.E.R.gR T.N.E.R.bR .nil (passes_call (takes_of rfl rfl rfl rfl) fun _ _ _ _ z => z) (pa_cons (pv 1) (pa_cons (pv 2) pa_nil))) rfl), ?_⟩
    refine ⟨_, rfl, _, rfl, ?_⟩
    intro y dy ny ndy ney
    have sM : Same H (upd (upd H dy (.own y)) y (.ins T.N.E.R.CR dy [])) := fun b u e => by
      rw [upd_ne (ne_of_none e ny), upd_ne (ne_of_none e ndy)]
      exact e
    refine ⟨y, v, z, rfl, ?_⟩
    rcases h _ sM with ⟨a, k⟩ | ⟨lo, t, e, a, b, c, k⟩
    · exact .inl ⟨a, k⟩
    · exact .inr ⟨lo, t, e, a, b, c, k⟩
def spCnB (T : Tx67 w K mg) : Sp := fun vs H Q E => spCnI T.N vs H Q E ∨ spCnIe T vs H Q E
theorem ok_cnb (T : Tx67 w K mg) : FnOk P w K mg base (L2.CX P w) 6 T.N.fI T.N.fdI ["self", "loop", "size"] (spCnB T) := fn_or (ok_cni T.N) (ok_cnie T)
end
end My

namespace My
open PySem L2 Cm LM IsX CmH EM
abbrev sCame : Stmt := top 136
structure TxCm (K : PySem.W.Frag) (mg : Str → Option Value) (c0 c1 c2 c3 c4 c5 c6 : Addr) where
  isi : mg "isinstance" = none
  tValueError : mg "ValueError" = none
  oInputError : Addr
  gInputError : mg "InputError" = some (.ref oInputError)
  g0 : mg "InvalidItems" = some (.ref c0)
  h0 : HF K "value" "ValueError" c0 oInputError
  x0_0 : PySem.W.exmOne K (.ref c0) (.ref c0) = some true
  g1 : mg "InvalidName" = some (.ref c1)
  h1 : HF K "value" "ValueError" c1 oInputError
  x1_0 : PySem.W.exmOne K (.ref c1) (.ref c0) = some false
  x1_1 : PySem.W.exmOne K (.ref c1) (.ref c1) = some true
  g2 : mg "InvalidSize" = some (.ref c2)
  h2 : HF K "value" "ValueError" c2 oInputError
  x2_0 : PySem.W.exmOne K (.ref c2) (.ref c0) = some false
  x2_1 : PySem.W.exmOne K (.ref c2) (.ref c1) = some false
  x2_2 : PySem.W.exmOne K (.ref c2) (.ref c2) = some true
  g3 : mg "InvalidWord" = some (.ref c3)
  h3 : HF K "value" "ValueError" c3 oInputError
  x3_0 : PySem.W.exmOne K (.ref c3) (.ref c0) = some false
  x3_1 : PySem.W.exmOne K (.ref c3) (.ref c1) = some false
  x3_2 : PySem.W.exmOne K (.ref c3) (.ref c2) = some false
  x3_3 : PySem.W.exmOne K (.ref c3) (.ref c3) = some true
  g4 : mg "NotAChain" = some (.ref c4)
  h4 : HF K "value" "ValueError" c4 oInputError
  x4_0 : PySem.W.exmOne K (.ref c4) (.ref c0) = some false
  x4_1 : PySem.W.exmOne K (.ref c4) (.ref c1) = some false
  x4_2 : PySem.W.exmOne K (.ref c4) (.ref c2) = some false
  x4_3 : PySem.W.exmOne K (.ref c4) (.ref c3) = some false
  x4_4 : PySem.W.exmOne K (.ref c4) (.ref c4) = some true
  g5 : mg "NotALoop" = some (.ref c5)
  h5 : HF K "value" "ValueError" c5 oInputError
  x5_0 : PySem.W.exmOne K (.ref c5) (.ref c0) = some false
  x5_1 : PySem.W.exmOne K (.ref c5) (.ref c1) = some false
  x5_2 : PySem.W.exmOne K (.ref c5) (.ref c2) = some false
  x5_3 : PySem.W.exmOne K (.ref c5) (.ref c3) = some false
  x5_4 : PySem.W.exmOne K (.ref c5) (.ref c4) = some false
  x5_5 : PySem.W.exmOne K (.ref c5) (.ref c5) = some true
  g6 : mg "NotASource" = some (.ref c6)
  h6 : HF K "value" "ValueError" c6 oInputError
  x6_0 : PySem.W.exmOne K (.ref c6) (.ref c0) = some false
  x6_1 : PySem.W.exmOne K (.ref c6) (.ref c1) = some false
  x6_2 : PySem.W.exmOne K (.ref c6) (.ref c2) = some false
  x6_3 : PySem.W.exmOne K (.ref c6) (.ref c3) = some false
  x6_4 : PySem.W.exmOne K (.ref c6) (.ref c4) = some false
  x6_5 : PySem.W.exmOne K (.ref c6) (.ref c5) = some false
  x6_6 : PySem.W.exmOne K (.ref c6) (.ref c6) = some true
  cm : Df K mg "_law_came" sCame ["_law_ask"]
theorem scCame : FnScope ["_law_ask", "_law_given", "e"] ["_law_ask"] (defScope sCame) := ⟨rfl, rfl, rfl, by decide +kernel, rfl, by decide +kernel, by decide +kernel⟩
/-- the row that an error makes -/
def RwOf (c0 c1 c2 c3 c4 c5 c6 : Addr) (cls : Value) (d : Option Addr) (H : Hp) (row : List V) : Prop :=
  (cls = .ref c0 ∧ ∃ (dd : Addr) (v : V), d = some dd ∧ H dd = some (.xd [(("value" : Str), v)]) ∧ row = [.str "InvalidItems", v, .bl true]) ∨ (cls = .ref c1 ∧ ∃ (dd : Addr) (v : V), d = some dd ∧ H dd = some (.xd [(("value" : Str), v)]) ∧ row = [.str "InvalidName", v, .bl true]) ∨ (cls = .ref c2 ∧ ∃ (dd : Addr) (v : V), d = some dd ∧ H dd = some (.xd [(("value" : Str), v)]) ∧ row = [.str "InvalidSize", v, .bl true]) ∨ (cls = .ref c3 ∧ ∃ (dd : Addr) (v : V), d = some dd ∧ H dd = some (.xd [(("value" : Str), v)]) ∧ row = [.str "InvalidWord", v, .bl true]) ∨ (cls = .ref c4 ∧ ∃ (dd : Addr) (v : V), d = some dd ∧ H dd = some (.xd [(("value" : Str), v)]) ∧ row = [.str "NotAChain", v, .bl true]) ∨ (cls = .ref c5 ∧ ∃ (dd : Addr) (v : V), d = some dd ∧ H dd = some (.xd [(("value" : Str), v)]) ∧ row = [.str "NotALoop", v, .bl true]) ∨ (cls = .ref c6 ∧ ∃ (dd : Addr) (v : V), d = some dd ∧ H dd = some (.xd [(("value" : Str), v)]) ∧ row = [.str "NotASource", v, .bl true])
def TCame (c0 c1 c2 c3 c4 c5 c6 : Addr) : (XK → Hp → VK → Prop) → Hp → VK → Prop := fun tl H Q =>
  tl (fun cls d H2 => ∃ row, RwOf c0 c1 c2 c3 c4 c5 c6 cls d H2 row ∧ ∀ p, H2 p = none → Q (.ref p) (upd H2 p (.lst row))) H
    (fun v H2 => ∃ u : V, some (some v) = some (some u) ∧ ∀ p, H2 p = none → Q (.ref p) (upd H2 p (.lst [.str "given", u])))
theorem came_gives {X : Cx} {c0 c1 c2 c3 c4 c5 c6 : Addr} {cdg : Value} {q : Str} (T : TxCm X.K X.mg c0 c1 c2 c3 c4 c5 c6) :
    LamX.GivesTo X ["_law_ask", "_law_given", "e"] "_law_came" (defScope sCame) T.cm.f cdg (defBody sCame) "_law_ask" q (TCame c0 c1 c2 c3 c4 c5 c6) := by
  intro f c' s H Q tl act hc h
  refine ⟨_, pss_cons (TryAs.ps_try_asN (X := (cxOf C8.CX0 X.prog X.w X.K X.mg X.base ["_law_ask", "_law_given", "e"] "_law_came" (defScope sCame) T.cm.f cdg X.A X.stack s H C8.E0).nox) (i := 2) (n := "e")
      (ks := [⟨.ref c0, tRowF c0 "InvalidItems" "value"⟩, ⟨.ref c1, tRowF c1 "InvalidName" "value"⟩, ⟨.ref c2, tRowF c2 "InvalidSize" "value"⟩, ⟨.ref c3, tRowF c3 "InvalidWord" "value"⟩, ⟨.ref c4, tRowF c4 "NotAChain" "value"⟩, ⟨.ref c5, tRowF c5 "NotALoop" "value"⟩, ⟨.ref c6, tRowF c6 "NotASource" "value"⟩])
      (tb := fun W D σ H => ∃ Ech : XK, (∀ (cls : Value) (d : Option Addr) (σ' : L2.St) (H' : Hp), Ech cls d H' → σ'.length = 3 → W cls d σ' H') ∧ σ[0]? = some (some (.ref f)) ∧ H c' = some (LamX.CodeO c' q) ∧ tl Ech H fun v H2 => gName 1 v σ H2 D.nx)
      (out := fun _ _ _ _ => False) rfl rfl scCame.nd rfl rfl LamX.takes0 (fun W pn xe tk _ => ?_)
      (.more ⟨rfl, by decide, .inl T.g0⟩ (fun a oe cls d pn hz hf => ?_) (.more ⟨rfl, by decide, .inl T.g1⟩ (fun a oe cls d pn hz hf => ?_) (.more ⟨rfl, by decide, .inl T.g2⟩ (fun a oe cls d pn hz hf => ?_) (.more ⟨rfl, by decide, .inl T.g3⟩ (fun a oe cls d pn hz hf => ?_) (.more ⟨rfl, by decide, .inl T.g4⟩ (fun a oe cls d pn hz hf => ?_) (.more ⟨rfl, by decide, .inl T.g5⟩ (fun a oe cls d pn hz hf => ?_) (.more ⟨rfl, by decide, .inl T.g6⟩ (fun a oe cls d pn hz hf => ?_) .stop))))))))
    (ss_imp (t' := tGiv) (pss_one (ps_ret (pe_lst (pa_cons pe_str (pa_cons (pv 1) pa_nil))))) (fun D σ H ⟨u, hσ, k⟩ => ⟨_, hσ, (by show 2 ≤ sizeLine; decide), k⟩)), ?_⟩
  · refine ⟨fun pins s2 σ H2 D I hh => ?_⟩
    obtain ⟨Ech, hW, h1, h2, h3⟩ := hh
    have hp := fun p1 p2 => act _ pn xe Ech p1 p2 (takes_len tk) (fun cls d σ' H' z => hW cls d σ' H' z)
    exact (pss_one (ps_set (i := 1) scCame.nd rfl (.inl rfl) (hp _ _))).run pins s2 σ H2 D I ⟨h1, h2, h3⟩
  · refine ss_imp (pss_one (ps_ret (pe_lst (pa_cons pe_str (pa_cons (pe_xf T.h0.x.xf T.h0.n hz hf (pv 2)) (pa_cons (pe_and (pe_callB (call_isX T.h0.x hz hf) (by rfl) T.isi (by decide +kernel) (pa_cons (pv 2) (pa_cons (pe_glob (v := .ref T.oInputError) rfl T.gInputError rfl) pa_nil)))
        (pe_one (pe_callB (call_isX T.h0.x hz hf) (by rfl) T.isi (by decide +kernel) (pa_cons (pv 2) (pa_cons (pe_bltn (v := .ty "ValueError") (by rfl) T.tValueError (by decide +kernel) rfl) pa_nil))))) pa_nil)))))) ?_
    rintro Z σ H ⟨rfl, dd, v, rfl, hdd, hσ, k⟩
    refine ⟨_, hσ, rfl, rfl, dd, _, v, rfl, hdd, by simp [List.lookup], ?_⟩
    refine ⟨_, hσ, .ref T.oInputError, .ref T.oInputError, true, dd, _, rfl, fun u z => z, rfl, rfl, hdd, T.h0.k1, true, rfl, iteT ?_⟩
    refine ⟨_, hσ, .ty "ValueError", .type "ValueError", true, dd, _, rfl, fun u z => z, rfl, rfl, hdd, T.h0.k2, ?_⟩
    exact ⟨by show 3 ≤ sizeLine; decide, k⟩
  · refine ss_imp (pss_one (ps_ret (pe_lst (pa_cons pe_str (pa_cons (pe_xf T.h1.x.xf T.h1.n hz hf (pv 2)) (pa_cons (pe_and (pe_callB (call_isX T.h1.x hz hf) (by rfl) T.isi (by decide +kernel) (pa_cons (pv 2) (pa_cons (pe_glob (v := .ref T.oInputError) rfl T.gInputError rfl) pa_nil)))
        (pe_one (pe_callB (call_isX T.h1.x hz hf) (by rfl) T.isi (by decide +kernel) (pa_cons (pv 2) (pa_cons (pe_bltn (v := .ty "ValueError") (by rfl) T.tValueError (by decide +kernel) rfl) pa_nil))))) pa_nil)))))) ?_
    rintro Z σ H ⟨rfl, dd, v, rfl, hdd, hσ, k⟩
    refine ⟨_, hσ, rfl, rfl, dd, _, v, rfl, hdd, by simp [List.lookup], ?_⟩
    refine ⟨_, hσ, .ref T.oInputError, .ref T.oInputError, true, dd, _, rfl, fun u z => z, rfl, rfl, hdd, T.h1.k1, true, rfl, iteT ?_⟩
    refine ⟨_, hσ, .ty "ValueError", .type "ValueError", true, dd, _, rfl, fun u z => z, rfl, rfl, hdd, T.h1.k2, ?_⟩
    exact ⟨by show 3 ≤ sizeLine; decide, k⟩
  · refine ss_imp (pss_one (ps_ret (pe_lst (pa_cons pe_str (pa_cons (pe_xf T.h2.x.xf T.h2.n hz hf (pv 2)) (pa_cons (pe_and (pe_callB (call_isX T.h2.x hz hf) (by rfl) T.isi (by decide +kernel) (pa_cons (pv 2) (pa_cons (pe_glob (v := .ref T.oInputError) rfl T.gInputError rfl) pa_nil)))
        (pe_one (pe_callB (call_isX T.h2.x hz hf) (by rfl) T.isi (by decide +kernel) (pa_cons (pv 2) (pa_cons (pe_bltn (v := .ty "ValueError") (by rfl) T.tValueError (by decide +kernel) rfl) pa_nil))))) pa_nil)))))) ?_
    rintro Z σ H ⟨rfl, dd, v, rfl, hdd, hσ, k⟩
    refine ⟨_, hσ, rfl, rfl, dd, _, v, rfl, hdd, by simp [List.lookup], ?_⟩
    refine ⟨_, hσ, .ref T.oInputError, .ref T.oInputError, true, dd, _, rfl, fun u z => z, rfl, rfl, hdd, T.h2.k1, true, rfl, iteT ?_⟩
    refine ⟨_, hσ, .ty "ValueError", .type "ValueError", true, dd, _, rfl, fun u z => z, rfl, rfl, hdd, T.h2.k2, ?_⟩
    exact ⟨by show 3 ≤ sizeLine; decide, k⟩
  · refine ss_imp (pss_one (ps_ret (pe_lst (pa_cons pe_str (pa_cons (pe_xf T.h3.x.xf T.h3.n hz hf (pv 2)) (pa_cons (pe_and (pe_callB (call_isX T.h3.x hz hf) (by rfl) T.isi (by decide +kernel) (pa_cons (pv 2) (pa_cons (pe_glob (v := .ref T.oInputError) rfl T.gInputError rfl) pa_nil)))
        (pe_one (pe_callB (call_isX T.h3.x hz hf) (by rfl) T.isi (by decide +kernel) (pa_cons (pv 2) (pa_cons (pe_bltn (v := .ty "ValueError") (by rfl) T.tValueError (by decide +kernel) rfl) pa_nil))))) pa_nil)))))) ?_
    rintro Z σ H ⟨rfl, dd, v, rfl, hdd, hσ, k⟩
    refine ⟨_, hσ, rfl, rfl, dd, _, v, rfl, hdd, by simp [List.lookup], ?_⟩
    refine ⟨_, hσ, .ref T.oInputError, .ref T.oInputError, true, dd, _, rfl, fun u z => z, rfl, rfl, hdd, T.h3.k1, true, rfl, iteT ?_⟩
    refine ⟨_, hσ, .ty "ValueError", .type "ValueError", true, dd, _, rfl, fun u z => z, rfl, rfl, hdd, T.h3.k2, ?_⟩
    exact ⟨by show 3 ≤ sizeLine; decide, k⟩
  · refine ss_imp (pss_one (ps_ret (pe_lst (pa_cons pe_str (pa_cons (pe_xf T.h4.x.xf T.h4.n hz hf (pv 2)) (pa_cons (pe_and (pe_callB (call_isX T.h4.x hz hf) (by rfl) T.isi (by decide +kernel) (pa_cons (pv 2) (pa_cons (pe_glob (v := .ref T.oInputError) rfl T.gInputError rfl) pa_nil)))
        (pe_one (pe_callB (call_isX T.h4.x hz hf) (by rfl) T.isi (by decide +kernel) (pa_cons (pv 2) (pa_cons (pe_bltn (v := .ty "ValueError") (by rfl) T.tValueError (by decide +kernel) rfl) pa_nil))))) pa_nil)))))) ?_
    rintro Z σ H ⟨rfl, dd, v, rfl, hdd, hσ, k⟩
    refine ⟨_, hσ, rfl, rfl, dd, _, v, rfl, hdd, by simp [List.lookup], ?_⟩
    refine ⟨_, hσ, .ref T.oInputError, .ref T.oInputError, true, dd, _, rfl, fun u z => z, rfl, rfl, hdd, T.h4.k1, true, rfl, iteT ?_⟩
    refine ⟨_, hσ, .ty "ValueError", .type "ValueError", true, dd, _, rfl, fun u z => z, rfl, rfl, hdd, T.h4.k2, ?_⟩
    exact ⟨by show 3 ≤ sizeLine; decide, k⟩
  · refine ss_imp (pss_one (ps_ret (pe_lst (pa_cons pe_str (pa_cons (pe_xf T.h5.x.xf T.h5.n hz hf (pv 2)) (pa_cons (pe_and (pe_callB (call_isX T.h5.x hz hf) (by rfl) T.isi (by decide +kernel) (pa_cons (pv 2) (pa_cons (pe_glob (v := .ref T.oInputError) rfl T.gInputError rfl) pa_nil)))
        (pe_one (pe_callB (call_isX T.h5.x hz hf) (by rfl) T.isi (by decide +kernel) (pa_cons (pv 2) (pa_cons (pe_bltn (v := .ty "ValueError") (by rfl) T.tValueError (by decide +kernel) rfl) pa_nil))))) pa_nil)))))) ?_
    rintro Z σ H ⟨rfl, dd, v, rfl, hdd, hσ, k⟩
    refine ⟨_, hσ, rfl, rfl, dd, _, v, rfl, hdd, by simp [List.lookup], ?_⟩
    refine ⟨_, hσ, .ref T.oInputError, .ref T.oInputError, true, dd, _, rfl, fun u z => z, rfl, rfl, hdd, T.h5.k1, true, rfl, iteT ?_⟩
    refine ⟨_, hσ, .ty "ValueError", .type "ValueError", true, dd, _, rfl, fun u z => z, rfl, rfl, hdd, T.h5.k2, ?_⟩
    exact ⟨by show 3 ≤ sizeLine; decide, k⟩
  · refine ss_imp (pss_one (ps_ret (pe_lst (pa_cons pe_str (pa_cons (pe_xf T.h6.x.xf T.h6.n hz hf (pv 2)) (pa_cons (pe_and (pe_callB (call_isX T.h6.x hz hf) (by rfl) T.isi (by decide +kernel) (pa_cons (pv 2) (pa_cons (pe_glob (v := .ref T.oInputError) rfl T.gInputError rfl) pa_nil)))
        (pe_one (pe_callB (call_isX T.h6.x hz hf) (by rfl) T.isi (by decide +kernel) (pa_cons (pv 2) (pa_cons (pe_bltn (v := .ty "ValueError") (by rfl) T.tValueError (by decide +kernel) rfl) pa_nil))))) pa_nil)))))) ?_
    rintro Z σ H ⟨rfl, dd, v, rfl, hdd, hσ, k⟩
    refine ⟨_, hσ, rfl, rfl, dd, _, v, rfl, hdd, by simp [List.lookup], ?_⟩
    refine ⟨_, hσ, .ref T.oInputError, .ref T.oInputError, true, dd, _, rfl, fun u z => z, rfl, rfl, hdd, T.h6.k1, true, rfl, iteT ?_⟩
    refine ⟨_, hσ, .ty "ValueError", .type "ValueError", true, dd, _, rfl, fun u z => z, rfl, rfl, hdd, T.h6.k2, ?_⟩
    exact ⟨by show 3 ≤ sizeLine; decide, k⟩
  · refine ⟨_, fun cls d σ' H' hh hl => ?_, rfl, hc, h⟩
    obtain ⟨row, hn, k⟩ := hh
    obtain ⟨x0, x1, x2, rfl⟩ := len3 hl
    rcases hn with ⟨rfl, dd, v, rfl, hdd, rfl⟩ | ⟨rfl, dd, v, rfl, hdd, rfl⟩ | ⟨rfl, dd, v, rfl, hdd, rfl⟩ | ⟨rfl, dd, v, rfl, hdd, rfl⟩ | ⟨rfl, dd, v, rfl, hdd, rfl⟩ | ⟨rfl, dd, v, rfl, hdd, rfl⟩ | ⟨rfl, dd, v, rfl, hdd, rfl⟩
    · exact ⟨true, T.x0_0, fun a na => ⟨rfl, dd, v, rfl, hdd, rfl, k⟩⟩
    · exact ⟨false, T.x1_0, true, T.x1_1, fun a na => ⟨rfl, dd, v, rfl, hdd, rfl, k⟩⟩
    · exact ⟨false, T.x2_0, false, T.x2_1, true, T.x2_2, fun a na => ⟨rfl, dd, v, rfl, hdd, rfl, k⟩⟩
    · exact ⟨false, T.x3_0, false, T.x3_1, false, T.x3_2, true, T.x3_3, fun a na => ⟨rfl, dd, v, rfl, hdd, rfl, k⟩⟩
    · exact ⟨false, T.x4_0, false, T.x4_1, false, T.x4_2, false, T.x4_3, true, T.x4_4, fun a na => ⟨rfl, dd, v, rfl, hdd, rfl, k⟩⟩
    · exact ⟨false, T.x5_0, false, T.x5_1, false, T.x5_2, false, T.x5_3, false, T.x5_4, true, T.x5_5, fun a na => ⟨rfl, dd, v, rfl, hdd, rfl, k⟩⟩
    · exact ⟨false, T.x6_0, false, T.x6_1, false, T.x6_2, false, T.x6_3, false, T.x6_4, false, T.x6_5, true, T.x6_6, fun a na => ⟨rfl, dd, v, rfl, hdd, rfl, k⟩⟩
end My

/-! repr of a list in which instances with an own __repr__ stand -/
namespace RpL
open PySem PySem.Spec PyProof.Rows L2 Builtin Builtin.List
section
variable {M : Model} {prog : Program} {w : World} {A : Around} {E : Value → Shared → Prop} {s : Shared} {K : PySem.W.Frag} {x C f : Addr} {ox : Obj} {od : Option Obj} {name : Str}
theorem boundBy_K {last : Value → List Value → Sem Value} {Q : Option Value → Shared → Prop} (X : K.In s.heap) (I : PySem.W.InstAt s.heap x ox C od) (hs : PySem.W.findIn K (.ref C) name = some (some (.ref f))) (hf : PySem.W.isFn K (.ref f) = true)
    (h : wpAny M A (last (.ref f) [.ref x]) (fun v => Q (some v)) E s) : wpAny M A (callSpecialIfBoundBy? last (.ref x) name) Q E s := by
  simp only [callSpecialIfBoundBy?, bindSpecialIfBound?]
  refine wpAny_holding (wpAny_bind (wpAny_bind (wpAny_bind (I.type.here ((PySem.W.looks_findIn X hs).here ?_)))))
  refine wpAny_bind (wpAny_askSetting (wpAny_ite ?_))
  have fin : wpAny M A (last (.ref f) [.ref x] >>= fun v => pure (some v)) Q E s := wpAny_bind (wpAny_mono h (fun v s' h' => wpAny_pure h') fun _ _ h' => h')
  split
  · exact wpAny_bind ((PySem.W.bind_fn X _ (beq_iff_eq.mp hf)).here (wpAny_pure (by exact fin)))
  · exact wpAny_tryCatch (wpAny_bind ((PySem.W.bind_fn X _ (beq_iff_eq.mp hf)).here (wpAny_pure (by exact fin))))
end
/-- it shows as t wherever one asks below the running body, and only makes objects -/
def It (X : Cx) (n : Nat) (H : Hp) (v : V) (t : Str) : Prop :=
  ∀ (H1 : Hp), Same H H1 → ∀ (A : Around), Sub X n A → ∀ (pins : List (Addr × Obj)) (s : Shared) (σ : L2.St) (u : Value) (base : Nat) (Q : Str → Shared → Prop) (E : Value → Shared → Prop), Inv X pins σ H1 s → RelV v u → base + t.length ≤ sizeLine →
    (∀ (s' : Shared) (H2 : Hp), Same H1 H2 → Inv X pins σ H2 s' → Q t s') → wpAny (model X.prog X.w) A (pyReprUnder base u) Q E s
section
variable {X : Cx} {n : Nat} {H : Hp}
theorem it_is {v : V} {t : Str} (h : ∀ u, RelV v u → ReprIs X.prog X.w u t) : It X n H v t := fun H1 _ A _ pins s σ u base Q E I ru hb hQ =>
  h u ru base hb A E s Q fun tk => hQ _ H1 (Same.refl _) (I.tok tk)
theorem it_str {x : Str} (h : (reprText x).length ≤ sizeLine) : It X n H (.str x) (reprText x) := it_is fun u ru => by
  obtain ⟨t, rfl⟩ := ru
  exact ReprIs.str x t h
theorem it_int {i : Int} (h : i.natAbs.log2 < 1920) : It X n H (.int i) (toString i) := it_is fun u ru => by
  obtain ⟨t, rfl⟩ := ru
  exact ReprIs.int t h
theorem it_bl (b : Bool) : It X n H (.bl b) (if b then "True" else "False") := it_is fun u ru => by
  cases ru
  exact ReprIs.bool b
theorem it_non : It X n H .non "None" := it_is fun u ru => by
  cases ru
  exact ReprIs.none
/-- an instance with an own __repr__ -/
theorem it_own {C g o dx : Addr} {fs : List (Str × V)} {sp : Sp} {t : Str} (hs : PySem.W.findIn X.K (.ref C) "__repr__" = some (some (.ref g))) (hf : PySem.W.isFn X.K (.ref g) = true) (F : FnR X.prog X.w X.K X.mg X.base CX0 n g sp) (ho : H o = some (.ins C dx fs))
    (hsp : ∀ H1, Same H H1 → sp [.ref o] H1 (fun v H2 => v = .str t ∧ Same H1 H2) fun _ _ _ => False) : It X n H (.ref o) t := by
  intro H1 s1 A sb pins s σ u base Q E I ru hb hQ
  cases (show u = Value.ref o from ru)
  obtain ⟨ox, od, J⟩ := Own.inst_of I (s1 _ _ ho)
  have hu := sb.room.un
  refine wpAny_pyReprUnder_ref (by omega) ?_
  unfold pyReprObjUnder pyReprObjBy
  refine wpAny_bind (wpAny_cRoomFor (by omega) ?_)
  refine wpAny_bind (wpAny_bind (J.type.here ((PySem.W.looks_findIn I.kIn hs).here ?_)))
  show wpAny _ _ (if (some (Value.ref g)).isNone = true then _ else _) _ _ _
  rw [if_neg (by simp)]
  have e0 : Env0 X.prog X.w X.K X.mg X.base A X.stack s H1 := ⟨sb.fr.trans I.env0.frames, I.env0.mod, I.env0.bs, I.env0.bsz, I.env0.funs, I.env0.frf, I.env0.hok, I.env0.bare⟩
  refine wpAny_bind (m := callSpecialIfBoundBy? _ (.ref o) (Str.ofString "__repr__")) (boundBy_K I.kIn J hs hf ?_)
  show wpAny _ _ (call (.ref g) ([Value.ref o] ++ [])) _ _ _
  refine wpAny_call (codeAny_mono (F A X.stack s H1 [.ref o] [.ref o] _ _ sb.room e0 (.cons rfl .nil) (hsp H1 s1)) fun r s' hq => ?_)
  cases r with
  | error e => exact (show False from hq).elim
  | ok fl =>
    cases fl with
    | ret u =>
      obtain ⟨v, H2, I2, rv, ev, s2⟩ := I.after hq
      subst ev
      obtain ⟨tk, rfl⟩ := (show ∃ tk, u = Value.str t tk from rv)
      exact wpAny_bind (wpAny_isInstance (T := "str") (b := true) rfl isSubtype_str_str (wpAny_pure ⟨_, _, rfl, hQ s' H2 s2 I2⟩))
    | next => exact False.elim hq
    | brk => exact False.elim hq
    | cont => exact False.elim hq
end
section
variable {X : Cx} {n : Nat} {H : Hp}
theorem sub_under {A : Around} {args : Args} (sb : Sub X (n + 1) A) : Sub X n (A.under (.builtin "list.__repr__.loop" args)) := by
  have h1 := sb.room.hd
  have h2 := sb.room.dp
  have h3 := sb.room.un
  have e1 : (A.under (.builtin "list.__repr__.loop" args)).handled = A.handled := by first | rfl | simp [Around.under]
  have e2 : (A.under (.builtin "list.__repr__.loop" args)).depth = A.depth + 1 := by
    show A.depth + (Code.builtin "list.__repr__.loop" args).weight = _
    have : (Code.builtin "list.__repr__.loop" args).weight = 1 := by
      unfold Code.weight
      rw [isGuard_list_loop]
      rfl
    rw [this]
  have e3 : (A.under (.builtin "list.__repr__.loop" args)).frames = A.frames := by first | rfl | simp [Around.under, Code.frames, Code.isFrame]
  have e4 := units_under_list_loop A args
  exact ⟨⟨e1.trans h1, by rw [e2]; omega, by rw [e4]; omega⟩, e3.trans sb.fr⟩
theorem loop {A : Around} {R : Result → Shared → Prop} {a P : Addr} {vs : List V} {ts : List Str} {base : Nat} {pins : List (Addr × Obj)} {σ : L2.St} (sb : Sub X (n + 1) A) (hP0 : H P = none) (ha : H a = some (.lst vs)) (hlen : ts.length = vs.length) (hT : ∀ (i : Nat) (v : V), vs[i]? = some v → ∃ t, ts[i]? = some t ∧ It X n H v t) (hsz : base + (listText ts).length ≤ sizeLine)
    (hR : ∀ (s' : Shared) (H2 : Hp) (tk : Tok), Same H H2 → Inv X pins σ H2 s' → R (.ok (.ret (.str (listText ts) tk))) s') :
    ∀ (k i : Nat) (s : Shared) (H1 : Hp), vs.length - i = k → i ≤ vs.length → Same H H1 → Inv X pins σ H1 s → H1 P = some (.lst ((ts.take i).map V.str)) →
    codeAny (model X.prog X.w) A (.builtin "list.__repr__.loop" ⟨[.ref a, rawInt i, .ref P, rawInt ((base + piled (ts.take i) : Nat) : Int)], []⟩) R s := by
  have hX : (listText ts).length = (textFrom 0 "[" ts).length + 1 := by
    show (textFrom 0 "[" ts ++ "]").length = _
    rw [strLen_append]; rfl
  have hL := textFrom_len ts 0 "["
  have hsz2 : ∀ t ∈ ts, t.length ≤ sizeLine := fun t ht => by
    have h2 := hL.2.1 t ht
    omega
  have hsz3 : (listText ts).length ≤ sizeLine := by omega
  have hp3 := piled_le_listText ts
  have vals_str : ∀ (l : List Str) (its : List Value), Vals (l.map V.str) its → ∃ d : List (Str × Tok), its = strValues d ∧ d.map (·.1) = l := by
    intro l
    induction l with
    | nil =>
      intro its h
      cases h
      exact ⟨[], rfl, rfl⟩
    | cons x r ih =>
      intro its h
      cases h with
      | cons a t =>
        obtain ⟨tk, rfl⟩ := a
        obtain ⟨d, rfl, e⟩ := ih _ t
        exact ⟨(x, tk) :: d, rfl, by rw [List.map_cons, e]⟩
  intro k
  induction k with
  | zero =>
    intro i s H1 hk hi s1 I hP
    have hin : i = vs.length := by omega
    obtain ⟨z, its, na, rv, lv, ea⟩ := I.lstM (s1 _ _ ha)
    obtain ⟨zP, itsP, nP, rP, lP, eP⟩ := I.lstM hP
    refine codeAny_builtin F.entry_list_repr_loop ?_
    show wpAny _ _ («list.__repr__.loop» ⟨[.ref a, .int i 0, .ref P, .int ((base + piled (ts.take i) : Nat) : Int) 0], []⟩) _ _ s
    rw [repr_loop_tree]
    refine wpAny_bind (wpAny_listItems ea rfl ?_)
    have hnone : its.toArray[(i : Int).toNat]? = none := by simp; omega
    simp only [hnone]
    unfold reprEnd
    refine wpAny_bind (wpAny_listItems eP rfl ?_)
    obtain ⟨d, rfl, ed⟩ := vals_str _ _ rP
    have hall : d.map (·.1) = ts := by rw [ed, hin, ← hlen, List.take_length]
    rw [List.toList_toArray, repr_fold]
    refine wpAny_bind (wpAny_pure ?_)
    rw [hall]
    refine wpAny_bind (wpAny_mkStr (wpAny_pure ?_) hsz3)
    exact hR _ H1 _ s1 (I.tok _)
  | succ k ih =>
    intro i s H1 hk hi s1 I hP
    have hlt : i < vs.length := by omega
    obtain ⟨z, its, na, rv, lv, ea⟩ := I.lstM (s1 _ _ ha)
    obtain ⟨t, ht, hit⟩ := hT i vs[i] (List.getElem?_eq_getElem hlt)
    have hp1 := piled_take_succ ht
    have hp2 := piled_take_le ts (i + 1)
    have hil : i < its.length := by omega
    have ru : RelV vs[i] its[i] := by
      obtain ⟨u, e, r⟩ := rv.get (List.getElem?_eq_getElem hlt)
      rw [List.getElem?_eq_getElem hil] at e
      cases e
      exact r
    refine codeAny_builtin F.entry_list_repr_loop ?_
    show wpAny _ _ («list.__repr__.loop» ⟨[.ref a, .int i 0, .ref P, .int ((base + piled (ts.take i) : Nat) : Int) 0], []⟩) _ _ s
    rw [repr_loop_tree]
    refine wpAny_bind (wpAny_listItems ea rfl ?_)
    have hsome : its.toArray[(i : Int).toNat]? = some its[i] := by simp [hil]
    simp only [hsome]
    rw [Int.toNat_natCast]
    refine wpAny_bind (wpAny_holding (hit H1 s1 _ (sub_under sb) pins s σ _ (base + piled (ts.take i) + 1) _ _ I ru (by omega) fun s' H2 s2 I2 => ?_))
    refine wpAny_bind (wpAny_mkStr ?_ (hsz2 t (List.mem_of_getElem? ht)))
    refine wpAny_bind ?_
    show wpAny _ _ (updateSeq P _) _ _ _
    have hP2 := s2 _ _ hP
    have I3 := I2.tok (s'.toks + 1)
    obtain ⟨zP, itsP, nP, rP, lP, eP⟩ := I3.lstM hP2
    have hasz : itsP.toArray.size ≤ sizeLine := by
      rw [List.size_toArray, ← lP, List.length_map, List.length_take]
      omega
    refine wpAny_updateSeq eP rfl (wpAny_pure ⟨F.quiet_list_repr_loop _, ?_⟩) hasz
    have e1 : ((i : Int) + 1) = ((i + 1 : Nat) : Int) := by omega
    have e2 : base + piled (ts.take i) + (t.length + 2) = base + piled (ts.take (i + 1)) := by omega
    rw [e1, e2]
    have tk : ts.take (i + 1) = ts.take i ++ [t] := by rw [List.take_add_one, ht]; rfl
    refine ih (i + 1) _ (upd H2 P (.lst ((ts.take (i + 1)).map V.str))) (by omega) hlt (fun b o e => ?_) ?_ upd_same
    · rw [upd_ne (ne_of_none e hP0)]
      exact s2 _ _ (s1 _ _ e)
    · have := I3.lset (its' := itsP ++ [Value.str t s'.toks]) (f := fun x => x.push (Value.str t s'.toks)) (ys := (ts.take (i + 1)).map V.str) (t' := s'.toks + 1) hP2 eP (by simp) (by rw [tk, List.map_append]; exact rP.append (.cons ⟨_, rfl⟩ .nil)) (by rw [List.length_map, List.length_take]; omega)
      exact this
end
/-- repr of such a list -/
def rReprL (X : Cx) (n : Nat) : List V → Hp → VK → Prop := fun xs H Q => ∃ (a : Addr) (vs : List V) (ts : List Str), xs = [.ref a] ∧ H a = some (.lst vs) ∧ vs ≠ [] ∧ ts.length = vs.length ∧ (∀ (i : Nat) (v : V), vs[i]? = some v → ∃ t, ts[i]? = some t ∧ It X n H v t) ∧ (listText ts).length ≤ sizeLine ∧ ∀ H', Same H H' → Q (.str (listText ts)) H'
theorem call_reprL {X : Cx} {n : Nat} (hg : X.A.guards = some []) (sb : Sub X (n + 1) X.A.in1) : CallR X (.builtin "repr") (rReprL X n) := by
  intro pins s σ H xs us Q I r h
  obtain ⟨a, vs, ts, rfl, ha, hne, hlen, hT, hsz, q⟩ := h
  obtain ⟨u, rfl, ru⟩ := vals1 r
  cases (show u = Value.ref a from ru)
  obtain ⟨z, its, na, rv, lv, ea⟩ := I.lstM ha
  obtain ⟨x, l, rfl⟩ : ∃ x l, its = x :: l := by
    cases its with
    | nil => cases vs with
      | nil => exact absurd rfl hne
      | cons => simp at lv
    | cons x l => exact ⟨x, l, rfl⟩
  have hTy : s.TypeIs (.ref a) "list" := ⟨_, ea, rfl⟩
  refine call_repr_slot (by have := sb.room.un; have : X.A.in1.units = X.A.units + 1 := rfl; omega) hTy F.slot_list_repr.toG ?_
  refine wpAny_call (codeAny_call_builtin F.slot_list_repr.plain F.entry_list_repr (F.slot_list_repr.check _ _ _ _ _ _ _ _ hTy (F.args_list_repr_1 _) ?_))
  show wpAny _ _ (Builtin.listReprAt 0 ⟨[.ref a], []⟩) _ _ _
  refine wpAny_list_repr_head (g := []) hg (fun v rest kw hm => nomatch hm) ea rfl ?_
  refine wpAny_bind (m := newList []) (wpAny_newObj_type ?_)
  refine wpAny_pure ⟨F.quiet_list_repr_loop _, ?_⟩
  have hP0 := I.fresh
  refine loop (base := 0) (R := fun r s' => match r with | .ok (.ret v) => ∃ x t, v = Value.str x t ∧ EP X pins σ Q v s' | .ok _ => False | .error e => X.xe e s') (pins := pins) (σ := σ) sb hP0 ha hlen hT (by omega) (fun s' H2 tk s2 I2 => ⟨_, _, rfl, .str (listText ts), H2, I2, ⟨tk, rfl⟩, q H2 s2⟩) vs.length 0 _ (upd H s.heap.objs.size (.lst [])) (by omega) (by omega) (fun b o e => by rw [upd_ne (ne_of_none e hP0)]; exact e) ?_ upd_same
  exact I.lnew .nil (by simp)
end RpL

/-! repr of lists within lists, in which instances with an own __repr__ stand: D is the part of the heap in which the value lives -/
namespace RpL
open PySem PySem.Spec PyProof.Rows L2 Builtin Builtin.List
def ItN (X : Cx) (n : Nat) (D : Hp) (v : V) (t : Str) : Prop :=
  ∀ (H1 : Hp), Same D H1 → ∀ (A : Around) (g : List Code), Sub X n A → A.guards = some g → (∀ b, D b ≠ none → Clear g b) → ∀ (pins : List (Addr × Obj)) (s : Shared) (σ : L2.St) (u : Value) (base : Nat) (Q : Str → Shared → Prop) (E : Value → Shared → Prop), Inv X pins σ H1 s → RelV v u → base + t.length ≤ sizeLine →
    (∀ (s' : Shared) (H2 : Hp), Same H1 H2 → Inv X pins σ H2 s' → Q t s') → wpAny (model X.prog X.w) A (pyReprUnder base u) Q E s
section
variable {X : Cx} {n : Nat} {H D : Hp}
theorem itN_of {v : V} {t : Str} (h : It X n D v t) : ItN X n D v t := fun H1 s1 A g sb _ _ pins s σ u base Q E I ru hb hQ => h H1 s1 A sb pins s σ u base Q E I ru hb hQ
theorem ItN.same {v : V} {t : Str} {D' : Hp} (h : ItN X n D v t) (sD : Same D D') : ItN X n D' v t := fun H1 s1 A g sb hg hc pins s σ u base Q E I ru hb hQ => h H1 (fun b o e => s1 _ _ (sD _ _ e)) A g sb hg (fun b hb => hc b (fun z => by
  cases e : D b with
  | none => exact hb e
  | some o =>
    rw [sD _ _ e] at z
    cases z)) pins s σ u base Q E I ru hb hQ
theorem ItN.mono {v : V} {t : Str} {m : Nat} (h : ItN X n D v t) (hm : n ≤ m) : ItN X m D v t := fun H1 s1 A g sb hg hc => h H1 s1 A g (sb.mono hm) hg hc
/-- what the library shows, over known places -/
theorem itN_k {v : V} {t : Str} (h : ∀ (pins : List (Addr × Obj)) (σ : L2.St) (s : Shared) (H1 : Hp) (u : Value), Inv X pins σ H1 s → Same D H1 → RelV v u → ∃ (as : List Addr) (d : Nat), ReprK X.prog X.w as s.heap d u t ∧ d ≤ 100 ∧ ∀ b ∈ as, D b ≠ none) : ItN X n D v t := by
  intro H1 s1 A g sb hg hc pins s σ u base Q E I ru hb hQ
  obtain ⟨as, d, hk, hd, ha⟩ := h pins σ s H1 u I s1 ru
  have hu := sb.room.un
  exact hk base hb A g E s Q hg (fun b hb => hc b (ha b hb)) (by omega) (fun _ _ e => e) fun h' tk hkp => hQ _ H1 (Same.refl _) (I.kept (t' := tk) hkp)
theorem loopN {g : List Code} {D0 : Hp} {A : Around} {R : Result → Shared → Prop} {a P : Addr} {vs : List V} {ts : List Str} {base : Nat} {pins : List (Addr × Obj)} {σ : L2.St} (sb : Sub X (n + 1) A) (hg : A.guards = some g) (hcl : ∀ b, D0 b ≠ none → Clear g b) (nA : D0 a = none) (sD : Same D0 H) (hP0 : H P = none) (ha : H a = some (.lst vs)) (hlen : ts.length = vs.length) (hT : ∀ (i : Nat) (v : V), vs[i]? = some v → ∃ t, ts[i]? = some t ∧ ItN X n D0 v t) (hsz : base + (listText ts).length ≤ sizeLine)
    (hR : ∀ (s' : Shared) (H2 : Hp) (tk : Tok), Same H H2 → Inv X pins σ H2 s' → R (.ok (.ret (.str (listText ts) tk))) s') :
    ∀ (k i : Nat) (s : Shared) (H1 : Hp), vs.length - i = k → i ≤ vs.length → Same H H1 → Inv X pins σ H1 s → H1 P = some (.lst ((ts.take i).map V.str)) →
    codeAny (model X.prog X.w) A (.builtin "list.__repr__.loop" ⟨[.ref a, rawInt i, .ref P, rawInt ((base + piled (ts.take i) : Nat) : Int)], []⟩) R s := by
  have hX : (listText ts).length = (textFrom 0 "[" ts).length + 1 := by
    show (textFrom 0 "[" ts ++ "]").length = _
    rw [strLen_append]; rfl
  have hL := textFrom_len ts 0 "["
  have hsz2 : ∀ t ∈ ts, t.length ≤ sizeLine := fun t ht => by
    have h2 := hL.2.1 t ht
    omega
  have hsz3 : (listText ts).length ≤ sizeLine := by omega
  have hp3 := piled_le_listText ts
  have vals_str : ∀ (l : List Str) (its : List Value), Vals (l.map V.str) its → ∃ d : List (Str × Tok), its = strValues d ∧ d.map (·.1) = l := by
    intro l
    induction l with
    | nil =>
      intro its h
      cases h
      exact ⟨[], rfl, rfl⟩
    | cons x r ih =>
      intro its h
      cases h with
      | cons a t =>
        obtain ⟨tk, rfl⟩ := a
        obtain ⟨d, rfl, e⟩ := ih _ t
        exact ⟨(x, tk) :: d, rfl, by rw [List.map_cons, e]⟩
  intro k
  induction k with
  | zero =>
    intro i s H1 hk hi s1 I hP
    have hin : i = vs.length := by omega
    obtain ⟨z, its, na, rv, lv, ea⟩ := I.lstM (s1 _ _ ha)
    obtain ⟨zP, itsP, nP, rP, lP, eP⟩ := I.lstM hP
    refine codeAny_builtin F.entry_list_repr_loop ?_
    show wpAny _ _ («list.__repr__.loop» ⟨[.ref a, .int i 0, .ref P, .int ((base + piled (ts.take i) : Nat) : Int) 0], []⟩) _ _ s
    rw [repr_loop_tree]
    refine wpAny_bind (wpAny_listItems ea rfl ?_)
    have hnone : its.toArray[(i : Int).toNat]? = none := by simp; omega
    simp only [hnone]
    unfold reprEnd
    refine wpAny_bind (wpAny_listItems eP rfl ?_)
    obtain ⟨d, rfl, ed⟩ := vals_str _ _ rP
    have hall : d.map (·.1) = ts := by rw [ed, hin, ← hlen, List.take_length]
    rw [List.toList_toArray, repr_fold]
    refine wpAny_bind (wpAny_pure ?_)
    rw [hall]
    refine wpAny_bind (wpAny_mkStr (wpAny_pure ?_) hsz3)
    exact hR _ H1 _ s1 (I.tok _)
  | succ k ih =>
    intro i s H1 hk hi s1 I hP
    have hlt : i < vs.length := by omega
    obtain ⟨z, its, na, rv, lv, ea⟩ := I.lstM (s1 _ _ ha)
    obtain ⟨t, ht, hit⟩ := hT i vs[i] (List.getElem?_eq_getElem hlt)
    have hp1 := piled_take_succ ht
    have hp2 := piled_take_le ts (i + 1)
    have hil : i < its.length := by omega
    have ru : RelV vs[i] its[i] := by
      obtain ⟨u, e, r⟩ := rv.get (List.getElem?_eq_getElem hlt)
      rw [List.getElem?_eq_getElem hil] at e
      cases e
      exact r
    refine codeAny_builtin F.entry_list_repr_loop ?_
    show wpAny _ _ («list.__repr__.loop» ⟨[.ref a, .int i 0, .ref P, .int ((base + piled (ts.take i) : Nat) : Int) 0], []⟩) _ _ s
    rw [repr_loop_tree]
    refine wpAny_bind (wpAny_listItems ea rfl ?_)
    have hsome : its.toArray[(i : Int).toNat]? = some its[i] := by simp [hil]
    simp only [hsome]
    rw [Int.toNat_natCast]
    refine wpAny_bind (wpAny_holding (hit H1 (Same.trans sD s1) _ _ (sub_under sb) (guards_under_guard (isGuard_list_loop _) hg) (fun b hb => (hcl b hb).cons (a := a) fun e => hb (by rw [← e]; exact nA)) pins s σ _ (base + piled (ts.take i) + 1) _ _ I ru (by omega) fun s' H2 s2 I2 => ?_))
    refine wpAny_bind (wpAny_mkStr ?_ (hsz2 t (List.mem_of_getElem? ht)))
    refine wpAny_bind ?_
    show wpAny _ _ (updateSeq P _) _ _ _
    have hP2 := s2 _ _ hP
    have I3 := I2.tok (s'.toks + 1)
    obtain ⟨zP, itsP, nP, rP, lP, eP⟩ := I3.lstM hP2
    have hasz : itsP.toArray.size ≤ sizeLine := by
      rw [List.size_toArray, ← lP, List.length_map, List.length_take]
      omega
    refine wpAny_updateSeq eP rfl (wpAny_pure ⟨F.quiet_list_repr_loop _, ?_⟩) hasz
    have e1 : ((i : Int) + 1) = ((i + 1 : Nat) : Int) := by omega
    have e2 : base + piled (ts.take i) + (t.length + 2) = base + piled (ts.take (i + 1)) := by omega
    rw [e1, e2]
    have tk : ts.take (i + 1) = ts.take i ++ [t] := by rw [List.take_add_one, ht]; rfl
    refine ih (i + 1) _ (upd H2 P (.lst ((ts.take (i + 1)).map V.str))) (by omega) hlt (fun b o e => ?_) ?_ upd_same
    · rw [upd_ne (ne_of_none e hP0)]
      exact s2 _ _ (s1 _ _ e)
    · have := I3.lset (its' := itsP ++ [Value.str t s'.toks]) (f := fun x => x.push (Value.str t s'.toks)) (ys := (ts.take (i + 1)).map V.str) (t' := s'.toks + 1) hP2 eP (by simp) (by rw [tk, List.map_append]; exact rP.append (.cons ⟨_, rfl⟩ .nil)) (by rw [List.length_map, List.length_take]; omega)
      exact this

/-- a list of such values, at a place in which they don't live -/
theorem itN_list {a : Addr} {vs : List V} {ts : List Str} (na : D a = none) (sD : Same D H) (ha : H a = some (.lst vs)) (hne : vs ≠ []) (hlen : ts.length = vs.length) (hT : ∀ (i : Nat) (v : V), vs[i]? = some v → ∃ t, ts[i]? = some t ∧ ItN X n D v t) : ItN X (n + 1) H (.ref a) (listText ts) := by
  intro H1 s1 A g sb hg hc pins s σ u base Q E I ru hb hQ
  cases (show u = Value.ref a from ru)
  have ha1 := s1 _ _ ha
  obtain ⟨z, its, nn, rv, lv, ea⟩ := I.lstM ha1
  obtain ⟨x, l, rfl⟩ : ∃ x l, its = x :: l := by
    cases its with
    | nil => cases vs with
      | nil => exact absurd rfl hne
      | cons => simp at lv
    | cons x l => exact ⟨x, l, rfl⟩
  have hTy : s.TypeIs (.ref a) "list" := ⟨_, ea, rfl⟩
  have hu := sb.room.un
  refine wpAny_pyReprUnder_ref (by omega) ?_
  refine wpAny_pyReprObjUnder_twin (twin := "list.__repr__.under") hTy F.slot_list_repr.toG rfl (by omega) ?_
  refine call_twin_plain F.plain_list_repr_under F.entry_list_repr_under F.check_list_repr_under hTy F.slot_list_repr.toG (F.args_list_repr_1 _) ?_
  refine wpAny_list_repr_head (g := g) hg (fun v rest kw hm => listSameRef_of_ne (hc a (by rw [ha]; simp) _ _ _ _ hm)) ea rfl ?_
  refine wpAny_bind (m := newList []) (wpAny_newObj_type ?_)
  refine wpAny_pure ⟨F.quiet_list_repr_loop _, ?_⟩
  have hP0 := I.fresh
  refine loopN (base := base) (g := g) (D0 := D) (H := H1) (R := callEnd (fun v s' => (∃ x u, v = Value.str x u) ∧ ∃ x u, v = Value.str x u ∧ Q x s') E) (pins := pins) (σ := σ) sb hg (fun b hb => hc b fun z => by
    cases e : D b with
    | none => exact hb e
    | some o =>
      rw [sD _ _ e] at z
      cases z) na (Same.trans sD s1) hP0 ha1 hlen hT hb (fun s' H2 tk s2 I2 => ⟨⟨_, _, rfl⟩, _, _, rfl, hQ s' H2 s2 I2⟩) vs.length 0 _ (upd H1 s.heap.objs.size (.lst [])) (by omega) (by omega) (fun b o e => by rw [upd_ne (ne_of_none e hP0)]; exact e) ?_ upd_same
  exact I.lnew .nil (by simp)
/-! ### flat data -/
theorem rk_all {prog : Program} {w : World} {h0 : Heap} : ∀ {vs : List V} {us : List Value} {ts : List Str}, (∀ (i : Nat) (v : V), vs[i]? = some v → ∃ t, ts[i]? = some t ∧ ∀ u, RelV v u → ReprIs prog w u t) → ts.length = vs.length → Vals vs us → ReprAllK prog w [] h0 0 us ts
  | [], _, ts, _, hl, .nil => by
    cases ts with
    | nil => exact .nil
    | cons _ _ => simp at hl
  | v :: vs, _, [], _, hl, .cons _ _ => by simp at hl
  | v :: vs, _, t :: ts, h, hl, .cons r rs => by
    obtain ⟨t', e, k⟩ := h 0 v rfl
    cases (Option.some.inj e)
    exact .cons (ReprK.of_is (k _ r) _ _ _) (rk_all (fun i v hv => h (i + 1) v hv) (by simpa using hl) rs)
theorem itN_tup {a : Addr} {vs : List V} {ts : List Str} (ha : D a = some (.tup vs)) (hlen : ts.length = vs.length) (hT : ∀ (i : Nat) (v : V), vs[i]? = some v → ∃ t, ts[i]? = some t ∧ ∀ u, RelV v u → ReprIs X.prog X.w u t) : ItN X n D (.ref a) (tupleText ts) := by
  refine itN_k fun pins σ s H1 u I sD ru => ?_
  cases (show u = Value.ref a from ru)
  obtain ⟨_, its, rv, o, e, c, m, hn⟩ := (show ObjOk X.prog X.w H1 s.heap a (.tup vs) from I.hok a _ (sD _ _ ha))
  exact ⟨[a], 1, ReprK.tuple e c hn (by simp) (by simpa using rk_all hT hlen rv), by decide, fun b hb => by rw [List.mem_singleton.mp hb, ha]; simp⟩
theorem itN_nil {a : Addr} (ha : D a = some (.lst [])) : ItN X n D (.ref a) "[]" := by
  refine itN_k fun pins σ s H1 u I sD ru => ?_
  cases (show u = Value.ref a from ru)
  obtain ⟨_, its, m, rv, e⟩ := (show ObjOk X.prog X.w H1 s.heap a (.lst []) from I.hok a _ (sD _ _ ha))
  cases rv
  exact ⟨[], 0, ReprK.listEmpty e rfl rfl, by decide, fun b hb => nomatch hb⟩
end
/-- repr of a list of such values -/
def rReprN (X : Cx) (n : Nat) : List V → Hp → VK → Prop := fun xs H Q => ∃ (a : Addr) (D : Hp) (vs : List V) (ts : List Str), xs = [.ref a] ∧ D a = none ∧ Same D H ∧ H a = some (.lst vs) ∧ vs ≠ [] ∧ ts.length = vs.length ∧ (∀ (i : Nat) (v : V), vs[i]? = some v → ∃ t, ts[i]? = some t ∧ ItN X n D v t) ∧ (listText ts).length ≤ sizeLine ∧ ∀ H', Same H H' → Q (.str (listText ts)) H'
theorem call_reprN {X : Cx} {n : Nat} (hg : X.A.guards = some []) (sb : Sub X (n + 1) X.A.in1) : CallR X (.builtin "repr") (rReprN X n) := by
  intro pins s σ H xs us Q I r h
  obtain ⟨a, D, vs, ts, rfl, na, sD, ha, hne, hlen, hT, hsz, q⟩ := h
  obtain ⟨u, rfl, ru⟩ := vals1 r
  cases (show u = Value.ref a from ru)
  obtain ⟨z, its, nn, rv, lv, ea⟩ := I.lstM ha
  obtain ⟨x, l, rfl⟩ : ∃ x l, its = x :: l := by
    cases its with
    | nil => cases vs with
      | nil => exact absurd rfl hne
      | cons => simp at lv
    | cons x l => exact ⟨x, l, rfl⟩
  have hTy : s.TypeIs (.ref a) "list" := ⟨_, ea, rfl⟩
  refine call_repr_slot (by have := sb.room.un; have : X.A.in1.units = X.A.units + 1 := rfl; omega) hTy F.slot_list_repr.toG ?_
  refine wpAny_call (codeAny_call_builtin F.slot_list_repr.plain F.entry_list_repr (F.slot_list_repr.check _ _ _ _ _ _ _ _ hTy (F.args_list_repr_1 _) ?_))
  show wpAny _ _ (Builtin.listReprAt 0 ⟨[.ref a], []⟩) _ _ _
  refine wpAny_list_repr_head (g := []) hg (fun v rest kw hm => nomatch hm) ea rfl ?_
  refine wpAny_bind (m := newList []) (wpAny_newObj_type ?_)
  refine wpAny_pure ⟨F.quiet_list_repr_loop _, ?_⟩
  have hP0 := I.fresh
  refine loopN (base := 0) (g := []) (D0 := D) (R := fun r s' => match r with | .ok (.ret v) => ∃ x t, v = Value.str x t ∧ EP X pins σ Q v s' | .ok _ => False | .error e => X.xe e s') (pins := pins) (σ := σ) sb hg (fun b _ => Clear.nil b) na sD hP0 ha hlen hT (by omega) (fun s' H2 tk s2 I2 => ⟨_, _, rfl, .str (listText ts), H2, I2, ⟨tk, rfl⟩, q H2 s2⟩) vs.length 0 _ (upd H s.heap.objs.size (.lst [])) (by omega) (by omega) (fun b o e => by rw [upd_ne (ne_of_none e hP0)]; exact e) ?_ upd_same
  exact I.lnew .nil (by simp)
end RpL

/-! plain data as it is shown within lists in which own instances stand; the part of a heap without its tables -/
namespace RpL
open PySem PySem.Spec PyProof.Rows L2 Builtin Builtin.List Gd
section
variable {X : Cx} {n : Nat} {D H1 : Hp} {pins : List (Addr × Obj)} {σ : L2.St} {s : Shared}
mutual
theorem dq_rk (I : Inv X pins σ H1 s) (sD : Same D H1) (no : D sysModules = none) : ∀ {v : V} {d : PyData} {u : Value}, Dq D v d → RelV v u → d.showable = true → d.shown.length ≤ sizeLine →
    ∃ bs, ReadAtMost s.heap d.depth bs ∧ ReprK X.prog X.w bs s.heap d.depth u d.shown ∧ ∀ b ∈ bs, D b ≠ none
  | _, _, _, .non, r, _, _ => by
    cases r
    refine ⟨[], (fun _ z => nomatch z), ?_, fun _ z => nomatch z⟩
    rw [PyData.shown]
    exact ReprK.of_is .none _ _ _
  | _, _, _, .bl b, r, _, _ => by
    cases r
    refine ⟨[], (fun _ z => nomatch z), ?_, fun _ z => nomatch z⟩
    rw [PyData.shown]
    exact ReprK.of_is (.bool b) _ _ _
  | _, _, _, .int i, r, sh, _ => by
    obtain ⟨t, rfl⟩ := r
    refine ⟨[], (fun _ z => nomatch z), ?_, fun _ z => nomatch z⟩
    rw [PyData.shown]
    exact ReprK.of_is (.int t (by simpa [PyData.showable] using sh)) _ _ _
  | _, _, _, .str x, r, _, ln => by
    obtain ⟨t, rfl⟩ := r
    refine ⟨[], (fun _ z => nomatch z), ?_, fun _ z => nomatch z⟩
    rw [PyData.shown] at ln ⊢
    exact ReprK.of_is (.str x t ln) _ _ _
  | _, _, u, .lst (a := a) (xs := xs) (ds := ds) ha hd, r, sh, ln => by
    cases (show u = Value.ref a from r)
    rw [PyData.shown] at ln
    obtain ⟨_, its, m, rv, e⟩ := (show ObjOk X.prog X.w H1 s.heap a (.lst xs) from I.hok a _ (sD _ _ ha))
    obtain ⟨bs, b1, b2, b3⟩ := dqa_rk I sD no hd rv (by simpa [PyData.showable] using sh) fun t ht => Nat.le_trans (listText_mem_le ht) ln
    obtain ⟨as, rr, _⟩ := Dq.reads I (u := .ref a) (Dq.same sD (.lst ha hd)) rfl
    have na : a ∉ bs := not_mem_of_deeper rr (by simp only [PyData.depth]; omega) b1
    refine ⟨a :: bs, ReadAtMost.cons rr (by simp only [PyData.depth]; omega) b1, ?_, fun b hb => ?_⟩
    · simp only [PyData.depth, PyData.shown]
      cases its with
      | nil =>
        cases rv
        cases hd
        simp only [PyData.shownAll, listText_nil]
        exact .listEmpty e rfl rfl
      | cons y l => exact .list e rfl rfl na (by simpa using b2.length_eq) fun i z q => b2.item i z (by simpa using q)
    · rcases List.mem_cons.mp hb with rfl | hb
      · rw [ha]; simp
      · exact b3 b hb
  | _, _, u, .tup (a := a) (xs := xs) (ds := ds) ha hd, r, sh, ln => by
    cases (show u = Value.ref a from r)
    rw [PyData.shown] at ln
    obtain ⟨_, its, rv, o, e, c, m, hn⟩ := (show ObjOk X.prog X.w H1 s.heap a (.tup xs) from I.hok a _ (sD _ _ ha))
    obtain ⟨bs, b1, b2, b3⟩ := dqa_rk I sD no hd rv (by simpa [PyData.showable] using sh) fun t ht => Nat.le_trans (tupleText_mem_le ht) ln
    obtain ⟨as, rr, _⟩ := Dq.reads I (u := .ref a) (Dq.same sD (.tup ha hd)) rfl
    have na : a ∉ bs := not_mem_of_deeper rr (by simp only [PyData.depth]; omega) b1
    refine ⟨a :: bs, ReadAtMost.cons rr (by simp only [PyData.depth]; omega) b1, ?_, fun b hb => ?_⟩
    · simp only [PyData.depth, PyData.shown]
      exact .tuple e c hn na (by simpa using b2)
    · rcases List.mem_cons.mp hb with rfl | hb
      · rw [ha]; simp
      · exact b3 b hb
  | _, _, u, .dct (a := a) ha, r, _, _ => by
    cases (show u = Value.ref a from r)
    obtain ⟨_, _, vs, kv, o, es, ep, e, hx, hdt, _, hes, _⟩ := (show ObjOk X.prog X.w H1 s.heap a (.dK []) from I.hok a _ (sD _ _ ha))
    cases kv
    have e0 : es.toList = [] := by
      generalize es.toList = zs at hes
      cases hes
      rfl
    have ns : (a == sysModules) = false := beq_eq_false_iff_ne.mpr fun z => by
      rw [z, no] at ha
      cases ha
    obtain ⟨as, rr, _⟩ := Dq.reads I (u := .ref a) (Dq.same sD (.dct ha)) rfl
    refine ⟨[a], ReadAtMost.cons rr (Nat.le_refl _) (fun _ z => nomatch z), ?_, fun b hb => by rw [List.mem_singleton.mp hb, ha]; simp⟩
    have k := ReprK.dict (prog := X.prog) (w := X.w) (as := []) (d := 0) (ps := []) e hx.1 hdt ns (by simp) (by rw [e0]; exact .nil)
    simp only [PyData.depth, PyData.shown, PyData.shownKv, PyData.depthKv]
    exact k
theorem dqa_rk (I : Inv X pins σ H1 s) (sD : Same D H1) (no : D sysModules = none) : ∀ {vs : List V} {ds : List PyData} {us : List Value}, DqA D vs ds → Vals vs us → PyData.showableAll ds = true → (∀ t ∈ PyData.shownAll ds, t.length ≤ sizeLine) →
    ∃ bs, ReadAtMost s.heap (PyData.depthAll ds) bs ∧ ReprAllK X.prog X.w bs s.heap (PyData.depthAll ds) us (PyData.shownAll ds) ∧ ∀ b ∈ bs, D b ≠ none
  | _, _, _, .nil, r, _, _ => by
    cases r
    refine ⟨[], (fun _ z => nomatch z), ?_, fun _ z => nomatch z⟩
    rw [PyData.shownAll]
    exact .nil
  | _, _, _, .cons (d := d) (ds := ds) hd ht, .cons r rt, sh, ln => by
    have sh2 : d.showable = true ∧ PyData.showableAll ds = true := by simpa [PyData.showableAll] using sh
    obtain ⟨b1, h1, k1, m1⟩ := dq_rk I sD no hd r sh2.1 (ln _ (by simp only [PyData.shownAll]; exact List.mem_cons_self))
    obtain ⟨b2, h2, k2, m2⟩ := dqa_rk I sD no ht rt sh2.2 fun t q => ln t (by simp only [PyData.shownAll]; exact List.mem_cons_of_mem _ q)
    refine ⟨b1 ++ b2, fun b q => ?_, ?_, fun b q => (List.mem_append.mp q).elim (m1 b) (m2 b)⟩
    · simp only [PyData.depthAll]
      rcases List.mem_append.mp q with q | q
      · obtain ⟨e, as, x, y⟩ := h1 b q
        exact ⟨e, as, x, Nat.le_trans y (Nat.le_max_left _ _)⟩
      · obtain ⟨e, as, x, y⟩ := h2 b q
        exact ⟨e, as, x, Nat.le_trans y (Nat.le_max_right _ _)⟩
    · simp only [PyData.depthAll, PyData.shownAll]
      exact .cons ((k1.more fun b q => List.mem_append_left _ q).level_le (Nat.le_max_left _ _)) (k2.more_le (fun b q => List.mem_append_right _ q) (Nat.le_max_right _ _))
end
end
/-- plain data -/
theorem itN_dq {X : Cx} {n : Nat} {D : Hp} {v : V} {d : PyData} {m k : Nat} {ob : Obj} (sm : X.base.get? sysModules = some ob) (h : Dq D v d) (sw : SkT.Sw m k d) (hm : m ≤ sizeLine) (hk : k ≤ 100) : ItN X n D v d.shown := by
  refine itN_k fun pins σ s H1 u I sD ru => ?_
  have no : D sysModules = none := by
    cases e : D sysModules with
    | none => rfl
    | some o =>
      have q := sD _ _ e
      rw [(I.env0.bs _ _ sm).2] at q
      cases q
  obtain ⟨bs, _, b2, b3⟩ := dq_rk I sD no h ru sw.sh (Nat.le_trans sw.ln hm)
  exact ⟨bs, _, b2, Nat.le_trans sw.dp hk, b3⟩
/-! ### the part of a heap without its tables and some places -/
def cut (as : List Addr) (H : Hp) : Hp := fun b => if b ∈ as then none else match H b with | some (.tbl _) => none | z => z
theorem cut_at {as : List Addr} {H : Hp} {b : Addr} {o : HO} (n : b ∉ as) (h : H b = some o) (t : ∀ ps, o ≠ .tbl ps) : cut as H b = some o := by
  unfold cut
  rw [if_neg n, h]
  cases o with
  | tbl ps => exact absurd rfl (t ps)
  | _ => rfl
theorem cut_of {as : List Addr} {H : Hp} {b : Addr} {o : HO} (h : cut as H b = some o) : b ∉ as ∧ H b = some o ∧ ∀ ps, o ≠ .tbl ps := by
  unfold cut at h
  split at h
  · cases h
  · rename_i n
    refine ⟨n, ?_⟩
    cases e : H b with
    | none => rw [e] at h; cases h
    | some q =>
      rw [e] at h
      cases q with
      | tbl ps => cases h
      | _ => cases h; exact ⟨rfl, by intro ps z; cases z⟩
theorem cut_up {as : List Addr} {H : Hp} : Same (cut as H) H := fun _ _ h => (cut_of h).2.1
theorem cut_no {as : List Addr} {H : Hp} {b : Addr} (h : b ∈ as) : cut as H b = none := if_pos h
theorem cut_none {as : List Addr} {H : Hp} {b : Addr} (h : H b = none) : cut as H b = none := by
  cases e : cut as H b with
  | none => rfl
  | some o => rw [(cut_of e).2.1] at h; cases h
theorem cut_same {as : List Addr} {H H' : Hp} (f : ∀ b o, b ∉ as → (∀ ps, o ≠ .tbl ps) → H b = some o → H' b = some o) : Same (cut as H) (cut as H') := fun b o h => by
  obtain ⟨n, e, t⟩ := cut_of h
  exact cut_at n (f b o n t e) t
theorem cut_keep {as : List Addr} {H H' : Hp} (f : ∀ b o, b ∉ as → (∀ ps, o ≠ .tbl ps) → H b = some o → H' b = some o) : Same (cut as H) H' := fun b o h => by
  obtain ⟨n, e, t⟩ := cut_of h
  exact f b o n t e
end RpL

/-! lists of rows that a law gathers, and the heap without one place -/
namespace Sn
open PySem L2 Gd RpA SkT
/-! ### the heap without what stands at j -/
def Hj (j : Addr) (H : Hp) : Hp := fun b => if b = j then none else H b
theorem hj_at {j a : Addr} {H : Hp} {o : HO} (n : a ≠ j) (h : H a = some o) : Hj j H a = some o := by
  unfold Hj
  rw [if_neg n]
  exact h
theorem hj_of {j a : Addr} {H : Hp} {o : HO} (h : Hj j H a = some o) : a ≠ j ∧ H a = some o := by
  unfold Hj at h
  split at h
  · cases h
  · exact ⟨by assumption, h⟩
theorem hj_off {j : Addr} {H H' : Hp} (f : ∀ b o, b ≠ j → H b = some o → H' b = some o) : Same (Hj j H) (Hj j H') := fun b o h => by
  obtain ⟨n, e⟩ := hj_of h
  exact hj_at n (f b o n e)
theorem hj_same {j : Addr} {H H' : Hp} (s : Same H H') : Same (Hj j H) (Hj j H') := hj_off fun b o _ e => s b o e
theorem hj_up {j : Addr} {H : Hp} : Same (Hj j H) H := fun b o h => (hj_of h).2
/-! ### rows -/
inductive Rows (H : Hp) : List V → List (List V) → Prop
  | nil : Rows H [] []
  | cons {q : Addr} {r : List V} {xs : List V} {rs : List (List V)} (h : H q = some (.lst r)) (t : Rows H xs rs) : Rows H (.ref q :: xs) (r :: rs)
theorem Rows.ext {H H' : Hp} (s : LamX.ExtN H H') : ∀ {xs rs}, Rows H xs rs → Rows H' xs rs
  | _, _, .nil => .nil
  | _, _, .cons h t => .cons (s _ _ h (by intro ps z; cases z)) (t.ext s)
theorem Rows.len {H : Hp} : ∀ {xs rs}, Rows H xs rs → xs.length = rs.length
  | _, _, .nil => rfl
  | _, _, .cons _ t => congrArg (· + 1) t.len
theorem Rows.snoc {H : Hp} {q : Addr} {r : List V} (h : H q = some (.lst r)) : ∀ {xs rs}, Rows H xs rs → Rows H (xs ++ [.ref q]) (rs ++ [r])
  | _, _, .nil => .cons h .nil
  | _, _, .cons a t => .cons a (t.snoc h)
theorem Rows.app {H : Hp} : ∀ {xs ys rs ss}, Rows H xs rs → Rows H ys ss → Rows H (xs ++ ys) (rs ++ ss)
  | _, _, _, _, .nil, b => b
  | _, _, _, _, .cons a t, b => .cons a (t.app b)
/-- a row begins with a word -/
def Wd (r : List V) : Prop := ∃ (s : Str) (t : List V), r = .str s :: t
theorem Rows.ne {H : Hp} {D q : Addr} {acc r : List V} {as : List (List V)} (hD : H D = some (.lst acc)) (ha : Rows H acc as) (w : Wd r) (h : H q = some (.lst r)) : q ≠ D := fun z => by
  obtain ⟨s, t, rfl⟩ := w
  rw [z, hD] at h
  cases ha <;> cases h
theorem Rows.put {H : Hp} {D : Addr} {acc ys : List V} {as : List (List V)} (hD : H D = some (.lst acc)) (ha : Rows H acc as) : ∀ {xs rs}, (∀ r ∈ rs, Wd r) → Rows H xs rs → Rows (upd H D (.lst ys)) xs rs
  | _, _, _, .nil => .nil
  | _, _, w, .cons h t => .cons (by rw [upd_ne (Rows.ne hD ha (w _ List.mem_cons_self) h)]; exact h) (Rows.put hD ha (fun r hr => w r (List.mem_cons_of_mem _ hr)) t)
theorem tabs_put {T : List (Addr × Str)} {H : Hp} {q : Addr} {ys zs : List V} (hq : H q = some (.lst ys)) (h : LamX.Tabs T H) : LamX.Tabs T (upd H q (.lst zs)) := fun p hp => by
  obtain ⟨ps, a1, a2, a3⟩ := h p hp
  refine ⟨ps, by rw [upd_ne (ne_of a1 hq (by intro z; cases z))]; exact a1, a2, fun pos cv hcv => ?_⟩
  obtain ⟨c, e, hc⟩ := a3 pos cv hcv
  exact ⟨c, e, by rw [upd_ne (ne_of hc hq (by intro z; unfold LamX.CodeO at z; cases z))]; exact hc⟩
/-- the list of what came, so far -/
structure Seen (T : List (Addr × Str)) (Ha H : Hp) (sq : Addr) (xs : List V) (rs : List (List V)) : Prop where
  ext : LamX.ExtN Ha H
  tab : LamX.Tabs T H
  at_ : H sq = some (.lst xs)
  row : Rows H xs rs
  wd : ∀ r ∈ rs, Wd r
theorem new_ne {Ha Hb : Hp} {sq : Addr} (e : LamX.ExtN Ha Hb) (n : Hb sq = none) : ∀ b o, Ha b = some o → (∀ ps, o ≠ .tbl ps) → b ≠ sq := fun b o h t => ne_of_none (e b o h t) n
theorem Seen.first {T : List (Addr × Str)} {Ha Hb : Hp} {sq p : Addr} {r : List V} (e : LamX.ExtN Ha Hb) (t : LamX.Tabs T Hb) (hp : Hb p = some (.lst r)) (w : Wd r) (n : Hb sq = none) : Seen T Ha (upd Hb sq (.lst [.ref p])) sq [.ref p] [r] := by
  have s : Same Hb (upd Hb sq (.lst [.ref p])) := fun b o q => by rw [upd_ne (ne_of_none q n)]; exact q
  exact ⟨e.trans (ext_same s), t.ext s, upd_same, .cons (s _ _ hp) .nil, fun r' h => by rw [List.mem_singleton.mp h]; exact w⟩
theorem Seen.step {T : List (Addr × Str)} {Ha H H1 : Hp} {sq p : Addr} {xs r : List V} {rs : List (List V)} (s : Seen T Ha H sq xs rs) (nq : ∀ b o, Ha b = some o → (∀ ps, o ≠ .tbl ps) → b ≠ sq) (e1 : LamX.ExtN H H1) (T1 : LamX.Tabs T H1) (hp : H1 p = some (.lst r)) (w : Wd r) :
    H1 sq = some (.lst xs) ∧ Seen T Ha (upd H1 sq (.lst (xs ++ [.ref p]))) sq (xs ++ [.ref p]) (rs ++ [r]) := by
  have h1 : H1 sq = some (.lst xs) := e1 _ _ s.at_ (by intro ps z; cases z)
  have r1 := s.row.ext e1
  have w' : ∀ r' ∈ rs ++ [r], Wd r' := fun r' h => (List.mem_append.mp h).elim (s.wd r') fun z => by rw [List.mem_singleton.mp z]; exact w
  refine ⟨h1, fun b o h n => ?_, tabs_put h1 T1, upd_same, ?_, w'⟩
  · rw [upd_ne (nq b o h n)]
    exact e1 _ _ (s.ext b o h n) n
  · exact Rows.snoc (by rw [upd_ne (Rows.ne h1 r1 w hp)]; exact hp) (Rows.put h1 r1 s.wd r1)
/-- rows as data -/
inductive DqR (H : Hp) : List (List V) → List PyData → Prop
  | nil : DqR H [] []
  | cons {r : List V} {ds : List PyData} {rs : List (List V)} {es : List PyData} (h : DqA H r ds) (t : DqR H rs es) : DqR H (r :: rs) (.list ds :: es)
theorem Rows.dq {H : Hp} : ∀ {xs rs es}, Rows H xs rs → DqR H rs es → DqA H xs es
  | _, _, _, .nil, .nil => .nil
  | _, _, _, .cons h t, .cons a b => .cons (.lst h a) (t.dq b)
theorem DqR.ext {H H' : Hp} (s : LamX.ExtN H H') : ∀ {rs es}, DqR H rs es → DqR H' rs es
  | _, _, .nil => .nil
  | _, _, .cons h t => .cons (dqa_ext s h) (t.ext s)
end Sn

/-! lists of rows that a law gathers, over the part D of the heap in which the values live; their repr -/
namespace RpL
open PySem PySem.Spec PyProof.Rows L2 Gd RpA SkT
def NoTb (D : Hp) : Prop := ∀ b ps, D b ≠ some (.tbl ps)
theorem cut_tb {as : List Addr} {H : Hp} : NoTb (cut as H) := fun _ ps z => (cut_of z).2.2 ps rfl
/-- p was free -/
def Fr (H : Hp) (p : Addr) : Prop := ∀ b o, H b = some o → (∀ ps, o ≠ .tbl ps) → b ≠ p
theorem Fr.none {D H : Hp} {p : Addr} (f : Fr H p) (s : Same D H) (t : NoTb D) : D p = none := by
  cases e : D p with
  | none => rfl
  | some o => exact absurd rfl (f _ _ (s _ _ e) fun ps z => t p ps (by rw [e, z]))
theorem free_of {D H : Hp} {p : Addr} (s : Same D H) (n : H p = none) : D p = none := by
  cases e : D p with
  | none => rfl
  | some o => rw [s _ _ e] at n; cases n
theorem sub_ext {D H H' : Hp} (t : NoTb D) (s : Same D H) (e : LamX.ExtN H H') : Same D H' := fun b o h => e _ _ (s _ _ h) fun ps z => t b ps (by rw [h, z])
/-- what a refused call gives: its row at a new place -/
def Got (Tb : List (Addr × Str)) (H : Hp) (row : List V) (Q : VK) : Prop := ∀ (H1 : Hp) (p : Addr), LamX.ExtN H H1 → LamX.Tabs Tb H1 → H1 p = some (.lst row) → Fr H p → Q (.ref p) H1
theorem got_of {Tb : List (Addr × Str)} {H H1 H2 : Hp} {row : List V} {Q : VK} {p : Addr} (g : Got Tb H row Q) (e1 : LamX.ExtN H H1) (T1 : LamX.Tabs Tb H1) (s : Same H1 H2) (np : H2 p = none) : Q (.ref p) (upd H2 p (.lst row)) := by
  have s2 : Same H2 (upd H2 p (.lst row)) := fun b o q => by rw [upd_ne (ne_of_none q np)]; exact q
  have s3 : Same H1 (upd H2 p (.lst row)) := fun b o q => s2 _ _ (s _ _ q)
  exact g _ p (e1.trans (ext_same s3)) (T1.ext s3) upd_same fun b o h t => ne_of_none (s _ _ (e1 _ _ h t)) np
/-- rows away from D and from the place of their list -/
inductive RowsD (D : Hp) (sq : Addr) (H : Hp) : List V → List (List V) → Prop
  | nil : RowsD D sq H [] []
  | cons {q : Addr} {r : List V} {xs : List V} {rs : List (List V)} (h : H q = some (.lst r)) (n : D q = none) (m : q ≠ sq) (t : RowsD D sq H xs rs) : RowsD D sq H (.ref q :: xs) (r :: rs)
theorem RowsD.mono {D : Hp} {sq : Addr} {H H' : Hp} (f : ∀ b xs, b ≠ sq → H b = some (.lst xs) → H' b = some (.lst xs)) : ∀ {xs rs}, RowsD D sq H xs rs → RowsD D sq H' xs rs
  | _, _, .nil => .nil
  | _, _, .cons h n m t => .cons (f _ _ m h) n m (t.mono f)
theorem RowsD.snoc {D : Hp} {sq : Addr} {H : Hp} {q : Addr} {r : List V} (h : H q = some (.lst r)) (n : D q = none) (m : q ≠ sq) : ∀ {xs rs}, RowsD D sq H xs rs → RowsD D sq H (xs ++ [.ref q]) (rs ++ [r])
  | _, _, .nil => .cons h n m .nil
  | _, _, .cons a b c t => .cons a b c (t.snoc h n m)
theorem RowsD.len {D : Hp} {sq : Addr} {H : Hp} : ∀ {xs rs}, RowsD D sq H xs rs → xs.length = rs.length
  | _, _, .nil => rfl
  | _, _, .cons _ _ _ t => congrArg (· + 1) t.len
structure SeenD (T : List (Addr × Str)) (D H : Hp) (sq : Addr) (xs : List V) (rs : List (List V)) : Prop where
  sub : Same D H
  tab : LamX.Tabs T H
  at_ : H sq = some (.lst xs)
  nsq : D sq = none
  row : RowsD D sq H xs rs
section
variable {T : List (Addr × Str)} {D Ha Hb H H1 : Hp} {sq p : Addr} {r xs : List V} {rs : List (List V)}
theorem SeenD.first (tb : NoTb D) (sD : Same D Ha) (e : LamX.ExtN Ha Hb) (t : LamX.Tabs T Hb) (hp : Hb p = some (.lst r)) (fr : Fr Ha p) (n : Hb sq = none) : SeenD T D (upd Hb sq (.lst [.ref p])) sq [.ref p] [r] := by
  have s : Same Hb (upd Hb sq (.lst [.ref p])) := fun b o q => by rw [upd_ne (ne_of_none q n)]; exact q
  have sb := sub_ext tb sD e
  exact ⟨fun b o h => s _ _ (sb _ _ h), t.ext s, upd_same, free_of sb n, .cons (s _ _ hp) (fr.none sD tb) (ne_of_none hp n) .nil⟩
theorem SeenD.step (tb : NoTb D) (s : SeenD T D H sq xs rs) (e1 : LamX.ExtN H H1) (T1 : LamX.Tabs T H1) (hp : H1 p = some (.lst r)) (fr : Fr H p) :
    H1 sq = some (.lst xs) ∧ SeenD T D (upd H1 sq (.lst (xs ++ [.ref p]))) sq (xs ++ [.ref p]) (rs ++ [r]) := by
  have h1 : H1 sq = some (.lst xs) := e1 _ _ s.at_ (by intro ps z; cases z)
  have ne : p ≠ sq := (fr _ _ s.at_ (by intro ps z; cases z)).symm
  refine ⟨h1, fun b o h => ?_, Sn.tabs_put h1 T1, upd_same, s.nsq, ?_⟩
  · rw [upd_ne (ne_of_none h s.nsq)]
    exact sub_ext tb s.sub e1 _ _ h
  · refine RowsD.snoc (by rw [upd_ne ne]; exact hp) (fr.none s.sub tb) ne (s.row.mono fun b ys m h => ?_)
    rw [upd_ne m]
    exact e1 _ _ h (by intro ps z; cases z)
end
/-- texts of rows -/
inductive TxtsD (X : Cx) (n : Nat) (D : Hp) : List (List V) → List (List Str) → Prop
  | nil : TxtsD X n D [] []
  | cons {r : List V} {ts : List Str} {rs : List (List V)} {tss : List (List Str)} (ne : r ≠ []) (l : ts.length = r.length) (h : ∀ (i : Nat) (v : V), r[i]? = some v → ∃ t, ts[i]? = some t ∧ ItN X n D v t) (t : TxtsD X n D rs tss) : TxtsD X n D (r :: rs) (ts :: tss)
theorem rows_it {X : Cx} {n : Nat} {D Hs : Hp} {sq : Addr} (sD : Same D (Sn.Hj sq Hs)) : ∀ {xs : List V} {rs : List (List V)} {tss : List (List Str)}, RowsD D sq Hs xs rs → TxtsD X n D rs tss → (tss.map listText).length = xs.length ∧ ∀ (i : Nat) (v : V), xs[i]? = some v → ∃ t, (tss.map listText)[i]? = some t ∧ ItN X (n + 1) (Sn.Hj sq Hs) v t
  | _, _, _, .nil, .nil => ⟨rfl, fun i v h => by simp at h⟩
  | _, _, _, .cons h n m t, .cons ne l hh tt => by
    obtain ⟨a, b⟩ := rows_it sD t tt
    refine ⟨by rw [List.map_cons, List.length_cons, a, List.length_cons], fun i v hv => ?_⟩
    cases i with
    | zero =>
      cases hv
      exact ⟨_, rfl, itN_list n sD (Sn.hj_at m h) ne l hh⟩
    | succ i => exact b i v hv
/-- repr of a list of rows -/
theorem repr_rows {X : Cx} {n : Nat} {D Hs : Hp} {sq : Addr} {xs : List V} {rs : List (List V)} {tss : List (List Str)} {Q : VK} (sD : Same D Hs) (nq : D sq = none) (hq : Hs sq = some (.lst xs)) (row : RowsD D sq Hs xs rs) (tx : TxtsD X n D rs tss) (ne : xs ≠ []) (sz : (listText (tss.map listText)).length ≤ sizeLine)
    (q : ∀ H', Same Hs H' → Q (.str (listText (tss.map listText))) H') : rReprN X (n + 1) [.ref sq] Hs Q := by
  have s' : Same D (Sn.Hj sq Hs) := fun b o e => Sn.hj_at (ne_of_none e nq) (sD _ _ e)
  obtain ⟨a, b⟩ := rows_it s' row tx
  exact ⟨sq, Sn.Hj sq Hs, xs, _, rfl, by simp [Sn.Hj], Sn.hj_up, hq, ne, a, b, sz, q⟩
/-- a row of a name, a value and True -/
theorem row3 {X : Cx} {n : Nat} {D : Hp} {nm : Str} {v : V} {t : Str} (hn : (reprText nm).length ≤ sizeLine) (h : ItN X n D v t) : ∀ (i : Nat) (y : V), ([.str nm, v, .bl true] : List V)[i]? = some y → ∃ u, ([reprText nm, t, "True"] : List Str)[i]? = some u ∧ ItN X n D y u := by
  intro i y hy
  match i, hy with
  | 0, h => cases h; exact ⟨_, rfl, itN_of (it_str hn)⟩
  | 1, e => cases e; exact ⟨_, rfl, h⟩
  | 2, h => cases h; exact ⟨("True" : Str), rfl, itN_of (it_bl true)⟩
  | k + 3, h => cases h
theorem row_len {nm t : Str} {a : Nat} (hn : (reprText nm).length ≤ 40) (ht : t.length ≤ a) : (listText [reprText nm, t, "True"]).length ≤ a + 100 := by
  have b1 := list_le [reprText nm, t, "True"]
  have b5 : ("True" : Str).length ≤ 30 := by decide +kernel
  simp only [List.map_cons, List.map_nil, List.sum_cons, List.sum_nil] at b1
  omega
theorem len2 {a b : Str} {n : Nat} (h1 : a.length ≤ n) (h2 : b.length ≤ n) (hn : n ≤ 200) : (listText [a, b]).length ≤ sizeLine := by
  have b1 := list_le [a, b]
  simp only [List.map_cons, List.map_nil, List.sum_cons, List.sum_nil] at b1
  exact Cm.szl (by omega)
theorem len3 {a b c : Str} {n : Nat} (h1 : a.length ≤ n) (h2 : b.length ≤ n) (h3 : c.length ≤ n) (hn : n ≤ 200) : (listText [a, b, c]).length ≤ sizeLine := by
  have b1 := list_le [a, b, c]
  simp only [List.map_cons, List.map_nil, List.sum_cons, List.sum_nil] at b1
  exact Cm.szl (by omega)
end RpL

namespace My
open PySem L2 Cm LM IsX Gd RpA SkT Sn CmH EM CH
section
variable {K : PySem.W.Frag} {mg : Str → Option Value}
/-! ### data and their types -/
theorem typedI_bl {H : Hp} (i : Bool) : TypedI K H (.bl i) := ⟨_, .base (.bl i), kit_ty (show kitB "bool" "int" = some true by decide +kernel), kit_ty (show kitB "bool" "bool" = some true by decide +kernel)⟩
theorem typedI_dq {H : Hp} {v : V} {d : PyData} (q : Dq H v d) : TypedI K H v := by
  have t := dq_ty (K := K) q
  cases q with
  | bl b => exact typedI_bl b
  | int i => exact typed_int i
  | non => exact ⟨_, t, kit_ty (show kitB "NoneType" "int" = some false by decide +kernel), kit_ty (show kitB "NoneType" "bool" = some false by decide +kernel)⟩
  | str x => exact ⟨_, t, kit_ty (show kitB "str" "int" = some false by decide +kernel), kit_ty (show kitB "str" "bool" = some false by decide +kernel)⟩
  | lst h _ => exact ⟨_, t, kit_ty (show kitB "list" "int" = some false by decide +kernel), kit_ty (show kitB "list" "bool" = some false by decide +kernel)⟩
  | tup h _ => exact ⟨_, t, kit_ty (show kitB "tuple" "int" = some false by decide +kernel), kit_ty (show kitB "tuple" "bool" = some false by decide +kernel)⟩
  | dct h => exact ⟨_, t, kit_ty (show kitB "dict" "int" = some false by decide +kernel), kit_ty (show kitB "dict" "bool" = some false by decide +kernel)⟩
theorem typedS_dq {H : Hp} {v : V} {d : PyData} (q : Dq H v d) : Typed K H v := by
  have t := dq_ty (K := K) q
  cases q with
  | str x => exact typed_str x
  | bl b => exact ⟨_, t, kit_ty (show kitB "bool" "str" = some false by decide +kernel)⟩
  | int i => exact ⟨_, t, kit_ty (show kitB "int" "str" = some false by decide +kernel)⟩
  | non => exact ⟨_, t, kit_ty (show kitB "NoneType" "str" = some false by decide +kernel)⟩
  | lst h _ => exact ⟨_, t, kit_ty (show kitB "list" "str" = some false by decide +kernel)⟩
  | tup h _ => exact ⟨_, t, kit_ty (show kitB "tuple" "str" = some false by decide +kernel)⟩
  | dct h => exact ⟨_, t, kit_ty (show kitB "dict" "str" = some false by decide +kernel)⟩
/-- no built-in thing is an instance of the class at C -/
def NoB (K : PySem.W.Frag) (C : Addr) : Prop := ∀ d : PyData, PySem.W.kitOne K (.type (tyN d)) (.ref C) = some false
theorem noIn_dq {C : Addr} {H : Hp} {v : V} {d : PyData} (N : NoB K C) (q : Dq H v d) : NoIn K C H v := ⟨_, dq_ty q, N d⟩
theorem noIn_lst {C : Addr} {H : Hp} {a : Addr} {xs : List V} (N : NoB K C) (h : H a = some (.lst xs)) : NoIn K C H (.ref a) := ⟨_, .base (.lst h), N (.list [])⟩
theorem LoopAt.ext {C : Addr} {H H' : Hp} {o : Addr} {t : Str} (s : LamX.ExtN H H') (h : LoopAt C H o t) : LoopAt C H' o t := by
  have f : ∀ (p : Addr) (xs : List V), H p = some (.tup xs) → H' p = some (.tup xs) := fun p xs e => s _ _ e (by intro ps z; cases z)
  obtain ⟨dx, pr, pe, po, pq, a, b, c, d, e⟩ := h
  exact ⟨dx, pr, pe, po, pq, s _ _ a (by intro ps z; cases z), f _ _ b, f _ _ c, d.mono f, e.mono f⟩
theorem new2 {H : Hp} {x dx C : Addr} (nx : H x = none) (ndx : H dx = none) : Same H (upd (upd H dx (.own x)) x (.ins C dx [])) := fun z o h => by
  rw [upd_ne (ne_of_none h nx), upd_ne (ne_of_none h ndx)]
  exact h
/-! ### parts of heaps -/
theorem cj {j : Addr} {H : Hp} {b : Addr} {o : HO} (n : b ≠ j) (h : H b = some o) (t : ∀ ps, o ≠ .tbl ps) : RpL.cut [j] H b = some o := RpL.cut_at (by simpa using n) h t
theorem cj_off {j : Addr} {H H' : Hp} (o : Off j H H') : Same (RpL.cut [j] H) (RpL.cut [j] H') := RpL.cut_same fun b u n _ e => o b u (by simpa using n) e
theorem cj_same {j : Addr} {H H' : Hp} (s : Same H H') : Same (RpL.cut [j] H) (RpL.cut [j] H') := RpL.cut_same fun b u _ _ e => s b u e
theorem cj_ext {j : Addr} {H H' : Hp} (s : LamX.ExtN H H') : Same (RpL.cut [j] H) (RpL.cut [j] H') := RpL.cut_same fun b u _ t e => s b u e t
theorem loop_part {C : Addr} {H D : Hp} {o : Addr} {t : Str} (f : ∀ b u, (∀ xs, u ≠ .lst xs) → (∀ ps, u ≠ .tbl ps) → H b = some u → D b = some u) (h : LoopAt C H o t) : LoopAt C D o t := by
  have ft : ∀ (p : Addr) (xs : List V), H p = some (.tup xs) → D p = some (.tup xs) := fun p xs e => f _ _ (by intro xs z; cases z) (by intro ps z; cases z) e
  obtain ⟨dx, pr, pe, po, pq, a, b, c, d, e⟩ := h
  exact ⟨dx, pr, pe, po, pq, f _ _ (by intro xs z; cases z) (by intro ps z; cases z) a, ft _ _ b, ft _ _ c, d.mono ft, e.mono ft⟩
theorem src_part {C : Addr} {H D : Hp} {o : Addr} {A B E : Str} (f : ∀ b u, (∀ xs, u ≠ .lst xs) → (∀ ps, u ≠ .tbl ps) → H b = some u → D b = some u) (h : SrcU C H o A B E) : SrcU C D o A B E := by
  obtain ⟨dx, e⟩ := h
  exact ⟨dx, f _ _ (by intro xs z; cases z) (by intro ps z; cases z) e⟩
/-- what is no list stands in the heap without the jar -/
theorem in_cut {j : Addr} {H : Hp} (J : Jar H j) : ∀ b u, (∀ xs, u ≠ .lst xs) → (∀ ps, u ≠ .tbl ps) → H b = some u → RpL.cut [j] H b = some u := fun b u nl nt e => by
  obtain ⟨x, y, z, q⟩ := J
  exact cj (ne_of e q (nl _)) e nt
/-! ### a lambda whose call is refused -/
abbrev TC7 {w : World} (T : Tx67 w K mg) := TCame T.eI9.C T.eN9.C T.N.E.R.N.k.eS.C T.eW9.C T.eC9.C (eLo T) T.eS9.C
theorem lam_0 {w : World} (T : Tx67 w K mg) {Tb : List (Addr × Str)} {tl : XK → TE} {σ : L2.St} {H : Hp} {Q : VK} {v : V} (hT : LamX.Tabs Tb H)
    (h : ∀ (H1 : Hp) (E : XK) (R : VK), LamX.ExtN H H1 → (∀ H', Same H1 H' → Er T.eI9.C v H' E) → tl E σ H1 R) (g : RpL.Got Tb H [.str "InvalidItems", v, .bl true] Q) : LamX.tLam Tb (TC7 T) tl σ H Q :=
  ⟨hT, fun H1 e1 T1 => h H1 _ _ e1 fun H' s d nd => ⟨_, (.inl ⟨rfl, d, v, rfl, upd_same, rfl⟩), fun p np => RpL.got_of g e1 T1 (Same.trans s (same_new nd)) np⟩⟩
theorem lam_1 {w : World} (T : Tx67 w K mg) {Tb : List (Addr × Str)} {tl : XK → TE} {σ : L2.St} {H : Hp} {Q : VK} {v : V} (hT : LamX.Tabs Tb H)
    (h : ∀ (H1 : Hp) (E : XK) (R : VK), LamX.ExtN H H1 → (∀ H', Same H1 H' → Er T.eN9.C v H' E) → tl E σ H1 R) (g : RpL.Got Tb H [.str "InvalidName", v, .bl true] Q) : LamX.tLam Tb (TC7 T) tl σ H Q :=
  ⟨hT, fun H1 e1 T1 => h H1 _ _ e1 fun H' s d nd => ⟨_, (.inr (.inl ⟨rfl, d, v, rfl, upd_same, rfl⟩)), fun p np => RpL.got_of g e1 T1 (Same.trans s (same_new nd)) np⟩⟩
theorem lam_2 {w : World} (T : Tx67 w K mg) {Tb : List (Addr × Str)} {tl : XK → TE} {σ : L2.St} {H : Hp} {Q : VK} {v : V} (hT : LamX.Tabs Tb H)
    (h : ∀ (H1 : Hp) (E : XK) (R : VK), LamX.ExtN H H1 → (∀ H', Same H1 H' → Er T.N.E.R.N.k.eS.C v H' E) → tl E σ H1 R) (g : RpL.Got Tb H [.str "InvalidSize", v, .bl true] Q) : LamX.tLam Tb (TC7 T) tl σ H Q :=
  ⟨hT, fun H1 e1 T1 => h H1 _ _ e1 fun H' s d nd => ⟨_, (.inr (.inr (.inl ⟨rfl, d, v, rfl, upd_same, rfl⟩))), fun p np => RpL.got_of g e1 T1 (Same.trans s (same_new nd)) np⟩⟩
theorem lam_3 {w : World} (T : Tx67 w K mg) {Tb : List (Addr × Str)} {tl : XK → TE} {σ : L2.St} {H : Hp} {Q : VK} {v : V} (hT : LamX.Tabs Tb H)
    (h : ∀ (H1 : Hp) (E : XK) (R : VK), LamX.ExtN H H1 → (∀ H', Same H1 H' → Er T.eW9.C v H' E) → tl E σ H1 R) (g : RpL.Got Tb H [.str "InvalidWord", v, .bl true] Q) : LamX.tLam Tb (TC7 T) tl σ H Q :=
  ⟨hT, fun H1 e1 T1 => h H1 _ _ e1 fun H' s d nd => ⟨_, (.inr (.inr (.inr (.inl ⟨rfl, d, v, rfl, upd_same, rfl⟩)))), fun p np => RpL.got_of g e1 T1 (Same.trans s (same_new nd)) np⟩⟩
theorem lam_4 {w : World} (T : Tx67 w K mg) {Tb : List (Addr × Str)} {tl : XK → TE} {σ : L2.St} {H : Hp} {Q : VK} {v : V} (hT : LamX.Tabs Tb H)
    (h : ∀ (H1 : Hp) (E : XK) (R : VK), LamX.ExtN H H1 → (∀ H', Same H1 H' → Er T.eC9.C v H' E) → tl E σ H1 R) (g : RpL.Got Tb H [.str "NotAChain", v, .bl true] Q) : LamX.tLam Tb (TC7 T) tl σ H Q :=
  ⟨hT, fun H1 e1 T1 => h H1 _ _ e1 fun H' s d nd => ⟨_, (.inr (.inr (.inr (.inr (.inl ⟨rfl, d, v, rfl, upd_same, rfl⟩))))), fun p np => RpL.got_of g e1 T1 (Same.trans s (same_new nd)) np⟩⟩
theorem lam_5 {w : World} (T : Tx67 w K mg) {Tb : List (Addr × Str)} {tl : XK → TE} {σ : L2.St} {H : Hp} {Q : VK} {v : V} (hT : LamX.Tabs Tb H)
    (h : ∀ (H1 : Hp) (E : XK) (R : VK), LamX.ExtN H H1 → (∀ H', Same H1 H' → Er (eLo T) v H' E) → tl E σ H1 R) (g : RpL.Got Tb H [.str "NotALoop", v, .bl true] Q) : LamX.tLam Tb (TC7 T) tl σ H Q :=
  ⟨hT, fun H1 e1 T1 => h H1 _ _ e1 fun H' s d nd => ⟨_, (.inr (.inr (.inr (.inr (.inr (.inl ⟨rfl, d, v, rfl, upd_same, rfl⟩)))))), fun p np => RpL.got_of g e1 T1 (Same.trans s (same_new nd)) np⟩⟩
theorem lam_6 {w : World} (T : Tx67 w K mg) {Tb : List (Addr × Str)} {tl : XK → TE} {σ : L2.St} {H : Hp} {Q : VK} {v : V} (hT : LamX.Tabs Tb H)
    (h : ∀ (H1 : Hp) (E : XK) (R : VK), LamX.ExtN H H1 → (∀ H', Same H1 H' → Er T.eS9.C v H' E) → tl E σ H1 R) (g : RpL.Got Tb H [.str "NotASource", v, .bl true] Q) : LamX.tLam Tb (TC7 T) tl σ H Q :=
  ⟨hT, fun H1 e1 T1 => h H1 _ _ e1 fun H' s d nd => ⟨_, (.inr (.inr (.inr (.inr (.inr (.inr ⟨rfl, d, v, rfl, upd_same, rfl⟩)))))), fun p np => RpL.got_of g e1 T1 (Same.trans s (same_new nd)) np⟩⟩
/-! ### rows seen: what stays of a heap before -/
structure Sx (T : List (Addr × Str)) (D H0 H : Hp) (sq : Addr) (xs : List V) (rs : List (List V)) : Prop where
  sn : RpL.SeenD T D H sq xs rs
  ex : LamX.ExtN H0 H
  nq : ∀ b o, H0 b = some o → (∀ ps, o ≠ .tbl ps) → b ≠ sq
section
variable {T : List (Addr × Str)} {D H0 Hb H H1 : Hp} {sq p : Addr} {r xs : List V} {rs : List (List V)}
theorem Sx.first (tb : RpL.NoTb D) (sD : Same D H0) (e : LamX.ExtN H0 Hb) (t : LamX.Tabs T Hb) (hp : Hb p = some (.lst r)) (fr : RpL.Fr H0 p) (n : Hb sq = none) : Sx T D H0 (upd Hb sq (.lst [.ref p])) sq [.ref p] [r] :=
  ⟨RpL.SeenD.first tb sD e t hp fr n, e.trans (ext_same (same_new n)), fun b o h t => ne_of_none (e _ _ h t) n⟩
theorem Sx.step (tb : RpL.NoTb D) (s : Sx T D H0 H sq xs rs) (e1 : LamX.ExtN H H1) (T1 : LamX.Tabs T H1) (hp : H1 p = some (.lst r)) (fr : RpL.Fr H p) :
    H1 sq = some (.lst xs) ∧ Sx T D H0 (upd H1 sq (.lst (xs ++ [.ref p]))) sq (xs ++ [.ref p]) (rs ++ [r]) := by
  obtain ⟨a, b⟩ := s.sn.step tb e1 T1 hp fr
  refine ⟨a, b, fun c o h t => ?_, s.nq⟩
  rw [upd_ne (s.nq c o h t)]
  exact e1 _ _ (s.ex c o h t) t
theorem seven {a : List Str} (h : ∀ x ∈ a, x.length ≤ 200) (l : a.length ≤ 7) : (listText a).length ≤ sizeLine := by
  have b1 := SkT.list_le a
  have b2 : (a.map fun t => t.length + 2).sum ≤ 202 * a.length := by
    clear b1 l
    induction a with
    | nil => exact Nat.le_refl _
    | cons x r ih =>
      have := h x (List.mem_cons_self ..)
      have := ih fun y hy => h y (List.mem_cons_of_mem _ hy)
      simp only [List.map_cons, List.sum_cons, List.length_cons]
      omega
  exact Nat.le_of_lt (szM (by omega))
end
/-! ### drawn values -/
/-- plain data with a property -/
def OdD (H : Hp) (p : V → Prop) (v : V) : Prop := ∃ d, Dq H v d ∧ p v ∧ Sw 30 2 d
theorem OdD.same {H H' : Hp} {p : V → Prop} {v : V} (s : Same H H') (h : OdD H p v) : OdD H' p v := let ⟨d, a, b⟩ := h; ⟨d, a.same s, b⟩
theorem bad7 {D : Hp} {i : Nat} {x : V} {t l : Addr} (ht : D t = some (.tup [.int 2])) (hl : D l = some (.lst [])) (hx : ([.non, .int 0, .int (-1), .bl true, .str "3", .ref t, .int 1001, .ref l, .int 10000000000000000000] : List V)[i]? = some x) : OdD D (fun v => btw 1 1000 v = false) x :=
  match i, hx with
  | 0, hx => by cases (Option.some.inj hx); exact ⟨_, .non, rfl, by decide +kernel, by decide +kernel, by decide +kernel, by decide +kernel⟩
  | 1, hx => by cases (Option.some.inj hx); exact ⟨_, .int 0, by decide, by decide +kernel, by decide +kernel, by decide +kernel, by decide +kernel⟩
  | 2, hx => by cases (Option.some.inj hx); exact ⟨_, .int (-1), by decide, by decide +kernel, by decide +kernel, by decide +kernel, by decide +kernel⟩
  | 3, hx => by cases (Option.some.inj hx); exact ⟨_, .bl true, rfl, by decide +kernel, by decide +kernel, by decide +kernel, by decide +kernel⟩
  | 4, hx => by cases (Option.some.inj hx); exact ⟨_, .str "3", rfl, by decide +kernel, by decide +kernel, by decide +kernel, by decide +kernel⟩
  | 5, hx => by cases (Option.some.inj hx); exact ⟨_, .tup ht (.cons (.int 2) .nil), rfl, by decide +kernel, by decide +kernel, by decide +kernel, by decide +kernel⟩
  | 6, hx => by cases (Option.some.inj hx); exact ⟨_, .int 1001, by decide, by decide +kernel, by decide +kernel, by decide +kernel, by decide +kernel⟩
  | 7, hx => by cases (Option.some.inj hx); exact ⟨_, .lst hl .nil, rfl, by decide +kernel, by decide +kernel, by decide +kernel, by decide +kernel⟩
  | 8, hx => by cases (Option.some.inj hx); exact ⟨_, .int 10000000000000000000, by decide, by decide +kernel, by decide +kernel, by decide +kernel, by decide +kernel⟩
theorem low7 {D : Hp} {i : Nat} {x : V} {t dd : Addr} (ht : D t = some (.tup [])) (hd : D dd = some (.dK [])) (hx : ([.non, .int (-1), .bl false, .str "0", .int 1001, .ref t, .ref dd] : List V)[i]? = some x) : OdD D (fun v => btw 0 1000 v = false) x :=
  match i, hx with
  | 0, hx => by cases (Option.some.inj hx); exact ⟨_, .non, rfl, by decide +kernel, by decide +kernel, by decide +kernel, by decide +kernel⟩
  | 1, hx => by cases (Option.some.inj hx); exact ⟨_, .int (-1), by decide, by decide +kernel, by decide +kernel, by decide +kernel, by decide +kernel⟩
  | 2, hx => by cases (Option.some.inj hx); exact ⟨_, .bl false, rfl, by decide +kernel, by decide +kernel, by decide +kernel, by decide +kernel⟩
  | 3, hx => by cases (Option.some.inj hx); exact ⟨_, .str "0", rfl, by decide +kernel, by decide +kernel, by decide +kernel, by decide +kernel⟩
  | 4, hx => by cases (Option.some.inj hx); exact ⟨_, .int 1001, by decide, by decide +kernel, by decide +kernel, by decide +kernel, by decide +kernel⟩
  | 5, hx => by cases (Option.some.inj hx); exact ⟨_, .tup ht .nil, rfl, by decide +kernel, by decide +kernel, by decide +kernel, by decide +kernel⟩
  | 6, hx => by cases (Option.some.inj hx); exact ⟨_, .dct hd, rfl, by decide +kernel, by decide +kernel, by decide +kernel, by decide +kernel⟩
theorem word7 {D : Hp} {i : Nat} {x : V} {t : Addr} (ht : D t = some (.tup [.str "ends"])) (hx : ([.non, .str "", .str "Whole", .int 5, .ref t, .bl true, .str "told"] : List V)[i]? = some x) : OdD D (fun v => noOf wN v = true ∧ noOf wE v = true) x :=
  match i, hx with
  | 0, hx => by cases (Option.some.inj hx); exact ⟨_, .non, ⟨rfl, rfl⟩, by decide +kernel, by decide +kernel, by decide +kernel, by decide +kernel⟩
  | 1, hx => by cases (Option.some.inj hx); exact ⟨_, .str "", ⟨by decide +kernel, by decide +kernel⟩, by decide +kernel, by decide +kernel, by decide +kernel, by decide +kernel⟩
  | 2, hx => by cases (Option.some.inj hx); exact ⟨_, .str "Whole", ⟨by decide +kernel, by decide +kernel⟩, by decide +kernel, by decide +kernel, by decide +kernel, by decide +kernel⟩
  | 3, hx => by cases (Option.some.inj hx); exact ⟨_, .int 5, ⟨rfl, rfl⟩, by decide +kernel, by decide +kernel, by decide +kernel, by decide +kernel⟩
  | 4, hx => by cases (Option.some.inj hx); exact ⟨_, .tup ht (.cons (.str _) .nil), ⟨rfl, rfl⟩, by decide +kernel, by decide +kernel, by decide +kernel, by decide +kernel⟩
  | 5, hx => by cases (Option.some.inj hx); exact ⟨_, .bl true, ⟨rfl, rfl⟩, by decide +kernel, by decide +kernel, by decide +kernel, by decide +kernel⟩
  | 6, hx => by cases (Option.some.inj hx); exact ⟨_, .str "told", ⟨by decide +kernel, by decide +kernel⟩, by decide +kernel, by decide +kernel, by decide +kernel, by decide +kernel⟩
theorem none7 {D : Hp} {i : Nat} {x : V} {t q r dd l : Addr} (ht : D t = some (.tup [.str "ask"])) (hd : D dd = some (.dK [])) (hx : ([.non, .str "ask", .ref t, .ref q, .ref r, .int 5, .ref dd, .ref l] : List V)[i]? = some x) : OdD D (fun _ => True) x ∨ x = .ref q ∨ x = .ref r ∨ x = .ref l :=
  match i, hx with
  | 0, hx => by cases (Option.some.inj hx); exact .inl ⟨_, .non, trivial, by decide +kernel, by decide +kernel, by decide +kernel, by decide +kernel⟩
  | 1, hx => by cases (Option.some.inj hx); exact .inl ⟨_, .str "ask", trivial, by decide +kernel, by decide +kernel, by decide +kernel, by decide +kernel⟩
  | 2, hx => by cases (Option.some.inj hx); exact .inl ⟨_, .tup ht (.cons (.str _) .nil), trivial, by decide +kernel, by decide +kernel, by decide +kernel, by decide +kernel⟩
  | 3, hx => by cases (Option.some.inj hx); exact .inr (.inl rfl)
  | 4, hx => by cases (Option.some.inj hx); exact .inr (.inr (.inl rfl))
  | 5, hx => by cases (Option.some.inj hx); exact .inl ⟨_, .int 5, trivial, by decide +kernel, by decide +kernel, by decide +kernel, by decide +kernel⟩
  | 6, hx => by cases (Option.some.inj hx); exact .inl ⟨_, .dct hd, trivial, by decide +kernel, by decide +kernel, by decide +kernel, by decide +kernel⟩
  | 7, hx => by cases (Option.some.inj hx); exact .inr (.inr (.inr rfl))
theorem odd7 {D : Hp} {i : Nat} {x : V} {t m r : Addr} (ht : D t = some (.tup [])) (hx : ([.non, .str "short prompt empty", .ref m, .ref r, .int 0, .ref t] : List V)[i]? = some x) : OdD D (fun _ => True) x ∨ x = .ref m ∨ x = .ref r :=
  match i, hx with
  | 0, hx => by cases (Option.some.inj hx); exact .inl ⟨_, .non, trivial, by decide +kernel, by decide +kernel, by decide +kernel, by decide +kernel⟩
  | 1, hx => by cases (Option.some.inj hx); exact .inl ⟨_, .str "short prompt empty", trivial, by decide +kernel, by decide +kernel, by decide +kernel, by decide +kernel⟩
  | 2, hx => by cases (Option.some.inj hx); exact .inr (.inl rfl)
  | 3, hx => by cases (Option.some.inj hx); exact .inr (.inr rfl)
  | 4, hx => by cases (Option.some.inj hx); exact .inl ⟨_, .int 0, trivial, by decide +kernel, by decide +kernel, by decide +kernel, by decide +kernel⟩
  | 5, hx => by cases (Option.some.inj hx); exact .inl ⟨_, .tup ht .nil, trivial, by decide +kernel, by decide +kernel, by decide +kernel, by decide +kernel⟩
theorem gone7 {D : Hp} {i : Nat} {x : V} {t m q dd : Addr} (ht : D t = some (.tup [.str "fill", .int 4])) (hd : D dd = some (.dK [])) (hx : ([.non, .str "fill 4", .ref m, .ref q, .int 7, .ref t, .ref dd] : List V)[i]? = some x) : OdD D (fun _ => True) x ∨ x = .ref m ∨ x = .ref q :=
  match i, hx with
  | 0, hx => by cases (Option.some.inj hx); exact .inl ⟨_, .non, trivial, by decide +kernel, by decide +kernel, by decide +kernel, by decide +kernel⟩
  | 1, hx => by cases (Option.some.inj hx); exact .inl ⟨_, .str "fill 4", trivial, by decide +kernel, by decide +kernel, by decide +kernel, by decide +kernel⟩
  | 2, hx => by cases (Option.some.inj hx); exact .inr (.inl rfl)
  | 3, hx => by cases (Option.some.inj hx); exact .inr (.inr rfl)
  | 4, hx => by cases (Option.some.inj hx); exact .inl ⟨_, .int 7, trivial, by decide +kernel, by decide +kernel, by decide +kernel, by decide +kernel⟩
  | 5, hx => by cases (Option.some.inj hx); exact .inl ⟨_, .tup ht (.cons (.str _) (.cons (.int 4) .nil)), trivial, by decide +kernel, by decide +kernel, by decide +kernel, by decide +kernel⟩
  | 6, hx => by cases (Option.some.inj hx); exact .inl ⟨_, .dct hd, trivial, by decide +kernel, by decide +kernel, by decide +kernel, by decide +kernel⟩
theorem chain_part {C : Addr} {H D : Hp} {o : Addr} {t : Str} (f : ∀ b u, (∀ xs, u ≠ .lst xs) → (∀ ps, u ≠ .tbl ps) → H b = some u → D b = some u) (h : ChainAt C H o t) : ChainAt C D o t := by
  obtain ⟨dx, p, vs, a, b, c⟩ := h
  have ft : ∀ (p : Addr) (xs : List V), H p = some (.tup xs) → D p = some (.tup xs) := fun p xs e => f _ _ (by intro xs z; cases z) (by intro ps z; cases z) e
  exact ⟨dx, p, vs, f _ _ (by intro xs z; cases z) (by intro ps z; cases z) a, ft _ _ b, c.mono ft⟩
def tR : Str := "fill 4"
def tD : Str := "ask told:stop"
theorem tR_good : goodC tR = true := by decide +kernel
theorem tD_good : goodText tD = true := by decide +kernel
def rp (i : Nat) : List (Nat × Bool) := List.replicate i (1, false)
theorem desk_all : (List.range 101).all (fun i => !(stR 3 (ordsR tD) (ordsE tD) (rp i)).st && (newP 3 tD (rp i) 1 false).isEmpty) = true := by decide +kernel
theorem desk_st {i : Nat} (h : i ≤ 100) : (stR 3 (ordsR tD) (ordsE tD) (rp i)).st = false ∧ newP 3 tD (rp i) 1 false = [] := by
  have := List.all_eq_true.mp desk_all i (List.mem_range.mpr (by omega))
  simpa using this
theorem desk_ok : ∀ {i : Nat}, i ≤ 100 → OkR 3 (ordsR tD) (ordsE tD) (rp i)
  | 0, _ => trivial
  | i + 1, h => ⟨(desk_st (by omega)).1, desk_ok (by omega)⟩
theorem say1 : CoR.replyL (TL.tl ("feed 1" : Str)) = some (1, false) := by decide +kernel
theorem say0 : CoR.replyL (TL.tl ("feed 0!" : Str)) = some (0, true) := by decide +kernel
theorem say_none : CoR.pcT [] = ("none" : Str) := by decide +kernel
end
end My

/-! what the console of the law says -/
namespace My
open PySem L2 Cm LM IsX Gd RpA SkT Sn CmH EM CH
section
variable {K : PySem.W.Frag} {mg : Str → Option Value} {T : TxCn K mg} {H : Hp} {y dy lv dv x m : Addr} {Q : VK} {E : XK}
theorem tc1 {sp : Sp} {a : Addr} {c : V} {σ : L2.St} (h : sp [.ref a, c] H Q E) : tCons (tC c) tNil σ H (fun vs H2 => sp (V.ref a :: (vs ++ [])) H2 Q E) := h
theorem noS7 (lv : Addr) : (conf lv).lookup ("say" : Str) = none := by
  have e : (("say" : Str) == "reading") = false := by decide +kernel
  simp [conf, List.lookup, e]
theorem ConAt.put {sz : Nat} {t : Str} {rr : List (Nat × Bool)} {p : Addr} {xs : List V} {o : HO} (hD : H p = some (.lst xs)) (h : ConAt T H y dy lv dv x m sz t rr) : ConAt T (upd H p o) y dy lv dv x m sz t rr := by
  have g : ∀ {b : Addr} {u : HO}, (∀ xs, u ≠ .lst xs) → H b = some u → (upd H p o) b = some u := fun n e => by
    rw [upd_ne (ne_of e hD (n _))]
    exact e
  exact ⟨g (by intro xs z; cases z) h.at_, h.rd.mono (fun p xs e => g (by intro xs z; cases z) e) (fun p C d fs _ _ e => g (by intro xs z; cases z) e) (g (by intro xs z; cases z) h.rd.at_)⟩
theorem rp_len (i : Nat) : (rp i).length = i := List.length_replicate
theorem rp_le (i : Nat) : ∀ r ∈ rp i, r.1 ≤ 3 := fun r hr => by
  rw [List.eq_of_mem_replicate hr]
  decide
theorem say_feed {i : Nat} (hC : ConAt T H y dy lv dv x m 3 tD (rp i)) (hi : i < 100) (k : ∀ (H' : Hp) (m' : Addr), Off lv H H' → ConAt T H' y dy lv dv x m' 3 tD (rp (i + 1)) → Q (.str "none") H') : spSy T [.ref y, .str "feed 1"] H Q E := by
  obtain ⟨d1, d2⟩ := desk_st (i := i) (by omega)
  refine ⟨y, dy, lv, dv, x, m, 3, tD, rp i, _, rfl, hC, .inr ⟨"feed 1", rfl, by decide +kernel, ?_⟩⟩
  refine .inr (.inr (.inr ⟨by decide +kernel, by decide +kernel, by decide +kernel, fun z => ?_, fun n b z H9 q s9 hq => ?_⟩))
  · rw [say1] at z; cases z
  · rw [say1] at z; cases z
    refine ⟨y, dy, lv, dv, x, m, q, 3, 1, false, tD, rp i, rfl, hq, hC.same s9, tD_good, by decide, by decide, by rw [rp_len]; omega, desk_ok (by omega), rp_le i, fun bad => ?_, fun _ _ _ => ⟨?_, ?_, fun H10 m2 o10 hR => ?_⟩⟩
    · exfalso
      rcases bad with z | z | z
      · omega
      · rw [d1] at z; cases z
      · rw [rp_len] at z; omega
    · rw [d2]
      exact fun p hp => nomatch hp
    · rw [d2]
      decide
    · rw [d2, say_none]
      exact k H10 m2 (fun b o n e => o10 _ _ n (s9 _ _ e)) ⟨o10 _ _ hC.ne (s9 _ _ hC.at_), hR⟩
theorem say_full {n : Nat} {b : Bool} {t : Str} (hC : ConAt T H y dy lv dv x m 3 tD (rp 100)) (l : t.length ≤ 640) (n1 : t ≠ "undo") (n2 : t ≠ "rest") (n3 : t ≠ "state") (hr : CoR.replyL (TL.tl t) = some (n, b)) (k : ∀ H', Same H H' → Q (.str "refused") H') : spSy T [.ref y, .str t] H Q E := by
  refine ⟨y, dy, lv, dv, x, m, 3, tD, rp 100, _, rfl, hC, .inr ⟨t, rfl, l, ?_⟩⟩
  refine .inr (.inr (.inr ⟨n1, n2, n3, fun z => ?_, fun n' b' z H9 q s9 hq => ?_⟩))
  · rw [hr] at z; cases z
  · rw [hr] at z; cases z
    exact ⟨y, dy, lv, dv, x, m, q, 3, n, b, tD, rp 100, rfl, hq, hC.same s9, tD_good, by decide, by decide, by rw [rp_len]; omega, desk_ok (by omega), rp_le 100, fun _ H' s' => k H' (Same.trans s9 s'), fun _ _ z => absurd z (by rw [rp_len]; omega)⟩
theorem say_state (hC : ConAt T H y dy lv dv x m 3 tD (rp 100)) (k : Q (.str "open") H) : spSy T [.ref y, .str "state"] H Q E := by
  refine ⟨y, dy, lv, dv, x, m, 3, tD, rp 100, _, rfl, hC, .inr ⟨"state", rfl, by decide +kernel, .inr (.inr (.inl ⟨rfl, ?_⟩))⟩⟩
  rw [(desk_st (i := 100) (by omega)).1]
  exact k
theorem say_undo (hC : ConAt T H y dy lv dv x m 3 tD (rp 100)) (k : ∀ H', Off lv H H' → Q (.str "ok") H') : spSy T [.ref y, .str "undo"] H Q E :=
  ⟨y, dy, lv, dv, x, m, 3, tD, rp 100, _, rfl, hC, .inr ⟨"undo", rfl, by decide +kernel, .inl ⟨rfl, y, dy, lv, dv, x, m, 3, tD, rp 100, rfl, hC, (fun z => by have := congrArg List.length z; rw [rp_len] at this; cases this), fun r q _ H' m' o _ => k H' o⟩⟩⟩
theorem nones : SeqAt.shaped (.list (List.replicate 100 (.str "none"))) = true ∧ PyData.eqv (.list (List.replicate 100 (.str "none"))) (.list (List.replicate 100 (.str "none"))) = true := by constructor <;> decide +kernel
theorem saids : SeqAt.shaped (.list [.str "refused", .str "refused", .str "open", .str "ok"]) = true ∧ PyData.eqv (.list [.str "refused", .str "refused", .str "open", .str "ok"]) (.list [.str "refused", .str "refused", .str "open", .str "ok"]) = true := by constructor <;> decide +kernel
theorem dp_rep {K : PySem.W.Frag} {H : Hp} {s : Str} : ∀ n : Nat, DpAll K H (List.replicate n (.str s)) (List.replicate n (.str s))
  | 0 => .nil
  | n + 1 => .cons (.str _) (dp_rep n)
theorem flat_rep {s : V} : ∀ n : Nat, (List.replicate n [s]).flatten = List.replicate n s
  | 0 => rfl
  | n + 1 => by
    rw [List.replicate_succ, List.replicate_succ, List.flatten_cons, flat_rep n]
    rfl
end
end My

namespace My
open PySem L2 Cm LM IsX Gd RpA SkT Sn CmH EM CH
abbrev sRight : Stmt := top 137
abbrev NR : List Str := ["_law_jar_here", "_law_mine", "_law_tap", "_law_row_of", "_law_none", "_law_odd", "_law_bad", "_law_low", "_law_word_here", "_law_seen", "_law_due", "_law_gone", "_law_desk", "_law_turn", "_law_said"]
theorem scRight : FnScope NR ["_law_jar_here"] (defScope sRight) := ⟨rfl, rfl, rfl, by decide +kernel, rfl, by decide +kernel, by decide +kernel⟩
structure TxR67 (w : World) (K : PySem.W.Frag) (mg : Str → Option Value) where
  T : Tx67 w K mg
  C : TxCm K mg T.eI9.C T.eN9.C T.N.E.R.N.k.eS.C T.eW9.C T.eC9.C (eLo T) T.eS9.C
  noL : NoB K (cL T)
  noU : NoB K T.S.U.C
  noC : NoB K T.A.T.C
  ul : PySem.W.kitOne K (.ref T.S.U.C) (.ref (cL T)) = some false
  rl : PySem.W.kitOne K (.ref T.A.T.C) (.ref (cL T)) = some false
  lu : PySem.W.kitOne K (.ref (cL T)) (.ref T.S.U.C) = some false
  ru : PySem.W.kitOne K (.ref T.A.T.C) (.ref T.S.U.C) = some false
  lr : PySem.W.kitOne K (.ref (cL T)) (.ref T.A.T.C) = some false
  ur : PySem.W.kitOne K (.ref T.S.U.C) (.ref T.A.T.C) = some false
  J : TxtJ mg
  repr : mg "repr" = none
  range : mg "range" = none
  sip : Df K mg "_law_sip" sSip ["_law_jar_here", "_law_many"]
  frm : Df K mg "_law_from" sFrom ["_law_jar_here", "_law_things"]
section
variable {P : Program} {w : World} {K : PySem.W.Frag} {mg : Str → Option Value} {base : Heap}
theorem nil_of {σ : L2.St} {H : Hp} {R : List V → Hp → Prop} (h : R [] H) : tNil σ H R := h
theorem le40 {n : Nat} (h : n ≤ 40) : n ≤ sizeLine := szl (by omega)
theorem nm_InvalidItems : (reprText "InvalidItems").length ≤ 40 := by decide +kernel
theorem nm_InvalidName : (reprText "InvalidName").length ≤ 40 := by decide +kernel
theorem nm_InvalidSize : (reprText "InvalidSize").length ≤ 40 := by decide +kernel
theorem nm_InvalidWord : (reprText "InvalidWord").length ≤ 40 := by decide +kernel
theorem nm_NotAChain : (reprText "NotAChain").length ≤ 40 := by decide +kernel
theorem nm_NotALoop : (reprText "NotALoop").length ≤ 40 := by decide +kernel
theorem nm_NotASource : (reprText "NotASource").length ≤ 40 := by decide +kernel
theorem mk_chain (T : TxA w K mg) {H : Hp} {t : Str} {E : XK} {R : Hp → Prop} {x dx : Addr} (g : goodC t = true) (bd : Bd t) (nx : H x = none) (ndx : H dx = none) (q : ∀ (H' : Hp), Same H H' → ChainAt T.C H' x t → R H') :
    spAI K T.C T.E.C [.ref x, .str t] (upd (upd H dx (.own x)) x (.ins T.C dx [])) (fun v H2 => v = .non ∧ R H2) E := by
  refine ⟨x, dx, _, rfl, upd_same, typed_str _, bd, fun t' et _ H5 o5 l5 => ⟨rfl, ?_⟩, fun z => absurd (g.symm.trans z) (by decide)⟩
  cases et
  exact q H5 (made_same nx ndx o5) l5
theorem loop_in (T : Tx67 w K mg) {H : Hp} {o : Addr} {t : Str} (h : LoopAt (cL T) H o t) : TyX K H (.ref o) (.ref (cL T)) := by
  obtain ⟨dx, pr, pe, po, pq, e, _⟩ := h
  exact .base (.ins e T.N.E.R.N.T.cl T.N.E.R.y1 T.N.E.R.y2 T.N.E.R.y3 T.N.E.R.y4)
theorem ok_right {f cR PR : Addr} {fd : FuncData} (F : Fun K "_law_right" "_law_right" sRight f fd) (R : TxR67 w K mg) (hcd : fd.code = .ref cR) (sm : ∃ ob, base.get? sysModules = some ob) (TB : LamX.TabB base mg cR PR) : Gd.FnG P w K mg base CX0 12 f fd ["_law_jar_here"] (spRight PR) := by
  have GF : FnOk P w K mg base CX0 2 R.frm.f R.frm.fd ["_law_jar_here", "_law_things"] (spFrom K) := ok_from R.frm.F R.J ⟨R.sip.g, R.sip.k⟩ R.sip.F R.sip.b
  have GM : FnOk P w K mg base (L2.CX P w) 4 R.T.N.E.R.N.T.fI R.T.N.E.R.N.T.fdI ["self", "text"] (spLI K (cL R.T) R.T.N.E.R.N.T.E.C) := ok_li R.T.N.E.R.N.T
  have GH : FnOk P w K mg base (L2.CX P w) 3 R.T.A.T.fI R.T.A.T.fdI ["self", "text"] (spAI K R.T.A.T.C R.T.A.T.E.C) := ok_ai R.T.A.T
  have GL : FnOk P w K mg base CX0 6 R.T.S.sl.f R.T.S.sl.fd [] (spSL (cL R.T)) := by
    have := ok_sl (P := P) (w := w) (base := base) R.T.S
    rw [R.T.eST] at this
    exact this
  have GS : FnOk P w K mg base CX0 4 R.T.S.ss.f R.T.S.ss.fd [] (spSS R.T.S.U.C) := ok_ss R.T.S
  have GCn : FnOk P w K mg base (L2.CX P w) 6 R.T.N.fI R.T.N.fdI ["self", "loop", "size"] (spCnB R.T) := ok_cnb R.T
  have GY : FnOk P w K mg base (L2.CX P w) 8 R.T.N.say.f R.T.N.say.fd ["self", "row"] (spSy R.T.N) := ok_sy R.T.N
  have GFt : FnOk P w K mg base (L2.CX P w) 6 R.T.ftb.f R.T.ftb.fd ["loop", "source"] (spFt R.T) := ok_ftb R.T
  have GCe : FnOk P w K mg base (L2.CX P w) 6 R.T.cer.f R.T.cer.fd ["loop", "source", "name"] (sp3 R.T) := ok_cer R.T
  have GPt : FnOk P w K mg base (L2.CX P w) 4 R.T.ptb.f R.T.ptb.fd ["chain", "items"] (spPt R.T) := ok_ptb R.T
  have GCc : FnOk P w K mg base (L2.CX P w) 5 R.T.ceC.f R.T.ceC.fd ["chain", "other_chain"] (spCc R.T) := ok_ceC R.T
  have GCu : FnOk P w K mg base (L2.CX P w) 6 R.T.ceU.f R.T.ceU.fd ["loop", "other_loop", "end"] (spUn R.T) := ok_ceU R.T
  have GLr : FnR P w K mg base CX0 1 R.T.L.lr.f (fun vs H Q E => spLR R.T.L.T.C (vs ++ []) H Q E) := (ok_lr R.T.L).raw R.T.L.lr.b .nil
  have GUr : FnR P w K mg base CX0 1 R.T.S.U.ur.f (fun vs H Q E => spUR R.T.S.U.C (vs ++ []) H Q E) := (ok_ur R.T.S.U).raw R.T.S.U.ur.b .nil
  have GAr : FnR P w K mg base CX0 1 R.T.A.ar.f (fun vs H Q E => spAR R.T.A.T.C (vs ++ []) H Q E) := (ok_ar R.T.A).raw R.T.A.ar.b .nil
  have eLT : R.T.L.T.C = cL R.T := congrArg TxC.C R.T.eLT
  obtain ⟨ob, sm⟩ := sm
  obtain ⟨oc, od, kV, doc, pm, an, cdv0, ct, osl, efd, lkC, hcgC⟩ := R.C.cm.F.ex
  have bC := R.C.cm.b
  rw [efd] at bC lkC
  refine Gd.okG F scRight (fun vs H Q E h => ?_) (fun cdv A outer s H vs Q E _ _ ecd hgd hr h => ?_)
  · obtain ⟨j, rfl, _⟩ := h
    rfl
  · obtain ⟨j, rfl, hJ, hT, k⟩ := h
    have ec : cdv = .ref cR := ecd.symm.trans hcd
    subst ec
    have hr2 : Room 2 _ := hr.mono (by decide)
    have hr4 : Room 4 _ := hr.mono (by decide)
    have hr5 : Room 5 _ := hr.mono (by decide)
    have hr6 : Room 6 _ := hr.mono (by decide)
    have hr7 : Room 7 _ := hr.mono (by decide)
    have hr8 : Room 8 _ := hr.mono (by decide)
    have hr9 : Room 9 _ := hr.mono (by decide)
    have sb : L2.Sub (cxOf CX0 P w K mg base NR "_law_right" (defScope sRight) f (.ref cR) A outer s H E).nox 4 ((cxOf CX0 P w K mg base NR "_law_right" (defScope sRight) f (.ref cR) A outer s H E).nox).A.in1 := ⟨hr5.in1, rfl⟩
    have lam : ∀ {X : Cx} {params : Arguments} {body : Expr} {scope : Scope} {t : XK → L2.TE} {p lpos pos : Pos} (eX : X = (cxOf CX0 P w K mg base NR "_law_right" (defScope sRight) f (.ref cR) A outer s H E).nox) (L : LamX.LamS X.env.scope scope) (hdef : defaultsOf params X.env = ([], []))
        (hbind : ∀ (q : Str) (cl : List (Str × Addr)) (pm cv ctv : Value), bindArgs (PySem.W.kla_fn "<lambda>" q params body scope cl pm cv ctv) ⟨[], []⟩ = pure [])
        (hbody : ∀ (A : Around) (outer : List Env) (s : Shared) (H : Hp) (E : XK) (f c' : Addr), Room 7 (A.deeper (LamX.lamEnv X scope s.heap.objs.size f c')) → PE (LamX.lamCx X A outer s H E scope f c') body (t E)),
        PE X (.Call (.Name "_law_came" p) [.Lambda params body scope lpos] [] pos) (LamX.tLam [(PR, qLam)] (TC7 R.T) t) := by
      intro X params body scope t p lpos pos eX L hdef hbind hbody
      subst eX
      exact LamX.pe_lamcall (k := 7) rfl R.C.cm.g R.C.cm.k lkC hcgC bC scCame rfl (.inl rfl) (came_gives (X := (cxOf CX0 P w K mg base NR "_law_right" (defScope sRight) f (.ref cR) A outer s H E).nox) R.C) TB rfl (List.mem_singleton.mpr rfl) (fun q hq _ => by rw [List.mem_singleton.mp hq]; rfl) hr9 L hdef hbind hbody
    refine ⟨_, (pss_cons (ps_asg (pe_tup (pa_cons (pe_call0 GL hr6 rfl R.T.S.sl.g R.T.S.sl.k R.T.S.sl.b .nil pass0) (pa_cons (pe_call0 GS hr4 rfl R.T.S.ss.g R.T.S.ss.k R.T.S.ss.b .nil pass0) (pa_cons (pe_make R.T.A.T.MI GH hr4 rfl R.T.A.T.gC R.T.A.T.bI .nil pass_none (pa_cons pe_str pa_nil)) pa_nil)))) (pg_tup rfl (pgs_cons (pg_name (i := 1) scRight.nd rfl (.inr rfl)) (pgs_cons (pg_name (i := 2) scRight.nd rfl (.inr rfl)) (pgs_cons (pg_name (i := 3) scRight.nd rfl (.inr rfl)) pgs_nil))))) (pss_cons (ps_set (i := 4) scRight.nd rfl (.inr rfl) (pe_call GF hr2 rfl R.frm.g R.frm.k R.frm.b .nil pass0 (pa_cons (pv 0) (pa_cons (pe_lst (pa_cons pe_non (pa_cons pe_str (pa_cons (pe_tup (pa_cons pe_str pa_nil)) (pa_cons (pv 2) (pa_cons (pv 3) (pa_cons pe_int (pa_cons pe_dnewK (pa_cons (pe_lst (pa_cons (pv 1) pa_nil)) pa_nil))))))))) pa_nil)))) (pss_cons (ps_set (i := 5) scRight.nd rfl (.inr rfl) (pe_call GF hr2 rfl R.frm.g R.frm.k R.frm.b .nil pass0 (pa_cons (pv 0) (pa_cons (pe_lst (pa_cons pe_non (pa_cons pe_str (pa_cons (pv 1) (pa_cons (pv 3) (pa_cons pe_int (pa_cons (pe_tup pa_nil) pa_nil))))))) pa_nil)))) (pss_cons (ps_set (i := 6) scRight.nd rfl (.inr rfl) (pe_call GF hr2 rfl R.frm.g R.frm.k R.frm.b .nil pass0 (pa_cons (pv 0) (pa_cons (pe_lst (pa_cons pe_non (pa_cons pe_int (pa_cons (pe_un un_neg pe_int) (pa_cons pe_bl (pa_cons pe_str (pa_cons (pe_tup (pa_cons pe_int pa_nil)) (pa_cons pe_int (pa_cons (pe_lst pa_nil) (pa_cons (pe_op op_pow pe_int pe_int) pa_nil)))))))))) pa_nil)))) (pss_cons (ps_set (i := 7) scRight.nd rfl (.inr rfl) (pe_call GF hr2 rfl R.frm.g R.frm.k R.frm.b .nil pass0 (pa_cons (pv 0) (pa_cons (pe_lst (pa_cons pe_non (pa_cons (pe_un un_neg pe_int) (pa_cons pe_bl (pa_cons pe_str (pa_cons pe_int (pa_cons (pe_tup pa_nil) (pa_cons pe_dnewK pa_nil)))))))) pa_nil)))) (C8.pss_cut (ps_set (i := 8) scRight.nd rfl (.inr rfl) (pe_call GF hr2 rfl R.frm.g R.frm.k R.frm.b .nil pass0 (pa_cons (pv 0) (pa_cons (pe_lst (pa_cons pe_non (pa_cons pe_str (pa_cons pe_str (pa_cons pe_int (pa_cons (pe_tup (pa_cons pe_str pa_nil)) (pa_cons pe_bl (pa_cons pe_str pa_nil)))))))) pa_nil)))) (pss_cons (ps_set (i := 9) scRight.nd rfl (.inl rfl) (pe_lst (pa_cons (lam (t := fun E => tMake R.T.N.C (spCnB R.T) [] E (tCons (tVar 4) (tCons (tVar 6) tNil))) rfl (LamX.lamS_by (sc := defScope sRight) (by decide +kernel)) rfl (fun _ _ _ _ _ => rfl) (fun A outer s H E f c' hrl => by exact pe_make (E := E) R.T.N.MI GCn hrl rfl R.T.N.gC R.T.N.bI .nil (passes_call (takes_of rfl rfl rfl rfl) fun _ _ _ _ z => z) (pa_cons (pv 4) (pa_cons (pv 6) pa_nil)))) pa_nil))) (pss_cons (ps_expr (pe_bm PySem.F.plainAttrs_list PySem.F.slot_list_append PySem.F.type_list_append mt_append (pv 9) (pa_cons (lam (t := fun E => tMake R.T.N.C (spCnB R.T) [] E (tCons (tVar 1) (tCons (tVar 6) tNil))) rfl (LamX.lamS_by (sc := defScope sRight) (by decide +kernel)) rfl (fun _ _ _ _ _ => rfl) (fun A outer s H E f c' hrl => by exact pe_make (E := E) R.T.N.MI GCn hrl rfl R.T.N.gC R.T.N.bI .nil (passes_call (takes_of rfl rfl rfl rfl) fun _ _ _ _ z => z) (pa_cons (pv 1) (pa_cons (pv 6) pa_nil)))) pa_nil))) (pss_cons (ps_expr (pe_bm PySem.F.plainAttrs_list PySem.F.slot_list_append PySem.F.type_list_append mt_append (pv 9) (pa_cons (lam (t := fun E => tCall (spFt R.T) [] E (tCons (tVar 4) (tCons (tVar 5) tNil))) rfl (LamX.lamS_by (sc := defScope sRight) (by decide +kernel)) rfl (fun _ _ _ _ _ => rfl) (fun A outer s H E f c' hrl => by exact pe_call (E := E) GFt (hrl.mono (by decide)) rfl R.T.ftb.g R.T.ftb.k R.T.ftb.b .nil (passes_call (takes_of rfl rfl rfl rfl) fun _ _ _ _ z => z) (pa_cons (pv 4) (pa_cons (pv 5) pa_nil)))) pa_nil))) (pss_cons (ps_expr (pe_bm PySem.F.plainAttrs_list PySem.F.slot_list_append PySem.F.type_list_append mt_append (pv 9) (pa_cons (lam (t := fun E => tCall (spFt R.T) [] E (tCons (tVar 1) (tCons (tVar 5) tNil))) rfl (LamX.lamS_by (sc := defScope sRight) (by decide +kernel)) rfl (fun _ _ _ _ _ => rfl) (fun A outer s H E f c' hrl => by exact pe_call (E := E) GFt (hrl.mono (by decide)) rfl R.T.ftb.g R.T.ftb.k R.T.ftb.b .nil (passes_call (takes_of rfl rfl rfl rfl) fun _ _ _ _ z => z) (pa_cons (pv 1) (pa_cons (pv 5) pa_nil)))) pa_nil))) (pss_cons (ps_expr (pe_bm PySem.F.plainAttrs_list PySem.F.slot_list_append PySem.F.type_list_append mt_append (pv 9) (pa_cons (lam (t := fun E => tCall (sp3 R.T) [] E (tCons (tVar 4) (tCons (tVar 5) (tCons (tVar 8) tNil)))) rfl (LamX.lamS_by (sc := defScope sRight) (by decide +kernel)) rfl (fun _ _ _ _ _ => rfl) (fun A outer s H E f c' hrl => by exact pe_call (E := E) GCe (hrl.mono (by decide)) rfl R.T.cer.g R.T.cer.k R.T.cer.b .nil (passes_call (takes_of rfl rfl rfl rfl) fun _ _ _ _ z => z) (pa_cons (pv 4) (pa_cons (pv 5) (pa_cons (pv 8) pa_nil))))) pa_nil))) (pss_cons (ps_expr (pe_bm PySem.F.plainAttrs_list PySem.F.slot_list_append PySem.F.type_list_append mt_append (pv 9) (pa_cons (lam (t := fun E => tCall (sp3 R.T) [] E (tCons (tVar 1) (tCons (tVar 5) (tCons (tVar 8) tNil)))) rfl (LamX.lamS_by (sc := defScope sRight) (by decide +kernel)) rfl (fun _ _ _ _ _ => rfl) (fun A outer s H E f c' hrl => by exact pe_call (E := E) GCe (hrl.mono (by decide)) rfl R.T.cer.g R.T.cer.k R.T.cer.b .nil (passes_call (takes_of rfl rfl rfl rfl) fun _ _ _ _ z => z) (pa_cons (pv 1) (pa_cons (pv 5) (pa_cons (pv 8) pa_nil))))) pa_nil))) (pss_cons (ps_expr (pe_bm PySem.F.plainAttrs_list PySem.F.slot_list_append PySem.F.type_list_append mt_append (pv 9) (pa_cons (lam (t := fun E => tCall (sp3 R.T) [] E (tCons (tVar 1) (tCons (tVar 2) (tCons (tVar 8) tNil)))) rfl (LamX.lamS_by (sc := defScope sRight) (by decide +kernel)) rfl (fun _ _ _ _ _ => rfl) (fun A outer s H E f c' hrl => by exact pe_call (E := E) GCe (hrl.mono (by decide)) rfl R.T.cer.g R.T.cer.k R.T.cer.b .nil (passes_call (takes_of rfl rfl rfl rfl) fun _ _ _ _ z => z) (pa_cons (pv 1) (pa_cons (pv 2) (pa_cons (pv 8) pa_nil))))) pa_nil))) (pss_cons (ps_set (i := 10) scRight.nd rfl (.inl rfl) (pe_lst (pa_cons (pe_lst (pa_cons pe_str (pa_cons (pv 4) (pa_cons pe_bl pa_nil)))) (pa_cons (pe_lst (pa_cons pe_str (pa_cons (pv 6) (pa_cons pe_bl pa_nil)))) (pa_cons (pe_lst (pa_cons pe_str (pa_cons (pv 4) (pa_cons pe_bl pa_nil)))) (pa_cons (pe_lst (pa_cons pe_str (pa_cons (pv 5) (pa_cons pe_bl pa_nil)))) pa_nil)))))) (pss_cons (ps_set (i := 10) scRight.nd rfl (.inl rfl) (pe_op op_cat (pv 10) (pe_lst (pa_cons (pe_lst (pa_cons pe_str (pa_cons (pv 4) (pa_cons pe_bl pa_nil)))) (pa_cons (pe_lst (pa_cons pe_str (pa_cons (pv 5) (pa_cons pe_bl pa_nil)))) (pa_cons (pe_lst (pa_cons pe_str (pa_cons (pv 8) (pa_cons pe_bl pa_nil)))) pa_nil)))))) (C8.pss_cut (ps_if (pt_cmpR op_ne (pe_callB (RpL.call_reprN (n := 3) hgd sb) (by rfl) R.repr (by decide +kernel) (pa_cons (pv 9) pa_nil)) (pe_callB (RpL.call_reprN (n := 3) hgd sb) (by rfl) R.repr (by decide +kernel) (pa_cons (pv 10) pa_nil)) (nomark _)) (pss_one (ps_ret pe_bl)) pss_nil) (pss_cons (ps_set (i := 11) scRight.nd rfl (.inr rfl) (pe_call GF hr2 rfl R.frm.g R.frm.k R.frm.b .nil pass0 (pa_cons (pv 0) (pa_cons (pe_lst (pa_cons pe_non (pa_cons pe_str (pa_cons (pv 1) (pa_cons (pv 2) (pa_cons pe_int (pa_cons (pe_tup (pa_cons pe_str (pa_cons pe_int pa_nil))) (pa_cons pe_dnewK pa_nil)))))))) pa_nil)))) (pss_cons (ps_set (i := 9) scRight.nd rfl (.inl rfl) (pe_lst (pa_cons (lam (t := fun E => tCall (spPt R.T) [] E (tCons (tVar 11) (tCons (tVar 7) tNil))) rfl (LamX.lamS_by (sc := defScope sRight) (by decide +kernel)) rfl (fun _ _ _ _ _ => rfl) (fun A outer s H E f c' hrl => by exact pe_call (E := E) GPt (hrl.mono (by decide)) rfl R.T.ptb.g R.T.ptb.k R.T.ptb.b .nil (passes_call (takes_of rfl rfl rfl rfl) fun _ _ _ _ z => z) (pa_cons (pv 11) (pa_cons (pv 7) pa_nil)))) pa_nil))) (pss_cons (ps_expr (pe_bm PySem.F.plainAttrs_list PySem.F.slot_list_append PySem.F.type_list_append mt_append (pv 9) (pa_cons (lam (t := fun E => tCall (spPt R.T) [] E (tCons (tVar 3) (tCons (tVar 7) tNil))) rfl (LamX.lamS_by (sc := defScope sRight) (by decide +kernel)) rfl (fun _ _ _ _ _ => rfl) (fun A outer s H E f c' hrl => by exact pe_call (E := E) GPt (hrl.mono (by decide)) rfl R.T.ptb.g R.T.ptb.k R.T.ptb.b .nil (passes_call (takes_of rfl rfl rfl rfl) fun _ _ _ _ z => z) (pa_cons (pv 3) (pa_cons (pv 7) pa_nil)))) pa_nil))) (pss_cons (ps_expr (pe_bm PySem.F.plainAttrs_list PySem.F.slot_list_append PySem.F.type_list_append mt_append (pv 9) (pa_cons (lam (t := fun E => tCall (spCc R.T) [] E (tCons (tVar 11) (tCons (tVar 4) tNil))) rfl (LamX.lamS_by (sc := defScope sRight) (by decide +kernel)) rfl (fun _ _ _ _ _ => rfl) (fun A outer s H E f c' hrl => by exact pe_call (E := E) GCc (hrl.mono (by decide)) rfl R.T.ceC.g R.T.ceC.k R.T.ceC.b .nil (passes_call (takes_of rfl rfl rfl rfl) fun _ _ _ _ z => z) (pa_cons (pv 11) (pa_cons (pv 4) pa_nil)))) pa_nil))) (pss_cons (ps_expr (pe_bm PySem.F.plainAttrs_list PySem.F.slot_list_append PySem.F.type_list_append mt_append (pv 9) (pa_cons (lam (t := fun E => tCall (spCc R.T) [] E (tCons (tVar 3) (tCons (tVar 11) tNil))) rfl (LamX.lamS_by (sc := defScope sRight) (by decide +kernel)) rfl (fun _ _ _ _ _ => rfl) (fun A outer s H E f c' hrl => by exact pe_call (E := E) GCc (hrl.mono (by decide)) rfl R.T.ceC.g R.T.ceC.k R.T.ceC.b .nil (passes_call (takes_of rfl rfl rfl rfl) fun _ _ _ _ z => z) (pa_cons (pv 3) (pa_cons (pv 11) pa_nil)))) pa_nil))) (pss_cons (ps_expr (pe_bm PySem.F.plainAttrs_list PySem.F.slot_list_append PySem.F.type_list_append mt_append (pv 9) (pa_cons (lam (t := fun E => tCall (spUn R.T) [] E (tCons (tVar 4) (tCons (tVar 11) (tCons (tVar 8) tNil)))) rfl (LamX.lamS_by (sc := defScope sRight) (by decide +kernel)) rfl (fun _ _ _ _ _ => rfl) (fun A outer s H E f c' hrl => by exact pe_call (E := E) GCu (hrl.mono (by decide)) rfl R.T.ceU.g R.T.ceU.k R.T.ceU.b .nil (passes_call (takes_of rfl rfl rfl rfl) fun _ _ _ _ z => z) (pa_cons (pv 4) (pa_cons (pv 11) (pa_cons (pv 8) pa_nil))))) pa_nil))) (pss_cons (ps_expr (pe_bm PySem.F.plainAttrs_list PySem.F.slot_list_append PySem.F.type_list_append mt_append (pv 9) (pa_cons (lam (t := fun E => tCall (spUn R.T) [] E (tCons (tVar 1) (tCons (tVar 4) (tCons (tVar 8) tNil)))) rfl (LamX.lamS_by (sc := defScope sRight) (by decide +kernel)) rfl (fun _ _ _ _ _ => rfl) (fun A outer s H E f c' hrl => by exact pe_call (E := E) GCu (hrl.mono (by decide)) rfl R.T.ceU.g R.T.ceU.k R.T.ceU.b .nil (passes_call (takes_of rfl rfl rfl rfl) fun _ _ _ _ z => z) (pa_cons (pv 1) (pa_cons (pv 4) (pa_cons (pv 8) pa_nil))))) pa_nil))) (pss_cons (ps_expr (pe_bm PySem.F.plainAttrs_list PySem.F.slot_list_append PySem.F.type_list_append mt_append (pv 9) (pa_cons (lam (t := fun E => tCall (spUn R.T) [] E (tCons (tVar 1) (tCons (tVar 1) (tCons (tVar 8) tNil)))) rfl (LamX.lamS_by (sc := defScope sRight) (by decide +kernel)) rfl (fun _ _ _ _ _ => rfl) (fun A outer s H E f c' hrl => by exact pe_call (E := E) GCu (hrl.mono (by decide)) rfl R.T.ceU.g R.T.ceU.k R.T.ceU.b .nil (passes_call (takes_of rfl rfl rfl rfl) fun _ _ _ _ z => z) (pa_cons (pv 1) (pa_cons (pv 1) (pa_cons (pv 8) pa_nil))))) pa_nil))) (pss_cons (ps_set (i := 10) scRight.nd rfl (.inl rfl) (pe_lst (pa_cons (pe_lst (pa_cons pe_str (pa_cons (pv 11) (pa_cons pe_bl pa_nil)))) (pa_cons (pe_lst (pa_cons pe_str (pa_cons (pv 7) (pa_cons pe_bl pa_nil)))) (pa_cons (pe_lst (pa_cons pe_str (pa_cons (pv 11) (pa_cons pe_bl pa_nil)))) (pa_cons (pe_lst (pa_cons pe_str (pa_cons (pv 11) (pa_cons pe_bl pa_nil)))) pa_nil)))))) (pss_cons (ps_set (i := 10) scRight.nd rfl (.inl rfl) (pe_op op_cat (pv 10) (pe_lst (pa_cons (pe_lst (pa_cons pe_str (pa_cons (pv 4) (pa_cons pe_bl pa_nil)))) (pa_cons (pe_lst (pa_cons pe_str (pa_cons (pv 4) (pa_cons pe_bl pa_nil)))) (pa_cons (pe_lst (pa_cons pe_str (pa_cons (pv 8) (pa_cons pe_bl pa_nil)))) pa_nil)))))) (C8.pss_cut (ps_if (pt_cmpR op_ne (pe_callB (RpL.call_reprN (n := 3) hgd sb) (by rfl) R.repr (by decide +kernel) (pa_cons (pv 9) pa_nil)) (pe_callB (RpL.call_reprN (n := 3) hgd sb) (by rfl) R.repr (by decide +kernel) (pa_cons (pv 10) pa_nil)) (nomark _)) (pss_one (ps_ret pe_bl)) pss_nil) (pss_cons (ps_set (i := 12) scRight.nd rfl (.inr rfl) (pe_make R.T.N.MI GCn hr7 rfl R.T.N.gC R.T.N.bI .nil pass_none (pa_cons (pe_make R.T.N.E.R.N.T.MI GM hr5 rfl R.T.N.E.R.N.T.gC R.T.N.E.R.N.T.bI .nil pass_none (pa_cons pe_str pa_nil)) (pa_cons pe_int pa_nil)))) (C8.pss_cut (ps_if (pt_cmpR (op_neD (hu64 hr)) (pe_lc (own := [("_law_turn", 13)]) (g := gName 13) (tt := tYes) rfl scRight.nd (pi_range1 rfl R.range (pa_cons pe_int pa_nil)) (blkOk_by (own := [("_law_turn", 13)]) (N := NR) (sc := defScope sRight) (by decide +kernel)) (fun _ _ _ _ _ => pg_name (i := 13) scRight.nd rfl (Or.inl rfl)) (fun _ _ _ _ _ => pts_nil) (fun _ _ _ _ _ => by exact (pe_meth (pv 12) R.T.N.cl R.T.N.say.m GY hr8 R.T.N.say.b .nil pass_none (pa_cons pe_str pa_nil)))) (pe_op op_rep (pe_lst (pa_cons pe_str pa_nil)) pe_int) (nomark _)) (pss_one (ps_ret pe_bl)) pss_nil) (pss_cons (ps_set (i := 14) scRight.nd rfl (.inl rfl) (pe_lst (pa_cons (pe_meth (pv 12) R.T.N.cl R.T.N.say.m GY hr8 R.T.N.say.b .nil pass_none (pa_cons pe_str pa_nil)) (pa_cons (pe_meth (pv 12) R.T.N.cl R.T.N.say.m GY hr8 R.T.N.say.b .nil pass_none (pa_cons pe_str pa_nil)) (pa_cons (pe_meth (pv 12) R.T.N.cl R.T.N.say.m GY hr8 R.T.N.say.b .nil pass_none (pa_cons pe_str pa_nil)) (pa_cons (pe_meth (pv 12) R.T.N.cl R.T.N.say.m GY hr8 R.T.N.say.b .nil pass_none (pa_cons pe_str pa_nil)) pa_nil)))))) (pss_one (ps_ret (pe_cmpR (op_eqD (hu64 hr)) (pv 14) (pe_lst (pa_cons pe_str (pa_cons pe_str (pa_cons pe_str (pa_cons pe_str pa_nil))))) (nomark _)))))))))))))))))))))))))))))))))), ?_⟩
    -- made
    refine ⟨rfl, fun H1 m s1 _ hm => ⟨rfl, fun H2 tp s2 _ ht => fun ch dch nch ndch nech => mk_chain R.T.A.T tR_good (show tR.length ≤ 100000 by decide +kernel) nch ndch fun H3 s3 hr => ⟨(by show 3 ≤ sizeLine; decide), fun q nq => ⟨q, _, rfl, SqT.of upd_same, rfl, _, _, rfl, _, _, rfl, _, _, rfl, rfl, ?_⟩⟩⟩⟩
    have s4 := same_new (o := .tup [.ref m, .ref tp, .ref ch]) nq
    have s34 := Same.trans s3 s4
    have T0 : Ts PR j H (upd H3 q (.tup [.ref m, .ref tp, .ref ch])) := (⟨OffN.refl, hJ, hT⟩ : Ts PR j H H).same (Same.trans s1 (Same.trans s2 s34))
    replace hm := (hm.same s2).same s34
    replace ht := ht.same s34
    replace hr := hr.same s4
    generalize upd H3 q (.tup [.ref m, .ref tp, .ref ch]) = H0 at s4 T0 hm ht hr ⊢
    clear s1 s2 s3 s4 s34 nq nch ndch nech
    replace hm := loop_part (in_cut T0.jar) hm
    replace ht := src_part (in_cut T0.jar) ht
    replace hr := chain_part (in_cut T0.jar) hr
    -- none
    refine ⟨_, rfl, (by show 1 ≤ sizeLine; decide), fun t1 nt1 => ⟨_, rfl, _, rfl, fun dd ndd => ⟨_, rfl, (by show 1 ≤ sizeLine; decide), fun l1 nl1 => ⟨(by show 8 ≤ sizeLine; decide), fun L nL => ?_⟩⟩⟩⟩
    have ut1 := same_new (o := .tup [.str "ask"]) nt1
    have udd := same_new (o := .dK []) ndd
    have ul1 := same_new (o := .lst [.ref m]) nl1
    have uL := same_new (o := .lst [.non, .str "ask", .ref t1, .ref tp, .ref ch, .int 5, .ref dd, .ref l1]) nL
    have uA := (Same.trans ut1 (Same.trans udd (Same.trans ul1 uL)))
    refine ⟨j, L, [.non, .str "ask", .ref t1, .ref tp, .ref ch, .int 5, .ref dd, .ref l1], rfl, T0.jar.same uA, jar_ne (T0.jar.same (Same.trans ut1 (Same.trans udd ul1))) nL, SqL.of upd_same, (by show 0 < 8; decide), (by show 8 < 1073741824; decide), fun H1 i1 xn hx o1 J1 => ?_⟩
    have jt1 := jar_ne T0.jar nt1
    have at1 := cj jt1 (o1 _ _ jt1 (uL _ _ (ul1 _ _ (udd _ _ upd_same)))) (by intro ps z; cases z)
    have jdd := jar_ne (T0.jar.same ut1) ndd
    have add := cj jdd (o1 _ _ jdd (uL _ _ (ul1 _ _ upd_same))) (by intro ps z; cases z)
    have jl1 := jar_ne (T0.jar.same (Same.trans ut1 udd)) nl1
    have al1 := cj jl1 (o1 _ _ jl1 (uL _ _ upd_same)) (by intro ps z; cases z)
    have hxn := none7 (q := tp) (r := ch) (l := l1) at1 add hx
    have cc : Same (RpL.cut [j] _) (RpL.cut [j] H1) := Same.trans (cj_same uA) (cj_off o1)
    replace hm := hm.same cc
    replace ht := ht.same cc
    replace hr := hr.same cc
    have hl1 := al1
    replace T0 := (T0.same uA).off' o1 J1
    clear uL uA hx nL o1 J1 cc ut1 nt1 jt1 udd ndd jdd ul1 nl1 jl1 at1 add
    -- odd
    refine ⟨_, rfl, _, rfl, _, rfl, (by show 0 ≤ sizeLine; decide), fun t1 nt1 => ⟨(by show 6 ≤ sizeLine; decide), fun L nL => ?_⟩⟩
    have ut1 := same_new (o := .tup []) nt1
    have uL := same_new (o := .lst [.non, .str "short prompt empty", .ref m, .ref ch, .int 0, .ref t1]) nL
    have uA := (Same.trans ut1 uL)
    refine ⟨j, L, [.non, .str "short prompt empty", .ref m, .ref ch, .int 0, .ref t1], rfl, T0.jar.same uA, jar_ne (T0.jar.same ut1) nL, SqL.of upd_same, (by show 0 < 6; decide), (by show 6 < 1073741824; decide), fun H1 i1 xo hx o1 J1 => ?_⟩
    have jt1 := jar_ne T0.jar nt1
    have at1 := cj jt1 (o1 _ _ jt1 (uL _ _ upd_same)) (by intro ps z; cases z)
    have hxo := odd7 (m := m) (r := ch) at1 hx
    have cc : Same (RpL.cut [j] _) (RpL.cut [j] H1) := Same.trans (cj_same uA) (cj_off o1)
    replace hm := hm.same cc
    replace ht := ht.same cc
    replace hr := hr.same cc
    replace hxn := hxn.imp (fun h => h.same cc) id
    replace hl1 := cc _ _ hl1
    replace T0 := (T0.same uA).off' o1 J1
    clear uL uA hx nL o1 J1 cc ut1 nt1 jt1 at1
    -- bad
    refine ⟨_, rfl, _, rfl, (by show 1 ≤ sizeLine; decide), fun t1 nt1 => ⟨(by show 0 ≤ sizeLine; decide), fun l2 nl2 => ⟨_, _, rfl, rfl, ⟨by decide, by decide, by decide⟩, (by show 9 ≤ sizeLine; decide), fun L nL => ?_⟩⟩⟩
    have ut1 := same_new (o := .tup [.int 2]) nt1
    have ul2 := same_new (o := .lst []) nl2
    have uL := same_new (o := .lst [.non, .int 0, .int (-1), .bl true, .str "3", .ref t1, .int 1001, .ref l2, .int 10000000000000000000]) nL
    have uA := (Same.trans ut1 (Same.trans ul2 uL))
    refine ⟨j, L, [.non, .int 0, .int (-1), .bl true, .str "3", .ref t1, .int 1001, .ref l2, .int 10000000000000000000], rfl, T0.jar.same uA, jar_ne (T0.jar.same (Same.trans ut1 ul2)) nL, SqL.of upd_same, (by show 0 < 9; decide), (by show 9 < 1073741824; decide), fun H1 i1 xb hx o1 J1 => ?_⟩
    have jt1 := jar_ne T0.jar nt1
    have at1 := cj jt1 (o1 _ _ jt1 (uL _ _ (ul2 _ _ upd_same))) (by intro ps z; cases z)
    have jl2 := jar_ne (T0.jar.same ut1) nl2
    have al2 := cj jl2 (o1 _ _ jl2 (uL _ _ upd_same)) (by intro ps z; cases z)
    have hxb := bad7 at1 al2 hx
    have cc : Same (RpL.cut [j] _) (RpL.cut [j] H1) := Same.trans (cj_same uA) (cj_off o1)
    replace hm := hm.same cc
    replace ht := ht.same cc
    replace hr := hr.same cc
    replace hxn := hxn.imp (fun h => h.same cc) id
    replace hl1 := cc _ _ hl1
    replace hxo := hxo.imp (fun h => h.same cc) id
    replace T0 := (T0.same uA).off' o1 J1
    clear uL uA hx nL o1 J1 cc ut1 nt1 jt1 ul2 nl2 jl2 at1 al2
    -- low
    refine ⟨_, rfl, _, rfl, (by show 0 ≤ sizeLine; decide), fun t1 nt1 => fun dd ndd => ⟨(by show 7 ≤ sizeLine; decide), fun L nL => ?_⟩⟩
    have ut1 := same_new (o := .tup []) nt1
    have udd := same_new (o := .dK []) ndd
    have uL := same_new (o := .lst [.non, .int (-1), .bl false, .str "0", .int 1001, .ref t1, .ref dd]) nL
    have uA := (Same.trans ut1 (Same.trans udd uL))
    refine ⟨j, L, [.non, .int (-1), .bl false, .str "0", .int 1001, .ref t1, .ref dd], rfl, T0.jar.same uA, jar_ne (T0.jar.same (Same.trans ut1 udd)) nL, SqL.of upd_same, (by show 0 < 7; decide), (by show 7 < 1073741824; decide), fun H1 i1 xl hx o1 J1 => ?_⟩
    have jt1 := jar_ne T0.jar nt1
    have at1 := cj jt1 (o1 _ _ jt1 (uL _ _ (udd _ _ upd_same))) (by intro ps z; cases z)
    have jdd := jar_ne (T0.jar.same ut1) ndd
    have add := cj jdd (o1 _ _ jdd (uL _ _ upd_same)) (by intro ps z; cases z)
    have hxl := low7 at1 add hx
    have cc : Same (RpL.cut [j] _) (RpL.cut [j] H1) := Same.trans (cj_same uA) (cj_off o1)
    replace hm := hm.same cc
    replace ht := ht.same cc
    replace hr := hr.same cc
    replace hxn := hxn.imp (fun h => h.same cc) id
    replace hl1 := cc _ _ hl1
    replace hxo := hxo.imp (fun h => h.same cc) id
    replace hxb := hxb.same cc
    replace T0 := (T0.same uA).off' o1 J1
    clear uL uA hx nL o1 J1 cc ut1 nt1 jt1 udd ndd jdd at1 add
    refine ⟨fun σ H' => ∃ (m tp ch : Addr) (xn xo xb xl xw : V) (D : Hp), σ = [some (.ref j), some (.ref m), some (.ref tp), some (.ref ch), some xn, some xo, some xb, some xl, some xw, none, none, none, none, none, none] ∧ Ts PR j H H' ∧ D = RpL.cut [j] H' ∧
      LoopAt (cL R.T) D m txS ∧ SrcU R.T.S.U.C D tp "short" "prompt" "empty" ∧ ChainAt R.T.A.T.C D ch tR ∧ (OdD D (fun _ => True) xn ∨ xn = .ref tp ∨ xn = .ref ch ∨ ∃ l1, xn = .ref l1 ∧ D l1 = some (.lst [.ref m])) ∧
      (OdD D (fun _ => True) xo ∨ xo = .ref m ∨ xo = .ref ch) ∧ OdD D (fun v => btw 1 1000 v = false) xb ∧ OdD D (fun v => btw 0 1000 v = false) xl ∧ OdD D (fun v => noOf wN v = true ∧ noOf wE v = true) xw, ?_, ?_⟩
    · skip
      -- word
      refine ⟨_, rfl, (by show 1 ≤ sizeLine; decide), fun t1 nt1 => ⟨(by show 7 ≤ sizeLine; decide), fun L nL => ?_⟩⟩
      have ut1 := same_new (o := .tup [.str "ends"]) nt1
      have uL := same_new (o := .lst [.non, .str "", .str "Whole", .int 5, .ref t1, .bl true, .str "told"]) nL
      have uA := (Same.trans ut1 uL)
      refine ⟨j, L, [.non, .str "", .str "Whole", .int 5, .ref t1, .bl true, .str "told"], rfl, T0.jar.same uA, jar_ne (T0.jar.same ut1) nL, SqL.of upd_same, (by show 0 < 7; decide), (by show 7 < 1073741824; decide), fun H1 i1 xw hx o1 J1 => ?_⟩
      have jt1 := jar_ne T0.jar nt1
      have at1 := cj jt1 (o1 _ _ jt1 (uL _ _ upd_same)) (by intro ps z; cases z)
      have hxw := word7 at1 hx
      have cc : Same (RpL.cut [j] _) (RpL.cut [j] H1) := Same.trans (cj_same uA) (cj_off o1)
      replace hm := hm.same cc
      replace ht := ht.same cc
      replace hr := hr.same cc
      replace hxn := hxn.imp (fun h => h.same cc) id
      replace hl1 := cc _ _ hl1
      replace hxo := hxo.imp (fun h => h.same cc) id
      replace hxb := hxb.same cc
      replace hxl := hxl.same cc
      replace T0 := (T0.same uA).off' o1 J1
      clear uL uA hx nL o1 J1 cc ut1 nt1 jt1 at1
      exact ⟨m, tp, ch, xn, xo, xb, xl, xw, _, rfl, T0, rfl, hm, ht, hr, hxn.imp id fun h => h.imp id fun h => h.imp id fun h => ⟨l1, h, hl1⟩, hxo, hxb, hxl, hxw⟩
    rintro _ H0 ⟨m, tp, ch, xn, xo, xb, xl, xw, D, rfl, T0, eD, hm, ht, hr, hxn, hxo, hxb, hxl, hxw⟩
    have tb : RpL.NoTb D := eD ▸ RpL.cut_tb
    have dj : ∀ b u, D b = some u → b ≠ j := fun b u e => by
      rw [eD] at e
      simpa using (RpL.cut_of e).1
    have sD : Same D H0 := eD ▸ RpL.cut_up
    clear eD
    obtain ⟨dB, qB, hB, swB⟩ := hxb
    obtain ⟨dL, qL, hL, swL⟩ := hxl
    obtain ⟨dW, qW, ⟨hW, hV⟩, swW⟩ := hxw
    have hmL : LoopAt R.T.L.T.C D m txS := by
      rw [eLT]
      exact hm
    have iM : ∀ H', Same D H' → InC K (cL R.T) H' (.ref m) := fun H' s => ⟨_, loop_in R.T (hm.same s), R.T.N.E.R.y5⟩
    have iT : ∀ H', Same D H' → InC K R.T.S.U.C H' (.ref tp) := fun H' s => ⟨_, (ht.same s).ty R.T.S.U, R.T.S.U.y5⟩
    have iR : ∀ H', Same D H' → InC K R.T.A.T.C H' (.ref ch) := fun H' s => ⟨_, (hr.same s).ty R.T.A.T R.T.A.ty, R.T.A.ty.k1⟩
    have shM : RpL.ItN ((cxOf CX0 P w K mg base NR "_law_right" (defScope sRight) f (.ref cR) A outer s H E).nox) 1 D (.ref m) (("Loop(" : Str) ++ txS ++ ")") := by
      obtain ⟨dx', pr, pe, po, pq, ex, _⟩ := id hmL
      exact RpL.itN_of (RpL.it_own R.T.L.lr.i R.T.L.lr.fn GLr ex fun H9 s9 => ⟨m, txS, rfl, hmL.same s9, (show txS.length ≤ 100000 by decide +kernel), rfl, Same.refl _⟩)
    have shT : RpL.ItN ((cxOf CX0 P w K mg base NR "_law_right" (defScope sRight) f (.ref cR) A outer s H E).nox) 1 D (.ref tp) srS := by
      obtain ⟨dx', ex⟩ := id ht
      exact RpL.itN_of (RpL.it_own R.T.S.U.ur.i R.T.S.U.ur.fn GUr ex fun H9 s9 => ⟨tp, rfl, ht.same s9, rfl, Same.refl _⟩)
    have shR : RpL.ItN ((cxOf CX0 P w K mg base NR "_law_right" (defScope sRight) f (.ref cR) A outer s H E).nox) 1 D (.ref ch) (("Chain(" : Str) ++ tR ++ ")") := by
      obtain ⟨dx', p', vs', ex, _⟩ := id hr
      exact RpL.itN_of (RpL.it_own R.T.A.ar.i R.T.A.ar.fn GAr ex fun H9 s9 => ⟨ch, tR, rfl, hr.same s9, (show tR.length ≤ 100000 by decide +kernel), rfl, Same.refl _⟩)
    have lM : (("Loop(" : Str) ++ txS ++ ")").length ≤ 40 := by decide +kernel
    have lT : srS.length ≤ 40 := by decide +kernel
    have lR : (("Chain(" : Str) ++ tR ++ ")").length ≤ 40 := by decide +kernel
    have shN : ∃ t, RpL.ItN ((cxOf CX0 P w K mg base NR "_law_right" (defScope sRight) f (.ref cR) A outer s H E).nox) 2 D xn t ∧ t.length ≤ 40 := by
      rcases hxn with ⟨d, a, _, sw⟩ | rfl | rfl | ⟨l1, rfl, hl⟩
      · exact ⟨_, RpL.itN_dq sm a sw (szl (by decide)) (by decide), Nat.le_trans sw.ln (by decide)⟩
      · exact ⟨_, shT.mono (by decide), lT⟩
      · exact ⟨_, shR.mono (by decide), lR⟩
      · refine ⟨listText [("Loop(" : Str) ++ txS ++ ")"], RpL.itN_list (D := Hj l1 D) (H := D) (by simp [Hj]) hj_up hl (by simp) rfl fun i v hv => ?_, by decide +kernel⟩
        match i, hv with
        | 0, h =>
          cases h
          have hmL' : LoopAt R.T.L.T.C (Hj l1 D) m txS := loop_part (fun b u nl _ e => hj_at (ne_of e hl (nl _)) e) hmL
          obtain ⟨dx', pr, pe, po, pq, ex, _⟩ := id hmL'
          exact ⟨_, rfl, RpL.itN_of (RpL.it_own R.T.L.lr.i R.T.L.lr.fn GLr ex fun H9 s9 => ⟨m, txS, rfl, hmL'.same s9, (show txS.length ≤ 100000 by decide +kernel), rfl, Same.refl _⟩)⟩
        | n + 1, h => cases h
    have shO : ∃ t, RpL.ItN ((cxOf CX0 P w K mg base NR "_law_right" (defScope sRight) f (.ref cR) A outer s H E).nox) 2 D xo t ∧ t.length ≤ 40 := by
      rcases hxo with ⟨d, a, _, sw⟩ | rfl | rfl
      · exact ⟨_, RpL.itN_dq sm a sw (szl (by decide)) (by decide), Nat.le_trans sw.ln (by decide)⟩
      · exact ⟨_, shM.mono (by decide), lM⟩
      · exact ⟨_, shR.mono (by decide), lR⟩
    have nN : ∀ H', Same D H' → NoIn K (cL R.T) H' xn := fun H' s' => by
      rcases hxn with ⟨d, a, _, sw⟩ | rfl | rfl | ⟨l1, rfl, hl⟩
      · exact noIn_dq R.noL (a.same s')
      · exact ⟨_, (ht.same s').ty R.T.S.U, R.ul⟩
      · exact ⟨_, (hr.same s').ty R.T.A.T R.T.A.ty, R.rl⟩
      · exact noIn_lst R.noL (s' _ _ hl)
    have nO : ∀ H', Same D H' → NoIn K R.T.S.U.C H' xo := fun H' s' => by
      rcases hxo with ⟨d, a, _, sw⟩ | rfl | rfl
      · exact noIn_dq R.noU (a.same s')
      · exact ⟨_, loop_in R.T (hm.same s'), R.lu⟩
      · exact ⟨_, (hr.same s').ty R.T.A.T R.T.A.ty, R.ru⟩
    obtain ⟨tN, itN, lN⟩ := shN
    obtain ⟨tO, itO, lO⟩ := shO
    have itB : RpL.ItN ((cxOf CX0 P w K mg base NR "_law_right" (defScope sRight) f (.ref cR) A outer s H E).nox) 2 D xb dB.shown := RpL.itN_dq sm qB swB (szl (by decide)) (by decide)
    have itL : RpL.ItN ((cxOf CX0 P w K mg base NR "_law_right" (defScope sRight) f (.ref cR) A outer s H E).nox) 2 D xl dL.shown := RpL.itN_dq sm qL swL (szl (by decide)) (by decide)
    have itW : RpL.ItN ((cxOf CX0 P w K mg base NR "_law_right" (defScope sRight) f (.ref cR) A outer s H E).nox) 2 D xw dW.shown := RpL.itN_dq sm qW swW (szl (by decide)) (by decide)
    have lB : dB.shown.length ≤ 40 := Nat.le_trans swB.ln (by decide)
    have lL : dL.shown.length ≤ 40 := Nat.le_trans swL.ln (by decide)
    have lW : dW.shown.length ≤ 40 := Nat.le_trans swW.ln (by decide)
    -- block 1
    refine lam_5 R.T (v := xn) T0.tab (fun H1 E1 R1 e1 er => ?_) fun Hb p1 xe Tb hp fr => ?_
    · have s1 := RpL.sub_ext tb sD e1
      exact ⟨_, rfl, _, rfl, fun x dx nx ndx nex => .inr ⟨x, xn, xb, rfl, fun H' s' => .inl ⟨nN H' (Same.trans s1 (Same.trans (new2 nx ndx) s')), er H' (Same.trans (new2 nx ndx) s')⟩⟩⟩
    refine ⟨(by show 1 ≤ sizeLine; decide), fun sq nsq => ?_⟩
    have st1 := Sx.first tb sD xe Tb hp fr nsq
    show tSeq _ _ _ _ (upd Hb sq (.lst [.ref p1]))
    generalize upd Hb sq (.lst [.ref p1]) = Hc at st1 ⊢
    clear xe Tb hp fr nsq Hb
    refine ⟨_, rfl, .inl ⟨rfl, _, SqL.of st1.sn.at_⟩, ?_⟩
    refine lam_2 R.T (v := xb) st1.sn.tab (fun H1 E1 R1 e1 er => ?_) fun Hb p2 xe Tb hp fr => ?_
    · have s1 := RpL.sub_ext tb st1.sn.sub e1
      exact ⟨_, rfl, _, rfl, fun x dx nx ndx nex => .inr ⟨x, .ref m, xb, rfl, fun H' s' => .inr ⟨m, txS, rfl, hm.same (Same.trans s1 (Same.trans (new2 nx ndx) s')), typedI_dq (qB.same (Same.trans s1 (Same.trans (new2 nx ndx) s'))), hB, er H' (Same.trans (new2 nx ndx) s')⟩⟩⟩
    obtain ⟨aa, st2x⟩ := st1.step tb xe Tb hp fr
    refine ⟨sq, _, _, rfl, rfl, aa, small1000 (by show 1 ≤ 1000; decide), ?_⟩
    have st2 : Sx [(PR, qLam)] D H0 (upd Hb sq (.lst ([V.ref p1] ++ [.ref p2]))) sq [.ref p1, .ref p2] [[.str "NotALoop", xn, .bl true], [.str "InvalidSize", xb, .bl true]] := st2x
    show tSeq _ _ _ _ (upd Hb sq (.lst ([V.ref p1] ++ [.ref p2])))
    generalize upd Hb sq (.lst ([V.ref p1] ++ [.ref p2])) = Hc at st2 ⊢
    clear st2x st1 xe Tb hp fr aa Hb
    refine ⟨_, rfl, .inl ⟨rfl, _, SqL.of st2.sn.at_⟩, ?_⟩
    refine lam_5 R.T (v := xn) st2.sn.tab (fun H1 E1 R1 e1 er => ?_) fun Hb p3 xe Tb hp fr => ?_
    · have s1 := RpL.sub_ext tb st2.sn.sub e1
      exact ⟨_, rfl, _, rfl, xn, xo, rfl, fun H' s' => .inl ⟨nN H' (Same.trans s1 s'), er H' s'⟩⟩
    obtain ⟨aa, st3x⟩ := st2.step tb xe Tb hp fr
    refine ⟨sq, _, _, rfl, rfl, aa, small1000 (by show 2 ≤ 1000; decide), ?_⟩
    have st3 : Sx [(PR, qLam)] D H0 (upd Hb sq (.lst ([V.ref p1, V.ref p2] ++ [.ref p3]))) sq [.ref p1, .ref p2, .ref p3] [[.str "NotALoop", xn, .bl true], [.str "InvalidSize", xb, .bl true], [.str "NotALoop", xn, .bl true]] := st3x
    show tSeq _ _ _ _ (upd Hb sq (.lst ([V.ref p1, V.ref p2] ++ [.ref p3])))
    generalize upd Hb sq (.lst ([V.ref p1, V.ref p2] ++ [.ref p3])) = Hc at st3 ⊢
    clear st3x st2 xe Tb hp fr aa Hb
    refine ⟨_, rfl, .inl ⟨rfl, _, SqL.of st3.sn.at_⟩, ?_⟩
    refine lam_6 R.T (v := xo) st3.sn.tab (fun H1 E1 R1 e1 er => ?_) fun Hb p4 xe Tb hp fr => ?_
    · have s1 := RpL.sub_ext tb st3.sn.sub e1
      exact ⟨_, rfl, _, rfl, .ref m, xo, rfl, fun H' s' => .inr ⟨iM H' (Same.trans s1 s'), nO H' (Same.trans s1 s'), er H' s'⟩⟩
    obtain ⟨aa, st4x⟩ := st3.step tb xe Tb hp fr
    refine ⟨sq, _, _, rfl, rfl, aa, small1000 (by show 3 ≤ 1000; decide), ?_⟩
    have st4 : Sx [(PR, qLam)] D H0 (upd Hb sq (.lst ([V.ref p1, V.ref p2, V.ref p3] ++ [.ref p4]))) sq [.ref p1, .ref p2, .ref p3, .ref p4] [[.str "NotALoop", xn, .bl true], [.str "InvalidSize", xb, .bl true], [.str "NotALoop", xn, .bl true], [.str "NotASource", xo, .bl true]] := st4x
    show tSeq _ _ _ _ (upd Hb sq (.lst ([V.ref p1, V.ref p2, V.ref p3] ++ [.ref p4])))
    generalize upd Hb sq (.lst ([V.ref p1, V.ref p2, V.ref p3] ++ [.ref p4])) = Hc at st4 ⊢
    clear st4x st3 xe Tb hp fr aa Hb
    refine ⟨_, rfl, .inl ⟨rfl, _, SqL.of st4.sn.at_⟩, ?_⟩
    refine lam_5 R.T (v := xn) st4.sn.tab (fun H1 E1 R1 e1 er => ?_) fun Hb p5 xe Tb hp fr => ?_
    · have s1 := RpL.sub_ext tb st4.sn.sub e1
      exact ⟨_, rfl, _, rfl, _, rfl, xn, xo, xw, rfl, .inl ⟨nN H1 s1, er H1 (Same.refl _)⟩⟩
    obtain ⟨aa, st5x⟩ := st4.step tb xe Tb hp fr
    refine ⟨sq, _, _, rfl, rfl, aa, small1000 (by show 4 ≤ 1000; decide), ?_⟩
    have st5 : Sx [(PR, qLam)] D H0 (upd Hb sq (.lst ([V.ref p1, V.ref p2, V.ref p3, V.ref p4] ++ [.ref p5]))) sq [.ref p1, .ref p2, .ref p3, .ref p4, .ref p5] [[.str "NotALoop", xn, .bl true], [.str "InvalidSize", xb, .bl true], [.str "NotALoop", xn, .bl true], [.str "NotASource", xo, .bl true], [.str "NotALoop", xn, .bl true]] := st5x
    show tSeq _ _ _ _ (upd Hb sq (.lst ([V.ref p1, V.ref p2, V.ref p3, V.ref p4] ++ [.ref p5])))
    generalize upd Hb sq (.lst ([V.ref p1, V.ref p2, V.ref p3, V.ref p4] ++ [.ref p5])) = Hc at st5 ⊢
    clear st5x st4 xe Tb hp fr aa Hb
    refine ⟨_, rfl, .inl ⟨rfl, _, SqL.of st5.sn.at_⟩, ?_⟩
    refine lam_6 R.T (v := xo) st5.sn.tab (fun H1 E1 R1 e1 er => ?_) fun Hb p6 xe Tb hp fr => ?_
    · have s1 := RpL.sub_ext tb st5.sn.sub e1
      exact ⟨_, rfl, _, rfl, _, rfl, .ref m, xo, xw, rfl, .inr ⟨iM H1 s1, .inl ⟨nO H1 s1, er H1 (Same.refl _)⟩⟩⟩
    obtain ⟨aa, st6x⟩ := st5.step tb xe Tb hp fr
    refine ⟨sq, _, _, rfl, rfl, aa, small1000 (by show 5 ≤ 1000; decide), ?_⟩
    have st6 : Sx [(PR, qLam)] D H0 (upd Hb sq (.lst ([V.ref p1, V.ref p2, V.ref p3, V.ref p4, V.ref p5] ++ [.ref p6]))) sq [.ref p1, .ref p2, .ref p3, .ref p4, .ref p5, .ref p6] [[.str "NotALoop", xn, .bl true], [.str "InvalidSize", xb, .bl true], [.str "NotALoop", xn, .bl true], [.str "NotASource", xo, .bl true], [.str "NotALoop", xn, .bl true], [.str "NotASource", xo, .bl true]] := st6x
    show tSeq _ _ _ _ (upd Hb sq (.lst ([V.ref p1, V.ref p2, V.ref p3, V.ref p4, V.ref p5] ++ [.ref p6])))
    generalize upd Hb sq (.lst ([V.ref p1, V.ref p2, V.ref p3, V.ref p4, V.ref p5] ++ [.ref p6])) = Hc at st6 ⊢
    clear st6x st5 xe Tb hp fr aa Hb
    refine ⟨_, rfl, .inl ⟨rfl, _, SqL.of st6.sn.at_⟩, ?_⟩
    refine lam_1 R.T (v := xw) st6.sn.tab (fun H1 E1 R1 e1 er => ?_) fun Hb p7 xe Tb hp fr => ?_
    · have s1 := RpL.sub_ext tb st6.sn.sub e1
      exact ⟨_, rfl, _, rfl, _, rfl, .ref m, .ref tp, xw, rfl, .inr ⟨iM H1 s1, .inr ⟨iT H1 s1, typedS_dq (qW.same s1), hW, er H1 (Same.refl _)⟩⟩⟩
    obtain ⟨aa, st7x⟩ := st6.step tb xe Tb hp fr
    refine ⟨sq, _, _, rfl, rfl, aa, small1000 (by show 6 ≤ 1000; decide), ?_⟩
    have st7 : Sx [(PR, qLam)] D H0 (upd Hb sq (.lst ([V.ref p1, V.ref p2, V.ref p3, V.ref p4, V.ref p5, V.ref p6] ++ [.ref p7]))) sq [.ref p1, .ref p2, .ref p3, .ref p4, .ref p5, .ref p6, .ref p7] [[.str "NotALoop", xn, .bl true], [.str "InvalidSize", xb, .bl true], [.str "NotALoop", xn, .bl true], [.str "NotASource", xo, .bl true], [.str "NotALoop", xn, .bl true], [.str "NotASource", xo, .bl true], [.str "InvalidName", xw, .bl true]] := st7x
    show tSeq _ _ _ _ (upd Hb sq (.lst ([V.ref p1, V.ref p2, V.ref p3, V.ref p4, V.ref p5, V.ref p6] ++ [.ref p7])))
    generalize upd Hb sq (.lst ([V.ref p1, V.ref p2, V.ref p3, V.ref p4, V.ref p5, V.ref p6] ++ [.ref p7])) = Hc at st7 ⊢
    clear st7x st6 xe Tb hp fr aa Hb
    refine ⟨_, rfl, (by show 3 ≤ sizeLine; decide), fun r1 nr1 => ?_⟩
    have vr1 := same_new (o := .lst [.str "NotALoop", xn, .bl true]) nr1
    have br1 : (upd Hc r1 (.lst [.str "NotALoop", xn, .bl true])) r1 = some (.lst [.str "NotALoop", xn, .bl true]) := upd_same
    generalize upd Hc r1 (.lst [.str "NotALoop", xn, .bl true]) = Gr1 at vr1 br1 ⊢
    refine ⟨_, rfl, (by show 3 ≤ sizeLine; decide), fun r2 nr2 => ?_⟩
    have vr2 := same_new (o := .lst [.str "InvalidSize", xb, .bl true]) nr2
    have br2 : (upd Gr1 r2 (.lst [.str "InvalidSize", xb, .bl true])) r2 = some (.lst [.str "InvalidSize", xb, .bl true]) := upd_same
    generalize upd Gr1 r2 (.lst [.str "InvalidSize", xb, .bl true]) = Gr2 at vr2 br2 ⊢
    refine ⟨_, rfl, (by show 3 ≤ sizeLine; decide), fun r3 nr3 => ?_⟩
    have vr3 := same_new (o := .lst [.str "NotALoop", xn, .bl true]) nr3
    have br3 : (upd Gr2 r3 (.lst [.str "NotALoop", xn, .bl true])) r3 = some (.lst [.str "NotALoop", xn, .bl true]) := upd_same
    generalize upd Gr2 r3 (.lst [.str "NotALoop", xn, .bl true]) = Gr3 at vr3 br3 ⊢
    refine ⟨_, rfl, (by show 3 ≤ sizeLine; decide), fun r4 nr4 => ?_⟩
    have vr4 := same_new (o := .lst [.str "NotASource", xo, .bl true]) nr4
    have br4 : (upd Gr3 r4 (.lst [.str "NotASource", xo, .bl true])) r4 = some (.lst [.str "NotASource", xo, .bl true]) := upd_same
    generalize upd Gr3 r4 (.lst [.str "NotASource", xo, .bl true]) = Gr4 at vr4 br4 ⊢
    refine ⟨(by show 4 ≤ sizeLine; decide), fun e1 ne1 => ?_⟩
    have ve1 := same_new (o := .lst [.ref r1, .ref r2, .ref r3, .ref r4]) ne1
    have be1 : (upd Gr4 e1 (.lst [.ref r1, .ref r2, .ref r3, .ref r4])) e1 = some (.lst [.ref r1, .ref r2, .ref r3, .ref r4]) := upd_same
    generalize upd Gr4 e1 (.lst [.ref r1, .ref r2, .ref r3, .ref r4]) = Ge1 at ve1 be1 ⊢
    refine ⟨_, rfl, _, rfl, (by show 3 ≤ sizeLine; decide), fun r5 nr5 => ?_⟩
    have vr5 := same_new (o := .lst [.str "NotALoop", xn, .bl true]) nr5
    have br5 : (upd Ge1 r5 (.lst [.str "NotALoop", xn, .bl true])) r5 = some (.lst [.str "NotALoop", xn, .bl true]) := upd_same
    generalize upd Ge1 r5 (.lst [.str "NotALoop", xn, .bl true]) = Gr5 at vr5 br5 ⊢
    refine ⟨_, rfl, (by show 3 ≤ sizeLine; decide), fun r6 nr6 => ?_⟩
    have vr6 := same_new (o := .lst [.str "NotASource", xo, .bl true]) nr6
    have br6 : (upd Gr5 r6 (.lst [.str "NotASource", xo, .bl true])) r6 = some (.lst [.str "NotASource", xo, .bl true]) := upd_same
    generalize upd Gr5 r6 (.lst [.str "NotASource", xo, .bl true]) = Gr6 at vr6 br6 ⊢
    refine ⟨_, rfl, (by show 3 ≤ sizeLine; decide), fun r7 nr7 => ?_⟩
    have vr7 := same_new (o := .lst [.str "InvalidName", xw, .bl true]) nr7
    have br7 : (upd Gr6 r7 (.lst [.str "InvalidName", xw, .bl true])) r7 = some (.lst [.str "InvalidName", xw, .bl true]) := upd_same
    generalize upd Gr6 r7 (.lst [.str "InvalidName", xw, .bl true]) = Gr7 at vr7 br7 ⊢
    refine ⟨(by show 3 ≤ sizeLine; decide), fun e2 ne2 => ?_⟩
    have ve2 := same_new (o := .lst [.ref r5, .ref r6, .ref r7]) ne2
    have be2 : (upd Gr7 e2 (.lst [.ref r5, .ref r6, .ref r7])) e2 = some (.lst [.ref r5, .ref r6, .ref r7]) := upd_same
    generalize upd Gr7 e2 (.lst [.ref r5, .ref r6, .ref r7]) = Ge2 at ve2 be2 ⊢
    refine ⟨e1, e2, _, _, rfl, rfl, (ve2 _ _ (vr7 _ _ (vr6 _ _ (vr5 _ _ be1)))), be2, (by show 4 + 3 ≤ sizeLine; decide), fun e3 ne3 => ?_⟩
    have ve3 := same_new (o := .lst [.ref r1, .ref r2, .ref r3, .ref r4, .ref r5, .ref r6, .ref r7]) ne3
    have be3 : (upd Ge2 e3 (.lst [.ref r1, .ref r2, .ref r3, .ref r4, .ref r5, .ref r6, .ref r7])) e3 = some (.lst [.ref r1, .ref r2, .ref r3, .ref r4, .ref r5, .ref r6, .ref r7]) := upd_same
    have hZ : upd Ge2 e3 (.lst ([V.ref r1, .ref r2, .ref r3, .ref r4] ++ [.ref r5, .ref r6, .ref r7])) = upd Ge2 e3 (.lst [.ref r1, .ref r2, .ref r3, .ref r4, .ref r5, .ref r6, .ref r7]) := rfl
    show C8.tCut _ _ _ _ (upd Ge2 e3 (.lst ([V.ref r1, .ref r2, .ref r3, .ref r4] ++ [.ref r5, .ref r6, .ref r7])))
    rw [hZ]
    generalize upd Ge2 e3 (.lst [.ref r1, .ref r2, .ref r3, .ref r4, .ref r5, .ref r6, .ref r7]) = Z at ve3 be3 ⊢
    clear hZ
    have cr1 := Same.trans st7.sn.sub vr1
    have cr2 := Same.trans cr1 vr2
    have cr3 := Same.trans cr2 vr3
    have cr4 := Same.trans cr3 vr4
    have ce1 := Same.trans cr4 ve1
    have cr5 := Same.trans ce1 vr5
    have cr6 := Same.trans cr5 vr6
    have cr7 := Same.trans cr6 vr7
    have ce2 := Same.trans cr7 ve2
    have cZ := Same.trans ce2 ve3
    have vA := (Same.trans vr1 (Same.trans vr2 (Same.trans vr3 (Same.trans vr4 (Same.trans ve1 (Same.trans vr5 (Same.trans vr6 (Same.trans vr7 (Same.trans ve2 ve3)))))))))
    have rowsD : RpL.RowsD D e3 Z [.ref r1, .ref r2, .ref r3, .ref r4, .ref r5, .ref r6, .ref r7] [[.str "NotALoop", xn, .bl true], [.str "InvalidSize", xb, .bl true], [.str "NotALoop", xn, .bl true], [.str "NotASource", xo, .bl true], [.str "NotALoop", xn, .bl true], [.str "NotASource", xo, .bl true], [.str "InvalidName", xw, .bl true]] := (.cons (ve3 _ _ (ve2 _ _ (vr7 _ _ (vr6 _ _ (vr5 _ _ (ve1 _ _ (vr4 _ _ (vr3 _ _ (vr2 _ _ br1))))))))) (RpL.free_of st7.sn.sub nr1) (ne_of_none (ve2 _ _ (vr7 _ _ (vr6 _ _ (vr5 _ _ (ve1 _ _ (vr4 _ _ (vr3 _ _ (vr2 _ _ br1)))))))) ne3) (.cons (ve3 _ _ (ve2 _ _ (vr7 _ _ (vr6 _ _ (vr5 _ _ (ve1 _ _ (vr4 _ _ (vr3 _ _ br2)))))))) (RpL.free_of cr1 nr2) (ne_of_none (ve2 _ _ (vr7 _ _ (vr6 _ _ (vr5 _ _ (ve1 _ _ (vr4 _ _ (vr3 _ _ br2))))))) ne3) (.cons (ve3 _ _ (ve2 _ _ (vr7 _ _ (vr6 _ _ (vr5 _ _ (ve1 _ _ (vr4 _ _ br3))))))) (RpL.free_of cr2 nr3) (ne_of_none (ve2 _ _ (vr7 _ _ (vr6 _ _ (vr5 _ _ (ve1 _ _ (vr4 _ _ br3)))))) ne3) (.cons (ve3 _ _ (ve2 _ _ (vr7 _ _ (vr6 _ _ (vr5 _ _ (ve1 _ _ br4)))))) (RpL.free_of cr3 nr4) (ne_of_none (ve2 _ _ (vr7 _ _ (vr6 _ _ (vr5 _ _ (ve1 _ _ br4))))) ne3) (.cons (ve3 _ _ (ve2 _ _ (vr7 _ _ (vr6 _ _ br5)))) (RpL.free_of ce1 nr5) (ne_of_none (ve2 _ _ (vr7 _ _ (vr6 _ _ br5))) ne3) (.cons (ve3 _ _ (ve2 _ _ (vr7 _ _ br6))) (RpL.free_of cr5 nr6) (ne_of_none (ve2 _ _ (vr7 _ _ br6)) ne3) (.cons (ve3 _ _ (ve2 _ _ br7)) (RpL.free_of cr6 nr7) (ne_of_none (ve2 _ _ br7) ne3) .nil)))))))
    have tx : RpL.TxtsD ((cxOf CX0 P w K mg base NR "_law_right" (defScope sRight) f (.ref cR) A outer s H E).nox) 2 D [[.str "NotALoop", xn, .bl true], [.str "InvalidSize", xb, .bl true], [.str "NotALoop", xn, .bl true], [.str "NotASource", xo, .bl true], [.str "NotALoop", xn, .bl true], [.str "NotASource", xo, .bl true], [.str "InvalidName", xw, .bl true]] [[reprText "NotALoop", tN, "True"], [reprText "InvalidSize", dB.shown, "True"], [reprText "NotALoop", tN, "True"], [reprText "NotASource", tO, "True"], [reprText "NotALoop", tN, "True"], [reprText "NotASource", tO, "True"], [reprText "InvalidName", dW.shown, "True"]] := (.cons (by simp) rfl (RpL.row3 (le40 nm_NotALoop) itN) (.cons (by simp) rfl (RpL.row3 (le40 nm_InvalidSize) itB) (.cons (by simp) rfl (RpL.row3 (le40 nm_NotALoop) itN) (.cons (by simp) rfl (RpL.row3 (le40 nm_NotASource) itO) (.cons (by simp) rfl (RpL.row3 (le40 nm_NotALoop) itN) (.cons (by simp) rfl (RpL.row3 (le40 nm_NotASource) itO) (.cons (by simp) rfl (RpL.row3 (le40 nm_InvalidName) itW) .nil)))))))
    have sz : (listText (List.map listText [[reprText "NotALoop", tN, "True"], [reprText "InvalidSize", dB.shown, "True"], [reprText "NotALoop", tN, "True"], [reprText "NotASource", tO, "True"], [reprText "NotALoop", tN, "True"], [reprText "NotASource", tO, "True"], [reprText "InvalidName", dW.shown, "True"]])).length ≤ sizeLine := by
      refine seven ?_ (Nat.le_refl 7)
      simp only [List.map_cons, List.map_nil, List.forall_mem_cons]
      exact ⟨Nat.le_trans (RpL.row_len nm_NotALoop lN) (by decide), Nat.le_trans (RpL.row_len nm_InvalidSize lB) (by decide), Nat.le_trans (RpL.row_len nm_NotALoop lN) (by decide), Nat.le_trans (RpL.row_len nm_NotASource lO) (by decide), Nat.le_trans (RpL.row_len nm_NotALoop lN) (by decide), Nat.le_trans (RpL.row_len nm_NotASource lO) (by decide), Nat.le_trans (RpL.row_len nm_InvalidName lW) (by decide), fun x hx => nomatch hx⟩
    have n3 := RpL.free_of (ce2) ne3
    have at7 := vA _ _ st7.sn.at_
    have row7 := st7.sn.row.mono (H' := Z) fun b zs _ h => vA _ _ h
    skip
    refine ⟨fun σ H' => (∃ v9 v10 : Option V, σ = [some (.ref j), some (.ref m), some (.ref tp), some (.ref ch), some xn, some xo, some xb, some xl, some xw, v9, v10, none, none, none, none]) ∧ LamX.ExtN H0 H' ∧ LamX.Tabs [(PR, qLam)] H', ?_, ?_⟩
    · refine ⟨_, rfl, ?_⟩
      refine nil_of ?_
      refine RpL.repr_rows cZ st7.sn.nsq at7 row7 tx (by simp) sz fun H20 s20 => ?_
      refine ⟨_, rfl, ?_⟩
      refine nil_of ?_
      refine RpL.repr_rows (Same.trans cZ s20) n3 (s20 _ _ be3) (rowsD.mono fun b zs _ h => s20 _ _ h) tx (by simp) sz fun H21 s21 => ⟨rfl, _, rfl, ?_⟩
      rw [decide_eq_true rfl]
      have s421 := Same.trans vA (Same.trans s20 s21)
      exact iteF ⟨⟨_, _, rfl⟩, st7.ex.trans (ext_same s421), st7.sn.tab.ext s421⟩
    rintro _ H3 ⟨⟨v9, v10, rfl⟩, e3, T3⟩
    replace T0 := T0.ext e3 T3
    have sD3 : Same D H3 := RpL.sub_ext tb sD e3
    -- gone
    refine ⟨_, rfl, _, rfl, _, rfl, (by show 2 ≤ sizeLine; decide), fun t1 nt1 => fun dd ndd => ⟨(by show 7 ≤ sizeLine; decide), fun L nL => ?_⟩⟩
    have ut1 := same_new (o := .tup [.str "fill", .int 4]) nt1
    have udd := same_new (o := .dK []) ndd
    have uL := same_new (o := .lst [.non, .str "fill 4", .ref m, .ref tp, .int 7, .ref t1, .ref dd]) nL
    have uA := (Same.trans ut1 (Same.trans udd uL))
    refine ⟨j, L, [.non, .str "fill 4", .ref m, .ref tp, .int 7, .ref t1, .ref dd], rfl, T0.jar.same uA, jar_ne (T0.jar.same (Same.trans ut1 udd)) nL, SqL.of upd_same, (by show 0 < 7; decide), (by show 7 < 1073741824; decide), fun H1 i1 xg hx o1 J1 => ?_⟩
    have jt1 := jar_ne T0.jar nt1
    have at1 := cj jt1 (o1 _ _ jt1 (uL _ _ (udd _ _ upd_same))) (by intro ps z; cases z)
    have jdd := jar_ne (T0.jar.same ut1) ndd
    have add := cj jdd (o1 _ _ jdd (uL _ _ upd_same)) (by intro ps z; cases z)
    have hxg := gone7 (m := m) (q := tp) at1 add hx
    have cc : Same (RpL.cut [j] _) (RpL.cut [j] H1) := Same.trans (cj_same uA) (cj_off o1)
    have ss : Same D (RpL.cut [j] H1) := fun b u e => cc _ _ (cj (dj b u e) (sD3 b u e) (fun ps z => tb b ps (z ▸ e)))
    replace T0 := (T0.same uA).off' o1 J1
    clear uL uA hx nL o1 J1 cc ut1 nt1 jt1 udd ndd jdd at1 add
    replace hm := hm.same ss
    replace hmL := hmL.same ss
    replace ht := ht.same ss
    replace hr := hr.same ss
    replace hxn : OdD (RpL.cut [j] H1) (fun _ => True) xn ∨ xn = .ref tp ∨ xn = .ref ch ∨ ∃ l1, xn = .ref l1 ∧ (RpL.cut [j] H1) l1 = some (.lst [.ref m]) := hxn.imp (fun h => h.same ss) fun h => h.imp id fun h => h.imp id fun ⟨l1, a, b⟩ => ⟨l1, a, ss _ _ b⟩
    replace hxo := hxo.imp (fun h => h.same ss) id
    replace qB := qB.same ss
    replace qL := qL.same ss
    replace qW := qW.same ss
    have sD2 : Same (RpL.cut [j] H1) H1 := RpL.cut_up
    have tb2 : RpL.NoTb (RpL.cut [j] H1) := RpL.cut_tb
    clear itN lN itO lO itB itL itW nN nO iM iT iR shM shT shR sD sD3 tb dj ss e3 T3
    generalize RpL.cut [j] H1 = D2 at *
    have iM : ∀ H', Same D2 H' → InC K (cL R.T) H' (.ref m) := fun H' s => ⟨_, loop_in R.T (hm.same s), R.T.N.E.R.y5⟩
    have iT : ∀ H', Same D2 H' → InC K R.T.S.U.C H' (.ref tp) := fun H' s => ⟨_, (ht.same s).ty R.T.S.U, R.T.S.U.y5⟩
    have iR : ∀ H', Same D2 H' → InC K R.T.A.T.C H' (.ref ch) := fun H' s => ⟨_, (hr.same s).ty R.T.A.T R.T.A.ty, R.T.A.ty.k1⟩
    have shM : RpL.ItN ((cxOf CX0 P w K mg base NR "_law_right" (defScope sRight) f (.ref cR) A outer s H E).nox) 1 D2 (.ref m) (("Loop(" : Str) ++ txS ++ ")") := by
      obtain ⟨dx', pr, pe, po, pq, ex, _⟩ := id hmL
      exact RpL.itN_of (RpL.it_own R.T.L.lr.i R.T.L.lr.fn GLr ex fun H9 s9 => ⟨m, txS, rfl, hmL.same s9, (show txS.length ≤ 100000 by decide +kernel), rfl, Same.refl _⟩)
    have shT : RpL.ItN ((cxOf CX0 P w K mg base NR "_law_right" (defScope sRight) f (.ref cR) A outer s H E).nox) 1 D2 (.ref tp) srS := by
      obtain ⟨dx', ex⟩ := id ht
      exact RpL.itN_of (RpL.it_own R.T.S.U.ur.i R.T.S.U.ur.fn GUr ex fun H9 s9 => ⟨tp, rfl, ht.same s9, rfl, Same.refl _⟩)
    have shR : RpL.ItN ((cxOf CX0 P w K mg base NR "_law_right" (defScope sRight) f (.ref cR) A outer s H E).nox) 1 D2 (.ref ch) (("Chain(" : Str) ++ tR ++ ")") := by
      obtain ⟨dx', p', vs', ex, _⟩ := id hr
      exact RpL.itN_of (RpL.it_own R.T.A.ar.i R.T.A.ar.fn GAr ex fun H9 s9 => ⟨ch, tR, rfl, hr.same s9, (show tR.length ≤ 100000 by decide +kernel), rfl, Same.refl _⟩)
    have lM : (("Loop(" : Str) ++ txS ++ ")").length ≤ 40 := by decide +kernel
    have lT : srS.length ≤ 40 := by decide +kernel
    have lR : (("Chain(" : Str) ++ tR ++ ")").length ≤ 40 := by decide +kernel
    have shN : ∃ t, RpL.ItN ((cxOf CX0 P w K mg base NR "_law_right" (defScope sRight) f (.ref cR) A outer s H E).nox) 2 D2 xn t ∧ t.length ≤ 40 := by
      rcases hxn with ⟨d, a, _, sw⟩ | rfl | rfl | ⟨l1, rfl, hl⟩
      · exact ⟨_, RpL.itN_dq sm a sw (szl (by decide)) (by decide), Nat.le_trans sw.ln (by decide)⟩
      · exact ⟨_, shT.mono (by decide), lT⟩
      · exact ⟨_, shR.mono (by decide), lR⟩
      · refine ⟨listText [("Loop(" : Str) ++ txS ++ ")"], RpL.itN_list (D := Hj l1 D2) (H := D2) (by simp [Hj]) hj_up hl (by simp) rfl fun i v hv => ?_, by decide +kernel⟩
        match i, hv with
        | 0, h =>
          cases h
          have hmL' : LoopAt R.T.L.T.C (Hj l1 D2) m txS := loop_part (fun b u nl _ e => hj_at (ne_of e hl (nl _)) e) hmL
          obtain ⟨dx', pr, pe, po, pq, ex, _⟩ := id hmL'
          exact ⟨_, rfl, RpL.itN_of (RpL.it_own R.T.L.lr.i R.T.L.lr.fn GLr ex fun H9 s9 => ⟨m, txS, rfl, hmL'.same s9, (show txS.length ≤ 100000 by decide +kernel), rfl, Same.refl _⟩)⟩
        | n + 1, h => cases h
    have shO : ∃ t, RpL.ItN ((cxOf CX0 P w K mg base NR "_law_right" (defScope sRight) f (.ref cR) A outer s H E).nox) 2 D2 xo t ∧ t.length ≤ 40 := by
      rcases hxo with ⟨d, a, _, sw⟩ | rfl | rfl
      · exact ⟨_, RpL.itN_dq sm a sw (szl (by decide)) (by decide), Nat.le_trans sw.ln (by decide)⟩
      · exact ⟨_, shM.mono (by decide), lM⟩
      · exact ⟨_, shR.mono (by decide), lR⟩
    have nN : ∀ H', Same D2 H' → NoIn K (cL R.T) H' xn := fun H' s' => by
      rcases hxn with ⟨d, a, _, sw⟩ | rfl | rfl | ⟨l1, rfl, hl⟩
      · exact noIn_dq R.noL (a.same s')
      · exact ⟨_, (ht.same s').ty R.T.S.U, R.ul⟩
      · exact ⟨_, (hr.same s').ty R.T.A.T R.T.A.ty, R.rl⟩
      · exact noIn_lst R.noL (s' _ _ hl)
    have nO : ∀ H', Same D2 H' → NoIn K R.T.S.U.C H' xo := fun H' s' => by
      rcases hxo with ⟨d, a, _, sw⟩ | rfl | rfl
      · exact noIn_dq R.noU (a.same s')
      · exact ⟨_, loop_in R.T (hm.same s'), R.lu⟩
      · exact ⟨_, (hr.same s').ty R.T.A.T R.T.A.ty, R.ru⟩
    obtain ⟨tN, itN, lN⟩ := shN
    obtain ⟨tO, itO, lO⟩ := shO
    have itB : RpL.ItN ((cxOf CX0 P w K mg base NR "_law_right" (defScope sRight) f (.ref cR) A outer s H E).nox) 2 D2 xb dB.shown := RpL.itN_dq sm qB swB (szl (by decide)) (by decide)
    have itL : RpL.ItN ((cxOf CX0 P w K mg base NR "_law_right" (defScope sRight) f (.ref cR) A outer s H E).nox) 2 D2 xl dL.shown := RpL.itN_dq sm qL swL (szl (by decide)) (by decide)
    have itW : RpL.ItN ((cxOf CX0 P w K mg base NR "_law_right" (defScope sRight) f (.ref cR) A outer s H E).nox) 2 D2 xw dW.shown := RpL.itN_dq sm qW swW (szl (by decide)) (by decide)
    have lB : dB.shown.length ≤ 40 := Nat.le_trans swB.ln (by decide)
    have lL : dL.shown.length ≤ 40 := Nat.le_trans swL.ln (by decide)
    have lW : dW.shown.length ≤ 40 := Nat.le_trans swW.ln (by decide)
    have shG : ∃ t, RpL.ItN ((cxOf CX0 P w K mg base NR "_law_right" (defScope sRight) f (.ref cR) A outer s H E).nox) 2 D2 xg t ∧ t.length ≤ 40 := by
      rcases hxg with ⟨d, a, _, sw⟩ | rfl | rfl
      · exact ⟨_, RpL.itN_dq sm a sw (szl (by decide)) (by decide), Nat.le_trans sw.ln (by decide)⟩
      · exact ⟨_, shM.mono (by decide), lM⟩
      · exact ⟨_, shT.mono (by decide), lT⟩
    have nG : ∀ H', Same D2 H' → NoIn K R.T.A.T.C H' xg := fun H' s' => by
      rcases hxg with ⟨d, a, _, sw⟩ | rfl | rfl
      · exact noIn_dq R.noC (a.same s')
      · exact ⟨_, loop_in R.T (hm.same s'), R.lr⟩
      · exact ⟨_, (ht.same s').ty R.T.S.U, R.ur⟩
    obtain ⟨tG, itG, lG⟩ := shG
    -- block 2
    refine lam_4 R.T (v := xg) T0.tab (fun H1 E1 R1 e1 er => ?_) fun Hb p1 xe Tb hp fr => ?_
    · have s1 := RpL.sub_ext tb2 sD2 e1
      exact ⟨_, rfl, _, rfl, xg, xl, rfl, .inl ⟨nG H1 s1, er H1 (Same.refl _)⟩⟩
    refine ⟨(by show 1 ≤ sizeLine; decide), fun sq nsq => ?_⟩
    have st1 := Sx.first tb2 sD2 xe Tb hp fr nsq
    show tSeq _ _ _ _ (upd Hb sq (.lst [.ref p1]))
    generalize upd Hb sq (.lst [.ref p1]) = Hc at st1 ⊢
    clear xe Tb hp fr nsq Hb
    refine ⟨_, rfl, .inl ⟨rfl, _, SqL.of st1.sn.at_⟩, ?_⟩
    refine lam_0 R.T (v := xl) st1.sn.tab (fun H1 E1 R1 e1 er => ?_) fun Hb p2 xe Tb hp fr => ?_
    · have s1 := RpL.sub_ext tb2 st1.sn.sub e1
      exact ⟨_, rfl, _, rfl, .ref ch, xl, rfl, .inr ⟨iR H1 s1, typedI_dq (qL.same s1), hL, er H1 (Same.refl _)⟩⟩
    obtain ⟨aa, st2x⟩ := st1.step tb2 xe Tb hp fr
    refine ⟨sq, _, _, rfl, rfl, aa, small1000 (by show 1 ≤ 1000; decide), ?_⟩
    have st2 : Sx [(PR, qLam)] D2 H1 (upd Hb sq (.lst ([V.ref p1] ++ [.ref p2]))) sq [.ref p1, .ref p2] [[.str "NotAChain", xg, .bl true], [.str "InvalidItems", xl, .bl true]] := st2x
    show tSeq _ _ _ _ (upd Hb sq (.lst ([V.ref p1] ++ [.ref p2])))
    generalize upd Hb sq (.lst ([V.ref p1] ++ [.ref p2])) = Hc at st2 ⊢
    clear st2x st1 xe Tb hp fr aa Hb
    refine ⟨_, rfl, .inl ⟨rfl, _, SqL.of st2.sn.at_⟩, ?_⟩
    refine lam_4 R.T (v := xg) st2.sn.tab (fun H1 E1 R1 e1 er => ?_) fun Hb p3 xe Tb hp fr => ?_
    · have s1 := RpL.sub_ext tb2 st2.sn.sub e1
      exact ⟨_, rfl, _, rfl, xg, xn, rfl, .inl ⟨nG H1 s1, er H1 (Same.refl _)⟩⟩
    obtain ⟨aa, st3x⟩ := st2.step tb2 xe Tb hp fr
    refine ⟨sq, _, _, rfl, rfl, aa, small1000 (by show 2 ≤ 1000; decide), ?_⟩
    have st3 : Sx [(PR, qLam)] D2 H1 (upd Hb sq (.lst ([V.ref p1, V.ref p2] ++ [.ref p3]))) sq [.ref p1, .ref p2, .ref p3] [[.str "NotAChain", xg, .bl true], [.str "InvalidItems", xl, .bl true], [.str "NotAChain", xg, .bl true]] := st3x
    show tSeq _ _ _ _ (upd Hb sq (.lst ([V.ref p1, V.ref p2] ++ [.ref p3])))
    generalize upd Hb sq (.lst ([V.ref p1, V.ref p2] ++ [.ref p3])) = Hc at st3 ⊢
    clear st3x st2 xe Tb hp fr aa Hb
    refine ⟨_, rfl, .inl ⟨rfl, _, SqL.of st3.sn.at_⟩, ?_⟩
    refine lam_4 R.T (v := xg) st3.sn.tab (fun H1 E1 R1 e1 er => ?_) fun Hb p4 xe Tb hp fr => ?_
    · have s1 := RpL.sub_ext tb2 st3.sn.sub e1
      exact ⟨_, rfl, _, rfl, .ref ch, xg, rfl, .inr ⟨iR H1 s1, nG H1 s1, er H1 (Same.refl _)⟩⟩
    obtain ⟨aa, st4x⟩ := st3.step tb2 xe Tb hp fr
    refine ⟨sq, _, _, rfl, rfl, aa, small1000 (by show 3 ≤ 1000; decide), ?_⟩
    have st4 : Sx [(PR, qLam)] D2 H1 (upd Hb sq (.lst ([V.ref p1, V.ref p2, V.ref p3] ++ [.ref p4]))) sq [.ref p1, .ref p2, .ref p3, .ref p4] [[.str "NotAChain", xg, .bl true], [.str "InvalidItems", xl, .bl true], [.str "NotAChain", xg, .bl true], [.str "NotAChain", xg, .bl true]] := st4x
    show tSeq _ _ _ _ (upd Hb sq (.lst ([V.ref p1, V.ref p2, V.ref p3] ++ [.ref p4])))
    generalize upd Hb sq (.lst ([V.ref p1, V.ref p2, V.ref p3] ++ [.ref p4])) = Hc at st4 ⊢
    clear st4x st3 xe Tb hp fr aa Hb
    refine ⟨_, rfl, .inl ⟨rfl, _, SqL.of st4.sn.at_⟩, ?_⟩
    refine lam_5 R.T (v := xn) st4.sn.tab (fun H1 E1 R1 e1 er => ?_) fun Hb p5 xe Tb hp fr => ?_
    · have s1 := RpL.sub_ext tb2 st4.sn.sub e1
      exact ⟨_, rfl, _, rfl, _, rfl, xn, xg, xw, rfl, .inl ⟨nN H1 s1, er H1 (Same.refl _)⟩⟩
    obtain ⟨aa, st5x⟩ := st4.step tb2 xe Tb hp fr
    refine ⟨sq, _, _, rfl, rfl, aa, small1000 (by show 4 ≤ 1000; decide), ?_⟩
    have st5 : Sx [(PR, qLam)] D2 H1 (upd Hb sq (.lst ([V.ref p1, V.ref p2, V.ref p3, V.ref p4] ++ [.ref p5]))) sq [.ref p1, .ref p2, .ref p3, .ref p4, .ref p5] [[.str "NotAChain", xg, .bl true], [.str "InvalidItems", xl, .bl true], [.str "NotAChain", xg, .bl true], [.str "NotAChain", xg, .bl true], [.str "NotALoop", xn, .bl true]] := st5x
    show tSeq _ _ _ _ (upd Hb sq (.lst ([V.ref p1, V.ref p2, V.ref p3, V.ref p4] ++ [.ref p5])))
    generalize upd Hb sq (.lst ([V.ref p1, V.ref p2, V.ref p3, V.ref p4] ++ [.ref p5])) = Hc at st5 ⊢
    clear st5x st4 xe Tb hp fr aa Hb
    refine ⟨_, rfl, .inl ⟨rfl, _, SqL.of st5.sn.at_⟩, ?_⟩
    refine lam_5 R.T (v := xn) st5.sn.tab (fun H1 E1 R1 e1 er => ?_) fun Hb p6 xe Tb hp fr => ?_
    · have s1 := RpL.sub_ext tb2 st5.sn.sub e1
      exact ⟨_, rfl, _, rfl, _, rfl, .ref m, xn, xw, rfl, .inr ⟨iM H1 s1, .inl ⟨nN H1 s1, er H1 (Same.refl _)⟩⟩⟩
    obtain ⟨aa, st6x⟩ := st5.step tb2 xe Tb hp fr
    refine ⟨sq, _, _, rfl, rfl, aa, small1000 (by show 5 ≤ 1000; decide), ?_⟩
    have st6 : Sx [(PR, qLam)] D2 H1 (upd Hb sq (.lst ([V.ref p1, V.ref p2, V.ref p3, V.ref p4, V.ref p5] ++ [.ref p6]))) sq [.ref p1, .ref p2, .ref p3, .ref p4, .ref p5, .ref p6] [[.str "NotAChain", xg, .bl true], [.str "InvalidItems", xl, .bl true], [.str "NotAChain", xg, .bl true], [.str "NotAChain", xg, .bl true], [.str "NotALoop", xn, .bl true], [.str "NotALoop", xn, .bl true]] := st6x
    show tSeq _ _ _ _ (upd Hb sq (.lst ([V.ref p1, V.ref p2, V.ref p3, V.ref p4, V.ref p5] ++ [.ref p6])))
    generalize upd Hb sq (.lst ([V.ref p1, V.ref p2, V.ref p3, V.ref p4, V.ref p5] ++ [.ref p6])) = Hc at st6 ⊢
    clear st6x st5 xe Tb hp fr aa Hb
    refine ⟨_, rfl, .inl ⟨rfl, _, SqL.of st6.sn.at_⟩, ?_⟩
    refine lam_3 R.T (v := xw) st6.sn.tab (fun H1 E1 R1 e1 er => ?_) fun Hb p7 xe Tb hp fr => ?_
    · have s1 := RpL.sub_ext tb2 st6.sn.sub e1
      exact ⟨_, rfl, _, rfl, _, rfl, .ref m, .ref m, xw, rfl, .inr ⟨iM H1 s1, .inr ⟨iM H1 s1, typedS_dq (qW.same s1), hV, er H1 (Same.refl _)⟩⟩⟩
    obtain ⟨aa, st7x⟩ := st6.step tb2 xe Tb hp fr
    refine ⟨sq, _, _, rfl, rfl, aa, small1000 (by show 6 ≤ 1000; decide), ?_⟩
    have st7 : Sx [(PR, qLam)] D2 H1 (upd Hb sq (.lst ([V.ref p1, V.ref p2, V.ref p3, V.ref p4, V.ref p5, V.ref p6] ++ [.ref p7]))) sq [.ref p1, .ref p2, .ref p3, .ref p4, .ref p5, .ref p6, .ref p7] [[.str "NotAChain", xg, .bl true], [.str "InvalidItems", xl, .bl true], [.str "NotAChain", xg, .bl true], [.str "NotAChain", xg, .bl true], [.str "NotALoop", xn, .bl true], [.str "NotALoop", xn, .bl true], [.str "InvalidWord", xw, .bl true]] := st7x
    show tSeq _ _ _ _ (upd Hb sq (.lst ([V.ref p1, V.ref p2, V.ref p3, V.ref p4, V.ref p5, V.ref p6] ++ [.ref p7])))
    generalize upd Hb sq (.lst ([V.ref p1, V.ref p2, V.ref p3, V.ref p4, V.ref p5, V.ref p6] ++ [.ref p7])) = Hc at st7 ⊢
    clear st7x st6 xe Tb hp fr aa Hb
    refine ⟨_, rfl, (by show 3 ≤ sizeLine; decide), fun r1 nr1 => ?_⟩
    have vr1 := same_new (o := .lst [.str "NotAChain", xg, .bl true]) nr1
    have br1 : (upd Hc r1 (.lst [.str "NotAChain", xg, .bl true])) r1 = some (.lst [.str "NotAChain", xg, .bl true]) := upd_same
    generalize upd Hc r1 (.lst [.str "NotAChain", xg, .bl true]) = Gr1 at vr1 br1 ⊢
    refine ⟨_, rfl, (by show 3 ≤ sizeLine; decide), fun r2 nr2 => ?_⟩
    have vr2 := same_new (o := .lst [.str "InvalidItems", xl, .bl true]) nr2
    have br2 : (upd Gr1 r2 (.lst [.str "InvalidItems", xl, .bl true])) r2 = some (.lst [.str "InvalidItems", xl, .bl true]) := upd_same
    generalize upd Gr1 r2 (.lst [.str "InvalidItems", xl, .bl true]) = Gr2 at vr2 br2 ⊢
    refine ⟨_, rfl, (by show 3 ≤ sizeLine; decide), fun r3 nr3 => ?_⟩
    have vr3 := same_new (o := .lst [.str "NotAChain", xg, .bl true]) nr3
    have br3 : (upd Gr2 r3 (.lst [.str "NotAChain", xg, .bl true])) r3 = some (.lst [.str "NotAChain", xg, .bl true]) := upd_same
    generalize upd Gr2 r3 (.lst [.str "NotAChain", xg, .bl true]) = Gr3 at vr3 br3 ⊢
    refine ⟨_, rfl, (by show 3 ≤ sizeLine; decide), fun r4 nr4 => ?_⟩
    have vr4 := same_new (o := .lst [.str "NotAChain", xg, .bl true]) nr4
    have br4 : (upd Gr3 r4 (.lst [.str "NotAChain", xg, .bl true])) r4 = some (.lst [.str "NotAChain", xg, .bl true]) := upd_same
    generalize upd Gr3 r4 (.lst [.str "NotAChain", xg, .bl true]) = Gr4 at vr4 br4 ⊢
    refine ⟨(by show 4 ≤ sizeLine; decide), fun e1 ne1 => ?_⟩
    have ve1 := same_new (o := .lst [.ref r1, .ref r2, .ref r3, .ref r4]) ne1
    have be1 : (upd Gr4 e1 (.lst [.ref r1, .ref r2, .ref r3, .ref r4])) e1 = some (.lst [.ref r1, .ref r2, .ref r3, .ref r4]) := upd_same
    generalize upd Gr4 e1 (.lst [.ref r1, .ref r2, .ref r3, .ref r4]) = Ge1 at ve1 be1 ⊢
    refine ⟨_, rfl, _, rfl, (by show 3 ≤ sizeLine; decide), fun r5 nr5 => ?_⟩
    have vr5 := same_new (o := .lst [.str "NotALoop", xn, .bl true]) nr5
    have br5 : (upd Ge1 r5 (.lst [.str "NotALoop", xn, .bl true])) r5 = some (.lst [.str "NotALoop", xn, .bl true]) := upd_same
    generalize upd Ge1 r5 (.lst [.str "NotALoop", xn, .bl true]) = Gr5 at vr5 br5 ⊢
    refine ⟨_, rfl, (by show 3 ≤ sizeLine; decide), fun r6 nr6 => ?_⟩
    have vr6 := same_new (o := .lst [.str "NotALoop", xn, .bl true]) nr6
    have br6 : (upd Gr5 r6 (.lst [.str "NotALoop", xn, .bl true])) r6 = some (.lst [.str "NotALoop", xn, .bl true]) := upd_same
    generalize upd Gr5 r6 (.lst [.str "NotALoop", xn, .bl true]) = Gr6 at vr6 br6 ⊢
    refine ⟨_, rfl, (by show 3 ≤ sizeLine; decide), fun r7 nr7 => ?_⟩
    have vr7 := same_new (o := .lst [.str "InvalidWord", xw, .bl true]) nr7
    have br7 : (upd Gr6 r7 (.lst [.str "InvalidWord", xw, .bl true])) r7 = some (.lst [.str "InvalidWord", xw, .bl true]) := upd_same
    generalize upd Gr6 r7 (.lst [.str "InvalidWord", xw, .bl true]) = Gr7 at vr7 br7 ⊢
    refine ⟨(by show 3 ≤ sizeLine; decide), fun e2 ne2 => ?_⟩
    have ve2 := same_new (o := .lst [.ref r5, .ref r6, .ref r7]) ne2
    have be2 : (upd Gr7 e2 (.lst [.ref r5, .ref r6, .ref r7])) e2 = some (.lst [.ref r5, .ref r6, .ref r7]) := upd_same
    generalize upd Gr7 e2 (.lst [.ref r5, .ref r6, .ref r7]) = Ge2 at ve2 be2 ⊢
    refine ⟨e1, e2, _, _, rfl, rfl, (ve2 _ _ (vr7 _ _ (vr6 _ _ (vr5 _ _ be1)))), be2, (by show 4 + 3 ≤ sizeLine; decide), fun e3 ne3 => ?_⟩
    have ve3 := same_new (o := .lst [.ref r1, .ref r2, .ref r3, .ref r4, .ref r5, .ref r6, .ref r7]) ne3
    have be3 : (upd Ge2 e3 (.lst [.ref r1, .ref r2, .ref r3, .ref r4, .ref r5, .ref r6, .ref r7])) e3 = some (.lst [.ref r1, .ref r2, .ref r3, .ref r4, .ref r5, .ref r6, .ref r7]) := upd_same
    have hZ : upd Ge2 e3 (.lst ([V.ref r1, .ref r2, .ref r3, .ref r4] ++ [.ref r5, .ref r6, .ref r7])) = upd Ge2 e3 (.lst [.ref r1, .ref r2, .ref r3, .ref r4, .ref r5, .ref r6, .ref r7]) := rfl
    show C8.tCut _ _ _ _ (upd Ge2 e3 (.lst ([V.ref r1, .ref r2, .ref r3, .ref r4] ++ [.ref r5, .ref r6, .ref r7])))
    rw [hZ]
    generalize upd Ge2 e3 (.lst [.ref r1, .ref r2, .ref r3, .ref r4, .ref r5, .ref r6, .ref r7]) = Z at ve3 be3 ⊢
    clear hZ
    have cr1 := Same.trans st7.sn.sub vr1
    have cr2 := Same.trans cr1 vr2
    have cr3 := Same.trans cr2 vr3
    have cr4 := Same.trans cr3 vr4
    have ce1 := Same.trans cr4 ve1
    have cr5 := Same.trans ce1 vr5
    have cr6 := Same.trans cr5 vr6
    have cr7 := Same.trans cr6 vr7
    have ce2 := Same.trans cr7 ve2
    have cZ := Same.trans ce2 ve3
    have vA := (Same.trans vr1 (Same.trans vr2 (Same.trans vr3 (Same.trans vr4 (Same.trans ve1 (Same.trans vr5 (Same.trans vr6 (Same.trans vr7 (Same.trans ve2 ve3)))))))))
    have rowsD : RpL.RowsD D2 e3 Z [.ref r1, .ref r2, .ref r3, .ref r4, .ref r5, .ref r6, .ref r7] [[.str "NotAChain", xg, .bl true], [.str "InvalidItems", xl, .bl true], [.str "NotAChain", xg, .bl true], [.str "NotAChain", xg, .bl true], [.str "NotALoop", xn, .bl true], [.str "NotALoop", xn, .bl true], [.str "InvalidWord", xw, .bl true]] := (.cons (ve3 _ _ (ve2 _ _ (vr7 _ _ (vr6 _ _ (vr5 _ _ (ve1 _ _ (vr4 _ _ (vr3 _ _ (vr2 _ _ br1))))))))) (RpL.free_of st7.sn.sub nr1) (ne_of_none (ve2 _ _ (vr7 _ _ (vr6 _ _ (vr5 _ _ (ve1 _ _ (vr4 _ _ (vr3 _ _ (vr2 _ _ br1)))))))) ne3) (.cons (ve3 _ _ (ve2 _ _ (vr7 _ _ (vr6 _ _ (vr5 _ _ (ve1 _ _ (vr4 _ _ (vr3 _ _ br2)))))))) (RpL.free_of cr1 nr2) (ne_of_none (ve2 _ _ (vr7 _ _ (vr6 _ _ (vr5 _ _ (ve1 _ _ (vr4 _ _ (vr3 _ _ br2))))))) ne3) (.cons (ve3 _ _ (ve2 _ _ (vr7 _ _ (vr6 _ _ (vr5 _ _ (ve1 _ _ (vr4 _ _ br3))))))) (RpL.free_of cr2 nr3) (ne_of_none (ve2 _ _ (vr7 _ _ (vr6 _ _ (vr5 _ _ (ve1 _ _ (vr4 _ _ br3)))))) ne3) (.cons (ve3 _ _ (ve2 _ _ (vr7 _ _ (vr6 _ _ (vr5 _ _ (ve1 _ _ br4)))))) (RpL.free_of cr3 nr4) (ne_of_none (ve2 _ _ (vr7 _ _ (vr6 _ _ (vr5 _ _ (ve1 _ _ br4))))) ne3) (.cons (ve3 _ _ (ve2 _ _ (vr7 _ _ (vr6 _ _ br5)))) (RpL.free_of ce1 nr5) (ne_of_none (ve2 _ _ (vr7 _ _ (vr6 _ _ br5))) ne3) (.cons (ve3 _ _ (ve2 _ _ (vr7 _ _ br6))) (RpL.free_of cr5 nr6) (ne_of_none (ve2 _ _ (vr7 _ _ br6)) ne3) (.cons (ve3 _ _ (ve2 _ _ br7)) (RpL.free_of cr6 nr7) (ne_of_none (ve2 _ _ br7) ne3) .nil)))))))
    have tx : RpL.TxtsD ((cxOf CX0 P w K mg base NR "_law_right" (defScope sRight) f (.ref cR) A outer s H E).nox) 2 D2 [[.str "NotAChain", xg, .bl true], [.str "InvalidItems", xl, .bl true], [.str "NotAChain", xg, .bl true], [.str "NotAChain", xg, .bl true], [.str "NotALoop", xn, .bl true], [.str "NotALoop", xn, .bl true], [.str "InvalidWord", xw, .bl true]] [[reprText "NotAChain", tG, "True"], [reprText "InvalidItems", dL.shown, "True"], [reprText "NotAChain", tG, "True"], [reprText "NotAChain", tG, "True"], [reprText "NotALoop", tN, "True"], [reprText "NotALoop", tN, "True"], [reprText "InvalidWord", dW.shown, "True"]] := (.cons (by simp) rfl (RpL.row3 (le40 nm_NotAChain) itG) (.cons (by simp) rfl (RpL.row3 (le40 nm_InvalidItems) itL) (.cons (by simp) rfl (RpL.row3 (le40 nm_NotAChain) itG) (.cons (by simp) rfl (RpL.row3 (le40 nm_NotAChain) itG) (.cons (by simp) rfl (RpL.row3 (le40 nm_NotALoop) itN) (.cons (by simp) rfl (RpL.row3 (le40 nm_NotALoop) itN) (.cons (by simp) rfl (RpL.row3 (le40 nm_InvalidWord) itW) .nil)))))))
    have sz : (listText (List.map listText [[reprText "NotAChain", tG, "True"], [reprText "InvalidItems", dL.shown, "True"], [reprText "NotAChain", tG, "True"], [reprText "NotAChain", tG, "True"], [reprText "NotALoop", tN, "True"], [reprText "NotALoop", tN, "True"], [reprText "InvalidWord", dW.shown, "True"]])).length ≤ sizeLine := by
      refine seven ?_ (Nat.le_refl 7)
      simp only [List.map_cons, List.map_nil, List.forall_mem_cons]
      exact ⟨Nat.le_trans (RpL.row_len nm_NotAChain lG) (by decide), Nat.le_trans (RpL.row_len nm_InvalidItems lL) (by decide), Nat.le_trans (RpL.row_len nm_NotAChain lG) (by decide), Nat.le_trans (RpL.row_len nm_NotAChain lG) (by decide), Nat.le_trans (RpL.row_len nm_NotALoop lN) (by decide), Nat.le_trans (RpL.row_len nm_NotALoop lN) (by decide), Nat.le_trans (RpL.row_len nm_InvalidWord lW) (by decide), fun x hx => nomatch hx⟩
    have n3 := RpL.free_of (ce2) ne3
    have at7 := vA _ _ st7.sn.at_
    have row7 := st7.sn.row.mono (H' := Z) fun b zs _ h => vA _ _ h
    skip
    refine ⟨fun σ H' => (∃ v9 v10 : Option V, σ = [some (.ref j), some (.ref m), some (.ref tp), some (.ref ch), some xn, some xo, some xb, some xl, some xw, v9, v10, some xg, none, none, none]) ∧ LamX.ExtN H1 H' ∧ LamX.Tabs [(PR, qLam)] H', ?_, ?_⟩
    · refine ⟨_, rfl, ?_⟩
      refine nil_of ?_
      refine RpL.repr_rows cZ st7.sn.nsq at7 row7 tx (by simp) sz fun H20 s20 => ?_
      refine ⟨_, rfl, ?_⟩
      refine nil_of ?_
      refine RpL.repr_rows (Same.trans cZ s20) n3 (s20 _ _ be3) (rowsD.mono fun b zs _ h => s20 _ _ h) tx (by simp) sz fun H21 s21 => ⟨rfl, _, rfl, ?_⟩
      rw [decide_eq_true rfl]
      have s421 := Same.trans vA (Same.trans s20 s21)
      exact iteF ⟨⟨_, _, rfl⟩, st7.ex.trans (ext_same s421), st7.sn.tab.ext s421⟩
    rintro _ H5 ⟨⟨v9, v10, rfl⟩, e5, T5⟩
    -- the console
    have T6 := T0.ext e5 T5
    intro x dx nx ndx nex
    refine ⟨x, dx, .str tD, rfl, upd_same, typed_str _, (show tD.length ≤ 100000 by decide +kernel), fun t' et _ H6 o6 l6 => ⟨rfl, ?_⟩, fun z => absurd ((show good (.str tD) = true from tD_good).symm.trans z) (by decide)⟩
    cases et
    have s6 := made_same nx ndx o6
    intro y dy ny ndy ney
    have sM : Same H6 (upd (upd H6 dy (.own y)) y (.ins R.T.N.C dy [])) := new2 ny ndy
    refine .inl ⟨y, dy, x, 3, tD, rfl, upd_same, l6.same sM, by decide, by decide, fun H7 lv dv m0 o7 nlv hC0 => ⟨rfl, ?_⟩⟩
    have s57 := Same.trans s6 (made_same ny ndy o7)
    have T7 := T6.same s57
    have nl5 := (Same.trans s6 sM).free nlv
    refine ⟨fun σ H' => ∃ m' : Addr, σ = [some (.ref j), some (.ref m), some (.ref tp), some (.ref ch), some xn, some xo, some xb, some xl, some xw, v9, v10, some xg, some (.ref y), none, none] ∧ Off lv H7 H' ∧ ConAt R.T.N H' y dy lv dv x m' 3 tD (rp 100), ?_, ?_⟩
    · refine ⟨100, rfl, by decide, by decide, fun Dc nDc => lc_range (lo := 0) (n := 100) (fun i H' => Off lv H7 H' ∧ (∃ m', ConAt R.T.N H' y dy lv dv x m' 3 tD (rp i)) ∧ H' Dc = some (.lst (List.replicate i (.str "none")))) ⟨Same.off (same_new nDc), ⟨m0, hC0.same (same_new nDc)⟩, upd_same⟩ ?_ ?_⟩
      · rintro i H8 hi ⟨o8, ⟨m', hC⟩, hD⟩
        refine ⟨rfl, ?_⟩
        refine ⟨_, rfl, y, dy, _, rfl, hC.at_, noS7 _, ?_⟩
        refine tc1 (sp := spSy R.T.N) ?_
        refine say_feed hC hi fun H9 m2 o9 hC9 => ?_
        have dl : Dc ≠ lv := (ne_of_none hC0.rd.at_ nDc).symm
        have hD9 := o9 _ _ dl hD
        refine ⟨_, hD9, by rw [List.length_replicate]; exact small1000 (by omega), fun b o n e => ?_, ⟨m2, hC9.put hD9⟩, ?_⟩
        · rw [upd_ne (ne_of_none e nDc)]
          exact o9 _ _ n (o8 _ _ n e)
        · rw [upd_same, List.replicate_succ']
      · rintro H8 ⟨o8, ⟨m', hC⟩, hD⟩
        refine ⟨(by show 1 ≤ sizeLine; decide), fun a na => ?_⟩
        have u1 := same_new (o := .lst [.str "none"]) na
        have ha : (upd H8 a (.lst [.str "none"])) a = some (.lst [.str "none"]) := upd_same
        generalize upd H8 a (.lst [.str "none"]) = H9 at u1 ha ⊢
        refine ⟨a, 100, _, rfl, rfl, ha, by decide, by decide, (by show 1 * 100 ≤ sizeLine; decide), fun p np => ?_⟩
        have u2 := same_new (o := .lst (List.replicate 100 (.str "none"))) np
        have hp : (upd H9 p (.lst (List.replicate 100 (.str "none")))) p = some (.lst (List.replicate 100 (.str "none"))) := upd_same
        have e2 : (List.replicate ((100 : Int).toNat) [V.str "none"]).flatten = List.replicate 100 (.str "none") := flat_rep 100
        rw [e2]
        generalize upd H9 p (.lst (List.replicate 100 (.str "none"))) = H10 at u2 hp ⊢
        have s8 := Same.trans u1 u2
        refine ⟨.list (List.replicate 100 (.str "none")), .list (List.replicate 100 (.str "none")), .lst (SqL.of (s8 _ _ hD)) (dp_rep 100), .lst (SqL.of hp) (dp_rep 100), nones.1, nones.1, _, rfl, ?_⟩
        rw [nones.2]
        exact iteF ⟨m', rfl, fun b o n e => s8 _ _ (o8 _ _ n e), hC.same s8⟩
    rintro _ H8 ⟨m', rfl, o8, hC⟩
    refine ⟨_, rfl, y, dy, _, rfl, hC.at_, noS7 _, ?_⟩
    refine tc1 (sp := spSy R.T.N) ?_
    refine say_full hC (by decide +kernel) (by decide +kernel) (by decide +kernel) (by decide +kernel) say1 fun Ha sa => ?_
    refine ⟨_, rfl, y, dy, _, rfl, (hC.same sa).at_, noS7 _, ?_⟩
    refine tc1 (sp := spSy R.T.N) ?_
    refine say_full (hC.same sa) (by decide +kernel) (by decide +kernel) (by decide +kernel) (by decide +kernel) say0 fun Hb sb2 => ?_
    have sab := Same.trans sa sb2
    refine ⟨_, rfl, y, dy, _, rfl, (hC.same sab).at_, noS7 _, ?_⟩
    refine tc1 (sp := spSy R.T.N) ?_
    refine say_state (hC.same sab) ?_
    refine ⟨_, rfl, y, dy, _, rfl, (hC.same sab).at_, noS7 _, ?_⟩
    refine tc1 (sp := spSy R.T.N) ?_
    refine say_undo (hC.same sab) fun Hc oc2 => ?_
    refine ⟨(by show 4 ≤ sizeLine; decide), fun a na => ?_⟩
    have u1 := same_new (o := .lst [.str "refused", .str "refused", .str "open", .str "ok"]) na
    have ha : (upd Hc a (.lst [.str "refused", .str "refused", .str "open", .str "ok"])) a = some (.lst [.str "refused", .str "refused", .str "open", .str "ok"]) := upd_same
    generalize upd Hc a (.lst [.str "refused", .str "refused", .str "open", .str "ok"]) = Hd at u1 ha ⊢
    refine ⟨_, rfl, (by show 4 ≤ sizeLine; decide), fun p np => ?_⟩
    have u2 := same_new (o := .lst [.str "refused", .str "refused", .str "open", .str "ok"]) np
    have hp : (upd Hd p (.lst [.str "refused", .str "refused", .str "open", .str "ok"])) p = some (.lst [.str "refused", .str "refused", .str "open", .str "ok"]) := upd_same
    generalize upd Hd p (.lst [.str "refused", .str "refused", .str "open", .str "ok"]) = He at u2 hp ⊢
    have dpl : ∀ {Hx : Hp}, DpAll K Hx [.str "refused", .str "refused", .str "open", .str "ok"] [.str "refused", .str "refused", .str "open", .str "ok"] := .cons (.str _) (.cons (.str _) (.cons (.str _) (.cons (.str _) .nil)))
    refine ⟨.list [.str "refused", .str "refused", .str "open", .str "ok"], .list [.str "refused", .str "refused", .str "open", .str "ok"], .lst (SqL.of (u2 _ _ ha)) dpl, .lst (SqL.of hp) dpl, saids.1, saids.1, ?_⟩
    rw [saids.2]
    have oE : Off lv H7 He := fun b o n e => u2 _ _ (u1 _ _ (oc2 _ _ n (sab _ _ (o8 _ _ n e))))
    refine k He (fun b o n t e => ?_) (tabs_offl hC0.rd.at_ oE T7.tab)
    have e7 := T7.off b o n t e
    exact oE _ _ (fun z => by
      have := T6.off b o n t e
      rw [z, nl5] at this
      cases this) e7
end
end My

namespace My
open PySem L2 Cm LM
abbrev sLaw : Stmt := top 138
def spLaw (K : PySem.W.Frag) (PR : Addr) : Sp := fun vs H Q _ => ∃ (a : Addr) (ns : List Int), vs = [.ref a] ∧ SqL K H a (ns.map V.int) ∧ ns.length ≤ 63 ∧ LamX.Tabs [(PR, qLam)] H ∧ ∀ H', Q (.bl true) H'
theorem scLaw : FnScope ["_law_script", "_law_k"] ["_law_script"] (defScope sLaw) := ⟨rfl, rfl, rfl, by decide +kernel, rfl, by decide +kernel, by decide +kernel⟩
theorem all_true : ∀ n : Nat, (List.replicate n true).all id = true
  | 0 => rfl
  | n + 1 => all_true n
theorem extN_sq {K : PySem.W.Frag} {a : Addr} {H H' : Hp} {xs : List V} (e : LamX.ExtN H H') (h : SqL K H a xs) : SqL K H' a xs := by
  rcases h with (h | ⟨o, h⟩) | h
  · exact .inl (.inl (e _ _ h (by intro ps z; cases z)))
  · exact .inl (.inr ⟨o, e _ _ h (by intro ps z; cases z)⟩)
  · exact .inr h
section
variable {P : Program} {w : World} {K : PySem.W.Frag} {mg : Str → Option Value} {base : Heap} {PR : Addr}
theorem ok_law {f fJ fR : Addr} {fd fdJ fdR : FuncData} (F : Fun K "law" "law" sLaw f fd) (TJ : TxtJ mg) (mrange : mg "range" = none) (mall : mg "all" = none) (kR9 : Nat) (GR : Gd.FnG P w K mg base CX0 kR9 fR fdR ["_law_jar_here"] (spRight PR))
    (FJ : Fun K "_law_jar" "_law_jar" sJar fJ fdJ) (bJ : Binds K fdJ ["_law_script", "_law_k"] []) (gJ : mg "_law_jar" = some (.ref fJ)) (kJ : PySem.W.keepIn K (.ref fJ) = true) (k1 : 1 ≤ kR9)
    (bR : Binds K fdR ["_law_jar_here"] []) (gR : mg "_law_right" = some (.ref fR)) (kR : PySem.W.keepIn K (.ref fR) = true) (mmax : mg "max" = none) (mmin : mg "min" = none) :
    Gd.FnG P w K mg base CX0 (kR9 + 1) f fd ["_law_script"] (spLaw K PR) := by
  have GJ : FnOk P w K mg base CX0 1 fJ fdJ ["_law_script", "_law_k"] (spJar K) := ok_jar FJ TJ
  refine Gd.okG F scLaw (fun vs H Q E h => ?_) (fun cdv A outer s H vs Q E _ _ _ hgd hr h => ?_)
  · obtain ⟨a, ns, rfl, _⟩ := h
    rfl
  · obtain ⟨a, ns, rfl, hS, hl, hT, k⟩ := h
    have hr1 : Room 1 _ := hr.mono k1
    refine ⟨_, pss_one (ps_ret (pe_callB (cr_all rfl) (by rfl) mall (by decide +kernel) (pa_cons (pe_lc (own := [("_law_k", 1)]) (g := gName 1) (tt := tYes) rfl scLaw.nd
      (pi_range1 rfl mrange (pa_cons (pe_callB (call_max2 rfl) (by rfl) mmax (by decide +kernel) (pa_cons pe_int (pa_cons (pe_callB (call_min2 rfl) (by rfl) mmin (by decide +kernel) (pa_cons (pe_callB call_len_seq (by rfl) TJ.len PySem.boot_len (pa_cons (pv 0) pa_nil)) (pa_cons pe_int pa_nil))) pa_nil))) pa_nil))
      (blkOk_by (own := [("_law_k", 1)]) (N := ["_law_script", "_law_k"]) (sc := defScope sLaw) (by decide +kernel)) (fun _ _ _ _ _ => pg_name (i := 1) scLaw.nd rfl (Or.inl rfl)) (fun _ _ _ _ _ => pts_nil)
      (fun _ _ _ _ _ => Gd.pe_callG GR hgd hr rfl gR kR bR .nil pass0 (pa_cons (pe_call GJ hr1 rfl gJ kJ bJ .nil pass0 (pa_cons (pv 0) (pa_cons (pv 1) pa_nil))) pa_nil))) pa_nil))), ?_⟩
    refine ⟨_, rfl, a, _, rfl, .inl hS, _, _, rfl, _, _, rfl, ?_⟩
    rw [List.length_map]
    have hm : ∃ n : Nat, (if (if (5 : Int) < (ns.length : Int) then 5 else (ns.length : Int)) > 2 then (if (5 : Int) < (ns.length : Int) then 5 else (ns.length : Int)) else 2) = (n : Int) ∧ n ≤ 5 := by
      by_cases h5 : (5 : Int) < (ns.length : Int)
      · rw [if_pos h5]
        exact ⟨5, rfl, Nat.le_refl _⟩
      · rw [if_neg h5]
        by_cases h2 : (ns.length : Int) > 2
        · rw [if_pos h2]
          exact ⟨ns.length, rfl, by omega⟩
        · rw [if_neg h2]
          exact ⟨2, rfl, by omega⟩
    obtain ⟨n, en, hn⟩ := hm
    refine ⟨_, rfl, by rw [en]; omega, by rw [en]; omega, fun D nD => ?_⟩
    rw [en]
    refine lc_range (lo := 0) (n := ((n : Int)).toNat) (fun i H' => LamX.ExtN H H' ∧ LamX.Tabs [(PR, qLam)] H' ∧ H' D = some (.lst ((List.replicate i true).map V.bl))) ⟨LamX.ExtN.of (same_upd nD), hT.ext (same_upd nD), upd_same⟩ ?_ ?_
    · rintro i H1 hi ⟨x1, T1, hD⟩
      refine ⟨rfl, _, rfl, _, rfl, a, ns, i, by rw [Int.zero_add]; rfl, extN_sq x1 hS, hl, fun H2 j s2 nj J2 => ?_⟩
      refine ⟨j, rfl, J2, T1.ext s2, fun H3 o3 T3 => ?_⟩
      have x3 : LamX.ExtN H1 H3 := fun b o q n => o3 b o (fun z => by rw [z, nj] at q; cases q) n (s2 b o q)
      have hD3 := x3 _ _ hD (by intro ps z; cases z)
      refine ⟨_, hD3, small1000 (by rw [List.length_map, List.length_replicate]; omega), fun b o q n => ?_, ?_, ?_⟩
      · rw [upd_ne (ne_of_none q nD)]
        exact x3 _ _ (x1 b o q n) n
      · intro p hp
        obtain ⟨ps, a1, a2, a3⟩ := T3 p hp
        refine ⟨ps, by rw [upd_ne (ne_of a1 hD3 (by intro z; cases z))]; exact a1, a2, fun pos cv hcv => ?_⟩
        obtain ⟨c, e, hc⟩ := a3 pos cv hcv
        exact ⟨c, e, by rw [upd_ne (ne_of hc hD3 (by intro z; unfold LamX.CodeO at z; cases z))]; exact hc⟩
      · rw [upd_same, List.replicate_succ', List.map_append]
        rfl
    · rintro H1 ⟨x1, T1, hD⟩
      refine ⟨D, List.replicate _ true, rfl, SqL.of hD, ?_⟩
      rw [all_true]
      exact k H1
end
theorem all_mk {l : PySem.W.OpenLaw} {w : World} {K : PySem.W.Frag} {h : Heap} {mg : Str → Option Value} {fa pT pR pE fwo foo fiw faw fir fie CIT fIT CL fli fiib fcks CES fES CX fxi fxa fxq fxp fxr fxc flx CM fmi CQ fqi fckl pqgp fqgp pqhp fqhp pqkp fqkp pqop fqop fql fqr fqf fqu fqc fqk fqt CStp CNtu CEL fEL CEC fEC CET fET CEM fEM fic fro fit fpt CK fki CIR fIR fau faf fsay CInp CSte CSze pUA pUP pUE fckw CU fui fur dC kcut kfill ktail fco CA fai fae fas far fsl fss flr CS9 fS9 CN9 fN9 CW9 fW9 CC9 fC9 CI9 fI9 fcku fckn fcke fckc fcki falw fflt fcer fftb ffut ffiU fceU ffiD fceC fptb pNM CBInputError fcm fsip ffrm fjar cR PR frt flaw : Addr} (X : K.In h) (G : h.Ns mainGlobals mg) (hfa : mg "law" = some (.ref fa))
    {odT odR odE odwo anwo odoo anoo odiw aniw odaw anaw odir anir odie anie odIT anIT odli anli odiib aniib odcks ancks odES anES odxi anxi odxa anxa odxq anxq odxp anxp odxr anxr odxc anxc odlx anlx odmi anmi odqi anqi odckl anckl odqgp anqgp odqhp anqhp odqkp anqkp odqop anqop odql anql odqr anqr odqf anqf odqu anqu odqc anqc odqk anqk odqt anqt odEL anEL odEC anEC odET anET odEM anEM odic anic odro anro odit anit odpt anpt odki anki odIR anIR odau anau odaf anaf odsay ansay odUA odUP odUE odckw anckw odui anui odur anur odco anco odai anai odae anae odas anas odar anar odsl ansl odss anss odlr anlr odS9 anS9 odN9 anN9 odW9 anW9 odC9 anC9 odI9 anI9 odcku ancku odckn anckn odcke ancke odckc anckc odcki ancki odalw analw odflt anflt odcer ancer odftb anftb odfut anfut odfiU anfiU odceU anceU odfiD anfiD odceC anceC odptb anptb odNM odcm ancm odsip ansip odfrm anfrm odjar anjar odC odrt anrt odlaw anlaw : Option Addr}
    {slT slR slE slwo sloo sliw slaw slir slie slIT slli sliib slcks slES slxi slxa slxq slxp slxr slxc sllx slmi slqi slckl slqgp slqhp slqkp slqop slql slqr slqf slqu slqc slqk slqt slEL slEC slET slEM slic slro slit slpt slki slIR slau slaf slsay slUA slUP slUE slckw slui slur slco slai slae slas slar slsl slss sllr slS9 slN9 slW9 slC9 slI9 slcku slckn slcke slckc slcki slalw slflt slcer slftb slfut slfiU slceU slfiD slceC slptb slNM slcm slsip slfrm sljar slC slrt sllaw : Array (Option Value)}
    {ocwo kVwo dcwo pmwo cdwo ctwo ocoo kVoo dcoo pmoo cdoo ctoo ociw kViw dciw pmiw cdiw ctiw ocaw kVaw dcaw pmaw cdaw ctaw ocir kVir dcir pmir cdir ctir ocie kVie dcie pmie cdie ctie ocIT kVIT dcIT pmIT cdIT ctIT ocli kVli dcli pmli cdli ctli ociib kViib dciib pmiib cdiib ctiib occks kVcks dccks pmcks cdcks ctcks ocES kVES dcES pmES cdES ctES ocxi kVxi dcxi pmxi cdxi ctxi ocxa kVxa dcxa pmxa cdxa ctxa ocxq kVxq dcxq pmxq cdxq ctxq ocxp kVxp dcxp pmxp cdxp ctxp ocxr kVxr dcxr pmxr cdxr ctxr ocxc kVxc dcxc pmxc cdxc ctxc oclx kVlx dclx pmlx cdlx ctlx ocmi kVmi dcmi pmmi cdmi ctmi ocqi kVqi dcqi pmqi cdqi ctqi occkl kVckl dcckl pmckl cdckl ctckl ocqgp kVqgp dcqgp pmqgp cdqgp ctqgp ocqhp kVqhp dcqhp pmqhp cdqhp ctqhp ocqkp kVqkp dcqkp pmqkp cdqkp ctqkp ocqop kVqop dcqop pmqop cdqop ctqop ocql kVql dcql pmql cdql ctql ocqr kVqr dcqr pmqr cdqr ctqr ocqf kVqf dcqf pmqf cdqf ctqf ocqu kVqu dcqu pmqu cdqu ctqu ocqc kVqc dcqc pmqc cdqc ctqc ocqk kVqk dcqk pmqk cdqk ctqk ocqt kVqt dcqt pmqt cdqt ctqt ocEL kVEL dcEL pmEL cdEL ctEL ocEC kVEC dcEC pmEC cdEC ctEC ocET kVET dcET pmET cdET ctET ocEM kVEM dcEM pmEM cdEM ctEM ocic kVic dcic pmic cdic ctic ocro kVro dcro pmro cdro ctro ocit kVit dcit pmit cdit ctit ocpt kVpt dcpt pmpt cdpt ctpt ocki kVki dcki pmki cdki ctki ocIR kVIR dcIR pmIR cdIR ctIR ocau kVau dcau pmau cdau ctau ocaf kVaf dcaf pmaf cdaf ctaf ocsay kVsay dcsay pmsay cdsay ctsay occkw kVckw dcckw pmckw cdckw ctckw ocui kVui dcui pmui cdui ctui ocur kVur dcur pmur cdur ctur occo kVco dcco pmco cdco ctco ocai kVai dcai pmai cdai ctai ocae kVae dcae pmae cdae ctae ocas kVas dcas pmas cdas ctas ocar kVar dcar pmar cdar ctar ocsl kVsl dcsl pmsl cdsl ctsl ocss kVss dcss pmss cdss ctss oclr kVlr dclr pmlr cdlr ctlr ocS9 kVS9 dcS9 pmS9 cdS9 ctS9 ocN9 kVN9 dcN9 pmN9 cdN9 ctN9 ocW9 kVW9 dcW9 pmW9 cdW9 ctW9 ocC9 kVC9 dcC9 pmC9 cdC9 ctC9 ocI9 kVI9 dcI9 pmI9 cdI9 ctI9 occku kVcku dccku pmcku cdcku ctcku occkn kVckn dcckn pmckn cdckn ctckn occke kVcke dccke pmcke cdcke ctcke occkc kVckc dcckc pmckc cdckc ctckc occki kVcki dccki pmcki cdcki ctcki ocalw kValw dcalw pmalw cdalw ctalw ocflt kVflt dcflt pmflt cdflt ctflt occer kVcer dccer pmcer cdcer ctcer ocftb kVftb dcftb pmftb cdftb ctftb ocfut kVfut dcfut pmfut cdfut ctfut ocfiU kVfiU dcfiU pmfiU cdfiU ctfiU occeU kVceU dcceU pmceU cdceU ctceU ocfiD kVfiD dcfiD pmfiD cdfiD ctfiD occeC kVceC dcceC pmceC cdceC ctceC ocptb kVptb dcptb pmptb cdptb ctptb occm kVcm dccm pmcm cdcm ctcm ocsip kVsip dcsip pmsip cdsip ctsip ocfrm kVfrm dcfrm pmfrm cdfrm ctfrm ocjar kVjar dcjar pmjar cdjar ctjar ocC ocrt kVrt dcrt pmrt ctrt oclaw kVlaw dclaw pmlaw cdlaw ctlaw : Value}
    {tkT0 tkT1 tkT2 tkT3 tkT4 tkT5 tkT6 tkT7 tkR0 tkR1 tkR2 tkR3 tkR4 tkR5 tkE0 tkE1 tkE2 tkB tkMR tkME tkMP tkMI tkFE tkTO tkRF tkUA0 tkUA1 tkUP0 tkUP1 tkUE0 tkUE1 tkUE2 tkMW tkMC tkNM0 tkNM1 tkNM2 tkNM3 tkNM4 : Tok}
    {nT nR nE nUA nUP nUE nNM : Nat}
    {nmIT qIT : Str} {NIT : Addr} {bsIT bmIT : List Value} {snIT : List Str} {subIT : List Value} {abIT : Bool} {colIT : Option Bool} {ddIT : Option Addr} {m0IT m1IT m2IT m3IT m5IT : Option Value}
    {nmES qES : Str} {NES : Addr} {bsES bmES : List Value} {snES : List Str} {subES : List Value} {abES : Bool} {colES : Option Bool} {ddES : Option Addr} {m0ES m1ES m2ES m3ES m5ES : Option Value}
    {rsqgp : List Value}
    {rsqhp : List Value}
    {rsqkp : List Value}
    {rsqop : List Value}
    {nmEL qEL : Str} {NEL : Addr} {bsEL bmEL : List Value} {snEL : List Str} {subEL : List Value} {abEL : Bool} {colEL : Option Bool} {ddEL : Option Addr} {m0EL m1EL m2EL m3EL m5EL : Option Value}
    {nmEC qEC : Str} {NEC : Addr} {bsEC bmEC : List Value} {snEC : List Str} {subEC : List Value} {abEC : Bool} {colEC : Option Bool} {ddEC : Option Addr} {m0EC m1EC m2EC m3EC m5EC : Option Value}
    {nmET qET : Str} {NET : Addr} {bsET bmET : List Value} {snET : List Str} {subET : List Value} {abET : Bool} {colET : Option Bool} {ddET : Option Addr} {m0ET m1ET m2ET m3ET m5ET : Option Value}
    {nmEM qEM : Str} {NEM : Addr} {bsEM bmEM : List Value} {snEM : List Str} {subEM : List Value} {abEM : Bool} {colEM : Option Bool} {ddEM : Option Addr} {m0EM m1EM m2EM m3EM m5EM : Option Value}
    {nmIR qIR : Str} {NIR : Addr} {bsIR bmIR : List Value} {snIR : List Str} {subIR : List Value} {abIR : Bool} {colIR : Option Bool} {ddIR : Option Addr} {m0IR m1IR m2IR m3IR m5IR : Option Value}
    {nmS9 qS9 : Str} {NS9 : Addr} {bsS9 bmS9 : List Value} {snS9 : List Str} {subS9 : List Value} {abS9 : Bool} {colS9 : Option Bool} {ddS9 : Option Addr} {m0S9 m1S9 m2S9 m3S9 m5S9 : Option Value}
    {nmN9 qN9 : Str} {NN9 : Addr} {bsN9 bmN9 : List Value} {snN9 : List Str} {subN9 : List Value} {abN9 : Bool} {colN9 : Option Bool} {ddN9 : Option Addr} {m0N9 m1N9 m2N9 m3N9 m5N9 : Option Value}
    {nmW9 qW9 : Str} {NW9 : Addr} {bsW9 bmW9 : List Value} {snW9 : List Str} {subW9 : List Value} {abW9 : Bool} {colW9 : Option Bool} {ddW9 : Option Addr} {m0W9 m1W9 m2W9 m3W9 m5W9 : Option Value}
    {nmC9 qC9 : Str} {NC9 : Addr} {bsC9 bmC9 : List Value} {snC9 : List Str} {subC9 : List Value} {abC9 : Bool} {colC9 : Option Bool} {ddC9 : Option Addr} {m0C9 m1C9 m2C9 m3C9 m5C9 : Option Value}
    {nmI9 qI9 : Str} {NI9 : Addr} {bsI9 bmI9 : List Value} {snI9 : List Str} {subI9 : List Value} {abI9 : Bool} {colI9 : Option Bool} {ddI9 : Option Addr} {m0I9 m1I9 m2I9 m3I9 m5I9 : Option Value}
    {vsC : Array Value}
    (gT : PySem.W.nsIn K mainGlobals "TESTS" = some (some (.ref pT)))
    (tT : K.lookup pT = some ⟨.type "tuple", odT, .seq #[.str "empty" tkT0, .str "some" tkT1, .str "short" tkT2, .str "full" tkT3, .str "told" tkT4, .str "open" tkT5, .str "rest" tkT6, .str "bare" tkT7] nT, slT⟩)
    (gR : PySem.W.nsIn K mainGlobals "ROUND_STEPS" = some (some (.ref pR)))
    (tR : K.lookup pR = some ⟨.type "tuple", odR, .seq #[.str "add" tkR0, .str "hand" tkR1, .str "cut" tkR2, .str "flush" tkR3, .str "stop" tkR4, .str "again" tkR5] nR, slR⟩)
    (gE : PySem.W.nsIn K mainGlobals "ENDING_STEPS" = some (some (.ref pE)))
    (tE : K.lookup pE = some ⟨.type "tuple", odE, .seq #[.str "hand" tkE0, .str "cut" tkE1, .str "flush" tkE2] nE, slE⟩)
    (mB : PySem.W.nsIn K mainGlobals "BAR" = some (some (.str " | " tkB)))
    (mMR : PySem.W.nsIn K mainGlobals "MOST_ROUND" = some (some (.int 12 tkMR)))
    (mME : PySem.W.nsIn K mainGlobals "MOST_ENDING" = some (some (.int 6 tkME)))
    (awo : PySem.W.nsIn K mainGlobals "words_of" = some (some (.ref fwo)))
    (lwo : K.lookup fwo = some ⟨ocwo, odwo, .func (PySem.W.fnOf "words_of" "words_of" (defArgs sWO) (defBody sWO) (defScope sWO) .none kVwo dcwo pmwo anwo cdwo ctwo), slwo⟩)
    (cwo : PySem.W.codeIn K cdwo "words_of" = true)
    (kwo : PySem.W.keepIn K (.ref fwo) = true)
    (aoo : PySem.W.nsIn K mainGlobals "order_of" = some (some (.ref foo)))
    (loo : K.lookup foo = some ⟨ocoo, odoo, .func (PySem.W.fnOf "order_of" "order_of" (defArgs sOO) (defBody sOO) (defScope sOO) .none kVoo dcoo pmoo anoo cdoo ctoo), sloo⟩)
    (coo : PySem.W.codeIn K cdoo "order_of" = true)
    (koo : PySem.W.keepIn K (.ref foo) = true)
    (aiw : PySem.W.nsIn K mainGlobals "is_word" = some (some (.ref fiw)))
    (liw : K.lookup fiw = some ⟨ociw, odiw, .func (PySem.W.fnOf "is_word" "is_word" (defArgs sIW) (defBody sIW) (defScope sIW) .none kViw dciw pmiw aniw cdiw ctiw), sliw⟩)
    (ciw : PySem.W.codeIn K cdiw "is_word" = true)
    (kiw : PySem.W.keepIn K (.ref fiw) = true)
    (aaw : PySem.W.nsIn K mainGlobals "are_words" = some (some (.ref faw)))
    (law : K.lookup faw = some ⟨ocaw, odaw, .func (PySem.W.fnOf "are_words" "are_words" (defArgs sAW) (defBody sAW) (defScope sAW) .none kVaw dcaw pmaw anaw cdaw ctaw), slaw⟩)
    (caw : PySem.W.codeIn K cdaw "are_words" = true)
    (kaw : PySem.W.keepIn K (.ref faw) = true)
    (air : PySem.W.nsIn K mainGlobals "is_round" = some (some (.ref fir)))
    (lir : K.lookup fir = some ⟨ocir, odir, .func (PySem.W.fnOf "is_round" "is_round" (defArgs sIR) (defBody sIR) (defScope sIR) .none kVir dcir pmir anir cdir ctir), slir⟩)
    (cir : PySem.W.codeIn K cdir "is_round" = true)
    (kir : PySem.W.keepIn K (.ref fir) = true)
    (aie : PySem.W.nsIn K mainGlobals "is_ending" = some (some (.ref fie)))
    (lie : K.lookup fie = some ⟨ocie, odie, .func (PySem.W.fnOf "is_ending" "is_ending" (defArgs sIE) (defBody sIE) (defScope sIE) .none kVie dcie pmie anie cdie ctie), slie⟩)
    (cie : PySem.W.codeIn K cdie "is_ending" = true)
    (kie : PySem.W.keepIn K (.ref fie) = true)
    (aCIT : PySem.W.nsIn K mainGlobals "InvalidText" = some (some (.ref CIT)))
    (aIT : PySem.W.findIn K (.ref CIT) "__init__" = some (some (.ref fIT)))
    (iIT : PySem.W.isFn K (.ref fIT) = true)
    (lIT : K.lookup fIT = some ⟨ocIT, odIT, .func (PySem.W.fnOf "__init__" "InvalidText.__init__" (defArgs sEI) (defBody sEI) (defScope sEI) .none kVIT dcIT pmIT anIT cdIT ctIT), slIT⟩)
    (cIT : PySem.W.codeIn K cdIT "InvalidText.__init__" = true)
    (kIT : PySem.W.keepIn K (.ref fIT) = true)
    (xIT : K.lookup CIT = some (excClassObj nmIT qIT CIT NIT bsIT bmIT true snIT subIT abIT colIT ddIT m0IT m1IT m2IT m3IT m5IT "ValueError.__new__"))
    (xrIT : PySem.HandSPX.refsVE bmIT = true)
    (e1IT : PySem.W.findIn K (.ref CIT) "__setattr__" = some (some (.builtin "object.__setattr__")))
    (e2IT : PySem.W.subIn K (.ref CIT) (.type "BaseException") = some true)
    (e3IT : PySem.W.typeIn K (.ref CIT) = some (.type "type"))
    (e4IT : PySem.W.keepIn K (.ref CIT) = true)
    (e5IT : PySem.W.typeIn K (.ref fIT) = some (.type "function"))
    (e6IT : PySem.W.findIn K (.ref CIT) "value" = some none)
    (aCL : PySem.W.nsIn K mainGlobals "Loop" = some (some (.ref CL)))
    (pgL : PySem.W.plainGet K CL Str.empty = true)
    (hdL : PySem.W.hasDictIn K CL = true)
    (poL : PySem.W.plainOver K CL = true)
    (saL : PySem.W.findIn K (.ref CL) "__setattr__" = some (some (.builtin "object.__setattr__")))
    (mkL : PySem.W.makesIn K CL = true)
    (kcL : PySem.W.keepIn K (.ref CL) = true)
    (nL0 : PySem.W.findIn K (.ref CL) "text" = some none)
    (nL1 : PySem.W.findIn K (.ref CL) "round" = some none)
    (nL2 : PySem.W.findIn K (.ref CL) "ending" = some none)
    (nL3 : PySem.W.findIn K (.ref CL) "round_orders" = some none)
    (nL4 : PySem.W.findIn K (.ref CL) "ending_orders" = some none)
    (ali : PySem.W.findIn K (.ref CL) "__init__" = some (some (.ref fli)))
    (ili : PySem.W.isFn K (.ref fli) = true)
    (lli : K.lookup fli = some ⟨ocli, odli, .func (PySem.W.fnOf "__init__" "Loop.__init__" (defArgs sLI) (defBody sLI) (defScope sLI) .none kVli dcli pmli anli cdli ctli), slli⟩)
    (cli : PySem.W.codeIn K cdli "Loop.__init__" = true)
    (kli : PySem.W.keepIn K (.ref fli) = true)
    (mMP : PySem.W.nsIn K mainGlobals "MOST_REPLIES" = some (some (.int 100 tkMP)))
    (mMI : PySem.W.nsIn K mainGlobals "MOST_ITEMS" = some (some (.int 1000 tkMI)))
    (aiib : PySem.W.nsIn K mainGlobals "is_integer_between" = some (some (.ref fiib)))
    (liib : K.lookup fiib = some ⟨ociib, odiib, .func (PySem.W.fnOf "is_integer_between" "is_integer_between" (defArgs sIIB) (defBody sIIB) (defScope sIIB) .none kViib dciib pmiib aniib cdiib ctiib), sliib⟩)
    (ciib : PySem.W.codeIn K cdiib "is_integer_between" = true)
    (kiib : PySem.W.keepIn K (.ref fiib) = true)
    (acks : PySem.W.nsIn K mainGlobals "check_size" = some (some (.ref fcks)))
    (lcks : K.lookup fcks = some ⟨occks, odcks, .func (PySem.W.fnOf "check_size" "check_size" (defArgs sCKS) (defBody sCKS) (defScope sCKS) .none kVcks dccks pmcks ancks cdcks ctcks), slcks⟩)
    (ccks : PySem.W.codeIn K cdcks "check_size" = true)
    (kcks : PySem.W.keepIn K (.ref fcks) = true)
    (aCES : PySem.W.nsIn K mainGlobals "InvalidSize" = some (some (.ref CES)))
    (aES : PySem.W.findIn K (.ref CES) "__init__" = some (some (.ref fES)))
    (iES : PySem.W.isFn K (.ref fES) = true)
    (lES : K.lookup fES = some ⟨ocES, odES, .func (PySem.W.fnOf "__init__" "InvalidSize.__init__" (defArgs sES) (defBody sES) (defScope sES) .none kVES dcES pmES anES cdES ctES), slES⟩)
    (cES : PySem.W.codeIn K cdES "InvalidSize.__init__" = true)
    (kES : PySem.W.keepIn K (.ref fES) = true)
    (xES : K.lookup CES = some (excClassObj nmES qES CES NES bsES bmES true snES subES abES colES ddES m0ES m1ES m2ES m3ES m5ES "ValueError.__new__"))
    (xrES : PySem.HandSPX.refsVE bmES = true)
    (e1ES : PySem.W.findIn K (.ref CES) "__setattr__" = some (some (.builtin "object.__setattr__")))
    (e2ES : PySem.W.subIn K (.ref CES) (.type "BaseException") = some true)
    (e3ES : PySem.W.typeIn K (.ref CES) = some (.type "type"))
    (e4ES : PySem.W.keepIn K (.ref CES) = true)
    (e5ES : PySem.W.typeIn K (.ref fES) = some (.type "function"))
    (e6ES : PySem.W.findIn K (.ref CES) "value" = some none)
    (aCX : PySem.W.nsIn K mainGlobals "Execution" = some (some (.ref CX)))
    (pgX : PySem.W.plainGet K CX Str.empty = true)
    (hdX : PySem.W.hasDictIn K CX = true)
    (poX : PySem.W.plainOver K CX = true)
    (saX : PySem.W.findIn K (.ref CX) "__setattr__" = some (some (.builtin "object.__setattr__")))
    (mkX : PySem.W.makesIn K CX = true)
    (kcX : PySem.W.keepIn K (.ref CX) = true)
    (nX0 : PySem.W.findIn K (.ref CX) "round_orders" = some none)
    (nX1 : PySem.W.findIn K (.ref CX) "ending_orders" = some none)
    (nX2 : PySem.W.findIn K (.ref CX) "size" = some none)
    (nX3 : PySem.W.findIn K (.ref CX) "held" = some none)
    (nX4 : PySem.W.findIn K (.ref CX) "told" = some none)
    (nX5 : PySem.W.findIn K (.ref CX) "kept" = some none)
    (nX6 : PySem.W.findIn K (.ref CX) "handed" = some none)
    (nX7 : PySem.W.findIn K (.ref CX) "asked" = some none)
    (nX8 : PySem.W.findIn K (.ref CX) "over" = some none)
    (axi : PySem.W.findIn K (.ref CX) "__init__" = some (some (.ref fxi)))
    (ixi : PySem.W.isFn K (.ref fxi) = true)
    (lxi : K.lookup fxi = some ⟨ocxi, odxi, .func (PySem.W.fnOf "__init__" "Execution.__init__" (defArgs sXI) (defBody sXI) (defScope sXI) .none kVxi dcxi pmxi anxi cdxi ctxi), slxi⟩)
    (cxi : PySem.W.codeIn K cdxi "Execution.__init__" = true)
    (kxi : PySem.W.keepIn K (.ref fxi) = true)
    (axa : PySem.W.findIn K (.ref CX) "answer" = some (some (.ref fxa)))
    (ixa : PySem.W.isFn K (.ref fxa) = true)
    (lxa : K.lookup fxa = some ⟨ocxa, odxa, .func (PySem.W.fnOf "answer" "Execution.answer" (defArgs sXA) (defBody sXA) (defScope sXA) .none kVxa dcxa pmxa anxa cdxa ctxa), slxa⟩)
    (cxa : PySem.W.codeIn K cdxa "Execution.answer" = true)
    (kxa : PySem.W.keepIn K (.ref fxa) = true)
    (axq : PySem.W.findIn K (.ref CX) "finish" = some (some (.ref fxq)))
    (ixq : PySem.W.isFn K (.ref fxq) = true)
    (lxq : K.lookup fxq = some ⟨ocxq, odxq, .func (PySem.W.fnOf "finish" "Execution.finish" (defArgs sXF) (defBody sXF) (defScope sXF) .none kVxq dcxq pmxq anxq cdxq ctxq), slxq⟩)
    (cxq : PySem.W.codeIn K cdxq "Execution.finish" = true)
    (kxq : PySem.W.keepIn K (.ref fxq) = true)
    (axp : PySem.W.findIn K (.ref CX) "passes" = some (some (.ref fxp)))
    (ixp : PySem.W.isFn K (.ref fxp) = true)
    (lxp : K.lookup fxp = some ⟨ocxp, odxp, .func (PySem.W.fnOf "passes" "Execution.passes" (defArgs sXP) (defBody sXP) (defScope sXP) .none kVxp dcxp pmxp anxp cdxp ctxp), slxp⟩)
    (cxp : PySem.W.codeIn K cdxp "Execution.passes" = true)
    (kxp : PySem.W.keepIn K (.ref fxp) = true)
    (axr : PySem.W.findIn K (.ref CX) "perform" = some (some (.ref fxr)))
    (ixr : PySem.W.isFn K (.ref fxr) = true)
    (lxr : K.lookup fxr = some ⟨ocxr, odxr, .func (PySem.W.fnOf "perform" "Execution.perform" (defArgs sXR) (defBody sXR) (defScope sXR) .none kVxr dcxr pmxr anxr cdxr ctxr), slxr⟩)
    (cxr : PySem.W.codeIn K cdxr "Execution.perform" = true)
    (kxr : PySem.W.keepIn K (.ref fxr) = true)
    (axc : PySem.W.findIn K (.ref CX) "cut_off" = some (some (.ref fxc)))
    (ixc : PySem.W.isFn K (.ref fxc) = true)
    (lxc : K.lookup fxc = some ⟨ocxc, odxc, .func (PySem.W.fnOf "cut_off" "Execution.cut_off" (defArgs sXC) (defBody sXC) (defScope sXC) .none kVxc dcxc pmxc anxc cdxc ctxc), slxc⟩)
    (cxc : PySem.W.codeIn K cdxc "Execution.cut_off" = true)
    (kxc : PySem.W.keepIn K (.ref fxc) = true)
    (alx : PySem.W.findIn K (.ref CL) "execution" = some (some (.ref flx)))
    (ilx : PySem.W.isFn K (.ref flx) = true)
    (llx : K.lookup flx = some ⟨oclx, odlx, .func (PySem.W.fnOf "execution" "Loop.execution" (defArgs sLX) (defBody sLX) (defScope sLX) .none kVlx dclx pmlx anlx cdlx ctlx), sllx⟩)
    (clx : PySem.W.codeIn K cdlx "Loop.execution" = true)
    (klx : PySem.W.keepIn K (.ref flx) = true)
    (aCM : PySem.W.nsIn K mainGlobals "Moment" = some (some (.ref CM)))
    (pgM : PySem.W.plainGet K CM Str.empty = true)
    (hdM : PySem.W.hasDictIn K CM = true)
    (poM : PySem.W.plainOver K CM = true)
    (saM : PySem.W.findIn K (.ref CM) "__setattr__" = some (some (.builtin "object.__setattr__")))
    (mkM : PySem.W.makesIn K CM = true)
    (kcM : PySem.W.keepIn K (.ref CM) = true)
    (nM0 : PySem.W.findIn K (.ref CM) "before" = some none)
    (nM1 : PySem.W.findIn K (.ref CM) "given" = some none)
    (nM2 : PySem.W.findIn K (.ref CM) "handed" = some none)
    (nM3 : PySem.W.findIn K (.ref CM) "kept" = some none)
    (nM4 : PySem.W.findIn K (.ref CM) "over" = some none)
    (ami : PySem.W.findIn K (.ref CM) "__init__" = some (some (.ref fmi)))
    (imi : PySem.W.isFn K (.ref fmi) = true)
    (lmi : K.lookup fmi = some ⟨ocmi, odmi, .func (PySem.W.fnOf "__init__" "Moment.__init__" (defArgs sMmI) (defBody sMmI) (defScope sMmI) .none kVmi dcmi pmmi anmi cdmi ctmi), slmi⟩)
    (cmi : PySem.W.codeIn K cdmi "Moment.__init__" = true)
    (kmi : PySem.W.keepIn K (.ref fmi) = true)
    (aCQ : PySem.W.nsIn K mainGlobals "Reading" = some (some (.ref CQ)))
    (pgQ : PySem.W.plainGet K CQ Str.empty = true)
    (hdQ : PySem.W.hasDictIn K CQ = true)
    (poQ : PySem.W.plainOver K CQ = true)
    (saQ : PySem.W.findIn K (.ref CQ) "__setattr__" = some (some (.builtin "object.__setattr__")))
    (mkQ : PySem.W.makesIn K CQ = true)
    (kcQ : PySem.W.keepIn K (.ref CQ) = true)
    (nQ0 : PySem.W.findIn K (.ref CQ) "loop" = some none)
    (nQ1 : PySem.W.findIn K (.ref CQ) "size" = some none)
    (nQ2 : PySem.W.findIn K (.ref CQ) "busy" = some none)
    (nQ3 : PySem.W.findIn K (.ref CQ) "moment" = some none)
    (aqi : PySem.W.findIn K (.ref CQ) "__init__" = some (some (.ref fqi)))
    (iqi : PySem.W.isFn K (.ref fqi) = true)
    (lqi : K.lookup fqi = some ⟨ocqi, odqi, .func (PySem.W.fnOf "__init__" "Reading.__init__" (defArgs sRdI) (defBody sRdI) (defScope sRdI) .none kVqi dcqi pmqi anqi cdqi ctqi), slqi⟩)
    (cqi : PySem.W.codeIn K cdqi "Reading.__init__" = true)
    (kqi : PySem.W.keepIn K (.ref fqi) = true)
    (ackl : PySem.W.nsIn K mainGlobals "check_loop" = some (some (.ref fckl)))
    (lckl : K.lookup fckl = some ⟨occkl, odckl, .func (PySem.W.fnOf "check_loop" "check_loop" (defArgs sCKL) (defBody sCKL) (defScope sCKL) .none kVckl dcckl pmckl anckl cdckl ctckl), slckl⟩)
    (cckl : PySem.W.codeIn K cdckl "check_loop" = true)
    (kckl : PySem.W.keepIn K (.ref fckl) = true)
    (w1 : PySem.W.findIn K (.ref CL) "__class__" = some (some (.builtin "object.__class__")))
    (w2 : PySem.W.specialIn K (.builtin "object.__class__") "__get__" = some (some (.builtin "getset_descriptor.__get__")))
    (w3 : PySem.W.takesIn K (.builtin "object.__class__") = some true)
    (w4 : PySem.W.mroIn K CL (.type "object") = some true)
    (w5 : PySem.W.kitOne K (.ref CL) (.ref CL) = some true)
    (aqgp : PySem.W.findIn K (.ref CQ) "replies" = some (some (.ref pqgp)))
    (gqgp : PySem.W.specialIn K (.ref pqgp) "__get__" = some (some (.builtin "property.__get__")))
    (tqgp : PySem.W.takesIn K (.ref pqgp) = some true)
    (rqgp : PySem.W.recIn K pqgp "property" = some (.ref fqgp :: rsqgp))
    (lqgp : K.lookup fqgp = some ⟨ocqgp, odqgp, .func (PySem.W.fnOf "replies" "Reading.replies" (defArgs sRdG) (defBody sRdG) (defScope sRdG) .none kVqgp dcqgp pmqgp anqgp cdqgp ctqgp), slqgp⟩)
    (cqgp : PySem.W.codeIn K cdqgp "Reading.replies" = true)
    (kqgp : PySem.W.keepIn K (.ref fqgp) = true)
    (aqhp : PySem.W.findIn K (.ref CQ) "pieces" = some (some (.ref pqhp)))
    (gqhp : PySem.W.specialIn K (.ref pqhp) "__get__" = some (some (.builtin "property.__get__")))
    (tqhp : PySem.W.takesIn K (.ref pqhp) = some true)
    (rqhp : PySem.W.recIn K pqhp "property" = some (.ref fqhp :: rsqhp))
    (lqhp : K.lookup fqhp = some ⟨ocqhp, odqhp, .func (PySem.W.fnOf "pieces" "Reading.pieces" (defArgs sRdH) (defBody sRdH) (defScope sRdH) .none kVqhp dcqhp pmqhp anqhp cdqhp ctqhp), slqhp⟩)
    (cqhp : PySem.W.codeIn K cdqhp "Reading.pieces" = true)
    (kqhp : PySem.W.keepIn K (.ref fqhp) = true)
    (aqkp : PySem.W.findIn K (.ref CQ) "rest" = some (some (.ref pqkp)))
    (gqkp : PySem.W.specialIn K (.ref pqkp) "__get__" = some (some (.builtin "property.__get__")))
    (tqkp : PySem.W.takesIn K (.ref pqkp) = some true)
    (rqkp : PySem.W.recIn K pqkp "property" = some (.ref fqkp :: rsqkp))
    (lqkp : K.lookup fqkp = some ⟨ocqkp, odqkp, .func (PySem.W.fnOf "rest" "Reading.rest" (defArgs sRdK) (defBody sRdK) (defScope sRdK) .none kVqkp dcqkp pmqkp anqkp cdqkp ctqkp), slqkp⟩)
    (cqkp : PySem.W.codeIn K cdqkp "Reading.rest" = true)
    (kqkp : PySem.W.keepIn K (.ref fqkp) = true)
    (aqop : PySem.W.findIn K (.ref CQ) "stopped" = some (some (.ref pqop)))
    (gqop : PySem.W.specialIn K (.ref pqop) "__get__" = some (some (.builtin "property.__get__")))
    (tqop : PySem.W.takesIn K (.ref pqop) = some true)
    (rqop : PySem.W.recIn K pqop "property" = some (.ref fqop :: rsqop))
    (lqop : K.lookup fqop = some ⟨ocqop, odqop, .func (PySem.W.fnOf "stopped" "Reading.stopped" (defArgs sRdO) (defBody sRdO) (defScope sRdO) .none kVqop dcqop pmqop anqop cdqop ctqop), slqop⟩)
    (cqop : PySem.W.codeIn K cdqop "Reading.stopped" = true)
    (kqop : PySem.W.keepIn K (.ref fqop) = true)
    (aql : PySem.W.findIn K (.ref CQ) "__len__" = some (some (.ref fql)))
    (iql : PySem.W.isFn K (.ref fql) = true)
    (lql : K.lookup fql = some ⟨ocql, odql, .func (PySem.W.fnOf "__len__" "Reading.__len__" (defArgs sRdL) (defBody sRdL) (defScope sRdL) .none kVql dcql pmql anql cdql ctql), slql⟩)
    (cql : PySem.W.codeIn K cdql "Reading.__len__" = true)
    (kql : PySem.W.keepIn K (.ref fql) = true)
    (aqr : PySem.W.findIn K (.ref CQ) "__repr__" = some (some (.ref fqr)))
    (iqr : PySem.W.isFn K (.ref fqr) = true)
    (lqr : K.lookup fqr = some ⟨ocqr, odqr, .func (PySem.W.fnOf "__repr__" "Reading.__repr__" (defArgs sRdR) (defBody sRdR) (defScope sRdR) .none kVqr dcqr pmqr anqr cdqr ctqr), slqr⟩)
    (cqr : PySem.W.codeIn K cdqr "Reading.__repr__" = true)
    (kqr : PySem.W.keepIn K (.ref fqr) = true)
    (aqf : PySem.W.findIn K (.ref CQ) "feed" = some (some (.ref fqf)))
    (iqf : PySem.W.isFn K (.ref fqf) = true)
    (lqf : K.lookup fqf = some ⟨ocqf, odqf, .func (PySem.W.fnOf "feed" "Reading.feed" (defArgs sRdF) (defBody sRdF) (defScope sRdF) .none kVqf dcqf pmqf anqf cdqf ctqf), slqf⟩)
    (cqf : PySem.W.codeIn K cdqf "Reading.feed" = true)
    (kqf : PySem.W.keepIn K (.ref fqf) = true)
    (aqu : PySem.W.findIn K (.ref CQ) "undo" = some (some (.ref fqu)))
    (iqu : PySem.W.isFn K (.ref fqu) = true)
    (lqu : K.lookup fqu = some ⟨ocqu, odqu, .func (PySem.W.fnOf "undo" "Reading.undo" (defArgs sRdU) (defBody sRdU) (defScope sRdU) .none kVqu dcqu pmqu anqu cdqu ctqu), slqu⟩)
    (cqu : PySem.W.codeIn K cdqu "Reading.undo" = true)
    (kqu : PySem.W.keepIn K (.ref fqu) = true)
    (aqc : PySem.W.findIn K (.ref CQ) "check_free" = some (some (.ref fqc)))
    (iqc : PySem.W.isFn K (.ref fqc) = true)
    (lqc : K.lookup fqc = some ⟨ocqc, odqc, .func (PySem.W.fnOf "check_free" "Reading.check_free" (defArgs sRdCf) (defBody sRdCf) (defScope sRdCf) .none kVqc dcqc pmqc anqc cdqc ctqc), slqc⟩)
    (cqc : PySem.W.codeIn K cdqc "Reading.check_free" = true)
    (kqc : PySem.W.keepIn K (.ref fqc) = true)
    (aqk : PySem.W.findIn K (.ref CQ) "check_reply" = some (some (.ref fqk)))
    (iqk : PySem.W.isFn K (.ref fqk) = true)
    (lqk : K.lookup fqk = some ⟨ocqk, odqk, .func (PySem.W.fnOf "check_reply" "Reading.check_reply" (defArgs sRdCr) (defBody sRdCr) (defScope sRdCr) .none kVqk dcqk pmqk anqk cdqk ctqk), slqk⟩)
    (cqk : PySem.W.codeIn K cdqk "Reading.check_reply" = true)
    (kqk : PySem.W.keepIn K (.ref fqk) = true)
    (aqt : PySem.W.findIn K (.ref CQ) "take" = some (some (.ref fqt)))
    (iqt : PySem.W.isFn K (.ref fqt) = true)
    (lqt : K.lookup fqt = some ⟨ocqt, odqt, .func (PySem.W.fnOf "take" "Reading.take" (defArgs sRdT) (defBody sRdT) (defScope sRdT) .none kVqt dcqt pmqt anqt cdqt ctqt), slqt⟩)
    (cqt : PySem.W.codeIn K cdqt "Reading.take" = true)
    (kqt : PySem.W.keepIn K (.ref fqt) = true)
    (aCStp : PySem.W.nsIn K mainGlobals "Stopped" = some (some (.ref CStp)))
    (qStp : PySem.W.excIn K CStp [.type "LookupError", .type "Exception", .type "BaseException", .type "object"] "LookupError.__new__" = true)
    (kStp : PySem.W.keepIn K (.ref CStp) = true)
    (sStp : PySem.W.subIn K (.ref CStp) (.type "BaseException") = some true)
    (tStp : PySem.W.typeIn K (.ref CStp) = some (.type "type"))
    (aCNtu : PySem.W.nsIn K mainGlobals "NothingToUndo" = some (some (.ref CNtu)))
    (qNtu : PySem.W.excIn K CNtu [.type "LookupError", .type "Exception", .type "BaseException", .type "object"] "LookupError.__new__" = true)
    (kNtu : PySem.W.keepIn K (.ref CNtu) = true)
    (sNtu : PySem.W.subIn K (.ref CNtu) (.type "BaseException") = some true)
    (tNtu : PySem.W.typeIn K (.ref CNtu) = some (.type "type"))
    (aCEL : PySem.W.nsIn K mainGlobals "NotALoop" = some (some (.ref CEL)))
    (aEL : PySem.W.findIn K (.ref CEL) "__init__" = some (some (.ref fEL)))
    (iEL : PySem.W.isFn K (.ref fEL) = true)
    (lEL : K.lookup fEL = some ⟨ocEL, odEL, .func (PySem.W.fnOf "__init__" "NotALoop.__init__" (defArgs sEL) (defBody sEL) (defScope sEL) .none kVEL dcEL pmEL anEL cdEL ctEL), slEL⟩)
    (cEL : PySem.W.codeIn K cdEL "NotALoop.__init__" = true)
    (kEL : PySem.W.keepIn K (.ref fEL) = true)
    (xEL : K.lookup CEL = some (excClassObj nmEL qEL CEL NEL bsEL bmEL true snEL subEL abEL colEL ddEL m0EL m1EL m2EL m3EL m5EL "ValueError.__new__"))
    (xrEL : PySem.HandSPX.refsVE bmEL = true)
    (e1EL : PySem.W.findIn K (.ref CEL) "__setattr__" = some (some (.builtin "object.__setattr__")))
    (e2EL : PySem.W.subIn K (.ref CEL) (.type "BaseException") = some true)
    (e3EL : PySem.W.typeIn K (.ref CEL) = some (.type "type"))
    (e4EL : PySem.W.keepIn K (.ref CEL) = true)
    (e5EL : PySem.W.typeIn K (.ref fEL) = some (.type "function"))
    (e6EL : PySem.W.findIn K (.ref CEL) "value" = some none)
    (aCEC : PySem.W.nsIn K mainGlobals "InvalidCount" = some (some (.ref CEC)))
    (aEC : PySem.W.findIn K (.ref CEC) "__init__" = some (some (.ref fEC)))
    (iEC : PySem.W.isFn K (.ref fEC) = true)
    (lEC : K.lookup fEC = some ⟨ocEC, odEC, .func (PySem.W.fnOf "__init__" "InvalidCount.__init__" (defArgs sEC) (defBody sEC) (defScope sEC) .none kVEC dcEC pmEC anEC cdEC ctEC), slEC⟩)
    (cEC : PySem.W.codeIn K cdEC "InvalidCount.__init__" = true)
    (kEC : PySem.W.keepIn K (.ref fEC) = true)
    (xEC : K.lookup CEC = some (excClassObj nmEC qEC CEC NEC bsEC bmEC true snEC subEC abEC colEC ddEC m0EC m1EC m2EC m3EC m5EC "ValueError.__new__"))
    (xrEC : PySem.HandSPX.refsVE bmEC = true)
    (e1EC : PySem.W.findIn K (.ref CEC) "__setattr__" = some (some (.builtin "object.__setattr__")))
    (e2EC : PySem.W.subIn K (.ref CEC) (.type "BaseException") = some true)
    (e3EC : PySem.W.typeIn K (.ref CEC) = some (.type "type"))
    (e4EC : PySem.W.keepIn K (.ref CEC) = true)
    (e5EC : PySem.W.typeIn K (.ref fEC) = some (.type "function"))
    (e6EC : PySem.W.findIn K (.ref CEC) "value" = some none)
    (aCET : PySem.W.nsIn K mainGlobals "InvalidTold" = some (some (.ref CET)))
    (aET : PySem.W.findIn K (.ref CET) "__init__" = some (some (.ref fET)))
    (iET : PySem.W.isFn K (.ref fET) = true)
    (lET : K.lookup fET = some ⟨ocET, odET, .func (PySem.W.fnOf "__init__" "InvalidTold.__init__" (defArgs sET) (defBody sET) (defScope sET) .none kVET dcET pmET anET cdET ctET), slET⟩)
    (cET : PySem.W.codeIn K cdET "InvalidTold.__init__" = true)
    (kET : PySem.W.keepIn K (.ref fET) = true)
    (xET : K.lookup CET = some (excClassObj nmET qET CET NET bsET bmET true snET subET abET colET ddET m0ET m1ET m2ET m3ET m5ET "ValueError.__new__"))
    (xrET : PySem.HandSPX.refsVE bmET = true)
    (e1ET : PySem.W.findIn K (.ref CET) "__setattr__" = some (some (.builtin "object.__setattr__")))
    (e2ET : PySem.W.subIn K (.ref CET) (.type "BaseException") = some true)
    (e3ET : PySem.W.typeIn K (.ref CET) = some (.type "type"))
    (e4ET : PySem.W.keepIn K (.ref CET) = true)
    (e5ET : PySem.W.typeIn K (.ref fET) = some (.type "function"))
    (e6ET : PySem.W.findIn K (.ref CET) "value" = some none)
    (aCEM : PySem.W.nsIn K mainGlobals "TooManyReplies" = some (some (.ref CEM)))
    (aEM : PySem.W.findIn K (.ref CEM) "__init__" = some (some (.ref fEM)))
    (iEM : PySem.W.isFn K (.ref fEM) = true)
    (lEM : K.lookup fEM = some ⟨ocEM, odEM, .func (PySem.W.fnOf "__init__" "TooManyReplies.__init__" (defArgs sEM) (defBody sEM) (defScope sEM) .none kVEM dcEM pmEM anEM cdEM ctEM), slEM⟩)
    (cEM : PySem.W.codeIn K cdEM "TooManyReplies.__init__" = true)
    (kEM : PySem.W.keepIn K (.ref fEM) = true)
    (xEM : K.lookup CEM = some (excClassObj nmEM qEM CEM NEM bsEM bmEM true snEM subEM abEM colEM ddEM m0EM m1EM m2EM m3EM m5EM "ArithmeticError.__new__"))
    (xrEM : ExV.Behind [.type "ArithmeticError", .type "Exception", .type "BaseException", .type "object"] bmEM)
    (e1EM : PySem.W.findIn K (.ref CEM) "__setattr__" = some (some (.builtin "object.__setattr__")))
    (e2EM : PySem.W.subIn K (.ref CEM) (.type "BaseException") = some true)
    (e3EM : PySem.W.typeIn K (.ref CEM) = some (.type "type"))
    (e4EM : PySem.W.keepIn K (.ref CEM) = true)
    (e5EM : PySem.W.typeIn K (.ref fEM) = some (.type "function"))
    (e6EM : PySem.W.findIn K (.ref CEM) "limit" = some none)
    (mFE : PySem.W.nsIn K mainGlobals "FEED" = some (some (.str "feed " tkFE)))
    (mTO : PySem.W.nsIn K mainGlobals "TOLD" = some (some (.str "!" tkTO)))
    (aic : PySem.W.nsIn K mainGlobals "is_count" = some (some (.ref fic)))
    (lic : K.lookup fic = some ⟨ocic, odic, .func (PySem.W.fnOf "is_count" "is_count" (defArgs sIC) (defBody sIC) (defScope sIC) .none kVic dcic pmic anic cdic ctic), slic⟩)
    (cic : PySem.W.codeIn K cdic "is_count" = true)
    (kic : PySem.W.keepIn K (.ref fic) = true)
    (aro : PySem.W.nsIn K mainGlobals "reply_of" = some (some (.ref fro)))
    (lro : K.lookup fro = some ⟨ocro, odro, .func (PySem.W.fnOf "reply_of" "reply_of" (defArgs sRO) (defBody sRO) (defScope sRO) .none kVro dcro pmro anro cdro ctro), slro⟩)
    (cro : PySem.W.codeIn K cdro "reply_of" = true)
    (kro : PySem.W.keepIn K (.ref fro) = true)
    (ait : PySem.W.nsIn K mainGlobals "items_text" = some (some (.ref fit)))
    (lit : K.lookup fit = some ⟨ocit, odit, .func (PySem.W.fnOf "items_text" "items_text" (defArgs sIT) (defBody sIT) (defScope sIT) .none kVit dcit pmit anit cdit ctit), slit⟩)
    (cit : PySem.W.codeIn K cdit "items_text" = true)
    (kit : PySem.W.keepIn K (.ref fit) = true)
    (apt : PySem.W.nsIn K mainGlobals "pieces_text" = some (some (.ref fpt)))
    (lpt : K.lookup fpt = some ⟨ocpt, odpt, .func (PySem.W.fnOf "pieces_text" "pieces_text" (defArgs sPT) (defBody sPT) (defScope sPT) .none kVpt dcpt pmpt anpt cdpt ctpt), slpt⟩)
    (cpt : PySem.W.codeIn K cdpt "pieces_text" = true)
    (kpt : PySem.W.keepIn K (.ref fpt) = true)
    (aCK : PySem.W.nsIn K mainGlobals "Console" = some (some (.ref CK)))
    (pgK : PySem.W.plainGet K CK Str.empty = true)
    (hdK : PySem.W.hasDictIn K CK = true)
    (poK : PySem.W.plainOver K CK = true)
    (saK : PySem.W.findIn K (.ref CK) "__setattr__" = some (some (.builtin "object.__setattr__")))
    (mkK : PySem.W.makesIn K CK = true)
    (kcK : PySem.W.keepIn K (.ref CK) = true)
    (nK0 : PySem.W.findIn K (.ref CK) "reading" = some none)
    (aki : PySem.W.findIn K (.ref CK) "__init__" = some (some (.ref fki)))
    (iki : PySem.W.isFn K (.ref fki) = true)
    (lki : K.lookup fki = some ⟨ocki, odki, .func (PySem.W.fnOf "__init__" "Console.__init__" (defArgs sCnI) (defBody sCnI) (defScope sCnI) .none kVki dcki pmki anki cdki ctki), slki⟩)
    (cki : PySem.W.codeIn K cdki "Console.__init__" = true)
    (kki : PySem.W.keepIn K (.ref fki) = true)
    (mRF : PySem.W.nsIn K mainGlobals "REFUSED" = some (some (.str "refused" tkRF)))
    (aCIR : PySem.W.nsIn K mainGlobals "InvalidRow" = some (some (.ref CIR)))
    (aIR : PySem.W.findIn K (.ref CIR) "__init__" = some (some (.ref fIR)))
    (iIR : PySem.W.isFn K (.ref fIR) = true)
    (lIR : K.lookup fIR = some ⟨ocIR, odIR, .func (PySem.W.fnOf "__init__" "InvalidRow.__init__" (defArgs sEIR) (defBody sEIR) (defScope sEIR) .none kVIR dcIR pmIR anIR cdIR ctIR), slIR⟩)
    (cIR : PySem.W.codeIn K cdIR "InvalidRow.__init__" = true)
    (kIR : PySem.W.keepIn K (.ref fIR) = true)
    (xIR : K.lookup CIR = some (excClassObj nmIR qIR CIR NIR bsIR bmIR true snIR subIR abIR colIR ddIR m0IR m1IR m2IR m3IR m5IR "ValueError.__new__"))
    (xrIR : PySem.HandSPX.refsVE bmIR = true)
    (e1IR : PySem.W.findIn K (.ref CIR) "__setattr__" = some (some (.builtin "object.__setattr__")))
    (e2IR : PySem.W.subIn K (.ref CIR) (.type "BaseException") = some true)
    (e3IR : PySem.W.typeIn K (.ref CIR) = some (.type "type"))
    (e4IR : PySem.W.keepIn K (.ref CIR) = true)
    (e5IR : PySem.W.typeIn K (.ref fIR) = some (.type "function"))
    (e6IR : PySem.W.findIn K (.ref CIR) "value" = some none)
    (aau : PySem.W.findIn K (.ref CK) "answer_undo" = some (some (.ref fau)))
    (iau : PySem.W.isFn K (.ref fau) = true)
    (lau : K.lookup fau = some ⟨ocau, odau, .func (PySem.W.fnOf "answer_undo" "Console.answer_undo" (defArgs sCnU) (defBody sCnU) (defScope sCnU) .none kVau dcau pmau anau cdau ctau), slau⟩)
    (cau : PySem.W.codeIn K cdau "Console.answer_undo" = true)
    (kau : PySem.W.keepIn K (.ref fau) = true)
    (aaf : PySem.W.findIn K (.ref CK) "answer_feed" = some (some (.ref faf)))
    (iaf : PySem.W.isFn K (.ref faf) = true)
    (laf : K.lookup faf = some ⟨ocaf, odaf, .func (PySem.W.fnOf "answer_feed" "Console.answer_feed" (defArgs sCnF) (defBody sCnF) (defScope sCnF) .none kVaf dcaf pmaf anaf cdaf ctaf), slaf⟩)
    (caf : PySem.W.codeIn K cdaf "Console.answer_feed" = true)
    (kaf : PySem.W.keepIn K (.ref faf) = true)
    (asay : PySem.W.findIn K (.ref CK) "say" = some (some (.ref fsay)))
    (isay : PySem.W.isFn K (.ref fsay) = true)
    (lsay : K.lookup fsay = some ⟨ocsay, odsay, .func (PySem.W.fnOf "say" "Console.say" (defArgs sCnS) (defBody sCnS) (defScope sCnS) .none kVsay dcsay pmsay ansay cdsay ctsay), slsay⟩)
    (csay : PySem.W.codeIn K cdsay "Console.say" = true)
    (ksay : PySem.W.keepIn K (.ref fsay) = true)
    (aCInp : PySem.W.nsIn K mainGlobals "InputError" = some (some (.ref CInp)))
    (aCSte : PySem.W.nsIn K mainGlobals "StateError" = some (some (.ref CSte)))
    (aCSze : PySem.W.nsIn K mainGlobals "SizeError" = some (some (.ref CSze)))
    (xnn : PySem.W.exmOne K (.ref CNtu) (.ref CNtu) = some true)
    (xcc : PySem.W.exmAny K (.ref CEC) [.ref CInp, .ref CSte, .ref CSze] = some true)
    (xss : PySem.W.exmAny K (.ref CStp) [.ref CInp, .ref CSte, .ref CSze] = some true)
    (xmm : PySem.W.exmAny K (.ref CEM) [.ref CInp, .ref CSte, .ref CSze] = some true)
    (gUA : PySem.W.nsIn K mainGlobals "AMOUNTS" = some (some (.ref pUA)))
    (tUA : K.lookup pUA = some ⟨.type "tuple", odUA, .seq #[.str "exact" tkUA0, .str "short" tkUA1] nUA, slUA⟩)
    (gUP : PySem.W.nsIn K mainGlobals "PATIENCES" = some (some (.ref pUP)))
    (tUP : K.lookup pUP = some ⟨.type "tuple", odUP, .seq #[.str "prompt" tkUP0, .str "waiting" tkUP1] nUP, slUP⟩)
    (gUE : PySem.W.nsIn K mainGlobals "ENDS" = some (some (.ref pUE)))
    (tUE : K.lookup pUE = some ⟨.type "tuple", odUE, .seq #[.str "empty" tkUE0, .str "with" tkUE1, .str "behind" tkUE2] nUE, slUE⟩)
    (ackw : PySem.W.nsIn K mainGlobals "check_word" = some (some (.ref fckw)))
    (lckw : K.lookup fckw = some ⟨occkw, odckw, .func (PySem.W.fnOf "check_word" "check_word" (defArgs sQW) (defBody sQW) (defScope sQW) .none kVckw dcckw pmckw anckw cdckw ctckw), slckw⟩)
    (cckw : PySem.W.codeIn K cdckw "check_word" = true)
    (kckw : PySem.W.keepIn K (.ref fckw) = true)
    (aCU : PySem.W.nsIn K mainGlobals "Source" = some (some (.ref CU)))
    (pgU : PySem.W.plainGet K CU Str.empty = true)
    (hdU : PySem.W.hasDictIn K CU = true)
    (poU : PySem.W.plainOver K CU = true)
    (saU : PySem.W.findIn K (.ref CU) "__setattr__" = some (some (.builtin "object.__setattr__")))
    (mkU : PySem.W.makesIn K CU = true)
    (kcU : PySem.W.keepIn K (.ref CU) = true)
    (nU0 : PySem.W.findIn K (.ref CU) "amount" = some none)
    (nU1 : PySem.W.findIn K (.ref CU) "patience" = some none)
    (nU2 : PySem.W.findIn K (.ref CU) "end" = some none)
    (aui : PySem.W.findIn K (.ref CU) "__init__" = some (some (.ref fui)))
    (iui : PySem.W.isFn K (.ref fui) = true)
    (lui : K.lookup fui = some ⟨ocui, odui, .func (PySem.W.fnOf "__init__" "Source.__init__" (defArgs sUI) (defBody sUI) (defScope sUI) .none kVui dcui pmui anui cdui ctui), slui⟩)
    (cui : PySem.W.codeIn K cdui "Source.__init__" = true)
    (kui : PySem.W.keepIn K (.ref fui) = true)
    (aur : PySem.W.findIn K (.ref CU) "__repr__" = some (some (.ref fur)))
    (iur : PySem.W.isFn K (.ref fur) = true)
    (lur : K.lookup fur = some ⟨ocur, odur, .func (PySem.W.fnOf "__repr__" "Source.__repr__" (defArgs sUR) (defBody sUR) (defScope sUR) .none kVur dcur pmur anur cdur ctur), slur⟩)
    (cur : PySem.W.codeIn K cdur "Source.__repr__" = true)
    (kur : PySem.W.keepIn K (.ref fur) = true)
    (y1U : PySem.W.findIn K (.ref CU) "__class__" = some (some (.builtin "object.__class__")))
    (y2U : PySem.W.specialIn K (.builtin "object.__class__") "__get__" = some (some (.builtin "getset_descriptor.__get__")))
    (y3U : PySem.W.takesIn K (.builtin "object.__class__") = some true)
    (y4U : PySem.W.mroIn K CU (.type "object") = some true)
    (y5U : PySem.W.kitOne K (.ref CU) (.ref CU) = some true)
    (mMW : PySem.W.nsIn K mainGlobals "MOST_WIDTH" = some (some (.int 12 tkMW)))
    (mMC : PySem.W.nsIn K mainGlobals "MOST_CUTTERS" = some (some (.int 6 tkMC)))
    (gdC : PySem.W.nsIn K mainGlobals "CUTTERS" = some (some (.ref dC)))
    (nkcut : PySem.W.nsIn K dC "cut" = some (some (.ref kcut)))
    (nkfill : PySem.W.nsIn K dC "fill" = some (some (.ref kfill)))
    (nktail : PySem.W.nsIn K dC "tail" = some (some (.ref ktail)))
    (dwC : He.dicW K dC = some (He.keysIn w.params CH.kds))
    (aco : PySem.W.nsIn K mainGlobals "cutter_of" = some (some (.ref fco)))
    (lco : K.lookup fco = some ⟨occo, odco, .func (PySem.W.fnOf "cutter_of" "cutter_of" (defArgs sCO) (defBody sCO) (defScope sCO) .none kVco dcco pmco anco cdco ctco), slco⟩)
    (cco : PySem.W.codeIn K cdco "cutter_of" = true)
    (kco : PySem.W.keepIn K (.ref fco) = true)
    (aCA : PySem.W.nsIn K mainGlobals "Chain" = some (some (.ref CA)))
    (pgA : PySem.W.plainGet K CA Str.empty = true)
    (hdA : PySem.W.hasDictIn K CA = true)
    (poA : PySem.W.plainOver K CA = true)
    (saA : PySem.W.findIn K (.ref CA) "__setattr__" = some (some (.builtin "object.__setattr__")))
    (mkA : PySem.W.makesIn K CA = true)
    (kcA : PySem.W.keepIn K (.ref CA) = true)
    (nA0 : PySem.W.findIn K (.ref CA) "text" = some none)
    (nA1 : PySem.W.findIn K (.ref CA) "cutters" = some none)
    (aai : PySem.W.findIn K (.ref CA) "__init__" = some (some (.ref fai)))
    (iai : PySem.W.isFn K (.ref fai) = true)
    (lai : K.lookup fai = some ⟨ocai, odai, .func (PySem.W.fnOf "__init__" "Chain.__init__" (defArgs sAI) (defBody sAI) (defScope sAI) .none kVai dcai pmai anai cdai ctai), slai⟩)
    (cai : PySem.W.codeIn K cdai "Chain.__init__" = true)
    (kai : PySem.W.keepIn K (.ref fai) = true)
    (aae : PySem.W.findIn K (.ref CA) "__eq__" = some (some (.ref fae)))
    (iae : PySem.W.isFn K (.ref fae) = true)
    (lae : K.lookup fae = some ⟨ocae, odae, .func (PySem.W.fnOf "__eq__" "Chain.__eq__" (defArgs sAE) (defBody sAE) (defScope sAE) .none kVae dcae pmae anae cdae ctae), slae⟩)
    (cae : PySem.W.codeIn K cdae "Chain.__eq__" = true)
    (kae : PySem.W.keepIn K (.ref fae) = true)
    (aas : PySem.W.findIn K (.ref CA) "__str__" = some (some (.ref fas)))
    (ias : PySem.W.isFn K (.ref fas) = true)
    (las : K.lookup fas = some ⟨ocas, odas, .func (PySem.W.fnOf "__str__" "Chain.__str__" (defArgs sAS) (defBody sAS) (defScope sAS) .none kVas dcas pmas anas cdas ctas), slas⟩)
    (cas : PySem.W.codeIn K cdas "Chain.__str__" = true)
    (kas : PySem.W.keepIn K (.ref fas) = true)
    (aar : PySem.W.findIn K (.ref CA) "__repr__" = some (some (.ref far)))
    (iar : PySem.W.isFn K (.ref far) = true)
    (lar : K.lookup far = some ⟨ocar, odar, .func (PySem.W.fnOf "__repr__" "Chain.__repr__" (defArgs sAR) (defBody sAR) (defScope sAR) .none kVar dcar pmar anar cdar ctar), slar⟩)
    (car : PySem.W.codeIn K cdar "Chain.__repr__" = true)
    (kar : PySem.W.keepIn K (.ref far) = true)
    (nneA : PySem.W.findIn K (.ref CA) "__ne__" = some (some (.builtin "object.__ne__")))
    (y1A : PySem.W.findIn K (.ref CA) "__class__" = some (some (.builtin "object.__class__")))
    (y2A : PySem.W.specialIn K (.builtin "object.__class__") "__get__" = some (some (.builtin "getset_descriptor.__get__")))
    (y3A : PySem.W.takesIn K (.builtin "object.__class__") = some true)
    (y4A : PySem.W.mroIn K CA (.type "object") = some true)
    (y5A : PySem.W.kitOne K (.ref CA) (.ref CA) = some true)
    (asl : PySem.W.nsIn K mainGlobals "sample_loop" = some (some (.ref fsl)))
    (lsl : K.lookup fsl = some ⟨ocsl, odsl, .func (PySem.W.fnOf "sample_loop" "sample_loop" (defArgs sSL) (defBody sSL) (defScope sSL) .none kVsl dcsl pmsl ansl cdsl ctsl), slsl⟩)
    (csl : PySem.W.codeIn K cdsl "sample_loop" = true)
    (ksl : PySem.W.keepIn K (.ref fsl) = true)
    (ass : PySem.W.nsIn K mainGlobals "sample_source" = some (some (.ref fss)))
    (lss : K.lookup fss = some ⟨ocss, odss, .func (PySem.W.fnOf "sample_source" "sample_source" (defArgs sSS) (defBody sSS) (defScope sSS) .none kVss dcss pmss anss cdss ctss), slss⟩)
    (css : PySem.W.codeIn K cdss "sample_source" = true)
    (kss : PySem.W.keepIn K (.ref fss) = true)
    (alr : PySem.W.findIn K (.ref CL) "__repr__" = some (some (.ref flr)))
    (ilr : PySem.W.isFn K (.ref flr) = true)
    (llr : K.lookup flr = some ⟨oclr, odlr, .func (PySem.W.fnOf "__repr__" "Loop.__repr__" (defArgs sLR) (defBody sLR) (defScope sLR) .none kVlr dclr pmlr anlr cdlr ctlr), sllr⟩)
    (clr : PySem.W.codeIn K cdlr "Loop.__repr__" = true)
    (klr : PySem.W.keepIn K (.ref flr) = true)
    (aCS9 : PySem.W.nsIn K mainGlobals "NotASource" = some (some (.ref CS9)))
    (aS9 : PySem.W.findIn K (.ref CS9) "__init__" = some (some (.ref fS9)))
    (iS9 : PySem.W.isFn K (.ref fS9) = true)
    (lS9 : K.lookup fS9 = some ⟨ocS9, odS9, .func (PySem.W.fnOf "__init__" "NotASource.__init__" (defArgs sES9) (defBody sES9) (defScope sES9) .none kVS9 dcS9 pmS9 anS9 cdS9 ctS9), slS9⟩)
    (cS9 : PySem.W.codeIn K cdS9 "NotASource.__init__" = true)
    (kS9 : PySem.W.keepIn K (.ref fS9) = true)
    (xS9 : K.lookup CS9 = some (excClassObj nmS9 qS9 CS9 NS9 bsS9 bmS9 true snS9 subS9 abS9 colS9 ddS9 m0S9 m1S9 m2S9 m3S9 m5S9 "ValueError.__new__"))
    (xrS9 : PySem.HandSPX.refsVE bmS9 = true)
    (e1S9 : PySem.W.findIn K (.ref CS9) "__setattr__" = some (some (.builtin "object.__setattr__")))
    (e2S9 : PySem.W.subIn K (.ref CS9) (.type "BaseException") = some true)
    (e3S9 : PySem.W.typeIn K (.ref CS9) = some (.type "type"))
    (e4S9 : PySem.W.keepIn K (.ref CS9) = true)
    (e5S9 : PySem.W.typeIn K (.ref fS9) = some (.type "function"))
    (e6S9 : PySem.W.findIn K (.ref CS9) "value" = some none)
    (aCN9 : PySem.W.nsIn K mainGlobals "InvalidName" = some (some (.ref CN9)))
    (aN9 : PySem.W.findIn K (.ref CN9) "__init__" = some (some (.ref fN9)))
    (iN9 : PySem.W.isFn K (.ref fN9) = true)
    (lN9 : K.lookup fN9 = some ⟨ocN9, odN9, .func (PySem.W.fnOf "__init__" "InvalidName.__init__" (defArgs sEN9) (defBody sEN9) (defScope sEN9) .none kVN9 dcN9 pmN9 anN9 cdN9 ctN9), slN9⟩)
    (cN9 : PySem.W.codeIn K cdN9 "InvalidName.__init__" = true)
    (kN9 : PySem.W.keepIn K (.ref fN9) = true)
    (xN9 : K.lookup CN9 = some (excClassObj nmN9 qN9 CN9 NN9 bsN9 bmN9 true snN9 subN9 abN9 colN9 ddN9 m0N9 m1N9 m2N9 m3N9 m5N9 "ValueError.__new__"))
    (xrN9 : PySem.HandSPX.refsVE bmN9 = true)
    (e1N9 : PySem.W.findIn K (.ref CN9) "__setattr__" = some (some (.builtin "object.__setattr__")))
    (e2N9 : PySem.W.subIn K (.ref CN9) (.type "BaseException") = some true)
    (e3N9 : PySem.W.typeIn K (.ref CN9) = some (.type "type"))
    (e4N9 : PySem.W.keepIn K (.ref CN9) = true)
    (e5N9 : PySem.W.typeIn K (.ref fN9) = some (.type "function"))
    (e6N9 : PySem.W.findIn K (.ref CN9) "value" = some none)
    (aCW9 : PySem.W.nsIn K mainGlobals "InvalidWord" = some (some (.ref CW9)))
    (aW9 : PySem.W.findIn K (.ref CW9) "__init__" = some (some (.ref fW9)))
    (iW9 : PySem.W.isFn K (.ref fW9) = true)
    (lW9 : K.lookup fW9 = some ⟨ocW9, odW9, .func (PySem.W.fnOf "__init__" "InvalidWord.__init__" (defArgs sEW9) (defBody sEW9) (defScope sEW9) .none kVW9 dcW9 pmW9 anW9 cdW9 ctW9), slW9⟩)
    (cW9 : PySem.W.codeIn K cdW9 "InvalidWord.__init__" = true)
    (kW9 : PySem.W.keepIn K (.ref fW9) = true)
    (xW9 : K.lookup CW9 = some (excClassObj nmW9 qW9 CW9 NW9 bsW9 bmW9 true snW9 subW9 abW9 colW9 ddW9 m0W9 m1W9 m2W9 m3W9 m5W9 "ValueError.__new__"))
    (xrW9 : PySem.HandSPX.refsVE bmW9 = true)
    (e1W9 : PySem.W.findIn K (.ref CW9) "__setattr__" = some (some (.builtin "object.__setattr__")))
    (e2W9 : PySem.W.subIn K (.ref CW9) (.type "BaseException") = some true)
    (e3W9 : PySem.W.typeIn K (.ref CW9) = some (.type "type"))
    (e4W9 : PySem.W.keepIn K (.ref CW9) = true)
    (e5W9 : PySem.W.typeIn K (.ref fW9) = some (.type "function"))
    (e6W9 : PySem.W.findIn K (.ref CW9) "value" = some none)
    (aCC9 : PySem.W.nsIn K mainGlobals "NotAChain" = some (some (.ref CC9)))
    (aC9 : PySem.W.findIn K (.ref CC9) "__init__" = some (some (.ref fC9)))
    (iC9 : PySem.W.isFn K (.ref fC9) = true)
    (lC9 : K.lookup fC9 = some ⟨ocC9, odC9, .func (PySem.W.fnOf "__init__" "NotAChain.__init__" (defArgs sEC9) (defBody sEC9) (defScope sEC9) .none kVC9 dcC9 pmC9 anC9 cdC9 ctC9), slC9⟩)
    (cC9 : PySem.W.codeIn K cdC9 "NotAChain.__init__" = true)
    (kC9 : PySem.W.keepIn K (.ref fC9) = true)
    (xC9 : K.lookup CC9 = some (excClassObj nmC9 qC9 CC9 NC9 bsC9 bmC9 true snC9 subC9 abC9 colC9 ddC9 m0C9 m1C9 m2C9 m3C9 m5C9 "ValueError.__new__"))
    (xrC9 : PySem.HandSPX.refsVE bmC9 = true)
    (e1C9 : PySem.W.findIn K (.ref CC9) "__setattr__" = some (some (.builtin "object.__setattr__")))
    (e2C9 : PySem.W.subIn K (.ref CC9) (.type "BaseException") = some true)
    (e3C9 : PySem.W.typeIn K (.ref CC9) = some (.type "type"))
    (e4C9 : PySem.W.keepIn K (.ref CC9) = true)
    (e5C9 : PySem.W.typeIn K (.ref fC9) = some (.type "function"))
    (e6C9 : PySem.W.findIn K (.ref CC9) "value" = some none)
    (aCI9 : PySem.W.nsIn K mainGlobals "InvalidItems" = some (some (.ref CI9)))
    (aI9 : PySem.W.findIn K (.ref CI9) "__init__" = some (some (.ref fI9)))
    (iI9 : PySem.W.isFn K (.ref fI9) = true)
    (lI9 : K.lookup fI9 = some ⟨ocI9, odI9, .func (PySem.W.fnOf "__init__" "InvalidItems.__init__" (defArgs sEI9) (defBody sEI9) (defScope sEI9) .none kVI9 dcI9 pmI9 anI9 cdI9 ctI9), slI9⟩)
    (cI9 : PySem.W.codeIn K cdI9 "InvalidItems.__init__" = true)
    (kI9 : PySem.W.keepIn K (.ref fI9) = true)
    (xI9 : K.lookup CI9 = some (excClassObj nmI9 qI9 CI9 NI9 bsI9 bmI9 true snI9 subI9 abI9 colI9 ddI9 m0I9 m1I9 m2I9 m3I9 m5I9 "ValueError.__new__"))
    (xrI9 : PySem.HandSPX.refsVE bmI9 = true)
    (e1I9 : PySem.W.findIn K (.ref CI9) "__setattr__" = some (some (.builtin "object.__setattr__")))
    (e2I9 : PySem.W.subIn K (.ref CI9) (.type "BaseException") = some true)
    (e3I9 : PySem.W.typeIn K (.ref CI9) = some (.type "type"))
    (e4I9 : PySem.W.keepIn K (.ref CI9) = true)
    (e5I9 : PySem.W.typeIn K (.ref fI9) = some (.type "function"))
    (e6I9 : PySem.W.findIn K (.ref CI9) "value" = some none)
    (acku : PySem.W.nsIn K mainGlobals "check_source" = some (some (.ref fcku)))
    (lcku : K.lookup fcku = some ⟨occku, odcku, .func (PySem.W.fnOf "check_source" "check_source" (defArgs sCku) (defBody sCku) (defScope sCku) .none kVcku dccku pmcku ancku cdcku ctcku), slcku⟩)
    (ccku : PySem.W.codeIn K cdcku "check_source" = true)
    (kcku : PySem.W.keepIn K (.ref fcku) = true)
    (ackn : PySem.W.nsIn K mainGlobals "check_name" = some (some (.ref fckn)))
    (lckn : K.lookup fckn = some ⟨occkn, odckn, .func (PySem.W.fnOf "check_name" "check_name" (defArgs sCkn) (defBody sCkn) (defScope sCkn) .none kVckn dcckn pmckn anckn cdckn ctckn), slckn⟩)
    (cckn : PySem.W.codeIn K cdckn "check_name" = true)
    (kckn : PySem.W.keepIn K (.ref fckn) = true)
    (acke : PySem.W.nsIn K mainGlobals "check_end" = some (some (.ref fcke)))
    (lcke : K.lookup fcke = some ⟨occke, odcke, .func (PySem.W.fnOf "check_end" "check_end" (defArgs sCke) (defBody sCke) (defScope sCke) .none kVcke dccke pmcke ancke cdcke ctcke), slcke⟩)
    (ccke : PySem.W.codeIn K cdcke "check_end" = true)
    (kcke : PySem.W.keepIn K (.ref fcke) = true)
    (ackc : PySem.W.nsIn K mainGlobals "check_chain" = some (some (.ref fckc)))
    (lckc : K.lookup fckc = some ⟨occkc, odckc, .func (PySem.W.fnOf "check_chain" "check_chain" (defArgs sCkc) (defBody sCkc) (defScope sCkc) .none kVckc dcckc pmckc anckc cdckc ctckc), slckc⟩)
    (cckc : PySem.W.codeIn K cdckc "check_chain" = true)
    (kckc : PySem.W.keepIn K (.ref fckc) = true)
    (acki : PySem.W.nsIn K mainGlobals "check_items" = some (some (.ref fcki)))
    (lcki : K.lookup fcki = some ⟨occki, odcki, .func (PySem.W.fnOf "check_items" "check_items" (defArgs sCki) (defBody sCki) (defScope sCki) .none kVcki dccki pmcki ancki cdcki ctcki), slcki⟩)
    (ccki : PySem.W.codeIn K cdcki "check_items" = true)
    (kcki : PySem.W.keepIn K (.ref fcki) = true)
    (aalw : PySem.W.nsIn K mainGlobals "always" = some (some (.ref falw)))
    (lalw : K.lookup falw = some ⟨ocalw, odalw, .func (PySem.W.fnOf "always" "always" (defArgs sAlw) (defBody sAlw) (defScope sAlw) .none kValw dcalw pmalw analw cdalw ctalw), slalw⟩)
    (calw : PySem.W.codeIn K cdalw "always" = true)
    (kalw : PySem.W.keepIn K (.ref falw) = true)
    (aflt : PySem.W.nsIn K mainGlobals "fault" = some (some (.ref fflt)))
    (lflt : K.lookup fflt = some ⟨ocflt, odflt, .func (PySem.W.fnOf "fault" "fault" (defArgs sFlt) (defBody sFlt) (defScope sFlt) .none kVflt dcflt pmflt anflt cdflt ctflt), slflt⟩)
    (cflt : PySem.W.codeIn K cdflt "fault" = true)
    (kflt : PySem.W.keepIn K (.ref fflt) = true)
    (acer : PySem.W.nsIn K mainGlobals "certify" = some (some (.ref fcer)))
    (lcer : K.lookup fcer = some ⟨occer, odcer, .func (PySem.W.fnOf "certify" "certify" (defArgs sCer) (defBody sCer) (defScope sCer) .none kVcer dccer pmcer ancer cdcer ctcer), slcer⟩)
    (ccer : PySem.W.codeIn K cdcer "certify" = true)
    (kcer : PySem.W.keepIn K (.ref fcer) = true)
    (aftb : PySem.W.nsIn K mainGlobals "fault_table" = some (some (.ref fftb)))
    (lftb : K.lookup fftb = some ⟨ocftb, odftb, .func (PySem.W.fnOf "fault_table" "fault_table" (defArgs sFtb) (defBody sFtb) (defScope sFtb) .none kVftb dcftb pmftb anftb cdftb ctftb), slftb⟩)
    (cftb : PySem.W.codeIn K cdftb "fault_table" = true)
    (kftb : PySem.W.keepIn K (.ref fftb) = true)
    (afut : PySem.W.nsIn K mainGlobals "fault_text" = some (some (.ref ffut)))
    (lfut : K.lookup ffut = some ⟨ocfut, odfut, .func (PySem.W.fnOf "fault_text" "fault_text" (defArgs sFut) (defBody sFut) (defScope sFut) .none kVfut dcfut pmfut anfut cdfut ctfut), slfut⟩)
    (cfut : PySem.W.codeIn K cdfut "fault_text" = true)
    (kfut : PySem.W.keepIn K (.ref ffut) = true)
    (afiU : PySem.W.nsIn K mainGlobals "first_unlike" = some (some (.ref ffiU)))
    (lfiU : K.lookup ffiU = some ⟨ocfiU, odfiU, .func (PySem.W.fnOf "first_unlike" "first_unlike" (defArgs sFiU) (defBody sFiU) (defScope sFiU) .none kVfiU dcfiU pmfiU anfiU cdfiU ctfiU), slfiU⟩)
    (cfiU : PySem.W.codeIn K cdfiU "first_unlike" = true)
    (kfiU : PySem.W.keepIn K (.ref ffiU) = true)
    (aceU : PySem.W.nsIn K mainGlobals "certify_unlike" = some (some (.ref fceU)))
    (lceU : K.lookup fceU = some ⟨occeU, odceU, .func (PySem.W.fnOf "certify_unlike" "certify_unlike" (defArgs sCeU) (defBody sCeU) (defScope sCeU) .none kVceU dcceU pmceU anceU cdceU ctceU), slceU⟩)
    (cceU : PySem.W.codeIn K cdceU "certify_unlike" = true)
    (kceU : PySem.W.keepIn K (.ref fceU) = true)
    (afiD : PySem.W.nsIn K mainGlobals "first_difference" = some (some (.ref ffiD)))
    (lfiD : K.lookup ffiD = some ⟨ocfiD, odfiD, .func (PySem.W.fnOf "first_difference" "first_difference" (defArgs sFiD) (defBody sFiD) (defScope sFiD) .none kVfiD dcfiD pmfiD anfiD cdfiD ctfiD), slfiD⟩)
    (cfiD : PySem.W.codeIn K cdfiD "first_difference" = true)
    (kfiD : PySem.W.keepIn K (.ref ffiD) = true)
    (aceC : PySem.W.nsIn K mainGlobals "certify_chains" = some (some (.ref fceC)))
    (lceC : K.lookup fceC = some ⟨occeC, odceC, .func (PySem.W.fnOf "certify_chains" "certify_chains" (defArgs sCeC) (defBody sCeC) (defScope sCeC) .none kVceC dcceC pmceC anceC cdceC ctceC), slceC⟩)
    (cceC : PySem.W.codeIn K cdceC "certify_chains" = true)
    (kceC : PySem.W.keepIn K (.ref fceC) = true)
    (aptb : PySem.W.nsIn K mainGlobals "piece_table" = some (some (.ref fptb)))
    (lptb : K.lookup fptb = some ⟨ocptb, odptb, .func (PySem.W.fnOf "piece_table" "piece_table" (defArgs sPtb) (defBody sPtb) (defScope sPtb) .none kVptb dcptb pmptb anptb cdptb ctptb), slptb⟩)
    (cptb : PySem.W.codeIn K cdptb "piece_table" = true)
    (kptb : PySem.W.keepIn K (.ref fptb) = true)
    (gNM : PySem.W.nsIn K mainGlobals "NAMES" = some (some (.ref pNM)))
    (tNM : K.lookup pNM = some ⟨.type "tuple", odNM, .seq #[.str "whole" tkNM0, .str "filled" tkNM1, .str "even" tkNM2, .str "quiet" tkNM3, .str "ends" tkNM4] nNM, slNM⟩)
    (aCBInputError : PySem.W.nsIn K mainGlobals "InputError" = some (some (.ref CBInputError)))
    (kAI9 : PySem.W.kitOne K (.ref CI9) (.ref CBInputError) = some true)
    (kBI9 : PySem.W.kitOne K (.ref CI9) (.type "ValueError") = some true)
    (x7I9 : PySem.W.findIn K (.ref CI9) "__getattribute__" = some (some (.builtin "BaseException.__getattribute__")))
    (x8I9 : PySem.W.findIn K (.ref CI9) "__getattr__" = some none)
    (x9I9 : PySem.W.hasDictIn K CI9 = true)
    (xAI9 : (PySem.W.clsIn K CI9).isSome = true)
    (xBI9 : PySem.W.findIn K (.ref CI9) "__class__" = some (some (.builtin "object.__class__")))
    (xg1 : PySem.W.specialIn K (.builtin "object.__class__") "__get__" = some (some (.builtin "getset_descriptor.__get__")))
    (xg2 : PySem.W.takesIn K (.builtin "object.__class__") = some true)
    (xCI9 : PySem.W.mroIn K CI9 (.type "object") = some true)
    (xxI9I9 : PySem.W.exmOne K (.ref CI9) (.ref CI9) = some true)
    (kAN9 : PySem.W.kitOne K (.ref CN9) (.ref CBInputError) = some true)
    (kBN9 : PySem.W.kitOne K (.ref CN9) (.type "ValueError") = some true)
    (x7N9 : PySem.W.findIn K (.ref CN9) "__getattribute__" = some (some (.builtin "BaseException.__getattribute__")))
    (x8N9 : PySem.W.findIn K (.ref CN9) "__getattr__" = some none)
    (x9N9 : PySem.W.hasDictIn K CN9 = true)
    (xAN9 : (PySem.W.clsIn K CN9).isSome = true)
    (xBN9 : PySem.W.findIn K (.ref CN9) "__class__" = some (some (.builtin "object.__class__")))
    (xCN9 : PySem.W.mroIn K CN9 (.type "object") = some true)
    (xxN9I9 : PySem.W.exmOne K (.ref CN9) (.ref CI9) = some false)
    (xxN9N9 : PySem.W.exmOne K (.ref CN9) (.ref CN9) = some true)
    (kAES : PySem.W.kitOne K (.ref CES) (.ref CBInputError) = some true)
    (kBES : PySem.W.kitOne K (.ref CES) (.type "ValueError") = some true)
    (x7ES : PySem.W.findIn K (.ref CES) "__getattribute__" = some (some (.builtin "BaseException.__getattribute__")))
    (x8ES : PySem.W.findIn K (.ref CES) "__getattr__" = some none)
    (x9ES : PySem.W.hasDictIn K CES = true)
    (xAES : (PySem.W.clsIn K CES).isSome = true)
    (xBES : PySem.W.findIn K (.ref CES) "__class__" = some (some (.builtin "object.__class__")))
    (xCES : PySem.W.mroIn K CES (.type "object") = some true)
    (xxESI9 : PySem.W.exmOne K (.ref CES) (.ref CI9) = some false)
    (xxESN9 : PySem.W.exmOne K (.ref CES) (.ref CN9) = some false)
    (xxESES : PySem.W.exmOne K (.ref CES) (.ref CES) = some true)
    (kAW9 : PySem.W.kitOne K (.ref CW9) (.ref CBInputError) = some true)
    (kBW9 : PySem.W.kitOne K (.ref CW9) (.type "ValueError") = some true)
    (x7W9 : PySem.W.findIn K (.ref CW9) "__getattribute__" = some (some (.builtin "BaseException.__getattribute__")))
    (x8W9 : PySem.W.findIn K (.ref CW9) "__getattr__" = some none)
    (x9W9 : PySem.W.hasDictIn K CW9 = true)
    (xAW9 : (PySem.W.clsIn K CW9).isSome = true)
    (xBW9 : PySem.W.findIn K (.ref CW9) "__class__" = some (some (.builtin "object.__class__")))
    (xCW9 : PySem.W.mroIn K CW9 (.type "object") = some true)
    (xxW9I9 : PySem.W.exmOne K (.ref CW9) (.ref CI9) = some false)
    (xxW9N9 : PySem.W.exmOne K (.ref CW9) (.ref CN9) = some false)
    (xxW9ES : PySem.W.exmOne K (.ref CW9) (.ref CES) = some false)
    (xxW9W9 : PySem.W.exmOne K (.ref CW9) (.ref CW9) = some true)
    (kAC9 : PySem.W.kitOne K (.ref CC9) (.ref CBInputError) = some true)
    (kBC9 : PySem.W.kitOne K (.ref CC9) (.type "ValueError") = some true)
    (x7C9 : PySem.W.findIn K (.ref CC9) "__getattribute__" = some (some (.builtin "BaseException.__getattribute__")))
    (x8C9 : PySem.W.findIn K (.ref CC9) "__getattr__" = some none)
    (x9C9 : PySem.W.hasDictIn K CC9 = true)
    (xAC9 : (PySem.W.clsIn K CC9).isSome = true)
    (xBC9 : PySem.W.findIn K (.ref CC9) "__class__" = some (some (.builtin "object.__class__")))
    (xCC9 : PySem.W.mroIn K CC9 (.type "object") = some true)
    (xxC9I9 : PySem.W.exmOne K (.ref CC9) (.ref CI9) = some false)
    (xxC9N9 : PySem.W.exmOne K (.ref CC9) (.ref CN9) = some false)
    (xxC9ES : PySem.W.exmOne K (.ref CC9) (.ref CES) = some false)
    (xxC9W9 : PySem.W.exmOne K (.ref CC9) (.ref CW9) = some false)
    (xxC9C9 : PySem.W.exmOne K (.ref CC9) (.ref CC9) = some true)
    (kAEL : PySem.W.kitOne K (.ref CEL) (.ref CBInputError) = some true)
    (kBEL : PySem.W.kitOne K (.ref CEL) (.type "ValueError") = some true)
    (x7EL : PySem.W.findIn K (.ref CEL) "__getattribute__" = some (some (.builtin "BaseException.__getattribute__")))
    (x8EL : PySem.W.findIn K (.ref CEL) "__getattr__" = some none)
    (x9EL : PySem.W.hasDictIn K CEL = true)
    (xAEL : (PySem.W.clsIn K CEL).isSome = true)
    (xBEL : PySem.W.findIn K (.ref CEL) "__class__" = some (some (.builtin "object.__class__")))
    (xCEL : PySem.W.mroIn K CEL (.type "object") = some true)
    (xxELI9 : PySem.W.exmOne K (.ref CEL) (.ref CI9) = some false)
    (xxELN9 : PySem.W.exmOne K (.ref CEL) (.ref CN9) = some false)
    (xxELES : PySem.W.exmOne K (.ref CEL) (.ref CES) = some false)
    (xxELW9 : PySem.W.exmOne K (.ref CEL) (.ref CW9) = some false)
    (xxELC9 : PySem.W.exmOne K (.ref CEL) (.ref CC9) = some false)
    (xxELEL : PySem.W.exmOne K (.ref CEL) (.ref CEL) = some true)
    (kAS9 : PySem.W.kitOne K (.ref CS9) (.ref CBInputError) = some true)
    (kBS9 : PySem.W.kitOne K (.ref CS9) (.type "ValueError") = some true)
    (x7S9 : PySem.W.findIn K (.ref CS9) "__getattribute__" = some (some (.builtin "BaseException.__getattribute__")))
    (x8S9 : PySem.W.findIn K (.ref CS9) "__getattr__" = some none)
    (x9S9 : PySem.W.hasDictIn K CS9 = true)
    (xAS9 : (PySem.W.clsIn K CS9).isSome = true)
    (xBS9 : PySem.W.findIn K (.ref CS9) "__class__" = some (some (.builtin "object.__class__")))
    (xCS9 : PySem.W.mroIn K CS9 (.type "object") = some true)
    (xxS9I9 : PySem.W.exmOne K (.ref CS9) (.ref CI9) = some false)
    (xxS9N9 : PySem.W.exmOne K (.ref CS9) (.ref CN9) = some false)
    (xxS9ES : PySem.W.exmOne K (.ref CS9) (.ref CES) = some false)
    (xxS9W9 : PySem.W.exmOne K (.ref CS9) (.ref CW9) = some false)
    (xxS9C9 : PySem.W.exmOne K (.ref CS9) (.ref CC9) = some false)
    (xxS9EL : PySem.W.exmOne K (.ref CS9) (.ref CEL) = some false)
    (xxS9S9 : PySem.W.exmOne K (.ref CS9) (.ref CS9) = some true)
    (acm : PySem.W.nsIn K mainGlobals "_law_came" = some (some (.ref fcm)))
    (lcm : K.lookup fcm = some ⟨occm, odcm, .func (PySem.W.fnOf "_law_came" "_law_came" (defArgs sCame) (defBody sCame) (defScope sCame) .none kVcm dccm pmcm ancm cdcm ctcm), slcm⟩)
    (ccm : PySem.W.codeIn K cdcm "_law_came" = true)
    (kcm : PySem.W.keepIn K (.ref fcm) = true)
    (nbLNoneType : PySem.W.kitOne K (.type "NoneType") (.ref CL) = some false)
    (nbLbool : PySem.W.kitOne K (.type "bool") (.ref CL) = some false)
    (nbLint : PySem.W.kitOne K (.type "int") (.ref CL) = some false)
    (nbLstr : PySem.W.kitOne K (.type "str") (.ref CL) = some false)
    (nbLlist : PySem.W.kitOne K (.type "list") (.ref CL) = some false)
    (nbLtuple : PySem.W.kitOne K (.type "tuple") (.ref CL) = some false)
    (nbLdict : PySem.W.kitOne K (.type "dict") (.ref CL) = some false)
    (nbUNoneType : PySem.W.kitOne K (.type "NoneType") (.ref CU) = some false)
    (nbUbool : PySem.W.kitOne K (.type "bool") (.ref CU) = some false)
    (nbUint : PySem.W.kitOne K (.type "int") (.ref CU) = some false)
    (nbUstr : PySem.W.kitOne K (.type "str") (.ref CU) = some false)
    (nbUlist : PySem.W.kitOne K (.type "list") (.ref CU) = some false)
    (nbUtuple : PySem.W.kitOne K (.type "tuple") (.ref CU) = some false)
    (nbUdict : PySem.W.kitOne K (.type "dict") (.ref CU) = some false)
    (nbANoneType : PySem.W.kitOne K (.type "NoneType") (.ref CA) = some false)
    (nbAbool : PySem.W.kitOne K (.type "bool") (.ref CA) = some false)
    (nbAint : PySem.W.kitOne K (.type "int") (.ref CA) = some false)
    (nbAstr : PySem.W.kitOne K (.type "str") (.ref CA) = some false)
    (nbAlist : PySem.W.kitOne K (.type "list") (.ref CA) = some false)
    (nbAtuple : PySem.W.kitOne K (.type "tuple") (.ref CA) = some false)
    (nbAdict : PySem.W.kitOne K (.type "dict") (.ref CA) = some false)
    (kUL : PySem.W.kitOne K (.ref CU) (.ref CL) = some false)
    (kAL : PySem.W.kitOne K (.ref CA) (.ref CL) = some false)
    (kLU : PySem.W.kitOne K (.ref CL) (.ref CU) = some false)
    (kAU : PySem.W.kitOne K (.ref CA) (.ref CU) = some false)
    (kLA : PySem.W.kitOne K (.ref CL) (.ref CA) = some false)
    (kUA : PySem.W.kitOne K (.ref CU) (.ref CA) = some false)
    (asip : PySem.W.nsIn K mainGlobals "_law_sip" = some (some (.ref fsip)))
    (lsip : K.lookup fsip = some ⟨ocsip, odsip, .func (PySem.W.fnOf "_law_sip" "_law_sip" (defArgs sSip) (defBody sSip) (defScope sSip) .none kVsip dcsip pmsip ansip cdsip ctsip), slsip⟩)
    (csip : PySem.W.codeIn K cdsip "_law_sip" = true)
    (ksip : PySem.W.keepIn K (.ref fsip) = true)
    (afrm : PySem.W.nsIn K mainGlobals "_law_from" = some (some (.ref ffrm)))
    (lfrm : K.lookup ffrm = some ⟨ocfrm, odfrm, .func (PySem.W.fnOf "_law_from" "_law_from" (defArgs sFrom) (defBody sFrom) (defScope sFrom) .none kVfrm dcfrm pmfrm anfrm cdfrm ctfrm), slfrm⟩)
    (cfrm : PySem.W.codeIn K cdfrm "_law_from" = true)
    (kfrm : PySem.W.keepIn K (.ref ffrm) = true)
    (ajar : PySem.W.nsIn K mainGlobals "_law_jar" = some (some (.ref fjar)))
    (ljar : K.lookup fjar = some ⟨ocjar, odjar, .func (PySem.W.fnOf "_law_jar" "_law_jar" (defArgs sJar) (defBody sJar) (defScope sJar) .none kVjar dcjar pmjar anjar cdjar ctjar), sljar⟩)
    (cjar : PySem.W.codeIn K cdjar "_law_jar" = true)
    (kjar : PySem.W.keepIn K (.ref fjar) = true)
    (art : PySem.W.nsIn K mainGlobals "_law_right" = some (some (.ref frt)))
    (lrt : K.lookup frt = some ⟨ocrt, odrt, .func (PySem.W.fnOf "_law_right" "_law_right" (defArgs sRight) (defBody sRight) (defScope sRight) .none kVrt dcrt pmrt anrt (.ref cR) ctrt), slrt⟩)
    (crt : PySem.W.codeIn K (.ref cR) "_law_right" = true)
    (krt : PySem.W.keepIn K (.ref frt) = true)
    (alaw : PySem.W.nsIn K mainGlobals "law" = some (some (.ref flaw)))
    (llaw : K.lookup flaw = some ⟨oclaw, odlaw, .func (PySem.W.fnOf "law" "law" (defArgs sLaw) (defBody sLaw) (defScope sLaw) .none kVlaw dclaw pmlaw anlaw cdlaw ctlaw), sllaw⟩)
    (claw : PySem.W.codeIn K cdlaw "law" = true)
    (klaw : PySem.W.keepIn K (.ref flaw) = true)
    (q1 : K.lookup cR = some ⟨ocC, odC, .fields vsC, slC⟩)
    (q2 : vsC[11]? = some (.ref PR))
    (q3 : PySem.W.codeHdIn K cR PR = true)
    (q4 : K.lookup PR = none)
    (q5 : h.get? PR = some { cls := .none, data := .fields #[] })
    (z_tuple : PySem.W.nsIn K mainGlobals "tuple" = some none)
    (z_len : PySem.W.nsIn K mainGlobals "len" = some none)
    (z_all : PySem.W.nsIn K mainGlobals "all" = some none)
    (z_isinstance : PySem.W.nsIn K mainGlobals "isinstance" = some none)
    (z_str : PySem.W.nsIn K mainGlobals "str" = some none)
    (z_int : PySem.W.nsIn K mainGlobals "int" = some none)
    (z_bool : PySem.W.nsIn K mainGlobals "bool" = some none)
    (z_range : PySem.W.nsIn K mainGlobals "range" = some none)
    (z_sum : PySem.W.nsIn K mainGlobals "sum" = some none)
    (z_ValueError : PySem.W.nsIn K mainGlobals "ValueError" = some none)
    (z_abs : PySem.W.nsIn K mainGlobals "abs" = some none)
    (z_divmod : PySem.W.nsIn K mainGlobals "divmod" = some none)
    (z_repr : PySem.W.nsIn K mainGlobals "repr" = some none)
    (z_max : PySem.W.nsIn K mainGlobals "max" = some none)
    (z_min : PySem.W.nsIn K mainGlobals "min" = some none) :
    Gd.LawG l w K 13 63 "_law_script" mg fa h := by
  have e := hfa.symm.trans (PySem.W.mg_of X G alaw)
  cases e
  have Fwo := fun_mk (st := sWO) lwo cwo kwo
  have bwo := Fwo.binds (ps := ["text"]) fun _ _ _ _ _ _ => Ln.len1 fun _  => rfl
  have Foo := fun_mk (st := sOO) loo coo koo
  have boo := Foo.binds (ps := ["word"]) fun _ _ _ _ _ _ => Ln.len1 fun _  => rfl
  have Fiw := fun_mk (st := sIW) liw ciw kiw
  have biw := Fiw.binds (ps := ["word", "steps"]) fun _ _ _ _ _ _ => Ln.len2 fun _ _  => rfl
  have Faw := fun_mk (st := sAW) law caw kaw
  have baw := Faw.binds (ps := ["words", "steps"]) fun _ _ _ _ _ _ => Ln.len2 fun _ _  => rfl
  have Fir := fun_mk (st := sIR) lir cir kir
  have bir := Fir.binds (ps := ["words"]) fun _ _ _ _ _ _ => Ln.len1 fun _  => rfl
  have Fie := fun_mk (st := sIE) lie cie kie
  have bie := Fie.binds (ps := ["words"]) fun _ _ _ _ _ _ => Ln.len1 fun _  => rfl
  let TL : TxL K mg := ⟨PySem.W.mg_none_of X G z_tuple, PySem.W.mg_none_of X G z_len, PySem.W.mg_none_of X G z_all, ⟨_, PySem.W.mg_of X G mB⟩, ⟨_, PySem.W.mg_of X G mMR⟩, ⟨_, PySem.W.mg_of X G mME⟩, pT, pR, pE, PySem.W.mg_of X G gT, PySem.W.mg_of X G gR, PySem.W.mg_of X G gE, fun H => .inr ⟨_, _, _, tT, rfl, rfl, (by show 8 ≤ sizeLine; decide), .cons ⟨_, rfl⟩ (.cons ⟨_, rfl⟩ (.cons ⟨_, rfl⟩ (.cons ⟨_, rfl⟩ (.cons ⟨_, rfl⟩ (.cons ⟨_, rfl⟩ (.cons ⟨_, rfl⟩ (.cons ⟨_, rfl⟩ (.nil))))))))⟩, fun H => .inr ⟨_, _, _, tR, rfl, rfl, (by show 6 ≤ sizeLine; decide), .cons ⟨_, rfl⟩ (.cons ⟨_, rfl⟩ (.cons ⟨_, rfl⟩ (.cons ⟨_, rfl⟩ (.cons ⟨_, rfl⟩ (.cons ⟨_, rfl⟩ (.nil))))))⟩, fun H => .inr ⟨_, _, _, tE, rfl, rfl, (by show 3 ≤ sizeLine; decide), .cons ⟨_, rfl⟩ (.cons ⟨_, rfl⟩ (.cons ⟨_, rfl⟩ (.nil)))⟩, ⟨fwo, _, Fwo, bwo, PySem.W.mg_of X G awo, kwo⟩, ⟨foo, _, Foo, boo, PySem.W.mg_of X G aoo, koo⟩, ⟨fiw, _, Fiw, biw, PySem.W.mg_of X G aiw, kiw⟩, ⟨faw, _, Faw, baw, PySem.W.mg_of X G aaw, kaw⟩, ⟨fir, _, Fir, bir, PySem.W.mg_of X G air, kir⟩, ⟨fie, _, Fie, bie, PySem.W.mg_of X G aie, kie⟩⟩
  have FIT := fun_mk (st := sEI) lIT cIT kIT
  have bIT := FIT.binds (ps := ["self", "value"]) fun _ _ _ _ _ _ => Ln.len2 fun _ _  => rfl
  have Fli := fun_mk (st := sLI) lli cli kli
  have bli := Fli.binds (ps := ["self", "text"]) fun _ _ _ _ _ _ => Ln.len2 fun _ _  => rfl
  let TC : TxC K mg := ⟨TL, ⟨CIT, fIT, _, PySem.W.mg_of X G aCIT, ⟨⟨nmIT, qIT, NIT, bsIT, bmIT, snIT, subIT, abIT, colIT, ddIT, m0IT, m1IT, m2IT, m3IT, m5IT, xIT, xrIT⟩, e1IT, e2IT, e3IT, e4IT⟩, aIT, e5IT, e6IT, FIT, bIT⟩, PySem.W.mg_none_of X G z_isinstance, PySem.W.mg_none_of X G z_str, CL, PySem.W.mg_of X G aCL, ⟨pgL, hdL, poL, saL⟩, nL0, nL1, nL2, nL3, nL4, fli, _, Fli, bli, ⟨mkL, ali, ili, kcL⟩⟩
  have Fiib := fun_mk (st := sIIB) liib ciib kiib
  have biib := Fiib.binds (ps := ["value", "low", "high"]) fun _ _ _ _ _ _ => Ln.len3 fun _ _ _  => rfl
  have Fcks := fun_mk (st := sCKS) lcks ccks kcks
  have bcks := Fcks.binds (ps := ["size"]) fun _ _ _ _ _ _ => Ln.len1 fun _  => rfl
  have FES := fun_mk (st := sES) lES cES kES
  have bES := FES.binds (ps := ["self", "value"]) fun _ _ _ _ _ _ => Ln.len2 fun _ _  => rfl
  let TK : TxK K mg := ⟨PySem.W.mg_none_of X G z_isinstance, PySem.W.mg_none_of X G z_int, PySem.W.mg_none_of X G z_bool, PySem.W.mg_none_of X G z_tuple, PySem.W.mg_none_of X G z_len, ⟨_, PySem.W.mg_of X G mMP⟩, ⟨_, PySem.W.mg_of X G mMI⟩, ⟨fiib, _, Fiib, biib, PySem.W.mg_of X G aiib, kiib⟩, ⟨fcks, _, Fcks, bcks, PySem.W.mg_of X G acks, kcks⟩, ⟨CES, fES, _, PySem.W.mg_of X G aCES, ⟨⟨nmES, qES, NES, bsES, bmES, snES, subES, abES, colES, ddES, m0ES, m1ES, m2ES, m3ES, m5ES, xES, xrES⟩, e1ES, e2ES, e3ES, e4ES⟩, aES, e5ES, e6ES, FES, bES⟩⟩
  have Fxi := fun_mk (st := sXI) lxi cxi kxi
  have bxi := Fxi.binds (ps := ["self", "round_orders", "ending_orders", "size", "kept"]) fun _ _ _ _ _ _ => Ln.len5 fun _ _ _ _ _  => rfl
  have Fxa := fun_mk (st := sXA) lxa cxa kxa
  have bxa := Fxa.binds (ps := ["self", "held", "told"]) fun _ _ _ _ _ _ => Ln.len3 fun _ _ _  => rfl
  have Fxq := fun_mk (st := sXF) lxq cxq kxq
  have bxq := Fxq.binds (ps := ["self"]) fun _ _ _ _ _ _ => Ln.len1 fun _  => rfl
  have Fxp := fun_mk (st := sXP) lxp cxp kxp
  have bxp := Fxp.binds (ps := ["self", "test"]) fun _ _ _ _ _ _ => Ln.len2 fun _ _  => rfl
  have Fxr := fun_mk (st := sXR) lxr cxr kxr
  have bxr := Fxr.binds (ps := ["self", "step"]) fun _ _ _ _ _ _ => Ln.len2 fun _ _  => rfl
  have Fxc := fun_mk (st := sXC) lxc cxc kxc
  have bxc := Fxc.binds (ps := ["self"]) fun _ _ _ _ _ _ => Ln.len1 fun _  => rfl
  let TX : TxX K mg := ⟨PySem.W.mg_none_of X G z_len, PySem.W.mg_none_of X G z_range, CX, PySem.W.mg_of X G aCX, ⟨pgX, hdX, poX, saX⟩, nX0, nX1, nX2, nX3, nX4, nX5, nX6, nX7, nX8, fxi, _, Fxi, bxi, ⟨mkX, axi, ixi, kcX⟩, ⟨fxa, _, Fxa, bxa, ⟨axa, ixa, kxa⟩⟩, ⟨fxq, _, Fxq, bxq, ⟨axq, ixq, kxq⟩⟩, ⟨fxp, _, Fxp, bxp, ⟨axp, ixp, kxp⟩⟩, ⟨fxr, _, Fxr, bxr, ⟨axr, ixr, kxr⟩⟩, ⟨fxc, _, Fxc, bxc, ⟨axc, ixc, kxc⟩⟩⟩
  have Flx := fun_mk (st := sLX) llx clx klx
  have blx := Flx.binds (ps := ["self", "size", "kept"]) fun _ _ _ _ _ _ => Ln.len3 fun _ _ _  => rfl
  let TN : TxN K mg := ⟨TC, TX, TK, ⟨flx, _, Flx, blx, ⟨alx, ilx, klx⟩⟩⟩
  have Fmi := fun_mk (st := sMmI) lmi cmi kmi
  have bmi := Fmi.binds (ps := ["self", "before", "given", "handed", "kept", "over"]) fun _ _ _ _ _ _ => Ln.len6 fun _ _ _ _ _ _  => rfl
  have Fqi := fun_mk (st := sRdI) lqi cqi kqi
  have bqi := Fqi.binds (ps := ["self", "loop", "size"]) fun _ _ _ _ _ _ => Ln.len3 fun _ _ _  => rfl
  have Fckl := fun_mk (st := sCKL) lckl cckl kckl
  have bckl := Fckl.binds (ps := ["loop"]) fun _ _ _ _ _ _ => Ln.len1 fun _  => rfl
  have Fqgp := fun_mk (st := sRdG) lqgp cqgp kqgp
  have bqgp := Fqgp.binds (ps := ["self"]) fun _ _ _ _ _ _ => Ln.len1 fun _ => rfl
  have Fqhp := fun_mk (st := sRdH) lqhp cqhp kqhp
  have bqhp := Fqhp.binds (ps := ["self"]) fun _ _ _ _ _ _ => Ln.len1 fun _ => rfl
  have Fqkp := fun_mk (st := sRdK) lqkp cqkp kqkp
  have bqkp := Fqkp.binds (ps := ["self"]) fun _ _ _ _ _ _ => Ln.len1 fun _ => rfl
  have Fqop := fun_mk (st := sRdO) lqop cqop kqop
  have bqop := Fqop.binds (ps := ["self"]) fun _ _ _ _ _ _ => Ln.len1 fun _ => rfl
  have Fql := fun_mk (st := sRdL) lql cql kql
  have bql := Fql.binds (ps := ["self"]) fun _ _ _ _ _ _ => Ln.len1 fun _  => rfl
  have Fqr := fun_mk (st := sRdR) lqr cqr kqr
  have bqr := Fqr.binds (ps := ["self"]) fun _ _ _ _ _ _ => Ln.len1 fun _  => rfl
  have Fqf := fun_mk (st := sRdF) lqf cqf kqf
  have bqf := Fqf.binds (ps := ["self", "count", "told"]) fun _ _ _ _ _ _ => Ln.len3 fun _ _ _  => rfl
  have Fqu := fun_mk (st := sRdU) lqu cqu kqu
  have bqu := Fqu.binds (ps := ["self"]) fun _ _ _ _ _ _ => Ln.len1 fun _  => rfl
  have Fqc := fun_mk (st := sRdCf) lqc cqc kqc
  have bqc := Fqc.binds (ps := ["self"]) fun _ _ _ _ _ _ => Ln.len1 fun _  => rfl
  have Fqk := fun_mk (st := sRdCr) lqk cqk kqk
  have bqk := Fqk.binds (ps := ["self", "count", "told"]) fun _ _ _ _ _ _ => Ln.len3 fun _ _ _  => rfl
  have Fqt := fun_mk (st := sRdT) lqt cqt kqt
  have bqt := Fqt.binds (ps := ["self", "count", "told"]) fun _ _ _ _ _ _ => Ln.len3 fun _ _ _  => rfl
  let TRd : TxRd K mg := ⟨TN, PySem.W.mg_none_of X G z_sum, CM, PySem.W.mg_of X G aCM, ⟨pgM, hdM, poM, saM⟩, nM0, nM1, nM2, nM3, nM4, fmi, _, Fmi, bmi, ⟨mkM, ami, imi, kcM⟩, CQ, PySem.W.mg_of X G aCQ, ⟨pgQ, hdQ, poQ, saQ⟩, nQ0, nQ1, nQ2, nQ3, fqi, _, Fqi, bqi, ⟨mkQ, aqi, iqi, kcQ⟩, ⟨fckl, _, Fckl, bckl, PySem.W.mg_of X G ackl, kckl⟩, w1, w2, w3, w4, w5, ⟨pqgp, fqgp, _, Fqgp, bqgp, ⟨aqgp, gqgp, tqgp, ⟨_, rqgp⟩⟩⟩, ⟨pqhp, fqhp, _, Fqhp, bqhp, ⟨aqhp, gqhp, tqhp, ⟨_, rqhp⟩⟩⟩, ⟨pqkp, fqkp, _, Fqkp, bqkp, ⟨aqkp, gqkp, tqkp, ⟨_, rqkp⟩⟩⟩, ⟨pqop, fqop, _, Fqop, bqop, ⟨aqop, gqop, tqop, ⟨_, rqop⟩⟩⟩, ⟨fql, _, Fql, bql, aql, iql⟩, ⟨fqr, _, Fqr, bqr, aqr, iqr⟩, ⟨fqf, _, Fqf, bqf, ⟨aqf, iqf, kqf⟩⟩, ⟨fqu, _, Fqu, bqu, ⟨aqu, iqu, kqu⟩⟩, ⟨fqc, _, Fqc, bqc, ⟨aqc, iqc, kqc⟩⟩, ⟨fqk, _, Fqk, bqk, ⟨aqk, iqk, kqk⟩⟩, ⟨fqt, _, Fqt, bqt, ⟨aqt, iqt, kqt⟩⟩, ⟨CStp, PySem.W.mg_of X G aCStp, qStp, kStp, sStp, tStp⟩, ⟨CNtu, PySem.W.mg_of X G aCNtu, qNtu, kNtu, sNtu, tNtu⟩⟩
  have FEL := fun_mk (st := sEL) lEL cEL kEL
  have bEL := FEL.binds (ps := ["self", "value"]) fun _ _ _ _ _ _ => Ln.len2 fun _ _  => rfl
  have FEC := fun_mk (st := sEC) lEC cEC kEC
  have bEC := FEC.binds (ps := ["self", "value"]) fun _ _ _ _ _ _ => Ln.len2 fun _ _  => rfl
  have FET := fun_mk (st := sET) lET cET kET
  have bET := FET.binds (ps := ["self", "value"]) fun _ _ _ _ _ _ => Ln.len2 fun _ _  => rfl
  have FEM := fun_mk (st := sEM) lEM cEM kEM
  have bEM := FEM.binds (ps := ["self", "limit"]) fun _ _ _ _ _ _ => Ln.len2 fun _ _  => rfl
  let TRe : TxRe K mg := ⟨TRd, ⟨CEL, fEL, _, PySem.W.mg_of X G aCEL, ⟨⟨nmEL, qEL, NEL, bsEL, bmEL, snEL, subEL, abEL, colEL, ddEL, m0EL, m1EL, m2EL, m3EL, m5EL, xEL, xrEL⟩, e1EL, e2EL, e3EL, e4EL⟩, aEL, e5EL, e6EL, FEL, bEL⟩, ⟨CEC, fEC, _, PySem.W.mg_of X G aCEC, ⟨⟨nmEC, qEC, NEC, bsEC, bmEC, snEC, subEC, abEC, colEC, ddEC, m0EC, m1EC, m2EC, m3EC, m5EC, xEC, xrEC⟩, e1EC, e2EC, e3EC, e4EC⟩, aEC, e5EC, e6EC, FEC, bEC⟩, ⟨CET, fET, _, PySem.W.mg_of X G aCET, ⟨⟨nmET, qET, NET, bsET, bmET, snET, subET, abET, colET, ddET, m0ET, m1ET, m2ET, m3ET, m5ET, xET, xrET⟩, e1ET, e2ET, e3ET, e4ET⟩, aET, e5ET, e6ET, FET, bET⟩, ⟨CEM, fEM, _, PySem.W.mg_of X G aCEM, ⟨⟨nmEM, qEM, NEM, bsEM, bmEM, snEM, subEM, abEM, colEM, ddEM, m0EM, m1EM, m2EM, m3EM, m5EM, xEM, xrEM⟩, e1EM, e4EM⟩, e2EM, e3EM, aEM, e5EM, e6EM, FEM, bEM⟩⟩
  have Fic := fun_mk (st := sIC) lic cic kic
  have bic := Fic.binds (ps := ["text"]) fun _ _ _ _ _ _ => Ln.len1 fun _  => rfl
  have Fro := fun_mk (st := sRO) lro cro kro
  have bro := Fro.binds (ps := ["row"]) fun _ _ _ _ _ _ => Ln.len1 fun _  => rfl
  have Fit := fun_mk (st := sIT) lit cit kit
  have bit := Fit.binds (ps := ["items"]) fun _ _ _ _ _ _ => Ln.len1 fun _  => rfl
  have Fpt := fun_mk (st := sPT) lpt cpt kpt
  have bpt := Fpt.binds (ps := ["pieces"]) fun _ _ _ _ _ _ => Ln.len1 fun _  => rfl
  let TCo : TxCo K mg := ⟨PySem.W.mg_none_of X G z_int, PySem.W.mg_none_of X G z_str, ⟨_, PySem.W.mg_of X G mFE⟩, ⟨_, PySem.W.mg_of X G mTO⟩, ⟨fic, _, Fic, bic, PySem.W.mg_of X G aic, kic⟩, ⟨fro, _, Fro, bro, PySem.W.mg_of X G aro, kro⟩, ⟨fit, _, Fit, bit, PySem.W.mg_of X G ait, kit⟩, ⟨fpt, _, Fpt, bpt, PySem.W.mg_of X G apt, kpt⟩⟩
  have Fki := fun_mk (st := sCnI) lki cki kki
  have bki := Fki.binds (ps := ["self", "loop", "size"]) fun _ _ _ _ _ _ => Ln.len3 fun _ _ _  => rfl
  have FIR := fun_mk (st := sEIR) lIR cIR kIR
  have bIR := FIR.binds (ps := ["self", "value"]) fun _ _ _ _ _ _ => Ln.len2 fun _ _  => rfl
  have Fau := fun_mk (st := sCnU) lau cau kau
  have bau := Fau.binds (ps := ["self"]) fun _ _ _ _ _ _ => Ln.len1 fun _  => rfl
  have Faf := fun_mk (st := sCnF) laf caf kaf
  have baf := Faf.binds (ps := ["self", "reply"]) fun _ _ _ _ _ _ => Ln.len2 fun _ _  => rfl
  have Fsay := fun_mk (st := sCnS) lsay csay ksay
  have bsay := Fsay.binds (ps := ["self", "row"]) fun _ _ _ _ _ _ => Ln.len2 fun _ _  => rfl
  let TCn : TxCn K mg := ⟨TRe, TCo, CK, PySem.W.mg_of X G aCK, ⟨pgK, hdK, poK, saK⟩, nK0, fki, _, Fki, bki, ⟨mkK, aki, iki, kcK⟩, ⟨_, PySem.W.mg_of X G mRF⟩, ⟨CIR, fIR, _, PySem.W.mg_of X G aCIR, ⟨⟨nmIR, qIR, NIR, bsIR, bmIR, snIR, subIR, abIR, colIR, ddIR, m0IR, m1IR, m2IR, m3IR, m5IR, xIR, xrIR⟩, e1IR, e2IR, e3IR, e4IR⟩, aIR, e5IR, e6IR, FIR, bIR⟩, ⟨fau, _, Fau, bau, ⟨aau, iau, kau⟩⟩, ⟨faf, _, Faf, baf, ⟨aaf, iaf, kaf⟩⟩, ⟨fsay, _, Fsay, bsay, ⟨asay, isay, ksay⟩⟩, CInp, CSte, CSze, PySem.W.mg_of X G aCInp, PySem.W.mg_of X G aCSte, PySem.W.mg_of X G aCSze, xnn, xcc, xss, xmm⟩
  have Fckw := fun_mk (st := sQW) lckw cckw kckw
  have bckw := Fckw.binds (ps := ["word", "words"]) fun _ _ _ _ _ _ => Ln.len2 fun _ _  => rfl
  have Fui := fun_mk (st := sUI) lui cui kui
  have bui := Fui.binds (ps := ["self", "amount", "patience", "end"]) fun _ _ _ _ _ _ => Ln.len4 fun _ _ _ _  => rfl
  have Fur := fun_mk (st := sUR) lur cur kur
  have bur := Fur.binds (ps := ["self"]) fun _ _ _ _ _ _ => Ln.len1 fun _  => rfl
  let TU : TxU K mg := ⟨PySem.W.mg_none_of X G z_isinstance, PySem.W.mg_none_of X G z_str, pUA, pUP, pUE, PySem.W.mg_of X G gUA, PySem.W.mg_of X G gUP, PySem.W.mg_of X G gUE, fun H => .inr ⟨_, _, _, tUA, rfl, rfl, (by show 2 ≤ sizeLine; decide), .cons ⟨_, rfl⟩ (.cons ⟨_, rfl⟩ (.nil))⟩, fun H => .inr ⟨_, _, _, tUP, rfl, rfl, (by show 2 ≤ sizeLine; decide), .cons ⟨_, rfl⟩ (.cons ⟨_, rfl⟩ (.nil))⟩, fun H => .inr ⟨_, _, _, tUE, rfl, rfl, (by show 3 ≤ sizeLine; decide), .cons ⟨_, rfl⟩ (.cons ⟨_, rfl⟩ (.cons ⟨_, rfl⟩ (.nil)))⟩, ⟨fckw, _, Fckw, bckw, PySem.W.mg_of X G ackw, kckw⟩, CU, PySem.W.mg_of X G aCU, ⟨pgU, hdU, poU, saU⟩, nU0, nU1, nU2, fui, _, Fui, bui, ⟨mkU, aui, iui, kcU⟩, ⟨fur, _, Fur, bur, aur, iur⟩, y1U, y2U, y3U, y4U, y5U⟩
  have Fco := fun_mk (st := sCO) lco cco kco
  have bco := Fco.binds (ps := ["text"]) fun _ _ _ _ _ _ => Ln.len1 fun _  => rfl
  have Fai := fun_mk (st := sAI) lai cai kai
  have bai := Fai.binds (ps := ["self", "text"]) fun _ _ _ _ _ _ => Ln.len2 fun _ _  => rfl
  let TA : TxA w K mg := ⟨⟨CIT, fIT, _, PySem.W.mg_of X G aCIT, ⟨⟨nmIT, qIT, NIT, bsIT, bmIT, snIT, subIT, abIT, colIT, ddIT, m0IT, m1IT, m2IT, m3IT, m5IT, xIT, xrIT⟩, e1IT, e2IT, e3IT, e4IT⟩, aIT, e5IT, e6IT, FIT, bIT⟩, PySem.W.mg_none_of X G z_len, PySem.W.mg_none_of X G z_str, PySem.W.mg_none_of X G z_int, PySem.W.mg_none_of X G z_range, PySem.W.mg_none_of X G z_tuple, PySem.W.mg_none_of X G z_isinstance, ⟨_, PySem.W.mg_of X G mMW⟩, ⟨_, PySem.W.mg_of X G mMC⟩, dC, PySem.W.mg_of X G gdC, dwC, fun k => (match k with | .cut => kcut | .fill => kfill | .tail => ktail), fun k => (match k with | .cut => nkcut | .fill => nkfill | .tail => nktail), ⟨fco, _, Fco, bco, PySem.W.mg_of X G aco, kco⟩, CA, PySem.W.mg_of X G aCA, ⟨pgA, hdA, poA, saA⟩, nA0, nA1, fai, _, Fai, bai, ⟨mkA, aai, iai, kcA⟩⟩
  have Fae := fun_mk (st := sAE) lae cae kae
  have bae := Fae.binds (ps := ["self", "other"]) fun _ _ _ _ _ _ => Ln.len2 fun _ _  => rfl
  have Fas := fun_mk (st := sAS) las cas kas
  have bas := Fas.binds (ps := ["self"]) fun _ _ _ _ _ _ => Ln.len1 fun _  => rfl
  have Far := fun_mk (st := sAR) lar car kar
  have bar := Far.binds (ps := ["self"]) fun _ _ _ _ _ _ => Ln.len1 fun _  => rfl
  let TAm : TxAm w K mg := ⟨TA, ⟨fae, _, Fae, bae, aae, iae⟩, ⟨fas, _, Fas, bas, aas, ias⟩, ⟨far, _, Far, bar, aar, iar⟩, nneA, ⟨y1A, y2A, y3A, y4A, y5A⟩⟩
  have Fsl := fun_mk (st := sSL) lsl csl ksl
  have bsl := Fsl.binds (ps := []) fun _ _ _ _ _ _ => Ln.len0 fun (_ : Unit) => rfl
  have Fss := fun_mk (st := sSS) lss css kss
  have bss := Fss.binds (ps := []) fun _ _ _ _ _ _ => Ln.len0 fun (_ : Unit) => rfl
  have Flr := fun_mk (st := sLR) llr clr klr
  have blr := Flr.binds (ps := ["self"]) fun _ _ _ _ _ _ => Ln.len1 fun _  => rfl
  have FS9 := fun_mk (st := sES9) lS9 cS9 kS9
  have bS9 := FS9.binds (ps := ["self", "value"]) fun _ _ _ _ _ _ => Ln.len2 fun _ _  => rfl
  have FN9 := fun_mk (st := sEN9) lN9 cN9 kN9
  have bN9 := FN9.binds (ps := ["self", "value"]) fun _ _ _ _ _ _ => Ln.len2 fun _ _  => rfl
  have FW9 := fun_mk (st := sEW9) lW9 cW9 kW9
  have bW9 := FW9.binds (ps := ["self", "value"]) fun _ _ _ _ _ _ => Ln.len2 fun _ _  => rfl
  have FC9 := fun_mk (st := sEC9) lC9 cC9 kC9
  have bC9 := FC9.binds (ps := ["self", "value"]) fun _ _ _ _ _ _ => Ln.len2 fun _ _  => rfl
  have FI9 := fun_mk (st := sEI9) lI9 cI9 kI9
  have bI9 := FI9.binds (ps := ["self", "value"]) fun _ _ _ _ _ _ => Ln.len2 fun _ _  => rfl
  have Fcku := fun_mk (st := sCku) lcku ccku kcku
  have bcku := Fcku.binds (ps := ["source"]) fun _ _ _ _ _ _ => Ln.len1 fun _  => rfl
  have Fckn := fun_mk (st := sCkn) lckn cckn kckn
  have bckn := Fckn.binds (ps := ["name"]) fun _ _ _ _ _ _ => Ln.len1 fun _  => rfl
  have Fcke := fun_mk (st := sCke) lcke ccke kcke
  have bcke := Fcke.binds (ps := ["end"]) fun _ _ _ _ _ _ => Ln.len1 fun _  => rfl
  have Fckc := fun_mk (st := sCkc) lckc cckc kckc
  have bckc := Fckc.binds (ps := ["chain"]) fun _ _ _ _ _ _ => Ln.len1 fun _  => rfl
  have Fcki := fun_mk (st := sCki) lcki ccki kcki
  have bcki := Fcki.binds (ps := ["items"]) fun _ _ _ _ _ _ => Ln.len1 fun _  => rfl
  have Falw := fun_mk (st := sAlw) lalw calw kalw
  have balw := Falw.binds (ps := ["loop", "source", "name"]) fun _ _ _ _ _ _ => Ln.len3 fun _ _ _  => rfl
  have Fflt := fun_mk (st := sFlt) lflt cflt kflt
  have bflt := Fflt.binds (ps := ["loop", "source", "name"]) fun _ _ _ _ _ _ => Ln.len3 fun _ _ _  => rfl
  have Fcer := fun_mk (st := sCer) lcer ccer kcer
  have bcer := Fcer.binds (ps := ["loop", "source", "name"]) fun _ _ _ _ _ _ => Ln.len3 fun _ _ _  => rfl
  have Fftb := fun_mk (st := sFtb) lftb cftb kftb
  have bftb := Fftb.binds (ps := ["loop", "source"]) fun _ _ _ _ _ _ => Ln.len2 fun _ _  => rfl
  have Ffut := fun_mk (st := sFut) lfut cfut kfut
  have bfut := Ffut.binds (ps := ["found"]) fun _ _ _ _ _ _ => Ln.len1 fun _  => rfl
  have FfiU := fun_mk (st := sFiU) lfiU cfiU kfiU
  have bfiU := FfiU.binds (ps := ["loop", "other_loop", "end"]) fun _ _ _ _ _ _ => Ln.len3 fun _ _ _  => rfl
  have FceU := fun_mk (st := sCeU) lceU cceU kceU
  have bceU := FceU.binds (ps := ["loop", "other_loop", "end"]) fun _ _ _ _ _ _ => Ln.len3 fun _ _ _  => rfl
  have FfiD := fun_mk (st := sFiD) lfiD cfiD kfiD
  have bfiD := FfiD.binds (ps := ["chain", "other_chain"]) fun _ _ _ _ _ _ => Ln.len2 fun _ _  => rfl
  have FceC := fun_mk (st := sCeC) lceC cceC kceC
  have bceC := FceC.binds (ps := ["chain", "other_chain"]) fun _ _ _ _ _ _ => Ln.len2 fun _ _  => rfl
  have Fptb := fun_mk (st := sPtb) lptb cptb kptb
  have bptb := Fptb.binds (ps := ["chain", "items"]) fun _ _ _ _ _ _ => Ln.len2 fun _ _  => rfl
  let T67 : Tx67 w K mg := ⟨TCn, ⟨TC, TU, ⟨fsl, _, Fsl, bsl, PySem.W.mg_of X G asl, ksl⟩, ⟨fss, _, Fss, bss, PySem.W.mg_of X G ass, kss⟩⟩, TAm, ⟨TC, ⟨flr, _, Flr, blr, alr, ilr⟩⟩, rfl, rfl, ⟨CS9, fS9, _, PySem.W.mg_of X G aCS9, ⟨⟨nmS9, qS9, NS9, bsS9, bmS9, snS9, subS9, abS9, colS9, ddS9, m0S9, m1S9, m2S9, m3S9, m5S9, xS9, xrS9⟩, e1S9, e2S9, e3S9, e4S9⟩, aS9, e5S9, e6S9, FS9, bS9⟩, ⟨CN9, fN9, _, PySem.W.mg_of X G aCN9, ⟨⟨nmN9, qN9, NN9, bsN9, bmN9, snN9, subN9, abN9, colN9, ddN9, m0N9, m1N9, m2N9, m3N9, m5N9, xN9, xrN9⟩, e1N9, e2N9, e3N9, e4N9⟩, aN9, e5N9, e6N9, FN9, bN9⟩, ⟨CW9, fW9, _, PySem.W.mg_of X G aCW9, ⟨⟨nmW9, qW9, NW9, bsW9, bmW9, snW9, subW9, abW9, colW9, ddW9, m0W9, m1W9, m2W9, m3W9, m5W9, xW9, xrW9⟩, e1W9, e2W9, e3W9, e4W9⟩, aW9, e5W9, e6W9, FW9, bW9⟩, ⟨CC9, fC9, _, PySem.W.mg_of X G aCC9, ⟨⟨nmC9, qC9, NC9, bsC9, bmC9, snC9, subC9, abC9, colC9, ddC9, m0C9, m1C9, m2C9, m3C9, m5C9, xC9, xrC9⟩, e1C9, e2C9, e3C9, e4C9⟩, aC9, e5C9, e6C9, FC9, bC9⟩, ⟨CI9, fI9, _, PySem.W.mg_of X G aCI9, ⟨⟨nmI9, qI9, NI9, bsI9, bmI9, snI9, subI9, abI9, colI9, ddI9, m0I9, m1I9, m2I9, m3I9, m5I9, xI9, xrI9⟩, e1I9, e2I9, e3I9, e4I9⟩, aI9, e5I9, e6I9, FI9, bI9⟩, ⟨fcku, _, Fcku, bcku, PySem.W.mg_of X G acku, kcku⟩, ⟨fckn, _, Fckn, bckn, PySem.W.mg_of X G ackn, kckn⟩, ⟨fcke, _, Fcke, bcke, PySem.W.mg_of X G acke, kcke⟩, ⟨fckc, _, Fckc, bckc, PySem.W.mg_of X G ackc, kckc⟩, ⟨fcki, _, Fcki, bcki, PySem.W.mg_of X G acki, kcki⟩, ⟨falw, _, Falw, balw, PySem.W.mg_of X G aalw, kalw⟩, ⟨fflt, _, Fflt, bflt, PySem.W.mg_of X G aflt, kflt⟩, ⟨fcer, _, Fcer, bcer, PySem.W.mg_of X G acer, kcer⟩, ⟨fftb, _, Fftb, bftb, PySem.W.mg_of X G aftb, kftb⟩, ⟨ffut, _, Ffut, bfut, PySem.W.mg_of X G afut, kfut⟩, ⟨ffiU, _, FfiU, bfiU, PySem.W.mg_of X G afiU, kfiU⟩, ⟨fceU, _, FceU, bceU, PySem.W.mg_of X G aceU, kceU⟩, ⟨ffiD, _, FfiD, bfiD, PySem.W.mg_of X G afiD, kfiD⟩, ⟨fceC, _, FceC, bceC, PySem.W.mg_of X G aceC, kceC⟩, ⟨fptb, _, Fptb, bptb, PySem.W.mg_of X G aptb, kptb⟩, pNM, PySem.W.mg_of X G gNM, fun H => .inr ⟨_, _, _, tNM, rfl, rfl, (by show 5 ≤ sizeLine; decide), .cons ⟨_, rfl⟩ (.cons ⟨_, rfl⟩ (.cons ⟨_, rfl⟩ (.cons ⟨_, rfl⟩ (.cons ⟨_, rfl⟩ (.nil)))))⟩⟩
  have Fcm := fun_mk (st := sCame) lcm ccm kcm
  have bcm := Fcm.binds (ps := ["_law_ask"]) fun _ _ _ _ _ _ => Ln.len1 fun _  => rfl
  let TCm : TxCm K mg CI9 CN9 CES CW9 CC9 CEL CS9 := ⟨PySem.W.mg_none_of X G z_isinstance, PySem.W.mg_none_of X G z_ValueError, CBInputError, PySem.W.mg_of X G aCBInputError, PySem.W.mg_of X G aCI9, ⟨⟨⟨x7I9, x8I9, e2I9, x9I9⟩, xAI9, xBI9, xg1, xg2, xCI9⟩, e6I9, kAI9, kBI9⟩, xxI9I9, PySem.W.mg_of X G aCN9, ⟨⟨⟨x7N9, x8N9, e2N9, x9N9⟩, xAN9, xBN9, xg1, xg2, xCN9⟩, e6N9, kAN9, kBN9⟩, xxN9I9, xxN9N9, PySem.W.mg_of X G aCES, ⟨⟨⟨x7ES, x8ES, e2ES, x9ES⟩, xAES, xBES, xg1, xg2, xCES⟩, e6ES, kAES, kBES⟩, xxESI9, xxESN9, xxESES, PySem.W.mg_of X G aCW9, ⟨⟨⟨x7W9, x8W9, e2W9, x9W9⟩, xAW9, xBW9, xg1, xg2, xCW9⟩, e6W9, kAW9, kBW9⟩, xxW9I9, xxW9N9, xxW9ES, xxW9W9, PySem.W.mg_of X G aCC9, ⟨⟨⟨x7C9, x8C9, e2C9, x9C9⟩, xAC9, xBC9, xg1, xg2, xCC9⟩, e6C9, kAC9, kBC9⟩, xxC9I9, xxC9N9, xxC9ES, xxC9W9, xxC9C9, PySem.W.mg_of X G aCEL, ⟨⟨⟨x7EL, x8EL, e2EL, x9EL⟩, xAEL, xBEL, xg1, xg2, xCEL⟩, e6EL, kAEL, kBEL⟩, xxELI9, xxELN9, xxELES, xxELW9, xxELC9, xxELEL, PySem.W.mg_of X G aCS9, ⟨⟨⟨x7S9, x8S9, e2S9, x9S9⟩, xAS9, xBS9, xg1, xg2, xCS9⟩, e6S9, kAS9, kBS9⟩, xxS9I9, xxS9N9, xxS9ES, xxS9W9, xxS9C9, xxS9EL, xxS9S9, ⟨fcm, _, Fcm, bcm, PySem.W.mg_of X G acm, kcm⟩⟩
  let TJ : TxtJ mg := ⟨PySem.W.mg_none_of X G z_len, PySem.W.mg_none_of X G z_int, PySem.W.mg_none_of X G z_abs, PySem.W.mg_none_of X G z_divmod⟩
  have Fsip := fun_mk (st := sSip) lsip csip ksip
  have bsip := Fsip.binds (ps := ["_law_jar_here", "_law_many"]) fun _ _ _ _ _ _ => Ln.len2 fun _ _  => rfl
  have Ffrm := fun_mk (st := sFrom) lfrm cfrm kfrm
  have bfrm := Ffrm.binds (ps := ["_law_jar_here", "_law_things"]) fun _ _ _ _ _ _ => Ln.len2 fun _ _  => rfl
  have Fjar := fun_mk (st := sJar) ljar cjar kjar
  have bjar := Fjar.binds (ps := ["_law_script", "_law_k"]) fun _ _ _ _ _ _ => Ln.len2 fun _ _  => rfl
  have Frt := fun_mk (st := sRight) lrt crt krt
  have brt := Frt.binds (ps := ["_law_jar_here"]) fun _ _ _ _ _ _ => Ln.len1 fun _  => rfl
  have Flaw := fun_mk (st := sLaw) llaw claw klaw
  let R : TxR67 w K mg := ⟨T67, TCm, (fun d => match d with | .none => nbLNoneType | .bool _ => nbLbool | .int _ => nbLint | .str _ => nbLstr | .list _ => nbLlist | .tuple _ => nbLtuple | .dict _ => nbLdict), (fun d => match d with | .none => nbUNoneType | .bool _ => nbUbool | .int _ => nbUint | .str _ => nbUstr | .list _ => nbUlist | .tuple _ => nbUtuple | .dict _ => nbUdict), (fun d => match d with | .none => nbANoneType | .bool _ => nbAbool | .int _ => nbAint | .str _ => nbAstr | .list _ => nbAlist | .tuple _ => nbAtuple | .dict _ => nbAdict), kUL, kAL, kLU, kAU, kLA, kUA, TJ, PySem.W.mg_none_of X G z_repr, PySem.W.mg_none_of X G z_range, ⟨fsip, _, Fsip, bsip, PySem.W.mg_of X G asip, ksip⟩, ⟨ffrm, _, Ffrm, bfrm, PySem.W.mg_of X G afrm, kfrm⟩⟩
  refine ⟨_, [(cR, PR)], spLaw K PR, fun p hp => ?_, fun p hp => ?_, fun p hp => ?_, fun s v => .of_eq rfl, fun H a ns hl hT hS => ?_, fun base _ _ sm hB => ok_law Flaw TJ (PySem.W.mg_none_of X G z_range) (PySem.W.mg_none_of X G z_all) 12 (ok_right Frt R rfl sm (hB (cR, PR) (List.mem_singleton.mpr rfl))) Fjar bjar (PySem.W.mg_of X G ajar) kjar (by decide) brt (PySem.W.mg_of X G art) krt (PySem.W.mg_none_of X G z_max) (PySem.W.mg_none_of X G z_min)⟩
  · cases List.mem_singleton.mp hp
    exact q5
  · cases List.mem_singleton.mp hp
    exact q4
  · cases List.mem_singleton.mp hp
    exact PySem.W.codeHd_of_K X q3
  · refine ⟨a, ns, rfl, hS, hl, fun p hp => ?_, fun _ => rfl⟩
    cases List.mem_singleton.mp hp
    exact LamX.TabS.nil (hT (cR, PR) (List.mem_singleton.mpr rfl))
end My
open PySem PySem.W PyProof.Rows in
set_option maxRecDepth 100000 in
set_option maxHeartbeats 0 in
theorem PySem.Challenge.cw_lastshort_k67_consoles_and_reports_refus_holds : PySem.Challenge.rw_lastshort_k67_consoles_and_reports_refus.Holds := by
  refine Hd67 ?_
  k_fill
  refine Gd.walk_ofG (l := PySem.Challenge.rw_lastshort_k67_consoles_and_reports_refus) (n := 63) (k := 13) (x := "_law_script") rfl (by decide) rfl (by decide +kernel) ⟨rfl, by decide, by decide⟩ (fun w h Y => PySem.W.km_in_of Y) ?F
  case F =>
    intro w mg fa h Y KX G hmg
    refine' My.all_mk KX G hmg ?gT ?tT ?gR ?tR ?gE ?tE ?mB ?mMR ?mME ?awo ?lwo ?cwo ?kwo ?aoo ?loo ?coo ?koo ?aiw ?liw ?ciw ?kiw ?aaw ?law ?caw ?kaw ?air ?lir ?cir ?kir ?aie ?lie ?cie ?kie ?aCIT ?aIT ?iIT ?lIT ?cIT ?kIT ?xIT ?xrIT ?e1IT ?e2IT ?e3IT ?e4IT ?e5IT ?e6IT ?aCL ?pgL ?hdL ?poL ?saL ?mkL ?kcL ?nL0 ?nL1 ?nL2 ?nL3 ?nL4 ?ali ?ili ?lli ?cli ?kli ?mMP ?mMI ?aiib ?liib ?ciib ?kiib ?acks ?lcks ?ccks ?kcks ?aCES ?aES ?iES ?lES ?cES ?kES ?xES ?xrES ?e1ES ?e2ES ?e3ES ?e4ES ?e5ES ?e6ES ?aCX ?pgX ?hdX ?poX ?saX ?mkX ?kcX ?nX0 ?nX1 ?nX2 ?nX3 ?nX4 ?nX5 ?nX6 ?nX7 ?nX8 ?axi ?ixi ?lxi ?cxi ?kxi ?axa ?ixa ?lxa ?cxa ?kxa ?axq ?ixq ?lxq ?cxq ?kxq ?axp ?ixp ?lxp ?cxp ?kxp ?axr ?ixr ?lxr ?cxr ?kxr ?axc ?ixc ?lxc ?cxc ?kxc ?alx ?ilx ?llx ?clx ?klx ?aCM ?pgM ?hdM ?poM ?saM ?mkM ?kcM ?nM0 ?nM1 ?nM2 ?nM3 ?nM4 ?ami ?imi ?lmi ?cmi ?kmi ?aCQ ?pgQ ?hdQ ?poQ ?saQ ?mkQ ?kcQ ?nQ0 ?nQ1 ?nQ2 ?nQ3 ?aqi ?iqi ?lqi ?cqi ?kqi ?ackl ?lckl ?cckl ?kckl ?w1 ?w2 ?w3 ?w4 ?w5 ?aqgp ?gqgp ?tqgp ?rqgp ?lqgp ?cqgp ?kqgp ?aqhp ?gqhp ?tqhp ?rqhp ?lqhp ?cqhp ?kqhp ?aqkp ?gqkp ?tqkp ?rqkp ?lqkp ?cqkp ?kqkp ?aqop ?gqop ?tqop ?rqop ?lqop ?cqop ?kqop ?aql ?iql ?lql ?cql ?kql ?aqr ?iqr ?lqr ?cqr ?kqr ?aqf ?iqf ?lqf ?cqf ?kqf ?aqu ?iqu ?lqu ?cqu ?kqu ?aqc ?iqc ?lqc ?cqc ?kqc ?aqk ?iqk ?lqk ?cqk ?kqk ?aqt ?iqt ?lqt ?cqt ?kqt ?aCStp ?qStp ?kStp ?sStp ?tStp ?aCNtu ?qNtu ?kNtu ?sNtu ?tNtu ?aCEL ?aEL ?iEL ?lEL ?cEL ?kEL ?xEL ?xrEL ?e1EL ?e2EL ?e3EL ?e4EL ?e5EL ?e6EL ?aCEC ?aEC ?iEC ?lEC ?cEC ?kEC ?xEC ?xrEC ?e1EC ?e2EC ?e3EC ?e4EC ?e5EC ?e6EC ?aCET ?aET ?iET ?lET ?cET ?kET ?xET ?xrET ?e1ET ?e2ET ?e3ET ?e4ET ?e5ET ?e6ET ?aCEM ?aEM ?iEM ?lEM ?cEM ?kEM ?xEM ?xrEM ?e1EM ?e2EM ?e3EM ?e4EM ?e5EM ?e6EM ?mFE ?mTO ?aic ?lic ?cic ?kic ?aro ?lro ?cro ?kro ?ait ?lit ?cit ?kit ?apt ?lpt ?cpt ?kpt ?aCK ?pgK ?hdK ?poK ?saK ?mkK ?kcK ?nK0 ?aki ?iki ?lki ?cki ?kki ?mRF ?aCIR ?aIR ?iIR ?lIR ?cIR ?kIR ?xIR ?xrIR ?e1IR ?e2IR ?e3IR ?e4IR ?e5IR ?e6IR ?aau ?iau ?lau ?cau ?kau ?aaf ?iaf ?laf ?caf ?kaf ?asay ?isay ?lsay ?csay ?ksay ?aCInp ?aCSte ?aCSze ?xnn ?xcc ?xss ?xmm ?gUA ?tUA ?gUP ?tUP ?gUE ?tUE ?ackw ?lckw ?cckw ?kckw ?aCU ?pgU ?hdU ?poU ?saU ?mkU ?kcU ?nU0 ?nU1 ?nU2 ?aui ?iui ?lui ?cui ?kui ?aur ?iur ?lur ?cur ?kur ?y1U ?y2U ?y3U ?y4U ?y5U ?mMW ?mMC ?gdC ?nkcut ?nkfill ?nktail ?dwC ?aco ?lco ?cco ?kco ?aCA ?pgA ?hdA ?poA ?saA ?mkA ?kcA ?nA0 ?nA1 ?aai ?iai ?lai ?cai ?kai ?aae ?iae ?lae ?cae ?kae ?aas ?ias ?las ?cas ?kas ?aar ?iar ?lar ?car ?kar ?nneA ?y1A ?y2A ?y3A ?y4A ?y5A ?asl ?lsl ?csl ?ksl ?ass ?lss ?css ?kss ?alr ?ilr ?llr ?clr ?klr ?aCS9 ?aS9 ?iS9 ?lS9 ?cS9 ?kS9 ?xS9 ?xrS9 ?e1S9 ?e2S9 ?e3S9 ?e4S9 ?e5S9 ?e6S9 ?aCN9 ?aN9 ?iN9 ?lN9 ?cN9 ?kN9 ?xN9 ?xrN9 ?e1N9 ?e2N9 ?e3N9 ?e4N9 ?e5N9 ?e6N9 ?aCW9 ?aW9 ?iW9 ?lW9 ?cW9 ?kW9 ?xW9 ?xrW9 ?e1W9 ?e2W9 ?e3W9 ?e4W9 ?e5W9 ?e6W9 ?aCC9 ?aC9 ?iC9 ?lC9 ?cC9 ?kC9 ?xC9 ?xrC9 ?e1C9 ?e2C9 ?e3C9 ?e4C9 ?e5C9 ?e6C9 ?aCI9 ?aI9 ?iI9 ?lI9 ?cI9 ?kI9 ?xI9 ?xrI9 ?e1I9 ?e2I9 ?e3I9 ?e4I9 ?e5I9 ?e6I9 ?acku ?lcku ?ccku ?kcku ?ackn ?lckn ?cckn ?kckn ?acke ?lcke ?ccke ?kcke ?ackc ?lckc ?cckc ?kckc ?acki ?lcki ?ccki ?kcki ?aalw ?lalw ?calw ?kalw ?aflt ?lflt ?cflt ?kflt ?acer ?lcer ?ccer ?kcer ?aftb ?lftb ?cftb ?kftb ?afut ?lfut ?cfut ?kfut ?afiU ?lfiU ?cfiU ?kfiU ?aceU ?lceU ?cceU ?kceU ?afiD ?lfiD ?cfiD ?kfiD ?aceC ?lceC ?cceC ?kceC ?aptb ?lptb ?cptb ?kptb ?gNM ?tNM ?aCBInputError ?kAI9 ?kBI9 ?x7I9 ?x8I9 ?x9I9 ?xAI9 ?xBI9 ?xg1 ?xg2 ?xCI9 ?xxI9I9 ?kAN9 ?kBN9 ?x7N9 ?x8N9 ?x9N9 ?xAN9 ?xBN9 ?xCN9 ?xxN9I9 ?xxN9N9 ?kAES ?kBES ?x7ES ?x8ES ?x9ES ?xAES ?xBES ?xCES ?xxESI9 ?xxESN9 ?xxESES ?kAW9 ?kBW9 ?x7W9 ?x8W9 ?x9W9 ?xAW9 ?xBW9 ?xCW9 ?xxW9I9 ?xxW9N9 ?xxW9ES ?xxW9W9 ?kAC9 ?kBC9 ?x7C9 ?x8C9 ?x9C9 ?xAC9 ?xBC9 ?xCC9 ?xxC9I9 ?xxC9N9 ?xxC9ES ?xxC9W9 ?xxC9C9 ?kAEL ?kBEL ?x7EL ?x8EL ?x9EL ?xAEL ?xBEL ?xCEL ?xxELI9 ?xxELN9 ?xxELES ?xxELW9 ?xxELC9 ?xxELEL ?kAS9 ?kBS9 ?x7S9 ?x8S9 ?x9S9 ?xAS9 ?xBS9 ?xCS9 ?xxS9I9 ?xxS9N9 ?xxS9ES ?xxS9W9 ?xxS9C9 ?xxS9EL ?xxS9S9 ?acm ?lcm ?ccm ?kcm ?nbLNoneType ?nbLbool ?nbLint ?nbLstr ?nbLlist ?nbLtuple ?nbLdict ?nbUNoneType ?nbUbool ?nbUint ?nbUstr ?nbUlist ?nbUtuple ?nbUdict ?nbANoneType ?nbAbool ?nbAint ?nbAstr ?nbAlist ?nbAtuple ?nbAdict ?kUL ?kAL ?kLU ?kAU ?kLA ?kUA ?asip ?lsip ?csip ?ksip ?afrm ?lfrm ?cfrm ?kfrm ?ajar ?ljar ?cjar ?kjar ?art ?lrt ?crt ?krt ?alaw ?llaw ?claw ?klaw ?q1 ?q2 ?q3 ?q4 ?q5 ?z_tuple ?z_len ?z_all ?z_isinstance ?z_str ?z_int ?z_bool ?z_range ?z_sum ?z_ValueError ?z_abs ?z_divmod ?z_repr ?z_max ?z_min
    (case gT => k_is)
    (case tT => k_is)
    (case gR => k_is)
    (case tR => k_is)
    (case gE => k_is)
    (case tE => k_is)
    (case mB => k_is)
    (case mMR => k_is)
    (case mME => k_is)
    (case awo => k_is)
    (case lwo => k_is)
    (case cwo => k_is)
    (case kwo => k_is)
    (case aoo => k_is)
    (case loo => k_is)
    (case coo => k_is)
    (case koo => k_is)
    (case aiw => k_is)
    (case liw => k_is)
    (case ciw => k_is)
    (case kiw => k_is)
    (case aaw => k_is)
    (case law => k_is)
    (case caw => k_is)
    (case kaw => k_is)
    (case air => k_is)
    (case lir => k_is)
    (case cir => k_is)
    (case kir => k_is)
    (case aie => k_is)
    (case lie => k_is)
    (case cie => k_is)
    (case kie => k_is)
    (case aCIT => k_is)
    (case aIT => k_is)
    (case iIT => k_is)
    (case lIT => k_is)
    (case cIT => k_is)
    (case kIT => k_is)
    (case xIT => k_is)
    (case xrIT => decide +kernel)
    (case e1IT => k_is)
    (case e2IT => k_is)
    (case e3IT => k_is)
    (case e4IT => k_is)
    (case e5IT => k_is)
    (case e6IT => k_is)
    (case aCL => k_is)
    (case pgL => k_is)
    (case hdL => k_is)
    (case poL => k_is)
    (case saL => k_is)
    (case mkL => k_is)
    (case kcL => k_is)
    (case nL0 => k_is)
    (case nL1 => k_is)
    (case nL2 => k_is)
    (case nL3 => k_is)
    (case nL4 => k_is)
    (case ali => k_is)
    (case ili => k_is)
    (case lli => k_is)
    (case cli => k_is)
    (case kli => k_is)
    (case mMP => k_is)
    (case mMI => k_is)
    (case aiib => k_is)
    (case liib => k_is)
    (case ciib => k_is)
    (case kiib => k_is)
    (case acks => k_is)
    (case lcks => k_is)
    (case ccks => k_is)
    (case kcks => k_is)
    (case aCES => k_is)
    (case aES => k_is)
    (case iES => k_is)
    (case lES => k_is)
    (case cES => k_is)
    (case kES => k_is)
    (case xES => k_is)
    (case xrES => decide +kernel)
    (case e1ES => k_is)
    (case e2ES => k_is)
    (case e3ES => k_is)
    (case e4ES => k_is)
    (case e5ES => k_is)
    (case e6ES => k_is)
    (case aCX => k_is)
    (case pgX => k_is)
    (case hdX => k_is)
    (case poX => k_is)
    (case saX => k_is)
    (case mkX => k_is)
    (case kcX => k_is)
    (case nX0 => k_is)
    (case nX1 => k_is)
    (case nX2 => k_is)
    (case nX3 => k_is)
    (case nX4 => k_is)
    (case nX5 => k_is)
    (case nX6 => k_is)
    (case nX7 => k_is)
    (case nX8 => k_is)
    (case axi => k_is)
    (case ixi => k_is)
    (case lxi => k_is)
    (case cxi => k_is)
    (case kxi => k_is)
    (case axa => k_is)
    (case ixa => k_is)
    (case lxa => k_is)
    (case cxa => k_is)
    (case kxa => k_is)
    (case axq => k_is)
    (case ixq => k_is)
    (case lxq => k_is)
    (case cxq => k_is)
    (case kxq => k_is)
    (case axp => k_is)
    (case ixp => k_is)
    (case lxp => k_is)
    (case cxp => k_is)
    (case kxp => k_is)
    (case axr => k_is)
    (case ixr => k_is)
    (case lxr => k_is)
    (case cxr => k_is)
    (case kxr => k_is)
    (case axc => k_is)
    (case ixc => k_is)
    (case lxc => k_is)
    (case cxc => k_is)
    (case kxc => k_is)
    (case alx => k_is)
    (case ilx => k_is)
    (case llx => k_is)
    (case clx => k_is)
    (case klx => k_is)
    (case aCM => k_is)
    (case pgM => k_is)
    (case hdM => k_is)
    (case poM => k_is)
    (case saM => k_is)
    (case mkM => k_is)
    (case kcM => k_is)
    (case nM0 => k_is)
    (case nM1 => k_is)
    (case nM2 => k_is)
    (case nM3 => k_is)
    (case nM4 => k_is)
    (case ami => k_is)
    (case imi => k_is)
    (case lmi => k_is)
    (case cmi => k_is)
    (case kmi => k_is)
    (case aCQ => k_is)
    (case pgQ => k_is)
    (case hdQ => k_is)
    (case poQ => k_is)
    (case saQ => k_is)
    (case mkQ => k_is)
    (case kcQ => k_is)
    (case nQ0 => k_is)
    (case nQ1 => k_is)
    (case nQ2 => k_is)
    (case nQ3 => k_is)
    (case aqi => k_is)
    (case iqi => k_is)
    (case lqi => k_is)
    (case cqi => k_is)
    (case kqi => k_is)
    (case ackl => k_is)
    (case lckl => k_is)
    (case cckl => k_is)
    (case kckl => k_is)
    (case w1 => k_is)
    (case w2 => k_is)
    (case w3 => k_is)
    (case w4 => k_is)
    (case w5 => kernel_rfl)
    (case aqgp => k_is)
    (case gqgp => k_is)
    (case tqgp => k_is)
    (case rqgp => k_is)
    (case lqgp => k_is)
    (case cqgp => k_is)
    (case kqgp => k_is)
    (case aqhp => k_is)
    (case gqhp => k_is)
    (case tqhp => k_is)
    (case rqhp => k_is)
    (case lqhp => k_is)
    (case cqhp => k_is)
    (case kqhp => k_is)
    (case aqkp => k_is)
    (case gqkp => k_is)
    (case tqkp => k_is)
    (case rqkp => k_is)
    (case lqkp => k_is)
    (case cqkp => k_is)
    (case kqkp => k_is)
    (case aqop => k_is)
    (case gqop => k_is)
    (case tqop => k_is)
    (case rqop => k_is)
    (case lqop => k_is)
    (case cqop => k_is)
    (case kqop => k_is)
    (case aql => k_is)
    (case iql => k_is)
    (case lql => k_is)
    (case cql => k_is)
    (case kql => k_is)
    (case aqr => k_is)
    (case iqr => k_is)
    (case lqr => k_is)
    (case cqr => k_is)
    (case kqr => k_is)
    (case aqf => k_is)
    (case iqf => k_is)
    (case lqf => k_is)
    (case cqf => k_is)
    (case kqf => k_is)
    (case aqu => k_is)
    (case iqu => k_is)
    (case lqu => k_is)
    (case cqu => k_is)
    (case kqu => k_is)
    (case aqc => k_is)
    (case iqc => k_is)
    (case lqc => k_is)
    (case cqc => k_is)
    (case kqc => k_is)
    (case aqk => k_is)
    (case iqk => k_is)
    (case lqk => k_is)
    (case cqk => k_is)
    (case kqk => k_is)
    (case aqt => k_is)
    (case iqt => k_is)
    (case lqt => k_is)
    (case cqt => k_is)
    (case kqt => k_is)
    (case aCStp => k_is)
    (case qStp => kernel_rfl)
    (case kStp => k_is)
    (case sStp => k_is)
    (case tStp => k_is)
    (case aCNtu => k_is)
    (case qNtu => kernel_rfl)
    (case kNtu => k_is)
    (case sNtu => k_is)
    (case tNtu => k_is)
    (case aCEL => k_is)
    (case aEL => k_is)
    (case iEL => k_is)
    (case lEL => k_is)
    (case cEL => k_is)
    (case kEL => k_is)
    (case xEL => k_is)
    (case xrEL => decide +kernel)
    (case e1EL => k_is)
    (case e2EL => k_is)
    (case e3EL => k_is)
    (case e4EL => k_is)
    (case e5EL => k_is)
    (case e6EL => k_is)
    (case aCEC => k_is)
    (case aEC => k_is)
    (case iEC => k_is)
    (case lEC => k_is)
    (case cEC => k_is)
    (case kEC => k_is)
    (case xEC => k_is)
    (case xrEC => decide +kernel)
    (case e1EC => k_is)
    (case e2EC => k_is)
    (case e3EC => k_is)
    (case e4EC => k_is)
    (case e5EC => k_is)
    (case e6EC => k_is)
    (case aCET => k_is)
    (case aET => k_is)
    (case iET => k_is)
    (case lET => k_is)
    (case cET => k_is)
    (case kET => k_is)
    (case xET => k_is)
    (case xrET => decide +kernel)
    (case e1ET => k_is)
    (case e2ET => k_is)
    (case e3ET => k_is)
    (case e4ET => k_is)
    (case e5ET => k_is)
    (case e6ET => k_is)
    (case aCEM => k_is)
    (case aEM => k_is)
    (case iEM => k_is)
    (case lEM => k_is)
    (case cEM => k_is)
    (case kEM => k_is)
    (case xEM => k_is)
    (case xrEM => exact .own .here)
    (case e1EM => k_is)
    (case e2EM => k_is)
    (case e3EM => k_is)
    (case e4EM => k_is)
    (case e5EM => k_is)
    (case e6EM => k_is)
    (case mFE => k_is)
    (case mTO => k_is)
    (case aic => k_is)
    (case lic => k_is)
    (case cic => k_is)
    (case kic => k_is)
    (case aro => k_is)
    (case lro => k_is)
    (case cro => k_is)
    (case kro => k_is)
    (case ait => k_is)
    (case lit => k_is)
    (case cit => k_is)
    (case kit => k_is)
    (case apt => k_is)
    (case lpt => k_is)
    (case cpt => k_is)
    (case kpt => k_is)
    (case aCK => k_is)
    (case pgK => k_is)
    (case hdK => k_is)
    (case poK => k_is)
    (case saK => k_is)
    (case mkK => k_is)
    (case kcK => k_is)
    (case nK0 => k_is)
    (case aki => k_is)
    (case iki => k_is)
    (case lki => k_is)
    (case cki => k_is)
    (case kki => k_is)
    (case mRF => k_is)
    (case aCIR => k_is)
    (case aIR => k_is)
    (case iIR => k_is)
    (case lIR => k_is)
    (case cIR => k_is)
    (case kIR => k_is)
    (case xIR => k_is)
    (case xrIR => decide +kernel)
    (case e1IR => k_is)
    (case e2IR => k_is)
    (case e3IR => k_is)
    (case e4IR => k_is)
    (case e5IR => k_is)
    (case e6IR => k_is)
    (case aau => k_is)
    (case iau => k_is)
    (case lau => k_is)
    (case cau => k_is)
    (case kau => k_is)
    (case aaf => k_is)
    (case iaf => k_is)
    (case laf => k_is)
    (case caf => k_is)
    (case kaf => k_is)
    (case asay => k_is)
    (case isay => k_is)
    (case lsay => k_is)
    (case csay => k_is)
    (case ksay => k_is)
    (case aCInp => k_is)
    (case aCSte => k_is)
    (case aCSze => k_is)
    (case xnn => kernel_rfl)
    (case xcc => kernel_rfl)
    (case xss => kernel_rfl)
    (case xmm => kernel_rfl)
    (case gUA => k_is)
    (case tUA => k_is)
    (case gUP => k_is)
    (case tUP => k_is)
    (case gUE => k_is)
    (case tUE => k_is)
    (case ackw => k_is)
    (case lckw => k_is)
    (case cckw => k_is)
    (case kckw => k_is)
    (case aCU => k_is)
    (case pgU => k_is)
    (case hdU => k_is)
    (case poU => k_is)
    (case saU => k_is)
    (case mkU => k_is)
    (case kcU => k_is)
    (case nU0 => k_is)
    (case nU1 => k_is)
    (case nU2 => k_is)
    (case aui => k_is)
    (case iui => k_is)
    (case lui => k_is)
    (case cui => k_is)
    (case kui => k_is)
    (case aur => k_is)
    (case iur => k_is)
    (case lur => k_is)
    (case cur => k_is)
    (case kur => k_is)
    (case y1U => k_is)
    (case y2U => k_is)
    (case y3U => k_is)
    (case y4U => k_is)
    (case y5U => kernel_rfl)
    (case mMW => k_is)
    (case mMC => k_is)
    (case gdC => k_is)
    (case nkcut => k_is)
    (case nkfill => k_is)
    (case nktail => k_is)
    (case dwC => kernel_rfl)
    (case aco => k_is)
    (case lco => k_is)
    (case cco => k_is)
    (case kco => k_is)
    (case aCA => k_is)
    (case pgA => k_is)
    (case hdA => k_is)
    (case poA => k_is)
    (case saA => k_is)
    (case mkA => k_is)
    (case kcA => k_is)
    (case nA0 => k_is)
    (case nA1 => k_is)
    (case aai => k_is)
    (case iai => k_is)
    (case lai => k_is)
    (case cai => k_is)
    (case kai => k_is)
    (case aae => k_is)
    (case iae => k_is)
    (case lae => k_is)
    (case cae => k_is)
    (case kae => k_is)
    (case aas => k_is)
    (case ias => k_is)
    (case las => k_is)
    (case cas => k_is)
    (case kas => k_is)
    (case aar => k_is)
    (case iar => k_is)
    (case lar => k_is)
    (case car => k_is)
    (case kar => k_is)
    (case nneA => k_is)
    (case y1A => k_is)
    (case y2A => k_is)
    (case y3A => k_is)
    (case y4A => k_is)
    (case y5A => kernel_rfl)
    (case asl => k_is)
    (case lsl => k_is)
    (case csl => k_is)
    (case ksl => k_is)
    (case ass => k_is)
    (case lss => k_is)
    (case css => k_is)
    (case kss => k_is)
    (case alr => k_is)
    (case ilr => k_is)
    (case llr => k_is)
    (case clr => k_is)
    (case klr => k_is)
    (case aCS9 => k_is)
    (case aS9 => k_is)
    (case iS9 => k_is)
    (case lS9 => k_is)
    (case cS9 => k_is)
    (case kS9 => k_is)
    (case xS9 => k_is)
    (case xrS9 => decide +kernel)
    (case e1S9 => k_is)
    (case e2S9 => k_is)
    (case e3S9 => k_is)
    (case e4S9 => k_is)
    (case e5S9 => k_is)
    (case e6S9 => k_is)
    (case aCN9 => k_is)
    (case aN9 => k_is)
    (case iN9 => k_is)
    (case lN9 => k_is)
    (case cN9 => k_is)
    (case kN9 => k_is)
    (case xN9 => k_is)
    (case xrN9 => decide +kernel)
    (case e1N9 => k_is)
    (case e2N9 => k_is)
    (case e3N9 => k_is)
    (case e4N9 => k_is)
    (case e5N9 => k_is)
    (case e6N9 => k_is)
    (case aCW9 => k_is)
    (case aW9 => k_is)
    (case iW9 => k_is)
    (case lW9 => k_is)
    (case cW9 => k_is)
    (case kW9 => k_is)
    (case xW9 => k_is)
    (case xrW9 => decide +kernel)
    (case e1W9 => k_is)
    (case e2W9 => k_is)
    (case e3W9 => k_is)
    (case e4W9 => k_is)
    (case e5W9 => k_is)
    (case e6W9 => k_is)
    (case aCC9 => k_is)
    (case aC9 => k_is)
    (case iC9 => k_is)
    (case lC9 => k_is)
    (case cC9 => k_is)
    (case kC9 => k_is)
    (case xC9 => k_is)
    (case xrC9 => decide +kernel)
    (case e1C9 => k_is)
    (case e2C9 => k_is)
    (case e3C9 => k_is)
    (case e4C9 => k_is)
    (case e5C9 => k_is)
    (case e6C9 => k_is)
    (case aCI9 => k_is)
    (case aI9 => k_is)
    (case iI9 => k_is)
    (case lI9 => k_is)
    (case cI9 => k_is)
    (case kI9 => k_is)
    (case xI9 => k_is)
    (case xrI9 => decide +kernel)
    (case e1I9 => k_is)
    (case e2I9 => k_is)
    (case e3I9 => k_is)
    (case e4I9 => k_is)
    (case e5I9 => k_is)
    (case e6I9 => k_is)
    (case acku => k_is)
    (case lcku => k_is)
    (case ccku => k_is)
    (case kcku => k_is)
    (case ackn => k_is)
    (case lckn => k_is)
    (case cckn => k_is)
    (case kckn => k_is)
    (case acke => k_is)
    (case lcke => k_is)
    (case ccke => k_is)
    (case kcke => k_is)
    (case ackc => k_is)
    (case lckc => k_is)
    (case cckc => k_is)
    (case kckc => k_is)
    (case acki => k_is)
    (case lcki => k_is)
    (case ccki => k_is)
    (case kcki => k_is)
    (case aalw => k_is)
    (case lalw => k_is)
    (case calw => k_is)
    (case kalw => k_is)
    (case aflt => k_is)
    (case lflt => k_is)
    (case cflt => k_is)
    (case kflt => k_is)
    (case acer => k_is)
    (case lcer => k_is)
    (case ccer => k_is)
    (case kcer => k_is)
    (case aftb => k_is)
    (case lftb => k_is)
    (case cftb => k_is)
    (case kftb => k_is)
    (case afut => k_is)
    (case lfut => k_is)
    (case cfut => k_is)
    (case kfut => k_is)
    (case afiU => k_is)
    (case lfiU => k_is)
    (case cfiU => k_is)
    (case kfiU => k_is)
    (case aceU => k_is)
    (case lceU => k_is)
    (case cceU => k_is)
    (case kceU => k_is)
    (case afiD => k_is)
    (case lfiD => k_is)
    (case cfiD => k_is)
    (case kfiD => k_is)
    (case aceC => k_is)
    (case lceC => k_is)
    (case cceC => k_is)
    (case kceC => k_is)
    (case aptb => k_is)
    (case lptb => k_is)
    (case cptb => k_is)
    (case kptb => k_is)
    (case gNM => k_is)
    (case tNM => k_is)
    (case aCBInputError => k_is)
    (case kAI9 => kernel_rfl)
    (case kBI9 => kernel_rfl)
    (case x7I9 => k_is)
    (case x8I9 => k_is)
    (case x9I9 => k_is)
    (case xAI9 => kernel_rfl)
    (case xBI9 => k_is)
    (case xg1 => k_is)
    (case xg2 => k_is)
    (case xCI9 => k_is)
    (case xxI9I9 => kernel_rfl)
    (case kAN9 => kernel_rfl)
    (case kBN9 => kernel_rfl)
    (case x7N9 => k_is)
    (case x8N9 => k_is)
    (case x9N9 => k_is)
    (case xAN9 => kernel_rfl)
    (case xBN9 => k_is)
    (case xCN9 => k_is)
    (case xxN9I9 => kernel_rfl)
    (case xxN9N9 => kernel_rfl)
    (case kAES => kernel_rfl)
    (case kBES => kernel_rfl)
    (case x7ES => k_is)
    (case x8ES => k_is)
    (case x9ES => k_is)
    (case xAES => kernel_rfl)
    (case xBES => k_is)
    (case xCES => k_is)
    (case xxESI9 => kernel_rfl)
    (case xxESN9 => kernel_rfl)
    (case xxESES => kernel_rfl)
    (case kAW9 => kernel_rfl)
    (case kBW9 => kernel_rfl)
    (case x7W9 => k_is)
    (case x8W9 => k_is)
    (case x9W9 => k_is)
    (case xAW9 => kernel_rfl)
    (case xBW9 => k_is)
    (case xCW9 => k_is)
    (case xxW9I9 => kernel_rfl)
    (case xxW9N9 => kernel_rfl)
    (case xxW9ES => kernel_rfl)
    (case xxW9W9 => kernel_rfl)
    (case kAC9 => kernel_rfl)
    (case kBC9 => kernel_rfl)
    (case x7C9 => k_is)
    (case x8C9 => k_is)
    (case x9C9 => k_is)
    (case xAC9 => kernel_rfl)
    (case xBC9 => k_is)
    (case xCC9 => k_is)
    (case xxC9I9 => kernel_rfl)
    (case xxC9N9 => kernel_rfl)
    (case xxC9ES => kernel_rfl)
    (case xxC9W9 => kernel_rfl)
    (case xxC9C9 => kernel_rfl)
    (case kAEL => kernel_rfl)
    (case kBEL => kernel_rfl)
    (case x7EL => k_is)
    (case x8EL => k_is)
    (case x9EL => k_is)
    (case xAEL => kernel_rfl)
    (case xBEL => k_is)
    (case xCEL => k_is)
    (case xxELI9 => kernel_rfl)
    (case xxELN9 => kernel_rfl)
    (case xxELES => kernel_rfl)
    (case xxELW9 => kernel_rfl)
    (case xxELC9 => kernel_rfl)
    (case xxELEL => kernel_rfl)
    (case kAS9 => kernel_rfl)
    (case kBS9 => kernel_rfl)
    (case x7S9 => k_is)
    (case x8S9 => k_is)
    (case x9S9 => k_is)
    (case xAS9 => kernel_rfl)
    (case xBS9 => k_is)
    (case xCS9 => k_is)
    (case xxS9I9 => kernel_rfl)
    (case xxS9N9 => kernel_rfl)
    (case xxS9ES => kernel_rfl)
    (case xxS9W9 => kernel_rfl)
    (case xxS9C9 => kernel_rfl)
    (case xxS9EL => kernel_rfl)
    (case xxS9S9 => kernel_rfl)
    (case acm => k_is)
    (case lcm => k_is)
    (case ccm => k_is)
    (case kcm => k_is)
    (case nbLNoneType => kernel_rfl)
    (case nbLbool => kernel_rfl)
    (case nbLint => kernel_rfl)
    (case nbLstr => kernel_rfl)
    (case nbLlist => kernel_rfl)
    (case nbLtuple => kernel_rfl)
    (case nbLdict => kernel_rfl)
    (case nbUNoneType => kernel_rfl)
    (case nbUbool => kernel_rfl)
    (case nbUint => kernel_rfl)
    (case nbUstr => kernel_rfl)
    (case nbUlist => kernel_rfl)
    (case nbUtuple => kernel_rfl)
    (case nbUdict => kernel_rfl)
    (case nbANoneType => kernel_rfl)
    (case nbAbool => kernel_rfl)
    (case nbAint => kernel_rfl)
    (case nbAstr => kernel_rfl)
    (case nbAlist => kernel_rfl)
    (case nbAtuple => kernel_rfl)
    (case nbAdict => kernel_rfl)
    (case kUL => kernel_rfl)
    (case kAL => kernel_rfl)
    (case kLU => kernel_rfl)
    (case kAU => kernel_rfl)
    (case kLA => kernel_rfl)
    (case kUA => kernel_rfl)
    (case asip => k_is)
    (case lsip => k_is)
    (case csip => k_is)
    (case ksip => k_is)
    (case afrm => k_is)
    (case lfrm => k_is)
    (case cfrm => k_is)
    (case kfrm => k_is)
    (case ajar => k_is)
    (case ljar => k_is)
    (case cjar => k_is)
    (case kjar => k_is)
    (case art => k_is)
    (case lrt => k_is)
    (case crt => k_is)
    (case krt => k_is)
    (case alaw => k_is)
    (case llaw => k_is)
    (case claw => k_is)
    (case klaw => k_is)
    (case q1 => k_is)
    (case q2 => rfl)
    (case q3 => kernel_rfl)
    (case q4 => kernel_rfl)
    (case q5 => exact PySem.W.km_tabs_of Y _ (by decide))
    (case z_tuple => k_is)
    (case z_len => k_is)
    (case z_all => k_is)
    (case z_isinstance => k_is)
    (case z_str => k_is)
    (case z_int => k_is)
    (case z_bool => k_is)
    (case z_range => k_is)
    (case z_sum => k_is)
    (case z_ValueError => k_is)
    (case z_abs => k_is)
    (case z_divmod => k_is)
    (case z_repr => k_is)
    (case z_max => k_is)
    (case z_min => k_is)
