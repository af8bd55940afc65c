import PyProof.Rows.All
import KE.KStateDown
import HandS.Head0
import HandS.Head1
import HandS.Head2
import HandS.HeadEnd
import HandS.HeadHook1
import HandS.HeadHook2
import HandS.ExcField
import HandS.TupMul
import HandS.HeadHook3
import Wide.All
import OpenK.AllK
import Wide.FinOn
import HandS.Base
import HandS.Call
import HandS.List
import HandS.Comp
import HandS.Iter
import HandS.Words
import HandS.WordsList
import HandS.Conv
import HandS.TupAny
import HandS.TupLe
import HandS.IsInst
import HandS.Flow
import HandS.Deep
import HandS.ExcInit
import KE.KeyNested
import HandS.Wide
import HandS.SortInts
import HandS.Exc
import HandS.ExcOwn
import HandS.WordsExc
import HandS.Strs
import HandS.Text
import HandS.Defaults
import HandS.More
import KE.GoesMore
import KE.GoesEnum
import HandS.Zip
import HandS.SortOrd
import PyProof.TupleOfSeq
import HandS.ExcValue
import HandS.ExcIs
import KE.KExcIs
import HandS.TupSets
import HandS.SetBool
import KE.SortData
import HandS.SetFor
import HandS.Ends
import HandS.WideBits
import KE.DataMinMax
import HandS.SortKw
import HandS.DictComp
import HandS.TryMany
import HandS.Style
import HandS.IterVal
import KE.KItemsList
import HandS.ListItems
import KE.KIndexOf
import HandS.OwnEq
import OpenK.KOps
import KE.KDictWalk
import KE.KDictSum
import HandS.HotCalls
import PyProof.LongRange
import HandS.SuiteRaise
import HandS.ExcValueHot
import HandS.ForDict
import HandS.TryOnly
import PyProof.ReprLen
import PyProof.StrLawsRepr
import PyProof.FitsInt
import PySem.Challenge.RW_earliestlots_k32_steps_judged
set_option Elab.async false
set_option linter.all false
set_option maxRecDepth 100000
set_option maxHeartbeats 4000000
set_option autoImplicit false
namespace Bt
end Bt
namespace Dl
end Dl
namespace Fk
end Fk
namespace Fl
end Fl
namespace Fm
end Fm
namespace Fn
end Fn
namespace Fp
end Fp
namespace Fq
end Fq
namespace Fr
end Fr
namespace Gd
end Gd
namespace Ht
end Ht
namespace In
end In
namespace Iv
end Iv
namespace K00
end K00
namespace K09
end K09
namespace K12
end K12
namespace K12.K00
end K12.K00
namespace K12.K15
end K12.K15
namespace K12.K32
end K12.K32
namespace K12.K62
end K12.K62
namespace K13
end K13
namespace K15
end K15
namespace K32
end K32
namespace K62
end K62
namespace K65
end K65
namespace Lc
end Lc
namespace Lr
end Lr
namespace Nd
end Nd
namespace Ns
end Ns
namespace Nw
end Nw
namespace PySem
end PySem
namespace Rd
end Rd
namespace Rk
end Rk
namespace Si
end Si
namespace Sl
end Sl
namespace SrtT
end SrtT
namespace Tf
end Tf
namespace Tm
end Tm
namespace Wh
end Wh
namespace Zo
end Zo
namespace Zs
end Zs
namespace Zt
end Zt
namespace Zz
end Zz
namespace Dl
open PySem PySem.Spec PyProof.Rows L2 He
section
end
abbrev AlZ : Type := AlD × Bool
def defD (st : Stmt) (cl : Option Str) (x : Str) (dfl : List Dv) : DefD := ⟨(match cl with | some c => (c, some x) | none => (x, none)), x, (match cl with | some c => c ++ "." ++ x | none => x), defArgs st, defBody st, defScope st, dfl, []⟩
end Dl

namespace Zs
open PySem PySem.Spec PyProof.Rows L2 Dl He
section
def tupGB (K : PySem.W.Frag) (x : Str) (zs : List Str) : Bool := match K.lookup (ga K x) with
  | some o => decide (o.cls = .type "tuple") && (match o.data with
    | .seq its _ => decide (its.size ≤ 1000) && (its.toList.map absV == zs.map fun z => some (V.str z))
    | _ => false)
  | none => false
end
end Zs

namespace In
open PySem PySem.Spec PyProof.Rows L2 Dl He
def insB (K : PySem.W.Frag) (x : Str) : Bool :=
  PySem.W.makesIn K (ga K x) && (decide (PySem.W.findIn K (.ref (ga K x)) "__init__" = some (some (.ref (ma K (ga K x) "__init__")))) && (PySem.W.isFn K (.ref (ma K (ga K x) "__init__")) && (PySem.W.keepIn K (.ref (ga K x)) &&
  (PySem.W.plainGet K (ga K x) Str.empty && (PySem.W.hasDictIn K (ga K x) && (PySem.W.plainOver K (ga K x) && (decide (PySem.W.findIn K (.ref (ga K x)) "__setattr__" = some (some (.builtin "object.__setattr__"))) &&
  (decide (PySem.W.findIn K (.ref (ga K x)) "__class__" = some (some (.builtin "object.__class__"))) && (decide (PySem.W.specialIn K (.builtin "object.__class__") "__get__" = some (some (.builtin "getset_descriptor.__get__"))) &&
  (decide (PySem.W.takesIn K (.builtin "object.__class__") = some true) && decide (PySem.W.mroIn K (ga K x) (.type "object") = some true)))))))))))
def noB (K : PySem.W.Frag) (x f : Str) : Bool := decide (PySem.W.findIn K (.ref (ga K x)) f = some none)
end In

namespace Fr
open PySem PySem.Spec PyProof.Rows L2 Dl In He Zs Ns
section
end
section
end
section
end
end Fr
namespace In
open PySem
def clsBody : Stmt → List Stmt
  | .ClassDef (body := bd) .. => bd
  | _ => []
end In

namespace K32
open PySem PySem.Spec PyProof.Rows L2 Dl
def top (i : Nat) : Stmt := PySem.Challenge.pw_earliestlots_k32_steps_judged.main.body.getD i (.Pass ⟨0, 0, 0, 0⟩)
abbrev s_Rule_init : Stmt := (In.clsBody (top 12)).getD 0 (.Pass ⟨0, 0, 0, 0⟩)
abbrev s_Rules_init : Stmt := (In.clsBody (top 16)).getD 0 (.Pass ⟨0, 0, 0, 0⟩)
abbrev s_Rules_len : Stmt := (In.clsBody (top 16)).getD 1 (.Pass ⟨0, 0, 0, 0⟩)
abbrev s__back_fault : Stmt := top 24
abbrev s__end_of_row : Stmt := top 26
abbrev s__is_couple : Stmt := top 13
abbrev s__is_end : Stmt := top 14
abbrev s__is_row : Stmt := top 23
abbrev s__law_hand : Stmt := top 28
abbrev s__law_mixed : Stmt := top 29
abbrev s__law_odd_row : Stmt := top 38
abbrev s__law_own_steps : Stmt := top 37
abbrev s__law_row_form : Stmt := top 35
abbrev s__law_rule : Stmt := top 32
abbrev s__law_rule_of : Stmt := top 33
abbrev s__law_rules_of : Stmt := top 34
abbrev s__law_steps_word : Stmt := top 36
abbrev s__law_take : Stmt := top 30
abbrev s__law_whole : Stmt := top 31
abbrev s__premise_ends : Stmt := top 20
abbrev s__row_numbers : Stmt := top 25
abbrev s_check_rule_dates : Stmt := top 21
abbrev s_has_dates_below : Stmt := top 17
abbrev s_is_whole : Stmt := top 6
abbrev s_law : Stmt := top 39
abbrev s_rule_dates : Stmt := top 15
abbrev s_steps_fault : Stmt := top 22
end K32

namespace K32
open PySem PySem.Spec PyProof.Rows L2 Dl
def x32B (K : PySem.W.Frag) : Bool := decide (PySem.W.kitOne K (.ref (He.ga K "Rule")) (.ref (He.ga K "Rule")) = some true)
end K32
namespace Fr
open PySem PySem.Spec PyProof.Rows L2 Dl
def lenB (K : PySem.W.Frag) (x : Str) : Bool := decide (PySem.W.findIn K (.ref (He.ga K x)) "__len__" = some (some (.ref (He.ma K (He.ga K x) "__len__")))) && PySem.W.isFn K (.ref (He.ma K (He.ga K x) "__len__"))
end Fr

namespace Dl
open PySem PySem.Spec PyProof.Rows L2 He
abbrev AlY : Type := AlZ × List (Option (List (Option (Str × Int))))
abbrev TabY : Type := Str × List Str
def SaysY (ts : List TabY) (w : World) (K : PySem.W.Frag) : Prop := ts.map (fun (t : TabY) => dicW K (ga K t.1)) = ts.map fun (t : TabY) => some (keysIn w.params t.2)
end Dl

namespace Dl
open PySem PySem.Spec PyProof.Rows L2 He
def obsX (l : List Addr) (fa : List Fa) (fn : List DefD) (ex : PySem.W.Frag → Bool) (ts : List TabY) (g : Addr → Option Obj) : AlY := ((obsD fa fn (frG g l), ex (frG g l)), ts.map fun (t : TabY) => dicW (frG g l) (ga (frG g l) t.1))
def hookX (l : List Addr) (fa : List Fa) (fn : List DefD) (ex : PySem.W.Frag → Bool) (ts : List TabY) : PySem.W.Hook where
  α := AlY
  obs := fun s => obsX l fa fn ex ts s.heap.get?
  val := fun w => ((valD fn, true), ts.map fun (t : TabY) => some (keysIn w.params t.2))
  says := fun w h => ∃ K : PySem.W.Frag, K.In h ∧ SaysD fa fn K ∧ ex K = true ∧ SaysY ts w K
  of := fun w s e => ⟨frG s.heap.get? l, frG_in, congrArg (fun z : AlY => z.1.1) e, congrArg (fun z : AlY => z.1.2) e, show SaysY ts w _ from congrArg (fun z : AlY => z.2) e⟩
  keeps := fun _ _ _ ⟨K, hK, c⟩ k => ⟨K, PySem.W.Frag.In.keeps hK k, c⟩
end Dl

namespace K32
open PySem PySem.Spec PyProof.Rows L2 Dl
def fns : List He.DefD := [defD s_is_whole none "is_whole" [.non, .non], defD s__is_couple none "_is_couple" [], defD s__is_end none "_is_end" [], defD s_rule_dates none "rule_dates" [], defD s_has_dates_below none "has_dates_below" [], defD s__premise_ends none "_premise_ends" [], defD s_check_rule_dates none "check_rule_dates" [], defD s_steps_fault none "steps_fault" [], defD s__is_row none "_is_row" [], defD s__back_fault none "_back_fault" [], defD s__row_numbers none "_row_numbers" [], defD s__end_of_row none "_end_of_row" [], defD s__law_hand none "_law_hand" [], defD s__law_mixed none "_law_mixed" [], defD s__law_take none "_law_take" [], defD s__law_whole none "_law_whole" [], defD s__law_rule none "_law_rule" [], defD s__law_rule_of none "_law_rule_of" [], defD s__law_rules_of none "_law_rules_of" [], defD s__law_row_form none "_law_row_form" [], defD s__law_steps_word none "_law_steps_word" [], defD s__law_own_steps none "_law_own_steps" [], defD s__law_odd_row none "_law_odd_row" [], defD s_law none "law" [], defD s_Rule_init (some "Rule") "__init__" [], defD s_Rules_init (some "Rules") "__init__" [], defD s_Rules_len (some "Rules") "__len__" []]
def fa : List He.Fa := [.glo "is_whole", .glo "_is_couple", .glo "_is_end", .glo "rule_dates", .glo "has_dates_below", .glo "_premise_ends", .glo "check_rule_dates", .glo "steps_fault", .glo "_is_row", .glo "_back_fault", .glo "_row_numbers", .glo "_end_of_row", .glo "_law_hand", .glo "_law_mixed", .glo "_law_take", .glo "_law_whole", .glo "_law_rule", .glo "_law_rule_of", .glo "_law_rules_of", .glo "_law_row_form", .glo "_law_steps_word", .glo "_law_own_steps", .glo "_law_odd_row", .glo "law", .glo "DateError", .glo "BadRule", .glo "BadRules", .glo "Rule", .glo "Rules", .free "abs", .free "all", .free "bool", .free "enumerate", .free "int", .free "isinstance", .free "len", .free "list", .free "range", .free "repr", .free "sorted", .free "tuple", .glo "NEVER", .int "MOST_PLACES" 7, .int "MOST_PREMISES" 4, .int "MOST_RULES" 80, .int "MOST_STEPS" 1000, .str "NOT_AFTER" "not after"]
def exF (K : PySem.W.Frag) : Bool := Zs.tupGB K "NEVER" ["never"] && (In.insB K "Rule" && (In.noB K "Rule" "premises" && (In.noB K "Rule" "end" && (In.insB K "Rules" && (In.noB K "Rules" "size" && (In.noB K "Rules" "rules" && (Fr.lenB K "Rules" && (x32B K))))))))
abbrev R : PySem.W.OpenRow := PySem.W.OpenLaw.row PySem.Challenge.rw_earliestlots_k32_steps_judged
abbrev qv : Program := PySem.W.view R.prog [39]
def ts : List TabY := []
def adrs : List Addr := [3, 6, 4, 24, 44, 63, 73, 74, 96, 105, 112, 117, 155, 164, 169, 176, 183, 188, 193, 200, 207, 214, 221, 228, 235, 242, 247, 252, 257, 262, 267, 272, 277, 0, 23, 43, 62, 72, 66, 95, 104, 111, 116, 154, 163, 168, 175, 182, 187, 192, 199, 206, 213, 220, 227, 234, 241, 246, 251, 256, 261, 266, 271, 276, 22, 25, 41, 42, 60, 61, 67, 68, 69, 70, 71, 86, 93, 94, 97, 98, 101, 102, 103, 106, 107, 108, 109, 110, 113, 114, 115, 131, 138, 145, 152, 153, 156, 157, 160, 161, 162, 165, 166, 167, 170, 171, 172, 173, 174, 177, 178, 179, 180, 181, 184, 185, 186, 189, 190, 191, 194, 195, 196, 197, 198, 201, 202, 203, 204, 205, 208, 209, 210, 211, 212, 215, 216, 217, 218, 219, 222, 223, 224, 225, 226, 229, 230, 231, 232, 233, 236, 237, 238, 239, 240, 243, 244, 245, 248, 249, 250, 253, 254, 255, 258, 259, 260, 263, 264, 265, 268, 269, 270, 273, 274, 275, 40, 59, 85, 92, 130, 137, 144, 151]
abbrev hk : PySem.W.Hook := hookX adrs fa fns exF ts
def ob (s : PySem.W.SharedT) : AlY := obsX adrs fa fns exF ts (HandSHeadRun.getT s)
def names : List Str := [Str.ofString "DateError", Str.ofString "BadRule", Str.ofString "BadRules", Str.ofString "Rule", Str.ofString "Rules", Str.ofString "MOST_PLACES", Str.ofString "MOST_PREMISES", Str.ofString "MOST_RULES", Str.ofString "MOST_STEPS", Str.ofString "NEVER", Str.ofString "NOT_AFTER", Str.ofString "is_whole", Str.ofString "_is_couple", Str.ofString "_is_end", Str.ofString "rule_dates", Str.ofString "has_dates_below", Str.ofString "_premise_ends", Str.ofString "check_rule_dates", Str.ofString "steps_fault", Str.ofString "_is_row", Str.ofString "_back_fault", Str.ofString "_row_numbers", Str.ofString "_end_of_row", Str.ofString "_law_hand", Str.ofString "_law_mixed", Str.ofString "_law_take", Str.ofString "_law_whole", Str.ofString "_law_rule", Str.ofString "_law_rule_of", Str.ofString "_law_rules_of", Str.ofString "_law_row_form", Str.ofString "_law_steps_word", Str.ofString "_law_own_steps", Str.ofString "_law_odd_row"]
def hook0 : PySem.W.Hook where
  α := Unit
  obs := fun _ => ()
  val := fun _ => ()
  says := fun _ _ => True
  of := fun _ _ _ => trivial
  keeps := fun _ _ _ _ _ => trivial
theorem joinR {α β γ δ : Type} {x : Option α} {A : α → β} {B : α → γ} {f : α → δ} {a : β} {b : γ} {c : δ} (h1 : x.map (fun s => (A s, B s, ())) = some (a, b, ())) (h2 : x.map f = some c) : x.map (fun s => (A s, B s, f s)) = some (a, b, c) := by
  cases x with
  | none => cases h2
  | some s =>
    have e1 := Option.some.inj h1
    have e2 := Option.some.inj h2
    obtain ⟨q1, q2⟩ := Prod.mk.inj e1
    obtain ⟨q2, _⟩ := Prod.mk.inj q2
    show some (A s, B s, f s) = some (a, b, c)
    rw [q1, q2, e2]
noncomputable abbrev endOf (w : World) (os : OsState) := HandSHeadRun.endF (HandSHeadRun.stepQ (HandSHeadRun.denQ HandSHeadRun.tabQ) R.prog w) 9000 R.prog w os
theorem run1 (w : World) : HandSHeadRun.RunEq R qv hook0 (fun _ => ()) 9000 names (w) := by
  intro os
  kernel_rfl
theorem run2 (w : World) (os : OsState) : (endOf (w) os).map ob = some (hk.val (w)) := by
  kernel_rfl
theorem run (w : World) : HandSHeadRun.RunEq R qv hk ob 9000 names (w) := fun os => joinR (run1 w os) (run2 w os)

end K32

namespace Dl
open PySem PySem.Spec PyProof.Rows L2

inductive OKd where
  | cau (a dd : Addr) | exv (C : Addr) | exn (C : Addr) | ins (C : Addr) | scr | dct (ks : List Key) | dcn (ks : List NestedKey) | tpl
inductive D where
  | obj (k : OKd) (ns : List Str) (ds : List D) | non | bl (b : Bool) | int (i : Int) | str (x : Str) | tup (xs : List D) | lst (xs : List D) | ref (a : Addr) | ty (n : String)

def NRaw (h : Heap) (a : Addr) (L : List (NestedKey × Addr × V)) : Prop :=
  (a == sysModules) = false ∧ L.length ≤ sizeLine ∧ (L.map (·.1)).Nodup ∧ ∃ o es ep, h.get? a = some o ∧ o.ExactDict ∧ o.data = .dict es ep ∧
    Paired (fun (p : NestedKey × Addr × V) (e : DictEntry) => (∀ w, e.hash = p.1.hash w) ∧ e.key = .ref p.2.1 ∧ RelV p.2.2 e.val) L es.toList
def NDO (a : Addr) (L : List (NestedKey × Addr × V)) : HO := .ext fun h => NRaw h a L
def KT (K : PySem.W.Frag) (a : Addr) (xs : List V) : Prop := ∃ (o : Obj) (its : Array Value) (n : Nat), K.lookup a = some o ∧ o.cls = .type "tuple" ∧ o.data = .seq its n ∧ its.size ≤ sizeLine ∧ Vals xs its.toList
def TupA (K : PySem.W.Frag) (Av : Addr → Prop) (H : Hp) (a : Addr) (xs : List V) : Prop := (¬ Av a ∧ Rd H a (.tup xs)) ∨ KT K a xs
theorem TupA.sq {K : PySem.W.Frag} {Av : Addr → Prop} {H : Hp} {a : Addr} {xs : List V} (h : TupA K Av H a xs) : SqT K H a xs := h.imp (fun x => x.2) id
def ObjA (K : PySem.W.Frag) (Av : Addr → Prop) (H : Hp) (k : OKd) (v : V) (ns : List Str) (ws : List V) : Prop := match k with
  | .cau a dd => v = .ref a ∧ ¬ Av dd ∧ H dd = some (.xd (ns.zip ws))
  | .exv C => ∃ a dd, v = .ref a ∧ (¬ Av a ∧ H a = some (exo a C (some dd))) ∧ ¬ Av dd ∧ H dd = some (exd dd (ns.zip ws))
  | .exn C => ∃ a, v = .ref a ∧ (¬ Av a ∧ H a = some (exo a C none))
  | .ins C => ∃ a dx, v = .ref a ∧ (¬ Av a ∧ H a = some (.ins C dx (ns.zip ws))) ∧ ¬ Av dx ∧ H dx = some (.own a)
  | .dct ks => ∃ a, v = .ref a ∧ ¬ Av a ∧ H a = some (.dK (ks.zip ws))
  | .dcn ks => ∃ (a : Addr) (T : List (Addr × V)), v = .ref a ∧ ws = T.map (fun t => V.ref t.1) ++ T.map (fun t => t.2) ∧ T.length = ks.length ∧ ¬ Av a ∧ H a = some (NDO a (ks.zip T))
  | .tpl => ∃ a o, v = .ref a ∧ ¬ Av a ∧ o.dict = none ∧ H a = some (.frz o (.tup ws))
  | .scr => ∃ a, v = .ref a ∧ ((¬ Av a ∧ ∃ o, H a = some (.frz o (.lst ws))) ∨ ∀ G, SqL K G a ws)
mutual
def Den (K : PySem.W.Frag) (Av : Addr → Prop) (H : Hp) : V → D → Prop
  | v, .obj k ns ds => ∃ ws, ws.length = ns.length ∧ ObjA K Av H k v ns ws ∧ DenA K Av H ws ds
  | v, .non => v = .non
  | v, .bl b => v = .bl b
  | v, .int i => v = .int i
  | v, .str x => v = .str x
  | v, .ref a => v = .ref a
  | v, .ty n => v = .ty n
  | v, .tup ds => ∃ a vs, v = .ref a ∧ SqT K H a vs ∧ TupA K Av H a vs ∧ DenA K Av H vs ds
  | v, .lst ds => ∃ a vs, v = .ref a ∧ H a = some (.lst vs) ∧ ¬ Av a ∧ DenA K Av H vs ds
def DenA (K : PySem.W.Frag) (Av : Addr → Prop) (H : Hp) : List V → List D → Prop
  | vs, [] => vs = []
  | vs, d :: ds => ∃ v r, vs = v :: r ∧ Den K Av H v d ∧ DenA K Av H r ds
end

def Kp (Av : Addr → Prop) (H H' : Hp) : Prop := ∀ a o, ¬ Av a → H a = some o → H' a = some o
theorem Kp.refl {Av : Addr → Prop} {H : Hp} : Kp Av H H := fun _ _ _ h => h
theorem Kp.trans {Av : Addr → Prop} {H H1 H2 : Hp} (a : Kp Av H H1) (b : Kp Av H1 H2) : Kp Av H H2 := fun x o n h => b x o n (a x o n h)
theorem Kp.weak {Av Bv : Addr → Prop} {H H1 : Hp} (a : Kp Av H H1) (s : ∀ x, Av x → Bv x) : Kp Bv H H1 := fun x o n h => a x o (fun z => n (s x z)) h
theorem Kp.new {Av : Addr → Prop} {H : Hp} {p : Addr} {o : HO} (h : H p = none) : Kp Av H (upd H p o) := fun a u _ e => by
  rw [upd_ne (ne_of_none e h)]; exact e
theorem Kp.mut {Av : Addr → Prop} {H : Hp} {p : Addr} {o : HO} (h : Av p) : Kp Av H (upd H p o) := fun a u n e => by
  rw [upd_ne (fun z => n (by rw [z]; exact h))]; exact e

section
variable {K : PySem.W.Frag} {Av Bv : Addr → Prop} {H H' : Hp}
theorem TupA.keep {a : Addr} {xs : List V} (k : Kp Av H H') (h : TupA K Av H a xs) : TupA K Av H' a xs := h.imp (fun x => ⟨x.1, x.2.imp (k _ _ x.1) fun ⟨o, e⟩ => ⟨o, k _ _ x.1 e⟩⟩) id
theorem TupA.weak {a : Addr} {xs : List V} (s : ∀ a, Bv a → Av a) (h : TupA K Av H a xs) : TupA K Bv H a xs := h.imp (fun x => ⟨fun z => x.1 (s _ z), x.2⟩) id
theorem ObjA.keep {q : OKd} {v : V} {ns : List Str} {ws : List V} (k : Kp Av H H') (h : ObjA K Av H q v ns ws) : ObjA K Av H' q v ns ws := by
  cases q with
  | cau a dd => exact ⟨h.1, h.2.1, k _ _ h.2.1 h.2.2⟩
  | exv C => obtain ⟨a, dd, e, h1, h2, h3⟩ := h; exact ⟨a, dd, e, ⟨h1.1, k _ _ h1.1 h1.2⟩, h2, k _ _ h2 h3⟩
  | exn C => obtain ⟨a, e, h1⟩ := h; exact ⟨a, e, ⟨h1.1, k _ _ h1.1 h1.2⟩⟩
  | ins C => obtain ⟨a, dd, e, h1, h2, h3⟩ := h; exact ⟨a, dd, e, ⟨h1.1, k _ _ h1.1 h1.2⟩, h2, k _ _ h2 h3⟩
  | scr => obtain ⟨a, e, h⟩ := h; exact ⟨a, e, h.imp (fun ⟨n, o, h⟩ => ⟨n, o, k _ _ n h⟩) id⟩
  | dct ks => obtain ⟨a, e, n, h⟩ := h; exact ⟨a, e, n, k _ _ n h⟩
  | tpl => obtain ⟨a, o, e, n, d, h⟩ := h; exact ⟨a, o, e, n, d, k _ _ n h⟩
  | dcn ks => obtain ⟨a, T, e, e2, l, n, h⟩ := h; exact ⟨a, T, e, e2, l, n, k _ _ n h⟩
theorem ObjA.weak {q : OKd} {v : V} {ns : List Str} {ws : List V} (s : ∀ a, Bv a → Av a) (h : ObjA K Av H q v ns ws) : ObjA K Bv H q v ns ws := by
  cases q with
  | cau a dd => exact ⟨h.1, fun z => h.2.1 (s _ z), h.2.2⟩
  | exv C => obtain ⟨a, dd, e, h1, h2, h3⟩ := h; exact ⟨a, dd, e, ⟨fun z => h1.1 (s _ z), h1.2⟩, fun z => h2 (s _ z), h3⟩
  | exn C => obtain ⟨a, e, h1⟩ := h; exact ⟨a, e, ⟨fun z => h1.1 (s _ z), h1.2⟩⟩
  | ins C => obtain ⟨a, dd, e, h1, h2, h3⟩ := h; exact ⟨a, dd, e, ⟨fun z => h1.1 (s _ z), h1.2⟩, fun z => h2 (s _ z), h3⟩
  | scr => obtain ⟨a, e, h⟩ := h; exact ⟨a, e, h.imp (fun ⟨n, o, h⟩ => ⟨fun z => n (s _ z), o, h⟩) id⟩
  | dct ks => obtain ⟨a, e, n, h⟩ := h; exact ⟨a, e, fun z => n (s _ z), h⟩
  | tpl => obtain ⟨a, o, e, n, d, h⟩ := h; exact ⟨a, o, e, fun z => n (s _ z), d, h⟩
  | dcn ks => obtain ⟨a, T, e, e2, l, n, h⟩ := h; exact ⟨a, T, e, e2, l, fun z => n (s _ z), h⟩
theorem ObjA.more {q : OKd} {v : V} {ns : List Str} {ws : List V} (s : ∀ a, Bv a → Av a ∨ H a = none ∨ ∃ xs, H a = some (.lst xs)) (h : ObjA K Av H q v ns ws) : ObjA K Bv H q v ns ws := by
  have n1 : ∀ {a : Addr} {o : HO}, ¬ Av a → H a = some o → (∀ xs, o ≠ .lst xs) → ¬ Bv a := fun {a o} n e d z => by
    rcases s _ z with z | z | ⟨xs, z⟩
    · exact n z
    · rw [e] at z; cases z
    · rw [e] at z; exact d xs (Option.some.inj z)
  cases q with
  | cau a dd => exact ⟨h.1, n1 h.2.1 h.2.2 (fun _ z => by cases z), h.2.2⟩
  | exv C => obtain ⟨a, dd, e, h1, h2, h3⟩ := h; exact ⟨a, dd, e, ⟨n1 h1.1 h1.2 (fun _ z => by unfold exo at z; cases z), h1.2⟩, n1 h2 h3 (fun _ z => by unfold exd at z; cases z), h3⟩
  | exn C => obtain ⟨a, e, h1⟩ := h; exact ⟨a, e, ⟨n1 h1.1 h1.2 (fun _ z => by unfold exo at z; cases z), h1.2⟩⟩
  | ins C => obtain ⟨a, dd, e, h1, h2, h3⟩ := h; exact ⟨a, dd, e, ⟨n1 h1.1 h1.2 (fun _ z => by cases z), h1.2⟩, n1 h2 h3 (fun _ z => by cases z), h3⟩
  | scr => obtain ⟨a, e, h⟩ := h; exact ⟨a, e, h.imp (fun ⟨n, o, h⟩ => ⟨n1 n h (fun _ z => by cases z), o, h⟩) id⟩
  | dct ks => obtain ⟨a, e, n, h⟩ := h; exact ⟨a, e, n1 n h (fun _ z => by cases z), h⟩
  | tpl => obtain ⟨a, o, e, n, d, h⟩ := h; exact ⟨a, o, e, n1 n h (fun _ z => by cases z), d, h⟩
  | dcn ks => obtain ⟨a, T, e, e2, l, n, h⟩ := h; exact ⟨a, T, e, e2, l, n1 n h (fun _ z => by unfold NDO at z; cases z), h⟩
mutual
theorem Den.keep (k : Kp Av H H') : ∀ (d : D) (v : V), Den K Av H v d → Den K Av H' v d
  | .obj q ns ds, v, h => by
    simp only [Den] at h ⊢
    obtain ⟨ws, l, o, r⟩ := h
    exact ⟨ws, l, ObjA.keep k o, DenA.keep k ds ws r⟩
  | .non, _, h => by simpa only [Den] using h
  | .bl _, _, h => by simpa only [Den] using h
  | .int _, _, h => by simpa only [Den] using h
  | .str _, _, h => by simpa only [Den] using h
  | .ref _, _, h => by simpa only [Den] using h
  | .ty _, _, h => by simpa only [Den] using h
  | .tup ds, v, h => by
    simp only [Den] at h ⊢
    obtain ⟨a, vs, e, s, n, r⟩ := h
    exact ⟨a, vs, e, (TupA.keep k n).sq, TupA.keep k n, DenA.keep k ds vs r⟩
  | .lst ds, v, h => by
    simp only [Den] at h ⊢
    obtain ⟨a, vs, e, s, n, r⟩ := h
    exact ⟨a, vs, e, k _ _ n s, n, DenA.keep k ds vs r⟩
theorem DenA.keep (k : Kp Av H H') : ∀ (ds : List D) (vs : List V), DenA K Av H vs ds → DenA K Av H' vs ds
  | [], _, h => by simpa only [DenA] using h
  | d :: ds, vs, h => by
    simp only [DenA] at h ⊢
    obtain ⟨v, r, e, h1, h2⟩ := h
    exact ⟨v, r, e, Den.keep k d v h1, DenA.keep k ds r h2⟩
end
mutual
theorem Den.weak (s : ∀ a, Bv a → Av a) : ∀ (d : D) (v : V), Den K Av H v d → Den K Bv H v d
  | .obj q ns ds, v, h => by
    simp only [Den] at h ⊢
    obtain ⟨ws, l, o, r⟩ := h
    exact ⟨ws, l, ObjA.weak s o, DenA.weak s ds ws r⟩
  | .non, _, h => by simpa only [Den] using h
  | .bl _, _, h => by simpa only [Den] using h
  | .int _, _, h => by simpa only [Den] using h
  | .str _, _, h => by simpa only [Den] using h
  | .ref _, _, h => by simpa only [Den] using h
  | .ty _, _, h => by simpa only [Den] using h
  | .tup ds, v, h => by
    simp only [Den] at h ⊢
    obtain ⟨a, vs, e, q, n, r⟩ := h
    exact ⟨a, vs, e, q, TupA.weak s n, DenA.weak s ds vs r⟩
  | .lst ds, v, h => by
    simp only [Den] at h ⊢
    obtain ⟨a, vs, e, q, n, r⟩ := h
    exact ⟨a, vs, e, q, fun z => n (s a z), DenA.weak s ds vs r⟩
theorem DenA.weak (s : ∀ a, Bv a → Av a) : ∀ (ds : List D) (vs : List V), DenA K Av H vs ds → DenA K Bv H vs ds
  | [], _, h => by simpa only [DenA] using h
  | d :: ds, vs, h => by
    simp only [DenA] at h ⊢
    obtain ⟨v, r, e, h1, h2⟩ := h
    exact ⟨v, r, e, Den.weak s d v h1, DenA.weak s ds r h2⟩
end
mutual
/-- what is new is not in it -/
theorem Den.fresh {p : Addr} (hp : H p = none) : ∀ (d : D) (v : V), Den K Av H v d → Den K (fun a => Av a ∨ a = p) H v d
  | .obj q ns ds, v, h => by
    simp only [Den] at h ⊢
    obtain ⟨ws, l, o, r⟩ := h
    exact ⟨ws, l, ObjA.more (fun a z => z.imp id fun e => .inl (by rw [e]; exact hp)) o, DenA.fresh hp ds ws r⟩
  | .non, _, h => by simpa only [Den] using h
  | .bl _, _, h => by simpa only [Den] using h
  | .int _, _, h => by simpa only [Den] using h
  | .str _, _, h => by simpa only [Den] using h
  | .ref _, _, h => by simpa only [Den] using h
  | .ty _, _, h => by simpa only [Den] using h
  | .tup ds, v, h => by
    simp only [Den] at h ⊢
    obtain ⟨a, vs, e, q, n, r⟩ := h
    refine ⟨a, vs, e, q, n.imp (fun x => ⟨fun z => z.elim x.1 fun e => ?_, x.2⟩) id, DenA.fresh hp ds vs r⟩
    subst e
    rcases x.2 with x | ⟨o, x⟩ <;> rw [hp] at x <;> cases x
  | .lst ds, v, h => by
    simp only [Den] at h ⊢
    obtain ⟨a, vs, e, q, n, r⟩ := h
    refine ⟨a, vs, e, q, fun z => z.elim n fun e => ?_, DenA.fresh hp ds vs r⟩
    subst e
    rw [hp] at q; cases q
theorem DenA.fresh {p : Addr} (hp : H p = none) : ∀ (ds : List D) (vs : List V), DenA K Av H vs ds → DenA K (fun a => Av a ∨ a = p) H vs ds
  | [], _, h => by simpa only [DenA] using h
  | d :: ds, vs, h => by
    simp only [DenA] at h ⊢
    obtain ⟨v, r, e, h1, h2⟩ := h
    exact ⟨v, r, e, Den.fresh hp d v h1, DenA.fresh hp ds r h2⟩
end
mutual
def D.noLst : D → Bool
  | .obj _ _ xs => noLstA xs | .lst _ => false | .tup xs => noLstA xs | .non => true | .bl _ => true | .int _ => true | .str _ => true | .ref _ => true | .ty _ => true
def noLstA : List D → Bool
  | [] => true
  | x :: xs => D.noLst x && noLstA xs
end
mutual
/-- data without lists stands apart from every list -/
theorem Den.apart {P : Addr → Prop} (hp : ∀ a, P a → ∃ xs, H a = some (.lst xs)) : ∀ (d : D) (v : V), d.noLst = true → Den K Av H v d → Den K (fun a => Av a ∨ P a) H v d
  | .obj q ns ds, v, g, h => by
    simp only [Den] at h ⊢
    obtain ⟨ws, l, o, r⟩ := h
    exact ⟨ws, l, ObjA.more (fun a z => z.imp id fun e => .inr (hp a e)) o, DenA.apart hp ds ws (by simpa only [D.noLst] using g) r⟩
  | .non, _, _, h => by simpa only [Den] using h
  | .bl _, _, _, h => by simpa only [Den] using h
  | .int _, _, _, h => by simpa only [Den] using h
  | .str _, _, _, h => by simpa only [Den] using h
  | .ref _, _, _, h => by simpa only [Den] using h
  | .ty _, _, _, h => by simpa only [Den] using h
  | .tup ds, v, g, h => by
    simp only [Den] at h ⊢
    obtain ⟨a, vs, e, q, n, r⟩ := h
    refine ⟨a, vs, e, q, n.imp (fun x => ⟨fun z => z.elim x.1 fun e => ?_, x.2⟩) id, DenA.apart hp ds vs (by simpa only [D.noLst] using g) r⟩
    obtain ⟨xs, e⟩ := hp a e
    rcases x.2 with x | ⟨o, x⟩ <;> rw [e] at x <;> cases x
  | .lst ds, v, g, h => by simp [D.noLst] at g
theorem DenA.apart {P : Addr → Prop} (hp : ∀ a, P a → ∃ xs, H a = some (.lst xs)) : ∀ (ds : List D) (vs : List V), noLstA ds = true → DenA K Av H vs ds → DenA K (fun a => Av a ∨ P a) H vs ds
  | [], _, _, h => by simpa only [DenA] using h
  | d :: ds, vs, g, h => by
    simp only [noLstA, Bool.and_eq_true] at g
    simp only [DenA] at h ⊢
    obtain ⟨v, r, e, h1, h2⟩ := h
    exact ⟨v, r, e, Den.apart hp d v g.1 h1, DenA.apart hp ds r g.2 h2⟩
end
theorem DenA.len : ∀ {ds : List D} {vs : List V}, DenA K Av H vs ds → vs.length = ds.length
  | [], _, h => by simp only [DenA] at h; rw [h]; rfl
  | d :: ds, vs, h => by
    simp only [DenA] at h
    obtain ⟨v, r, e, h1, h2⟩ := h
    rw [e]; exact congrArg Nat.succ (DenA.len h2)
theorem DenA.get : ∀ {ds : List D} {vs : List V} {i : Nat} {d : D}, DenA K Av H vs ds → ds[i]? = some d → ∃ v, vs[i]? = some v ∧ Den K Av H v d
  | [], _, _, _, h, e => by simp at e
  | d :: ds, vs, 0, d', h, e => by
    simp only [DenA] at h
    obtain ⟨v, r, rfl, h1, h2⟩ := h
    simp at e; subst e
    exact ⟨v, rfl, h1⟩
  | d :: ds, vs, i + 1, d', h, e => by
    simp only [DenA] at h
    obtain ⟨v, r, rfl, h1, h2⟩ := h
    simpa using DenA.get (i := i) h2 (by simpa using e)
theorem DenA.app : ∀ {ds es : List D} {vs ws : List V}, DenA K Av H vs ds → DenA K Av H ws es → DenA K Av H (vs ++ ws) (ds ++ es)
  | [], _, _, _, h, g => by simp only [DenA] at h; rw [h]; exact g
  | d :: ds, es, vs, ws, h, g => by
    simp only [DenA] at h
    obtain ⟨v, r, rfl, h1, h2⟩ := h
    show DenA K Av H (v :: (r ++ ws)) (d :: (ds ++ es))
    simp only [DenA]
    exact ⟨v, _, rfl, h1, DenA.app h2 g⟩
theorem DenA.one {v : V} {d : D} (h : Den K Av H v d) : DenA K Av H [v] [d] := by
  simp only [DenA]; exact ⟨v, [], rfl, h, rfl⟩
theorem DenA.drop : ∀ {ds : List D} {vs : List V} (n : Nat), DenA K Av H vs ds → DenA K Av H (vs.drop n) (ds.drop n)
  | _, _, 0, h => h
  | [], _, n + 1, h => by simp only [DenA] at h; rw [h]; simp [DenA]
  | d :: ds, vs, n + 1, h => by
    simp only [DenA] at h
    obtain ⟨v, r, rfl, h1, h2⟩ := h
    exact DenA.drop n h2
theorem DenA.take : ∀ {ds : List D} {vs : List V} (n : Nat), DenA K Av H vs ds → DenA K Av H (vs.take n) (ds.take n)
  | ds, vs, 0, h => by simp [DenA]
  | [], _, n + 1, h => by simp only [DenA] at h; rw [h]; simp [DenA]
  | d :: ds, vs, n + 1, h => by
    simp only [DenA] at h
    obtain ⟨v, r, rfl, h1, h2⟩ := h
    show DenA K Av H (v :: r.take n) (d :: ds.take n)
    simp only [DenA]
    exact ⟨v, _, rfl, h1, DenA.take n h2⟩
theorem DenA.set {v : V} {d : D} (hd : Den K Av H v d) : ∀ {ds : List D} {vs : List V} (n : Nat), DenA K Av H vs ds → DenA K Av H (vs.set n v) (ds.set n d)
  | [], _, n, h => by simp only [DenA] at h; rw [h]; simp [DenA]
  | e :: ds, vs, 0, h => by
    simp only [DenA] at h
    obtain ⟨v', r, rfl, h1, h2⟩ := h
    show DenA K Av H (v :: r) (d :: ds)
    simp only [DenA]
    exact ⟨v, _, rfl, hd, h2⟩
  | e :: ds, vs, n + 1, h => by
    simp only [DenA] at h
    obtain ⟨v', r, rfl, h1, h2⟩ := h
    show DenA K Av H (v' :: r.set n v) (e :: ds.set n d)
    simp only [DenA]
    exact ⟨v', _, rfl, h1, DenA.set hd n h2⟩
theorem DenA.ints : ∀ {ns : List Int}, DenA K Av H (ns.map V.int) (ns.map D.int)
  | [] => by simp [DenA]
  | n :: ns => by
    show DenA K Av H (V.int n :: ns.map V.int) (D.int n :: ns.map D.int)
    simp only [DenA]
    exact ⟨_, _, rfl, by simp only [Den], DenA.ints⟩
theorem DenA.ofInts : ∀ {ns : List Int} {vs : List V}, DenA K Av H vs (ns.map D.int) → vs = ns.map V.int
  | [], _, h => by simpa [DenA] using h
  | n :: ns, vs, h => by
    have h' : DenA K Av H vs (D.int n :: ns.map D.int) := h
    simp only [DenA, Den] at h'
    obtain ⟨v, r, rfl, rfl, h2⟩ := h'
    rw [DenA.ofInts h2]; rfl
end

structure HI where
  own : Addr → Prop
  foot : Addr → Prop
  ok : Hp → Prop
  sub : ∀ a, own a → foot a
  dom : ∀ H a, ok H → foot a → H a ≠ none
  loc : ∀ H H', (∀ a, foot a → H' a = H a) → ok H → ok H'
def HI.plain : HI := ⟨fun _ => False, fun _ => False, fun _ => True, fun _ h => h, fun _ _ _ h => h.elim, fun _ _ _ _ => trivial⟩

def Ext (I : HI) (H H' : Hp) : Prop := Kp I.own H H' ∧ I.ok H'
section
variable {I : HI} {H H1 H2 : Hp}
theorem Ext.refl (h : I.ok H) : Ext I H H := ⟨Kp.refl, h⟩
theorem Ext.trans (a : Ext I H H1) (b : Ext I H1 H2) : Ext I H H2 := ⟨a.1.trans b.1, b.2⟩
theorem Ext.new {p : Addr} {o : HO} (h : I.ok H) (n : H p = none) : Ext I H (upd H p o) :=
  ⟨Kp.new n, I.loc H _ (fun a f => upd_ne (fun z => I.dom H a h f (by rw [z]; exact n))) h⟩
theorem HI.nown {p : Addr} (h : I.ok H) (n : H p = none) : ¬ I.own p := fun z => I.dom H p h (I.sub p z) n
end

inductive Slot where
  | no | val (d : D) | own (xs : List D)
abbrev DEnv := List Slot
def AvOf (I : HI) (env : DEnv) (oa : Nat → Addr) : Addr → Prop := fun a => I.own a ∨ ∃ (i : Nat) (xs : List D), env[i]? = some (Slot.own xs) ∧ a = oa i
structure B0 where
  H0 : Hp
  hs : List (V × D)
structure DenE (K : PySem.W.Frag) (I : HI) (b : B0) (σ : L2.St) (H : Hp) (env : DEnv) : Prop where
  len : σ.length = env.length
  ext : Ext I b.H0 H
  slots : ∃ oa : Nat → Addr,
    (∀ (i : Nat) (xs : List D), env[i]? = some (Slot.own xs) → (∃ vs, σ[i]? = some (some (.ref (oa i))) ∧ H (oa i) = some (.lst vs) ∧ DenA K (AvOf I env oa) H vs xs) ∧ b.H0 (oa i) = none ∧ ¬ I.foot (oa i)) ∧
    (∀ (i j : Nat) (xs ys : List D), env[i]? = some (Slot.own xs) → env[j]? = some (Slot.own ys) → oa i = oa j → i = j) ∧
    (∀ (i : Nat) (d : D), env[i]? = some (Slot.val d) → ∃ v : V, σ[i]? = some (some v) ∧ Den K (AvOf I env oa) H v d) ∧
    ∀ p ∈ b.hs, Den K (AvOf I env oa) H p.1 p.2
section
variable {K : PySem.W.Frag} {I : HI} {b : B0} {H H' : Hp} {σ : L2.St} {env : DEnv}
theorem DenE.ok (h : DenE K I b σ H env) : I.ok H := h.ext.2
theorem DenE.mono (h : DenE K I b σ H env) (e : Ext I H H') : DenE K I b σ H' env := by
  obtain ⟨oa, h1, h2, h3, h4⟩ := h.slots
  refine ⟨h.len, h.ext.trans e, oa, fun i xs q => ?_, h2, fun i d q => ?_, fun p hp => Den.keep (e.1.weak (fun x z => .inl z)) _ _ (h4 p hp)⟩
  · obtain ⟨⟨vs, e1, e2, e3⟩, e4, e5⟩ := h1 i xs q
    refine ⟨⟨vs, e1, e.1 _ _ (fun z => e5 (I.sub _ z)) e2, DenA.keep (e.1.weak (fun x z => .inl z)) xs vs e3⟩, e4, e5⟩
  · obtain ⟨v, e1, e2⟩ := h3 i d q
    exact ⟨v, e1, Den.keep (e.1.weak (fun x z => .inl z)) d v e2⟩
def rdSlot : Slot → Option D
  | .no => none
  | .val d => some d
  | .own xs => some (.lst xs)
theorem DenE.read (h : DenE K I b σ H env) {i : Nat} {s : Slot} {d : D} (hs : env[i]? = some s) (hd : rdSlot s = some d) : ∃ v, σ[i]? = some (some v) ∧ Den K I.own H v d := by
  obtain ⟨oa, h1, h2, h3, _⟩ := h.slots
  cases s with
  | no => cases hd
  | val d' =>
    have e : d' = d := Option.some.inj hd
    subst e
    obtain ⟨v, e1, e2⟩ := h3 i d' hs
    exact ⟨v, e1, Den.weak (fun a z => .inl z) _ _ e2⟩
  | own xs =>
    have e : D.lst xs = d := Option.some.inj hd
    subst e
    obtain ⟨⟨vs, e1, e2, e3⟩, e4, e5⟩ := h1 i xs hs
    refine ⟨_, e1, ?_⟩
    simp only [Den]
    exact ⟨_, vs, rfl, e2, fun z => e5 (I.sub _ z), DenA.weak (fun a z => .inl z) _ _ e3⟩
end
end Dl

namespace Dl
open PySem PySem.Spec PyProof.Rows L2

abbrev TED := DEnv → (D → Prop) → Prop
abbrev TTD := DEnv → (Bool → Prop) → Prop
abbrev TAD := DEnv → (List D → Prop) → Prop

def wE (X : Cx) (e : Expr) : TE := fun σ H Q => ∀ pins s, Inv X pins σ H s → wpAny (model X.prog X.w) X.A (eval e X.env) (EP X pins σ Q) X.xe s
def wT (X : Cx) (e : Expr) : TT := fun σ H Q => ∀ pins s, Inv X pins σ H s → wpAny (model X.prog X.w) X.A (isTrue e X.env (eval e X.env)) (TP X pins σ Q) X.xe s
def wW (X : Cx) (e : Expr) : TT := fun σ H Q => ∀ whole pins s, Inv X pins σ H s → wpAny (model X.prog X.w) X.A (isTrue e X.env whole) (TP X pins σ Q) X.xe s
def wA (X : Cx) (es : List Expr) : TA := fun σ H Q => ∀ pos pins s, Inv X pins σ H s → wpAny (model X.prog X.w) X.A (spliced (backTo pos (starEach es X.env))) (AP X pins σ Q) X.xe s
def rw2 (X : Cx) (f : Value → Value → Sem Value) : R2 := fun x y H Q => ∀ pins s σ v u, Inv X pins σ H s → RelV x v → RelV y u → wpAny (model X.prog X.w) X.A (f v u) (EP X pins σ Q) X.xe s
section
variable {X : Cx} {e : Expr} {es : List Expr} {f : Value → Value → Sem Value}
theorem pe_w : PE X e (wE X e) := ⟨fun pins s σ H Q I h => h pins s I⟩
theorem pt_w : PT X e (wT X e) := ⟨fun pins s σ H Q I h => h pins s I⟩
theorem pw_w : PW X e (wW X e) := ⟨fun whole pins s σ H Q I h => h whole pins s I⟩
theorem pa_w : PA X es (wA X es) := ⟨fun pos pins s σ H Q I h => h pos pins s I⟩
theorem or_w : OpR X f (rw2 X f) := fun pins s σ H x y v u Q I rx ry h => h pins s σ v u I rx ry
theorem rw2_of {r : R2} (h : OpR X f r) {x y : V} {H : Hp} {Q : VK} (q : r x y H Q) : rw2 X f x y H Q := fun pins s σ v u I rx ry => h pins s σ H x y v u Q I rx ry q
end

structure Exc where
  cls : Addr
  fs : Option (List (Str × D))
def ExD (K : PySem.W.Frag) (I : HI) (H : Hp) (x : Exc) (d : Option Addr) : Prop := match x.fs with
  | none => d = none
  | some fs => ∃ dd ws, d = some dd ∧ H dd = some (.xd ((fs.map (·.1)).zip ws)) ∧ DenA K I.own H ws (fs.map (·.2))
structure Gx where
  I : HI
  Ed : DEnv → Exc → Prop
  W : WX
abbrev Gx.nox (g : Gx) : Gx := ⟨g.I, fun _ _ => False, fun _ _ _ _ => False⟩
def XL (K : PySem.W.Frag) (g : Gx) (b : B0) : Prop := ∀ (σ : L2.St) (H : Hp) (env : DEnv) (x : Exc) (d : Option Addr) (H' : Hp), DenE K g.I b σ H env → Ext g.I H H' → ExD K g.I H' x d → g.Ed env x → g.W (.ref x.cls) d σ H'
theorem XL.nox {K : PySem.W.Frag} {g : Gx} {b : B0} : XL K g.nox b := fun _ _ _ _ _ _ _ _ _ h => h.elim

def SE (K : PySem.W.Frag) (g : Gx) (te : TE) (td : TED) : Prop :=
  ∀ (b : B0) (σ : L2.St) (H : Hp) (env : DEnv) (Qd : D → Prop) (Q : VK), DenE K g.I b σ H env → XL K g b → td env Qd → (∀ v d H', Ext g.I H H' → Den K g.I.own H' v d → Qd d → Q v H') → te σ H Q
def ST (K : PySem.W.Frag) (g : Gx) (tt : TT) (td : TTD) : Prop :=
  ∀ (b : B0) (σ : L2.St) (H : Hp) (env : DEnv) (Qd : Bool → Prop) (Q : Bool → Hp → Prop), DenE K g.I b σ H env → XL K g b → td env Qd → (∀ b H', Ext g.I H H' → Qd b → Q b H') → tt σ H Q
def SA (K : PySem.W.Frag) (g : Gx) (ta : TA) (td : TAD) : Prop :=
  ∀ (b : B0) (σ : L2.St) (H : Hp) (env : DEnv) (Qd : List D → Prop) (Q : List V → Hp → Prop), DenE K g.I b σ H env → XL K g b → td env Qd → (∀ vs ds H', Ext g.I H H' → DenA K g.I.own H' vs ds → Qd ds → Q vs H') → ta σ H Q

def PED (X : Cx) (g : Gx) (e : Expr) (td : TED) : Prop := SE X.K g (wE X e) td
def PTD (X : Cx) (g : Gx) (e : Expr) (td : TTD) : Prop := ST X.K g (wT X e) td
def PWD (X : Cx) (g : Gx) (e : Expr) (td : TTD) : Prop := ST X.K g (wW X e) td
def PAD (X : Cx) (g : Gx) (es : List Expr) (td : TAD) : Prop := SA X.K g (wA X es) td
abbrev F2 := D → D → (D → Prop) → Prop
def RD (X : Cx) (I : HI) (f : Value → Value → Sem Value) (h : F2) : Prop :=
  ∀ (H : Hp) (x y : V) (dx dy : D) (Qd : D → Prop) (Q : VK), I.ok H → Den X.K I.own H x dx → Den X.K I.own H y dy → h dx dy Qd → (∀ v d H', Ext I H H' → Den X.K I.own H' v d → Qd d → Q v H') → rw2 X f x y H Q

section
variable {X : Cx} {I : HI} {g : Gx} {e a b c : Expr} {es : List Expr} {te : TE} {tt : TT} {td ta tb tc : TED} {t u : TTD} {pos : Pos} {f : Value → Value → Sem Value} {o : F2}
theorem ped_of (p : PE X e te) (h : SE X.K g te td) : PED X g e td := fun b0 σ H env Qd Q hd xl ht k pins s J => p.run pins s σ H Q J (h b0 σ H env Qd Q hd xl ht k)
theorem ptd_of {td : TTD} (p : PT X e tt) (h : ST X.K g tt td) : PTD X g e td := fun b0 σ H env Qd Q hd xl ht k pins s J => p.run pins s σ H Q J (h b0 σ H env Qd Q hd xl ht k)
theorem pwd_of {td : TTD} (p : PW X e tt) (h : ST X.K g tt td) : PWD X g e td := fun b0 σ H env Qd Q hd xl ht k whole pins s J => p.run whole pins s σ H Q J (h b0 σ H env Qd Q hd xl ht k)
theorem pad_of {ta : TA} {td : TAD} (p : PA X es ta) (h : SA X.K g ta td) : PAD X g es td := fun b0 σ H env Qd Q hd xl ht k pos pins s J => p.run pos pins s σ H Q J (h b0 σ H env Qd Q hd xl ht k)
theorem PWD.pt {td : TTD} (h : PWD X g e td) : PTD X g e td := fun b0 σ H env Qd Q hd xl ht k pins s J => h b0 σ H env Qd Q hd xl ht k _ pins s J

def dVar (i : Nat) : TED := fun env Q => ∃ s d, env[i]? = some s ∧ rdSlot s = some d ∧ Q d
def dC (d : D) : TED := fun _ Q => Q d
theorem sd_var {K : PySem.W.Frag} {i : Nat} : SE K g (tVar i) (dVar i) := fun b0 σ H env Qd Q hd xl ⟨s, d, h1, h2, q⟩ k => by
  obtain ⟨v, e1, e2⟩ := hd.read h1 h2
  exact ⟨v, e1, k v d H (.refl hd.ok) e2 q⟩
theorem dv (i : Nat) {x : Str} {pos : Pos} (hN : X.N[i]? = some x := by rfl) (hv : Vis X.env.scope x := by first | exact Or.inl rfl | exact Or.inr (Or.inl rfl) | exact Or.inr (Or.inr rfl)) (hd : (x == ("__debug__" : Str)) = false := by decide)
    (hcd : (x == ("__classdict__" : Str)) = false := by decide) : PED X g (.Name x pos) (dVar i) := ped_of (pe_var hN hv hd hcd) sd_var
theorem sd_c {K : PySem.W.Frag} {v : V} {d : D} (h : ∀ H, Den K g.I.own H v d) : SE K g (tC v) (dC d) := fun b0 σ H env Qd Q hd xl q k => k v d H (.refl hd.ok) (h H) q
theorem d_int {i j pos} : PED X g (.Constant (.int i) j pos) (dC (.int i)) := ped_of pe_int (sd_c fun _ => by simp only [Den])
theorem d_bl {b j pos} : PED X g (.Constant (.bool b) j pos) (dC (.bl b)) := ped_of pe_bl (sd_c fun _ => by simp only [Den])
theorem d_non {j pos} : PED X g (.Constant .none j pos) (dC .non) := ped_of pe_non (sd_c fun _ => by simp only [Den])
theorem d_str {x j pos} : PED X g (.Constant (.str x) j pos) (dC (.str x)) := ped_of pe_str (sd_c fun _ => by simp only [Den])

def dOp (o : F2) (ta tb : TED) : TED := fun env Q => ta env fun x => tb env fun y => o x y Q
theorem sd_op {K : PySem.W.Frag} {ra rb : TE} {r : R2} (ha : SE K g ra ta) (hb : SE K g rb tb)
    (hr : ∀ (H : Hp) (x y : V) (dx dy : D) (Qd : D → Prop) (Q : VK), g.I.ok H → Den K g.I.own H x dx → Den K g.I.own H y dy → o dx dy Qd → (∀ v d H', Ext g.I H H' → Den K g.I.own H' v d → Qd d → Q v H') → r x y H Q) :
    SE K g (tOp r ra rb) (dOp o ta tb) := fun b0 σ H env Qd Q hd xl h k =>
  ha b0 σ H env _ _ hd xl h fun x dx H1 e1 dnx h1 => hb b0 σ H1 env _ _ (hd.mono e1) xl h1 fun y dy H2 e2 dny h2 =>
    hr H2 x y dx dy Qd Q e2.2 (Den.keep e2.1 _ _ dnx) dny h2 fun v d H' e3 dn q => k v d H' (e1.trans (e2.trans e3)) dn q
theorem d_op {op : Operator} (hr : RD X g.I (binaryOp op) o) (ha : PED X g a ta) (hb : PED X g b tb) : PED X g (.BinOp a op b pos) (dOp o ta tb) :=
  ped_of (pe_op or_w pe_w pe_w) (sd_op ha hb hr)
theorem d_cmp {op : CmpOp} (hr : RD X g.I (compareOp op) o) (ha : PED X g a ta) (hb : PED X g b tb) (hm : behindInMarks op b = false) : PED X g (.Compare a [op] [b] pos) (dOp o ta tb) :=
  ped_of (pe_cmpR or_w pe_w pe_w hm) (sd_op ha hb hr)
def dTest (td : TED) : TTD := fun env Q => td env fun d => ∃ c, d = .bl c ∧ Q c
theorem st_test {K : PySem.W.Frag} {te : TE} (h : SE K g te td) : ST K g (tTest te) (dTest td) := fun b0 σ H env Qd Q hd xl ht k =>
  h b0 σ H env _ _ hd xl ht fun v d H' e dn ⟨c, ed, q⟩ => by
    subst ed
    simp only [Den] at dn
    exact ⟨c, dn, k c H' e q⟩
theorem dt_cmp {op : CmpOp} (hr : RD X g.I (compareOp op) o) (ha : PED X g a ta) (hb : PED X g b tb) (hm : behindInMarks op b = false) : PTD X g (.Compare a [op] [b] pos) (dTest (dOp o ta tb)) :=
  ptd_of (pt_cmpR or_w pe_w pe_w hm) (st_test (sd_op ha hb hr))
theorem rd_of {r : R2} (ho : OpR X f r) (h : ∀ (H : Hp) (x y : V) (dx dy : D) (Qd : D → Prop) (Q : VK), I.ok H → Den X.K I.own H x dx → Den X.K I.own H y dy → o dx dy Qd → (∀ v d H', Ext I H H' → Den X.K I.own H' v d → Qd d → Q v H') → r x y H Q) : RD X I f o :=
  fun H x y dx dy Qd Q ok hx hy hg k => rw2_of ho (h H x y dx dy Qd Q ok hx hy hg k)
def fI (C : Int → Int → Prop) (h : Int → Int → D) : F2 := fun x y Q => ∃ i j, x = .int i ∧ y = .int j ∧ C i j ∧ Q (h i j)
def fI0 (h : Int → Int → D) : F2 := fun x y Q => ∃ i j, x = .int i ∧ y = .int j ∧ Q (h i j)
theorem rd_I {C : Int → Int → Prop} {gv : Int → Int → V} {h : Int → Int → D} (ho : OpR X f (rI C gv)) (hg : ∀ i j H, Den X.K I.own H (gv i j) (h i j)) : RD X I f (fI C h) :=
  rd_of ho fun H x y dx dy Qd Q ok hx hy ⟨i, j, e1, e2, c, q⟩ k => by
    subst e1 e2
    simp only [Den] at hx hy
    exact ⟨i, j, hx, hy, c, k _ _ H (.refl ok) (hg i j H) q⟩
theorem rd_I0 {gv : Int → Int → V} {h : Int → Int → D} (ho : OpR X f (rI0 gv)) (hg : ∀ i j H, Den X.K I.own H (gv i j) (h i j)) : RD X I f (fI0 h) :=
  rd_of ho fun H x y dx dy Qd Q ok hx hy ⟨i, j, e1, e2, q⟩ k => by
    subst e1 e2
    simp only [Den] at hx hy
    exact ⟨i, j, hx, hy, k _ _ H (.refl ok) (hg i j H) q⟩
abbrev fSub : F2 := fI0 fun i j => .int (i - j)
abbrev fMul : F2 := fI CMulW fun i j => .int (i * j)
abbrev fDiv : F2 := fI CDivW fun i j => .int (i / j)
abbrev fMod : F2 := fI (fun _ j => 0 < j) fun i j => .int (i % j)
theorem r_sub : RD X I (binaryOp .Sub) fSub := rd_I0 op_sub fun _ _ _ => by simp only [Den]
theorem r_mul : RD X I (binaryOp .Mult) fMul := rd_I op_mulW fun _ _ _ => by simp only [Den]
theorem r_div : RD X I (binaryOp .FloorDiv) fDiv := rd_I op_fdivW fun _ _ _ => by simp only [Den]
theorem r_mod : RD X I (binaryOp .Mod) fMod := rd_I op_mod fun _ _ _ => by simp only [Den]
def fAdd : F2 := fun x y Q => match x, y with
  | .int i, .int j => Q (.int (i + j))
  | .str i, .str j => i.length + j.length ≤ sizeLine ∧ Q (.str (i ++ j))
  | .tup xs, .tup ys => xs.length + ys.length ≤ sizeLine ∧ Q (.tup (xs ++ ys))
  | .lst xs, .lst ys => xs.length + ys.length ≤ sizeLine ∧ Q (.lst (xs ++ ys))
  | _, _ => False
theorem r_add : RD X I (binaryOp .Add) fAdd := fun H x y dx dy Qd Q ok hx hy h k => by
  cases dx <;> cases dy <;> simp only [fAdd] at h
  case int.int i j =>
    simp only [Den] at hx hy
    exact rw2_of op_add ⟨i, j, hx, hy, k _ _ H (.refl ok) (by simp only [Den]) h⟩
  case str.str i j =>
    simp only [Den] at hx hy
    exact rw2_of op_add_str ⟨i, j, hx, hy, h.1, k _ _ H (.refl ok) (by simp only [Den]) h.2⟩
  case tup.tup xs ys =>
    have hx' := hx
    have hy' := hy
    simp only [Den] at hx hy
    obtain ⟨a, vs, rfl, s1, n1, r1⟩ := hx
    obtain ⟨b, ws, rfl, s2, n2, r2⟩ := hy
    refine rw2_of op_catA ⟨a, b, vs, ws, rfl, rfl, s1, s2, by rw [r1.len, r2.len]; exact h.1, fun e => ?_, fun e e2 => ?_, fun _ _ p hp => ?_⟩
    · have : xs = [] := by rw [← List.length_eq_zero_iff, ← r1.len, e]; rfl
      subst this
      exact k _ _ H (.refl ok) hy' h.2
    · have : ys = [] := by rw [← List.length_eq_zero_iff, ← r2.len, e2]; rfl
      subst this
      exact k _ _ H (.refl ok) hx' (by simpa using h.2)
    · refine k _ _ _ (.new ok hp) ?_ h.2
      have kk : Kp I.own H (upd H p (.tup (vs ++ ws))) := Kp.new hp
      simp only [Den]
      exact ⟨p, _, rfl, SqT.of upd_same, .inl ⟨HI.nown ok hp, .inl upd_same⟩, DenA.app (DenA.keep kk _ _ r1) (DenA.keep kk _ _ r2)⟩
  case lst.lst xs ys =>
    simp only [Den] at hx hy
    obtain ⟨a, vs, rfl, s1, n1, r1⟩ := hx
    obtain ⟨b, ws, rfl, s2, n2, r2⟩ := hy
    refine rw2_of op_cat ⟨a, b, vs, ws, rfl, rfl, s1, s2, by rw [r1.len, r2.len]; exact h.1, fun p hp => ?_⟩
    refine k _ _ _ (.new ok hp) ?_ h.2
    have kk : Kp I.own H (upd H p (.lst (vs ++ ws))) := Kp.new hp
    simp only [Den]
    exact ⟨p, _, rfl, upd_same, HI.nown ok hp, DenA.app (DenA.keep kk _ _ r1) (DenA.keep kk _ _ r2)⟩
end
end Dl

namespace Dl
open PySem PySem.Spec PyProof.Rows L2

mutual
def D.py : D → PyData
  | .obj _ _ _ => .none | .non => .none | .bl b => .bool b | .int i => .int i | .str x => .str x | .tup xs => .tuple (pyA xs) | .lst xs => .list (pyA xs) | .ref _ => .none | .ty _ => .none
def pyA : List D → List PyData
  | [] => []
  | x :: xs => D.py x :: pyA xs
end
mutual
def D.good : D → Bool
  | .obj _ _ _ => false | .ref _ => false | .ty _ => false | .str x => PyData.strOk x | .tup xs => goodA xs | .lst xs => goodA xs | .non => true | .bl _ => true | .int _ => true
def goodA : List D → Bool
  | [] => true
  | x :: xs => D.good x && goodA xs
end
mutual
def D.dep : D → Nat
  | .obj _ _ _ => 0 | .tup xs => depA xs + 1 | .lst xs => depA xs + 1 | .non => 0 | .bl _ => 0 | .int _ => 0 | .str _ => 0 | .ref _ => 0 | .ty _ => 0
def depA : List D → Nat
  | [] => 0
  | x :: xs => max (D.dep x) (depA xs)
end
mutual
theorem py_can : ∀ d : D, d.good = true → d.py.canLay0 = true
  | .non, _ => rfl
  | .bl _, _ => rfl
  | .int _, _ => rfl
  | .str x, h => by simpa only [D.py, PyData.canLay0, D.good] using h
  | .tup xs, h => by simp only [D.py, PyData.canLay0]; exact pyA_can xs (by simpa only [D.good] using h)
  | .lst xs, h => by simp only [D.py, PyData.canLay0]; exact pyA_can xs (by simpa only [D.good] using h)
  | .ref _, h => by simp [D.good] at h
  | .ty _, h => by simp [D.good] at h
  | .obj _ _ _, h => by simp [D.good] at h
theorem pyA_can : ∀ ds : List D, goodA ds = true → PyData.canLayAll0 (pyA ds) = true
  | [], _ => rfl
  | x :: xs, h => by
    simp only [goodA, Bool.and_eq_true] at h
    simp only [pyA, PyData.canLayAll0, Bool.and_eq_true]
    exact ⟨py_can x h.1, pyA_can xs h.2⟩
end
mutual
theorem py_dep : ∀ d : D, d.py.depth = d.dep
  | .non => rfl
  | .bl _ => rfl
  | .int _ => rfl
  | .str x => rfl
  | .tup xs => by simp only [D.py, PyData.depth, D.dep, pyA_dep xs]
  | .lst xs => by simp only [D.py, PyData.depth, D.dep, pyA_dep xs]
  | .ref _ => rfl
  | .ty _ => rfl
  | .obj _ _ _ => rfl
theorem pyA_dep : ∀ ds : List D, PyData.depthAll (pyA ds) = depA ds
  | [] => rfl
  | x :: xs => by simp only [pyA, PyData.depthAll, depA, py_dep x, pyA_dep xs]
end
section
variable {K : PySem.W.Frag} {Av : Addr → Prop} {H : Hp}
mutual
theorem Den.dp : ∀ (d : D) (v : V), d.good = true → Den K Av H v d → Dp K H v d.py
  | .non, v, _, h => by simp only [Den] at h; subst h; exact .non
  | .bl b, v, _, h => by simp only [Den] at h; subst h; exact .bl b
  | .int b, v, _, h => by simp only [Den] at h; subst h; exact .int b
  | .str b, v, _, h => by simp only [Den] at h; subst h; exact .str b
  | .tup ds, v, g, h => by
    simp only [Den] at h
    obtain ⟨a, vs, rfl, s, _, r⟩ := h
    exact .tup s (DenA.dp ds vs (by simpa only [D.good] using g) r)
  | .lst ds, v, g, h => by
    simp only [Den] at h
    obtain ⟨a, vs, rfl, s, _, r⟩ := h
    exact .lst (SqL.of s) (DenA.dp ds vs (by simpa only [D.good] using g) r)
  | .ref _, _, g, _ => by simp [D.good] at g
  | .ty _, _, g, _ => by simp [D.good] at g
  | .obj _ _ _, _, g, _ => by simp [D.good] at g
theorem DenA.dp : ∀ (ds : List D) (vs : List V), goodA ds = true → DenA K Av H vs ds → DpAll K H vs (pyA ds)
  | [], vs, _, h => by simp only [DenA] at h; subst h; exact .nil
  | d :: ds, vs, g, h => by
    simp only [goodA, Bool.and_eq_true] at g
    simp only [DenA] at h
    obtain ⟨v, r, rfl, h1, h2⟩ := h
    exact .cons (Den.dp d v g.1 h1) (DenA.dp ds r g.2 h2)
end
end
def okD (d : D) : Prop := d.good = true ∧ d.dep ≤ 60
theorem okD.shaped {d : D} (h : okD d) : SeqAt.shaped d.py = true := by
  unfold SeqAt.shaped
  rw [py_can d h.1, py_dep d, decide_eq_true (by have := h.2; omega)]; rfl
def eqD (x y : D) : Bool := PyData.eqv x.py y.py
def anyD (xs : List D) (x : D) : Bool := xs.any fun z => eqD z x
theorem anyD_py (x : D) : ∀ xs : List D, (pyA xs).any (fun z => PyData.eqv z x.py) = anyD xs x
  | [] => rfl
  | y :: ys => by
    show (PyData.eqv y.py x.py || (pyA ys).any fun z => PyData.eqv z x.py) = (eqD y x || anyD ys x)
    rw [anyD_py x ys]; rfl
def xr (neg b : Bool) : Bool := if neg = true then !b else b

section
variable {X : Cx} {I : HI} {g : Gx} {e a b c : Expr} {es : List Expr} {te : TE} {tt : TT} {td ta tb tc : TED} {t u : TTD} {pos : Pos} {f : Value → Value → Sem Value} {o : F2}
def fEq (neg : Bool) : F2 := fun x y Q => okD x ∧ okD y ∧ Q (.bl (xr neg (eqD x y)))
theorem r_eq (hu : X.A.units + 64 < cLine) : RD X I (compareOp .Eq) (fEq false) := fun H x y dx dy Qd Q ok hx hy ⟨h1, h2, h⟩ k =>
  rw2_of (op_eqD hu) ⟨_, _, Den.dp dx x h1.1 hx, Den.dp dy y h2.1 hy, h1.shaped, h2.shaped, k _ _ H (.refl ok) (by simp only [Den]; rfl) h⟩
theorem r_ne (hu : X.A.units + 64 < cLine) : RD X I (compareOp .NotEq) (fEq true) := fun H x y dx dy Qd Q ok hx hy ⟨h1, h2, h⟩ k =>
  rw2_of (op_neD hu) ⟨_, _, Den.dp dx x h1.1 hx, Den.dp dy y h2.1 hy, h1.shaped, h2.shaped, k _ _ H (.refl ok) (by simp only [Den]; rfl) h⟩
def occ (x y : Str) : Bool := !(Builtin.Str.occurrences y x 0 y.length 1).isEmpty
def fIn (neg : Bool) : F2 := fun x y Q => match y with
  | .tup ys => okD x ∧ okD (.tup ys) ∧ Q (.bl (xr neg (anyD ys x)))
  | .lst ys => okD x ∧ okD (.lst ys) ∧ Q (.bl (xr neg (anyD ys x)))
  | .str t => ∃ s, x = .str s ∧ Q (.bl (xr neg (occ s t)))
  | _ => False
theorem room_in {A : Around} {d : D} {ds : List D} (h : okD d) (hu : A.units + 64 < cLine) : A.units + 1 + min (PyData.depthAll (pyA ds)) d.py.depth < cLine := by
  rw [py_dep d]
  have := h.2
  omega
def rInT (K : PySem.W.Frag) (neg : Bool) : R2 := fun x y H Q => ∃ (d : D) (ds : List D), okD d ∧ okD (.tup ds) ∧ Dp K H x d.py ∧ Dp K H y (.tuple (pyA ds)) ∧ Q (.bl (xr neg (anyD ds d))) H
theorem op_inT (hu : X.A.units + 64 < cLine) : OpR X (compareOp .In) (rInT X.K false) := by
  intro pins s σ H x y v u Q J rx ry ⟨d, ds, h1, h2, hd, he, q⟩
  obtain ⟨as, r1⟩ := Dp.reads J d.py x v hd rx
  obtain ⟨bs, r2⟩ := Dp.reads J (.tuple (pyA ds)) y u he ry
  refine SeqAt.in_tuple_reads r2 r1 (pyA_can ds (by simpa only [D.good] using h2.1)) (py_can d h1.1) (room_in h1 hu) ⟨.bl _, H, J, rfl, ?_⟩
  rw [anyD_py]; exact q
theorem op_notInT (hu : X.A.units + 64 < cLine) : OpR X (compareOp .NotIn) (rInT X.K true) := by
  intro pins s σ H x y v u Q J rx ry ⟨d, ds, h1, h2, hd, he, q⟩
  obtain ⟨as, r1⟩ := Dp.reads J d.py x v hd rx
  obtain ⟨bs, r2⟩ := Dp.reads J (.tuple (pyA ds)) y u he ry
  refine SeqAt.notIn_tuple_reads r2 r1 (pyA_can ds (by simpa only [D.good] using h2.1)) (py_can d h1.1) (room_in h1 hu) ⟨.bl _, H, J, rfl, ?_⟩
  rw [anyD_py]; exact q
theorem r_in (hu : X.A.units + 65 < cLine) : RD X I (compareOp .In) (fIn false) := fun H x y dx dy Qd Q ok hx hy h k => by
  cases dy <;> simp only [fIn] at h
  case tup ys =>
    obtain ⟨h1, h2, h⟩ := h
    have hy' := Den.dp _ y h2.1 hy
    simp only [D.py] at hy'
    exact rw2_of (op_inT (by omega)) ⟨dx, ys, h1, h2, Den.dp dx x h1.1 hx, hy', k _ _ H (.refl ok) (by simp only [Den]) h⟩
  case lst ys =>
    obtain ⟨h1, h2, h⟩ := h
    have hy' := Den.dp _ y h2.1 hy
    have s2 := h2.shaped
    simp only [D.py] at hy' s2
    refine rw2_of (op_inD hu) ⟨_, _, Den.dp dx x h1.1 hx, hy', h1.shaped, s2, ?_⟩
    rw [anyD_py]
    exact k _ _ H (.refl ok) (by simp only [Den]; rfl) h
  case str t =>
    obtain ⟨s, rfl, h⟩ := h
    simp only [Den] at hx hy
    exact rw2_of op_in_str ⟨s, t, hx, hy, k _ _ H (.refl ok) (by simp only [Den]; rfl) h⟩
theorem r_nin (hu : X.A.units + 65 < cLine) : RD X I (compareOp .NotIn) (fIn true) := fun H x y dx dy Qd Q ok hx hy h k => by
  cases dy <;> simp only [fIn] at h
  case tup ys =>
    obtain ⟨h1, h2, h⟩ := h
    have hy' := Den.dp _ y h2.1 hy
    simp only [D.py] at hy'
    exact rw2_of (op_notInT (by omega)) ⟨dx, ys, h1, h2, Den.dp dx x h1.1 hx, hy', k _ _ H (.refl ok) (by simp only [Den]) h⟩
  case lst ys =>
    obtain ⟨h1, h2, h⟩ := h
    have hy' := Den.dp _ y h2.1 hy
    have s2 := h2.shaped
    simp only [D.py] at hy' s2
    refine rw2_of (op_notInD hu) ⟨_, _, Den.dp dx x h1.1 hx, hy', h1.shaped, s2, ?_⟩
    rw [anyD_py]
    exact k _ _ H (.refl ok) (by simp only [Den]; rfl) h
  case str t =>
    obtain ⟨s, rfl, h⟩ := h
    simp only [Den] at hx hy
    exact rw2_of op_notIn_str ⟨s, t, hx, hy, k _ _ H (.refl ok) (by simp only [Den]; rfl) h⟩
def fOrd (p : Int → Int → Bool) (q : List Int → List Int → Bool) : F2 := fun x y Q =>
  (∃ i j, x = .int i ∧ y = .int j ∧ Q (.bl (p i j))) ∨ ∃ ns ms : List Int, x = .tup (ns.map D.int) ∧ y = .tup (ms.map D.int) ∧ Q (.bl (q ns ms))
abbrev fLt : F2 := fOrd (fun i j => decide (i < j)) HT.lexLt
abbrev fGt : F2 := fI0 fun i j => .bl (decide (j < i))
abbrev fLe : F2 := fI0 fun i j => .bl (decide (i ≤ j))
abbrev fGe : F2 := fI0 fun i j => .bl (decide (j ≤ i))
theorem r_lt (hu : X.A.units < cLine) : RD X I (compareOp .Lt) fLt := fun H x y dx dy Qd Q ok hx hy h k => by
  rcases h with ⟨i, j, rfl, rfl, h⟩ | ⟨ns, ms, rfl, rfl, h⟩
  · simp only [Den] at hx hy
    exact rw2_of op_lt ⟨i, j, hx, hy, k _ _ H (.refl ok) (by simp only [Den]) h⟩
  · simp only [Den] at hx hy
    obtain ⟨a, vs, rfl, s1, n1, r1⟩ := hx
    obtain ⟨b, ws, rfl, s2, n2, r2⟩ := hy
    have e1 := r1.ofInts
    have e2 := r2.ofInts
    subst e1 e2
    exact rw2_of (op_ltT hu) ⟨a, b, ns, ms, rfl, rfl, s1, s2, k _ _ H (.refl ok) (by simp only [Den]) h⟩
theorem r_gt : RD X I (compareOp .Gt) fGt := rd_I0 op_gt fun _ _ _ => by simp only [Den]
theorem r_le : RD X I (compareOp .LtE) fLe := rd_I0 op_le fun _ _ _ => by simp only [Den]
theorem r_ge : RD X I (compareOp .GtE) fGe := rd_I0 op_ge fun _ _ _ => by simp only [Den]
def isN : D → Bool
  | .non => true
  | _ => false
theorem isN_den {K : PySem.W.Frag} {Av : Addr → Prop} {H : Hp} {v : V} {d : D} (h : Den K Av H v d) : decide (v = .non) = isN d := by
  cases d <;> simp only [Den] at h
  all_goals first
    | (subst h; rfl)
    | (obtain ⟨a, vs, rfl, _⟩ := h; rfl)
    | (rename_i q _ _; obtain ⟨ws, _, o, _⟩ := h; cases q <;> first | (obtain ⟨rfl, _⟩ := o; rfl) | (obtain ⟨a, rfl, _⟩ := o; rfl) | (obtain ⟨a, dd, rfl, _⟩ := o; rfl))
def fIs (neg : Bool) : F2 := fun x y Q => match y with
  | .non => Q (.bl (xr neg (isN x)))
  | .bl b => ∃ a, x = .bl a ∧ Q (.bl (xr neg (decide (a = b))))
  | _ => False
theorem r_is : RD X I (compareOp .Is) (fIs false) := fun H x y dx dy Qd Q ok hx hy h k => by
  cases dy <;> simp only [fIs] at h
  case non =>
    simp only [Den] at hy
    refine rw2_of op_isN ⟨hy, ?_⟩
    rw [isN_den hx]
    exact k _ _ H (.refl ok) (by simp only [Den]; rfl) h
  case bl b =>
    obtain ⟨a, rfl, h⟩ := h
    simp only [Den] at hx hy
    exact rw2_of op_is_bl ⟨a, b, hx, hy, k _ _ H (.refl ok) (by simp only [Den]; rfl) h⟩
theorem r_isnot : RD X I (compareOp .IsNot) (fIs true) := fun H x y dx dy Qd Q ok hx hy h k => by
  cases dy <;> simp only [fIs] at h
  case non =>
    simp only [Den] at hy
    refine rw2_of op_notN ⟨hy, ?_⟩
    rw [isN_den hx]
    exact k _ _ H (.refl ok) (by simp only [Den]; rfl) h
  case bl b =>
    obtain ⟨a, rfl, h⟩ := h
    simp only [Den] at hx hy
    exact rw2_of op_isnot_bl ⟨a, b, hx, hy, k _ _ H (.refl ok) (by simp only [Den]; rfl) h⟩
def fUn (h : Int → Int) : D → (D → Prop) → Prop := fun x Q => ∃ i, x = .int i ∧ Q (.int (h i))
def dUn (r : D → (D → Prop) → Prop) (ta : TED) : TED := fun env Q => ta env fun x => r x Q
theorem d_neg (ha : PED X g a ta) : PED X g (.UnaryOp .USub a pos) (dUn (fUn fun i => -i) ta) :=
  ped_of (pe_un un_neg pe_w) fun b0 σ H env Qd Q hd xl h k => ha b0 σ H env _ _ hd xl h fun v d H1 e1 dn ⟨i, ed, q⟩ => by
    subst ed
    simp only [Den] at dn
    exact ⟨i, dn, k _ _ H1 e1 (by simp only [Den]) q⟩

def dAnd (t u : TTD) : TTD := fun env Q => t env fun c => if c = true then u env Q else Q false
def dOr (t u : TTD) : TTD := fun env Q => t env fun c => if c = true then Q true else u env Q
def dNot (t : TTD) : TTD := fun env Q => t env fun c => Q (!c)
theorem dt_and1 (ha : PTD X g a t) : PWD X g (.BoolOp .And [a] pos) t := pwd_of (pw_and1 pt_w) ha
theorem dt_or1 (ha : PTD X g a t) : PWD X g (.BoolOp .Or [a] pos) t := pwd_of (pw_or1 pt_w) ha
theorem st_and {K : PySem.W.Frag} {ta tb : TT} (ha : ST K g ta t) (hb : ST K g tb u) : ST K g (tAnd ta tb) (dAnd t u) := fun b0 σ H env Qd Q hd xl h k =>
  ha b0 σ H env _ _ hd xl h fun c H1 e1 h1 => by
    cases c with
    | true => rw [if_pos rfl] at h1 ⊢; exact hb b0 σ H1 env _ _ (hd.mono e1) xl h1 fun c' H2 e2 q => k c' H2 (e1.trans e2) q
    | false => rw [if_neg Bool.false_ne_true] at h1 ⊢; exact k false H1 e1 h1
theorem st_or {K : PySem.W.Frag} {ta tb : TT} (ha : ST K g ta t) (hb : ST K g tb u) : ST K g (tOr ta tb) (dOr t u) := fun b0 σ H env Qd Q hd xl h k =>
  ha b0 σ H env _ _ hd xl h fun c H1 e1 h1 => by
    cases c with
    | false => rw [if_neg Bool.false_ne_true] at h1 ⊢; exact hb b0 σ H1 env _ _ (hd.mono e1) xl h1 fun c' H2 e2 q => k c' H2 (e1.trans e2) q
    | true => rw [if_pos rfl] at h1 ⊢; exact k true H1 e1 h1
theorem dt_and {rest : List Expr} (ha : PTD X g a t) (hb : PWD X g (.BoolOp .And (b :: rest) pos) u) : PWD X g (.BoolOp .And (a :: b :: rest) pos) (dAnd t u) := pwd_of (pw_and pt_w pw_w) (st_and ha hb)
theorem dt_or {rest : List Expr} (ha : PTD X g a t) (hb : PWD X g (.BoolOp .Or (b :: rest) pos) u) : PWD X g (.BoolOp .Or (a :: b :: rest) pos) (dOr t u) := pwd_of (pw_or pt_w pw_w) (st_or ha hb)
theorem dt_not (ha : PTD X g a t) : PTD X g (.UnaryOp .Not a pos) (dNot t) := ptd_of (pt_not pt_w) fun b0 σ H env Qd Q hd xl h k => ha b0 σ H env _ _ hd xl h fun c H1 e1 q => k _ H1 e1 q
def dAndV (ta tb : TED) : TED := fun env Q => ta env fun x => ∃ c, x = .bl c ∧ if c = true then tb env Q else Q (.bl false)
def dOrV (ta tb : TED) : TED := fun env Q => ta env fun x => ∃ c, x = .bl c ∧ if c = true then Q (.bl true) else tb env Q
def dNotV (ta : TED) : TED := fun env Q => ta env fun x => ∃ c, x = .bl c ∧ Q (.bl (!c))
theorem d_one {op} (h : PED X g a ta) : PED X g (.BoolOp op [a] pos) ta := ped_of (pe_one pe_w) h
theorem d_and {rest : List Expr} (ha : PED X g a ta) (hb : PED X g (.BoolOp .And (b :: rest) pos) tb) : PED X g (.BoolOp .And (a :: b :: rest) pos) (dAndV ta tb) :=
  ped_of (pe_and pe_w pe_w) fun b0 σ H env Qd Q hd xl h k => ha b0 σ H env _ _ hd xl h fun v d H1 e1 dn ⟨c, ed, h1⟩ => by
    subst ed
    simp only [Den] at dn
    refine ⟨c, dn, ?_⟩
    cases c with
    | true => rw [if_pos rfl] at h1 ⊢; exact hb b0 σ H1 env _ _ (hd.mono e1) xl h1 fun v' d' H2 e2 dn' q => k v' d' H2 (e1.trans e2) dn' q
    | false => rw [if_neg Bool.false_ne_true] at h1 ⊢; exact k _ _ H1 e1 (by simp only [Den]) h1
theorem d_or {rest : List Expr} (ha : PED X g a ta) (hb : PED X g (.BoolOp .Or (b :: rest) pos) tb) : PED X g (.BoolOp .Or (a :: b :: rest) pos) (dOrV ta tb) :=
  ped_of (pe_or pe_w pe_w) fun b0 σ H env Qd Q hd xl h k => ha b0 σ H env _ _ hd xl h fun v d H1 e1 dn ⟨c, ed, h1⟩ => by
    subst ed
    simp only [Den] at dn
    refine ⟨c, dn, ?_⟩
    cases c with
    | false => rw [if_neg Bool.false_ne_true] at h1 ⊢; exact hb b0 σ H1 env _ _ (hd.mono e1) xl h1 fun v' d' H2 e2 dn' q => k v' d' H2 (e1.trans e2) dn' q
    | true => rw [if_pos rfl] at h1 ⊢; exact k _ _ H1 e1 (by simp only [Den]) h1
theorem d_not (ha : PED X g a ta) : PED X g (.UnaryOp .Not a pos) (dNotV ta) :=
  ped_of (pe_not pe_w) fun b0 σ H env Qd Q hd xl h k => ha b0 σ H env _ _ hd xl h fun v d H1 e1 dn ⟨c, ed, h1⟩ => by
    subst ed
    simp only [Den] at dn
    exact ⟨c, dn, k _ _ H1 e1 (by simp only [Den]) h1⟩
def dIf (t : TTD) (ta tb : TED) : TED := fun env Q => t env fun c => if c = true then ta env Q else tb env Q
theorem d_ifExp (hc : PTD X g c t) (ha : PED X g a ta) (hb : PED X g b tb) : PED X g (.IfExp c a b pos) (dIf t ta tb) :=
  ped_of (pe_ifExp pt_w pe_w pe_w) fun b0 σ H env Qd Q hd xl h k => hc b0 σ H env _ _ hd xl h fun c H1 e1 h1 => by
    cases c with
    | true => rw [if_pos rfl] at h1 ⊢; exact ha b0 σ H1 env _ _ (hd.mono e1) xl h1 fun v' d' H2 e2 dn' q => k v' d' H2 (e1.trans e2) dn' q
    | false => rw [if_neg Bool.false_ne_true] at h1 ⊢; exact hb b0 σ H1 env _ _ (hd.mono e1) xl h1 fun v' d' H2 e2 dn' q => k v' d' H2 (e1.trans e2) dn' q
def dB (td : TED) : TTD := fun env Q => td env fun d => ∃ c, d = .bl c ∧ Q c
theorem dt_val (h : PED X g a td) (he : ∀ whole, isTrue a X.env whole = (do let v ← whole; standAt a.pos; holding [v] (truthy v)) := by intro _; rfl) : PTD X g a (dB td) :=
  ptd_of (pt_val pe_w he) fun b0 σ H env Qd Q hd xl h' k => h b0 σ H env _ _ hd xl h' fun v d H1 e1 dn ⟨c, ed, q⟩ => by
    subst ed
    simp only [Den] at dn
    exact ⟨c, dn, k c H1 e1 q⟩

def dNil : TAD := fun _ Q => Q []
def dCons (td : TED) (tr : TAD) : TAD := fun env Q => td env fun x => tr env fun xs => Q (x :: xs)
theorem da_nil : PAD X g [] dNil := pad_of pa_nil fun b0 σ H env Qd Q hd xl h k => k [] [] H (.refl hd.ok) (by simp only [DenA]) h
theorem da_cons {tr : TAD} (he : PED X g e td) (ht : PAD X g es tr) (hs : starEach (e :: es) X.env = (false, eval e X.env) :: starEach es X.env := by rfl) : PAD X g (e :: es) (dCons td tr) :=
  pad_of (pa_cons pe_w pa_w hs) fun b0 σ H env Qd Q hd xl h k => he b0 σ H env _ _ hd xl h fun v d H1 e1 dn h1 => ht b0 σ H1 env _ _ (hd.mono e1) xl h1 fun vs ds H2 e2 dn2 q =>
    k (v :: vs) (d :: ds) H2 (e1.trans e2) (by simp only [DenA]; exact ⟨v, vs, rfl, Den.keep e2.1 _ _ dn, dn2⟩) q
def dTup (ta : TAD) : TED := fun env Q => ta env fun xs => xs.length ≤ sizeLine ∧ Q (.tup xs)
def dLst (ta : TAD) : TED := fun env Q => ta env fun xs => xs.length ≤ sizeLine ∧ Q (.lst xs)
theorem new_tup {K : PySem.W.Frag} {H : Hp} {p : Addr} {vs : List V} {ds : List D} (ok : I.ok H) (hp : H p = none) (h : DenA K I.own H vs ds) : Den K I.own (upd H p (.tup vs)) (.ref p) (.tup ds) := by
  simp only [Den]
  exact ⟨p, vs, rfl, SqT.of upd_same, .inl ⟨HI.nown ok hp, .inl upd_same⟩, DenA.keep (Kp.new hp) _ _ h⟩
theorem new_lst {K : PySem.W.Frag} {H : Hp} {p : Addr} {vs : List V} {ds : List D} (ok : I.ok H) (hp : H p = none) (h : DenA K I.own H vs ds) : Den K I.own (upd H p (.lst vs)) (.ref p) (.lst ds) := by
  simp only [Den]
  exact ⟨p, vs, rfl, upd_same, HI.nown ok hp, DenA.keep (Kp.new hp) _ _ h⟩
theorem d_tup {x1} {tas : TAD} (h : PAD X g es tas) : PED X g (.Tuple es x1 pos) (dTup tas) :=
  ped_of (pe_tup pa_w) fun b0 σ H env Qd Q hd xl hq k => h b0 σ H env _ _ hd xl hq fun vs ds H1 e1 dn ⟨z, q⟩ =>
    ⟨by rw [dn.len]; exact z, fun p hp => k _ _ _ (e1.trans (.new e1.2 hp)) (new_tup e1.2 hp dn) q⟩
theorem d_lst {tas : TAD} (h : PAD X g es tas) : PED X g (.List es pos) (dLst tas) :=
  ped_of (pe_lst pa_w) fun b0 σ H env Qd Q hd xl hq k => h b0 σ H env _ _ hd xl hq fun vs ds H1 e1 dn ⟨z, q⟩ =>
    ⟨by rw [dn.len]; exact z, fun p hp => k _ _ _ (e1.trans (.new e1.2 hp)) (new_lst e1.2 hp dn) q⟩

def fIx : F2 := fun x y Q => ∃ i : Int, y = .int i ∧ match x with
  | .tup xs => ∃ d, atI xs i = some d ∧ Q d
  | .lst xs => ∃ d, atI xs i = some d ∧ Q d
  | .str z => z.length ≤ sizeLine ∧ ∃ c, atI z.cps.toList i = some c ∧ Q (.str ⟨#[c]⟩)
  | _ => False
theorem atI_den {K : PySem.W.Frag} {Av : Addr → Prop} {H : Hp} {vs : List V} {ds : List D} {i : Int} {d : D} (h : DenA K Av H vs ds) (e : atI ds i = some d) : ∃ v, atI vs i = some v ∧ Den K Av H v d := by
  unfold atI at e ⊢
  rw [h.len]
  cases q : ixN ds.length i with
  | none => rw [q] at e; cases e
  | some j =>
    rw [q] at e
    exact h.get e
theorem d_ix (ha : PED X g a ta) (hb : PED X g b tb) (hs : PlainIx b := by intro _ _; rfl) : PED X g (.Subscript a b pos) (dOp fIx ta tb) :=
  ped_of (pe_ix ix_seq pe_w pe_w hs) (sd_op ha hb fun H x y dx dy Qd Q ok hx hy hh k => by
    obtain ⟨i, ey, h⟩ := hh
    subst ey
    simp only [Den] at hy
    cases dx <;> simp only at h
    case tup xs =>
      obtain ⟨d, e, q⟩ := h
      simp only [Den] at hx
      obtain ⟨a, vs, rfl, s1, n1, r1⟩ := hx
      obtain ⟨v, e2, dn⟩ := atI_den r1 e
      exact .inr (.inl ⟨a, vs, i, v, rfl, hy, s1, e2, k _ _ H (.refl ok) dn q⟩)
    case lst xs =>
      obtain ⟨d, e, q⟩ := h
      simp only [Den] at hx
      obtain ⟨a, vs, rfl, s1, n1, r1⟩ := hx
      obtain ⟨v, e2, dn⟩ := atI_den r1 e
      exact .inl ⟨a, vs, i, v, rfl, hy, SqL.of s1, e2, k _ _ H (.refl ok) dn q⟩
    case str z =>
      obtain ⟨z1, c, e, q⟩ := h
      simp only [Den] at hx
      exact .inr (.inr ⟨z, i, c, hx, hy, z1, e, k _ _ H (.refl ok) (by simp only [Den]) q⟩))
end
end Dl

namespace Dl
open PySem PySem.Spec PyProof.Rows L2

abbrev TOD := DEnv → (Option Int → Prop) → Prop
def wO (X : Cx) (e : Option Expr) : TO := fun σ H Q => ∀ pins s, Inv X pins σ H s → wpAny (model X.prog X.w) X.A (evalPart e X.env) (fun u s' => ∃ o H', Inv X pins σ H' s' ∧ IsPart u o ∧ Q o H') X.xe s
def SO (K : PySem.W.Frag) (g : Gx) (to : TO) (td : TOD) : Prop :=
  ∀ (b : B0) (σ : L2.St) (H : Hp) (env : DEnv) (Qd : Option Int → Prop) (Q : Option Int → Hp → Prop), DenE K g.I b σ H env → XL K g b → td env Qd → (∀ o H', Ext g.I H H' → Qd o → Q o H') → to σ H Q
def POD (X : Cx) (g : Gx) (e : Option Expr) (td : TOD) : Prop := SO X.K g (wO X e) td
def dNoP : TOD := fun _ Q => Q none
def dPart (td : TED) : TOD := fun env Q => td env fun x => ∃ i, x = .int i ∧ Q (some i)
def cutL {α : Type} (xs : List α) (lo hi : Option Int) : List α := (xs.drop (HT.sIx xs.length 0 lo)).take (HT.sIx xs.length xs.length hi - HT.sIx xs.length 0 lo)
def fSl : D → Option Int → Option Int → (D → Prop) → Prop := fun x lo hi Q => match x with
  | .tup xs => Q (.tup (cutL xs lo hi))
  | .lst xs => Q (.lst (cutL xs lo hi))
  | .str z => z.length ≤ sizeLine ∧ Q (.str (cutS z lo hi))
  | _ => False
def dSl (te : TED) (tl th : TOD) : TED := fun env Q => te env fun x => tl env fun lo => th env fun hi => fSl x lo hi Q
section
variable {X : Cx} {g : Gx} {e a b c : Expr} {es : List Expr} {td ta tb tc : TED} {t u : TTD} {pos : Pos} {lo hi : Option Expr} {tl th : TOD}
theorem do_none : POD X g none dNoP := fun b0 σ H env Qd Q hd xl ht k pins s J => po_none.run pins s σ H Q J (k none H (.refl hd.ok) ht)
theorem do_some (h : PED X g e td) : POD X g (some e) (dPart td) := fun b0 σ H env Qd Q hd xl ht k pins s J => (po_some pe_w).run pins s σ H Q J (h b0 σ H env _ _ hd xl ht fun v d H1 e1 dn ⟨i, ed, q⟩ => by
  subst ed
  simp only [Den] at dn
  exact ⟨i, dn, k _ H1 e1 q⟩)
theorem po_w {eo : Option Expr} : PO X eo (wO X eo) := ⟨fun pins s σ H Q I h => h pins s I⟩
theorem cut_den {K : PySem.W.Frag} {Av : Addr → Prop} {H : Hp} {vs : List V} {ds : List D} {lo hi : Option Int} (h : DenA K Av H vs ds) : DenA K Av H (cutV vs lo hi) (cutL ds lo hi) := by
  unfold cutV cutL
  rw [h.len]
  exact DenA.take _ (DenA.drop _ h)
theorem d_slice {p2 : Pos} (he : PED X g e td) (hl : POD X g lo tl) (hu : POD X g hi th) : PED X g (.Subscript e (.Slice lo hi none p2) pos) (dSl td tl th) :=
  ped_of (pe_slice (sl_list.or (sl_tupA.or sl_str)) pe_w po_w po_w) fun b0 σ H env Qd Q hd xl h k =>
    he b0 σ H env _ _ hd xl h fun v d H1 e1 dn h1 => hl b0 σ H1 env _ _ (hd.mono e1) xl h1 fun lo' H2 e2 h2 => hu b0 σ H2 env _ _ (hd.mono (e1.trans e2)) xl h2 fun hi' H3 e3 h3 => by
      replace dn := Den.keep (e2.trans e3).1 _ _ dn
      have ok := e3.2
      have ee := e1.trans (e2.trans e3)
      cases d <;> simp only [fSl] at h3 <;> simp only [Den] at dn
      case tup xs =>
        obtain ⟨a, vs, rfl, s1, n1, r1⟩ := dn
        refine .inr (.inl ⟨a, vs, rfl, s1, fun hw => k _ _ _ ee ?_ h3, fun hw p hp => k _ _ _ (ee.trans (.new ok hp)) (new_tup ok hp (cut_den r1)) h3⟩)
        have : cutL xs lo' hi' = xs := by
          unfold cutL
          rw [← r1.len, hw.1, hw.2, r1.len]
          simp
        rw [this]
        simp only [Den]
        exact ⟨a, vs, rfl, s1, n1, r1⟩
      case lst xs =>
        obtain ⟨a, vs, rfl, s1, n1, r1⟩ := dn
        exact .inl ⟨a, vs, rfl, SqL.of s1, fun p hp => k _ _ _ (ee.trans (.new ok hp)) (new_lst ok hp (cut_den r1)) h3⟩
      case str z => exact .inr (.inr ⟨z, dn, h3.1, k _ _ _ ee (by simp only [Den]) h3.2⟩)
end

def rwC (X : Cx) (f : Value) : List V → Hp → VK → Prop := fun xs H Q => ∀ pins s σ us, Inv X pins σ H s → Vals xs us → wpAny (model X.prog X.w) X.A (call f us) (EP X pins σ Q) X.xe s
abbrev FC := List D → (D → Prop) → Prop
def RC (X : Cx) (I : HI) (f : Value) (r : FC) : Prop :=
  ∀ (H : Hp) (xs : List V) (ds : List D) (Qd : D → Prop) (Q : VK), I.ok H → DenA X.K I.own H xs ds → r ds Qd → (∀ v d H', Ext I H H' → Den X.K I.own H' v d → Qd d → Q v H') → rwC X f xs H Q
def dCB (r : FC) (ta : TAD) : TED := fun env Q => ta env fun xs => r xs Q
section
variable {X : Cx} {I : HI} {g : Gx} {e a b c : Expr} {es : List Expr} {td ta tb tc : TED} {tas : TAD} {t u : TTD} {pos p : Pos} {f : Value} {r : FC} {x : Str}
theorem cr_w : CallR X f (rwC X f) := fun pins s σ H xs us Q J r h => h pins s σ us J r
theorem rc_of {f : Value} {r' : List V → Hp → VK → Prop} (h : CallR X f r') {xs : List V} {H : Hp} {Q : VK} (q : r' xs H Q) : rwC X f xs H Q := fun pins s σ us J rx => h pins s σ H xs us Q J rx q
theorem sd_cb {K : PySem.W.Frag} {ra : L2.TA} {r' : List V → Hp → VK → Prop} (ha : SA K g ra tas)
    (hr : ∀ (H : Hp) (xs : List V) (ds : List D) (Qd : D → Prop) (Q : VK), g.I.ok H → DenA K g.I.own H xs ds → r ds Qd → (∀ v d H', Ext g.I H H' → Den K g.I.own H' v d → Qd d → Q v H') → r' xs H Q) : SE K g (tCB r' ra) (dCB r tas) := fun b0 σ H env Qd Q hd xl h k =>
  ha b0 σ H env _ _ hd xl h fun vs ds H1 e1 dn q => hr H1 vs ds Qd Q e1.2 dn q fun v d H' e2 dn2 q2 => k v d H' (e1.trans e2) dn2 q2
theorem d_callB {id : String} (hc : RC X g.I (.builtin id) r) (hg : Gl X x) (hm : X.mg x = none) (hv : bootBuiltins x = some (.builtin id)) (ha : PAD X g (e :: es) tas) (hn : x ≠ "__name__" := by decide) (hdb : (x == ("__debug__" : Str)) = false := by decide)
    (he : starEach (e :: es) X.env = (false, eval e X.env) :: starEach es X.env := by rfl) (hpl : (backTo pos (starEach es X.env)).any (·.1) = false := by rfl) : PED X g (.Call (.Name x p) (e :: es) [] pos) (dCB r tas) :=
  ped_of (pe_callB cr_w hg hm hv pa_w hn hdb he hpl) (sd_cb ha hc)
theorem d_callTy {T : String} (hc : RC X g.I (.type T) r) (hg : Gl X x) (hm : X.mg x = none) (hv : bootBuiltins x = some (.type T)) (ha : PAD X g (e :: es) tas) (hn : x ≠ "__name__" := by decide) (hdb : (x == ("__debug__" : Str)) = false := by decide)
    (he : starEach (e :: es) X.env = (false, eval e X.env) :: starEach es X.env := by rfl) (hpl : (backTo pos (starEach es X.env)).any (·.1) = false := by rfl) : PED X g (.Call (.Name x p) (e :: es) [] pos) (dCB r tas) :=
  ped_of (pe_callTy cr_w hg hm hv pa_w hn hdb he hpl) (sd_cb ha hc)
theorem d_ty {n : String} (hg : Gl X x) (hm : X.mg x = none) (hv : bootBuiltins x = some (.type n)) (hn : x ≠ "__name__" := by decide) (hdb : (x == ("__debug__" : Str)) = false := by decide) : PED X g (.Name x p) (dC (.ty n)) :=
  ped_of (pe_bltn (v := .ty n) hg hm hv rfl hn hdb) (sd_c fun _ => by simp only [Den])
theorem DenA.nil {K : PySem.W.Frag} {Av : Addr → Prop} {H : Hp} {vs : List V} (h : DenA K Av H vs []) : vs = [] := by simpa only [DenA] using h
theorem DenA.cons {K : PySem.W.Frag} {Av : Addr → Prop} {H : Hp} {vs : List V} {d : D} {ds : List D} (h : DenA K Av H vs (d :: ds)) : ∃ v r, vs = v :: r ∧ Den K Av H v d ∧ DenA K Av H r ds := by simpa only [DenA] using h
theorem DenA.one1 {K : PySem.W.Frag} {Av : Addr → Prop} {H : Hp} {vs : List V} {d : D} (h : DenA K Av H vs [d]) : ∃ v, vs = [v] ∧ Den K Av H v d := by
  obtain ⟨v, r, rfl, h1, h2⟩ := h.cons
  cases h2.nil
  exact ⟨v, rfl, h1⟩
def bLen : FC := fun xs Q => ∃ x, xs = [x] ∧ match x with
  | .tup ys => Q (.int ys.length)
  | .lst ys => Q (.int ys.length)
  | .str z => z.length ≤ sizeLine ∧ Q (.int z.length)
  | _ => False
theorem c_len : RC X I (.builtin "len") bLen := fun H xs ds Qd Q ok dn hh k => by
  obtain ⟨x, rfl, h⟩ := hh
  obtain ⟨v, rfl, d1⟩ := dn.one1
  cases x <;> simp only at h <;> simp only [Den] at d1
  case tup ys =>
    obtain ⟨a, vs, rfl, s1, n1, r1⟩ := d1
    rw [← r1.len] at h
    exact rc_of call_len ⟨_, vs.length, rfl, .inr ⟨vs, s1, rfl⟩, k _ _ H (.refl ok) (by simp only [Den]) h⟩
  case lst ys =>
    obtain ⟨a, vs, rfl, s1, n1, r1⟩ := d1
    rw [← r1.len] at h
    exact rc_of call_len ⟨_, vs.length, rfl, .inl ⟨vs, SqL.of s1, rfl⟩, k _ _ H (.refl ok) (by simp only [Den]) h⟩
  case str z => subst d1; exact rc_of call_len_str ⟨z, rfl, h.1, k _ _ H (.refl ok) (by simp only [Den]) h.2⟩
def tynK : OKd → Option String
  | .dct _ => some "dict"
  | _ => none
def D.tyn : D → Option String
  | .non => some "NoneType" | .bl _ => some "bool" | .int _ => some "int" | .str _ => some "str" | .tup _ => some "tuple" | .lst _ => some "list" | .ref _ => none | .ty _ => none | .obj k _ _ => tynK k
def isiB (t n : String) : Bool := decide (t = n) || (decide (t = "bool") && decide (n = "int"))
def tyNames : List String := ["NoneType", "bool", "int", "str", "tuple", "list", "dict"]
theorem kitB_tab : ∀ t ∈ tyNames, ∀ n ∈ tyNames, kitB t n = some (isiB t n) := by decide +kernel
def tysOf : List D → Option (List String)
  | [] => some []
  | .ty n :: r => (tysOf r).map (n :: ·)
  | _ :: _ => none
def bIsi : FC := fun xs Q => ∃ x c, xs = [x, c] ∧ ∃ t, x.tyn = some t ∧ match c with
  | .ty n => n ∈ tyNames ∧ Q (.bl (isiB t n))
  | .tup cs => ∃ ns, tysOf cs = some ns ∧ (∀ n ∈ ns, n ∈ tyNames) ∧ Q (.bl (ns.any fun n => isiB t n))
  | _ => False
theorem tyn_mem {x : D} {t : String} (h : x.tyn = some t) : t ∈ tyNames := by
  cases x with
  | obj k ns ds => cases k <;> first | (simp only [D.tyn, tynK, Option.some.injEq, reduceCtorEq] at h; done) | (simp only [D.tyn, tynK, Option.some.injEq, reduceCtorEq] at h; subst h; decide)
  | _ => first | (simp only [D.tyn, Option.some.injEq, reduceCtorEq] at h; done) | (simp only [D.tyn, Option.some.injEq, reduceCtorEq] at h; subst h; decide)
theorem tyx_den {K : PySem.W.Frag} {Av : Addr → Prop} {H : Hp} {v : V} {x : D} {t : String} (h : x.tyn = some t) (dn : Den K Av H v x) : TyX K H v (.type t) := by
  cases x <;> simp only [D.tyn, Option.some.injEq] at h <;> simp only [Den] at dn
  case non => subst h dn; exact .base .non
  case bl => subst h dn; exact .base (.bl _)
  case int => subst h dn; exact .base (.int _)
  case str => subst h dn; exact .base (.str _)
  case tup =>
    subst h
    obtain ⟨a, vs, rfl, s1, n1, r1⟩ := dn
    rcases s1 with (s | ⟨o, s⟩) | ⟨o, its, n, s, c, _⟩
    · exact .base (.tup s)
    · exact .fTuple s
    · exact .kTuple s c
  case lst =>
    subst h
    obtain ⟨a, vs, rfl, s1, n1, r1⟩ := dn
    exact .base (.lst s1)
  case ref => cases h
  case obj k ns ds =>
    cases k <;> simp only [tynK, Option.some.injEq, reduceCtorEq] at h
    subst h
    obtain ⟨ws, _, ⟨a, rfl, _, e⟩, _⟩ := dn
    exact .base (.dK e)
  case ty => cases h
theorem kitAny_of {K : PySem.W.Frag} {t : String} (ht : t ∈ tyNames) : ∀ {ns : List String}, (∀ n ∈ ns, n ∈ tyNames) → PySem.W.kitAny K (.type t) (ns.map Value.type) = some (ns.any fun n => isiB t n)
  | [], _ => rfl
  | n :: ns, h => by
    have h1 : PySem.W.kitOne K (.type t) (.type n) = some (isiB t n) := kit_ty (kitB_tab t ht n (h n List.mem_cons_self))
    have ih := kitAny_of (K := K) ht (ns := ns) fun m hm => h m (List.mem_cons_of_mem _ hm)
    show (match PySem.W.kitOne K (.type t) (.type n) with
      | some true => some true
      | some false => PySem.W.kitAny K (.type t) (ns.map Value.type)
      | none => none) = some (isiB t n || ns.any fun n => isiB t n)
    rw [h1, ih]
    cases isiB t n <;> rfl
theorem tys_den {K : PySem.W.Frag} {Av : Addr → Prop} {H : Hp} : ∀ {cs : List D} {ns : List String} {vs : List V}, tysOf cs = some ns → DenA K Av H vs cs → Paired ClsV vs (ns.map Value.type)
  | [], ns, vs, h, dn => by
    cases dn.nil
    cases (show some [] = some ns from h)
    exact .nil
  | c :: cs, ns, vs, h, dn => by
    obtain ⟨v, r, rfl, h1, h2⟩ := dn.cons
    cases c <;> simp only [tysOf] at h
    case ty n =>
      obtain ⟨ms, e, rfl⟩ := Option.map_eq_some_iff.mp h
      simp only [Den] at h1
      subst h1
      exact .cons (.ty n) (tys_den e h2)
    all_goals cases h
def rIsiT2 (K : PySem.W.Frag) : List V → Hp → VK → Prop := fun xs H Q => ∃ (x : V) (tp : Addr) (cs : List V) (t : Value) (us : List Value) (b : Bool), xs = [x, .ref tp] ∧ SqT K H tp cs ∧ Paired ClsV cs us ∧ TyX K H x t ∧ PySem.W.kitAny K t us = some b ∧ Q (.bl b) H
theorem call_isiT2 : CallR X (.builtin "isinstance") (rIsiT2 X.K) := by
  intro pins s σ H xs us Q I r h
  obtain ⟨x, tp, cs, t, ws, b, rfl, hT, k, ty, e, q⟩ := h
  obtain ⟨u1, u2, rfl, r1, r2⟩ := vals2 r
  cases (show u2 = Value.ref tp from r2)
  obtain ⟨P, Z, p, hx⟩ := kit_of I r1 ty
  obtain ⟨its, rv, ⟨o, h1, h2, n, h3⟩, _⟩ := I.tuple hT
  have e3 := ClsV.all k rv
  subst e3
  obtain ⟨oc, od, dt, sl⟩ := o
  simp only at h2 h3
  subst h2 h3
  exact PySem.W.kia_tup Z I.kIn p h1 e hx fun tk => ⟨.bl b, H, I.tok tk, rfl, q⟩
theorem c_isi : RC X I (.builtin "isinstance") bIsi := fun H xs ds Qd Q ok dn hh k => by
  obtain ⟨x, c, rfl, t, ht, h⟩ := hh
  obtain ⟨v, r, rfl, d1, d2⟩ := dn.cons
  obtain ⟨w, rfl, d3⟩ := d2.one1
  cases c <;> simp only at h <;> simp only [Den] at d3
  case ty n =>
    subst d3
    exact rc_of call_isi ⟨v, .ty n, .type t, .type n, _, rfl, .ty n, tyx_den ht d1, kit_ty (kitB_tab t (tyn_mem ht) n h.1), k _ _ H (.refl ok) (by simp only [Den]) h.2⟩
  case tup cs =>
    obtain ⟨ns, h1, h2, q⟩ := h
    obtain ⟨a, vs, rfl, s1, n1, r1⟩ := d3
    rcases n1 with ⟨_, s⟩ | ⟨⟨oc, od, dt', osl⟩, its, n, s, c, dt, z, rv⟩
    · exact rc_of call_isiT2 ⟨v, a, vs, .type t, _, _, rfl, s1, tys_den h1 r1, tyx_den ht d1, kitAny_of (tyn_mem ht) h2, k _ _ H (.refl ok) (by simp only [Den]) q⟩
    · simp only at c dt
      subst c dt
      have e : its.toList = ns.map Value.type := ClsV.all (tys_den h1 r1) rv
      have e2 : its = (ns.map Value.type).toArray := by rw [← e]
      subst e2
      exact rc_of call_isiK ⟨v, a, od, ns.map Value.type, n, osl, .type t, _, rfl, s, tyx_den ht d1, kitAny_of (tyn_mem ht) h2, k _ _ H (.refl ok) (by simp only [Den]) q⟩
end
end Dl

namespace Dl
open PySem PySem.Spec PyProof.Rows L2

section
variable {X : Cx} {I : HI} {g : Gx} {e a b c : Expr} {es : List Expr} {td ta tb tc : TED} {tas : TAD} {t u : TTD} {pos p : Pos} {f : Value} {r : FC} {x : Str}
def bTup : FC := fun xs Q => ∃ x, xs = [x] ∧ match x with
  | .tup ys => Q (.tup ys)
  | .lst ys => Q (.tup ys)
  | _ => False
theorem c_tup : RC X I (.type "tuple") bTup := fun H xs ds Qd Q ok dn hh k => by
  obtain ⟨x, rfl, h⟩ := hh
  obtain ⟨v, rfl, d1⟩ := dn.one1
  cases x <;> simp only at h
  case tup ys =>
    have d1' := d1
    simp only [Den] at d1
    obtain ⟨a, vs, rfl, s1, n1, r1⟩ := d1
    exact rc_of call_tuple_of ⟨a, vs, rfl, .inr ⟨s1, k _ _ H (.refl ok) d1' h⟩⟩
  case lst ys =>
    simp only [Den] at d1
    obtain ⟨a, vs, rfl, s1, n1, r1⟩ := d1
    exact rc_of call_tuple_of ⟨a, vs, rfl, .inl ⟨SqL.of s1, fun p hp => k _ _ _ (.new ok hp) (new_tup ok hp r1) h⟩⟩
def bLst : FC := fun xs Q => ∃ x, xs = [x] ∧ match x with
  | .tup ys => Q (.lst ys)
  | .lst ys => Q (.lst ys)
  | _ => False
theorem c_lst : RC X I (.type "list") bLst := fun H xs ds Qd Q ok dn hh k => by
  obtain ⟨x, rfl, h⟩ := hh
  obtain ⟨v, rfl, d1⟩ := dn.one1
  cases x <;> simp only at h <;> simp only [Den] at d1
  case tup ys =>
    obtain ⟨a, vs, rfl, s1, n1, r1⟩ := d1
    exact rc_of call_list_of ⟨a, vs, rfl, .inr s1, fun p hp => k _ _ _ (.new ok hp) (new_lst ok hp r1) h⟩
  case lst ys =>
    obtain ⟨a, vs, rfl, s1, n1, r1⟩ := d1
    exact rc_of call_list_of ⟨a, vs, rfl, .inl (SqL.of s1), fun p hp => k _ _ _ (.new ok hp) (new_lst ok hp r1) h⟩
def bInt : FC := fun xs Q => ∃ i, xs = [.int i] ∧ Q (.int i)
theorem c_int : RC X I (.type "int") bInt := fun H xs ds Qd Q ok dn ⟨i, e, h⟩ k => by
  subst e
  obtain ⟨v, rfl, d1⟩ := dn.one1
  simp only [Den] at d1
  subst d1
  exact rc_of call_int1 (.inl ⟨i, rfl, k _ _ H (.refl ok) (by simp only [Den]) h⟩)
def bAbs : FC := fun xs Q => ∃ i : Int, xs = [.int i] ∧ Q (.int (if i < 0 then -i else i))
theorem c_abs : RC X I (.builtin "abs") bAbs := fun H xs ds Qd Q ok dn ⟨i, e, h⟩ k => by
  subst e
  obtain ⟨v, rfl, d1⟩ := dn.one1
  simp only [Den] at d1
  subst d1
  exact rc_of call_abs ⟨i, rfl, k _ _ H (.refl ok) (by simp only [Den]) h⟩
theorem DenA.ofBls {K : PySem.W.Frag} {Av : Addr → Prop} {H : Hp} : ∀ {bs : List Bool} {vs : List V}, DenA K Av H vs (bs.map D.bl) → vs = bs.map V.bl
  | [], _, h => by simpa [DenA] using h
  | n :: ns, vs, h => by
    have h' : DenA K Av H vs (D.bl n :: ns.map D.bl) := h
    simp only [DenA, Den] at h'
    obtain ⟨v, r, rfl, rfl, h2⟩ := h'
    rw [DenA.ofBls h2]; rfl
def bAll : FC := fun xs Q => ∃ bs : List Bool, xs = [.lst (bs.map D.bl)] ∧ Q (.bl (bs.all id))
theorem c_all (hc : X.calm = true) : RC X I (.builtin "all") bAll := fun H xs ds Qd Q ok dn ⟨ns, e, h⟩ k => by
  subst e
  obtain ⟨v, rfl, d1⟩ := dn.one1
  simp only [Den] at d1
  obtain ⟨a, vs, rfl, s1, n1, r1⟩ := d1
  have e1 := r1.ofBls
  subst e1
  exact rc_of (cr_all hc) ⟨a, ns, rfl, SqL.of s1, k _ _ H (.refl ok) (by simp only [Den]) h⟩
abbrev Ct := List D → (D → Prop) → (Exc → Prop) → Prop
def spOf (K : PySem.W.Frag) (I : HI) (n : Nat) (C : Ct) : Sp := fun vs H Q E => ∃ ds Qd Ed, ds.length = n ∧ DenA K I.own H vs ds ∧ I.ok H ∧ C ds Qd Ed ∧
  (∀ v d H', Ext I H H' → Den K I.own H' v d → Qd d → Q v H') ∧ (∀ x d H', Ext I H H' → ExD K I H' x d → Ed x → E (.ref x.cls) d H')
def dCall (C : Ct) (dds : List D) (Ed : DEnv → Exc → Prop) (ta : TAD) : TED := fun env Q => ta env fun xs => C (xs ++ dds) Q (Ed env)
theorem run_fnD {k : Nat} {fa : Addr} {fd : FuncData} {ps : List Str} {sp : Sp} {ds : List Value} {dvs : List V} {pins : List (Addr × Obj)} {σ : L2.St} {H : Hp} {s : Shared} {Q : VK} {us : List Value} {vs : List V} {E : XK}
    (F : FnOk X.prog X.w X.K X.mg X.base (L2.CX X.prog X.w) k fa fd ps sp) (hr : Room k X.A) (hb : Binds X.K fd ps ds) (hd : Vals dvs ds) (hx : PassesAt (L2.CX X.prog X.w) X σ E)
    (J : Inv X pins σ H s) (r : Vals vs us) (h : sp (vs ++ dvs) H Q E) : wpAny (model X.prog X.w) X.A (call (.ref fa) us) (EP X pins σ Q) X.xe s := by
  have r2 : Vals (vs ++ dvs) (us ++ ds) := r.append hd
  have hl : (us ++ ds).length = ps.length := by rw [← r2.length]; exact F.len _ _ _ _ h
  refine wpAny_call (codeAny_mono (F.run X.A X.stack s H ⟨us, []⟩ (us ++ ds) (vs ++ dvs) Q E hr J.env0 (hb s us J.kIn hl) r2 h) fun r s' hq => ?_)
  cases r with
  | error e => exact hx pins H s e s' J hq
  | ok fl =>
    cases fl with
    | ret u => exact J.after hq
    | next => exact False.elim hq
    | brk => exact False.elim hq
    | cont => exact False.elim hq
theorem spOf_call {K : PySem.W.Frag} {n : Nat} {C : Ct} {H : Hp} {vs dvs : List V} {xs dds : List D} {Qd : D → Prop} {Ed : Exc → Prop} {Q : VK} {E : XK} (ok : I.ok H) (hl : (xs ++ dds).length = n) (dn : DenA K I.own H vs xs) (dd : DenA K I.own H dvs dds) (h : C (xs ++ dds) Qd Ed)
    (k : ∀ v d H', Ext I H H' → Den K I.own H' v d → Qd d → Q v H') (ke : ∀ x d H', Ext I H H' → ExD K I H' x d → Ed x → E (.ref x.cls) d H') : spOf K I n C (vs ++ dvs) H Q E :=
  ⟨xs ++ dds, Qd, Ed, hl, dn.app dd, ok, h, k, ke⟩
theorem d_call {k n : Nat} {fa : Addr} {fd : FuncData} {ps : List Str} {C : Ct} {ds : List Value} {dvs : List V} {dds : List D} (F : FnOk X.prog X.w X.K X.mg X.base (L2.CX X.prog X.w) k fa fd ps (spOf X.K g.I n C)) (hr : Room k X.A) (hg : Gl X x)
    (hm : X.mg x = some (.ref fa)) (hk : PySem.W.keepIn X.K (.ref fa) = true) (hb : Binds X.K fd ps ds) (hd : Vals dvs ds) (hdd : ∀ H, DenA X.K g.I.own H dvs dds) (tk : Takes X g.W) (hC : ∀ xs Q E, C xs Q E → xs.length = n) (ha : PAD X g (e :: es) tas)
    (hdb : (x == ("__debug__" : Str)) = false := by decide) (he : starEach (e :: es) X.env = (false, eval e X.env) :: starEach es X.env := by rfl) (hpl : (backTo pos (starEach es X.env)).any (·.1) = false := by rfl) :
    PED X g (.Call (.Name x p) (e :: es) [] pos) (dCall C dds g.Ed tas) := fun b0 σ H env Qd Q hd' xl h kq pins s J => by
  refine wpAny_Call_Name_kw (ld_glob J hg hm ?_ hdb)
  refine PySem.W.callWith_K (h₀ := X.base) J.ok.mod.kin hk (thn ((pa_w (es := e :: es)).run pos pins s σ H (fun vs H1 => spOf X.K g.I n C (vs ++ dvs) H1 Q (WE g.W σ)) J ?_) fun us s1 ⟨vs, H1, I1, r, q⟩ => ⟨I1.kIn, run_fnD F hr hb hd (passAt tk σ) I1 r q⟩) he hpl
  exact ha b0 σ H env _ _ hd' xl h fun vs xs H1 e1 dn q => spOf_call e1.2 (hC _ _ _ q) dn (hdd H1) q (fun v d H2 e2 dn2 q2 => kq v d H2 (e1.trans e2) dn2 q2) fun x d H2 e2 xd q2 => xl σ H env x d H2 hd' (e1.trans e2) xd q2
end

structure DEnds where
  nx : DEnv → Prop
  rt : D → Prop
  bk : DEnv → Prop := fun _ => False
  ct : DEnv → Prop := fun _ => False
  rf : List D → Prop := fun xs => rt (.lst xs)
abbrev TSD := DEnds → DEnv → Prop
structure EL (K : PySem.W.Frag) (g : Gx) (b : B0) (Dd : DEnds) (E : Ends) : Prop where
  nx : ∀ σ H env, DenE K g.I b σ H env → Dd.nx env → E.nx σ H
  rt : ∀ v d H, Ext g.I b.H0 H → Den K g.I.own H v d → Dd.rt d → E.rt v H
  bk : ∀ σ H env, DenE K g.I b σ H env → Dd.bk env → E.bk σ H
  ct : ∀ σ H env, DenE K g.I b σ H env → Dd.ct env → E.ct σ H
  rf : ∀ a vs xs H, Ext g.I b.H0 H → b.H0 a = none → ¬ g.I.foot a → H a = some (.lst vs) → DenA K (fun x => g.I.own x ∨ x = a) H vs xs → Dd.rf xs → E.rt (.ref a) H
def SS (K : PySem.W.Frag) (g : Gx) (ts : TS) (td : TSD) : Prop :=
  ∀ (b : B0) (σ : L2.St) (H : Hp) (env : DEnv) (Dd : DEnds) (E : Ends), DenE K g.I b σ H env → XL K g b → td Dd env → EL K g b Dd E → ts E σ H
def wS (X : Cx) (st : Stmt) : TS := fun E σ H => ∀ pins s, Inv X pins σ H s → wpAny (model X.prog X.w) X.A (exec st X.env) (SP X pins E) X.xe s
def wSs (X : Cx) (sts : List Stmt) : TS := fun E σ H => ∀ pins s, Inv X pins σ H s → wpAny (model X.prog X.w) X.A (execs sts X.env) (SP X pins E) X.xe s
def PSD (X : Cx) (g : Gx) (st : Stmt) (td : TSD) : Prop := SS X.K g (wS X st) td
def PSsD (X : Cx) (g : Gx) (sts : List Stmt) (td : TSD) : Prop := SS X.K g (wSs X sts) td
section
variable {X : Cx} {g : Gx} {e : Expr} {st : Stmt} {rest sts sts2 : List Stmt} {td : TED} {tt : TTD} {ts t u : TSD} {ts' : TS} {pos : Pos}
theorem ps_w : PS X st (wS X st) := ⟨fun pins s σ H E J h => h pins s J⟩
theorem pss_w : PSs X sts (wSs X sts) := ⟨fun pins s σ H E J h => h pins s J⟩
theorem psd_of (p : PS X st ts') (h : SS X.K g ts' ts) : PSD X g st ts := fun b σ H env Dd E hd xl ht el pins s J => p.run pins s σ H E J (h b σ H env Dd E hd xl ht el)
theorem pssd_of (p : PSs X sts ts') (h : SS X.K g ts' ts) : PSsD X g sts ts := fun b σ H env Dd E hd xl ht el pins s J => p.run pins s σ H E J (h b σ H env Dd E hd xl ht el)
def sNext : TSD := fun Dd env => Dd.nx env
def sSeq (t u : TSD) : TSD := fun Dd env => t { Dd with nx := u Dd } env
theorem ds_nil : PSsD X g [] sNext := pssd_of pss_nil fun b σ H env Dd E hd xl h el => el.nx _ _ _ hd h
theorem ds_cons (h1 : PSD X g st t) (h2 : PSsD X g rest u) : PSsD X g (st :: rest) (sSeq t u) := pssd_of (pss_cons ps_w pss_w) fun b σ H env Dd E hd xl h el =>
  h1 b σ H env _ _ hd xl h ⟨fun σ' H' env' hd' h' => h2 b σ' H' env' _ _ hd' xl h' el, el.rt, el.bk, el.ct, el.rf⟩
theorem ds_one (h1 : PSD X g st t) : PSsD X g [st] t := pssd_of (pss_one ps_w) h1
def sRet (td : TED) : TSD := fun Dd env => td env Dd.rt
theorem ds_ret (he : PED X g e td) : PSD X g (.Return (some e) pos) (sRet td) := psd_of (ps_ret pe_w) fun b σ H env Dd E hd xl h el => he b σ H env _ _ hd xl h fun v d H1 e1 dn q => el.rt v d H1 (hd.ext.trans e1) dn q
def sIf (c : TTD) (t u : TSD) : TSD := fun Dd env => c env fun b => if b = true then t Dd env else u Dd env
theorem ds_if {c : Expr} (hc : PTD X g c tt) (ha : PSsD X g sts t) (hb : PSsD X g sts2 u) : PSD X g (.If c sts sts2 pos) (sIf tt t u) := psd_of (ps_if pt_w pss_w pss_w) fun b σ H env Dd E hd xl h el =>
  hc b σ H env _ _ hd xl h fun c H1 e1 h1 => by
    cases c with
    | true => rw [if_pos rfl] at h1 ⊢; exact ha b σ H1 env Dd E (hd.mono e1) xl h1 el
    | false => rw [if_neg Bool.false_ne_true] at h1 ⊢; exact hb b σ H1 env Dd E (hd.mono e1) xl h1 el
def sDrop (td : TED) : TSD := fun Dd env => td env fun _ => Dd.nx env
theorem ds_expr (he : PED X g e td) (hs : swapsWith e none pos.line X.env = pure false := by rfl) : PSD X g (.Expr e pos) (sDrop td) := psd_of (ps_expr pe_w hs) fun b σ H env Dd E hd xl h el =>
  he b σ H env _ _ hd xl h fun v d H1 e1 dn q => el.nx _ _ _ (hd.mono e1) q

def noOwn : DEnv → Bool
  | [] => true
  | .own _ :: _ => false
  | .val _ :: r => noOwn r
  | .no :: r => noOwn r
theorem noOwn_get : ∀ {env : DEnv}, noOwn env = true → ∀ {i : Nat} {xs : List D}, env[i]? ≠ some (Slot.own xs)
  | [], _, i, xs => by simp
  | .own _ :: _, h, _, _ => by simp [noOwn] at h
  | .val d :: r, h, 0, xs => by simp
  | .no :: r, h, 0, xs => by simp
  | .val d :: r, h, i + 1, xs => by simpa using noOwn_get (env := r) (by simpa [noOwn] using h) (i := i) (xs := xs)
  | .no :: r, h, i + 1, xs => by simpa using noOwn_get (env := r) (by simpa [noOwn] using h) (i := i) (xs := xs)
def keepable (env : DEnv) (i : Nat) (d : D) : Prop := noOwn (env.set i .no) = true ∨ d.noLst = true
theorem get_set {α : Type} {l : List α} {i j : Nat} {x y : α} (h : (l.set i x)[j]? = some y) : (j = i ∧ y = x) ∨ (j ≠ i ∧ l[j]? = some y) := by
  by_cases e : j = i
  · subst e
    by_cases hl : j < l.length
    · rw [List.getElem?_set_self hl] at h
      exact .inl ⟨rfl, (Option.some.inj h).symm⟩
    · rw [List.getElem?_eq_none (by rw [List.length_set]; omega)] at h
      cases h
  · rw [List.getElem?_set_ne (Ne.symm e)] at h
    exact .inr ⟨e, h⟩
theorem DenE.put {K : PySem.W.Frag} {I : HI} {b : B0} {σ : L2.St} {H : Hp} {env : DEnv} (h : DenE K I b σ H env) {i : Nat} {v : V} {d : D} (dn : Den K I.own H v d) (kp : keepable env i d) : DenE K I b (σ.set i (some v)) H (env.set i (.val d)) := by
  obtain ⟨oa, h1, h2, h3, h4⟩ := h.slots
  have sub : ∀ a, AvOf I (env.set i (.val d)) oa a → AvOf I env oa a := fun a z => z.imp id fun ⟨j, xs, e, q⟩ => by
    rcases get_set e with ⟨_, e⟩ | ⟨_, e⟩
    · cases e
    · exact ⟨j, xs, e, q⟩
  refine ⟨by rw [List.length_set, List.length_set]; exact h.len, h.ext, oa, fun j xs e => ?_, fun j k xs ys e1 e2 => ?_, fun j d' e => ?_, fun p hp => Den.weak sub _ _ (h4 p hp)⟩
  · rcases get_set e with ⟨_, e⟩ | ⟨ne, e⟩
    · cases e
    · obtain ⟨⟨vs, e1, e2, e3⟩, e4⟩ := h1 j xs e
      exact ⟨⟨vs, by rw [List.getElem?_set_ne (Ne.symm ne)]; exact e1, e2, DenA.weak sub _ _ e3⟩, e4⟩
  · rcases get_set e1 with ⟨_, e1⟩ | ⟨_, e1⟩
    · cases e1
    · rcases get_set e2 with ⟨_, e2⟩ | ⟨_, e2⟩
      · cases e2
      · exact h2 j k xs ys e1 e2
  · rcases get_set e with ⟨ej, ed⟩ | ⟨ne, e⟩
    · have hl : j < σ.length := by
        rw [h.len]
        have := (List.getElem?_eq_some_iff.mp e).1
        rwa [List.length_set] at this
      subst ej
      have ed := Slot.val.inj ed
      subst ed
      refine ⟨v, by rw [List.getElem?_set_self hl], ?_⟩
      rcases kp with kp | kp
      · refine Den.weak (fun a z => ?_) _ _ dn
        rcases z with z | ⟨k, xs, e, _⟩
        · exact z
        · exfalso
          rcases get_set e with ⟨_, e⟩ | ⟨ne, e⟩
          · cases e
          · exact noOwn_get kp (i := k) (xs := xs) (by rw [List.getElem?_set_ne (Ne.symm ne)]; exact e)
      · refine Den.weak (fun a z => ?_) _ _ (Den.apart (P := fun a => ∃ (k : Nat) (xs : List D), env[k]? = some (Slot.own xs) ∧ a = oa k) (fun a ⟨k, xs, e, q⟩ => ?_) _ _ kp dn)
        · rcases z with z | ⟨k, xs, e, q⟩
          · exact .inl z
          · rcases get_set e with ⟨_, e⟩ | ⟨ne, e⟩
            · cases e
            · exact .inr ⟨k, xs, e, q⟩
        · obtain ⟨⟨vs, _, e2, _⟩, _⟩ := h1 k xs e
          rw [q]
          exact ⟨vs, e2⟩
    · obtain ⟨w, e1, e2⟩ := h3 j d' e
      exact ⟨w, by rw [List.getElem?_set_ne (Ne.symm ne)]; exact e1, Den.weak sub _ _ e2⟩
def sAsg (i : Nat) (td : TED) : TSD := fun Dd env => td env fun d => keepable env i d ∧ Dd.nx (env.set i (.val d))
theorem ds_set {i : Nat} {x : Str} {pos' : Pos} (hN : X.N.Nodup) (hi : X.N[i]? = some x) (hx : Loc X.env.scope x) (he : PED X g e td) (hs : swapsWith e (some (.Name x pos')) pos.line X.env = pure false := by rfl)
    (hf : X.fn x = true ∨ X.env.scope.names.lookup x = some .local := by first | exact .inl rfl | exact .inr rfl | assumption) : PSD X g (.Assign [.Name x pos'] e pos) (sAsg i td) :=
  psd_of (ps_set hN hi hx pe_w hs hf) fun b σ H env Dd E hd xl h el => he b σ H env _ _ hd xl h fun v d H1 e1 dn ⟨kp, q⟩ => el.nx _ _ _ ((hd.mono e1).put dn kp) q
end
end Dl

namespace Dl
open PySem PySem.Spec PyProof.Rows L2

section
variable {K : PySem.W.Frag} {I : HI} {b : B0} {σ : L2.St} {H H' : Hp} {env : DEnv}
theorem Kp.back {Av : Addr → Prop} {p : Addr} (k : Kp Av H H') (ha : Av p → H' p ≠ none) (h : H' p = none) : H p = none := by
  cases e : H p with
  | none => rfl
  | some o =>
    by_cases n : Av p
    · exact absurd h (ha n)
    · rw [k p o n e] at h; cases h
theorem Ext.back {p : Addr} (e : Ext I H H') (h : H' p = none) : H p = none := e.1.back (fun n => I.dom H' p e.2 (I.sub p n)) h
theorem Ext.ofNew (ok : I.ok H) (k : Kp (fun _ => False) H H') : Ext I H H' :=
  ⟨k.weak fun _ z => z.elim, I.loc H H' (fun a f => by
    cases e : H a with
    | none => exact absurd e (I.dom H a ok f)
    | some o => exact k a o id e) ok⟩
def frzS : Slot → Slot
  | .own xs => .val (.lst xs)
  | .val d => .val d
  | .no => .no
def frz (env : DEnv) : DEnv := env.map frzS
theorem frz_no {i : Nat} {xs : List D} : (frz env)[i]? ≠ some (Slot.own xs) := fun h => by
  unfold frz at h
  rw [List.getElem?_map] at h
  cases e : env[i]? with
  | none => rw [e] at h; cases h
  | some s => rw [e] at h; cases s <;> cases h
theorem noOwn_frz : ∀ env : DEnv, noOwn (frz env) = true
  | [] => rfl
  | .own _ :: r => noOwn_frz r
  | .val _ :: r => noOwn_frz r
  | .no :: r => noOwn_frz r
theorem DenE.frz (h : DenE K I b σ H env) : DenE K I b σ H (frz env) := by
  obtain ⟨oa, h1, h2, h3, h4⟩ := h.slots
  have sub : ∀ a, AvOf I (Dl.frz env) oa a → I.own a := fun a z => z.elim id fun ⟨i, xs, e, _⟩ => absurd e frz_no
  have sub2 : ∀ a, AvOf I (Dl.frz env) oa a → AvOf I env oa a := fun a z => .inl (sub a z)
  refine ⟨by rw [h.len]; unfold Dl.frz; rw [List.length_map], h.ext, oa, fun i xs e => absurd e frz_no, fun i j xs ys e => absurd e frz_no, fun i d e => ?_, fun p hp => Den.weak sub2 _ _ (h4 p hp)⟩
  have e2 : (env[i]?).map frzS = some (.val d) := by rw [← List.getElem?_map]; exact e
  obtain ⟨s, e3, e4⟩ := Option.map_eq_some_iff.mp e2
  cases s with
  | no => cases e4
  | val d' =>
    have ed := Slot.val.inj e4
    subst ed
    obtain ⟨v, q1, q2⟩ := h3 i d' e3
    exact ⟨v, q1, Den.weak sub2 _ _ q2⟩
  | own xs =>
    have ed := Slot.val.inj e4
    subst ed
    obtain ⟨⟨vs, q1, q2, q3⟩, _, q5⟩ := h1 i xs e3
    refine ⟨_, q1, ?_⟩
    simp only [Den]
    exact ⟨_, vs, rfl, q2, fun z => q5 (I.sub _ (sub _ z)), DenA.weak sub2 _ _ q3⟩
theorem DenE.hold (h : DenE K I b σ H env) {v : V} {d : D} (dn : Den K I.own H v d) (kp : noOwn env = true ∨ d.noLst = true) : DenE K I ⟨b.H0, (v, d) :: b.hs⟩ σ H env := by
  obtain ⟨oa, h1, h2, h3, h4⟩ := h.slots
  refine ⟨h.len, h.ext, oa, h1, h2, h3, fun p hp => ?_⟩
  rcases List.mem_cons.mp hp with e | hp
  · subst e
    rcases kp with kp | kp
    · exact Den.weak (fun a z => z.elim id fun ⟨k, xs, e, _⟩ => absurd e (noOwn_get kp)) _ _ dn
    · refine Den.weak (fun a z => z) _ _ (Den.apart (P := fun a => ∃ (k : Nat) (xs : List D), env[k]? = some (Slot.own xs) ∧ a = oa k) (fun a ⟨k, xs, e, q⟩ => ?_) _ _ kp dn)
      obtain ⟨⟨vs, _, e2, _⟩, _⟩ := h1 k xs e
      rw [q]; exact ⟨vs, e2⟩
  · exact h4 p hp
theorem DenE.unhold {hw : List (V × D)} (h : DenE K I ⟨b.H0, hw ++ b.hs⟩ σ H env) : DenE K I b σ H env := by
  obtain ⟨oa, h1, h2, h3, h4⟩ := h.slots
  exact ⟨h.len, h.ext, oa, h1, h2, h3, fun p hp => h4 p (List.mem_append_right _ hp)⟩
theorem DenE.putH {v : V} {d : D} (h : DenE K I ⟨b.H0, (v, d) :: b.hs⟩ σ H env) (i : Nat) : DenE K I b (σ.set i (some v)) H (env.set i (.val d)) := by
  obtain ⟨oa, h1, h2, h3, h4⟩ := h.slots
  have sub : ∀ a, AvOf I (env.set i (.val d)) oa a → AvOf I env oa a := fun a z => z.imp id fun ⟨j, xs, e, q⟩ => by
    rcases get_set e with ⟨_, e⟩ | ⟨_, e⟩
    · cases e
    · exact ⟨j, xs, e, q⟩
  refine ⟨by rw [List.length_set, List.length_set]; exact h.len, h.ext, oa, fun j xs e => ?_, fun j k xs ys e1 e2 => ?_, fun j d' e => ?_, fun p hp => Den.weak sub _ _ (h4 p (List.mem_cons_of_mem _ hp))⟩
  · rcases get_set e with ⟨_, e⟩ | ⟨ne, e⟩
    · cases e
    · obtain ⟨⟨vs, e1, e2, e3⟩, e4⟩ := h1 j xs e
      exact ⟨⟨vs, by rw [List.getElem?_set_ne (Ne.symm ne)]; exact e1, e2, DenA.weak sub _ _ e3⟩, e4⟩
  · rcases get_set e1 with ⟨_, e1⟩ | ⟨_, e1⟩
    · cases e1
    · rcases get_set e2 with ⟨_, e2⟩ | ⟨_, e2⟩
      · cases e2
      · exact h2 j k xs ys e1 e2
  · rcases get_set e with ⟨ej, ed⟩ | ⟨ne, e⟩
    · have hl : j < σ.length := by
        rw [h.len]
        have := (List.getElem?_eq_some_iff.mp e).1
        rwa [List.length_set] at this
      subst ej
      have ed := Slot.val.inj ed
      subst ed
      exact ⟨v, by rw [List.getElem?_set_self hl], Den.weak sub _ _ (h4 (v, d') List.mem_cons_self)⟩
    · obtain ⟨w, e1, e2⟩ := h3 j d' e
      exact ⟨w, by rw [List.getElem?_set_ne (Ne.symm ne)]; exact e1, Den.weak sub _ _ e2⟩
theorem DenE.parts {v : V} {ds : List D} (h : DenE K I ⟨b.H0, (v, .tup ds) :: b.hs⟩ σ H env) : ∃ a vs, v = .ref a ∧ SqT K H a vs ∧ vs.length = ds.length ∧ DenE K I ⟨b.H0, vs.zip ds ++ b.hs⟩ σ H env := by
  obtain ⟨oa, h1, h2, h3, h4⟩ := h.slots
  have := h4 (v, .tup ds) List.mem_cons_self
  simp only [Den] at this
  obtain ⟨a, vs, e, s, n, r⟩ := this
  refine ⟨a, vs, e, s, r.len, h.len, h.ext, oa, h1, h2, h3, fun p hp => ?_⟩
  rcases List.mem_append.mp hp with hp | hp
  · obtain ⟨i, hi⟩ := List.mem_iff_getElem?.mp hp
    rw [List.getElem?_zip_eq_some] at hi
    obtain ⟨w, q1, q2⟩ := r.get hi.2
    rw [hi.1] at q1
    cases q1
    exact q2
  · exact h4 p (List.mem_cons_of_mem _ hp)
end

abbrev TGD := D → DEnv → (DEnv → Prop) → Prop
def wG (X : Cx) (tg : Expr) : TG := fun v σ H Q => ∀ pins s u, Inv X pins σ H s → RelV v u → wpAny (model X.prog X.w) X.A (assign tg X.env u) (fun _ s' => ∃ σ' H', Inv X pins σ' H' s' ∧ Q σ' H') X.xe s
def SG (K : PySem.W.Frag) (g : Gx) (gt : TG) (gd : TGD) : Prop :=
  ∀ (b : B0) (σ : L2.St) (H : Hp) (env : DEnv) (v : V) (d : D) (Qd : DEnv → Prop) (Q : L2.St → Hp → Prop), DenE K g.I ⟨b.H0, (v, d) :: b.hs⟩ σ H env → gd d env Qd → (∀ σ' H' env', DenE K g.I b σ' H' env' → Ext g.I H H' → Qd env' → Q σ' H') → gt v σ H Q
def PGD (X : Cx) (g : Gx) (tg : Expr) (gd : TGD) : Prop := SG X.K g (wG X tg) gd
section
variable {X : Cx} {g : Gx} {tg : Expr} {pos : Pos} {gt : TG} {gd : TGD}
theorem pg_w : PG X tg (wG X tg) := ⟨fun pins s σ H v u Q J r h => h pins s u J r⟩
theorem pgd_of (p : PG X tg gt) (h : SG X.K g gt gd) : PGD X g tg gd := fun b σ H env v d Qd Q hd ht k pins s u J r => p.run pins s σ H v u Q J r (h b σ H env v d Qd Q hd ht k)
def gdName (i : Nat) : TGD := fun d env Q => Q (env.set i (.val d))
theorem sg_name {K : PySem.W.Frag} {i : Nat} : SG K g (gName i) (gdName i) := fun b σ H env v d Qd Q hd h k => k _ _ _ (hd.putH i) (.refl hd.ok) h
theorem dg_name {i : Nat} {x : Str} (hN : X.N.Nodup) (hi : X.N[i]? = some x) (hx : Loc X.env.scope x) (hf : X.fn x = true ∨ X.env.scope.names.lookup x = some .local := by first | exact .inl rfl | exact .inr rfl | assumption) : PGD X g (.Name x pos) (gdName i) :=
  pgd_of (pg_name hN hi hx hf) sg_name
def putAll : List Nat → List D → DEnv → DEnv
  | i :: is, d :: ds, env => putAll is ds (env.set i (.val d))
  | _, _, env => env
def gNames : List Nat → TGs
  | [] => gNil
  | i :: is => gCons (gName i) (gNames is)
def gdTup (is : List Nat) : TGD := fun d env Q => ∃ ds, d = .tup ds ∧ ds.length = is.length ∧ Q (putAll is ds env)
theorem sg_names {K : PySem.W.Frag} {I : HI} : ∀ (is : List Nat) (b : B0) (σ : L2.St) (H : Hp) (env : DEnv) (vs : List V) (ds : List D) (Q : L2.St → Hp → Prop), vs.length = ds.length → ds.length = is.length →
    DenE K I ⟨b.H0, vs.zip ds ++ b.hs⟩ σ H env → (∀ σ', DenE K I b σ' H (putAll is ds env) → Q σ' H) → gNames is vs σ H Q
  | [], b, σ, H, env, vs, ds, Q, h1, h2, hd, k => by
    have e1 : ds = [] := List.length_eq_zero_iff.mp h2
    subst e1
    have e2 : vs = [] := List.length_eq_zero_iff.mp h1
    subst e2
    exact ⟨rfl, k σ hd⟩
  | i :: is, b, σ, H, env, [], d :: ds, Q, h1, h2, hd, k => by cases h1
  | i :: is, b, σ, H, env, vs, [], Q, h1, h2, hd, k => by cases h2
  | i :: is, b, σ, H, env, v :: vs, d :: ds, Q, h1, h2, hd, k =>
    ⟨v, vs, rfl, sg_names is b _ H _ vs ds Q (Nat.succ.inj h1) (Nat.succ.inj h2) (DenE.putH (b := ⟨b.H0, vs.zip ds ++ b.hs⟩) hd i) k⟩
theorem sg_tup {K : PySem.W.Frag} {is : List Nat} : SG K g (gTup K is.length (gNames is)) (gdTup is) := fun b σ H env v d Qd Q hd ⟨ds, e, hl, h⟩ k => by
  subst e
  obtain ⟨a, vs, ev, s, hl2, hd2⟩ := hd.parts
  exact ⟨a, vs, ev, s, hl2.trans hl, sg_names is b σ H env vs ds Q hl2 hl hd2 fun σ' hd3 => k σ' H _ hd3 (.refl hd.ok) h⟩
theorem dg_tup {es : List Expr} {k : Nat} {is : List Nat} (hc : X.calm = true) (h : PGs X es (gNames is)) (hn : (assignEach es X.env).length = is.length := by rfl) (hst : List.findIdx? (fun x => x.fst) (assignEach es X.env) = none := by rfl) : PGD X g (.Tuple es k pos) (gdTup is) :=
  pgd_of (pg_tup (pos := pos) (k := k) (n := is.length) hc h hn hst) sg_tup
end

def ItD (K : PySem.W.Frag) (J : It) (hw : List (V × D)) (ds : List D) : Prop :=
  ∀ (Av : Addr → Prop) (H : Hp), (∀ p ∈ hw, Den K Av H p.1 p.2) → (∀ a, Av a → H a ≠ none) →
    (∀ i, i < ds.length → J.go i H ∧ ∀ x H', J.yld i H x H' → Kp (fun _ => False) H H' ∧ ∃ d, ds[i]? = some d ∧ Den K Av H' x d) ∧ J.stop ds.length H
abbrev TID := DEnv → (List D → Prop) → Prop
def wI (X : Cx) (tg it : Expr) : TI := fun σ H R => ∀ pins s, Inv X pins σ H s → wpAny (model X.prog X.w) X.A (eval it X.env) (fun v s1 => wpAny (model X.prog X.w) X.A (pyIter v) (PIE X pins σ tg R) X.xe s1) X.xe s
def SI (K : PySem.W.Frag) (g : Gx) (wi : TI) (td : TID) : Prop :=
  ∀ (b : B0) (σ : L2.St) (H : Hp) (env : DEnv) (Qd : List D → Prop) (R : It → Hp → Prop), DenE K g.I b σ H env → XL K g b → td env Qd →
    (∀ J H' hw ds, DenE K g.I ⟨b.H0, hw ++ b.hs⟩ σ H' env → Ext g.I H H' → ItD K J hw ds → Qd ds → R J H') → wi σ H R
def PID (X : Cx) (g : Gx) (tg it : Expr) (td : TID) : Prop := SI X.K g (wI X tg it) td
section
variable {X : Cx} {g : Gx} {tg it e a : Expr} {es : List Expr} {pos p : Pos} {wi : TI} {td : TED} {tid : TID} {tas : TAD}
theorem pi_w : PI X tg it (wI X tg it) := ⟨fun pins s σ H R J h => h pins s J⟩
theorem pid_of (p : PI X tg it wi) (h : SI X.K g wi tid) : PID X g tg it tid := fun b σ H env Qd R hd xl ht k pins s J => p.run pins s σ H R J (h b σ H env Qd R hd xl ht k)
theorem itd_list {K : PySem.W.Frag} {a : Addr} {ds : List D} : ItD K (Itl K a) [(.ref a, .lst ds)] ds := fun Av H hw _ => by
  have := hw _ List.mem_cons_self
  simp only [Den] at this
  obtain ⟨a', vs, e, s, n, r⟩ := this
  cases e
  refine ⟨fun i hi => ?_, vs, SqL.of s, by rw [r.len]; exact Nat.le_refl _⟩
  obtain ⟨v, q1, q2⟩ := r.get (List.getElem?_eq_getElem hi)
  exact ⟨⟨vs, v, SqL.of s, q1⟩, fun x H' ⟨e, y⟩ => by
    subst e
    have := y vs (SqL.of s)
    rw [q1] at this
    cases this
    exact ⟨Kp.refl, _, List.getElem?_eq_getElem hi, q2⟩⟩
theorem itd_tup {K : PySem.W.Frag} {a : Addr} {ds : List D} : ItD K (Itt K a) [(.ref a, .tup ds)] ds := fun Av H hw _ => by
  have := hw _ List.mem_cons_self
  simp only [Den] at this
  obtain ⟨a', vs, e, s, n, r⟩ := this
  cases e
  refine ⟨fun i hi => ?_, vs, s, by rw [r.len]; exact Nat.le_refl _⟩
  obtain ⟨v, q1, q2⟩ := r.get (List.getElem?_eq_getElem hi)
  exact ⟨⟨vs, v, s, q1⟩, fun x H' ⟨e, y⟩ => by
    subst e
    have := y vs s
    rw [q1] at this
    cases this
    exact ⟨Kp.refl, _, List.getElem?_eq_getElem hi, q2⟩⟩
def rngD (lo : Int) (n : Nat) : List D := (List.range n).map fun (i : Nat) => D.int (lo + (i : Int))
theorem rngD_len {lo : Int} {n : Nat} : (rngD lo n).length = n := by simp [rngD]
theorem rngD_get {lo : Int} {n i : Nat} (h : i < n) : (rngD lo n)[i]? = some (.int (lo + (i : Int))) := by simp [rngD, h]
theorem itd_rng {K : PySem.W.Frag} {lo : Int} {n : Nat} : ItD K (Itr lo n) [] (rngD lo n) := fun Av H hw _ => by
  refine ⟨fun i hi => ?_, by rw [rngD_len]; exact Nat.le_refl n⟩
  rw [rngD_len] at hi
  exact ⟨hi, fun x H' ⟨e, y⟩ => by
    subst e y
    exact ⟨Kp.refl, _, rngD_get hi, by simp only [Den]⟩⟩
def iSeq (K : PySem.W.Frag) (tl : TE) : TI := fun σ H R => tl σ H fun x H1 => (∃ a, x = .ref a ∧ (∃ xs, SqL K H1 a xs) ∧ R (Itl K a) H1) ∨ ∃ a, x = .ref a ∧ (∃ xs, SqT K H1 a xs) ∧ R (Itt K a) H1
theorem pi_seq {l : Expr} {tl : TE} (hl : PE X l tl) : PI X tg l (iSeq X.K tl) := by
  refine ⟨fun pins s σ H R I h => ?_⟩
  refine thn (hl.run pins s σ H _ I h) fun v s1 ⟨x, H1, I1, r1, q1⟩ => ?_
  rcases q1 with ⟨a, e, ⟨xs, hq⟩, q⟩ | ⟨a, e, ⟨xs, hq⟩, q⟩
  · subst e
    cases r1
    obtain ⟨its, rv, p, hz⟩ := I1.list hq
    refine wpAny_pyIter_list p.isList ?_
    refine ⟨s1.heap.objs.size, [s1.heap.objs.size], _, _, H1, rfl, I1.kept (t' := s1.toks) fun b o e => Heap.get?_push_of_some _ e, turn_list a _, ⟨_, Heap.get?_push_size _ rfl, rfl, rfl⟩, fun b hb => ?_, q⟩
    have e : b = s1.heap.objs.size := by simpa using hb
    subst e
    exact I1.fpOk (Nat.le_refl _) (I1.hok.fresh (Nat.le_refl _))
  · subst e
    cases r1
    obtain ⟨its, rv, p, hz⟩ := I1.tuple hq
    refine wpAny_pyIter_tuple (show s1.heap.IsTuple a its.toArray from p) ?_
    refine ⟨s1.heap.objs.size, [s1.heap.objs.size], _, _, H1, rfl, I1.kept (t' := s1.toks) fun b o e => Heap.get?_push_of_some _ e, turn_tuple a _, ⟨_, Heap.get?_push_size _ rfl, rfl, rfl⟩, fun b hb => ?_, q⟩
    have e : b = s1.heap.objs.size := by simpa using hb
    subst e
    exact I1.fpOk (Nat.le_refl _) (I1.hok.fresh (Nat.le_refl _))
def seqOf : D → Option (List D)
  | .tup xs => some xs
  | .lst xs => some xs
  | _ => none
def idSeq (td : TED) : TID := fun env Q => td env fun d => (noOwn env = true ∨ d.noLst = true) ∧ ∃ ds, seqOf d = some ds ∧ Q ds
theorem si_seq {K : PySem.W.Frag} {b : B0} {σ : L2.St} {H : Hp} {env : DEnv} {I : HI} {R : It → Hp → Prop} {v : V} {d : D} {ds : List D} (hd : DenE K I ⟨b.H0, (v, d) :: b.hs⟩ σ H env) (hs : seqOf d = some ds)
    (k : ∀ J hw, DenE K I ⟨b.H0, hw ++ b.hs⟩ σ H env → ItD K J hw ds → R J H) : (∃ a, v = .ref a ∧ (∃ xs, SqL K H a xs) ∧ R (Itl K a) H) ∨ ∃ a, v = .ref a ∧ (∃ xs, SqT K H a xs) ∧ R (Itt K a) H := by
  obtain ⟨oa, h1, h2, h3, h4⟩ := hd.slots
  have dn := h4 _ List.mem_cons_self
  cases d <;> simp only [seqOf, Option.some.injEq] at hs <;> simp only [Den] at dn
  case tup xs =>
    subst hs
    obtain ⟨a, vs, rfl, s, n, r⟩ := dn
    exact .inr ⟨a, rfl, ⟨vs, s⟩, k _ _ hd itd_tup⟩
  case lst xs =>
    subst hs
    obtain ⟨a, vs, rfl, s, n, r⟩ := dn
    exact .inl ⟨a, rfl, ⟨vs, SqL.of s⟩, k _ _ hd itd_list⟩
  all_goals cases hs
theorem di_seq (he : PED X g e td) : PID X g tg e (idSeq td) := pid_of (pi_seq pe_w) fun b σ H env Qd R hd xl ht k =>
  he b σ H env _ _ hd xl ht fun v d H1 e1 dn ⟨kp, ds, hs, q⟩ => si_seq ((hd.mono e1).hold dn kp) hs fun J hw hd2 it => k J H1 hw ds hd2 e1 it q
def idVar (i : Nat) : TID := fun env Q => ∃ d ds, env[i]? = some (.val d) ∧ seqOf d = some ds ∧ Q ds
theorem di_var (i : Nat) {x : Str} (hN : X.N[i]? = some x := by rfl) (hv : Vis X.env.scope x := by first | exact Or.inl rfl | exact Or.inr (Or.inl rfl) | exact Or.inr (Or.inr rfl)) (hd : (x == ("__debug__" : Str)) = false := by decide)
    (hcd : (x == ("__classdict__" : Str)) = false := by decide) : PID X g tg (.Name x p) (idVar i) := pid_of (pi_seq (pe_var hN hv hd hcd)) fun b σ H env Qd R hd xl ⟨d, ds, e, hs, q⟩ k => by
  obtain ⟨oa, h1, h2, h3, h4⟩ := hd.slots
  obtain ⟨v, q1, q2⟩ := h3 i d e
  refine ⟨v, q1, si_seq (b := b) (env := env) (σ := σ) (d := d) ⟨hd.len, hd.ext, oa, h1, h2, h3, fun p hp => ?_⟩ hs fun J hw hd2 it => k J H hw ds hd2 (.refl hd.ok) it q⟩
  rcases List.mem_cons.mp hp with z | hp
  · rw [z]; exact q2
  · exact h4 p hp
def idRng1 (ta : TAD) : TID := fun env Q => ta env fun xs => ∃ j : Int, xs = [.int j] ∧ (-(2 ^ 62) ≤ j ∧ j < 2 ^ 62) ∧ Q (rngD 0 j.toNat)
theorem di_range1 (hg : Gl X "range") (hm : X.mg "range" = none) (ha : PAD X g [a] tas) (hs : starEach [a] X.env = [(false, eval a X.env)] := by rfl) : PID X g tg (.Call (.Name "range" p) [a] [] pos) (idRng1 tas) :=
  pid_of (pi_range1 hg hm pa_w hs) fun b σ H env Qd R hd xl ht k => ha b σ H env _ _ hd xl ht fun vs ds H1 e1 dn ⟨j, e, hj, q⟩ => by
    subst e
    obtain ⟨v, rfl, d1⟩ := dn.one1
    simp only [Den] at d1
    subst d1
    exact ⟨j, rfl, hj.1, hj.2, k _ H1 [] _ (hd.mono e1) e1 itd_rng q⟩
end

def forD (gd : TGD) (tb : TSD) (Dd : DEnds) : List D → DEnv → Prop
  | [], env => Dd.nx env
  | x :: xs, env => gd x env (tb { Dd with nx := forD gd tb Dd xs, ct := forD gd tb Dd xs, bk := Dd.nx })
def sFor (tid : TID) (gd : TGD) (tb : TSD) : TSD := fun Dd env => tid env fun ds => forD gd tb Dd ds env
section
variable {X : Cx} {g : Gx} {tg it : Expr} {body : List Stmt} {pos : Pos} {tid : TID} {gd : TGD} {tb : TSD}
theorem ds_for (hp : PassesOwn (model X.prog X.w) X.A X.env X.xe) (hc : X.calm = true) (hi : PID X g tg it tid) (hg : PGD X g tg gd) (hb : PSsD X g body tb) (hs : ∀ x, foldedSetIterable it X.env x = pure x := by intro _; rfl) :
    PSD X g (.For tg it body [] pos) (sFor tid gd tb) := psd_of (ps_for hp hc pi_w pg_w pss_w hs) fun b σ H env Dd E hd xl h el =>
  hi b σ H env _ _ hd xl h fun J H1 hw ds hd1 e1 it0 q => by
    refine ⟨fun i m σ' H' => m = ds.length - i ∧ i ≤ ds.length ∧ ∃ env', DenE X.K g.I ⟨b.H0, hw ++ b.hs⟩ σ' H' env' ∧ forD gd tb Dd (ds.drop i) env', ⟨ds.length, by simp, Nat.zero_le _, env, hd1, by simpa using q⟩, ?_⟩
    rintro i m σ' H' ⟨rfl, hi', env', hd', q'⟩
    obtain ⟨oa, h1, h2, h3, h4⟩ := hd'.slots
    have hav : ∀ a, AvOf g.I env' oa a → H' a ≠ none := fun a z => by
      rcases z with z | ⟨k, xs, e, q⟩
      · exact g.I.dom H' a hd'.ok (g.I.sub a z)
      · obtain ⟨⟨vs, _, e2, _⟩, _⟩ := h1 k xs e
        rw [q, e2]; exact fun z => nomatch z
    have IT := it0 (AvOf g.I env' oa) H' (fun p hp => h4 p (List.mem_append_left _ hp)) hav
    by_cases hlt : i < ds.length
    · refine .inr ⟨(IT.1 i hlt).1, fun σ2 H2 => ∃ env2, DenE X.K g.I ⟨b.H0, hw ++ b.hs⟩ σ2 H2 env2 ∧ forD gd tb Dd (ds.drop (i + 1)) env2, fun σ2 H2 ⟨env2, p1, p2⟩ => ⟨ds.length - (i + 1), by omega, rfl, hlt, env2, p1, p2⟩, fun x H2 y => ?_⟩
      obtain ⟨kn, d, hd2, dn⟩ := (IT.1 i hlt).2 x H2 y
      have e2 : Ext g.I H' H2 := .ofNew hd'.ok kn
      have q2 : forD gd tb Dd (d :: ds.drop (i + 1)) env' := by
        rw [List.drop_eq_getElem_cons hlt] at q'
        have : d = ds[i] := by
          rw [List.getElem?_eq_getElem hlt] at hd2
          exact (Option.some.inj hd2).symm
        rw [this]; exact q'
      have hd3 := hd'.mono e2
      have held : DenE X.K g.I ⟨b.H0, (x, d) :: (hw ++ b.hs)⟩ σ' H2 env' := by
        have kp : Kp (AvOf g.I env' oa) H' H2 := kn.weak fun _ z => z.elim
        refine ⟨hd3.len, hd3.ext, oa, fun i xs q => ?_, h2, fun i d q => ?_, fun p hp => ?_⟩
        · obtain ⟨⟨vs, e1, e2, e3⟩, e4⟩ := h1 i xs q
          exact ⟨⟨vs, e1, kn _ _ id e2, DenA.keep kp _ _ e3⟩, e4⟩
        · obtain ⟨v, e1, e2⟩ := h3 i d q
          exact ⟨v, e1, Den.keep kp _ _ e2⟩
        · rcases List.mem_cons.mp hp with z | hp
          · rw [z]; exact dn
          · exact Den.keep kp _ _ (h4 p hp)
      refine hg ⟨b.H0, hw ++ b.hs⟩ σ' H2 env' x d _ _ held q2 fun σ3 H3 env3 hd4 e3 q3 => ?_
      refine hb ⟨b.H0, hw ++ b.hs⟩ σ3 H3 env3 _ _ hd4 (fun σ4 H4 env4 xx d4 H5 p1 p2 p3 p4 => xl σ4 H4 env4 xx d4 H5 p1.unhold p2 p3 p4) q3 ⟨fun σ4 H4 env4 p1 p2 => ⟨env4, p1, p2⟩, el.rt, fun σ4 H4 env4 p1 p2 => el.nx _ _ _ p1.unhold p2, fun σ4 H4 env4 p1 p2 => ⟨env4, p1, p2⟩, el.rf⟩
    · have ei : i = ds.length := by omega
      subst ei
      rw [List.drop_length] at q'
      exact .inl ⟨IT.2, el.nx _ _ _ hd'.unhold q'⟩
end
end Dl

namespace Dl
open PySem PySem.Spec PyProof.Rows L2

abbrev TFD := DEnv → (List D → Prop) → Prop
def SF (K : PySem.W.Frag) (g : Gx) (te : TE) (td : TFD) : Prop :=
  ∀ (b : B0) (σ : L2.St) (H : Hp) (env : DEnv) (Qd : List D → Prop) (Q : VK), DenE K g.I b σ H env → XL K g b → td env Qd →
    (∀ p vs ds H', H p = none → Ext g.I H H' → H' p = some (.lst vs) → DenA K (fun a => g.I.own a ∨ a = p) H' vs ds → Qd ds → Q (.ref p) H') → te σ H Q
def PFD (X : Cx) (g : Gx) (e : Expr) (td : TFD) : Prop := SF X.K g (wE X e) td
def dF (td : TFD) : TED := fun env Q => td env fun ds => Q (.lst ds)
theorem SF.se {K : PySem.W.Frag} {g : Gx} {te : TE} {td : TFD} (h : SF K g te td) : SE K g te (dF td) := fun b σ H env Qd Q hd xl ht k =>
  h b σ H env _ _ hd xl ht fun p vs ds H' hp e hl dn q => k _ _ H' e (by
    simp only [Den]
    exact ⟨p, vs, rfl, hl, HI.nown hd.ok hp, DenA.weak (fun a z => .inl z) _ _ dn⟩) q

def wBE (X : Cx) (sc : Scope) (e : Expr) : TE := fun σ H Q => ∀ s0 H0 C cl fp pins s, Inv (X.blk s0 H0 sc (compEnvC sc cl C X.env) fp) pins σ H s → wpAny (model X.prog X.w) X.A (eval e (compEnvC sc cl C X.env)) (EP (X.blk s0 H0 sc (compEnvC sc cl C X.env) fp) pins σ Q) (fun _ _ => False) s
def wBT (X : Cx) (sc : Scope) (es : List Expr) : TT := fun σ H Q => ∀ s0 H0 C cl fp pins s, Inv (X.blk s0 H0 sc (compEnvC sc cl C X.env) fp) pins σ H s →
  wpAny (model X.prog X.w) X.A (forIn es true fun c r => if r = true then do let ok ← isTrue c (compEnvC sc cl C X.env) (eval c (compEnvC sc cl C X.env)); pure (ForInStep.yield ok) else pure (ForInStep.yield r)) (TP (X.blk s0 H0 sc (compEnvC sc cl C X.env) fp) pins σ Q) (fun _ _ => False) s
def dYes : TTD := fun _ Q => Q true
section
variable {X : Cx} {g : Gx} {sc : Scope} {e c : Expr} {td : TED} {tt : TTD}
theorem pe_blk {s : Shared} {H : Hp} {C : Addr} {cl : List (Str × Addr)} {fp : List Addr} : PE (X.blk s H sc (compEnvC sc cl C X.env) fp) e (wBE X sc e) := ⟨fun pins s σ H Q I h => h _ _ _ _ _ pins s I⟩
theorem pt_blk {es : List Expr} {s : Shared} {H : Hp} {C : Addr} {cl : List (Str × Addr)} {fp : List Addr} : PTs (X.blk s H sc (compEnvC sc cl C X.env) fp) es (wBT X sc es) := ⟨fun pins s σ H Q I h => h _ _ _ _ _ pins s I⟩
theorem be_of (h : ∀ (s : Shared) (H : Hp) (C : Addr) (cl : List (Str × Addr)) (fp : List Addr), PED (X.blk s H sc (compEnvC sc cl C X.env) fp) g.nox e td) : SE X.K g.nox (wBE X sc e) td :=
  fun b σ H env Qd Q hd xl ht k s0 H0 C cl fp pins s J => h s0 H0 C cl fp b σ H env Qd Q hd xl ht k pins s J
theorem bt_nil : ST X.K g.nox (wBT X sc []) dYes := fun b σ H env Qd Q hd xl ht k s0 H0 C cl fp pins s J => pts_nil.run pins s σ H Q J (k true H (.refl hd.ok) ht)
end
def wipeD (env : DEnv) : List Nat → DEnv
  | [] => env
  | v :: vs => (wipeD env vs).set v .no
def lcD (gd : TGD) (tt : TTD) (te : TED) (env : DEnv) : List D → List D → (List D → Prop) → Prop
  | [], acc, Q => Q acc
  | x :: xs, acc, Q => gd x env fun env2 => tt env2 fun b => if b = true then te env2 fun y => y.noLst = true ∧ lcD gd tt te env xs (acc ++ [y]) Q else lcD gd tt te env xs acc Q
def fLc (tid : TID) (gd : TGD) (tt : TTD) (te : TED) (vs : List Nat) : TFD := fun env Q => tid (frz env) fun ds => ds.length ≤ 1000000 ∧ lcD gd tt te (wipeD (frz env) vs) ds [] Q
def GW (gt : TG) (vs : List Nat) : Prop := ∀ v σ H Q, gt v σ H Q → gt v σ H fun σ2 H2 => wipe σ2 vs = wipe σ vs ∧ Q σ2 H2
theorem wipe_set {σ : L2.St} {i : Nat} {x : Option V} : ∀ {vs : List Nat}, wipe (σ.set i x) vs = if i ∈ vs then wipe σ vs else (wipe σ vs).set i x
  | [] => by simp [wipe]
  | v :: vs => by
    unfold wipe
    rw [wipe_set]
    by_cases h : i ∈ vs
    · rw [if_pos h, if_pos (List.mem_cons_of_mem _ h)]
    · rw [if_neg h]
      by_cases e : i = v
      · subst e
        rw [if_pos List.mem_cons_self, List.set_set]
      · rw [if_neg (fun z => (List.mem_cons.mp z).elim e h), List.set_comm _ _ e]
theorem gw_name {i : Nat} {vs : List Nat} (h : i ∈ vs) : GW (gName i) vs := fun v σ H Q q => ⟨by rw [wipe_set, if_pos h], q⟩
theorem gw_names {vs : List Nat} : ∀ {is : List Nat}, (∀ i ∈ is, i ∈ vs) → ∀ ws σ H Q, gNames is ws σ H Q → gNames is ws σ H fun σ2 H2 => wipe σ2 vs = wipe σ vs ∧ Q σ2 H2
  | [], _, ws, σ, H, Q, q => ⟨q.1, rfl, q.2⟩
  | i :: is, h, ws, σ, H, Q, ⟨v, r, e, q⟩ => by
    refine ⟨v, r, e, ?_⟩
    have := gw_names (is := is) (fun j hj => h j (List.mem_cons_of_mem _ hj)) r (σ.set i (some v)) H Q q
    rw [wipe_set, if_pos (h i List.mem_cons_self)] at this
    exact this
theorem gw_tup {K : PySem.W.Frag} {n : Nat} {is vs : List Nat} (h : ∀ i ∈ is, i ∈ vs) : GW (gTup K n (gNames is)) vs := fun v σ H Q ⟨a, xs, e, s, hl, q⟩ => ⟨a, xs, e, s, hl, gw_names h xs σ H Q q⟩
theorem wipe_idem {σ : L2.St} : ∀ vs : List Nat, wipe (wipe σ vs) vs = wipe σ vs := by
  have key : ∀ (ws : List Nat) (τ : L2.St) (vs : List Nat), (∀ w ∈ ws, w ∈ vs) → wipe (wipe τ ws) vs = wipe τ vs := by
    intro ws
    induction ws with
    | nil => intro τ vs _; rfl
    | cons w ws ih =>
      intro τ vs h
      show wipe ((wipe τ ws).set w none) vs = _
      rw [wipe_set, if_pos (h w List.mem_cons_self)]
      exact ih τ vs fun v hv => h v (List.mem_cons_of_mem _ hv)
  exact fun vs => key vs σ vs fun _ h => h
section
variable {K : PySem.W.Frag} {I : HI} {b : B0} {σ : L2.St} {H H' : Hp} {env : DEnv}
theorem DenE.clear (h : DenE K I b σ H env) (i : Nat) : DenE K I b (σ.set i none) H (env.set i .no) := by
  obtain ⟨oa, h1, h2, h3, h4⟩ := h.slots
  have sub : ∀ a, AvOf I (env.set i .no) oa a → AvOf I env oa a := fun a z => z.imp id fun ⟨j, xs, e, q⟩ => by
    rcases get_set e with ⟨_, e⟩ | ⟨_, e⟩
    · cases e
    · exact ⟨j, xs, e, q⟩
  refine ⟨by rw [List.length_set, List.length_set]; exact h.len, h.ext, oa, fun j xs e => ?_, fun j k xs ys e1 e2 => ?_, fun j d' e => ?_, fun p hp => Den.weak sub _ _ (h4 p hp)⟩
  · rcases get_set e with ⟨_, e⟩ | ⟨ne, e⟩
    · cases e
    · obtain ⟨⟨vs, e1, e2, e3⟩, e4⟩ := h1 j xs e
      exact ⟨⟨vs, by rw [List.getElem?_set_ne (Ne.symm ne)]; exact e1, e2, DenA.weak sub _ _ e3⟩, e4⟩
  · rcases get_set e1 with ⟨_, e1⟩ | ⟨_, e1⟩
    · cases e1
    · rcases get_set e2 with ⟨_, e2⟩ | ⟨_, e2⟩
      · cases e2
      · exact h2 j k xs ys e1 e2
  · rcases get_set e with ⟨_, ed⟩ | ⟨ne, e⟩
    · cases ed
    · obtain ⟨w, e1, e2⟩ := h3 j d' e
      exact ⟨w, by rw [List.getElem?_set_ne (Ne.symm ne)]; exact e1, Den.weak sub _ _ e2⟩
theorem DenE.wiped (h : DenE K I b σ H env) : ∀ vs : List Nat, DenE K I b (wipe σ vs) H (wipeD env vs)
  | [] => h
  | v :: vs => (DenE.wiped h vs).clear v
theorem DenE.rebase {hw : List (V × D)} (h : DenE K I ⟨b.H0, hw ++ b.hs⟩ σ H env) (n : noOwn env = true) : DenE K I ⟨H, hw⟩ σ H env := by
  obtain ⟨oa, h1, h2, h3, h4⟩ := h.slots
  exact ⟨h.len, .refl h.ok, oa, fun i xs e => absurd e (noOwn_get n), h2, h3, fun p hp => h4 p (List.mem_append_left _ hp)⟩
theorem noOwn_wipe {env : DEnv} (h : noOwn env = true) : ∀ vs : List Nat, noOwn (wipeD env vs) = true
  | [] => h
  | v :: vs => by
    have ih := noOwn_wipe h vs
    show noOwn ((wipeD env vs).set v .no) = true
    generalize wipeD env vs = e at ih
    clear h
    induction e generalizing v with
    | nil => simp [noOwn]
    | cons s r ihr =>
      cases v with
      | zero => cases s <;> simp_all [noOwn]
      | succ v => cases s <;> simp_all [noOwn]
end
theorem sf_lc {K : PySem.W.Frag} {g : Gx} {wi : TI} {gt : TG} {tt : TT} {te : TE} {vs : List Nat} {tid : TID} {gd : TGD} {td : TTD} {ed : TED} (hi : SI K g wi tid) (hg : SG K g.nox gt gd) (hw : GW gt vs) (ht : ST K g.nox tt td) (he : SE K g.nox te ed) :
    SF K g (tLc wi gt tt te vs) (fLc tid gd td ed vs) := fun b σ H env Qd Q hd xl hq k => by
  refine hi b σ H (frz env) _ _ hd.frz xl hq fun J H1 hws ds hd1 e1 it0 ⟨hlen, q⟩ => ?_
  intro D hD
  have hH : H D = none := e1.back hD
  have hE : DenE K g.I ⟨H1, hws⟩ (wipe σ vs) H1 (wipeD (frz env) vs) := (hd1.rebase (noOwn_frz env)).wiped vs
  have hno := noOwn_wipe (noOwn_frz env) vs
  have nD : ¬ g.I.own D := HI.nown e1.2 hD
  refine ⟨fun i m H' => m = ds.length - i ∧ i ≤ ds.length ∧ ∃ acc avs, H' D = some (.lst avs) ∧ avs.length ≤ i ∧ DenA K (fun a => g.I.own a ∨ a = D) H' avs acc ∧ Kp g.I.own H1 H' ∧ g.I.ok H' ∧ lcD gd td ed (wipeD (frz env) vs) (ds.drop i) acc Qd,
    ⟨ds.length, by simp, Nat.zero_le _, [], [], upd_same, Nat.zero_le _, by simp only [DenA], Kp.new hD, (Ext.new e1.2 hD).2, by simpa using q⟩, ?_⟩
  rintro i m H' ⟨rfl, hi', acc, avs, hl, hal, da, kp, ok, q'⟩
  have eH : Ext g.I H1 H' := ⟨kp, ok⟩
  have hE' := hE.mono eH
  obtain ⟨oa, h1, h2, h3, h4⟩ := id hE'.slots
  have IT := it0 g.I.own H' (fun p hp => Den.weak (fun a z => .inl z) _ _ (h4 p hp)) (fun a z => g.I.dom H' a ok (g.I.sub a z))
  by_cases hlt : i < ds.length
  · refine .inr ⟨(IT.1 i hlt).1, fun H2 => ∃ acc avs, H2 D = some (.lst avs) ∧ avs.length ≤ i + 1 ∧ DenA K (fun a => g.I.own a ∨ a = D) H2 avs acc ∧ Kp g.I.own H1 H2 ∧ g.I.ok H2 ∧ lcD gd td ed (wipeD (frz env) vs) (ds.drop (i + 1)) acc Qd,
      fun H2 h => ⟨ds.length - (i + 1), by omega, rfl, hlt, h⟩, fun x H2 y => ?_⟩
    obtain ⟨kn, d, hd2, dn⟩ := (IT.1 i hlt).2 x H2 y
    have e2 : Ext g.I H' H2 := .ofNew ok kn
    have q2 : lcD gd td ed (wipeD (frz env) vs) (d :: ds.drop (i + 1)) acc Qd := by
      rw [List.drop_eq_getElem_cons hlt] at q'
      have : d = ds[i] := by
        rw [List.getElem?_eq_getElem hlt] at hd2
        exact (Option.some.inj hd2).symm
      rw [this]; exact q'
    have held := (hE'.mono e2).hold dn (.inl hno)
    have wi2 : wipe (wipe σ vs) vs = wipe σ vs := wipe_idem vs
    refine (show gt x (wipe σ vs) H2 _ from ?_)
    have step := hw x (wipe σ vs) H2 _ (hg ⟨H1, hws⟩ (wipe σ vs) H2 _ x d _ (fun σ2 H3 => tt σ2 H3 fun b H4 => if b = true then te σ2 H4 fun y H5 => ∃ acc, H5 D = some (.lst acc) ∧ acc.length < sizeLine ∧
        (∃ acc' avs, (upd H5 D (.lst (acc ++ [y]))) D = some (.lst avs) ∧ avs.length ≤ i + 1 ∧ DenA K (fun a => g.I.own a ∨ a = D) (upd H5 D (.lst (acc ++ [y]))) avs acc' ∧ Kp g.I.own H1 (upd H5 D (.lst (acc ++ [y]))) ∧ g.I.ok (upd H5 D (.lst (acc ++ [y]))) ∧ lcD gd td ed (wipeD (frz env) vs) (ds.drop (i + 1)) acc' Qd)
        else ∃ acc avs, H4 D = some (.lst avs) ∧ avs.length ≤ i + 1 ∧ DenA K (fun a => g.I.own a ∨ a = D) H4 avs acc ∧ Kp g.I.own H1 H4 ∧ g.I.ok H4 ∧ lcD gd td ed (wipeD (frz env) vs) (ds.drop (i + 1)) acc Qd) held q2 fun σ3 H3 env3 hd3 e3 q3 => ?_)
    · rw [wi2] at step
      exact step
    · refine ht ⟨H1, hws⟩ σ3 H3 env3 _ _ hd3 XL.nox q3 fun c H4 e4 q4 => ?_
      have x4 : Ext g.I H' H4 := e2.trans (e3.trans e4)
      have l4 : H4 D = some (.lst avs) := x4.1 D _ nD hl
      have d4 : DenA K (fun a => g.I.own a ∨ a = D) H4 avs acc := DenA.keep (x4.1.weak fun a z => .inl z) _ _ da
      cases c with
      | false =>
        rw [if_neg Bool.false_ne_true] at q4 ⊢
        exact ⟨acc, avs, l4, by omega, d4, kp.trans x4.1, x4.2, q4⟩
      | true =>
        rw [if_pos rfl] at q4 ⊢
        refine he ⟨H1, hws⟩ σ3 H4 env3 _ _ (hd3.mono e4) XL.nox q4 fun yv yd H5 e5 dn5 ⟨nl, q5⟩ => ?_
        have l5 : H5 D = some (.lst avs) := e5.1 D _ nD l4
        have d5 : DenA K (fun a => g.I.own a ∨ a = D) H5 avs acc := DenA.keep (e5.1.weak fun a z => .inl z) _ _ d4
        have y5 : Den K (fun a => g.I.own a ∨ a = D) H5 yv yd := Den.apart (P := fun a => a = D) (fun a z => ⟨avs, by rw [z]; exact l5⟩) _ _ nl dn5
        have mu : Kp (fun a => g.I.own a ∨ a = D) H5 (upd H5 D (.lst (avs ++ [yv]))) := Kp.mut (.inr rfl)
        have k5 : Kp g.I.own H1 H5 := kp.trans (x4.1.trans e5.1)
        refine ⟨avs, l5, Nat.lt_of_le_of_lt hal (Nat.lt_of_lt_of_le hlt (Nat.le_trans hlen (by decide))), acc ++ [yd], avs ++ [yv], upd_same, by rw [List.length_append]; simpa using hal, DenA.keep mu _ _ (d5.app (.one y5)), fun a o n e => ?_, ?_, q5⟩
        · rw [upd_ne (ne_of_none e hD)]
          exact k5 a o n e
        · refine g.I.loc H5 _ (fun a f => upd_ne (fun z => ?_)) e5.2
          rw [z] at f
          exact g.I.dom H1 D e1.2 f hD
  · have ei : i = ds.length := by omega
    subst ei
    rw [List.drop_length] at q'
    exact .inl ⟨IT.2, k D avs acc H' hH (e1.trans eH) hl da q'⟩
section
variable {X : Cx} {g : Gx} {elt tg iter : Expr} {ifs : List Expr} {scope : Scope} {own : List (Str × Nat)} {pos : Pos} {gt : TG} {tid : TID} {gd : TGD} {td : TTD} {ed : TED}
theorem f_lc (hc : X.calm = true) (hN : X.N.Nodup) (hi : PID X g tg iter tid) (ok : BlkOk X.N X.env.scope scope own)
    (hg : ∀ (s : Shared) (H : Hp) (C : Addr) (cl : List (Str × Addr)) (fp : List Addr), PG (X.blk s H scope (compEnvC scope cl C X.env) fp) tg gt) (sg : SG X.K g.nox gt gd) (gw : GW gt (own.map (·.2)))
    (ht : ST X.K g.nox (wBT X scope ifs) td) (he : SE X.K g.nox (wBE X scope elt) ed) (hs : ∀ x, foldedSetIterable iter X.env x = pure x := by intro _; rfl) :
    PFD X g (.ListComp elt [⟨tg, iter, ifs, 0⟩] scope pos) (fLc tid gd td ed (own.map (·.2))) := fun b σ H env Qd Q hd xl hq k pins s J =>
  (pe_lc hc hN pi_w ok hg (fun _ _ _ _ _ => pt_blk) (fun _ _ _ _ _ => pe_blk) hs).run pins s σ H Q J (sf_lc hi sg gw ht he b σ H env Qd Q hd xl hq k)
end
end Dl

namespace Dl
open PySem PySem.Spec PyProof.Rows L2

def up (oa : Nat → Addr) (i : Nat) (p : Addr) : Nat → Addr := fun k => if k = i then p else oa k
theorem up_same {oa : Nat → Addr} {i : Nat} {p : Addr} : up oa i p i = p := if_pos rfl
theorem up_ne {oa : Nat → Addr} {i k : Nat} {p : Addr} (h : k ≠ i) : up oa i p k = oa k := if_neg h
section
variable {K : PySem.W.Frag} {I : HI} {b : B0} {σ : L2.St} {H H' : Hp} {env : DEnv}
theorem DenE.putNew (h : DenE K I b σ H env) {i : Nat} {p : Addr} {vs : List V} {ds : List D} (hi : i < env.length) (hp : H p = none) (e : Ext I H H') (hl : H' p = some (.lst vs)) (dn : DenA K (fun a => I.own a ∨ a = p) H' vs ds)
    (kp : noOwn (env.set i .no) = true ∨ noLstA ds = true) : DenE K I b (σ.set i (some (.ref p))) H' (env.set i (.own ds)) := by
  obtain ⟨oa, h1, h2, h3, h4⟩ := h.slots
  have np : ∀ k xs, env[k]? = some (Slot.own xs) → oa k ≠ p := fun k xs q z => by
    obtain ⟨⟨ws, _, e2, _⟩, _⟩ := h1 k xs q
    rw [z, hp] at e2
    cases e2
  have sub : ∀ a, AvOf I (env.set i (.own ds)) (up oa i p) a → AvOf I env oa a ∨ a = p := fun a z => by
    rcases z with z | ⟨j, xs, q, z⟩
    · exact .inl (.inl z)
    · rcases get_set q with ⟨ej, _⟩ | ⟨ne, q⟩
      · rw [ej, up_same] at z
        exact .inr z
      · rw [up_ne ne] at z
        exact .inl (.inr ⟨j, xs, q, z⟩)
  have kk : Kp (fun a => AvOf I env oa a ∨ a = p) H H' := e.1.weak fun a z => .inl (.inl z)
  have str : ∀ d v, Den K (AvOf I env oa) H v d → Den K (AvOf I (env.set i (.own ds)) (up oa i p)) H' v d := fun d v q => Den.weak sub _ _ (Den.keep kk _ _ (Den.fresh hp _ _ q))
  have strA : ∀ d v, DenA K (AvOf I env oa) H v d → DenA K (AvOf I (env.set i (.own ds)) (up oa i p)) H' v d := fun d v q => DenA.weak sub _ _ (DenA.keep kk _ _ (DenA.fresh hp _ _ q))
  refine ⟨by rw [List.length_set, List.length_set]; exact h.len, h.ext.trans e, up oa i p, fun j xs q => ?_, fun j k xs ys q1 q2 hjk => ?_, fun j d q => ?_, fun q hq => str _ _ (h4 q hq)⟩
  · rcases get_set q with ⟨ej, ed⟩ | ⟨ne, q⟩
    · subst ej
      have ed := Slot.own.inj ed
      subst ed
      refine ⟨⟨vs, ?_, ?_, ?_⟩, ?_, ?_⟩
      · rw [up_same, List.getElem?_set_self (by rw [h.len]; exact hi)]
      · rw [up_same]; exact hl
      · rcases kp with kp | kp
        · refine DenA.weak (fun a z => ?_) _ _ dn
          rcases z with z | ⟨k, ys, q2, z⟩
          · exact .inl z
          · rcases get_set q2 with ⟨ek, _⟩ | ⟨ne, q2⟩
            · rw [ek, up_same] at z
              exact .inr z
            · exact absurd (show (env.set j .no)[k]? = some (Slot.own ys) from by rw [List.getElem?_set_ne (Ne.symm ne)]; exact q2) (noOwn_get kp)
        · refine DenA.weak (fun a z => ?_) _ _ (DenA.apart (P := fun a => ∃ (k : Nat) (ys : List D), env[k]? = some (Slot.own ys) ∧ a = oa k) (fun a ⟨k, ys, q2, z⟩ => ?_) _ _ kp dn)
          · rcases z with z | ⟨k, ys, q2, z⟩
            · exact .inl (.inl z)
            · rcases get_set q2 with ⟨ek, _⟩ | ⟨ne, q2⟩
              · rw [ek, up_same] at z
                exact .inl (.inr z)
              · rw [up_ne ne] at z
                exact .inr ⟨k, ys, q2, z⟩
          · obtain ⟨⟨ws, _, e2, _⟩, _, e5⟩ := h1 k ys q2
            rw [z]
            exact ⟨ws, e.1 _ _ (fun z => e5 (I.sub _ z)) e2⟩
      · rw [up_same]; exact h.ext.back hp
      · rw [up_same]; exact fun z => I.dom H p h.ok z hp
    · obtain ⟨⟨ws, e1, e2, e3⟩, e4, e5⟩ := h1 j xs q
      refine ⟨⟨ws, ?_, ?_, strA _ _ e3⟩, ?_, ?_⟩
      · rw [up_ne ne, List.getElem?_set_ne (Ne.symm ne)]; exact e1
      · rw [up_ne ne]; exact e.1 _ _ (fun z => e5 (I.sub _ z)) e2
      · rw [up_ne ne]; exact e4
      · rw [up_ne ne]; exact e5
  · rcases get_set q1 with ⟨ej, _⟩ | ⟨nj, q1⟩ <;> rcases get_set q2 with ⟨ek, _⟩ | ⟨nk, q2⟩
    · rw [ej, ek]
    · rw [ej, up_same, up_ne nk] at hjk
      exact absurd hjk.symm (np k ys q2)
    · rw [ek, up_same, up_ne nj] at hjk
      exact absurd hjk (np j xs q1)
    · rw [up_ne nj, up_ne nk] at hjk
      exact h2 j k xs ys q1 q2 hjk
  · rcases get_set q with ⟨_, ed⟩ | ⟨ne, q⟩
    · cases ed
    · obtain ⟨v, e1, e2⟩ := h3 j d q
      exact ⟨v, by rw [List.getElem?_set_ne (Ne.symm ne)]; exact e1, str _ _ e2⟩
theorem DenE.wr (h : DenE K I b σ H env) {i : Nat} {xs : List D} (hi : env[i]? = some (.own xs)) : ∃ (a : Addr) (vs : List V) (S : Addr → Prop), σ[i]? = some (some (.ref a)) ∧ H a = some (.lst vs) ∧ DenA K S H vs xs ∧
    (∀ v d, d.noLst = true → Den K I.own H v d → Den K S H v d) ∧ ¬ I.own a ∧ (∀ vs' xs', DenA K S H vs' xs' → DenE K I b σ (upd H a (.lst vs')) (env.set i (.own xs'))) := by
  obtain ⟨oa, h1, h2, h3, h4⟩ := h.slots
  obtain ⟨⟨vs, e1, e2, e3⟩, e4, e5⟩ := h1 i xs hi
  refine ⟨oa i, vs, AvOf I env oa, e1, e2, e3, fun v d nl dn => ?_, fun z => e5 (I.sub _ z), fun vs' xs' dn => ?_⟩
  · refine Den.weak (fun a z => z) _ _ (Den.apart (P := fun a => ∃ (k : Nat) (ys : List D), env[k]? = some (Slot.own ys) ∧ a = oa k) (fun a ⟨k, ys, q2, z⟩ => ?_) _ _ nl dn)
    obtain ⟨⟨ws, _, q, _⟩, _⟩ := h1 k ys q2
    rw [z]; exact ⟨ws, q⟩
  · have hil : i < env.length := (List.getElem?_eq_some_iff.mp hi).1
    have same : ∀ a, AvOf I (env.set i (.own xs')) oa a → AvOf I env oa a := fun a z => z.imp id fun ⟨j, ys, q, z⟩ => by
      rcases get_set q with ⟨ej, _⟩ | ⟨ne, q⟩
      · exact ⟨i, xs, hi, by rw [z, ej]⟩
      · exact ⟨j, ys, q, z⟩
    have inA : AvOf I env oa (oa i) := .inr ⟨i, xs, hi, rfl⟩
    have mu : Kp (AvOf I env oa) H (upd H (oa i) (.lst vs')) := Kp.mut inA
    have ok' : I.ok (upd H (oa i) (.lst vs')) := I.loc H _ (fun a f => upd_ne (fun z => e5 (by rw [← z]; exact f))) h.ok
    refine ⟨by rw [List.length_set]; exact h.len, ⟨fun a o n q => ?_, ok'⟩, oa, fun j ys q => ?_, fun j k ys zs q1 q2 hjk => ?_, fun j d q => ?_, fun p hp => Den.weak same _ _ (Den.keep mu _ _ (h4 p hp))⟩
    · rw [upd_ne (ne_of_none q e4)]
      exact h.ext.1 a o n q
    · rcases get_set q with ⟨ej, ed⟩ | ⟨ne, q⟩
      · subst ej
        have ed := Slot.own.inj ed
        subst ed
        exact ⟨⟨vs', e1, upd_same, DenA.weak same _ _ (DenA.keep mu _ _ dn)⟩, e4, e5⟩
      · obtain ⟨⟨ws, q1, q2, q3⟩, q4⟩ := h1 j ys q
        exact ⟨⟨ws, q1, by rw [upd_ne (fun z => ne (h2 j i ys xs q hi z))]; exact q2, DenA.weak same _ _ (DenA.keep mu _ _ q3)⟩, q4⟩
    · have g1 : ∃ ys', env[j]? = some (Slot.own ys') := by
        rcases get_set q1 with ⟨ej, _⟩ | ⟨_, q1⟩
        · exact ⟨xs, by rw [ej]; exact hi⟩
        · exact ⟨ys, q1⟩
      have g2 : ∃ ys', env[k]? = some (Slot.own ys') := by
        rcases get_set q2 with ⟨ej, _⟩ | ⟨_, q2⟩
        · exact ⟨xs, by rw [ej]; exact hi⟩
        · exact ⟨zs, q2⟩
      obtain ⟨_, g1⟩ := g1
      obtain ⟨_, g2⟩ := g2
      exact h2 j k _ _ g1 g2 hjk
    · rcases get_set q with ⟨_, ed⟩ | ⟨ne, q⟩
      · cases ed
      · obtain ⟨v, q1, q2⟩ := h3 j d q
        exact ⟨v, q1, Den.weak same _ _ (Den.keep mu _ _ q2)⟩
end

section
variable {X : Cx} {g : Gx} {e e2 : Expr} {es : List Expr} {td ti tv : TED} {tf : TFD} {tas : TAD} {pos p p1 p2 pos' : Pos} {x : Str} {i : Nat}
theorem new_lstF {K : PySem.W.Frag} {I : HI} {H : Hp} {p : Addr} {vs : List V} {ds : List D} (hp : H p = none) (h : DenA K I.own H vs ds) : DenA K (fun a => I.own a ∨ a = p) (upd H p (.lst vs)) vs ds :=
  DenA.keep (Kp.new hp) _ _ (DenA.fresh hp _ _ h)
def fLst (ta : TAD) : TFD := fun env Q => ta env fun xs => xs.length ≤ sizeLine ∧ Q xs
theorem f_lst (h : PAD X g es tas) : PFD X g (.List es pos) (fLst tas) := fun b σ H env Qd Q hd xl hq k pins s J => (pe_lst pa_w).run pins s σ H Q J (h b σ H env _ _ hd xl hq fun vs ds H1 e1 dn ⟨z, q⟩ =>
    ⟨by rw [dn.len]; exact z, fun p hp => k p vs ds _ (e1.back hp) (e1.trans (.new e1.2 hp)) upd_same (new_lstF hp dn) q⟩)
def fListOf (td : TED) : TFD := fun env Q => td env fun d => ∃ ds, seqOf d = some ds ∧ Q ds
theorem f_listOf (hg : Gl X "list") (hm : X.mg "list" = none) (hv : bootBuiltins "list" = some (.type "list")) (ha : PED X g e td) (he : starEach (e :: []) X.env = (false, eval e X.env) :: starEach [] X.env := by rfl)
    (hpl : (backTo pos (starEach [] X.env)).any (·.1) = false := by rfl) : PFD X g (.Call (.Name "list" p) [e] [] pos) (fListOf td) := fun b σ H env Qd Q hd xl hq k pins s J =>
  (pe_callTy call_list_of hg hm hv (pa_cons pe_w pa_nil he) (by decide) (by decide) he hpl).run pins s σ H Q J (ha b σ H env _ _ hd xl hq fun v d H1 e1 dn ⟨ds, hs, q⟩ => by
    cases d <;> simp only [seqOf, Option.some.injEq] at hs <;> simp only [Den] at dn
    case tup ys =>
      subst hs
      obtain ⟨a, vs, rfl, s1, n1, r1⟩ := dn
      exact ⟨a, vs, rfl, .inr s1, fun p hp => k p vs _ _ (e1.back hp) (e1.trans (.new e1.2 hp)) upd_same (new_lstF hp r1) q⟩
    case lst ys =>
      subst hs
      obtain ⟨a, vs, rfl, s1, n1, r1⟩ := dn
      exact ⟨a, vs, rfl, .inl (SqL.of s1), fun p hp => k p vs _ _ (e1.back hp) (e1.trans (.new e1.2 hp)) upd_same (new_lstF hp r1) q⟩
    all_goals cases hs)

def sNew (i : Nat) (tf : TFD) : TSD := fun Dd env => tf env fun ds => i < env.length ∧ (noOwn (env.set i .no) = true ∨ noLstA ds = true) ∧ Dd.nx (env.set i (.own ds))
theorem ds_new (hN : X.N.Nodup) (hi : X.N[i]? = some x) (hx : Loc X.env.scope x) (he : PFD X g e tf) (hs : swapsWith e (some (.Name x pos')) pos.line X.env = pure false := by rfl)
    (hf : X.fn x = true ∨ X.env.scope.names.lookup x = some .local := by first | exact .inl rfl | exact .inr rfl | assumption) : PSD X g (.Assign [.Name x pos'] e pos) (sNew i tf) :=
  psd_of (ps_set hN hi hx pe_w hs hf) fun b σ H env Dd E hd xl h el => he b σ H env _ _ hd xl h fun p vs ds H1 hp e1 hl dn ⟨z, kp, q⟩ => el.nx _ _ _ (hd.putNew z hp e1 hl dn kp) q
def frzAt (env : DEnv) (i : Nat) : DEnv := match env[i]? with
  | some (.own xs) => env.set i (.val (.lst xs))
  | _ => env
theorem DenE.frzAt {K : PySem.W.Frag} {I : HI} {b : B0} {σ : L2.St} {H : Hp} {env : DEnv} (h : DenE K I b σ H env) (i : Nat) : DenE K I b σ H (frzAt env i) := by
  unfold Dl.frzAt
  split
  · rename_i xs hi
    obtain ⟨oa, h1, h2, h3, h4⟩ := h.slots
    obtain ⟨⟨vs, e1, e2, e3⟩, e4, e5⟩ := h1 i xs hi
    have sub : ∀ a, AvOf I (env.set i (.val (.lst xs))) oa a → AvOf I env oa a := fun a z => z.imp id fun ⟨j, ys, q, z⟩ => by
      rcases get_set q with ⟨_, e⟩ | ⟨_, q⟩
      · cases e
      · exact ⟨j, ys, q, z⟩
    refine ⟨by rw [List.length_set]; exact h.len, h.ext, oa, fun j ys q => ?_, fun j k ys zs q1 q2 hjk => ?_, fun j d q => ?_, fun p hp => Den.weak sub _ _ (h4 p hp)⟩
    · rcases get_set q with ⟨_, e⟩ | ⟨ne, q⟩
      · cases e
      · obtain ⟨⟨ws, q1, q2, q3⟩, q4⟩ := h1 j ys q
        exact ⟨⟨ws, q1, q2, DenA.weak sub _ _ q3⟩, q4⟩
    · rcases get_set q1 with ⟨_, e⟩ | ⟨_, q1⟩
      · cases e
      · rcases get_set q2 with ⟨_, e⟩ | ⟨_, q2⟩
        · cases e
        · exact h2 j k ys zs q1 q2 hjk
    · rcases get_set q with ⟨ej, ed⟩ | ⟨ne, q⟩
      · subst ej
        have ed := Slot.val.inj ed
        subst ed
        refine ⟨_, e1, ?_⟩
        simp only [Den]
        refine ⟨_, vs, rfl, e2, fun z => ?_, DenA.weak sub _ _ e3⟩
        rcases z with z | ⟨k, ys, q2, z⟩
        · exact e5 (I.sub _ z)
        · rcases get_set q2 with ⟨_, e⟩ | ⟨ne, q2⟩
          · cases e
          · exact ne (h2 k j ys xs q2 hi z.symm)
      · obtain ⟨v, q1, q2⟩ := h3 j d q
        exact ⟨v, q1, Den.weak sub _ _ q2⟩
  · exact h
def sFrz (i : Nat) (ts : TSD) : TSD := fun Dd env => ts Dd (frzAt env i)
theorem ds_frz {st : Stmt} {ts : TSD} (i : Nat) (h : PSD X g st ts) : PSD X g st (sFrz i ts) := fun b σ H env Dd E hd xl ht el => h b σ H _ Dd E (hd.frzAt i) xl ht el
def sApp (i : Nat) (td : TED) : TSD := fun Dd env => ∃ xs, env[i]? = some (.own xs) ∧ td env fun d => d.noLst = true ∧ xs.length < sizeLine ∧ Dd.nx (env.set i (.own (xs ++ [d])))
theorem ds_app {apos cpos : Pos} (hN : X.N[i]? = some x) (hv : Vis X.env.scope x) (he : PED X g e td) (hd1 : (x == ("__debug__" : Str)) = false := by decide) (hcd : (x == ("__classdict__" : Str)) = false := by decide)
    (hbase : attributeBase (.Name x p1) "append" X.env (eval (.Name x p1) X.env) = eval (.Name x p1) X.env := by rfl)
    (hfew : ((backTo cpos (starEach (e :: []) X.env)).all (fun x => !x.1) && (backToKw cpos (keywordEach [] X.env)).all (fun x => x.1.isSome)
      && decide ((e :: []).length + ([] : List Keyword).length + (if ([] : List Keyword).isEmpty then 0 else 1) < 30)) = true := by rfl)
    (hline : (apos.endLine == cpos.line) = true := by rfl) (hs : starEach (e :: []) X.env = (false, eval e X.env) :: starEach [] X.env := by rfl) (hplain : (backTo cpos (starEach [] X.env)).any (·.1) = false := by rfl)
    (hsw : swapsWith (.Call (.Attribute (.Name x p1) "append" apos) [e] [] cpos) none pos.line X.env = pure false := by rfl) :
    PSD X g (.Expr (.Call (.Attribute (.Name x p1) "append" apos) [e] [] cpos) pos) (sApp i td) :=
  psd_of (ps_expr (pe_bm PySem.F.plainAttrs_list PySem.F.slot_list_append PySem.F.type_list_append mt_append (pe_var hN hv hd1 hcd) (pa_cons pe_w pa_nil hs) hbase hfew hline hs hplain) hsw) fun b σ H env Dd E hd xl h el => by
    obtain ⟨xs, hx, h⟩ := h
    obtain ⟨a, vs, S, q1, q2, _⟩ := hd.wr hx
    refine ⟨.ref a, q1, .inl ⟨rfl, vs, SqL.of q2⟩, he b σ H env _ _ hd xl h fun v d H1 e1 dn ⟨nl, hz, q⟩ => ?_⟩
    obtain ⟨a', vs', S', w1, w2, w3, w4, w5, w6⟩ := (hd.mono e1).wr hx
    rw [q1] at w1
    cases w1
    exact ⟨a, vs', v, rfl, rfl, w2, by rw [w3.len]; exact hz, el.nx _ _ _ (w6 _ _ (w3.app (.one (w4 v d nl dn)))) q⟩
end
end Dl

namespace Dl
open PySem PySem.Spec PyProof.Rows L2

def startD (N : List Str) (ds : List D) : DEnv := ds.map Slot.val ++ List.replicate (N.length - ds.length) Slot.no
def gOf (I : HI) (Ed : Exc → Prop) (E : XK) : Gx := ⟨I, fun _ x => Ed x, fun cls d _ H => E cls d H⟩
theorem startE {K : PySem.W.Frag} {I : HI} {N : List Str} {H : Hp} {vs : List V} {ds : List D} (ok : I.ok H) (dn : DenA K I.own H vs ds) : DenE K I ⟨H, []⟩ (L2.start N vs) H (startD N ds) := by
  have no : ∀ {i : Nat} {xs : List D}, (startD N ds)[i]? ≠ some (Slot.own xs) := fun {i xs} h => by
    unfold startD at h
    rw [List.getElem?_append] at h
    split at h
    · rw [List.getElem?_map] at h
      cases e : ds[i]? with
      | none => rw [e] at h; cases h
      | some d => rw [e] at h; cases h
    · rw [List.getElem?_replicate] at h
      split at h <;> cases h
  refine ⟨?_, .refl ok, fun _ => 0, fun i xs e => absurd e no, fun i j xs ys e => absurd e no, fun i d e => ?_, fun p hp => by cases hp⟩
  · unfold L2.start startD
    rw [List.length_append, List.length_append, List.length_map, List.length_map, List.length_replicate, List.length_replicate, dn.len]
  · unfold startD at e
    rw [List.getElem?_append] at e
    split at e
    · rename_i hl
      rw [List.length_map] at hl
      rw [List.getElem?_map] at e
      have hd : ds[i]? = some d := by
        cases q : ds[i]? with
        | none => rw [q] at e; cases e
        | some d' =>
          rw [q] at e
          have := Slot.val.inj (Option.some.inj e)
          rw [this]
      obtain ⟨v, q1, q2⟩ := dn.get hd
      refine ⟨v, ?_, Den.weak (fun a z => z.elim id fun ⟨j, xs, e, _⟩ => absurd e no) _ _ q2⟩
      unfold L2.start
      rw [List.getElem?_append_left (by rw [List.length_map, dn.len]; exact hl), List.getElem?_map, q1]
      rfl
    · rw [List.getElem?_replicate] at e
      split at e <;> cases e
section
variable {P : Program} {w : World} {K : PySem.W.Frag} {mg : Str → Option Value} {base : Heap}
abbrev cxD (P : Program) (w : World) (K : PySem.W.Frag) (mg : Str → Option Value) (base : Heap) (N : List Str) (qual : Str) (scope : Scope) (f : Addr) (cd : Value) (A : Around) (outer : List Env) (s : Shared) (H : Hp) (E : XK) : Cx :=
  cxOf (L2.CX P w) P w K mg base N qual scope f cd A outer s H E
theorem fn_D {x qual : Str} {params : Arguments} {body : List Stmt} {scope : Scope} {dvs : List V} {kws : List (Str × V)} {f : Addr} {fd : FuncData} {N ps : List Str} {k : Nat} {I : HI} {C : Ct} {tsd : (DEnv → Exc → Prop) → TSD}
    (F : FunD K x qual params body scope dvs kws f fd) (S : FnScope N ps scope)
    (hbody : ∀ (cdv : Value) (A : Around) (outer : List Env) (s : Shared) (H : Hp) (E : XK) (Ed : Exc → Prop), Room k (A.deeper (envOfC qual scope s.heap.objs.size f cdv)) →
      Takes (cxD P w K mg base N qual scope f cdv A outer s H E) (gOf I Ed E).W → PSsD (cxD P w K mg base N qual scope f cdv A outer s H E) (gOf I Ed E) body (tsd (gOf I Ed E).Ed))
    (hC : ∀ ds Qd Ed, C ds Qd Ed → ds.length = ps.length → tsd (fun _ x => Ed x) ⟨fun _ => Qd .non, Qd, fun _ => False, fun _ => False, fun xs => Qd (.lst xs)⟩ (startD N ds)) :
    FnOk P w K mg base (L2.CX P w) (k + 1) f fd ps (spOf K I ps.length C) := by
  refine F.ok S (fun vs H Q E ⟨ds, Qd, Ed, hl, dn, _⟩ => by rw [dn.len, hl]) (fun cdv A outer s H vs Q E hr ⟨ds, Qd, Ed, hl, dn, ok, hc, kq, ke⟩ => ?_)
  refine ⟨_, pss_w, ?_⟩
  have tk : Takes (cxD P w K mg base N qual scope f cdv A outer s H E) (gOf I Ed E).W := takes_of rfl rfl rfl rfl
  refine hbody cdv A outer s H E Ed hr tk ⟨H, []⟩ (L2.start N vs) H (startD N ds) _ _ (startE ok dn) ?_ (hC ds Qd Ed hc hl) ⟨fun σ' H' env' hd' q => ?_, fun v d H' e dn' q => kq v d H' e dn' q, fun _ _ _ _ q => q.elim, fun _ _ _ _ q => q.elim, fun a vs xs H' e _ nf hl dn' q => kq (.ref a) (.lst xs) H' e (by simp only [Den]; exact ⟨a, vs, rfl, hl, fun z => nf (I.sub _ z), DenA.weak (fun x z => .inl z) _ _ dn'⟩) q⟩
  · exact fun σ' H' env' x d H'' hd' e xd q => ke x d H'' (hd'.ext.trans e) xd q
  · exact kq .non .non H' hd'.ext (by simp only [Den]) q
end

section
variable {X : Cx} {g : Gx} {e : Expr} {td : TED} {pos p cpos : Pos} {x fl : Str} {C fI : Addr} {fd : FuncData} {ps : List Str} {k : Nat}
def sRaise (C : Addr) (fl : Str) (Ed : DEnv → Exc → Prop) (td : TED) : TSD := fun _ env => td env fun d => Ed env ⟨C, some [(fl, d)]⟩
end
end Dl

namespace PySem
open PyProof.Rows
theorem meets_enum1B {v : Value} {o : Obj} {H : Heap → Prop} (B : Begins v o H) :
    Meets (Builtin.«enumerate.__new__» ⟨[.type "enumerate", v], []⟩) (fun _ R s => H s.heap ∧
      R (.ok (.ret (.ref (s.heap.push o).objs.size))) { s with heap := (s.heap.push o).push { cls := .type "enumerate", data := .fields #[.none, .bool false, .ref s.heap.objs.size, rawInt 0, .none, .none] } }) :=
  .of_wp fun prog w A R s h => by
    obtain ⟨hp, g, d, tk, os⟩ := s; obtain ⟨h1, h⟩ := h
    have hsub := sub_enumerate
    have q1 : ∀ {A' : Around} {E : Value → Shared → Prop} {Q : Value → Shared → Prop}, Q (.ref hp.objs.size) ⟨hp.push o, g, d, tk, os⟩ → wpAny (model prog w) A' (pyIter v) Q E ⟨hp, g, d, tk, os⟩ :=
      fun q => B.iter prog w _ _ ⟨hp, g, d, tk, os⟩ _ h1 q
    wp_walk using q1
    refine wpAny_stack_any fun st => wpAny_pure ?_
    split
    · rename_i c _ _ _ _ _
      cases (c == Value.type "enumerate")
      · wp_walk using q1
        exact ⟨_, rfl, h⟩
      · wp_walk using q1
        exact ⟨_, rfl, h⟩
    · wp_walk using q1
      exact ⟨_, rfl, h⟩
section
variable {prog : Program} {w : World} {A : Around} {E : Value → Shared → Prop} {s : Shared}
theorem pyNext_enumT_end {e it t : Addr} {i : Nat} {items : Array Value} {k : Int} {old : Value} {Q : Option Value → Shared → Prop} (hh : A.handled = none)
    (he : IsEnum s.heap e it k old) (hit : s.heap.IsTupleIter it t i) (hl : s.heap.IsTuple t items) (hx : items[i]? = none)
    (hQ : ∀ h', Heap.ExtBut it s.heap h' → Q none { s with heap := h' }) : wpAny (model prog w) A (pyNext (.ref e)) Q E s := by
  have hT : s.TypeIs (.ref e) "enumerate" := ⟨_, he, rfl⟩
  unfold pyNext
  refine wpAny_bind (wpAny_attempt (wpAny_callSpecial?_slot (name := Str.ofString "__next__") hT F.slot_enumerate_next
    (wpAny_call_entry F.slot_enumerate_next hT F.entry_enumerate_next ?_ (F.args_enumerate_next_1 _))))
  show wpAny _ _ (field (.ref e) 2 >>= _) _ _ _
  refine wpAny_bind (wpAny_field he rfl (x := .ref it) rfl ?_)
  refine wpAny_bind (wpAny_nextOf_tuple_end hh hit hl hx fun h' x he' hx' => ?_)
  obtain ⟨o, ho, hc⟩ := hx'
  refine wpAny_bind (wpAny_isInstance (T := "StopIteration") (b := true) ⟨o, ho, hc⟩ isSubtype_stop ?_)
  exact wpAny_pure (hQ _ he')
theorem enum1_begins {v : Value} {o : Obj} {H : Heap → Prop} {Q : Value → Shared → Prop} (B : Begins v o H) (h1 : H s.heap)
    (h : ∀ h', IsEnum h' (s.heap.objs.size + 1) s.heap.objs.size 0 .none → h'.get? s.heap.objs.size = some o → h'.objs.size = s.heap.objs.size + 2 →
      (∀ b o, s.heap.get? b = some o → h'.get? b = some o) → Q (.ref (s.heap.objs.size + 1)) { s with heap := h' }) :
    wpAny (model prog w) A (call (.type "enumerate") [v]) Q E s := by
  refine callType_new F.called_enumerate (by decide) (F.typeCall_enumerate_1 _) (F.newCall_enumerate_1 _) (fun obj => F.args_object_init_2 obj _) F.entry_enumerate_new
    (meets_enum1B B) ⟨h1, ?_⟩
  have hz : (s.heap.push o).objs.size = s.heap.objs.size + 1 := Heap.size_push ..
  show _ ∧ _
  rw [hz]
  have he : IsEnum ((s.heap.push o).push { cls := .type "enumerate", data := .fields #[.none, .bool false, .ref s.heap.objs.size, rawInt 0, .none, .none] }) (s.heap.objs.size + 1) s.heap.objs.size 0 .none := by
    have := Heap.get?_push_size (s.heap.push o) (o := { cls := .type "enumerate", data := .fields #[.none, .bool false, .ref s.heap.objs.size, rawInt 0, .none, .none] }) rfl
    rw [hz] at this; exact this
  refine ⟨⟨_, he, rfl⟩, h _ he (Heap.get?_push_of_some _ (Heap.get?_push_size _ B.free)) (by rw [Heap.size_push, hz]) fun b o x => Heap.get?_push_of_some _ (Heap.get?_push_of_some _ x)⟩
end
end PySem
namespace Dl
open PySem PySem.Spec PyProof.Rows L2
def IteT (K : PySem.W.Frag) (a : Addr) : It :=
  ⟨fun i H => ∃ (xs : List V) (x : V), SqT K H a xs ∧ xs[i]? = some x, fun i H v H' => ∃ T x, v = .ref T ∧ H T = none ∧ H' = upd H T (.tup [.int (i : Nat), x]) ∧ ∀ xs, SqT K H a xs → xs[i]? = some x, fun i H => ∃ xs : List V, SqT K H a xs ∧ xs.length ≤ i⟩
theorem turn_enumT {P : Program} {w : World} {K : PySem.W.Frag} {elts : List Expr} {kk : Nat} {tpos : Pos} (a e it : Addr) :
    Turn P w K (.Tuple elts kk tpos) (IteT K a) [e, it] e (fun i h => (∃ old, IsEnum h e it ((i : Nat) : Int) old) ∧ h.IsTupleIter it a i ∧ e ≠ it ∧ a ≠ it ∧ a ≠ e) where
  mem := by simp
  obj := fun i h st b hb => by
    obtain ⟨⟨old, he⟩, ⟨o, ho, hc, hd⟩, _⟩ := st
    have e' : b = e ∨ b = it := by simpa using hb
    rcases e' with z | z
    · rw [z]; exact ⟨_, he, fun v q => nomatch q⟩
    · rw [z]; exact ⟨o, ho, fun v q => by rw [hd] at q; cases q⟩
  keep := fun i h h' st k => let ⟨⟨old, he⟩, hi, hne⟩ := st; ⟨⟨old, k e (by simp) _ he⟩, hi.at fun o q => k it (by simp) o q, hne⟩
  item := by
    intro X hP hw hK hc i pins s σ H E I hf st hg
    subst hP hw hK
    obtain ⟨⟨old, he⟩, hit, hne, na, nb⟩ := st
    obtain ⟨xs, x, hq, hx⟩ := hg
    obtain ⟨its, rv, p, hz⟩ := I.tuple hq
    obtain ⟨u, hu, ru⟩ := rv.get hx
    have hel : e < s.heap.objs.size := Heap.lt_size he
    have hil : it < s.heap.objs.size := by obtain ⟨_, q, _⟩ := hit; exact Heap.lt_size q
    have hlt : i < its.toArray.size := by
      have := (List.getElem?_eq_some_iff.mp hu).1
      simpa using this
    refine wpAny_pyNext_enum_itemD (Draws.tuple (A := X.A.in1) (I.ok.hd hc) it a na its.toArray) he ⟨hit, p⟩ hlt hne (by simp only [List.mem_cons, List.not_mem_nil, or_false, not_or]; exact ⟨hne, Ne.symm nb⟩) fun y h' tk hy ho hit' hT hsz hk => ?_
    have hy' : y = u := by
      have : its[i]? = some y := by simpa using hy
      rw [hu] at this
      exact (Option.some.inj this).symm
    subst hy'
    refine ⟨_, rfl, wpAny_letOwnedTupleGo_enum (s := { s with heap := h', toks := tk + 1 }) ho fun h'' he' sb => ?_⟩
    have hT2 : h''.get? s.heap.objs.size = some { cls := .type "tuple", data := .seq #[.int i tk, y] } := (sb.2 _ (Nat.ne_of_gt hel)).trans hT
    have new : ObjOk X.prog X.w (upd H s.heap.objs.size (.tup [.int (i : Nat), x])) h'' s.heap.objs.size (.tup [.int (i : Nat), x]) :=
      ⟨by show 2 ≤ sizeLine; decide, [.int i tk, y], .cons ⟨_, rfl⟩ (.cons ru .nil), ⟨_, hT2, rfl, _, rfl⟩⟩
    have I1 : Inv X pins σ (upd H s.heap.objs.size (.tup [.int (i : Nat), x])) { s with heap := h'', toks := tk + 1 } :=
      I.turnedNew (ch := [e, it]) (fun b ob hb q => (sb.2 b (fun z => hb (by simp [z]))).trans (hk b ob (fun z => hb (by simp [z])) (fun z => hb (by simp [z])) q)) hf (Nat.le_refl _) new
    refine ⟨.ref s.heap.objs.size, _, I1, rfl, ⟨_, x, rfl, I.hok.fresh (Nat.le_refl _), rfl, fun ys hy => by rw [I.tuple_inj hy hq]; exact hx⟩, ⟨⟨y, ?_⟩, hit'.1.at fun o q => (sb.2 it (Ne.symm hne)).trans q, hne, na, nb⟩, fun b hb => ?_⟩
    · have e1 : ((i + 1 : Nat) : Int) = (i : Int) + 1 := by omega
      rw [e1]; exact he'
    · have hb' : b < s.heap.objs.size := by
        have e' : b = e ∨ b = it := by simpa using hb
        rcases e' with z | z
        · rw [z]; exact hel
        · rw [z]; exact hil
      rw [upd_ne (Nat.ne_of_lt hb')]
      exact (hf b hb).1
  done := by
    intro X hP hw hK hc i pins s σ H E I hf st hg
    subst hP hw hK
    obtain ⟨⟨old, he⟩, hit, hne, na, nb⟩ := st
    obtain ⟨xs, hq, hx⟩ := hg
    obtain ⟨its, rv, p, hz⟩ := I.tuple hq
    obtain ⟨f0, f1, f2, f3, f4, f5⟩ := hf it (by simp)
    have hl := rv.length
    exact pyNext_enumT_end (I.ok.hd hc) he hit p (by simp; omega) fun h' eb => ⟨rfl, I.turned (t' := s.toks) (fun b o hb q => eb b o hb q) f0 f1 f3 f4 f5⟩
  self := fun A i s Q E st h => let ⟨⟨_, he⟩, _⟩ := st; wpAny_pyIter_enum he h
def iEnumA (K : PySem.W.Frag) (ta : L2.TA) : TI := fun σ H R => ta σ H fun vs H1 => ∃ a xs, vs = [.ref a] ∧ ((SqL K H1 a xs ∧ R (Ite K a) H1) ∨ (SqT K H1 a xs ∧ R (IteT K a) H1))
theorem pi_enumA {X : Cx} {e : Expr} {ta : L2.TA} {p pos tpos : Pos} {elts : List Expr} {kk : Nat} (hg : Gl X "enumerate") (hm : X.mg "enumerate" = none) (ha : PA X [e] ta) (hs : starEach [e] X.env = [(false, eval e X.env)] := by rfl) :
    PI X (.Tuple elts kk tpos) (.Call (.Name "enumerate" p) [e] [] pos) (iEnumA X.K ta) := by
  refine ⟨fun pins s σ H R I h => ?_⟩
  refine Call_ (ld_blt I hg hm boot_enumerate (PyProof.Rows.callWith_type1 (thn (ha.run pos pins s σ H _ I h) fun us s1 ⟨vs, H1, I1, r1, q1⟩ => ?_) hs rfl))
  obtain ⟨a, xs, ex, q⟩ := q1
  subst ex
  cases r1 with
  | cons r rr =>
    cases rr
    cases r
    have fin : ∀ b ∈ [s1.heap.objs.size + 1, s1.heap.objs.size], FpOk X pins H1 b := fun b hb => by
      have e' : b = s1.heap.objs.size + 1 ∨ b = s1.heap.objs.size := by simpa using hb
      have hle : s1.heap.objs.size ≤ b := by
        rcases e' with z | z
        · rw [z]; exact Nat.le_add_right _ _
        · rw [z]; exact Nat.le_refl _
      exact I1.fpOk hle (I1.hok.fresh hle)
    rcases q with ⟨hq, q⟩ | ⟨hq, q⟩
    · obtain ⟨its, rv, p', hz⟩ := I1.list hq
      refine call_enumerate_list p'.isList fun h' he hit hsz hk => wpAny_pyIter_enum he ?_
      have I2 : Inv X pins σ H1 { s1 with heap := h' } := I1.kept (t' := s1.toks) hk
      exact ⟨s1.heap.objs.size + 1, [s1.heap.objs.size + 1, s1.heap.objs.size], _, _, H1, rfl, I2, turn_enum a (s1.heap.objs.size + 1) s1.heap.objs.size, ⟨⟨.none, he⟩, hit, Nat.succ_ne_self _⟩, fin, q⟩
    · obtain ⟨its, rv, p', hz⟩ := I1.tuple hq
      have pt : s1.heap.IsTuple a its.toArray := p'
      have al : a < s1.heap.objs.size := by obtain ⟨_, q, _⟩ := pt; exact Heap.lt_size q
      refine enum1_begins (begins_tuple a its.toArray) pt fun h' he hit hsz hk => wpAny_pyIter_enum he ?_
      have I2 : Inv X pins σ H1 { s1 with heap := h' } := I1.kept (t' := s1.toks) hk
      exact ⟨s1.heap.objs.size + 1, [s1.heap.objs.size + 1, s1.heap.objs.size], _, _, H1, rfl, I2, turn_enumT a (s1.heap.objs.size + 1) s1.heap.objs.size, ⟨⟨.none, he⟩, ⟨_, hit, rfl, rfl⟩, Nat.succ_ne_self _, Nat.ne_of_lt al, Nat.ne_of_lt (Nat.lt_succ_of_lt al)⟩, fin, q⟩
def enumD : Nat → List D → List D
  | _, [] => []
  | n, d :: ds => .tup [.int (n : Nat), d] :: enumD (n + 1) ds
theorem enumD_len : ∀ {n : Nat} {ds : List D}, (enumD n ds).length = ds.length
  | _, [] => rfl
  | n, d :: ds => congrArg Nat.succ enumD_len
theorem enumD_get : ∀ {n i : Nat} {ds : List D} {d : D}, ds[i]? = some d → (enumD n ds)[i]? = some (.tup [.int ((n + i : Nat) : Int), d])
  | n, i, [], d, h => by simp at h
  | n, 0, e :: ds, d, h => by
    have : e = d := by simpa using h
    subst this
    rfl
  | n, i + 1, e :: ds, d, h => by
    have ih := enumD_get (n := n + 1) (i := i) (ds := ds) (d := d) (by simpa using h)
    have e1 : n + 1 + i = n + (i + 1) := by omega
    rw [e1] at ih
    exact ih
theorem pair_den {K : PySem.W.Frag} {Av : Addr → Prop} {H : Hp} {T : Addr} {x y : V} {dx dy : D} (hT : H T = none) (nT : ¬ Av T) (hx : Den K Av H x dx) (hy : Den K Av H y dy) : Den K Av (upd H T (.tup [x, y])) (.ref T) (.tup [dx, dy]) := by
  have kk : Kp Av H (upd H T (.tup [x, y])) := Kp.new hT
  simp only [Den]
  refine ⟨T, [x, y], rfl, SqT.of upd_same, .inl ⟨nT, .inl upd_same⟩, ?_⟩
  simp only [DenA]
  exact ⟨x, [y], rfl, Den.keep kk _ _ hx, y, [], rfl, Den.keep kk _ _ hy, rfl⟩
theorem itd_enumL {K : PySem.W.Frag} {a : Addr} {ds : List D} : ItD K (Ite K a) [(.ref a, .lst ds)] (enumD 0 ds) := fun Av H hw hav => by
  have := hw _ List.mem_cons_self
  simp only [Den] at this
  obtain ⟨a', vs, e, s, n, r⟩ := this
  cases e
  refine ⟨fun i hi => ?_, vs, SqL.of s, by rw [r.len, enumD_len]; exact Nat.le_refl _⟩
  rw [enumD_len] at hi
  obtain ⟨v, q1, q2⟩ := r.get (List.getElem?_eq_getElem hi)
  refine ⟨⟨vs, v, SqL.of s, q1⟩, fun x H' ⟨T, y, e1, hT, e2, hy⟩ => ?_⟩
  subst e1 e2
  have z := hy vs (SqL.of s)
  rw [q1] at z
  cases z
  refine ⟨Kp.new hT, _, enumD_get (List.getElem?_eq_getElem hi), pair_den hT (fun z => hav T z hT) ?_ q2⟩
  simp only [Den, Nat.zero_add]
theorem itd_enumT {K : PySem.W.Frag} {a : Addr} {ds : List D} : ItD K (IteT K a) [(.ref a, .tup ds)] (enumD 0 ds) := fun Av H hw hav => by
  have := hw _ List.mem_cons_self
  simp only [Den] at this
  obtain ⟨a', vs, e, s, n, r⟩ := this
  cases e
  refine ⟨fun i hi => ?_, vs, s, by rw [r.len, enumD_len]; exact Nat.le_refl _⟩
  rw [enumD_len] at hi
  obtain ⟨v, q1, q2⟩ := r.get (List.getElem?_eq_getElem hi)
  refine ⟨⟨vs, v, s, q1⟩, fun x H' ⟨T, y, e1, hT, e2, hy⟩ => ?_⟩
  subst e1 e2
  have z := hy vs s
  rw [q1] at z
  cases z
  refine ⟨Kp.new hT, _, enumD_get (List.getElem?_eq_getElem hi), pair_den hT (fun z => hav T z hT) ?_ q2⟩
  simp only [Den, Nat.zero_add]
def idEnumV (i : Nat) : TID := fun env Q => ∃ d ds, env[i]? = some (.val d) ∧ seqOf d = some ds ∧ Q (enumD 0 ds)
theorem si_enum {K : PySem.W.Frag} {b : B0} {σ : L2.St} {H : Hp} {env : DEnv} {I : HI} {R : It → Hp → Prop} {v : V} {d : D} {ds : List D} (hd : DenE K I ⟨b.H0, (v, d) :: b.hs⟩ σ H env) (hs : seqOf d = some ds)
    (k : ∀ J hw, DenE K I ⟨b.H0, hw ++ b.hs⟩ σ H env → ItD K J hw (enumD 0 ds) → R J H) : ∃ a xs, [v] = [.ref a] ∧ ((SqL K H a xs ∧ R (Ite K a) H) ∨ (SqT K H a xs ∧ R (IteT K a) H)) := by
  obtain ⟨oa, h1, h2, h3, h4⟩ := hd.slots
  have dn := h4 _ List.mem_cons_self
  cases d <;> simp only [seqOf, Option.some.injEq] at hs <;> simp only [Den] at dn
  case tup xs =>
    subst hs
    obtain ⟨a, vs, rfl, s, n, r⟩ := dn
    exact ⟨a, vs, rfl, .inr ⟨s, k _ _ hd itd_enumT⟩⟩
  case lst xs =>
    subst hs
    obtain ⟨a, vs, rfl, s, n, r⟩ := dn
    exact ⟨a, vs, rfl, .inl ⟨SqL.of s, k _ _ hd itd_enumL⟩⟩
  all_goals cases hs
section
variable {X : Cx} {g : Gx} {e : Expr} {p pos tpos : Pos} {elts : List Expr} {kk : Nat} {td : TED}
theorem di_enumV (i : Nat) {x : Str} {p2 : Pos} (hg : Gl X "enumerate") (hm : X.mg "enumerate" = none) (hN : X.N[i]? = some x := by rfl) (hv : Vis X.env.scope x := by first | exact Or.inl rfl | exact Or.inr (Or.inl rfl) | exact Or.inr (Or.inr rfl))
    (hd : (x == ("__debug__" : Str)) = false := by decide) (hcd : (x == ("__classdict__" : Str)) = false := by decide) (hs : starEach [Expr.Name x p2] X.env = [(false, eval (.Name x p2) X.env)] := by rfl) :
    PID X g (.Tuple elts kk tpos) (.Call (.Name "enumerate" p) [.Name x p2] [] pos) (idEnumV i) :=
  pid_of (pi_enumA hg hm (pa_cons (pe_var hN hv hd hcd) pa_nil hs) hs) fun b σ H env Qd R hd xl ⟨d, ds, e, hs, q⟩ k => by
    obtain ⟨oa, h1, h2, h3, h4⟩ := hd.slots
    obtain ⟨v, q1, q2⟩ := h3 i d e
    refine ⟨v, q1, si_enum (b := b) (env := env) (σ := σ) (d := d) ⟨hd.len, hd.ext, oa, h1, h2, h3, fun p hp => ?_⟩ hs fun J hw hd2 it => k J H hw _ hd2 (.refl hd.ok) it q⟩
    rcases List.mem_cons.mp hp with z | hp
    · rw [z]; exact q2
    · exact h4 p hp
end
end Dl

namespace Dl
open PySem PySem.Spec PyProof.Rows L2

def Cl (P : Program) (w : World) (K : PySem.W.Frag) (mg : Str → Option Value) (base : Heap) (I : HI) (k : Nat) (x : Str) (n : Nat) (C : Ct) (dds : List D) : Prop :=
  ∃ (fa : Addr) (fd : FuncData) (ps : List Str) (ds : List Value) (dvs : List V), FnOk P w K mg base (L2.CX P w) k fa fd ps (spOf K I n C) ∧ mg x = some (.ref fa) ∧ PySem.W.keepIn K (.ref fa) = true ∧ L2.Binds K fd ps ds ∧ Vals dvs ds ∧ ∀ H, DenA K I.own H dvs dds
abbrev ClX (X : Cx) (I : HI) (k : Nat) (x : Str) (n : Nat) (C : Ct) (dds : List D) : Prop := Cl X.prog X.w X.K X.mg X.base I k x n C dds
def Ar (n : Nat) (C : Ct) : Prop := ∀ xs Q E, C xs Q E → xs.length = n
theorem h64 {A : Around} {k : Nat} (hr : Room k A) : A.units + 64 < cLine := hr.units
theorem h65 {A : Around} {k : Nat} (hr : Room k A) : A.units + 65 < cLine := by have := hr.un; omega
section
variable {X : Cx} {g : Gx} {e e2 : Expr} {es : List Expr} {td ti tv : TED} {tas : TAD} {pos p p2 : Pos} {x : Str}
theorem d_callC {k j n : Nat} {C : Ct} {dds : List D} (c : ClX X g.I k x n C dds) (hC : Ar n C) (hr : Room j X.A) (hj : k ≤ j) (hg : Gl X x) (tk : Takes X g.W) (ha : PAD X g (e :: es) tas)
    (hdb : (x == ("__debug__" : Str)) = false := by decide) (he : starEach (e :: es) X.env = (false, eval e X.env) :: starEach es X.env := by rfl) (hpl : (backTo pos (starEach es X.env)).any (·.1) = false := by rfl) :
    PED X g (.Call (.Name x p) (e :: es) [] pos) (dCall C dds g.Ed tas) := by
  obtain ⟨fa, fd, ps, ds, dvs, F, hm, hk, hb, hd, hdd⟩ := c
  exact d_call F (hr.mono hj) hg hm hk hb hd hdd tk hC ha hdb he hpl
theorem d_gint {i : Int} (hg : Gl X x) (hm : ∃ t, X.mg x = some (.int i t)) (hd : (x == ("__debug__" : Str)) = false := by decide) : PED X g (.Name x p) (dC (.int i)) := by
  obtain ⟨t, hm⟩ := hm
  exact ped_of (pe_glob (v := .int i) hg hm ⟨t, rfl⟩ hd) (sd_c fun _ => by simp only [Den])

section
variable {i : Nat} {y : Str} {py : Pos} {elt tg iter : Expr} {ifs : List Expr} {scope : Scope} {own : List (Str × Nat)} {spos : Pos} {gt : TG} {tid : TID} {gd : TGD} {tt : TTD} {ed : TED}
theorem ds_lcV (hc : X.calm = true) (hN : X.N.Nodup) (hy : X.N[i]? = some y) (hyl : X.env.scope.names.lookup y = some .local) (hsw : swapsWith (.ListComp elt [⟨tg, iter, ifs, 0⟩] scope pos) (some (.Name y py)) spos.line X.env = pure true)
    (hi : PID X g tg iter tid) (ok : BlkOk X.N X.env.scope scope own)
    (hg : ∀ (s : Shared) (H : Hp) (C : Addr) (cl : List (Str × Addr)) (fp : List Addr), PG (X.blk s H scope (compEnvC scope cl C X.env) fp) tg gt) (sg : SG X.K g.nox gt gd) (gw : GW gt (own.map (·.2)))
    (ht : ST X.K g.nox (wBT X scope ifs) tt) (he : SE X.K g.nox (wBE X scope elt) ed) (hs : ∀ x, foldedSetIterable iter X.env x = pure x := by intro _; rfl) :
    PSD X g (.Assign [.Name y py] (.ListComp elt [⟨tg, iter, ifs, 0⟩] scope pos) spos) (sAsg i (dF (fLc tid gd tt ed (own.map (·.2))))) :=
  psd_of (ps_setLc hc hN hy hyl hsw pi_w ok hg (fun _ _ _ _ _ => pt_blk) (fun _ _ _ _ _ => pe_blk) hs) fun b σ H env Dd E hd xl h el =>
    sf_lc hi sg gw ht he b σ H env _ _ hd xl h fun p vs ds H1 hp e1 hl dn ⟨kp, q⟩ => el.nx _ _ _ ((hd.mono e1).put (by
      simp only [Den]
      exact ⟨p, vs, rfl, hl, HI.nown hd.ok hp, DenA.weak (fun a z => .inl z) _ _ dn⟩) kp) q
end
end
end Dl

namespace Dl
open PySem PySem.Spec PyProof.Rows L2 He
section
variable {X : Cx} {g : Gx} {e : Expr} {td : TED} {pos p cpos : Pos} {x fl : Str} {j : Nat}
end
end Dl

namespace SrtT
open PySem PyProof.Rows Srt SrtO
end SrtT
namespace Dl
open PySem PySem.Spec PyProof.Rows L2
theorem pf_e {X : Cx} {g : Gx} {e : Expr} {td : TFD} (h : PFD X g e td) : PED X g e (dF td) := SF.se h
end Dl

namespace Dl
open PySem PySem.Spec PyProof.Rows L2

def Exc.noLst (x : Exc) : Bool := match x.fs with
  | none => true
  | some fs => noLstA (fs.map (·.2))
def HI.noXd (I : HI) : Prop := ∀ H, I.ok H → ∀ dd fs, H dd = some (.xd fs) → ¬ I.own dd
abbrev TSX := (DEnv → Exc → Prop) → TSD
section
variable {X : Cx} {g : Gx} {x n : Str} {c : Value} {i : Nat} {body suite : List Stmt} {b₀ : Stmt} {np pos pos' : Pos} {tb : TSX} {ts : Addr → Option Addr → Exc → TSD}
end
section
variable {X : Cx} {g : Gx} {a : Addr} {oe : Obj} {x : Exc} {d : Option Addr} {pn : List (Addr × Obj)} {e : Expr} {te : TED} {pos p : Pos} {n y : Str}
def lookD (n : Str) : List (Str × D) → Option D
  | [] => none
  | (m, d) :: r => if n = m then some d else lookD n r
theorem look_zip {K : PySem.W.Frag} {Av : Addr → Prop} {H : Hp} {n : Str} : ∀ {fs : List (Str × D)} {ws : List V} {v : D}, DenA K Av H ws (fs.map (·.2)) → lookD n fs = some v → ∃ u, ((fs.map (·.1)).zip ws).lookup n = some u ∧ Den K Av H u v
  | [], _, _, _, h => by cases h
  | (m, d) :: r, ws, v, dn, h => by
    obtain ⟨u, us, rfl, h1, h2⟩ := DenA.cons (show DenA K Av H ws (d :: r.map (·.2)) from dn)
    unfold lookD at h
    by_cases e : n = m
    · rw [if_pos e] at h
      cases h
      subst e
      exact ⟨u, by simp, h1⟩
    · rw [if_neg e] at h
      obtain ⟨u', q1, q2⟩ := look_zip h2 h
      refine ⟨u', ?_, q2⟩
      show ((m, u) :: (r.map (·.1)).zip us).lookup n = some u'
      rw [List.lookup_cons]
      have : (n == m) = false := by simpa using e
      rw [this]
      exact q1
def clsV : D → Option Value
  | .ref a => some (.ref a)
  | .ty n => some (.type n)
  | _ => none
theorem d_glo {C : Addr} (hg : Gl X y) (hm : X.mg y = some (.ref C)) (hd : (y == ("__debug__" : Str)) = false := by decide) : PED X g (.Name y p) (dC (.ref C)) :=
  ped_of (pe_glob (v := .ref C) hg hm rfl hd) (sd_c fun _ => by simp only [Den])
end
end Dl

namespace Dl
open PySem PySem.Spec PyProof.Rows L2

section
variable {X : Cx} {g : Gx} {e : Expr} {es : List Expr} {kws : List Keyword} {nm : Option Str} {td : TED} {ta tk : TAD} {pos p kpos : Pos} {x : Str}
end

section
variable {X : Cx} {g : Gx} {e e2 : Expr} {td ti : TED} {pos : Pos} {x : Str} {i : Nat} {p1 : Pos}
end
end Dl

namespace Dl
open PySem PySem.Spec PyProof.Rows L2
def isWh (x lo hi : D) : Bool := match x with
  | .int i => (match lo with | .int l => decide (l ≤ i) | _ => true) && (match hi with | .int h => decide (i ≤ h) | _ => true)
  | _ => false
def isOpt : D → Prop
  | .non => True
  | .int _ => True
  | _ => False
def C_is_whole (K : PySem.W.Frag) : Ct := fun ds Q _ => ∃ x lo hi, ds = [x, lo, hi] ∧ x.tyn.isSome = true ∧ isOpt lo ∧ isOpt hi ∧ Q (.bl (isWh x lo hi))
theorem ar_is_whole (K : PySem.W.Frag) : Ar 3 (C_is_whole K) := fun _ _ _ ⟨_, _, _, e, _⟩ => by rw [e]; rfl
def fstBad (bad : List D → D → Bool) : List D → List D → Option Nat
  | _, [] => none
  | pre, d :: ds => if bad pre d = true then some pre.length else fstBad bad (pre ++ [d]) ds
def excI (K : PySem.W.Frag) (c : Str) (i : Int) : Exc := ⟨He.ga K c, some [("index", .int i)]⟩
def C__law_mixed (K : PySem.W.Frag) : Ct := fun ds Q E => ∃ a b : Int, ds = [.int a, .int b] ∧ 0 ≤ a ∧ a < 2 ^ 32 ∧ 0 ≤ b ∧ b < 2 ^ 32 ∧ ∀ r : Int, 0 ≤ r → r < 2 ^ 32 → Q (.int r)
def C__law_whole (K : PySem.W.Frag) : Ct := fun ds Q E => ∃ x, ds = [x] ∧ x.tyn.isSome = true ∧ Q (.bl (isWh x .non .non))
theorem ar__law_whole (K : PySem.W.Frag) : Ar 1 (C__law_whole K) := fun _ _ _ ⟨_, e, _⟩ => by rw [e]; rfl
end Dl

namespace Dl
open PySem PySem.Spec PyProof.Rows L2
theorem Ext.none {I : HI} {H H1 : Hp} {p : Addr} (e : Ext I H H1) (h : H1 p = none) : H p = none := by
  cases q : H p with
  | none => rfl
  | some o =>
    by_cases n : I.own p
    · exact absurd h (I.dom H1 p e.2 (I.sub p n))
    · have := e.1 p o n q
      rw [h] at this; cases this
section
variable {X : Cx} {g : Gx} {c a b : Expr} {t : TTD} {ta tb : TFD} {pos : Pos}
end
end Dl

namespace Dl
open PySem PySem.Spec PyProof.Rows L2
structure HandAt (hd c : Addr) (cs : List Int) (at_ held tot : Int) (H : Hp) : Prop where
  h : H hd = some (.lst [.ref c, .int at_, .int held, .int tot])
  c : H c = some (.lst (cs.map V.int))
  len : cs.length ≤ 63
  pos : ∀ x ∈ cs, 0 ≤ x
  a0 : 0 ≤ at_
  a1 : at_ ≤ 63
  h0 : 0 ≤ held
  t0 : 0 ≤ tot
  t1 : tot < 2 ^ 32
def handI (hd c : Addr) : HI where
  own := fun a => a = hd
  foot := fun a => a = hd ∨ a = c
  ok := fun H => ∃ cs at_ held tot, HandAt hd c cs at_ held tot H
  sub := fun a h => .inl h
  dom := fun H a ⟨cs, at_, held, tot, h⟩ f z => by
    rcases f with rfl | rfl
    · have := h.h; rw [z] at this; cases this
    · have := h.c; rw [z] at this; cases this
  loc := fun H H' e ⟨cs, at_, held, tot, h⟩ => ⟨cs, at_, held, tot, ⟨by rw [e _ (.inl rfl)]; exact h.h, by rw [e _ (.inr rfl)]; exact h.c, h.len, h.pos, h.a0, h.a1, h.h0, h.t0, h.t1⟩⟩
theorem handI_noXd (hd c : Addr) : (handI hd c).noXd := fun H ⟨cs, at_, held, tot, h⟩ dd fs e z => by
  have z : dd = hd := z
  subst z
  have := h.h
  rw [e] at this; cases this
def C__law_take (hd : Addr) : Ct := fun ds Q _ => ∃ m : Int, ds = [.ref hd, .int m] ∧ 0 < m ∧ m < 2 ^ 200 ∧ ∀ r : Int, 0 ≤ r → r < m → Q (.int r)
theorem ar__law_take (hd : Addr) : Ar 2 (C__law_take hd) := fun _ _ _ ⟨_, e, _⟩ => by rw [e]; rfl
theorem kp_mut {hd c : Addr} {H : Hp} {o : HO} : Kp (handI hd c).own H (upd H hd o) := Kp.mut (Av := (handI hd c).own) (show hd = hd from rfl)
theorem it_t {b : Bool} {p q : Prop} (h : b = true) (k : p) : if b = true then p else q := by rw [if_pos h]; exact k
theorem it_f {b : Bool} {p q : Prop} (h : b = false) (k : q) : if b = true then p else q := by rw [if_neg (by rw [h]; decide)]; exact k
section
variable {K : PySem.W.Frag} {σ : L2.St} {H : Hp} {Q : VK}
theorem v_ix {i : Nat} {k : Int} {hd : Addr} {xs : List V} {v : V} (e : σ[i]? = some (some (.ref hd))) (h : H hd = some (.lst xs)) (a : atI xs k = some v) (q : Q v H) : tOp (rIxL K) (tVar i) (tC (.int k)) σ H Q := ⟨_, e, hd, xs, k, v, rfl, rfl, SqL.of h, a, q⟩
theorem v_set {i : Nat} {k : Int} {j : Nat} {hd : Addr} {xs : List V} {v : V} {Q : L2.St → Hp → Prop} (e : σ[i]? = some (some (.ref hd))) (h : H hd = some (.lst xs)) (a : ixN xs.length k = some j) (q : Q σ (upd H hd (.lst (xs.set j v)))) : gSub (tVar i) (tC (.int k)) rSetL v σ H Q := ⟨_, e, hd, xs, k, j, rfl, rfl, h, a, q⟩
theorem seq_of {t u : TS} {D : Ends} (P : L2.St → Hp → Prop) (hb : ∀ σ' H', P σ' H' → u D σ' H') (ha : (∀ σ' H', P σ' H' → u D σ' H') → t { D with nx := u D } σ H) : tSeq t u D σ H := ha hb
theorem HandAt.set {hd c : Addr} {cs : List Int} {a h t a' h' t' : Int} (Z : HandAt hd c cs a h t H) (hne : hd ≠ c) (q1 : 0 ≤ a') (q2 : a' ≤ 63) (q3 : 0 ≤ h') (q4 : 0 ≤ t') (q5 : t' < 2 ^ 32) : HandAt hd c cs a' h' t' (upd H hd (.lst [.ref c, .int a', .int h', .int t'])) :=
  ⟨upd_same, by rw [upd_ne (Ne.symm hne)]; exact Z.c, Z.len, Z.pos, q1, q2, q3, q4, q5⟩
theorem take_cell {cs : List Int} {at_ : Int} (h0 : 0 ≤ at_) (h1 : at_ < cs.length) : ∃ x, atI (cs.map V.int) at_ = some (.int x) ∧ x ∈ cs := by
  have hlt : at_.toNat < cs.length := by omega
  refine ⟨cs[at_.toNat], ?_, List.getElem_mem hlt⟩
  unfold atI ixN
  simp only [List.length_map]
  rw [if_pos (by omega)]
  rw [if_pos h1]
  simp [List.getElem?_eq_getElem hlt]
end
end Dl

namespace Dl
open PySem PySem.Spec PyProof.Rows L2
end Dl

namespace Dl
open PySem PySem.Spec PyProof.Rows L2
theorem goodA_of : ∀ {xs : List D}, (∀ x ∈ xs, x.good = true) → goodA xs = true
  | [], _ => rfl
  | y :: ys, h => by
    simp only [goodA, Bool.and_eq_true]
    exact ⟨h y List.mem_cons_self, goodA_of fun x m => h x (List.mem_cons_of_mem _ m)⟩
theorem depA_of {n : Nat} : ∀ {xs : List D}, (∀ x ∈ xs, x.dep ≤ n) → depA xs ≤ n
  | [], _ => Nat.zero_le _
  | y :: ys, h => by
    simp only [depA]
    exact Nat.max_le.mpr ⟨h y List.mem_cons_self, depA_of fun x m => h x (List.mem_cons_of_mem _ m)⟩
def okI (d : D) : Prop := d.good = true ∧ d.dep ≤ 50
theorem okI.ok {d : D} (h : okI d) : okD d := ⟨h.1, by have := h.2; omega⟩
theorem okI_int {i : Int} : okI (.int i) := ⟨by simp only [D.good], by simp only [D.dep]; omega⟩
theorem okD_lst {xs : List D} (h : ∀ x ∈ xs, okI x) : okD (.lst xs) := ⟨by simp only [D.good]; exact goodA_of fun x m => (h x m).1, by
  simp only [D.dep]
  have := depA_of fun x m => (h x m).2
  omega⟩
theorem okD_tup {xs : List D} (h : ∀ x ∈ xs, okI x) : okD (.tup xs) := ⟨by simp only [D.good]; exact goodA_of fun x m => (h x m).1, by
  simp only [D.dep]
  have := depA_of fun x m => (h x m).2
  omega⟩
theorem noLst_of : ∀ {xs : List D}, (∀ x ∈ xs, x.noLst = true) → noLstA xs = true
  | [], _ => rfl
  | y :: ys, h => by
    simp only [noLstA, Bool.and_eq_true]
    exact ⟨h y List.mem_cons_self, noLst_of fun x m => h x (List.mem_cons_of_mem _ m)⟩
theorem mulW {i j : Int} (h1 : i.natAbs < 2 ^ 1000) (h2 : j.natAbs < 2 ^ 1000) : CMulW i j := by
  unfold CMulW
  have f : ∀ n : Nat, n < 2 ^ 1000 → n.log2 < 1000 := fun n h => by
    by_cases e : n = 0
    · subst e; decide
    · exact (Nat.log2_lt e).mpr h
  have := f _ h1
  have := f _ h2
  omega
theorem big_abs {i : Int} (h0 : 0 ≤ i) (h : i < 2 ^ 250) : i.natAbs < 2 ^ 1000 := by
  have h1 : i.natAbs < 2 ^ 250 := by omega
  exact Nat.lt_of_lt_of_le h1 (Nat.pow_le_pow_right (by decide) (by decide))
theorem sl_tup {xs : List D} {lo hi : Option Int} {Q : D → Prop} (h : Q (.tup (cutL xs lo hi))) : fSl (.tup xs) lo hi Q := h
theorem in_tup {neg : Bool} {ys : List D} {x : D} {Q : D → Prop} (h1 : okD x) (h2 : okD (.tup ys)) (h : Q (.bl (xr neg (anyD ys x)))) : fIn neg x (.tup ys) Q := ⟨h1, h2, h⟩
theorem in_lst {neg : Bool} {ys : List D} {x : D} {Q : D → Prop} (h1 : okD x) (h2 : okD (.lst ys)) (h : Q (.bl (xr neg (anyD ys x)))) : fIn neg x (.lst ys) Q := ⟨h1, h2, h⟩
theorem eq_d {neg : Bool} {x y : D} {Q : D → Prop} (h1 : okD x) (h2 : okD y) (h : Q (.bl (xr neg (eqD x y)))) : fEq neg x y Q := ⟨h1, h2, h⟩
theorem eqD_int {i j : Int} : eqD (.int i) (.int j) = decide (i = j) := by
  unfold eqD
  simp only [D.py]
  show (i == j) = decide (i = j)
  by_cases h : i = j
  · rw [decide_eq_true h]; simpa using h
  · rw [decide_eq_false h]; simpa using h
theorem len_tup {ys : List D} {Q : D → Prop} (h : Q (.int ys.length)) : bLen [.tup ys] Q := ⟨_, rfl, h⟩
theorem len_lst {ys : List D} {Q : D → Prop} (h : Q (.int ys.length)) : bLen [.lst ys] Q := ⟨_, rfl, h⟩
theorem mem_lt : ∀ n ∈ ["list", "tuple"], n ∈ tyNames := by simp [tyNames]
theorem isSeq_iff {x : D} {t : String} (h : x.tyn = some t) : (["list", "tuple"].any fun n => isiB t n) = (seqOf x).isSome := by
  cases x with
  | obj k ns ds => cases k <;> first | (simp only [D.tyn, tynK, Option.some.injEq, reduceCtorEq] at h; done) | (simp only [D.tyn, tynK, Option.some.injEq, reduceCtorEq] at h; subst h; simp [isiB, seqOf])
  | _ => simp only [D.tyn, Option.some.injEq, reduceCtorEq] at h <;> subst h <;> simp [isiB, seqOf]
theorem lcD_draw {i : Nat} {te : TED} {env : DEnv} {Q : List D → Prop} (P : D → Prop) (hP : ∀ y, P y → y.noLst = true) : ∀ (xs acc : List D), (∀ x ∈ xs, ∀ R : D → Prop, (∀ y, P y → R y) → te (env.set i (.val x)) R) →
    (∀ ys : List D, ys.length = xs.length → (∀ y ∈ ys, P y) → Q (acc ++ ys)) → lcD (gdName i) dYes te env xs acc Q
  | [], acc, _, q => by
    have := q [] rfl fun y m => by cases m
    rw [List.append_nil] at this
    exact this
  | x :: xs, acc, h, q => by
    show if true = true then te (env.set i (.val x)) (fun y => y.noLst = true ∧ lcD (gdName i) dYes te env xs (acc ++ [y]) Q) else lcD (gdName i) dYes te env xs acc Q
    rw [if_pos rfl]
    refine h x List.mem_cons_self _ fun y hy => ⟨hP y hy, lcD_draw P hP xs (acc ++ [y]) (fun z m => h z (List.mem_cons_of_mem _ m)) fun ys hl hys => ?_⟩
    have := q (y :: ys) (by rw [List.length_cons, List.length_cons, hl]) fun z m => by
      rcases List.mem_cons.mp m with rfl | m
      · exact hy
      · exact hys z m
    rw [List.append_assoc]
    exact this
theorem atI_ok {α : Type} {xs : List α} {i : Int} (h0 : 0 ≤ i) (h1 : i < xs.length) : ∃ x, atI xs i = some x ∧ x ∈ xs := by
  have hlt : i.toNat < xs.length := by omega
  refine ⟨xs[i.toNat], ?_, List.getElem_mem hlt⟩
  unfold atI ixN
  rw [if_pos h0, if_pos h1]
  simp [List.getElem?_eq_getElem hlt]
theorem eqD_refl {d : D} (h : d.good = true) : eqD d d = true := SeqAt.eqv_refl d.py (py_can d h)
end Dl

namespace Dl
open PySem PySem.Spec PyProof.Rows L2
abbrev scrD (ds : List D) : D := .obj .scr (ds.map fun _ => "") ds
theorem scr_sq {K : PySem.W.Frag} {Av : Addr → Prop} {H : Hp} {v : V} {ns : List Str} {ds : List D} (h : Den K Av H v (.obj .scr ns ds)) : ∃ a ws, v = .ref a ∧ SqL K H a ws ∧ DenA K Av H ws ds := by
  simp only [Den] at h
  obtain ⟨ws, _, ⟨a, e, h⟩, dn⟩ := h
  refine ⟨a, ws, e, ?_, dn⟩
  rcases h with ⟨_, o, h⟩ | h
  · exact .inl (.inr ⟨o, h⟩)
  · exact h H
def bLenS : FC := fun xs Q => ∃ ns ds, xs = [.obj .scr ns ds] ∧ Q (.int ds.length)
theorem c_lenS {X : Cx} {I : HI} : RC X I (.builtin "len") bLenS := fun H xs ds Qd Q ok dn ⟨ns, es, e, h⟩ k => by
  subst e
  obtain ⟨v, rfl, d1⟩ := dn.one1
  obtain ⟨a, ws, rfl, sq, dn'⟩ := scr_sq d1
  rw [← dn'.len] at h
  exact rc_of call_len ⟨_, ws.length, rfl, .inl ⟨ws, sq, rfl⟩, k _ _ H (.refl ok) (by simp only [Den]) h⟩
theorem itd_scr {K : PySem.W.Frag} {a : Addr} {ns : List Str} {ds : List D} : ItD K (Itl K a) [(.ref a, .obj .scr ns ds)] ds := fun Av H hw _ => by
  obtain ⟨a', ws, e, sq, dn⟩ := scr_sq (hw _ List.mem_cons_self)
  cases e
  refine ⟨fun i hi => ?_, ws, sq, by rw [dn.len]; exact Nat.le_refl _⟩
  obtain ⟨v, q1, q2⟩ := dn.get (List.getElem?_eq_getElem hi)
  refine ⟨⟨ws, v, sq, q1⟩, fun x H' ⟨e, y⟩ => ?_⟩
  subst e
  have := y ws sq
  rw [q1] at this
  cases this
  exact ⟨Kp.refl, _, List.getElem?_eq_getElem hi, q2⟩
def idVarS (i : Nat) : TID := fun env Q => ∃ ns ds, env[i]? = some (.val (.obj .scr ns ds)) ∧ Q ds
theorem di_varS {X : Cx} {g : Gx} {tg : Expr} {p : Pos} (i : Nat) {x : Str} (hN : X.N[i]? = some x := by rfl) (hv : Vis X.env.scope x := by first | exact Or.inl rfl | exact Or.inr (Or.inl rfl) | exact Or.inr (Or.inr rfl)) (hd : (x == ("__debug__" : Str)) = false := by decide)
    (hcd : (x == ("__classdict__" : Str)) = false := by decide) : PID X g tg (.Name x p) (idVarS i) := pid_of (pi_seq (pe_var hN hv hd hcd)) fun b σ H env Qd R hd xl ⟨ns, ds, e, q⟩ k => by
  obtain ⟨oa, h1, h2, h3, h4⟩ := hd.slots
  obtain ⟨v, q1, q2⟩ := h3 i _ e
  obtain ⟨a, ws, rfl, sq, dn⟩ := scr_sq q2
  refine ⟨_, q1, .inl ⟨a, rfl, ⟨ws, sq⟩, k _ H [(.ref a, .obj .scr ns ds)] ds ⟨hd.len, hd.ext, oa, h1, h2, h3, fun p hp => ?_⟩ (.refl hd.ok) itd_scr q⟩⟩
  rcases List.mem_append.mp hp with z | z
  · rw [List.mem_singleton.mp z]; exact q2
  · exact h4 p z
def C_hand (K : PySem.W.Frag) : Ct := fun ds Q _ => ∃ (nm : List Str) (ns : List Int), ds = [.obj .scr nm (ns.map D.int)] ∧ ns.length ≤ 63 ∧ ∀ (cs : List Int) (t : Int), cs.length ≤ 63 → (∀ c ∈ cs, 0 ≤ c) → 0 ≤ t → t < 2 ^ 32 → Q (.lst [.lst (cs.map D.int), .int 0, .int 0, .int t])
def spLaw (K : PySem.W.Frag) : Sp := fun vs H Q _ => ∃ (a : Addr) (ns : List Int), vs = [.ref a] ∧ ns.length ≤ 63 ∧ Only H ∧ SqL K H a (ns.map V.int) ∧ ∀ H', Q (.bl true) H'
theorem hand_at {K : PySem.W.Frag} {H : Hp} {v : V} {cs : List Int} {t : Int} (h : Den K (fun _ => False) H v (.lst [.lst (cs.map D.int), .int 0, .int 0, .int t])) (hl : cs.length ≤ 63) (hp : ∀ c ∈ cs, 0 ≤ c) (t0 : 0 ≤ t) (t1 : t < 2 ^ 32) :
    ∃ hd c, v = .ref hd ∧ hd ≠ c ∧ HandAt hd c cs 0 0 t H := by
  simp only [Den] at h
  obtain ⟨hd, vs, rfl, hh, _, dn⟩ := h
  obtain ⟨v1, r1, rfl, d1, dn⟩ := dn.cons
  obtain ⟨v2, r2, rfl, d2, dn⟩ := dn.cons
  obtain ⟨v3, r3, rfl, d3, dn⟩ := dn.cons
  obtain ⟨v4, rfl, d4⟩ := dn.one1
  simp only [Den] at d1 d2 d3 d4
  subst d2 d3 d4
  obtain ⟨c, ws, rfl, hc, _, dw⟩ := d1
  have e := dw.ofInts
  subst e
  refine ⟨hd, c, rfl, fun z => ?_, hh, hc, hl, hp, Int.le_refl 0, by decide, Int.le_refl 0, t0, t1⟩
  subst z
  rw [hc] at hh
  have hh := HO.lst.inj (Option.some.inj hh)
  cases cs with
  | nil => cases hh
  | cons x xs => cases hh
theorem scr_den {K : PySem.W.Frag} {H : Hp} {a : Addr} {ns : List Int} (o : Only H) (h : SqL K H a (ns.map V.int)) : Den K (fun _ => False) H (.ref a) (scrD (ns.map D.int)) := by
  simp only [Den]
  refine ⟨ns.map V.int, by simp, ⟨a, rfl, ?_⟩, DenA.ints⟩
  rcases h with (h | ⟨u, h⟩) | h
  · rcases o a with z | ⟨u, xs, z⟩
    · rw [z] at h; cases h
    · rw [z] at h; cases h
  · exact .inl ⟨id, u, h⟩
  · exact .inr fun G => .inr h
theorem law_run {X : Cx} {rest : List Stmt} {td : Addr → TSD} {Q : VK} {H : Hp} {a : Addr} {ns : List Int} {σ : L2.St} {n : Nat} {W : WX}
    (hσ : σ = some (.ref a) :: none :: List.replicate n none)
    (hrest : ∀ hd c, hd ≠ c → PSsD X ⟨handI hd c, fun _ _ => False, W⟩ rest (td hd))
    (hC : ∀ hd, td hd ⟨fun _ => False, fun d => d = .bl true, fun _ => False, fun _ => False, fun _ => False⟩ (.val (scrD (ns.map D.int)) :: .val (.ref hd) :: List.replicate n .no))
    (hl : ns.length ≤ 63) (o : Only H) (sq : SqL X.K H a (ns.map V.int)) (hQ : ∀ H', Q (.bl true) H') :
    tSeq (tAsg (tCall (spOf X.K HI.plain 1 (C_hand X.K)) [] E0 (tCons (tVar 0) tNil)) (gName 1)) (wSs X rest) { nx := fun _ H' => Q .non H', rt := Q } σ H := by
  subst hσ
  have ds := scr_den o sq
  refine ⟨_, rfl, [scrD (ns.map D.int)], fun d => ∃ (cs : List Int) (t : Int), cs.length ≤ 63 ∧ (∀ c ∈ cs, 0 ≤ c) ∧ 0 ≤ t ∧ t < 2 ^ 32 ∧ d = .lst [.lst (cs.map D.int), .int 0, .int 0, .int t], fun _ => False, rfl, .one ds, trivial, ⟨_, ns, rfl, hl, fun cs t h1 h2 h3 h4 => ⟨cs, t, h1, h2, h3, h4, rfl⟩⟩, fun v d H1 e1 dn ⟨cs, t, h1, h2, h3, h4, ed⟩ => ?_, fun _ _ _ _ _ z => z.elim⟩
  subst ed
  obtain ⟨hd, c, rfl, hne, Z⟩ := hand_at dn h1 h2 h3 h4
  have kp : Kp (fun _ => False) H H1 := e1.1
  have ok1 : (handI hd c).ok H1 := ⟨_, _, _, _, Z⟩
  have hd0 : DenE X.K (handI hd c) ⟨H1, []⟩ (some (.ref a) :: some (.ref hd) :: List.replicate n none) H1 (.val (scrD (ns.map D.int)) :: .val (.ref hd) :: List.replicate n .no) := by
    refine ⟨by simp, .refl ok1, fun _ => 0, fun i xs e => ?_, fun i j xs ys e => ?_, fun i d e => ?_, fun p hp => by cases hp⟩
    · match i, e with
      | 0, e => cases e
      | 1, e => cases e
      | i + 2, e =>
        simp only [List.getElem?_cons_succ, List.getElem?_replicate] at e
        split at e <;> cases e
    · match i, e with
      | 0, e => cases e
      | 1, e => cases e
      | i + 2, e =>
        simp only [List.getElem?_cons_succ, List.getElem?_replicate] at e
        split at e <;> cases e
    · match i, e with
      | 0, e =>
        cases e
        refine ⟨.ref a, rfl, ?_⟩
        have d1 : Den X.K (fun _ => False) H1 (.ref a) (scrD (ns.map D.int)) := Den.keep kp _ _ ds
        simp only [Den] at d1 ⊢
        obtain ⟨ws, hw, ⟨b, eb, hb⟩, dw⟩ := d1
        cases eb
        have ew := dw.ofInts
        subst ew
        refine ⟨_, hw, ⟨a, rfl, hb.imp (fun ⟨_, u, hu⟩ => ⟨fun z => ?_, u, hu⟩) id⟩, DenA.ints⟩
        rcases z with z | ⟨i, xs, e, _⟩
        · have z : a = hd := z
          rw [z, Z.h] at hu
          cases hu
        · match i, e with
          | 0, e => cases e
          | 1, e => cases e
          | i + 2, e =>
            simp only [List.getElem?_cons_succ, List.getElem?_replicate] at e
            split at e <;> cases e
      | 1, e =>
        cases e
        exact ⟨.ref hd, rfl, by simp only [Den]⟩
      | i + 2, e =>
        simp only [List.getElem?_cons_succ, List.getElem?_replicate] at e
        split at e <;> cases e
  refine hrest hd c hne ⟨H1, []⟩ _ H1 _ _ _ hd0 (fun _ _ _ _ _ _ _ _ _ z => z.elim) (hC hd) ⟨fun _ _ _ _ z => z.elim, fun v d H2 e2 dn2 ed => ?_, fun _ _ _ _ z => z.elim, fun _ _ _ _ z => z.elim, fun _ _ _ _ _ _ _ _ _ z => z.elim⟩
  subst ed
  simp only [Den] at dn2
  subst dn2
  exact hQ H2
end Dl

namespace Dl
open PySem PySem.Spec PyProof.Rows L2
def sAsgG (td : TED) (gd : TGD) : TSD := fun Dd env => td env fun d => (noOwn env = true ∨ d.noLst = true) ∧ gd d env Dd.nx
section
variable {X : Cx} {g : Gx} {e tg : Expr} {td : TED} {gd : TGD} {pos : Pos} {I : HI}
theorem ds_asgG (he : PED X g e td) (hg : PGD X g tg gd) (hs : swapsWithSole [tg] e pos.line X.env = pure false := by rfl) (hw : swappedStores [tg] e X.env = pure none := by rfl)
    (h1 : (assignEach [tg] X.env).map (·.2) = [assign tg X.env] := by rfl) : PSD X g (.Assign [tg] e pos) (sAsgG td gd) :=
  psd_of (ps_asg pe_w pg_w hs hw h1) fun b σ H env Dd E hd xl h el => he b σ H env _ _ hd xl h fun v d H1 e1 dn ⟨kp, q⟩ =>
    hg b σ H1 env v d _ _ ((hd.mono e1).hold dn kp) q fun σ' H' env' hd' e' q' => el.nx σ' H' env' hd' q'
end
end Dl

namespace Ns
open PySem PySem.Spec PyProof.Rows L2
abbrev Key := NestedKey
mutual
/-- no text within -/
def dry : Key → Bool
  | .none => true | .num _ => true | .text _ => false | .tup ks => dryA ks
def dryA : List Key → Bool
  | [] => true
  | k :: ks => dry k && dryA ks
end
structure At (h : Heap) (k : Key) (b : Addr) : Prop where
  is : NestedIs h k (.ref b)
  low : k.depth ≤ 8
  dry : dry k = true
section
variable {h h' : Heap} {k : Key} {b : Addr}
end
section
variable {P : Program} {w : World} {A : Around} {E : Value → Shared → Prop} {s : Shared}
end
end Ns

namespace Ns
open PySem PySem.Spec PyProof.Rows L2
abbrev rowOf (w : World) (p : Addr × Key) : Int × Value := (p.2.hash w, Value.ref p.1)
section
variable {P : Program} {w : World} {A : Around} {E : Value → Shared → Prop} {s : Shared} {a : Addr} {L : List (Addr × Key)} {es : Array (Int × Value)} {ep : Nat} {t : SetTable}
end
end Ns

namespace Ns
open PySem PySem.Spec PyProof.Rows L2
section
variable {P : Program} {w : World} {A : Around} {E : Value → Shared → Prop} {s : Shared} {a : Addr} {L : List (Addr × Key)} {es : Array (Int × Value)} {ep : Nat} {t : SetTable}
end
end Ns

namespace Ns
open PySem PySem.Spec PyProof.Rows L2
abbrev bareSet (w : World) : Obj := { cls := .type "set", dict := none, data := .set #[] 0 (.fresh 0 0 (!w.params.followText "set-order")) }
structure Adds (X : Cx) (O0 : Addr → HO) (Ad : Addr → V → Hp → (Hp → Prop) → Prop) : Prop where
  new : ∀ (H : Hp) (h : Heap) (D : Addr), h.get? D = some (bareSet X.w) → ObjOk X.prog X.w H h D (O0 D)
  add : ∀ (s0 : Shared) (H0 : Hp) (sc : Scope) (ce : Env) (fp : List Addr) (pins : List (Addr × Obj)) (σ : L2.St) (H : Hp) (s : Shared) (D : Addr) (y : V) (u : Value) (Nx : Hp → Prop) (E : Value → Shared → Prop) (Q : Value → Shared → Prop),
    Inv (X.blk s0 H0 sc ce fp) pins σ H s → RelV y u → Ad D y H Nx → (∀ s' H', Inv (X.blk s0 H0 sc ce fp) pins σ H' s' → Nx H' → Q .none s') → wpAny (model X.prog X.w) X.A (call (.builtin "set.add") [.ref D, u]) Q E s
section
variable {X : Cx} {O0 : Addr → HO} {Ad : Addr → V → Hp → (Hp → Prop) → Prop}
end
end Ns

namespace Ns
open PySem PySem.Spec PyProof.Rows L2
abbrev toks (x : PyData) : List (Int ⊕ List Nat) := PySem.W.keyToks x
open Classical in
section
variable {P : Program} {w : World} {A : Around} {E : Value → Shared → Prop} {s : Shared}
end
end Ns

namespace Ns
open PySem PySem.Spec PyProof.Rows L2 Dl
mutual
def keyD : D → Key
  | .int i => .num i
  | .tup xs => .tup (keysD xs)
  | .non => .none | .bl _ => .none | .str _ => .none | .lst _ => .none | .ref _ => .none | .ty _ => .none | .obj _ _ _ => .none
def keysD : List D → List Key
  | [] => []
  | x :: xs => keyD x :: keysD xs
end
mutual
/-- None, a whole number, a tuple of such -/
def kok : D → Bool
  | .non => true | .int _ => true | .tup xs => kokA xs
  | .bl _ => false | .str _ => false | .lst _ => false | .ref _ => false | .ty _ => false | .obj _ _ _ => false
def kokA : List D → Bool
  | [] => true
  | x :: xs => kok x && kokA xs
end
section
variable {X : Cx} {pins : List (Addr × Obj)} {σ : L2.St} {H : Hp} {s : Shared} {Av : Addr → Prop}
end
structure Mem (K : PySem.W.Frag) (Av : Addr → Prop) (H : Hp) (m : Addr × D) : Prop where
  den : Den K Av H (.ref m.1) m.2
  ok : kok m.2 = true
  low : m.2.dep ≤ 8
abbrev kp (m : Addr × D) : Addr × Key := (m.1, keyD m.2)
structure NS0 (P : Program) (w : World) (h : Heap) (a : Addr) (L : List (Addr × Key)) : Prop where
  ex : ∃ (es : Array (Int × Value)) (ep : Nat) (t : SetTable), (∃ o, h.get? a = some o ∧ o.ExactSet ∧ o.data = .set es ep t) ∧ es.toList = L.map (rowOf w) ∧ TabOk t (L.map fun p => p.2.hash w) ∧ (L.map (·.2)).Nodup ∧ t.plain = true ∧
    (w.params.followText "set-order" = true ∨ t.led = true) ∧ L.length * 5 < t.mask * 3 ∧ L.length < 64
def SetNO (P : Program) (w : World) (a : Addr) (L : List (Addr × Key)) : HO := .ext fun h => NS0 P w h a L
section
variable {X : Cx}
end
end Ns

namespace Ns
open PySem PySem.Spec PyProof.Rows L2 Dl
abbrev TZD := DEnv → (List D → Prop) → Prop
section
variable {X : Cx} {g : Gx} {wi : TI} {gt : TG} {tt : TT} {te : TE} {vs : List Nat} {tid : TID} {gd : TGD} {td : TTD} {ed : TED}
structure Sofar (X : Cx) (I : HI) (S : Addr) (n : Nat) (H1 H : Hp) (acc : List D) : Prop where
  ex : ∃ M : List (Addr × D), H S = some (SetNO X.prog X.w S (M.map kp)) ∧ M.length ≤ n ∧ (∀ m ∈ M, Mem X.K (fun a => I.own a ∨ a = S) H m) ∧ (∀ d, d ∈ M.map (·.2) ↔ d ∈ acc)
  kp : Kp I.own H1 H
  ok : I.ok H
end
section
variable {X : Cx} {g : Gx} {elt tg iter : Expr} {ifs : List Expr} {scope : Scope} {own : List (Str × Nat)} {pos : Pos} {gt : TG} {tid : TID} {gd : TGD} {td : TTD} {ed : TED}
end
end Ns

namespace Ns
open PySem PySem.Spec PyProof.Rows L2 Dl
abbrev tupI (ns : List Int) : D := .tup (ns.map D.int)
section
variable {X : Cx} {g : Gx} {e : Expr} {tas : TAD} {p pos : Pos}
end
section
variable {X : Cx} {Av : Addr → Prop}
end
section
variable {X : Cx} {g : Gx} {e : Expr} {tz : TZD} {p pos : Pos}
end
end Ns

namespace Ns
open PySem PySem.Spec PyProof.Rows L2 Dl HT
section
variable {prog : Program} {w : World} {A : Around} {E : Value → Shared → Prop} {s : Shared}
end
section
variable {X : Cx} {e st : Expr} {te ts : TE} {p2 pos : Pos}
end
end Ns

namespace Ns
open PySem PySem.Spec PyProof.Rows L2 Dl
def SX (K : PySem.W.Frag) (g : Gx) (te : TE) (td : TED) : Prop :=
  ∀ (b : B0) (σ : L2.St) (H : Hp) (env : DEnv) (Qd : D → Prop) (Q : VK), DenE K g.I b σ H env → XL K g b → td env Qd →
    (∀ v d H', Ext g.I H H' → (∀ P : Addr → Prop, (∀ a, P a → ¬ g.I.own a ∧ ∃ xs, H a = some (.lst xs)) → Den K (fun a => g.I.own a ∨ P a) H' v d) → Qd d → Q v H') → te σ H Q
def PXD (X : Cx) (g : Gx) (e : Expr) (td : TED) : Prop := SX X.K g (wE X e) td
def dNl (td : TED) : TED := fun env Q => td env fun d => d.noLst = true ∧ Q d
def dFx (tf : TFD) : TED := fun env Q => tf env fun ds => noLstA ds = true ∧ Q (.lst ds)
section
variable {X : Cx} {g : Gx} {e c a b : Expr} {td ta tb : TED} {tf : TFD} {t : TTD} {pos : Pos} {sc : Scope}
theorem x_e (h : PED X g e td) : PXD X g e (dNl td) := fun b0 σ H env Qd Q hd xl ht k => h b0 σ H env _ _ hd xl ht fun v d H1 e1 dn ⟨nl, q⟩ => k v d H1 e1 (fun P hP => Den.apart (fun a pa => let ⟨n, xs, q⟩ := hP a pa; ⟨xs, e1.1 _ _ n q⟩) _ _ nl dn) q
theorem x_f (h : PFD X g e tf) : PXD X g e (dFx tf) := fun b0 σ H env Qd Q hd xl ht k => h b0 σ H env _ _ hd xl ht fun p vs ds H1 hp e1 hl dn ⟨nl, q⟩ => k _ _ H1 e1 (fun P hP => by
  simp only [Den]
  refine ⟨p, vs, rfl, hl, fun z => ?_, DenA.apart (fun a pa => let ⟨n, xs, q⟩ := hP a pa; ⟨xs, e1.1 _ _ n q⟩) _ _ nl (DenA.weak (fun a z => .inl z) _ _ dn)⟩
  rcases z with z | z
  · exact HI.nown hd.ok hp z
  · obtain ⟨_, xs, e⟩ := hP p z
    rw [hp] at e
    cases e) q
theorem bx_of (h : ∀ (s : Shared) (H : Hp) (C : Addr) (cl : List (Str × Addr)) (fp : List Addr), PXD (X.blk s H sc (compEnvC sc cl C X.env) fp) g.nox e td) : SX X.K g.nox (wBE X sc e) td :=
  fun b σ H env Qd Q hd xl ht k s0 H0 C cl fp pins s J => h s0 H0 C cl fp b σ H env Qd Q hd xl ht k pins s J
end
def lxD (gd : TGD) (tt : TTD) (te : TED) (env : DEnv) : List D → List D → (List D → Prop) → Prop
  | [], acc, Q => Q acc
  | x :: xs, acc, Q => gd x env fun env2 => tt env2 fun b => if b = true then te env2 fun y => lxD gd tt te env xs (acc ++ [y]) Q else lxD gd tt te env xs acc Q
def fLx (tid : TID) (gd : TGD) (tt : TTD) (te : TED) (vs : List Nat) : TFD := fun env Q => tid (frz env) fun ds => ds.length ≤ 1000000 ∧ lxD gd tt te (wipeD (frz env) vs) ds [] Q
theorem sf_lcX {K : PySem.W.Frag} {g : Gx} {wi : TI} {gt : TG} {tt : TT} {te : TE} {vs : List Nat} {tid : TID} {gd : TGD} {td : TTD} {ed : TED} (hi : SI K g wi tid) (hg : SG K g.nox gt gd) (hw : GW gt vs) (ht : ST K g.nox tt td) (he : SX K g.nox te ed) :
    SF K g (tLc wi gt tt te vs) (fLx tid gd td ed vs) := fun b σ H env Qd Q hd xl hq k => by
  refine hi b σ H (frz env) _ _ hd.frz xl hq fun J H1 hws ds hd1 e1 it0 ⟨hlen, q⟩ => ?_
  intro D hD
  have hH : H D = none := e1.back hD
  have hE : DenE K g.I ⟨H1, hws⟩ (wipe σ vs) H1 (wipeD (frz env) vs) := (hd1.rebase (noOwn_frz env)).wiped vs
  have hno := noOwn_wipe (noOwn_frz env) vs
  have nD : ¬ g.I.own D := HI.nown e1.2 hD
  refine ⟨fun i m H' => m = ds.length - i ∧ i ≤ ds.length ∧ ∃ acc avs, H' D = some (.lst avs) ∧ avs.length ≤ i ∧ DenA K (fun a => g.I.own a ∨ a = D) H' avs acc ∧ Kp g.I.own H1 H' ∧ g.I.ok H' ∧ lxD gd td ed (wipeD (frz env) vs) (ds.drop i) acc Qd,
    ⟨ds.length, by simp, Nat.zero_le _, [], [], upd_same, Nat.zero_le _, by simp only [DenA], Kp.new hD, (Ext.new e1.2 hD).2, by simpa using q⟩, ?_⟩
  rintro i m H' ⟨rfl, hi', acc, avs, hl, hal, da, kp, ok, q'⟩
  have eH : Ext g.I H1 H' := ⟨kp, ok⟩
  have hE' := hE.mono eH
  obtain ⟨oa, h1, h2, h3, h4⟩ := id hE'.slots
  have IT := it0 g.I.own H' (fun p hp => Den.weak (fun a z => .inl z) _ _ (h4 p hp)) (fun a z => g.I.dom H' a ok (g.I.sub a z))
  by_cases hlt : i < ds.length
  · refine .inr ⟨(IT.1 i hlt).1, fun H2 => ∃ acc avs, H2 D = some (.lst avs) ∧ avs.length ≤ i + 1 ∧ DenA K (fun a => g.I.own a ∨ a = D) H2 avs acc ∧ Kp g.I.own H1 H2 ∧ g.I.ok H2 ∧ lxD gd td ed (wipeD (frz env) vs) (ds.drop (i + 1)) acc Qd,
      fun H2 h => ⟨ds.length - (i + 1), by omega, rfl, hlt, h⟩, fun x H2 y => ?_⟩
    obtain ⟨kn, d, hd2, dn⟩ := (IT.1 i hlt).2 x H2 y
    have e2 : Ext g.I H' H2 := .ofNew ok kn
    have q2 : lxD gd td ed (wipeD (frz env) vs) (d :: ds.drop (i + 1)) acc Qd := by
      rw [List.drop_eq_getElem_cons hlt] at q'
      have : d = ds[i] := by
        rw [List.getElem?_eq_getElem hlt] at hd2
        exact (Option.some.inj hd2).symm
      rw [this]; exact q'
    have held := (hE'.mono e2).hold dn (.inl hno)
    have wi2 : wipe (wipe σ vs) vs = wipe σ vs := wipe_idem vs
    refine (show gt x (wipe σ vs) H2 _ from ?_)
    have step := hw x (wipe σ vs) H2 _ (hg ⟨H1, hws⟩ (wipe σ vs) H2 _ x d _ (fun σ2 H3 => tt σ2 H3 fun b H4 => if b = true then te σ2 H4 fun y H5 => ∃ acc, H5 D = some (.lst acc) ∧ acc.length < sizeLine ∧
        (∃ acc' avs, (upd H5 D (.lst (acc ++ [y]))) D = some (.lst avs) ∧ avs.length ≤ i + 1 ∧ DenA K (fun a => g.I.own a ∨ a = D) (upd H5 D (.lst (acc ++ [y]))) avs acc' ∧ Kp g.I.own H1 (upd H5 D (.lst (acc ++ [y]))) ∧ g.I.ok (upd H5 D (.lst (acc ++ [y]))) ∧ lxD gd td ed (wipeD (frz env) vs) (ds.drop (i + 1)) acc' Qd)
        else ∃ acc avs, H4 D = some (.lst avs) ∧ avs.length ≤ i + 1 ∧ DenA K (fun a => g.I.own a ∨ a = D) H4 avs acc ∧ Kp g.I.own H1 H4 ∧ g.I.ok H4 ∧ lxD gd td ed (wipeD (frz env) vs) (ds.drop (i + 1)) acc Qd) held q2 fun σ3 H3 env3 hd3 e3 q3 => ?_)
    · rw [wi2] at step
      exact step
    · refine ht ⟨H1, hws⟩ σ3 H3 env3 _ _ hd3 XL.nox q3 fun c H4 e4 q4 => ?_
      have x4 : Ext g.I H' H4 := e2.trans (e3.trans e4)
      have l4 : H4 D = some (.lst avs) := x4.1 D _ nD hl
      have d4 : DenA K (fun a => g.I.own a ∨ a = D) H4 avs acc := DenA.keep (x4.1.weak fun a z => .inl z) _ _ da
      cases c with
      | false =>
        rw [if_neg Bool.false_ne_true] at q4 ⊢
        exact ⟨acc, avs, l4, by omega, d4, kp.trans x4.1, x4.2, q4⟩
      | true =>
        rw [if_pos rfl] at q4 ⊢
        refine he ⟨H1, hws⟩ σ3 H4 env3 _ _ (hd3.mono e4) XL.nox q4 fun yv yd H5 e5 dn5 q5 => ?_
        have l5 : H5 D = some (.lst avs) := e5.1 D _ nD l4
        have d5 : DenA K (fun a => g.I.own a ∨ a = D) H5 avs acc := DenA.keep (e5.1.weak fun a z => .inl z) _ _ d4
        have y5 : Den K (fun a => g.I.own a ∨ a = D) H5 yv yd := dn5 (fun a => a = D) fun a z => by rw [z]; exact ⟨nD, avs, l4⟩
        have mu : Kp (fun a => g.I.own a ∨ a = D) H5 (upd H5 D (.lst (avs ++ [yv]))) := Kp.mut (.inr rfl)
        have k5 : Kp g.I.own H1 H5 := kp.trans (x4.1.trans e5.1)
        refine ⟨avs, l5, Nat.lt_of_le_of_lt hal (Nat.lt_of_lt_of_le hlt (Nat.le_trans hlen (by decide))), acc ++ [yd], avs ++ [yv], upd_same, by rw [List.length_append]; simpa using hal, DenA.keep mu _ _ (d5.app (.one y5)), fun a o n e => ?_, ?_, q5⟩
        · rw [upd_ne (ne_of_none e hD)]
          exact k5 a o n e
        · refine g.I.loc H5 _ (fun a f => upd_ne (fun z => ?_)) e5.2
          rw [z] at f
          exact g.I.dom H1 D e1.2 f hD
  · have ei : i = ds.length := by omega
    subst ei
    rw [List.drop_length] at q'
    exact .inl ⟨IT.2, k D avs acc H' hH (e1.trans eH) hl da q'⟩
section
variable {X : Cx} {g : Gx} {elt tg iter : Expr} {ifs : List Expr} {scope : Scope} {own : List (Str × Nat)} {pos : Pos} {gt : TG} {tid : TID} {gd : TGD} {td : TTD} {ed : TED}
theorem f_lcX (hc : X.calm = true) (hN : X.N.Nodup) (hi : PID X g tg iter tid) (ok : BlkOk X.N X.env.scope scope own)
    (hg : ∀ (s : Shared) (H : Hp) (C : Addr) (cl : List (Str × Addr)) (fp : List Addr), PG (X.blk s H scope (compEnvC scope cl C X.env) fp) tg gt) (sg : SG X.K g.nox gt gd) (gw : GW gt (own.map (·.2)))
    (ht : ST X.K g.nox (wBT X scope ifs) td) (he : SX X.K g.nox (wBE X scope elt) ed) (hs : ∀ x, foldedSetIterable iter X.env x = pure x := by intro _; rfl) :
    PFD X g (.ListComp elt [⟨tg, iter, ifs, 0⟩] scope pos) (fLx tid gd td ed (own.map (·.2))) := fun b σ H env Qd Q hd xl hq k pins s J =>
  (pe_lc hc hN pi_w ok hg (fun _ _ _ _ _ => pt_blk) (fun _ _ _ _ _ => pe_blk) hs).run pins s σ H Q J (sf_lcX hi sg gw ht he b σ H env Qd Q hd xl hq k)
end
end Ns

namespace Zs
open PySem PySem.Spec PyProof.Rows L2
section
variable {P : Program} {w : World} {A : Around} {E : Value → Shared → Prop} {s : Shared}
end
end Zs

namespace Dl
open PySem PySem.Spec PyProof.Rows L2
abbrev tI (ns : List Int) : D := .tup (ns.map D.int)
def lotLt (a b : List Int) : Prop := a.length < b.length ∨ (a.length = b.length ∧ HT.lexLt a b = true)
end Dl

namespace Dl
open PySem PySem.Spec PyProof.Rows L2 Ns
theorem eqv_ints : ∀ a b : List Int, PyData.eqvAll (a.map PyData.int) (b.map PyData.int) = decide (a = b)
  | [], [] => by simp [PyData.eqvAll]
  | [], y :: b => by simp [PyData.eqvAll]
  | x :: a, [] => by simp [PyData.eqvAll]
  | x :: a, y :: b => by
    simp only [List.map_cons, PyData.eqvAll, PyData.eqv, eqv_ints a b]
    by_cases h : x = y <;> by_cases h2 : a = b <;> simp [h, h2]
theorem lexLt_ints : ∀ a b : List Int, PyProof.Rows.lexLt itemOrd (PySem.W.keyToksAll (a.map PyData.int)) (PySem.W.keyToksAll (b.map PyData.int)) = HT.lexLt a b
  | [], [] => by rw [PyProof.Rows.lex_irrefl]; rfl
  | [], y :: b => by
    rw [List.map_cons, PySem.W.toks_all_cons]
    simp only [List.map_nil, PySem.W.keyToksAll]
    rw [PyProof.Rows.lex_diff (O := itemOrd) (by simp)]
    rfl
  | x :: a, [] => by
    rw [List.map_cons, PySem.W.toks_all_cons]
    simp only [List.map_nil, PySem.W.keyToksAll]
    rw [PyProof.Rows.lex_diff (O := itemOrd) (by simp)]
    rfl
  | x :: a, y :: b => by
    rw [List.map_cons, List.map_cons]
    by_cases h : x = y
    · subst h
      rw [PySem.W.dataLt_all_yes (by simp [PySem.W.alike]) (by simp [PyData.eqv]), lexLt_ints a b, HT.lexLt_cons, if_pos rfl]
    · rw [PySem.W.dataLt_all_no (by simp [PySem.W.alike]) (by simp [PyData.eqv, h]), HT.lexLt_cons, if_neg h]
      unfold PySem.W.dataLt
      simp only [PySem.W.keyToks]
      rw [PyProof.Rows.lex_diff (O := itemOrd) (by simp [h])]
      rfl
end Dl

namespace Dl
open PySem PySem.Spec PyProof.Rows L2 Ns
theorem lexLt_tr {a b c : List Int} (h1 : HT.lexLt a b = true) (h2 : HT.lexLt b c = true) : HT.lexLt a c = true := by
  rw [← lexLt_ints] at *
  exact PyProof.Rows.lex_trans _ _ _ h1 h2
theorem lexLt_tri : ∀ a b : List Int, HT.lexLt a b = false → HT.lexLt b a = false → a = b
  | [], [], _, _ => rfl
  | [], y :: b, h, _ => by cases h
  | x :: a, [], _, h => by cases h
  | x :: a, y :: b, h1, h2 => by
    rw [HT.lexLt_cons] at h1 h2
    by_cases e : x = y
    · subst e
      rw [if_pos rfl] at h1 h2
      rw [lexLt_tri a b h1 h2]
    · rw [if_neg e] at h1
      rw [if_neg (Ne.symm e)] at h2
      have := of_decide_eq_false h1
      have := of_decide_eq_false h2
      exact absurd (by omega) e
theorem sorted_eq {α : Type} {lt : α → α → Prop} (irr : ∀ a, ¬ lt a a) (tr : ∀ {a b c}, lt a b → lt b c → lt a c) : ∀ {l m : List α}, l.Pairwise lt → m.Pairwise lt → (∀ x, x ∈ l ↔ x ∈ m) → l = m
  | [], [], _, _, _ => rfl
  | [], y :: m, _, _, h => by have := (h y).mpr List.mem_cons_self; cases this
  | x :: l, [], _, _, h => by have := (h x).mp List.mem_cons_self; cases this
  | x :: l, y :: m, h1, h2, h => by
    obtain ⟨a1, b1⟩ := List.pairwise_cons.mp h1
    obtain ⟨a2, b2⟩ := List.pairwise_cons.mp h2
    have e : x = y := by
      rcases List.mem_cons.mp ((h x).mp List.mem_cons_self) with e | hx
      · exact e
      · rcases List.mem_cons.mp ((h y).mpr List.mem_cons_self) with e | hy
        · exact e.symm
        · exact absurd (tr (a1 y hy) (a2 x hx)) (irr x)
    subst e
    rw [sorted_eq irr tr b1 b2 fun z => ?_]
    constructor
    · intro hz
      rcases List.mem_cons.mp ((h z).mp (List.mem_cons_of_mem _ hz)) with e | q
      · subst e; exact absurd (a1 z hz) (irr z)
      · exact q
    · intro hz
      rcases List.mem_cons.mp ((h z).mpr (List.mem_cons_of_mem _ hz)) with e | q
      · subst e; exact absurd (a2 z hz) (irr z)
      · exact q
end Dl

namespace Dl
open PySem PySem.Spec PyProof.Rows L2
section
variable {X : Cx} {x : Str} {e : Expr} {es : List Expr} {ta : L2.TA} {p pos : Pos}
end
section
variable {X : Cx} {pins : List (Addr × Obj)} {σ : L2.St} {H : Hp} {s : Shared} {Av : Addr → Prop}
end
section
variable {X : Cx} {I : HI} {g : Gx} {e : Expr} {te : TED} {pos p : Pos} {n y : Str}
end
end Dl

namespace Dl
open PySem PySem.Spec PyProof.Rows L2 He
def dMk (C : Addr) (fl : Str) (td : TED) : TED := fun env Q => td env fun d => Q (.obj (.exv C) [fl] [d])
section
variable {X : Cx} {g : Gx} {e e2 : Expr} {td t1 t2 : TED} {pos p : Pos} {x fl f1 f2 : Str} {j : Nat}
end
mutual
/-- data that may be shown: no class, no object -/
def D.nice : D → Bool
  | .obj _ _ _ => false | .ref _ => false | .ty _ => false | .str _ => true | .tup xs => niceA xs | .lst xs => niceA xs | .non => true | .bl _ => true | .int _ => true
def niceA : List D → Bool
  | [] => true
  | x :: xs => D.nice x && niceA xs
end
mutual
theorem Den.dpN {K : PySem.W.Frag} {Av : Addr → Prop} {H : Hp} : ∀ (d : D) (v : V), d.nice = true → Den K Av H v d → Dp K H v d.py
  | .non, v, _, h => by simp only [Den] at h; subst h; exact .non
  | .bl b, v, _, h => by simp only [Den] at h; subst h; exact .bl b
  | .int b, v, _, h => by simp only [Den] at h; subst h; exact .int b
  | .str b, v, _, h => by simp only [Den] at h; subst h; exact .str b
  | .tup ds, v, g, h => by
    simp only [Den] at h
    obtain ⟨a, vs, rfl, s, _, r⟩ := h
    exact .tup s (DenA.dpN ds vs (by simpa only [D.nice] using g) r)
  | .lst ds, v, g, h => by
    simp only [Den] at h
    obtain ⟨a, vs, rfl, s, _, r⟩ := h
    exact .lst (SqL.of s) (DenA.dpN ds vs (by simpa only [D.nice] using g) r)
  | .ref _, _, g, _ => by simp [D.nice] at g
  | .ty _, _, g, _ => by simp [D.nice] at g
  | .obj _ _ _, _, g, _ => by simp [D.nice] at g
theorem DenA.dpN {K : PySem.W.Frag} {Av : Addr → Prop} {H : Hp} : ∀ (ds : List D) (vs : List V), niceA ds = true → DenA K Av H vs ds → DpAll K H vs (pyA ds)
  | [], vs, _, h => by cases h.nil; exact .nil
  | d :: ds, vs, g, h => by
    simp only [niceA, Bool.and_eq_true] at g
    obtain ⟨v, r, rfl, h1, h2⟩ := h.cons
    exact .cons (Den.dpN d v g.1 h1) (DenA.dpN ds r g.2 h2)
end
def bRepr : FC := fun xs Q => ∃ ys : List D, xs = [.lst ys] ∧ (D.lst ys).nice = true ∧ (D.lst ys).dep ≤ 20 ∧ (D.lst ys).py.showable = true ∧ (D.lst ys).py.shown.length ≤ sizeLine ∧ Q (.str (D.lst ys).py.shown)
mutual
theorem py_noDict : ∀ d : D, d.py.hasDict = false
  | .obj _ _ _ => rfl | .non => rfl | .bl _ => rfl | .int _ => rfl | .str _ => rfl | .ref _ => rfl | .ty _ => rfl
  | .tup xs => by simp only [D.py, PyData.hasDict]; exact pyA_noDict xs
  | .lst xs => by simp only [D.py, PyData.hasDict]; exact pyA_noDict xs
theorem pyA_noDict : ∀ ds : List D, PyData.hasDictAll (pyA ds) = false
  | [] => rfl
  | x :: xs => by simp only [pyA, PyData.hasDictAll, py_noDict x, pyA_noDict xs, Bool.or_self]
end
theorem c_repr {X : Cx} {I : HI} (hgd : X.A.guards = some []) (hu : X.A.units + 64 < cLine) : RC X I (.builtin "repr") bRepr := fun H xs ds Qd Q ok dn ⟨ys, e, go, dp, sh, sz, q⟩ k => by
  subst e
  obtain ⟨v, rfl, d1⟩ := dn.one1
  intro pins s σ us J r
  match us, r with
  | [u], .cons rx .nil =>
    have dd := Den.dpN _ _ go d1
    simp only [Den] at d1
    obtain ⟨a, vs, rfl, _⟩ := d1
    obtain rfl : u = Value.ref a := rx
    obtain ⟨as, rd⟩ := Dp.reads J _ _ _ dd rfl
    have dl : (D.lst ys).py.depth ≤ 20 := by rw [py_dep]; exact dp
    refine repr_of_reads' rd sh (fun z => by rw [py_noDict] at z; cases z) hgd (by omega) (fun b o e => e) (fun h' t tk keep => ?_) sz
    exact ⟨.str _, H, J.kept (t' := tk) keep, ⟨_, rfl⟩, k _ _ H (.refl ok) (by simp only [Den]) q⟩
def fNeS : F2 := fun x y Q => ∃ a b : Str, x = .str a ∧ y = .str b ∧ Q (.bl (!decide (a = b)))
theorem r_neS {X : Cx} {I : HI} : RD X I (compareOp .NotEq) fNeS := fun H x y dx dy Qd Q ok hx hy ⟨a, b, e1, e2, h⟩ k => by
  subst e1 e2
  simp only [Den] at hx hy
  subst hx hy
  refine rw2_of op_ne ⟨rfl, ?_⟩
  have e : decide (V.str a = V.str b) = decide (a = b) := by rw [Bool.eq_iff_iff]; simp
  rw [e]
  exact k _ _ H (.refl ok) (by simp only [Den]) h
end Dl

namespace Dl
open PySem PySem.Spec PyProof.Rows L2
structure FnAt (P : Program) (w : World) (K : PySem.W.Frag) (mg : Str → Option Value) (base : Heap) (CX : CXT) (A : Around) (f : Addr) (fd : FuncData) (ps : List Str) (sp : Sp) : Prop where
  run : ∀ (outer : List Env) (s : Shared) (H : Hp) (args : Args) (us : List Value) (vs : List V) (Q : VK) (E : XK), Env0 P w K mg base A outer s H → BindsTo s fd args (ps.zip us) → Vals vs us → vs.length = ps.length → sp vs H Q E → codeAny (model P w) A (.call (.ref f) args) (CR CX outer P w H s Q E) s
section
variable {P : Program} {w : World} {K : PySem.W.Frag} {mg : Str → Option Value} {base : Heap} {x qual : Str} {params : Arguments} {body : List Stmt} {scope : Scope} {dvs : List V} {kws : List (Str × V)} {f : Addr} {fd : FuncData} {CX : CXT} {N ps : List Str} {sp : Sp} {A : Around} {k : Nat}
theorem fnAt (F : FunD K x qual params body scope dvs kws f fd) (S : FnScope N ps scope) (room : Room (k + 1) A)
    (walk : ∀ (cdv : Value) (outer : List Env) (s : Shared) (H : Hp) (vs : List V) (Q : VK) (E : XK), Room k (A.deeper (envOfC qual scope s.heap.objs.size f cdv)) → sp vs H Q E →
      ∃ t, PSs (cxOf CX P w K mg base N qual scope f cdv A outer s H E) body t ∧ t { nx := fun _ H' => Q .non H', rt := Q } (start N vs) H) : FnAt P w K mg base CX A f fd ps sp := by
  have z := F.ex
  obtain ⟨_, _, _, _, _, _, _, cdv, _, _, rfl, at_f, code, _, _⟩ := z
  constructor
  intro outer s H args us vs Q E e0 binds rel len hsp
  have inK := e0.mod.kin.keeps fun b o e => (e0.bs b o e).1
  have slots : ∀ y ∈ ps.zip us, scope.names.lookup y.1 = some .local ∨ (scope.names.lookup y.1 = some .cell ∧ ((cellsFrom (s.heap.objs.size + 1) scope.names []).lookup y.1).isSome = true) := fun y hy =>
    (S.par y.1 (List.of_mem_zip (a := y.1) (b := y.2) hy).1).imp id fun q => ⟨q, PySem.W.cellsFrom_some _ _ _ (.inl q)⟩
  refine codeAny_call_function room.depth (inK _ _ at_f) rfl S.co S.gen rfl (PySem.W.codeRec_of inK code) (binds _ _ _ _ (wpAny_newFunctionEnv_cells S.kind slots fun env he s1 entered => ?_))
  subst he
  refine ⟨(e0.mod.nolimit.keeps fun b o e => (e0.bs b o e).1).keeps entered.toInCall.keep, codeAny_func ?_⟩
  obtain ⟨t, read, holds⟩ := walk cdv outer s H vs Q E (room.deeper _) hsp
  have I := inv_start (CX := CX) (E := E) S room.hd e0 len rel entered
  refine wpAny_mono (read.run [] s1 (start N vs) H _ I holds) (fun fl s' ends => ?_) fun _ _ z => z
  match fl, ends with
  | .ret u, ⟨v, σ', H', J, rv, q⟩ => exact ⟨v, H', J.os, J.bare, J.base, J.hok, rv, q⟩
  | .next, ⟨σ', H', J, q⟩ => exact ⟨V.non, H', J.os, J.bare, J.base, J.hok, rfl, q⟩
  | .brk, ⟨_, _, _, q⟩ => exact False.elim q
  | .cont, ⟨_, _, _, q⟩ => exact False.elim q
end
section
variable {P : Program} {w : World} {K : PySem.W.Frag} {mg mb : Str → Option Value} {fa a : Addr} {s₁ : Shared} {vs : List Value} {ns : List Int}
abbrev Fine (s₁ : Shared) (r : Result) (s' : Shared) : Prop := r = .ok (.ret (.bool true)) ∧ OldK s₁.heap s'.heap ∧ s'.os = s₁.os ∧ AllBare s'.gens
theorem fine_of {H : Hp} (O : Only H) (ok : HOk P w H s₁.heap) {r : Result} {s' : Shared} (h : CR CX0 [] P w H s₁ (fun v _ => v = .bl true) E0 r s') : Fine s₁ r s' := by
  match r, h with
  | .ok (.ret u), ⟨v, H', os, bare, un, ok', rv, q⟩ =>
    have q : v = .bl true := q
    subst q
    obtain rfl : u = Value.bool true := rv
    refine ⟨rfl, OldK.of_keep fun b o e => ?_, os, bare⟩
    rcases O b with n | ⟨ob, xs, f⟩
    · exact un.keep b o e n (fun z => nomatch z) (fun z => nomatch z)
    · have before := (ok b _ f).1
      have after := (ok' b _ (un.frzs b ob _ f)).1
      rw [e] at before
      cases before
      exact after
theorem entry0 (KX : K.In s₁.heap) (gl : s₁.heap.Ns mainGlobals mg) (bl : s₁.heap.Ns builtinsNs mb) (bb : ∀ x : Str, x ≠ "__name__" → mb x = bootBuiltins x) (lim : s₁.heap.NoLimit) (gens : s₁.gens = #[])
    (at_a : s₁.heap.get? a = some { cls := .type "list", data := .seq vs.toArray }) {H : Hp} (few : ∀ b, H b ≠ none → b = a) (mine : H a ≠ none → K.lookup a = none) (ok : HOk P w H s₁.heap) :
    ∃ base : Heap, K.In base ∧ base.Ns mainGlobals mg ∧ Env0 P w K mg base callerA [] s₁ H := by
  have free : ∀ {b : Addr} {o : Obj}, s₁.heap.get? b = some o → (b = a → False) → H b = none := fun {b o} _ n => Classical.byContradiction fun z => n (few b z)
  have noDict : ∀ {b : Addr} {o : Obj} {es : Array DictEntry} {ep : Nat}, s₁.heap.get? b = some o → o.data = .dict es ep → H b = none := fun {b o es ep} e d => free e fun z => by
    rw [z, at_a] at e
    cases e
    cases (show Data.seq vs.toArray _ = Data.dict es ep from d)
  have nsB : ∀ {b : Addr} {m : Str → Option Value}, s₁.heap.Ns b m → (hidT s₁.heap H).Ns b m := fun {b m} ⟨o, es, ep, e, d, r⟩ => ⟨o, es, ep, hidT_get e (noDict e d), d, r⟩
  have inB : K.In (hidT s₁.heap H) := fun b o e => hidT_get (KX b o e) (Classical.byContradiction fun z => by
    have hb := few b z
    subst hb
    rw [mine z] at e
    cases e)
  obtain ⟨mc, l1, l2⟩ := lim
  refine ⟨hidT s₁.heap H, inB, nsB gl, rfl, ⟨inB, nsB gl, ⟨mb, nsB bl, bb⟩, ⟨mc, nsB l1, l2⟩⟩, fun b o e => of_hidT e, Nat.le_of_eq (hidT_size _ _), trivial, fun b z => ?_, ok, .of_eq gens⟩
  exact absurd (show b ∈ ([] : List Addr) from z) (by simp)
theorem law_at (KX : K.In s₁.heap) (gl : s₁.heap.Ns mainGlobals mg) (bl : s₁.heap.Ns builtinsNs mb) (bb : ∀ x : Str, x ≠ "__name__" → mb x = bootBuiltins x) (lim : s₁.heap.NoLimit) (gens : s₁.gens = #[])
    (at_a : s₁.heap.get? a = some { cls := .type "list", data := .seq vs.toArray }) (hi : IntsAre vs ns) (hl : ns.length ≤ sizeLine)
    (F : ∀ (base : Heap) (H : Hp), K.In base → base.Ns mainGlobals mg → Only H → SqL K H a (ns.map V.int) → Env0 P w K mg base callerA [] s₁ H → codeAny (model P w) callerA (.call (.ref fa) ⟨[.ref a], []⟩) (CR CX0 [] P w H s₁ (fun v _ => v = .bl true) E0) s₁) :
    codeAny (model P w) callerA (.call (.ref fa) ⟨[.ref a], []⟩) (Fine s₁) s₁ := by
  have rel := vals_ints hi
  have same := hi.length
  by_cases own : K.lookup a = none
  · -- the script is tracked, as it is
    let H : Hp := fun b => if b = a then some (.frz { cls := .type "list", data := .seq vs.toArray } (.lst (ns.map V.int))) else none
    have Ha : H a = some (.frz { cls := .type "list", data := .seq vs.toArray } (.lst (ns.map V.int))) := if_pos rfl
    have Hn : ∀ b, b ≠ a → H b = none := fun b n => if_neg n
    have O : Only H := fun b => by
      by_cases e : b = a
      · exact .inr ⟨_, _, by rw [e]; exact Ha⟩
      · exact .inl (Hn b e)
    have ok : HOk P w H s₁.heap := fun b u z => by
      by_cases e : b = a
      · subst e
        rw [Ha] at z
        cases z
        exact ⟨at_a, by rw [List.length_map]; exact hl, vs, _, rel, at_a⟩
      · rw [Hn b e] at z
        cases z
    obtain ⟨base, h1, h2, e0⟩ := entry0 KX gl bl bb lim gens at_a (H := H) (fun b z => Classical.byContradiction fun n => z (Hn b n)) (fun _ => own) ok
    exact codeAny_mono (F base H h1 h2 O (.inl (.inr ⟨_, Ha⟩)) e0) fun r s' h => fine_of O ok h
  · obtain ⟨o, lk⟩ := Option.ne_none_iff_exists'.mp own
    have e := KX a o lk
    rw [at_a] at e
    cases e
    have O : Only (fun _ => none) := fun _ => .inl rfl
    have ok : HOk P w (fun _ => none) s₁.heap := fun b u z => by cases (show (none : Option HO) = some u from z)
    obtain ⟨base, h1, h2, e0⟩ := entry0 KX gl bl bb lim gens at_a (H := fun _ => none) (fun b z => absurd rfl z) (fun z => absurd rfl z) ok
    exact codeAny_mono (F base _ h1 h2 O (.inr ⟨_, vs.toArray, _, lk, rfl, rfl, rfl, by rw [List.size_toArray, same]; exact hl, by simpa using rel⟩) e0) fun r s' h => fine_of O ok h
end
theorem walk_at {l : PySem.W.OpenLaw} {n : Nat} {q : Program} {loose : List Str} {XP : (Str → Option Value) → Heap → Prop} {YP : World → Heap → Prop} {d : DefRec} {x : Str} (hn : l.most = some n) (hn2 : n ≤ sizeLine) (hdf : d.params.defaults = [])
    (F : ∀ (w : World) (mg : Str → Option Value) (fa : Addr) (h : Heap), YP w h → h.Ns mainGlobals mg → mg d.name = some (.ref fa) →
      ∃ (K : PySem.W.Frag) (fd : FuncData) (sp : Sp), K.In h ∧ (∀ (s : Shared) (u : Value), BindsTo s fd ⟨[u], []⟩ [(x, u)]) ∧
        (∀ (H : Hp) (a : Addr) (ns : List Int), ns.length ≤ n → Only H → SqL K H a (ns.map V.int) → sp [.ref a] H (fun v _ => v = .bl true) E0) ∧
        ∀ base : Heap, K.In base → base.Ns mainGlobals mg → FnAt l.prog w K mg base CX0 callerA fa fd [x] sp) :
    PySem.W.WalkO q loose XP YP l.row.toRowW d [] (fun f vs => PySem.call f vs) := by
  refine Att.attach_call hn hdf fun w s₀ s₁ mg mb fa o pm cd doc a vs ns G Y _ _ _ hmg hobj hints hlen hg => ?_
  obtain ⟨K, fd, sp, KX, hb, hsp, hF⟩ := F w mg fa _ Y G.T.g hmg
  exact law_at KX G.T.g G.T.b G.T.builtins G.T.nolimit hg hobj hints (Nat.le_trans hlen hn2) fun base H h1 h2 hO hS e0 => (hF base h1 h2).run [] s₁ H ⟨[.ref a], []⟩ [.ref a] [.ref a] _ _ e0 (hb s₁ (.ref a)) (.cons rfl .nil) rfl (hsp H a ns hlen hO hS)
end Dl

namespace Zs
open PySem PySem.Spec PyProof.Rows L2 Dl
def putI (x : Int) : List Int → List Int
  | [] => [x]
  | y :: ys => if x < y then x :: y :: ys else if x = y then y :: ys else y :: putI x ys
def canon : List Int → List Int
  | [] => []
  | x :: xs => putI x (canon xs)
abbrev Up (cs : List Int) : Prop := cs.Pairwise (· < ·)
theorem mem_putI {x k : Int} : ∀ {ys : List Int}, k ∈ putI x ys ↔ k = x ∨ k ∈ ys
  | [] => by simp [putI]
  | y :: ys => by
    unfold putI
    split
    · simp [List.mem_cons]
    · split
      · rename_i h
        subst h
        simp [List.mem_cons]
      · rw [List.mem_cons, mem_putI, List.mem_cons]
        constructor
        · rintro (h | h | h)
          · exact .inr (.inl h)
          · exact .inl h
          · exact .inr (.inr h)
        · rintro (h | h | h)
          · exact .inr (.inl h)
          · exact .inl h
          · exact .inr (.inr h)
theorem mem_canon {k : Int} : ∀ {ns : List Int}, k ∈ canon ns ↔ k ∈ ns
  | [] => Iff.rfl
  | n :: ns => by rw [canon, mem_putI, mem_canon, List.mem_cons]
theorem up_putI {x : Int} : ∀ {ys : List Int}, Up ys → Up (putI x ys)
  | [], _ => List.pairwise_singleton _ _
  | y :: ys, h => by
    obtain ⟨h1, h2⟩ := List.pairwise_cons.mp h
    unfold putI
    split
    · rename_i c
      refine List.pairwise_cons.mpr ⟨fun z hz => ?_, h⟩
      rcases List.mem_cons.mp hz with e | hz
      · rw [e]; exact c
      · exact Int.lt_trans c (h1 z hz)
    · split
      · exact h
      · rename_i c1 c2
        refine List.pairwise_cons.mpr ⟨fun z hz => ?_, up_putI h2⟩
        rcases mem_putI.mp hz with e | hz
        · rw [e]; omega
        · exact h1 z hz
theorem up_canon : ∀ ns : List Int, Up (canon ns)
  | [] => .nil
  | n :: ns => up_putI (up_canon ns)
theorem Up.nodup {cs : List Int} (h : Up cs) : cs.Nodup := h.imp fun h e => by rw [e] at h; exact Int.lt_irrefl _ h
theorem up_eq {a b : List Int} (ha : Up a) (hb : Up b) (h : ∀ k, k ∈ a ↔ k ∈ b) : a = b := sorted_eq (lt := fun a b : Int => a < b) Int.lt_irrefl Int.lt_trans ha hb h
theorem canon_up {cs : List Int} (h : Up cs) : canon cs = cs := up_eq (up_canon cs) h fun _ => mem_canon
theorem canon_len : ∀ ns : List Int, (canon ns).length ≤ ns.length
  | [] => Nat.le_refl _
  | n :: ns => by
    have h : ∀ ys : List Int, (putI n ys).length ≤ ys.length + 1 := fun ys => by
      induction ys with
      | nil => exact Nat.le_refl _
      | cons y ys ih =>
        unfold putI
        split
        · exact Nat.le_refl _
        · split
          · exact Nat.le_succ _
          · simpa using ih
    exact Nat.le_trans (h _) (Nat.succ_le_succ (canon_len ns))
def SetIO (w : World) (a : Addr) (S : Int → Bool) (n : Nat) : HO := .ext fun h => SetR w h a S n
theorem setIO_ok {w : World} {P : Program} {H : Hp} {h : Heap} {a : Addr} {S : Int → Bool} {n : Nat} (R : SetR w h a S n) : ObjOk P w H h a (SetIO w a S n) :=
  ⟨R, (let ⟨o, _, _, _, ho, _⟩ := R; ⟨o, ho⟩), fun _ _ p k => SetR.at p k⟩
abbrev setOf (w : World) (a : Addr) (cs : List Int) : HO := SetIO w a (fun j => decide (j ∈ cs)) cs.length
theorem set_many {w : World} {h : Heap} {a : Addr} {ns : List Int} {c : Nat} (R : SetR w h a (fun j => decide (j ∈ ns)) c) : SetR w h a (fun j => decide (j ∈ canon ns)) (canon ns).length := by
  have R2 := R
  obtain ⟨o, es, ep, t, ho, hx, hd, g, nd, hm, hb, hf, hn, r⟩ := R2
  have e : (canon ns).length = c := by
    rw [← hn, ← Array.length_toList, ← List.length_map (f := keyOf)]
    refine ((List.perm_ext_iff_of_nodup (up_canon ns).nodup nd).mpr fun k => ?_).length_eq
    rw [mem_canon, ← hm k, decide_eq_true_iff]
  rw [e]
  exact R.congr fun k => by simp only [mem_canon]
abbrev TZI := DEnv → (List Int → Prop) → Prop
def SZI (X : Cx) (g : Gx) (te : TE) (tz : TZI) : Prop :=
  ∀ (b : B0) (σ : L2.St) (H : Hp) (env : DEnv) (Qd : List Int → Prop) (Q : VK), DenE X.K g.I b σ H env → XL X.K g b → tz env Qd → (∀ a cs H', Ext g.I H H' → H' a = some (setOf X.w a cs) → Up cs → Qd cs → Q (.ref a) H') → te σ H Q
def PZI (X : Cx) (g : Gx) (e : Expr) (tz : TZI) : Prop := SZI X g (wE X e) tz
section
variable {X : Cx} {g : Gx} {e : Expr} {tas : TAD} {tz : TZI} {p pos : Pos}
def rSortI (w : World) : List V → Hp → VK → Prop := fun xs H Q => ∃ (a : Addr) (cs : List Int), xs = [.ref a] ∧ H a = some (setOf w a cs) ∧ Up cs ∧ cs.length < 64 ∧ ∀ p, H p = none → Q (.ref p) (upd H p (.lst (cs.map V.int)))
theorem cr_sortI (hc : X.calm = true) : CallR X (.builtin "sorted") (rSortI X.w) := fun pins s σ H xs us Q J r h => by
  obtain ⟨a, cs, rfl, hS, up, few, q⟩ := h
  rw [Vals.ref1 r]
  have R : SetR X.w s.heap a (fun j => decide (j ∈ cs)) cs.length := (J.hok a _ hS).1
  refine sorted_set R (J.ok.hd hc) few fun s' p out c ns keep gs os hp hg iv asc mem len => ?_
  have e : ns = cs := up_eq asc up fun k => by rw [mem k, decide_eq_true_iff]
  subst e
  have hn : H p = none := J.hok.fresh hp
  have hv : Vals (ns.map V.int) out.toList := vals_of_ints iv
  have J2 : Inv X pins σ (upd H p (.lst (ns.map V.int))) { s with heap := s'.heap, gens := s'.gens, drawn := s'.drawn, toks := s'.toks } :=
    J.call (ch := []) (Un.laid keep hp hn) (J.hok.laid keep hp ⟨by rw [List.length_map, sizeLine_eq]; omega, out.toList, c, hv, hg⟩) (by rw [gs]; exact J.bare) (fun _ z => nomatch z)
  have es : s' = { s with heap := s'.heap, gens := s'.gens, drawn := s'.drawn, toks := s'.toks } := by
    cases s'
    cases s
    cases os
    rfl
  rw [es]
  exact ⟨.ref p, _, J2, rfl, q p hn⟩
def dSortI (tz : TZI) : TED := fun env Q => tz env fun cs => cs.length < 64 ∧ Q (.lst (cs.map D.int))
theorem ints_den {K : PySem.W.Frag} {Av : Addr → Prop} {H : Hp} : ∀ ns : List Int, DenA K Av H (ns.map V.int) (ns.map D.int)
  | [] => by simp [DenA]
  | n :: ns => by
    show DenA K Av H (V.int n :: ns.map V.int) (D.int n :: ns.map D.int)
    simp only [DenA]
    exact ⟨_, _, rfl, by simp only [Den], ints_den ns⟩
theorem d_sortI (hc : X.calm = true) (hg : Gl X "sorted") (hm : X.mg "sorted" = none) (ha : PZI X g e tz)
    (he : starEach [e] X.env = (false, eval e X.env) :: starEach [] X.env := by rfl) (hpl : (backTo pos (starEach [] X.env)).any (·.1) = false := by rfl) : PED X g (.Call (.Name "sorted" p) [e] [] pos) (dSortI tz) :=
  ped_of (pe_callB (cr_sortI hc) hg hm boot_sorted (pa_cons pe_w pa_nil he) (by decide) (by decide) he hpl) fun b σ H env Qd Q hd xl ht k =>
    ha b σ H env _ (fun v H' => rSortI X.w [v] H' Q) hd xl ht fun a cs H1 e1 hS up ⟨few, q⟩ => ⟨a, cs, rfl, hS, up, few, fun p hn => k _ _ _ (e1.trans (.new e1.2 hn)) (new_lst e1.2 hn (ints_den cs)) q⟩
end
end Zs

namespace Zo
open PySem PySem.Spec PyProof.Rows L2
end Zo

namespace Zo
open PySem PySem.Spec PyProof.Rows L2 Zs
section
variable {P : Program} {w : World} {A : Around} {E : Value → Shared → Prop} {s : Shared} {a b : Addr} {S T : Int → Bool} {n m : Nat}
end
end Zo

namespace Zo
open PySem PySem.Spec PyProof.Rows L2 Zs
section
variable {P : Program} {w : World} {A : Around} {E : Value → Shared → Prop} {s : Shared} {a b : Addr} {S T : Int → Bool} {n m : Nat}
end
end Zo

namespace Zo
open PySem PySem.Spec PyProof.Rows L2 Zs
section
variable {P : Program} {w : World} {A : Around} {E : Value → Shared → Prop} {s : Shared} {a b : Addr} {S T : Int → Bool} {n m : Nat}
end
end Zo

namespace Zo
open PySem PySem.Spec PyProof.Rows L2 Dl Zs
def SZN (X : Cx) (g : Gx) (te : TE) (tz : TZI) : Prop :=
  ∀ (b : B0) (σ : L2.St) (H : Hp) (env : DEnv) (Qd : List Int → Prop) (Q : VK), DenE X.K g.I b σ H env → XL X.K g b → tz env Qd → (∀ a cs H', Ext g.I H H' → H' a = some (setOf X.w a cs) → ¬ g.I.own a → Up cs → Qd cs → Q (.ref a) H') → te σ H Q
def PZN (X : Cx) (g : Gx) (e : Expr) (tz : TZI) : Prop := SZN X g (wE X e) tz
section
variable {X : Cx} {g : Gx} {e e2 : Expr} {te : TE} {tas : TAD} {tz tz2 : TZI} {p pos : Pos}
theorem pzn_of (q : PE X e te) (h : SZN X g te tz) : PZN X g e tz := fun b σ H env Qd Q hd xl ht k pins s J => q.run pins s σ H Q J (h b σ H env Qd Q hd xl ht k)
theorem PZN.z (h : PZN X g e tz) : PZI X g e tz := fun b σ H env Qd Q hd xl ht k => h b σ H env Qd Q hd xl ht fun a cs H' e1 hS _ up q => k a cs H' e1 hS up q
end
end Zo

namespace Zo
open PySem PySem.Spec PyProof.Rows L2 Dl Zs
theorem ext_none {I : HI} {H H1 : Hp} {p : Addr} (e : Ext I H H1) (h : H1 p = none) : H p = none := by
  cases c : H p with
  | none => rfl
  | some o =>
    by_cases w : I.own p
    · exact absurd h (I.dom H1 p e.2 (I.sub p w))
    · rw [e.1 p o w c] at h
      cases h
section
variable {X : Cx} {g : Gx} {tg e : Expr} {td : TFD} {tz : TZI} {p pos : Pos}
end
end Zo

namespace Wh
open PySem PySem.Spec PyProof.Rows L2 Dl
section
variable {X : Cx} {g : Gx} {c : Expr} {body : List Stmt} {pos : Pos} {tt : TTD} {tb : TSD}
end
end Wh

namespace Si
open PySem PySem.Spec PyProof.Rows L2 Dl Ns Zs
def AdI (X : Cx) (S : Addr) (y : V) (H : Hp) (Nx : Hp → Prop) : Prop := ∃ (k : Int) (acc : List Int), y = .int k ∧ H S = some (setOf X.w S (canon acc)) ∧ acc.length < 4000 ∧ Nx (upd H S (setOf X.w S (canon (k :: acc))))
theorem adds_I {X : Cx} : Adds X (fun D => setOf X.w D (canon [])) (AdI X) where
  new H h D e := setIO_ok ((setR_new_at (ns := []) e).congr fun k => rfl)
  add s0 H0 sc ce fp pins σ H s D y u Nx E Q I r hh k := by
    obtain ⟨n, acc, rfl, hD, few, nx⟩ := hh
    obtain ⟨t, rfl⟩ := r
    have R0 : SetR X.w s.heap D _ _ := (I.hok D _ hD).1
    have cl := canon_len acc
    refine setR_add R0 (by unfold scanBound; omega) fun h' sb R' => ?_
    have he : ∃ u, h'.get? D = some u := let ⟨o, _, _, _, ho, _⟩ := R'; ⟨o, ho⟩
    have R2 : SetR X.w h' D (fun j => decide (j ∈ n :: canon acc)) _ := R'.congr fun j => by
      simp only [List.mem_cons, Bool.decide_or]
      exact Bool.or_comm _ _
    have R3 := set_many R2
    have e : canon (n :: canon acc) = canon (n :: acc) := by
      rw [canon, canon, canon_up (up_canon acc)]
    rw [e] at R3
    have J := I.write (e := D) (t' := s.toks + 1) (by rw [hD]; trivial) (.inl rfl) (fun b u hb hu => (sb.2 b hb).trans hu) he (setIO_ok (P := X.prog) R3)
    exact k _ _ J nx
section
variable {X : Cx} {g : Gx} {wi : TI} {gt : TG} {tt : TT} {te : TE} {vs : List Nat} {tid : TID} {gd : TGD} {td : TTD} {ed : TED}
end
section
variable {X : Cx} {g : Gx} {elt tg iter : Expr} {ifs : List Expr} {scope : Scope} {own : List (Str × Nat)} {pos : Pos} {gt : TG} {tid : TID} {gd : TGD} {td : TTD} {ed : TED}
end
end Si

namespace Bt
open PySem PySem.Spec PyProof.Rows L2 Dl
section
variable {X : Cx} {I : HI}
end
def dChain (o o' : F2) (ta tb tc : TED) : TED := fun env Q => ta env fun x => tb env fun y => o x y fun d => ∃ c, d = .bl c ∧ if c = true then tc env fun z => o' y z Q else Q (.bl false)
section
variable {X : Cx} {g : Gx} {a b c : Expr} {ta tb tc : TED} {o o' : F2} {op op' : CmpOp} {pos : Pos}
theorem sd_chain (hr : RD X g.I (compareOp op) o) (hr' : RD X g.I (compareOp op') o') (ha : PED X g a ta) (hb : PED X g b tb) (hc : PED X g c tc) :
    SE X.K g (tChain (rw2 X (compareOp op)) (rw2 X (compareOp op')) (wE X a) (wE X b) (wE X c)) (dChain o o' ta tb tc) := fun b0 σ H env Qd Q hd xl h k =>
  ha b0 σ H env _ _ hd xl h fun x dx H1 e1 dnx h1 => hb b0 σ H1 env _ _ (hd.mono e1) xl h1 fun y dy H2 e2 dny h2 =>
    hr H2 x y dx dy _ _ e2.2 (Den.keep e2.1 _ _ dnx) dny h2 fun z dz H3 e3 dnz ⟨q, eq, h3⟩ => by
      subst eq
      simp only [Den] at dnz
      subst dnz
      refine ⟨q, rfl, ?_⟩
      cases q with
      | true =>
        rw [if_pos rfl] at h3 ⊢
        exact hc b0 σ H3 env _ _ ((hd.mono e1).mono (e2.trans e3)) xl h3 fun w dw H4 e4 dnw h4 => hr' H4 y w dy dw _ _ e4.2 (Den.keep (e3.trans e4).1 _ _ dny) dnw h4 fun v d H5 e5 dn q => k v d H5 (e1.trans (e2.trans (e3.trans (e4.trans e5)))) dn q
      | false =>
        rw [if_neg Bool.false_ne_true] at h3 ⊢
        exact k (.bl false) (.bl false) H3 (e1.trans (e2.trans e3)) (by simp only [Den]) h3
theorem d_chain (hr : RD X g.I (compareOp op) o) (hr' : RD X g.I (compareOp op') o') (ha : PED X g a ta) (hb : PED X g b tb) (hc : PED X g c tc)
    (hm : lastMarks [op, op'] [b, c] = false := by with_unfolding_all rfl) : PED X g (.Compare a [op, op'] [b, c] pos) (dChain o o' ta tb tc) :=
  ped_of (pe_chain or_w or_w pe_w pe_w pe_w hm) (sd_chain hr hr' ha hb hc)
theorem dt_chain (hr : RD X g.I (compareOp op) o) (hr' : RD X g.I (compareOp op') o') (ha : PED X g a ta) (hb : PED X g b tb) (hc : PED X g c tc)
    (hm : lastMarks [op, op'] [b, c] = false := by with_unfolding_all rfl) : PTD X g (.Compare a [op, op'] [b, c] pos) (dTest (dChain o o' ta tb tc)) :=
  ptd_of (pt_chain or_w or_w pe_w pe_w pe_w hm) (st_test (sd_chain hr hr' ha hb hc))
end
end Bt

namespace In
open PySem PySem.Spec PyProof.Rows L2 Dl
def dFld (K : PySem.W.Frag) (n : Str) (te : TED) : TED := fun env Q => te env fun z => ∃ C ns ds, z = .obj (.ins C) ns ds ∧ Cls K C ∧ NoAttr K C n ∧ ns.length = ds.length ∧ ∃ v, lookD n (ns.zip ds) = some v ∧ Q v
section
variable {X : Cx} {g : Gx} {e : Expr} {te : TED} {n : Str} {pos : Pos}
theorem d_fld (he : PED X g e te) (hb : attributeBase e n X.env (eval e X.env) = eval e X.env := by rfl) : PED X g (.Attribute e n pos) (dFld X.K n te) :=
  ped_of (pe_fld pe_w hb) fun b0 σ H env Qd Q hd xl ht k => he b0 σ H env _ _ hd xl ht fun v d H1 e1 dn ⟨C, ns, ds, ed, c, no, hl, w, el, q⟩ => by
    subst ed
    simp only [Den] at dn
    obtain ⟨ws, hw, ⟨a, dx, rfl, ⟨_, ha⟩, _, hx⟩, da⟩ := dn
    have m1 : (ns.zip ds).map (·.1) = ns := List.map_fst_zip (Nat.le_of_eq hl)
    have m2 : (ns.zip ds).map (·.2) = ds := List.map_snd_zip (Nat.le_of_eq hl.symm)
    obtain ⟨u, q1, q2⟩ := look_zip (fs := ns.zip ds) (by rw [m2]; exact da) el
    rw [m1] at q1
    exact ⟨a, C, dx, _, u, rfl, ha, c, no, q1, k u w H1 e1 q2 q⟩
end
end In

namespace In
open PySem PySem.Spec PyProof.Rows L2 Dl
abbrev Iw (I : HI) (a d : Addr) : Addr → Prop := fun x => I.own x ∨ x = a ∨ x = d
def insI (I : HI) (a d C : Addr) (fs : List (Str × V)) : HI where
  own := Iw I a d
  foot x := I.foot x ∨ x = a ∨ x = d
  ok H := I.ok H ∧ H a = some (.ins C d fs) ∧ H d = some (.own a)
  sub x h := h.imp (I.sub x) id
  dom H x h f := by
    rcases f with f | f | f
    · exact I.dom H x h.1 f
    · rw [f, h.2.1]; exact fun z => nomatch z
    · rw [f, h.2.2]; exact fun z => nomatch z
  loc H H' e h := ⟨I.loc H H' (fun x f => e x (.inl f)) h.1, by rw [e a (.inr (.inl rfl))]; exact h.2.1, by rw [e d (.inr (.inr rfl))]; exact h.2.2⟩
abbrev TIn := DEnv → (List D → Prop) → Prop
def PIn (X : Cx) (I : HI) (a d C : Addr) (Hs : Hp) (Ed : Exc → Prop) (E : XK) (fs : List (Str × V)) (ns : List Str) (sts : List Stmt) (ti : TIn) : Prop :=
  ∀ (hs : List (V × D)) (H0 : Hp) (σ : L2.St) (H : Hp) (env : DEnv) (Qd : List D → Prop) (Es : Ends), DenE X.K (insI I a d C fs) ⟨H0, hs⟩ σ H env → env[0]? = some (.val (.ref a)) → Kp (Iw I a d) Hs H0 →
    (∀ x dd H', Kp (Iw I a d) Hs H' → I.ok H' → ExD X.K (insI I a d C []) H' x dd → Ed x → E (.ref x.cls) dd H') → ti env Qd →
    (∀ σ' H' us ds, Kp (Iw I a d) Hs H' → I.ok H' → H' a = some (.ins C d (fs ++ ns.zip us)) → us.length = ns.length → H' d = some (.own a) → DenA X.K (Iw I a d) H' us ds → (∀ p ∈ hs, Den X.K (Iw I a d) H' p.1 p.2) → Qd ds → Es.nx σ' H') →
    wSs X sts Es σ H
def tiEnd : TIn := fun _ Q => Q []
def tiChk (a : Addr) (td : TSD) (ti : TIn) : TIn := fun env Q => td ⟨fun env' => env'[0]? = some (.val (.ref a)) ∧ ti env' Q, fun _ => False, fun _ => False, fun _ => False, fun _ => False⟩ env
def tiSt (te : TED) (ti : TIn) : TIn := fun env Q => te env fun d => noOwn env = true ∧ ti env fun ds => Q (d :: ds)
section
variable {X : Cx} {I : HI} {a d C : Addr} {Hs : Hp} {Ed : Exc → Prop} {E : XK} {fs : List (Str × V)} {ns : List Str} {st : Stmt} {rest : List Stmt} {td : TSD} {te : TED} {ti : TIn}
theorem slot_at {b : B0} {σ : L2.St} {H : Hp} {env : DEnv} {i : Nat} {x : Addr} (hd : DenE X.K I b σ H env) (h : env[i]? = some (.val (.ref x))) : σ[i]? = some (some (.ref x)) := by
  obtain ⟨oa, h1, h2, h3, h4⟩ := hd.slots
  obtain ⟨v, e, dn⟩ := h3 i _ h
  simp only [Den] at dn
  rw [e, dn]
theorem xl_of {hs : List (V × D)} {H0 : Hp} (kp : Kp (Iw I a d) Hs H0) (hx : ∀ x dd H', Kp (Iw I a d) Hs H' → I.ok H' → ExD X.K (insI I a d C []) H' x dd → Ed x → E (.ref x.cls) dd H') :
    XL X.K (gOf (insI I a d C fs) Ed E) ⟨H0, hs⟩ := fun σ H env x dd H' hd e xd q =>
  hx x dd H' (kp.trans (hd.ext.1.trans e.1)) e.2.1 xd q
theorem in_end : PIn X I a d C Hs Ed E fs [] [] tiEnd := fun hs H0 σ H env Qd Es hd h0 kp hx q k => fun pins s J => by
  refine pss_nil.run pins s σ H Es J ?_
  obtain ⟨oa, h1, h2, h3, h4⟩ := hd.slots
  refine k σ H [] [] (kp.trans hd.ext.1) hd.ok.1 (by rw [List.zip_nil_left, List.append_nil]; exact hd.ok.2.1) rfl hd.ok.2.2 (by simp only [DenA]) (fun p hp => Den.weak (fun x z => .inl z) _ _ (h4 p hp)) q
theorem in_chk (h : PSD X (gOf (insI I a d C fs) Ed E) st td) (r : PIn X I a d C Hs Ed E fs ns rest ti) : PIn X I a d C Hs Ed E fs ns (st :: rest) (tiChk a td ti) := fun hs H0 σ H env Qd Es hd h0 kp hx q k => fun pins s J => by
  refine (pss_cons ps_w pss_w).run pins s σ H Es J ?_
  refine h ⟨H0, hs⟩ σ H env _ _ hd (xl_of kp hx) q ⟨fun σ' H' env' hd' q' => r hs H0 σ' H' env' Qd Es hd' q'.1 kp hx q'.2 k, fun _ _ _ _ _ q => q.elim, fun _ _ _ _ q => q.elim, fun _ _ _ _ q => q.elim, fun _ _ _ _ _ _ _ _ _ q => q.elim⟩
theorem putF_new {f : Str} {v : V} : ∀ {fs : List (Str × V)}, f ∉ fs.map (·.1) → putF f v fs = fs ++ [(f, v)]
  | [], _ => rfl
  | (g, x) :: r, h => by
    rw [List.map_cons, List.mem_cons, not_or] at h
    show (if g = f then (g, v) :: r else (g, x) :: putF f v r) = _
    rw [if_neg (Ne.symm h.1), putF_new h.2]
    rfl
theorem in_st {self f : Str} {p p' pos : Pos} {e : Expr} (na : ¬ I.foot a) (nad : d ≠ a) (hN : X.N[0]? = some self) (hv : Vis X.env.scope self) (he : PED X (gOf (insI I a d C fs) Ed E) e te) (hc : Cls X.K C) (hn : NoAttr X.K C f) (new : f ∉ fs.map (·.1)) (few : fs.length < 1000)
    (r : ∀ v, PIn X I a d C Hs Ed E (fs ++ [(f, v)]) ns rest ti) (hs : swapsWith e (some (.Attribute (.Name self p) f p')) pos.line X.env = pure false := by rfl) (hdb : (self == ("__debug__" : Str)) = false := by decide) (hcd : (self == ("__classdict__" : Str)) = false := by decide) :
    PIn X I a d C Hs Ed E fs (f :: ns) (.Assign [.Attribute (.Name self p) f p'] e pos :: rest) (tiSt te ti) := fun hs' H0 σ H env Qd Es hd h0 kp hx q k => fun pins s J => by
  refine (pss_cons (ps_fld (pe_var hN hv hdb hcd) pe_w hs) pss_w).run pins s σ H Es J ?_
  refine he ⟨H0, hs'⟩ σ H env _ _ hd (xl_of kp hx) q fun v dd H1 e1 dn ⟨no, q2⟩ => ?_
  have hd1 := (hd.mono e1).hold dn (.inl no)
  obtain ⟨_, oa1, od1⟩ := hd1.ok
  refine ⟨.ref a, slot_at hd h0, a, C, d, fs, rfl, oa1, hc, hn, few, ?_⟩
  rw [putF_new new]
  have kp2 : Kp (Iw I a d) H1 (upd H1 a (.ins C d (fs ++ [(f, v)]))) := Kp.mut (.inr (.inl rfl))
  have ok2 : (insI I a d C (fs ++ [(f, v)])).ok (upd H1 a (.ins C d (fs ++ [(f, v)]))) := ⟨I.loc H1 _ (fun x fx => upd_ne (fun z => na (by rw [← z]; exact fx))) hd1.ok.1, upd_same, by rw [upd_ne nad]; exact od1⟩
  have hd2 : DenE X.K (insI I a d C (fs ++ [(f, v)])) ⟨upd H1 a (.ins C d (fs ++ [(f, v)])), (v, dd) :: hs'⟩ σ (upd H1 a (.ins C d (fs ++ [(f, v)]))) env := by
    obtain ⟨oa, h1, h2, h3, h4⟩ := hd1.slots
    have kk : Kp (AvOf (insI I a d C fs) env oa) H1 (upd H1 a (.ins C d (fs ++ [(f, v)]))) := kp2.weak fun x z => .inl z
    exact ⟨hd1.len, .refl ok2, oa, fun i xs ee => absurd ee (noOwn_get no), h2, fun i x ee => let ⟨u, g1, g2⟩ := h3 i x ee; ⟨u, g1, Den.keep kk _ _ g2⟩, fun p hp => Den.keep kk _ _ (h4 p hp)⟩
  refine r v ((v, dd) :: hs') _ σ _ env (fun ds => Qd (dd :: ds)) Es hd2 h0 (kp.trans ((hd.ext.1.trans e1.1).trans kp2)) hx q2 fun σ' H' us ds k1 k2 k3 k4 k5 k6 k7 k8 => ?_
  refine k σ' H' (v :: us) (dd :: ds) k1 k2 ?_ (congrArg Nat.succ k4) k5 ?_ (fun p hp => k7 p (List.mem_cons_of_mem _ hp)) k8
  · rw [k3, List.append_assoc]
    rfl
  · simp only [DenA]
    exact ⟨v, us, rfl, k7 (v, dd) List.mem_cons_self, k6⟩
end
end In

namespace In
open PySem PySem.Spec PyProof.Rows L2 Dl
abbrev CtI := List D → (List D → Prop) → (Exc → Prop) → Prop
def spI (K : PySem.W.Frag) (I : HI) (n : Nat) (C : Addr) (ns : List Str) (Ct : CtI) : Sp := fun vs H Q E => ∃ a d ws ds Qd Ed, vs = .ref a :: ws ∧ ds.length = n ∧ d ≠ a ∧ ¬ I.foot a ∧ (insI I a d C []).ok H ∧ DenA K (Iw I a d) H ws ds ∧ Ct ds Qd Ed ∧
  (∀ H' us fds, Kp (Iw I a d) H H' → I.ok H' → H' a = some (.ins C d (ns.zip us)) → us.length = ns.length → H' d = some (.own a) → DenA K (Iw I a d) H' us fds → Qd fds → Q .non H') ∧
  (∀ x dd H', Kp (Iw I a d) H H' → I.ok H' → ExD K (insI I a d C []) H' x dd → Ed x → E (.ref x.cls) dd H')
section
variable {P : Program} {w : World} {K : PySem.W.Frag} {mg : Str → Option Value} {base : Heap}
theorem fn_I {x qual : Str} {params : Arguments} {body : List Stmt} {scope : Scope} {dvs : List V} {kws : List (Str × V)} {f C : Addr} {fd : FuncData} {N ps : List Str} {k n : Nat} {I : HI} {ns : List Str} {Ct : CtI} {ti : Addr → (DEnv → Exc → Prop) → TIn}
    (F : FunD K x qual params body scope dvs kws f fd) (S : FnScope N ps scope) (hn : ps.length = n + 1)
    (hbody : ∀ (cdv : Value) (A : Around) (outer : List Env) (s : Shared) (H : Hp) (E : XK) (Ed : Exc → Prop) (a d : Addr), Room k (A.deeper (envOfC qual scope s.heap.objs.size f cdv)) → ¬ I.foot a → d ≠ a →
      (∀ fs, Takes (cxD P w K mg base N qual scope f cdv A outer s H E) (gOf (insI I a d C fs) Ed E).W) → PIn (cxD P w K mg base N qual scope f cdv A outer s H E) I a d C H Ed E [] ns body (ti a (fun _ x => Ed x)))
    (hC : ∀ ds Qd Ed a, Ct ds Qd Ed → ds.length = n → (startD N (.ref a :: ds))[0]? = some (.val (.ref a)) ∧ ti a (fun _ x => Ed x) (startD N (.ref a :: ds)) Qd) :
    FnOk P w K mg base (L2.CX P w) (k + 1) f fd ps (spI K I n C ns Ct) := by
  refine F.ok S (fun vs H Q E ⟨a, d, ws, ds, Qd, Ed, e, hl, _, _, _, dn, _⟩ => by rw [e, List.length_cons, dn.len, hl, hn]) (fun cdv A outer s H vs Q E hr h => ?_)
  obtain ⟨a, d, ws, ds, Qd, Ed, rfl, hl, nad, na, ok, dn, hc, kq, ke⟩ := h
  refine ⟨_, pss_w, ?_⟩
  have tk : ∀ fs, Takes (cxD P w K mg base N qual scope f cdv A outer s H E) (gOf (insI I a d C fs) Ed E).W := fun fs => takes_of rfl rfl rfl rfl
  have dn2 : DenA K (insI I a d C []).own H (.ref a :: ws) (.ref a :: ds) := by
    simp only [DenA, Den]
    exact ⟨_, _, rfl, rfl, dn⟩
  obtain ⟨h0, ht⟩ := hC ds Qd Ed a hc hl
  refine hbody cdv A outer s H E Ed a d hr na nad tk [] H (L2.start N (.ref a :: ws)) H (startD N (.ref a :: ds)) Qd _ (startE ok dn2) h0 Kp.refl ke ht fun σ' H' us fds k1 k2 k3 k4 k5 k6 _ k8 => ?_
  exact kq H' us fds k1 k2 k3 k4 k5 k6 k8
end
def ClI (P : Program) (w : World) (K : PySem.W.Frag) (mg : Str → Option Value) (base : Heap) (I : HI) (k : Nat) (x : Str) (n : Nat) (C : Addr) (ns : List Str) (Ct : CtI) (dds : List D) : Prop :=
  ∃ (f : Addr) (fd : FuncData) (ps : List Str) (ds : List Value) (dvs : List V), Mk K C f ∧ FnOk P w K mg base (L2.CX P w) k f fd ps (spI K I n C ns Ct) ∧ mg x = some (.ref C) ∧ L2.Binds K fd ps ds ∧ Vals dvs ds ∧ ∀ Av H, DenA K Av H dvs dds
section
variable {X : Cx} {g : Gx}
theorem run_mk {k : Nat} {f C : Addr} {fd : FuncData} {ps : List Str} {sp : Sp} {ds : List Value} {dvs : List V} {pins : List (Addr × Obj)} {σ : L2.St} {H : Hp} {s : Shared} {Q : VK} {us : List Value} {vs : List V} {E : XK} (M : Mk X.K C f)
    (F : FnOk X.prog X.w X.K X.mg X.base (L2.CX X.prog X.w) k f fd ps sp) (hr : Room (k + 1) X.A) (hb : Binds X.K fd ps ds) (hd : Vals dvs ds) (hx : PassesAt (L2.CX X.prog X.w) X σ E) (I : Inv X pins σ H s) (r : Vals vs us)
    (h : ∀ x dx, H x = none → H dx = none → dx ≠ x → sp (.ref x :: (vs ++ dvs)) (upd (upd H dx (.own x)) x (.ins C dx [])) (fun v H2 => v = .non ∧ Q (.ref x) H2) E) :
    wpAny (model X.prog X.w) X.A (call (.ref C) us) (EP X pins σ Q) X.xe s := by
  have hq := h (s.heap.objs.size + 1) s.heap.objs.size (I.hok.fresh (Nat.le_succ _)) (I.hok.fresh (Nat.le_refl _)) (Nat.ne_of_lt (Nat.lt_succ_self _))
  have I2 := Inv.made (C := C) I
  have r2 : Vals (V.ref (s.heap.objs.size + 1) :: (vs ++ dvs)) (Value.ref (s.heap.objs.size + 1) :: (us ++ ds)) := .cons rfl (r.append hd)
  have hl : (Value.ref (s.heap.objs.size + 1) :: us ++ ds).length = ps.length := by
    have e := r2.length
    rw [F.len _ _ _ _ hq] at e
    exact e.symm
  refine wpAny_call (make_map (f := f) I.kIn M.makes M.init (beq_iff_eq.mp M.fn) (codeAny_mono (F.run _ X.stack _ _ ⟨Value.ref (s.heap.objs.size + 1) :: us, []⟩ (Value.ref (s.heap.objs.size + 1) :: (us ++ ds)) _ _ E (hr.make C us [])
    (I2.env0.make C us []) (hb _ (Value.ref (s.heap.objs.size + 1) :: us) I2.kIn hl) r2 hq) fun r s' hq' => ?_))
  cases r with
  | error e => exact hx pins _ _ e s' I2 hq'
  | ok fl =>
    cases fl with
    | ret u =>
      obtain ⟨v, H', I3, rv, ev, q3⟩ := I2.after hq'
      subst ev
      exact ⟨rv, ⟨V.ref (s.heap.objs.size + 1), H', I3, rfl, q3⟩⟩
    | next => exact False.elim hq'
    | brk => exact False.elim hq'
    | cont => exact False.elim hq'
def dMk (C : Addr) (n : Nat) (ns : List Str) (Ct : CtI) (dds : List D) (Ed : DEnv → Exc → Prop) (ta : TAD) : TED := fun env Q => ta env fun xs => (xs ++ dds).length = n ∧ Ct (xs ++ dds) (fun fds => fds.length = ns.length → Q (.obj (.ins C) ns fds)) (Ed env)
theorem exd_weak {K : PySem.W.Frag} {I I' : HI} {H : Hp} {x : Exc} {d : Option Addr} (h : ∀ a, I.own a → I'.own a) (q : ExD K I' H x d) : ExD K I H x d := by
  unfold ExD at q ⊢
  cases hx : x.fs with
  | none => rw [hx] at q; exact q
  | some fs =>
    rw [hx] at q
    obtain ⟨dd, ws, e1, e2, dn⟩ := q
    exact ⟨dd, ws, e1, e2, DenA.weak h _ _ dn⟩
theorem d_mkI {k j n : Nat} {x : Str} {C : Addr} {ns : List Str} {Ct : CtI} {dds : List D} {e : Expr} {es : List Expr} {tas : TAD} {p pos : Pos} (c : ClI X.prog X.w X.K X.mg X.base g.I k x n C ns Ct dds) (hr : Room j X.A) (hj : k + 1 ≤ j) (hg : Gl X x) (tk : Takes X g.W) (ha : PAD X g (e :: es) tas)
    (hdb : (x == ("__debug__" : Str)) = false := by decide) (he : starEach (e :: es) X.env = (false, eval e X.env) :: starEach es X.env := by rfl) (hpl : (backTo pos (starEach es X.env)).any (·.1) = false := by rfl) :
    PED X g (.Call (.Name x p) (e :: es) [] pos) (dMk C n ns Ct dds g.Ed tas) := fun b0 σ H env Qd Q hd' xl h kq pins s J => by
  obtain ⟨f, fd, ps, ds, dvs, M, F, hm, hb, hd, hdd⟩ := c
  refine wpAny_Call_Name_kw (ld_glob J hg hm ?_ hdb)
  refine PySem.W.callWith_K (h₀ := X.base) J.ok.mod.kin M.kp (thn ((pa_w (es := e :: es)).run pos pins s σ H (fun vs H1 => ∀ x dx, H1 x = none → H1 dx = none → dx ≠ x → spI X.K g.I n C ns Ct (.ref x :: (vs ++ dvs)) (upd (upd H1 dx (.own x)) x (.ins C dx [])) (fun v H2 => v = .non ∧ Q (.ref x) H2) (WE g.W σ)) J ?_)
    fun us s1 ⟨vs, H1, I1, r, q⟩ => ⟨I1.kIn, run_mk M F (hr.mono hj) hb hd (passAt tk σ) I1 r q⟩) he hpl
  refine ha b0 σ H env _ _ hd' xl h fun vs xs H1 e1 dn ⟨hl, q⟩ x dx hx hdx ne => ?_
  have nf : ∀ y, H1 y = none → ¬ g.I.foot y := fun y hy f => g.I.dom H1 y e1.2 f hy
  have k0 : ∀ y o, H1 y = some o → upd (upd H1 dx (.own x)) x (.ins C dx []) y = some o := fun y o hy => by
    rw [upd_ne (fun z => by rw [z, hx] at hy; cases hy), upd_ne (fun z => by rw [z, hdx] at hy; cases hy)]
    exact hy
  have kA : ∀ Av : Addr → Prop, Kp Av H1 (upd (upd H1 dx (.own x)) x (.ins C dx [])) := fun Av y o _ hy => k0 y o hy
  refine ⟨x, dx, vs ++ dvs, xs ++ dds, _, _, rfl, hl, ne, nf x hx, ⟨?_, upd_same, by rw [upd_ne ne]; exact upd_same⟩, ?_, q, fun H' us fds k1 k2 k3 k4 k5 k6 qd => ⟨rfl, ?_⟩, fun z dd H' k1 k2 xd ez => ?_⟩
  · exact g.I.loc H1 _ (fun y fy => by rw [upd_ne (fun z => nf x hx (by rw [← z]; exact fy)), upd_ne (fun z => nf dx hdx (by rw [← z]; exact fy))]) e1.2
  · have d1 := DenA.fresh hdx _ _ (DenA.fresh hx _ _ (dn.app (hdd g.I.own H1)))
    exact DenA.keep (kA _) _ _ (DenA.weak (fun y z => by
      rcases z with z | z | z
      · exact .inl (.inl z)
      · exact .inl (.inr z)
      · exact .inr z) _ _ d1)
  · have e2 : Ext g.I H1 H' := ⟨fun y o ny hy => k1 y o (fun z => by
      rcases z with z | z | z
      · exact ny z
      · rw [z, hx] at hy; cases hy
      · rw [z, hdx] at hy; cases hy) (k0 y o hy), k2⟩
    refine kq (.ref x) _ H' (e1.trans e2) ?_ (qd (by rw [← k6.len]; exact k4))
    simp only [Den]
    exact ⟨us, k4, ⟨x, dx, rfl, ⟨HI.nown e1.2 hx, k3⟩, HI.nown e1.2 hdx, k5⟩, DenA.weak (fun y z => .inl z) _ _ k6⟩
  · have e2 : Ext g.I H1 H' := ⟨fun y o ny hy => k1 y o (fun w => by
      rcases w with w | w | w
      · exact ny w
      · rw [w, hx] at hy; cases hy
      · rw [w, hdx] at hy; cases hy) (k0 y o hy), k2⟩
    exact xl σ H env z dd H' hd' (e1.trans e2) (exd_weak (I := g.I) (I' := insI g.I x dx C []) (fun y w => Or.inl w) xd) ez
end
end In

namespace Zs
open PySem PySem.Spec PyProof.Rows L2 Dl
section
variable {X : Cx} {g : Gx} {e : Expr} {kws : List Keyword} {ta tk : TAD} {p pos : Pos} {x : Str}
end
end Zs

namespace Zs
open PySem PySem.Spec PyProof.Rows L2 Dl Ns
abbrev KeyD := L2.Key
def kD : KeyD → D
  | .inl i => .int i
  | .inr x => .str x
abbrev dctD (ps : List (KeyD × D)) : D := .obj (.dct (ps.map (·.1))) (ps.map fun _ => "") (ps.map (·.2))
section
variable {X : Cx} {g : Gx} {wi : TI} {gt : TG} {tt : TT} {tk te : TE} {vs : List Nat} {tid : TID} {gd : TGD} {td : TTD} {kd ed : TED}
end
section
variable {X : Cx} {g : Gx} {kx vx tg iter : Expr} {ifs : List Expr} {scope : Scope} {own : List (Str × Nat)} {pos : Pos} {gt : TG} {tid : TID} {gd : TGD} {td : TTD} {kd ed : TED}
end
section
variable {X : Cx} {g : Gx} {a b : Expr} {ta tb : TED} {pos : Pos}
end
end Zs

namespace Zs
open PySem PySem.Spec PyProof.Rows L2 Dl He
section
variable {X : Cx} {g : Gx} {pos p cpos : Pos} {x : Str}
end
section
variable {X : Cx} {g : Gx} {pos p : Pos} {x : Str} {e : Expr} {td : TED}
end
def dIndex (ta tb : TED) : TED := fun env Q => ta env fun x => ∃ ds : List D, x = .lst ds ∧ tb env fun d => ∃ (j : Nat) (z : D), okD d ∧ okD (.lst ds) ∧ ds[j]? = some z ∧ eqD z d = true ∧ (∀ (m : Nat) (z' : D), m < j → ds[m]? = some z' → eqD z' d = false) ∧ Q (.int (j : Nat))
theorem pyA_at : ∀ (ds : List D) (j : Nat), (pyA ds)[j]? = (ds[j]?).map D.py
  | [], _ => rfl
  | d :: ds, 0 => rfl
  | d :: ds, j + 1 => pyA_at ds j
section
variable {X : Cx} {g : Gx} {o e : Expr} {ta tb : TED} {apos cpos : Pos}
theorem d_index (hu : X.A.units + 65 < cLine) (ho : PED X g o ta) (he : PED X g e tb)
    (hbase : attributeBase o "index" X.env (eval o X.env) = eval o X.env := by rfl)
    (hfew : ((backTo cpos (starEach (e :: []) X.env)).all (fun x => !x.1) && (backToKw cpos (keywordEach [] X.env)).all (fun x => x.1.isSome)
      && decide ((e :: []).length + ([] : List Keyword).length + (if ([] : List Keyword).isEmpty then 0 else 1) < 30)) = true := by rfl)
    (hline : (apos.endLine == cpos.line) = true := by rfl) (hs : starEach (e :: []) X.env = (false, eval e X.env) :: starEach [] X.env := by rfl) (hplain : (backTo cpos (starEach [] X.env)).any (·.1) = false := by rfl) :
    PED X g (.Call (.Attribute o "index" apos) [e] [] cpos) (dIndex ta tb) :=
  ped_of (pe_bm PySem.F.plainAttrs_list PySem.F.slot_list_index (by first | exact PySem.F.type_list_index | rfl | decide +kernel) (mt_indexD hu) pe_w (pa_cons pe_w pa_nil hs) hbase hfew hline hs hplain) fun b σ H env Qd Q hd xl h k =>
    ho b σ H env _ _ hd xl h fun v d H1 e1 dn ⟨ds, ed, h1⟩ => ⟨(by
      subst ed
      simp only [Den] at dn
      obtain ⟨a, vs, rfl, hl, _, _⟩ := dn
      exact .inl ⟨rfl, vs, SqL.of hl⟩), he b σ H1 env _ _ (hd.mono e1) xl h1 fun v2 d2 H2 e2 dn2 ⟨j, z, k1, k2, hz, hq, no, q⟩ => by
      subst ed
      have dn' := Den.keep e2.1 _ _ dn
      have l := Den.dp _ _ k2.1 dn'
      simp only [Den] at dn'
      obtain ⟨a, vs, rfl, hl, _, _⟩ := dn'
      have s2 := k2.shaped
      simp only [D.py] at l s2
      exact ⟨a, v2, d2.py, pyA ds, j, z.py, rfl, rfl, l, Den.dp _ _ k1.1 dn2, s2, k1.shaped, by rw [pyA_at, hz]; rfl, hq, fun m z' hm hz' => by
        rw [pyA_at] at hz'
        cases e : ds[m]? with
        | none => rw [e] at hz'; cases hz'
        | some w =>
          rw [e] at hz'
          cases hz'
          exact no m w hm e, k _ _ _ (e1.trans e2) (by simp only [Den]) q⟩⟩
end
section
variable {X : Cx} {g : Gx} {pos p1 p2 : Pos} {x y : Str} {e : Expr} {td : TED} {i j : Nat}
end
end Zs

namespace Zs
open PySem PySem.Spec PyProof.Rows L2 Dl He
section
variable {X : Cx} {I : HI} {g : Gx} {e a b : Expr} {td ta tb : TED} {p pos p2 q : Pos} {x : Str}
def bIntB : FC := fun xs Q => (∃ i, xs = [.int i] ∧ Q (.int i)) ∨ ∃ c, xs = [.bl c] ∧ Q (.int (if c = true then 1 else 0))
theorem c_intB : RC X I (.type "int") bIntB := fun H xs ds Qd Q ok dn h k => by
  rcases h with ⟨i, e, h⟩ | ⟨c, e, h⟩
  · subst e
    obtain ⟨v, rfl, d1⟩ := dn.one1
    simp only [Den] at d1
    subst d1
    exact rc_of call_int1 (.inl ⟨i, rfl, k _ _ H (.refl ok) (by simp only [Den]) h⟩)
  · subst e
    obtain ⟨v, rfl, d1⟩ := dn.one1
    simp only [Den] at d1
    subst d1
    exact rc_of call_int1 (.inr ⟨c, rfl, k _ _ H (.refl ok) (by simp only [Den]) h⟩)
structure TupG (K : PySem.W.Frag) (mg : Str → Option Value) (x : Str) (zs : List Str) : Prop where
  m : mg x = some (.ref (ga K x))
  t : KT K (ga K x) (zs.map V.str)
theorem strs_den {K : PySem.W.Frag} {Av : Addr → Prop} {H : Hp} : ∀ zs : List Str, DenA K Av H (zs.map V.str) (zs.map D.str)
  | [] => by simp [DenA]
  | z :: zs => by
    show DenA K Av H (V.str z :: zs.map V.str) (D.str z :: zs.map D.str)
    simp only [DenA]
    exact ⟨_, _, rfl, by simp only [Den], strs_den zs⟩
theorem KT.sqT {K : PySem.W.Frag} {H : Hp} {a : Addr} {vs : List V} (h : KT K a vs) : SqT K H a vs := TupA.sq (Av := fun _ => False) (.inr h)
theorem d_gtup {zs : List Str} (hg : Gl X x) (t : TupG X.K X.mg x zs) (hd : (x == ("__debug__" : Str)) = false := by decide) : PED X g (.Name x p) (dC (.tup (zs.map D.str))) :=
  ped_of (pe_glob (v := .ref (ga X.K x)) hg t.m rfl hd) (sd_c fun H => by
    simp only [Den]
    exact ⟨_, _, rfl, KT.sqT t.t, .inr t.t, strs_den zs⟩)
end
end Zs

namespace Zs
open PySem PySem.Spec PyProof.Rows L2 Dl He
theorem str_abs {u : Value} {z : Str} (h : absV u = some (V.str z)) : RelV (V.str z) u := by
  cases u <;> simp only [absV, Option.some.injEq, reduceCtorEq] at h
  case str x t =>
    cases h
    exact ⟨t, rfl⟩
theorem strs_abs : ∀ {us : List Value} {zs : List Str}, us.map absV = zs.map (fun z => some (V.str z)) → Vals (zs.map V.str) us
  | [], [], _ => .nil
  | [], _ :: _, h => by cases h
  | _ :: _, [], h => by cases h
  | u :: us, z :: zs, h => by
    obtain ⟨h1, h2⟩ := List.cons.inj h
    exact .cons (str_abs h1) (strs_abs h2)
theorem tupG_of {K : PySem.W.Frag} {mg : Str → Option Value} {x : Str} {zs : List Str} (h : tupGB K x zs = true) (m : mg x = some (.ref (ga K x))) : TupG K mg x zs := by
  refine ⟨m, ?_⟩
  unfold tupGB at h
  cases e : K.lookup (ga K x) with
  | none => rw [e] at h; cases h
  | some o =>
    rw [e] at h
    dsimp only at h
    rw [Bool.and_eq_true] at h
    obtain ⟨h1, h2⟩ := h
    obtain ⟨cls, dd, data, sl⟩ := o
    cases data with
    | seq its n =>
      dsimp only at h2
      rw [Bool.and_eq_true] at h2
      obtain ⟨h3, h4⟩ := h2
      refine ⟨_, its, n, e, of_decide_eq_true h1, rfl, ?_, strs_abs (eq_of_beq h4)⟩
      have := of_decide_eq_true h3
      rw [sizeLine_eq]
      omega
    | _ => cases h2
section
variable {X : Cx} {I : HI}
theorem dena_rep {K : PySem.W.Frag} {Av : Addr → Prop} {H : Hp} {vs : List V} {ds : List D} (h : DenA K Av H vs ds) : ∀ n, DenA K Av H (List.replicate n vs).flatten (List.replicate n ds).flatten
  | 0 => by simp [DenA]
  | n + 1 => by
    rw [List.replicate_succ, List.replicate_succ, List.flatten_cons, List.flatten_cons]
    exact DenA.app h (dena_rep h n)
end
end Zs

namespace Zz
open PySem PySem.Spec PyProof.Rows L2
abbrev wkName (b : Bool) : String := if b = true then "tuple_iterator" else "list_iterator"
abbrev wkObj (b : Bool) (l : Addr) : Obj := { cls := .type (wkName b), data := .fields #[.ref l, .int 0 0] }
section
variable {b : Bool} {it l : Addr} {xs : Array Value} {k : Nat} {h h' : Heap}
variable {P : Program} {w : World} {A : Around} {E : Value → Shared → Prop} {s : Shared}
end
section
variable {P : Program} {w : World} {A : Around} {E : Value → Shared → Prop} {s : Shared} {b1 b2 : Bool} {z TI TO i1 i2 l1 l2 : Addr} {k : Nat} {xs ys : Array Value} {x y u v : Value}
end
end Zz

namespace Zz
open PySem PySem.Spec PyProof.Rows L2
section
variable {P : Program} {w : World} {A : Around} {E : Value → Shared → Prop} {s : Shared} {b1 b2 : Bool} {z TI TO i1 i2 l1 l2 : Addr} {k : Nat} {xs ys : Array Value} {x y u v : Value}
abbrev g1 (b1 : Bool) (h : Heap) (l1 : Addr) : Heap := h.push (wkObj b1 l1)
abbrev g2 (b1 b2 : Bool) (h : Heap) (l1 l2 : Addr) : Heap := (g1 b1 h l1).push (wkObj b2 l2)
abbrev g3 (b1 b2 : Bool) (h : Heap) (l1 l2 : Addr) : Heap := (g2 b1 b2 h l1 l2).push { cls := .type "tuple", data := .seq #[.ref h.objs.size, .ref (g1 b1 h l1).objs.size] }
abbrev g4 (b1 b2 : Bool) (h : Heap) (l1 l2 : Addr) : Heap := (g3 b1 b2 h l1 l2).push { cls := .type "tuple", data := .seq #[.none, .none] }
abbrev g5 (b1 b2 : Bool) (h : Heap) (l1 l2 : Addr) : Heap := (g4 b1 b2 h l1 l2).push { cls := .type "zip", data := .fields #[.none, .bool false, .bool false, .ref (g2 b1 b2 h l1 l2).objs.size, .ref (g3 b1 b2 h l1 l2).objs.size] }
end
end Zz

namespace Zz
open PySem PySem.Spec PyProof.Rows L2 Dl
section
variable {X : Cx} {pins : List (Addr × Obj)} {σ : L2.St} {H : Hp} {s : Shared} {b : Bool} {a : Addr} {xs ys : List V}
end
end Zz

namespace Zz
open PySem PySem.Spec PyProof.Rows L2 Dl
section
variable {X : Cx} {g : Gx} {e e2 : Expr} {p pos tpos : Pos} {elts : List Expr} {kk : Nat} {tas : TAD}
end
end Zz

namespace Zs
open PySem PySem.Spec PyProof.Rows L2 Dl
def litI : List Expr → Option (List Int)
  | [] => some []
  | .Constant (.int i) _ _ :: es => (litI es).map (i :: ·)
  | _ => none
def dInts (ns : List Int) : TAD := fun _ Q => Q (ns.map D.int)
def notStar : Expr → Bool
  | .Starred .. => false
  | _ => true
theorem se_of {e : Expr} {es : List Expr} {env : Env} (h : notStar e = true) : starEach (e :: es) env = (false, eval e env) :: starEach es env := by
  cases e <;> first | rfl | cases h
section
variable {X : Cx} {g : Gx}
theorem da_consL {e : Expr} {es : List Expr} {td : TED} {tas : TAD} (h : PED X g e td) (hr : PAD X g es tas) (n : notStar e = true) : PAD X g (e :: es) (dCons td tas) := da_cons h hr (se_of n)
theorem da_lits : ∀ {es : List Expr} {ns : List Int}, litI es = some ns → PAD X g es (dInts ns)
  | [], ns, h => by
    cases h
    exact da_nil
  | e :: es, ns, h => by
    cases e <;> first | (simp [litI] at h; done) | skip
    case Constant c k p =>
      cases c <;> first | (simp [litI] at h; done) | skip
      case int i =>
        simp only [litI, Option.map_eq_some_iff] at h
        obtain ⟨ms, h1, rfl⟩ := h
        exact da_cons d_int (da_lits h1)
end
end Zs

namespace Nd
open PySem PySem.Spec PyProof.Rows L2 Dl Ns
abbrev Ent := NestedKey × Addr × V
section
variable {P : Program} {w : World} {h : Heap} {a : Addr}
end
abbrev kn (m : Addr × D × V) : Ent := (keyD m.2.1, m.1, m.2.2)
section
variable {X : Cx} {pins : List (Addr × Obj)} {σ : L2.St} {H : Hp} {s : Shared} {Av : Addr → Prop} {S : Addr} {m : Addr × D} {M : List (Addr × D × V)} {A : Around} {E : Value → Shared → Prop}
end
end Nd

namespace Nd
open PySem PySem.Spec PyProof.Rows L2 Dl Ns
section
variable {X : Cx} {O0 : Addr → HO} {Pu : Addr → V → V → Hp → (Hp → Prop) → Prop}
end
end Nd

namespace Nd
open PySem PySem.Spec PyProof.Rows L2 Dl Ns
section
variable {X : Cx} {g : Gx} {wi : TI} {gt : TG} {tt : TT} {tk te : TE} {vs : List Nat} {tid : TID} {gd : TGD} {td : TTD} {kd ed : TED}
end
section
variable {X : Cx} {g : Gx} {kx vx tg iter : Expr} {ifs : List Expr} {scope : Scope} {own : List (Str × Nat)} {pos : Pos} {gt : TG} {tid : TID} {gd : TGD} {td : TTD} {kd ed : TED}
end
section
variable {X : Cx} {g : Gx} {a b : Expr} {ta tb : TED} {pos : Pos}
end
end Nd

namespace Tm
open PySem PySem.Spec PyProof.Rows L2 Dl
abbrev Cls := Value × Option Nat × (Addr → Value → Option Addr → TS)
def endE (D : Ends) : Option Nat → Ends
  | none => D
  | some i => ⟨fun σ H => D.nx (σ.set i none) H, D.rt, fun σ H => D.bk (σ.set i none) H, fun σ H => D.ct (σ.set i none) H⟩
section
variable {X : Cx} {body : List Stmt} {h0 : ExceptHandler} {hs : List ExceptHandler} {l : List Cls} {pos : Pos} {tb : WX → TS} {W : WX}
end
abbrev ClsD := Value × Option Nat × (Addr → Option Addr → Exc → TSD)
def endD (D : DEnds) : Option Nat → DEnds
  | none => D
  | some i => ⟨fun e => D.nx (e.set i .no), D.rt, fun e => D.bk (e.set i .no), fun e => D.ct (e.set i .no), D.rf⟩
section
variable {X : Cx} {g : Gx} {body : List Stmt} {h0 : ExceptHandler} {hs : List ExceptHandler} {l : List ClsD} {pos : Pos} {tb : TSX}
end
end Tm

namespace Sl
open PySem PySem.Spec PyProof.Rows L2 Dl Ns Zs Nd
section
variable {X : Cx} {I : HI}
end
section
variable {X : Cx} {g : Gx} {e : Expr} {ta tb : TED} {p1 p2 p3 pos : Pos} {k : Nat}
end
end Sl

namespace Nw
open PySem PySem.Spec PyProof.Rows L2 Dl Ns Zs Zo Sl
section
variable {X : Cx} {g : Gx} {e a b : Expr} {tz : TZD} {ta tb : TED} {p pos : Pos}
theorem denA_new {K : PySem.W.Frag} {Av : Addr → Prop} {H : Hp} {p : Addr} {vs : List V} {ds : List D} (hn : H p = none) (o : HO) (h : DenA K Av H vs ds) : DenA K (fun a => Av a ∨ a = p) (upd H p o) vs ds :=
  DenA.keep (Kp.new hn) _ _ (DenA.fresh hn _ _ h)
def fCatF (ta tb : TED) : TFD := fun env Q => ta env fun x => tb env fun y => ∃ xs ys : List D, x = .lst xs ∧ y = .lst ys ∧ xs.length + ys.length ≤ sizeLine ∧ Q (xs ++ ys)
theorem pf_cat (ha : PED X g a ta) (hb : PED X g b tb) : PFD X g (.BinOp a .Add b pos) (fCatF ta tb) := fun b0 σ H env Qd Q hd xl h k => fun pins s J => by
  refine (pe_op op_cat pe_w pe_w).run pins s σ H Q J ?_
  refine ha b0 σ H env _ _ hd xl h fun x dx H1 e1 dnx h1 => hb b0 σ H1 env _ _ (hd.mono e1) xl h1 fun y dy H2 e2 dny ⟨xs, ys, ex, ey, few, q⟩ => ?_
  subst ex ey
  have dnx := Den.keep e2.1 _ _ dnx
  simp only [Den] at dnx dny
  obtain ⟨l, vs, rfl, hl, na, r1⟩ := dnx
  obtain ⟨l2, ws, rfl, hl2, na2, r2⟩ := dny
  exact ⟨l, l2, vs, ws, rfl, rfl, hl, hl2, by rw [r1.len, r2.len]; exact few, fun p hp => k p _ _ _ (ext_none (e1.trans e2) hp) (e1.trans (e2.trans (.new e2.2 hp))) upd_same (denA_new hp _ (DenA.app r1 r2)) q⟩
end
end Nw

namespace In
open PySem PySem.Spec PyProof.Rows L2 Dl
structure InsC (K : PySem.W.Frag) (C : Addr) : Prop where
  cl : Cls K C
  ha : PySem.W.findIn K (.ref C) "__class__" = some (some (.builtin "object.__class__"))
  hn : PySem.W.specialIn K (.builtin "object.__class__") "__get__" = some (some (.builtin "getset_descriptor.__get__"))
  ht : PySem.W.takesIn K (.builtin "object.__class__") = some true
  hm : PySem.W.mroIn K C (.type "object") = some true
def tyIn (K : PySem.W.Frag) (z : D) (t : Value) : Prop := (∃ C ns ds, z = .obj (.ins C) ns ds ∧ InsC K C ∧ t = .ref C) ∨ ∃ n, z.tyn = some n ∧ t = .type n
def bIsC (K : PySem.W.Frag) : FC := fun xs Q => ∃ z c cv t b, xs = [z, c] ∧ clsV c = some cv ∧ tyIn K z t ∧ PySem.W.kitOne K t cv = some b ∧ Q (.bl b)
theorem tyIn_x {K : PySem.W.Frag} {Av : Addr → Prop} {H : Hp} {z : D} {t : Value} {v : V} (h : tyIn K z t) (dn : Den K Av H v z) : TyX K H v t := by
  rcases h with ⟨C, ns, ds, rfl, i, rfl⟩ | ⟨n, h, rfl⟩
  · simp only [Den] at dn
    obtain ⟨ws, _, ⟨a, dx, rfl, ⟨_, ha⟩, _⟩, _⟩ := dn
    exact .base (.ins ha i.cl i.ha i.hn i.ht i.hm)
  · exact tyx_den h dn
theorem c_isC {X : Cx} {I : HI} : RC X I (.builtin "isinstance") (bIsC X.K) := fun H xs ds Qd Q ok dn ⟨z, c, cv, t, b, e, hc, ht, hk, q⟩ k => by
  subst e
  obtain ⟨v, r, rfl, d1, d2⟩ := dn.cons
  obtain ⟨w, rfl, d3⟩ := d2.one1
  have cw : ClsV w cv := by
    cases c <;> simp only [clsV, Option.some.injEq, reduceCtorEq] at hc <;> simp only [Den] at d3 <;> subst d3 <;> subst hc <;> constructor
  exact rc_of call_isi ⟨v, w, t, cv, b, rfl, cw, tyIn_x ht d1, hk, k _ _ H (.refl ok) (by simp only [Den]) q⟩
end In

namespace In
open PySem PySem.Spec PyProof.Rows L2 Dl He
structure InsF (K : PySem.W.Frag) (x : Str) : Prop where
  mak : Mk K (ga K x) (ma K (ga K x) "__init__")
  ins : InsC K (ga K x)
theorem insB_ok {K : PySem.W.Frag} {x : Str} (h : insB K x = true) : InsF K x := by
  obtain ⟨h1, h⟩ := ba h
  obtain ⟨h2, h⟩ := ba h
  obtain ⟨h3, h⟩ := ba h
  obtain ⟨h4, h⟩ := ba h
  obtain ⟨h5, h⟩ := ba h
  obtain ⟨h6, h⟩ := ba h
  obtain ⟨h7, h⟩ := ba h
  obtain ⟨h8, h⟩ := ba h
  obtain ⟨h9, h⟩ := ba h
  obtain ⟨h10, h⟩ := ba h
  obtain ⟨h11, h12⟩ := ba h
  exact ⟨⟨h1, of_decide_eq_true h2, h3, h4⟩, ⟨⟨h5, h6, h7, of_decide_eq_true h8⟩, of_decide_eq_true h9, of_decide_eq_true h10, of_decide_eq_true h11, of_decide_eq_true h12⟩⟩
theorem noB_ok {K : PySem.W.Frag} {x f : Str} (h : noB K x f = true) : NoAttr K (ga K x) f := by
  have q : PySem.W.findIn K (.ref (ga K x)) f = some none := of_decide_eq_true (p := PySem.W.findIn K (.ref (ga K x)) f = some none) h
  exact q
end In

namespace In
open PySem PySem.Spec PyProof.Rows L2 Dl
section
variable {P : Program} {w : World} {K : PySem.W.Frag} {mg : Str → Option Value} {base : Heap} {C f : Addr} {fl : Str} {fd : FuncData}
end
section
variable {X : Cx} {tg e : Expr} {te : TE} {C : Addr} {fl : Str} {k : Nat}
end
end In

namespace Fr
open PySem PySem.Spec PyProof.Rows L2 Dl In
abbrev CtF := List D → (List D → Prop) → (Exc → Prop) → Prop
def spOfF (K : PySem.W.Frag) (I : HI) (n : Nat) (C : CtF) : Sp := fun vs H Q E => ∃ ds Qd Ed, ds.length = n ∧ DenA K I.own H vs ds ∧ I.ok H ∧ C ds Qd Ed ∧
  (∀ a ws xs H', Ext I H H' → H a = none → ¬ I.foot a → H' a = some (.lst ws) → DenA K (fun x => I.own x ∨ x = a) H' ws xs → Qd xs → Q (.ref a) H') ∧ (∀ x d H', Ext I H H' → ExD K I H' x d → Ed x → E (.ref x.cls) d H')
section
variable {P : Program} {w : World} {K : PySem.W.Frag} {mg : Str → Option Value} {base : Heap}
theorem fn_F {x qual : Str} {params : Arguments} {body : List Stmt} {scope : Scope} {dvs : List V} {kws : List (Str × V)} {f : Addr} {fd : FuncData} {N ps : List Str} {k : Nat} {I : HI} {C : CtF} {tsd : (DEnv → Exc → Prop) → TSD}
    (F : FunD K x qual params body scope dvs kws f fd) (S : FnScope N ps scope)
    (hbody : ∀ (cdv : Value) (A : Around) (outer : List Env) (s : Shared) (H : Hp) (E : XK) (Ed : Exc → Prop), Room k (A.deeper (envOfC qual scope s.heap.objs.size f cdv)) →
      Takes (cxD P w K mg base N qual scope f cdv A outer s H E) (gOf I Ed E).W → PSsD (cxD P w K mg base N qual scope f cdv A outer s H E) (gOf I Ed E) body (tsd (gOf I Ed E).Ed))
    (hC : ∀ ds Qd Ed, C ds Qd Ed → ds.length = ps.length → tsd (fun _ x => Ed x) ⟨fun _ => False, fun _ => False, fun _ => False, fun _ => False, Qd⟩ (startD N ds)) :
    FnOk P w K mg base (L2.CX P w) (k + 1) f fd ps (spOfF K I ps.length C) := by
  refine F.ok S (fun vs H Q E ⟨ds, Qd, Ed, hl, dn, _⟩ => by rw [dn.len, hl]) (fun cdv A outer s H vs Q E hr ⟨ds, Qd, Ed, hl, dn, ok, hc, kq, ke⟩ => ?_)
  refine ⟨_, pss_w, ?_⟩
  have tk : Takes (cxD P w K mg base N qual scope f cdv A outer s H E) (gOf I Ed E).W := takes_of rfl rfl rfl rfl
  refine hbody cdv A outer s H E Ed hr tk ⟨H, []⟩ (L2.start N vs) H (startD N ds) _ _ (startE ok dn) ?_ (hC ds Qd Ed hc hl) ⟨fun _ _ _ _ q => q.elim, fun _ _ _ _ _ q => q.elim, fun _ _ _ _ q => q.elim, fun _ _ _ _ q => q.elim, fun a ws xs H' e n nf hl dn' q => kq a ws xs H' e n nf hl dn' q⟩
  exact fun σ' H' env' x d H'' hd' e xd q => ke x d H'' (hd'.ext.trans e) xd q
def ClF (P : Program) (w : World) (K : PySem.W.Frag) (mg : Str → Option Value) (base : Heap) (I : HI) (k : Nat) (x : Str) (n : Nat) (C : CtF) (dds : List D) : Prop :=
  ∃ (fa : Addr) (fd : FuncData) (ps : List Str) (ds : List Value) (dvs : List V), FnOk P w K mg base (L2.CX P w) k fa fd ps (spOfF K I n C) ∧ mg x = some (.ref fa) ∧ PySem.W.keepIn K (.ref fa) = true ∧ L2.Binds K fd ps ds ∧ Vals dvs ds ∧ ∀ H, DenA K I.own H dvs dds
def ArF (n : Nat) (C : CtF) : Prop := ∀ xs Q E, C xs Q E → xs.length = n
end
section
variable {X : Cx} {g : Gx} {e : Expr} {es : List Expr} {tas : TAD} {p pos : Pos} {x : Str}
theorem slotN {b : B0} {σ : L2.St} {H : Hp} {env : DEnv} {i : Nat} {xs : List D} (hd : DenE X.K g.I b σ H env) (h : env[i]? = some (.own xs)) :
    ∃ a vs, σ[i]? = some (some (.ref a)) ∧ b.H0 a = none ∧ ¬ g.I.foot a ∧ H a = some (.lst vs) ∧ DenA X.K (fun x => g.I.own x ∨ x = a) H vs xs := by
  obtain ⟨oa, h1, h2, h3, h4⟩ := hd.slots
  obtain ⟨⟨vs, e1, e2, e3⟩, e4, e5⟩ := h1 i xs h
  exact ⟨oa i, vs, e1, e4, e5, e2, DenA.weak (fun z q => q.imp id fun q => ⟨i, xs, h, q⟩) _ _ e3⟩
def fCall (C : CtF) (dds : List D) (Ed : DEnv → Exc → Prop) (ta : TAD) : TFD := fun env Q => ta env fun xs => C (xs ++ dds) Q (Ed env)
theorem pf_call {k j n : Nat} {C : CtF} {dds : List D} (c : ClF X.prog X.w X.K X.mg X.base g.I k x n C dds) (hC : ArF n C) (hr : Room j X.A) (hj : k ≤ j) (hg : Gl X x) (tk : Takes X g.W) (ha : PAD X g (e :: es) tas)
    (hdb : (x == ("__debug__" : Str)) = false := by decide) (he : starEach (e :: es) X.env = (false, eval e X.env) :: starEach es X.env := by rfl) (hpl : (backTo pos (starEach es X.env)).any (·.1) = false := by rfl) :
    PFD X g (.Call (.Name x p) (e :: es) [] pos) (fCall C dds g.Ed tas) := fun b0 σ H env Qd Q hd' xl h kq pins s J => by
  obtain ⟨fa, fd, ps, ds, dvs, F, hm, hk, hb, hd, hdd⟩ := c
  refine wpAny_Call_Name_kw (ld_glob J hg hm ?_ hdb)
  refine PySem.W.callWith_K (h₀ := X.base) J.ok.mod.kin hk (thn ((pa_w (es := e :: es)).run pos pins s σ H (fun vs H1 => spOfF X.K g.I n C (vs ++ dvs) H1 Q (WE g.W σ)) J ?_) fun us s1 ⟨vs, H1, I1, r, q⟩ => ⟨I1.kIn, run_fnD F (hr.mono hj) hb hd (passAt tk σ) I1 r q⟩) he hpl
  refine ha b0 σ H env _ _ hd' xl h fun vs xs H1 e1 dn q => ⟨xs ++ dds, Qd, g.Ed env, hC _ _ _ q, dn.app (hdd H1), e1.2, q, fun a ws ys H2 e2 n2 nf hl d2 q2 => ?_, fun z d H2 e2 xd q2 => xl σ H env z d H2 hd' (e1.trans e2) xd q2⟩
  exact kq a ws ys H2 (Ext.none e1 n2) (e1.trans e2) hl d2 q2
end
end Fr

namespace Fr
open PySem PySem.Spec PyProof.Rows L2 Dl In He
section
variable {X : Cx} {g : Gx} {o e : Expr} {es : List Expr} {te : TED} {ta : TAD} {p pos apos : Pos} {m : Str} {C : Addr}
end
end Fr

namespace Fr
open PySem PySem.Spec PyProof.Rows L2 Dl In He Zs
section
variable {X : Cx} {g : Gx} {pos p2 : Pos} {y : Str} {e : Expr} {td : TED} {j : Nat}
end
end Fr

namespace Fr
open PySem PySem.Spec PyProof.Rows L2 Dl In He Zs Ns
abbrev TRD := DEnv → (List D → Prop) → Prop
def PRD (X : Cx) (g : Gx) (e : Expr) (tr : TRD) : Prop := ∀ (b : B0) (σ : L2.St) (H : Hp) (env : DEnv) (Qd : List D → Prop) (Q : VK), DenE X.K g.I b σ H env → XL X.K g b → tr env Qd →
  (∀ a vs xs H', Ext g.I b.H0 H' → b.H0 a = none → ¬ g.I.foot a → H' a = some (.lst vs) → DenA X.K (fun x => g.I.own x ∨ x = a) H' vs xs → Qd xs → Q (.ref a) H') → wE X e σ H Q
section
variable {X : Cx} {g : Gx} {e c a b : Expr} {es : List Expr} {tas : TAD} {p pos : Pos} {x : Str} {t : TTD} {ta tb tr : TRD}
def rOwn (i : Nat) : TRD := fun env Q => ∃ xs, env[i]? = some (.own xs) ∧ Q xs
theorem r_own (i : Nat) (hN : X.N[i]? = some x) (hv : Vis X.env.scope x) (hd' : (x == ("__debug__" : Str)) = false := by decide) (hcd : (x == ("__classdict__" : Str)) = false := by decide) : PRD X g (.Name x p) (rOwn i) := fun b σ H env Qd Q hd xl ⟨xs, h, q⟩ k pins s J => by
  obtain ⟨a, vs, h1, h2, h3, h4, h5⟩ := slotN hd h
  exact (pe_var hN hv hd' hcd).run pins s σ H Q J ⟨_, h1, k a vs xs H hd.ext h2 h3 h4 h5 q⟩
theorem r_new {tf : TFD} (he : PFD X g e tf) : PRD X g e tf := fun b σ H env Qd Q hd xl h k => he b σ H env _ _ hd xl h fun a vs xs H1 n e1 hl dn q => k a vs xs H1 (hd.ext.trans e1) (Ext.none hd.ext n) (fun z => g.I.dom H a hd.ok z n) hl dn q
def sRetR (tr : TRD) : TSD := fun Dd env => tr env Dd.rf
theorem ds_retR (he : PRD X g e tr) : PSD X g (.Return (some e) pos) (sRetR tr) := psd_of (ps_ret pe_w) fun b σ H env Dd E hd xl h el => he b σ H env _ _ hd xl h fun a vs xs H1 e1 n nf hl dn q => el.rf a vs xs H1 e1 n nf hl dn q
end
section
variable {P : Program} {w : World} {K : PySem.W.Frag} {mg : Str → Option Value} {base : Heap}
end
def POD (X : Cx) (g : Gx) (e : Expr) (td : TED) : Prop := ∀ (b : B0) (σ : L2.St) (H : Hp) (env : DEnv) (Qd : D → Prop) (Q : VK), DenE X.K g.I b σ H env → XL X.K g b → td env Qd →
  (∀ a vs xs H', H a = none → Ext g.I H H' → H' a = some (.lst vs) → DenA X.K (fun x => g.I.own x ∨ x = a) H' vs xs → Qd (.lst xs) → Q (.ref a) H') → (∀ v d H', Ext g.I H H' → Den X.K g.I.own H' v d → d.noLst = true → Qd d → Q v H') → wE X e σ H Q
section
variable {X : Cx} {g : Gx} {e : Expr} {es : List Expr} {tas : TAD} {td : TED} {p pos pos' : Pos} {x : Str} {i : Nat}
end
end Fr
namespace In
open PySem
end In

namespace K32
open PySem PySem.Spec PyProof.Rows L2 Dl
end K32

namespace Fr
open PySem PySem.Spec PyProof.Rows L2 Dl
end Fr

namespace Tf
open PySem PySem.Spec PyProof.Rows L2 Ns
section
variable {prog : Program} {w : World} {A : Around} {R : Result → Shared → Prop} {s : Shared} {el ta ia tb ib : Expr} {fa fb : List Expr} {sc : Scope} {pos : Pos} {it acc : Value} {env : Env}
abbrev two (el ta ia tb ib : Expr) (fa fb : List Expr) (sc : Scope) (pos : Pos) : Expr := .SetComp el [⟨ta, ia, fa, 0⟩, ⟨tb, ib, fb, 0⟩] sc pos
theorem turn_out : compTurn (two el ta ia tb ib fa fb sc pos) 0 it acc env = (do
      standAt ia.pos
      match ← pyNext it with
      | none => pure (.done .next)
      | some v =>
        letOwnedTupleGo ta it v
        assign ta env v
        let mut b := true
        for q in fa do
          if b then b ← isTrue q env (eval q env)
        if b then
          let y ← eval ib env
          standAt ib.pos
          let y ← foldedSetIterable ib env y
          let _ ← runOwn (.compStart (two el ta ia tb ib fa fb sc pos) 1 (← holding [y] (pyIter y)) acc env) env
        again (.compLoop (two el ta ia tb ib fa fb sc pos) 0 it acc env)) := by rfl
theorem turn_in : compTurn (two el ta ia tb ib fa fb sc pos) 1 it acc env = (do
      standAt ib.pos
      match ← pyNext it with
      | none => pure (.done .next)
      | some v =>
        letOwnedTupleGo tb it v
        assign tb env v
        let mut b := true
        for q in fb do
          if b then b ← isTrue q env (eval q env)
        if b then
          (do let y ← eval el env; standAt el.pos; let _ ← call (.builtin "set.add") [acc, y])
        again (.compLoop (two el ta ia tb ib fa fb sc pos) 1 it acc env)) := by rfl
abbrev Tests (prog : Program) (w : World) (A : Around) (env : Env) (fs : List Expr) (Q : Bool → Shared → Prop) (E : Value → Shared → Prop) (s : Shared) : Prop :=
  wpAny (model prog w) A (forIn fs true fun c r => if r = true then do let ok ← isTrue c env (eval c env); pure (ForInStep.yield ok) else pure (ForInStep.yield r)) Q E s
abbrev Err (prog : Program) (w : World) (A : Around) (env : Env) (R : Result → Shared → Prop) : Value → Shared → Prop := notedBy (model prog w) A env fun e s' => R (.error e) s'
theorem loop_out (plain : ∀ x, foldedSetIterable ib env x = pure x) (I : Nat → Shared → Prop)
    (turn : ∀ n s, I n s → wpAny (model prog w) A (pyNext it) (fun r s1 => match r with
      | none => R (.ok .next) s1
      | some v => wpAny (model prog w) A (letOwnedTupleGo ta it v) (fun _ s2 => wpAny (model prog w) A (assign ta env v) (fun _ s3 => Tests prog w A env fa (fun ok s4 =>
            if ok = true then wpAny (model prog w) A (eval ib env) (fun x s5 => wpAny (model prog w) A (pyIter x) (fun itb s6 => codeAny (model prog w) A (.compStart (two el ta ia tb ib fa fb sc pos) 1 itb acc env) (fun r s' => match r with
                | .ok _ => ∃ m, m < n ∧ I m s'
                | .error _ => False) s6) (Err prog w A env R) s5) (Err prog w A env R) s4
            else ∃ m, m < n ∧ I m s4) (Err prog w A env R) s3) (Err prog w A env R) s2) (Err prog w A env R) s1) (Err prog w A env R) s)
    (n : Nat) (h : I n s) : codeAny (model prog w) A (.compLoop (two el ta ia tb ib fa fb sc pos) 0 it acc env) R s := by
  refine codeAny_loop rfl I (fun n s now => ?_) n h
  show wpAny _ A ((compTurn (two el ta ia tb ib fa fb sc pos) 0 it acc env).onRaise (fun x => do noteFrame x env; theTreesLotGoes x)) _ _ s
  refine wpAny_noted ?_
  rw [turn_out]
  refine wpAny_bind (wpAny_standAt (wpAny_bind (wpAny_mono (turn n s now) (fun r s1 g1 => ?_) fun _ _ z => z)))
  match r, g1 with
  | none, g1 => exact wpAny_pure g1
  | some v, g1 =>
    refine wpAny_bind (wpAny_mono g1 (fun _ s2 g2 => wpAny_bind (wpAny_mono g2 (fun _ s3 g3 => wpAny_bind (wpAny_mono g3 (fun ok s4 g4 => ?_) fun _ _ z => z)) fun _ _ z => z)) fun _ _ z => z)
    cases ok with
    | false => exact wpAny_pure ⟨rfl, g4⟩
    | true =>
      refine wpAny_bind (wpAny_mono g4 (fun x s5 g5 => wpAny_bind (wpAny_standAt (wpAny_bind (wpAny_of_eq (plain x) (wpAny_bind (wpAny_holding (wpAny_mono g5 (fun itb s6 g6 => ?_) fun _ _ z => z))))))) fun _ _ z => z)
      refine wpAny_bind (wpAny_runOwn ?_)
      rw [Around.mark_none]
      refine codeAny_mono g6 fun r s' hr => ?_
      match r, hr with
      | .ok f, hr =>
        first
          | exact wpAny_pure ⟨rfl, hr⟩
          | exact wpAny_bind (wpAny_pure (wpAny_pure ⟨rfl, hr⟩))
      | .error e, hr => exact False.elim hr
theorem loop_in (I : Nat → Shared → Prop)
    (turn : ∀ n s, I n s → wpAny (model prog w) A (pyNext it) (fun r s1 => match r with
      | none => R (.ok .next) s1
      | some v => wpAny (model prog w) A (letOwnedTupleGo tb it v) (fun _ s2 => wpAny (model prog w) A (assign tb env v) (fun _ s3 => Tests prog w A env fb (fun ok s4 =>
            if ok = true then wpAny (model prog w) A (eval el env) (fun x s5 => wpAny (model prog w) A (call (.builtin "set.add") [acc, x]) (fun _ s6 => ∃ m, m < n ∧ I m s6) (Err prog w A env R) s5) (Err prog w A env R) s4
            else ∃ m, m < n ∧ I m s4) (Err prog w A env R) s3) (Err prog w A env R) s2) (Err prog w A env R) s1) (Err prog w A env R) s)
    (n : Nat) (h : I n s) : codeAny (model prog w) A (.compLoop (two el ta ia tb ib fa fb sc pos) 1 it acc env) R s := by
  refine codeAny_loop rfl I (fun n s now => ?_) n h
  show wpAny _ A ((compTurn (two el ta ia tb ib fa fb sc pos) 1 it acc env).onRaise (fun x => do noteFrame x env; theTreesLotGoes x)) _ _ s
  refine wpAny_noted ?_
  rw [turn_in]
  refine wpAny_bind (wpAny_standAt (wpAny_bind (wpAny_mono (turn n s now) (fun r s1 g1 => ?_) fun _ _ z => z)))
  match r, g1 with
  | none, g1 => exact wpAny_pure g1
  | some v, g1 =>
    refine wpAny_bind (wpAny_mono g1 (fun _ s2 g2 => wpAny_bind (wpAny_mono g2 (fun _ s3 g3 => wpAny_bind (wpAny_mono g3 (fun ok s4 g4 => ?_) fun _ _ z => z)) fun _ _ z => z)) fun _ _ z => z)
    cases ok with
    | false => exact wpAny_pure ⟨rfl, g4⟩
    | true => exact wpAny_bind (wpAny_bind (wpAny_mono g4 (fun x s5 g5 => wpAny_bind (wpAny_standAt (wpAny_bind (wpAny_mono g5 (fun _ s6 g6 => wpAny_pure (wpAny_pure ⟨rfl, g6⟩)) fun _ _ z => z)))) fun _ _ z => z))
theorem start_in (h0 : codeAny (model prog w) A (.compLoop (two el ta ia tb ib fa fb sc pos) 1 it acc env) R s)
    (h : wpAny (model prog w) A (pyIter it) (fun itb s' => codeAny (model prog w) A (.compLoop (two el ta ia tb ib fa fb sc pos) 1 itb acc env) R s') (Err prog w A env R) s) :
    codeAny (model prog w) A (.compStart (two el ta ia tb ib fa fb sc pos) 1 it acc env) R s := by
  refine codeAny_of_tree ?_
  show wpAny _ _ ((compStart (two el ta ia tb ib fa fb sc pos) 1 it acc env).onRaise (fun x => do noteFrame x env; standAt theWindowsPlace)) _ _ s
  refine wpAny_notedAt ?_
  unfold compStart
  show wpAny _ _ (ask >>= _) _ _ s
  refine wpAny_bind (wpAny_askSetting (wpAny_ite ?_))
  have on : ∀ itb s', codeAny (model prog w) A (.compLoop (two el ta ia tb ib fa fb sc pos) 1 itb acc env) R s' → _ := fun itb s' z => And.intro (rfl : (1 : Nat) = 1) z
  split
  · first
      | exact wpAny_pure ⟨rfl, h0⟩
      | exact wpAny_bind (wpAny_pure (wpAny_pure ⟨rfl, h0⟩))
  · refine wpAny_bind (wpAny_rule ?_)
    try (show wpAny _ _ (standAt ib.pos >>= _) _ _ s)
    exact wpAny_bind (wpAny_standAt (wpAny_bind (wpAny_mono h (fun itb s' z => wpAny_pure ⟨rfl, z⟩) fun _ _ z => z)))
end
end Tf

namespace Tf
open PySem PySem.Spec PyProof.Rows L2 Ns
theorem out_of {σ : L2.St} {i : Nat} : ∀ {vs : List Nat}, i ∉ vs → (wipe σ vs)[i]? = σ[i]?
  | [], _ => rfl
  | v :: vs, h => by
    unfold wipe
    rw [List.getElem?_set_ne fun e => h (by rw [e]; exact List.mem_cons_self)]
    exact out_of fun m => h (List.mem_cons_of_mem _ m)
def tSa2 (O0 : Addr → HO) (Ad : Addr → V → Hp → (Hp → Prop) → Prop) (wi : TI) (g : TG) (tt : TT) (wj : TI) (gj : TG) (tj : TT) (te : TE) (vs ws : List Nat) : TE := fun σ H Q => wi σ H fun J H1 => ∀ D, H1 D = none →
  ∃ W : Nat → Nat → Hp → Prop, (∃ m, W 0 m (upd H1 D (O0 D))) ∧ ∀ i m H2, W i m H2 → (J.stop i H2 ∧ Q (.ref D) H2) ∨ (J.go i H2 ∧ ∃ Nx : Hp → Prop, (∀ H', Nx H' → ∃ m', m' < m ∧ W (i + 1) m' H') ∧
    ∀ x H', J.yld i H2 x H' → g x (wipe σ vs) H' fun σ3 H3 => wipe σ3 vs = wipe σ vs ∧ tt σ3 H3 fun b H4 => if b = true then wj σ3 H4 fun J2 H5 => (∃ (P : Program) (w : World) (h : Heap), HOk P w H5 h) →
      ∃ U : Nat → Nat → Hp → Prop, (∃ m, U 0 m H5) ∧ ∀ j k H6, U j k H6 → (J2.stop j H6 ∧ Nx H6) ∨ (J2.go j H6 ∧ ∃ Ny : Hp → Prop, (∀ H', Ny H' → ∃ k', k' < k ∧ U (j + 1) k' H') ∧
        ∀ y H', J2.yld j H6 y H' → gj y (wipe σ3 ws) H' fun σ7 H7 => wipe σ7 ws = wipe σ3 ws ∧ tj σ7 H7 fun b H8 => if b = true then te σ7 H8 fun z H9 => Ad D z H9 Ny else Ny H8) else Nx H4)
section
variable {X : Cx} {O0 : Addr → HO} {Ad : Addr → V → Hp → (Hp → Prop) → Prop}
theorem sa2_run {pins : List (Addr × Obj)} {s : Shared} {σ : L2.St} {H : Hp} {Q : VK} {el ta ia tb ib : Expr} {fa fb : List Expr} {scope : Scope} {own : List (PySem.Str × Nat)} {ws : List Nat} {pos at? : Pos} {wi wj : TI} {g gj : TG} {tt tj : TT} {te : TE} {Qf : Value → Shared → Prop}
    (ad : Adds X O0 Ad) (calm : X.calm = true) (ndp : X.N.Nodup) (I : Inv X pins σ H s) (walk : PI X ta ia wi) (ok : BlkOk X.N X.env.scope scope own) (sub : ∀ i ∈ ws, i ∈ own.map (·.2))
    (tgt : ∀ (s : Shared) (H : Hp) (C : Addr) (cl : List (PySem.Str × Addr)) (fp : List Addr), PG (X.blk s H scope (compEnvC scope cl C X.env) fp) ta g) (tst : ∀ (s : Shared) (H : Hp) (C : Addr) (cl : List (PySem.Str × Addr)) (fp : List Addr), PTs (X.blk s H scope (compEnvC scope cl C X.env) fp) fa tt)
    (walk2 : ∀ (s : Shared) (H : Hp) (C : Addr) (cl : List (PySem.Str × Addr)) (fp : List Addr), PI (X.blk s H scope (compEnvC scope cl C X.env) fp) tb ib wj)
    (tgt2 : ∀ (s : Shared) (H : Hp) (C : Addr) (cl : List (PySem.Str × Addr)) (fp : List Addr), PG (X.blk s H scope (compEnvC scope cl C X.env) fp) tb gj) (tst2 : ∀ (s : Shared) (H : Hp) (C : Addr) (cl : List (PySem.Str × Addr)) (fp : List Addr), PTs (X.blk s H scope (compEnvC scope cl C X.env) fp) fb tj)
    (elm : ∀ (s : Shared) (H : Hp) (C : Addr) (cl : List (PySem.Str × Addr)) (fp : List Addr), PE (X.blk s H scope (compEnvC scope cl C X.env) fp) el te) (plain : ∀ x, foldedSetIterable ia X.env x = pure x) (plain2 : ∀ e x, foldedSetIterable ib e x = pure x)
    (h : tSa2 O0 Ad wi g tt wj gj tj te (own.map (·.2)) ws σ H Q) (fin : ∀ D C s' m H', Inv X pins σ H' s' → Q (.ref D) H' → s'.heap.Ns C m → FpOk X pins H' C → compPost (model X.prog X.w) X.A X.xe none Qf (.ref D) C (.ok .next) s') :
    wpAny (model X.prog X.w) X.A (comprehension (two el ta ia tb ib fa fb scope pos) scope X.env at? (newSet (.type "set")) false (eval ia X.env) none) Qf X.xe s := by
  have cells : ∀ y ∈ scope.names, y.2 = .free → ∃ c, X.env.cells.lookup y.1 = some c := fun y hy e => I.ok.has _ ((ok.free y hy e).imp id id)
  refine wpAny_comprehension_free (use := none) rfl plain (closure_ok cells) ok.kind (fun y hy e => (ok.uniq y hy).trans (congrArg some e)) (thn (walk.run pins s σ H _ I h) fun xv s1 hx => thn hx fun itv s2 h2 => ?_)
  obtain ⟨it, fp, tn, J, H2, e, I2, T, st2, f2, q⟩ := h2
  subst e
  refine PpSet.newSet_ok (newEnv_comp ?_)
  generalize hD : s2.heap.objs.size = D
  have new2 : s2.heap.objs.size ≤ D := Nat.le_of_eq hD
  obtain ⟨W, ⟨m0, w0⟩, turn⟩ := q D (I2.hok.fresh new2)
  have at3 : (s2.heap.push (bareSet X.w)).get? D = some (bareSet X.w) := by rw [← hD]; exact Heap.get?_push_size _ rfl
  generalize hs3 : ({ s2 with heap := s2.heap.push (bareSet X.w) } : Shared) = s3
  have e3 : s3.heap = s2.heap.push (bareSet X.w) := by rw [← hs3]
  generalize hH3 : upd H2 D (O0 D) = H3 at w0
  have I3 : Inv X pins σ H3 s3 := by
    rw [← hs3, ← hH3]
    exact I2.laid (t' := s2.toks) (fun b o e => Heap.get?_push_of_some _ e) new2 (ad.new _ _ D at3)
  have below : ∀ b ∈ fp, b < s2.heap.objs.size := fun b hb => let ⟨_, e, _⟩ := T.obj _ _ st2 b hb; Heap.lt_size e
  have none3 : ∀ b ∈ fp, H3 b = none := fun b hb => by
    have ne : b ≠ D := Nat.ne_of_lt (Nat.lt_of_lt_of_le (below b hb) new2)
    rw [← hH3, upd_ne ne]
    exact (f2 b hb).1
  have f3 : ∀ b ∈ fp, FpOk X pins H3 b ∧ b < s3.heap.objs.size := fun b hb => ⟨⟨none3 b hb, (f2 b hb).2⟩, by
    rw [e3, Heap.size_push]
    exact Nat.lt_succ_of_lt (below b hb)⟩
  have st3 : tn 0 s3.heap := T.keep _ _ _ st2 fun b _ o e => by rw [e3]; exact Heap.get?_push_of_some _ e
  have I4 := block_start I3 ok ndp f3
  have pg := tgt s3 H3 s3.heap.objs.size (cellsFrom (s3.heap.objs.size + 1) scope.names (cloFrom X.env.cells scope.names [])) fp
  have pt := tst s3 H3 s3.heap.objs.size (cellsFrom (s3.heap.objs.size + 1) scope.names (cloFrom X.env.cells scope.names [])) fp
  have pj := walk2 s3 H3 s3.heap.objs.size (cellsFrom (s3.heap.objs.size + 1) scope.names (cloFrom X.env.cells scope.names [])) fp
  have pgj := tgt2 s3 H3 s3.heap.objs.size (cellsFrom (s3.heap.objs.size + 1) scope.names (cloFrom X.env.cells scope.names [])) fp
  have ptj := tst2 s3 H3 s3.heap.objs.size (cellsFrom (s3.heap.objs.size + 1) scope.names (cloFrom X.env.cells scope.names [])) fp
  have pe := elm s3 H3 s3.heap.objs.size (cellsFrom (s3.heap.objs.size + 1) scope.names (cloFrom X.env.cells scope.names [])) fp
  show codeAny _ _ (.compStart _ 0 (.ref it) (.ref D) (compEnvC scope (cellsFrom (s3.heap.objs.size + 1) scope.names (cloFrom X.env.cells scope.names [])) s3.heap.objs.size X.env)) (compPost (model X.prog X.w) X.A X.xe none Qf (.ref D) s3.heap.objs.size) { s3 with heap := pushCells (s3.heap.push { cls := .type "dict", data := .dict #[] }) scope.names }
  have loc : (compEnvC scope (cellsFrom (s3.heap.objs.size + 1) scope.names (cloFrom X.env.cells scope.names [])) s3.heap.objs.size X.env).locals = s3.heap.objs.size := rfl
  generalize compEnvC scope (cellsFrom (s3.heap.objs.size + 1) scope.names (cloFrom X.env.cells scope.names [])) s3.heap.objs.size X.env = ce at I4 pg pt pj pgj ptj pe loc ⊢
  generalize hs4 : ({ s3 with heap := pushCells (s3.heap.push { cls := .type "dict", data := .dict #[] }) scope.names } : Shared) = s4 at I4 ⊢
  have st4 : tn 0 s4.heap := T.keep _ _ _ st3 fun b _ o e => by rw [← hs4]; exact pushCells_keeps _ _ _ _ (Heap.get?_push_of_some _ e)
  have feet : ∀ {σ' : L2.St} {H' : Hp} {s' : Shared}, Inv (X.blk s3 H3 scope ce fp) [] σ' H' s' → (∀ b ∈ fp, H' b = none) → ∀ b ∈ fp, FpOk (X.blk s3 H3 scope ce fp) [] H' b := fun {σ' H' s'} J' hn b hb =>
    ⟨hn b hb, (J'.ok.exf b hb).1, J'.ok.exfs b hb, .inl hb, fun x c e => (J'.ok.exf b hb).2 x c e, fun p hp => by cases hp⟩
  have loop : codeAny (model X.prog X.w) X.A (.compLoop (two el ta ia tb ib fa fb scope pos) 0 (.ref it) (.ref D) ce) (compPost (model X.prog X.w) X.A X.xe none Qf (.ref D) s3.heap.objs.size) s4 := by
    refine loop_out (plain2 ce) (fun n s' => ∃ i H', Inv (X.blk s3 H3 scope ce fp) [] (wipe σ (own.map (·.2))) H' s' ∧ tn i s'.heap ∧ (∀ b ∈ fp, H' b = none) ∧ W i n H') ?_ m0 ⟨0, H3, I4, st4, none3, w0⟩
    rintro n s5 ⟨i, H5, I5, st5, n5, w5⟩
    rcases turn i n H5 w5 with ⟨stop, qq⟩ | ⟨go, Nx, next, step⟩
    · refine thnF (T.done (X.blk s3 H3 scope ce fp) rfl rfl rfl calm i [] s5 _ H5 (fun _ _ => False) I5 (feet I5 n5) st5 stop) fun r s6 ⟨hr, I6⟩ => ?_
      subst hr
      have back : Inv X pins σ H5 s6 := I3.call' (ch := fp) I6.os I6.base I6.hok I6.bare fun b hb => ⟨(f3 b hb).1.2.2.2.1, (f3 b hb).1.2.1, (f3 b hb).1.2.2.2.2.1, (f3 b hb).1.2.2.2.2.2⟩
      have gone : H5 s3.heap.objs.size = none := by rw [← loc]; exact I6.free
      obtain ⟨m, ns, _⟩ := I6.loc
      have ns' : s6.heap.Ns ce.locals m := ns
      exact fin D s3.heap.objs.size s6 m H5 back qq (loc ▸ ns') (I3.fpOk (Nat.le_refl _) gone)
    · refine thnF (T.item (X.blk s3 H3 scope ce fp) rfl rfl rfl calm i [] s5 _ H5 (fun _ _ => False) I5 (feet I5 n5) st5 go) fun r s6 ⟨u, hr, h6⟩ => ?_
      subst hr
      refine thnF h6 fun _ s7 ⟨x, H7, I7, r7, y7, st7, n7⟩ => ?_
      refine thnF (pg.run _ s7 _ H7 x u _ (I7.pinned (feet I7 n7) (T.obj _ _ st7)) r7 (step x H7 y7)) fun _ s8 ⟨σ8, H8, I8, same, q8⟩ => ?_
      refine thnF (pt.run _ s8 σ8 H8 _ I8 q8) fun b s9 ⟨H9, I9, q9⟩ => ?_
      have round : ∀ {σ9 : L2.St} {s' : Shared} {H' : Hp}, Inv (X.blk s3 H3 scope ce fp) ([] ++ pinsAt fp s7.heap) σ9 H' s' → (wipe σ (own.map (·.2))).length = σ9.length → (∀ (j : Nat) v, (wipe σ (own.map (·.2)))[j]? = some (some v) → σ9[j]? = some (some v)) → Nx H' →
          ∃ m, m < n ∧ ∃ i H', Inv (X.blk s3 H3 scope ce fp) [] (wipe σ (own.map (·.2))) H' s' ∧ tn i s'.heap ∧ (∀ b ∈ fp, H' b = none) ∧ W i m H' := fun {σ9 s' H'} J' ln kn nx => by
        obtain ⟨m', lt, w'⟩ := next H' nx
        have pinned : ∀ b ∈ fp, ∀ o, s7.heap.get? b = some o → s'.heap.get? b = some o ∧ H' b = none := fun b hb o e =>
          have z := J'.pin (b, o) (List.mem_append_right _ (List.mem_append_right _ (mem_pinsAt hb e)))
          ⟨z.1, z.2.1⟩
        refine ⟨m', lt, i + 1, H', (J'.unpinned (pins := [])).weak ln kn, T.keep _ _ _ st7 fun b hb o e => (pinned b hb o e).1, fun b hb => ?_, w'⟩
        obtain ⟨o, e, _⟩ := T.obj _ _ st7 b hb
        exact (pinned b hb o e).2
      have l8 : (wipe σ (own.map (·.2))).length = σ8.length := by rw [← same, wipe_length]
      have k8 : ∀ (j : Nat) v, (wipe σ (own.map (·.2)))[j]? = some (some v) → σ8[j]? = some (some v) ∧ j ∉ own.map (·.2) := fun j v e => by
        rw [← same] at e
        exact wipe_some e
      cases b with
      | false => exact round I9 l8 (fun j v e => (k8 j v e).1) (by simpa using q9)
      | true =>
        simp only [if_true] at q9 ⊢
        refine thnF (pj.run _ s9 σ8 H9 _ I9 q9) fun xv sA hx => thnF hx fun itv sB hB => ?_
        obtain ⟨it2, fp2, tn2, J2, HB, e2, IB, T2, stB, fB, qB⟩ := hB
        subst e2
        obtain ⟨U, ⟨k0, u0⟩, turn2⟩ := qB ⟨_, _, _, IB.hok⟩
        have feet2 : ∀ {H' : Hp}, (∀ b ∈ fp2, H' b = none) → ∀ b ∈ fp2, FpOk (X.blk s3 H3 scope ce fp) ([] ++ pinsAt fp s7.heap) H' b := fun hn b hb => ⟨hn b hb, (fB b hb).2⟩
        have inner : codeAny (model X.prog X.w) X.A (.compLoop (two el ta ia tb ib fa fb scope pos) 1 (.ref it2) (.ref D) ce)
            (fun r s' => match r with
              | .ok _ => ∃ m, m < n ∧ ∃ i H', Inv (X.blk s3 H3 scope ce fp) [] (wipe σ (own.map (·.2))) H' s' ∧ tn i s'.heap ∧ (∀ b ∈ fp, H' b = none) ∧ W i m H'
              | .error _ => False) sB := by
          refine loop_in (fun k s' => ∃ j H', Inv (X.blk s3 H3 scope ce fp) ([] ++ pinsAt fp s7.heap) (wipe σ8 ws) H' s' ∧ tn2 j s'.heap ∧ (∀ b ∈ fp2, H' b = none) ∧ U j k H') ?_ k0
            ⟨0, HB, IB.weak (wipe_length _ _) (fun j v e => (wipe_some e).1), stB, fun b hb => (fB b hb).1, u0⟩
          rintro k sC ⟨j, HC, IC, stC, nC, wC⟩
          rcases turn2 j k HC wC with ⟨stop2, nx⟩ | ⟨go2, Ny, next2, step2⟩
          · refine thnF (T2.done (X.blk s3 H3 scope ce fp) rfl rfl rfl calm j _ sC (wipe σ8 ws) HC (fun _ _ => False) IC (feet2 nC) stC stop2) fun r sD ⟨hr, ID⟩ => ?_
            subst hr
            refine round ID (l8.trans (wipe_length σ8 ws).symm) (fun j v e => ?_) nx
            obtain ⟨e1, e2⟩ := k8 j v e
            rw [out_of fun z => e2 (sub j z)]
            exact e1
          · refine thnF (T2.item (X.blk s3 H3 scope ce fp) rfl rfl rfl calm j _ sC (wipe σ8 ws) HC (fun _ _ => False) IC (feet2 nC) stC go2) fun r sD ⟨u2, hr, hD2⟩ => ?_
            subst hr
            refine thnF hD2 fun _ sE ⟨x2, HE, IE, rE, yE, stE, nE⟩ => ?_
            refine thnF (pgj.run _ sE (wipe σ8 ws) HE x2 u2 _ (IE.pinned (feet2 nE) (T2.obj _ _ stE)) rE (step2 x2 HE yE)) fun _ sF ⟨σF, HF, IF, same2, qF⟩ => ?_
            refine thnF (ptj.run _ sF σF HF _ IF qF) fun b2 sG ⟨HG, IG, qG⟩ => ?_
            have round2 : ∀ {s' : Shared} {H' : Hp}, Inv (X.blk s3 H3 scope ce fp) (([] ++ pinsAt fp s7.heap) ++ pinsAt fp2 sE.heap) σF H' s' → Ny H' →
                ∃ m, m < k ∧ ∃ j H', Inv (X.blk s3 H3 scope ce fp) ([] ++ pinsAt fp s7.heap) (wipe σ8 ws) H' s' ∧ tn2 j s'.heap ∧ (∀ b ∈ fp2, H' b = none) ∧ U j m H' := fun {s' H'} J' ny => by
              obtain ⟨m', lt, w'⟩ := next2 H' ny
              have pinned : ∀ b ∈ fp2, ∀ o, sE.heap.get? b = some o → s'.heap.get? b = some o ∧ H' b = none := fun b hb o e =>
                have z := J'.pin (b, o) (List.mem_append_right _ (List.mem_append_right _ (mem_pinsAt hb e)))
                ⟨z.1, z.2.1⟩
              refine ⟨m', lt, j + 1, H', J'.unpinned.weak (by rw [← same2, wipe_length]) (fun j v e => ?_), T2.keep _ _ _ stE fun b hb o e => (pinned b hb o e).1, fun b hb => ?_, w'⟩
              · rw [← same2] at e
                exact (wipe_some e).1
              · obtain ⟨o, e, _⟩ := T2.obj _ _ stE b hb
                exact (pinned b hb o e).2
            cases b2 with
            | false => exact round2 IG (by simpa using qG)
            | true =>
              simp only [if_true] at qG ⊢
              exact thnF (pe.run _ sG σF HG _ IG qG) fun z sH ⟨yv, HH, IH, rH, qH⟩ => ad.add _ _ _ _ _ _ _ _ _ _ _ _ _ _ _ IH rH qH fun sI HI II ny => round2 II ny
        exact start_in inner (T2.self X.A 0 _ _ _ stB inner)
  exact PpSet.codeAny_compStart_set loop (T.self X.A 0 _ _ _ st4 loop)
theorem pe_sa2 {el ta ia tb ib : Expr} {fa fb : List Expr} {scope : Scope} {own : List (PySem.Str × Nat)} {ws : List Nat} {pos : Pos} {wi wj : TI} {g gj : TG} {tt tj : TT} {te : TE}
    (ad : Adds X O0 Ad) (calm : X.calm = true) (ndp : X.N.Nodup) (walk : PI X ta ia wi) (ok : BlkOk X.N X.env.scope scope own) (sub : ∀ i ∈ ws, i ∈ own.map (·.2))
    (tgt : ∀ (s : Shared) (H : Hp) (C : Addr) (cl : List (PySem.Str × Addr)) (fp : List Addr), PG (X.blk s H scope (compEnvC scope cl C X.env) fp) ta g) (tst : ∀ (s : Shared) (H : Hp) (C : Addr) (cl : List (PySem.Str × Addr)) (fp : List Addr), PTs (X.blk s H scope (compEnvC scope cl C X.env) fp) fa tt)
    (walk2 : ∀ (s : Shared) (H : Hp) (C : Addr) (cl : List (PySem.Str × Addr)) (fp : List Addr), PI (X.blk s H scope (compEnvC scope cl C X.env) fp) tb ib wj)
    (tgt2 : ∀ (s : Shared) (H : Hp) (C : Addr) (cl : List (PySem.Str × Addr)) (fp : List Addr), PG (X.blk s H scope (compEnvC scope cl C X.env) fp) tb gj) (tst2 : ∀ (s : Shared) (H : Hp) (C : Addr) (cl : List (PySem.Str × Addr)) (fp : List Addr), PTs (X.blk s H scope (compEnvC scope cl C X.env) fp) fb tj)
    (elm : ∀ (s : Shared) (H : Hp) (C : Addr) (cl : List (PySem.Str × Addr)) (fp : List Addr), PE (X.blk s H scope (compEnvC scope cl C X.env) fp) el te) (plain : ∀ x, foldedSetIterable ia X.env x = pure x := by intro _; rfl) (plain2 : ∀ e x, foldedSetIterable ib e x = pure x := by intro _ _; rfl) :
    PE X (two el ta ia tb ib fa fb scope pos) (tSa2 O0 Ad wi g tt wj gj tj te (own.map (·.2)) ws) := ⟨fun pins s σ H Q I h => by
  rw [PpSet.eval_SetComp]
  refine sa2_run ad calm ndp I walk ok sub tgt tst walk2 tgt2 tst2 elm plain plain2 h fun D C s' m H' J q ns f => ⟨m, ns, fun h'' sb => ?_⟩
  obtain ⟨f0, f1, f2, f3, f4, f5⟩ := f
  exact ⟨.ref D, H', J.turned (t' := s'.toks) (fun b o hb e => (sb.2 b hb).trans e) f0 f1 f3 f4 f5, rfl, q⟩⟩
end
end Tf

namespace Tf
open PySem PySem.Spec PyProof.Rows L2 Dl Ns Zs Si
def zjD (gj : TGD) (tj : TTD) (te : TED) (env : DEnv) : List D → List Int → (List Int → Prop) → Prop
  | [], acc, Q => Q acc
  | y :: ys, acc, Q => (noOwn env = true ∨ y.noLst = true) ∧ gj y env fun env2 => tj env2 fun b => if b = true then te env2 fun z => ∃ k, z = .int k ∧ (canon acc).length < 4000 ∧ zjD gj tj te env ys (k :: acc) Q else zjD gj tj te env ys acc Q
def ziD2 (gd : TGD) (tt : TTD) (tid2 : TID) (gj : TGD) (tj : TTD) (te : TED) (ws : List Nat) (env : DEnv) : List D → List Int → (List Int → Prop) → Prop
  | [], acc, Q => Q (canon acc)
  | x :: xs, acc, Q => gd x env fun env2 => tt env2 fun b => if b = true then tid2 env2 fun es => zjD gj tj te (wipeD env2 ws) es acc fun acc2 => ziD2 gd tt tid2 gj tj te ws env xs acc2 Q else ziD2 gd tt tid2 gj tj te ws env xs acc Q
def zSi2 (tid : TID) (gd : TGD) (tt : TTD) (tid2 : TID) (gj : TGD) (tj : TTD) (te : TED) (vs ws : List Nat) : TZI := fun env Q => tid (frz env) fun ds => ziD2 gd tt tid2 gj tj te ws (wipeD (frz env) vs) ds [] Q
def wBI (X : Cx) (sc : Scope) (tg it : Expr) : TI := fun σ H R => ∀ s0 H0 C cl fp pins s, Inv (X.blk s0 H0 sc (compEnvC sc cl C X.env) fp) pins σ H s → wpAny (model X.prog X.w) X.A (eval it (compEnvC sc cl C X.env)) (fun v s1 => wpAny (model X.prog X.w) X.A (pyIter v) (PIE (X.blk s0 H0 sc (compEnvC sc cl C X.env) fp) pins σ tg R) (fun _ _ => False) s1) (fun _ _ => False) s
section
variable {X : Cx} {g : Gx} {sc : Scope} {tg it : Expr} {tid : TID}
theorem pi_blk {s : Shared} {H : Hp} {C : Addr} {cl : List (Str × Addr)} {fp : List Addr} : PI (X.blk s H sc (compEnvC sc cl C X.env) fp) tg it (wBI X sc tg it) := ⟨fun pins s σ H R I h => h _ _ _ _ _ pins s I⟩
theorem bi_of (h : ∀ (s : Shared) (H : Hp) (C : Addr) (cl : List (Str × Addr)) (fp : List Addr), PID (X.blk s H sc (compEnvC sc cl C X.env) fp) g.nox tg it tid) : SI X.K g.nox (wBI X sc tg it) tid :=
  fun b σ H env Qd R hd xl ht k s0 H0 C cl fp pins s J => h s0 H0 C cl fp b σ H env Qd R hd xl ht k pins s J
end
section
variable {X : Cx} {g : Gx} {wi wj : TI} {gt gt2 : TG} {tt tj : TT} {te : TE} {vs ws : List Nat} {tid tid2 : TID} {gd gj : TGD} {td tjd : TTD} {ed : TED}
end
section
variable {K : PySem.W.Frag} {Av : Addr → Prop} {H H' : Hp} {S : Addr} {o : HO} {P : Program} {w w' : World} {h : Heap} {f : Int → Bool} {n : Nat}
theorem set_data (hr : HOk P w' H h) (hS : H S = some (SetIO w S f n)) {φ : Heap → Prop} (e : H S = some (.ext φ)) (d : φ h → ∃ ob, h.get? S = some ob ∧ ∀ es ep t, ob.data ≠ .set es ep t) : False := by
  obtain ⟨ob, h1, h2⟩ := d (hr S _ e).1
  obtain ⟨o2, _, _, _, g1, g2, g3, _⟩ := (hr S _ hS).1
  rw [h1] at g1
  cases g1
  exact h2 _ _ _ g3
theorem ObjA.off (hr : HOk P w' H h) (hS : H S = some (SetIO w S f n)) {q : OKd} {v : V} {ns : List Str} {ws : List V} (x : ObjA K Av H q v ns ws) : ObjA K (fun a => Av a ∨ a = S) H q v ns ws := by
  have n1 : ∀ {a : Addr} {o : HO}, ¬ Av a → H a = some o → (∀ φ, o ≠ .ext φ) → ¬ (Av a ∨ a = S) := fun {a o} nv e d z => z.elim nv fun z => by
    rw [z, hS] at e
    exact d _ (Option.some.inj e).symm
  cases q with
  | cau a dd => exact ⟨x.1, n1 x.2.1 x.2.2 (fun _ z => by cases z), x.2.2⟩
  | exv C => obtain ⟨a, dd, e, h1, h2, h3⟩ := x; exact ⟨a, dd, e, ⟨fun z => z.elim h1.1 fun z => by subst z; exact set_data hr hS h1.2 fun ⟨t1, y⟩ => ⟨_, y, fun _ _ _ z => by cases z⟩, h1.2⟩, fun z => z.elim h2 fun z => by subst z; exact set_data hr hS h3 fun ⟨mA, ⟨ob, es, ep, y, y2, _⟩, _⟩ => ⟨ob, y, fun _ _ _ z => by rw [y2] at z; cases z⟩, h3⟩
  | exn C => obtain ⟨a, e, h1⟩ := x; exact ⟨a, e, ⟨fun z => z.elim h1.1 fun z => by subst z; exact set_data hr hS h1.2 fun ⟨t1, y⟩ => ⟨_, y, fun _ _ _ z => by cases z⟩, h1.2⟩⟩
  | ins C => obtain ⟨a, dd, e, h1, h2, h3⟩ := x; exact ⟨a, dd, e, ⟨n1 h1.1 h1.2 (fun _ z => by cases z), h1.2⟩, n1 h2 h3 (fun _ z => by cases z), h3⟩
  | scr => obtain ⟨a, e, x⟩ := x; exact ⟨a, e, x.imp (fun ⟨nv, o, x⟩ => ⟨n1 nv x (fun _ z => by cases z), o, x⟩) id⟩
  | dct ks => obtain ⟨a, e, nv, x⟩ := x; exact ⟨a, e, n1 nv x (fun _ z => by cases z), x⟩
  | tpl => obtain ⟨a, o, e, nv, d, x⟩ := x; exact ⟨a, o, e, n1 nv x (fun _ z => by cases z), d, x⟩
  | dcn ks =>
    obtain ⟨a, T, e, e2, l, nv, x⟩ := x
    exact ⟨a, T, e, e2, l, fun z => z.elim nv fun z => by subst z; exact set_data hr hS x fun ⟨_, _, _, ob, es, ep, y, _, y2, _⟩ => ⟨ob, y, fun _ _ _ z => by rw [y2] at z; cases z⟩, x⟩
mutual
theorem den_offS (hr : HOk P w' H h) (hS : H S = some (SetIO w S f n)) : ∀ (d : D) (v : V), Den K Av H v d → Den K (fun a => Av a ∨ a = S) H v d
  | .obj q ns ds, v, x => by
    simp only [Den] at x ⊢
    obtain ⟨ws, l, o, r⟩ := x
    exact ⟨ws, l, ObjA.off hr hS o, denA_offS hr hS ds ws r⟩
  | .non, _, x => by simpa only [Den] using x
  | .bl _, _, x => by simpa only [Den] using x
  | .int _, _, x => by simpa only [Den] using x
  | .str _, _, x => by simpa only [Den] using x
  | .ref _, _, x => by simpa only [Den] using x
  | .ty _, _, x => by simpa only [Den] using x
  | .tup ds, v, x => by
    simp only [Den] at x ⊢
    obtain ⟨a, vs, e, q, t, r⟩ := x
    refine ⟨a, vs, e, q, t.imp (fun y => ⟨fun z => z.elim y.1 fun e => ?_, y.2⟩) id, denA_offS hr hS ds vs r⟩
    rcases y.2 with y | ⟨o, y⟩ <;> rw [e, hS] at y <;> cases y
  | .lst ds, v, x => by
    simp only [Den] at x ⊢
    obtain ⟨a, vs, e, q, t, r⟩ := x
    refine ⟨a, vs, e, q, fun z => z.elim t fun e => ?_, denA_offS hr hS ds vs r⟩
    rw [e, hS] at q
    cases q
theorem denA_offS (hr : HOk P w' H h) (hS : H S = some (SetIO w S f n)) : ∀ (ds : List D) (vs : List V), DenA K Av H vs ds → DenA K (fun a => Av a ∨ a = S) H vs ds
  | [], _, x => by simpa only [DenA] using x
  | d :: ds, vs, x => by
    simp only [DenA] at x ⊢
    obtain ⟨v, r, e, h1, h2⟩ := x
    exact ⟨v, r, e, den_offS hr hS d v h1, denA_offS hr hS ds r h2⟩
end
theorem DenE.offS {I : HI} {b : B0} {σ : L2.St} {env : DEnv} (x : DenE K I b σ H env) (hr : HOk P w' H h) (hS : H S = some (SetIO w S f n)) (k : Kp (fun a => I.own a ∨ a = S) H H') (e : Ext I b.H0 H') : DenE K I b σ H' env := by
  obtain ⟨oa, h1, h2, h3, h4⟩ := x.slots
  have kk : Kp (fun a => AvOf I env oa a ∨ a = S) H H' := k.weak fun a z => z.imp (fun z => .inl z) id
  refine ⟨x.len, e, oa, fun i xs q => ?_, h2, fun i d q => ?_, fun p hp => Den.weak (fun a z => .inl z) _ _ (Den.keep kk _ _ (den_offS hr hS _ _ (h4 p hp)))⟩
  · obtain ⟨⟨vs, e1, e2, e3⟩, e4, e5⟩ := h1 i xs q
    refine ⟨⟨vs, e1, k _ _ (fun z => z.elim (fun z => e5 (I.sub _ z)) fun z => by rw [z, hS] at e2; cases e2) e2, DenA.weak (fun a z => .inl z) _ _ (DenA.keep kk xs vs (denA_offS hr hS _ _ e3))⟩, e4, e5⟩
  · obtain ⟨v, e1, e2⟩ := h3 i d q
    exact ⟨v, e1, Den.weak (fun a z => .inl z) _ _ (Den.keep kk d v (den_offS hr hS _ _ e2))⟩
end
section
variable {X : Cx} {g : Gx} {wi wj : TI} {gt gt2 : TG} {tt tj : TT} {te : TE} {vs ws : List Nat} {tid tid2 : TID} {gd gj : TGD} {td tjd : TTD} {ed : TED}
structure Sofar (X : Cx) (I : HI) (S : Addr) (H1 H : Hp) (acc : List Int) : Prop where
  at_ : H S = some (setOf X.w S (canon acc))
  kp : Kp I.own H1 H
  ok : I.ok H
theorem sz_si2 (hi : SI X.K g wi tid) (hg : SG X.K g.nox gt gd) (hw : GW gt vs) (ht : ST X.K g.nox tt td) (hj : SI X.K g.nox wj tid2) (hg2 : SG X.K g.nox gt2 gj) (hw2 : GW gt2 ws) (ht2 : ST X.K g.nox tj tjd) (he : SE X.K g.nox te ed) :
    Zo.SZN X g (tSa2 (fun S => setOf X.w S (canon [])) (AdI X) wi gt tt wj gt2 tj te vs ws) (zSi2 tid gd td tid2 gj tjd ed vs ws) := fun b σ H env Qd Q hd xl hq k => by
  refine hi b σ H (frz env) _ _ hd.frz xl hq fun J H1 hws ds hd1 e1 it0 q => ?_
  intro S hS
  have hE : DenE X.K g.I ⟨H1, hws⟩ (wipe σ vs) H1 (wipeD (frz env) vs) := (hd1.rebase (noOwn_frz env)).wiped vs
  have hno := noOwn_wipe (noOwn_frz env) vs
  have nS : ¬ g.I.own S := HI.nown e1.2 hS
  let Z : List D → List Int → Prop := fun xs acc => ziD2 gd td tid2 gj tjd ed ws (wipeD (frz env) vs) xs acc Qd
  refine ⟨fun i m H' => m = ds.length - i ∧ i ≤ ds.length ∧ ∃ acc, Sofar X g.I S H1 H' acc ∧ Z (ds.drop i) acc,
    ⟨ds.length, by simp, Nat.zero_le _, [], ⟨upd_same, Kp.new hS, (Ext.new e1.2 hS).2⟩, by simpa using q⟩, ?_⟩
  rintro i m H' ⟨rfl, hi', acc, ⟨hM, kp', ok⟩, q'⟩
  have eH : Ext g.I H1 H' := ⟨kp', ok⟩
  have hE' := hE.mono eH
  obtain ⟨oa, h1, h2, h3, h4⟩ := id hE'.slots
  have IT := it0 g.I.own H' (fun p hp => Den.weak (fun a z => .inl z) _ _ (h4 p hp)) (fun a z => g.I.dom H' a ok (g.I.sub a z))
  by_cases hlt : i < ds.length
  · refine .inr ⟨(IT.1 i hlt).1, fun H2 => ∃ acc, Sofar X g.I S H1 H2 acc ∧ Z (ds.drop (i + 1)) acc, fun H2 h => ⟨ds.length - (i + 1), by omega, rfl, hlt, h⟩, fun x H2 y => ?_⟩
    obtain ⟨kn, d, hd2, dn⟩ := (IT.1 i hlt).2 x H2 y
    have e2 : Ext g.I H' H2 := .ofNew ok kn
    have q2 : Z (d :: ds.drop (i + 1)) acc := by
      rw [List.drop_eq_getElem_cons hlt] at q'
      have : d = ds[i] := by
        rw [List.getElem?_eq_getElem hlt] at hd2
        exact (Option.some.inj hd2).symm
      rw [this]; exact q'
    have held := (hE'.mono e2).hold dn (.inl hno)
    have step := hw x (wipe σ vs) H2 _ (hg ⟨H1, hws⟩ (wipe σ vs) H2 _ x d _ (fun σ2 H3 => tt σ2 H3 fun b H4 => if b = true then wj σ2 H4 (fun J2 H5 => (∃ (P : Program) (w : World) (h : Heap), HOk P w H5 h) →
        ∃ U : Nat → Nat → Hp → Prop, (∃ m, U 0 m H5) ∧ ∀ j k H6, U j k H6 → (J2.stop j H6 ∧ ∃ acc, Sofar X g.I S H1 H6 acc ∧ Z (ds.drop (i + 1)) acc) ∨ (J2.go j H6 ∧ ∃ Ny : Hp → Prop, (∀ H', Ny H' → ∃ k', k' < k ∧ U (j + 1) k' H') ∧
          ∀ y H', J2.yld j H6 y H' → gt2 y (wipe σ2 ws) H' fun σ7 H7 => wipe σ7 ws = wipe σ2 ws ∧ tj σ7 H7 fun b H8 => if b = true then te σ7 H8 fun z H9 => AdI X S z H9 Ny else Ny H8))
        else ∃ acc, Sofar X g.I S H1 H4 acc ∧ Z (ds.drop (i + 1)) acc) held q2 fun σ3 H3 env3 hd3 e3 q3 => ?_)
    · rw [wipe_idem vs] at step
      exact step
    · refine ht ⟨H1, hws⟩ σ3 H3 env3 _ _ hd3 XL.nox q3 fun c H4 e4 q4 => ?_
      have x4 : Ext g.I H' H4 := e2.trans (e3.trans e4)
      have S4 : H4 S = some (setOf X.w S (canon acc)) := x4.1 S _ nS hM
      cases c with
      | false =>
        rw [if_neg Bool.false_ne_true] at q4 ⊢
        exact ⟨acc, ⟨S4, kp'.trans x4.1, x4.2⟩, q4⟩
      | true =>
        rw [if_pos rfl] at q4 ⊢
        refine hj ⟨H1, hws⟩ σ3 H4 env3 _ _ (hd3.mono e4) XL.nox q4 fun J2 H5 hw5 es hd5 e5 it2 q5 ⟨_, _, _, real⟩ => ?_
        have S5 : H5 S = some (setOf X.w S (canon acc)) := e5.1 S _ nS S4
        have hE5 := hd5.wiped ws
        refine ⟨fun j k H6 => k = es.length - j ∧ j ≤ es.length ∧ ∃ acc2, Sofar X g.I S H1 H6 acc2 ∧ Kp (fun a => g.I.own a ∨ a = S) H5 H6 ∧ zjD gj tjd ed (wipeD env3 ws) (es.drop j) acc2 (Z (ds.drop (i + 1))),
          ⟨es.length, by simp, Nat.zero_le _, acc, ⟨S5, kp'.trans (x4.1.trans e5.1), e5.2⟩, Kp.refl, by simpa using q5⟩, ?_⟩
        rintro j k H6 ⟨rfl, hj', acc2, ⟨hM6, kp6, ok6⟩, k56, q6⟩
        have hE6 := DenE.offS hE5 real S5 k56 ⟨kp6, ok6⟩
        obtain ⟨oa6, a1, a2, a3, a4⟩ := id hE6.slots
        have IT2 := it2 g.I.own H6 (fun p hp => Den.weak (fun a z => .inl z) _ _ (a4 p (List.mem_append_left _ hp))) (fun a z => g.I.dom H6 a ok6 (g.I.sub a z))
        by_cases hlt2 : j < es.length
        · refine .inr ⟨(IT2.1 j hlt2).1, fun H7 => ∃ acc2, Sofar X g.I S H1 H7 acc2 ∧ Kp (fun a => g.I.own a ∨ a = S) H5 H7 ∧ zjD gj tjd ed (wipeD env3 ws) (es.drop (j + 1)) acc2 (Z (ds.drop (i + 1))), fun H7 h => ⟨es.length - (j + 1), by omega, rfl, hlt2, h⟩, fun y H7 y7 => ?_⟩
          obtain ⟨kn7, dy, hdy, dn7⟩ := (IT2.1 j hlt2).2 y H7 y7
          have e7 : Ext g.I H6 H7 := .ofNew ok6 kn7
          have q7 : zjD gj tjd ed (wipeD env3 ws) (dy :: es.drop (j + 1)) acc2 (Z (ds.drop (i + 1))) := by
            rw [List.drop_eq_getElem_cons hlt2] at q6
            have : dy = es[j] := by
              rw [List.getElem?_eq_getElem hlt2] at hdy
              exact (Option.some.inj hdy).symm
            rw [this]; exact q6
          obtain ⟨kp7, q7⟩ := q7
          have held7 := (hE6.mono e7).hold dn7 kp7
          have step7 := hw2 y (wipe σ3 ws) H7 _ (hg2 _ (wipe σ3 ws) H7 _ y dy _ (fun σ7 H8 => tj σ7 H8 fun b H9 => if b = true then te σ7 H9 fun z HA => AdI X S z HA fun HB => ∃ acc2, Sofar X g.I S H1 HB acc2 ∧ Kp (fun a => g.I.own a ∨ a = S) H5 HB ∧ zjD gj tjd ed (wipeD env3 ws) (es.drop (j + 1)) acc2 (Z (ds.drop (i + 1)))
            else ∃ acc2, Sofar X g.I S H1 H9 acc2 ∧ Kp (fun a => g.I.own a ∨ a = S) H5 H9 ∧ zjD gj tjd ed (wipeD env3 ws) (es.drop (j + 1)) acc2 (Z (ds.drop (i + 1)))) held7 q7 fun σ8 H8 env8 hd8 e8 q8 => ?_)
          · rw [wipe_idem ws] at step7
            exact step7
          · refine ht2 _ σ8 H8 env8 _ _ hd8 XL.nox q8 fun c H9 e9 q9 => ?_
            have x9 : Ext g.I H6 H9 := e7.trans (e8.trans e9)
            have S9 : H9 S = some (setOf X.w S (canon acc2)) := x9.1 S _ nS hM6
            cases c with
            | false =>
              rw [if_neg Bool.false_ne_true] at q9 ⊢
              exact ⟨acc2, ⟨S9, kp6.trans x9.1, x9.2⟩, k56.trans (x9.1.weak fun a z => .inl z), q9⟩
            | true =>
              rw [if_pos rfl] at q9 ⊢
              refine he _ σ8 H9 env8 _ _ (hd8.mono e9) XL.nox q9 fun yv yd HA eA dnA ⟨n, ey, few, qA⟩ => ?_
              subst ey
              simp only [Den] at dnA
              subst dnA
              have SA : HA S = some (setOf X.w S (canon acc2)) := eA.1 S _ nS S9
              have kA : Kp g.I.own H1 HA := kp6.trans (x9.1.trans eA.1)
              have kA5 : Kp (fun a => g.I.own a ∨ a = S) H5 HA := k56.trans ((x9.1.trans eA.1).weak fun a z => .inl z)
              have cc : canon (canon acc2) = canon acc2 := canon_up (up_canon acc2)
              refine ⟨n, canon acc2, rfl, by rw [cc]; exact SA, few, n :: acc2, ⟨?_, fun a o nw e => ?_, ?_⟩, fun a o nw e => ?_, qA⟩
              · rw [upd_same, canon, canon, cc]
              · rw [upd_ne (ne_of_none e hS)]
                exact kA a o nw e
              · refine g.I.loc HA _ (fun a f => upd_ne (fun z => ?_)) eA.2
                rw [z] at f
                exact g.I.dom H1 S e1.2 f hS
              · rw [upd_ne fun z => nw (.inr z)]
                exact kA5 a o nw e
        · have ej : j = es.length := by omega
          subst ej
          rw [List.drop_length] at q6
          exact .inl ⟨IT2.2, acc2, ⟨hM6, kp6, ok6⟩, q6⟩
  · have ei : i = ds.length := by omega
    subst ei
    rw [List.drop_length] at q'
    exact .inl ⟨IT.2, k S _ H' (e1.trans eH) hM nS (up_canon _) q'⟩
end
end Tf
namespace Tf
open PySem PySem.Spec PyProof.Rows L2 Dl Ns Zs Si
section
variable {X : Cx} {g : Gx} {elt ta ia tb ib : Expr} {fa fb : List Expr} {scope : Scope} {own : List (Str × Nat)} {ws : List Nat} {pos : Pos} {gt gt2 : TG} {tid tid2 : TID} {gd gj : TGD} {td tj : TTD} {ed : TED}
theorem n_si2 (hc : X.calm = true) (hN : X.N.Nodup) (hi : PID X g ta ia tid) (ok : BlkOk X.N X.env.scope scope own) (sub : ∀ i ∈ ws, i ∈ own.map (·.2))
    (hg : ∀ (s : Shared) (H : Hp) (C : Addr) (cl : List (Str × Addr)) (fp : List Addr), PG (X.blk s H scope (compEnvC scope cl C X.env) fp) ta gt) (sg : SG X.K g.nox gt gd) (gw : GW gt (own.map (·.2))) (ht : ST X.K g.nox (wBT X scope fa) td)
    (hj : SI X.K g.nox (wBI X scope tb ib) tid2)
    (hg2 : ∀ (s : Shared) (H : Hp) (C : Addr) (cl : List (Str × Addr)) (fp : List Addr), PG (X.blk s H scope (compEnvC scope cl C X.env) fp) tb gt2) (sg2 : SG X.K g.nox gt2 gj) (gw2 : GW gt2 ws) (ht2 : ST X.K g.nox (wBT X scope fb) tj)
    (he : SE X.K g.nox (wBE X scope elt) ed) (hs : ∀ x, foldedSetIterable ia X.env x = pure x := by intro _; rfl) (hs2 : ∀ e x, foldedSetIterable ib e x = pure x := by intro _ _; rfl) :
    Zo.PZN X g (.SetComp elt [⟨ta, ia, fa, 0⟩, ⟨tb, ib, fb, 0⟩] scope pos) (zSi2 tid gd td tid2 gj tj ed (own.map (·.2)) ws) :=
  Zo.pzn_of (pe_sa2 adds_I hc hN pi_w ok sub hg (fun _ _ _ _ _ => pt_blk) (fun _ _ _ _ _ => pi_blk) hg2 (fun _ _ _ _ _ => pt_blk) (fun _ _ _ _ _ => pe_blk) hs hs2) (sz_si2 hi sg gw ht hj sg2 gw2 ht2 he)
end
end Tf

namespace Gd
open PySem PySem.Spec PyProof.Rows L2 Dl He
section
variable {X : Cx} {g : Gx} {a b : Expr} {tb : TED} {x : Str} {kvs : List (Str × Str)} {p px apos cpos pos : Pos}
end
end Gd

namespace Gd
open PySem PySem.Spec PyProof.Rows L2 Dl
section
variable {X : Cx} {g : Gx} {x : Str} {p : Pos} {st : Stmt}
theorem d_gstr {z : Str} (hg : Gl X x) (hm : ∃ t, X.mg x = some (.str z t)) (hd : (x == ("__debug__" : Str)) = false := by decide) : PED X g (.Name x p) (dC (.str z)) := by
  obtain ⟨t, hm⟩ := hm
  exact ped_of (pe_glob (v := .str z) hg hm ⟨t, rfl⟩ hd) (sd_c fun H => by simp only [Den])
def sDead : TSD := fun _ _ => False
theorem ds_dead : PSD X g st sDead := fun b σ H env Dd E hd xl h el => False.elim h
end
end Gd

namespace Fr
open PySem PySem.Spec PyProof.Rows L2 Dl In He Zs Ns
section
variable {X : Cx} {g : Gx} {e : Expr} {p pos tpos : Pos} {elts : List Expr} {kk : Nat} {td : TED}
end
end Fr

namespace Fr
open PySem PySem.Spec PyProof.Rows L2 Dl In He Zs Ns
section
variable {X : Cx} {g : Gx} {o e : Expr} {td ta tb : TED} {apos cpos p p2 q pos : Pos}
end
end Fr

namespace Fr
open PySem PySem.Spec PyProof.Rows L2 Dl Ns In
section
variable {X : Cx} {g : Gx} {c e a b : Expr} {t : TTD} {ta td : TED} {tb : TRD} {pos pos2 : Pos}
end
end Fr

namespace In
open PySem PySem.Spec PyProof.Rows L2 Dl
theorem insI_noXd {I : HI} {a d C : Addr} {fs : List (Str × V)} (h : I.noXd) : (insI I a d C fs).noXd := fun H ok dd xs e o => by
  obtain ⟨o1, ha, hd⟩ := ok
  rcases o with o | o
  · exact h H o1 dd xs e o
  · rcases o with rfl | rfl
    · rw [ha] at e; cases e
    · rw [hd] at e; cases e
end In

namespace Fr
open PySem PySem.Spec PyProof.Rows L2 Dl Ns In
section
variable {X : Cx} {g : Gx} {e : Expr} {td : TED} {pos p1 : Pos} {x : Str} {i : Nat}
end
end Fr

namespace Fm
open PySem PySem.Spec PyProof.Rows L2 Dl Ns In Fr
def trk (I : HI) (a : Addr) (vs : List V) : HI where
  own := fun x => I.own x ∨ x = a
  foot := fun x => I.foot x ∨ x = a
  ok := fun H => I.ok H ∧ H a = some (.lst vs)
  sub := fun x z => z.imp (I.sub x) id
  dom := fun H x h z => z.elim (fun z => I.dom H x h.1 z) fun z e => by rw [z, h.2] at e; cases e
  loc := fun H H' h ok => ⟨I.loc H H' (fun x f => h x (.inl f)) ok.1, by rw [h a (.inr rfl)]; exact ok.2⟩
abbrev ownA (I : HI) (a : Addr) : Addr → Prop := fun x => I.own x ∨ x = a
section
variable {K : PySem.W.Frag} {I : HI} {a : Addr} {i : Nat} {b : B0} {σ : L2.St} {H H' : Hp} {S : List D} {env : DEnv} {vs vs' : List V}
structure DenF (K : PySem.W.Frag) (I : HI) (a : Addr) (i : Nat) (b : B0) (σ : L2.St) (H : Hp) (S : List D) (env : DEnv) : Prop where
  nb : b.H0 a = none
  nf : ¬ I.foot a
  sl : env[i]? = some (.val (.ref a))
  ex : ∃ vs, vs.length = S.length ∧ DenE K (trk I a vs) ⟨b.H0, vs.zip S ++ b.hs⟩ σ H env
end
structure FEnds where
  nx : List D → DEnv → Prop
  rt : List D → D → Prop
  bk : List D → DEnv → Prop
  ct : List D → DEnv → Prop
  pl : DEnds
abbrev TSF := FEnds → List D → DEnv → Prop
structure EF (K : PySem.W.Frag) (g : Gx) (a : Addr) (i : Nat) (b : B0) (Dd : FEnds) (E : Ends) : Prop where
  nx : ∀ σ H S env, DenF K g.I a i b σ H S env → Dd.nx S env → E.nx σ H
  rt : ∀ σ v d H S env, DenF K g.I a i b σ H S env → Den K (ownA g.I a) H v d → Dd.rt S d → E.rt v H
  bk : ∀ σ H S env, DenF K g.I a i b σ H S env → Dd.bk S env → E.bk σ H
  ct : ∀ σ H S env, DenF K g.I a i b σ H S env → Dd.ct S env → E.ct σ H
  pl : EL K g b Dd.pl E
def PSF (X : Cx) (g : Gx) (a : Addr) (i : Nat) (st : Stmt) (td : TSF) : Prop :=
  ∀ (b : B0) (σ : L2.St) (H : Hp) (S : List D) (env : DEnv) (Dd : FEnds) (E : Ends), DenF X.K g.I a i b σ H S env → XL X.K g b → td Dd S env → EF X.K g a i b Dd E → wS X st E σ H
def PSsF (X : Cx) (g : Gx) (a : Addr) (i : Nat) (sts : List Stmt) (td : TSF) : Prop :=
  ∀ (b : B0) (σ : L2.St) (H : Hp) (S : List D) (env : DEnv) (Dd : FEnds) (E : Ends), DenF X.K g.I a i b σ H S env → XL X.K g b → td Dd S env → EF X.K g a i b Dd E → wSs X sts E σ H
abbrev tr (g : Gx) (a : Addr) (vs : List V) : Gx := ⟨trk g.I a vs, fun _ _ => False, g.W⟩
section
variable {X : Cx} {g : Gx} {a : Addr} {i j : Nat} {e c : Expr} {es : List Expr} {st : Stmt} {rest sts sts2 : List Stmt} {td : TED} {tt : TTD} {t u : TSF} {ts : TSD} {tas : TAD} {pos pos' p : Pos} {x : Str}
def fNext : TSF := fun Dd S env => Dd.nx S env
def fSeq (t u : TSF) : TSF := fun Dd S env => t { Dd with nx := u Dd, pl := { Dd.pl with nx := fun _ => False } } S env
def fDrop (i : Nat) (ts : TSD) : TSF := fun Dd S env => ts Dd.pl (env.set i (.val (.lst S)))
def fLift (a : Addr) (i : Nat) (ts : TSD) : TSF := fun Dd S env => ts ⟨fun e => e[i]? = some (.val (.ref a)) ∧ Dd.nx S e, fun _ => False, fun e => e[i]? = some (.val (.ref a)) ∧ Dd.bk S e, fun e => e[i]? = some (.val (.ref a)) ∧ Dd.ct S e, fun _ => False⟩ env
def fIf (i : Nat) (tt : TTD) (t u : TSF) : TSF := fun Dd S env => tt (env.set i (.val (.lst S))) fun c => if c = true then t Dd S env else u Dd S env
end
end Fm

namespace Fm
open PySem PySem.Spec PyProof.Rows L2 Dl Ns In Fr
section
variable {X : Cx} {g : Gx} {a : Addr} {i : Nat} {tg it : Expr} {body : List Stmt} {pos : Pos} {tid : TID} {gd : TGD} {tb : TSF}
def forF (gd : TGD) (tb : TSF) (a : Addr) (i : Nat) (Dd : FEnds) : List D → List D → DEnv → Prop
  | [], S, env => Dd.nx S env
  | x :: xs, S, env => gd x env fun env2 => env2[i]? = some (.val (.ref a)) ∧ tb ⟨forF gd tb a i Dd xs, Dd.rt, Dd.nx, forF gd tb a i Dd xs, { Dd.pl with nx := fun _ => False, bk := fun _ => False, ct := fun _ => False }⟩ S env2
def fFor (tid : TID) (gd : TGD) (tb : TSF) (a : Addr) (i : Nat) : TSF := fun Dd S env => tid env fun ds => forF gd tb a i Dd ds S env
theorem reholdM {K : PySem.W.Frag} {I : HI} {H0 : Hp} {hs hs' : List (V × D)} {σ : L2.St} {H : Hp} {env : DEnv} (h : DenE K I ⟨H0, hs⟩ σ H env) (s : ∀ p ∈ hs', p ∈ hs) : DenE K I ⟨H0, hs'⟩ σ H env := by
  obtain ⟨oa, h1, h2, h3, h4⟩ := h.slots
  exact ⟨h.len, h.ext, oa, h1, h2, h3, fun p hp => h4 p (s p hp)⟩
end
abbrev TEF := List D → DEnv → (List D → D → Prop) → Prop
section
variable {X : Cx} {g : Gx} {a : Addr} {i jj : Nat} {e : Expr} {es : List Expr} {tas : TAD} {pos pos' p : Pos} {x : Str}
theorem noOwn_val {d : D} : ∀ {env : DEnv} {j : Nat}, noOwn env = true → noOwn (env.set j (.val d)) = true
  | [], _, h => h
  | .val _ :: r, 0, h => by simpa [noOwn] using h
  | .no :: r, 0, h => by simpa [noOwn] using h
  | .own _ :: _, _, h => by simp [noOwn] at h
  | .val _ :: r, j + 1, h => by
    rw [List.set_cons_succ]
    simp only [noOwn] at h ⊢
    exact noOwn_val h
  | .no :: r, j + 1, h => by
    rw [List.set_cons_succ]
    simp only [noOwn] at h ⊢
    exact noOwn_val h
end
end Fm

namespace Fm
open PySem PySem.Spec PyProof.Rows L2 Dl Ns In Fr
section
variable {K : PySem.W.Frag} {I : HI} {b : B0} {σ : L2.St} {H : Hp} {env : DEnv} {i : Nat} {S : List D}
end
section
variable {X : Cx} {g : Gx} {i : Nat} {sts : List Stmt} {td : Addr → TSF}
def FE (i : Nat) (Dd : DEnds) : FEnds := ⟨fun S env => Dd.nx (env.set i (.val (.lst S))), fun _ d => Dd.rt d, fun S env => Dd.bk (env.set i (.val (.lst S))), fun S env => Dd.ct (env.set i (.val (.lst S))), Dd⟩
end
section
variable {P : Program} {w : World} {K : PySem.W.Frag} {mg : Str → Option Value} {base : Heap}
end
end Fm

namespace Fm
open PySem PySem.Spec PyProof.Rows L2 Dl Ns In Fr
section
variable {X : Cx} {g : Gx} {e : Expr} {es : List Expr} {tas : TAD} {p pos : Pos} {x : Str}
end
end Fm

namespace Fm
open PySem PySem.Spec PyProof.Rows L2 Dl Ns In Fr
section
variable {X : Cx} {g : Gx} {e : Expr} {td : TED} {pos p2 : Pos} {lo hi : Option Expr} {tl th : TOD}
def fSlF (td : TED) (tl th : TOD) : TFD := fun env Q => td env fun x => tl env fun lo => th env fun hi => ∃ xs, x = .lst xs ∧ Q (cutL xs lo hi)
theorem pf_sl (he : PED X g e td) (hl : Dl.POD X g lo tl) (hu : Dl.POD X g hi th) : PFD X g (.Subscript e (.Slice lo hi none p2) pos) (fSlF td tl th) := fun b σ H env Qd Q hd xl h k => fun pins s J => by
  refine (pe_slice (sl_list.or (sl_tupA.or sl_str)) pe_w po_w po_w).run pins s σ H Q J ?_
  refine he b σ H env _ _ hd xl h fun v d H1 e1 dn h1 => hl b σ H1 env _ _ (hd.mono e1) xl h1 fun lo' H2 e2 h2 => hu b σ H2 env _ _ (hd.mono (e1.trans e2)) xl h2 fun hi' H3 e3 ⟨xs, ed, q⟩ => ?_
  subst ed
  replace dn := Den.keep (e2.trans e3).1 _ _ dn
  have ok := e3.2
  have ee := e1.trans (e2.trans e3)
  simp only [Den] at dn
  obtain ⟨a, vs, rfl, s1, n1, r1⟩ := dn
  refine .inl ⟨a, vs, rfl, SqL.of s1, fun p hp => k p (cutV vs lo' hi') (cutL xs lo' hi') _ (ee.back hp) (ee.trans (.new ok hp)) upd_same (new_lstF hp (cut_den r1)) q⟩
end
section
variable {X : Cx} {g : Gx} {elt tg iter : Expr} {ifs : List Expr} {scope : Scope} {own : List (Str × Nat)} {y : Str} {py pos spos : Pos} {i : Nat} {gt : TG} {tid : TID} {gd : TGD} {tt : TTD} {ed : TED}
end
end Fm

namespace Fl
open PySem PySem.Spec PyProof.Rows L2 Dl Ns In Fr Zs
abbrev NN := List (List Int)
def Cells (H : Hp) (as : List Addr) (S : NN) : Prop := as.length = S.length ∧ ∀ (j : Nat) (a : Addr) (ns : List Int), as[j]? = some a → S[j]? = some ns → H a = some (.lst (ns.map V.int))
theorem Cells.at {H : Hp} {as : List Addr} {S : NN} (h : Cells H as S) {x : Addr} (hx : x ∈ as) : ∃ ns : List Int, H x = some (.lst (ns.map V.int)) := by
  obtain ⟨j, hj, e⟩ := List.getElem_of_mem hx
  have hj2 : j < S.length := h.1 ▸ hj
  exact ⟨S[j], h.2 j x _ (by rw [List.getElem?_eq_getElem hj, e]) (List.getElem?_eq_getElem hj2)⟩
def trk (I : HI) (as : List Addr) (S : NN) : HI where
  own := fun x => I.own x ∨ x ∈ as
  foot := fun x => I.foot x ∨ x ∈ as
  ok := fun H => I.ok H ∧ Cells H as S
  sub := fun x z => z.imp (I.sub x) id
  dom := fun H x h z => z.elim (fun z => I.dom H x h.1 z) fun z e => by
    obtain ⟨ns, e2⟩ := h.2.at z
    rw [e2] at e
    cases e
  loc := fun H H' h ok => ⟨I.loc H H' (fun x f => h x (.inl f)) ok.1, ok.2.1, fun j a ns h1 h2 => by
    rw [h a (.inr (List.mem_of_getElem? h1))]
    exact ok.2.2 j a ns h1 h2⟩
abbrev refsD (as : List Addr) : Slot := .own (as.map D.ref)
abbrev lstsD (S : NN) : Slot := .own (S.map fun ns => D.lst (ns.map D.int))
section
variable {K : PySem.W.Frag} {I : HI} {as : List Addr} {i : Nat} {b : B0} {σ : L2.St} {H H' : Hp} {S S' : NN} {env : DEnv}
structure DenF (K : PySem.W.Frag) (I : HI) (as : List Addr) (i : Nat) (b : B0) (σ : L2.St) (H : Hp) (S : NN) (env : DEnv) : Prop where
  nb : ∀ a ∈ as, b.H0 a = none
  nf : ∀ a ∈ as, ¬ I.foot a
  nd : as.Nodup
  sl : env[i]? = some (refsD as)
  hd : DenE K (trk I as S) b σ H env
end
structure FEnds where
  nx : NN → DEnv → Prop
  bk : NN → DEnv → Prop
  ct : NN → DEnv → Prop
  pl : DEnds
abbrev TSF := FEnds → NN → DEnv → Prop
structure EF (K : PySem.W.Frag) (g : Gx) (as : List Addr) (i : Nat) (b : B0) (Dd : FEnds) (E : Ends) : Prop where
  nx : ∀ σ H S env, DenF K g.I as i b σ H S env → Dd.nx S env → E.nx σ H
  bk : ∀ σ H S env, DenF K g.I as i b σ H S env → Dd.bk S env → E.bk σ H
  ct : ∀ σ H S env, DenF K g.I as i b σ H S env → Dd.ct S env → E.ct σ H
  pl : EL K g b Dd.pl E
def PSF (X : Cx) (g : Gx) (as : List Addr) (i : Nat) (st : Stmt) (td : TSF) : Prop :=
  ∀ (b : B0) (σ : L2.St) (H : Hp) (S : NN) (env : DEnv) (Dd : FEnds) (E : Ends), DenF X.K g.I as i b σ H S env → XL X.K g b → td Dd S env → EF X.K g as i b Dd E → wS X st E σ H
def PSsF (X : Cx) (g : Gx) (as : List Addr) (i : Nat) (sts : List Stmt) (td : TSF) : Prop :=
  ∀ (b : B0) (σ : L2.St) (H : Hp) (S : NN) (env : DEnv) (Dd : FEnds) (E : Ends), DenF X.K g.I as i b σ H S env → XL X.K g b → td Dd S env → EF X.K g as i b Dd E → wSs X sts E σ H
abbrev tr (g : Gx) (as : List Addr) (S : NN) : Gx := ⟨trk g.I as S, fun _ _ => False, g.W⟩
section
variable {X : Cx} {g : Gx} {as : List Addr} {i j : Nat} {e c : Expr} {st : Stmt} {rest sts sts2 : List Stmt} {td : TED} {tt : TTD} {t u : TSF} {ts : TSD} {pos pos' p : Pos} {x : Str}
def fNext : TSF := fun Dd S env => Dd.nx S env
def fSeq (t u : TSF) : TSF := fun Dd S env => t { Dd with nx := u Dd, pl := { Dd.pl with nx := fun _ => False } } S env
def fDrop (i : Nat) (ts : TSD) : TSF := fun Dd S env => ts Dd.pl (env.set i (lstsD S))
def fLift (as : List Addr) (i : Nat) (ts : TSD) : TSF := fun Dd S env => ts ⟨fun e => e[i]? = some (refsD as) ∧ Dd.nx S e, fun _ => False, fun e => e[i]? = some (refsD as) ∧ Dd.bk S e, fun e => e[i]? = some (refsD as) ∧ Dd.ct S e, fun _ => False⟩ env
def fIf (i : Nat) (tt : TTD) (t u : TSF) : TSF := fun Dd S env => tt (env.set i (lstsD S)) fun c => if c = true then t Dd S env else u Dd S env
end
end Fl

namespace Fl
open PySem PySem.Spec PyProof.Rows L2 Dl Ns In Fr Zs
open Fm (reholdM)
section
variable {X : Cx} {g : Gx} {as : List Addr} {i : Nat} {tg it : Expr} {body : List Stmt} {pos : Pos} {tid : TID} {gd : TGD} {tb : TSF}
def forF (gd : TGD) (tb : TSF) (as : List Addr) (i : Nat) (Dd : FEnds) : List D → NN → DEnv → Prop
  | [], S, env => Dd.nx S env
  | x :: xs, S, env => gd x env fun env2 => env2[i]? = some (refsD as) ∧ tb ⟨forF gd tb as i Dd xs, Dd.nx, forF gd tb as i Dd xs, { Dd.pl with nx := fun _ => False, bk := fun _ => False, ct := fun _ => False }⟩ S env2
def fFor (tid : TID) (gd : TGD) (tb : TSF) (as : List Addr) (i : Nat) : TSF := fun Dd S env => tid env fun ds => forF gd tb as i Dd ds S env
end
section
variable {X : Cx} {g : Gx} {as : List Addr} {i : Nat} {e ke : Expr} {td tk : TED} {pos pos' p1 cpos apos : Pos} {x : Str} {K : PySem.W.Frag} {I : HI} {H : Hp}
def push (S : NN) (k : Nat) (n : Int) : NN := S.set k ((S.getD k []) ++ [n])
end
end Fl

namespace Fl
open PySem PySem.Spec PyProof.Rows L2 Dl Ns In Fr Zs
section
variable {K : PySem.W.Frag} {I : HI} {b : B0} {σ : L2.St} {H H' : Hp} {env : DEnv} {i : Nat} {p : Addr} {as : List Addr} {S : NN} {Av : Addr → Prop}
end
section
variable {X : Cx} {g : Gx} {i : Nat} {sts : List Stmt} {td : List Addr → TSF} {x : Str} {pos pos' p1 : Pos} {elt tg iter : Expr} {ifs : List Expr} {scope : Scope} {own : List (Str × Nat)} {gt : TG} {tid : TID} {gd : TGD} {tt : TTD} {ed : TED}
def FE (i : Nat) (Dd : DEnds) : FEnds := ⟨fun S env => Dd.nx (env.set i (lstsD S)), fun S env => Dd.bk (env.set i (lstsD S)), fun S env => Dd.ct (env.set i (lstsD S)), Dd⟩
end
end Fl

namespace Fp
open PySem PySem.Spec PyProof.Rows L2 Dl Ns In Fr Zs
def atom : D → Bool
  | .int _ => true | .bl _ => true | .non => true | .str _ => true | _ => false
def vA : D → V
  | .int i => .int i | .bl b => .bl b | .str x => .str x | _ => .non
section
variable {K : PySem.W.Frag} {Av : Addr → Prop} {H H' : Hp}
end
abbrev LL := List (List D)
inductive It where
  | made (k : Nat) | dat (d : D)
abbrev StP := LL × List It
def itD (S : LL) : It → D
  | .made k => .lst (S.getD k [])
  | .dat d => d
abbrev items (T : StP) : List D := T.2.map (itD T.1)
def Cells (H : Hp) (as : List Addr) (S : LL) : Prop := as.length = S.length ∧ ∀ (j : Nat) (a : Addr) (ds : List D), as[j]? = some a → S[j]? = some ds → (∀ d ∈ ds, atom d = true) ∧ H a = some (.lst (ds.map vA))
def ItV (K : PySem.W.Frag) (Av : Addr → Prop) (H : Hp) (as : List Addr) : V → It → Prop
  | w, .made k => ∃ a, as[k]? = some a ∧ w = .ref a
  | w, .dat d => Den K Av H w d
def Outer (K : PySem.W.Frag) (Av : Addr → Prop) (H : Hp) (as : List Addr) : List V → List It → Prop
  | ws, [] => ws = []
  | ws, c :: cs => ∃ w r, ws = w :: r ∧ ItV K Av H as w c ∧ Outer K Av H as r cs
section
variable {K : PySem.W.Frag} {Av : Addr → Prop} {H H' : Hp} {as : List Addr} {S : LL}
end
def trk (I : HI) (as : List Addr) : HI where
  own := fun x => I.own x ∨ x ∈ as
  foot := fun x => I.foot x ∨ x ∈ as
  ok := fun H => I.ok H ∧ ∀ a ∈ as, H a ≠ none
  sub := fun x z => z.imp (I.sub x) id
  dom := fun H x h z => z.elim (fun z => I.dom H x h.1 z) fun z => h.2 x z
  loc := fun H H' h ok => ⟨I.loc H H' (fun x f => h x (.inl f)) ok.1, fun a ha => by rw [h a (.inr ha)]; exact ok.2 a ha⟩
abbrev ownP (I : HI) (a0 : Addr) (as : List Addr) : Addr → Prop := fun x => I.own x ∨ x ∈ a0 :: as
structure DenP (K : PySem.W.Frag) (I : HI) (a0 : Addr) (as : List Addr) (i : Nat) (b : B0) (σ : L2.St) (H : Hp) (T : StP) (env : DEnv) : Prop where
  nb : ∀ a ∈ a0 :: as, b.H0 a = none
  nf : ∀ a ∈ a0 :: as, ¬ I.foot a
  nd : (a0 :: as).Nodup
  no : noOwn env = true
  ei : env[i]? = some .no
  sl : σ[i]? = some (some (.ref a0))
  hl : ∃ ws, H a0 = some (.lst ws) ∧ Outer K (ownP I a0 as) H as ws T.2
  c : Cells H as T.1
  hd : DenE K (trk I (a0 :: as)) b σ H env
section
variable {K : PySem.W.Frag} {I : HI} {a0 : Addr} {as : List Addr} {i j : Nat} {b : B0} {σ : L2.St} {H H' : Hp} {T T' : StP} {env : DEnv}
abbrev view (i : Nat) (T : StP) (env : DEnv) : DEnv := env.set i (.val (.lst (items T)))
end
end Fp

namespace Fp
open PySem PySem.Spec PyProof.Rows L2 Dl Ns In Fr Zs
structure FEnds where
  nx : StP → DEnv → Prop
  bk : StP → DEnv → Prop
  ct : StP → DEnv → Prop
  pl : DEnds
abbrev TSF := FEnds → StP → DEnv → Prop
structure EF (K : PySem.W.Frag) (g : Gx) (a0 : Addr) (as : List Addr) (i : Nat) (b : B0) (Dd : FEnds) (E : Ends) : Prop where
  nx : ∀ σ H T env, DenP K g.I a0 as i b σ H T env → Dd.nx T env → E.nx σ H
  bk : ∀ σ H T env, DenP K g.I a0 as i b σ H T env → Dd.bk T env → E.bk σ H
  ct : ∀ σ H T env, DenP K g.I a0 as i b σ H T env → Dd.ct T env → E.ct σ H
  pl : EL K g b Dd.pl E
def PSF (X : Cx) (g : Gx) (i : Nat) (st : Stmt) (td : TSF) : Prop :=
  ∀ (a0 : Addr) (as : List Addr) (b : B0) (σ : L2.St) (H : Hp) (T : StP) (env : DEnv) (Dd : FEnds) (E : Ends), DenP X.K g.I a0 as i b σ H T env → XL X.K g b → td Dd T env → EF X.K g a0 as i b Dd E → wS X st E σ H
def PSsF (X : Cx) (g : Gx) (i : Nat) (sts : List Stmt) (td : TSF) : Prop :=
  ∀ (a0 : Addr) (as : List Addr) (b : B0) (σ : L2.St) (H : Hp) (T : StP) (env : DEnv) (Dd : FEnds) (E : Ends), DenP X.K g.I a0 as i b σ H T env → XL X.K g b → td Dd T env → EF X.K g a0 as i b Dd E → wSs X sts E σ H
section
variable {X : Cx} {g : Gx} {i j : Nat} {e e1 e2 c ke : Expr} {st : Stmt} {rest sts sts2 : List Stmt} {td te tk : TED} {tf : TFD} {tt : TTD} {t u : TSF} {ts : TSD} {pos pos' p p1 cpos apos : Pos} {x : Str}
def fNext : TSF := fun Dd T env => Dd.nx T env
def fSeq (t u : TSF) : TSF := fun Dd T env => t { Dd with nx := u Dd, pl := { Dd.pl with nx := fun _ => False } } T env
def fDrop (i : Nat) (ts : TSD) : TSF := fun Dd T env => ts Dd.pl (view i T env)
def fIf (i : Nat) (tt : TTD) (t u : TSF) : TSF := fun Dd T env => tt (view i T env) fun c => if c = true then t Dd T env else u Dd T env
def fSet (i j : Nat) (td : TED) : TSF := fun Dd T env => td (view i T env) fun d => atom d = true ∧ j ≠ i ∧ Dd.nx T (env.set j (.val d))
theorem ixN_nat {n k : Nat} (h : k < n) : ixN n (k : Int) = some k := by
  unfold ixN
  simp
  omega
def fSetIx (i : Nat) (te tk : TED) : TSF := fun Dd T env => te (view i T env) fun d => tk (view i T env) fun z => ∃ k : Nat, z = .int k ∧ k < T.2.length ∧ Dd.nx (T.1, T.2.set k (.dat d)) env
end
section
variable {X : Cx} {g : Gx} {e k : Expr} {es : List Expr} {td tk : TED} {tr : TAD} {pos pos' : Pos}
end
end Fp

namespace Fp
open PySem PySem.Spec PyProof.Rows L2 Dl Ns In Fr Zs
section
variable {K : PySem.W.Frag} {I : HI} {b : B0} {σ : L2.St} {H H' : Hp} {env : DEnv} {i : Nat} {p : Addr} {as : List Addr} {S : Fl.NN}
theorem noOwn_no : ∀ {e : DEnv} {j : Nat}, noOwn e = true → noOwn (e.set j .no) = true
  | [], _, h => h
  | .own _ :: _, _, h => by simp only [noOwn] at h; cases h
  | .val _ :: e, 0, h => by simpa [noOwn] using h
  | .no :: e, 0, h => by simpa [noOwn] using h
  | .val _ :: e, j + 1, h => by simp only [List.set_cons_succ, noOwn]; exact noOwn_no (by simpa [noOwn] using h)
  | .no :: e, j + 1, h => by simp only [List.set_cons_succ, noOwn]; exact noOwn_no (by simpa [noOwn] using h)
abbrev start (S : Fl.NN) : StP := (S.map (fun ns => ns.map D.int), (List.range S.length).map It.made)
end
section
variable {X : Cx} {g : Gx} {i : Nat} {sts : List Stmt} {td : TSF} {x : Str} {pos pos' p1 : Pos} {elt tg iter : Expr} {ifs : List Expr} {scope : Scope} {own : List (Str × Nat)} {gt : TG} {tid : TID} {gd : TGD} {tt : TTD} {ed : TED}
def FE (i : Nat) (Dd : DEnds) : FEnds := ⟨fun T env => Dd.nx (view i T env), fun T env => Dd.bk (view i T env), fun T env => Dd.ct (view i T env), Dd⟩
end
end Fp

namespace Fq
open PySem PySem.Spec PyProof.Rows L2 Dl Ns In Fr Zs
abbrev Sts := List (List D)
def trk (I : HI) (as : List Addr) (ct : Addr → List V) : HI where
  own := fun x => I.own x ∨ x ∈ as
  foot := fun x => I.foot x ∨ x ∈ as
  ok := fun H => I.ok H ∧ ∀ a ∈ as, H a = some (.lst (ct a))
  sub := fun x z => z.imp (I.sub x) id
  dom := fun H x h z => z.elim (fun z => I.dom H x h.1 z) fun z e => by rw [h.2 x z] at e; cases e
  loc := fun H H' h ok => ⟨I.loc H H' (fun x f => h x (.inl f)) ok.1, fun a ha => by rw [h a (.inr ha)]; exact ok.2 a ha⟩
abbrev ownM (I : HI) (as : List Addr) : Addr → Prop := fun x => I.own x ∨ x ∈ as
def view : List Nat → Sts → DEnv → DEnv
  | i :: is, xs :: T, env => view is T (env.set i (.val (.lst xs)))
  | _, _, env => env
theorem view_no : ∀ {is : List Nat} {T : Sts} {env : DEnv}, noOwn env = true → noOwn (view is T env) = true
  | [], _, _, h => by unfold view; exact h
  | _ :: _, [], _, h => by unfold view; exact h
  | i :: is, xs :: T, env, h => by unfold view; exact view_no (Fm.noOwn_val h)
theorem view_len : ∀ {is : List Nat} {T : Sts} {env : DEnv}, (view is T env).length = env.length
  | [], _, _ => by unfold view; rfl
  | _ :: _, [], _ => by unfold view; rfl
  | i :: is, xs :: T, env => by unfold view; rw [view_len, List.length_set]
theorem view_get : ∀ {is : List Nat} {T : Sts} {env : DEnv} {k : Nat} {d : D}, (view is T env)[k]? = some (.val d) → (∃ (j : Nat) (xs : List D), is[j]? = some k ∧ T[j]? = some xs ∧ d = .lst xs) ∨ env[k]? = some (.val d)
  | [], _, _, _, _, h => by unfold view at h; exact .inr h
  | _ :: _, [], _, _, _, h => by unfold view at h; exact .inr h
  | i :: is, xs :: T, env, k, d, h => by
    unfold view at h
    rcases view_get h with ⟨j, ys, h1, h2, h3⟩ | h
    · exact .inl ⟨j + 1, ys, by simpa using h1, by simpa using h2, h3⟩
    · rcases get_set h with ⟨ek, ed⟩ | ⟨_, h⟩
      · exact .inl ⟨0, xs, by rw [ek]; rfl, rfl, Slot.val.inj ed⟩
      · exact .inr h
structure DenM (K : PySem.W.Frag) (I : HI) (as : List Addr) (is : List Nat) (b : B0) (σ : L2.St) (H : Hp) (T : Sts) (env : DEnv) : Prop where
  nb : ∀ a ∈ as, b.H0 a = none
  nf : ∀ a ∈ as, ¬ I.foot a
  nd : as.Nodup
  no : noOwn env = true
  la : as.length = is.length
  lt : as.length = T.length
  sl : ∀ (j i : Nat) (a : Addr), is[j]? = some i → as[j]? = some a → σ[i]? = some (some (.ref a)) ∧ env[i]? = some .no
  ex : ∃ ct, DenE K (trk I as ct) b σ H env ∧ ∀ (j : Nat) (a : Addr) (xs : List D), as[j]? = some a → T[j]? = some xs → DenA K (ownM I as) H (ct a) xs
section
variable {K : PySem.W.Frag} {I : HI} {as : List Addr} {is : List Nat} {i j k : Nat} {b : B0} {σ : L2.St} {H H' : Hp} {T : Sts} {env : DEnv} {ct ct' : Addr → List V}
theorem ext_trk (e : Dl.Ext I H H') (n : ∀ a ∈ as, ¬ I.foot a) (h : ∀ a ∈ as, H a = some (.lst (ct a))) : Dl.Ext (trk I as ct) H H' :=
  ⟨e.1.weak fun x z => .inl z, e.2, fun a ha => e.1 a _ (fun z => n a ha (I.sub _ z)) (h a ha)⟩
theorem DenM.mono (h : DenM K I as is b σ H T env) (e : Dl.Ext I H H') : DenM K I as is b σ H' T env := by
  obtain ⟨nb, nf, nd, no, la, lt, sl, ct, hd, hl⟩ := h
  exact ⟨nb, nf, nd, no, la, lt, sl, ct, hd.mono (ext_trk e nf hd.ext.2.2), fun j a xs h1 h2 => DenA.keep (e.1.weak fun x z => .inl z) _ _ (hl j a xs h1 h2)⟩
theorem DenM.monoT (h : DenM K I as is b σ H T env) (hd : DenE K (trk I as ct) b σ H env) (hl : ∀ (j : Nat) (a : Addr) (xs : List D), as[j]? = some a → T[j]? = some xs → DenA K (ownM I as) H (ct a) xs) (e : Dl.Ext (trk I as ct) H H') : DenM K I as is b σ H' T env := by
  obtain ⟨nb, nf, nd, no, la, lt, sl, _⟩ := h
  exact ⟨nb, nf, nd, no, la, lt, sl, ct, hd.mono e, fun j a xs h1 h2 => DenA.keep e.1 _ _ (hl j a xs h1 h2)⟩
theorem DenM.lists (h : DenM K I as is b σ H T env) : ∀ a, a ∈ as → ¬ I.own a ∧ ∃ xs, H a = some (.lst xs) := fun a ha => by
  obtain ⟨ct, hd, _⟩ := h.ex
  exact ⟨fun z => h.nf a ha (I.sub _ z), _, hd.ext.2.2 a ha⟩
theorem DenM.plain (h : DenM K I as is b σ H T env) : DenE K I b σ H (view is T env) := by
  obtain ⟨nb, nf, nd, no, la, lt, sl, ct, hd, hl⟩ := h
  obtain ⟨oa, h1, h2, h3, h4⟩ := hd.slots
  have no2 : noOwn (view is T env) = true := view_no no
  have sub2 : ∀ x, AvOf I (view is T env) oa x → ownM I as x := fun x z => by
    rcases z with z | ⟨j, xs, e, q⟩
    · exact .inl z
    · exact absurd e (noOwn_get no2)
  have sub : ∀ x, AvOf I (view is T env) oa x → AvOf (trk I as ct) env oa x := fun x z => .inl (sub2 x z)
  have nA : ∀ a ∈ as, ¬ AvOf I (view is T env) oa a := fun a ha z => by
    rcases z with z | ⟨j, xs, e, q⟩
    · exact nf a ha (I.sub _ z)
    · exact absurd e (noOwn_get no2)
  refine ⟨by rw [view_len]; exact hd.len, ⟨fun x o n q => hd.ext.1 x o (fun z => z.elim n fun z => ?_) q, hd.ext.2.1⟩, oa, fun j xs e => absurd e (noOwn_get no2), fun j k xs ys e1 e2 => absurd e1 (noOwn_get no2), fun k d e => ?_, fun p hp => Den.weak sub _ _ (h4 p hp)⟩
  · rw [nb x z] at q
    cases q
  · rcases view_get e with ⟨j, xs, q1, q2, rfl⟩ | e
    · have hj : j < as.length := by rw [lt]; exact (List.getElem?_eq_some_iff.mp q2).1
      have ha : as[j]? = some as[j] := List.getElem?_eq_getElem hj
      refine ⟨_, (sl j k _ q1 ha).1, ?_⟩
      simp only [Den]
      exact ⟨as[j], _, rfl, hd.ext.2.2 _ (List.getElem_mem hj), nA _ (List.getElem_mem hj), DenA.weak sub2 _ _ (hl j _ xs ha q2)⟩
    · obtain ⟨v, q1, q2⟩ := h3 k d e
      exact ⟨v, q1, Den.weak sub _ _ q2⟩
theorem DenM.put {v : V} {d : D} (h : DenM K I as is b σ H T env) (ne : j ∉ is) (dn : Den K (ownM I as) H v d) : DenM K I as is b (σ.set j (some v)) H T (env.set j (.val d)) := by
  obtain ⟨nb, nf, nd, no, la, lt, sl, ct, hd, hl⟩ := h
  refine ⟨nb, nf, nd, Fm.noOwn_val no, la, lt, fun k i a h1 h2 => ?_, ct, hd.put dn (.inl (Fp.noOwn_no no)), hl⟩
  have n : j ≠ i := fun z => ne (by rw [z]; exact List.mem_of_getElem? h1)
  rw [List.getElem?_set_ne n, List.getElem?_set_ne n]
  exact sl k i a h1 h2
theorem DenM.write {a : Addr} {ws : List V} {xs : List D} (h : DenM K I as is b σ H T env) (ha : as[k]? = some a) (dn : DenA K (ownM I as) H ws xs) : DenM K I as is b σ (upd H a (.lst ws)) (T.set k xs) env := by
  obtain ⟨nb, nf, nd, no, la, lt, sl, ct, hd, hl⟩ := h
  have mem : a ∈ as := List.mem_of_getElem? ha
  have kp : Kp (ownM I as) H (upd H a (.lst ws)) := Kp.mut (.inr mem)
  have g0 : I.ok (upd H a (.lst ws)) := I.loc H _ (fun x f => upd_ne fun z => nf _ mem (by rw [← z]; exact f)) hd.ext.2.1
  let cu : Addr → List V := fun x => if x = a then ws else ct x
  have cua : cu a = ws := if_pos rfl
  have cun : ∀ x, x ≠ a → cu x = ct x := fun x n => if_neg n
  obtain ⟨oa, h1, h2, h3, h4⟩ := hd.slots
  have sub : ∀ x, AvOf (trk I as cu) env oa x → AvOf (trk I as ct) env oa x := fun x z => z
  have kp' : Kp (AvOf (trk I as ct) env oa) H (upd H a (.lst ws)) := kp.weak fun x z => .inl z
  refine ⟨nb, nf, nd, no, la, by rw [List.length_set]; exact lt, sl, cu, ⟨hd.len, ⟨fun x o n q => ?_, g0, fun x hx => ?_⟩, oa, fun j ys e => absurd e (noOwn_get no), fun j k ys zs e1 e2 => absurd e1 (noOwn_get no), fun j d e => ?_, fun p hp => Den.weak sub _ _ (Den.keep kp' _ _ (h4 p hp))⟩, fun j x ys q1 q2 => ?_⟩
  · exact kp x o n (hd.ext.1 x o n q)
  · by_cases e : x = a
    · rw [e, upd_same, cua]
    · rw [upd_ne e, cun x e]; exact hd.ext.2.2 x hx
  · obtain ⟨v, q1, q2⟩ := h3 j d e
    exact ⟨v, q1, Den.weak sub _ _ (Den.keep kp' _ _ q2)⟩
  · by_cases e : j = k
    · subst e
      rw [ha] at q1
      cases q1
      rw [List.getElem?_set_self (by rw [← lt]; exact (List.getElem?_eq_some_iff.mp ha).1)] at q2
      cases q2
      rw [cua]
      exact DenA.keep kp _ _ dn
    · rw [List.getElem?_set_ne (Ne.symm e)] at q2
      have n : x ≠ a := fun z => e (by
        subst z
        exact (List.getElem?_inj (List.getElem?_eq_some_iff.mp q1).1 nd).mp (q1.trans ha.symm))
      rw [cun x n]
      exact DenA.keep kp _ _ (hl j x ys q1 q2)
theorem DenM.open (h : DenE K I b σ H env) (no : noOwn env = true) : DenM K I [] [] b σ H [] env := by
  obtain ⟨oa, h1, h2, h3, h4⟩ := h.slots
  have sub : ∀ x, AvOf (trk I [] fun _ => []) env oa x → AvOf I env oa x := fun x z => z.imp (fun z => z.elim id fun z => by cases z) id
  exact ⟨fun a ha => (by cases ha), fun a ha => (by cases ha), List.nodup_nil, no, rfl, rfl, fun j i a h => (by simp at h), fun _ => [], ⟨h.len, ⟨h.ext.1.weak fun x z => .inl z, h.ext.2, fun a ha => (by cases ha)⟩, oa, fun j xs e => absurd e (noOwn_get no), fun j k xs ys e1 e2 => absurd e1 (noOwn_get no), fun j d e => let ⟨v, q1, q2⟩ := h3 j d e; ⟨v, q1, Den.weak sub _ _ q2⟩, fun p hp => Den.weak sub _ _ (h4 p hp)⟩, fun j a xs h => (by simp at h)⟩
theorem DenM.more {p : Addr} {vs : List V} {ds : List D} (h : DenM K I as is b σ H T env) (hi : i < env.length) (ni : i ∉ is) (hp : H p = none) (e : Dl.Ext I H H') (hv : H' p = some (.lst vs)) (dn : DenA K (fun x => I.own x ∨ x = p) H' vs ds) (nl : is = [] ∨ noLstA ds = true) :
    DenM K I (p :: as) (i :: is) b (σ.set i (some (.ref p))) H' (ds :: T) (env.set i .no) := by
  have h0 := h
  have h' := h.mono e
  obtain ⟨nb, nf, nd, no, la, lt, sl, ct, hd, hl⟩ := h'
  obtain ⟨ct0, hd0, _⟩ := h0.ex
  have pn : ∀ a ∈ as, a ≠ p := fun a ha z => by
    have := hd0.ext.2.2 a ha
    rw [z, hp] at this
    cases this
  have npf : ¬ I.foot p := fun z => I.dom H p hd0.ext.2.1 z hp
  have nbp : b.H0 p = none := by
    cases q : b.H0 p with
    | none => rfl
    | some o =>
      have := hd0.ext.1 p o (fun z => z.elim (fun z => npf (I.sub _ z)) fun z => pn p z rfl) q
      rw [hp] at this
      cases this
  let cu : Addr → List V := fun x => if x = p then vs else ct x
  have cup : cu p = vs := if_pos rfl
  have cun : ∀ x, x ≠ p → cu x = ct x := fun x n => if_neg n
  have noE := Fp.noOwn_no (j := i) no
  have kk : Kp (fun a => ownM I as a ∨ a = p) H H' := e.1.weak fun a z => .inl (.inl z)
  obtain ⟨oa, h1, h2, h3, h4⟩ := hd0.slots
  have sub : ∀ a, AvOf (trk I (p :: as) cu) (env.set i .no) oa a → (AvOf (trk I as ct0) env oa a ∨ a = p) := fun a z => by
    rcases z with (z | z) | ⟨j, xs, q, z⟩
    · exact .inl (.inl (.inl z))
    · rcases List.mem_cons.mp z with z | z
      · exact .inr z
      · exact .inl (.inl (.inr z))
    · exact absurd q (noOwn_get noE)
  have kk2 : Kp (fun a => AvOf (trk I as ct0) env oa a ∨ a = p) H H' := e.1.weak fun a z => .inl (.inl (.inl z))
  have str : ∀ d v, Den K (AvOf (trk I as ct0) env oa) H v d → Den K (AvOf (trk I (p :: as) cu) (env.set i .no) oa) H' v d := fun d v q => Den.weak sub _ _ (Den.keep kk2 _ _ (Den.fresh hp _ _ q))
  have own : ∀ a, ownM I (p :: as) a → ownM I as a ∨ a = p := fun a z => z.elim (fun z => .inl (.inl z)) fun z => (List.mem_cons.mp z).elim .inr fun z => .inl (.inr z)
  obtain ⟨_, hd0', hl0⟩ := h0.ex
  refine ⟨fun a ha => (List.mem_cons.mp ha).elim (fun z => by rw [z]; exact nbp) (nb a), fun a ha => (List.mem_cons.mp ha).elim (fun z => by rw [z]; exact npf) (nf a), List.nodup_cons.mpr ⟨fun z => pn p z rfl, nd⟩, noE, by rw [List.length_cons, List.length_cons, la], by rw [List.length_cons, List.length_cons, lt], fun k i' a q1 q2 => ?_, cu, ⟨by rw [List.length_set, List.length_set]; exact hd0.len, ⟨fun x o n q => ?_, e.2, fun x hx => ?_⟩, oa, fun j xs q => absurd q (noOwn_get noE), fun j k xs ys q1 q2 => absurd q1 (noOwn_get noE), fun j d q => ?_, fun q hq => str _ _ (h4 q hq)⟩, fun k a xs q1 q2 => ?_⟩
  · cases k with
    | zero =>
      cases q1
      cases q2
      exact ⟨List.getElem?_set_self (by rw [hd.len]; exact hi), List.getElem?_set_self hi⟩
    | succ k =>
      rw [List.getElem?_cons_succ] at q1 q2
      have n : i ≠ i' := fun z => ni (by rw [z]; exact List.mem_of_getElem? q1)
      rw [List.getElem?_set_ne n, List.getElem?_set_ne n]
      exact sl k i' a q1 q2
  · exact hd.ext.1 x o (fun z => n (z.imp id (List.mem_cons_of_mem _))) q
  · by_cases ex : x = p
    · rw [ex, cup]; exact hv
    · rw [cun x ex]; exact hd.ext.2.2 x ((List.mem_cons.mp hx).resolve_left ex)
  · rcases get_set q with ⟨_, ed⟩ | ⟨ne, q⟩
    · cases ed
    · obtain ⟨v, q1, q2⟩ := h3 j d q
      exact ⟨v, by rw [List.getElem?_set_ne (Ne.symm ne)]; exact q1, str _ _ q2⟩
  · cases k with
    | zero =>
      cases q1
      cases q2
      rw [cup]
      rcases nl with z | z
      · subst z
        have : as = [] := List.length_eq_zero_iff.mp la
        subst this
        exact DenA.weak (fun x z => z.imp id fun z => by simpa using z) _ _ dn
      · refine DenA.weak (fun x z => ?_) _ _ (DenA.apart (P := fun x => x ∈ as) (fun x hx => ⟨_, hd.ext.2.2 x hx⟩) _ _ z dn)
        rcases own x z with (z | z) | z
        · exact .inl (.inl z)
        · exact .inr z
        · exact .inl (.inr z)
    | succ k =>
      rw [List.getElem?_cons_succ] at q1 q2
      have am : a ∈ as := List.mem_of_getElem? q1
      rw [cun a (pn a am)]
      have d0 := hl0 k a xs q1 q2
      have c0 : (_ : List V) = ct a := HO.lst.inj (Option.some.inj ((e.1 _ _ (fun z => nf a am (I.sub _ z)) (hd0'.ext.2.2 a am)).symm.trans (hd.ext.2.2 a am)))
      rw [c0] at d0
      exact DenA.weak own _ _ (DenA.keep kk _ _ (DenA.fresh hp _ _ d0))
theorem DenM.drop1 {p : Addr} {xs : List D} (h : DenM K I (p :: as) (i :: is) b σ H (xs :: T) env) : DenM K I as is b σ H T (env.set i (.val (.lst xs))) := by
  obtain ⟨nb, nf, nd, no, la, lt, sl, ct, hd, hl⟩ := h
  obtain ⟨np, nd⟩ := List.nodup_cons.mp nd
  have npf := nf p List.mem_cons_self
  obtain ⟨oa, h1, h2, h3, h4⟩ := hd.slots
  have no2 : noOwn (env.set i (.val (.lst xs))) = true := Fm.noOwn_val no
  have sub : ∀ x, AvOf (trk I as ct) (env.set i (.val (.lst xs))) oa x → AvOf (trk I (p :: as) ct) env oa x := fun x z => by
    rcases z with z | ⟨j, ys, e, q⟩
    · exact .inl (z.imp id (List.mem_cons_of_mem _))
    · exact absurd e (noOwn_get no2)
  have own : ∀ x, ownM I as x → ownM I (p :: as) x := fun x z => z.imp id (List.mem_cons_of_mem _)
  obtain ⟨s0, e0⟩ := sl 0 i p rfl rfl
  refine ⟨fun a ha => nb a (List.mem_cons_of_mem _ ha), fun a ha => nf a (List.mem_cons_of_mem _ ha), nd, no2, by simpa using la, by simpa using lt, fun k i' a q1 q2 => ?_, ct, ⟨by rw [List.length_set]; exact hd.len, ⟨fun x o n q => hd.ext.1 x o (fun z => ?_) q, hd.ext.2.1, fun a ha => hd.ext.2.2 a (List.mem_cons_of_mem _ ha)⟩, oa, fun j ys e => absurd e (noOwn_get no2), fun j k ys zs e1 e2 => absurd e1 (noOwn_get no2), fun j d e => ?_, fun q hq => Den.weak sub _ _ (h4 q hq)⟩, fun k a ys q1 q2 => DenA.weak own _ _ (hl (k + 1) a ys (by rw [List.getElem?_cons_succ]; exact q1) (by rw [List.getElem?_cons_succ]; exact q2))⟩
  · have z := sl (k + 1) i' a (by rw [List.getElem?_cons_succ]; exact q1) (by rw [List.getElem?_cons_succ]; exact q2)
    refine ⟨z.1, ?_⟩
    have n : i ≠ i' := fun w => by
      have z1 := z.1
      rw [← w, s0] at z1
      have : p = a := V.ref.inj (Option.some.inj (Option.some.inj z1))
      exact np (by rw [this]; exact List.mem_of_getElem? q2)
    rw [List.getElem?_set_ne n]
    exact z.2
  · rcases z with z | z
    · exact n (.inl z)
    · rcases List.mem_cons.mp z with z | z
      · rw [z, nb p List.mem_cons_self] at q; cases q
      · exact n (.inr z)
  · rcases get_set e with ⟨ej, ed⟩ | ⟨ne, e⟩
    · subst ej
      have ed := Slot.val.inj ed
      subst ed
      refine ⟨_, s0, ?_⟩
      simp only [Den]
      refine ⟨p, _, rfl, hd.ext.2.2 p List.mem_cons_self, fun z => ?_, DenA.weak (fun x z => ?_) _ _ (hl 0 p xs rfl rfl)⟩
      · rcases z with (z | z) | ⟨j, ys, e, q⟩
        · exact npf (I.sub _ z)
        · exact np z
        · exact absurd e (noOwn_get no2)
      · rcases z with z | ⟨j, ys, e, q⟩
        · exact own x z
        · exact absurd e (noOwn_get no2)
    · obtain ⟨v, q1, q2⟩ := h3 j d e
      exact ⟨v, q1, Den.weak sub _ _ q2⟩
end
end Fq

namespace Fq
open PySem PySem.Spec PyProof.Rows L2 Dl Ns In Fr Zs
structure FEnds where
  nx : Sts → DEnv → Prop
  bk : Sts → DEnv → Prop
  ct : Sts → DEnv → Prop
  pl : DEnds
abbrev TSF := FEnds → Sts → DEnv → Prop
structure EF (K : PySem.W.Frag) (g : Gx) (is : List Nat) (b : B0) (Dd : FEnds) (E : Ends) : Prop where
  nx : ∀ as σ H T env, DenM K g.I as is b σ H T env → Dd.nx T env → E.nx σ H
  bk : ∀ as σ H T env, DenM K g.I as is b σ H T env → Dd.bk T env → E.bk σ H
  ct : ∀ as σ H T env, DenM K g.I as is b σ H T env → Dd.ct T env → E.ct σ H
  pl : EL K g b Dd.pl E
def PSF (X : Cx) (g : Gx) (is : List Nat) (st : Stmt) (td : TSF) : Prop :=
  ∀ (as : List Addr) (b : B0) (σ : L2.St) (H : Hp) (T : Sts) (env : DEnv) (Dd : FEnds) (E : Ends), DenM X.K g.I as is b σ H T env → XL X.K g b → td Dd T env → EF X.K g is b Dd E → wS X st E σ H
def PSsF (X : Cx) (g : Gx) (is : List Nat) (sts : List Stmt) (td : TSF) : Prop :=
  ∀ (as : List Addr) (b : B0) (σ : L2.St) (H : Hp) (T : Sts) (env : DEnv) (Dd : FEnds) (E : Ends), DenM X.K g.I as is b σ H T env → XL X.K g b → td Dd T env → EF X.K g is b Dd E → wSs X sts E σ H
abbrev trg (g : Gx) (as : List Addr) (ct : Addr → List V) : Gx := ⟨trk g.I as ct, fun _ _ => False, g.W⟩
theorem xl_tr {K : PySem.W.Frag} {g : Gx} {as : List Addr} {ct : Addr → List V} {b : B0} : XL K (trg g as ct) b := fun _ _ _ _ _ _ _ _ _ h => h.elim
section
variable {X : Cx} {g : Gx} {is : List Nat} {i j k : Nat} {e e1 e2 c tg it : Expr} {st : Stmt} {rest sts sts2 body : List Stmt} {td te ti : TED} {tf : TFD} {tt : TTD} {t u tb : TSF} {ts : TSD} {tid : TID} {gd : TGD} {pos pos' p p1 cpos apos : Pos} {x : Str}
def fNext : TSF := fun Dd T env => Dd.nx T env
theorem fs_nil : PSsF X g is [] fNext := fun as b σ H T env Dd E hd xl h el pins s J => pss_nil.run pins s σ H E J (el.nx _ _ _ _ _ hd h)
def fSeq (t u : TSF) : TSF := fun Dd T env => t { Dd with nx := u Dd, pl := { Dd.pl with nx := fun _ => False } } T env
theorem fs_cons (h1 : PSF X g is st t) (h2 : PSsF X g is rest u) : PSsF X g is (st :: rest) (fSeq t u) := fun as b σ H T env Dd E hd xl h el pins s J =>
  (pss_cons ps_w pss_w).run pins s σ H E J (h1 as b σ H T env _ _ hd xl h ⟨fun as' σ' H' T' env' hd' h' => h2 as' b σ' H' T' env' Dd E hd' xl h' el, el.bk, el.ct, ⟨fun _ _ _ _ z => z.elim, el.pl.rt, el.pl.bk, el.pl.ct, el.pl.rf⟩⟩)
theorem fs_one (h1 : PSF X g is st t) : PSsF X g is [st] t := fun as b σ H T env Dd E hd xl h el pins s J => (pss_one ps_w).run pins s σ H E J (h1 as b σ H T env Dd E hd xl h el)
def fDrop (is : List Nat) (ts : TSD) : TSF := fun Dd T env => ts Dd.pl (view is T env)
theorem fs_drop (h : PSsD X g sts ts) : PSsF X g is sts (fDrop is ts) := fun as b σ H T env Dd E hd xl q el => h b σ H _ _ _ hd.plain xl q el.pl
def fIf (is : List Nat) (tt : TTD) (t u : TSF) : TSF := fun Dd T env => tt (view is T env) fun c => if c = true then t Dd T env else u Dd T env
theorem f_if (hc : PTD X g c tt) (ha : PSsF X g is sts t) (hb : PSsF X g is sts2 u) : PSF X g is (.If c sts sts2 pos) (fIf is tt t u) := fun as b σ H T env Dd E hd xl h el pins s J =>
  (ps_if pt_w pss_w pss_w).run pins s σ H E J (hc b σ H _ _ _ hd.plain xl h fun c H1 e1 h1 => by
    cases c with
    | true => rw [if_pos rfl] at h1 ⊢; exact ha as b σ H1 T env Dd E (hd.mono e1) xl h1 el
    | false => rw [if_neg Bool.false_ne_true] at h1 ⊢; exact hb as b σ H1 T env Dd E (hd.mono e1) xl h1 el)
def fSet (is : List Nat) (j : Nat) (td : TED) : TSF := fun Dd T env => td (view is T env) fun d => d.noLst = true ∧ j ∉ is ∧ Dd.nx T (env.set j (.val d))
theorem f_set (hN : X.N.Nodup) (hi : X.N[j]? = some x) (hx : Loc X.env.scope x) (he : PED X g e td) (hs : swapsWith e (some (.Name x pos')) pos.line X.env = pure false := by rfl)
    (hf : X.fn x = true ∨ X.env.scope.names.lookup x = some .local := by first | exact .inl rfl | exact .inr rfl | assumption) : PSF X g is (.Assign [.Name x pos'] e pos) (fSet is j td) := fun as b σ H T env Dd E hd xl h el pins s J =>
  (ps_set hN hi hx pe_w hs hf).run pins s σ H E J (he b σ H _ _ _ hd.plain xl h fun v d H1 e1 dn ⟨nl, ne, q⟩ =>
    el.nx _ _ _ _ _ ((hd.mono e1).put ne (Den.apart (fun a ha => ((hd.mono e1).lists a ha).2) _ _ nl dn)) q)
def fSetT (is : List Nat) (j : Nat) (td : TED) : TSF := fun Dd T env => td env fun d => j ∉ is ∧ Dd.nx T (env.set j (.val d))
theorem f_setT (hN : X.N.Nodup) (hi : X.N[j]? = some x) (hx : Loc X.env.scope x) (he : ∀ as ct, (∀ a ∈ as, ¬ g.I.foot a) → PED X (trg g as ct) e td) (hs : swapsWith e (some (.Name x pos')) pos.line X.env = pure false := by rfl)
    (hf : X.fn x = true ∨ X.env.scope.names.lookup x = some .local := by first | exact .inl rfl | exact .inr rfl | assumption) : PSF X g is (.Assign [.Name x pos'] e pos) (fSetT is j td) := fun as b σ H T env Dd E hd xl h el pins s J => by
  obtain ⟨ct, hdE, hl⟩ := hd.ex
  exact (ps_set hN hi hx pe_w hs hf).run pins s σ H E J (he as ct hd.nf b σ H env _ _ hdE xl_tr h fun v d H1 e1 dn ⟨ne, q⟩ => el.nx _ _ _ _ _ ((hd.monoT hdE hl e1).put ne dn) q)
def FE (i : Nat) (Dd : FEnds) : FEnds := ⟨fun T env => ∃ xs T', T = xs :: T' ∧ Dd.nx T' (env.set i (.val (.lst xs))), fun T env => ∃ xs T', T = xs :: T' ∧ Dd.bk T' (env.set i (.val (.lst xs))), fun T env => ∃ xs T', T = xs :: T' ∧ Dd.ct T' (env.set i (.val (.lst xs))), Dd.pl⟩
def fMore (is : List Nat) (i : Nat) (tf : TFD) (td : TSF) : TSF := fun Dd T env => i < env.length ∧ i ∉ is ∧ tf (view is T env) fun ds => (is = [] ∨ noLstA ds = true) ∧ td (FE i Dd) (ds :: T) (env.set i .no)
theorem fs_more (hN : X.N.Nodup) (hi : X.N[i]? = some x) (hx : Loc X.env.scope x) (he : PFD X g e tf) (h : PSsF X g (i :: is) sts t) (hs : swapsWith e (some (.Name x pos')) pos.line X.env = pure false := by rfl)
    (hf : X.fn x = true ∨ X.env.scope.names.lookup x = some .local := by first | exact .inl rfl | exact .inr rfl | assumption) : PSsF X g is (.Assign [.Name x pos'] e pos :: sts) (fMore is i tf t) := fun as b σ H T env Dd E hd xl ⟨hlen, ni, q⟩ el pins s J =>
  (pss_cons (ps_set hN hi hx pe_w hs hf) pss_w).run pins s σ H E J (he b σ H _ _ _ hd.plain xl q fun p vs ds H1 hp e1 hv dn ⟨nl, q⟩ =>
    h (p :: as) b _ H1 _ _ _ E (hd.more hlen ni hp e1 hv dn nl) xl q
      ⟨fun as' σ' H' T' env' p1 ⟨xs, T2, eT, p2⟩ => by subst eT; cases as' with
        | nil => exact absurd p1.la (by simp)
        | cons a as' => exact el.nx _ _ _ _ _ p1.drop1 p2,
       fun as' σ' H' T' env' p1 ⟨xs, T2, eT, p2⟩ => by subst eT; cases as' with
        | nil => exact absurd p1.la (by simp)
        | cons a as' => exact el.bk _ _ _ _ _ p1.drop1 p2,
       fun as' σ' H' T' env' p1 ⟨xs, T2, eT, p2⟩ => by subst eT; cases as' with
        | nil => exact absurd p1.la (by simp)
        | cons a as' => exact el.ct _ _ _ _ _ p1.drop1 p2, el.pl⟩)
def sOpen (td : TSF) : TSD := fun Dd env => noOwn env = true ∧ td ⟨fun _ env => Dd.nx env, fun _ env => Dd.bk env, fun _ env => Dd.ct env, Dd⟩ [] env
theorem view_nil {T : Sts} {env : DEnv} : view [] T env = env := by unfold view; rfl
theorem ds_open (h : PSsF X g [] sts t) : PSsD X g sts (sOpen t) := fun b σ H env Dd E hd xl ⟨no, q⟩ el => h [] b σ H [] env _ E (.open hd no) xl q
  ⟨fun as' σ' H' T' env' p1 p2 => el.nx _ _ _ (by have := p1.plain; rwa [view_nil] at this) p2, fun as' σ' H' T' env' p1 p2 => el.bk _ _ _ (by have := p1.plain; rwa [view_nil] at this) p2, fun as' σ' H' T' env' p1 p2 => el.ct _ _ _ (by have := p1.plain; rwa [view_nil] at this) p2, el⟩
def fReb (i : Nat) (tf : TFD) : TSF := fun Dd T env => i < env.length ∧ tf (view [i] T env) fun ds => Dd.nx [ds] env
theorem f_reb (hN : X.N.Nodup) (hi : X.N[i]? = some x) (hx : Loc X.env.scope x) (he : PFD X g e tf) (hs : swapsWith e (some (.Name x pos')) pos.line X.env = pure false := by rfl)
    (hf : X.fn x = true ∨ X.env.scope.names.lookup x = some .local := by first | exact .inl rfl | exact .inr rfl | assumption) : PSF X g [i] (.Assign [.Name x pos'] e pos) (fReb i tf) := fun as b σ H T env Dd E hd xl ⟨hlen, h⟩ el pins s J =>
  (ps_set hN hi hx pe_w hs hf).run pins s σ H E J (he b σ H _ _ _ hd.plain xl h fun p vs ds H1 hp e1 hv dn q => by
    have h0 : DenM X.K g.I [] [] b σ H [] (view [i] T env) := .open hd.plain (view_no hd.no)
    have h1 := h0.more (i := i) (by rw [view_len]; exact hlen) (by simp) hp e1 hv dn (.inl rfl)
    have ee : (view [i] T env).set i .no = env := by
      have : T.length = 1 := by rw [← hd.lt, hd.la]; rfl
      obtain ⟨xs, rfl⟩ : ∃ xs, T = [xs] := by
        match T, this with
        | [xs], _ => exact ⟨xs, rfl⟩
      have ha : as.length = 1 := hd.la
      obtain ⟨a, rfl⟩ : ∃ a, as = [a] := by
        match as, ha with
        | [a], _ => exact ⟨a, rfl⟩
      have e0 := (hd.sl 0 i a rfl rfl).2
      unfold view
      rw [view_nil, List.set_set]
      obtain ⟨hl2, e1⟩ := List.getElem?_eq_some_iff.mp e0
      rw [← e1, List.set_getElem_self]
    rw [ee] at h1
    exact el.nx _ _ _ _ _ h1 q)
def fSetIx (is : List Nat) (k : Nat) (te ti : TED) : TSF := fun Dd T env => te env fun d => ti (view is T env) fun z => ∃ (xs : List D) (n : Nat), T[k]? = some xs ∧ z = .int n ∧ n < xs.length ∧ Dd.nx (T.set k (xs.set n d)) env
theorem f_setIx {p3 : Pos} (hk : is[k]? = some i) (hN : X.N[i]? = some x) (hv : Vis X.env.scope x) (hd1 : (x == ("__debug__" : Str)) = false) (hcd : (x == ("__classdict__" : Str)) = false) (he : ∀ as ct, (∀ a ∈ as, ¬ g.I.foot a) → PED X (trg g as ct) e te) (hix : PED X g e2 ti)
    (hs : swapsWithSole [.Subscript (.Name x p) e2 p3] e pos.line X.env = pure false := by rfl) (hw : swappedStores [.Subscript (.Name x p) e2 p3] e X.env = pure none := by rfl)
    (hsub : PG X (.Subscript (.Name x p) e2 p3) (gSub (tVar i) (wE X e2) rSetL)) :
    PSF X g is (.Assign [.Subscript (.Name x p) e2 p3] e pos) (fSetIx is k te ti) := fun as b σ H T env Dd E hd xl h el pins s J => by
  refine (ps_asg pe_w hsub hs hw).run pins s σ H E J ?_
  have hka : k < as.length := by rw [hd.la]; exact (List.getElem?_eq_some_iff.mp hk).1
  have ha : as[k]? = some as[k] := List.getElem?_eq_getElem hka
  obtain ⟨ct, hdE, hl⟩ := hd.ex
  refine he as ct hd.nf b σ H env _ _ hdE xl_tr h fun v d H1 e1 dn q => ?_
  have h1 := hd.monoT hdE hl e1
  refine ⟨.ref as[k], (hd.sl k i _ hk ha).1, hix b σ H1 _ _ _ h1.plain xl q fun zv z H2 e2 dz ⟨xs, n, hT, ez, hn, q⟩ => ?_⟩
  subst ez
  simp only [Den] at dz
  have h2 := h1.mono e2
  obtain ⟨ct2, hdE2, hl2⟩ := h2.ex
  have hx := hl2 k _ xs ha hT
  have dn2 := Den.keep (Kp.weak e2.1 fun x z => Or.inl z) _ _ dn
  exact ⟨as[k], ct2 as[k], n, n, rfl, dz, hdE2.ext.2.2 _ (List.getElem_mem hka), by rw [hx.len]; exact Fp.ixN_nat hn, el.nx _ _ _ _ _ (h2.write ha (DenA.set dn2 n hx)) q⟩
theorem DenM.unhold {K : PySem.W.Frag} {I : HI} {as : List Addr} {b : B0} {hw : List (V × D)} {σ : L2.St} {H : Hp} {T : Sts} {env : DEnv} (h : DenM K I as is ⟨b.H0, hw ++ b.hs⟩ σ H T env) : DenM K I as is b σ H T env := by
  obtain ⟨nb, nf, nd, no, la, lt, sl, ct, hd, hl⟩ := h
  exact ⟨nb, nf, nd, no, la, lt, sl, ct, Fm.reholdM hd fun p hp => List.mem_append_right _ hp, hl⟩
end
end Fq

namespace Fq
open PySem PySem.Spec PyProof.Rows L2 Dl Ns In Fr Zs
section
variable {X : Cx} {g : Gx} {is : List Nat} {j : Nat} {it : Expr} {body : List Stmt} {tb : TSF} {tid : TID} {pos pn : Pos} {x : Str}
def forF (j : Nat) (tb : TSF) (is : List Nat) (Dd : FEnds) : List D → Sts → DEnv → Prop
  | [], T, env => Dd.nx T env
  | x :: xs, T, env => j ∉ is ∧ tb ⟨forF j tb is Dd xs, Dd.nx, forF j tb is Dd xs, { Dd.pl with nx := fun _ => False, bk := fun _ => False, ct := fun _ => False }⟩ T (env.set j (.val x))
def fFor (tid : TID) (j : Nat) (tb : TSF) (is : List Nat) : TSF := fun Dd T env => tid env fun ds => forF j tb is Dd ds T env
theorem f_for (hp : PassesOwn (model X.prog X.w) X.A X.env X.xe) (hc : X.calm = true) (hN : X.N.Nodup) (hj : X.N[j]? = some x) (hx : Loc X.env.scope x) (hi : ∀ as ct, (∀ a ∈ as, ¬ g.I.foot a) → PID X (trg g as ct) (.Name x pn) it tid) (hb : PSsF X g is body tb) (hs : ∀ x, foldedSetIterable it X.env x = pure x := by intro _; rfl)
    (hf : X.fn x = true ∨ X.env.scope.names.lookup x = some .local := by first | exact .inl rfl | exact .inr rfl | assumption) : PSF X g is (.For (.Name x pn) it body [] pos) (fFor tid j tb is) := fun as b σ H T env Dd E hd xl h el pins s J => by
  obtain ⟨ct, hdE, hl⟩ := hd.ex
  refine (ps_for hp hc pi_w (pg_name hN hj hx) pss_w hs).run pins s σ H E J ?_
  refine hi as ct hd.nf b σ H env _ _ hdE xl_tr h fun J H1 hw ds hd1 e1 it0 q => ?_
  have hd1' : DenM X.K g.I as is ⟨b.H0, hw ++ b.hs⟩ σ H1 T env := ⟨hd.nb, hd.nf, hd.nd, hd.no, hd.la, hd.lt, hd.sl, ct, hd1, fun j a xs h1 h2 => DenA.keep e1.1 _ _ (hl j a xs h1 h2)⟩
  refine ⟨fun i0 m σ' H' => m = ds.length - i0 ∧ i0 ≤ ds.length ∧ ∃ as' T' env', DenM X.K g.I as' is ⟨b.H0, hw ++ b.hs⟩ σ' H' T' env' ∧ forF j tb is Dd (ds.drop i0) T' env', ⟨ds.length, by simp, Nat.zero_le _, as, T, env, hd1', by simpa using q⟩, ?_⟩
  rintro i0 m σ' H' ⟨rfl, hi', as', T', env', hdM, q'⟩
  obtain ⟨ct', hd', hl'⟩ := hdM.ex
  obtain ⟨oa, h1, h2, h3, h4⟩ := hd'.slots
  have hav : ∀ x, AvOf (trk g.I as' ct') env' oa x → H' x ≠ none := fun x z => by
    rcases z with z | ⟨k, xs, e, q⟩
    · exact (trk g.I as' ct').dom H' x hd'.ok ((trk g.I as' ct').sub x z)
    · exact absurd e (noOwn_get hdM.no)
  have IT := it0 (AvOf (trk g.I as' ct') env' oa) H' (fun p hp => h4 p (List.mem_append_left _ hp)) hav
  by_cases hlt : i0 < ds.length
  · refine .inr ⟨(IT.1 i0 hlt).1, fun σ2 H2 => ∃ as2 T2 env2, DenM X.K g.I as2 is ⟨b.H0, hw ++ b.hs⟩ σ2 H2 T2 env2 ∧ forF j tb is Dd (ds.drop (i0 + 1)) T2 env2, fun σ2 H2 ⟨as2, T2, env2, p1, p2⟩ => ⟨ds.length - (i0 + 1), by omega, rfl, hlt, as2, T2, env2, p1, p2⟩, fun x H2 y => ?_⟩
    obtain ⟨kn, d, hd2, dn⟩ := (IT.1 i0 hlt).2 x H2 y
    have e2 : Dl.Ext (trk g.I as' ct') H' H2 := .ofNew hd'.ok kn
    have q2 : forF j tb is Dd (d :: ds.drop (i0 + 1)) T' env' := by
      rw [List.drop_eq_getElem_cons hlt] at q'
      have : d = ds[i0] := by
        rw [List.getElem?_eq_getElem hlt] at hd2
        exact (Option.some.inj hd2).symm
      rw [this]; exact q'
    obtain ⟨nj, q3⟩ := q2
    have hm := (hdM.monoT hd' hl' e2).put (v := x) (d := d) nj (Den.weak (fun a z => .inl z) _ _ dn)
    exact hb as' ⟨b.H0, hw ++ b.hs⟩ _ H2 T' _ _ _ hm (fun σ4 H4 env4 xx d4 H5 p1 p2 p3 p4 => xl σ4 H4 env4 xx d4 H5 p1.unhold p2 p3 p4) q3
      ⟨fun as4 σ4 H4 T4 env4 p1 p2 => ⟨as4, T4, env4, p1, p2⟩, fun as4 σ4 H4 T4 env4 p1 p2 => el.nx _ _ _ _ _ p1.unhold p2, fun as4 σ4 H4 T4 env4 p1 p2 => ⟨as4, T4, env4, p1, p2⟩,
        ⟨fun _ _ _ _ z => z.elim, el.pl.rt, fun _ _ _ _ z => z.elim, fun _ _ _ _ z => z.elim, el.pl.rf⟩⟩
  · have ei : i0 = ds.length := by omega
    subst ei
    rw [List.drop_length] at q'
    exact .inl ⟨IT.2, el.nx _ _ _ _ _ hdM.unhold q'⟩
end
theorem cl_trk {P : Program} {w : World} {K : PySem.W.Frag} {mg : Str → Option Value} {base : Heap} {I : HI} {k n : Nat} {x : Str} {C : Ct} {as : List Addr} {ct : Addr → List V} (c : Cl P w K mg base I k x n C []) (nl : ∀ ds Q E, C ds Q E → C ds (fun d => Q d ∧ d.noLst = true) fun _ => False) (nf : ∀ a ∈ as, ¬ I.foot a) :
    Cl P w K mg base (trk I as ct) k x n C [] := by
  obtain ⟨fa, fd, ps, ds, dvs, F, hm, hk, hb, hv, hd⟩ := c
  have e : dvs = [] := by
    have := hd fun _ => none
    simpa only [DenA] using this
  subst e
  refine ⟨fa, fd, ps, ds, [], F.imp fun vs H Q E ⟨xs, Qd, Ed, hl, dn, ok, hc, kq, _⟩ => ⟨xs, fun d => Qd d ∧ d.noLst = true, fun _ => False, hl, DenA.weak (fun a z => .inl z) _ _ dn, ok.1, nl _ _ _ hc, fun v d H' e1 dv ⟨q, z⟩ => ?_, fun _ _ _ _ _ z => z.elim⟩, hm, hk, hb, hv, fun H => by simp only [DenA]⟩
  have e2 : Dl.Ext (trk I as ct) H H' := ext_trk e1 nf ok.2
  exact kq v d H' e2 (Den.apart (P := fun a => a ∈ as) (fun a ha => ⟨_, e2.2.2 a ha⟩) _ _ z dv) q
end Fq

namespace Lc
open PySem PySem.Spec PyProof.Rows L2 Dl Ns Fq
abbrev nx (J : HI) : Gx := ⟨J, fun _ _ => False, fun _ _ _ _ => False⟩
def l2J (gj : TGD) (tj : TTD) (te : TED) (env : DEnv) : List D → List D → (List D → Prop) → Prop
  | [], acc, Q => Q acc
  | y :: ys, acc, Q => gj y env fun env2 => tj env2 fun b => if b = true then te env2 fun z => z.noLst = true ∧ acc.length < sizeLine ∧ l2J gj tj te env ys (acc ++ [z]) Q else l2J gj tj te env ys acc Q
def l2D (gd : TGD) (tt : TTD) (tid2 : TID) (gj : TGD) (tj : TTD) (te : TED) (ws : List Nat) (env : DEnv) : List D → List D → (List D → Prop) → Prop
  | [], acc, Q => Q acc
  | x :: xs, acc, Q => gd x env fun env2 => tt env2 fun b => if b = true then tid2 env2 fun es => noOwn (wipeD env2 ws) = true ∧ l2J gj tj te (wipeD env2 ws) es acc fun acc2 => l2D gd tt tid2 gj tj te ws env xs acc2 Q else l2D gd tt tid2 gj tj te ws env xs acc Q
def fLc2 (tid : TID) (gd : TGD) (tt : TTD) (tid2 : TID) (gj : TGD) (tj : TTD) (te : TED) (vs ws : List Nat) : TFD := fun env Q => tid (frz env) fun ds => l2D gd tt tid2 gj tj te ws (wipeD (frz env) vs) ds [] Q
section
variable {K : PySem.W.Frag} {I : HI} {b : B0} {σ : L2.St} {H H' : Hp} {env : DEnv} {D : Addr} {ct ct' : Addr → List V} {vs : List V}
theorem enter (h : DenE K I b σ H env) (no : noOwn env = true) (hD : H D = none) : DenE K (trk I [D] fun _ => []) b σ (upd H D (.lst [])) env := by
  obtain ⟨oa, h1, h2, h3, h4⟩ := h.slots
  have e : Dl.Ext I H (upd H D (.lst [])) := .new h.ok hD
  have sub : ∀ a, AvOf (trk I [D] fun _ => []) env oa a → AvOf I env oa a ∨ a = D := fun a z => by
    rcases z with (z | z) | ⟨j, xs, q, z⟩
    · exact .inl (.inl z)
    · exact .inr (List.mem_singleton.mp z)
    · exact absurd q (noOwn_get no)
  have kk : Kp (fun a => AvOf I env oa a ∨ a = D) H (upd H D (.lst [])) := e.1.weak fun a z => .inl (.inl z)
  have str : ∀ d v, Den K (AvOf I env oa) H v d → Den K (AvOf (trk I [D] fun _ => []) env oa) (upd H D (.lst [])) v d := fun d v q => Den.weak sub _ _ (Den.keep kk _ _ (Den.fresh hD _ _ q))
  exact ⟨h.len, ⟨(h.ext.1.trans e.1).weak fun x z => .inl z, e.2, fun a ha => by rw [List.mem_singleton.mp ha, upd_same]⟩, oa, fun j xs q => absurd q (noOwn_get no), fun j k xs ys q => absurd q (noOwn_get no), fun j d q => let ⟨v, q1, q2⟩ := h3 j d q; ⟨v, q1, str _ _ q2⟩, fun q hq => str _ _ (h4 q hq)⟩
theorem turnT (h : DenE K (trk I [D] ct) b σ H env) (no : noOwn env = true) (nf : ¬ I.foot D) (e : ct' D = vs) : DenE K (trk I [D] ct') b σ (upd H D (.lst vs)) env := by
  obtain ⟨oa, h1, h2, h3, h4⟩ := h.slots
  have kp : Kp (AvOf (trk I [D] ct) env oa) H (upd H D (.lst vs)) := Kp.mut (.inl (.inr (List.mem_singleton.mpr rfl)))
  have kp0 : Kp (trk I [D] ct).own H (upd H D (.lst vs)) := Kp.mut (.inr (List.mem_singleton.mpr rfl))
  have sub : ∀ a, AvOf (trk I [D] ct') env oa a → AvOf (trk I [D] ct) env oa a := fun a z => z
  exact ⟨h.len, ⟨h.ext.1.trans kp0, I.loc H _ (fun x f => upd_ne fun z => nf (by rw [← z]; exact f)) h.ext.2.1, fun a ha => by rw [List.mem_singleton.mp ha, upd_same, e]⟩, oa, fun j xs q => absurd q (noOwn_get no), fun j k xs ys q => absurd q (noOwn_get no), fun j d q => let ⟨v, q1, q2⟩ := h3 j d q; ⟨v, q1, Den.weak sub _ _ (Den.keep kp _ _ q2)⟩, fun q hq => Den.weak sub _ _ (Den.keep kp _ _ (h4 q hq))⟩
end
section
variable {K : PySem.W.Frag} {g : Gx} {wi wj : TI} {gt gt2 : TG} {tt tj : TT} {te : TE} {vs ws : List Nat} {tid tid2 : TID} {gd gj : TGD} {td tjd : TTD} {ed : TED}
theorem xlx {J : HI} {b : B0} : XL K (nx J) b := fun _ _ _ _ _ _ _ _ _ h => h.elim
theorem sf_lc2 (hi : SI K g wi tid) (hg : ∀ J, SG K (nx J) gt gd) (hw : GW gt vs) (ht : ∀ J, ST K (nx J) tt td) (hj : ∀ J, SI K (nx J) wj tid2) (hg2 : ∀ J, SG K (nx J) gt2 gj) (hw2 : GW gt2 ws) (ht2 : ∀ J, ST K (nx J) tj tjd) (he : ∀ J, SE K (nx J) te ed) :
    SF K g (tLc2 wi gt tt wj gt2 tj te vs ws) (fLc2 tid gd td tid2 gj tjd ed vs ws) := fun b σ H env Qd Q hd xl hq k => by
  refine hi b σ H (frz env) _ _ hd.frz xl hq fun J H1 hws ds hd1 e1 it0 q => ?_
  intro D hD
  have hH : H D = none := e1.back hD
  have hE : DenE K g.I ⟨H1, hws⟩ (wipe σ vs) H1 (wipeD (frz env) vs) := (hd1.rebase (noOwn_frz env)).wiped vs
  have hno := noOwn_wipe (noOwn_frz env) vs
  have nf : ¬ g.I.foot D := fun z => g.I.dom H1 D e1.2 z hD
  let Z : List Dl.D → List Dl.D → Prop := fun xs acc => l2D gd td tid2 gj tjd ed ws (wipeD (frz env) vs) xs acc Qd
  let So : Hp → List V → List Dl.D → Prop := fun H' avs acc => DenE K (trk g.I [D] fun _ => avs) ⟨H1, hws⟩ (wipe σ vs) H' (wipeD (frz env) vs) ∧ DenA K (ownM g.I [D]) H' avs acc
  refine ⟨fun i m H' => m = ds.length - i ∧ i ≤ ds.length ∧ ∃ avs acc, So H' avs acc ∧ Z (ds.drop i) acc,
    ⟨ds.length, by simp, Nat.zero_le _, [], [], ⟨enter hE hno hD, by simp only [DenA]⟩, by simpa using q⟩, ?_⟩
  rintro i m H' ⟨rfl, hi', avs, acc, ⟨hT, da⟩, q'⟩
  obtain ⟨oa, h1, h2, h3, h4⟩ := id hT.slots
  have IT := it0 (ownM g.I [D]) H' (fun p hp => Den.weak (fun a z => .inl z) _ _ (h4 p hp)) (fun a z => (trk g.I [D] fun _ => avs).dom H' a hT.ok ((trk g.I [D] fun _ => avs).sub a z))
  by_cases hlt : i < ds.length
  · refine .inr ⟨(IT.1 i hlt).1, fun H2 => ∃ avs acc, So H2 avs acc ∧ Z (ds.drop (i + 1)) acc, fun H2 h => ⟨ds.length - (i + 1), by omega, rfl, hlt, h⟩, fun x H2 y => ?_⟩
    obtain ⟨kn, d, hd2, dn⟩ := (IT.1 i hlt).2 x H2 y
    have e2 : Dl.Ext (trk g.I [D] fun _ => avs) H' H2 := .ofNew hT.ok kn
    have q2 : Z (d :: ds.drop (i + 1)) acc := by
      rw [List.drop_eq_getElem_cons hlt] at q'
      have : d = ds[i] := by
        rw [List.getElem?_eq_getElem hlt] at hd2
        exact (Option.some.inj hd2).symm
      rw [this]; exact q'
    have held := (hT.mono e2).hold dn (.inl hno)
    have step := hw x (wipe σ vs) H2 _ (hg (trk g.I [D] fun _ => avs) _ (wipe σ vs) H2 _ x d _ (fun σ2 H3 => tt σ2 H3 fun b H4 => if b = true then wj σ2 H4 (fun J2 H5 =>
        ∃ U : Nat → Nat → Hp → Prop, (∃ m, U 0 m H5) ∧ ∀ j k H6, U j k H6 → (J2.stop j H6 ∧ ∃ avs acc, So H6 avs acc ∧ Z (ds.drop (i + 1)) acc) ∨ (J2.go j H6 ∧ ∃ Ny : Hp → Prop, (∀ H', Ny H' → ∃ k', k' < k ∧ U (j + 1) k' H') ∧
          ∀ y H', J2.yld j H6 y H' → gt2 y (wipe σ2 ws) H' fun σ7 H7 => wipe σ7 ws = wipe σ2 ws ∧ tj σ7 H7 fun b H8 => if b = true then te σ7 H8 fun z H9 => ∃ acc, H9 D = some (.lst acc) ∧ acc.length < sizeLine ∧ Ny (upd H9 D (.lst (acc ++ [z]))) else Ny H8))
        else ∃ avs acc, So H4 avs acc ∧ Z (ds.drop (i + 1)) acc) held q2 fun σ3 H3 env3 hd3 e3 q3 => ?_)
    · rw [wipe_idem vs] at step
      exact step
    · refine ht (trk g.I [D] fun _ => avs) _ σ3 H3 env3 _ _ hd3 xlx q3 fun c H4 e4 q4 => ?_
      have x4 : Dl.Ext (trk g.I [D] fun _ => avs) H' H4 := e2.trans (e3.trans e4)
      have so4 : So H4 avs acc := ⟨hT.mono x4, DenA.keep x4.1 _ _ da⟩
      cases c with
      | false =>
        rw [if_neg Bool.false_ne_true] at q4 ⊢
        exact ⟨avs, acc, so4, q4⟩
      | true =>
        rw [if_pos rfl] at q4 ⊢
        refine hj (trk g.I [D] fun _ => avs) _ σ3 H4 env3 _ _ (hd3.mono e4) xlx q4 fun J2 H5 hw5 es hd5 e5 it2 ⟨no3, q5⟩ => ?_
        have hE5 := hd5.wiped ws
        refine ⟨fun j k H6 => k = es.length - j ∧ j ≤ es.length ∧ ∃ avs2 acc2, So H6 avs2 acc2 ∧ DenE K (trk g.I [D] fun _ => avs2) ⟨H1, hw5 ++ hws⟩ (wipe σ3 ws) H6 (wipeD env3 ws) ∧ l2J gj tjd ed (wipeD env3 ws) (es.drop j) acc2 (Z (ds.drop (i + 1))),
          ⟨es.length, by simp, Nat.zero_le _, avs, acc, ⟨so4.1.mono e5, DenA.keep e5.1 _ _ so4.2⟩, hE5, by simpa using q5⟩, ?_⟩
        rintro j k H6 ⟨rfl, hj', avs2, acc2, ⟨hT6, da6⟩, hE6, q6⟩
        obtain ⟨oa6, a1, a2, a3, a4⟩ := id hE6.slots
        have IT2 := it2 (ownM g.I [D]) H6 (fun p hp => Den.weak (fun a z => .inl z) _ _ (a4 p (List.mem_append_left _ hp))) (fun a z => (trk g.I [D] fun _ => avs2).dom H6 a hT6.ok ((trk g.I [D] fun _ => avs2).sub a z))
        by_cases hlt2 : j < es.length
        · refine .inr ⟨(IT2.1 j hlt2).1, fun H7 => ∃ avs2 acc2, So H7 avs2 acc2 ∧ DenE K (trk g.I [D] fun _ => avs2) ⟨H1, hw5 ++ hws⟩ (wipe σ3 ws) H7 (wipeD env3 ws) ∧ l2J gj tjd ed (wipeD env3 ws) (es.drop (j + 1)) acc2 (Z (ds.drop (i + 1))), fun H7 h => ⟨es.length - (j + 1), by omega, rfl, hlt2, h⟩, fun y H7 y7 => ?_⟩
          obtain ⟨kn7, dy, hdy, dn7⟩ := (IT2.1 j hlt2).2 y H7 y7
          have e7 : Dl.Ext (trk g.I [D] fun _ => avs2) H6 H7 := .ofNew hT6.ok kn7
          have q7 : l2J gj tjd ed (wipeD env3 ws) (dy :: es.drop (j + 1)) acc2 (Z (ds.drop (i + 1))) := by
            rw [List.drop_eq_getElem_cons hlt2] at q6
            have : dy = es[j] := by
              rw [List.getElem?_eq_getElem hlt2] at hdy
              exact (Option.some.inj hdy).symm
            rw [this]; exact q6
          have held7 := (hE6.mono e7).hold dn7 (.inl no3)
          have step7 := hw2 y (wipe σ3 ws) H7 _ (hg2 (trk g.I [D] fun _ => avs2) _ (wipe σ3 ws) H7 _ y dy _ (fun σ7 H8 => tj σ7 H8 fun b H9 => if b = true then te σ7 H9 fun z HA => ∃ acc, HA D = some (.lst acc) ∧ acc.length < sizeLine ∧
              (∃ avs2 acc2, So (upd HA D (.lst (acc ++ [z]))) avs2 acc2 ∧ DenE K (trk g.I [D] fun _ => avs2) ⟨H1, hw5 ++ hws⟩ (wipe σ3 ws) (upd HA D (.lst (acc ++ [z]))) (wipeD env3 ws) ∧ l2J gj tjd ed (wipeD env3 ws) (es.drop (j + 1)) acc2 (Z (ds.drop (i + 1))))
            else ∃ avs2 acc2, So H9 avs2 acc2 ∧ DenE K (trk g.I [D] fun _ => avs2) ⟨H1, hw5 ++ hws⟩ (wipe σ3 ws) H9 (wipeD env3 ws) ∧ l2J gj tjd ed (wipeD env3 ws) (es.drop (j + 1)) acc2 (Z (ds.drop (i + 1)))) held7 q7 fun σ8 H8 env8 hd8 e8 q8 => ?_)
          · rw [wipe_idem ws] at step7
            exact step7
          · refine ht2 (trk g.I [D] fun _ => avs2) _ σ8 H8 env8 _ _ hd8 xlx q8 fun c H9 e9 q9 => ?_
            have x9 : Dl.Ext (trk g.I [D] fun _ => avs2) H6 H9 := e7.trans (e8.trans e9)
            cases c with
            | false =>
              rw [if_neg Bool.false_ne_true] at q9 ⊢
              exact ⟨avs2, acc2, ⟨hT6.mono x9, DenA.keep x9.1 _ _ da6⟩, hE6.mono x9, q9⟩
            | true =>
              rw [if_pos rfl] at q9 ⊢
              refine he (trk g.I [D] fun _ => avs2) _ σ8 H9 env8 _ _ (hd8.mono e9) xlx q9 fun yv yd HA eA dnA ⟨nl, few, qA⟩ => ?_
              have xA := x9.trans eA
              have daA := DenA.keep xA.1 _ _ da6
              have kp : Kp (ownM g.I [D]) HA (upd HA D (.lst (avs2 ++ [yv]))) := Kp.mut (.inr (List.mem_singleton.mpr rfl))
              refine ⟨avs2, eA.2.2 D (List.mem_singleton.mpr rfl), by rw [daA.len]; exact few, avs2 ++ [yv], acc2 ++ [yd], ⟨turnT (hT6.mono xA) hno nf rfl, DenA.keep kp _ _ (daA.app (.one dnA))⟩, turnT (hE6.mono xA) no3 nf rfl, qA⟩
        · have ej : j = es.length := by omega
          subst ej
          rw [List.drop_length] at q6
          exact .inl ⟨IT2.2, avs2, acc2, ⟨hT6, da6⟩, q6⟩
  · have ei : i = ds.length := by omega
    subst ei
    rw [List.drop_length] at q'
    have kp : Kp g.I.own H1 H' := fun a o n e => hT.ext.1 a o (fun z => z.elim n fun z => by rw [List.mem_singleton.mp z, hD] at e; cases e) e
    exact .inl ⟨IT.2, k D avs acc H' hH (e1.trans ⟨kp, hT.ext.2.1⟩) (hT.ext.2.2 D (List.mem_singleton.mpr rfl)) (DenA.weak (fun a z => z.imp id fun z => List.mem_singleton.mpr z) _ _ da) q'⟩
end
section
variable {X : Cx} {g : Gx} {elt ta ia tb ib : Expr} {fa fb : List Expr} {scope : Scope} {own : List (Str × Nat)} {ws : List Nat} {pos : Pos} {gt gt2 : TG} {tid tid2 : TID} {gd gj : TGD} {td tj : TTD} {ed : TED}
theorem f_lc2 (hc : X.calm = true) (hN : X.N.Nodup) (hi : PID X g ta ia tid) (ok : BlkOk X.N X.env.scope scope own) (sub : ∀ i ∈ ws, i ∈ own.map (·.2))
    (hg : ∀ (s : Shared) (H : Hp) (C : Addr) (cl : List (Str × Addr)) (fp : List Addr), PG (X.blk s H scope (compEnvC scope cl C X.env) fp) ta gt) (sg : ∀ J, SG X.K (nx J) gt gd) (gw : GW gt (own.map (·.2))) (ht : ∀ J, ST X.K (nx J) (wBT X scope fa) td)
    (hj : ∀ J, SI X.K (nx J) (Tf.wBI X scope tb ib) tid2)
    (hg2 : ∀ (s : Shared) (H : Hp) (C : Addr) (cl : List (Str × Addr)) (fp : List Addr), PG (X.blk s H scope (compEnvC scope cl C X.env) fp) tb gt2) (sg2 : ∀ J, SG X.K (nx J) gt2 gj) (gw2 : GW gt2 ws) (ht2 : ∀ J, ST X.K (nx J) (wBT X scope fb) tj)
    (he : ∀ J, SE X.K (nx J) (wBE X scope elt) ed) (hs : ∀ x, foldedSetIterable ia X.env x = pure x := by intro _; rfl) (hs2 : ∀ e x, foldedSetIterable ib e x = pure x := by intro _ _; rfl) :
    PFD X g (.ListComp elt [⟨ta, ia, fa, 0⟩, ⟨tb, ib, fb, 0⟩] scope pos) (fLc2 tid gd td tid2 gj tj ed (own.map (·.2)) ws) := fun b σ H env Qd Q hd xl hq k pins s J =>
  (pe_lc2 hc hN pi_w ok sub hg (fun _ _ _ _ _ => pt_blk) (fun _ _ _ _ _ => Tf.pi_blk) hg2 (fun _ _ _ _ _ => pt_blk) (fun _ _ _ _ _ => pe_blk) hs hs2).run pins s σ H Q J (sf_lc2 hi sg gw ht hj sg2 gw2 ht2 he b σ H env Qd Q hd xl hq k)
end
end Lc

namespace Fr
open PySem PySem.Spec PyProof.Rows L2 Dl In He
section
variable {P : Program} {w : World} {K : PySem.W.Frag} {mg : Str → Option Value} {base : Heap} {C : Addr} {Ok : D → Prop} {k : Nat}
end
section
variable {X : Cx} {g : Gx} {a b : Expr} {ta tb : TED} {pos : Pos} {C : Addr} {Ok : D → Prop} {j k : Nat}
end
end Fr

namespace Fr
open PySem PySem.Spec PyProof.Rows L2 Dl In He
section
variable {P : Program} {w : World} {K : PySem.W.Frag} {mg : Str → Option Value} {base : Heap} {C : Addr} {Ok : D → D → Bool → Prop} {k : Nat}
end
section
variable {X : Cx} {g : Gx} {C : Addr} {n : Nat}
end
section
variable {X : Cx} {g : Gx} {a b : Expr} {ta tb : TED} {pos : Pos} {C : Addr} {Ok : D → D → Bool → Prop} {j k : Nat}
end
end Fr

namespace Fr
open PySem PySem.Spec PyProof.Rows L2 Dl In He
def LenCl (P : Program) (w : World) (K : PySem.W.Frag) (mg : Str → Option Value) (base : Heap) (k : Nat) (C : Addr) (Ct : Ct) : Prop :=
  ∃ (fa : Addr) (fd : FuncData) (ps : List Str), FnOk P w K mg base (L2.CX P w) k fa fd ps (spOf K HI.plain 1 Ct) ∧ PySem.W.findIn K (.ref C) "__len__" = some (some (.ref fa)) ∧ PySem.W.isFn K (.ref fa) = true ∧ L2.Binds K fd ps []
def bLenI (C : Addr) (Ct : Ct) : FC := fun xs Q => ∃ (ns : List Str) (fs : List D) (n : Int), xs = [.obj (.ins C) ns fs] ∧ Ct [.obj (.ins C) ns fs] (fun d => d = .int n) (fun _ => False) ∧ 0 ≤ n ∧ n < 2 ^ 63 ∧ Q (.int n)
theorem env_in1 {P : Program} {w : World} {K : PySem.W.Frag} {mg : Str → Option Value} {base : Heap} {A : Around} {outer : List Env} {s : Shared} {H : Hp} (e : Env0 P w K mg base A outer s H) : Env0 P w K mg base A.in1 outer s H :=
  ⟨e.frames, e.mod, e.bs, e.bsz, e.funs, e.frf, e.hok, e.bare⟩
theorem c_lenI {X : Cx} {I : HI} {C : Addr} {Ct : Ct} {k j : Nat} (c : LenCl X.prog X.w X.K X.mg X.base k C Ct) (hr : Room j X.A) (hj : k + 1 ≤ j) : RC X I (.builtin "len") (bLenI C Ct) := fun H xs ds Qd Q ok dn ⟨ns, fs, n, e, hc, n0, n1, q⟩ kq => by
  subst e
  obtain ⟨fa, fd, ps, F, hs, hf, hb⟩ := c
  obtain ⟨v, rfl, d1⟩ := dn.one1
  have d0 := Den.weak (Bv := fun _ => False) (fun _ z => z.elim) _ _ d1
  simp only [Den] at d1
  obtain ⟨ws, hw, ⟨a, dx, rfl, ⟨_, ha⟩, _, hx⟩, da⟩ := d1
  intro pins s σ us J r
  obtain ⟨u, rfl, ru⟩ := vals1 r
  obtain rfl : u = Value.ref a := ru
  obtain ⟨mA, J1, _⟩ := ins_get J.hok ha
  obtain ⟨od, J2, _⟩ := J1.look
  obtain ⟨m, hF⟩ := J.fr
  refine PySem.W.len_K hF J.ok.mod.kin J2 hs hf ?_
  have hsp : spOf X.K HI.plain 1 Ct [.ref a] H (fun v H' => v = .int n ∧ Dl.Ext HI.plain H H') (fun _ _ _ => False) := by
    refine ⟨[.obj (.ins C) ns fs], fun d => d = .int n, fun _ => False, rfl, ?_, trivial, hc, fun v d H' e dv ed => ?_, fun _ _ _ _ _ z => z.elim⟩
    · simp only [DenA]
      exact ⟨_, _, rfl, d0, rfl⟩
    · subst ed
      simp only [Den] at dv
      exact ⟨dv, e⟩
  have hl := F.len _ _ _ _ hsp
  refine wpAny_call (codeAny_mono (F.run X.A.in1 X.stack s H ⟨[.ref a], []⟩ [.ref a] [.ref a] _ (fun _ _ _ => False) (hr.mono hj).in1 (env_in1 J.env0) (by
    have := hb s [.ref a] J.kIn (by simpa using hl)
    simpa using this) (.cons rfl .nil) hsp) fun r s' hq => ?_)
  cases r with
  | error e =>
    obtain ⟨_, _, _, _, _, _, _, _, _, _, _, _, z⟩ := hq
    exact z.elim
  | ok fl =>
    cases fl with
    | next => exact hq.elim
    | brk => exact hq.elim
    | cont => exact hq.elim
    | ret u =>
      obtain ⟨z, H', I', rz, ez, ex⟩ := J.after hq
      subst ez
      obtain ⟨t, rfl⟩ := rz
      have ee : Dl.Ext I H H' := ⟨fun u o _ z => ex.1 u o (fun f => f) z, I.loc H H' (fun u f => by
        cases hu : H u with
        | none => exact absurd hu (I.dom H u ok f)
        | some o => exact ex.1 u o (fun f => f) hu) ok⟩
      exact ⟨⟨n0, n1⟩, .int n, H', I'.tok _, ⟨_, rfl⟩, kq _ _ H' ee (by simp only [Den]) q⟩
end Fr

namespace K32
open PySem PySem.Spec PyProof.Rows L2 Dl
end K32
namespace Fr
open PySem PySem.Spec PyProof.Rows L2 Dl
end Fr

namespace Dl
open PySem PySem.Spec PyProof.Rows L2 He
end Dl

namespace Dl
open PySem PySem.Spec PyProof.Rows L2 He
theorem obsX_eq {l : List Addr} {fa : List Fa} {fn : List DefD} {ex : PySem.W.Frag → Bool} {ts : List TabY} {g : Addr → Option Obj} {s : Shared} (h : ∀ a, g a = s.heap.get? a) : obsX l fa fn ex ts g = (hookX l fa fn ex ts).obs s := by
  have e : g = s.heap.get? := funext h
  rw [e] <;> rfl
end Dl

namespace K32
open PySem PySem.Spec PyProof.Rows L2 Dl
theorem ob_eq (s : PySem.W.SharedT) : ob s = hk.obs s.abs := obsX_eq (HandSHeadRun.getT_eq s)
end K32

namespace Dl
open PySem PySem.Spec PyProof.Rows L2 Zs
def topI : List Int → Int
  | [] => -1
  | n :: ns => if topI ns < n then n else topI ns
def isSeqI (x : D) (ns : List Int) : Prop := seqOf x = some (ns.map D.int)
structure Std (ns : List Int) : Prop where
  pos : ∀ n ∈ ns, 0 ≤ n
  few : ns.length ≤ 7
  full : ((canon ns).length : Int) = topI ns + 1
def rankIn (cs : List Int) (n : Int) : Int := ((cs.findIdx fun c => c == n : Nat) : Int)
def ranksOf (ns : List Int) : List Int := ns.map (rankIn (canon ns))
end Dl

namespace Rk
open Dl Zs
section
variable {α β : Type} {lt : α → α → Prop} {lt' : β → β → Prop} {ks : List α} {ks' : List β} {rs rs' : List Int}
end
section
variable {α : Type} [BEq α] [LawfulBEq α] {lt : α → α → Prop} {ks S : List α}
theorem idx_lo {k : α} {j : Nat} (h : j < S.findIdx (fun c => c == k)) : S[j]? ≠ some k := fun e => by
  have := List.not_of_lt_findIdx h
  obtain ⟨hj, e2⟩ := List.getElem?_eq_some_iff.mp e
  rw [e2] at this
  simp at this
end
end Rk

namespace K09
open PySem Dl Zs Rk
def at_ (d : List Int) (i : Int) : Int := d.getD i.toNat 0
def pick (ps xs : List Int) : List Int := ps.map (at_ xs)
def iMF (b : Int) : Nat → List Int → List Int
  | _, [] => []
  | i, e :: es => if e = b then iMF b (i + 1) es else (i : Int) :: iMF b (i + 1) es
abbrev iM (L : List Int) (b : Int) : List Int := iMF b 0 L
def mom (L : List Int) (b : Int) (rs : List Int) : List Int := rs.map (at_ (iM L b))
def off (d : Str) (a b : Int) : Int := if d = "odd" ∧ a = b then 1 else if d = "common" ∧ a ≠ b then (if b < a then 1 else 2) else 0
def key (d : Str) (a b : Int) : Int := 3 * min a b + off d a b
def made (d : Str) (ns ms L : List Int) : List Int := ranksOf (List.zipWith (key d) (mom L 1 ns) (mom L 0 ms))
end K09

namespace Zs
open PySem PySem.Spec PyProof.Rows L2 Dl
end Zs

namespace Rd
open PySem PySem.Spec PyProof.Rows L2 Dl Ns Zs
section
variable {env : DEnv} {Q : D → Prop} {R : Bool → Prop} {L : List D → Prop} {i : Nat} {td ta tb : TED} {tr : TAD} {t u : TTD} {Dd : DEnds} {ss st : TSD} {f : TFD}
theorem rVar {s : Slot} {d : D} (h1 : env[i]? = some s) (h2 : rdSlot s = some d) (q : Q d) : dVar i env Q := ⟨s, d, h1, h2, q⟩
theorem rC {d : D} (q : Q d) : dC d env Q := q
theorem rNil (q : L []) : dNil env L := q
theorem rCons (q : td env fun x => tr env fun xs => L (x :: xs)) : dCons td tr env L := q
theorem rInts {ns : List Int} (q : L (ns.map D.int)) : dInts ns env L := q
theorem rOp {o : F2} (q : ta env fun x => tb env fun y => o x y Q) : dOp o ta tb env Q := q
theorem rUn {r : D → (D → Prop) → Prop} (q : ta env fun x => r x Q) : dUn r ta env Q := q
theorem rNeg {h : Int → Int} {i : Int} (q : Q (.int (h i))) : fUn h (.int i) Q := ⟨i, rfl, q⟩
theorem rTest (q : td env fun d => ∃ c, d = .bl c ∧ R c) : dTest td env R := q
theorem rB (q : td env fun d => ∃ c, d = .bl c ∧ R c) : dB td env R := q
theorem rEx {b : Bool} (q : R b) : ∃ c, D.bl b = D.bl c ∧ R c := ⟨b, rfl, q⟩
theorem rAnd (q : t env fun c => if c = true then u env R else R false) : dAnd t u env R := q
theorem rOr (q : t env fun c => if c = true then R true else u env R) : dOr t u env R := q
theorem rNot (q : t env fun c => R (!c)) : dNot t env R := q
theorem rYes (q : R true) : dYes env R := q
theorem rAndV (q : ta env fun x => ∃ c, x = .bl c ∧ if c = true then tb env Q else Q (.bl false)) : dAndV ta tb env Q := q
theorem rOrV (q : ta env fun x => ∃ c, x = .bl c ∧ if c = true then Q (.bl true) else tb env Q) : dOrV ta tb env Q := q
theorem rNotV (q : ta env fun x => ∃ c, x = .bl c ∧ Q (.bl (!c))) : dNotV ta env Q := q
theorem rIfE (q : t env fun c => if c = true then ta env Q else tb env Q) : dIf t ta tb env Q := q
theorem rTup (q : tr env fun xs => xs.length ≤ sizeLine ∧ Q (.tup xs)) : dTup tr env Q := q
theorem rLst (q : tr env fun xs => xs.length ≤ sizeLine ∧ Q (.lst xs)) : dLst tr env Q := q
theorem rFLst (q : tr env fun xs => xs.length ≤ sizeLine ∧ L xs) : fLst tr env L := q
theorem rSz {n : Nat} {p : Prop} (h : n ≤ sizeLine) (q : p) : n ≤ sizeLine ∧ p := ⟨h, q⟩
theorem rF (q : f env fun ds => Q (.lst ds)) : dF f env Q := q
theorem rCB {r : FC} (q : tr env fun xs => r xs Q) : dCB r tr env Q := q
theorem rCall {C : Ct} {dds : List D} {Ed : DEnv → Exc → Prop} (q : tr env fun xs => C (xs ++ dds) Q (Ed env)) : dCall C dds Ed tr env Q := q
theorem rSl {lo hi : TOD} (q : td env fun x => lo env fun l => hi env fun h => fSl x l h Q) : dSl td lo hi env Q := q
theorem rNoP {P : Option Int → Prop} (q : P none) : dNoP env P := q
theorem rPart {P : Option Int → Prop} (q : td env fun x => ∃ i, x = .int i ∧ P (some i)) : dPart td env P := q
theorem rExI {P : Int → Prop} {j : Int} (q : P j) : ∃ i, D.int j = D.int i ∧ P i := ⟨j, rfl, q⟩
theorem rSub {h : Int → Int → D} {a b : Int} (q : Q (h a b)) : fI0 h (.int a) (.int b) Q := ⟨a, b, rfl, rfl, q⟩
theorem rFI {C : Int → Int → Prop} {h : Int → Int → D} {a b : Int} (c : C a b) (q : Q (h a b)) : fI C h (.int a) (.int b) Q := ⟨a, b, rfl, rfl, c, q⟩
theorem rAdd {a b : Int} (q : Q (.int (a + b))) : fAdd (.int a) (.int b) Q := q
theorem rLt {a b : Int} {o : List Int → List Int → Bool} {p : Int → Int → Bool} (q : Q (.bl (p a b))) : fOrd p o (.int a) (.int b) Q := .inl ⟨a, b, rfl, rfl, q⟩
theorem rEqI {a b : Int} {neg : Bool} (q : Q (.bl (xr neg (decide (a = b))))) : fEq neg (.int a) (.int b) Q := ⟨okI_int.ok, okI_int.ok, by rw [eqD_int]; exact q⟩
theorem rLenT {xs : List D} (q : Q (.int xs.length)) : bLen [.tup xs] Q := len_tup q
theorem rLenL {xs : List D} (q : Q (.int xs.length)) : bLen [.lst xs] Q := len_lst q
theorem rTupL {xs : List D} (q : Q (.tup xs)) : bTup [.lst xs] Q := ⟨_, rfl, q⟩
theorem rLstT {xs : List D} (q : Q (.lst xs)) : bLst [.tup xs] Q := ⟨_, rfl, q⟩
theorem rSeq (q : ss { Dd with nx := st Dd } env) : sSeq ss st Dd env := q
theorem rNext (q : Dd.nx env) : sNext Dd env := q
theorem rRet (q : td env Dd.rt) : sRet td Dd env := q
theorem rIf (q : t env fun b => if b = true then ss Dd env else st Dd env) : sIf t ss st Dd env := q
theorem rAsg (q : td env fun d => keepable env i d ∧ Dd.nx (env.set i (.val d))) : sAsg i td Dd env := q
theorem rKeep {d : D} {p : Prop} (k : keepable env i d) (q : p) : keepable env i d ∧ p := ⟨k, q⟩
theorem rNew (q : f env fun ds => i < env.length ∧ (noOwn (env.set i .no) = true ∨ noLstA ds = true) ∧ Dd.nx (env.set i (.own ds))) : sNew i f Dd env := q
theorem rNewK {ds : List D} {p : Prop} (h : i < env.length) (k : noOwn (env.set i .no) = true ∨ noLstA ds = true) (q : p) : i < env.length ∧ (noOwn (env.set i .no) = true ∨ noLstA ds = true) ∧ p := ⟨h, k, q⟩
theorem rYesT {p q : Prop} (k : p) : if true = true then p else q := k
theorem rNoT {p q : Prop} (k : q) : if false = true then p else q := k
theorem rLc {tid : TID} {gd : TGD} {vs : List Nat} (q : tid (frz env) fun ds => ds.length ≤ 1000000 ∧ lcD gd t ta (wipeD (frz env) vs) ds [] L) : fLc tid gd t ta vs env L := q
theorem rSeqI (q : td env fun d => (noOwn env = true ∨ d.noLst = true) ∧ ∃ ds, seqOf d = some ds ∧ L ds) : idSeq td env L := q
theorem rDrop (q : td env fun _ => Dd.nx env) : sDrop td Dd env := q
theorem rApp {xs : List D} (h : env[i]? = some (.own xs)) (q : td env fun d => d.noLst = true ∧ xs.length < sizeLine ∧ Dd.nx (env.set i (.own (xs ++ [d])))) : sApp i td Dd env := ⟨xs, h, q⟩
theorem rFor {tid : TID} {gd : TGD} (q : tid env fun ds => forD gd ss Dd ds env) : sFor tid gd ss Dd env := q
theorem rGdN {d : D} {P : DEnv → Prop} (q : P (env.set i (.val d))) : gdName i d env P := q
theorem rGdT {is : List Nat} {ds : List D} {P : DEnv → Prop} (h : ds.length = is.length) (q : P (putAll is ds env)) : gdTup is (.tup ds) env P := ⟨ds, rfl, h, q⟩
theorem rN1 {p q : Prop} (k : q) : if (!true) = true then p else q := k
theorem rN2 {p q : Prop} (k : p) : if (!false) = true then p else q := k
theorem rX1 {p q : Prop} (k : p) : if xr false true = true then p else q := k
theorem rX2 {p q : Prop} (k : q) : if xr false false = true then p else q := k
theorem rX3 {p q : Prop} (k : q) : if xr true true = true then p else q := k
theorem rX4 {p q : Prop} (k : p) : if xr true false = true then p else q := k
theorem rVarI {d : D} {ds : List D} (h1 : env[i]? = some (.val d)) (h2 : seqOf d = some ds) (q : L ds) : idVar i env L := ⟨d, ds, h1, h2, q⟩
theorem rRng {Q1 : List D → Prop} (q : tr env fun xs => ∃ j : Int, xs = [.int j] ∧ (-(2 ^ 62) ≤ j ∧ j < 2 ^ 62) ∧ Q1 (rngD 0 j.toNat)) : idRng1 tr env Q1 := q
end
end Rd

local macro_rules
  | `(tactic| decreasing_trivial_pre_omega) => `(tactic| first
  | ((with_reducible apply Rd.rVar); (rfl); (rfl))
  | (with_reducible refine Rd.rC ?_)
  | (with_reducible refine Rd.rCons ?_)
  | (with_reducible refine Rd.rNil ?_)
  | (with_reducible refine Rd.rInts ?_)
  | (with_reducible refine Rd.rOp ?_)
  | (with_reducible refine Rd.rUn ?_)
  | (with_reducible refine Rd.rNeg ?_)
  | (with_reducible refine Rd.rTest ?_)
  | (with_reducible refine Rd.rB ?_)
  | (with_reducible refine Rd.rEx ?_)
  | (with_reducible refine Rd.rAnd ?_)
  | (with_reducible refine Rd.rOr ?_)
  | (with_reducible refine Rd.rNot ?_)
  | (with_reducible refine Rd.rYes ?_)
  | (with_reducible refine Rd.rAndV ?_)
  | (with_reducible refine Rd.rOrV ?_)
  | (with_reducible refine Rd.rNotV ?_)
  | (with_reducible refine Rd.rIfE ?_)
  | (with_reducible refine Rd.rTup ?_)
  | (with_reducible refine Rd.rLst ?_)
  | (with_reducible refine Rd.rFLst ?_)
  | ((with_reducible refine Rd.rSz ?_ ?_); (first | decide | exact of_decide_eq_true rfl))
  | (with_reducible refine Rd.rF ?_)
  | (with_reducible refine Rd.rCB ?_)
  | (with_reducible refine Rd.rCall ?_)
  | (with_reducible refine Rd.rSl ?_)
  | (with_reducible refine Rd.rNoP ?_)
  | (with_reducible refine Rd.rPart ?_)
  | (with_reducible refine Rd.rExI ?_)
  | (with_reducible refine Rd.rSub ?_)
  | (with_reducible refine Rd.rAdd ?_)
  | (with_reducible refine Rd.rLt ?_)
  | (with_reducible refine Rd.rEqI ?_)
  | (with_reducible refine Rd.rLenT ?_)
  | (with_reducible refine Rd.rLenL ?_)
  | (with_reducible refine Rd.rTupT ?_)
  | (with_reducible refine Rd.rTupL ?_)
  | (with_reducible refine Rd.rLstT ?_)
  | (with_reducible refine Rd.rLstL ?_)
  | (with_reducible refine Rd.rSeq ?_)
  | (with_reducible refine Rd.rNext ?_)
  | (with_reducible refine Rd.rRet ?_)
  | (with_reducible refine Rd.rIf ?_)
  | (with_reducible refine Rd.rAsg ?_)
  | ((with_reducible refine Rd.rKeep ?_ ?_); (first | exact Or.inl rfl | exact Or.inr rfl | assumption))
  | (with_reducible refine Rd.rNew ?_)
  | ((with_reducible refine Rd.rNewK ?_ ?_ ?_); (exact Nat.le_of_ble_eq_true rfl); (first | exact Or.inl rfl | exact Or.inr rfl | assumption))
  | (with_reducible refine Rd.rYesT ?_)
  | (with_reducible refine Rd.rNoT ?_)
  | (with_reducible refine Rd.rN1 ?_)
  | (with_reducible refine Rd.rN2 ?_)
  | (with_reducible refine Rd.rX1 ?_)
  | (with_reducible refine Rd.rX2 ?_)
  | (with_reducible refine Rd.rX3 ?_)
  | (with_reducible refine Rd.rX4 ?_)
  | (with_reducible refine Rd.rLc ?_)
  | (with_reducible refine Rd.rDn ?_)
  | (with_reducible refine Rd.rEnum ?_)
  | (with_reducible refine Rd.rSeqI ?_)
  | (with_reducible refine Rd.rDrop ?_)
  | (with_reducible refine Rd.rFor ?_)
  | ((with_reducible apply Rd.rVarI); (rfl); (rfl))
  | (with_reducible refine Rd.rGdN ?_)
  | ((with_reducible refine Rd.rGdT ?_ ?_); (rfl))
  | (with_reducible refine Rd.rRng ?_))
namespace K12
open PySem PySem.Spec PyProof.Rows L2 Dl Ns Zs Rk
abbrev tLt (a b : List Int) : Prop := HT.lexLt a b = true
abbrev at_ (d : List Int) (i : Int) : Int := K09.at_ d i
abbrev pick (ps xs : List Int) : List Int := K09.pick ps xs
abbrev tI (ns : List Int) : D := .tup (ns.map D.int)
def SN (n : Nat) (t : List Int) : Prop := Std t ∧ t.length = n
structure Ms (n : Nat) (ms : List (List Int)) : Prop where
  few : n ≤ 4
  asc : ms.Pairwise tLt
  std : ∀ t ∈ ms, SN n t
  len : ms.length ≤ 30
def relD (K : PySem.W.Frag) (n : Nat) (ms : List (List Int)) : D := .obj (.ins (He.ga K "Relation")) ["places", "members"] [.int n, .tup (ms.map tI)]
def iota (n : Nat) : List Int := (List.range n).map fun (i : Nat) => (i : Int)
def front (t : List Int) : List Int := (iota t.length).filter fun i => decide (at_ t i = 0)
def outs (left lot : List Int) : List Int := left.filter fun p => !decide (p ∈ lot)
def cut (t ps : List Int) : List Int := ranksOf (pick ps t)
def Lots (ms : List (List Int)) (L : List (List Int)) : Prop := L.Pairwise lotLt ∧ ∀ l, l ∈ L ↔ l ≠ [] ∧ ∃ t ∈ ms, front t = l
def Rest (n : Nat) (ms : List (List Int)) (lot : List Int) (ms' : List (List Int)) : Prop := ms'.Pairwise tLt ∧ ∀ u, u ∈ ms' ↔ ∃ t ∈ ms, front t = lot ∧ cut t (outs (iota n) lot) = u
def intsOf : List D → List Int
  | .int i :: r => i :: intsOf r
  | _ => []
def lotBad (left : List Int) (pre : List D) (d : D) : Bool := !isWh d .non .non || (!anyD (left.map D.int) d || anyD pre d)
def takenOf (left : List Int) (lot : D) : Option (List Int) := match seqOf lot with
  | none => none
  | some xs => if xs.length = 0 then none else match fstBad (lotBad left) [] xs with
    | some _ => none
    | none => some ((canon (intsOf xs)).map (rankIn left))
def hasLot (ms : List (List Int)) (ts : List Int) : Bool := ms.any fun t => front t == ts
def Left (n : Nat) (left : List Int) : Prop := Up left ∧ ∀ p ∈ left, 0 ≤ p ∧ p < (n : Int)
def isGot (left : List Int) (ms : List (List Int)) (lot : D) (Q : List Int → Prop) (N : Prop) : Prop := match takenOf left lot with
  | none => N
  | some ts => if hasLot ms ts = true then Q ts else N
def aft (Q : List Int → List (List Int) → Prop) (E : Nat → Prop) : List Int → List (List Int) → Nat → List D → Prop
  | left, ms, _, [] => Q left ms
  | left, ms, i, lot :: r => isGot left ms lot (fun ts => ∀ ms', Rest left.length ms ts ms' → aft Q E (outs left (intsOf ((seqOf lot).getD []))) ms' (i + 1) r) (E i)
def lay (t : List Int) (r : Int) : List Int := (iota t.length).filter fun i => decide (at_ t i = r)
def layers (t : List Int) : List (List Int) := ((iota t.length).map (lay t)).filter fun l => !decide (l = [])
end K12

namespace K12
open PySem PySem.Spec PyProof.Rows L2 Dl Ns Zs Rk
structure Tf (K : PySem.W.Frag) (mg : Str → Option Value) : Prop where
  n_ValueError : mg "ValueError" = none
  n_abs : mg "abs" = none
  n_bool : mg "bool" = none
  n_enumerate : mg "enumerate" = none
  n_int : mg "int" = none
  n_isinstance : mg "isinstance" = none
  n_len : mg "len" = none
  n_list : mg "list" = none
  n_max : mg "max" = none
  n_min : mg "min" = none
  n_range : mg "range" = none
  n_set : mg "set" = none
  n_sorted : mg "sorted" = none
  n_tuple : mg "tuple" = none
  g_BadClosing : mg "BadClosing" = some (.ref (He.ga K "BadClosing"))
  g_BadLot : mg "BadLot" = some (.ref (He.ga K "BadLot"))
  g_BadStanding : mg "BadStanding" = some (.ref (He.ga K "BadStanding"))
  g_BadStray : mg "BadStray" = some (.ref (He.ga K "BadStray"))
  g_DateError : mg "DateError" = some (.ref (He.ga K "DateError"))
  g_NoLot : mg "NoLot" = some (.ref (He.ga K "NoLot"))
  g_Relation : mg "Relation" = some (.ref (He.ga K "Relation"))
  i_MOST_PLACES : ∃ t, mg "MOST_PLACES" = some (.int (7) t)
  i_MOST_RELATED : ∃ t, mg "MOST_RELATED" = some (.int (4) t)
end K12

namespace K12
open PySem PySem.Spec PyProof.Rows L2 Dl Ns Zs Rk
abbrev N_is_whole : List Str := ["thing", "low", "high"]
def d_is_whole (K : PySem.W.Frag) (Ed : DEnv → Exc → Prop) : TSD := sSeq (sIf (dOr (dB (dCB bIsi (dCons (dVar 0) (dCons (dC (.ty "bool")) (dNil))))) (dNot (dB (dCB bIsi (dCons (dVar 0) (dCons (dC (.ty "int")) (dNil))))))) (sRet (dC (.bl false))) (sNext)) (sRet (dAndV (dOrV (dOp (fIs false) (dVar 1) (dC .non)) (dOp fGe (dVar 0) (dVar 1))) (dOrV (dOp (fIs false) (dVar 2) (dC .non)) (dOp fLe (dVar 0) (dVar 2)))))
end K12

namespace K12
open PySem PySem.Spec PyProof.Rows L2 Dl Ns Zs Rk
end K12

namespace K12
open PySem PySem.Spec PyProof.Rows L2 Dl Ns Zs Rk
end K12

namespace K12
open PySem PySem.Spec PyProof.Rows L2 Dl Ns Zs Rk
end K12

namespace K12
open PySem PySem.Spec PyProof.Rows L2 Dl Ns Zs Rk
end K12

namespace K12
open PySem PySem.Spec PyProof.Rows L2 Dl Ns Zs Rk
end K12

namespace K12
open PySem PySem.Spec PyProof.Rows L2 Dl Ns Zs Rk
end K12

namespace K12
open PySem PySem.Spec PyProof.Rows L2 Dl Ns Zs Rk
end K12

namespace K12
open PySem PySem.Spec PyProof.Rows L2 Dl Ns Zs Rk
end K12

namespace K12
open PySem PySem.Spec PyProof.Rows L2 Dl Ns Zs Rk
end K12

namespace K12
open PySem PySem.Spec PyProof.Rows L2 Dl Ns Zs Rk
end K12

namespace K12
open PySem PySem.Spec PyProof.Rows L2 Dl Ns Zs Rk
end K12

namespace K12
open PySem PySem.Spec PyProof.Rows L2 Dl Ns Zs Rk
end K12

namespace K12
open PySem PySem.Spec PyProof.Rows L2 Dl Ns Zs Rk
end K12

namespace K12
open PySem PySem.Spec PyProof.Rows L2 Dl Ns Zs Rk
end K12

namespace K12
open PySem PySem.Spec PyProof.Rows L2 Dl Ns Zs Rk
end K12

namespace K12
open PySem PySem.Spec PyProof.Rows L2 Dl Ns Zs Rk
end K12

namespace K12
open PySem PySem.Spec PyProof.Rows L2 Dl Ns Zs Rk
end K12

namespace K12
open PySem PySem.Spec PyProof.Rows L2 Dl Ns Zs Rk
abbrev N__law_hand : List Str := ["_law_script", "_law_total", "_law_k", "_law_cell"]
end K12

namespace K12
open PySem PySem.Spec PyProof.Rows L2 Dl Ns Zs Rk
end K12

namespace K12
open PySem PySem.Spec PyProof.Rows L2 Dl Ns Zs Rk
end K12

namespace K12
open PySem PySem.Spec PyProof.Rows L2 Dl Ns Zs Rk
end K12

namespace K12
open PySem PySem.Spec PyProof.Rows L2 Dl Ns Zs Rk
end K12

namespace K12
open PySem PySem.Spec PyProof.Rows L2 Dl Ns Zs Rk
end K12

namespace K12
open PySem PySem.Spec PyProof.Rows L2 Dl Ns Zs Rk
end K12

namespace K12
open PySem PySem.Spec PyProof.Rows L2 Dl Ns Zs Rk
end K12

namespace K12
open PySem PySem.Spec PyProof.Rows L2 Dl Ns Zs Rk
end K12

namespace K12
open PySem PySem.Spec PyProof.Rows L2 Dl Ns Zs Rk
end K12

namespace K12
open PySem PySem.Spec PyProof.Rows L2 Dl Ns Zs Rk
end K12

namespace K12
open PySem PySem.Spec PyProof.Rows L2 Dl Ns Zs Rk
end K12

namespace K12
open PySem PySem.Spec PyProof.Rows L2 Dl Ns Zs Rk
end K12

namespace K12
open PySem PySem.Spec PyProof.Rows L2 Dl Ns Zs Rk
end K12

namespace K12
open PySem PySem.Spec PyProof.Rows L2 Dl Ns Zs Rk
end K12

namespace K12
open PySem PySem.Spec PyProof.Rows L2 Dl Ns Zs Rk
end K12

namespace K12
open PySem PySem.Spec PyProof.Rows L2 Dl Ns Zs Rk
end K12

namespace K12
open PySem PySem.Spec PyProof.Rows L2 Dl Ns Zs Rk
end K12

namespace K12
open PySem PySem.Spec PyProof.Rows L2 Dl Ns Zs Rk
end K12

namespace K12
open PySem PySem.Spec PyProof.Rows L2 Dl Ns Zs Rk
end K12

namespace K12
open PySem PySem.Spec PyProof.Rows L2 Dl Ns Zs Rk
end K12

namespace K12
open PySem PySem.Spec PyProof.Rows L2 Dl Ns Zs Rk
end K12

namespace K12
open PySem PySem.Spec PyProof.Rows L2 Dl Ns Zs Rk
end K12

namespace K12
open PySem PySem.Spec PyProof.Rows L2 Dl Ns Zs Rk
end K12

namespace K12
open PySem PySem.Spec PyProof.Rows L2 Dl Ns Zs Rk
end K12

namespace K12
open PySem PySem.Spec PyProof.Rows L2 Dl Ns Zs Rk
end K12

namespace K12
open PySem PySem.Spec PyProof.Rows L2 Dl Ns Zs Rk
end K12

namespace K12
open PySem PySem.Spec PyProof.Rows L2 Dl Ns Zs Rk
end K12

namespace K12
open PySem PySem.Spec PyProof.Rows L2 Dl Ns Zs Rk
end K12

namespace K12
open PySem PySem.Spec PyProof.Rows L2 Dl Ns Zs Rk
end K12

namespace K12
open PySem PySem.Spec PyProof.Rows L2 Dl Ns Zs Rk
end K12

namespace K12
open PySem PySem.Spec PyProof.Rows L2 Dl Ns Zs Rk
end K12

namespace K12
open PySem PySem.Spec PyProof.Rows L2 Dl Ns Zs Rk
end K12

namespace K12
open PySem PySem.Spec PyProof.Rows L2 Dl Ns Zs Rk
abbrev N_law : List Str := ["_law_script", "_law_hand_here", "_law_places_here", "_law_members", "_law_relation_here", "_law_lots_here", "_law_turn", "_law_number", "_law_thing", "_law_lot", "_law_due", "_law_place"]
end K12


namespace K65
open PySem PySem.Spec PyProof.Rows L2 Dl Ns Zs Rk
def exc0 (K : PySem.W.Frag) (c : Str) : Exc := ⟨He.ga K c, none⟩
abbrev tLt (a b : List Int) : Prop := HT.lexLt a b = true
structure RuleT where
  prem : List (Int × Int)
  fin : Option (Int × Int)
def coupD (p : Int × Int) : D := tupI [p.1, p.2]
def finD : Option (Int × Int) → D
  | none => .tup [.str "never"]
  | some p => .tup [.str "not after", .int p.1, .int p.2]
def ruleD (r : RuleT) : D := .tup [.tup (r.prem.map coupD), finD r.fin]
def inP (n : Nat) (p : Int × Int) : Prop := (0 ≤ p.1 ∧ p.1 < n) ∧ 0 ≤ p.2 ∧ p.2 < n
def inN (n : Nat) (r : RuleT) : Prop := (∀ p ∈ r.prem, inP n p) ∧ ∀ p, r.fin = some p → inP n p
def at_ (d : List Int) (i : Int) : Int := d.getD i.toNat 0
def C__law_rule (K : PySem.W.Frag) (hd : Addr) : Ct := fun ds Q _ => ∃ n : Nat, ds = [.ref hd, .int n] ∧ 1 ≤ n ∧ n ≤ 5 ∧ ∀ r, inN n r → r.prem.length ≤ 4 → Q (ruleD r)
def wordOf (K : PySem.W.Frag) (Q : D → Prop) (x : Exc) : Prop := (∃ i, x = excI K "BadStanding" i ∧ Q (.tup [.str "standing", .int i])) ∨ (x = exc0 K "BadCut" ∧ Q (.str "cut")) ∨ (x = exc0 K "OtherPlaces" ∧ Q (.str "places"))
end K65

namespace K65
open PySem PySem.Spec PyProof.Rows L2 Dl Ns Zs Rk
end K65


namespace K12
open PySem PySem.Spec PyProof.Rows L2 Dl Ns Zs Rk Rd
abbrev eK (Qd : D → Prop) : DEnds := ⟨fun _ => Qd .non, Qd, fun _ => False, fun _ => False, fun xs => Qd (.lst xs)⟩
theorem tm_all {n : String} (h : n ∈ tyNames) {t : String} {x : D} {Q : D → Prop} (e : x.tyn = some t) (q : Q (.bl (isiB t n))) : bIsi [x, .ty n] Q := ⟨_, _, rfl, t, e, h, q⟩
theorem wh_other {x lo hi : D} {t : String} (e : x.tyn = some t) (h : ∀ i, x ≠ .int i) : isWh x lo hi = false ∧ (isiB t "bool" = true ∨ (isiB t "bool" = false ∧ isiB t "int" = false)) := by
  cases x with
  | int i => exact absurd rfl (h i)
  | obj k ns ds => cases k <;> first | (simp only [D.tyn, tynK, Option.some.injEq, reduceCtorEq] at e; done) | (simp only [D.tyn, tynK, Option.some.injEq] at e; subst e; exact ⟨rfl, .inr ⟨rfl, rfl⟩⟩)
  | bl b => simp only [D.tyn, Option.some.injEq] at e; subst e; exact ⟨rfl, .inl rfl⟩
  | _ => first | (simp only [D.tyn, Option.some.injEq, reduceCtorEq] at e; done) | (simp only [D.tyn, Option.some.injEq] at e; subst e; exact ⟨rfl, .inr ⟨rfl, rfl⟩⟩)
theorem ct_is_whole {K : PySem.W.Frag} {ds : List D} {Qd : D → Prop} {Ed : Exc → Prop} (h : C_is_whole K ds Qd Ed) : d_is_whole K (fun _ x => Ed x) (eK Qd) (startD N_is_whole ds) := by
  obtain ⟨x, lo, hi, rfl, hx, h1, h2, q⟩ := h
  obtain ⟨t, ht⟩ := Option.isSome_iff_exists.mp hx
  by_cases hn : ∃ i, x = .int i
  · obtain ⟨n, rfl⟩ := hn
    have e : t = "int" := (Option.some.inj ht).symm
    subst e
    unfold d_is_whole
    (repeat decreasing_trivial_pre_omega)
    refine tm_all (by simp [tyNames]) rfl ?_
    (repeat decreasing_trivial_pre_omega)
    refine it_f (by decide) ?_
    (repeat decreasing_trivial_pre_omega)
    refine tm_all (by simp [tyNames]) rfl ?_
    (repeat decreasing_trivial_pre_omega)
    refine it_f (by decide) ?_
    cases lo <;> simp only [isOpt] at h1 <;> cases hi <;> simp only [isOpt] at h2
    · (repeat decreasing_trivial_pre_omega)
      refine ⟨_, rfl, it_t rfl ?_⟩
      (repeat decreasing_trivial_pre_omega)
      refine ⟨_, rfl, it_t rfl ?_⟩
      exact q
    · rename_i b
      (repeat decreasing_trivial_pre_omega)
      refine ⟨_, rfl, it_t rfl ?_⟩
      (repeat decreasing_trivial_pre_omega)
      refine ⟨_, rfl, it_f rfl ?_⟩
      (repeat decreasing_trivial_pre_omega)
      simpa [isWh] using q
    · rename_i a
      (repeat decreasing_trivial_pre_omega)
      refine ⟨_, rfl, it_f rfl ?_⟩
      (repeat decreasing_trivial_pre_omega)
      by_cases c : a ≤ n
      · refine it_t (decide_eq_true c) ?_
        (repeat decreasing_trivial_pre_omega)
        refine ⟨_, rfl, it_t rfl ?_⟩
        simpa [isWh, c] using q
      · refine it_f (decide_eq_false c) ?_
        simpa [isWh, c] using q
    · rename_i a b
      (repeat decreasing_trivial_pre_omega)
      refine ⟨_, rfl, it_f rfl ?_⟩
      (repeat decreasing_trivial_pre_omega)
      by_cases c : a ≤ n
      · refine it_t (decide_eq_true c) ?_
        (repeat decreasing_trivial_pre_omega)
        refine ⟨_, rfl, it_f rfl ?_⟩
        (repeat decreasing_trivial_pre_omega)
        simpa [isWh, c] using q
      · refine it_f (decide_eq_false c) ?_
        simpa [isWh, c] using q
  · obtain ⟨w, two⟩ := wh_other (lo := lo) (hi := hi) ht fun i e => hn ⟨i, e⟩
    rw [w] at q
    unfold d_is_whole
    (repeat decreasing_trivial_pre_omega)
    refine tm_all (by simp [tyNames]) ht ?_
    (repeat decreasing_trivial_pre_omega)
    rcases two with c | ⟨c, c2⟩
    · refine it_t c ?_
      (repeat decreasing_trivial_pre_omega)
      exact q
    · refine it_f c ?_
      (repeat decreasing_trivial_pre_omega)
      refine tm_all (by simp [tyNames]) ht ?_
      (repeat decreasing_trivial_pre_omega)
      refine it_t (by rw [c2]; rfl) ?_
      (repeat decreasing_trivial_pre_omega)
      exact q

end K12


namespace K12
open PySem PySem.Spec PyProof.Rows L2 Dl Ns Zs Rk Rd
end K12

namespace K12
open PySem PySem.Spec PyProof.Rows L2 Dl Ns Zs Rk Rd
theorem iota_len (n : Nat) : (iota n).length = n := by unfold iota; rw [List.length_map, List.length_range]
theorem mem_iota {n : Nat} {p : Int} : p ∈ iota n ↔ 0 ≤ p ∧ p < (n : Int) := by
  unfold iota
  rw [List.mem_map]
  constructor
  · rintro ⟨i, hi, rfl⟩
    have := List.mem_range.mp hi
    omega
  · rintro ⟨h0, h1⟩
    exact ⟨p.toNat, List.mem_range.mpr (by omega), by omega⟩
theorem rng_iota (n : Nat) : rngD 0 n = (iota n).map D.int := by
  unfold rngD iota
  rw [List.map_map]
  refine List.map_congr_left fun i _ => ?_
  show D.int (0 + (i : Int)) = D.int (i : Int)
  rw [Int.zero_add]
theorem lexLt_trans : ∀ {a b c : List Int}, HT.lexLt a b = true → HT.lexLt b c = true → HT.lexLt a c = true := fun {a b c} h1 h2 => lexLt_tr h1 h2
theorem lotLt_tr {a b c : List Int} (h : lotLt a b) (h' : lotLt b c) : lotLt a c := by
  rcases h with h | ⟨e, h⟩ <;> rcases h' with h' | ⟨e', h'⟩
  · exact .inl (Nat.lt_trans h h')
  · exact .inl (by omega)
  · exact .inl (by omega)
  · exact .inr ⟨e.trans e', lexLt_trans h h'⟩
theorem nodup_sub {α : Type} [DecidableEq α] : ∀ {l m : List α}, l.Nodup → (∀ x ∈ l, x ∈ m) → l.length ≤ m.length
  | [], _, _, _ => Nat.zero_le _
  | x :: l, m, nd, h => by
    obtain ⟨n1, n2⟩ := List.nodup_cons.mp nd
    have hx := h x List.mem_cons_self
    have ih := nodup_sub (l := l) (m := m.erase x) n2 fun y hy => (List.mem_erase_of_ne (fun e => n1 (by rw [← e]; exact hy))).mpr (h y (List.mem_cons_of_mem _ hy))
    rw [List.length_erase_of_mem hx] at ih
    have := List.length_pos_of_mem hx
    rw [List.length_cons]
    omega
end K12


namespace K12
open PySem PySem.Spec PyProof.Rows L2 Dl Ns Zs Zz Rk Rd
theorem rIxT {xs : List D} {i : Int} {d : D} {Q : D → Prop} (h : atI xs i = some d) (q : Q d) : fIx (.tup xs) (.int i) Q := ⟨i, rfl, d, h, q⟩
theorem rIxL {xs : List D} {i : Int} {d : D} {Q : D → Prop} (h : atI xs i = some d) (q : Q d) : fIx (.lst xs) (.int i) Q := ⟨i, rfl, d, h, q⟩
theorem nolI (ns : List Int) : noLstA (ns.map D.int) = true := noLst_of fun x hx => by
  obtain ⟨n, _, rfl⟩ := List.mem_map.mp hx
  rfl
theorem nolT (ns : List Int) : (tI ns).noLst = true := nolI ns
def places (ps : List Int) (n : Nat) : Prop := (∀ p ∈ ps, 0 ≤ p ∧ p < (n : Int)) ∧ ps.Nodup
end K12

namespace K12
open PySem PySem.Spec PyProof.Rows L2 Dl Ns Zs Zz Rk Rd
abbrev eF (Qd : List D → Prop) : DEnds := ⟨fun _ => False, fun _ => False, fun _ => False, fun _ => False, Qd⟩
theorem lc_emb {α : Type} (emb f : α → D) (p : α → Bool) {gd : TGD} {tt : TTD} {te : TED} {env : DEnv} {Q : List D → Prop} : ∀ (xs : List α) (acc : List D),
    (∀ a ∈ xs, ∀ S : Option D → Prop, S (if p a = true then some (f a) else none) → gd (emb a) env fun env2 => tt env2 fun b => if b = true then te env2 fun y => y.noLst = true ∧ S (some y) else S none) →
    Q (acc ++ (xs.filter p).map f) → lcD gd tt te env (xs.map emb) acc Q
  | [], acc, _, q => by
    show Q acc
    simpa using q
  | x :: xs, acc, h, q => by
    refine h x List.mem_cons_self (fun o => match o with
      | some y => lcD gd tt te env (xs.map emb) (acc ++ [y]) Q
      | none => lcD gd tt te env (xs.map emb) acc Q) ?_
    cases c : p x with
    | true =>
      rw [if_pos rfl]
      refine lc_emb emb f p xs _ (fun a ha => h a (List.mem_cons_of_mem _ ha)) ?_
      rw [List.filter_cons_of_pos c, List.map_cons] at q
      simpa using q
    | false =>
      rw [if_neg (by decide)]
      refine lc_emb emb f p xs _ (fun a ha => h a (List.mem_cons_of_mem _ ha)) ?_
      rw [List.filter_cons_of_neg (by rw [c]; decide)] at q
      exact q
theorem fil_true {α : Type} (xs : List α) : xs.filter (fun _ => true) = xs := List.filter_eq_self.mpr fun _ _ => rfl
end K12


namespace K12
open PySem PySem.Spec PyProof.Rows L2 Dl Ns Zs Zz Rk Rd
end K12

namespace K12
open PySem PySem.Spec PyProof.Rows L2 Dl Ns Zs Zz Rk Rd
theorem isi_any {x : D} {t : String} {Q : D → Prop} (e : x.tyn = some t) (q : Q (.bl (seqOf x).isSome)) : bIsi [x, .tup [.ty "list", .ty "tuple"]] Q := by
  refine ⟨_, _, rfl, t, e, _, rfl, mem_lt, ?_⟩
  rw [isSeq_iff e]
  exact q
theorem for_ok {i : Nat} {tb : TSD} {Dd : DEnds} (P : DEnv → Prop) : ∀ (xs : List D) (env : DEnv), P env → (∀ x ∈ xs, ∀ env (nx : DEnv → Prop), P env → (∀ env', P env' → nx env') → tb { Dd with nx := nx, ct := nx, bk := Dd.nx } (env.set i (.val x))) →
    (∀ env, P env → Dd.nx env) → forD (gdName i) tb Dd xs env
  | [], env, h, _, e => e env h
  | x :: xs, env, h, s, e => s x List.mem_cons_self env _ h fun env' h' => for_ok P xs env' h' (fun y hy => s y (List.mem_cons_of_mem _ hy)) e
end K12

namespace K12
open PySem PySem.Spec PyProof.Rows L2 Dl Ns Zs Zz Rk Rd
end K12

namespace K12
open PySem PySem.Spec PyProof.Rows L2 Dl Ns Zs Zz Rk Rd
end K12

namespace K12
open PySem PySem.Spec PyProof.Rows L2 Dl Ns Zs Zz Rk Rd
theorem emb_inv {α : Type} (emb : α → D) {i : Nat} {tb : TSD} {Dd : DEnds} {xs : List α} (P : List α → DEnv → Prop)
    (step : ∀ (done rest : List α) (x : α) env nx, xs = done ++ x :: rest → P done env → (∀ env', P (done ++ [x]) env' → nx env') → tb { Dd with nx := nx, ct := nx, bk := Dd.nx } (env.set i (.val (emb x))))
    (end_ : ∀ env, P xs env → Dd.nx env) : ∀ env, P [] env → forD (gdName i) tb Dd (xs.map emb) env := by
  have key : ∀ (rest done : List α), xs = done ++ rest → ∀ env, P done env → forD (gdName i) tb Dd (rest.map emb) env := by
    intro rest
    induction rest with
    | nil => intro done e env p; rw [List.append_nil] at e; subst e; exact end_ env p
    | cons x rest ih => intro done e env p; exact step done rest x env _ e p fun env' p' => ih (done ++ [x]) (by simpa using e) env' p'
  exact key xs [] rfl
end K12

namespace K12
open PySem PySem.Spec PyProof.Rows L2 Dl Ns Zs Zz Rk Rd
end K12

namespace K12
open PySem PySem.Spec PyProof.Rows L2 Dl Ns Zs Zz Rk Rd
theorem lift_some {α : Type} (emb : α → D) {P : α → Prop} : ∀ {ys : List D}, (∀ y ∈ ys, ∃ t, y = emb t ∧ P t) → ∃ ts : List α, ys = ts.map emb ∧ ∀ t ∈ ts, P t
  | [], _ => ⟨[], rfl, fun t h => by cases h⟩
  | y :: ys, h => by
    obtain ⟨t, e, p⟩ := h y List.mem_cons_self
    obtain ⟨ts, e2, p2⟩ := lift_some emb (ys := ys) fun y hy => h y (List.mem_cons_of_mem _ hy)
    refine ⟨t :: ts, by rw [e, e2]; rfl, fun u hu => ?_⟩
    rcases List.mem_cons.mp hu with rfl | hu
    · exact p
    · exact p2 u hu
end K12

namespace K12
open PySem PySem.Spec PyProof.Rows L2 Dl Ns Zs Zz Rk Rd
theorem tk_ok {hd : Addr} {m : Int} {Q : D → Prop} {E : Exc → Prop} (h0 : 0 < m) (h1 : m < 2 ^ 100) (q : ∀ r : Int, 0 ≤ r → r < m → Q (.int r)) : C__law_take hd [.ref hd, .int m] Q E :=
  ⟨m, rfl, h0, Int.lt_trans h1 (by decide), q⟩
def rowOf (n : Nat) (lot u : List Int) : List Int := (iota n).map fun p => if p ∈ lot then 0 else 1 + at_ u (rankIn (outs (iota n) lot) p)
end K12

namespace K12
open PySem PySem.Spec PyProof.Rows L2 Dl Ns Zs Zz Rk Rd
end K12

namespace K12
open PySem PySem.Spec PyProof.Rows L2 Dl Ns Zs Zz Rk Rd
end K12

namespace K12
open PySem PySem.Spec PyProof.Rows L2 Dl Ns Zs Zz Rk Rd
end K12

namespace K12
open PySem PySem.Spec PyProof.Rows L2 Dl Ns Zs Zz Rk Rd
structure Gd (n : Nat) (hs : List (List Int)) : Prop where
  nd : hs.Nodup
  sn : ∀ t ∈ hs, SN n t
end K12

namespace K12
open PySem PySem.Spec PyProof.Rows L2 Dl Ns Zs Zz Rk Rd
end K12

namespace K12
open PySem PySem.Spec PyProof.Rows L2 Dl Ns Zs Zz Rk Rd
end K12

namespace K12
open PySem PySem.Spec PyProof.Rows L2 Dl Ns Zs Zz Rk Rd
end K12

namespace K12
open PySem PySem.Spec PyProof.Rows L2 Dl Ns Zs Zz Rk Rd
end K12

namespace K12
open PySem PySem.Spec PyProof.Rows L2 Dl Ns Zs Zz Rk Rd
def Bent (l : List Int) (x : D) : Prop := ∃ ms : List Int, ms.Perm l ∧ isSeqI x ms
inductive Bents : List (List Int) → List D → Prop
  | nil : Bents [] []
  | cons {l : List Int} {x : D} {ls : List (List Int)} {xs : List D} (h : Bent l x) (r : Bents ls xs) : Bents (l :: ls) (x :: xs)
def Reach (n : Nat) (ms : List (List Int)) (ls : List (List Int)) (left : List Int) (rest : List (List Int)) : Prop :=
  ∀ (Q : List Int → List (List Int) → Prop) (E : Nat → Prop) (xs tail : List D), Bents ls xs → aft Q E left rest ls.length tail → aft Q E (iota n) ms 0 (xs ++ tail)
end K12

namespace K12
open PySem PySem.Spec PyProof.Rows L2 Dl Ns Zs Zz Rk Rd
theorem sl_to {xs : List D} {a : Nat} {Q : D → Prop} (q : Q (.lst (xs.take a))) : fSl (.lst xs) none (some (a : Int)) Q := by
  show Q (.lst (cutL xs none (some (a : Int))))
  unfold cutL
  rw [HT.sIx_none, HT.sIx_nat, List.drop_zero, Nat.sub_zero]
  have : xs.take (min a xs.length) = xs.take a := by
    rcases Nat.le_total a xs.length with h | h
    · rw [Nat.min_eq_left h]
    · rw [Nat.min_eq_right h, List.take_length, List.take_of_length_le h]
  rw [this]
  exact q
theorem sl_from {xs : List D} {a : Nat} {Q : D → Prop} (q : Q (.lst (xs.drop a))) : fSl (.lst xs) (some (a : Int)) none Q := by
  show Q (.lst (cutL xs (some (a : Int)) none))
  unfold cutL
  rw [HT.sIx_none, HT.sIx_nat]
  have : (xs.drop (min a xs.length)).take (xs.length - min a xs.length) = xs.drop a := by
    rcases Nat.le_total a xs.length with h | h
    · rw [Nat.min_eq_left h]
      exact List.take_of_length_le (by rw [List.length_drop]; exact Nat.le_refl _)
    · rw [Nat.min_eq_right h, List.drop_of_length_le h, List.drop_length]
      exact List.take_nil
  rw [this]
  exact q
structure At (n : Nat) (ms : List (List Int)) (t : List Int) (a : Nat) (left : List Int) (rest : List (List Int)) : Prop where
  l4 : Left 4 left
  ln : Left n left
  m : Ms left.length rest
  mem : ∀ p, p ∈ left ↔ p ∈ iota n ∧ (a : Int) ≤ at_ t p
  cut : cut t left ∈ rest
  reach : Reach n ms ((layers t).take a) left rest
end K12

namespace K12
open PySem PySem.Spec PyProof.Rows L2 Dl Ns Zs Zz Rk Rd
abbrev eL : DEnds := ⟨fun _ => False, fun d => d = .bl true, fun _ => False, fun _ => False, fun _ => False⟩
abbrev nv (s : Slot) : Prop := noOwn [s] = true
end K12

namespace K12
open PySem PySem.Spec PyProof.Rows L2 Dl Ns Zs
abbrev Pr := List Int × List (List Int)
abbrev tM (ms : List (List Int)) : D := .tup (ms.map tI)
abbrev prD (p : Pr) : D := .tup [tI p.1, tM p.2]
end K12

namespace Nd
open PySem PySem.Spec PyProof.Rows L2 Dl Ns
section
variable {X : Cx}
end
end Nd

namespace Nd
open PySem PySem.Spec PyProof.Rows L2 Dl Ns
section
variable {X : Cx} {pins : List (Addr × Obj)} {σ : L2.St} {H : Hp} {s : Shared} {Av : Addr → Prop} {S : Addr} {m : Addr × D} {M : List (Addr × D × V)} {A : Around} {E : Value → Shared → Prop}
end
section
variable {X : Cx} {g : Gx} {wi : TI} {gt : TG} {tt : TT} {tk te : TE} {vs : List Nat} {tid : TID} {gd : TGD} {td : TTD} {kd ed : TED}
end
section
variable {X : Cx} {g : Gx} {kx vx tg iter : Expr} {ifs : List Expr} {scope : Scope} {own : List (Str × Nat)} {pos : Pos} {gt : TG} {tid : TID} {gd : TGD} {td : TTD} {kd ed : TED}
end
end Nd

namespace K12
open PySem PySem.Spec PyProof.Rows L2 Dl Ns Zs Rk
abbrev Row := List (List Int) × List Int × List (List Int)
def rowD (K : PySem.W.Frag) (r : Row) : D := .tup [.tup (r.1.map tI), tI r.2.1, relD K r.2.1.length r.2.2]
end K12

namespace K12
open PySem PySem.Spec PyProof.Rows L2 Dl Ns Zs Zz Rk Rd
theorem pick_len (ps xs : List Int) : (pick ps xs).length = ps.length := List.length_map _
end K12

namespace K12.K15
open PySem PySem.Spec PyProof.Rows L2 Dl Ns Zs Zz Rk Rd

section
variable {α : Type} {lt : α → α → Prop}
theorem ins_ex (tr : ∀ {a b c}, lt a b → lt b c → lt a c) (tri : ∀ a b, lt a b ∨ a = b ∨ lt b a) (x : α) : ∀ L : List α, L.Pairwise lt → ∃ L' : List α, L'.Pairwise lt ∧ ∀ y, y ∈ L' ↔ y = x ∨ y ∈ L
  | [], _ => ⟨[x], List.pairwise_singleton _ _, fun y => by simp⟩
  | y :: r, h => by
    obtain ⟨h1, h2⟩ := List.pairwise_cons.mp h
    rcases tri x y with c | c | c
    · refine ⟨x :: y :: r, List.pairwise_cons.mpr ⟨fun z hz => ?_, h⟩, fun z => by simp⟩
      rcases List.mem_cons.mp hz with e | hz
      · rw [e]; exact c
      · exact tr c (h1 z hz)
    · subst c
      exact ⟨x :: r, h, fun z => by simp⟩
    · obtain ⟨L', a, b⟩ := ins_ex tr tri x r h2
      refine ⟨y :: L', List.pairwise_cons.mpr ⟨fun z hz => ?_, a⟩, fun z => ?_⟩
      · rcases (b z).mp hz with e | hz
        · rw [e]; exact c
        · exact h1 z hz
      · rw [List.mem_cons, b z, List.mem_cons]
        constructor
        · rintro (e | e | e)
          · exact .inr (.inl e)
          · exact .inl e
          · exact .inr (.inr e)
        · rintro (e | e | e)
          · exact .inr (.inl e)
          · exact .inl e
          · exact .inr (.inr e)
theorem ex_sorted (tr : ∀ {a b c}, lt a b → lt b c → lt a c) (tri : ∀ a b, lt a b ∨ a = b ∨ lt b a) : ∀ xs : List α, ∃ L : List α, L.Pairwise lt ∧ ∀ y, y ∈ L ↔ y ∈ xs
  | [] => ⟨[], List.Pairwise.nil, fun _ => Iff.rfl⟩
  | x :: xs => by
    obtain ⟨L, a, b⟩ := ex_sorted tr tri xs
    obtain ⟨L', a', b'⟩ := ins_ex (lt := lt) tr tri x L a
    exact ⟨L', a', fun y => by rw [b' y, b y, List.mem_cons]⟩
end
theorem tLt_tri (a b : List Int) : tLt a b ∨ a = b ∨ tLt b a := by
  cases h1 : HT.lexLt a b
  · cases h2 : HT.lexLt b a
    · exact .inr (.inl (lexLt_tri a b h1 h2))
    · exact .inr (.inr h2)
  · exact .inl h1
theorem lotLt_tri (a b : List Int) : lotLt a b ∨ a = b ∨ lotLt b a := by
  rcases Nat.lt_trichotomy a.length b.length with c | c | c
  · exact .inl (.inl c)
  · rcases tLt_tri a b with h | h | h
    · exact .inl (.inr ⟨c, h⟩)
    · exact .inr (.inl h)
    · exact .inr (.inr (.inr ⟨c.symm, h⟩))
  · exact .inr (.inr (.inl c))
theorem lots_ex (ms : List (List Int)) : ∃ L, Lots ms L := by
  obtain ⟨L, a, b⟩ := ex_sorted (lt := lotLt) K12.lotLt_tr lotLt_tri ((ms.map front).filter fun l => !decide (l = []))
  refine ⟨L, a, fun l => ?_⟩
  rw [b l, List.mem_filter, List.mem_map]
  simp
  exact And.comm
theorem rest_ex (n : Nat) (ms : List (List Int)) (lot : List Int) : ∃ r, Rest n ms lot r := by
  obtain ⟨L, a, b⟩ := ex_sorted (lt := tLt) lexLt_trans tLt_tri ((ms.filter fun t => decide (front t = lot)).map fun t => cut t (outs (iota n) lot))
  refine ⟨L, a, fun u => ?_⟩
  rw [b u, List.mem_map]
  constructor
  · rintro ⟨t, ht, e⟩
    obtain ⟨h1, h2⟩ := List.mem_filter.mp ht
    exact ⟨t, h1, of_decide_eq_true h2, e⟩
  · rintro ⟨t, h1, h2, e⟩
    exact ⟨t, List.mem_filter.mpr ⟨h1, decide_eq_true h2⟩, e⟩
noncomputable def lotsF (ms : List (List Int)) : List (List Int) := Classical.choose (lots_ex ms)
noncomputable def restF (n : Nat) (ms : List (List Int)) (lot : List Int) : List (List Int) := Classical.choose (rest_ex n ms lot)
noncomputable def rowsF (bf : List (List Int)) (left : List Int) (ms : List (List Int)) : List Row :=
  (bf, left, ms) :: (lotsF ms).flatMap fun lot => if h : 1 ≤ (outs (iota left.length) lot).length ∧ (outs (iota left.length) lot).length < left.length then rowsF (bf ++ [pick lot left]) (pick (outs (iota left.length) lot) left) (restF left.length ms lot) else []
termination_by left.length
decreasing_by rw [pick_len]; exact h.2
structure RowOk (r : Row) : Prop where
  up : Up r.2.1
  ms : Ms r.2.1.length r.2.2
  pos : 1 ≤ r.2.1.length
  few : r.1.length + r.2.1.length ≤ 60
  rng : ∀ p ∈ r.2.1, 0 ≤ p ∧ p < 4
abbrev Stry := List (List Int) × List Int × List Int
noncomputable def rows (n : Nat) (ms : List (List Int)) : List Row := if n = 0 then [] else rowsF [] (iota n) ms
end K12.K15

namespace K13
open PySem PySem.Spec PyProof.Rows L2 Dl
end K13

namespace K13
open PySem PySem.Spec PyProof.Rows L2 Dl Ns Zs Rk K12
structure Tf (K : PySem.W.Frag) (mg : Str → Option Value) : Prop where
  n_abs : mg "abs" = none
  n_all : mg "all" = none
  n_bool : mg "bool" = none
  n_enumerate : mg "enumerate" = none
  n_int : mg "int" = none
  n_isinstance : mg "isinstance" = none
  n_len : mg "len" = none
  n_list : mg "list" = none
  n_max : mg "max" = none
  n_min : mg "min" = none
  n_range : mg "range" = none
  n_set : mg "set" = none
  n_sorted : mg "sorted" = none
  n_tuple : mg "tuple" = none
  g_BadLot : mg "BadLot" = some (.ref (He.ga K "BadLot"))
  g_BadStanding : mg "BadStanding" = some (.ref (He.ga K "BadStanding"))
  g_NoLot : mg "NoLot" = some (.ref (He.ga K "NoLot"))
  g_Relation : mg "Relation" = some (.ref (He.ga K "Relation"))
  i_MOST_PLACES : ∃ t, mg "MOST_PLACES" = some (.int (7) t)
  i_MOST_RELATED : ∃ t, mg "MOST_RELATED" = some (.int (4) t)
end K13

namespace K13
open PySem PySem.Spec PyProof.Rows L2 Dl Ns Zs Rk K12
abbrev N_is_whole : List Str := ["thing", "low", "high"]
end K13

namespace K13
open PySem PySem.Spec PyProof.Rows L2 Dl Ns Zs Rk K12
end K13

namespace K13
open PySem PySem.Spec PyProof.Rows L2 Dl Ns Zs Rk K12
end K13

namespace K13
open PySem PySem.Spec PyProof.Rows L2 Dl Ns Zs Rk K12
end K13

namespace K13
open PySem PySem.Spec PyProof.Rows L2 Dl Ns Zs Rk K12
end K13

namespace K13
open PySem PySem.Spec PyProof.Rows L2 Dl Ns Zs Rk K12
end K13

namespace K13
open PySem PySem.Spec PyProof.Rows L2 Dl Ns Zs Rk K12
end K13

namespace K13
open PySem PySem.Spec PyProof.Rows L2 Dl Ns Zs Rk K12
end K13

namespace K13
open PySem PySem.Spec PyProof.Rows L2 Dl Ns Zs Rk K12
end K13

namespace K13
open PySem PySem.Spec PyProof.Rows L2 Dl Ns Zs Rk K12
end K13

namespace K13
open PySem PySem.Spec PyProof.Rows L2 Dl Ns Zs Rk K12
end K13

namespace K13
open PySem PySem.Spec PyProof.Rows L2 Dl Ns Zs Rk K12
end K13

namespace K13
open PySem PySem.Spec PyProof.Rows L2 Dl Ns Zs Rk K12
end K13

namespace K13
open PySem PySem.Spec PyProof.Rows L2 Dl Ns Zs Rk K12
end K13

namespace K13
open PySem PySem.Spec PyProof.Rows L2 Dl Ns Zs Rk K12
end K13

namespace K13
open PySem PySem.Spec PyProof.Rows L2 Dl Ns Zs Rk K12
end K13

namespace K13
open PySem PySem.Spec PyProof.Rows L2 Dl Ns Zs Rk K12
end K13

namespace K13
open PySem PySem.Spec PyProof.Rows L2 Dl Ns Zs Rk K12
end K13

namespace K13
open PySem PySem.Spec PyProof.Rows L2 Dl Ns Zs Rk K12
end K13

namespace K13
open PySem PySem.Spec PyProof.Rows L2 Dl Ns Zs Rk K12
end K13

namespace K13
open PySem PySem.Spec PyProof.Rows L2 Dl Ns Zs Rk K12
end K13

namespace K13
open PySem PySem.Spec PyProof.Rows L2 Dl Ns Zs Rk K12
end K13

namespace K13
open PySem PySem.Spec PyProof.Rows L2 Dl Ns Zs Rk K12
end K13

namespace K13
open PySem PySem.Spec PyProof.Rows L2 Dl Ns Zs Rk K12
abbrev N__law_hand : List Str := ["_law_script", "_law_total", "_law_k", "_law_cell"]
end K13

namespace K13
open PySem PySem.Spec PyProof.Rows L2 Dl Ns Zs Rk K12
end K13

namespace K13
open PySem PySem.Spec PyProof.Rows L2 Dl Ns Zs Rk K12
end K13

namespace K13
open PySem PySem.Spec PyProof.Rows L2 Dl Ns Zs Rk K12
end K13

namespace K13
open PySem PySem.Spec PyProof.Rows L2 Dl Ns Zs Rk K12
end K13

namespace K13
open PySem PySem.Spec PyProof.Rows L2 Dl Ns Zs Rk K12
end K13

namespace K13
open PySem PySem.Spec PyProof.Rows L2 Dl Ns Zs Rk K12
end K13

namespace K13
open PySem PySem.Spec PyProof.Rows L2 Dl Ns Zs Rk K12
end K13

namespace K13
open PySem PySem.Spec PyProof.Rows L2 Dl Ns Zs Rk K12
end K13

namespace K13
open PySem PySem.Spec PyProof.Rows L2 Dl Ns Zs Rk K12
end K13

namespace K13
open PySem PySem.Spec PyProof.Rows L2 Dl Ns Zs Rk K12
end K13

namespace K13
open PySem PySem.Spec PyProof.Rows L2 Dl Ns Zs Rk K12
end K13

namespace K13
open PySem PySem.Spec PyProof.Rows L2 Dl Ns Zs Rk K12
end K13

namespace K13
open PySem PySem.Spec PyProof.Rows L2 Dl Ns Zs Rk K12
end K13

namespace K13
open PySem PySem.Spec PyProof.Rows L2 Dl Ns Zs Rk K12
end K13

namespace K13
open PySem PySem.Spec PyProof.Rows L2 Dl Ns Zs Rk K12
end K13

namespace K13
open PySem PySem.Spec PyProof.Rows L2 Dl Ns Zs Rk K12
end K13

namespace K13
open PySem PySem.Spec PyProof.Rows L2 Dl Ns Zs Rk K12
end K13

namespace K13
open PySem PySem.Spec PyProof.Rows L2 Dl Ns Zs Rk K12
end K13

namespace K13
open PySem PySem.Spec PyProof.Rows L2 Dl Ns Zs Rk K12
end K13

namespace K13
open PySem PySem.Spec PyProof.Rows L2 Dl Ns Zs Rk K12
end K13

namespace K13
open PySem PySem.Spec PyProof.Rows L2 Dl Ns Zs Rk K12
end K13

namespace K13
open PySem PySem.Spec PyProof.Rows L2 Dl Ns Zs Rk K12
end K13

namespace K13
open PySem PySem.Spec PyProof.Rows L2 Dl Ns Zs Rk K12
end K13

namespace K13
open PySem PySem.Spec PyProof.Rows L2 Dl Ns Zs Rk K12
end K13

namespace K13
open PySem PySem.Spec PyProof.Rows L2 Dl Ns Zs Rk K12
end K13

namespace K13
open PySem PySem.Spec PyProof.Rows L2 Dl Ns Zs Rk K12
end K13

namespace K13
open PySem PySem.Spec PyProof.Rows L2 Dl Ns Zs Rk K12
end K13

namespace K13
open PySem PySem.Spec PyProof.Rows L2 Dl Ns Zs Rk K12
end K13

namespace K13
open PySem PySem.Spec PyProof.Rows L2 Dl Ns Zs Rk K12
end K13

namespace K13
open PySem PySem.Spec PyProof.Rows L2 Dl Ns Zs Rk K12
end K13

namespace K13
open PySem PySem.Spec PyProof.Rows L2 Dl Ns Zs Rk K12
end K13

namespace K13
open PySem PySem.Spec PyProof.Rows L2 Dl Ns Zs Rk K12
end K13

namespace K13
open PySem PySem.Spec PyProof.Rows L2 Dl Ns Zs Rk K12
abbrev N_law : List Str := ["_law_script", "_law_hand_here", "_law_places_here", "_law_members", "_law_relation_here", "_law_rests_here", "_law_told", "_law_rows", "_law_couple", "_law_own", "_law_others", "_law_standing_here", "_law_takings_here", "_law_before", "_law_left", "_law_rest_here", "_law_layers_here", "_law_stop", "_law_k"]
end K13


namespace K12
open PySem PySem.Spec PyProof.Rows L2 Dl Ns Zs Zz Rk Rd K13
end K12

namespace K12
open PySem PySem.Spec PyProof.Rows L2 Dl Ns Zs Zz Rk Rd K13
end K12

namespace K12
open PySem PySem.Spec PyProof.Rows L2 Dl Ns Zs Zz Rk Rd K13
end K12

namespace K12
open PySem PySem.Spec PyProof.Rows L2 Dl Ns Zs Zz Rk Rd K13
end K12

namespace K12
open PySem PySem.Spec PyProof.Rows L2 Dl Ns Zs Zz Rk Rd K13
end K12

namespace K12
open PySem PySem.Spec PyProof.Rows L2 Dl Ns Zs Zz Rk Rd K13
abbrev oth (t : List Int) : List Int := outs (iota t.length) (front t)
abbrev low (t : List Int) : List Int := (pick (oth t) t).map (· - 1)
end K12

namespace K12
open PySem PySem.Spec PyProof.Rows L2 Dl Ns Zs Zz Rk Rd K13
end K12

namespace K12.K62
open PySem PySem.Spec PyProof.Rows L2 Dl Ns Zs Zz Rk Rd K12 K12.K15 K13
end K12.K62

namespace K12
open PySem PySem.Spec PyProof.Rows L2 Dl Ns Zs Zz Rk Rd K13
theorem cut_to {xs : List D} {a : Nat} : cutL xs none (some (a : Int)) = xs.take a := sl_to (Q := fun d => d = .lst (xs.take a)) rfl |> D.lst.inj
end K12

namespace K12
open PySem PySem.Spec PyProof.Rows L2 Dl Ns Zs Zz Rk Rd K13
end K12

namespace K12.K62
open PySem PySem.Spec PyProof.Rows L2 Dl Ns Zs Zz Rk Rd K12 K12.K15 K13
section
variable {n : Nat} {ms : List (List Int)} {p : Stry} {left : List Int} {rest : List (List Int)} {lot : List Int}
end
end K12.K62

namespace Ht
open PySem PySem.SeqAt MeetsSeq AutoSeq1
section
variable {A : Around} {s : Shared}
end
end Ht
namespace Ht
open PySem PySem.Spec PyProof.Rows L2 Dl
def emp : D := .obj (.dct []) [] []
end Ht

namespace K12.K15
open PySem PySem.Spec PyProof.Rows L2 Dl Ns Zs Rk
def In7 (a : List Int) : Prop := ∀ p ∈ a, 0 ≤ p ∧ p < 7
def tM (ms : List (List Int)) : D := .tup (ms.map tI)
end K12.K15

namespace K12.K62
open PySem PySem.Spec PyProof.Rows L2 Dl Ns Zs Rk K12 K12.K15
end K12.K62

namespace K12.K00
open PySem PySem.Spec PyProof.Rows L2 Dl Ns Zs Rk K12 K12.K15 K12.K62
end K12.K00

namespace K12.K32
open PySem PySem.Spec PyProof.Rows L2 Dl Ns Zs Rk K12
abbrev Pr := Int × Int
abbrev Rl := List Pr × Option Pr
abbrev Sh := List (Option Pr)
def sq (tp : Bool) (l : List D) : D := if tp = true then .tup l else .lst l
abbrev prD (p : Pr) : D := .tup [.int p.1, .int p.2]
abbrev prL (p : Pr) : D := .lst [.int p.1, .int p.2]
abbrev naD (p : Pr) : D := .tup [.str "not after", .int p.1, .int p.2]
def endX : Option Pr → List D
  | none => [.str "never"]
  | some p => [.str "not after", .int p.1, .int p.2]
abbrev endD (e : Option Pr) : D := .tup (endX e)
abbrev premD (ps : List Pr) : D := .tup (ps.map prD)
abbrev ruleT (r : Rl) : D := .tup [premD r.1, endD r.2]
abbrev ruleI (K : PySem.W.Frag) (r : Rl) : D := .obj (.ins (He.ga K "Rule")) ["premises", "end"] [premD r.1, endD r.2]
abbrev rulesI (K : PySem.W.Frag) (n : Int) (rs : List Rl) : D := .obj (.ins (He.ga K "Rules")) ["size", "rules"] [.int n, .tup (rs.map (ruleI K))]
def PB (n : Int) (p : Pr) : Prop := (0 ≤ p.1 ∧ p.1 < n) ∧ 0 ≤ p.2 ∧ p.2 < n
def GR (n : Int) (r : Rl) : Prop := r.1.length ≤ 4 ∧ (∀ p ∈ r.1, PB n p) ∧ ∀ p, r.2 = some p → PB n p
structure Ask (n : Int) (rs : List Rl) (r : Rl) : Prop where
  lo : 1 ≤ n
  hi : n ≤ 7
  few : rs.length ≤ 80
  all : ∀ q ∈ rs, GR n q
  one : GR n r
inductive At where
  | i (n : Int)
  | b (b : Bool)
  | n
inductive It where
  | a (x : At)
  | l (tp : Bool) (xs : List At)
inductive Wd where
  | self | given | through | rule | never
deriving DecidableEq
inductive Row where
  | odd (k : Nat)
  | emp (tp : Bool)
  | sq (tp : Bool) (w : Wd) (xs : List It)
abbrev atD : At → D
  | .i n => .int n
  | .b b => .bl b
  | .n => .non
def itD : It → D
  | .a x => atD x
  | .l tp xs => sq tp (xs.map atD)
def wdS : Wd → Str
  | .self => "self"
  | .given => "given"
  | .through => "through"
  | .rule => "rule"
  | .never => "never"
def oddD (k : Nat) : D := if k = 0 then .non else if k = 1 then .int 0 else .str "self"
def rowD : Row → D
  | .odd k => oddD k
  | .emp tp => sq tp []
  | .sq tp w xs => sq tp (.str (wdS w) :: xs.map itD)
def AtOk : At → Prop
  | .i n => -(100000) ≤ n ∧ n ≤ 100000
  | _ => True
def ItOk : It → Prop
  | .a x => AtOk x
  | .l _ xs => xs.length ≤ 8 ∧ ∀ x ∈ xs, AtOk x
def RowOk : Row → Prop
  | .sq _ _ xs => xs.length ≤ 2 ∧ ∀ x ∈ xs, ItOk x
  | _ => True
inductive PR where
  | self (x : Int)
  | given (a b : Int)
  | through (a b : Int)
  | rule (k : Int) (tp : Bool) (bs : List Int)
def prw : PR → List D
  | .self x => [.str "self", .int x]
  | .given a b => [.str "given", .int a, .int b]
  | .through a b => [.str "through", .int a, .int b]
  | .rule k tp bs => [.str "rule", .int k, sq tp (bs.map D.int)]
def atIs : List At → Option (List Int)
  | [] => some []
  | .i n :: r => (atIs r).map (n :: ·)
  | _ => none
def parse (n m k : Int) : Row → Option PR
  | .sq _ .self [.a (.i x)] => if 0 ≤ x ∧ x < n then some (.self x) else none
  | .sq _ .given [.a (.i a), .a (.i b)] => if (0 ≤ a ∧ a < k) ∧ 0 ≤ b ∧ b < 2 then some (.given a b) else none
  | .sq _ .through [.a (.i a), .a (.i b)] => some (.through a b)
  | .sq _ .rule [.a (.i a), .l tp bs] => if 0 ≤ a ∧ a < m then (atIs bs).map (.rule a tp) else none
  | _ => none
def PROk (n m k : Int) : PR → Prop
  | .self x => 0 ≤ x ∧ x < n
  | .given a b => (0 ≤ a ∧ a < k) ∧ 0 ≤ b ∧ b < 2
  | .through a b => (-(100000) ≤ a ∧ a ≤ 100000) ∧ -(100000) ≤ b ∧ b ≤ 100000
  | .rule a tp bs => (0 ≤ a ∧ a < m) ∧ bs.length ≤ 8 ∧ ∀ b ∈ bs, -(100000) ≤ b ∧ b ≤ 100000
def endsOf (ps : List Pr) : List Pr := ps.flatMap fun p => [p, (p.2, p.1)]
def backs : PR → List Int
  | .through a b => [a, b]
  | .rule _ _ bs => bs
  | _ => []
def shAt (sh : Sh) (b : Int) : Option Pr := if 0 ≤ b then (sh[b.toNat]?).join else none
def hold (sh : Sh) (b : Int) : Pr := (shAt sh b).getD (0, 0)
def fault (rs : List Rl) (sh : Sh) (pr : PR) : Option Str :=
  if (backs pr).all (fun b => (shAt sh b).isSome) = true then
    match pr with
    | .through a b => if (hold sh a).2 = (hold sh b).1 then none else some "through"
    | .rule k _ bs => if bs.map (hold sh) = endsOf (rs.getD k.toNat ([], none)).1 then none else some "premise"
    | _ => none
  else some "back"
def endOf (rs : List Rl) (r : Rl) (sh : Sh) : PR → Option Pr
  | .self x => some (x, x)
  | .given a b => some ((endsOf r.1).getD (2 * a + b).toNat (0, 0))
  | .through a b => some ((hold sh a).1, (hold sh b).2)
  | .rule k _ _ => (rs.getD k.toNat ([], none)).2
def run (n : Int) (rs : List Rl) (r : Rl) : Sh → List Row → Str ⊕ Sh
  | sh, [] => .inr sh
  | sh, row :: rest => match parse n rs.length r.1.length row with
    | none => .inl "row"
    | some pr => match fault rs sh pr with
      | some w => .inl w
      | none => run n rs r (sh ++ [endOf rs r sh pr]) rest
def wordOf (n : Int) (rs : List Rl) (r : Rl) (rows : List Row) : Option Str :=
  if rows = [] ∨ 1000 < rows.length then some "steps" else match run n rs r [] rows with
    | .inl w => some w
    | .inr sh => match sh.getLast? with
      | some (some p) => if r.2 = some p then none else some "end"
      | _ => none
def wD : Option Str → D
  | none => .non
  | some w => .str w
def C__is_couple (K : PySem.W.Frag) : Ct := fun ds Q _ => ∃ (tp : Bool) (p : Pr), ds = [sq tp [.int p.1, .int p.2]] ∧ PB 7 p ∧ Q (.bl true)
theorem ar__is_couple (K : PySem.W.Frag) : Ar 1 (C__is_couple K) := fun _ _ _ ⟨_, _, e, _⟩ => by rw [e]; rfl
def C__is_end (K : PySem.W.Frag) : Ct := fun ds Q _ => ∃ (tp : Bool) (e : Option Pr), ds = [sq tp (endX e)] ∧ (∀ p, e = some p → PB 7 p) ∧ Q (.bl true)
theorem ar__is_end (K : PySem.W.Frag) : Ar 1 (C__is_end K) := fun _ _ _ ⟨_, _, e, _⟩ => by rw [e]; rfl
def C_Rule_init (K : PySem.W.Frag) : In.CtI := fun ds Q _ => ∃ (t1 t2 : Bool) (r : Rl), ds = [sq t1 (r.1.map prL), sq t2 (endX r.2)] ∧ GR 7 r ∧ Q [premD r.1, endD r.2]
def C_rule_dates (K : PySem.W.Frag) : Ct := fun ds Q _ => ∃ r : Rl, ds = [ruleI K r] ∧ GR 7 r ∧ ∀ L : List Int, L.length < 64 → (∀ x ∈ L, (∃ p ∈ r.1, x = p.1 ∨ x = p.2) ∨ ∃ p, r.2 = some p ∧ (x = p.1 ∨ x = p.2)) → Q (tI L)
theorem ar_rule_dates (K : PySem.W.Frag) : Ar 1 (C_rule_dates K) := fun _ _ _ ⟨_, e, _⟩ => by rw [e]; rfl
def C_has_dates_below (K : PySem.W.Frag) : Ct := fun ds Q _ => ∃ (r : Rl) (n : Int), ds = [ruleI K r, .int n] ∧ n ≤ 7 ∧ GR n r ∧ Q (.bl true)
theorem ar_has_dates_below (K : PySem.W.Frag) : Ar 2 (C_has_dates_below K) := fun _ _ _ ⟨_, _, e, _⟩ => by rw [e]; rfl
def C__premise_ends (K : PySem.W.Frag) : Fr.CtF := fun ds Q _ => ∃ ps : List Pr, ds = [premD ps] ∧ ps.length ≤ 4 ∧ Q ((endsOf ps).map naD)
theorem ar__premise_ends (K : PySem.W.Frag) : Fr.ArF 1 (C__premise_ends K) := fun _ _ _ ⟨_, e, _⟩ => by rw [e]; rfl
def C_check_rule_dates (K : PySem.W.Frag) : Ct := fun ds Q _ => ∃ (n : Int) (rs : List Rl) (r : Rl), ds = [rulesI K n rs, ruleI K r] ∧ n ≤ 7 ∧ GR n r ∧ Q .non
theorem ar_check_rule_dates (K : PySem.W.Frag) : Ar 2 (C_check_rule_dates K) := fun _ _ _ ⟨_, _, _, e, _⟩ => by rw [e]; rfl
def C_Rules_len (K : PySem.W.Frag) : Ct := fun ds Q _ => ∃ (n : Int) (rs : List Rl), ds = [rulesI K n rs] ∧ Q (.int rs.length)
def C_Rules_init (K : PySem.W.Frag) : In.CtI := fun ds Q _ => ∃ (n : Int) (rs : List Rl), ds = [.int n, .lst (rs.map (ruleI K))] ∧ 0 ≤ n ∧ n ≤ 7 ∧ rs.length ≤ 80 ∧ (∀ r ∈ rs, GR n r) ∧ Q [.int n, .tup (rs.map (ruleI K))]
def C__is_row (K : PySem.W.Frag) : Ct := fun ds Q _ => ∃ (n : Int) (rs : List Rl) (r : Rl) (row : Row), ds = [rulesI K n rs, ruleI K r, rowD row] ∧ Ask n rs r ∧ RowOk row ∧ Q (.bl (parse n rs.length r.1.length row).isSome)
theorem ar__is_row (K : PySem.W.Frag) : Ar 3 (C__is_row K) := fun _ _ _ ⟨_, _, _, _, e, _⟩ => by rw [e]; rfl
def C__row_numbers (K : PySem.W.Frag) : Ct := fun ds Q _ => ∃ (tp : Bool) (pr : PR), ds = [sq tp (prw pr)] ∧ ∀ t, Q (sq t ((backs pr).map D.int))
theorem ar__row_numbers (K : PySem.W.Frag) : Ar 1 (C__row_numbers K) := fun _ _ _ ⟨_, _, e, _⟩ => by rw [e]; rfl
def C__back_fault (K : PySem.W.Frag) : Ct := fun ds Q _ => ∃ (n : Int) (rs : List Rl) (r : Rl) (tp : Bool) (pr : PR) (sh : Sh), ds = [rulesI K n rs, sq tp (prw pr), .lst (sh.map endD)] ∧ Ask n rs r ∧ PROk n rs.length r.1.length pr ∧ sh.length ≤ 1000 ∧ Q (wD (fault rs sh pr))
theorem ar__back_fault (K : PySem.W.Frag) : Ar 3 (C__back_fault K) := fun _ _ _ ⟨_, _, _, _, _, _, e, _⟩ => by rw [e]; rfl
def C__end_of_row (K : PySem.W.Frag) : Ct := fun ds Q _ => ∃ (n : Int) (rs : List Rl) (r : Rl) (tp : Bool) (pr : PR) (sh : Sh), ds = [rulesI K n rs, ruleI K r, sq tp (prw pr), .lst (sh.map endD)] ∧ Ask n rs r ∧ PROk n rs.length r.1.length pr ∧ fault rs sh pr = none ∧ Q (endD (endOf rs r sh pr))
theorem ar__end_of_row (K : PySem.W.Frag) : Ar 4 (C__end_of_row K) := fun _ _ _ ⟨_, _, _, _, _, _, e, _⟩ => by rw [e]; rfl
def stepD : Sum D (Bool × List Row) → D
  | .inl d => d
  | .inr (tp, rows) => sq tp (rows.map rowD)
def stepW (n : Int) (rs : List Rl) (r : Rl) : Sum D (Bool × List Row) → Option Str
  | .inl _ => some "steps"
  | .inr (_, rows) => wordOf n rs r rows
def stepOk : Sum D (Bool × List Row) → Prop
  | .inl d => d.tyn.isSome = true ∧ seqOf d = none
  | .inr (_, rows) => rows.length ≤ 1001 ∧ ∀ row ∈ rows, RowOk row
def C_steps_fault (K : PySem.W.Frag) : Ct := fun ds Q _ => ∃ (n : Int) (rs : List Rl) (r : Rl) (st : Sum D (Bool × List Row)), ds = [rulesI K n rs, ruleI K r, stepD st] ∧ Ask n rs r ∧ stepOk st ∧ Q (wD (stepW n rs r st))
theorem ar_steps_fault (K : PySem.W.Frag) : Ar 3 (C_steps_fault K) := fun _ _ _ ⟨_, _, _, _, e, _⟩ => by rw [e]; rfl
def C__law_rule (K : PySem.W.Frag) (hd : Addr) : Ct := fun ds Q _ => ∃ n : Int, ds = [.ref hd, .int n] ∧ 1 ≤ n ∧ n ≤ 7 ∧ ∀ r : Rl, GR n r → Q (ruleT r)
theorem ar__law_rule {K : PySem.W.Frag} (hd : Addr) : Ar 2 (C__law_rule K hd) := fun _ _ _ ⟨_, e, _⟩ => by rw [e]; rfl
def C__law_rule_of (K : PySem.W.Frag) : Ct := fun ds Q _ => ∃ r : Rl, ds = [ruleT r] ∧ GR 7 r ∧ Q (ruleI K r)
theorem ar__law_rule_of (K : PySem.W.Frag) : Ar 1 (C__law_rule_of K) := fun _ _ _ ⟨_, e, _⟩ => by rw [e]; rfl
def C__law_rules_of (K : PySem.W.Frag) : Ct := fun ds Q _ => ∃ (n : Int) (rs : List Rl), ds = [.int n, .lst (rs.map ruleT)] ∧ 0 ≤ n ∧ n ≤ 7 ∧ rs.length ≤ 80 ∧ (∀ r ∈ rs, GR n r) ∧ Q (rulesI K n rs)
theorem ar__law_rules_of (K : PySem.W.Frag) : Ar 2 (C__law_rules_of K) := fun _ _ _ ⟨_, _, e, _⟩ => by rw [e]; rfl
def C__law_row_form (K : PySem.W.Frag) : Ct := fun ds Q _ => ∃ (n : Int) (rs : List Rl) (r : Rl) (row : Row), ds = [.int n, .lst (rs.map ruleT), ruleT r, rowD row] ∧ Ask n rs r ∧ RowOk row ∧ Q (.bl (parse n rs.length r.1.length row).isSome)
theorem ar__law_row_form (K : PySem.W.Frag) : Ar 4 (C__law_row_form K) := fun _ _ _ ⟨_, _, _, _, e, _⟩ => by rw [e]; rfl
def C__law_steps_word (K : PySem.W.Frag) : Ct := fun ds Q _ => ∃ (n : Int) (rs : List Rl) (r : Rl) (rows : List Row), ds = [.int n, .lst (rs.map ruleT), ruleT r, .lst (rows.map rowD)] ∧ Ask n rs r ∧ stepOk (.inr (false, rows)) ∧ Q (wD (wordOf n rs r rows))
theorem ar__law_steps_word (K : PySem.W.Frag) : Ar 4 (C__law_steps_word K) := fun _ _ _ ⟨_, _, _, _, e, _⟩ => by rw [e]; rfl
def C__law_own_steps (K : PySem.W.Frag) : Fr.CtF := fun ds Q _ => ∃ (n : Int) (rs : List Rl) (r : Rl), ds = [.int n, .lst (rs.map ruleT), ruleT r] ∧ Ask n rs r ∧ n ≤ 4 ∧ ∀ rows : List Row, 1 ≤ rows.length → rows.length ≤ 200 → (∀ row ∈ rows, RowOk row) → Q (rows.map rowD)
theorem ar__law_own_steps (K : PySem.W.Frag) : Fr.ArF 3 (C__law_own_steps K) := fun _ _ _ ⟨_, _, _, e, _⟩ => by rw [e]; rfl
def C__law_odd_row (K : PySem.W.Frag) (hd : Addr) : Ct := fun ds Q _ => ∃ n many at_ : Int, ds = [.ref hd, .int n, .int many, .int at_] ∧ (1 ≤ n ∧ n ≤ 7) ∧ (1 ≤ many ∧ many ≤ 80) ∧ (0 ≤ at_ ∧ at_ ≤ 1000) ∧ ∀ row, RowOk row → Q (rowD row)
theorem ar__law_odd_row {K : PySem.W.Frag} (hd : Addr) : Ar 4 (C__law_odd_row K hd) := fun _ _ _ ⟨_, _, _, e, _⟩ => by rw [e]; rfl
end K12.K32

namespace K00
open PySem PySem.Spec PyProof.Rows L2 Dl
end K00

namespace Zt
open PySem PySem.Spec PyProof.Rows L2 Dl Ns
section
variable {P : Program} {w : World} {A : Around} {E : Value → Shared → Prop} {s : Shared}
end
section
variable {X : Cx}
end
end Zt

namespace Zt
open PySem PySem.Spec PyProof.Rows L2 Dl Ns
section
variable {X : Cx} {g : Gx} {e : Expr} {tas : TAD} {p pos : Pos}
end
end Zt

namespace Lr
open PySem PySem.Spec PyProof.Rows L2 Dl
section
variable {X : Cx} {tg : Expr}
end
end Lr

namespace Iv
open PySem PySem.Spec PyProof.Rows L2 Dl
section
variable {X : Cx} {g : Gx} {tg : Expr}
end
end Iv

namespace K62
open PySem PySem.Spec PyProof.Rows L2 Dl
end K62

namespace K15
open PySem PySem.Spec PyProof.Rows L2 Dl
end K15

namespace Zo
open PySem PySem.Spec PyProof.Rows L2 Zs
section
variable {P : Program} {w : World} {A : Around} {E : Value → Shared → Prop} {s : Shared} {a b : Addr} {S T : Int → Bool} {n m : Nat}
end
end Zo

namespace Zo
open PySem PySem.Spec PyProof.Rows L2 Zs
section
variable {P : Program} {w : World} {A : Around} {E : Value → Shared → Prop} {s : Shared} {a b : Addr} {S T : Int → Bool} {n m : Nat}
end
end Zo

namespace Zo
open PySem PySem.Spec PyProof.Rows L2 Zs Dl
section
variable {P : Program} {w : World} {A : Around} {E : Value → Shared → Prop} {s : Shared} {a b : Addr} {S T : Int → Bool} {n m : Nat}
end
end Zo

namespace Zo
open PySem PySem.Spec PyProof.Rows L2 Dl Zs
section
variable {X : Cx} {g : Gx} {e e2 : Expr} {tz tz2 : TZI} {pos : Pos}
end
end Zo

namespace K15
open PySem PySem.Spec PyProof.Rows L2 Dl Ns Zs Rk K12 K12.K15 K13
structure Tf (K : PySem.W.Frag) (mg : Str → Option Value) : Prop where
  n_abs : mg "abs" = none
  n_all : mg "all" = none
  n_bool : mg "bool" = none
  n_enumerate : mg "enumerate" = none
  n_int : mg "int" = none
  n_isinstance : mg "isinstance" = none
  n_len : mg "len" = none
  n_list : mg "list" = none
  n_max : mg "max" = none
  n_min : mg "min" = none
  n_range : mg "range" = none
  n_set : mg "set" = none
  n_sorted : mg "sorted" = none
  n_tuple : mg "tuple" = none
  g_BadDeed : mg "BadDeed" = some (.ref (He.ga K "BadDeed"))
  g_BadLot : mg "BadLot" = some (.ref (He.ga K "BadLot"))
  g_BadStanding : mg "BadStanding" = some (.ref (He.ga K "BadStanding"))
  g_SpoiltAt : mg "SpoiltAt" = some (.ref (He.ga K "SpoiltAt"))
  g_Stray : mg "Stray" = some (.ref (He.ga K "Stray"))
  i_MOST_PLACES : ∃ t, mg "MOST_PLACES" = some (.int (7) t)
  i_MOST_RELATED : ∃ t, mg "MOST_RELATED" = some (.int (4) t)
  t_DEEDS : Zs.TupG K mg "DEEDS" ["lesser", "odd", "common"]
end K15

namespace K15
open PySem PySem.Spec PyProof.Rows L2 Dl Ns Zs Rk K12 K12.K15 K13
abbrev N_is_whole : List Str := ["thing", "low", "high"]
end K15

namespace K15
open PySem PySem.Spec PyProof.Rows L2 Dl Ns Zs Rk K12 K12.K15 K13
end K15

namespace K15
open PySem PySem.Spec PyProof.Rows L2 Dl Ns Zs Rk K12 K12.K15 K13
end K15

namespace K15
open PySem PySem.Spec PyProof.Rows L2 Dl Ns Zs Rk K12 K12.K15 K13
end K15

namespace K15
open PySem PySem.Spec PyProof.Rows L2 Dl Ns Zs Rk K12 K12.K15 K13
end K15

namespace K15
open PySem PySem.Spec PyProof.Rows L2 Dl Ns Zs Rk K12 K12.K15 K13
end K15

namespace K15
open PySem PySem.Spec PyProof.Rows L2 Dl Ns Zs Rk K12 K12.K15 K13
end K15

namespace K15
open PySem PySem.Spec PyProof.Rows L2 Dl Ns Zs Rk K12 K12.K15 K13
end K15

namespace K15
open PySem PySem.Spec PyProof.Rows L2 Dl Ns Zs Rk K12 K12.K15 K13
end K15

namespace K15
open PySem PySem.Spec PyProof.Rows L2 Dl Ns Zs Rk K12 K12.K15 K13
end K15

namespace K15
open PySem PySem.Spec PyProof.Rows L2 Dl Ns Zs Rk K12 K12.K15 K13
end K15

namespace K15
open PySem PySem.Spec PyProof.Rows L2 Dl Ns Zs Rk K12 K12.K15 K13
end K15

namespace K15
open PySem PySem.Spec PyProof.Rows L2 Dl Ns Zs Rk K12 K12.K15 K13
end K15

namespace K15
open PySem PySem.Spec PyProof.Rows L2 Dl Ns Zs Rk K12 K12.K15 K13
end K15

namespace K15
open PySem PySem.Spec PyProof.Rows L2 Dl Ns Zs Rk K12 K12.K15 K13
end K15

namespace K15
open PySem PySem.Spec PyProof.Rows L2 Dl Ns Zs Rk K12 K12.K15 K13
end K15

namespace K15
open PySem PySem.Spec PyProof.Rows L2 Dl Ns Zs Rk K12 K12.K15 K13
end K15

namespace K15
open PySem PySem.Spec PyProof.Rows L2 Dl Ns Zs Rk K12 K12.K15 K13
end K15

namespace K15
open PySem PySem.Spec PyProof.Rows L2 Dl Ns Zs Rk K12 K12.K15 K13
end K15

namespace K15
open PySem PySem.Spec PyProof.Rows L2 Dl Ns Zs Rk K12 K12.K15 K13
end K15

namespace K15
open PySem PySem.Spec PyProof.Rows L2 Dl Ns Zs Rk K12 K12.K15 K13
end K15

namespace K15
open PySem PySem.Spec PyProof.Rows L2 Dl Ns Zs Rk K12 K12.K15 K13
end K15

namespace K15
open PySem PySem.Spec PyProof.Rows L2 Dl Ns Zs Rk K12 K12.K15 K13
end K15

namespace K15
open PySem PySem.Spec PyProof.Rows L2 Dl Ns Zs Rk K12 K12.K15 K13
end K15

namespace K15
open PySem PySem.Spec PyProof.Rows L2 Dl Ns Zs Rk K12 K12.K15 K13
end K15

namespace K15
open PySem PySem.Spec PyProof.Rows L2 Dl Ns Zs Rk K12 K12.K15 K13
end K15

namespace K15
open PySem PySem.Spec PyProof.Rows L2 Dl Ns Zs Rk K12 K12.K15 K13
end K15

namespace K15
open PySem PySem.Spec PyProof.Rows L2 Dl Ns Zs Rk K12 K12.K15 K13
end K15

namespace K15
open PySem PySem.Spec PyProof.Rows L2 Dl Ns Zs Rk K12 K12.K15 K13
end K15

namespace K15
open PySem PySem.Spec PyProof.Rows L2 Dl Ns Zs Rk K12 K12.K15 K13
end K15

namespace K15
open PySem PySem.Spec PyProof.Rows L2 Dl Ns Zs Rk K12 K12.K15 K13
end K15

namespace K15
open PySem PySem.Spec PyProof.Rows L2 Dl Ns Zs Rk K12 K12.K15 K13
end K15

namespace K15
open PySem PySem.Spec PyProof.Rows L2 Dl Ns Zs Rk K12 K12.K15 K13
end K15

namespace K15
open PySem PySem.Spec PyProof.Rows L2 Dl Ns Zs Rk K12 K12.K15 K13
end K15

namespace K15
open PySem PySem.Spec PyProof.Rows L2 Dl Ns Zs Rk K12 K12.K15 K13
end K15

namespace K15
open PySem PySem.Spec PyProof.Rows L2 Dl Ns Zs Rk K12 K12.K15 K13
end K15

namespace K15
open PySem PySem.Spec PyProof.Rows L2 Dl Ns Zs Rk K12 K12.K15 K13
abbrev N__law_hand : List Str := ["_law_script", "_law_total", "_law_k", "_law_cell"]
end K15

namespace K15
open PySem PySem.Spec PyProof.Rows L2 Dl Ns Zs Rk K12 K12.K15 K13
end K15

namespace K15
open PySem PySem.Spec PyProof.Rows L2 Dl Ns Zs Rk K12 K12.K15 K13
end K15

namespace K15
open PySem PySem.Spec PyProof.Rows L2 Dl Ns Zs Rk K12 K12.K15 K13
end K15

namespace K15
open PySem PySem.Spec PyProof.Rows L2 Dl Ns Zs Rk K12 K12.K15 K13
end K15

namespace K15
open PySem PySem.Spec PyProof.Rows L2 Dl Ns Zs Rk K12 K12.K15 K13
end K15

namespace K15
open PySem PySem.Spec PyProof.Rows L2 Dl Ns Zs Rk K12 K12.K15 K13
end K15

namespace K15
open PySem PySem.Spec PyProof.Rows L2 Dl Ns Zs Rk K12 K12.K15 K13
end K15

namespace K15
open PySem PySem.Spec PyProof.Rows L2 Dl Ns Zs Rk K12 K12.K15 K13
end K15

namespace K15
open PySem PySem.Spec PyProof.Rows L2 Dl Ns Zs Rk K12 K12.K15 K13
end K15

namespace K15
open PySem PySem.Spec PyProof.Rows L2 Dl Ns Zs Rk K12 K12.K15 K13
end K15

namespace K15
open PySem PySem.Spec PyProof.Rows L2 Dl Ns Zs Rk K12 K12.K15 K13
end K15

namespace K15
open PySem PySem.Spec PyProof.Rows L2 Dl Ns Zs Rk K12 K12.K15 K13
end K15

namespace K15
open PySem PySem.Spec PyProof.Rows L2 Dl Ns Zs Rk K12 K12.K15 K13
end K15

namespace K15
open PySem PySem.Spec PyProof.Rows L2 Dl Ns Zs Rk K12 K12.K15 K13
end K15

namespace K15
open PySem PySem.Spec PyProof.Rows L2 Dl Ns Zs Rk K12 K12.K15 K13
end K15

namespace K15
open PySem PySem.Spec PyProof.Rows L2 Dl Ns Zs Rk K12 K12.K15 K13
end K15

namespace K15
open PySem PySem.Spec PyProof.Rows L2 Dl Ns Zs Rk K12 K12.K15 K13
end K15

namespace K15
open PySem PySem.Spec PyProof.Rows L2 Dl Ns Zs Rk K12 K12.K15 K13
end K15

namespace K15
open PySem PySem.Spec PyProof.Rows L2 Dl Ns Zs Rk K12 K12.K15 K13
end K15

namespace K15
open PySem PySem.Spec PyProof.Rows L2 Dl Ns Zs Rk K12 K12.K15 K13
end K15

namespace K15
open PySem PySem.Spec PyProof.Rows L2 Dl Ns Zs Rk K12 K12.K15 K13
end K15

namespace K15
open PySem PySem.Spec PyProof.Rows L2 Dl Ns Zs Rk K12 K12.K15 K13
end K15

namespace K15
open PySem PySem.Spec PyProof.Rows L2 Dl Ns Zs Rk K12 K12.K15 K13
end K15

namespace K15
open PySem PySem.Spec PyProof.Rows L2 Dl Ns Zs Rk K12 K12.K15 K13
end K15

namespace K15
open PySem PySem.Spec PyProof.Rows L2 Dl Ns Zs Rk K12 K12.K15 K13
end K15

namespace K15
open PySem PySem.Spec PyProof.Rows L2 Dl Ns Zs Rk K12 K12.K15 K13
end K15

namespace K15
open PySem PySem.Spec PyProof.Rows L2 Dl Ns Zs Rk K12 K12.K15 K13
end K15

namespace K15
open PySem PySem.Spec PyProof.Rows L2 Dl Ns Zs Rk K12 K12.K15 K13
end K15

namespace K15
open PySem PySem.Spec PyProof.Rows L2 Dl Ns Zs Rk K12 K12.K15 K13
end K15

namespace K15
open PySem PySem.Spec PyProof.Rows L2 Dl Ns Zs Rk K12 K12.K15 K13
end K15

namespace K15
open PySem PySem.Spec PyProof.Rows L2 Dl Ns Zs Rk K12 K12.K15 K13
end K15

namespace K15
open PySem PySem.Spec PyProof.Rows L2 Dl Ns Zs Rk K12 K12.K15 K13
end K15

namespace K15
open PySem PySem.Spec PyProof.Rows L2 Dl Ns Zs Rk K12 K12.K15 K13
end K15

namespace K15
open PySem PySem.Spec PyProof.Rows L2 Dl Ns Zs Rk K12 K12.K15 K13
end K15

namespace K15
open PySem PySem.Spec PyProof.Rows L2 Dl Ns Zs Rk K12 K12.K15 K13
end K15

namespace K15
open PySem PySem.Spec PyProof.Rows L2 Dl Ns Zs Rk K12 K12.K15 K13
abbrev N_law : List Str := ["_law_script", "_law_hand_here", "_law_turn", "_law_places_here", "_law_members", "_law_relation_here", "_law_strays_here", "_law_deed", "_law_word", "_law_rows", "_law_told"]
end K15


namespace Rd
open PySem PySem.Spec PyProof.Rows L2 Dl Ns Zs Fm
section
variable {env : DEnv} {S : List D} {Dd : FEnds} {t u : TSF} {a : Addr} {i j : Nat} {tt : TTD} {td : TED} {ts : TSD} {tid : TID} {gd : TGD} {te : TEF}
end
end Rd
namespace K12
open PySem PySem.Spec PyProof.Rows L2 Dl Ns Zs Zz Rk Rd K13
local macro_rules
  | `(tactic| decreasing_trivial_pre_omega) => `(tactic| first
  | (with_reducible refine Rd.gSeq ?_)
  | (with_reducible refine Rd.gIf ?_)
  | (with_reducible refine Rd.gNext ?_)
  | (with_reducible refine Rd.gRet ?_)
  | (with_reducible refine Rd.gLift ?_)
  | ((with_reducible refine Rd.gLiftN ?_ ?_); (rfl))
  | (with_reducible refine Rd.gApp ?_)
  | (with_reducible refine Rd.gFor ?_)
  | (with_reducible refine Rd.gSetW ?_)
  | (with_reducible refine Rd.gCallW ?_)
  | (with_reducible refine Rd.gDrop ?_))
end K12

namespace K12
open PySem PySem.Spec PyProof.Rows L2 Dl Ns Zs Zz Rk Rd K13
local macro_rules
  | `(tactic| decreasing_trivial_pre_omega) => `(tactic| first
  | (with_reducible refine Rd.gSeq ?_)
  | (with_reducible refine Rd.gIf ?_)
  | (with_reducible refine Rd.gNext ?_)
  | (with_reducible refine Rd.gRet ?_)
  | (with_reducible refine Rd.gLift ?_)
  | ((with_reducible refine Rd.gLiftN ?_ ?_); (rfl))
  | (with_reducible refine Rd.gApp ?_)
  | (with_reducible refine Rd.gFor ?_)
  | (with_reducible refine Rd.gSetW ?_)
  | (with_reducible refine Rd.gCallW ?_)
  | (with_reducible refine Rd.gDrop ?_))
end K12

namespace K12.K15
open PySem PySem.Spec PyProof.Rows L2 Dl Ns Zs Zz Rk Rd K13 K15
end K12.K15

namespace K12.K15
open PySem PySem.Spec PyProof.Rows L2 Dl Ns Zs Zz Rk Rd K13 _root_.K15
theorem eqD_str {a b : Str} : eqD (.str a) (.str b) = decide (a = b) := by
  unfold eqD
  simp only [D.py]
  show (a == b) = decide (a = b)
  by_cases h : a = b
  · rw [decide_eq_true h]; simpa using h
  · rw [decide_eq_false h]; simpa using h
end K12.K15

namespace K12.K15
open PySem PySem.Spec PyProof.Rows L2 Dl Ns Zs Zz Rk Rd K13 _root_.K15
end K12.K15

namespace K12.K15
open PySem PySem.Spec PyProof.Rows L2 Dl Ns Zs Zz Rk Rd K13 _root_.K15
end K12.K15

namespace K12.K15
open PySem PySem.Spec PyProof.Rows L2 Dl Ns Zs Zz Rk Rd K13 _root_.K15
end K12.K15

namespace K12.K15
open PySem PySem.Spec PyProof.Rows L2 Dl Ns Zs Zz Rk Rd K13 _root_.K15
end K12.K15

namespace K12.K15
open PySem PySem.Spec PyProof.Rows L2 Dl Ns Zs Zz Rk Rd K13 _root_.K15
end K12.K15

namespace K12.K15
open PySem PySem.Spec PyProof.Rows L2 Dl Ns Zs Zz Rk Rd K13 _root_.K15
end K12.K15

namespace K12.K15
open PySem PySem.Spec PyProof.Rows L2 Dl Ns Zs Zz Rk Rd K13 _root_.K15
local macro_rules
  | `(tactic| decreasing_trivial_pre_omega) => `(tactic| first
  | (with_reducible refine Rd.gSeq ?_)
  | (with_reducible refine Rd.gIf ?_)
  | (with_reducible refine Rd.gNext ?_)
  | (with_reducible refine Rd.gRet ?_)
  | (with_reducible refine Rd.gLift ?_)
  | ((with_reducible refine Rd.gLiftN ?_ ?_); (rfl))
  | (with_reducible refine Rd.gApp ?_)
  | (with_reducible refine Rd.gFor ?_)
  | (with_reducible refine Rd.gSetW ?_)
  | (with_reducible refine Rd.gCallW ?_)
  | (with_reducible refine Rd.gDrop ?_))
end K12.K15

namespace K12.K15
open PySem PySem.Spec PyProof.Rows L2 Dl Ns Zs Zz Rk Rd K13 _root_.K15
local macro_rules
  | `(tactic| decreasing_trivial_pre_omega) => `(tactic| first
  | (with_reducible refine Rd.gSeq ?_)
  | (with_reducible refine Rd.gIf ?_)
  | (with_reducible refine Rd.gNext ?_)
  | (with_reducible refine Rd.gRet ?_)
  | (with_reducible refine Rd.gLift ?_)
  | ((with_reducible refine Rd.gLiftN ?_ ?_); (rfl))
  | (with_reducible refine Rd.gApp ?_)
  | (with_reducible refine Rd.gFor ?_)
  | (with_reducible refine Rd.gSetW ?_)
  | (with_reducible refine Rd.gCallW ?_)
  | (with_reducible refine Rd.gDrop ?_))
end K12.K15

namespace K12.K15
open PySem PySem.Spec PyProof.Rows L2 Dl Ns Zs Zz Rk Rd K13 _root_.K15
end K12.K15

namespace Tm
open PySem PySem.Spec PyProof.Rows L2 Dl
section
variable {X : Cx} {body : List Stmt} {h0 : ExceptHandler} {hs : List ExceptHandler} {l : List Cls} {pos : Pos} {tb : WX → TS} {W : WX}
end
section
variable {X : Cx} {g : Gx} {body : List Stmt} {h0 : ExceptHandler} {hs : List ExceptHandler} {l : List ClsD} {pos : Pos} {tb : TSX}
end
end Tm
namespace Ht
open PySem PySem.Spec PyProof.Rows L2 Dl He Zs L2H
section
variable {X : Cx} {g : Gx} {pos p cpos : Pos} {x : Str}
end
section
variable {X : Cx} {g : Gx} {e : Expr} {es : List Expr} {tas : TAD} {pos p : Pos} {x : Str}
end
section
variable {P : Program} {w : World} {K : PySem.W.Frag} {mg : Str → Option Value} {base : Heap}
end
section
variable {X : Cx} {g : Gx} {x : Str} {c : Value} {body suite : List Stmt} {b₀ : Stmt} {np pos pos' : Pos} {tb : TSX} {ts : TSD}
end
end Ht

namespace K12.K15
open PySem PySem.Spec PyProof.Rows L2 Dl Ns Zs Zz Rk Rd K13 _root_.K15
section
variable {P : Program} {w : World} {K : PySem.W.Frag} {mg : Str → Option Value} {base : Heap} {I : HI} {fa : Addr} {fd : FuncData}
end
end K12.K15

namespace K12.K15
open PySem PySem.Spec PyProof.Rows L2 Dl Ns Zs Zz Rk Rd K13 _root_.K15
end K12.K15

namespace Fk
open PySem PySem.Spec PyProof.Rows L2 Dl Ns In Fr Fm Zs
abbrev KV := List (KeyD × V)
abbrev SD := List (KeyD × D)
def trk (I : HI) (a : Addr) (kvs : KV) : HI where
  own := fun x => I.own x ∨ x = a
  foot := fun x => I.foot x ∨ x = a
  ok := fun H => I.ok H ∧ H a = some (.dK kvs)
  sub := fun x z => z.imp (I.sub x) id
  dom := fun H x h z => z.elim (fun z => I.dom H x h.1 z) fun z e => by rw [z, h.2] at e; cases e
  loc := fun H H' h ok => ⟨I.loc H H' (fun x f => h x (.inl f)) ok.1, by rw [h a (.inr rfl)]; exact ok.2⟩
section
variable {K : PySem.W.Frag} {I : HI} {a : Addr} {i : Nat} {b : B0} {σ : L2.St} {H H' : Hp} {S : SD} {env : DEnv} {kvs kvs' : KV}
abbrev vals (kvs : KV) : List V := kvs.map (·.2)
abbrev dats (S : SD) : List D := S.map (·.2)
structure DenF (K : PySem.W.Frag) (I : HI) (a : Addr) (i : Nat) (b : B0) (σ : L2.St) (H : Hp) (S : SD) (env : DEnv) : Prop where
  nb : b.H0 a = none
  nf : ¬ I.foot a
  sl : env[i]? = some (.val (.ref a))
  ex : ∃ kvs : KV, kvs.map (·.1) = S.map (·.1) ∧ DenE K (trk I a kvs) ⟨b.H0, (vals kvs).zip (dats S) ++ b.hs⟩ σ H env
end
structure FEnds where
  nx : SD → DEnv → Prop
  rt : SD → D → Prop
  bk : SD → DEnv → Prop
  ct : SD → DEnv → Prop
  pl : DEnds
abbrev TSF := FEnds → SD → DEnv → Prop
structure EF (K : PySem.W.Frag) (g : Gx) (a : Addr) (i : Nat) (b : B0) (Dd : FEnds) (E : Ends) : Prop where
  nx : ∀ σ H S env, DenF K g.I a i b σ H S env → Dd.nx S env → E.nx σ H
  rt : ∀ σ v d H S env, DenF K g.I a i b σ H S env → Den K (ownA g.I a) H v d → Dd.rt S d → E.rt v H
  bk : ∀ σ H S env, DenF K g.I a i b σ H S env → Dd.bk S env → E.bk σ H
  ct : ∀ σ H S env, DenF K g.I a i b σ H S env → Dd.ct S env → E.ct σ H
  pl : EL K g b Dd.pl E
def PSF (X : Cx) (g : Gx) (a : Addr) (i : Nat) (st : Stmt) (td : TSF) : Prop :=
  ∀ (b : B0) (σ : L2.St) (H : Hp) (S : SD) (env : DEnv) (Dd : FEnds) (E : Ends), DenF X.K g.I a i b σ H S env → XL X.K g b → td Dd S env → EF X.K g a i b Dd E → wS X st E σ H
def PSsF (X : Cx) (g : Gx) (a : Addr) (i : Nat) (sts : List Stmt) (td : TSF) : Prop :=
  ∀ (b : B0) (σ : L2.St) (H : Hp) (S : SD) (env : DEnv) (Dd : FEnds) (E : Ends), DenF X.K g.I a i b σ H S env → XL X.K g b → td Dd S env → EF X.K g a i b Dd E → wSs X sts E σ H
abbrev tr (g : Gx) (a : Addr) (kvs : KV) : Gx := ⟨trk g.I a kvs, fun _ _ => False, g.W⟩
section
variable {X : Cx} {g : Gx} {a : Addr} {i j : Nat} {e c : Expr} {es : List Expr} {st : Stmt} {rest sts sts2 : List Stmt} {td : TED} {tt : TTD} {t u : TSF} {ts : TSD} {tas : TAD} {pos pos' p : Pos} {x : Str}
def fNext : TSF := fun Dd S env => Dd.nx S env
def fSeq (t u : TSF) : TSF := fun Dd S env => t { Dd with nx := u Dd, pl := { Dd.pl with nx := fun _ => False } } S env
def fDrop (i : Nat) (ts : TSD) : TSF := fun Dd S env => ts Dd.pl (env.set i (.val (dctD S)))
def fLift (a : Addr) (i : Nat) (ts : TSD) : TSF := fun Dd S env => ts ⟨fun e => e[i]? = some (.val (.ref a)) ∧ Dd.nx S e, fun _ => False, fun e => e[i]? = some (.val (.ref a)) ∧ Dd.bk S e, fun e => e[i]? = some (.val (.ref a)) ∧ Dd.ct S e, fun _ => False⟩ env
def fIf (i : Nat) (tt : TTD) (t u : TSF) : TSF := fun Dd S env => tt (env.set i (.val (dctD S))) fun c => if c = true then t Dd S env else u Dd S env
def putD (S : SD) (k : KeyD) (d : D) : SD := if S.any (fun p => decide (p.1 = k)) = true then S.map (fun p => if p.1 = k then (p.1, d) else p) else S ++ [(k, d)]
def fPut (tk te : TED) : TSF := fun Dd S env => te env fun d => tk env fun y => ∃ k, y = kD k ∧ S.length < sizeLine ∧ (noOwn env = true ∨ (noLstA (dats S) = true ∧ d.noLst = true)) ∧ Dd.nx (putD S k d) env
end
end Fk

namespace Fk
open PySem PySem.Spec PyProof.Rows L2 Dl Ns In Fr Zs
open Fm (ownA reholdM)
section
variable {K : PySem.W.Frag} {Av : Addr → Prop} {H : Hp} {k : KeyD} {v : V} {d : D}
end
section
variable {X : Cx} {g : Gx} {a : Addr} {i : Nat} {e ke : Expr} {td tk : TED} {pos pos' p1 : Pos} {x : Str}
end
end Fk

namespace Fk
open PySem PySem.Spec PyProof.Rows L2 Dl Ns In Fr Zs
open Fm (ownA reholdM)
section
variable {X : Cx} {g : Gx} {a : Addr} {i : Nat} {tg it : Expr} {body : List Stmt} {pos : Pos} {tid : TID} {gd : TGD} {tb : TSF}
def forF (gd : TGD) (tb : TSF) (a : Addr) (i : Nat) (Dd : FEnds) : List D → SD → DEnv → Prop
  | [], S, env => Dd.nx S env
  | x :: xs, S, env => gd x env fun env2 => env2[i]? = some (.val (.ref a)) ∧ tb ⟨forF gd tb a i Dd xs, Dd.rt, Dd.nx, forF gd tb a i Dd xs, { Dd.pl with nx := fun _ => False, bk := fun _ => False, ct := fun _ => False }⟩ S env2
def fFor (tid : TID) (gd : TGD) (tb : TSF) (a : Addr) (i : Nat) : TSF := fun Dd S env => tid env fun ds => forF gd tb a i Dd ds S env
end
section
variable {K : PySem.W.Frag} {I : HI} {b : B0} {σ : L2.St} {H H' : Hp} {env : DEnv} {i : Nat} {p : Addr}
end
section
variable {X : Cx} {g : Gx} {i : Nat} {sts : List Stmt} {td : Addr → TSF} {x : Str} {pos pos' p1 : Pos}
def FE (i : Nat) (Dd : DEnds) : FEnds := ⟨fun S env => Dd.nx (env.set i (.val (dctD S))), fun _ d => Dd.rt d, fun S env => Dd.bk (env.set i (.val (dctD S))), fun S env => Dd.ct (env.set i (.val (dctD S))), Dd⟩
end
end Fk

namespace Fk
open PySem PySem.Spec PyProof.Rows L2 Dl Ns Zs
abbrev hasK (S : SD) (k : KeyD) : Bool := S.any fun p => decide (p.1 = k)
def fInK (neg : Bool) : F2 := fun y x Q => ∃ (S : SD) (k : KeyD), x = dctD S ∧ y = kD k ∧ Q (.bl (xor neg (hasK S k)))
section
variable {X : Cx} {I : HI}
end
end Fk

namespace Nd
open PySem PySem.Spec PyProof.Rows L2 Dl Ns Zs
section
variable {X : Cx} {O0 : Addr → HO} {Pu : Addr → V → V → Hp → (Hp → Prop) → Prop}
end
section
variable {X : Cx} {g : Gx} {i : Nat} {y : Str} {py : Pos} {kx vx tg iter : Expr} {ifs : List Expr} {scope : Scope} {own : List (Str × Nat)} {pos spos : Pos} {gt : TG} {tid : TID} {gd : TGD} {td : TTD} {kd ed : TED}
end
end Nd

namespace K62
open PySem PySem.Spec PyProof.Rows L2 Dl Ns Zs Rk K12 K12.K15 K12.K62 K13 K15
structure Tf (K : PySem.W.Frag) (mg : Str → Option Value) : Prop where
  n_abs : mg "abs" = none
  n_all : mg "all" = none
  n_any : mg "any" = none
  n_bool : mg "bool" = none
  n_enumerate : mg "enumerate" = none
  n_int : mg "int" = none
  n_isinstance : mg "isinstance" = none
  n_len : mg "len" = none
  n_list : mg "list" = none
  n_max : mg "max" = none
  n_min : mg "min" = none
  n_range : mg "range" = none
  n_set : mg "set" = none
  n_sorted : mg "sorted" = none
  n_tuple : mg "tuple" = none
  n_zip : mg "zip" = none
  g_BadLot : mg "BadLot" = some (.ref (He.ga K "BadLot"))
  g_BadStanding : mg "BadStanding" = some (.ref (He.ga K "BadStanding"))
  g_BrokenOver : mg "BrokenOver" = some (.ref (He.ga K "BrokenOver"))
  g_NoLot : mg "NoLot" = some (.ref (He.ga K "NoLot"))
  i_MOST_PLACES : ∃ t, mg "MOST_PLACES" = some (.int (7) t)
  i_MOST_RELATED : ∃ t, mg "MOST_RELATED" = some (.int (4) t)
end K62

namespace K62
open PySem PySem.Spec PyProof.Rows L2 Dl Ns Zs Rk K12 K12.K15 K12.K62 K13 K15
abbrev N_is_whole : List Str := ["thing", "low", "high"]
end K62

namespace K62
open PySem PySem.Spec PyProof.Rows L2 Dl Ns Zs Rk K12 K12.K15 K12.K62 K13 K15
end K62

namespace K62
open PySem PySem.Spec PyProof.Rows L2 Dl Ns Zs Rk K12 K12.K15 K12.K62 K13 K15
end K62

namespace K62
open PySem PySem.Spec PyProof.Rows L2 Dl Ns Zs Rk K12 K12.K15 K12.K62 K13 K15
end K62

namespace K62
open PySem PySem.Spec PyProof.Rows L2 Dl Ns Zs Rk K12 K12.K15 K12.K62 K13 K15
end K62

namespace K62
open PySem PySem.Spec PyProof.Rows L2 Dl Ns Zs Rk K12 K12.K15 K12.K62 K13 K15
end K62

namespace K62
open PySem PySem.Spec PyProof.Rows L2 Dl Ns Zs Rk K12 K12.K15 K12.K62 K13 K15
end K62

namespace K62
open PySem PySem.Spec PyProof.Rows L2 Dl Ns Zs Rk K12 K12.K15 K12.K62 K13 K15
end K62

namespace K62
open PySem PySem.Spec PyProof.Rows L2 Dl Ns Zs Rk K12 K12.K15 K12.K62 K13 K15
end K62

namespace K62
open PySem PySem.Spec PyProof.Rows L2 Dl Ns Zs Rk K12 K12.K15 K12.K62 K13 K15
end K62

namespace K62
open PySem PySem.Spec PyProof.Rows L2 Dl Ns Zs Rk K12 K12.K15 K12.K62 K13 K15
end K62

namespace K62
open PySem PySem.Spec PyProof.Rows L2 Dl Ns Zs Rk K12 K12.K15 K12.K62 K13 K15
end K62

namespace K62
open PySem PySem.Spec PyProof.Rows L2 Dl Ns Zs Rk K12 K12.K15 K12.K62 K13 K15
end K62

namespace K62
open PySem PySem.Spec PyProof.Rows L2 Dl Ns Zs Rk K12 K12.K15 K12.K62 K13 K15
end K62

namespace K62
open PySem PySem.Spec PyProof.Rows L2 Dl Ns Zs Rk K12 K12.K15 K12.K62 K13 K15
end K62

namespace K62
open PySem PySem.Spec PyProof.Rows L2 Dl Ns Zs Rk K12 K12.K15 K12.K62 K13 K15
end K62

namespace K62
open PySem PySem.Spec PyProof.Rows L2 Dl Ns Zs Rk K12 K12.K15 K12.K62 K13 K15
end K62

namespace K62
open PySem PySem.Spec PyProof.Rows L2 Dl Ns Zs Rk K12 K12.K15 K12.K62 K13 K15
end K62

namespace K62
open PySem PySem.Spec PyProof.Rows L2 Dl Ns Zs Rk K12 K12.K15 K12.K62 K13 K15
end K62

namespace K62
open PySem PySem.Spec PyProof.Rows L2 Dl Ns Zs Rk K12 K12.K15 K12.K62 K13 K15
end K62

namespace K62
open PySem PySem.Spec PyProof.Rows L2 Dl Ns Zs Rk K12 K12.K15 K12.K62 K13 K15
end K62

namespace K62
open PySem PySem.Spec PyProof.Rows L2 Dl Ns Zs Rk K12 K12.K15 K12.K62 K13 K15
end K62

namespace K62
open PySem PySem.Spec PyProof.Rows L2 Dl Ns Zs Rk K12 K12.K15 K12.K62 K13 K15
end K62

namespace K62
open PySem PySem.Spec PyProof.Rows L2 Dl Ns Zs Rk K12 K12.K15 K12.K62 K13 K15
end K62

namespace K62
open PySem PySem.Spec PyProof.Rows L2 Dl Ns Zs Rk K12 K12.K15 K12.K62 K13 K15
end K62

namespace K62
open PySem PySem.Spec PyProof.Rows L2 Dl Ns Zs Rk K12 K12.K15 K12.K62 K13 K15
end K62

namespace K62
open PySem PySem.Spec PyProof.Rows L2 Dl Ns Zs Rk K12 K12.K15 K12.K62 K13 K15
end K62

namespace K62
open PySem PySem.Spec PyProof.Rows L2 Dl Ns Zs Rk K12 K12.K15 K12.K62 K13 K15
end K62

namespace K62
open PySem PySem.Spec PyProof.Rows L2 Dl Ns Zs Rk K12 K12.K15 K12.K62 K13 K15
end K62

namespace K62
open PySem PySem.Spec PyProof.Rows L2 Dl Ns Zs Rk K12 K12.K15 K12.K62 K13 K15
end K62

namespace K62
open PySem PySem.Spec PyProof.Rows L2 Dl Ns Zs Rk K12 K12.K15 K12.K62 K13 K15
end K62

namespace K62
open PySem PySem.Spec PyProof.Rows L2 Dl Ns Zs Rk K12 K12.K15 K12.K62 K13 K15
end K62

namespace K62
open PySem PySem.Spec PyProof.Rows L2 Dl Ns Zs Rk K12 K12.K15 K12.K62 K13 K15
end K62

namespace K62
open PySem PySem.Spec PyProof.Rows L2 Dl Ns Zs Rk K12 K12.K15 K12.K62 K13 K15
end K62

namespace K62
open PySem PySem.Spec PyProof.Rows L2 Dl Ns Zs Rk K12 K12.K15 K12.K62 K13 K15
end K62

namespace K62
open PySem PySem.Spec PyProof.Rows L2 Dl Ns Zs Rk K12 K12.K15 K12.K62 K13 K15
end K62

namespace K62
open PySem PySem.Spec PyProof.Rows L2 Dl Ns Zs Rk K12 K12.K15 K12.K62 K13 K15
end K62

namespace K62
open PySem PySem.Spec PyProof.Rows L2 Dl Ns Zs Rk K12 K12.K15 K12.K62 K13 K15
end K62

namespace K62
open PySem PySem.Spec PyProof.Rows L2 Dl Ns Zs Rk K12 K12.K15 K12.K62 K13 K15
abbrev N__law_hand : List Str := ["_law_script", "_law_total", "_law_k", "_law_cell"]
end K62

namespace K62
open PySem PySem.Spec PyProof.Rows L2 Dl Ns Zs Rk K12 K12.K15 K12.K62 K13 K15
end K62

namespace K62
open PySem PySem.Spec PyProof.Rows L2 Dl Ns Zs Rk K12 K12.K15 K12.K62 K13 K15
end K62

namespace K62
open PySem PySem.Spec PyProof.Rows L2 Dl Ns Zs Rk K12 K12.K15 K12.K62 K13 K15
end K62

namespace K62
open PySem PySem.Spec PyProof.Rows L2 Dl Ns Zs Rk K12 K12.K15 K12.K62 K13 K15
end K62

namespace K62
open PySem PySem.Spec PyProof.Rows L2 Dl Ns Zs Rk K12 K12.K15 K12.K62 K13 K15
end K62

namespace K62
open PySem PySem.Spec PyProof.Rows L2 Dl Ns Zs Rk K12 K12.K15 K12.K62 K13 K15
end K62

namespace K62
open PySem PySem.Spec PyProof.Rows L2 Dl Ns Zs Rk K12 K12.K15 K12.K62 K13 K15
end K62

namespace K62
open PySem PySem.Spec PyProof.Rows L2 Dl Ns Zs Rk K12 K12.K15 K12.K62 K13 K15
end K62

namespace K62
open PySem PySem.Spec PyProof.Rows L2 Dl Ns Zs Rk K12 K12.K15 K12.K62 K13 K15
end K62

namespace K62
open PySem PySem.Spec PyProof.Rows L2 Dl Ns Zs Rk K12 K12.K15 K12.K62 K13 K15
end K62

namespace K62
open PySem PySem.Spec PyProof.Rows L2 Dl Ns Zs Rk K12 K12.K15 K12.K62 K13 K15
end K62

namespace K62
open PySem PySem.Spec PyProof.Rows L2 Dl Ns Zs Rk K12 K12.K15 K12.K62 K13 K15
end K62

namespace K62
open PySem PySem.Spec PyProof.Rows L2 Dl Ns Zs Rk K12 K12.K15 K12.K62 K13 K15
end K62

namespace K62
open PySem PySem.Spec PyProof.Rows L2 Dl Ns Zs Rk K12 K12.K15 K12.K62 K13 K15
end K62

namespace K62
open PySem PySem.Spec PyProof.Rows L2 Dl Ns Zs Rk K12 K12.K15 K12.K62 K13 K15
end K62

namespace K62
open PySem PySem.Spec PyProof.Rows L2 Dl Ns Zs Rk K12 K12.K15 K12.K62 K13 K15
end K62

namespace K62
open PySem PySem.Spec PyProof.Rows L2 Dl Ns Zs Rk K12 K12.K15 K12.K62 K13 K15
end K62

namespace K62
open PySem PySem.Spec PyProof.Rows L2 Dl Ns Zs Rk K12 K12.K15 K12.K62 K13 K15
end K62

namespace K62
open PySem PySem.Spec PyProof.Rows L2 Dl Ns Zs Rk K12 K12.K15 K12.K62 K13 K15
end K62

namespace K62
open PySem PySem.Spec PyProof.Rows L2 Dl Ns Zs Rk K12 K12.K15 K12.K62 K13 K15
end K62

namespace K62
open PySem PySem.Spec PyProof.Rows L2 Dl Ns Zs Rk K12 K12.K15 K12.K62 K13 K15
end K62

namespace K62
open PySem PySem.Spec PyProof.Rows L2 Dl Ns Zs Rk K12 K12.K15 K12.K62 K13 K15
end K62

namespace K62
open PySem PySem.Spec PyProof.Rows L2 Dl Ns Zs Rk K12 K12.K15 K12.K62 K13 K15
end K62

namespace K62
open PySem PySem.Spec PyProof.Rows L2 Dl Ns Zs Rk K12 K12.K15 K12.K62 K13 K15
end K62

namespace K62
open PySem PySem.Spec PyProof.Rows L2 Dl Ns Zs Rk K12 K12.K15 K12.K62 K13 K15
end K62

namespace K62
open PySem PySem.Spec PyProof.Rows L2 Dl Ns Zs Rk K12 K12.K15 K12.K62 K13 K15
end K62

namespace K62
open PySem PySem.Spec PyProof.Rows L2 Dl Ns Zs Rk K12 K12.K15 K12.K62 K13 K15
end K62

namespace K62
open PySem PySem.Spec PyProof.Rows L2 Dl Ns Zs Rk K12 K12.K15 K12.K62 K13 K15
end K62

namespace K62
open PySem PySem.Spec PyProof.Rows L2 Dl Ns Zs Rk K12 K12.K15 K12.K62 K13 K15
end K62

namespace K62
open PySem PySem.Spec PyProof.Rows L2 Dl Ns Zs Rk K12 K12.K15 K12.K62 K13 K15
end K62

namespace K62
open PySem PySem.Spec PyProof.Rows L2 Dl Ns Zs Rk K12 K12.K15 K12.K62 K13 K15
end K62

namespace K62
open PySem PySem.Spec PyProof.Rows L2 Dl Ns Zs Rk K12 K12.K15 K12.K62 K13 K15
abbrev N_law : List Str := ["_law_script", "_law_hand_here", "_law_turn", "_law_places", "_law_members", "_law_relation_here", "_law_can", "_law_told", "_law_strays_here", "_law_ask"]
end K62


namespace K12.K62
open PySem PySem.Spec PyProof.Rows L2 Dl Ns Zs Zz Rk Rd K12 K12.K15 K13 _root_.K15 _root_.K62
end K12.K62

namespace K12.K62
open PySem PySem.Spec PyProof.Rows L2 Dl Ns Zs Zz Rk Rd K12 K12.K15 K13 _root_.K15 _root_.K62
end K12.K62

namespace K12.K62
open PySem PySem.Spec PyProof.Rows L2 Dl Ns Zs Zz Rk Rd K12 K12.K15 K13 _root_.K15 _root_.K62
end K12.K62

namespace K12.K62
open PySem PySem.Spec PyProof.Rows L2 Dl Ns Zs Zz Rk Rd K12 K12.K15 K13 _root_.K15 _root_.K62
def one (k : Nat) (p : Int) : KeyD × D := (.inl p, .int (k : Nat))
abbrev inB (K : PySem.W.Frag) (Ed : DEnv → Exc → Prop) (ta : Addr) : Fk.TSF := Fk.fSeq (Fk.fIf 1 (dOr (dNot (dB (dCall ((C_is_whole K)) [] Ed (dCons (dVar 4) (dCons (dC (.int 0)) (dCons (dOp fSub (dC (.int 7)) (dC (.int 1))) (dNil))))))) (dTest (dOp (Fk.fInK false) (dVar 4) (dVar 1)))) (Fk.fLift ta 1 (sRaise (He.ga K "BadLayers") "index" (fun _ _ => False) (dVar 2))) (Fk.fNext)) (Fk.fPut (dVar 4) (dVar 2))
end K12.K62

namespace K12.K62
open PySem PySem.Spec PyProof.Rows L2 Dl Ns Zs Zz Rk Rd K12 K12.K15 K13 _root_.K15 _root_.K62
end K12.K62

namespace K12.K62
open PySem PySem.Spec PyProof.Rows L2 Dl Ns Zs Zz Rk Rd K12 K12.K15 K13 _root_.K15 _root_.K62
end K12.K62

namespace K12.K62
open PySem PySem.Spec PyProof.Rows L2 Dl Ns Zs Zz Rk Rd K12 K12.K15 K13 _root_.K15 _root_.K62
end K12.K62

namespace K12.K62
open PySem PySem.Spec PyProof.Rows L2 Dl Ns Zs Zz Rk Rd K12 K12.K15 K13 _root_.K15 _root_.K62
end K12.K62

namespace K12.K62
open PySem PySem.Spec PyProof.Rows L2 Dl Ns Zs Zz Rk Rd K12 K12.K15 K13 _root_.K15 _root_.K62
end K12.K62

namespace K12.K62
open PySem PySem.Spec PyProof.Rows L2 Dl Ns Zs Zz Rk Rd K12 K12.K15 K13 _root_.K15 _root_.K62
end K12.K62

namespace K12.K62
open PySem PySem.Spec PyProof.Rows L2 Dl Ns Zs Zz Rk Rd K12 K12.K15 K13 _root_.K15 _root_.K62
end K12.K62

namespace K12.K62
open PySem PySem.Spec PyProof.Rows L2 Dl Ns Zs Zz Rk Rd K12 K12.K15 K13 _root_.K15 _root_.K62
end K12.K62

namespace K12.K62
open PySem PySem.Spec PyProof.Rows L2 Dl Ns Zs Zz Rk Rd K12 K12.K15 K13 _root_.K15 _root_.K62
end K12.K62

namespace K12.K62
open PySem PySem.Spec PyProof.Rows L2 Dl Ns Zs Zz Rk Rd K12 K12.K15 K13 _root_.K15 _root_.K62
end K12.K62

namespace K12.K62
open PySem PySem.Spec PyProof.Rows L2 Dl Ns Zs Zz Rk Rd K12 K12.K15 K13 _root_.K15 _root_.K62
end K12.K62

namespace K12.K62
open PySem PySem.Spec PyProof.Rows L2 Dl Ns Zs Zz Rk Rd K12 K12.K15 K13 _root_.K15 _root_.K62
end K12.K62

namespace K00
open PySem PySem.Spec PyProof.Rows L2 Dl Ns Zs Rk K12 K12.K00
structure Tf (K : PySem.W.Frag) (mg : Str → Option Value) : Prop where
  n_ValueError : mg "ValueError" = none
  n_abs : mg "abs" = none
  n_bool : mg "bool" = none
  n_enumerate : mg "enumerate" = none
  n_int : mg "int" = none
  n_isinstance : mg "isinstance" = none
  n_len : mg "len" = none
  n_list : mg "list" = none
  n_max : mg "max" = none
  n_range : mg "range" = none
  n_set : mg "set" = none
  n_sorted : mg "sorted" = none
  n_sum : mg "sum" = none
  n_tuple : mg "tuple" = none
  g_BadLayers : mg "BadLayers" = some (.ref (He.ga K "BadLayers"))
  g_BadPlaces : mg "BadPlaces" = some (.ref (He.ga K "BadPlaces"))
  g_BadStanding : mg "BadStanding" = some (.ref (He.ga K "BadStanding"))
  g_DateError : mg "DateError" = some (.ref (He.ga K "DateError"))
  i_MOST_PLACES : ∃ t, mg "MOST_PLACES" = some (.int (7) t)
end K00

namespace K00
open PySem PySem.Spec PyProof.Rows L2 Dl Ns Zs Rk K12 K12.K00
abbrev N__law_hand : List Str := ["_law_script", "_law_total", "_law_cells", "_law_cell"]
def d__law_hand (K : PySem.W.Frag) (Ed : DEnv → Exc → Prop) : TSD := sSeq (sAsg 1 (dOp fAdd (dCB bLenS (dCons (dVar 0) (dNil))) (dC (.int 43)))) (sSeq (sNew 2 (fLst (dNil))) (sSeq (sFor (idVarS 0) (gdName 3) (sSeq (sAsg 1 (dOp fMod (dCB bInt (dCons (dOp fAdd (dOp fMul (dVar 1) (dC (.int 2003))) (dCB bInt (dCons (dVar 3) (dNil)))) (dNil))) (dC (.int 2147483563)))) (sApp 2 (dCB bAbs (dCons (dCB bInt (dCons (dVar 3) (dNil))) (dNil)))))) (sRet (dLst (dCons (dVar 2) (dCons (dC (.int 0)) (dCons (dC (.int 0)) (dCons (dVar 1) (dNil)))))))))
end K00

namespace K00
open PySem PySem.Spec PyProof.Rows L2 Dl Ns Zs Rk K12 K12.K00
abbrev N__law_mixed : List Str := ["_law_number", "_law_turn", "_law_once", "_law_twice"]
def d__law_mixed (K : PySem.W.Frag) (Ed : DEnv → Exc → Prop) : TSD := sSeq (sAsg 2 (dOp fMod (dCB bInt (dCons (dOp fAdd (dOp fAdd (dOp fMul (dVar 0) (dC (.int 39373))) (dOp fMul (dVar 1) (dC (.int 6151)))) (dC (.int 50021))) (dNil))) (dC (.int 2147483399)))) (sSeq (sAsg 3 (dOp fMod (dCB bInt (dCons (dOp fAdd (dOp fAdd (dOp fMul (dVar 2) (dVar 2)) (dOp fMul (dVar 1) (dC (.int 81071)))) (dOp fDiv (dVar 2) (dC (.int 137)))) (dNil))) (dC (.int 2147483629)))) (sRet (dOp fDiv (dCB bInt (dCons (dOp fMod (dCB bInt (dCons (dOp fAdd (dOp fMul (dVar 3) (dC (.int 62089))) (dOp fDiv (dVar 2) (dC (.int 11)))) (dNil))) (dC (.int 2147483587))) (dNil))) (dC (.int 64)))))
end K00

namespace K00
open PySem PySem.Spec PyProof.Rows L2 Dl Ns Zs Rk K12 K12.K00
abbrev N__law_whole : List Str := ["_law_thing"]
def d__law_whole (K : PySem.W.Frag) (Ed : DEnv → Exc → Prop) : TSD := sRet (dAndV (dCB bIsi (dCons (dVar 0) (dCons (dC (.ty "int")) (dNil)))) (dNotV (dCB bIsi (dCons (dVar 0) (dCons (dC (.ty "bool")) (dNil))))))
end K00


namespace K12.K00
open PySem PySem.Spec PyProof.Rows L2 Dl Ns Zs Zz Rk Rd _root_.K00 K12
theorem m40 {i j : Int} (h1 : 0 ≤ i) (h2 : i < 2 ^ 40) (h3 : 0 ≤ j) (h4 : j < 2 ^ 40) : CMulW i j := mulW (big_abs h1 (Int.lt_of_lt_of_le h2 (by decide))) (big_abs h3 (Int.lt_of_lt_of_le h4 (by decide)))
theorem d40 {i j : Int} (h : 0 < j) (h2 : j < 2 ^ 40) : CDivW i j := ⟨h, by
  have h1 : j.natAbs < 2 ^ 40 := by omega
  have h3 : j.natAbs ≠ 0 := by omega
  have := (Nat.log2_lt h3).mpr h1
  omega⟩
theorem kpI {env : DEnv} {i : Nat} {x : Int} : keepable env i (.int x) := .inr (by simp only [D.noLst])
theorem ct__law_mixed {K : PySem.W.Frag} {ds : List D} {Qd : D → Prop} {Ed : Exc → Prop} (h : C__law_mixed K ds Qd Ed) : _root_.K00.d__law_mixed K (fun _ x => Ed x) (eK Qd) (startD _root_.K00.N__law_mixed ds) := by
  obtain ⟨a, b, rfl, a0, a1, b0, b1, q⟩ := h
  refine ⟨_, _, rfl, rfl, a, _, rfl, rfl, m40 a0 (by omega) (by decide) (by decide), _, _, rfl, rfl, b, _, rfl, rfl, m40 b0 (by omega) (by decide) (by decide), ⟨_, rfl, ⟨_, _, rfl, rfl, (show (0 : Int) < 2147483399 by decide), kpI, ?_⟩⟩⟩
  dsimp only
  generalize hx : (a * 39373 + b * 6151 + 50021) % 2147483399 = x
  have x0 : 0 ≤ x := by rw [← hx]; exact Int.emod_nonneg _ (by decide)
  have x1 : x < 2147483399 := by rw [← hx]; exact Int.emod_lt_of_pos _ (by decide)
  refine ⟨_, _, rfl, rfl, _, _, rfl, rfl, x, x, rfl, rfl, m40 x0 (by omega) x0 (by omega), _, _, rfl, rfl, b, _, rfl, rfl, m40 b0 (by omega) (by decide) (by decide), ?_⟩
  refine ⟨_, _, rfl, rfl, x, _, rfl, rfl, d40 (by decide) (by decide), ⟨_, rfl, ⟨_, _, rfl, rfl, (show (0 : Int) < 2147483629 by decide), kpI, ?_⟩⟩⟩
  dsimp only
  generalize hy : (x * x + b * 81071 + x / 137) % 2147483629 = y
  have y0 : 0 ≤ y := by rw [← hy]; exact Int.emod_nonneg _ (by decide)
  have y1 : y < 2147483629 := by rw [← hy]; exact Int.emod_lt_of_pos _ (by decide)
  refine ⟨_, _, rfl, rfl, y, _, rfl, rfl, m40 y0 (by omega) (by decide) (by decide), _, _, rfl, rfl, x, _, rfl, rfl, d40 (by decide) (by decide), ⟨_, rfl, ⟨_, _, rfl, rfl, (show (0 : Int) < 2147483587 by decide), ⟨_, rfl, ⟨_, _, rfl, rfl, d40 (by decide) (by decide), ?_⟩⟩⟩⟩⟩
  dsimp only
  generalize hz : (y * 62089 + x / 11) % 2147483587 = z
  have z0 : 0 ≤ z := by rw [← hz]; exact Int.emod_nonneg _ (by decide)
  have z1 : z < 2147483587 := by rw [← hz]; exact Int.emod_lt_of_pos _ (by decide)
  exact q (z / 64) (Int.ediv_nonneg z0 (by decide)) (by omega)
theorem ct__law_whole {K : PySem.W.Frag} {ds : List D} {Qd : D → Prop} {Ed : Exc → Prop} (h : C__law_whole K ds Qd Ed) : _root_.K00.d__law_whole K (fun _ x => Ed x) (eK Qd) (startD _root_.K00.N__law_whole ds) := by
  obtain ⟨x, rfl, hx, q⟩ := h
  obtain ⟨t, ht⟩ := Option.isSome_iff_exists.mp hx
  unfold _root_.K00.d__law_whole
  (repeat decreasing_trivial_pre_omega)
  refine tm_all (by simp [tyNames]) ht ?_
  by_cases hn : ∃ i, x = .int i
  · obtain ⟨n, rfl⟩ := hn
    have e : t = "int" := (Option.some.inj ht).symm
    subst e
    refine ⟨true, rfl, ?_⟩
    rw [if_pos rfl]
    (repeat decreasing_trivial_pre_omega)
    refine tm_all (by simp [tyNames]) rfl ?_
    exact ⟨false, rfl, q⟩
  · obtain ⟨e, o⟩ := wh_other (lo := .non) (hi := .non) ht fun i z => hn ⟨i, z⟩
    rw [e] at q
    rcases o with o | ⟨o1, o2⟩
    · have eb : t = "bool" := by
        cases x with
        | bl b => exact (Option.some.inj ht).symm
        | obj k ns ds => cases k <;> first | (simp only [D.tyn, tynK, Option.some.injEq, reduceCtorEq] at ht; done) | (simp only [D.tyn, tynK, Option.some.injEq] at ht; subst ht; revert o; decide)
        | _ => first | (simp only [D.tyn, Option.some.injEq, reduceCtorEq] at ht; done) | (simp only [D.tyn, Option.some.injEq] at ht; subst ht; revert o; decide)
      subst eb
      refine ⟨true, rfl, ?_⟩
      rw [if_pos rfl]
      (repeat decreasing_trivial_pre_omega)
      refine tm_all (by simp [tyNames]) ht ?_
      exact ⟨true, rfl, q⟩
    · refine ⟨false, by rw [o2], ?_⟩
      rw [if_neg (by decide)]
      exact q
theorem ct__law_hand {K : PySem.W.Frag} {ds : List D} {Qd : D → Prop} {Ed : Exc → Prop} (h : C_hand K ds Qd Ed) : _root_.K00.d__law_hand K (fun _ x => Ed x) (eK Qd) (startD _root_.K00.N__law_hand ds) := by
  obtain ⟨nm, ns, rfl, hl, q⟩ := h
  unfold _root_.K00.d__law_hand
  (repeat decreasing_trivial_pre_omega)
  refine ⟨nm, _, rfl, ?_⟩
  (repeat decreasing_trivial_pre_omega)
  refine ⟨nm, _, rfl, ?_⟩
  refine emb_inv D.int (fun done env => ∃ (t : Int) (cs : List Int) (lc : Slot), env = [.val (.obj .scr nm (ns.map D.int)), .val (.int t), .own (cs.map D.int), lc] ∧ 0 ≤ t ∧ t < 2 ^ 32 ∧ (∀ c ∈ cs, 0 ≤ c) ∧ cs.length = done.length) (fun done rest m env nx ee ⟨t, cs, lc, e, t0, t1, hc, hlen⟩ kk => ?step) (fun env ⟨t, cs, lc, e, t0, t1, hc, hlen⟩ => ?fin) _ ⟨_, [], _, rfl, ?a0, ?a1, (fun c m => by cases m), rfl⟩
  case step =>
    subst e
    (repeat decreasing_trivial_pre_omega)
    refine rFI (m40 t0 (by omega) (by decide) (by decide)) ?_
    (repeat decreasing_trivial_pre_omega)
    refine ⟨_, rfl, ?_⟩
    (repeat decreasing_trivial_pre_omega)
    refine ⟨_, rfl, ?_⟩
    (repeat decreasing_trivial_pre_omega)
    refine rFI (show (0 : Int) < 2147483563 by decide) ?_
    (repeat decreasing_trivial_pre_omega)
    have hb := congrArg List.length ee
    rw [List.length_append, List.length_cons] at hb
    refine rApp rfl ?_
    (repeat decreasing_trivial_pre_omega)
    refine ⟨_, rfl, ?_⟩
    (repeat decreasing_trivial_pre_omega)
    refine ⟨_, rfl, rfl, ?_, ?_⟩
    · rw [List.length_map, hlen]
      have : (100 : Nat) ≤ sizeLine := by decide
      omega
    · refine kk _ ⟨(t * 2003 + m) % 2147483563, cs ++ [if m < 0 then -m else m], .val (.int m), by rw [List.map_append]; rfl, Int.emod_nonneg _ (by decide), Int.lt_of_lt_of_le (Int.emod_lt_of_pos _ (by decide)) (by decide), fun c hcm => ?_, ?_⟩
      · rcases List.mem_append.mp hcm with z | z
        · exact hc c z
        · rw [List.mem_singleton.mp z]; split <;> omega
      · rw [List.length_append, List.length_append, hlen]; rfl
  case fin =>
    subst e
    (repeat decreasing_trivial_pre_omega)
    exact q cs t (by omega) hc t0 t1
  case a0 =>
    rw [List.length_map]; omega
  case a1 =>
    rw [List.length_map]; omega

end K12.K00

namespace K00
open PySem PySem.Spec PyProof.Rows L2 Dl Ns Zs Rk K12 K12.K00
end K00

namespace K00
open PySem PySem.Spec PyProof.Rows L2 Dl Ns Zs Rk K12 K12.K00
end K00

namespace K00
open PySem PySem.Spec PyProof.Rows L2 Dl Ns Zs Rk K12 K12.K00
end K00

namespace K00
open PySem PySem.Spec PyProof.Rows L2 Dl Ns Zs Rk K12 K12.K00
end K00

namespace K00
open PySem PySem.Spec PyProof.Rows L2 Dl Ns Zs Rk K12 K12.K00
end K00

namespace K00
open PySem PySem.Spec PyProof.Rows L2 Dl Ns Zs Rk K12 K12.K00
end K00

namespace K00
open PySem PySem.Spec PyProof.Rows L2 Dl Ns Zs Rk K12 K12.K00
end K00

namespace K00
open PySem PySem.Spec PyProof.Rows L2 Dl Ns Zs Rk K12 K12.K00
end K00

namespace K12.K00
open PySem PySem.Spec PyProof.Rows L2 Dl Ns Zs Zz Rk Rd K12 K12.K15 K12.K62
end K12.K00

namespace K00
open PySem PySem.Spec PyProof.Rows L2 Dl Ns Zs Rk K12 K12.K00
end K00

namespace K00
open PySem PySem.Spec PyProof.Rows L2 Dl Ns Zs Rk K12 K12.K00
end K00

namespace K00
open PySem PySem.Spec PyProof.Rows L2 Dl Ns Zs Rk K12 K12.K00
end K00

namespace K12.K00
open PySem PySem.Spec PyProof.Rows L2 Dl Ns Zs Zz Rk Rd K12 K12.K15 K12.K62
end K12.K00

namespace K12.K00
open PySem PySem.Spec PyProof.Rows L2 Dl Ns Zs Zz Rk Rd K12 K12.K15 K12.K62
end K12.K00

namespace K00
open PySem PySem.Spec PyProof.Rows L2 Dl Ns Zs Rk K12 K12.K00
end K00

namespace K00
open PySem PySem.Spec PyProof.Rows L2 Dl Ns Zs Rk K12 K12.K00
end K00

namespace K00
open PySem PySem.Spec PyProof.Rows L2 Dl Ns Zs Rk K12 K12.K00
end K00

namespace K00
open PySem PySem.Spec PyProof.Rows L2 Dl Ns Zs Rk K12 K12.K00
end K00

namespace K12.K00
open PySem PySem.Spec PyProof.Rows L2 Dl Ns Zs Zz Rk Rd K12 K12.K15 K12.K62
theorem len_D {x : D} {ls : List D} {Q : D → Prop} (h : seqOf x = some ls) (q : Q (.int ls.length)) : bLen [x] Q := by
  cases x with
  | lst xs => cases h; exact rLenL q
  | tup xs => cases h; exact rLenT q
  | _ => cases h
theorem ix_D {x : D} {xs : List D} {k : Nat} {d : D} {Q : D → Prop} (h : seqOf x = some xs) (e : xs[k]? = some d) (q : Q d) : fIx x (.int (k : Nat)) Q := by
  cases x with
  | lst ys => cases h; exact rIxL (L2.atI_nat e) q
  | tup ys => cases h; exact rIxT (L2.atI_nat e) q
  | _ => cases h
end K12.K00

namespace K00
open PySem PySem.Spec PyProof.Rows L2 Dl Ns Zs Rk K12 K12.K00
end K00

namespace K00
open PySem PySem.Spec PyProof.Rows L2 Dl Ns Zs Rk K12 K12.K00
end K00

namespace K12.K00
open PySem PySem.Spec PyProof.Rows L2 Dl Ns Zs Zz Rk Rd K12 K12.K15 K12.K62
end K12.K00

namespace K12.K00
open PySem PySem.Spec PyProof.Rows L2 Dl Ns Zs Zz Rk Rd K12 K12.K15 K12.K62
abbrev inB (K : PySem.W.Frag) (Ed : Exc → Prop) : TSD := sSeq (sIf (dOr (dNot (dB (dCall ((C__law_whole K)) [] (fun _ x => Ed x) (dCons (dVar 3) (dNil))))) (dOr (dTest (dOp fLt (dVar 3) (dC (.int 0)))) (dOr (dTest (dOp fGt (dVar 3) (dC (.int 6)))) (dTest (dOp (fIn false) (dVar 3) (dVar 1)))))) (sRet (dVar 2)) (sNext)) (sApp 1 (dVar 3))
end K12.K00

namespace Fn
open PySem PySem.Spec PyProof.Rows L2 Dl Ns
section
variable {X : Cx} {g : Gx} {a b : Expr} {pos : Pos}
variable {elt tg iter : Expr} {ifs : List Expr} {scope : Scope} {own : List (Str × Nat)} {spos : Pos} {gt : TG} {tid : TID} {gd : TGD} {td : TTD} {ed : TED} {i : Nat} {y : Str} {py : Pos}
end
def gSeq (K : PySem.W.Frag) (n : Nat) (t : TGs) : TG := fun v σ H Q => gTup K n t v σ H Q ∨ gLst K n t v σ H Q
section
variable {X : Cx} {g : Gx} {pos : Pos}
theorem pg_seq {es : List Expr} {k : Nat} {t : TGs} {n : Nat} (hc : X.calm = true) (h : PGs X es t)
    (hn : (assignEach es X.env).length = n := by rfl) (hst : (assignEach es X.env).findIdx? (·.1) = none := by rfl) : PG X (.Tuple es k pos) (gSeq X.K n t) :=
  ⟨fun pins s σ H v u Q I r hw => hw.elim (fun q => (pg_tup (pos := pos) (k := k) hc h hn hst).run pins s σ H v u Q I r q) fun q => (pg_lst (pos := pos) (k := k) hc h hn hst).run pins s σ H v u Q I r q⟩
def gdSeq (is : List Nat) : TGD := fun d env Q => ∃ ds, seqOf d = some ds ∧ ds.length = is.length ∧ Q (putAll is ds env)
theorem partsL {K : PySem.W.Frag} {I : HI} {b : B0} {σ : L2.St} {H : Hp} {env : DEnv} {v : V} {ds : List D} (h : DenE K I ⟨b.H0, (v, .lst ds) :: b.hs⟩ σ H env) : ∃ a vs, v = .ref a ∧ SqL K H a vs ∧ vs.length = ds.length ∧ DenE K I ⟨b.H0, vs.zip ds ++ b.hs⟩ σ H env := by
  obtain ⟨oa, h1, h2, h3, h4⟩ := h.slots
  have := h4 (v, .lst ds) List.mem_cons_self
  simp only [Den] at this
  obtain ⟨a, vs, e, s, n, r⟩ := this
  refine ⟨a, vs, e, SqL.of s, r.len, h.len, h.ext, oa, h1, h2, h3, fun p hp => ?_⟩
  rcases List.mem_append.mp hp with hp | hp
  · obtain ⟨i, hi⟩ := List.mem_iff_getElem?.mp hp
    rw [List.getElem?_zip_eq_some] at hi
    obtain ⟨w, q1, q2⟩ := r.get hi.2
    rw [hi.1] at q1
    cases q1
    exact q2
  · exact h4 p (List.mem_cons_of_mem _ hp)
theorem sg_seq {K : PySem.W.Frag} {is : List Nat} : SG K g (gSeq K is.length (gNames is)) (gdSeq is) := fun b σ H env v d Qd Q hd ⟨ds, e, hl, h⟩ k => by
  cases d with
  | tup xs =>
    cases e
    obtain ⟨a, vs, ev, s, hl2, hd2⟩ := hd.parts
    exact .inl ⟨a, vs, ev, s, hl2.trans hl, sg_names is b σ H env vs _ Q hl2 hl hd2 fun σ' hd3 => k σ' H _ hd3 (.refl hd.ok) h⟩
  | lst xs =>
    cases e
    obtain ⟨a, vs, ev, s, hl2, hd2⟩ := partsL hd
    exact .inr ⟨a, vs, ev, s, hl2.trans hl, sg_names is b σ H env vs _ Q hl2 hl hd2 fun σ' hd3 => k σ' H _ hd3 (.refl hd.ok) h⟩
  | _ => cases e
theorem dg_seq {es : List Expr} {k : Nat} {is : List Nat} (hc : X.calm = true) (h : PGs X es (gNames is)) (hn : (assignEach es X.env).length = is.length := by rfl) (hst : List.findIdx? (fun x => x.fst) (assignEach es X.env) = none := by rfl) : PGD X g (.Tuple es k pos) (gdSeq is) :=
  pgd_of (pg_seq (pos := pos) (k := k) (n := is.length) hc h hn hst) sg_seq
end
end Fn

namespace Sl
open PySem PySem.Spec PyProof.Rows L2 Dl Ns Zs Nd
section
variable {X : Cx} {I : HI}
def fRepL2 : F2 := fun x y Q => ∃ (xs : List D) (k : Int), x = .lst xs ∧ y = .int k ∧ 0 ≤ k ∧ k ≤ 2000 ∧ xs.length ≤ 1000 ∧ Q (.lst (List.replicate k.toNat xs).flatten)
theorem r_repL2 : RD X I (binaryOp .Mult) fRepL2 := fun H x y dx dy Qd Q ok hx hy ⟨xs, k, e1, e2, k0, k1, few, h⟩ kk => by
  subst e1 e2
  simp only [Den] at hx hy
  obtain ⟨a, vs, rfl, hl, na, r1⟩ := hx
  have l1 := r1.len
  have : xs.length * k.toNat ≤ 1000 * 2000 := Nat.mul_le_mul few (by omega)
  have z : (2000000 : Nat) ≤ sizeLine := by decide
  exact rw2_of op_rep ⟨a, k, vs, rfl, hy, hl, by omega, by omega, by rw [l1]; omega, fun p hp => kk _ _ _ (.new ok hp) (new_lst ok hp (dena_rep r1 _)) h⟩
end
end Sl

namespace K32
open PySem PySem.Spec PyProof.Rows L2 Dl Ns Zs Rk K12 K12.K32
structure Tf (K : PySem.W.Frag) (mg : Str → Option Value) : Prop where
  n_abs : mg "abs" = none
  n_all : mg "all" = none
  n_bool : mg "bool" = none
  n_enumerate : mg "enumerate" = none
  n_int : mg "int" = none
  n_isinstance : mg "isinstance" = none
  n_len : mg "len" = none
  n_list : mg "list" = none
  n_range : mg "range" = none
  n_repr : mg "repr" = none
  n_sorted : mg "sorted" = none
  n_tuple : mg "tuple" = none
  g_Rule : mg "Rule" = some (.ref (He.ga K "Rule"))
  i_MOST_PLACES : ∃ t, mg "MOST_PLACES" = some (.int (7) t)
  i_MOST_PREMISES : ∃ t, mg "MOST_PREMISES" = some (.int (4) t)
  i_MOST_RULES : ∃ t, mg "MOST_RULES" = some (.int (80) t)
  i_MOST_STEPS : ∃ t, mg "MOST_STEPS" = some (.int (1000) t)
  t_NEVER : Zs.TupG K mg "NEVER" ["never"]
  s_NOT_AFTER : ∃ t, mg "NOT_AFTER" = some (.str "not after" t)
end K32

namespace K32
open PySem PySem.Spec PyProof.Rows L2 Dl Ns Zs Rk K12 K12.K32
abbrev N__is_couple : List Str := ["thing", "date"]
theorem sc__is_couple : FnScope N__is_couple ["thing"] (defScope s__is_couple) := ⟨rfl, rfl, rfl, by decide +kernel, rfl, by decide +kernel, by decide +kernel⟩
def d__is_couple (K : PySem.W.Frag) (Ed : DEnv → Exc → Prop) : TSD := sSeq (sIf (dOr (dNot (dB (dCB bIsi (dCons (dVar 0) (dCons (dTup (dCons (dC (.ty "list")) (dCons (dC (.ty "tuple")) (dNil)))) (dNil)))))) (dTest (dOp (fEq true) (dCB bLen (dCons (dVar 0) (dNil))) (dC (.int 2))))) (sRet (dC (.bl false))) (sNext)) (sRet (dCB bAll (dCons (dF (fLc (idVar 0) (gdName 1) (dYes) (dCall ((C_is_whole K)) [] (fun _ _ => False) (dCons (dVar 1) (dCons (dC (.int 0)) (dCons (dOp fSub (dC (.int 7)) (dC (.int 1))) (dNil))))) (([("date", 1)] : List (Str × Nat)).map (·.2)))) (dNil))))
theorem pd__is_couple {P : Program} {w : World} {K : PySem.W.Frag} {mg : Str → Option Value} {base : Heap} {I : HI} {fa : Addr} {cdv : Value} {A : Around} {outer : List Env} {s : Shared} {H : Hp} {E : XK} {Ed : Exc → Prop} (T : Tf K mg) (c_is_whole : Cl P w K mg base I 2 "is_whole" 3 (C_is_whole K) [])
    (hr : Room 2 (A.deeper (envOfC "_is_couple" (defScope s__is_couple) s.heap.objs.size fa cdv))) (tk : Takes (cxD P w K mg base N__is_couple "_is_couple" (defScope s__is_couple) fa cdv A outer s H E) (gOf I Ed E).W) :
    PSsD (cxD P w K mg base N__is_couple "_is_couple" (defScope s__is_couple) fa cdv A outer s H E) (gOf I Ed E) (defBody s__is_couple) (d__is_couple K (gOf I Ed E).Ed) :=
  by
  have nd := sc__is_couple.nd
  refine ds_cons ?_ ?_
  refine ds_if ?_ ?_ ?_
  refine PWD.pt ?_
  refine dt_or ?_ ?_
  refine dt_not ?_
  refine dt_val ?_
  refine d_callB c_isi rfl T.n_isinstance boot_isinstance ?_
  refine da_cons ?_ ?_
  exact dv 0
  refine da_cons ?_ ?_
  refine d_tup ?_
  refine da_cons ?_ ?_
  exact d_ty rfl T.n_list boot_list
  refine da_cons ?_ ?_
  exact d_ty rfl T.n_tuple boot_tuple
  exact da_nil
  exact da_nil
  refine dt_or1 ?_
  refine dt_cmp (r_ne (h64 hr)) ?_ ?_ (nomark _)
  refine d_callB c_len rfl T.n_len PySem.boot_len ?_
  refine da_cons ?_ ?_
  exact dv 0
  exact da_nil
  exact d_int
  refine ds_one ?_
  refine ds_ret ?_
  exact d_bl
  exact ds_nil
  refine ds_one ?_
  refine ds_ret ?_
  refine d_callB (c_all rfl) rfl T.n_all boot_all ?_
  refine da_cons ?_ ?_
  refine pf_e ?_
  refine f_lc rfl nd ?_ (blkOk_by (own := [("date", 1)]) (N := N__is_couple) (sc := defScope s__is_couple) (by decide +kernel)) ?_ sg_name (gw_name (by decide)) ?_ ?_
  exact di_var 0
  exact (fun _ _ _ _ _ => pg_name (i := 1) nd rfl (by first | exact Or.inl rfl | exact Or.inr rfl))
  exact bt_nil
  refine be_of ?_
  intro _ _ _ _ _
  refine d_callC c_is_whole (ar_is_whole _) hr (by decide) rfl takes0 ?_
  refine da_cons ?_ ?_
  exact dv 1
  refine da_cons ?_ ?_
  exact d_int
  refine da_cons ?_ ?_
  refine d_op r_sub ?_ ?_
  exact d_gint rfl T.i_MOST_PLACES
  exact d_int
  exact da_nil
  exact da_nil
end K32

namespace K32
open PySem PySem.Spec PyProof.Rows L2 Dl Ns Zs Rk K12 K12.K32
abbrev N__is_end : List Str := ["thing"]
theorem sc__is_end : FnScope N__is_end ["thing"] (defScope s__is_end) := ⟨rfl, rfl, rfl, by decide +kernel, rfl, by decide +kernel, by decide +kernel⟩
def d__is_end (K : PySem.W.Frag) (Ed : DEnv → Exc → Prop) : TSD := sSeq (sIf (dOr (dNot (dB (dCB bIsi (dCons (dVar 0) (dCons (dTup (dCons (dC (.ty "list")) (dCons (dC (.ty "tuple")) (dNil)))) (dNil)))))) (dTest (dOp (fEq false) (dCB bLen (dCons (dVar 0) (dNil))) (dC (.int 0))))) (sRet (dC (.bl false))) (sNext)) (sSeq (sIf (dTest (dOp (fEq false) (dOp fIx (dVar 0) (dC (.int 0))) (dC (.str "not after")))) (sRet (dCall ((K12.K32.C__is_couple K)) [] Ed (dCons (dSl (dVar 0) (dPart (dC (.int 1))) (dNoP)) (dNil)))) (sNext)) (sRet (dOp (fEq false) (dCB bTup (dCons (dVar 0) (dNil))) (dC (.tup ((["never"] : List Str).map D.str))))))
theorem pd__is_end {P : Program} {w : World} {K : PySem.W.Frag} {mg : Str → Option Value} {base : Heap} {I : HI} {fa : Addr} {cdv : Value} {A : Around} {outer : List Env} {s : Shared} {H : Hp} {E : XK} {Ed : Exc → Prop} (T : Tf K mg) (c__is_couple : Cl P w K mg base I 3 "_is_couple" 1 (K12.K32.C__is_couple K) [])
    (hr : Room 3 (A.deeper (envOfC "_is_end" (defScope s__is_end) s.heap.objs.size fa cdv))) (tk : Takes (cxD P w K mg base N__is_end "_is_end" (defScope s__is_end) fa cdv A outer s H E) (gOf I Ed E).W) :
    PSsD (cxD P w K mg base N__is_end "_is_end" (defScope s__is_end) fa cdv A outer s H E) (gOf I Ed E) (defBody s__is_end) (d__is_end K (gOf I Ed E).Ed) :=
  by
  have nd := sc__is_end.nd
  refine ds_cons ?_ ?_
  refine ds_if ?_ ?_ ?_
  refine PWD.pt ?_
  refine dt_or ?_ ?_
  refine dt_not ?_
  refine dt_val ?_
  refine d_callB c_isi rfl T.n_isinstance boot_isinstance ?_
  refine da_cons ?_ ?_
  exact dv 0
  refine da_cons ?_ ?_
  refine d_tup ?_
  refine da_cons ?_ ?_
  exact d_ty rfl T.n_list boot_list
  refine da_cons ?_ ?_
  exact d_ty rfl T.n_tuple boot_tuple
  exact da_nil
  exact da_nil
  refine dt_or1 ?_
  refine dt_cmp (r_eq (h64 hr)) ?_ ?_ (nomark _)
  refine d_callB c_len rfl T.n_len PySem.boot_len ?_
  refine da_cons ?_ ?_
  exact dv 0
  exact da_nil
  exact d_int
  refine ds_one ?_
  refine ds_ret ?_
  exact d_bl
  exact ds_nil
  refine ds_cons ?_ ?_
  refine ds_if ?_ ?_ ?_
  refine dt_cmp (r_eq (h64 hr)) ?_ ?_ (nomark _)
  refine d_ix ?_ ?_
  exact dv 0
  exact d_int
  exact Gd.d_gstr rfl T.s_NOT_AFTER
  refine ds_one ?_
  refine ds_ret ?_
  refine d_callC c__is_couple (K12.K32.ar__is_couple _) hr (by decide) rfl tk ?_
  refine da_cons ?_ ?_
  refine d_slice ?_ ?_ ?_
  exact dv 0
  refine do_some ?_
  exact d_int
  exact do_none
  exact da_nil
  exact ds_nil
  refine ds_one ?_
  refine ds_ret ?_
  refine d_cmp (r_eq (h64 hr)) ?_ ?_ (nomark _)
  refine d_callTy c_tup rfl T.n_tuple boot_tuple ?_
  refine da_cons ?_ ?_
  exact dv 0
  exact da_nil
  exact d_gtup rfl T.t_NEVER
end K32

namespace K32
open PySem PySem.Spec PyProof.Rows L2 Dl Ns Zs Rk K12 K12.K32
abbrev N_rule_dates : List Str := ["rule", "row", "date"]
theorem sc_rule_dates : FnScope N_rule_dates ["rule"] (defScope s_rule_dates) := ⟨rfl, rfl, rfl, by decide +kernel, rfl, by decide +kernel, by decide +kernel⟩
def d_rule_dates (K : PySem.W.Frag) (Ed : DEnv → Exc → Prop) : TSD := sRet (dCB bTup (dCons (dSortI (Tf.zSi2 (idSeq (dOp fAdd (In.dFld K "premises" (dVar 0)) (dTup (dCons (dSl (In.dFld K "end" (dVar 0)) (dPart (dC (.int 1))) (dNoP)) (dNil))))) (gdName 1) (dYes) (idVar 1) (gdName 2) (dYes) (dVar 2) (([("row", 1), ("date", 2)] : List (Str × Nat)).map (·.2)) [2])) (dNil)))
theorem pd_rule_dates {P : Program} {w : World} {K : PySem.W.Frag} {mg : Str → Option Value} {base : Heap} {I : HI} {fa : Addr} {cdv : Value} {A : Around} {outer : List Env} {s : Shared} {H : Hp} {E : XK} {Ed : Exc → Prop} (T : Tf K mg) 
    (hr : Room 1 (A.deeper (envOfC "rule_dates" (defScope s_rule_dates) s.heap.objs.size fa cdv))) (tk : Takes (cxD P w K mg base N_rule_dates "rule_dates" (defScope s_rule_dates) fa cdv A outer s H E) (gOf I Ed E).W) :
    PSsD (cxD P w K mg base N_rule_dates "rule_dates" (defScope s_rule_dates) fa cdv A outer s H E) (gOf I Ed E) (defBody s_rule_dates) (d_rule_dates K (gOf I Ed E).Ed) :=
  by
  have nd := sc_rule_dates.nd
  refine ds_one ?_
  refine ds_ret ?_
  refine d_callTy c_tup rfl T.n_tuple boot_tuple ?_
  refine da_cons ?_ ?_
  refine d_sortI rfl rfl T.n_sorted ?_
  refine Zo.PZN.z ?_
  refine Tf.n_si2 rfl nd ?_ (blkOk_by (own := [("row", 1), ("date", 2)]) (N := N_rule_dates) (sc := defScope s_rule_dates) (by decide +kernel)) (ws := [2]) (by decide) ?_ sg_name (gw_name (by decide)) ?_ (Tf.bi_of (fun _ _ _ _ _ => di_var 1)) ?_ sg_name (gw_name (by decide)) ?_ ?_
  refine di_seq ?_
  refine d_op r_add ?_ ?_
  refine In.d_fld ?_
  exact dv 0
  refine d_tup ?_
  refine da_cons ?_ ?_
  refine d_slice ?_ ?_ ?_
  refine In.d_fld ?_
  exact dv 0
  refine do_some ?_
  exact d_int
  exact do_none
  exact da_nil
  exact (fun _ _ _ _ _ => pg_name (i := 1) nd rfl (by first | exact Or.inl rfl | exact Or.inr rfl))
  exact bt_nil
  exact (fun _ _ _ _ _ => pg_name (i := 2) nd rfl (by first | exact Or.inl rfl | exact Or.inr rfl))
  exact bt_nil
  refine be_of ?_
  intro _ _ _ _ _
  exact dv 2
  exact da_nil
end K32

namespace K32
open PySem PySem.Spec PyProof.Rows L2 Dl Ns Zs Rk K12 K12.K32
abbrev N_has_dates_below : List Str := ["rule", "size", "date"]
theorem sc_has_dates_below : FnScope N_has_dates_below ["rule", "size"] (defScope s_has_dates_below) := ⟨rfl, rfl, rfl, by decide +kernel, rfl, by decide +kernel, by decide +kernel⟩
def d_has_dates_below (K : PySem.W.Frag) (Ed : DEnv → Exc → Prop) : TSD := sRet (dCB bAll (dCons (dF (fLc (idSeq (dCall ((K12.K32.C_rule_dates K)) [] Ed (dCons (dVar 0) (dNil)))) (gdName 2) (dYes) (dOp fLt (dVar 2) (dVar 1)) (([("date", 2)] : List (Str × Nat)).map (·.2)))) (dNil)))
theorem pd_has_dates_below {P : Program} {w : World} {K : PySem.W.Frag} {mg : Str → Option Value} {base : Heap} {I : HI} {fa : Addr} {cdv : Value} {A : Around} {outer : List Env} {s : Shared} {H : Hp} {E : XK} {Ed : Exc → Prop} (T : Tf K mg) (c_rule_dates : Cl P w K mg base I 2 "rule_dates" 1 (K12.K32.C_rule_dates K) [])
    (hr : Room 2 (A.deeper (envOfC "has_dates_below" (defScope s_has_dates_below) s.heap.objs.size fa cdv))) (tk : Takes (cxD P w K mg base N_has_dates_below "has_dates_below" (defScope s_has_dates_below) fa cdv A outer s H E) (gOf I Ed E).W) :
    PSsD (cxD P w K mg base N_has_dates_below "has_dates_below" (defScope s_has_dates_below) fa cdv A outer s H E) (gOf I Ed E) (defBody s_has_dates_below) (d_has_dates_below K (gOf I Ed E).Ed) :=
  by
  have nd := sc_has_dates_below.nd
  refine ds_one ?_
  refine ds_ret ?_
  refine d_callB (c_all rfl) rfl T.n_all boot_all ?_
  refine da_cons ?_ ?_
  refine pf_e ?_
  refine f_lc rfl nd ?_ (blkOk_by (own := [("date", 2)]) (N := N_has_dates_below) (sc := defScope s_has_dates_below) (by decide +kernel)) ?_ sg_name (gw_name (by decide)) ?_ ?_
  refine di_seq ?_
  refine d_callC c_rule_dates (K12.K32.ar_rule_dates _) hr (by decide) rfl tk ?_
  refine da_cons ?_ ?_
  exact dv 0
  exact da_nil
  exact (fun _ _ _ _ _ => pg_name (i := 2) nd rfl (by first | exact Or.inl rfl | exact Or.inr rfl))
  exact bt_nil
  refine be_of ?_
  intro _ _ _ _ _
  refine d_cmp (r_lt hr.units0) ?_ ?_ (nomark _)
  exact dv 2
  exact dv 1
  exact da_nil
end K32

namespace K32
open PySem PySem.Spec PyProof.Rows L2 Dl Ns Zs Rk K12 K12.K32
abbrev N__premise_ends : List Str := ["premises", "one", "other", "first", "second"]
theorem sc__premise_ends : FnScope N__premise_ends ["premises"] (defScope s__premise_ends) := ⟨rfl, rfl, rfl, by decide +kernel, rfl, by decide +kernel, by decide +kernel⟩
def d__premise_ends (K : PySem.W.Frag) (Ed : DEnv → Exc → Prop) : TSD := Fr.sRetR (Lc.fLc2 (idVar 0) (gdTup [1, 2]) (dYes) (idSeq (dTup (dCons (dTup (dCons (dVar 1) (dCons (dVar 2) (dNil)))) (dCons (dTup (dCons (dVar 2) (dCons (dVar 1) (dNil)))) (dNil))))) (gdTup [3, 4]) (dYes) (dTup (dCons (dC (.str "not after")) (dCons (dVar 3) (dCons (dVar 4) (dNil))))) (([("one", 1), ("other", 2), ("first", 3), ("second", 4)] : List (Str × Nat)).map (·.2)) [3, 4])
theorem pd__premise_ends {P : Program} {w : World} {K : PySem.W.Frag} {mg : Str → Option Value} {base : Heap} {I : HI} {fa : Addr} {cdv : Value} {A : Around} {outer : List Env} {s : Shared} {H : Hp} {E : XK} {Ed : Exc → Prop} (T : Tf K mg) 
    (hr : Room 1 (A.deeper (envOfC "_premise_ends" (defScope s__premise_ends) s.heap.objs.size fa cdv))) (tk : Takes (cxD P w K mg base N__premise_ends "_premise_ends" (defScope s__premise_ends) fa cdv A outer s H E) (gOf I Ed E).W) :
    PSsD (cxD P w K mg base N__premise_ends "_premise_ends" (defScope s__premise_ends) fa cdv A outer s H E) (gOf I Ed E) (defBody s__premise_ends) (d__premise_ends K (gOf I Ed E).Ed) :=
  by
  have nd := sc__premise_ends.nd
  refine ds_one ?_
  exact Fr.ds_retR (Fr.r_new (Lc.f_lc2 rfl nd (di_var 0) (blkOk_by (own := [("one", 1), ("other", 2), ("first", 3), ("second", 4)]) (N := N__premise_ends) (sc := defScope s__premise_ends) (by decide +kernel)) (ws := [3, 4]) (by decide) (fun _ _ _ _ _ => pg_tup (t := gNames [1, 2]) (n := 2) rfl (pgs_cons (pg_name (i := 1) nd rfl (by first | exact Or.inl rfl | exact Or.inr rfl)) (pgs_cons (pg_name (i := 2) nd rfl (by first | exact Or.inl rfl | exact Or.inr rfl)) (pgs_nil)))) (fun J => (sg_tup (is := [1, 2]))) (gw_tup (is := [1, 2]) (by decide)) (fun J => bt_nil (g := Lc.nx J)) (fun J => Tf.bi_of (g := Lc.nx J) (fun _ _ _ _ _ => di_seq (d_tup (da_cons (d_tup (da_cons (dv 1) (da_cons (dv 2) (da_nil)))) (da_cons (d_tup (da_cons (dv 2) (da_cons (dv 1) (da_nil)))) (da_nil)))))) (fun _ _ _ _ _ => pg_tup (t := gNames [3, 4]) (n := 2) rfl (pgs_cons (pg_name (i := 3) nd rfl (by first | exact Or.inl rfl | exact Or.inr rfl)) (pgs_cons (pg_name (i := 4) nd rfl (by first | exact Or.inl rfl | exact Or.inr rfl)) (pgs_nil)))) (fun J => (sg_tup (is := [3, 4]))) (gw_tup (is := [3, 4]) (by decide)) (fun J => bt_nil (g := Lc.nx J)) (fun J => be_of (g := Lc.nx J) (fun _ _ _ _ _ => d_tup (da_cons (Gd.d_gstr rfl T.s_NOT_AFTER) (da_cons (dv 3) (da_cons (dv 4) (da_nil))))))))
end K32

namespace K32
open PySem PySem.Spec PyProof.Rows L2 Dl Ns Zs Rk K12 K12.K32
abbrev N_check_rule_dates : List Str := ["rules", "rule"]
theorem sc_check_rule_dates : FnScope N_check_rule_dates ["rules", "rule"] (defScope s_check_rule_dates) := ⟨rfl, rfl, rfl, by decide +kernel, rfl, by decide +kernel, by decide +kernel⟩
def d_check_rule_dates (K : PySem.W.Frag) (Ed : DEnv → Exc → Prop) : TSD := sIf (dNot (dB (dCall ((K12.K32.C_has_dates_below K)) [] Ed (dCons (dVar 1) (dCons (In.dFld K "size" (dVar 0)) (dNil)))))) (Gd.sDead) (sNext)
theorem pd_check_rule_dates {P : Program} {w : World} {K : PySem.W.Frag} {mg : Str → Option Value} {base : Heap} {I : HI} {fa : Addr} {cdv : Value} {A : Around} {outer : List Env} {s : Shared} {H : Hp} {E : XK} {Ed : Exc → Prop} (T : Tf K mg) (c_has_dates_below : Cl P w K mg base I 3 "has_dates_below" 2 (K12.K32.C_has_dates_below K) [])
    (hr : Room 3 (A.deeper (envOfC "check_rule_dates" (defScope s_check_rule_dates) s.heap.objs.size fa cdv))) (tk : Takes (cxD P w K mg base N_check_rule_dates "check_rule_dates" (defScope s_check_rule_dates) fa cdv A outer s H E) (gOf I Ed E).W) :
    PSsD (cxD P w K mg base N_check_rule_dates "check_rule_dates" (defScope s_check_rule_dates) fa cdv A outer s H E) (gOf I Ed E) (defBody s_check_rule_dates) (d_check_rule_dates K (gOf I Ed E).Ed) :=
  by
  have nd := sc_check_rule_dates.nd
  refine ds_one ?_
  refine ds_if ?_ ?_ ?_
  refine dt_not ?_
  refine dt_val ?_
  refine d_callC c_has_dates_below (K12.K32.ar_has_dates_below _) hr (by decide) rfl tk ?_
  refine da_cons ?_ ?_
  exact dv 1
  refine da_cons ?_ ?_
  refine In.d_fld ?_
  exact dv 0
  exact da_nil
  refine ds_one ?_
  exact Gd.ds_dead
  exact ds_nil
end K32

namespace K32
open PySem PySem.Spec PyProof.Rows L2 Dl Ns Zs Rk K12 K12.K32
abbrev N_Rules_len : List Str := ["self"]
theorem sc_Rules_len : FnScope N_Rules_len ["self"] (defScope s_Rules_len) := ⟨rfl, rfl, rfl, by decide +kernel, rfl, by decide +kernel, by decide +kernel⟩
def d_Rules_len (K : PySem.W.Frag) (Ed : DEnv → Exc → Prop) : TSD := sRet (dCB bLen (dCons (In.dFld K "rules" (dVar 0)) (dNil)))
theorem pd_Rules_len {P : Program} {w : World} {K : PySem.W.Frag} {mg : Str → Option Value} {base : Heap} {I : HI} {fa : Addr} {cdv : Value} {A : Around} {outer : List Env} {s : Shared} {H : Hp} {E : XK} {Ed : Exc → Prop} (T : Tf K mg) 
    (hr : Room 1 (A.deeper (envOfC "Rules.__len__" (defScope s_Rules_len) s.heap.objs.size fa cdv))) (tk : Takes (cxD P w K mg base N_Rules_len "Rules.__len__" (defScope s_Rules_len) fa cdv A outer s H E) (gOf I Ed E).W) :
    PSsD (cxD P w K mg base N_Rules_len "Rules.__len__" (defScope s_Rules_len) fa cdv A outer s H E) (gOf I Ed E) (defBody s_Rules_len) (d_Rules_len K (gOf I Ed E).Ed) :=
  by
  have nd := sc_Rules_len.nd
  refine ds_one ?_
  refine ds_ret ?_
  refine d_callB c_len rfl T.n_len PySem.boot_len ?_
  refine da_cons ?_ ?_
  refine In.d_fld ?_
  exact dv 0
  exact da_nil
end K32

namespace K32
open PySem PySem.Spec PyProof.Rows L2 Dl Ns Zs Rk K12 K12.K32
abbrev N__row_numbers : List Str := ["row"]
theorem sc__row_numbers : FnScope N__row_numbers ["row"] (defScope s__row_numbers) := ⟨rfl, rfl, rfl, by decide +kernel, rfl, by decide +kernel, by decide +kernel⟩
def d__row_numbers (K : PySem.W.Frag) (Ed : DEnv → Exc → Prop) : TSD := sSeq (sIf (dTest (dOp (fEq false) (dOp fIx (dVar 0) (dC (.int 0))) (dC (.str "through")))) (sRet (dSl (dVar 0) (dPart (dC (.int 1))) (dNoP))) (sNext)) (sRet (dIf (dTest (dOp (fEq false) (dOp fIx (dVar 0) (dC (.int 0))) (dC (.str "rule")))) (dOp fIx (dVar 0) (dC (.int 2))) (dTup (dNil))))
theorem pd__row_numbers {P : Program} {w : World} {K : PySem.W.Frag} {mg : Str → Option Value} {base : Heap} {I : HI} {fa : Addr} {cdv : Value} {A : Around} {outer : List Env} {s : Shared} {H : Hp} {E : XK} {Ed : Exc → Prop} (T : Tf K mg) 
    (hr : Room 1 (A.deeper (envOfC "_row_numbers" (defScope s__row_numbers) s.heap.objs.size fa cdv))) (tk : Takes (cxD P w K mg base N__row_numbers "_row_numbers" (defScope s__row_numbers) fa cdv A outer s H E) (gOf I Ed E).W) :
    PSsD (cxD P w K mg base N__row_numbers "_row_numbers" (defScope s__row_numbers) fa cdv A outer s H E) (gOf I Ed E) (defBody s__row_numbers) (d__row_numbers K (gOf I Ed E).Ed) :=
  by
  have nd := sc__row_numbers.nd
  refine ds_cons ?_ ?_
  refine ds_if ?_ ?_ ?_
  refine dt_cmp (r_eq (h64 hr)) ?_ ?_ (nomark _)
  refine d_ix ?_ ?_
  exact dv 0
  exact d_int
  exact d_str
  refine ds_one ?_
  refine ds_ret ?_
  refine d_slice ?_ ?_ ?_
  exact dv 0
  refine do_some ?_
  exact d_int
  exact do_none
  exact ds_nil
  refine ds_one ?_
  refine ds_ret ?_
  refine d_ifExp ?_ ?_ ?_
  refine dt_cmp (r_eq (h64 hr)) ?_ ?_ (nomark _)
  refine d_ix ?_ ?_
  exact dv 0
  exact d_int
  exact d_str
  refine d_ix ?_ ?_
  exact dv 0
  exact d_int
  refine d_tup ?_
  exact da_nil
end K32

namespace K12.K32
open PySem PySem.Spec PyProof.Rows L2 Dl Ns Zs Zz Rk Rd _root_.K32 K12
open K12.K00 (ix_D len_D)
structure X32 (K : PySem.W.Frag) : Prop where
  rc : Cls K (He.ga K "Rule")
  rp : NoAttr K (He.ga K "Rule") "premises"
  re : NoAttr K (He.ga K "Rule") "end"
  sc : Cls K (He.ga K "Rules")
  ss : NoAttr K (He.ga K "Rules") "size"
  sr : NoAttr K (He.ga K "Rules") "rules"
  ins : In.InsC K (He.ga K "Rule")
  kit : PySem.W.kitOne K (.ref (He.ga K "Rule")) (.ref (He.ga K "Rule")) = some true
section
variable {K : PySem.W.Frag} (X : X32 K) {env : DEnv} {te : TED} {Q : D → Prop} {r : Rl} {n : Int} {rs : List Rl}
include X
theorem fPrem (h : ∀ R : D → Prop, R (ruleI K r) → te env R) (q : Q (premD r.1)) : In.dFld K "premises" te env Q := h _ ⟨_, _, _, rfl, X.rc, X.rp, rfl, _, rfl, q⟩
theorem fEnd (h : ∀ R : D → Prop, R (ruleI K r) → te env R) (q : Q (endD r.2)) : In.dFld K "end" te env Q := h _ ⟨_, _, _, rfl, X.rc, X.re, rfl, _, rfl, q⟩
theorem fSize (h : ∀ R : D → Prop, R (rulesI K n rs) → te env R) (q : Q (.int n)) : In.dFld K "size" te env Q := h _ ⟨_, _, _, rfl, X.sc, X.ss, rfl, _, rfl, q⟩
theorem fRules (h : ∀ R : D → Prop, R (rulesI K n rs) → te env R) (q : Q (.tup (rs.map (ruleI K)))) : In.dFld K "rules" te env Q := h _ ⟨_, _, _, rfl, X.sc, X.sr, rfl, _, rfl, q⟩
end
theorem seq_sq (tp : Bool) (l : List D) : seqOf (sq tp l) = some l := by cases tp <;> rfl
theorem tyn_sq (tp : Bool) (l : List D) : ∃ t, (sq tp l).tyn = some t := by cases tp <;> exact ⟨_, rfl⟩
theorem isi_sq {tp : Bool} {l : List D} {Q : D → Prop} (q : Q (.bl true)) : bIsi [sq tp l, .tup [.ty "list", .ty "tuple"]] Q := by
  obtain ⟨t, ht⟩ := tyn_sq tp l
  refine isi_any ht ?_
  rw [seq_sq]; exact q
theorem len_sq {tp : Bool} {l : List D} {Q : D → Prop} (q : Q (.int l.length)) : bLen [sq tp l] Q := len_D (seq_sq tp l) q
theorem ix_sq {tp : Bool} {l : List D} {k : Nat} {d : D} {Q : D → Prop} (e : l[k]? = some d) (q : Q d) : fIx (sq tp l) (.int (k : Nat)) Q := ix_D (seq_sq tp l) e q
theorem wh_int {K : PySem.W.Frag} {x lo hi : Int} {Q : D → Prop} {E : Exc → Prop} (h : lo ≤ x ∧ x ≤ hi) (q : Q (.bl true)) : C_is_whole K [.int x, .int lo, .int hi] Q E := by
  refine ⟨_, _, _, rfl, rfl, trivial, trivial, ?_⟩
  have : isWh (.int x) (.int lo) (.int hi) = true := by
    show (decide (lo ≤ x) && decide (x ≤ hi)) = true
    rw [decide_eq_true h.1, decide_eq_true h.2]; rfl
  rw [this]; exact q
theorem cut_from (l : List D) (a : Nat) : cutL l (some (a : Int)) none = l.drop a := D.lst.inj (sl_from (xs := l) (a := a) (Q := fun d => d = .lst (l.drop a)) rfl)
theorem sl_sq {tp : Bool} {l : List D} {a : Nat} {Q : D → Prop} (q : Q (sq tp (l.drop a))) : fSl (sq tp l) (some (a : Int)) none Q := by
  cases tp with
  | false => exact sl_from q
  | true =>
    refine sl_tup ?_
    rw [cut_from]; exact q
theorem ct__is_couple {K : PySem.W.Frag} {ds : List D} {Qd : D → Prop} {Ed : Exc → Prop} (h : C__is_couple K ds Qd Ed) : d__is_couple K (fun _ x => Ed x) (eK Qd) (startD N__is_couple ds) := by
  obtain ⟨tp, p, rfl, ⟨⟨h1, h2⟩, h3, h4⟩, q⟩ := h
  unfold d__is_couple
  (repeat decreasing_trivial_pre_omega)
  refine isi_sq ?_
  (repeat decreasing_trivial_pre_omega)
  refine len_sq ?_
  (repeat decreasing_trivial_pre_omega)
  rw [decide_eq_true (show (([D.int p.1, D.int p.2].length : Nat) : Int) = 2 from rfl)]
  (repeat decreasing_trivial_pre_omega)
  refine ⟨_, _, rfl, seq_sq _ _, Nat.le_of_ble_eq_true rfl, ?_⟩
  refine lc_emb D.int (fun _ => .bl true) (fun _ => true) [p.1, p.2] [] (fun a ha S hS => ?_) ?_
  · (repeat decreasing_trivial_pre_omega)
    refine wh_int ?_ ⟨rfl, hS⟩
    simp only [List.mem_cons, List.not_mem_nil, or_false] at ha
    rcases ha with rfl | rfl <;> omega
  · (repeat decreasing_trivial_pre_omega)
    exact ⟨[true, true], rfl, q⟩
theorem eq_s {neg : Bool} {a b : Str} {Q : D → Prop} (ha : PyData.strOk a = true) (hb : PyData.strOk b = true) (q : Q (.bl (xr neg (decide (a = b))))) : fEq neg (.str a) (.str b) Q :=
  eq_d ⟨ha, Nat.zero_le _⟩ ⟨hb, Nat.zero_le _⟩ (by rw [K15.eqD_str]; exact q)
theorem eqsF {a b : Str} {Q : D → Prop} (q : Q (.bl false)) (h : (PyData.strOk a && (PyData.strOk b && !decide (a = b))) = true) : fEq false (.str a) (.str b) Q := by
  obtain ⟨h1, h⟩ := He.ba h
  obtain ⟨h2, h3⟩ := He.ba h
  refine eq_s h1 h2 ?_
  have : decide (a = b) = false := by simpa using h3
  rw [this]
  exact q
theorem eqsT {a : Str} {Q : D → Prop} (q : Q (.bl true)) (h : PyData.strOk a = true) : fEq false (.str a) (.str a) Q := by
  refine eq_s h h ?_
  rw [decide_eq_true rfl]
  exact q
theorem tup_sq {tp : Bool} {l : List D} {Q : D → Prop} (q : Q (.tup l)) : bTup [sq tp l] Q := by
  cases tp with
  | false => exact ⟨_, rfl, q⟩
  | true => exact ⟨_, rfl, q⟩
theorem sameD {d : D} {Q : D → Prop} (h : okD d) (q : Q (.bl true)) : fEq false d d Q := eq_d h h (by rw [eqD_refl h.1]; exact q)
theorem ct__is_end {K : PySem.W.Frag} {ds : List D} {Qd : D → Prop} {Ed : Exc → Prop} (h : C__is_end K ds Qd Ed) : d__is_end K (fun _ x => Ed x) (eK Qd) (startD N__is_end ds) := by
  obtain ⟨tp, e, rfl, hp, q⟩ := h
  unfold d__is_end
  (repeat decreasing_trivial_pre_omega)
  refine isi_sq ?_
  (repeat decreasing_trivial_pre_omega)
  refine len_sq ?_
  (repeat decreasing_trivial_pre_omega)
  cases e with
  | none =>
    rw [decide_eq_false (show ¬ ((endX none).length : Int) = 0 by decide)]
    (repeat decreasing_trivial_pre_omega)
    refine ix_sq (k := 0) rfl ?_
    (repeat decreasing_trivial_pre_omega)
    refine eqsF ?_ (by decide +kernel)
    (repeat decreasing_trivial_pre_omega)
    refine tup_sq ?_
    (repeat decreasing_trivial_pre_omega)
    exact sameD ⟨by decide +kernel, by decide +kernel⟩ q
  | some p =>
    rw [decide_eq_false (show ¬ ((endX (some p)).length : Int) = 0 by show ¬ (3 : Int) = 0; decide)]
    (repeat decreasing_trivial_pre_omega)
    refine ix_sq (k := 0) rfl ?_
    (repeat decreasing_trivial_pre_omega)
    refine eqsT ?_ (by decide +kernel)
    (repeat decreasing_trivial_pre_omega)
    refine sl_sq (a := 1) ?_
    (repeat decreasing_trivial_pre_omega)
    exact ⟨tp, p, rfl, hp p rfl, q⟩
theorem ct_Rules_len {K : PySem.W.Frag} (X : X32 K) {ds : List D} {Qd : D → Prop} {Ed : Exc → Prop} (h : C_Rules_len K ds Qd Ed) : d_Rules_len K (fun _ x => Ed x) (eK Qd) (startD N_Rules_len ds) := by
  obtain ⟨n, rs, rfl, q⟩ := h
  unfold d_Rules_len
  (repeat decreasing_trivial_pre_omega)
  refine fRules X (n := n) (rs := rs) (fun R hR => by (repeat decreasing_trivial_pre_omega); exact hR) ?_
  (repeat decreasing_trivial_pre_omega)
  rw [List.length_map]
  exact q
theorem ct_check_rule_dates {K : PySem.W.Frag} (X : X32 K) {ds : List D} {Qd : D → Prop} {Ed : Exc → Prop} (h : C_check_rule_dates K ds Qd Ed) : d_check_rule_dates K (fun _ x => Ed x) (eK Qd) (startD N_check_rule_dates ds) := by
  obtain ⟨n, rs, r, rfl, n7, g, q⟩ := h
  unfold d_check_rule_dates
  (repeat decreasing_trivial_pre_omega)
  refine fSize X (n := n) (rs := rs) (fun R hR => by (repeat decreasing_trivial_pre_omega); exact hR) ?_
  (repeat decreasing_trivial_pre_omega)
  refine ⟨r, n, rfl, n7, g, ?_⟩
  (repeat decreasing_trivial_pre_omega)
  exact q
theorem ct_has_dates_below {K : PySem.W.Frag} {ds : List D} {Qd : D → Prop} {Ed : Exc → Prop} (h : C_has_dates_below K ds Qd Ed) : d_has_dates_below K (fun _ x => Ed x) (eK Qd) (startD N_has_dates_below ds) := by
  obtain ⟨r, n, rfl, n7, g, q⟩ := h
  unfold d_has_dates_below
  (repeat decreasing_trivial_pre_omega)
  have g7 : GR 7 r := ⟨g.1, fun p hp => by have := g.2.1 p hp; exact ⟨⟨this.1.1, by have := this.1.2; omega⟩, this.2.1, by have := this.2.2; omega⟩, fun p hp => by have := g.2.2 p hp; exact ⟨⟨this.1.1, by have := this.1.2; omega⟩, this.2.1, by have := this.2.2; omega⟩⟩
  refine ⟨r, rfl, g7, fun L few hL => ?_⟩
  refine ⟨.inl rfl, _, rfl, by rw [List.length_map]; omega, ?_⟩
  refine lc_emb D.int (fun x => .bl (decide (x < n))) (fun _ => true) L [] (fun a ha S hS => ?_) ?_
  · (repeat decreasing_trivial_pre_omega)
    exact ⟨rfl, hS⟩
  · (repeat decreasing_trivial_pre_omega)
    refine ⟨L.map fun x => decide (x < n), by rw [fil_true, List.map_map]; rfl, ?_⟩
    rw [show (L.map fun x => decide (x < n)).all id = true from List.all_eq_true.mpr fun b hb => by
      obtain ⟨x, hx, rfl⟩ := List.mem_map.mp hb
      refine decide_eq_true ?_
      rcases hL x hx with ⟨p, hp, rfl | rfl⟩ | ⟨p, hp, rfl | rfl⟩
      · exact (g.2.1 p hp).1.2
      · exact (g.2.1 p hp).2.2
      · exact (g.2.2 p hp).1.2
      · exact (g.2.2 p hp).2.2]
    exact q
theorem ct__row_numbers {K : PySem.W.Frag} {ds : List D} {Qd : D → Prop} {Ed : Exc → Prop} (h : C__row_numbers K ds Qd Ed) : d__row_numbers K (fun _ x => Ed x) (eK Qd) (startD N__row_numbers ds) := by
  obtain ⟨tp, pr, rfl, q⟩ := h
  unfold d__row_numbers
  (repeat decreasing_trivial_pre_omega)
  cases pr with
  | self x =>
    refine ix_sq (k := 0) rfl ?_
    (repeat decreasing_trivial_pre_omega)
    refine eqsF ?_ (by decide +kernel)
    (repeat decreasing_trivial_pre_omega)
    refine ix_sq (k := 0) rfl ?_
    (repeat decreasing_trivial_pre_omega)
    refine eqsF ?_ (by decide +kernel)
    (repeat decreasing_trivial_pre_omega)
    exact q true
  | given a b =>
    refine ix_sq (k := 0) rfl ?_
    (repeat decreasing_trivial_pre_omega)
    refine eqsF ?_ (by decide +kernel)
    (repeat decreasing_trivial_pre_omega)
    refine ix_sq (k := 0) rfl ?_
    (repeat decreasing_trivial_pre_omega)
    refine eqsF ?_ (by decide +kernel)
    (repeat decreasing_trivial_pre_omega)
    exact q true
  | through a b =>
    refine ix_sq (k := 0) rfl ?_
    (repeat decreasing_trivial_pre_omega)
    refine eqsT ?_ (by decide +kernel)
    (repeat decreasing_trivial_pre_omega)
    refine sl_sq (a := 1) ?_
    exact q tp
  | rule k t bs =>
    refine ix_sq (k := 0) rfl ?_
    (repeat decreasing_trivial_pre_omega)
    refine eqsF ?_ (by decide +kernel)
    (repeat decreasing_trivial_pre_omega)
    refine ix_sq (k := 0) rfl ?_
    (repeat decreasing_trivial_pre_omega)
    refine eqsT ?_ (by decide +kernel)
    (repeat decreasing_trivial_pre_omega)
    refine ix_sq (k := 2) rfl ?_
    exact q t
def In7 (l : List Int) : Prop := ∀ x ∈ l, 0 ≤ x ∧ x < 7
theorem in7_canon {l : List Int} (h : In7 l) : (canon l).length ≤ 7 := by
  have := nodup_sub (m := iota 7) (Up.nodup (up_canon l)) fun x hx => by
    have := h x (mem_canon.mp hx)
    rw [mem_iota]; omega
  rwa [iota_len] at this
theorem zj_go {Q : List Int → Prop} {i : Nat} {ws : List Nat} : ∀ (l acc : List Int) (env : DEnv), noOwn env = true → i < env.length → In7 acc → In7 l → (∀ acc2, In7 acc2 → (∀ p, p ∈ acc2 → p ∈ acc ∨ p ∈ l) → Q acc2) → Tf.zjD (gdName i) dYes (dVar i) env (l.map D.int) acc Q
  | [], acc, _, _, _, h, _, q => q acc h fun p => .inl
  | x :: l, acc, env, no, hi, h, hl, q => by
    refine ⟨.inl no, ?_⟩
    (repeat decreasing_trivial_pre_omega)
    refine ⟨_, _, List.getElem?_set_self hi, rfl, x, rfl, by have := in7_canon h; omega, ?_⟩
    refine zj_go (ws := ws) l (x :: acc) env no hi (fun p hp => (List.mem_cons.mp hp).elim (fun z => by rw [z]; exact hl x List.mem_cons_self) (h p)) (fun p hp => hl p (List.mem_cons_of_mem _ hp)) fun acc2 h2 m => q acc2 h2 fun p hp => ?_
    rcases m p hp with z | z
    · rcases List.mem_cons.mp z with rfl | z
      · exact .inr List.mem_cons_self
      · exact .inl z
    · exact .inr (List.mem_cons_of_mem _ z)
theorem zi_go {Q : List Int → Prop} : ∀ (L : List (List Int)) (acc : List Int) (a b c : Slot), (∀ l ∈ L, In7 l) → In7 acc → noOwn [a, b, c] = true → (∀ acc2, (∀ p, p ∈ acc2 → p ∈ acc ∨ ∃ l ∈ L, p ∈ l) → In7 acc2 → Q (canon acc2)) → Tf.ziD2 (gdName 1) dYes (idVar 1) (gdName 2) dYes (dVar 2) [2] [a, b, c] (L.map tI) acc Q
  | [], acc, _, _, _, _, h, _, q => q acc (fun p => .inl) h
  | l :: L, acc, a, b, c, hL, h, no, q => by
    have hl := hL l List.mem_cons_self
    show Tf.ziD2 _ _ _ _ _ _ _ _ (tI l :: L.map tI) _ _
    unfold Tf.ziD2
    (repeat decreasing_trivial_pre_omega)
    refine zj_go (ws := []) l acc _ ?_ (Nat.le_of_ble_eq_true rfl) h hl fun acc2 h2 m => ?_
    · exact noOwn_wipe (show noOwn [a, Slot.val (tI l), c] = true by cases a <;> cases c <;> first | rfl | (cases b <;> exact no)) _
    refine zi_go L acc2 a b c (fun k hk => hL k (List.mem_cons_of_mem _ hk)) h2 no fun acc3 m3 h3 => q acc3 (fun p hp => ?_) h3
    rcases m3 p hp with z | ⟨k, hk, z⟩
    · rcases m p z with z | z
      · exact .inl z
      · exact .inr ⟨l, List.mem_cons_self, z⟩
    · exact .inr ⟨k, List.mem_cons_of_mem _ hk, z⟩
def rowsOf (r : Rl) : List (List Int) := (r.1.map fun p => [p.1, p.2]) ++ [match r.2 with | none => [] | some p => [p.1, p.2]]
theorem rowsOf_in {r : Rl} (g : GR 7 r) : ∀ l ∈ rowsOf r, In7 l := fun l hl x hx => by
  unfold rowsOf at hl
  rcases List.mem_append.mp hl with z | z
  · obtain ⟨p, hp, rfl⟩ := List.mem_map.mp z
    obtain ⟨⟨a, b⟩, c, d⟩ := g.2.1 p hp
    simp only [List.mem_cons, List.not_mem_nil, or_false] at hx
    rcases hx with rfl | rfl <;> omega
  · rw [List.mem_singleton.mp z] at hx
    cases e : r.2 with
    | none => rw [e] at hx; cases hx
    | some p =>
      rw [e] at hx
      obtain ⟨⟨a, b⟩, c, d⟩ := g.2.2 p e
      simp only [List.mem_cons, List.not_mem_nil, or_false] at hx
      rcases hx with rfl | rfl <;> omega
theorem ct_rule_dates {K : PySem.W.Frag} (X : X32 K) {ds : List D} {Qd : D → Prop} {Ed : Exc → Prop} (h : C_rule_dates K ds Qd Ed) : d_rule_dates K (fun _ x => Ed x) (eK Qd) (startD N_rule_dates ds) := by
  obtain ⟨r, rfl, g, q⟩ := h
  unfold d_rule_dates dSortI Tf.zSi2
  (repeat decreasing_trivial_pre_omega)
  refine fPrem X (r := r) (fun R hR => by (repeat decreasing_trivial_pre_omega); exact hR) ?_
  (repeat decreasing_trivial_pre_omega)
  refine fEnd X (r := r) (fun R hR => by (repeat decreasing_trivial_pre_omega); exact hR) ?_
  (repeat decreasing_trivial_pre_omega)
  refine sl_sq (tp := true) (a := 1) ?_
  (repeat decreasing_trivial_pre_omega)
  have e : (D.tup (r.1.map prD ++ [sq true ((endX r.2).drop 1)])) = .tup ((rowsOf r).map tI) := by
    unfold rowsOf
    rw [List.map_append, List.map_map]
    cases r.2 <;> rfl
  show fAdd (premD r.1) (.tup [sq true ((endX r.2).drop 1)]) _
  refine ⟨by rw [List.length_map, List.length_singleton]; have := g.1; have : (64 : Nat) ≤ sizeLine := (by decide); omega, ?_⟩
  refine ⟨.inl rfl, _, rfl, ?_⟩
  rw [show (r.1.map prD ++ [sq true ((endX r.2).drop 1)]) = (rowsOf r).map tI from D.tup.inj e]
  refine zi_go (rowsOf r) [] _ _ _ (rowsOf_in g) (fun x hx => by cases hx) rfl fun acc2 m h7 => ?_
  have := in7_canon h7
  refine ⟨by omega, ?_⟩
  (repeat decreasing_trivial_pre_omega)
  refine q _ (by omega) fun x hx => ?_
  rcases m x (mem_canon.mp hx) with z | ⟨l, hl, z⟩
  · cases z
  · unfold rowsOf at hl
    rcases List.mem_append.mp hl with y | y
    · obtain ⟨p, hp, rfl⟩ := List.mem_map.mp y
      simp only [List.mem_cons, List.not_mem_nil, or_false] at z
      exact .inl ⟨p, hp, z⟩
    · rw [List.mem_singleton.mp y] at z
      cases er : r.2 with
      | none => rw [er] at z; cases z
      | some p =>
        rw [er] at z
        simp only [List.mem_cons, List.not_mem_nil, or_false] at z
        exact .inr ⟨p, rfl, z⟩
theorem endsD : ∀ (ps : List Pr) (acc : List D) (a b c : Slot) (Q : List D → Prop), noOwn [a, b, c, .no, .no] = true → acc.length + 2 * ps.length ≤ 1000 → Q (acc ++ (endsOf ps).map naD) →
    Lc.l2D (gdTup [1, 2]) dYes (idSeq (dTup (dCons (dTup (dCons (dVar 1) (dCons (dVar 2) (dNil)))) (dCons (dTup (dCons (dVar 2) (dCons (dVar 1) (dNil)))) (dNil))))) (gdTup [3, 4]) dYes (dTup (dCons (dC (.str "not after")) (dCons (dVar 3) (dCons (dVar 4) (dNil))))) [3, 4] [a, b, c, .no, .no] (ps.map prD) acc Q
  | [], acc, _, _, _, Q, _, _, q => by
    show Q acc
    simpa [endsOf] using q
  | p :: ps, acc, a, b, c, Q, no, l, q => by
    show Lc.l2D _ _ _ _ _ _ _ _ (prD p :: ps.map prD) _ _
    unfold Lc.l2D
    have no2 : ∀ x y : D, noOwn [a, .val x, .val y, .no, .no] = true := fun x y => by cases a <;> first | rfl | (cases b <;> cases c <;> exact no)
    have big : (1000 : Nat) < sizeLine := by decide
    rw [List.length_cons] at l
    (repeat decreasing_trivial_pre_omega)
    refine ⟨.inl (no2 _ _), _, rfl, no2 _ _, ?_⟩
    show Lc.l2J _ _ _ [a, .val (.int p.1), .val (.int p.2), .no, .no] [prD (p.1, p.2), prD (p.2, p.1)] _ _
    unfold Lc.l2J
    (repeat decreasing_trivial_pre_omega)
    refine ⟨rfl, by omega, ?_⟩
    unfold Lc.l2J
    (repeat decreasing_trivial_pre_omega)
    refine ⟨rfl, by rw [List.length_append, List.length_singleton]; omega, ?_⟩
    unfold Lc.l2J
    refine endsD ps _ _ _ _ Q no (by rw [List.length_append, List.length_append, List.length_singleton, List.length_singleton]; omega) ?_
    have e : endsOf (p :: ps) = (p.1, p.2) :: (p.2, p.1) :: endsOf ps := rfl
    rw [e] at q
    simpa using q
theorem ct__premise_ends {K : PySem.W.Frag} {ds : List D} {Qd : List D → Prop} {Ed : Exc → Prop} (h : C__premise_ends K ds Qd Ed) : d__premise_ends K (fun _ x => Ed x) (eF Qd) (startD N__premise_ends ds) := by
  obtain ⟨ps, rfl, l, q⟩ := h
  unfold d__premise_ends
  show Lc.fLc2 _ _ _ _ _ _ _ _ _ _ _
  unfold Lc.fLc2
  (repeat decreasing_trivial_pre_omega)
  exact endsD ps [] _ _ _ _ rfl (by rw [List.length_nil]; omega) (by simpa using q)
end K12.K32

namespace K32
open PySem PySem.Spec PyProof.Rows L2 Dl Ns Zs Rk K12 K12.K32
abbrev N_Rule_init : List Str := ["self", "premises", "end", "premise"]
theorem sc_Rule_init : FnScope N_Rule_init ["self", "premises", "end"] (defScope s_Rule_init) := ⟨rfl, rfl, rfl, by decide +kernel, rfl, by decide +kernel, by decide +kernel⟩
def ti_Rule_init (K : PySem.W.Frag) (a : Addr) (Ed : DEnv → Exc → Prop) : In.TIn := In.tiChk a (sIf (dOr (dNot (dB (dCB bIsi (dCons (dVar 1) (dCons (dTup (dCons (dC (.ty "list")) (dCons (dC (.ty "tuple")) (dNil)))) (dNil)))))) (dTest (dOp fGt (dCB bLen (dCons (dVar 1) (dNil))) (dC (.int 4))))) (Gd.sDead) (sNext)) (In.tiChk a (sFor (idVar 1) (gdName 3) (sIf (dNot (dB (dCall ((K12.K32.C__is_couple K)) [] Ed (dCons (dVar 3) (dNil))))) (Gd.sDead) (sNext))) (In.tiChk a (sIf (dNot (dB (dCall ((K12.K32.C__is_end K)) [] Ed (dCons (dVar 2) (dNil))))) (Gd.sDead) (sNext)) (In.tiSt (dCB bTup (dCons (dF (fLc (idVar 1) (gdName 3) (dYes) (dCB bTup (dCons (dVar 3) (dNil))) (([("premise", 3)] : List (Str × Nat)).map (·.2)))) (dNil))) (In.tiSt (dCB bTup (dCons (dVar 2) (dNil))) (In.tiEnd)))))
theorem pi_Rule_init {P : Program} {w : World} {K : PySem.W.Frag} {mg : Str → Option Value} {base : Heap} {I : HI} {fa : Addr} {cdv : Value} {A : Around} {outer : List Env} {s : Shared} {H : Hp} {E : XK} {Ed : Exc → Prop} {a d : Addr} (T : Tf K mg) (c__is_couple : ∀ J : HI, J.noXd → Cl P w K mg base J 3 "_is_couple" 1 (K12.K32.C__is_couple K) []) (c__is_end : ∀ J : HI, J.noXd → Cl P w K mg base J 4 "_is_end" 1 (K12.K32.C__is_end K) []) (hnx : I.noXd) (hcl : Cls K (He.ga K "Rule")) (no_Rule_premises : NoAttr K (He.ga K "Rule") "premises") (no_Rule_end : NoAttr K (He.ga K "Rule") "end")
    (hr : Room 4 (A.deeper (envOfC "Rule.__init__" (defScope s_Rule_init) s.heap.objs.size fa cdv))) (na : ¬ I.foot a) (nad : d ≠ a) (tk : ∀ fs, Takes (cxD P w K mg base N_Rule_init "Rule.__init__" (defScope s_Rule_init) fa cdv A outer s H E) (gOf (In.insI I a d (He.ga K "Rule") fs) Ed E).W) :
    In.PIn (cxD P w K mg base N_Rule_init "Rule.__init__" (defScope s_Rule_init) fa cdv A outer s H E) I a d (He.ga K "Rule") H Ed E [] ["premises", "end"] (defBody s_Rule_init) (ti_Rule_init K a (fun _ x => Ed x)) :=
  have nd := sc_Rule_init.nd; In.in_chk (ds_if (PWD.pt (dt_or (dt_not (dt_val (d_callB c_isi rfl T.n_isinstance boot_isinstance (da_cons (dv 1) (da_cons (d_tup (da_cons (d_ty rfl T.n_list boot_list) (da_cons (d_ty rfl T.n_tuple boot_tuple) (da_nil)))) (da_nil)))))) (dt_or1 (dt_cmp r_gt (d_callB c_len rfl T.n_len PySem.boot_len (da_cons (dv 1) (da_nil))) (d_gint rfl T.i_MOST_PREMISES) (nomark _))))) (ds_one (Gd.ds_dead)) (ds_nil)) (In.in_chk (ds_for (passes_of rfl) rfl (di_var 1) (dg_name (i := 3) nd rfl (by first | exact Or.inl rfl | exact Or.inr rfl)) (ds_one (ds_if (dt_not (dt_val (d_callC (c__is_couple _ (In.insI_noXd hnx)) (K12.K32.ar__is_couple _) hr (by decide) rfl (tk _) (da_cons (dv 3) (da_nil))))) (ds_one (Gd.ds_dead)) (ds_nil)))) (In.in_chk (ds_if (dt_not (dt_val (d_callC (c__is_end _ (In.insI_noXd hnx)) (K12.K32.ar__is_end _) hr (by decide) rfl (tk _) (da_cons (dv 2) (da_nil))))) (ds_one (Gd.ds_dead)) (ds_nil)) (In.in_st na nad rfl (by first | exact Or.inl rfl | exact Or.inr (Or.inl rfl) | exact Or.inr (Or.inr rfl)) (d_callTy c_tup rfl T.n_tuple boot_tuple (da_cons (pf_e (f_lc rfl nd (di_var 1) (blkOk_by (own := [("premise", 3)]) (N := N_Rule_init) (sc := defScope s_Rule_init) (by decide +kernel)) (fun _ _ _ _ _ => pg_name (i := 3) nd rfl (by first | exact Or.inl rfl | exact Or.inr rfl)) sg_name (gw_name (by decide)) bt_nil (be_of (fun _ _ _ _ _ => d_callTy c_tup rfl T.n_tuple boot_tuple (da_cons (dv 3) (da_nil)))))) (da_nil))) hcl no_Rule_premises (by simp <;> decide) (by simp) (fun _ => In.in_st na nad rfl (by first | exact Or.inl rfl | exact Or.inr (Or.inl rfl) | exact Or.inr (Or.inr rfl)) (d_callTy c_tup rfl T.n_tuple boot_tuple (da_cons (dv 2) (da_nil))) hcl no_Rule_end (by simp <;> decide) (by simp) (fun _ => In.in_end)))))
end K32

namespace K32
open PySem PySem.Spec PyProof.Rows L2 Dl Ns Zs Rk K12 K12.K32
abbrev N_Rules_init : List Str := ["self", "size", "rules", "index", "rule"]
theorem sc_Rules_init : FnScope N_Rules_init ["self", "size", "rules"] (defScope s_Rules_init) := ⟨rfl, rfl, rfl, by decide +kernel, rfl, by decide +kernel, by decide +kernel⟩
def ti_Rules_init (K : PySem.W.Frag) (a : Addr) (Ed : DEnv → Exc → Prop) : In.TIn := In.tiChk a (sIf (dNot (dB (dCall ((C_is_whole K)) [] Ed (dCons (dVar 1) (dCons (dC (.int 0)) (dCons (dC (.int 7)) (dNil))))))) (Gd.sDead) (sNext)) (In.tiChk a (sIf (dOr (dNot (dB (dCB bIsi (dCons (dVar 2) (dCons (dTup (dCons (dC (.ty "list")) (dCons (dC (.ty "tuple")) (dNil)))) (dNil)))))) (dTest (dOp fGt (dCB bLen (dCons (dVar 2) (dNil))) (dC (.int 80))))) (Gd.sDead) (sNext)) (In.tiChk a (sFor (idEnumV 2) (gdTup [3, 4]) (sSeq (sIf (dNot (dB (dCB (In.bIsC K) (dCons (dVar 4) (dCons (dC (.ref (He.ga K "Rule"))) (dNil)))))) (Gd.sDead) (sNext)) (sIf (dNot (dB (dCall ((K12.K32.C_has_dates_below K)) [] Ed (dCons (dVar 4) (dCons (dVar 1) (dNil)))))) (Gd.sDead) (sNext)))) (In.tiSt (dVar 1) (In.tiSt (dCB bTup (dCons (dVar 2) (dNil))) (In.tiEnd)))))
theorem pi_Rules_init {P : Program} {w : World} {K : PySem.W.Frag} {mg : Str → Option Value} {base : Heap} {I : HI} {fa : Addr} {cdv : Value} {A : Around} {outer : List Env} {s : Shared} {H : Hp} {E : XK} {Ed : Exc → Prop} {a d : Addr} (T : Tf K mg) (c_has_dates_below : ∀ J : HI, J.noXd → Cl P w K mg base J 3 "has_dates_below" 2 (K12.K32.C_has_dates_below K) []) (c_is_whole : ∀ J : HI, J.noXd → Cl P w K mg base J 2 "is_whole" 3 (C_is_whole K) []) (hnx : I.noXd) (hcl : Cls K (He.ga K "Rules")) (no_Rules_size : NoAttr K (He.ga K "Rules") "size") (no_Rules_rules : NoAttr K (He.ga K "Rules") "rules")
    (hr : Room 3 (A.deeper (envOfC "Rules.__init__" (defScope s_Rules_init) s.heap.objs.size fa cdv))) (na : ¬ I.foot a) (nad : d ≠ a) (tk : ∀ fs, Takes (cxD P w K mg base N_Rules_init "Rules.__init__" (defScope s_Rules_init) fa cdv A outer s H E) (gOf (In.insI I a d (He.ga K "Rules") fs) Ed E).W) :
    In.PIn (cxD P w K mg base N_Rules_init "Rules.__init__" (defScope s_Rules_init) fa cdv A outer s H E) I a d (He.ga K "Rules") H Ed E [] ["size", "rules"] (defBody s_Rules_init) (ti_Rules_init K a (fun _ x => Ed x)) :=
  have nd := sc_Rules_init.nd; In.in_chk (ds_if (dt_not (dt_val (d_callC (c_is_whole _ (In.insI_noXd hnx)) (ar_is_whole _) hr (by decide) rfl (tk _) (da_cons (dv 1) (da_cons (d_int) (da_cons (d_gint rfl T.i_MOST_PLACES) (da_nil))))))) (ds_one (Gd.ds_dead)) (ds_nil)) (In.in_chk (ds_if (PWD.pt (dt_or (dt_not (dt_val (d_callB c_isi rfl T.n_isinstance boot_isinstance (da_cons (dv 2) (da_cons (d_tup (da_cons (d_ty rfl T.n_list boot_list) (da_cons (d_ty rfl T.n_tuple boot_tuple) (da_nil)))) (da_nil)))))) (dt_or1 (dt_cmp r_gt (d_callB c_len rfl T.n_len PySem.boot_len (da_cons (dv 2) (da_nil))) (d_gint rfl T.i_MOST_RULES) (nomark _))))) (ds_one (Gd.ds_dead)) (ds_nil)) (In.in_chk (ds_for (passes_of rfl) rfl (di_enumV 2 rfl T.n_enumerate) (dg_tup (is := [3, 4]) rfl (pgs_cons (pg_name (i := 3) nd rfl (by first | exact Or.inl rfl | exact Or.inr rfl)) (pgs_cons (pg_name (i := 4) nd rfl (by first | exact Or.inl rfl | exact Or.inr rfl)) (pgs_nil)))) (ds_cons (ds_if (dt_not (dt_val (d_callB In.c_isC rfl T.n_isinstance boot_isinstance (da_cons (dv 4) (da_cons (d_glo rfl T.g_Rule) (da_nil)))))) (ds_one (Gd.ds_dead)) (ds_nil)) (ds_one (ds_if (dt_not (dt_val (d_callC (c_has_dates_below _ (In.insI_noXd hnx)) (K12.K32.ar_has_dates_below _) hr (by decide) rfl (tk _) (da_cons (dv 4) (da_cons (dv 1) (da_nil)))))) (ds_one (Gd.ds_dead)) (ds_nil))))) (In.in_st na nad rfl (by first | exact Or.inl rfl | exact Or.inr (Or.inl rfl) | exact Or.inr (Or.inr rfl)) (dv 1) hcl no_Rules_size (by simp <;> decide) (by simp) (fun _ => In.in_st na nad rfl (by first | exact Or.inl rfl | exact Or.inr (Or.inl rfl) | exact Or.inr (Or.inr rfl)) (d_callTy c_tup rfl T.n_tuple boot_tuple (da_cons (dv 2) (da_nil))) hcl no_Rules_rules (by simp <;> decide) (by simp) (fun _ => In.in_end)))))
end K32

namespace K32
open PySem PySem.Spec PyProof.Rows L2 Dl Ns Zs Rk K12 K12.K32
abbrev N__law_rule : List Str := ["_law_hand_here", "_law_n", "_law_premises", "_law_k", "_law_x"]
theorem sc__law_rule : FnScope N__law_rule ["_law_hand_here", "_law_n"] (defScope s__law_rule) := ⟨rfl, rfl, rfl, by decide +kernel, rfl, by decide +kernel, by decide +kernel⟩
def d__law_rule (K : PySem.W.Frag) (hd : Addr) (Ed : DEnv → Exc → Prop) : TSD := sSeq (sNew 2 (fLst (dNil))) (sSeq (sFor (idRng1 (dCons (dOp fIx (dLst (dInts [0, 0, 0, 0, 1, 1, 1, 2, 2, 3, 4])) (dCall ((C__law_take hd)) [] Ed (dCons (dVar 0) (dCons (dC (.int 11)) (dNil))))) (dNil))) (gdName 3) (sSeq (sAsg 4 (dCall ((C__law_take hd)) [] Ed (dCons (dVar 0) (dCons (dVar 1) (dNil))))) (sApp 2 (dTup (dCons (dVar 4) (dCons (dCall ((C__law_take hd)) [] Ed (dCons (dVar 0) (dCons (dVar 1) (dNil)))) (dNil))))))) (sSeq (sIf (dTest (dOp (fEq false) (dCall ((C__law_take hd)) [] Ed (dCons (dVar 0) (dCons (dC (.int 8)) (dNil)))) (dC (.int 0)))) (sRet (dTup (dCons (dCB bTup (dCons (dVar 2) (dNil))) (dCons (dTup (dCons (dC (.str "never")) (dNil))) (dNil))))) (sNext)) (sSeq (sAsg 4 (dCall ((C__law_take hd)) [] Ed (dCons (dVar 0) (dCons (dVar 1) (dNil))))) (sRet (dTup (dCons (dCB bTup (dCons (dVar 2) (dNil))) (dCons (dTup (dCons (dC (.str "not after")) (dCons (dVar 4) (dCons (dCall ((C__law_take hd)) [] Ed (dCons (dVar 0) (dCons (dVar 1) (dNil)))) (dNil))))) (dNil))))))))
theorem pd__law_rule {P : Program} {w : World} {K : PySem.W.Frag} {mg : Str → Option Value} {base : Heap} {I : HI} {fa : Addr} {hd : Addr} {cdv : Value} {A : Around} {outer : List Env} {s : Shared} {H : Hp} {E : XK} {Ed : Exc → Prop} (T : Tf K mg) (c__law_take : Cl P w K mg base I 3 "_law_take" 2 (C__law_take hd) [])
    (hr : Room 3 (A.deeper (envOfC "_law_rule" (defScope s__law_rule) s.heap.objs.size fa cdv))) (tk : Takes (cxD P w K mg base N__law_rule "_law_rule" (defScope s__law_rule) fa cdv A outer s H E) (gOf I Ed E).W) :
    PSsD (cxD P w K mg base N__law_rule "_law_rule" (defScope s__law_rule) fa cdv A outer s H E) (gOf I Ed E) (defBody s__law_rule) (d__law_rule K hd (gOf I Ed E).Ed) :=
  by
  have nd := sc__law_rule.nd
  refine ds_cons ?_ ?_
  refine ds_new (i := 2) ?_ ?_ ?_ ?_
  exact nd
  exact rfl
  (first | exact Or.inl rfl | exact Or.inr rfl)
  refine f_lst ?_
  exact da_nil
  refine ds_cons ?_ ?_
  refine ds_for ?_ ?_ ?_ ?_ ?_
  exact passes_of rfl
  exact rfl
  refine di_range1 rfl T.n_range ?_
  refine da_cons ?_ ?_
  refine d_ix ?_ ?_
  refine d_lst ?_
  refine da_lits ?_
  (decide +kernel)
  refine d_callC c__law_take (ar__law_take _) hr (by decide) rfl tk ?_
  refine da_cons ?_ ?_
  exact dv 0
  refine da_cons ?_ ?_
  exact d_int
  exact da_nil
  exact da_nil
  exact dg_name (i := 3) nd rfl (by first | exact Or.inl rfl | exact Or.inr rfl)
  refine ds_cons ?_ ?_
  refine ds_set (i := 4) ?_ ?_ ?_ ?_
  exact nd
  exact rfl
  (first | exact Or.inl rfl | exact Or.inr rfl)
  refine d_callC c__law_take (ar__law_take _) hr (by decide) rfl tk ?_
  refine da_cons ?_ ?_
  exact dv 0
  refine da_cons ?_ ?_
  exact dv 1
  exact da_nil
  refine ds_one ?_
  refine ds_app (i := 2) ?_ ?_ ?_
  exact rfl
  (first | exact Or.inl rfl | exact Or.inr (Or.inl rfl))
  refine d_tup ?_
  refine da_cons ?_ ?_
  exact dv 4
  refine da_cons ?_ ?_
  refine d_callC c__law_take (ar__law_take _) hr (by decide) rfl tk ?_
  refine da_cons ?_ ?_
  exact dv 0
  refine da_cons ?_ ?_
  exact dv 1
  exact da_nil
  exact da_nil
  refine ds_cons ?_ ?_
  refine ds_if ?_ ?_ ?_
  refine dt_cmp (r_eq (h64 hr)) ?_ ?_ (nomark _)
  refine d_callC c__law_take (ar__law_take _) hr (by decide) rfl tk ?_
  refine da_cons ?_ ?_
  exact dv 0
  refine da_cons ?_ ?_
  exact d_int
  exact da_nil
  exact d_int
  refine ds_one ?_
  refine ds_ret ?_
  refine d_tup ?_
  refine da_cons ?_ ?_
  refine d_callTy c_tup rfl T.n_tuple boot_tuple ?_
  refine da_cons ?_ ?_
  exact dv 2
  exact da_nil
  refine da_cons ?_ ?_
  refine d_tup ?_
  refine da_cons ?_ ?_
  exact d_str
  exact da_nil
  exact da_nil
  exact ds_nil
  refine ds_cons ?_ ?_
  refine ds_set (i := 4) ?_ ?_ ?_ ?_
  exact nd
  exact rfl
  (first | exact Or.inl rfl | exact Or.inr rfl)
  refine d_callC c__law_take (ar__law_take _) hr (by decide) rfl tk ?_
  refine da_cons ?_ ?_
  exact dv 0
  refine da_cons ?_ ?_
  exact dv 1
  exact da_nil
  refine ds_one ?_
  refine ds_ret ?_
  refine d_tup ?_
  refine da_cons ?_ ?_
  refine d_callTy c_tup rfl T.n_tuple boot_tuple ?_
  refine da_cons ?_ ?_
  exact dv 2
  exact da_nil
  refine da_cons ?_ ?_
  refine d_tup ?_
  refine da_cons ?_ ?_
  exact d_str
  refine da_cons ?_ ?_
  exact dv 4
  refine da_cons ?_ ?_
  refine d_callC c__law_take (ar__law_take _) hr (by decide) rfl tk ?_
  refine da_cons ?_ ?_
  exact dv 0
  refine da_cons ?_ ?_
  exact dv 1
  exact da_nil
  exact da_nil
  exact da_nil
end K32

namespace K32
open PySem PySem.Spec PyProof.Rows L2 Dl Ns Zs Rk K12 K12.K32
abbrev N__law_rule_of : List Str := ["_law_rule_here", "_law_couple"]
theorem sc__law_rule_of : FnScope N__law_rule_of ["_law_rule_here"] (defScope s__law_rule_of) := ⟨rfl, rfl, rfl, by decide +kernel, rfl, by decide +kernel, by decide +kernel⟩
def d__law_rule_of (K : PySem.W.Frag) (Ed : DEnv → Exc → Prop) : TSD := sRet (In.dMk (He.ga K "Rule") 2 ["premises", "end"] (K12.K32.C_Rule_init K) [] Ed (dCons (dF (fLx (idSeq (dOp fIx (dVar 0) (dC (.int 0)))) (gdName 1) (dYes) (dFx (fListOf (dVar 1))) (([("_law_couple", 1)] : List (Str × Nat)).map (·.2)))) (dCons (dCB bLst (dCons (dOp fIx (dVar 0) (dC (.int 1))) (dNil))) (dNil))))
theorem pd__law_rule_of {P : Program} {w : World} {K : PySem.W.Frag} {mg : Str → Option Value} {base : Heap} {I : HI} {fa : Addr} {cdv : Value} {A : Around} {outer : List Env} {s : Shared} {H : Hp} {E : XK} {Ed : Exc → Prop} (T : Tf K mg) (k_Rule : In.ClI P w K mg base I 5 "Rule" 2 (He.ga K "Rule") ["premises", "end"] (K12.K32.C_Rule_init K) [])
    (hr : Room 6 (A.deeper (envOfC "_law_rule_of" (defScope s__law_rule_of) s.heap.objs.size fa cdv))) (tk : Takes (cxD P w K mg base N__law_rule_of "_law_rule_of" (defScope s__law_rule_of) fa cdv A outer s H E) (gOf I Ed E).W) :
    PSsD (cxD P w K mg base N__law_rule_of "_law_rule_of" (defScope s__law_rule_of) fa cdv A outer s H E) (gOf I Ed E) (defBody s__law_rule_of) (d__law_rule_of K (gOf I Ed E).Ed) :=
  by
  have nd := sc__law_rule_of.nd
  refine ds_one ?_
  refine ds_ret ?_
  refine In.d_mkI k_Rule hr (by decide) rfl tk ?_
  refine da_cons ?_ ?_
  refine pf_e ?_
  refine f_lcX rfl nd ?_ (blkOk_by (own := [("_law_couple", 1)]) (N := N__law_rule_of) (sc := defScope s__law_rule_of) (by decide +kernel)) ?_ sg_name (gw_name (by decide)) ?_ ?_
  refine di_seq ?_
  refine d_ix ?_ ?_
  exact dv 0
  exact d_int
  exact (fun _ _ _ _ _ => pg_name (i := 1) nd rfl (by first | exact Or.inl rfl | exact Or.inr rfl))
  exact bt_nil
  refine bx_of ?_
  intro _ _ _ _ _
  refine x_f ?_
  refine f_listOf rfl T.n_list boot_list ?_
  exact dv 1
  refine da_cons ?_ ?_
  refine d_callTy c_lst rfl T.n_list boot_list ?_
  refine da_cons ?_ ?_
  refine d_ix ?_ ?_
  exact dv 0
  exact d_int
  exact da_nil
  exact da_nil
end K32

namespace K32
open PySem PySem.Spec PyProof.Rows L2 Dl Ns Zs Rk K12 K12.K32
abbrev N__law_rules_of : List Str := ["_law_n", "_law_rules", "_law_rule_here"]
theorem sc__law_rules_of : FnScope N__law_rules_of ["_law_n", "_law_rules"] (defScope s__law_rules_of) := ⟨rfl, rfl, rfl, by decide +kernel, rfl, by decide +kernel, by decide +kernel⟩
def d__law_rules_of (K : PySem.W.Frag) (Ed : DEnv → Exc → Prop) : TSD := sRet (In.dMk (He.ga K "Rules") 2 ["size", "rules"] (K12.K32.C_Rules_init K) [] Ed (dCons (dVar 0) (dCons (dF (fLc (idVar 1) (gdName 2) (dYes) (dCall ((K12.K32.C__law_rule_of K)) [] (fun _ _ => False) (dCons (dVar 2) (dNil))) (([("_law_rule_here", 2)] : List (Str × Nat)).map (·.2)))) (dNil))))
theorem pd__law_rules_of {P : Program} {w : World} {K : PySem.W.Frag} {mg : Str → Option Value} {base : Heap} {I : HI} {fa : Addr} {cdv : Value} {A : Around} {outer : List Env} {s : Shared} {H : Hp} {E : XK} {Ed : Exc → Prop} (T : Tf K mg) (c__law_rule_of : Cl P w K mg base I 7 "_law_rule_of" 1 (K12.K32.C__law_rule_of K) []) (k_Rules : In.ClI P w K mg base I 4 "Rules" 2 (He.ga K "Rules") ["size", "rules"] (K12.K32.C_Rules_init K) [])
    (hr : Room 7 (A.deeper (envOfC "_law_rules_of" (defScope s__law_rules_of) s.heap.objs.size fa cdv))) (tk : Takes (cxD P w K mg base N__law_rules_of "_law_rules_of" (defScope s__law_rules_of) fa cdv A outer s H E) (gOf I Ed E).W) :
    PSsD (cxD P w K mg base N__law_rules_of "_law_rules_of" (defScope s__law_rules_of) fa cdv A outer s H E) (gOf I Ed E) (defBody s__law_rules_of) (d__law_rules_of K (gOf I Ed E).Ed) :=
  by
  have nd := sc__law_rules_of.nd
  refine ds_one ?_
  refine ds_ret ?_
  refine In.d_mkI k_Rules hr (by decide) rfl tk ?_
  refine da_cons ?_ ?_
  exact dv 0
  refine da_cons ?_ ?_
  refine pf_e ?_
  refine f_lc rfl nd ?_ (blkOk_by (own := [("_law_rule_here", 2)]) (N := N__law_rules_of) (sc := defScope s__law_rules_of) (by decide +kernel)) ?_ sg_name (gw_name (by decide)) ?_ ?_
  exact di_var 1
  exact (fun _ _ _ _ _ => pg_name (i := 2) nd rfl (by first | exact Or.inl rfl | exact Or.inr rfl))
  exact bt_nil
  refine be_of ?_
  intro _ _ _ _ _
  refine d_callC c__law_rule_of (K12.K32.ar__law_rule_of _) hr (by decide) rfl takes0 ?_
  refine da_cons ?_ ?_
  exact dv 2
  exact da_nil
  exact da_nil
end K32

namespace K12.K32
open PySem PySem.Spec PyProof.Rows L2 Dl Ns Zs Zz Rk Rd _root_.K32 K12
open K12.K00 (ix_D len_D)
theorem PB.up {n : Int} {p : Pr} (h : PB n p) (k : n ≤ 7) : PB 7 p := ⟨⟨h.1.1, by have := h.1.2; omega⟩, h.2.1, by have := h.2.2; omega⟩
theorem GR.up {n : Int} {r : Rl} (h : GR n r) (k : n ≤ 7) : GR 7 r := ⟨h.1, fun p hp => (h.2.1 p hp).up k, fun p hp => (h.2.2 p hp).up k⟩
theorem ct_Rule_init {K : PySem.W.Frag} {ds : List D} {Qd : List D → Prop} {Ed : Exc → Prop} {a : Addr} (h : C_Rule_init K ds Qd Ed) : (startD N_Rule_init (.ref a :: ds))[0]? = some (.val (.ref a)) ∧ ti_Rule_init K a (fun _ x => Ed x) (startD N_Rule_init (.ref a :: ds)) Qd := by
  obtain ⟨t1, t2, r, rfl, g, q⟩ := h
  refine ⟨rfl, ?_⟩
  unfold ti_Rule_init In.tiChk
  (repeat decreasing_trivial_pre_omega)
  refine isi_sq ?_
  (repeat decreasing_trivial_pre_omega)
  refine len_sq ?_
  (repeat decreasing_trivial_pre_omega)
  rw [decide_eq_false (show ¬ (4 : Int) < ((r.1.map prL).length : Nat) by rw [List.length_map]; have := g.1; omega)]
  (repeat decreasing_trivial_pre_omega)
  refine ⟨rfl, ?_⟩
  (repeat decreasing_trivial_pre_omega)
  refine ⟨_, _, rfl, seq_sq _ _, ?_⟩
  refine for_ok (fun env => ∃ s, env = [.val (.ref a), .val (sq t1 (r.1.map prL)), .val (sq t2 (endX r.2)), s] ∧ (s = .no ∨ ∃ d, s = .val d)) _ _ ⟨_, rfl, .inl rfl⟩ (fun x hx env nx ⟨s, e, _⟩ k => ?_) fun env ⟨s, e, hs⟩ => ?_
  · subst e
    obtain ⟨p, hp, rfl⟩ := List.mem_map.mp hx
    (repeat decreasing_trivial_pre_omega)
    refine ⟨false, p, rfl, g.2.1 p hp, ?_⟩
    (repeat decreasing_trivial_pre_omega)
    exact k _ ⟨_, rfl, .inr ⟨_, rfl⟩⟩
  · subst e
    have no : noOwn [Slot.val (D.ref a), Slot.val (sq t1 (r.1.map prL)), Slot.val (sq t2 (endX r.2)), s] = true := by
      rcases hs with rfl | ⟨d, rfl⟩ <;> rfl
    refine ⟨rfl, ?_⟩
    (repeat decreasing_trivial_pre_omega)
    refine ⟨t2, r.2, rfl, g.2.2, ?_⟩
    (repeat decreasing_trivial_pre_omega)
    refine ⟨rfl, ?_⟩
    unfold In.tiSt
    (repeat decreasing_trivial_pre_omega)
    refine ⟨_, _, rfl, seq_sq _ _, by rw [List.length_map]; have := g.1; omega, ?_⟩
    refine lc_emb prL prD (fun _ => true) r.1 [] (fun p hp S hS => ?_) ?_
    · (repeat decreasing_trivial_pre_omega)
      exact ⟨rfl, hS⟩
    · (repeat decreasing_trivial_pre_omega)
      rw [fil_true, List.nil_append]
      refine ⟨no, ?_⟩
      (repeat decreasing_trivial_pre_omega)
      refine tup_sq ?_
      exact ⟨no, q⟩
theorem enum_ok {i j : Nat} {tb : TSD} {Dd : DEnds} (P : DEnv → Prop) : ∀ (xs : List D) (k : Nat) (env : DEnv), P env → (∀ x ∈ xs, ∀ (m : Nat) env (nx : DEnv → Prop), P env → (∀ env', P env' → nx env') → tb { Dd with nx := nx, ct := nx, bk := Dd.nx } (putAll [i, j] [.int (m : Nat), x] env)) →
    (∀ env, P env → Dd.nx env) → forD (gdTup [i, j]) tb Dd (enumD k xs) env
  | [], _, env, h, _, e => e env h
  | x :: xs, k, env, h, s, e => ⟨_, rfl, rfl, s x List.mem_cons_self k env _ h fun env' h' => enum_ok P xs (k + 1) env' h' (fun y hy => s y (List.mem_cons_of_mem _ hy)) e⟩
theorem is_rule {K : PySem.W.Frag} (X : X32 K) {ns : List Str} {fs : List D} {Q : D → Prop} (q : Q (.bl true)) : In.bIsC K [.obj (.ins (He.ga K "Rule")) ns fs, .ref (He.ga K "Rule")] Q :=
  ⟨_, _, _, _, true, rfl, rfl, .inl ⟨_, _, _, rfl, X.ins, rfl⟩, X.kit, q⟩
theorem ct_Rules_init {K : PySem.W.Frag} (X : X32 K) {ds : List D} {Qd : List D → Prop} {Ed : Exc → Prop} {a : Addr} (h : C_Rules_init K ds Qd Ed) : (startD N_Rules_init (.ref a :: ds))[0]? = some (.val (.ref a)) ∧ ti_Rules_init K a (fun _ x => Ed x) (startD N_Rules_init (.ref a :: ds)) Qd := by
  obtain ⟨n, rs, rfl, n0, n7, l, g, q⟩ := h
  refine ⟨rfl, ?_⟩
  unfold ti_Rules_init In.tiChk
  (repeat decreasing_trivial_pre_omega)
  refine wh_int ⟨n0, n7⟩ ?_
  (repeat decreasing_trivial_pre_omega)
  refine ⟨rfl, ?_⟩
  (repeat decreasing_trivial_pre_omega)
  refine isi_sq (tp := false) ?_
  (repeat decreasing_trivial_pre_omega)
  rw [decide_eq_false (show ¬ (80 : Int) < ((rs.map (ruleI K)).length : Nat) by rw [List.length_map]; omega)]
  (repeat decreasing_trivial_pre_omega)
  refine ⟨rfl, ?_⟩
  (repeat decreasing_trivial_pre_omega)
  refine ⟨_, _, rfl, rfl, ?_⟩
  refine enum_ok (fun env => ∃ s t, env = [.val (.ref a), .val (.int n), .val (.lst (rs.map (ruleI K))), s, t] ∧ (s = .no ∨ ∃ d, s = .val d) ∧ (t = .no ∨ ∃ d, t = .val d)) _ _ _ ⟨_, _, rfl, .inl rfl, .inl rfl⟩ (fun x hx m env nx ⟨s, t, e, _, _⟩ k => ?_) fun env ⟨s, t, e, hs, ht⟩ => ?_
  · subst e
    obtain ⟨r, hr, rfl⟩ := List.mem_map.mp hx
    show sSeq _ _ _ [.val (.ref a), .val (.int n), .val (.lst (rs.map (ruleI K))), .val (.int m), .val (ruleI K r)]
    (repeat decreasing_trivial_pre_omega)
    refine is_rule X ?_
    (repeat decreasing_trivial_pre_omega)
    refine ⟨r, n, rfl, n7, g r hr, ?_⟩
    (repeat decreasing_trivial_pre_omega)
    exact k _ ⟨_, _, rfl, .inr ⟨_, rfl⟩, .inr ⟨_, rfl⟩⟩
  · subst e
    have no : noOwn [Slot.val (D.ref a), Slot.val (.int n), Slot.val (.lst (rs.map (ruleI K))), s, t] = true := by
      rcases hs with rfl | ⟨d, rfl⟩ <;> rcases ht with rfl | ⟨d, rfl⟩ <;> rfl
    refine ⟨rfl, ?_⟩
    unfold In.tiSt
    (repeat decreasing_trivial_pre_omega)
    refine ⟨no, ?_⟩
    (repeat decreasing_trivial_pre_omega)
    exact ⟨no, q⟩
theorem lx_emb {α : Type} (emb f : α → D) {i : Nat} {te : TED} {env : DEnv} {Q : List D → Prop} : ∀ (xs : List α) (acc : List D), (∀ a ∈ xs, ∀ S : D → Prop, S (f a) → te (env.set i (.val (emb a))) S) → Q (acc ++ xs.map f) → lxD (gdName i) dYes te env (xs.map emb) acc Q
  | [], acc, _, q => by
    rw [List.map_nil, List.append_nil] at q
    exact q
  | x :: xs, acc, h, q => by
    show if true = true then te (env.set i (.val (emb x))) (fun y => lxD (gdName i) dYes te env (xs.map emb) (acc ++ [y]) Q) else lxD (gdName i) dYes te env (xs.map emb) acc Q
    rw [if_pos rfl]
    refine h x List.mem_cons_self _ (lx_emb emb f xs _ (fun a ha => h a (List.mem_cons_of_mem _ ha)) ?_)
    rw [List.append_assoc]
    exact q
theorem nol_prem (ps : List Pr) : (premD ps).noLst = true := by
  show noLstA (ps.map prD) = true
  exact noLst_of fun x hx => by obtain ⟨p, _, rfl⟩ := List.mem_map.mp hx; rfl
theorem nol_end (e : Option Pr) : (endD e).noLst = true := by cases e <;> rfl
theorem nol_ruleI (K : PySem.W.Frag) (r : Rl) : (ruleI K r).noLst = true := by
  show noLstA [premD r.1, endD r.2] = true
  simp only [noLstA, nol_prem, nol_end, Bool.and_self, Bool.and_true]
theorem nol_ruleT (r : Rl) : (ruleT r).noLst = true := by
  show noLstA [premD r.1, endD r.2] = true
  simp only [noLstA, nol_prem, nol_end, Bool.and_self, Bool.and_true]
theorem ct__law_rule_of {K : PySem.W.Frag} {ds : List D} {Qd : D → Prop} {Ed : Exc → Prop} (h : C__law_rule_of K ds Qd Ed) : d__law_rule_of K (fun _ x => Ed x) (eK Qd) (startD N__law_rule_of ds) := by
  obtain ⟨r, rfl, g, q⟩ := h
  unfold d__law_rule_of
  (repeat decreasing_trivial_pre_omega)
  unfold In.dMk
  (repeat decreasing_trivial_pre_omega)
  unfold fLx
  (repeat decreasing_trivial_pre_omega)
  refine rIxT (d := premD r.1) rfl ?_
  refine ⟨.inl rfl, _, rfl, ?_⟩
  refine ⟨by rw [List.length_map]; have := g.1; omega, ?_⟩
  refine lx_emb prD prL r.1 [] (fun p hp S hS => ?_) ?_
  · unfold dFx fListOf
    (repeat decreasing_trivial_pre_omega)
    exact ⟨_, rfl, rfl, hS⟩
  · rw [List.nil_append]
    (repeat decreasing_trivial_pre_omega)
    refine rIxT (d := endD r.2) rfl ?_
    (repeat decreasing_trivial_pre_omega)
    exact ⟨rfl, false, false, r, rfl, g, fun _ => q⟩
theorem ct__law_rules_of {K : PySem.W.Frag} {ds : List D} {Qd : D → Prop} {Ed : Exc → Prop} (h : C__law_rules_of K ds Qd Ed) : d__law_rules_of K (fun _ x => Ed x) (eK Qd) (startD N__law_rules_of ds) := by
  obtain ⟨n, rs, rfl, n0, n7, l, g, q⟩ := h
  unfold d__law_rules_of
  (repeat decreasing_trivial_pre_omega)
  unfold In.dMk
  (repeat decreasing_trivial_pre_omega)
  refine ⟨by rw [List.length_map]; omega, ?_⟩
  refine lc_emb ruleT (ruleI K) (fun _ => true) rs [] (fun r hr S hS => ?_) ?_
  · (repeat decreasing_trivial_pre_omega)
    exact ⟨r, rfl, (g r hr).up n7, nol_ruleI K r, hS⟩
  · rw [fil_true, List.nil_append]
    (repeat decreasing_trivial_pre_omega)
    exact ⟨rfl, n, rs, rfl, n0, n7, l, g, fun _ => q⟩
theorem ct__law_rule {K : PySem.W.Frag} {hd : Addr} {ds : List D} {Qd : D → Prop} {Ed : Exc → Prop} (h : C__law_rule K hd ds Qd Ed) : d__law_rule K hd (fun _ x => Ed x) (eK Qd) (startD N__law_rule ds) := by
  obtain ⟨n, rfl, n1, n7, q⟩ := h
  unfold d__law_rule
  (repeat decreasing_trivial_pre_omega)
  refine tk_ok (by omega) (by decide) fun r r0 r1 => ?_
  have g7 : (n : Int) < 2 ^ 100 := Int.lt_of_le_of_lt n7 (by decide)
  obtain ⟨d, e, hdm⟩ := atI_ok (xs := ([0, 0, 0, 0, 1, 1, 1, 2, 2, 3, 4] : List Int).map D.int) r0 r1
  have hd4 : ∃ m : Int, d = .int m ∧ 0 ≤ m ∧ m ≤ 4 := by
    simp only [List.map, List.mem_cons, List.not_mem_nil, or_false] at hdm
    rcases hdm with rfl | rfl | rfl | rfl | rfl | rfl | rfl | rfl | rfl | rfl | rfl <;> exact ⟨_, rfl, by decide, by decide⟩
  obtain ⟨m, rfl, m0, m4⟩ := hd4
  refine rIxL e ?_
  (repeat decreasing_trivial_pre_omega)
  refine ⟨m, rfl, ⟨by omega, by omega⟩, ?_⟩
  rw [rng_iota]
  refine emb_inv D.int (fun done env => ∃ (ps : List Pr) (s t : Slot), env = [.val (.ref hd), .val (.int n), .own (ps.map prD), s, t] ∧ ps.length = done.length ∧ ∀ p ∈ ps, PB n p) (fun done rest x env nx ee ⟨ps, s, t, e, l, hp⟩ k => ?_) (fun env ⟨ps, s, t, e, l, hp⟩ => ?_) _ ⟨[], _, _, rfl, rfl, fun p hp => by cases hp⟩
  · subst e
    (repeat decreasing_trivial_pre_omega)
    refine tk_ok (by omega) g7 fun x x0 x1 => ?_
    (repeat decreasing_trivial_pre_omega)
    refine rApp rfl ?_
    (repeat decreasing_trivial_pre_omega)
    refine tk_ok (by omega) g7 fun y y0 y1 => ?_
    (repeat decreasing_trivial_pre_omega)
    have hl := congrArg List.length ee
    rw [iota_len, List.length_append, List.length_cons] at hl
    refine ⟨rfl, by rw [List.length_map]; have : (64 : Nat) ≤ sizeLine := (by decide); omega, ?_⟩
    refine k _ ⟨ps ++ [(x, y)], _, _, by rw [List.map_append]; rfl, by rw [List.length_append, List.length_append, l]; rfl, fun p z => ?_⟩
    rcases List.mem_append.mp z with z | z
    · exact hp p z
    · rw [List.mem_singleton.mp z]; exact ⟨⟨x0, x1⟩, y0, y1⟩
  · subst e
    rw [iota_len] at l
    (repeat decreasing_trivial_pre_omega)
    refine tk_ok (by decide) (by decide) fun w w0 w1 => ?_
    (repeat decreasing_trivial_pre_omega)
    by_cases c : w = 0
    · refine it_t (decide_eq_true c) ?_
      (repeat decreasing_trivial_pre_omega)
      exact q (ps, none) ⟨by show ps.length ≤ 4; omega, hp, fun p z => by cases z⟩
    · refine it_f (decide_eq_false c) ?_
      (repeat decreasing_trivial_pre_omega)
      refine tk_ok (by omega) g7 fun x x0 x1 => ?_
      (repeat decreasing_trivial_pre_omega)
      refine tk_ok (by omega) g7 fun y y0 y1 => ?_
      (repeat decreasing_trivial_pre_omega)
      exact q (ps, some (x, y)) ⟨by show ps.length ≤ 4; omega, hp, fun p z => by cases z; exact ⟨⟨x0, x1⟩, y0, y1⟩⟩
end K12.K32

namespace K32
open PySem PySem.Spec PyProof.Rows L2 Dl Ns Zs Rk K12 K12.K32
abbrev N__is_row : List Str := ["rules", "rule", "row", "word", "first", "second", "number"]
theorem sc__is_row : FnScope N__is_row ["rules", "rule", "row"] (defScope s__is_row) := ⟨rfl, rfl, rfl, by decide +kernel, rfl, by decide +kernel, by decide +kernel⟩
def d__is_row (K : PySem.W.Frag) (Ed : DEnv → Exc → Prop) : TSD := sSeq (sIf (dOr (dNot (dB (dCB bIsi (dCons (dVar 2) (dCons (dTup (dCons (dC (.ty "list")) (dCons (dC (.ty "tuple")) (dNil)))) (dNil)))))) (dTest (dOp (fIn true) (dCB bLen (dCons (dVar 2) (dNil))) (dTup (dCons (dC (.int 2)) (dCons (dC (.int 3)) (dNil))))))) (sRet (dC (.bl false))) (sNext)) (sSeq (sIf (dTest (dOp (fEq false) (dCB bLen (dCons (dVar 2) (dNil))) (dC (.int 2)))) (sRet (dAndV (dOp (fEq false) (dOp fIx (dVar 2) (dC (.int 0))) (dC (.str "self"))) (dCall ((C_is_whole K)) [] Ed (dCons (dOp fIx (dVar 2) (dC (.int 1))) (dCons (dC (.int 0)) (dCons (dOp fSub (In.dFld K "size" (dVar 0)) (dC (.int 1))) (dNil))))))) (sNext)) (sSeq (sAsgG (dVar 2) (Fn.gdSeq [3, 4, 5])) (sSeq (sIf (dTest (dOp (fEq false) (dVar 3) (dC (.str "given")))) (sRet (dAndV (dCall ((C_is_whole K)) [] Ed (dCons (dVar 4) (dCons (dC (.int 0)) (dCons (dOp fSub (dCB bLen (dCons (In.dFld K "premises" (dVar 1)) (dNil))) (dC (.int 1))) (dNil))))) (dCall ((C_is_whole K)) [] Ed (dCons (dVar 5) (dCons (dC (.int 0)) (dCons (dC (.int 1)) (dNil))))))) (sNext)) (sSeq (sIf (dTest (dOp (fEq false) (dVar 3) (dC (.str "through")))) (sRet (dAndV (dCall ((C_is_whole K)) [.non, .non] Ed (dCons (dVar 4) (dNil))) (dCall ((C_is_whole K)) [.non, .non] Ed (dCons (dVar 5) (dNil))))) (sNext)) (sSeq (sIf (dOr (dTest (dOp (fEq true) (dVar 3) (dC (.str "rule")))) (dOr (dNot (dB (dCall ((C_is_whole K)) [] Ed (dCons (dVar 4) (dCons (dC (.int 0)) (dCons (dOp fSub (dCB (Fr.bLenI (He.ga K "Rules") (K12.K32.C_Rules_len K)) (dCons (dVar 0) (dNil))) (dC (.int 1))) (dNil))))))) (dNot (dB (dCB bIsi (dCons (dVar 5) (dCons (dTup (dCons (dC (.ty "list")) (dCons (dC (.ty "tuple")) (dNil)))) (dNil)))))))) (sRet (dC (.bl false))) (sNext)) (sRet (dCB bAll (dCons (dF (fLc (idVar 5) (gdName 6) (dYes) (dCall ((C_is_whole K)) [.non, .non] (fun _ _ => False) (dCons (dVar 6) (dNil))) (([("number", 6)] : List (Str × Nat)).map (·.2)))) (dNil)))))))))
theorem pd__is_row {P : Program} {w : World} {K : PySem.W.Frag} {mg : Str → Option Value} {base : Heap} {I : HI} {fa : Addr} {cdv : Value} {A : Around} {outer : List Env} {s : Shared} {H : Hp} {E : XK} {Ed : Exc → Prop} (T : Tf K mg) (len_Rules : Fr.LenCl P w K mg base 2 (He.ga K "Rules") (K12.K32.C_Rules_len K)) (c_is_whole_1 : Cl P w K mg base I 2 "is_whole" 3 (C_is_whole K) [.non, .non]) (c_is_whole : Cl P w K mg base I 2 "is_whole" 3 (C_is_whole K) [])
    (hr : Room 3 (A.deeper (envOfC "_is_row" (defScope s__is_row) s.heap.objs.size fa cdv))) (tk : Takes (cxD P w K mg base N__is_row "_is_row" (defScope s__is_row) fa cdv A outer s H E) (gOf I Ed E).W) :
    PSsD (cxD P w K mg base N__is_row "_is_row" (defScope s__is_row) fa cdv A outer s H E) (gOf I Ed E) (defBody s__is_row) (d__is_row K (gOf I Ed E).Ed) :=
  by
  have nd := sc__is_row.nd
  refine ds_cons ?_ ?_
  refine ds_if ?_ ?_ ?_
  refine PWD.pt ?_
  refine dt_or ?_ ?_
  refine dt_not ?_
  refine dt_val ?_
  refine d_callB c_isi rfl T.n_isinstance boot_isinstance ?_
  refine da_cons ?_ ?_
  exact dv 2
  refine da_cons ?_ ?_
  refine d_tup ?_
  refine da_cons ?_ ?_
  exact d_ty rfl T.n_list boot_list
  refine da_cons ?_ ?_
  exact d_ty rfl T.n_tuple boot_tuple
  exact da_nil
  exact da_nil
  refine dt_or1 ?_
  refine dt_cmp (r_nin (h65 hr)) ?_ ?_ (by with_unfolding_all rfl)
  refine d_callB c_len rfl T.n_len PySem.boot_len ?_
  refine da_cons ?_ ?_
  exact dv 2
  exact da_nil
  refine d_tup ?_
  refine da_cons ?_ ?_
  exact d_int
  refine da_cons ?_ ?_
  exact d_int
  exact da_nil
  refine ds_one ?_
  refine ds_ret ?_
  exact d_bl
  exact ds_nil
  refine ds_cons ?_ ?_
  refine ds_if ?_ ?_ ?_
  refine dt_cmp (r_eq (h64 hr)) ?_ ?_ (nomark _)
  refine d_callB c_len rfl T.n_len PySem.boot_len ?_
  refine da_cons ?_ ?_
  exact dv 2
  exact da_nil
  exact d_int
  refine ds_one ?_
  refine ds_ret ?_
  refine d_and ?_ ?_
  refine d_cmp (r_eq (h64 hr)) ?_ ?_ (nomark _)
  refine d_ix ?_ ?_
  exact dv 2
  exact d_int
  exact d_str
  refine d_one ?_
  refine d_callC c_is_whole (ar_is_whole _) hr (by decide) rfl tk ?_
  refine da_cons ?_ ?_
  refine d_ix ?_ ?_
  exact dv 2
  exact d_int
  refine da_cons ?_ ?_
  exact d_int
  refine da_cons ?_ ?_
  refine d_op r_sub ?_ ?_
  refine In.d_fld ?_
  exact dv 0
  exact d_int
  exact da_nil
  exact ds_nil
  refine ds_cons ?_ ?_
  refine ds_asgG ?_ ?_
  exact dv 2
  exact Fn.dg_seq (is := [3, 4, 5]) rfl (pgs_cons (pg_name (i := 3) nd rfl (by first | exact Or.inl rfl | exact Or.inr rfl)) (pgs_cons (pg_name (i := 4) nd rfl (by first | exact Or.inl rfl | exact Or.inr rfl)) (pgs_cons (pg_name (i := 5) nd rfl (by first | exact Or.inl rfl | exact Or.inr rfl)) (pgs_nil))))
  refine ds_cons ?_ ?_
  refine ds_if ?_ ?_ ?_
  refine dt_cmp (r_eq (h64 hr)) ?_ ?_ (nomark _)
  exact dv 3
  exact d_str
  refine ds_one ?_
  refine ds_ret ?_
  refine d_and ?_ ?_
  refine d_callC c_is_whole (ar_is_whole _) hr (by decide) rfl tk ?_
  refine da_cons ?_ ?_
  exact dv 4
  refine da_cons ?_ ?_
  exact d_int
  refine da_cons ?_ ?_
  refine d_op r_sub ?_ ?_
  refine d_callB c_len rfl T.n_len PySem.boot_len ?_
  refine da_cons ?_ ?_
  refine In.d_fld ?_
  exact dv 1
  exact da_nil
  exact d_int
  exact da_nil
  refine d_one ?_
  refine d_callC c_is_whole (ar_is_whole _) hr (by decide) rfl tk ?_
  refine da_cons ?_ ?_
  exact dv 5
  refine da_cons ?_ ?_
  exact d_int
  refine da_cons ?_ ?_
  exact d_int
  exact da_nil
  exact ds_nil
  refine ds_cons ?_ ?_
  refine ds_if ?_ ?_ ?_
  refine dt_cmp (r_eq (h64 hr)) ?_ ?_ (nomark _)
  exact dv 3
  exact d_str
  refine ds_one ?_
  refine ds_ret ?_
  refine d_and ?_ ?_
  refine d_callC c_is_whole_1 (ar_is_whole _) hr (by decide) rfl tk ?_
  refine da_cons ?_ ?_
  exact dv 4
  exact da_nil
  refine d_one ?_
  refine d_callC c_is_whole_1 (ar_is_whole _) hr (by decide) rfl tk ?_
  refine da_cons ?_ ?_
  exact dv 5
  exact da_nil
  exact ds_nil
  refine ds_cons ?_ ?_
  refine ds_if ?_ ?_ ?_
  refine PWD.pt ?_
  refine dt_or ?_ ?_
  refine dt_cmp (r_ne (h64 hr)) ?_ ?_ (nomark _)
  exact dv 3
  exact d_str
  refine dt_or ?_ ?_
  refine dt_not ?_
  refine dt_val ?_
  refine d_callC c_is_whole (ar_is_whole _) hr (by decide) rfl tk ?_
  refine da_cons ?_ ?_
  exact dv 4
  refine da_cons ?_ ?_
  exact d_int
  refine da_cons ?_ ?_
  refine d_op r_sub ?_ ?_
  refine d_callB (Fr.c_lenI len_Rules hr (by decide)) rfl T.n_len PySem.boot_len ?_
  refine da_cons ?_ ?_
  exact dv 0
  exact da_nil
  exact d_int
  exact da_nil
  refine dt_or1 ?_
  refine dt_not ?_
  refine dt_val ?_
  refine d_callB c_isi rfl T.n_isinstance boot_isinstance ?_
  refine da_cons ?_ ?_
  exact dv 5
  refine da_cons ?_ ?_
  refine d_tup ?_
  refine da_cons ?_ ?_
  exact d_ty rfl T.n_list boot_list
  refine da_cons ?_ ?_
  exact d_ty rfl T.n_tuple boot_tuple
  exact da_nil
  exact da_nil
  refine ds_one ?_
  refine ds_ret ?_
  exact d_bl
  exact ds_nil
  refine ds_one ?_
  refine ds_ret ?_
  refine d_callB (c_all rfl) rfl T.n_all boot_all ?_
  refine da_cons ?_ ?_
  refine pf_e ?_
  refine f_lc rfl nd ?_ (blkOk_by (own := [("number", 6)]) (N := N__is_row) (sc := defScope s__is_row) (by decide +kernel)) ?_ sg_name (gw_name (by decide)) ?_ ?_
  exact di_var 5
  exact (fun _ _ _ _ _ => pg_name (i := 6) nd rfl (by first | exact Or.inl rfl | exact Or.inr rfl))
  exact bt_nil
  refine be_of ?_
  intro _ _ _ _ _
  refine d_callC c_is_whole_1 (ar_is_whole _) hr (by decide) rfl takes0 ?_
  refine da_cons ?_ ?_
  exact dv 6
  exact da_nil
  exact da_nil
end K32

namespace K32
open PySem PySem.Spec PyProof.Rows L2 Dl Ns Zs Rk K12 K12.K32
abbrev N__law_row_form : List Str := ["_law_n", "_law_rules", "_law_rule_here", "_law_row", "_law_back"]
theorem sc__law_row_form : FnScope N__law_row_form ["_law_n", "_law_rules", "_law_rule_here", "_law_row"] (defScope s__law_row_form) := ⟨rfl, rfl, rfl, by decide +kernel, rfl, by decide +kernel, by decide +kernel⟩
def d__law_row_form (K : PySem.W.Frag) (Ed : DEnv → Exc → Prop) : TSD := sSeq (sIf (dOr (dNot (dB (dCB bIsi (dCons (dVar 3) (dCons (dTup (dCons (dC (.ty "list")) (dCons (dC (.ty "tuple")) (dNil)))) (dNil)))))) (dTest (dOp (fIn true) (dCB bLen (dCons (dVar 3) (dNil))) (dTup (dCons (dC (.int 2)) (dCons (dC (.int 3)) (dNil))))))) (sRet (dC (.bl false))) (sNext)) (sSeq (sIf (dAnd (dTest (dOp (fEq false) (dOp fIx (dVar 3) (dC (.int 0))) (dC (.str "self")))) (dTest (dOp (fEq false) (dCB bLen (dCons (dVar 3) (dNil))) (dC (.int 2))))) (sRet (dAndV (dCall ((C__law_whole K)) [] Ed (dCons (dOp fIx (dVar 3) (dC (.int 1))) (dNil))) (Bt.dChain fLe fLt (dC (.int 0)) (dOp fIx (dVar 3) (dC (.int 1))) (dVar 0)))) (sNext)) (sSeq (sIf (dTest (dOp (fEq false) (dCB bLen (dCons (dVar 3) (dNil))) (dC (.int 2)))) (sRet (dC (.bl false))) (sNext)) (sSeq (sIf (dTest (dOp (fEq false) (dOp fIx (dVar 3) (dC (.int 0))) (dC (.str "given")))) (sSeq (sIf (dOr (dNot (dB (dCall ((C__law_whole K)) [] Ed (dCons (dOp fIx (dVar 3) (dC (.int 1))) (dNil))))) (dNot (dB (dCall ((C__law_whole K)) [] Ed (dCons (dOp fIx (dVar 3) (dC (.int 2))) (dNil)))))) (sRet (dC (.bl false))) (sNext)) (sRet (dAndV (Bt.dChain fLe fLt (dC (.int 0)) (dOp fIx (dVar 3) (dC (.int 1))) (dCB bLen (dCons (dOp fIx (dVar 2) (dC (.int 0))) (dNil)))) (Bt.dChain fLe fLt (dC (.int 0)) (dOp fIx (dVar 3) (dC (.int 2))) (dC (.int 2)))))) (sNext)) (sSeq (sIf (dTest (dOp (fEq false) (dOp fIx (dVar 3) (dC (.int 0))) (dC (.str "through")))) (sRet (dAndV (dCall ((C__law_whole K)) [] Ed (dCons (dOp fIx (dVar 3) (dC (.int 1))) (dNil))) (dCall ((C__law_whole K)) [] Ed (dCons (dOp fIx (dVar 3) (dC (.int 2))) (dNil))))) (sNext)) (sSeq (sIf (dOr (dTest (dOp (fEq true) (dOp fIx (dVar 3) (dC (.int 0))) (dC (.str "rule")))) (dOr (dNot (dB (dCall ((C__law_whole K)) [] Ed (dCons (dOp fIx (dVar 3) (dC (.int 1))) (dNil))))) (dNot (dB (dCB bIsi (dCons (dOp fIx (dVar 3) (dC (.int 2))) (dCons (dTup (dCons (dC (.ty "list")) (dCons (dC (.ty "tuple")) (dNil)))) (dNil)))))))) (sRet (dC (.bl false))) (sNext)) (sRet (dAndV (Bt.dChain fLe fLt (dC (.int 0)) (dOp fIx (dVar 3) (dC (.int 1))) (dCB bLen (dCons (dVar 1) (dNil)))) (dCB bAll (dCons (dF (fLc (idSeq (dOp fIx (dVar 3) (dC (.int 2)))) (gdName 4) (dYes) (dCall ((C__law_whole K)) [] (fun _ _ => False) (dCons (dVar 4) (dNil))) (([("_law_back", 4)] : List (Str × Nat)).map (·.2)))) (dNil))))))))))
theorem pd__law_row_form {P : Program} {w : World} {K : PySem.W.Frag} {mg : Str → Option Value} {base : Heap} {I : HI} {fa : Addr} {cdv : Value} {A : Around} {outer : List Env} {s : Shared} {H : Hp} {E : XK} {Ed : Exc → Prop} (T : Tf K mg) (c__law_whole : Cl P w K mg base I 2 "_law_whole" 1 (C__law_whole K) [])
    (hr : Room 2 (A.deeper (envOfC "_law_row_form" (defScope s__law_row_form) s.heap.objs.size fa cdv))) (tk : Takes (cxD P w K mg base N__law_row_form "_law_row_form" (defScope s__law_row_form) fa cdv A outer s H E) (gOf I Ed E).W) :
    PSsD (cxD P w K mg base N__law_row_form "_law_row_form" (defScope s__law_row_form) fa cdv A outer s H E) (gOf I Ed E) (defBody s__law_row_form) (d__law_row_form K (gOf I Ed E).Ed) :=
  by
  have nd := sc__law_row_form.nd
  refine ds_cons ?_ ?_
  refine ds_if ?_ ?_ ?_
  refine PWD.pt ?_
  refine dt_or ?_ ?_
  refine dt_not ?_
  refine dt_val ?_
  refine d_callB c_isi rfl T.n_isinstance boot_isinstance ?_
  refine da_cons ?_ ?_
  exact dv 3
  refine da_cons ?_ ?_
  refine d_tup ?_
  refine da_cons ?_ ?_
  exact d_ty rfl T.n_list boot_list
  refine da_cons ?_ ?_
  exact d_ty rfl T.n_tuple boot_tuple
  exact da_nil
  exact da_nil
  refine dt_or1 ?_
  refine dt_cmp (r_nin (h65 hr)) ?_ ?_ (by with_unfolding_all rfl)
  refine d_callB c_len rfl T.n_len PySem.boot_len ?_
  refine da_cons ?_ ?_
  exact dv 3
  exact da_nil
  refine d_tup ?_
  refine da_cons ?_ ?_
  exact d_int
  refine da_cons ?_ ?_
  exact d_int
  exact da_nil
  refine ds_one ?_
  refine ds_ret ?_
  exact d_bl
  exact ds_nil
  refine ds_cons ?_ ?_
  refine ds_if ?_ ?_ ?_
  refine PWD.pt ?_
  refine dt_and ?_ ?_
  refine dt_cmp (r_eq (h64 hr)) ?_ ?_ (nomark _)
  refine d_ix ?_ ?_
  exact dv 3
  exact d_int
  exact d_str
  refine dt_and1 ?_
  refine dt_cmp (r_eq (h64 hr)) ?_ ?_ (nomark _)
  refine d_callB c_len rfl T.n_len PySem.boot_len ?_
  refine da_cons ?_ ?_
  exact dv 3
  exact da_nil
  exact d_int
  refine ds_one ?_
  refine ds_ret ?_
  refine d_and ?_ ?_
  refine d_callC c__law_whole (ar__law_whole _) hr (by decide) rfl tk ?_
  refine da_cons ?_ ?_
  refine d_ix ?_ ?_
  exact dv 3
  exact d_int
  exact da_nil
  refine d_one ?_
  refine Bt.d_chain r_le (r_lt hr.units0) ?_ ?_ ?_
  exact d_int
  refine d_ix ?_ ?_
  exact dv 3
  exact d_int
  exact dv 0
  exact ds_nil
  refine ds_cons ?_ ?_
  refine ds_if ?_ ?_ ?_
  refine dt_cmp (r_eq (h64 hr)) ?_ ?_ (nomark _)
  refine d_callB c_len rfl T.n_len PySem.boot_len ?_
  refine da_cons ?_ ?_
  exact dv 3
  exact da_nil
  exact d_int
  refine ds_one ?_
  refine ds_ret ?_
  exact d_bl
  exact ds_nil
  refine ds_cons ?_ ?_
  refine ds_if ?_ ?_ ?_
  refine dt_cmp (r_eq (h64 hr)) ?_ ?_ (nomark _)
  refine d_ix ?_ ?_
  exact dv 3
  exact d_int
  exact d_str
  refine ds_cons ?_ ?_
  refine ds_if ?_ ?_ ?_
  refine PWD.pt ?_
  refine dt_or ?_ ?_
  refine dt_not ?_
  refine dt_val ?_
  refine d_callC c__law_whole (ar__law_whole _) hr (by decide) rfl tk ?_
  refine da_cons ?_ ?_
  refine d_ix ?_ ?_
  exact dv 3
  exact d_int
  exact da_nil
  refine dt_or1 ?_
  refine dt_not ?_
  refine dt_val ?_
  refine d_callC c__law_whole (ar__law_whole _) hr (by decide) rfl tk ?_
  refine da_cons ?_ ?_
  refine d_ix ?_ ?_
  exact dv 3
  exact d_int
  exact da_nil
  refine ds_one ?_
  refine ds_ret ?_
  exact d_bl
  exact ds_nil
  refine ds_one ?_
  refine ds_ret ?_
  refine d_and ?_ ?_
  refine Bt.d_chain r_le (r_lt hr.units0) ?_ ?_ ?_
  exact d_int
  refine d_ix ?_ ?_
  exact dv 3
  exact d_int
  refine d_callB c_len rfl T.n_len PySem.boot_len ?_
  refine da_cons ?_ ?_
  refine d_ix ?_ ?_
  exact dv 2
  exact d_int
  exact da_nil
  refine d_one ?_
  refine Bt.d_chain r_le (r_lt hr.units0) ?_ ?_ ?_
  exact d_int
  refine d_ix ?_ ?_
  exact dv 3
  exact d_int
  exact d_int
  exact ds_nil
  refine ds_cons ?_ ?_
  refine ds_if ?_ ?_ ?_
  refine dt_cmp (r_eq (h64 hr)) ?_ ?_ (nomark _)
  refine d_ix ?_ ?_
  exact dv 3
  exact d_int
  exact d_str
  refine ds_one ?_
  refine ds_ret ?_
  refine d_and ?_ ?_
  refine d_callC c__law_whole (ar__law_whole _) hr (by decide) rfl tk ?_
  refine da_cons ?_ ?_
  refine d_ix ?_ ?_
  exact dv 3
  exact d_int
  exact da_nil
  refine d_one ?_
  refine d_callC c__law_whole (ar__law_whole _) hr (by decide) rfl tk ?_
  refine da_cons ?_ ?_
  refine d_ix ?_ ?_
  exact dv 3
  exact d_int
  exact da_nil
  exact ds_nil
  refine ds_cons ?_ ?_
  refine ds_if ?_ ?_ ?_
  refine PWD.pt ?_
  refine dt_or ?_ ?_
  refine dt_cmp (r_ne (h64 hr)) ?_ ?_ (nomark _)
  refine d_ix ?_ ?_
  exact dv 3
  exact d_int
  exact d_str
  refine dt_or ?_ ?_
  refine dt_not ?_
  refine dt_val ?_
  refine d_callC c__law_whole (ar__law_whole _) hr (by decide) rfl tk ?_
  refine da_cons ?_ ?_
  refine d_ix ?_ ?_
  exact dv 3
  exact d_int
  exact da_nil
  refine dt_or1 ?_
  refine dt_not ?_
  refine dt_val ?_
  refine d_callB c_isi rfl T.n_isinstance boot_isinstance ?_
  refine da_cons ?_ ?_
  refine d_ix ?_ ?_
  exact dv 3
  exact d_int
  refine da_cons ?_ ?_
  refine d_tup ?_
  refine da_cons ?_ ?_
  exact d_ty rfl T.n_list boot_list
  refine da_cons ?_ ?_
  exact d_ty rfl T.n_tuple boot_tuple
  exact da_nil
  exact da_nil
  refine ds_one ?_
  refine ds_ret ?_
  exact d_bl
  exact ds_nil
  refine ds_one ?_
  refine ds_ret ?_
  refine d_and ?_ ?_
  refine Bt.d_chain r_le (r_lt hr.units0) ?_ ?_ ?_
  exact d_int
  refine d_ix ?_ ?_
  exact dv 3
  exact d_int
  refine d_callB c_len rfl T.n_len PySem.boot_len ?_
  refine da_cons ?_ ?_
  exact dv 1
  exact da_nil
  refine d_one ?_
  refine d_callB (c_all rfl) rfl T.n_all boot_all ?_
  refine da_cons ?_ ?_
  refine pf_e ?_
  refine f_lc rfl nd ?_ (blkOk_by (own := [("_law_back", 4)]) (N := N__law_row_form) (sc := defScope s__law_row_form) (by decide +kernel)) ?_ sg_name (gw_name (by decide)) ?_ ?_
  refine di_seq ?_
  refine d_ix ?_ ?_
  exact dv 3
  exact d_int
  exact (fun _ _ _ _ _ => pg_name (i := 4) nd rfl (by first | exact Or.inl rfl | exact Or.inr rfl))
  exact bt_nil
  refine be_of ?_
  intro _ _ _ _ _
  refine d_callC c__law_whole (ar__law_whole _) hr (by decide) rfl takes0 ?_
  refine da_cons ?_ ?_
  exact dv 4
  exact da_nil
  exact da_nil
end K32

namespace K12.K32
open PySem PySem.Spec PyProof.Rows L2 Dl Ns Zs Zz Rk Rd _root_.K32 K12
open K12.K00 (ix_D len_D)
theorem at_tyn (x : At) : (atD x).tyn.isSome = true := by cases x <;> rfl
theorem it_tyn (x : It) : (itD x).tyn.isSome = true := by
  cases x with
  | a y => exact at_tyn y
  | l tp xs => cases tp <;> rfl
theorem odd_tyn (k : Nat) : (oddD k).tyn.isSome = true := by
  unfold oddD
  split
  · rfl
  · split <;> rfl
theorem odd_seq (k : Nat) : seqOf (oddD k) = none := by
  unfold oddD
  split
  · rfl
  · split <;> rfl
theorem wd_ok (w : Wd) : PyData.strOk (wdS w) = true := by cases w <;> decide +kernel
theorem wd_eq (v w : Wd) : decide (wdS v = wdS w) = decide (v = w) := by cases v <;> cases w <;> decide +kernel
theorem eqW {neg : Bool} {v w : Wd} {Q : D → Prop} (q : Q (.bl (xr neg (decide (v = w))))) : fEq neg (.str (wdS v)) (.str (wdS w)) Q := eq_s (wd_ok v) (wd_ok w) (by rw [wd_eq]; exact q)
theorem len_N {tp : Bool} {l : List D} (n : Int) {Q : D → Prop} (e : (l.length : Int) = n) (q : Q (.int n)) : bLen [sq tp l] Q := len_sq (by rw [e]; exact q)
theorem in23 {k : Int} {Q : D → Prop} (c : Bool) (e : anyD [.int 2, .int 3] (.int k) = c) (q : Q (.bl (!c))) : fIn true (.int k) (.tup [.int 2, .int 3]) Q :=
  in_tup okI_int.ok ⟨by decide +kernel, by decide +kernel⟩ (by rw [e]; exact q)
theorem wh_c {K : PySem.W.Frag} {x lo hi : D} {Q : D → Prop} {E : Exc → Prop} (h : x.tyn.isSome = true) (h1 : isOpt lo) (h2 : isOpt hi) (q : Q (.bl (isWh x lo hi))) : C_is_whole K [x, lo, hi] Q E := ⟨_, _, _, rfl, h, h1, h2, q⟩
theorem lw_c {K : PySem.W.Frag} {x : D} {Q : D → Prop} {E : Exc → Prop} (h : x.tyn.isSome = true) (q : Q (.bl (isWh x .non .non))) : C__law_whole K [x] Q E := ⟨_, rfl, h, q⟩
def allW : It → Bool
  | .l _ bs => bs.all fun b => isWh (atD b) .non .non
  | _ => false
def formB (n m k : Int) : Wd → List It → Bool
  | .self, [x] => isWh (itD x) (.int 0) (.int (n - 1))
  | .given, [x, y] => isWh (itD x) (.int 0) (.int (k - 1)) && isWh (itD y) (.int 0) (.int 1)
  | .through, [x, y] => isWh (itD x) .non .non && isWh (itD y) .non .non
  | .rule, [x, y] => isWh (itD x) (.int 0) (.int (m - 1)) && allW y
  | _, _ => false
theorem wh_b {a lo hi : Int} : isWh (.int a) (.int lo) (.int hi) = decide (lo ≤ a ∧ a ≤ hi) := by
  show (decide (lo ≤ a) && decide (a ≤ hi)) = _
  rw [Bool.decide_and]
theorem ite_some {α : Type} {c : Prop} [Decidable c] {a : α} : (if c then some a else none).isSome = decide c := by
  by_cases h : c
  · rw [if_pos h, decide_eq_true h]; rfl
  · rw [if_neg h, decide_eq_false h]; rfl
theorem atIs_some : ∀ bs : List At, (atIs bs).isSome = bs.all fun b => isWh (atD b) .non .non
  | [] => rfl
  | .i n :: r => by
    show ((atIs r).map _).isSome = (true && r.all _)
    rw [Option.isSome_map, atIs_some r]; rfl
  | .b _ :: r => rfl
  | .n :: r => rfl
theorem dec_iff {p q : Prop} [Decidable p] [Decidable q] (h : p ↔ q) : decide p = decide q := by
  by_cases c : p
  · rw [decide_eq_true c, decide_eq_true (h.mp c)]
  · rw [decide_eq_false c, decide_eq_false fun z => c (h.mpr z)]
theorem formB_eq (n m k : Int) (tp : Bool) (w : Wd) (xs : List It) : (parse n m k (.sq tp w xs)).isSome = formB n m k w xs := by
  have bf : ∀ c : Bool, (c && false) = false := fun c => by cases c <;> rfl
  match w, xs with
  | .self, [] => rfl
  | .self, [.a (.i x)] =>
    show (if _ then _ else none : Option PR).isSome = isWh (.int x) (.int 0) (.int (n - 1))
    rw [ite_some, wh_b]
    exact dec_iff (by omega)
  | .self, [.a (.b _)] => rfl
  | .self, [.a .n] => rfl
  | .self, [.l tp _] => cases tp <;> rfl
  | .self, x :: y :: _ => (rcases x with (_ | _ | _) | ⟨_ | _, _⟩ <;> rcases y with (_ | _ | _) | ⟨_ | _, _⟩ <;> rfl)
  | .never, _ => rfl
  | .given, [] => rfl
  | .given, [x] => (rcases x with (_ | _ | _) | ⟨_ | _, _⟩ <;> rfl)
  | .given, x :: y :: _ :: _ => (rcases x with (_ | _ | _) | ⟨_ | _, _⟩ <;> rcases y with (_ | _ | _) | ⟨_ | _, _⟩ <;> rfl)
  | .through, [] => rfl
  | .through, [x] => (rcases x with (_ | _ | _) | ⟨_ | _, _⟩ <;> rfl)
  | .through, x :: y :: _ :: _ => (rcases x with (_ | _ | _) | ⟨_ | _, _⟩ <;> rcases y with (_ | _ | _) | ⟨_ | _, _⟩ <;> rfl)
  | .rule, [] => rfl
  | .rule, [x] => (rcases x with (_ | _ | _) | ⟨_ | _, _⟩ <;> rfl)
  | .rule, x :: y :: _ :: _ => (rcases x with (_ | _ | _) | ⟨_ | _, _⟩ <;> rcases y with (_ | _ | _) | ⟨_ | _, _⟩ <;> rfl)
  | .given, [.a (.i x), .a (.i y)] =>
    show (if _ then _ else none : Option PR).isSome = (isWh (.int x) (.int 0) (.int (k - 1)) && isWh (.int y) (.int 0) (.int 1))
    rw [ite_some, wh_b, wh_b, ← Bool.decide_and]
    exact dec_iff (by omega)
  | .given, [.a (.i x), .a (.b _)] => exact (bf _).symm
  | .given, [.a (.i x), .a .n] => exact (bf _).symm
  | .given, [.a (.i x), .l true _] => exact (bf _).symm
  | .given, [.a (.i x), .l false _] => exact (bf _).symm
  | .given, [.a (.b _), _] => rfl
  | .given, [.a .n, _] => rfl
  | .given, [.l true _, _] => rfl
  | .given, [.l false _, _] => rfl
  | .through, [.a (.i x), .a (.i y)] => rfl
  | .through, [.a (.i x), .a (.b _)] => rfl
  | .through, [.a (.i x), .a .n] => rfl
  | .through, [.a (.i x), .l true _] => rfl
  | .through, [.a (.i x), .l false _] => rfl
  | .through, [.a (.b _), _] => rfl
  | .through, [.a .n, _] => rfl
  | .through, [.l true _, _] => rfl
  | .through, [.l false _, _] => rfl
  | .rule, [.a (.i x), .l tp bs] =>
    show (if _ then _ else none : Option PR).isSome = (isWh (.int x) (.int 0) (.int (m - 1)) && bs.all _)
    rw [wh_b]
    by_cases c : 0 ≤ x ∧ x < m
    · rw [if_pos c, Option.isSome_map, atIs_some, decide_eq_true (by omega)]; rfl
    · rw [if_neg c, decide_eq_false (by omega)]; rfl
  | .rule, [.a (.i x), .a _] => exact (bf _).symm
  | .rule, [.a (.b _), .a _] => rfl
  | .rule, [.a .n, .a _] => rfl
  | .rule, [.l true _, .a _] => rfl
  | .rule, [.l false _, .a _] => rfl
  | .rule, [.a (.b _), .l _ _] => rfl
  | .rule, [.a .n, .l _ _] => rfl
  | .rule, [.l true _, .l _ _] => rfl
  | .rule, [.l false _, .l _ _] => rfl
def isL : It → Bool
  | .l _ _ => true
  | _ => false
theorem seq_it (x : It) : (seqOf (itD x)).isSome = isL x := by
  cases x with
  | a y => cases y <;> rfl
  | l tp xs => show (seqOf (sq tp _)).isSome = true; rw [seq_sq]; rfl
theorem isi_it {x : It} {Q : D → Prop} (q : Q (.bl (isL x))) : bIsi [itD x, .tup [.ty "list", .ty "tuple"]] Q := by
  obtain ⟨t, ht⟩ := Option.isSome_iff_exists.mp (it_tyn x)
  refine isi_any ht ?_
  rw [seq_it]; exact q
theorem ct__is_row {K : PySem.W.Frag} (X : X32 K) {ds : List D} {Qd : D → Prop} {Ed : Exc → Prop} (h : C__is_row K ds Qd Ed) : d__is_row K (fun _ x => Ed x) (eK Qd) (startD N__is_row ds) := by
  obtain ⟨n, rs, r, row, rfl, A, ro, q⟩ := h
  unfold d__is_row
  (repeat decreasing_trivial_pre_omega)
  cases row with
  | odd k =>
    obtain ⟨t, ht⟩ := Option.isSome_iff_exists.mp (odd_tyn k)
    refine isi_any ht ?_
    rw [show seqOf (rowD (Row.odd k)) = none from odd_seq k]
    (repeat decreasing_trivial_pre_omega)
    exact q
  | emp tp =>
    refine isi_sq ?_
    (repeat decreasing_trivial_pre_omega)
    refine len_N 0 rfl ?_
    (repeat decreasing_trivial_pre_omega)
    refine in23 false rfl ?_
    (repeat decreasing_trivial_pre_omega)
    exact q
  | sq tp w xs =>
    rw [formB_eq] at q
    refine isi_sq ?_
    (repeat decreasing_trivial_pre_omega)
    match xs, ro with
    | [], _ =>
      refine len_N 1 rfl ?_
      (repeat decreasing_trivial_pre_omega)
      refine in23 false rfl ?_
      (repeat decreasing_trivial_pre_omega)
      cases w <;> exact q
    | [x], _ =>
      refine len_N 2 rfl ?_
      (repeat decreasing_trivial_pre_omega)
      refine in23 true rfl ?_
      (repeat decreasing_trivial_pre_omega)
      refine len_N 2 rfl ?_
      (repeat decreasing_trivial_pre_omega)
      rw [decide_eq_true rfl]
      (repeat decreasing_trivial_pre_omega)
      refine ix_sq (k := 0) rfl ?_
      (repeat decreasing_trivial_pre_omega)
      refine eqW (w := .self) ?_
      cases w with
      | self =>
        rw [decide_eq_true rfl]
        (repeat decreasing_trivial_pre_omega)
        refine ix_sq (k := 1) rfl ?_
        (repeat decreasing_trivial_pre_omega)
        refine fSize X (n := n) (rs := rs) (fun R hR => by (repeat decreasing_trivial_pre_omega); exact hR) ?_
        (repeat decreasing_trivial_pre_omega)
        exact wh_c (it_tyn x) trivial trivial q
      | _ =>
        rw [decide_eq_false (by decide)]
        (repeat decreasing_trivial_pre_omega)
        exact q
    | [x, y], ro2 =>
      refine len_N 3 rfl ?_
      (repeat decreasing_trivial_pre_omega)
      refine in23 true rfl ?_
      (repeat decreasing_trivial_pre_omega)
      refine len_N 3 rfl ?_
      (repeat decreasing_trivial_pre_omega)
      rw [decide_eq_false (by decide)]
      (repeat decreasing_trivial_pre_omega)
      refine ⟨_, _, rfl, rfl, .inl rfl, _, seq_sq _ _, rfl, ?_⟩
      show sSeq _ _ _ [_, _, _, .val (.str (wdS w)), .val (itD x), .val (itD y), .no]
      (repeat decreasing_trivial_pre_omega)
      refine eqW (w := .given) ?_
      by_cases c1 : w = .given
      · subst c1
        rw [decide_eq_true rfl]
        (repeat decreasing_trivial_pre_omega)
        refine fPrem X (r := r) (fun R hR => by (repeat decreasing_trivial_pre_omega); exact hR) ?_
        (repeat decreasing_trivial_pre_omega)
        rw [List.length_map]
        refine wh_c (it_tyn x) trivial trivial ⟨_, rfl, ?_⟩
        have e : formB n rs.length r.1.length .given [x, y] = (isWh (itD x) (.int 0) (.int ((r.1.length : Nat) - 1)) && isWh (itD y) (.int 0) (.int 1)) := rfl
        rw [e] at q
        cases c : isWh (itD x) (.int 0) (.int ((r.1.length : Nat) - 1)) with
        | true =>
          rw [c] at q
          (repeat decreasing_trivial_pre_omega)
          exact wh_c (it_tyn y) trivial trivial q
        | false =>
          rw [c] at q
          (repeat decreasing_trivial_pre_omega)
          exact q
      rw [decide_eq_false c1]
      (repeat decreasing_trivial_pre_omega)
      refine eqW (w := .through) ?_
      by_cases c2 : w = .through
      · subst c2
        rw [decide_eq_true rfl]
        (repeat decreasing_trivial_pre_omega)
        refine wh_c (it_tyn x) trivial trivial ⟨_, rfl, ?_⟩
        have e : formB n rs.length r.1.length .through [x, y] = (isWh (itD x) .non .non && isWh (itD y) .non .non) := rfl
        rw [e] at q
        cases c : isWh (itD x) .non .non with
        | true =>
          rw [c] at q
          (repeat decreasing_trivial_pre_omega)
          exact wh_c (it_tyn y) trivial trivial q
        | false =>
          rw [c] at q
          (repeat decreasing_trivial_pre_omega)
          exact q
      rw [decide_eq_false c2]
      (repeat decreasing_trivial_pre_omega)
      refine eqW (neg := true) (w := .rule) ?_
      by_cases c3 : w = .rule
      · subst c3
        rw [decide_eq_true rfl]
        (repeat decreasing_trivial_pre_omega)
        refine ⟨_, _, (rs.length : Nat), rfl, ⟨n, rs, rfl, rfl⟩, by omega, by have := A.few; omega, ?_⟩
        (repeat decreasing_trivial_pre_omega)
        refine wh_c (it_tyn x) trivial trivial ?_
        (repeat decreasing_trivial_pre_omega)
        have e : formB n rs.length r.1.length .rule [x, y] = (isWh (itD x) (.int 0) (.int ((rs.length : Nat) - 1)) && allW y) := rfl
        rw [e] at q
        cases c : isWh (itD x) (.int 0) (.int ((rs.length : Nat) - 1)) with
        | false =>
          rw [c] at q
          (repeat decreasing_trivial_pre_omega)
          exact q
        | true =>
          rw [c] at q
          (repeat decreasing_trivial_pre_omega)
          refine isi_it ?_
          (repeat decreasing_trivial_pre_omega)
          cases y with
          | a z =>
            (repeat decreasing_trivial_pre_omega)
            exact q
          | l t bs =>
            rw [show isL (.l t bs) = true from rfl]
            (repeat decreasing_trivial_pre_omega)
            refine ⟨_, _, rfl, seq_sq _ _, ?_⟩
            have fb := (ro2.2 (.l t bs) (List.mem_cons_of_mem _ List.mem_cons_self)).1
            refine ⟨by rw [List.length_map]; omega, ?_⟩
            refine lc_emb atD (fun b => .bl (isWh (atD b) .non .non)) (fun _ => true) bs [] (fun b hb S hS => ?_) ?_
            · (repeat decreasing_trivial_pre_omega)
              exact wh_c (at_tyn b) trivial trivial ⟨rfl, hS⟩
            · rw [fil_true, List.nil_append]
              (repeat decreasing_trivial_pre_omega)
              exact ⟨bs.map fun b => isWh (atD b) .non .non, by rw [List.map_map]; rfl, by rw [List.all_map]; exact q⟩
      · rw [decide_eq_false c3]
        (repeat decreasing_trivial_pre_omega)
        have : formB n rs.length r.1.length w [x, y] = false := by cases w <;> first | rfl | contradiction
        rw [this] at q
        exact q
    | _ :: _ :: _ :: _, ro => exact absurd ro.1 (by simp)
theorem wh_some {x : It} (h : isWh (itD x) .non .non = true) : ∃ n, x = .a (.i n) := by
  rcases x with (_ | _ | _) | ⟨_ | _, _⟩ <;> first | exact ⟨_, rfl⟩ | cases h
theorem wh_nn {x : It} {lo hi : Int} (h : isWh (itD x) .non .non = false) : isWh (itD x) (.int lo) (.int hi) = false := by
  rcases x with (_ | _ | _) | ⟨_ | _, _⟩ <;> first | rfl | cases h
theorem chain_ok {td tc : TED} {env : DEnv} {lo i hi : Int} {Q : D → Prop} (h : ∀ R : D → Prop, R (.int i) → td env R) (h2 : ∀ R : D → Prop, R (.int hi) → tc env R) (q : Q (.bl (decide (lo ≤ i ∧ i < hi)))) : Bt.dChain fLe fLt (dC (.int lo)) td tc env Q := by
  refine h _ ⟨_, _, rfl, rfl, decide (lo ≤ i), rfl, ?_⟩
  by_cases c : lo ≤ i
  · rw [decide_eq_true c, if_pos rfl]
    refine h2 _ (.inl ⟨_, _, rfl, rfl, ?_⟩)
    rw [dec_iff (show (lo ≤ i ∧ i < hi) ↔ i < hi from ⟨fun z => z.2, fun z => ⟨c, z⟩⟩)] at q
    exact q
  · rw [decide_eq_false c, if_neg (by decide)]
    rw [decide_eq_false (fun z => c z.1)] at q
    exact q
theorem ct__law_row_form {K : PySem.W.Frag} {ds : List D} {Qd : D → Prop} {Ed : Exc → Prop} (h : C__law_row_form K ds Qd Ed) : d__law_row_form K (fun _ x => Ed x) (eK Qd) (startD N__law_row_form ds) := by
  obtain ⟨n, rs, r, row, rfl, A, ro, q⟩ := h
  unfold d__law_row_form
  (repeat decreasing_trivial_pre_omega)
  cases row with
  | odd k =>
    obtain ⟨t, ht⟩ := Option.isSome_iff_exists.mp (odd_tyn k)
    refine isi_any ht ?_
    rw [show seqOf (rowD (Row.odd k)) = none from odd_seq k]
    (repeat decreasing_trivial_pre_omega)
    exact q
  | emp tp =>
    refine isi_sq ?_
    (repeat decreasing_trivial_pre_omega)
    refine len_N 0 rfl ?_
    (repeat decreasing_trivial_pre_omega)
    refine in23 false rfl ?_
    (repeat decreasing_trivial_pre_omega)
    exact q
  | sq tp w xs =>
    rw [formB_eq] at q
    refine isi_sq ?_
    (repeat decreasing_trivial_pre_omega)
    match xs, ro with
    | [], _ =>
      refine len_N 1 rfl ?_
      (repeat decreasing_trivial_pre_omega)
      refine in23 false rfl ?_
      (repeat decreasing_trivial_pre_omega)
      cases w <;> exact q
    | [x], _ =>
      refine len_N 2 rfl ?_
      (repeat decreasing_trivial_pre_omega)
      refine in23 true rfl ?_
      (repeat decreasing_trivial_pre_omega)
      refine ix_sq (k := 0) rfl ?_
      (repeat decreasing_trivial_pre_omega)
      refine eqW (w := .self) ?_
      cases w with
      | self =>
        rw [decide_eq_true rfl]
        (repeat decreasing_trivial_pre_omega)
        refine len_N 2 rfl ?_
        (repeat decreasing_trivial_pre_omega)
        rw [decide_eq_true rfl]
        (repeat decreasing_trivial_pre_omega)
        refine ix_sq (k := 1) rfl ?_
        (repeat decreasing_trivial_pre_omega)
        refine lw_c (it_tyn x) ⟨_, rfl, ?_⟩
        have e : formB n rs.length r.1.length .self [x] = isWh (itD x) (.int 0) (.int (n - 1)) := rfl
        rw [e] at q
        cases c : isWh (itD x) .non .non with
        | false =>
          rw [wh_nn c] at q
          (repeat decreasing_trivial_pre_omega)
          exact q
        | true =>
          obtain ⟨i, rfl⟩ := wh_some c
          (repeat decreasing_trivial_pre_omega)
          refine chain_ok (i := i) (hi := n) (fun R hR => ?_) (fun R hR => ?_) ?_
          · (repeat decreasing_trivial_pre_omega)
            exact ix_sq (k := 1) rfl hR
          · (repeat decreasing_trivial_pre_omega)
            exact hR
          · rw [show isWh (itD (.a (.i i))) (.int 0) (.int (n - 1)) = decide (0 ≤ i ∧ i < n) from wh_b.trans (dec_iff (by omega))] at q
            exact q
      | _ =>
        rw [decide_eq_false (by decide)]
        (repeat decreasing_trivial_pre_omega)
        refine len_N 2 rfl ?_
        (repeat decreasing_trivial_pre_omega)
        rw [decide_eq_true rfl]
        (repeat decreasing_trivial_pre_omega)
        exact q
    | [x, y], ro2 =>
      refine len_N 3 rfl ?_
      (repeat decreasing_trivial_pre_omega)
      refine in23 true rfl ?_
      (repeat decreasing_trivial_pre_omega)
      refine ix_sq (k := 0) rfl ?_
      (repeat decreasing_trivial_pre_omega)
      refine eqW (w := .self) ?_
      by_cases c0 : w = .self
      · subst c0
        rw [decide_eq_true rfl]
        (repeat decreasing_trivial_pre_omega)
        refine len_N 3 rfl ?_
        (repeat decreasing_trivial_pre_omega)
        rw [decide_eq_false (by decide)]
        (repeat decreasing_trivial_pre_omega)
        refine len_N 3 rfl ?_
        (repeat decreasing_trivial_pre_omega)
        rw [decide_eq_false (by decide)]
        (repeat decreasing_trivial_pre_omega)
        refine ix_sq (k := 0) rfl ?_
        (repeat decreasing_trivial_pre_omega)
        refine eqW (w := .given) ?_
        rw [decide_eq_false (by decide)]
        (repeat decreasing_trivial_pre_omega)
        refine ix_sq (k := 0) rfl ?_
        (repeat decreasing_trivial_pre_omega)
        refine eqW (w := .through) ?_
        rw [decide_eq_false (by decide)]
        (repeat decreasing_trivial_pre_omega)
        refine ix_sq (k := 0) rfl ?_
        (repeat decreasing_trivial_pre_omega)
        refine eqW (neg := true) (w := .rule) ?_
        rw [decide_eq_false (by decide)]
        (repeat decreasing_trivial_pre_omega)
        exact q
      rw [decide_eq_false c0]
      (repeat decreasing_trivial_pre_omega)
      refine len_N 3 rfl ?_
      (repeat decreasing_trivial_pre_omega)
      rw [decide_eq_false (by decide)]
      (repeat decreasing_trivial_pre_omega)
      refine ix_sq (k := 0) rfl ?_
      (repeat decreasing_trivial_pre_omega)
      refine eqW (w := .given) ?_
      by_cases c1 : w = .given
      · subst c1
        rw [decide_eq_true rfl]
        (repeat decreasing_trivial_pre_omega)
        refine ix_sq (k := 1) rfl ?_
        (repeat decreasing_trivial_pre_omega)
        refine lw_c (it_tyn x) ?_
        (repeat decreasing_trivial_pre_omega)
        have e : formB n rs.length r.1.length .given [x, y] = (isWh (itD x) (.int 0) (.int ((r.1.length : Nat) - 1)) && isWh (itD y) (.int 0) (.int 1)) := rfl
        rw [e] at q
        cases cx : isWh (itD x) .non .non with
        | false =>
          rw [wh_nn cx] at q
          (repeat decreasing_trivial_pre_omega)
          exact q
        | true =>
          (repeat decreasing_trivial_pre_omega)
          refine ix_sq (k := 2) rfl ?_
          (repeat decreasing_trivial_pre_omega)
          refine lw_c (it_tyn y) ?_
          (repeat decreasing_trivial_pre_omega)
          cases cy : isWh (itD y) .non .non with
          | false =>
            rw [wh_nn cy, Bool.and_false] at q
            (repeat decreasing_trivial_pre_omega)
            exact q
          | true =>
            obtain ⟨i, rfl⟩ := wh_some cx
            obtain ⟨j, rfl⟩ := wh_some cy
            (repeat decreasing_trivial_pre_omega)
            refine chain_ok (i := i) (hi := r.1.length) (fun R hR => ?_) (fun R hR => ?_) ?_
            · (repeat decreasing_trivial_pre_omega)
              exact ix_sq (k := 1) rfl hR
            · (repeat decreasing_trivial_pre_omega)
              refine rIxT (d := premD r.1) rfl ?_
              (repeat decreasing_trivial_pre_omega)
              rw [List.length_map]
              exact hR
            · rw [show isWh (itD (.a (.i i))) (.int 0) (.int ((r.1.length : Nat) - 1)) = decide (0 ≤ i ∧ i < (r.1.length : Nat)) from wh_b.trans (dec_iff (by omega))] at q
              (repeat decreasing_trivial_pre_omega)
              cases ci : decide (0 ≤ i ∧ i < (r.1.length : Nat)) with
              | false =>
                rw [ci] at q
                (repeat decreasing_trivial_pre_omega)
                exact q
              | true =>
                rw [ci] at q
                (repeat decreasing_trivial_pre_omega)
                refine chain_ok (i := j) (hi := 2) (fun R hR => ?_) (fun R hR => ?_) ?_
                · (repeat decreasing_trivial_pre_omega)
                  exact ix_sq (k := 2) rfl hR
                · (repeat decreasing_trivial_pre_omega)
                  exact hR
                · rw [show isWh (itD (.a (.i j))) (.int 0) (.int 1) = decide (0 ≤ j ∧ j < 2) from wh_b.trans (dec_iff (by omega))] at q
                  exact q
      rw [decide_eq_false c1]
      (repeat decreasing_trivial_pre_omega)
      refine ix_sq (k := 0) rfl ?_
      (repeat decreasing_trivial_pre_omega)
      refine eqW (w := .through) ?_
      by_cases c2 : w = .through
      · subst c2
        rw [decide_eq_true rfl]
        (repeat decreasing_trivial_pre_omega)
        refine ix_sq (k := 1) rfl ?_
        (repeat decreasing_trivial_pre_omega)
        refine lw_c (it_tyn x) ?_
        (repeat decreasing_trivial_pre_omega)
        have e : formB n rs.length r.1.length .through [x, y] = (isWh (itD x) .non .non && isWh (itD y) .non .non) := rfl
        rw [e] at q
        cases c : isWh (itD x) .non .non with
        | true =>
          rw [c] at q
          (repeat decreasing_trivial_pre_omega)
          refine ix_sq (k := 2) rfl ?_
          (repeat decreasing_trivial_pre_omega)
          exact lw_c (it_tyn y) q
        | false =>
          rw [c] at q
          (repeat decreasing_trivial_pre_omega)
          exact q
      rw [decide_eq_false c2]
      (repeat decreasing_trivial_pre_omega)
      refine ix_sq (k := 0) rfl ?_
      (repeat decreasing_trivial_pre_omega)
      refine eqW (neg := true) (w := .rule) ?_
      by_cases c3 : w = .rule
      · subst c3
        rw [decide_eq_true rfl]
        (repeat decreasing_trivial_pre_omega)
        refine ix_sq (k := 1) rfl ?_
        (repeat decreasing_trivial_pre_omega)
        refine lw_c (it_tyn x) ?_
        (repeat decreasing_trivial_pre_omega)
        have e : formB n rs.length r.1.length .rule [x, y] = (isWh (itD x) (.int 0) (.int ((rs.length : Nat) - 1)) && allW y) := rfl
        rw [e] at q
        cases cx : isWh (itD x) .non .non with
        | false =>
          rw [wh_nn cx] at q
          (repeat decreasing_trivial_pre_omega)
          exact q
        | true =>
          obtain ⟨i, rfl⟩ := wh_some cx
          (repeat decreasing_trivial_pre_omega)
          refine ix_sq (k := 2) rfl ?_
          (repeat decreasing_trivial_pre_omega)
          refine isi_it ?_
          (repeat decreasing_trivial_pre_omega)
          cases y with
          | a z =>
            rw [show allW (.a z) = false from rfl, Bool.and_false] at q
            (repeat decreasing_trivial_pre_omega)
            exact q
          | l t bs =>
            rw [show isL (.l t bs) = true from rfl]
            (repeat decreasing_trivial_pre_omega)
            refine chain_ok (i := i) (hi := rs.length) (fun R hR => ?_) (fun R hR => ?_) ?_
            · (repeat decreasing_trivial_pre_omega)
              exact ix_sq (k := 1) rfl hR
            · (repeat decreasing_trivial_pre_omega)
              rw [List.length_map]
              exact hR
            · rw [show isWh (itD (.a (.i i))) (.int 0) (.int ((rs.length : Nat) - 1)) = decide (0 ≤ i ∧ i < (rs.length : Nat)) from wh_b.trans (dec_iff (by omega))] at q
              (repeat decreasing_trivial_pre_omega)
              cases ci : decide (0 ≤ i ∧ i < (rs.length : Nat)) with
              | false =>
                rw [ci] at q
                (repeat decreasing_trivial_pre_omega)
                exact q
              | true =>
                rw [ci] at q
                (repeat decreasing_trivial_pre_omega)
                have fb := (ro2.2 (.l t bs) (List.mem_cons_of_mem _ List.mem_cons_self)).1
                refine ix_sq (k := 2) rfl ?_
                refine ⟨.inl rfl, _, seq_sq _ _, by rw [List.length_map]; omega, ?_⟩
                refine lc_emb atD (fun b => .bl (isWh (atD b) .non .non)) (fun _ => true) bs [] (fun b hb S hS => ?_) ?_
                · (repeat decreasing_trivial_pre_omega)
                  exact lw_c (at_tyn b) ⟨rfl, hS⟩
                · rw [fil_true, List.nil_append]
                  (repeat decreasing_trivial_pre_omega)
                  exact ⟨bs.map fun b => isWh (atD b) .non .non, by rw [List.map_map]; rfl, by rw [List.all_map]; exact q⟩
      · rw [decide_eq_false c3]
        (repeat decreasing_trivial_pre_omega)
        have : formB n rs.length r.1.length w [x, y] = false := by cases w <;> first | rfl | contradiction
        rw [this] at q
        exact q
    | _ :: _ :: _ :: _, ro => exact absurd ro.1 (by simp)
end K12.K32

namespace K32
open PySem PySem.Spec PyProof.Rows L2 Dl Ns Zs Rk K12 K12.K32
abbrev N__back_fault : List Str := ["rules", "row", "ends", "numbers", "held", "number"]
theorem sc__back_fault : FnScope N__back_fault ["rules", "row", "ends"] (defScope s__back_fault) := ⟨rfl, rfl, rfl, by decide +kernel, rfl, by decide +kernel, by decide +kernel⟩
def d__back_fault (K : PySem.W.Frag) (Ed : DEnv → Exc → Prop) : TSD := sSeq (sAsg 3 (dCall ((K12.K32.C__row_numbers K)) [] Ed (dCons (dVar 1) (dNil)))) (sSeq (sIf (dNot (dB (dCB bAll (dCons (dF (fLc (idVar 3) (gdName 5) (dYes) (dAndV (dCall ((C_is_whole K)) [] (fun _ _ => False) (dCons (dVar 5) (dCons (dC (.int 0)) (dCons (dOp fSub (dCB bLen (dCons (dVar 2) (dNil))) (dC (.int 1))) (dNil))))) (dOp (fEq true) (dOp fIx (dVar 2) (dVar 5)) (dC (.tup ((["never"] : List Str).map D.str))))) (([("number", 5)] : List (Str × Nat)).map (·.2)))) (dNil))))) (sRet (dC (.str "back"))) (sNext)) (sSeq (sAsg 4 (dF (fLc (idVar 3) (gdName 5) (dYes) (dOp fIx (dVar 2) (dVar 5)) (([("number", 5)] : List (Str × Nat)).map (·.2))))) (sSeq (sIf (dAnd (dTest (dOp (fEq false) (dOp fIx (dVar 1) (dC (.int 0))) (dC (.str "through")))) (dTest (dOp (fEq true) (dOp fIx (dOp fIx (dVar 4) (dC (.int 0))) (dC (.int 2))) (dOp fIx (dOp fIx (dVar 4) (dC (.int 1))) (dC (.int 1)))))) (sRet (dC (.str "through"))) (sNext)) (sSeq (sIf (dAnd (dTest (dOp (fEq false) (dOp fIx (dVar 1) (dC (.int 0))) (dC (.str "rule")))) (dTest (dOp (fEq true) (dVar 4) (dF (Fr.fCall ((K12.K32.C__premise_ends K)) [] Ed (dCons (In.dFld K "premises" (dOp fIx (In.dFld K "rules" (dVar 0)) (dOp fIx (dVar 1) (dC (.int 1))))) (dNil))))))) (sRet (dC (.str "premise"))) (sNext)) (sRet (dC .non))))))
theorem pd__back_fault {P : Program} {w : World} {K : PySem.W.Frag} {mg : Str → Option Value} {base : Heap} {I : HI} {fa : Addr} {cdv : Value} {A : Around} {outer : List Env} {s : Shared} {H : Hp} {E : XK} {Ed : Exc → Prop} (T : Tf K mg) (c__row_numbers : Cl P w K mg base I 2 "_row_numbers" 1 (K12.K32.C__row_numbers K) []) (c_is_whole : Cl P w K mg base I 2 "is_whole" 3 (C_is_whole K) []) (cf__premise_ends : Fr.ClF P w K mg base I 2 "_premise_ends" 1 (K12.K32.C__premise_ends K) [])
    (hr : Room 2 (A.deeper (envOfC "_back_fault" (defScope s__back_fault) s.heap.objs.size fa cdv))) (tk : Takes (cxD P w K mg base N__back_fault "_back_fault" (defScope s__back_fault) fa cdv A outer s H E) (gOf I Ed E).W) :
    PSsD (cxD P w K mg base N__back_fault "_back_fault" (defScope s__back_fault) fa cdv A outer s H E) (gOf I Ed E) (defBody s__back_fault) (d__back_fault K (gOf I Ed E).Ed) :=
  by
  have nd := sc__back_fault.nd
  refine ds_cons ?_ ?_
  refine ds_set (i := 3) ?_ ?_ ?_ ?_
  exact nd
  exact rfl
  (first | exact Or.inl rfl | exact Or.inr rfl)
  refine d_callC c__row_numbers (K12.K32.ar__row_numbers _) hr (by decide) rfl tk ?_
  refine da_cons ?_ ?_
  exact dv 1
  exact da_nil
  refine ds_cons ?_ ?_
  refine ds_if ?_ ?_ ?_
  refine dt_not ?_
  refine dt_val ?_
  refine d_callB (c_all rfl) rfl T.n_all boot_all ?_
  refine da_cons ?_ ?_
  refine pf_e ?_
  refine f_lc rfl nd ?_ (blkOk_by (own := [("number", 5)]) (N := N__back_fault) (sc := defScope s__back_fault) (by decide +kernel)) ?_ sg_name (gw_name (by decide)) ?_ ?_
  exact di_var 3
  exact (fun _ _ _ _ _ => pg_name (i := 5) nd rfl (by first | exact Or.inl rfl | exact Or.inr rfl))
  exact bt_nil
  refine be_of ?_
  intro _ _ _ _ _
  refine d_and ?_ ?_
  refine d_callC c_is_whole (ar_is_whole _) hr (by decide) rfl takes0 ?_
  refine da_cons ?_ ?_
  exact dv 5
  refine da_cons ?_ ?_
  exact d_int
  refine da_cons ?_ ?_
  refine d_op r_sub ?_ ?_
  refine d_callB c_len rfl T.n_len PySem.boot_len ?_
  refine da_cons ?_ ?_
  exact dv 2
  exact da_nil
  exact d_int
  exact da_nil
  refine d_one ?_
  refine d_cmp (r_ne (h64 hr)) ?_ ?_ (nomark _)
  refine d_ix ?_ ?_
  exact dv 2
  exact dv 5
  exact d_gtup rfl T.t_NEVER
  exact da_nil
  refine ds_one ?_
  refine ds_ret ?_
  exact d_str
  exact ds_nil
  refine ds_cons ?_ ?_
  refine ds_lcV (i := 4) rfl nd rfl rfl (sw_true rfl rfl rfl (by decide +kernel)) ?_ (blkOk_by (own := [("number", 5)]) (N := N__back_fault) (sc := defScope s__back_fault) (by decide +kernel)) ?_ sg_name (gw_name (by decide)) ?_ ?_
  exact di_var 3
  exact (fun _ _ _ _ _ => pg_name (i := 5) nd rfl (by first | exact Or.inl rfl | exact Or.inr rfl))
  exact bt_nil
  refine be_of ?_
  intro _ _ _ _ _
  refine d_ix ?_ ?_
  exact dv 2
  exact dv 5
  refine ds_cons ?_ ?_
  refine ds_if ?_ ?_ ?_
  refine PWD.pt ?_
  refine dt_and ?_ ?_
  refine dt_cmp (r_eq (h64 hr)) ?_ ?_ (nomark _)
  refine d_ix ?_ ?_
  exact dv 1
  exact d_int
  exact d_str
  refine dt_and1 ?_
  refine dt_cmp (r_ne (h64 hr)) ?_ ?_ (nomark _)
  refine d_ix ?_ ?_
  refine d_ix ?_ ?_
  exact dv 4
  exact d_int
  exact d_int
  refine d_ix ?_ ?_
  refine d_ix ?_ ?_
  exact dv 4
  exact d_int
  exact d_int
  refine ds_one ?_
  refine ds_ret ?_
  exact d_str
  exact ds_nil
  refine ds_cons ?_ ?_
  refine ds_if ?_ ?_ ?_
  refine PWD.pt ?_
  refine dt_and ?_ ?_
  refine dt_cmp (r_eq (h64 hr)) ?_ ?_ (nomark _)
  refine d_ix ?_ ?_
  exact dv 1
  exact d_int
  exact d_str
  refine dt_and1 ?_
  refine dt_cmp (r_ne (h64 hr)) ?_ ?_ (nomark _)
  exact dv 4
  refine pf_e ?_
  refine Fr.pf_call cf__premise_ends (K12.K32.ar__premise_ends _) hr (by decide) rfl tk ?_
  refine da_cons ?_ ?_
  refine In.d_fld ?_
  refine d_ix ?_ ?_
  refine In.d_fld ?_
  exact dv 0
  refine d_ix ?_ ?_
  exact dv 1
  exact d_int
  exact da_nil
  refine ds_one ?_
  refine ds_ret ?_
  exact d_str
  exact ds_nil
  refine ds_one ?_
  refine ds_ret ?_
  exact d_non
end K32

namespace K32
open PySem PySem.Spec PyProof.Rows L2 Dl Ns Zs Rk K12 K12.K32
abbrev N__end_of_row : List Str := ["rules", "rule", "row", "ends"]
theorem sc__end_of_row : FnScope N__end_of_row ["rules", "rule", "row", "ends"] (defScope s__end_of_row) := ⟨rfl, rfl, rfl, by decide +kernel, rfl, by decide +kernel, by decide +kernel⟩
def d__end_of_row (K : PySem.W.Frag) (Ed : DEnv → Exc → Prop) : TSD := sSeq (sIf (dTest (dOp (fEq false) (dOp fIx (dVar 2) (dC (.int 0))) (dC (.str "self")))) (sRet (dTup (dCons (dC (.str "not after")) (dCons (dOp fIx (dVar 2) (dC (.int 1))) (dCons (dOp fIx (dVar 2) (dC (.int 1))) (dNil)))))) (sNext)) (sSeq (sIf (dTest (dOp (fEq false) (dOp fIx (dVar 2) (dC (.int 0))) (dC (.str "given")))) (sRet (dOp fIx (dF (Fr.fCall ((K12.K32.C__premise_ends K)) [] Ed (dCons (In.dFld K "premises" (dVar 1)) (dNil)))) (dOp fAdd (dOp fMul (dC (.int 2)) (dOp fIx (dVar 2) (dC (.int 1)))) (dOp fIx (dVar 2) (dC (.int 2)))))) (sNext)) (sSeq (sIf (dTest (dOp (fEq false) (dOp fIx (dVar 2) (dC (.int 0))) (dC (.str "through")))) (sRet (dTup (dCons (dC (.str "not after")) (dCons (dOp fIx (dOp fIx (dVar 3) (dOp fIx (dVar 2) (dC (.int 1)))) (dC (.int 1))) (dCons (dOp fIx (dOp fIx (dVar 3) (dOp fIx (dVar 2) (dC (.int 2)))) (dC (.int 2))) (dNil)))))) (sNext)) (sRet (In.dFld K "end" (dOp fIx (In.dFld K "rules" (dVar 0)) (dOp fIx (dVar 2) (dC (.int 1))))))))
theorem pd__end_of_row {P : Program} {w : World} {K : PySem.W.Frag} {mg : Str → Option Value} {base : Heap} {I : HI} {fa : Addr} {cdv : Value} {A : Around} {outer : List Env} {s : Shared} {H : Hp} {E : XK} {Ed : Exc → Prop} (T : Tf K mg) (cf__premise_ends : Fr.ClF P w K mg base I 2 "_premise_ends" 1 (K12.K32.C__premise_ends K) [])
    (hr : Room 2 (A.deeper (envOfC "_end_of_row" (defScope s__end_of_row) s.heap.objs.size fa cdv))) (tk : Takes (cxD P w K mg base N__end_of_row "_end_of_row" (defScope s__end_of_row) fa cdv A outer s H E) (gOf I Ed E).W) :
    PSsD (cxD P w K mg base N__end_of_row "_end_of_row" (defScope s__end_of_row) fa cdv A outer s H E) (gOf I Ed E) (defBody s__end_of_row) (d__end_of_row K (gOf I Ed E).Ed) :=
  by
  have nd := sc__end_of_row.nd
  refine ds_cons ?_ ?_
  refine ds_if ?_ ?_ ?_
  refine dt_cmp (r_eq (h64 hr)) ?_ ?_ (nomark _)
  refine d_ix ?_ ?_
  exact dv 2
  exact d_int
  exact d_str
  refine ds_one ?_
  refine ds_ret ?_
  refine d_tup ?_
  refine da_cons ?_ ?_
  exact Gd.d_gstr rfl T.s_NOT_AFTER
  refine da_cons ?_ ?_
  refine d_ix ?_ ?_
  exact dv 2
  exact d_int
  refine da_cons ?_ ?_
  refine d_ix ?_ ?_
  exact dv 2
  exact d_int
  exact da_nil
  exact ds_nil
  refine ds_cons ?_ ?_
  refine ds_if ?_ ?_ ?_
  refine dt_cmp (r_eq (h64 hr)) ?_ ?_ (nomark _)
  refine d_ix ?_ ?_
  exact dv 2
  exact d_int
  exact d_str
  refine ds_one ?_
  refine ds_ret ?_
  refine d_ix ?_ ?_
  refine pf_e ?_
  refine Fr.pf_call cf__premise_ends (K12.K32.ar__premise_ends _) hr (by decide) rfl tk ?_
  refine da_cons ?_ ?_
  refine In.d_fld ?_
  exact dv 1
  exact da_nil
  refine d_op r_add ?_ ?_
  refine d_op r_mul ?_ ?_
  exact d_int
  refine d_ix ?_ ?_
  exact dv 2
  exact d_int
  refine d_ix ?_ ?_
  exact dv 2
  exact d_int
  exact ds_nil
  refine ds_cons ?_ ?_
  refine ds_if ?_ ?_ ?_
  refine dt_cmp (r_eq (h64 hr)) ?_ ?_ (nomark _)
  refine d_ix ?_ ?_
  exact dv 2
  exact d_int
  exact d_str
  refine ds_one ?_
  refine ds_ret ?_
  refine d_tup ?_
  refine da_cons ?_ ?_
  exact Gd.d_gstr rfl T.s_NOT_AFTER
  refine da_cons ?_ ?_
  refine d_ix ?_ ?_
  refine d_ix ?_ ?_
  exact dv 3
  refine d_ix ?_ ?_
  exact dv 2
  exact d_int
  exact d_int
  refine da_cons ?_ ?_
  refine d_ix ?_ ?_
  refine d_ix ?_ ?_
  exact dv 3
  refine d_ix ?_ ?_
  exact dv 2
  exact d_int
  exact d_int
  exact da_nil
  exact ds_nil
  refine ds_one ?_
  refine ds_ret ?_
  refine In.d_fld ?_
  refine d_ix ?_ ?_
  refine In.d_fld ?_
  exact dv 0
  refine d_ix ?_ ?_
  exact dv 2
  exact d_int
end K32

namespace K12.K32
open PySem PySem.Spec PyProof.Rows L2 Dl Ns Zs Zz Rk Rd _root_.K32 K12
open K12.K00 (ix_D len_D)
theorem py_map {α : Type} (f : α → D) : ∀ A : List α, pyA (A.map f) = A.map fun a => (f a).py
  | [] => rfl
  | a :: A => by simp only [List.map_cons, pyA, py_map f A]
theorem eqv_map {α : Type} [DecidableEq α] (f : α → D) (h : ∀ a b, eqD (f a) (f b) = decide (a = b)) : ∀ A B : List α, PyData.eqvAll (A.map fun a => (f a).py) (B.map fun a => (f a).py) = decide (A = B)
  | [], [] => by simp [PyData.eqvAll]
  | [], y :: b => by simp [PyData.eqvAll]
  | x :: a, [] => by simp [PyData.eqvAll]
  | x :: a, y :: b => by
    simp only [List.map_cons, PyData.eqvAll, eqv_map f h a b]
    rw [show PyData.eqv (f x).py (f y).py = decide (x = y) from h x y]
    by_cases h : x = y <;> by_cases h2 : a = b <;> simp [h, h2]
theorem eqD_mapL {α : Type} [DecidableEq α] (f : α → D) (h : ∀ a b, eqD (f a) (f b) = decide (a = b)) (A B : List α) : eqD (.lst (A.map f)) (.lst (B.map f)) = decide (A = B) := by
  unfold eqD
  simp only [D.py, py_map, PyData.eqv, eqv_map f h]
theorem eqD_end (a b : Option Pr) : eqD (endD a) (endD b) = decide (a = b) := by
  rcases a with _ | ⟨x, y⟩ <;> rcases b with _ | ⟨z, u⟩
  · rw [decide_eq_true rfl]; exact eqD_refl (by decide +kernel)
  · rw [decide_eq_false (by simp)]
    unfold eqD
    simp only [endD, endX, D.py, pyA, PyData.eqv, PyData.eqvAll, Bool.and_false]
  · rw [decide_eq_false (by simp)]
    unfold eqD
    simp only [endD, endX, D.py, pyA, PyData.eqv, PyData.eqvAll, Bool.and_false]
  · unfold eqD
    simp only [endD, endX, D.py, pyA, PyData.eqv, PyData.eqvAll, Bool.and_true]
    by_cases h : x = z <;> by_cases h2 : y = u <;> simp [h, h2]
theorem okI_end (e : Option Pr) : okI (endD e) := by
  cases e with
  | none => exact ⟨by decide +kernel, by decide +kernel⟩
  | some p => exact ⟨by simp only [endD, endX, D.good, goodA, Bool.and_true]; decide +kernel, by show depA _ + 1 ≤ 50; simp only [endX, depA, D.dep]; decide⟩
theorem ok_end (e : Option Pr) : okD (endD e) := (okI_end e).ok
theorem eq_end {neg : Bool} {a b : Option Pr} {Q : D → Prop} (q : Q (.bl (xr neg (decide (a = b))))) : fEq neg (endD a) (endD b) Q := eq_d (ok_end a) (ok_end b) (by rw [eqD_end]; exact q)
theorem eqD_na (a b : Pr) : eqD (naD a) (naD b) = decide (a = b) := (eqD_end (some a) (some b)).trans (dec_iff ⟨fun h => Option.some.inj h, fun h => by rw [h]⟩)
theorem ok_naL (ps : List Pr) : okD (.lst (ps.map naD)) := okD_lst fun x hx => by obtain ⟨p, _, rfl⟩ := List.mem_map.mp hx; exact okI_end (some p)
theorem eq_nas {neg : Bool} {a b : List Pr} {Q : D → Prop} (q : Q (.bl (xr neg (decide (a = b))))) : fEq neg (.lst (a.map naD)) (.lst (b.map naD)) Q := eq_d (ok_naL a) (ok_naL b) (by rw [eqD_mapL naD eqD_na]; exact q)
theorem shAt_some {sh : Sh} {b : Int} {p : Pr} (h : shAt sh b = some p) : 0 ≤ b ∧ b < sh.length ∧ sh[b.toNat]? = some (some p) := by
  unfold shAt at h
  by_cases c : 0 ≤ b
  · rw [if_pos c] at h
    cases e : sh[b.toNat]? with
    | none => rw [e] at h; cases h
    | some o =>
      rw [e] at h
      have : b.toNat < sh.length := by
        obtain ⟨z, _⟩ := List.getElem?_eq_some_iff.mp e
        exact z
      exact ⟨c, by omega, by rw [show o = some p from h]⟩
  · rw [if_neg c] at h; cases h
theorem hold_at {sh : Sh} {b : Int} (h : (shAt sh b).isSome = true) : shAt sh b = some (hold sh b) := by
  obtain ⟨p, e⟩ := Option.isSome_iff_exists.mp h
  unfold hold
  rw [e]; rfl
theorem atI_sh {sh : Sh} {b : Int} {p : Pr} (h : shAt sh b = some p) : atI (sh.map endD) b = some (naD p) := by
  obtain ⟨h0, h1, h2⟩ := shAt_some h
  obtain ⟨k, rfl⟩ := Int.eq_ofNat_of_zero_le h0
  refine atI_nat ?_
  rw [List.getElem?_map, show sh[k]? = some (some p) from h2]
  rfl
theorem ix_sh {sh : Sh} {b : Int} {Q : D → Prop} (h : (shAt sh b).isSome = true) (q : Q (naD (hold sh b))) : fIx (.lst (sh.map endD)) (.int b) Q := rIxL (atI_sh (hold_at h)) q
theorem rule_at {K : PySem.W.Frag} {rs : List Rl} {k : Int} {Q : D → Prop} (h : 0 ≤ k ∧ k < (rs.length : Nat)) (q : Q (ruleI K (rs.getD k.toNat ([], none)))) : fIx (.tup (rs.map (ruleI K))) (.int k) Q := by
  obtain ⟨j, rfl⟩ := Int.eq_ofNat_of_zero_le h.1
  have lt : j < rs.length := by omega
  refine rIxT (d := ruleI K (rs.getD j ([], none))) (atI_nat ?_) q
  rw [List.getElem?_map, List.getElem?_eq_getElem lt, List.getD_eq_getElem?_getD, List.getElem?_eq_getElem lt]
  rfl
theorem rule_in {rs : List Rl} {k : Int} (h : 0 ≤ k ∧ k < (rs.length : Nat)) : rs.getD k.toNat ([], none) ∈ rs := by
  have lt : k.toNat < rs.length := by omega
  rw [List.getD_eq_getElem?_getD, List.getElem?_eq_getElem lt]
  exact List.getElem_mem lt
theorem ct__back_fault {K : PySem.W.Frag} (X : X32 K) {ds : List D} {Qd : D → Prop} {Ed : Exc → Prop} (h : C__back_fault K ds Qd Ed) : d__back_fault K (fun _ x => Ed x) (eK Qd) (startD N__back_fault ds) := by
  obtain ⟨n, rs, r, tp, pr, sh, rfl, A, po, few, q⟩ := h
  unfold d__back_fault
  (repeat decreasing_trivial_pre_omega)
  refine ⟨tp, pr, rfl, fun t => ?_⟩
  (repeat decreasing_trivial_pre_omega)
  have lb : (backs pr).length ≤ 8 := by
    cases pr with
    | rule k t bs => exact po.2.1
    | _ => show List.length _ ≤ 8; simp [backs]
  refine ⟨_, _, rfl, seq_sq _ _, by rw [List.length_map]; omega, ?_⟩
  refine lc_emb D.int (fun b => .bl (shAt sh b).isSome) (fun _ => true) (backs pr) [] (fun b hb S hS => ?_) ?_
  · (repeat decreasing_trivial_pre_omega)
    rw [List.length_map]
    refine wh_c rfl trivial trivial ?_
    rw [wh_b]
    refine ⟨_, rfl, ?_⟩
    by_cases c : 0 ≤ b ∧ b ≤ (sh.length : Nat) - 1
    · rw [decide_eq_true c, if_pos rfl]
      have lt : b.toNat < sh.length := by omega
      obtain ⟨j, rfl⟩ := Int.eq_ofNat_of_zero_le c.1
      have lt : j < sh.length := by omega
      (repeat decreasing_trivial_pre_omega)
      refine rIxL (d := endD sh[j]) (atI_nat (by rw [List.getElem?_map, List.getElem?_eq_getElem lt]; rfl)) ?_
      (repeat decreasing_trivial_pre_omega)
      refine eq_end (b := none) ?_
      have e : (shAt sh ((j : Nat) : Int)).isSome = xr true (decide (sh[j] = none)) := by
        have : shAt sh ((j : Nat) : Int) = sh[j] := by
          unfold shAt
          rw [if_pos c.1, Int.toNat_natCast, List.getElem?_eq_getElem lt]
          rfl
        rw [this]
        cases sh[j] <;> rfl
      rw [← e]
      exact ⟨rfl, hS⟩
    · rw [decide_eq_false c, if_neg (by decide)]
      have e : (shAt sh b).isSome = false := by
        cases h : shAt sh b with
        | none => rfl
        | some p => obtain ⟨h1, h2, _⟩ := shAt_some h; exact absurd ⟨h1, by omega⟩ c
      rw [e] at hS
      exact ⟨rfl, hS⟩
  · rw [fil_true, List.nil_append]
    (repeat decreasing_trivial_pre_omega)
    refine ⟨(backs pr).map fun b => (shAt sh b).isSome, by rw [List.map_map]; rfl, ?_⟩
    rw [List.all_map]
    unfold fault at q
    by_cases c : (backs pr).all (fun b => (shAt sh b).isSome) = true
    · rw [if_pos c] at q
      rw [show (backs pr).all (id ∘ fun b => (shAt sh b).isSome) = true from c]
      have hb : ∀ b ∈ backs pr, (shAt sh b).isSome = true := List.all_eq_true.mp c
      (repeat decreasing_trivial_pre_omega)
      refine ⟨_, _, rfl, seq_sq _ _, by rw [List.length_map]; omega, ?_⟩
      refine lc_emb D.int (fun b => naD (hold sh b)) (fun _ => true) (backs pr) [] (fun b hbm S hS => ?_) ?_
      · (repeat decreasing_trivial_pre_omega)
        exact ix_sh (hb b hbm) ⟨rfl, hS⟩
      · rw [fil_true, List.nil_append]
        (repeat decreasing_trivial_pre_omega)
        cases pr with
        | self x =>
          refine ix_sq (k := 0) rfl ?_
          (repeat decreasing_trivial_pre_omega)
          refine eqsF ?_ (by decide +kernel)
          (repeat decreasing_trivial_pre_omega)
          refine ix_sq (k := 0) rfl ?_
          (repeat decreasing_trivial_pre_omega)
          refine eqsF ?_ (by decide +kernel)
          (repeat decreasing_trivial_pre_omega)
          exact q
        | given x y =>
          refine ix_sq (k := 0) rfl ?_
          (repeat decreasing_trivial_pre_omega)
          refine eqsF ?_ (by decide +kernel)
          (repeat decreasing_trivial_pre_omega)
          refine ix_sq (k := 0) rfl ?_
          (repeat decreasing_trivial_pre_omega)
          refine eqsF ?_ (by decide +kernel)
          (repeat decreasing_trivial_pre_omega)
          exact q
        | through a b =>
          refine ix_sq (k := 0) rfl ?_
          (repeat decreasing_trivial_pre_omega)
          refine eqsT ?_ (by decide +kernel)
          (repeat decreasing_trivial_pre_omega)
          refine rIxL (d := naD (hold sh a)) rfl ?_
          (repeat decreasing_trivial_pre_omega)
          refine rIxT (d := .int (hold sh a).2) rfl ?_
          (repeat decreasing_trivial_pre_omega)
          refine rIxL (d := naD (hold sh b)) rfl ?_
          (repeat decreasing_trivial_pre_omega)
          refine rIxT (d := .int (hold sh b).1) rfl ?_
          (repeat decreasing_trivial_pre_omega)
          dsimp only at q
          by_cases c2 : (hold sh a).2 = (hold sh b).1
          · rw [if_pos c2] at q
            rw [decide_eq_true c2]
            (repeat decreasing_trivial_pre_omega)
            refine ix_sq (k := 0) rfl ?_
            (repeat decreasing_trivial_pre_omega)
            refine eqsF ?_ (by decide +kernel)
            (repeat decreasing_trivial_pre_omega)
            exact q
          · rw [if_neg c2] at q
            rw [decide_eq_false c2]
            (repeat decreasing_trivial_pre_omega)
            exact q
        | rule k t2 bs =>
          refine ix_sq (k := 0) rfl ?_
          (repeat decreasing_trivial_pre_omega)
          refine eqsF ?_ (by decide +kernel)
          (repeat decreasing_trivial_pre_omega)
          refine ix_sq (k := 0) rfl ?_
          (repeat decreasing_trivial_pre_omega)
          refine eqsT ?_ (by decide +kernel)
          (repeat decreasing_trivial_pre_omega)
          unfold Fr.fCall
          (repeat decreasing_trivial_pre_omega)
          refine fPrem X (r := rs.getD k.toNat ([], none)) (fun R hR => ?_) ?_
          · (repeat decreasing_trivial_pre_omega)
            refine fRules X (n := n) (rs := rs) (fun R hR => by (repeat decreasing_trivial_pre_omega); exact hR) ?_
            (repeat decreasing_trivial_pre_omega)
            refine ix_sq (k := 1) rfl ?_
            exact rule_at po.1 hR
          (repeat decreasing_trivial_pre_omega)
          have g := A.all _ (rule_in po.1)
          refine ⟨_, rfl, g.1, ?_⟩
          dsimp only at q
          have e : (List.map (fun b => naD (hold sh b)) (backs (.rule k t2 bs))) = (bs.map (hold sh)).map naD := by rw [List.map_map]; rfl
          rw [e]
          refine eq_nas ?_
          (repeat decreasing_trivial_pre_omega)
          by_cases c2 : bs.map (hold sh) = endsOf (rs.getD k.toNat ([], none)).1
          · rw [if_pos c2] at q
            rw [decide_eq_true c2]
            (repeat decreasing_trivial_pre_omega)
            exact q
          · rw [if_neg c2] at q
            rw [decide_eq_false c2]
            (repeat decreasing_trivial_pre_omega)
            exact q
    · rw [if_neg c] at q
      rw [show (backs pr).all (id ∘ fun b => (shAt sh b).isSome) = false from Bool.eq_false_iff.mpr c]
      (repeat decreasing_trivial_pre_omega)
      exact q
theorem endsOf_at {ps : List Pr} {a b : Int} (ha : 0 ≤ a ∧ a < (ps.length : Nat)) (hb : 0 ≤ b ∧ b < 2) : (2 * a + b).toNat < (endsOf ps).length := by
  have e : (endsOf ps).length = 2 * ps.length := by
    clear ha
    induction ps with
    | nil => rfl
    | cons p ps ih =>
      show ([p, (p.2, p.1)] ++ endsOf ps).length = _
      rw [List.length_append, ih, List.length_cons]
      simp only [List.length_cons, List.length_nil]; omega
  rw [e]; omega
theorem fault_none {rs : List Rl} {sh : Sh} {pr : PR} (h : fault rs sh pr = none) : ∀ b ∈ backs pr, (shAt sh b).isSome = true := by
  unfold fault at h
  by_cases c : (backs pr).all (fun b => (shAt sh b).isSome) = true
  · exact List.all_eq_true.mp c
  · rw [if_neg c] at h; cases h
theorem ct__end_of_row {K : PySem.W.Frag} (X : X32 K) {ds : List D} {Qd : D → Prop} {Ed : Exc → Prop} (h : C__end_of_row K ds Qd Ed) : d__end_of_row K (fun _ x => Ed x) (eK Qd) (startD N__end_of_row ds) := by
  obtain ⟨n, rs, r, tp, pr, sh, rfl, A, po, nf, q⟩ := h
  unfold d__end_of_row
  (repeat decreasing_trivial_pre_omega)
  have hb := fault_none nf
  cases pr with
  | self x =>
    refine ix_sq (k := 0) rfl ?_
    (repeat decreasing_trivial_pre_omega)
    refine eqsT ?_ (by decide +kernel)
    (repeat decreasing_trivial_pre_omega)
    refine ix_sq (k := 1) rfl ?_
    (repeat decreasing_trivial_pre_omega)
    refine ix_sq (k := 1) rfl ?_
    (repeat decreasing_trivial_pre_omega)
    exact q
  | given a b =>
    refine ix_sq (k := 0) rfl ?_
    (repeat decreasing_trivial_pre_omega)
    refine eqsF ?_ (by decide +kernel)
    (repeat decreasing_trivial_pre_omega)
    refine ix_sq (k := 0) rfl ?_
    (repeat decreasing_trivial_pre_omega)
    refine eqsT ?_ (by decide +kernel)
    (repeat decreasing_trivial_pre_omega)
    unfold Fr.fCall
    (repeat decreasing_trivial_pre_omega)
    refine fPrem X (r := r) (fun R hR => by (repeat decreasing_trivial_pre_omega); exact hR) ?_
    (repeat decreasing_trivial_pre_omega)
    refine ⟨_, rfl, A.one.1, ?_⟩
    (repeat decreasing_trivial_pre_omega)
    refine ix_sq (k := 1) rfl ?_
    (repeat decreasing_trivial_pre_omega)
    refine rFI (K00.m40 (by decide) (by decide) po.1.1 (by have := A.one.1; have := po.1.2; omega)) ?_
    (repeat decreasing_trivial_pre_omega)
    refine ix_sq (k := 2) rfl ?_
    (repeat decreasing_trivial_pre_omega)
    have lt := endsOf_at po.1 po.2
    have nn : 0 ≤ 2 * a + b := by have := po.1.1; have := po.2.1; omega
    refine rIxL (d := naD ((endsOf r.1).getD (2 * a + b).toNat (0, 0))) ?_ q
    obtain ⟨j, e⟩ := Int.eq_ofNat_of_zero_le nn
    rw [e] at lt ⊢
    refine atI_nat ?_
    have lt : j < (endsOf r.1).length := lt
    rw [List.getElem?_map, Int.toNat_natCast, List.getD_eq_getElem?_getD, List.getElem?_eq_getElem lt]
    rfl
  | through a b =>
    have ha := hb a List.mem_cons_self
    have hb := hb b (List.mem_cons_of_mem _ List.mem_cons_self)
    refine ix_sq (k := 0) rfl ?_
    (repeat decreasing_trivial_pre_omega)
    refine eqsF ?_ (by decide +kernel)
    (repeat decreasing_trivial_pre_omega)
    refine ix_sq (k := 0) rfl ?_
    (repeat decreasing_trivial_pre_omega)
    refine eqsF ?_ (by decide +kernel)
    (repeat decreasing_trivial_pre_omega)
    refine ix_sq (k := 0) rfl ?_
    (repeat decreasing_trivial_pre_omega)
    refine eqsT ?_ (by decide +kernel)
    (repeat decreasing_trivial_pre_omega)
    refine ix_sq (k := 1) rfl ?_
    refine ix_sh ha ?_
    (repeat decreasing_trivial_pre_omega)
    refine rIxT (d := .int (hold sh a).1) rfl ?_
    (repeat decreasing_trivial_pre_omega)
    refine ix_sq (k := 2) rfl ?_
    refine ix_sh hb ?_
    (repeat decreasing_trivial_pre_omega)
    refine rIxT (d := .int (hold sh b).2) rfl ?_
    (repeat decreasing_trivial_pre_omega)
    exact q
  | rule k t bs =>
    refine ix_sq (k := 0) rfl ?_
    (repeat decreasing_trivial_pre_omega)
    refine eqsF ?_ (by decide +kernel)
    (repeat decreasing_trivial_pre_omega)
    refine ix_sq (k := 0) rfl ?_
    (repeat decreasing_trivial_pre_omega)
    refine eqsF ?_ (by decide +kernel)
    (repeat decreasing_trivial_pre_omega)
    refine ix_sq (k := 0) rfl ?_
    (repeat decreasing_trivial_pre_omega)
    refine eqsF ?_ (by decide +kernel)
    (repeat decreasing_trivial_pre_omega)
    refine fEnd X (r := rs.getD k.toNat ([], none)) (fun R hR => ?_) q
    (repeat decreasing_trivial_pre_omega)
    refine fRules X (n := n) (rs := rs) (fun R hR => by (repeat decreasing_trivial_pre_omega); exact hR) ?_
    (repeat decreasing_trivial_pre_omega)
    refine ix_sq (k := 1) rfl ?_
    exact rule_at po.1 hR
end K12.K32

namespace K32
open PySem PySem.Spec PyProof.Rows L2 Dl Ns Zs Rk K12 K12.K32
abbrev N_steps_fault : List Str := ["rules", "rule", "steps", "ends", "row", "fault"]
theorem sc_steps_fault : FnScope N_steps_fault ["rules", "rule", "steps"] (defScope s_steps_fault) := ⟨rfl, rfl, rfl, by decide +kernel, rfl, by decide +kernel, by decide +kernel⟩
def d_steps_fault (K : PySem.W.Frag) (Ed : DEnv → Exc → Prop) : TSD := sSeq (sDrop (dCall ((K12.K32.C_check_rule_dates K)) [] Ed (dCons (dVar 0) (dCons (dVar 1) (dNil))))) (sSeq (sIf (dOr (dNot (dB (dCB bIsi (dCons (dVar 2) (dCons (dTup (dCons (dC (.ty "list")) (dCons (dC (.ty "tuple")) (dNil)))) (dNil)))))) (dNot (dTest (Bt.dChain fLe fLe (dC (.int 1)) (dCB bLen (dCons (dVar 2) (dNil))) (dC (.int 1000)))))) (sRet (dC (.str "steps"))) (sNext)) (sSeq (sNew 3 (fLst (dNil))) (sSeq (sFor (idVar 2) (gdName 4) (sSeq (sIf (dNot (dB (dCall ((K12.K32.C__is_row K)) [] Ed (dCons (dVar 0) (dCons (dVar 1) (dCons (dVar 4) (dNil))))))) (sRet (dC (.str "row"))) (sNext)) (sSeq (sAsg 5 (dCall ((K12.K32.C__back_fault K)) [] Ed (dCons (dVar 0) (dCons (dVar 4) (dCons (dVar 3) (dNil)))))) (sSeq (sIf (dTest (dOp (fIs true) (dVar 5) (dC .non))) (sRet (dVar 5)) (sNext)) (sApp 3 (dCall ((K12.K32.C__end_of_row K)) [] Ed (dCons (dVar 0) (dCons (dVar 1) (dCons (dVar 4) (dCons (dVar 3) (dNil))))))))))) (sRet (dIf (dTest (dOp (fIn false) (dOp fIx (dVar 3) (dUn (fUn fun i => -i) (dC (.int 1)))) (dTup (dCons (In.dFld K "end" (dVar 1)) (dCons (dC (.tup ((["never"] : List Str).map D.str))) (dNil)))))) (dC .non) (dC (.str "end")))))))
theorem pd_steps_fault {P : Program} {w : World} {K : PySem.W.Frag} {mg : Str → Option Value} {base : Heap} {I : HI} {fa : Addr} {cdv : Value} {A : Around} {outer : List Env} {s : Shared} {H : Hp} {E : XK} {Ed : Exc → Prop} (T : Tf K mg) (c__back_fault : Cl P w K mg base I 3 "_back_fault" 3 (K12.K32.C__back_fault K) []) (c__end_of_row : Cl P w K mg base I 3 "_end_of_row" 4 (K12.K32.C__end_of_row K) []) (c__is_row : Cl P w K mg base I 4 "_is_row" 3 (K12.K32.C__is_row K) []) (c_check_rule_dates : Cl P w K mg base I 4 "check_rule_dates" 2 (K12.K32.C_check_rule_dates K) [])
    (hr : Room 4 (A.deeper (envOfC "steps_fault" (defScope s_steps_fault) s.heap.objs.size fa cdv))) (tk : Takes (cxD P w K mg base N_steps_fault "steps_fault" (defScope s_steps_fault) fa cdv A outer s H E) (gOf I Ed E).W) :
    PSsD (cxD P w K mg base N_steps_fault "steps_fault" (defScope s_steps_fault) fa cdv A outer s H E) (gOf I Ed E) (defBody s_steps_fault) (d_steps_fault K (gOf I Ed E).Ed) :=
  by
  have nd := sc_steps_fault.nd
  refine ds_cons ?_ ?_
  refine ds_expr ?_
  refine d_callC c_check_rule_dates (K12.K32.ar_check_rule_dates _) hr (by decide) rfl tk ?_
  refine da_cons ?_ ?_
  exact dv 0
  refine da_cons ?_ ?_
  exact dv 1
  exact da_nil
  refine ds_cons ?_ ?_
  refine ds_if ?_ ?_ ?_
  refine PWD.pt ?_
  refine dt_or ?_ ?_
  refine dt_not ?_
  refine dt_val ?_
  refine d_callB c_isi rfl T.n_isinstance boot_isinstance ?_
  refine da_cons ?_ ?_
  exact dv 2
  refine da_cons ?_ ?_
  refine d_tup ?_
  refine da_cons ?_ ?_
  exact d_ty rfl T.n_list boot_list
  refine da_cons ?_ ?_
  exact d_ty rfl T.n_tuple boot_tuple
  exact da_nil
  exact da_nil
  refine dt_or1 ?_
  refine dt_not ?_
  refine Bt.dt_chain r_le r_le ?_ ?_ ?_
  exact d_int
  refine d_callB c_len rfl T.n_len PySem.boot_len ?_
  refine da_cons ?_ ?_
  exact dv 2
  exact da_nil
  exact d_gint rfl T.i_MOST_STEPS
  refine ds_one ?_
  refine ds_ret ?_
  exact d_str
  exact ds_nil
  refine ds_cons ?_ ?_
  refine ds_new (i := 3) ?_ ?_ ?_ ?_
  exact nd
  exact rfl
  (first | exact Or.inl rfl | exact Or.inr rfl)
  refine f_lst ?_
  exact da_nil
  refine ds_cons ?_ ?_
  refine ds_for ?_ ?_ ?_ ?_ ?_
  exact passes_of rfl
  exact rfl
  exact di_var 2
  exact dg_name (i := 4) nd rfl (by first | exact Or.inl rfl | exact Or.inr rfl)
  refine ds_cons ?_ ?_
  refine ds_if ?_ ?_ ?_
  refine dt_not ?_
  refine dt_val ?_
  refine d_callC c__is_row (K12.K32.ar__is_row _) hr (by decide) rfl tk ?_
  refine da_cons ?_ ?_
  exact dv 0
  refine da_cons ?_ ?_
  exact dv 1
  refine da_cons ?_ ?_
  exact dv 4
  exact da_nil
  refine ds_one ?_
  refine ds_ret ?_
  exact d_str
  exact ds_nil
  refine ds_cons ?_ ?_
  refine ds_set (i := 5) ?_ ?_ ?_ ?_
  exact nd
  exact rfl
  (first | exact Or.inl rfl | exact Or.inr rfl)
  refine d_callC c__back_fault (K12.K32.ar__back_fault _) hr (by decide) rfl tk ?_
  refine da_cons ?_ ?_
  exact dv 0
  refine da_cons ?_ ?_
  exact dv 4
  refine da_cons ?_ ?_
  exact dv 3
  exact da_nil
  refine ds_cons ?_ ?_
  refine ds_if ?_ ?_ ?_
  refine dt_cmp r_isnot ?_ ?_ (nomark _)
  exact dv 5
  exact d_non
  refine ds_one ?_
  refine ds_ret ?_
  exact dv 5
  exact ds_nil
  refine ds_one ?_
  refine ds_app (i := 3) ?_ ?_ ?_
  exact rfl
  (first | exact Or.inl rfl | exact Or.inr (Or.inl rfl))
  refine d_callC c__end_of_row (K12.K32.ar__end_of_row _) hr (by decide) rfl tk ?_
  refine da_consL ?_ ?_ ?_
  exact dv 0
  refine da_consL ?_ ?_ ?_
  exact dv 1
  refine da_consL ?_ ?_ ?_
  exact dv 4
  refine da_consL ?_ ?_ ?_
  exact dv 3
  exact da_nil
  exact rfl
  exact rfl
  exact rfl
  exact rfl
  refine ds_one ?_
  refine ds_ret ?_
  refine d_ifExp ?_ ?_ ?_
  refine dt_cmp (r_in (h65 hr)) ?_ ?_ (by with_unfolding_all rfl)
  refine d_ix ?_ ?_
  exact dv 3
  refine d_neg ?_
  exact d_int
  refine d_tup ?_
  refine da_cons ?_ ?_
  refine In.d_fld ?_
  exact dv 1
  refine da_cons ?_ ?_
  exact d_gtup rfl T.t_NEVER
  exact da_nil
  exact d_non
  exact d_str
end K32

namespace K12.K32
open PySem PySem.Spec PyProof.Rows L2 Dl Ns Zs Zz Rk Rd _root_.K32 K12
open K12.K00 (ix_D len_D)
theorem atIs_eq : ∀ {bs : List At} {ns : List Int}, atIs bs = some ns → (∀ b ∈ bs, AtOk b) → bs.map atD = ns.map D.int ∧ ns.length = bs.length ∧ ∀ n ∈ ns, -(100000) ≤ n ∧ n ≤ 100000
  | [], ns, h, _ => by
    cases (Option.some.inj h)
    exact ⟨rfl, rfl, fun n hn => by cases hn⟩
  | .i x :: r, ns, h, ok => by
    have h : (atIs r).map (x :: ·) = some ns := h
    cases e : atIs r with
    | none => rw [e] at h; cases h
    | some ms =>
      rw [e] at h
      cases (Option.some.inj h)
      obtain ⟨h1, h2, h3⟩ := atIs_eq e fun b hb => ok b (List.mem_cons_of_mem _ hb)
      refine ⟨?_, by show ms.length + 1 = r.length + 1; rw [h2], fun n hn => ?_⟩
      · show D.int x :: r.map atD = D.int x :: ms.map D.int
        rw [h1]
      · rcases List.mem_cons.mp hn with rfl | hn
        · exact ok (.i n) List.mem_cons_self
        · exact h3 n hn
  | .b _ :: _, _, h, _ => by cases h
  | .n :: _, _, h, _ => by cases h
theorem parse_ok {n m k : Int} {row : Row} {pr : PR} (h : parse n m k row = some pr) (ok : RowOk row) : (∃ tp, rowD row = sq tp (prw pr)) ∧ PROk n m k pr := by
  unfold parse at h
  split at h
  · split at h
    · cases h
      rename_i c
      exact ⟨⟨_, rfl⟩, c⟩
    · cases h
  · split at h
    · cases h
      rename_i c
      exact ⟨⟨_, rfl⟩, c⟩
    · cases h
  · cases h
    rename_i tp a b
    exact ⟨⟨_, rfl⟩, ok.2 (.a (.i a)) List.mem_cons_self, ok.2 (.a (.i b)) (List.mem_cons_of_mem _ List.mem_cons_self)⟩
  · split at h
    · rename_i t a tp bs c
      cases e : atIs bs with
      | none => rw [e] at h; cases h
      | some ns =>
        rw [e] at h
        cases (Option.some.inj h)
        have o := ok.2 (.l tp bs) (List.mem_cons_of_mem _ List.mem_cons_self)
        obtain ⟨h1, h2, h3⟩ := atIs_eq e o.2
        refine ⟨⟨t, ?_⟩, c, by rw [h2]; exact o.1, h3⟩
        show sq t [_, _, sq tp (bs.map atD)] = _
        rw [h1]; rfl
    · cases h
  · cases h
theorem nl_w (o : Option Str) : (wD o).noLst = true := by cases o <;> rfl
abbrev fB (K : PySem.W.Frag) (Ed : Exc → Prop) : TSD := (sSeq (sIf (dNot (dB (dCall ((K12.K32.C__is_row K)) [] (fun _ x => Ed x) (dCons (dVar 0) (dCons (dVar 1) (dCons (dVar 4) (dNil))))))) (sRet (dC (.str "row"))) (sNext)) (sSeq (sAsg 5 (dCall ((K12.K32.C__back_fault K)) [] (fun _ x => Ed x) (dCons (dVar 0) (dCons (dVar 4) (dCons (dVar 3) (dNil)))))) (sSeq (sIf (dTest (dOp (fIs true) (dVar 5) (dC .non))) (sRet (dVar 5)) (sNext)) (sApp 3 (dCall ((K12.K32.C__end_of_row K)) [] (fun _ x => Ed x) (dCons (dVar 0) (dCons (dVar 1) (dCons (dVar 4) (dCons (dVar 3) (dNil))))))))))
theorem fault_walk {K : PySem.W.Frag} {Ed : Exc → Prop} {n : Int} {rs : List Rl} {r : Rl} (A : Ask n rs r) {st : D} {Dd : DEnds} : ∀ (rows : List Row) (sh : Sh) (s4 s5 : Slot), sh.length + rows.length ≤ 1000 → (∀ row ∈ rows, RowOk row) →
    (match run n rs r sh rows with | .inl w => Dd.rt (.str w) | .inr sh2 => sh2.length = sh.length + rows.length → ∀ s4 s5, Dd.nx [.val (rulesI K n rs), .val (ruleI K r), .val st, .own (sh2.map endD), s4, s5]) →
    forD (gdName 4) (fB K Ed) Dd (rows.map rowD) [.val (rulesI K n rs), .val (ruleI K r), .val st, .own (sh.map endD), s4, s5]
  | [], sh, s4, s5, _, _, q => q rfl s4 s5
  | row :: rows, sh, s4, s5, few, ok, q => by
    show sSeq _ _ _ [.val (rulesI K n rs), .val (ruleI K r), .val st, .own (sh.map endD), .val (rowD row), s5]
    have ro := ok row List.mem_cons_self
    rw [List.length_cons] at few
    (repeat decreasing_trivial_pre_omega)
    refine ⟨n, rs, r, row, rfl, A, ro, ?_⟩
    (repeat decreasing_trivial_pre_omega)
    cases e : parse n rs.length r.1.length row with
    | none =>
      have er : run n rs r sh (row :: rows) = .inl "row" := by unfold run; rw [e]
      rw [er] at q
      (repeat decreasing_trivial_pre_omega)
      exact q
    | some pr =>
      obtain ⟨⟨tp, eR⟩, po⟩ := parse_ok e ro
      rw [eR, show (some pr).isSome = true from rfl]
      (repeat decreasing_trivial_pre_omega)
      refine ⟨n, rs, r, tp, pr, sh, rfl, A, po, by omega, ?_⟩
      refine ⟨.inr (nl_w _), ?_⟩
      (repeat decreasing_trivial_pre_omega)
      cases ef : fault rs sh pr with
      | some w =>
        have er : run n rs r sh (row :: rows) = .inl w := by unfold run; rw [e]; dsimp only; rw [ef]
        rw [er] at q
        refine ⟨true, rfl, ?_⟩
        rw [if_pos rfl]
        (repeat decreasing_trivial_pre_omega)
        exact q
      | none =>
        have er : run n rs r sh (row :: rows) = run n rs r (sh ++ [endOf rs r sh pr]) rows := by
          rw [run, e]; dsimp only; rw [ef]
        rw [er] at q
        refine ⟨false, rfl, ?_⟩
        rw [if_neg (by decide)]
        (repeat decreasing_trivial_pre_omega)
        refine rApp rfl ?_
        (repeat decreasing_trivial_pre_omega)
        refine ⟨n, rs, r, tp, pr, sh, rfl, A, po, ef, ?_⟩
        refine ⟨nol_end _, by rw [List.length_map]; have : (1000 : Nat) < sizeLine := (by decide); omega, ?_⟩
        have z := fault_walk (K := K) (Ed := Ed) A (st := st) (Dd := Dd) rows (sh ++ [endOf rs r sh pr]) (.val (sq tp (prw pr))) (.val (wD none)) (by rw [List.length_append, List.length_singleton]; omega) (fun x hx => ok x (List.mem_cons_of_mem _ hx)) ?_
        · rw [List.map_append] at z
          exact z
        · cases ez : run n rs r (sh ++ [endOf rs r sh pr]) rows with
          | inl w => rw [ez] at q; exact q
          | inr sh2 =>
            rw [ez] at q
            dsimp only at q ⊢
            rw [List.length_append, List.length_singleton]
            rw [List.length_cons] at q
            exact fun l => q (by omega)
theorem atI_last {α : Type} {xs : List α} {x : α} (h : xs.getLast? = some x) : L2.atI xs (-1) = some x := by
  have ne : xs ≠ [] := fun z => by rw [z] at h; cases h
  have hl : 0 < xs.length := List.length_pos_iff.mpr ne
  unfold L2.atI L2.ixN
  rw [if_neg (by decide), if_pos (by omega)]
  rw [List.getLast?_eq_getElem?] at h
  show xs[((xs.length : Int) + -1).toNat]? = some x
  rw [show ((xs.length : Int) + -1).toNat = xs.length - 1 by omega]
  exact h
theorem ct_steps_fault {K : PySem.W.Frag} (X : X32 K) {ds : List D} {Qd : D → Prop} {Ed : Exc → Prop} (h : C_steps_fault K ds Qd Ed) : d_steps_fault K (fun _ x => Ed x) (eK Qd) (startD N_steps_fault ds) := by
  obtain ⟨n, rs, r, st, rfl, A, so, q⟩ := h
  unfold d_steps_fault
  (repeat decreasing_trivial_pre_omega)
  refine ⟨n, rs, r, rfl, A.hi, A.one, ?_⟩
  (repeat decreasing_trivial_pre_omega)
  cases st with
  | inl d =>
    obtain ⟨t, ht⟩ := Option.isSome_iff_exists.mp so.1
    refine isi_any ht ?_
    rw [show seqOf (stepD (.inl d)) = none from so.2]
    (repeat decreasing_trivial_pre_omega)
    exact q
  | inr p =>
    obtain ⟨tp, rows⟩ := p
    refine isi_sq (l := rows.map rowD) ?_
    (repeat decreasing_trivial_pre_omega)
    have q : Qd (wD (wordOf n rs r rows)) := q
    have c10 : ∀ {R : Bool → Prop}, R (decide (1 ≤ (rows.length : Int) ∧ (rows.length : Int) ≤ 1000)) → dTest (Bt.dChain fLe fLe (dC (.int 1)) (dCB bLen (dCons (dVar 2) (dNil))) (dC (.int 1000))) (startD N_steps_fault [rulesI K n rs, ruleI K r, stepD (.inr (tp, rows))]) R := fun {R} hR => by
      show dVar 2 _ _
      (repeat decreasing_trivial_pre_omega)
      refine len_sq ?_
      rw [List.length_map]
      refine ⟨_, _, rfl, rfl, decide (1 ≤ (rows.length : Int)), rfl, ?_⟩
      by_cases c : 1 ≤ (rows.length : Int)
      · rw [decide_eq_true c, if_pos rfl]
        refine ⟨_, _, rfl, rfl, _, rfl, ?_⟩
        rw [dec_iff (show (1 ≤ (rows.length : Int) ∧ (rows.length : Int) ≤ 1000) ↔ (rows.length : Int) ≤ 1000 from ⟨fun z => z.2, fun z => ⟨c, z⟩⟩)] at hR
        exact hR
      · rw [decide_eq_false c, if_neg (by decide)]
        rw [decide_eq_false (fun z => c z.1)] at hR
        exact ⟨_, rfl, hR⟩
    refine c10 ?_
    unfold wordOf at q
    by_cases c : rows = [] ∨ 1000 < rows.length
    · rw [if_pos c] at q
      rw [decide_eq_false (by
        rintro ⟨z1, z2⟩
        rcases c with c | c
        · rw [c] at z1; exact absurd z1 (by decide)
        · omega)]
      (repeat decreasing_trivial_pre_omega)
      exact q
    · rw [if_neg c] at q
      have pos : 0 < rows.length := List.length_pos_iff.mpr fun z => c (.inl z)
      have le : rows.length ≤ 1000 := Nat.le_of_not_lt fun z => c (.inr z)
      rw [decide_eq_true ⟨by omega, by omega⟩]
      (repeat decreasing_trivial_pre_omega)
      refine ⟨_, _, rfl, seq_sq _ _, ?_⟩
      refine fault_walk A rows [] _ _ (by rw [List.length_nil]; omega) so.2 ?_
      cases er : run n rs r [] rows with
      | inl w => rw [er] at q; exact q
      | inr sh =>
        rw [er] at q
        dsimp only at q ⊢
        intro hl s4 s5
        rw [List.length_nil, Nat.zero_add] at hl
        have ne : sh ≠ [] := fun z => by rw [z] at hl; rw [← hl] at pos; exact absurd pos (by decide)
        obtain ⟨e, he⟩ : ∃ e, sh.getLast? = some e := by
          cases h : sh.getLast? with
          | none => exact absurd (List.getLast?_eq_none_iff.mp h) ne
          | some e => exact ⟨e, rfl⟩
        rw [he] at q
        (repeat decreasing_trivial_pre_omega)
        refine rIxL (d := endD e) (atI_last (by rw [List.getLast?_map, he]; rfl)) ?_
        (repeat decreasing_trivial_pre_omega)
        refine fEnd X (r := r) (fun R hR => by (repeat decreasing_trivial_pre_omega); exact hR) ?_
        (repeat decreasing_trivial_pre_omega)
        have ea : anyD [endD r.2, endD none] (endD e) = (decide (r.2 = e) || decide (none = e)) := by
          show (eqD (endD r.2) (endD e) || (eqD (endD none) (endD e) || false)) = _
          rw [eqD_end, eqD_end, Bool.or_false]
        refine in_tup (ys := [endD r.2, endD none]) (ok_end e) (okD_tup fun x hx => ?_) ?_
        · rcases List.mem_cons.mp hx with rfl | hx
          · exact okI_end _
          · rw [List.mem_singleton.mp hx]; exact okI_end _
        rw [ea]
        cases e with
        | none =>
          rw [show decide ((none : Option Pr) = none) = true from rfl, Bool.or_true]
          (repeat decreasing_trivial_pre_omega)
          exact q
        | some p =>
          rw [show decide ((none : Option Pr) = some p) = false from rfl, Bool.or_false]
          dsimp only at q
          by_cases c2 : r.2 = some p
          · rw [if_pos c2] at q
            rw [decide_eq_true c2]
            (repeat decreasing_trivial_pre_omega)
            exact q
          · rw [if_neg c2] at q
            rw [decide_eq_false c2]
            (repeat decreasing_trivial_pre_omega)
            exact q
end K12.K32

namespace K32
open PySem PySem.Spec PyProof.Rows L2 Dl Ns Zs Rk K12 K12.K32
abbrev N__law_steps_word : List Str := ["_law_n", "_law_rules", "_law_rule_here", "_law_steps", "_law_shown", "_law_row", "_law_backs", "_law_back", "_law_x", "_law_y", "_law_due", "_law_end"]
theorem sc__law_steps_word : FnScope N__law_steps_word ["_law_n", "_law_rules", "_law_rule_here", "_law_steps"] (defScope s__law_steps_word) := ⟨rfl, rfl, rfl, by decide +kernel, rfl, by decide +kernel, by decide +kernel⟩
def d__law_steps_word (K : PySem.W.Frag) (Ed : DEnv → Exc → Prop) : TSD := sSeq (sIf (dOr (dNot (dB (dCB bIsi (dCons (dVar 3) (dCons (dTup (dCons (dC (.ty "list")) (dCons (dC (.ty "tuple")) (dNil)))) (dNil)))))) (dNot (dTest (Bt.dChain fLe fLe (dC (.int 1)) (dCB bLen (dCons (dVar 3) (dNil))) (dC (.int 1000)))))) (sRet (dC (.str "steps"))) (sNext)) (sSeq (sNew 4 (fLst (dNil))) (sSeq (sFor (idVar 3) (gdName 5) (sSeq (sIf (dNot (dB (dCall ((K12.K32.C__law_row_form K)) [] Ed (dCons (dVar 0) (dCons (dVar 1) (dCons (dVar 2) (dCons (dVar 5) (dNil)))))))) (sRet (dC (.str "row"))) (sNext)) (sSeq (sNew 6 (fLst (dNil))) (sSeq (sIf (dTest (dOp (fEq false) (dOp fIx (dVar 5) (dC (.int 0))) (dC (.str "through")))) (sNew 6 (fLst (dCons (dOp fIx (dVar 5) (dC (.int 1))) (dCons (dOp fIx (dVar 5) (dC (.int 2))) (dNil))))) (sNext)) (sSeq (sIf (dTest (dOp (fEq false) (dOp fIx (dVar 5) (dC (.int 0))) (dC (.str "rule")))) (sNew 6 (fListOf (dOp fIx (dVar 5) (dC (.int 2))))) (sNext)) (sSeq (sFrz 6 (sFor (idVar 6) (gdName 7) (sIf (dOr (dNot (dTest (Bt.dChain fLe fLt (dC (.int 0)) (dVar 7) (dCB bLen (dCons (dVar 4) (dNil)))))) (dTest (dOp (fEq false) (dCB bLen (dCons (dOp fIx (dVar 4) (dVar 7)) (dNil))) (dC (.int 1))))) (sRet (dC (.str "back"))) (sNext)))) (sIf (dTest (dOp (fEq false) (dOp fIx (dVar 5) (dC (.int 0))) (dC (.str "self")))) (sApp 4 (dTup (dCons (dOp fIx (dVar 5) (dC (.int 1))) (dCons (dOp fIx (dVar 5) (dC (.int 1))) (dNil))))) (sIf (dTest (dOp (fEq false) (dOp fIx (dVar 5) (dC (.int 0))) (dC (.str "given")))) (sSeq (sAsgG (dOp fIx (dOp fIx (dVar 2) (dC (.int 0))) (dOp fIx (dVar 5) (dC (.int 1)))) (Fn.gdSeq [8, 9])) (sApp 4 (dIf (dTest (dOp (fEq false) (dOp fIx (dVar 5) (dC (.int 2))) (dC (.int 0)))) (dTup (dCons (dVar 8) (dCons (dVar 9) (dNil)))) (dTup (dCons (dVar 9) (dCons (dVar 8) (dNil))))))) (sIf (dTest (dOp (fEq false) (dOp fIx (dVar 5) (dC (.int 0))) (dC (.str "through")))) (sSeq (sIf (dTest (dOp (fEq true) (dOp fIx (dOp fIx (dVar 4) (dOp fIx (dVar 5) (dC (.int 1)))) (dC (.int 1))) (dOp fIx (dOp fIx (dVar 4) (dOp fIx (dVar 5) (dC (.int 2)))) (dC (.int 0))))) (sRet (dC (.str "through"))) (sNext)) (sApp 4 (dTup (dCons (dOp fIx (dOp fIx (dVar 4) (dOp fIx (dVar 5) (dC (.int 1)))) (dC (.int 0))) (dCons (dOp fIx (dOp fIx (dVar 4) (dOp fIx (dVar 5) (dC (.int 2)))) (dC (.int 1))) (dNil)))))) (sSeq (sNew 10 (fLst (dNil))) (sSeq (sFor (idSeq (dOp fIx (dOp fIx (dVar 1) (dOp fIx (dVar 5) (dC (.int 1)))) (dC (.int 0)))) (gdTup [8, 9]) (sNew 10 (Nw.fCatF (dVar 10) (dLst (dCons (dTup (dCons (dVar 8) (dCons (dVar 9) (dNil)))) (dCons (dTup (dCons (dVar 9) (dCons (dVar 8) (dNil)))) (dNil))))))) (sSeq (sIf (dTest (dOp (fEq true) (dF (fLc (idVar 6) (gdName 7) (dYes) (dOp fIx (dVar 4) (dVar 7)) (([("_law_back", 7)] : List (Str × Nat)).map (·.2)))) (dVar 10))) (sRet (dC (.str "premise"))) (sNext)) (sSeq (sAsg 11 (dOp fIx (dOp fIx (dVar 1) (dOp fIx (dVar 5) (dC (.int 1)))) (dC (.int 1)))) (sApp 4 (dIf (dTest (dOp (fEq false) (dCB bLen (dCons (dVar 11) (dNil))) (dC (.int 1)))) (dTup (dCons (dC (.str "never")) (dNil))) (dTup (dCons (dOp fIx (dVar 11) (dC (.int 1))) (dCons (dOp fIx (dVar 11) (dC (.int 2))) (dNil))))))))))))))))))) (sSeq (sIf (dTest (dOp (fEq false) (dCB bLen (dCons (dOp fIx (dVar 4) (dUn (fUn fun i => -i) (dC (.int 1)))) (dNil))) (dC (.int 1)))) (sRet (dC .non)) (sNext)) (sRet (dIf (dAnd (dTest (dOp (fEq false) (dCB bLen (dCons (dOp fIx (dVar 2) (dC (.int 1))) (dNil))) (dC (.int 3)))) (dTest (dOp (fEq false) (dOp fIx (dVar 4) (dUn (fUn fun i => -i) (dC (.int 1)))) (dTup (dCons (dOp fIx (dOp fIx (dVar 2) (dC (.int 1))) (dC (.int 1))) (dCons (dOp fIx (dOp fIx (dVar 2) (dC (.int 1))) (dC (.int 2))) (dNil))))))) (dC .non) (dC (.str "end")))))))
theorem pd__law_steps_word {P : Program} {w : World} {K : PySem.W.Frag} {mg : Str → Option Value} {base : Heap} {I : HI} {fa : Addr} {cdv : Value} {A : Around} {outer : List Env} {s : Shared} {H : Hp} {E : XK} {Ed : Exc → Prop} (T : Tf K mg) (c__law_row_form : Cl P w K mg base I 3 "_law_row_form" 4 (K12.K32.C__law_row_form K) [])
    (hr : Room 3 (A.deeper (envOfC "_law_steps_word" (defScope s__law_steps_word) s.heap.objs.size fa cdv))) (tk : Takes (cxD P w K mg base N__law_steps_word "_law_steps_word" (defScope s__law_steps_word) fa cdv A outer s H E) (gOf I Ed E).W) :
    PSsD (cxD P w K mg base N__law_steps_word "_law_steps_word" (defScope s__law_steps_word) fa cdv A outer s H E) (gOf I Ed E) (defBody s__law_steps_word) (d__law_steps_word K (gOf I Ed E).Ed) :=
  by
  have nd := sc__law_steps_word.nd
  refine ds_cons ?_ ?_
  refine ds_if ?_ ?_ ?_
  refine PWD.pt ?_
  refine dt_or ?_ ?_
  refine dt_not ?_
  refine dt_val ?_
  refine d_callB c_isi rfl T.n_isinstance boot_isinstance ?_
  refine da_cons ?_ ?_
  exact dv 3
  refine da_cons ?_ ?_
  refine d_tup ?_
  refine da_cons ?_ ?_
  exact d_ty rfl T.n_list boot_list
  refine da_cons ?_ ?_
  exact d_ty rfl T.n_tuple boot_tuple
  exact da_nil
  exact da_nil
  refine dt_or1 ?_
  refine dt_not ?_
  refine Bt.dt_chain r_le r_le ?_ ?_ ?_
  exact d_int
  refine d_callB c_len rfl T.n_len PySem.boot_len ?_
  refine da_cons ?_ ?_
  exact dv 3
  exact da_nil
  exact d_int
  refine ds_one ?_
  refine ds_ret ?_
  exact d_str
  exact ds_nil
  refine ds_cons ?_ ?_
  refine ds_new (i := 4) ?_ ?_ ?_ ?_
  exact nd
  exact rfl
  (first | exact Or.inl rfl | exact Or.inr rfl)
  refine f_lst ?_
  exact da_nil
  refine ds_cons ?_ ?_
  refine ds_for ?_ ?_ ?_ ?_ ?_
  exact passes_of rfl
  exact rfl
  exact di_var 3
  exact dg_name (i := 5) nd rfl (by first | exact Or.inl rfl | exact Or.inr rfl)
  refine ds_cons ?_ ?_
  refine ds_if ?_ ?_ ?_
  refine dt_not ?_
  refine dt_val ?_
  refine d_callC c__law_row_form (K12.K32.ar__law_row_form _) hr (by decide) rfl tk ?_
  refine da_consL ?_ ?_ ?_
  exact dv 0
  refine da_consL ?_ ?_ ?_
  exact dv 1
  refine da_consL ?_ ?_ ?_
  exact dv 2
  refine da_consL ?_ ?_ ?_
  exact dv 5
  exact da_nil
  exact rfl
  exact rfl
  exact rfl
  exact rfl
  refine ds_one ?_
  refine ds_ret ?_
  exact d_str
  exact ds_nil
  refine ds_cons ?_ ?_
  refine ds_new (i := 6) ?_ ?_ ?_ ?_
  exact nd
  exact rfl
  (first | exact Or.inl rfl | exact Or.inr rfl)
  refine f_lst ?_
  exact da_nil
  refine ds_cons ?_ ?_
  refine ds_if ?_ ?_ ?_
  refine dt_cmp (r_eq (h64 hr)) ?_ ?_ (nomark _)
  refine d_ix ?_ ?_
  exact dv 5
  exact d_int
  exact d_str
  refine ds_one ?_
  refine ds_new (i := 6) ?_ ?_ ?_ ?_
  exact nd
  exact rfl
  (first | exact Or.inl rfl | exact Or.inr rfl)
  refine f_lst ?_
  refine da_cons ?_ ?_
  refine d_ix ?_ ?_
  exact dv 5
  exact d_int
  refine da_cons ?_ ?_
  refine d_ix ?_ ?_
  exact dv 5
  exact d_int
  exact da_nil
  exact ds_nil
  refine ds_cons ?_ ?_
  refine ds_if ?_ ?_ ?_
  refine dt_cmp (r_eq (h64 hr)) ?_ ?_ (nomark _)
  refine d_ix ?_ ?_
  exact dv 5
  exact d_int
  exact d_str
  refine ds_one ?_
  refine ds_new (i := 6) ?_ ?_ ?_ ?_
  exact nd
  exact rfl
  (first | exact Or.inl rfl | exact Or.inr rfl)
  refine f_listOf rfl T.n_list boot_list ?_
  refine d_ix ?_ ?_
  exact dv 5
  exact d_int
  exact ds_nil
  refine ds_cons ?_ ?_
  refine ds_frz 6 ?_
  refine ds_for ?_ ?_ ?_ ?_ ?_
  exact passes_of rfl
  exact rfl
  exact di_var 6
  exact dg_name (i := 7) nd rfl (by first | exact Or.inl rfl | exact Or.inr rfl)
  refine ds_one ?_
  refine ds_if ?_ ?_ ?_
  refine PWD.pt ?_
  refine dt_or ?_ ?_
  refine dt_not ?_
  refine Bt.dt_chain r_le (r_lt hr.units0) ?_ ?_ ?_
  exact d_int
  exact dv 7
  refine d_callB c_len rfl T.n_len PySem.boot_len ?_
  refine da_cons ?_ ?_
  exact dv 4
  exact da_nil
  refine dt_or1 ?_
  refine dt_cmp (r_eq (h64 hr)) ?_ ?_ (nomark _)
  refine d_callB c_len rfl T.n_len PySem.boot_len ?_
  refine da_cons ?_ ?_
  refine d_ix ?_ ?_
  exact dv 4
  exact dv 7
  exact da_nil
  exact d_int
  refine ds_one ?_
  refine ds_ret ?_
  exact d_str
  exact ds_nil
  refine ds_one ?_
  refine ds_if ?_ ?_ ?_
  refine dt_cmp (r_eq (h64 hr)) ?_ ?_ (nomark _)
  refine d_ix ?_ ?_
  exact dv 5
  exact d_int
  exact d_str
  refine ds_one ?_
  refine ds_app (i := 4) ?_ ?_ ?_
  exact rfl
  (first | exact Or.inl rfl | exact Or.inr (Or.inl rfl))
  refine d_tup ?_
  refine da_cons ?_ ?_
  refine d_ix ?_ ?_
  exact dv 5
  exact d_int
  refine da_cons ?_ ?_
  refine d_ix ?_ ?_
  exact dv 5
  exact d_int
  exact da_nil
  refine ds_one ?_
  refine ds_if ?_ ?_ ?_
  refine dt_cmp (r_eq (h64 hr)) ?_ ?_ (nomark _)
  refine d_ix ?_ ?_
  exact dv 5
  exact d_int
  exact d_str
  refine ds_cons ?_ ?_
  refine ds_asgG ?_ ?_
  refine d_ix ?_ ?_
  refine d_ix ?_ ?_
  exact dv 2
  exact d_int
  refine d_ix ?_ ?_
  exact dv 5
  exact d_int
  exact Fn.dg_seq (is := [8, 9]) rfl (pgs_cons (pg_name (i := 8) nd rfl (by first | exact Or.inl rfl | exact Or.inr rfl)) (pgs_cons (pg_name (i := 9) nd rfl (by first | exact Or.inl rfl | exact Or.inr rfl)) (pgs_nil)))
  refine ds_one ?_
  refine ds_app (i := 4) ?_ ?_ ?_
  exact rfl
  (first | exact Or.inl rfl | exact Or.inr (Or.inl rfl))
  refine d_ifExp ?_ ?_ ?_
  refine dt_cmp (r_eq (h64 hr)) ?_ ?_ (nomark _)
  refine d_ix ?_ ?_
  exact dv 5
  exact d_int
  exact d_int
  refine d_tup ?_
  refine da_cons ?_ ?_
  exact dv 8
  refine da_cons ?_ ?_
  exact dv 9
  exact da_nil
  refine d_tup ?_
  refine da_cons ?_ ?_
  exact dv 9
  refine da_cons ?_ ?_
  exact dv 8
  exact da_nil
  refine ds_one ?_
  refine ds_if ?_ ?_ ?_
  refine dt_cmp (r_eq (h64 hr)) ?_ ?_ (nomark _)
  refine d_ix ?_ ?_
  exact dv 5
  exact d_int
  exact d_str
  refine ds_cons ?_ ?_
  refine ds_if ?_ ?_ ?_
  refine dt_cmp (r_ne (h64 hr)) ?_ ?_ (nomark _)
  refine d_ix ?_ ?_
  refine d_ix ?_ ?_
  exact dv 4
  refine d_ix ?_ ?_
  exact dv 5
  exact d_int
  exact d_int
  refine d_ix ?_ ?_
  refine d_ix ?_ ?_
  exact dv 4
  refine d_ix ?_ ?_
  exact dv 5
  exact d_int
  exact d_int
  refine ds_one ?_
  refine ds_ret ?_
  exact d_str
  exact ds_nil
  refine ds_one ?_
  refine ds_app (i := 4) ?_ ?_ ?_
  exact rfl
  (first | exact Or.inl rfl | exact Or.inr (Or.inl rfl))
  refine d_tup ?_
  refine da_cons ?_ ?_
  refine d_ix ?_ ?_
  refine d_ix ?_ ?_
  exact dv 4
  refine d_ix ?_ ?_
  exact dv 5
  exact d_int
  exact d_int
  refine da_cons ?_ ?_
  refine d_ix ?_ ?_
  refine d_ix ?_ ?_
  exact dv 4
  refine d_ix ?_ ?_
  exact dv 5
  exact d_int
  exact d_int
  exact da_nil
  refine ds_cons ?_ ?_
  refine ds_new (i := 10) ?_ ?_ ?_ ?_
  exact nd
  exact rfl
  (first | exact Or.inl rfl | exact Or.inr rfl)
  refine f_lst ?_
  exact da_nil
  refine ds_cons ?_ ?_
  refine ds_for ?_ ?_ ?_ ?_ ?_
  exact passes_of rfl
  exact rfl
  refine di_seq ?_
  refine d_ix ?_ ?_
  refine d_ix ?_ ?_
  exact dv 1
  refine d_ix ?_ ?_
  exact dv 5
  exact d_int
  exact d_int
  exact dg_tup (is := [8, 9]) rfl (pgs_cons (pg_name (i := 8) nd rfl (by first | exact Or.inl rfl | exact Or.inr rfl)) (pgs_cons (pg_name (i := 9) nd rfl (by first | exact Or.inl rfl | exact Or.inr rfl)) (pgs_nil)))
  refine ds_one ?_
  refine ds_new (i := 10) ?_ ?_ ?_ ?_
  exact nd
  exact rfl
  (first | exact Or.inl rfl | exact Or.inr rfl)
  refine Nw.pf_cat ?_ ?_
  exact dv 10
  refine d_lst ?_
  refine da_cons ?_ ?_
  refine d_tup ?_
  refine da_cons ?_ ?_
  exact dv 8
  refine da_cons ?_ ?_
  exact dv 9
  exact da_nil
  refine da_cons ?_ ?_
  refine d_tup ?_
  refine da_cons ?_ ?_
  exact dv 9
  refine da_cons ?_ ?_
  exact dv 8
  exact da_nil
  exact da_nil
  refine ds_cons ?_ ?_
  refine ds_if ?_ ?_ ?_
  refine dt_cmp (r_ne (h64 hr)) ?_ ?_ (nomark _)
  refine pf_e ?_
  refine f_lc rfl nd ?_ (blkOk_by (own := [("_law_back", 7)]) (N := N__law_steps_word) (sc := defScope s__law_steps_word) (by decide +kernel)) ?_ sg_name (gw_name (by decide)) ?_ ?_
  exact di_var 6
  exact (fun _ _ _ _ _ => pg_name (i := 7) nd rfl (by first | exact Or.inl rfl | exact Or.inr rfl))
  exact bt_nil
  refine be_of ?_
  intro _ _ _ _ _
  refine d_ix ?_ ?_
  exact dv 4
  exact dv 7
  exact dv 10
  refine ds_one ?_
  refine ds_ret ?_
  exact d_str
  exact ds_nil
  refine ds_cons ?_ ?_
  refine ds_set (i := 11) ?_ ?_ ?_ ?_
  exact nd
  exact rfl
  (first | exact Or.inl rfl | exact Or.inr rfl)
  refine d_ix ?_ ?_
  refine d_ix ?_ ?_
  exact dv 1
  refine d_ix ?_ ?_
  exact dv 5
  exact d_int
  exact d_int
  refine ds_one ?_
  refine ds_app (i := 4) ?_ ?_ ?_
  exact rfl
  (first | exact Or.inl rfl | exact Or.inr (Or.inl rfl))
  refine d_ifExp ?_ ?_ ?_
  refine dt_cmp (r_eq (h64 hr)) ?_ ?_ (nomark _)
  refine d_callB c_len rfl T.n_len PySem.boot_len ?_
  refine da_cons ?_ ?_
  exact dv 11
  exact da_nil
  exact d_int
  refine d_tup ?_
  refine da_cons ?_ ?_
  exact d_str
  exact da_nil
  refine d_tup ?_
  refine da_cons ?_ ?_
  refine d_ix ?_ ?_
  exact dv 11
  exact d_int
  refine da_cons ?_ ?_
  refine d_ix ?_ ?_
  exact dv 11
  exact d_int
  exact da_nil
  refine ds_cons ?_ ?_
  refine ds_if ?_ ?_ ?_
  refine dt_cmp (r_eq (h64 hr)) ?_ ?_ (nomark _)
  refine d_callB c_len rfl T.n_len PySem.boot_len ?_
  refine da_cons ?_ ?_
  refine d_ix ?_ ?_
  exact dv 4
  refine d_neg ?_
  exact d_int
  exact da_nil
  exact d_int
  refine ds_one ?_
  refine ds_ret ?_
  exact d_non
  exact ds_nil
  refine ds_one ?_
  refine ds_ret ?_
  refine d_ifExp ?_ ?_ ?_
  refine PWD.pt ?_
  refine dt_and ?_ ?_
  refine dt_cmp (r_eq (h64 hr)) ?_ ?_ (nomark _)
  refine d_callB c_len rfl T.n_len PySem.boot_len ?_
  refine da_cons ?_ ?_
  refine d_ix ?_ ?_
  exact dv 2
  exact d_int
  exact da_nil
  exact d_int
  refine dt_and1 ?_
  refine dt_cmp (r_eq (h64 hr)) ?_ ?_ (nomark _)
  refine d_ix ?_ ?_
  exact dv 4
  refine d_neg ?_
  exact d_int
  refine d_tup ?_
  refine da_cons ?_ ?_
  refine d_ix ?_ ?_
  refine d_ix ?_ ?_
  exact dv 2
  exact d_int
  exact d_int
  refine da_cons ?_ ?_
  refine d_ix ?_ ?_
  refine d_ix ?_ ?_
  exact dv 2
  exact d_int
  exact d_int
  exact da_nil
  exact d_non
  exact d_str
end K32

namespace K12.K32
open PySem PySem.Spec PyProof.Rows L2 Dl Ns Zs Zz Rk Rd _root_.K32 K12
open K12.K00 (ix_D len_D)
abbrev bB : TSD := (sIf (dOr (dNot (dTest (Bt.dChain fLe fLt (dC (.int 0)) (dVar 7) (dCB bLen (dCons (dVar 4) (dNil)))))) (dTest (dOp (fEq false) (dCB bLen (dCons (dOp fIx (dVar 4) (dVar 7)) (dNil))) (dC (.int 1))))) (sRet (dC (.str "back"))) (sNext))
abbrev uB : TSD := (sNew 10 (Nw.fCatF (dVar 10) (dLst (dCons (dTup (dCons (dVar 8) (dCons (dVar 9) (dNil)))) (dCons (dTup (dCons (dVar 9) (dCons (dVar 8) (dNil)))) (dNil))))))
abbrev restB : TSD := (sIf (dTest (dOp (fEq false) (dOp fIx (dVar 5) (dC (.int 0))) (dC (.str "self")))) (sApp 4 (dTup (dCons (dOp fIx (dVar 5) (dC (.int 1))) (dCons (dOp fIx (dVar 5) (dC (.int 1))) (dNil))))) (sIf (dTest (dOp (fEq false) (dOp fIx (dVar 5) (dC (.int 0))) (dC (.str "given")))) (sSeq (sAsgG (dOp fIx (dOp fIx (dVar 2) (dC (.int 0))) (dOp fIx (dVar 5) (dC (.int 1)))) (Fn.gdSeq [8, 9])) (sApp 4 (dIf (dTest (dOp (fEq false) (dOp fIx (dVar 5) (dC (.int 2))) (dC (.int 0)))) (dTup (dCons (dVar 8) (dCons (dVar 9) (dNil)))) (dTup (dCons (dVar 9) (dCons (dVar 8) (dNil))))))) (sIf (dTest (dOp (fEq false) (dOp fIx (dVar 5) (dC (.int 0))) (dC (.str "through")))) (sSeq (sIf (dTest (dOp (fEq true) (dOp fIx (dOp fIx (dVar 4) (dOp fIx (dVar 5) (dC (.int 1)))) (dC (.int 1))) (dOp fIx (dOp fIx (dVar 4) (dOp fIx (dVar 5) (dC (.int 2)))) (dC (.int 0))))) (sRet (dC (.str "through"))) (sNext)) (sApp 4 (dTup (dCons (dOp fIx (dOp fIx (dVar 4) (dOp fIx (dVar 5) (dC (.int 1)))) (dC (.int 0))) (dCons (dOp fIx (dOp fIx (dVar 4) (dOp fIx (dVar 5) (dC (.int 2)))) (dC (.int 1))) (dNil)))))) (sSeq (sNew 10 (fLst (dNil))) (sSeq (sFor (idSeq (dOp fIx (dOp fIx (dVar 1) (dOp fIx (dVar 5) (dC (.int 1)))) (dC (.int 0)))) (gdTup [8, 9]) uB) (sSeq (sIf (dTest (dOp (fEq true) (dF (fLc (idVar 6) (gdName 7) (dYes) (dOp fIx (dVar 4) (dVar 7)) (([("_law_back", 7)] : List (Str × Nat)).map (·.2)))) (dVar 10))) (sRet (dC (.str "premise"))) (sNext)) (sSeq (sAsg 11 (dOp fIx (dOp fIx (dVar 1) (dOp fIx (dVar 5) (dC (.int 1)))) (dC (.int 1)))) (sApp 4 (dIf (dTest (dOp (fEq false) (dCB bLen (dCons (dVar 11) (dNil))) (dC (.int 1)))) (dTup (dCons (dC (.str "never")) (dNil))) (dTup (dCons (dOp fIx (dVar 11) (dC (.int 1))) (dCons (dOp fIx (dVar 11) (dC (.int 2))) (dNil)))))))))))))
abbrev wB (K : PySem.W.Frag) (Ed : Exc → Prop) : TSD := (sSeq (sIf (dNot (dB (dCall ((K12.K32.C__law_row_form K)) [] (fun _ x => Ed x) (dCons (dVar 0) (dCons (dVar 1) (dCons (dVar 2) (dCons (dVar 5) (dNil)))))))) (sRet (dC (.str "row"))) (sNext)) (sSeq (sNew 6 (fLst (dNil))) (sSeq (sIf (dTest (dOp (fEq false) (dOp fIx (dVar 5) (dC (.int 0))) (dC (.str "through")))) (sNew 6 (fLst (dCons (dOp fIx (dVar 5) (dC (.int 1))) (dCons (dOp fIx (dVar 5) (dC (.int 2))) (dNil))))) (sNext)) (sSeq (sIf (dTest (dOp (fEq false) (dOp fIx (dVar 5) (dC (.int 0))) (dC (.str "rule")))) (sNew 6 (fListOf (dOp fIx (dVar 5) (dC (.int 2))))) (sNext)) (sSeq (sFrz 6 (sFor (idVar 6) (gdName 7) bB)) restB)))))
def sX : Option Pr → List D
  | none => [.str "never"]
  | some p => [.int p.1, .int p.2]
abbrev sD (e : Option Pr) : D := .tup (sX e)
theorem atI_s {sh : Sh} {b : Int} {p : Pr} (h : shAt sh b = some p) : L2.atI (sh.map sD) b = some (prD p) := by
  obtain ⟨h0, h1, h2⟩ := shAt_some h
  obtain ⟨k, rfl⟩ := Int.eq_ofNat_of_zero_le h0
  refine atI_nat ?_
  rw [List.getElem?_map, show sh[k]? = some (some p) from h2]
  rfl
theorem ix_s {sh : Sh} {b : Int} {Q : D → Prop} (h : (shAt sh b).isSome = true) (q : Q (prD (hold sh b))) : fIx (.lst (sh.map sD)) (.int b) Q := rIxL (atI_s (hold_at h)) q
theorem back_walk {v0 v1 v2 v3 v5 v6 : D} {sh : Sh} {Dd : DEnds} {s8 s9 s10 s11 : Slot} : ∀ (bs : List Int) (s7 : Slot),
    (if bs.all (fun b => (shAt sh b).isSome) = true then ∀ s7, Dd.nx [.val v0, .val v1, .val v2, .val v3, .own (sh.map sD), .val v5, .val v6, s7, s8, s9, s10, s11] else Dd.rt (.str "back")) →
    forD (gdName 7) bB Dd (bs.map D.int) [.val v0, .val v1, .val v2, .val v3, .own (sh.map sD), .val v5, .val v6, s7, s8, s9, s10, s11]
  | [], s7, q => q s7
  | b :: bs, s7, q => by
    show sIf _ _ _ _ [.val v0, .val v1, .val v2, .val v3, .own (sh.map sD), .val v5, .val v6, .val (.int b), s8, s9, s10, s11]
    (repeat decreasing_trivial_pre_omega)
    refine chain_ok (i := b) (hi := sh.length) (fun R hR => by (repeat decreasing_trivial_pre_omega); exact hR) (fun R hR => ?_) ?_
    · (repeat decreasing_trivial_pre_omega)
      rw [List.length_map]
      exact hR
    (repeat decreasing_trivial_pre_omega)
    have ea : (b :: bs).all (fun b => (shAt sh b).isSome) = ((shAt sh b).isSome && bs.all fun b => (shAt sh b).isSome) := rfl
    rw [ea] at q
    by_cases c : 0 ≤ b ∧ b < (sh.length : Nat)
    · rw [decide_eq_true c]
      (repeat decreasing_trivial_pre_omega)
      obtain ⟨j, rfl⟩ := Int.eq_ofNat_of_zero_le c.1
      have lt : j < sh.length := by omega
      refine rIxL (d := sD sh[j]) (atI_nat (by rw [List.getElem?_map, List.getElem?_eq_getElem lt]; rfl)) ?_
      (repeat decreasing_trivial_pre_omega)
      have e : shAt sh ((j : Nat) : Int) = sh[j] := by
        unfold shAt
        rw [if_pos c.1, Int.toNat_natCast, List.getElem?_eq_getElem lt]
        rfl
      rw [e] at q
      cases ej : sh[j] with
      | none =>
        rw [ej] at q
        rw [decide_eq_true (show (((sX none).length : Nat) : Int) = 1 from rfl)]
        (repeat decreasing_trivial_pre_omega)
        exact q
      | some p =>
        rw [ej] at q
        rw [decide_eq_false (show ¬ (((sX (some p)).length : Nat) : Int) = 1 by show ¬ (2 : Int) = 1; decide)]
        (repeat decreasing_trivial_pre_omega)
        exact back_walk bs _ q
    · rw [decide_eq_false c]
      have e : (shAt sh b).isSome = false := by
        cases h : shAt sh b with
        | none => rfl
        | some p => obtain ⟨h1, h2, _⟩ := shAt_some h; exact absurd ⟨h1, h2⟩ c
      rw [e] at q
      (repeat decreasing_trivial_pre_omega)
      exact q
theorem due_walk {v0 v1 v2 v3 v5 v6 v7 : Slot} {sh : List D} {Dd : DEnds} {s11 : Slot} : ∀ (ps : List Pr) (acc : List Pr) (s8 s9 : Slot), acc.length + 2 * ps.length ≤ 1000 →
    (∀ s8 s9, Dd.nx [v0, v1, v2, v3, .own sh, v5, v6, v7, s8, s9, .own ((acc ++ endsOf ps).map prD), s11]) →
    forD (gdTup [8, 9]) uB Dd (ps.map prD) [v0, v1, v2, v3, .own sh, v5, v6, v7, s8, s9, .own (acc.map prD), s11]
  | [], acc, s8, s9, _, q => by
    have := q s8 s9
    rw [show acc ++ endsOf [] = acc from List.append_nil _] at this
    exact this
  | p :: ps, acc, s8, s9, l, q => by
    rw [List.length_cons] at l
    refine ⟨_, rfl, rfl, ?_⟩
    show sNew _ _ _ [v0, v1, v2, v3, .own sh, v5, v6, v7, .val (.int p.1), .val (.int p.2), .own (acc.map prD), s11]
    unfold sNew Nw.fCatF
    (repeat decreasing_trivial_pre_omega)
    refine ⟨_, _, rfl, rfl, by rw [List.length_map]; have : (2000 : Nat) < sizeLine := (by decide); show acc.length + 2 ≤ sizeLine; omega, ?_⟩
    refine ⟨Nat.le_of_ble_eq_true rfl, .inr ?_, ?_⟩
    · exact noLst_of fun x hx => by
        rcases List.mem_append.mp hx with z | z
        · obtain ⟨y, _, rfl⟩ := List.mem_map.mp z; rfl
        · simp only [List.mem_cons, List.not_mem_nil, or_false] at z
          rcases z with rfl | rfl <;> rfl
    have z := due_walk (v0 := v0) (v1 := v1) (v2 := v2) (v3 := v3) (v5 := v5) (v6 := v6) (v7 := v7) (sh := sh) (Dd := Dd) (s11 := s11) ps (acc ++ [(p.1, p.2), (p.2, p.1)]) (.val (.int p.1)) (.val (.int p.2)) (by rw [List.length_append]; show acc.length + 2 + _ ≤ _; omega) (fun s8 s9 => by
      have := q s8 s9
      rw [show acc ++ endsOf (p :: ps) = (acc ++ [(p.1, p.2), (p.2, p.1)]) ++ endsOf ps by simp [endsOf]] at this
      exact this)
    rw [List.map_append] at z
    exact z
theorem endsOf_0 : ∀ {ps : List Pr} {k : Nat} {p : Pr}, ps[k]? = some p → (endsOf ps)[2 * k]? = some p ∧ (endsOf ps)[2 * k + 1]? = some (p.2, p.1)
  | [], k, p, h => by cases h
  | x :: ps, 0, p, h => by cases h; exact ⟨rfl, rfl⟩
  | x :: ps, k + 1, p, h => by
    have := endsOf_0 (ps := ps) (k := k) (p := p) h
    have e : endsOf (x :: ps) = x :: (x.2, x.1) :: endsOf ps := rfl
    rw [e, show 2 * (k + 1) = 2 * k + 1 + 1 by omega]
    exact this
theorem eqD_pr (a b : Pr) : eqD (prD a) (prD b) = decide (a = b) := by
  unfold eqD
  simp only [D.py, pyA, PyData.eqv, PyData.eqvAll, Bool.and_true]
  obtain ⟨x, y⟩ := a
  obtain ⟨z, u⟩ := b
  by_cases h : x = z <;> by_cases h2 : y = u <;> simp [h, h2]
theorem okI_pr (p : Pr) : okI (prD p) := ⟨rfl, by show depA [D.int p.1, D.int p.2] + 1 ≤ 50; simp only [depA, D.dep]; decide⟩
theorem ok_prL (ps : List Pr) : okD (.lst (ps.map prD)) := okD_lst fun x hx => by obtain ⟨p, _, rfl⟩ := List.mem_map.mp hx; exact okI_pr p
theorem eq_prs {neg : Bool} {a b : List Pr} {Q : D → Prop} (q : Q (.bl (xr neg (decide (a = b))))) : fEq neg (.lst (a.map prD)) (.lst (b.map prD)) Q := eq_d (ok_prL a) (ok_prL b) (by rw [eqD_mapL prD eqD_pr]; exact q)
theorem ruleT_at {rs : List Rl} {k : Int} {Q : D → Prop} (h : 0 ≤ k ∧ k < (rs.length : Nat)) (q : Q (ruleT (rs.getD k.toNat ([], none)))) : fIx (.lst (rs.map ruleT)) (.int k) Q := by
  obtain ⟨j, rfl⟩ := Int.eq_ofNat_of_zero_le h.1
  have lt : j < rs.length := by omega
  refine rIxL (d := ruleT (rs.getD j ([], none))) (atI_nat ?_) q
  rw [List.getElem?_map, List.getElem?_eq_getElem lt, List.getD_eq_getElem?_getD, List.getElem?_eq_getElem lt]
  rfl
theorem word_walk {K : PySem.W.Frag} {Ed : Exc → Prop} {n : Int} {rs : List Rl} {r : Rl} (A : Ask n rs r) {st : D} {Dd : DEnds} : ∀ (rows : List Row) (sh : Sh) (s5 s6 s7 s8 s9 s10 s11 : Slot), sh.length + rows.length ≤ 1000 → (∀ row ∈ rows, RowOk row) →
    (match run n rs r sh rows with | .inl w => Dd.rt (.str w) | .inr sh2 => sh2.length = sh.length + rows.length → ∀ s5 s6 s7 s8 s9 s10 s11, Dd.nx [.val (.int n), .val (.lst (rs.map ruleT)), .val (ruleT r), .val st, .own (sh2.map sD), s5, s6, s7, s8, s9, s10, s11]) →
    forD (gdName 5) (wB K Ed) Dd (rows.map rowD) [.val (.int n), .val (.lst (rs.map ruleT)), .val (ruleT r), .val st, .own (sh.map sD), s5, s6, s7, s8, s9, s10, s11]
  | [], sh, s5, s6, s7, s8, s9, s10, s11, _, _, q => q rfl _ _ _ _ _ _ _
  | row :: rows, sh, s5, s6, s7, s8, s9, s10, s11, few, ok, q => by
    show sSeq _ _ _ [.val (.int n), .val (.lst (rs.map ruleT)), .val (ruleT r), .val st, .own (sh.map sD), .val (rowD row), s6, s7, s8, s9, s10, s11]
    have ro := ok row List.mem_cons_self
    rw [List.length_cons] at few
    (repeat decreasing_trivial_pre_omega)
    refine ⟨n, rs, r, row, rfl, A, ro, ?_⟩
    (repeat decreasing_trivial_pre_omega)
    cases e : parse n rs.length r.1.length row with
    | none =>
      have er : run n rs r sh (row :: rows) = .inl "row" := by unfold run; rw [e]
      rw [er] at q
      (repeat decreasing_trivial_pre_omega)
      exact q
    | some pr =>
      obtain ⟨⟨tp, eR⟩, po⟩ := parse_ok e ro
      have er : run n rs r sh (row :: rows) = match fault rs sh pr with | some w => .inl w | none => run n rs r (sh ++ [endOf rs r sh pr]) rows := by
        rw [run, e] <;> rfl
      rw [er] at q
      have go : ∀ (o : Option Pr), endOf rs r sh pr = o → fault rs sh pr = none → ∀ s5 s6 s7 s8 s9 s10 s11, forD (gdName 5) (wB K Ed) Dd (rows.map rowD) [.val (.int n), .val (.lst (rs.map ruleT)), .val (ruleT r), .val st, .own (sh.map sD ++ [sD o]), s5, s6, s7, s8, s9, s10, s11] := fun o eo ef s5 s6 s7 s8 s9 s10 s11 => by
        have z := word_walk (K := K) (Ed := Ed) A (st := st) (Dd := Dd) rows (sh ++ [o]) s5 s6 s7 s8 s9 s10 s11 (by rw [List.length_append, List.length_singleton]; omega) (fun x hx => ok x (List.mem_cons_of_mem _ hx)) ?_
        · rw [List.map_append] at z
          exact z
        · rw [ef, eo] at q
          dsimp only at q
          cases ez : run n rs r (sh ++ [o]) rows with
          | inl w => rw [ez] at q; exact q
          | inr sh2 =>
            rw [ez] at q
            dsimp only at q ⊢
            rw [List.length_append, List.length_singleton]
            rw [List.length_cons] at q
            exact fun l => q (by omega)
      have small : (sh.map sD).length < sizeLine := by rw [List.length_map]; have : (1000 : Nat) < sizeLine := (by decide); omega
      rw [eR, show (some pr).isSome = true from rfl]
      (repeat decreasing_trivial_pre_omega)
      cases pr with
      | self x =>
        refine ix_sq (k := 0) rfl ?_
        (repeat decreasing_trivial_pre_omega)
        refine eqsF ?_ (by decide +kernel)
        (repeat decreasing_trivial_pre_omega)
        refine ix_sq (k := 0) rfl ?_
        (repeat decreasing_trivial_pre_omega)
        refine eqsF ?_ (by decide +kernel)
        (repeat decreasing_trivial_pre_omega)
        unfold sFrz
        (repeat decreasing_trivial_pre_omega)
        refine back_walk (sh := sh) [] _ ?_
        intro s7
        (repeat decreasing_trivial_pre_omega)
        refine ix_sq (k := 0) rfl ?_
        (repeat decreasing_trivial_pre_omega)
        refine eqsT ?_ (by decide +kernel)
        (repeat decreasing_trivial_pre_omega)
        refine rApp rfl ?_
        (repeat decreasing_trivial_pre_omega)
        refine ix_sq (k := 1) rfl ?_
        (repeat decreasing_trivial_pre_omega)
        refine ix_sq (k := 1) rfl ?_
        (repeat decreasing_trivial_pre_omega)
        exact ⟨rfl, small, go (some (x, x)) rfl rfl _ _ _ _ _ _ _⟩
      | given a b =>
        refine ix_sq (k := 0) rfl ?_
        (repeat decreasing_trivial_pre_omega)
        refine eqsF ?_ (by decide +kernel)
        (repeat decreasing_trivial_pre_omega)
        refine ix_sq (k := 0) rfl ?_
        (repeat decreasing_trivial_pre_omega)
        refine eqsF ?_ (by decide +kernel)
        (repeat decreasing_trivial_pre_omega)
        unfold sFrz
        (repeat decreasing_trivial_pre_omega)
        refine back_walk (sh := sh) [] _ ?_
        intro s7
        (repeat decreasing_trivial_pre_omega)
        refine ix_sq (k := 0) rfl ?_
        (repeat decreasing_trivial_pre_omega)
        refine eqsF ?_ (by decide +kernel)
        (repeat decreasing_trivial_pre_omega)
        refine ix_sq (k := 0) rfl ?_
        (repeat decreasing_trivial_pre_omega)
        refine eqsT ?_ (by decide +kernel)
        (repeat decreasing_trivial_pre_omega)
        unfold sAsgG
        (repeat decreasing_trivial_pre_omega)
        refine rIxT (d := premD r.1) rfl ?_
        (repeat decreasing_trivial_pre_omega)
        refine ix_sq (k := 1) rfl ?_
        obtain ⟨⟨a0, a1⟩, b0, b1⟩ := po
        obtain ⟨j, rfl⟩ := Int.eq_ofNat_of_zero_le a0
        have lt : j < r.1.length := by omega
        refine rIxT (d := prD r.1[j]) (atI_nat (by rw [List.getElem?_map, List.getElem?_eq_getElem lt]; rfl)) ?_
        refine ⟨.inr rfl, _, rfl, rfl, ?_⟩
        show sApp _ _ _ [.val (.int n), .val (.lst (rs.map ruleT)), .val (ruleT r), .val st, .own (sh.map sD), .val (sq tp (prw (.given (j : Nat) b))), .val (.lst []), s7, .val (.int r.1[j].1), .val (.int r.1[j].2), s10, s11]
        refine rApp rfl ?_
        (repeat decreasing_trivial_pre_omega)
        refine ix_sq (k := 2) rfl ?_
        (repeat decreasing_trivial_pre_omega)
        obtain ⟨e1, e2⟩ := endsOf_0 (List.getElem?_eq_getElem lt)
        by_cases cb : b = 0
        · subst cb
          rw [decide_eq_true rfl]
          (repeat decreasing_trivial_pre_omega)
          refine ⟨rfl, small, go (some (r.1[j].1, r.1[j].2)) ?_ rfl _ _ _ _ _ _ _⟩
          show some ((endsOf r.1).getD (2 * (j : Int) + 0).toNat (0, 0)) = _
          rw [show (2 * (j : Int) + 0).toNat = 2 * j by omega, List.getD_eq_getElem?_getD, e1]
          rfl
        · have eb : b = 1 := by omega
          subst eb
          rw [decide_eq_false cb]
          (repeat decreasing_trivial_pre_omega)
          refine ⟨rfl, small, go (some (r.1[j].2, r.1[j].1)) ?_ rfl _ _ _ _ _ _ _⟩
          show some ((endsOf r.1).getD (2 * (j : Int) + 1).toNat (0, 0)) = _
          rw [show (2 * (j : Int) + 1).toNat = 2 * j + 1 by omega, List.getD_eq_getElem?_getD, e2]
          rfl
      | through a b =>
        refine ix_sq (k := 0) rfl ?_
        (repeat decreasing_trivial_pre_omega)
        refine eqsT ?_ (by decide +kernel)
        (repeat decreasing_trivial_pre_omega)
        refine ix_sq (k := 1) rfl ?_
        (repeat decreasing_trivial_pre_omega)
        refine ix_sq (k := 2) rfl ?_
        (repeat decreasing_trivial_pre_omega)
        refine ix_sq (k := 0) rfl ?_
        (repeat decreasing_trivial_pre_omega)
        refine eqsF ?_ (by decide +kernel)
        (repeat decreasing_trivial_pre_omega)
        unfold sFrz
        (repeat decreasing_trivial_pre_omega)
        refine back_walk (sh := sh) [a, b] _ ?_
        unfold fault at q go
        by_cases c : (backs (.through a b)).all (fun b => (shAt sh b).isSome) = true
        · rw [if_pos c] at q go
          rw [if_pos (show ([a, b].all fun b => (shAt sh b).isSome) = true from c)]
          have ha : (shAt sh a).isSome = true := List.all_eq_true.mp c a List.mem_cons_self
          have hb : (shAt sh b).isSome = true := List.all_eq_true.mp c b (List.mem_cons_of_mem _ List.mem_cons_self)
          intro s7
          (repeat decreasing_trivial_pre_omega)
          refine ix_sq (k := 0) rfl ?_
          (repeat decreasing_trivial_pre_omega)
          refine eqsF ?_ (by decide +kernel)
          (repeat decreasing_trivial_pre_omega)
          refine ix_sq (k := 0) rfl ?_
          (repeat decreasing_trivial_pre_omega)
          refine eqsF ?_ (by decide +kernel)
          (repeat decreasing_trivial_pre_omega)
          refine ix_sq (k := 0) rfl ?_
          (repeat decreasing_trivial_pre_omega)
          refine eqsT ?_ (by decide +kernel)
          (repeat decreasing_trivial_pre_omega)
          refine ix_sq (k := 1) rfl ?_
          refine ix_s ha ?_
          (repeat decreasing_trivial_pre_omega)
          refine rIxT (d := .int (hold sh a).2) rfl ?_
          (repeat decreasing_trivial_pre_omega)
          refine ix_sq (k := 2) rfl ?_
          refine ix_s hb ?_
          (repeat decreasing_trivial_pre_omega)
          refine rIxT (d := .int (hold sh b).1) rfl ?_
          (repeat decreasing_trivial_pre_omega)
          dsimp only at q go
          by_cases c2 : (hold sh a).2 = (hold sh b).1
          · rw [if_pos c2] at q go
            rw [decide_eq_true c2]
            (repeat decreasing_trivial_pre_omega)
            refine rApp rfl ?_
            (repeat decreasing_trivial_pre_omega)
            refine ix_sq (k := 1) rfl ?_
            refine ix_s ha ?_
            (repeat decreasing_trivial_pre_omega)
            refine rIxT (d := .int (hold sh a).1) rfl ?_
            (repeat decreasing_trivial_pre_omega)
            refine ix_sq (k := 2) rfl ?_
            refine ix_s hb ?_
            (repeat decreasing_trivial_pre_omega)
            refine rIxT (d := .int (hold sh b).2) rfl ?_
            (repeat decreasing_trivial_pre_omega)
            exact ⟨rfl, small, go (some ((hold sh a).1, (hold sh b).2)) rfl rfl _ _ _ _ _ _ _⟩
          · rw [if_neg c2] at q
            rw [decide_eq_false c2]
            (repeat decreasing_trivial_pre_omega)
            exact q
        · rw [if_neg c] at q
          rw [if_neg (show ¬ ([a, b].all fun b => (shAt sh b).isSome) = true from c)]
          exact q
      | rule k t bs =>
        refine ix_sq (k := 0) rfl ?_
        (repeat decreasing_trivial_pre_omega)
        refine eqsF ?_ (by decide +kernel)
        (repeat decreasing_trivial_pre_omega)
        refine ix_sq (k := 0) rfl ?_
        (repeat decreasing_trivial_pre_omega)
        refine eqsT ?_ (by decide +kernel)
        (repeat decreasing_trivial_pre_omega)
        unfold fListOf
        (repeat decreasing_trivial_pre_omega)
        refine ix_sq (k := 2) rfl ?_
        refine ⟨_, seq_sq _ _, Nat.le_of_ble_eq_true rfl, .inr (nolI bs), ?_⟩
        unfold sFrz
        (repeat decreasing_trivial_pre_omega)
        refine back_walk (sh := sh) bs _ ?_
        unfold fault at q go
        by_cases c : (backs (.rule k t bs)).all (fun b => (shAt sh b).isSome) = true
        · rw [if_pos c] at q go
          rw [if_pos (show (bs.all fun b => (shAt sh b).isSome) = true from c)]
          have hb : ∀ b ∈ bs, (shAt sh b).isSome = true := List.all_eq_true.mp c
          have hg := A.all _ (rule_in po.1)
          intro s7
          (repeat decreasing_trivial_pre_omega)
          refine ix_sq (k := 0) rfl ?_
          (repeat decreasing_trivial_pre_omega)
          refine eqsF ?_ (by decide +kernel)
          (repeat decreasing_trivial_pre_omega)
          refine ix_sq (k := 0) rfl ?_
          (repeat decreasing_trivial_pre_omega)
          refine eqsF ?_ (by decide +kernel)
          (repeat decreasing_trivial_pre_omega)
          refine ix_sq (k := 0) rfl ?_
          (repeat decreasing_trivial_pre_omega)
          refine eqsF ?_ (by decide +kernel)
          (repeat decreasing_trivial_pre_omega)
          refine ix_sq (k := 1) rfl ?_
          refine ruleT_at po.1 ?_
          (repeat decreasing_trivial_pre_omega)
          refine rIxT (d := premD (rs.getD k.toNat ([], none)).1) rfl ?_
          refine ⟨.inr (nol_prem _), _, rfl, ?_⟩
          refine due_walk (rs.getD k.toNat ([], none)).1 [] _ _ (by rw [List.length_nil]; have := hg.1; omega) fun s8 s9 => ?_
          rw [List.nil_append]
          (repeat decreasing_trivial_pre_omega)
          refine ⟨by rw [List.length_map]; have := po.2.1; omega, ?_⟩
          refine lc_emb D.int (fun b => prD (hold sh b)) (fun _ => true) bs [] (fun b hbm S hS => ?_) ?_
          · (repeat decreasing_trivial_pre_omega)
            exact ix_s (hb b hbm) ⟨rfl, hS⟩
          rw [fil_true, List.nil_append]
          (repeat decreasing_trivial_pre_omega)
          have e : (bs.map fun b => prD (hold sh b)) = (bs.map (hold sh)).map prD := by rw [List.map_map]; rfl
          rw [e]
          refine eq_prs ?_
          (repeat decreasing_trivial_pre_omega)
          dsimp only at q go
          by_cases c2 : bs.map (hold sh) = endsOf (rs.getD k.toNat ([], none)).1
          · rw [if_pos c2] at q go
            rw [decide_eq_true c2]
            (repeat decreasing_trivial_pre_omega)
            refine ix_sq (k := 1) rfl ?_
            refine ruleT_at po.1 ?_
            (repeat decreasing_trivial_pre_omega)
            refine rIxT (d := endD (rs.getD k.toNat ([], none)).2) rfl ?_
            refine ⟨.inr (nol_end _), ?_⟩
            refine rApp rfl ?_
            (repeat decreasing_trivial_pre_omega)
            cases ee : (rs.getD k.toNat ([], none)).2 with
            | none =>
              rw [decide_eq_true (show (((endX none).length : Nat) : Int) = 1 from rfl)]
              (repeat decreasing_trivial_pre_omega)
              exact ⟨rfl, small, go none ee rfl _ _ _ _ _ _ _⟩
            | some p =>
              rw [decide_eq_false (show ¬ (((endX (some p)).length : Nat) : Int) = 1 by show ¬ (3 : Int) = 1; decide)]
              (repeat decreasing_trivial_pre_omega)
              refine rIxT (d := .int p.1) rfl ?_
              (repeat decreasing_trivial_pre_omega)
              refine rIxT (d := .int p.2) rfl ?_
              (repeat decreasing_trivial_pre_omega)
              exact ⟨rfl, small, go (some (p.1, p.2)) ee rfl _ _ _ _ _ _ _⟩
          · rw [if_neg c2] at q
            rw [decide_eq_false c2]
            (repeat decreasing_trivial_pre_omega)
            exact q
        · rw [if_neg c] at q
          rw [if_neg (show ¬ (bs.all fun b => (shAt sh b).isSome) = true from c)]
          exact q
theorem ct__law_steps_word {K : PySem.W.Frag} {ds : List D} {Qd : D → Prop} {Ed : Exc → Prop} (h : C__law_steps_word K ds Qd Ed) : d__law_steps_word K (fun _ x => Ed x) (eK Qd) (startD N__law_steps_word ds) := by
  obtain ⟨n, rs, r, rows, rfl, A, so, q⟩ := h
  unfold d__law_steps_word
  (repeat decreasing_trivial_pre_omega)
  refine isi_sq (tp := false) (l := rows.map rowD) ?_
  (repeat decreasing_trivial_pre_omega)
  have c10 : ∀ {R : Bool → Prop}, R (decide (1 ≤ (rows.length : Int) ∧ (rows.length : Int) ≤ 1000)) → dTest (Bt.dChain fLe fLe (dC (.int 1)) (dCB bLen (dCons (dVar 3) (dNil))) (dC (.int 1000))) (startD N__law_steps_word [.int n, .lst (rs.map ruleT), ruleT r, .lst (rows.map rowD)]) R := fun {R} hR => by
    show dVar 3 _ _
    (repeat decreasing_trivial_pre_omega)
    rw [List.length_map]
    by_cases c : 1 ≤ (rows.length : Int)
    · rw [decide_eq_true c, if_pos rfl]
      refine ⟨_, _, rfl, rfl, _, rfl, ?_⟩
      rw [dec_iff (show (1 ≤ (rows.length : Int) ∧ (rows.length : Int) ≤ 1000) ↔ (rows.length : Int) ≤ 1000 from ⟨fun z => z.2, fun z => ⟨c, z⟩⟩)] at hR
      exact hR
    · rw [decide_eq_false c, if_neg (by decide)]
      rw [decide_eq_false (fun z => c z.1)] at hR
      exact ⟨_, rfl, hR⟩
  refine c10 ?_
  unfold wordOf at q
  by_cases c : rows = [] ∨ 1000 < rows.length
  · rw [if_pos c] at q
    rw [decide_eq_false (by
      rintro ⟨z1, z2⟩
      rcases c with c | c
      · rw [c] at z1; exact absurd z1 (by decide)
      · omega)]
    (repeat decreasing_trivial_pre_omega)
    exact q
  · rw [if_neg c] at q
    have pos : 0 < rows.length := List.length_pos_iff.mpr fun z => c (.inl z)
    have le : rows.length ≤ 1000 := Nat.le_of_not_lt fun z => c (.inr z)
    rw [decide_eq_true ⟨by omega, by omega⟩]
    (repeat decreasing_trivial_pre_omega)
    refine word_walk A rows [] _ _ _ _ _ _ _ (by rw [List.length_nil]; omega) so.2 ?_
    cases er : run n rs r [] rows with
    | inl w => rw [er] at q; exact q
    | inr sh =>
      rw [er] at q
      dsimp only at q ⊢
      intro hl s5 s6 s7 s8 s9 s10 s11
      rw [List.length_nil, Nat.zero_add] at hl
      have ne : sh ≠ [] := fun z => by rw [z] at hl; rw [← hl] at pos; exact absurd pos (by decide)
      obtain ⟨e, he⟩ : ∃ e, sh.getLast? = some e := by
        cases h : sh.getLast? with
        | none => exact absurd (List.getLast?_eq_none_iff.mp h) ne
        | some e => exact ⟨e, rfl⟩
      rw [he] at q
      have la : L2.atI (sh.map sD) (-1) = some (sD e) := atI_last (by rw [List.getLast?_map, he]; rfl)
      (repeat decreasing_trivial_pre_omega)
      refine rIxL (d := sD e) la ?_
      (repeat decreasing_trivial_pre_omega)
      cases e with
      | none =>
        rw [decide_eq_true (show (((sX none).length : Nat) : Int) = 1 from rfl)]
        (repeat decreasing_trivial_pre_omega)
        exact q
      | some p =>
        rw [decide_eq_false (show ¬ (((sX (some p)).length : Nat) : Int) = 1 by show ¬ (2 : Int) = 1; decide)]
        (repeat decreasing_trivial_pre_omega)
        refine rIxT (d := endD r.2) rfl ?_
        (repeat decreasing_trivial_pre_omega)
        dsimp only at q
        obtain ⟨ps, e2⟩ := r
        cases e2 with
        | none =>
          rw [decide_eq_false (show ¬ (((endX (ps, (none : Option Pr)).2).length : Nat) : Int) = 3 by show ¬ (1 : Int) = 3; decide)]
          (repeat decreasing_trivial_pre_omega)
          exact q
        | some p2 =>
          rw [decide_eq_true (show (((endX (ps, some p2).2).length : Nat) : Int) = 3 from rfl)]
          (repeat decreasing_trivial_pre_omega)
          refine rIxL (d := sD (some p)) la ?_
          (repeat decreasing_trivial_pre_omega)
          refine rIxT (d := endD (some p2)) rfl ?_
          (repeat decreasing_trivial_pre_omega)
          refine rIxT (d := .int p2.1) rfl ?_
          (repeat decreasing_trivial_pre_omega)
          refine rIxT (d := endD (some p2)) rfl ?_
          (repeat decreasing_trivial_pre_omega)
          refine rIxT (d := .int p2.2) rfl ?_
          (repeat decreasing_trivial_pre_omega)
          refine eq_d (x := prD p) (y := prD p2) (okI_pr p).ok (okI_pr p2).ok ?_
          rw [eqD_pr]
          (repeat decreasing_trivial_pre_omega)
          by_cases c2 : p = p2
          · rw [if_pos (show some p2 = some p by rw [c2])] at q
            rw [decide_eq_true c2]
            (repeat decreasing_trivial_pre_omega)
            exact q
          · rw [if_neg (fun z : some p2 = some p => c2 (Option.some.inj z).symm)] at q
            rw [decide_eq_false c2]
            (repeat decreasing_trivial_pre_omega)
            exact q
end K12.K32

namespace K32
open PySem PySem.Spec PyProof.Rows L2 Dl Ns Zs Rk K12 K12.K32
abbrev N__law_own_steps : List Str := ["_law_n", "_law_rules", "_law_rule_here", "_law_rows", "_law_shown", "_law_x", "_law_k", "_law_turn", "_law_many", "_law_y", "_law_backs", "_law_z", "_law_premises", "_law_end", "_law_row", "_law_couple"]
theorem sc__law_own_steps : FnScope N__law_own_steps ["_law_n", "_law_rules", "_law_rule_here"] (defScope s__law_own_steps) := ⟨rfl, rfl, rfl, by decide +kernel, rfl, by decide +kernel, by decide +kernel⟩
def d__law_own_steps (K : PySem.W.Frag) (Ed : DEnv → Exc → Prop) : TSD := sSeq (sNew 3 (fLst (dNil))) (sSeq (sNew 4 (fLst (dNil))) (sSeq (sFor (idRng1 (dCons (dVar 0) (dNil))) (gdName 5) (sSeq (sApp 3 (dTup (dCons (dC (.str "self")) (dCons (dVar 5) (dNil))))) (sApp 4 (dTup (dCons (dVar 5) (dCons (dVar 5) (dNil))))))) (sSeq (sFor (idRng1 (dCons (dCB bLen (dCons (dOp fIx (dVar 2) (dC (.int 0))) (dNil))) (dNil))) (gdName 6) (sSeq (sAsgG (dOp fIx (dOp fIx (dVar 2) (dC (.int 0))) (dVar 6)) (Fn.gdSeq [5, 9])) (sSeq (sNew 3 (Nw.fCatF (dVar 3) (dLst (dCons (dTup (dCons (dC (.str "given")) (dCons (dVar 6) (dCons (dC (.int 0)) (dNil))))) (dCons (dTup (dCons (dC (.str "given")) (dCons (dVar 6) (dCons (dC (.int 1)) (dNil))))) (dNil)))))) (sNew 4 (Nw.fCatF (dVar 4) (dLst (dCons (dTup (dCons (dVar 5) (dCons (dVar 9) (dNil)))) (dCons (dTup (dCons (dVar 9) (dCons (dVar 5) (dNil)))) (dNil))))))))) (sSeq (sFor (idRng1 (dCons (dC (.int 80)) (dNil))) (gdName 7) (sSeq (sAsg 8 (dCB bLen (dCons (dVar 3) (dNil)))) (sSeq (sFor (idRng1 (dCons (dVar 0) (dNil))) (gdName 9) (sFor (idRng1 (dCons (dVar 0) (dNil))) (gdName 5) (sFor (idRng1 (dCons (dVar 0) (dNil))) (gdName 11) (sIf (dAnd (dTest (dOp (fIn false) (dTup (dCons (dVar 5) (dCons (dVar 9) (dNil)))) (dVar 4))) (dAnd (dTest (dOp (fIn false) (dTup (dCons (dVar 9) (dCons (dVar 11) (dNil)))) (dVar 4))) (dTest (dOp (fIn true) (dTup (dCons (dVar 5) (dCons (dVar 11) (dNil)))) (dVar 4))))) (sSeq (sApp 3 (dTup (dCons (dC (.str "through")) (dCons (dIndex (dVar 4) (dTup (dCons (dVar 5) (dCons (dVar 9) (dNil))))) (dCons (dIndex (dVar 4) (dTup (dCons (dVar 9) (dCons (dVar 11) (dNil))))) (dNil)))))) (sApp 4 (dTup (dCons (dVar 5) (dCons (dVar 11) (dNil)))))) (sNext))))) (sSeq (sFor (idRng1 (dCons (dCB bLen (dCons (dVar 1) (dNil))) (dNil))) (gdName 6) (sSeq (sAsgG (dOp fIx (dVar 1) (dVar 6)) (Fn.gdSeq [12, 13])) (sSeq (sNew 10 (fLst (dNil))) (sSeq (sFor (idVar 12) (gdTup [5, 9]) (sNew 10 (Nw.fCatF (dVar 10) (dLst (dCons (dTup (dCons (dVar 5) (dCons (dVar 9) (dNil)))) (dCons (dTup (dCons (dVar 9) (dCons (dVar 5) (dNil)))) (dNil))))))) (sIf (dB (dCB bAll (dCons (dF (fLc (idVar 10) (gdName 15) (dYes) (dOp (fIn false) (dVar 15) (dVar 4)) (([("_law_couple", 15)] : List (Str × Nat)).map (·.2)))) (dNil)))) (sSeq (sAsg 14 (dTup (dCons (dC (.str "rule")) (dCons (dVar 6) (dCons (dCB bTup (dCons (dF (fLc (idVar 10) (gdName 15) (dYes) (dIndex (dVar 4) (dVar 15)) (([("_law_couple", 15)] : List (Str × Nat)).map (·.2)))) (dNil))) (dNil)))))) (sSeq (sIf (dTest (dOp (fEq false) (dCB bLen (dCons (dVar 13) (dNil))) (dC (.int 1)))) (Fr.sRetR (Nw.fCatF (dVar 3) (dLst (dCons (dVar 14) (dNil))))) (sNext)) (sIf (dTest (dOp (fIn true) (dTup (dCons (dOp fIx (dVar 13) (dC (.int 1))) (dCons (dOp fIx (dVar 13) (dC (.int 2))) (dNil)))) (dVar 4))) (sSeq (sApp 3 (dVar 14)) (sApp 4 (dTup (dCons (dOp fIx (dVar 13) (dC (.int 1))) (dCons (dOp fIx (dVar 13) (dC (.int 2))) (dNil)))))) (sNext)))) (sNext)))))) (sIf (dTest (dOp (fEq false) (dCB bLen (dCons (dVar 3) (dNil))) (dVar 8))) (Fr.sRetR (Fr.rOwn 3)) (sNext)))))) (Fr.sRetR (Fr.rOwn 3))))))
theorem pd__law_own_steps {P : Program} {w : World} {K : PySem.W.Frag} {mg : Str → Option Value} {base : Heap} {I : HI} {fa : Addr} {cdv : Value} {A : Around} {outer : List Env} {s : Shared} {H : Hp} {E : XK} {Ed : Exc → Prop} (T : Tf K mg) 
    (hr : Room 1 (A.deeper (envOfC "_law_own_steps" (defScope s__law_own_steps) s.heap.objs.size fa cdv))) (tk : Takes (cxD P w K mg base N__law_own_steps "_law_own_steps" (defScope s__law_own_steps) fa cdv A outer s H E) (gOf I Ed E).W) :
    PSsD (cxD P w K mg base N__law_own_steps "_law_own_steps" (defScope s__law_own_steps) fa cdv A outer s H E) (gOf I Ed E) (defBody s__law_own_steps) (d__law_own_steps K (gOf I Ed E).Ed) :=
  by
  have nd := sc__law_own_steps.nd
  refine ds_cons ?_ ?_
  refine ds_new (i := 3) ?_ ?_ ?_ ?_
  exact nd
  exact rfl
  (first | exact Or.inl rfl | exact Or.inr rfl)
  refine f_lst ?_
  exact da_nil
  refine ds_cons ?_ ?_
  refine ds_new (i := 4) ?_ ?_ ?_ ?_
  exact nd
  exact rfl
  (first | exact Or.inl rfl | exact Or.inr rfl)
  refine f_lst ?_
  exact da_nil
  refine ds_cons ?_ ?_
  refine ds_for ?_ ?_ ?_ ?_ ?_
  exact passes_of rfl
  exact rfl
  refine di_range1 rfl T.n_range ?_
  refine da_cons ?_ ?_
  exact dv 0
  exact da_nil
  exact dg_name (i := 5) nd rfl (by first | exact Or.inl rfl | exact Or.inr rfl)
  refine ds_cons ?_ ?_
  refine ds_app (i := 3) ?_ ?_ ?_
  exact rfl
  (first | exact Or.inl rfl | exact Or.inr (Or.inl rfl))
  refine d_tup ?_
  refine da_cons ?_ ?_
  exact d_str
  refine da_cons ?_ ?_
  exact dv 5
  exact da_nil
  refine ds_one ?_
  refine ds_app (i := 4) ?_ ?_ ?_
  exact rfl
  (first | exact Or.inl rfl | exact Or.inr (Or.inl rfl))
  refine d_tup ?_
  refine da_cons ?_ ?_
  exact dv 5
  refine da_cons ?_ ?_
  exact dv 5
  exact da_nil
  refine ds_cons ?_ ?_
  refine ds_for ?_ ?_ ?_ ?_ ?_
  exact passes_of rfl
  exact rfl
  refine di_range1 rfl T.n_range ?_
  refine da_cons ?_ ?_
  refine d_callB c_len rfl T.n_len PySem.boot_len ?_
  refine da_cons ?_ ?_
  refine d_ix ?_ ?_
  exact dv 2
  exact d_int
  exact da_nil
  exact da_nil
  exact dg_name (i := 6) nd rfl (by first | exact Or.inl rfl | exact Or.inr rfl)
  refine ds_cons ?_ ?_
  refine ds_asgG ?_ ?_
  refine d_ix ?_ ?_
  refine d_ix ?_ ?_
  exact dv 2
  exact d_int
  exact dv 6
  exact Fn.dg_seq (is := [5, 9]) rfl (pgs_cons (pg_name (i := 5) nd rfl (by first | exact Or.inl rfl | exact Or.inr rfl)) (pgs_cons (pg_name (i := 9) nd rfl (by first | exact Or.inl rfl | exact Or.inr rfl)) (pgs_nil)))
  refine ds_cons ?_ ?_
  refine ds_new (i := 3) ?_ ?_ ?_ ?_
  exact nd
  exact rfl
  (first | exact Or.inl rfl | exact Or.inr rfl)
  refine Nw.pf_cat ?_ ?_
  exact dv 3
  refine d_lst ?_
  refine da_cons ?_ ?_
  refine d_tup ?_
  refine da_cons ?_ ?_
  exact d_str
  refine da_cons ?_ ?_
  exact dv 6
  refine da_cons ?_ ?_
  exact d_int
  exact da_nil
  refine da_cons ?_ ?_
  refine d_tup ?_
  refine da_cons ?_ ?_
  exact d_str
  refine da_cons ?_ ?_
  exact dv 6
  refine da_cons ?_ ?_
  exact d_int
  exact da_nil
  exact da_nil
  refine ds_one ?_
  refine ds_new (i := 4) ?_ ?_ ?_ ?_
  exact nd
  exact rfl
  (first | exact Or.inl rfl | exact Or.inr rfl)
  refine Nw.pf_cat ?_ ?_
  exact dv 4
  refine d_lst ?_
  refine da_cons ?_ ?_
  refine d_tup ?_
  refine da_cons ?_ ?_
  exact dv 5
  refine da_cons ?_ ?_
  exact dv 9
  exact da_nil
  refine da_cons ?_ ?_
  refine d_tup ?_
  refine da_cons ?_ ?_
  exact dv 9
  refine da_cons ?_ ?_
  exact dv 5
  exact da_nil
  exact da_nil
  refine ds_cons ?_ ?_
  refine ds_for ?_ ?_ ?_ ?_ ?_
  exact passes_of rfl
  exact rfl
  refine di_range1 rfl T.n_range ?_
  refine da_cons ?_ ?_
  exact d_int
  exact da_nil
  exact dg_name (i := 7) nd rfl (by first | exact Or.inl rfl | exact Or.inr rfl)
  refine ds_cons ?_ ?_
  refine ds_set (i := 8) ?_ ?_ ?_ ?_
  exact nd
  exact rfl
  (first | exact Or.inl rfl | exact Or.inr rfl)
  refine d_callB c_len rfl T.n_len PySem.boot_len ?_
  refine da_cons ?_ ?_
  exact dv 3
  exact da_nil
  refine ds_cons ?_ ?_
  refine ds_for ?_ ?_ ?_ ?_ ?_
  exact passes_of rfl
  exact rfl
  refine di_range1 rfl T.n_range ?_
  refine da_cons ?_ ?_
  exact dv 0
  exact da_nil
  exact dg_name (i := 9) nd rfl (by first | exact Or.inl rfl | exact Or.inr rfl)
  refine ds_one ?_
  refine ds_for ?_ ?_ ?_ ?_ ?_
  exact passes_of rfl
  exact rfl
  refine di_range1 rfl T.n_range ?_
  refine da_cons ?_ ?_
  exact dv 0
  exact da_nil
  exact dg_name (i := 5) nd rfl (by first | exact Or.inl rfl | exact Or.inr rfl)
  refine ds_one ?_
  refine ds_for ?_ ?_ ?_ ?_ ?_
  exact passes_of rfl
  exact rfl
  refine di_range1 rfl T.n_range ?_
  refine da_cons ?_ ?_
  exact dv 0
  exact da_nil
  exact dg_name (i := 11) nd rfl (by first | exact Or.inl rfl | exact Or.inr rfl)
  refine ds_one ?_
  refine ds_if ?_ ?_ ?_
  refine PWD.pt ?_
  refine dt_and ?_ ?_
  refine dt_cmp (r_in (h65 hr)) ?_ ?_ (by with_unfolding_all rfl)
  refine d_tup ?_
  refine da_cons ?_ ?_
  exact dv 5
  refine da_cons ?_ ?_
  exact dv 9
  exact da_nil
  exact dv 4
  refine dt_and ?_ ?_
  refine dt_cmp (r_in (h65 hr)) ?_ ?_ (by with_unfolding_all rfl)
  refine d_tup ?_
  refine da_cons ?_ ?_
  exact dv 9
  refine da_cons ?_ ?_
  exact dv 11
  exact da_nil
  exact dv 4
  refine dt_and1 ?_
  refine dt_cmp (r_nin (h65 hr)) ?_ ?_ (by with_unfolding_all rfl)
  refine d_tup ?_
  refine da_cons ?_ ?_
  exact dv 5
  refine da_cons ?_ ?_
  exact dv 11
  exact da_nil
  exact dv 4
  refine ds_cons ?_ ?_
  refine ds_app (i := 3) ?_ ?_ ?_
  exact rfl
  (first | exact Or.inl rfl | exact Or.inr (Or.inl rfl))
  refine d_tup ?_
  refine da_cons ?_ ?_
  exact d_str
  refine da_cons ?_ ?_
  refine d_index (h65 hr) ?_ ?_
  exact dv 4
  refine d_tup ?_
  refine da_cons ?_ ?_
  exact dv 5
  refine da_cons ?_ ?_
  exact dv 9
  exact da_nil
  refine da_cons ?_ ?_
  refine d_index (h65 hr) ?_ ?_
  exact dv 4
  refine d_tup ?_
  refine da_cons ?_ ?_
  exact dv 9
  refine da_cons ?_ ?_
  exact dv 11
  exact da_nil
  exact da_nil
  refine ds_one ?_
  refine ds_app (i := 4) ?_ ?_ ?_
  exact rfl
  (first | exact Or.inl rfl | exact Or.inr (Or.inl rfl))
  refine d_tup ?_
  refine da_cons ?_ ?_
  exact dv 5
  refine da_cons ?_ ?_
  exact dv 11
  exact da_nil
  exact ds_nil
  refine ds_cons ?_ ?_
  refine ds_for ?_ ?_ ?_ ?_ ?_
  exact passes_of rfl
  exact rfl
  refine di_range1 rfl T.n_range ?_
  refine da_cons ?_ ?_
  refine d_callB c_len rfl T.n_len PySem.boot_len ?_
  refine da_cons ?_ ?_
  exact dv 1
  exact da_nil
  exact da_nil
  exact dg_name (i := 6) nd rfl (by first | exact Or.inl rfl | exact Or.inr rfl)
  refine ds_cons ?_ ?_
  refine ds_asgG ?_ ?_
  refine d_ix ?_ ?_
  exact dv 1
  exact dv 6
  exact Fn.dg_seq (is := [12, 13]) rfl (pgs_cons (pg_name (i := 12) nd rfl (by first | exact Or.inl rfl | exact Or.inr rfl)) (pgs_cons (pg_name (i := 13) nd rfl (by first | exact Or.inl rfl | exact Or.inr rfl)) (pgs_nil)))
  refine ds_cons ?_ ?_
  refine ds_new (i := 10) ?_ ?_ ?_ ?_
  exact nd
  exact rfl
  (first | exact Or.inl rfl | exact Or.inr rfl)
  refine f_lst ?_
  exact da_nil
  refine ds_cons ?_ ?_
  refine ds_for ?_ ?_ ?_ ?_ ?_
  exact passes_of rfl
  exact rfl
  exact di_var 12
  exact dg_tup (is := [5, 9]) rfl (pgs_cons (pg_name (i := 5) nd rfl (by first | exact Or.inl rfl | exact Or.inr rfl)) (pgs_cons (pg_name (i := 9) nd rfl (by first | exact Or.inl rfl | exact Or.inr rfl)) (pgs_nil)))
  refine ds_one ?_
  refine ds_new (i := 10) ?_ ?_ ?_ ?_
  exact nd
  exact rfl
  (first | exact Or.inl rfl | exact Or.inr rfl)
  refine Nw.pf_cat ?_ ?_
  exact dv 10
  refine d_lst ?_
  refine da_cons ?_ ?_
  refine d_tup ?_
  refine da_cons ?_ ?_
  exact dv 5
  refine da_cons ?_ ?_
  exact dv 9
  exact da_nil
  refine da_cons ?_ ?_
  refine d_tup ?_
  refine da_cons ?_ ?_
  exact dv 9
  refine da_cons ?_ ?_
  exact dv 5
  exact da_nil
  exact da_nil
  refine ds_one ?_
  refine ds_if ?_ ?_ ?_
  refine dt_val ?_
  refine d_callB (c_all rfl) rfl T.n_all boot_all ?_
  refine da_cons ?_ ?_
  refine pf_e ?_
  refine f_lc rfl nd ?_ (blkOk_by (own := [("_law_couple", 15)]) (N := N__law_own_steps) (sc := defScope s__law_own_steps) (by decide +kernel)) ?_ sg_name (gw_name (by decide)) ?_ ?_
  exact di_var 10
  exact (fun _ _ _ _ _ => pg_name (i := 15) nd rfl (by first | exact Or.inl rfl | exact Or.inr rfl))
  exact bt_nil
  refine be_of ?_
  intro _ _ _ _ _
  refine d_cmp (r_in (h65 hr)) ?_ ?_ (by with_unfolding_all rfl)
  exact dv 15
  exact dv 4
  exact da_nil
  refine ds_cons ?_ ?_
  refine ds_set (i := 14) ?_ ?_ ?_ ?_
  exact nd
  exact rfl
  (first | exact Or.inl rfl | exact Or.inr rfl)
  refine d_tup ?_
  refine da_cons ?_ ?_
  exact d_str
  refine da_cons ?_ ?_
  exact dv 6
  refine da_cons ?_ ?_
  refine d_callTy c_tup rfl T.n_tuple boot_tuple ?_
  refine da_cons ?_ ?_
  refine pf_e ?_
  refine f_lc rfl nd ?_ (blkOk_by (own := [("_law_couple", 15)]) (N := N__law_own_steps) (sc := defScope s__law_own_steps) (by decide +kernel)) ?_ sg_name (gw_name (by decide)) ?_ ?_
  exact di_var 10
  exact (fun _ _ _ _ _ => pg_name (i := 15) nd rfl (by first | exact Or.inl rfl | exact Or.inr rfl))
  exact bt_nil
  refine be_of ?_
  intro _ _ _ _ _
  refine d_index (h65 hr) ?_ ?_
  exact dv 4
  exact dv 15
  exact da_nil
  exact da_nil
  refine ds_cons ?_ ?_
  refine ds_if ?_ ?_ ?_
  refine dt_cmp (r_eq (h64 hr)) ?_ ?_ (nomark _)
  refine d_callB c_len rfl T.n_len PySem.boot_len ?_
  refine da_cons ?_ ?_
  exact dv 13
  exact da_nil
  exact d_int
  refine ds_one ?_
  exact Fr.ds_retR (Fr.r_new (Nw.pf_cat (dv 3) (d_lst (da_cons (dv 14) (da_nil)))))
  exact ds_nil
  refine ds_one ?_
  refine ds_if ?_ ?_ ?_
  refine dt_cmp (r_nin (h65 hr)) ?_ ?_ (by with_unfolding_all rfl)
  refine d_tup ?_
  refine da_cons ?_ ?_
  refine d_ix ?_ ?_
  exact dv 13
  exact d_int
  refine da_cons ?_ ?_
  refine d_ix ?_ ?_
  exact dv 13
  exact d_int
  exact da_nil
  exact dv 4
  refine ds_cons ?_ ?_
  refine ds_app (i := 3) ?_ ?_ ?_
  exact rfl
  (first | exact Or.inl rfl | exact Or.inr (Or.inl rfl))
  exact dv 14
  refine ds_one ?_
  refine ds_app (i := 4) ?_ ?_ ?_
  exact rfl
  (first | exact Or.inl rfl | exact Or.inr (Or.inl rfl))
  refine d_tup ?_
  refine da_cons ?_ ?_
  refine d_ix ?_ ?_
  exact dv 13
  exact d_int
  refine da_cons ?_ ?_
  refine d_ix ?_ ?_
  exact dv 13
  exact d_int
  exact da_nil
  exact ds_nil
  exact ds_nil
  refine ds_one ?_
  refine ds_if ?_ ?_ ?_
  refine dt_cmp (r_eq (h64 hr)) ?_ ?_ (nomark _)
  refine d_callB c_len rfl T.n_len PySem.boot_len ?_
  refine da_cons ?_ ?_
  exact dv 3
  exact da_nil
  exact dv 8
  refine ds_one ?_
  refine Fr.ds_retR ?_
  exact Fr.r_own 3 rfl (by first | exact Or.inl rfl | exact Or.inr (Or.inl rfl))
  exact ds_nil
  refine ds_one ?_
  refine Fr.ds_retR ?_
  exact Fr.r_own 3 rfl (by first | exact Or.inl rfl | exact Or.inr (Or.inl rfl))
end K32

namespace K12.K32
open PySem PySem.Spec PyProof.Rows L2 Dl Ns Zs Zz Rk Rd _root_.K32 K12
open K12.K00 (ix_D len_D)
abbrev oZ : TSD := (sIf (dAnd (dTest (dOp (fIn false) (dTup (dCons (dVar 5) (dCons (dVar 9) (dNil)))) (dVar 4))) (dAnd (dTest (dOp (fIn false) (dTup (dCons (dVar 9) (dCons (dVar 11) (dNil)))) (dVar 4))) (dTest (dOp (fIn true) (dTup (dCons (dVar 5) (dCons (dVar 11) (dNil)))) (dVar 4))))) (sSeq (sApp 3 (dTup (dCons (dC (.str "through")) (dCons (dIndex (dVar 4) (dTup (dCons (dVar 5) (dCons (dVar 9) (dNil))))) (dCons (dIndex (dVar 4) (dTup (dCons (dVar 9) (dCons (dVar 11) (dNil))))) (dNil)))))) (sApp 4 (dTup (dCons (dVar 5) (dCons (dVar 11) (dNil)))))) (sNext))
abbrev oX : TSD := (sFor (idRng1 (dCons (dVar 0) (dNil))) (gdName 11) oZ)
abbrev oY : TSD := (sFor (idRng1 (dCons (dVar 0) (dNil))) (gdName 5) oX)
abbrev oD : TSD := (sNew 10 (Nw.fCatF (dVar 10) (dLst (dCons (dTup (dCons (dVar 5) (dCons (dVar 9) (dNil)))) (dCons (dTup (dCons (dVar 9) (dCons (dVar 5) (dNil)))) (dNil))))))
abbrev oR : TSD := (sSeq (sAsgG (dOp fIx (dVar 1) (dVar 6)) (Fn.gdSeq [12, 13])) (sSeq (sNew 10 (fLst (dNil))) (sSeq (sFor (idVar 12) (gdTup [5, 9]) oD) (sIf (dB (dCB bAll (dCons (dF (fLc (idVar 10) (gdName 15) (dYes) (dOp (fIn false) (dVar 15) (dVar 4)) (([("_law_couple", 15)] : List (Str × Nat)).map (·.2)))) (dNil)))) (sSeq (sAsg 14 (dTup (dCons (dC (.str "rule")) (dCons (dVar 6) (dCons (dCB bTup (dCons (dF (fLc (idVar 10) (gdName 15) (dYes) (dIndex (dVar 4) (dVar 15)) (([("_law_couple", 15)] : List (Str × Nat)).map (·.2)))) (dNil))) (dNil)))))) (sSeq (sIf (dTest (dOp (fEq false) (dCB bLen (dCons (dVar 13) (dNil))) (dC (.int 1)))) (Fr.sRetR (Nw.fCatF (dVar 3) (dLst (dCons (dVar 14) (dNil))))) (sNext)) (sIf (dTest (dOp (fIn true) (dTup (dCons (dOp fIx (dVar 13) (dC (.int 1))) (dCons (dOp fIx (dVar 13) (dC (.int 2))) (dNil)))) (dVar 4))) (sSeq (sApp 3 (dVar 14)) (sApp 4 (dTup (dCons (dOp fIx (dVar 13) (dC (.int 1))) (dCons (dOp fIx (dVar 13) (dC (.int 2))) (dNil)))))) (sNext)))) (sNext)))))
abbrev oT : TSD := (sSeq (sAsg 8 (dCB bLen (dCons (dVar 3) (dNil)))) (sSeq (sFor (idRng1 (dCons (dVar 0) (dNil))) (gdName 9) oY) (sSeq (sFor (idRng1 (dCons (dCB bLen (dCons (dVar 1) (dNil))) (dNil))) (gdName 6) oR) (sIf (dTest (dOp (fEq false) (dCB bLen (dCons (dVar 3) (dNil))) (dVar 8))) (Fr.sRetR (Fr.rOwn 3)) (sNext)))))
structure G (n : Int) (rows : List Row) (shown : List Pr) : Prop where
  len : rows.length = shown.length
  grown : ∃ init new : List Pr, shown = init ++ new ∧ 1 ≤ init.length ∧ init.length ≤ 12 ∧ new.Nodup ∧ ∀ p ∈ new, PB n p
  ok : ∀ row ∈ rows, RowOk row ∧ (rowD row).noLst = true
def pairN (p : Pr) : Int := 4 * p.1 + p.2
theorem G.few {n : Int} {rows : List Row} {shown : List Pr} (n4 : n ≤ 4) (g : G n rows shown) : 1 ≤ shown.length ∧ shown.length ≤ 28 := by
  obtain ⟨init, new, rfl, h1, h2, nd, pb⟩ := g.grown
  have hm : (new.map pairN).Nodup := by
    refine List.pairwise_map.mpr (List.Pairwise.imp_of_mem (fun {a b} ha hb hne => ?_) nd)
    intro e
    have p1 := pb a ha
    have p2 := pb b hb
    unfold pairN at e
    obtain ⟨a1, a2⟩ := a
    obtain ⟨b1, b2⟩ := b
    obtain ⟨⟨_, _⟩, _, _⟩ := p1
    obtain ⟨⟨_, _⟩, _, _⟩ := p2
    exact hne (by rw [show a1 = b1 by omega, show a2 = b2 by omega])
  have := nodup_sub (m := iota 16) hm fun x hx => by
    obtain ⟨p, hp, rfl⟩ := List.mem_map.mp hx
    obtain ⟨⟨_, _⟩, _, _⟩ := pb p hp
    unfold pairN
    rw [mem_iota]; omega
  rw [List.length_map, iota_len] at this
  rw [List.length_append]
  omega
theorem G.more {n : Int} {rows : List Row} {shown : List Pr} (g : G n rows shown) {row : Row} {p : Pr} (h : p ∉ shown) (pb : PB n p) (ok : RowOk row ∧ (rowD row).noLst = true) : G n (rows ++ [row]) (shown ++ [p]) := by
  obtain ⟨init, new, rfl, h1, h2, nd, hb⟩ := g.grown
  refine ⟨by rw [List.length_append, List.length_append, g.len]; rfl, ⟨init, new ++ [p], by rw [List.append_assoc], h1, h2, List.nodup_append.mpr ⟨nd, by simp, fun a ha b hb2 => ?_⟩, fun q hq => ?_⟩, fun q hq => ?_⟩
  · rw [List.mem_singleton.mp hb2]
    exact fun z => h (List.mem_append_right _ (z ▸ ha))
  · rcases List.mem_append.mp hq with z | z
    · exact hb q z
    · rw [List.mem_singleton.mp z]; exact pb
  · rcases List.mem_append.mp hq with z | z
    · exact g.ok q z
    · rw [List.mem_singleton.mp z]; exact ok
theorem any_pr (p : Pr) : ∀ ps : List Pr, anyD (ps.map prD) (prD p) = decide (p ∈ ps)
  | [] => rfl
  | x :: ps => by
    show (eqD (prD x) (prD p) || anyD (ps.map prD) (prD p)) = _
    rw [eqD_pr, any_pr p ps, ← Bool.decide_or]
    exact dec_iff (by rw [List.mem_cons]; exact ⟨fun z => z.imp Eq.symm id, fun z => z.imp Eq.symm id⟩)
theorem in_pr {neg : Bool} {p : Pr} {ps : List Pr} {Q : D → Prop} (q : Q (.bl (xr neg (decide (p ∈ ps))))) : fIn neg (prD p) (.lst (ps.map prD)) Q := in_lst (okI_pr p).ok (ok_prL ps) (by rw [any_pr]; exact q)
theorem idx_pr {ta tb : TED} {env : DEnv} {p : Pr} {ps : List Pr} {Q : D → Prop} (ha : ∀ R : D → Prop, R (.lst (ps.map prD)) → ta env R) (hb : ∀ R : D → Prop, R (prD p) → tb env R) (h : p ∈ ps) (q : ∀ k : Nat, k < ps.length → Q (.int (k : Nat))) : dIndex ta tb env Q := by
  refine ha _ ⟨_, rfl, hb _ ?_⟩
  have lt : ps.idxOf p < ps.length := List.idxOf_lt_length_of_mem h
  refine ⟨ps.idxOf p, prD p, (okI_pr p).ok, ok_prL ps, ?_, ?_, fun m z' hm hz => ?_, q _ lt⟩
  · rw [List.getElem?_map, List.getElem?_eq_getElem lt, List.getElem_idxOf]
    rfl
  · rw [eqD_pr]; exact decide_eq_true rfl
  · rw [List.getElem?_map] at hz
    cases e : ps[m]? with
    | none => rw [e] at hz; cases hz
    | some y =>
      rw [e] at hz
      cases hz
      rw [eqD_pr]
      refine decide_eq_false fun z => ?_
      subst z
      exact idx_lo (show m < ps.findIdx (fun c => c == y) from hm) e
theorem ok_two {tp : Bool} {w : Wd} {x y : It} (hx : ItOk x) (hy : ItOk y) : RowOk (.sq tp w [x, y]) := ⟨Nat.le_refl 2, fun q hq => by
  simp only [List.mem_cons, List.not_mem_nil, or_false] at hq
  rcases hq with rfl | rfl
  · exact hx
  · exact hy⟩
theorem ok_one {tp : Bool} {w : Wd} {x : It} (hx : ItOk x) : RowOk (.sq tp w [x]) := ⟨Nat.le_of_ble_eq_true rfl, fun q hq => by rw [List.mem_singleton.mp hq]; exact hx⟩
theorem ok_nat {i : Nat} (h : i ≤ 100000) : ItOk (.a (.i i)) := by
  show -(100000 : Int) ≤ (i : Nat) ∧ ((i : Nat) : Int) ≤ 100000
  omega
def St (n : Int) (rs : List Rl) (r : Rl) (s8 : Slot) (c : Slot → Slot → Prop) (env : DEnv) : Prop := ∃ (rows : List Row) (sh : List Pr) (s5 s6 s7 s9 s10 s11 s12 s13 s14 s15 : Slot),
  env = [.val (.int n), .val (.lst (rs.map ruleT)), .val (ruleT r), .own (rows.map rowD), .own (sh.map prD), s5, s6, s7, s8, s9, s10, s11, s12, s13, s14, s15] ∧ G n rows sh ∧ c s5 s9
theorem z_step {n : Int} {rs : List Rl} {r : Rl} (A : Ask n rs r) (n4 : n ≤ 4) {s8 : Slot} {Dd : DEnds} {x y z : Int} (hx : 0 ≤ x ∧ x < n) (hy : 0 ≤ y ∧ y < n) (hz : 0 ≤ z ∧ z < n) {rows : List Row} {sh : List Pr} (g : G n rows sh) {s6 s7 s10 s12 s13 s14 s15 : Slot}
    (k : ∀ rows sh, G n rows sh → Dd.nx [.val (.int n), .val (.lst (rs.map ruleT)), .val (ruleT r), .own (rows.map rowD), .own (sh.map prD), .val (.int x), s6, s7, s8, .val (.int y), s10, .val (.int z), s12, s13, s14, s15]) :
    oZ Dd [.val (.int n), .val (.lst (rs.map ruleT)), .val (ruleT r), .own (rows.map rowD), .own (sh.map prD), .val (.int x), s6, s7, s8, .val (.int y), s10, .val (.int z), s12, s13, s14, s15] := by
  have big : (1000 : Nat) < sizeLine := by decide
  obtain ⟨l1, l28⟩ := g.few n4
  have lr := g.len
  show sIf _ _ _ _ _
  (repeat decreasing_trivial_pre_omega)
  refine in_pr (p := (x, y)) ?_
  (repeat decreasing_trivial_pre_omega)
  by_cases c1 : (x, y) ∈ sh
  · rw [decide_eq_true c1]
    (repeat decreasing_trivial_pre_omega)
    refine in_pr (p := (y, z)) ?_
    (repeat decreasing_trivial_pre_omega)
    by_cases c2 : (y, z) ∈ sh
    · rw [decide_eq_true c2]
      (repeat decreasing_trivial_pre_omega)
      refine in_pr (p := (x, z)) ?_
      (repeat decreasing_trivial_pre_omega)
      by_cases c3 : (x, z) ∈ sh
      · rw [decide_eq_true c3]
        (repeat decreasing_trivial_pre_omega)
        exact k _ _ g
      · rw [decide_eq_false c3]
        (repeat decreasing_trivial_pre_omega)
        refine rApp rfl ?_
        (repeat decreasing_trivial_pre_omega)
        refine idx_pr (p := (x, y)) (ps := sh) (fun R hR => by (repeat decreasing_trivial_pre_omega); exact hR) (fun R hR => by (repeat decreasing_trivial_pre_omega); exact hR) c1 fun i hi => ?_
        (repeat decreasing_trivial_pre_omega)
        refine idx_pr (p := (y, z)) (ps := sh) (fun R hR => by (repeat decreasing_trivial_pre_omega); exact hR) (fun R hR => by (repeat decreasing_trivial_pre_omega); exact hR) c2 fun j hj => ?_
        (repeat decreasing_trivial_pre_omega)
        refine ⟨rfl, by rw [List.length_map]; omega, ?_⟩
        refine rApp rfl ?_
        (repeat decreasing_trivial_pre_omega)
        refine ⟨rfl, by rw [List.length_map]; omega, ?_⟩
        have z := k (rows ++ [.sq true .through [.a (.i i), .a (.i j)]]) (sh ++ [(x, z)]) (g.more c3 ⟨hx, hz⟩ ⟨ok_two (ok_nat (by omega)) (ok_nat (by omega)), rfl⟩)
        rw [List.map_append, List.map_append] at z
        exact z
    · rw [decide_eq_false c2]
      (repeat decreasing_trivial_pre_omega)
      exact k _ _ g
  · rw [decide_eq_false c1]
    (repeat decreasing_trivial_pre_omega)
    exact k _ _ g
theorem in_iota {n x : Int} (h : x ∈ iota n.toNat) (n1 : 1 ≤ n) : 0 ≤ x ∧ x < n := by
  have := mem_iota.mp h
  omega
theorem rg_n {n : Int} {rs : List Rl} {r : Rl} (n1 : 1 ≤ n) (n4 : n ≤ 4) {s8 : Slot} {c : Slot → Slot → Prop} {env : DEnv} {R : List D → Prop} (h : St n rs r s8 c env) (hR : R ((iota n.toNat).map D.int)) : idRng1 (dCons (dVar 0) (dNil)) env R := by
  obtain ⟨rows, sh, s5, s6, s7, s9, s10, s11, s12, s13, s14, s15, e, g⟩ := h
  subst e
  (repeat decreasing_trivial_pre_omega)
  refine ⟨n, rfl, ⟨by omega, by omega⟩, ?_⟩
  rw [rng_iota]
  exact hR
theorem z_loop {n : Int} {rs : List Rl} {r : Rl} (A : Ask n rs r) (n4 : n ≤ 4) {s8 : Slot} {Dd : DEnds} {env : DEnv} {x y : Int} (hx : 0 ≤ x ∧ x < n) (hy : 0 ≤ y ∧ y < n) (h : St n rs r s8 (fun s5 s9 => s5 = .val (.int x) ∧ s9 = .val (.int y)) env) (k : ∀ env, St n rs r s8 (fun s5 s9 => s5 = .val (.int x) ∧ s9 = .val (.int y)) env → Dd.nx env) : sFor (idRng1 (dCons (dVar 0) (dNil))) (gdName 11) oZ Dd env := by
  refine rg_n A.lo n4 h ?_
  refine for_ok _ _ _ h (fun z hz env nx he kk => ?_) k
  obtain ⟨z, h0, rfl⟩ := List.mem_map.mp hz
  have hz := in_iota h0 A.lo
  obtain ⟨rows, sh, s5, s6, s7, s9, s10, s11, s12, s13, s14, s15, rfl, g, rfl, rfl⟩ := he
  refine z_step A n4 hx hy hz g fun rows sh g => kk _ ⟨rows, sh, _, _, _, _, _, _, _, _, _, _, rfl, g, rfl, rfl⟩
theorem x_loop {n : Int} {rs : List Rl} {r : Rl} (A : Ask n rs r) (n4 : n ≤ 4) {s8 : Slot} {Dd : DEnds} {env : DEnv} {y : Int} (hy : 0 ≤ y ∧ y < n) (h : St n rs r s8 (fun _ s9 => s9 = .val (.int y)) env) (k : ∀ env, St n rs r s8 (fun _ s9 => s9 = .val (.int y)) env → Dd.nx env) : sFor (idRng1 (dCons (dVar 0) (dNil))) (gdName 5) oX Dd env := by
  refine rg_n A.lo n4 h ?_
  refine for_ok _ _ _ h (fun x hx env nx he kk => ?_) k
  obtain ⟨x, h0, rfl⟩ := List.mem_map.mp hx
  have hx := in_iota h0 A.lo
  obtain ⟨rows, sh, s5, s6, s7, s9, s10, s11, s12, s13, s14, s15, rfl, g, rfl⟩ := he
  refine z_loop A n4 hx hy ⟨rows, sh, _, _, _, _, _, _, _, _, _, _, rfl, g, rfl, rfl⟩ fun env ⟨rows, sh, s5, s6, s7, s9, s10, s11, s12, s13, s14, s15, e, g, e1, e2⟩ => kk env ⟨rows, sh, s5, s6, s7, s9, s10, s11, s12, s13, s14, s15, e, g, e2⟩
theorem y_loop {n : Int} {rs : List Rl} {r : Rl} (A : Ask n rs r) (n4 : n ≤ 4) {s8 : Slot} {Dd : DEnds} {env : DEnv} (h : St n rs r s8 (fun _ _ => True) env) (k : ∀ env, St n rs r s8 (fun _ _ => True) env → Dd.nx env) : sFor (idRng1 (dCons (dVar 0) (dNil))) (gdName 9) oY Dd env := by
  refine rg_n A.lo n4 h ?_
  refine for_ok _ _ _ h (fun y hy env nx he kk => ?_) k
  obtain ⟨y, h0, rfl⟩ := List.mem_map.mp hy
  have hy := in_iota h0 A.lo
  obtain ⟨rows, sh, s5, s6, s7, s9, s10, s11, s12, s13, s14, s15, rfl, g, _⟩ := he
  refine x_loop A n4 hy ⟨rows, sh, _, _, _, _, _, _, _, _, _, _, rfl, g, rfl⟩ fun env ⟨rows, sh, s5, s6, s7, s9, s10, s11, s12, s13, s14, s15, e, g, _⟩ => kk env ⟨rows, sh, s5, s6, s7, s9, s10, s11, s12, s13, s14, s15, e, g, trivial⟩
theorem due_walk2 {v0 v1 v2 v6 v7 v8 v11 v12 v13 v14 v15 : Slot} {sh rw_ : List D} {Dd : DEnds} : ∀ (ps : List Pr) (acc : List Pr) (s5 s9 : Slot), acc.length + 2 * ps.length ≤ 1000 →
    (∀ s5 s9, Dd.nx [v0, v1, v2, .own rw_, .own sh, s5, v6, v7, v8, s9, .own ((acc ++ endsOf ps).map prD), v11, v12, v13, v14, v15]) →
    forD (gdTup [5, 9]) oD Dd (ps.map prD) [v0, v1, v2, .own rw_, .own sh, s5, v6, v7, v8, s9, .own (acc.map prD), v11, v12, v13, v14, v15]
  | [], acc, s5, s9, _, q => by
    have := q s5 s9
    rw [show acc ++ endsOf [] = acc from List.append_nil _] at this
    exact this
  | p :: ps, acc, s5, s9, l, q => by
    rw [List.length_cons] at l
    refine ⟨_, rfl, rfl, ?_⟩
    show sNew _ _ _ [v0, v1, v2, .own rw_, .own sh, .val (.int p.1), v6, v7, v8, .val (.int p.2), .own (acc.map prD), v11, v12, v13, v14, v15]
    unfold sNew Nw.fCatF
    (repeat decreasing_trivial_pre_omega)
    refine ⟨_, _, rfl, rfl, by rw [List.length_map]; have : (2000 : Nat) < sizeLine := (by decide); show acc.length + 2 ≤ sizeLine; omega, ?_⟩
    refine ⟨Nat.le_of_ble_eq_true rfl, .inr ?_, ?_⟩
    · exact noLst_of fun x hx => by
        rcases List.mem_append.mp hx with z | z
        · obtain ⟨y, _, rfl⟩ := List.mem_map.mp z; rfl
        · simp only [List.mem_cons, List.not_mem_nil, or_false] at z
          rcases z with rfl | rfl <;> rfl
    have z := due_walk2 (v0 := v0) (v1 := v1) (v2 := v2) (v6 := v6) (v7 := v7) (v8 := v8) (v11 := v11) (v12 := v12) (v13 := v13) (v14 := v14) (v15 := v15) (rw_ := rw_) (sh := sh) (Dd := Dd) ps (acc ++ [(p.1, p.2), (p.2, p.1)]) (.val (.int p.1)) (.val (.int p.2)) (by rw [List.length_append]; show acc.length + 2 + _ ≤ _; omega) (fun s5 s9 => by
      have := q s5 s9
      rw [show acc ++ endsOf (p :: ps) = (acc ++ [(p.1, p.2), (p.2, p.1)]) ++ endsOf ps by simp [endsOf]] at this
      exact this)
    rw [List.map_append] at z
    exact z
theorem endsOf_len : ∀ ps : List Pr, (endsOf ps).length = 2 * ps.length
  | [] => rfl
  | p :: ps => by
    have e : endsOf (p :: ps) = p :: (p.2, p.1) :: endsOf ps := rfl
    rw [e, List.length_cons, List.length_cons, endsOf_len ps, List.length_cons]
    omega
theorem lift_b {m : Nat} : ∀ {ys : List D}, (∀ y ∈ ys, ∃ i : Nat, y = .int (i : Nat) ∧ i < m) → ∃ bs : List Int, ys = bs.map D.int ∧ bs.length = ys.length ∧ ∀ b ∈ bs, 0 ≤ b ∧ b < (m : Nat)
  | [], _ => ⟨[], rfl, rfl, fun b hb => by cases hb⟩
  | y :: ys, h => by
    obtain ⟨i, rfl, hi⟩ := h y List.mem_cons_self
    obtain ⟨bs, e, l, hb⟩ := lift_b fun z hz => h z (List.mem_cons_of_mem _ hz)
    refine ⟨(i : Nat) :: bs, by rw [e]; rfl, by rw [List.length_cons, l]; rfl, fun b hm => ?_⟩
    rcases List.mem_cons.mp hm with rfl | hm
    · omega
    · exact hb b hm
theorem r_step {n : Int} {rs : List Rl} {r : Rl} (A : Ask n rs r) (n4 : n ≤ 4) {Q : List D → Prop} {s8 : Slot} {Dd : DEnds} (hrf : ∀ ds, Q ds → Dd.rf ds) (hQ : ∀ rows : List Row, 1 ≤ rows.length → rows.length ≤ 200 → (∀ row ∈ rows, RowOk row) → Q (rows.map rowD))
    {k : Nat} (hk : k < rs.length) {rows : List Row} {sh : List Pr} (g : G n rows sh) {s5 s7 s9 s10 s11 s12 s13 s14 s15 : Slot}
    (kk : ∀ env, St n rs r s8 (fun _ _ => True) env → Dd.nx env) :
    oR Dd [.val (.int n), .val (.lst (rs.map ruleT)), .val (ruleT r), .own (rows.map rowD), .own (sh.map prD), s5, .val (.int (k : Nat)), s7, s8, s9, s10, s11, s12, s13, s14, s15] := by
  have big : (1000 : Nat) < sizeLine := by decide
  obtain ⟨l1, l28⟩ := g.few n4
  have lr := g.len
  have hg := A.all rs[k] (List.getElem_mem hk)
  show sSeq _ _ _ _
  unfold sAsgG
  (repeat decreasing_trivial_pre_omega)
  refine rIxL (d := ruleT rs[k]) (atI_nat (by rw [List.getElem?_map, List.getElem?_eq_getElem hk]; rfl)) ?_
  refine ⟨.inr (nol_ruleT _), _, rfl, rfl, ?_⟩
  show sSeq _ _ _ [.val (.int n), .val (.lst (rs.map ruleT)), .val (ruleT r), .own (rows.map rowD), .own (sh.map prD), s5, .val (.int (k : Nat)), s7, s8, s9, s10, s11, .val (premD rs[k].1), .val (endD rs[k].2), s14, s15]
  (repeat decreasing_trivial_pre_omega)
  refine due_walk2 rs[k].1 [] _ _ (by rw [List.length_nil]; have := hg.1; omega) fun s5 s9 => ?_
  rw [List.nil_append]
  have el := endsOf_len rs[k].1
  have e4 := hg.1
  (repeat decreasing_trivial_pre_omega)
  refine ⟨by rw [List.length_map]; omega, ?_⟩
  refine lc_emb prD (fun p => .bl (decide (p ∈ sh))) (fun _ => true) (endsOf rs[k].1) [] (fun p hp S hS => ?_) ?_
  · (repeat decreasing_trivial_pre_omega)
    refine in_pr (p := p) ?_
    exact ⟨rfl, hS⟩
  rw [fil_true, List.nil_append]
  (repeat decreasing_trivial_pre_omega)
  refine ⟨(endsOf rs[k].1).map fun p => decide (p ∈ sh), by rw [List.map_map]; rfl, ?_⟩
  rw [List.all_map]
  by_cases c : (endsOf rs[k].1).all (fun p => decide (p ∈ sh)) = true
  · rw [show (endsOf rs[k].1).all (id ∘ fun p => decide (p ∈ sh)) = true from c]
    have hm : ∀ p ∈ endsOf rs[k].1, p ∈ sh := fun p hp => of_decide_eq_true (List.all_eq_true.mp c p hp)
    (repeat decreasing_trivial_pre_omega)
    refine ⟨by rw [List.length_map]; omega, ?_⟩
    refine lcD_draw (fun y => ∃ i : Nat, y = .int (i : Nat) ∧ i < sh.length) (fun y ⟨i, e, _⟩ => by rw [e]; rfl) _ [] (fun x hx R hR => ?_) fun ys hl hy => ?_
    · obtain ⟨p, hp, rfl⟩ := List.mem_map.mp hx
      refine idx_pr (p := p) (ps := sh) (fun R hR => by (repeat decreasing_trivial_pre_omega); exact hR) (fun R hR => by (repeat decreasing_trivial_pre_omega); exact hR) (hm p hp) fun i hi => ?_
      exact hR _ ⟨i, rfl, hi⟩
    obtain ⟨bs, rfl, bl, hb⟩ := lift_b hy
    rw [List.length_map, List.length_map] at hl
    rw [List.nil_append]
    let row : Row := .sq true .rule [.a (.i (k : Nat)), .l true (bs.map At.i)]
    have er : rowD row = .tup [.str "rule", .int (k : Nat), .tup (bs.map D.int)] := by
      show D.tup [_, _, .tup ((bs.map At.i).map atD)] = _
      rw [List.map_map]
      rfl
    have nr : (rowD row).noLst = true := by
      rw [er]
      show noLstA [.str "rule", .int (k : Nat), .tup (bs.map D.int)] = true
      have : (D.tup (bs.map D.int)).noLst = true := nolT bs
      simp only [noLstA, this, Bool.and_true]
      rfl
    have okr : RowOk row := by
      have few := A.few
      refine ok_two (ok_nat (by omega)) ⟨by rw [List.length_map]; omega, fun x hx => ?_⟩
      obtain ⟨b, hbm, rfl⟩ := List.mem_map.mp hx
      have := hb b hbm
      show -(100000 : Int) ≤ b ∧ b ≤ 100000
      omega
    (repeat decreasing_trivial_pre_omega)
    rw [← er]
    refine ⟨.inr nr, ?_⟩
    (repeat decreasing_trivial_pre_omega)
    cases ee : rs[k].2 with
    | none =>
      rw [decide_eq_true (show (((endX none).length : Nat) : Int) = 1 from rfl)]
      (repeat decreasing_trivial_pre_omega)
      unfold Fr.sRetR Nw.fCatF
      (repeat decreasing_trivial_pre_omega)
      refine ⟨_, _, rfl, rfl, by rw [List.length_map]; show rows.length + 1 ≤ sizeLine; omega, ?_⟩
      refine hrf _ ?_
      have z := hQ (rows ++ [row]) (by rw [List.length_append]; omega) (by rw [List.length_append, List.length_singleton]; omega) fun q hq => by
        rcases List.mem_append.mp hq with z | z
        · exact (g.ok q z).1
        · rw [List.mem_singleton.mp z]; exact okr
      rw [List.map_append] at z
      exact z
    | some p =>
      rw [decide_eq_false (show ¬ (((endX (some p)).length : Nat) : Int) = 1 by show ¬ (3 : Int) = 1; decide)]
      (repeat decreasing_trivial_pre_omega)
      refine rIxT (d := .int p.1) rfl ?_
      (repeat decreasing_trivial_pre_omega)
      refine rIxT (d := .int p.2) rfl ?_
      (repeat decreasing_trivial_pre_omega)
      refine in_pr (p := (p.1, p.2)) ?_
      (repeat decreasing_trivial_pre_omega)
      by_cases c2 : (p.1, p.2) ∈ sh
      · rw [decide_eq_true c2]
        (repeat decreasing_trivial_pre_omega)
        exact kk _ ⟨rows, sh, _, _, _, _, _, _, _, _, _, _, rfl, g, trivial⟩
      · rw [decide_eq_false c2]
        (repeat decreasing_trivial_pre_omega)
        refine rApp rfl ?_
        (repeat decreasing_trivial_pre_omega)
        refine ⟨nr, by rw [List.length_map]; omega, ?_⟩
        refine rApp rfl ?_
        (repeat decreasing_trivial_pre_omega)
        refine rIxT (d := .int p.1) rfl ?_
        (repeat decreasing_trivial_pre_omega)
        refine rIxT (d := .int p.2) rfl ?_
        (repeat decreasing_trivial_pre_omega)
        refine ⟨rfl, by rw [List.length_map]; omega, ?_⟩
        exact kk _ ⟨rows ++ [row], sh ++ [(p.1, p.2)], _, _, _, _, _, _, _, _, _, _, by rw [List.map_append, List.map_append]; rfl, g.more c2 (hg.2.2 p ee) ⟨okr, nr⟩, trivial⟩
  · rw [show (endsOf rs[k].1).all (id ∘ fun p => decide (p ∈ sh)) = false from Bool.eq_false_iff.mpr c]
    (repeat decreasing_trivial_pre_omega)
    exact kk _ ⟨rows, sh, _, _, _, _, _, _, _, _, _, _, rfl, g, trivial⟩
theorem t_step {n : Int} {rs : List Rl} {r : Rl} (A : Ask n rs r) (n4 : n ≤ 4) {Q : List D → Prop} {Dd : DEnds} (hrf : ∀ ds, Q ds → Dd.rf ds) (hQ : ∀ rows : List Row, 1 ≤ rows.length → rows.length ≤ 200 → (∀ row ∈ rows, RowOk row) → Q (rows.map rowD))
    {env : DEnv} (h : ∃ s8, St n rs r s8 (fun _ _ => True) env) (kk : ∀ env, (∃ s8, St n rs r s8 (fun _ _ => True) env) → Dd.nx env) : oT Dd env := by
  obtain ⟨s8, rows, sh, s5, s6, s7, s9, s10, s11, s12, s13, s14, s15, rfl, g, _⟩ := h
  refine rSeq (rAsg (rCB (rCons (rVar rfl rfl (rNil (rLenL (rKeep (.inr rfl) (rSeq ?_))))))))
  refine y_loop A n4 (s8 := .val (.int ((rows.map rowD).length : Nat))) ⟨rows, sh, s5, s6, s7, s9, s10, s11, s12, s13, s14, s15, rfl, g, trivial⟩ fun env he => ?_
  have few := A.few
  have he' := he
  obtain ⟨rows2, sh2, t5, t6, t7, t9, t10, t11, t12, t13, t14, t15, rfl, g2, _⟩ := he
  (repeat decreasing_trivial_pre_omega)
  refine ⟨(rs.length : Nat), by rw [List.length_map], ⟨by omega, by omega⟩, ?_⟩
  rw [Int.toNat_natCast, rng_iota]
  refine for_ok _ _ _ he' (fun x hx env nx he kk2 => ?_) fun env he => ?_
  · obtain ⟨k, h0, rfl⟩ := List.mem_map.mp hx
    obtain ⟨k0, k1⟩ := mem_iota.mp h0
    obtain ⟨j, rfl⟩ := Int.eq_ofNat_of_zero_le k0
    have hj : j < rs.length := by omega
    obtain ⟨rows, sh, s5, s6, s7, s9, s10, s11, s12, s13, s14, s15, rfl, g, _⟩ := he
    show oR _ [.val (.int n), .val (.lst (rs.map ruleT)), .val (ruleT r), .own (rows.map rowD), .own (sh.map prD), s5, .val (.int (j : Nat)), s7, _, s9, s10, s11, s12, s13, s14, s15]
    refine r_step A n4 (Q := Q) (k := j) ?_ ?_ hj g ?_
    · exact hrf
    · exact hQ
    · exact kk2
  · obtain ⟨rows3, sh3, s5, s6, s7, s9, s10, s11, s12, s13, s14, s15, rfl, g3, _⟩ := he
    obtain ⟨l1, l28⟩ := g3.few n4
    have lr := g3.len
    (repeat decreasing_trivial_pre_omega)
    by_cases c : (((rows3.map rowD).length : Nat) : Int) = (((rows.map rowD).length : Nat) : Int)
    · rw [decide_eq_true c]
      (repeat decreasing_trivial_pre_omega)
      exact ⟨_, rfl, hrf _ (hQ rows3 (by omega) (by omega) fun q hq => (g3.ok q hq).1)⟩
    · rw [decide_eq_false c]
      (repeat decreasing_trivial_pre_omega)
      exact kk _ ⟨_, rows3, sh3, _, _, _, _, _, _, _, _, _, _, rfl, g3, trivial⟩
theorem ct__law_own_steps {K : PySem.W.Frag} {ds : List D} {Qd : List D → Prop} {Ed : Exc → Prop} (h : C__law_own_steps K ds Qd Ed) : d__law_own_steps K (fun _ x => Ed x) (eF Qd) (startD N__law_own_steps ds) := by
  obtain ⟨n, rs, r, rfl, A, n4, q⟩ := h
  have n1 := A.lo
  have big : (1000 : Nat) < sizeLine := by decide
  unfold d__law_own_steps
  (repeat decreasing_trivial_pre_omega)
  refine ⟨n, rfl, ⟨by omega, by omega⟩, ?_⟩
  rw [rng_iota]
  refine emb_inv D.int (fun done env => ∃ (rows : List Row) (sh : List Pr) (s5 : Slot), env = [.val (.int n), .val (.lst (rs.map ruleT)), .val (ruleT r), .own (rows.map rowD), .own (sh.map prD), s5, .no, .no, .no, .no, .no, .no, .no, .no, .no, .no] ∧ rows.length = done.length ∧ sh.length = done.length ∧ ∀ row ∈ rows, RowOk row ∧ (rowD row).noLst = true)
    (fun done rest x env nx ee ⟨rows, sh, s5, e, l1, l2, ok⟩ k => ?_) (fun env ⟨rows, sh, s5, e, l1, l2, ok⟩ => ?_) _ ⟨[], [], _, rfl, rfl, rfl, fun q hq => by cases hq⟩
  · subst e
    have hl := congrArg List.length ee
    rw [iota_len, List.length_append, List.length_cons] at hl
    have xb := in_iota (n := n) (x := x) (by rw [ee]; exact List.mem_append_right _ List.mem_cons_self) n1
    show sSeq _ _ _ _
    (repeat decreasing_trivial_pre_omega)
    refine rApp rfl ?_
    (repeat decreasing_trivial_pre_omega)
    refine ⟨rfl, by rw [List.length_map]; omega, ?_⟩
    refine rApp rfl ?_
    (repeat decreasing_trivial_pre_omega)
    refine ⟨rfl, by rw [List.length_map]; omega, ?_⟩
    refine k _ ⟨rows ++ [.sq true .self [.a (.i x)]], sh ++ [(x, x)], _, by rw [List.map_append, List.map_append]; rfl, by rw [List.length_append, List.length_append, l1]; rfl, by rw [List.length_append, List.length_append, l2]; rfl, fun q hq => ?_⟩
    rcases List.mem_append.mp hq with z | z
    · exact ok q z
    · rw [List.mem_singleton.mp z]
      refine ⟨ok_one ?_, rfl⟩
      show -(100000 : Int) ≤ x ∧ x ≤ 100000
      omega
  · subst e
    rw [iota_len] at l1 l2
    have e4 := A.one.1
    (repeat decreasing_trivial_pre_omega)
    refine rIxT (d := premD r.1) rfl ?_
    (repeat decreasing_trivial_pre_omega)
    refine ⟨(r.1.length : Nat), by rw [List.length_map], ⟨by omega, by omega⟩, ?_⟩
    rw [Int.toNat_natCast, rng_iota]
    refine emb_inv D.int (fun done env => ∃ (rows : List Row) (sh : List Pr) (s5 s6 s9 : Slot), env = [.val (.int n), .val (.lst (rs.map ruleT)), .val (ruleT r), .own (rows.map rowD), .own (sh.map prD), s5, s6, .no, .no, s9, .no, .no, .no, .no, .no, .no] ∧ rows.length = n.toNat + 2 * done.length ∧ sh.length = n.toNat + 2 * done.length ∧ ∀ row ∈ rows, RowOk row ∧ (rowD row).noLst = true)
      (fun done rest x env nx ee ⟨rows, sh, s5, s6, s9, e, l1, l2, ok⟩ k => ?_) (fun env ⟨rows, sh, s5, s6, s9, e, l1, l2, ok⟩ => ?_) _ ⟨rows, sh, _, _, _, rfl, l1, l2, ok⟩
    · subst e
      have hl := congrArg List.length ee
      rw [iota_len, List.length_append, List.length_cons] at hl
      have xb := mem_iota.mp (show x ∈ iota r.1.length by rw [ee]; exact List.mem_append_right _ List.mem_cons_self)
      obtain ⟨j, rfl⟩ := Int.eq_ofNat_of_zero_le xb.1
      have hj : j < r.1.length := by omega
      show sSeq _ _ _ _
      unfold sAsgG
      (repeat decreasing_trivial_pre_omega)
      refine rIxT (d := premD r.1) rfl ?_
      (repeat decreasing_trivial_pre_omega)
      refine rIxT (d := prD r.1[j]) (atI_nat (by rw [List.getElem?_map, List.getElem?_eq_getElem hj]; rfl)) ?_
      refine ⟨.inr rfl, _, rfl, rfl, ?_⟩
      show sSeq _ _ _ [.val (.int n), .val (.lst (rs.map ruleT)), .val (ruleT r), .own (rows.map rowD), .own (sh.map prD), .val (.int r.1[j].1), .val (.int (j : Nat)), .no, .no, .val (.int r.1[j].2), .no, .no, .no, .no, .no, .no]
      refine rSeq ?_
      unfold Nw.fCatF
      (repeat decreasing_trivial_pre_omega)
      refine ⟨_, _, rfl, rfl, by rw [List.length_map]; show rows.length + 2 ≤ sizeLine; omega, ?_⟩
      refine ⟨Nat.le_of_ble_eq_true rfl, .inr ?_, ?_⟩
      · exact noLst_of fun x hx => by
          rcases List.mem_append.mp hx with z | z
          · obtain ⟨y, hy, rfl⟩ := List.mem_map.mp z; exact (ok y hy).2
          · simp only [List.mem_cons, List.not_mem_nil, or_false] at z
            rcases z with rfl | rfl <;> rfl
      (repeat decreasing_trivial_pre_omega)
      refine ⟨_, _, rfl, rfl, by rw [List.length_map]; show sh.length + 2 ≤ sizeLine; omega, ?_⟩
      refine ⟨Nat.le_of_ble_eq_true rfl, .inr ?_, ?_⟩
      · exact noLst_of fun x hx => by
          rcases List.mem_append.mp hx with z | z
          · obtain ⟨y, hy, rfl⟩ := List.mem_map.mp z; rfl
          · simp only [List.mem_cons, List.not_mem_nil, or_false] at z
            rcases z with rfl | rfl <;> rfl
      refine k _ ⟨rows ++ [.sq true .given [.a (.i (j : Nat)), .a (.i 0)], .sq true .given [.a (.i (j : Nat)), .a (.i 1)]], sh ++ [(r.1[j].1, r.1[j].2), (r.1[j].2, r.1[j].1)], _, _, _, by rw [List.map_append, List.map_append]; rfl, by rw [List.length_append, List.length_append, l1]; show _ + 2 = _ + 2 * (_ + 1); omega, by rw [List.length_append, List.length_append, l2]; show _ + 2 = _ + 2 * (_ + 1); omega, fun q hq => ?_⟩
      rcases List.mem_append.mp hq with z | z
      · exact ok q z
      · simp only [List.mem_cons, List.not_mem_nil, or_false] at z
        rcases z with rfl | rfl
        · exact ⟨ok_two (ok_nat (by omega)) (ok_nat (i := 0) (by decide)), rfl⟩
        · exact ⟨ok_two (ok_nat (by omega)) (ok_nat (i := 1) (by decide)), rfl⟩
    · subst e
      rw [iota_len] at l1 l2
      (repeat decreasing_trivial_pre_omega)
      refine ⟨80, rfl, ⟨by decide, by decide⟩, ?_⟩
      refine for_ok (fun env => ∃ s8, St n rs r s8 (fun _ _ => True) env) _ _ ⟨_, rows, sh, _, _, _, _, _, _, _, _, _, _, rfl, ⟨by omega, ⟨sh, [], by rw [List.append_nil], by omega, by omega, List.nodup_nil, fun p hp => by cases hp⟩, ok⟩, trivial⟩ (fun x hx env nx he kk => ?_) fun env he => ?_
      · obtain ⟨s8, rows, sh, s5, s6, s7, s9, s10, s11, s12, s13, s14, s15, rfl, g, _⟩ := he
        exact t_step A n4 (Q := Qd) (fun ds h => h) q ⟨s8, rows, sh, s5, s6, _, s9, s10, s11, s12, s13, s14, s15, rfl, g, trivial⟩ kk
      · obtain ⟨s8, rows, sh, s5, s6, s7, s9, s10, s11, s12, s13, s14, s15, rfl, g, _⟩ := he
        obtain ⟨l1, l28⟩ := g.few n4
        have lr := g.len
        exact ⟨_, rfl, q rows (by omega) (by omega) fun z hz => (g.ok z hz).1⟩
end K12.K32

namespace K32
open PySem PySem.Spec PyProof.Rows L2 Dl Ns Zs Rk K12 K12.K32
abbrev N__law_odd_row : List Str := ["_law_hand_here", "_law_n", "_law_many", "_law_at", "_law_kind", "_law_one", "_law_other", "_law_rows", "_law_k"]
theorem sc__law_odd_row : FnScope N__law_odd_row ["_law_hand_here", "_law_n", "_law_many", "_law_at"] (defScope s__law_odd_row) := ⟨rfl, rfl, rfl, by decide +kernel, rfl, by decide +kernel, by decide +kernel⟩
def d__law_odd_row (K : PySem.W.Frag) (hd : Addr) (Ed : DEnv → Exc → Prop) : TSD := sSeq (sAsg 4 (dOp fIx (dLst (dInts [0, 1, 2, 2, 2, 3, 3, 3, 4, 5])) (dCall ((C__law_take hd)) [] Ed (dCons (dVar 0) (dCons (dC (.int 10)) (dNil)))))) (sSeq (sAsg 5 (dOp fSub (dCall ((C__law_take hd)) [] Ed (dCons (dVar 0) (dCons (dOp fAdd (dVar 3) (dC (.int 3))) (dNil)))) (dC (.int 1)))) (sSeq (sAsg 6 (dOp fSub (dCall ((C__law_take hd)) [] Ed (dCons (dVar 0) (dCons (dOp fAdd (dVar 3) (dC (.int 3))) (dNil)))) (dC (.int 1)))) (sSeq (sIf (dTest (dOp (fEq false) (dVar 4) (dC (.int 0)))) (sRet (dLst (dCons (dC (.str "self")) (dCons (dOp fIx (dLst (dCons (dOp fSub (dCall ((C__law_take hd)) [] Ed (dCons (dVar 0) (dCons (dOp fAdd (dVar 1) (dC (.int 2))) (dNil)))) (dC (.int 1))) (dCons (dC (.bl true)) (dCons (dC .non) (dNil))))) (dOp fIx (dLst (dInts [0, 0, 0, 0, 1, 2])) (dCall ((C__law_take hd)) [] Ed (dCons (dVar 0) (dCons (dC (.int 6)) (dNil)))))) (dNil))))) (sNext)) (sSeq (sIf (dTest (dOp (fEq false) (dVar 4) (dC (.int 1)))) (sRet (dTup (dCons (dC (.str "given")) (dCons (dOp fSub (dCall ((C__law_take hd)) [] Ed (dCons (dVar 0) (dCons (dC (.int 6)) (dNil)))) (dC (.int 1))) (dCons (dOp fIx (dLst (dCons (dOp fSub (dCall ((C__law_take hd)) [] Ed (dCons (dVar 0) (dCons (dC (.int 4)) (dNil)))) (dC (.int 1))) (dCons (dC (.bl true)) (dNil)))) (dOp fIx (dLst (dInts [0, 0, 0, 0, 1])) (dCall ((C__law_take hd)) [] Ed (dCons (dVar 0) (dCons (dC (.int 5)) (dNil)))))) (dNil)))))) (sNext)) (sSeq (sIf (dTest (dOp (fEq false) (dVar 4) (dC (.int 2)))) (sRet (dTup (dCons (dC (.str "through")) (dCons (dVar 5) (dCons (dVar 6) (dNil)))))) (sNext)) (sSeq (sIf (dTest (dOp (fEq false) (dVar 4) (dC (.int 3)))) (sSeq (sAsg 7 (dF (fLc (idRng1 (dCons (dOp fIx (dLst (dInts [0, 2, 2, 4, 2, 6])) (dCall ((C__law_take hd)) [] Ed (dCons (dVar 0) (dCons (dC (.int 6)) (dNil))))) (dNil))) (gdName 8) (dYes) (dOp fSub (dCall ((C__law_take hd)) [] (fun _ _ => False) (dCons (dVar 0) (dCons (dOp fAdd (dVar 3) (dC (.int 1))) (dNil)))) (dCB bIntB (dCons (dOp fLt (dVar 3) (dC (.int 2))) (dNil)))) (([("_law_k", 8)] : List (Str × Nat)).map (·.2))))) (sRet (dTup (dCons (dC (.str "rule")) (dCons (dOp fSub (dCall ((C__law_take hd)) [] Ed (dCons (dVar 0) (dCons (dVar 2) (dNil)))) (dCB bIntB (dCons (dOp (fEq false) (dCall ((C__law_take hd)) [] Ed (dCons (dVar 0) (dCons (dC (.int 9)) (dNil)))) (dC (.int 0))) (dNil)))) (dCons (dVar 7) (dNil))))))) (sNext)) (sSeq (sIf (dTest (dOp (fEq false) (dVar 4) (dC (.int 4)))) (sRet (dLst (dCons (dC (.str "through")) (dCons (dVar 5) (dCons (dC (.bl true)) (dNil)))))) (sNext)) (sRet (dOp fIx (dLst (dCons (dC .non) (dCons (dTup (dNil)) (dCons (dC (.str "self")) (dCons (dTup (dCons (dC (.str "self")) (dNil))) (dCons (dTup (dCons (dC (.str "rule")) (dCons (dC (.int 0)) (dNil)))) (dCons (dTup (dCons (dC (.str "rule")) (dCons (dC (.int 0)) (dCons (dC (.int 0)) (dNil))))) (dCons (dTup (dCons (dC (.str "rule")) (dCons (dC (.int 0)) (dCons (dTup (dCons (dC .non) (dNil))) (dNil))))) (dCons (dTup (dCons (dC (.str "never")) (dCons (dC (.int 0)) (dCons (dC (.int 0)) (dNil))))) (dCons (dC (.int 0)) (dCons (dTup (dCons (dC (.str "rule")) (dCons (dC (.bl false)) (dCons (dTup (dNil)) (dNil))))) (dCons (dTup (dCons (dC (.str "rule")) (dCons (dC (.int 0)) (dCons (dLst (dCons (dC (.bl false)) (dCons (dC (.int 0)) (dNil)))) (dNil))))) (dCons (dTup (dCons (dC (.str "through")) (dCons (dC (.bl false)) (dCons (dC (.int 0)) (dNil))))) (dCons (dTup (dCons (dC (.str "given")) (dCons (dC (.bl false)) (dCons (dC (.int 0)) (dNil))))) (dCons (dTup (dCons (dC (.str "given")) (dCons (dC (.int 0)) (dCons (dC (.bl false)) (dNil))))) (dCons (dTup (dCons (dC (.str "self")) (dCons (dC (.bl false)) (dNil)))) (dNil))))))))))))))))) (dCall ((C__law_take hd)) [] Ed (dCons (dVar 0) (dCons (dC (.int 15)) (dNil)))))))))))))
theorem pd__law_odd_row {P : Program} {w : World} {K : PySem.W.Frag} {mg : Str → Option Value} {base : Heap} {I : HI} {fa : Addr} {hd : Addr} {cdv : Value} {A : Around} {outer : List Env} {s : Shared} {H : Hp} {E : XK} {Ed : Exc → Prop} (T : Tf K mg) (c__law_take : Cl P w K mg base I 3 "_law_take" 2 (C__law_take hd) [])
    (hr : Room 3 (A.deeper (envOfC "_law_odd_row" (defScope s__law_odd_row) s.heap.objs.size fa cdv))) (tk : Takes (cxD P w K mg base N__law_odd_row "_law_odd_row" (defScope s__law_odd_row) fa cdv A outer s H E) (gOf I Ed E).W) :
    PSsD (cxD P w K mg base N__law_odd_row "_law_odd_row" (defScope s__law_odd_row) fa cdv A outer s H E) (gOf I Ed E) (defBody s__law_odd_row) (d__law_odd_row K hd (gOf I Ed E).Ed) :=
  by
  have nd := sc__law_odd_row.nd
  refine ds_cons ?_ ?_
  refine ds_set (i := 4) ?_ ?_ ?_ ?_
  exact nd
  exact rfl
  (first | exact Or.inl rfl | exact Or.inr rfl)
  refine d_ix ?_ ?_
  refine d_lst ?_
  refine da_lits ?_
  (decide +kernel)
  refine d_callC c__law_take (ar__law_take _) hr (by decide) rfl tk ?_
  refine da_cons ?_ ?_
  exact dv 0
  refine da_cons ?_ ?_
  exact d_int
  exact da_nil
  refine ds_cons ?_ ?_
  refine ds_set (i := 5) ?_ ?_ ?_ ?_
  exact nd
  exact rfl
  (first | exact Or.inl rfl | exact Or.inr rfl)
  refine d_op r_sub ?_ ?_
  refine d_callC c__law_take (ar__law_take _) hr (by decide) rfl tk ?_
  refine da_cons ?_ ?_
  exact dv 0
  refine da_cons ?_ ?_
  refine d_op r_add ?_ ?_
  exact dv 3
  exact d_int
  exact da_nil
  exact d_int
  refine ds_cons ?_ ?_
  refine ds_set (i := 6) ?_ ?_ ?_ ?_
  exact nd
  exact rfl
  (first | exact Or.inl rfl | exact Or.inr rfl)
  refine d_op r_sub ?_ ?_
  refine d_callC c__law_take (ar__law_take _) hr (by decide) rfl tk ?_
  refine da_cons ?_ ?_
  exact dv 0
  refine da_cons ?_ ?_
  refine d_op r_add ?_ ?_
  exact dv 3
  exact d_int
  exact da_nil
  exact d_int
  refine ds_cons ?_ ?_
  refine ds_if ?_ ?_ ?_
  refine dt_cmp (r_eq (h64 hr)) ?_ ?_ (nomark _)
  exact dv 4
  exact d_int
  refine ds_one ?_
  refine ds_ret ?_
  refine d_lst ?_
  refine da_cons ?_ ?_
  exact d_str
  refine da_cons ?_ ?_
  refine d_ix ?_ ?_
  refine d_lst ?_
  refine da_cons ?_ ?_
  refine d_op r_sub ?_ ?_
  refine d_callC c__law_take (ar__law_take _) hr (by decide) rfl tk ?_
  refine da_cons ?_ ?_
  exact dv 0
  refine da_cons ?_ ?_
  refine d_op r_add ?_ ?_
  exact dv 1
  exact d_int
  exact da_nil
  exact d_int
  refine da_cons ?_ ?_
  exact d_bl
  refine da_cons ?_ ?_
  exact d_non
  exact da_nil
  refine d_ix ?_ ?_
  refine d_lst ?_
  refine da_lits ?_
  (decide +kernel)
  refine d_callC c__law_take (ar__law_take _) hr (by decide) rfl tk ?_
  refine da_cons ?_ ?_
  exact dv 0
  refine da_cons ?_ ?_
  exact d_int
  exact da_nil
  exact da_nil
  exact ds_nil
  refine ds_cons ?_ ?_
  refine ds_if ?_ ?_ ?_
  refine dt_cmp (r_eq (h64 hr)) ?_ ?_ (nomark _)
  exact dv 4
  exact d_int
  refine ds_one ?_
  refine ds_ret ?_
  refine d_tup ?_
  refine da_cons ?_ ?_
  exact d_str
  refine da_cons ?_ ?_
  refine d_op r_sub ?_ ?_
  refine d_callC c__law_take (ar__law_take _) hr (by decide) rfl tk ?_
  refine da_cons ?_ ?_
  exact dv 0
  refine da_cons ?_ ?_
  exact d_int
  exact da_nil
  exact d_int
  refine da_cons ?_ ?_
  refine d_ix ?_ ?_
  refine d_lst ?_
  refine da_cons ?_ ?_
  refine d_op r_sub ?_ ?_
  refine d_callC c__law_take (ar__law_take _) hr (by decide) rfl tk ?_
  refine da_cons ?_ ?_
  exact dv 0
  refine da_cons ?_ ?_
  exact d_int
  exact da_nil
  exact d_int
  refine da_cons ?_ ?_
  exact d_bl
  exact da_nil
  refine d_ix ?_ ?_
  refine d_lst ?_
  refine da_lits ?_
  (decide +kernel)
  refine d_callC c__law_take (ar__law_take _) hr (by decide) rfl tk ?_
  refine da_cons ?_ ?_
  exact dv 0
  refine da_cons ?_ ?_
  exact d_int
  exact da_nil
  exact da_nil
  exact ds_nil
  refine ds_cons ?_ ?_
  refine ds_if ?_ ?_ ?_
  refine dt_cmp (r_eq (h64 hr)) ?_ ?_ (nomark _)
  exact dv 4
  exact d_int
  refine ds_one ?_
  refine ds_ret ?_
  refine d_tup ?_
  refine da_cons ?_ ?_
  exact d_str
  refine da_cons ?_ ?_
  exact dv 5
  refine da_cons ?_ ?_
  exact dv 6
  exact da_nil
  exact ds_nil
  refine ds_cons ?_ ?_
  refine ds_if ?_ ?_ ?_
  refine dt_cmp (r_eq (h64 hr)) ?_ ?_ (nomark _)
  exact dv 4
  exact d_int
  refine ds_cons ?_ ?_
  refine ds_lcV (i := 7) rfl nd rfl rfl (sw_true rfl rfl rfl (by decide +kernel)) ?_ (blkOk_by (own := [("_law_k", 8)]) (N := N__law_odd_row) (sc := defScope s__law_odd_row) (by decide +kernel)) ?_ sg_name (gw_name (by decide)) ?_ ?_
  refine di_range1 rfl T.n_range ?_
  refine da_cons ?_ ?_
  refine d_ix ?_ ?_
  refine d_lst ?_
  refine da_lits ?_
  (decide +kernel)
  refine d_callC c__law_take (ar__law_take _) hr (by decide) rfl tk ?_
  refine da_cons ?_ ?_
  exact dv 0
  refine da_cons ?_ ?_
  exact d_int
  exact da_nil
  exact da_nil
  exact (fun _ _ _ _ _ => pg_name (i := 8) nd rfl (by first | exact Or.inl rfl | exact Or.inr rfl))
  exact bt_nil
  refine be_of ?_
  intro _ _ _ _ _
  refine d_op r_sub ?_ ?_
  refine d_callC c__law_take (ar__law_take _) hr (by decide) rfl takes0 ?_
  refine da_cons ?_ ?_
  exact dv 0
  refine da_cons ?_ ?_
  refine d_op r_add ?_ ?_
  exact dv 3
  exact d_int
  exact da_nil
  refine d_callTy c_intB rfl T.n_int boot_int ?_
  refine da_cons ?_ ?_
  refine d_cmp (r_lt hr.units0) ?_ ?_ (nomark _)
  exact dv 3
  exact d_int
  exact da_nil
  refine ds_one ?_
  refine ds_ret ?_
  refine d_tup ?_
  refine da_cons ?_ ?_
  exact d_str
  refine da_cons ?_ ?_
  refine d_op r_sub ?_ ?_
  refine d_callC c__law_take (ar__law_take _) hr (by decide) rfl tk ?_
  refine da_cons ?_ ?_
  exact dv 0
  refine da_cons ?_ ?_
  exact dv 2
  exact da_nil
  refine d_callTy c_intB rfl T.n_int boot_int ?_
  refine da_cons ?_ ?_
  refine d_cmp (r_eq (h64 hr)) ?_ ?_ (nomark _)
  refine d_callC c__law_take (ar__law_take _) hr (by decide) rfl tk ?_
  refine da_cons ?_ ?_
  exact dv 0
  refine da_cons ?_ ?_
  exact d_int
  exact da_nil
  exact d_int
  exact da_nil
  refine da_cons ?_ ?_
  exact dv 7
  exact da_nil
  exact ds_nil
  refine ds_cons ?_ ?_
  refine ds_if ?_ ?_ ?_
  refine dt_cmp (r_eq (h64 hr)) ?_ ?_ (nomark _)
  exact dv 4
  exact d_int
  refine ds_one ?_
  refine ds_ret ?_
  refine d_lst ?_
  refine da_cons ?_ ?_
  exact d_str
  refine da_cons ?_ ?_
  exact dv 5
  refine da_cons ?_ ?_
  exact d_bl
  exact da_nil
  exact ds_nil
  refine ds_one ?_
  refine ds_ret ?_
  refine d_ix ?_ ?_
  refine d_lst ?_
  refine da_consL ?_ ?_ ?_
  exact d_non
  refine da_consL ?_ ?_ ?_
  refine d_tup ?_
  exact da_nil
  refine da_consL ?_ ?_ ?_
  exact d_str
  refine da_consL ?_ ?_ ?_
  refine d_tup ?_
  refine da_cons ?_ ?_
  exact d_str
  exact da_nil
  refine da_consL ?_ ?_ ?_
  refine d_tup ?_
  refine da_cons ?_ ?_
  exact d_str
  refine da_cons ?_ ?_
  exact d_int
  exact da_nil
  refine da_consL ?_ ?_ ?_
  refine d_tup ?_
  refine da_cons ?_ ?_
  exact d_str
  refine da_cons ?_ ?_
  exact d_int
  refine da_cons ?_ ?_
  exact d_int
  exact da_nil
  refine da_consL ?_ ?_ ?_
  refine d_tup ?_
  refine da_cons ?_ ?_
  exact d_str
  refine da_cons ?_ ?_
  exact d_int
  refine da_cons ?_ ?_
  refine d_tup ?_
  refine da_cons ?_ ?_
  exact d_non
  exact da_nil
  exact da_nil
  refine da_consL ?_ ?_ ?_
  refine d_tup ?_
  refine da_cons ?_ ?_
  exact d_str
  refine da_cons ?_ ?_
  exact d_int
  refine da_cons ?_ ?_
  exact d_int
  exact da_nil
  refine da_consL ?_ ?_ ?_
  exact d_int
  refine da_consL ?_ ?_ ?_
  refine d_tup ?_
  refine da_cons ?_ ?_
  exact d_str
  refine da_cons ?_ ?_
  exact d_bl
  refine da_cons ?_ ?_
  refine d_tup ?_
  exact da_nil
  exact da_nil
  refine da_consL ?_ ?_ ?_
  refine d_tup ?_
  refine da_cons ?_ ?_
  exact d_str
  refine da_cons ?_ ?_
  exact d_int
  refine da_cons ?_ ?_
  refine d_lst ?_
  refine da_cons ?_ ?_
  exact d_bl
  refine da_cons ?_ ?_
  exact d_int
  exact da_nil
  exact da_nil
  refine da_consL ?_ ?_ ?_
  refine d_tup ?_
  refine da_cons ?_ ?_
  exact d_str
  refine da_cons ?_ ?_
  exact d_bl
  refine da_cons ?_ ?_
  exact d_int
  exact da_nil
  refine da_consL ?_ ?_ ?_
  refine d_tup ?_
  refine da_cons ?_ ?_
  exact d_str
  refine da_cons ?_ ?_
  exact d_bl
  refine da_cons ?_ ?_
  exact d_int
  exact da_nil
  refine da_consL ?_ ?_ ?_
  refine d_tup ?_
  refine da_cons ?_ ?_
  exact d_str
  refine da_cons ?_ ?_
  exact d_int
  refine da_cons ?_ ?_
  exact d_bl
  exact da_nil
  refine da_consL ?_ ?_ ?_
  refine d_tup ?_
  refine da_cons ?_ ?_
  exact d_str
  refine da_cons ?_ ?_
  exact d_bl
  exact da_nil
  exact da_nil
  exact rfl
  exact rfl
  exact rfl
  exact rfl
  exact rfl
  exact rfl
  exact rfl
  exact rfl
  exact rfl
  exact rfl
  exact rfl
  exact rfl
  exact rfl
  exact rfl
  exact rfl
  refine d_callC c__law_take (ar__law_take _) hr (by decide) rfl tk ?_
  refine da_cons ?_ ?_
  exact dv 0
  refine da_cons ?_ ?_
  exact d_int
  exact da_nil
end K32

namespace K12.K32
open PySem PySem.Spec PyProof.Rows L2 Dl Ns Zs Zz Rk Rd _root_.K32 K12
open K12.K00 (ix_D len_D)
def odds : List Row := [.odd 0, .emp true, .odd 2, .sq true .self [], .sq true .rule [.a (.i 0)], .sq true .rule [.a (.i 0), .a (.i 0)], .sq true .rule [.a (.i 0), .l true [.n]], .sq true .never [.a (.i 0), .a (.i 0)], .odd 1,
  .sq true .rule [.a (.b false), .l true []], .sq true .rule [.a (.i 0), .l false [.b false, .i 0]], .sq true .through [.a (.b false), .a (.i 0)], .sq true .given [.a (.b false), .a (.i 0)], .sq true .given [.a (.i 0), .a (.b false)], .sq true .self [.a (.b false)]]
theorem z0 : ItOk (.a (.i 0)) := ⟨by decide, by decide⟩
theorem zb {b : Bool} : ItOk (.a (.b b)) := trivial
theorem odds_ok : ∀ row ∈ odds, RowOk row := fun row h => by
  simp only [odds, List.mem_cons, List.not_mem_nil, or_false] at h
  rcases h with rfl | rfl | rfl | rfl | rfl | rfl | rfl | rfl | rfl | rfl | rfl | rfl | rfl | rfl | rfl
  · exact trivial
  · exact trivial
  · exact trivial
  · exact ⟨Nat.zero_le _, fun x hx => by cases hx⟩
  · exact ok_one z0
  · exact ok_two z0 z0
  · exact ok_two z0 ⟨by decide, fun x hx => by rw [List.mem_singleton.mp hx]; exact trivial⟩
  · exact ok_two z0 z0
  · exact trivial
  · exact ok_two zb ⟨by decide, fun x hx => by cases hx⟩
  · exact ok_two z0 ⟨Nat.le_of_ble_eq_true rfl, fun x hx => by
      simp only [List.mem_cons, List.not_mem_nil, or_false] at hx
      rcases hx with rfl | rfl
      · exact trivial
      · exact z0⟩
  · exact ok_two zb z0
  · exact ok_two zb z0
  · exact ok_two z0 zb
  · exact ok_one zb
theorem tab {ns : List Int} {r : Int} (m : Int) (h : ∀ x ∈ ns, 0 ≤ x ∧ x < m) (r0 : 0 ≤ r) (r1 : r < ns.length) {Q : D → Prop} (q : ∀ x : Int, 0 ≤ x → x < m → Q (.int x)) : fIx (.lst (ns.map D.int)) (.int r) Q := by
  obtain ⟨d, e, hd⟩ := atI_ok (xs := ns.map D.int) r0 (by rw [List.length_map]; exact r1)
  obtain ⟨x, hx, rfl⟩ := List.mem_map.mp hd
  exact rIxL e (q x (h x hx).1 (h x hx).2)
theorem at_of {l : List At} {r : Int} (r0 : 0 ≤ r) (r1 : r < l.length) {Q : D → Prop} (q : ∀ x ∈ l, Q (atD x)) : fIx (.lst (l.map atD)) (.int r) Q := by
  obtain ⟨d, e, hd⟩ := atI_ok (xs := l.map atD) r0 (by rw [List.length_map]; exact r1)
  obtain ⟨x, hx, rfl⟩ := List.mem_map.mp hd
  exact rIxL e (q x hx)
theorem lift_at : ∀ {ys : List D}, (∀ y ∈ ys, ∃ i : Int, y = .int i ∧ -1 ≤ i ∧ i ≤ 1000) → ∃ bs : List At, ys = bs.map atD ∧ bs.length = ys.length ∧ ∀ b ∈ bs, AtOk b
  | [], _ => ⟨[], rfl, rfl, fun b hb => by cases hb⟩
  | y :: ys, h => by
    obtain ⟨i, rfl, h1, h2⟩ := h y List.mem_cons_self
    obtain ⟨bs, e, l, hb⟩ := lift_at fun z hz => h z (List.mem_cons_of_mem _ hz)
    refine ⟨.i i :: bs, by rw [e]; rfl, by rw [List.length_cons, l]; rfl, fun b hm => ?_⟩
    rcases List.mem_cons.mp hm with rfl | hm
    · show -(100000 : Int) ≤ i ∧ i ≤ 100000
      omega
    · exact hb b hm
theorem ct__law_odd_row {K : PySem.W.Frag} {hd : Addr} {ds : List D} {Qd : D → Prop} {Ed : Exc → Prop} (h : C__law_odd_row K hd ds Qd Ed) : d__law_odd_row K hd (fun _ x => Ed x) (eK Qd) (startD N__law_odd_row ds) := by
  obtain ⟨n, many, at_, rfl, ⟨n1, n7⟩, ⟨m1, m8⟩, ⟨a0, a1⟩, q⟩ := h
  have sm : ∀ {m : Int}, m < 2000 → m < 2 ^ 100 := fun h => Int.lt_trans h (by decide)
  unfold d__law_odd_row
  (repeat decreasing_trivial_pre_omega)
  refine tk_ok (by omega) (sm (by omega)) fun r r0 r1 => ?_
  refine tab (ns := [0, 1, 2, 2, 2, 3, 3, 3, 4, 5]) 6 (by decide) r0 r1 fun kind k0 k1 => ?_
  (repeat decreasing_trivial_pre_omega)
  refine tk_ok (by omega) (sm (by omega)) fun one o0 o1 => ?_
  (repeat decreasing_trivial_pre_omega)
  refine tk_ok (by omega) (sm (by omega)) fun oth t0 t1 => ?_
  (repeat decreasing_trivial_pre_omega)
  by_cases c0 : kind = 0
  · rw [decide_eq_true c0]
    (repeat decreasing_trivial_pre_omega)
    refine tk_ok (by omega) (sm (by omega)) fun x x0 x1 => ?_
    (repeat decreasing_trivial_pre_omega)
    refine tk_ok (by omega) (sm (by omega)) fun r2 p0 p1 => ?_
    refine tab (ns := [0, 0, 0, 0, 1, 2]) 3 (by decide) p0 p1 fun j j0 j1 => ?_
    refine at_of (l := [.i (x - 1), .b true, .n]) j0 j1 fun y hy => ?_
    (repeat decreasing_trivial_pre_omega)
    refine q (.sq false .self [.a y]) (ok_one ?_)
    simp only [List.mem_cons, List.not_mem_nil, or_false] at hy
    rcases hy with rfl | rfl | rfl
    · show -(100000 : Int) ≤ x - 1 ∧ x - 1 ≤ 100000
      omega
    · trivial
    · trivial
  rw [decide_eq_false c0]
  (repeat decreasing_trivial_pre_omega)
  by_cases c1 : kind = 1
  · rw [decide_eq_true c1]
    (repeat decreasing_trivial_pre_omega)
    refine tk_ok (by omega) (sm (by omega)) fun x x0 x1 => ?_
    (repeat decreasing_trivial_pre_omega)
    refine tk_ok (by omega) (sm (by omega)) fun y y0 y1 => ?_
    (repeat decreasing_trivial_pre_omega)
    refine tk_ok (by omega) (sm (by omega)) fun r2 p0 p1 => ?_
    refine tab (ns := [0, 0, 0, 0, 1]) 2 (by decide) p0 p1 fun j j0 j1 => ?_
    refine at_of (l := [.i (y - 1), .b true]) j0 j1 fun z hz => ?_
    (repeat decreasing_trivial_pre_omega)
    refine q (.sq true .given [.a (.i (x - 1)), .a z]) (ok_two ?_ ?_)
    · show -(100000 : Int) ≤ x - 1 ∧ x - 1 ≤ 100000
      omega
    · simp only [List.mem_cons, List.not_mem_nil, or_false] at hz
      rcases hz with rfl | rfl
      · show -(100000 : Int) ≤ y - 1 ∧ y - 1 ≤ 100000
        omega
      · trivial
  rw [decide_eq_false c1]
  (repeat decreasing_trivial_pre_omega)
  have b1 : ItOk (.a (.i (one - 1))) := by
    show -(100000 : Int) ≤ one - 1 ∧ one - 1 ≤ 100000
    omega
  have b2 : ItOk (.a (.i (oth - 1))) := by
    show -(100000 : Int) ≤ oth - 1 ∧ oth - 1 ≤ 100000
    omega
  by_cases c2 : kind = 2
  · rw [decide_eq_true c2]
    (repeat decreasing_trivial_pre_omega)
    exact q (.sq true .through [.a (.i (one - 1)), .a (.i (oth - 1))]) (ok_two b1 b2)
  rw [decide_eq_false c2]
  (repeat decreasing_trivial_pre_omega)
  by_cases c3 : kind = 3
  · rw [decide_eq_true c3]
    (repeat decreasing_trivial_pre_omega)
    refine tk_ok (by omega) (sm (by omega)) fun r2 p0 p1 => ?_
    refine tab (ns := [0, 2, 2, 4, 2, 6]) 7 (by decide) p0 p1 fun j j0 j1 => ?_
    (repeat decreasing_trivial_pre_omega)
    refine ⟨j, rfl, ⟨by omega, by omega⟩, ?_⟩
    rw [rng_iota]
    refine ⟨by rw [List.length_map, iota_len]; omega, ?_⟩
    refine lcD_draw (fun y => ∃ i : Int, y = .int i ∧ -1 ≤ i ∧ i ≤ 1000) (fun y ⟨i, e, _⟩ => by rw [e]; rfl) _ [] (fun x hx R hR => ?_) fun ys hl hy => ?_
    · (repeat decreasing_trivial_pre_omega)
      refine tk_ok (by omega) (sm (by omega)) fun v v0 v1 => ?_
      (repeat decreasing_trivial_pre_omega)
      refine .inr ⟨_, rfl, ?_⟩
      (repeat decreasing_trivial_pre_omega)
      refine hR _ ⟨_, rfl, ?_⟩
      split <;> omega
    · obtain ⟨bs, rfl, bl, hb⟩ := lift_at hy
      rw [List.length_map, List.length_map, iota_len] at hl
      rw [List.nil_append]
      (repeat decreasing_trivial_pre_omega)
      refine tk_ok (by omega) (sm (by omega)) fun v v0 v1 => ?_
      (repeat decreasing_trivial_pre_omega)
      refine tk_ok (by omega) (sm (by omega)) fun w w0 w1 => ?_
      (repeat decreasing_trivial_pre_omega)
      refine .inr ⟨_, rfl, ?_⟩
      (repeat decreasing_trivial_pre_omega)
      refine q (.sq true .rule [.a (.i _), .l false bs]) (ok_two ?_ ⟨by omega, hb⟩)
      show -(100000 : Int) ≤ v - _ ∧ v - _ ≤ 100000
      split <;> omega
  rw [decide_eq_false c3]
  (repeat decreasing_trivial_pre_omega)
  by_cases c4 : kind = 4
  · rw [decide_eq_true c4]
    (repeat decreasing_trivial_pre_omega)
    exact q (.sq false .through [.a (.i (one - 1)), .a (.b true)]) (ok_two b1 zb)
  rw [decide_eq_false c4]
  (repeat decreasing_trivial_pre_omega)
  refine tk_ok (by omega) (sm (by omega)) fun r2 p0 p1 => ?_
  obtain ⟨d, e, hd⟩ := atI_ok (xs := odds.map rowD) p0 (by rw [List.length_map]; exact p1)
  obtain ⟨row, hrow, rfl⟩ := List.mem_map.mp hd
  exact rIxL e (q row (odds_ok row hrow))
end K12.K32

namespace K12.K32
open PySem PySem.Spec PyProof.Rows L2 Dl Ns Zs Zz Rk Rd _root_.K32 K12
structure Sh_ (k m : Nat) (d : D) : Prop where
  nice : d.nice = true
  dep : d.dep ≤ k
  show_ : d.py.showable = true
  few : d.py.shown.length ≤ m
theorem Sh_.mono {k m k2 m2 : Nat} {d : D} (h : Sh_ k m d) (hk : k ≤ k2) (hm : m ≤ m2) : Sh_ k2 m2 d := ⟨h.nice, Nat.le_trans h.dep hk, h.show_, Nat.le_trans h.few hm⟩
theorem txt_len (s : String) : (Str.ofString s).length = s.length := PySem.ofString_length s
theorem int_sh {a : Int} (h : a.natAbs < 10 ^ 6) : Sh_ 0 7 (.int a) := by
  refine ⟨rfl, Nat.le_refl _, ?_, ?_⟩
  · simp only [D.py, PyData.showable]
    refine decide_eq_true ?_
    by_cases e : a.natAbs = 0
    · rw [e]; decide
    · have h2 : a.natAbs < 2 ^ 1920 := Nat.lt_of_lt_of_le h (by decide)
      exact (Nat.log2_lt e).mpr h2
  · have := int_text_length_le10 (k := 6) (by decide) h
    simp only [D.py, PyData.shown]
    rw [txt_len]
    omega
theorem codes_lt (s : String) : ∀ c ∈ (Str.ofString s).cps.toList, c < 16 ^ 8 := by
  rw [Str.ofString_eq_toList]
  intro c hc
  obtain ⟨ch, _, rfl⟩ := List.mem_map.mp (by simpa using hc)
  exact Nat.lt_of_lt_of_le ch.val.toNat_lt (by decide)
theorem str_sh {x : Str} (hc : ∀ c ∈ x.cps.toList, c < 16 ^ 8) (hl : x.length ≤ 8) : Sh_ 0 100 (.str x) := by
  refine ⟨rfl, Nat.zero_le _, rfl, ?_⟩
  have := StrLaws.reprText_len x hc
  simp only [D.py, PyData.shown]
  omega
theorem sh_list {k m : Nat} : ∀ {ys : List D}, (∀ y ∈ ys, Sh_ k m y) → niceA ys = true ∧ depA ys ≤ k ∧ PyData.showableAll (pyA ys) = true ∧ ((PyData.shownAll (pyA ys)).map (·.length)).sum ≤ m * ys.length ∧ (PyData.shownAll (pyA ys)).length = ys.length
  | [], _ => ⟨rfl, Nat.zero_le _, rfl, Nat.zero_le _, rfl⟩
  | y :: ys, h => by
    obtain ⟨a, b, c, d, e⟩ := sh_list (ys := ys) fun z m => h z (List.mem_cons_of_mem _ m)
    have k := h y List.mem_cons_self
    refine ⟨?_, ?_, ?_, ?_, ?_⟩
    · simp only [niceA, k.nice, a, Bool.and_self]
    · simp only [depA]; exact Nat.max_le.mpr ⟨k.dep, b⟩
    · simp only [pyA, PyData.showableAll, k.show_, c, Bool.and_self]
    · simp only [pyA, PyData.shownAll, List.map_cons, List.sum_cons, List.length_cons]
      have := k.few
      rw [Nat.mul_succ]
      omega
    · simp only [pyA, PyData.shownAll, List.length_cons, e]
theorem sh_tup {k m : Nat} {ys : List D} (h : ∀ y ∈ ys, Sh_ k m y) (l : ys.length ≤ 9) : Sh_ (k + 1) (m * 9 + 30) (.tup ys) := by
  obtain ⟨a, b, c, d, e⟩ := sh_list h
  refine ⟨by simpa only [D.nice] using a, by simp only [D.dep]; omega, by simpa only [D.py, PyData.showable] using c, ?_⟩
  have := tupleText_len_le (PyData.shownAll (pyA ys))
  have z : m * ys.length ≤ m * 9 := Nat.mul_le_mul_left m l
  simp only [D.py, PyData.shown]
  omega
theorem sh_lst {k m : Nat} {ys : List D} (h : ∀ y ∈ ys, Sh_ k m y) (l : ys.length ≤ 9) : Sh_ (k + 1) (m * 9 + 30) (.lst ys) := by
  obtain ⟨a, b, c, d, e⟩ := sh_list h
  refine ⟨by simpa only [D.nice] using a, by simp only [D.dep]; omega, by simpa only [D.py, PyData.showable] using c, ?_⟩
  have := listText_len_le (PyData.shownAll (pyA ys))
  have z : m * ys.length ≤ m * 9 := Nat.mul_le_mul_left m l
  simp only [D.py, PyData.shown]
  omega
theorem at_sh {x : At} (h : AtOk x) : Sh_ 0 100 (atD x) := by
  cases x with
  | i n =>
    have h : -(100000) ≤ n ∧ n ≤ 100000 := h
    exact (int_sh (a := n) (by omega)).mono (Nat.le_refl _) (by decide)
  | b b => exact ⟨rfl, Nat.le_refl _, rfl, by cases b <;> decide⟩
  | n => exact ⟨rfl, Nat.le_refl _, rfl, by decide⟩
theorem sq_sh {k m : Nat} {tp : Bool} {ys : List D} (h : ∀ y ∈ ys, Sh_ k m y) (l : ys.length ≤ 9) : Sh_ (k + 1) (m * 9 + 30) (sq tp ys) := by
  cases tp with
  | false => exact sh_lst h l
  | true => exact sh_tup h l
theorem it_sh {x : It} (h : ItOk x) : Sh_ 1 930 (itD x) := by
  cases x with
  | a y => exact (at_sh h).mono (by decide) (by decide)
  | l tp xs => exact sq_sh (k := 0) (m := 100) (fun y hy => by obtain ⟨z, hz, rfl⟩ := List.mem_map.mp hy; exact at_sh (h.2 z hz)) (by rw [List.length_map]; have := h.1; omega)
theorem wd_sh (w : Wd) : Sh_ 0 100 (.str (wdS w)) := by
  cases w
  · exact str_sh (codes_lt "self") (by decide)
  · exact str_sh (codes_lt "given") (by decide)
  · exact str_sh (codes_lt "through") (by decide)
  · exact str_sh (codes_lt "rule") (by decide)
  · exact str_sh (codes_lt "never") (by decide)
theorem row_sh {row : Row} (h : RowOk row) : Sh_ 2 8400 (rowD row) := by
  cases row with
  | odd k =>
    show Sh_ 2 8400 (oddD k)
    unfold oddD
    split
    · exact (at_sh (x := .n) trivial).mono (by decide) (by decide)
    · split
      · exact (at_sh (x := .i 0) ⟨by decide, by decide⟩).mono (by decide) (by decide)
      · exact (wd_sh .self).mono (by decide) (by decide)
  | emp tp => exact (sq_sh (k := 1) (m := 930) (tp := tp) (ys := []) (fun y hy => by cases hy) (by decide)).mono (by decide) (by decide)
  | sq tp w xs =>
    refine (sq_sh (k := 1) (m := 930) (tp := tp) (ys := .str (wdS w) :: xs.map itD) (fun y hy => ?_) ?_).mono (by decide) (by decide)
    · rcases List.mem_cons.mp hy with rfl | hy
      · exact (wd_sh w).mono (by decide) (by decide)
      · obtain ⟨z, hz, rfl⟩ := List.mem_map.mp hy
        exact it_sh (h.2 z hz)
    · rw [List.length_cons, List.length_map]
      have := h.1
      omega
theorem rep_rows {rows : List Row} {Q : D → Prop} (h : ∀ row ∈ rows, RowOk row) (l : rows.length ≤ 1000) (q : Q (.str (D.lst (rows.map rowD)).py.shown)) : bRepr [.lst (rows.map rowD)] Q := by
  obtain ⟨a, b, c, d, e⟩ := sh_list (k := 2) (m := 8400) (ys := rows.map rowD) fun y hy => by obtain ⟨z, hz, rfl⟩ := List.mem_map.mp hy; exact row_sh (h z hz)
  refine ⟨_, rfl, by simpa only [D.nice] using a, by simp only [D.dep]; omega, by simpa only [D.py, PyData.showable] using c, ?_, q⟩
  have := listText_len_le (PyData.shownAll (pyA (rows.map rowD)))
  rw [List.length_map] at d e
  simp only [D.py, PyData.shown]
  have z : sizeLine = 16777216 := by decide
  omega
end K12.K32

namespace K32
open PySem PySem.Spec PyProof.Rows L2 Dl Ns Zs Rk K12 K12.K32
abbrev N_law : List Str := ["_law_script", "_law_hand_here", "_law_n", "_law_rules", "_law_asked", "_law_k", "_law_long", "_law_due", "_law_rule_here", "_law_steps", "_law_j", "_law_held", "_law_word", "_law_x", "_law_wanted", "_law_plain", "_law_at", "_law_row", "_law_kind"]
theorem sc_law : FnScope N_law ["_law_script"] (defScope s_law) := ⟨rfl, rfl, rfl, by decide +kernel, rfl, by decide +kernel, by decide +kernel⟩
def d_law (K : PySem.W.Frag) (hd : Addr) (Ed : DEnv → Exc → Prop) : TSD := sSeq (sAsg 2 (dOp fIx (dLst (dInts [3, 4, 2, 1])) (dCall ((C__law_take hd)) [] Ed (dCons (dVar 1) (dCons (dC (.int 4)) (dNil)))))) (sSeq (sAsg 3 (dF (fLc (idRng1 (dCons (dOp fAdd (dC (.int 1)) (dCall ((C__law_take hd)) [] Ed (dCons (dVar 1) (dCons (dC (.int 8)) (dNil))))) (dNil))) (gdName 5) (dYes) (dCall ((K12.K32.C__law_rule K hd)) [] (fun _ _ => False) (dCons (dVar 1) (dCons (dVar 2) (dNil)))) (([("_law_k", 5)] : List (Str × Nat)).map (·.2))))) (sSeq (sAsg 4 (dCall ((K12.K32.C__law_rules_of K)) [] Ed (dCons (dVar 2) (dCons (dVar 3) (dNil))))) (sSeq (sFor (idRng1 (dCons (dC (.int 3)) (dNil))) (gdName 5) (sSeq (sAsg 8 (dCall ((K12.K32.C__law_rule K hd)) [] Ed (dCons (dVar 1) (dCons (dVar 2) (dNil))))) (Fq.sOpen (Fq.fMore [] 9 (Fr.fCall ((K12.K32.C__law_own_steps K)) [] Ed (dCons (dVar 2) (dCons (dVar 3) (dCons (dVar 8) (dNil))))) (Fq.fSeq (Fq.fIf [9] (dTest (dOp (fEq false) (dCall ((C__law_take hd)) [] Ed (dCons (dVar 1) (dCons (dC (.int 3)) (dNil)))) (dC (.int 0)))) (Fq.fReb 9 (Fm.fSlF (dVar 9) (dNoP) (dPart (dOp fAdd (dC (.int 1)) (dCall ((C__law_take hd)) [] Ed (dCons (dVar 1) (dCons (dCB bLen (dCons (dVar 9) (dNil))) (dNil)))))))) (Fq.fNext)) (Fq.fSeq (Fq.fFor (idRng1 (dCons (dCall ((C__law_take hd)) [] (fun _ _ => False) (dCons (dVar 1) (dCons (dC (.int 3)) (dNil)))) (dNil))) 10 (Fq.fSeq (Fq.fSet [9] 16 (dCall ((C__law_take hd)) [] Ed (dCons (dVar 1) (dCons (dCB bLen (dCons (dVar 9) (dNil))) (dNil))))) (Fq.fSeq (Fq.fSetT [9] 17 (dCall ((K12.K32.C__law_odd_row K hd)) [] (fun _ _ => False) (dCons (dVar 1) (dCons (dVar 2) (dCons (dCB bLen (dCons (dVar 3) (dNil))) (dCons (dVar 16) (dNil))))))) (Fq.fSeq (Fq.fSet [9] 18 (dCall ((C__law_take hd)) [] Ed (dCons (dVar 1) (dCons (dC (.int 4)) (dNil))))) (Fq.fIf [9] (dTest (dOp fLt (dVar 18) (dC (.int 2)))) (Fq.fSetIx [9] 0 (dVar 17) (dVar 16)) (Fq.fIf [9] (dTest (dOp (fEq false) (dVar 18) (dC (.int 2)))) (Fq.fReb 9 (Nw.fCatF (dOp fAdd (dSl (dVar 9) (dNoP) (dPart (dVar 16))) (dLst (dCons (dVar 17) (dNil)))) (dSl (dVar 9) (dPart (dVar 16)) (dNoP)))) (Fq.fIf [9] (dTest (dOp fGt (dCB bLen (dCons (dVar 9) (dNil))) (dC (.int 1)))) (Fq.fReb 9 (Nw.fCatF (dSl (dVar 9) (dNoP) (dPart (dVar 16))) (dSl (dVar 9) (dPart (dOp fAdd (dVar 16) (dC (.int 1)))) (dNoP)))) (Fq.fNext))))))) [9]) (Fq.fDrop [9] (sSeq (sAsg 11 (dCB bRepr (dCons (dVar 9) (dNil)))) (sSeq (sAsg 12 (dCall ((K12.K32.C__law_steps_word K)) [] Ed (dCons (dVar 2) (dCons (dVar 3) (dCons (dVar 8) (dCons (dVar 9) (dNil))))))) (sSeq (sIf (dOr (dTest (dOp (fEq true) (dCall ((K12.K32.C_steps_fault K)) [] Ed (dCons (dVar 4) (dCons (dCall ((K12.K32.C__law_rule_of K)) [] Ed (dCons (dVar 8) (dNil))) (dCons (dVar 9) (dNil))))) (dVar 12))) (dTest (dOp fNeS (dCB bRepr (dCons (dVar 9) (dNil))) (dVar 11)))) (sRet (dC (.bl false))) (sNext)) (sSeq (sIf (dTest (dOp (fEq true) (dCall ((K12.K32.C_steps_fault K)) [] Ed (dCons (dVar 4) (dCons (dCall ((K12.K32.C__law_rule_of K)) [] Ed (dCons (dVar 8) (dNil))) (dCons (dCB bTup (dCons (dVar 9) (dNil))) (dNil))))) (dVar 12))) (sRet (dC (.bl false))) (sNext)) (sSeq (sAsg 13 (dCall ((C__law_take hd)) [] Ed (dCons (dVar 1) (dCons (dVar 2) (dNil))))) (sSeq (sAsg 14 (dTup (dCons (dTup (dNil)) (dCons (dTup (dCons (dC (.str "not after")) (dCons (dVar 13) (dCons (dVar 13) (dNil))))) (dNil))))) (sSeq (sAsg 15 (dLst (dCons (dTup (dCons (dC (.str "self")) (dCons (dCall ((C__law_take hd)) [] Ed (dCons (dVar 1) (dCons (dVar 2) (dNil)))) (dNil)))) (dCons (dTup (dCons (dC (.str "self")) (dCons (dVar 13) (dNil)))) (dNil))))) (sSeq (sIf (dTest (dOp (fIs true) (dCall ((K12.K32.C_steps_fault K)) [] Ed (dCons (dVar 4) (dCons (dCall ((K12.K32.C__law_rule_of K)) [] Ed (dCons (dVar 14) (dNil))) (dCons (dVar 15) (dNil))))) (dC .non))) (sRet (dC (.bl false))) (sNext)) (sIf (dAnd (dTest (dOp fGt (dVar 2) (dC (.int 1)))) (dTest (dOp (fEq true) (dCall ((K12.K32.C_steps_fault K)) [] Ed (dCons (dVar 4) (dCons (dCall ((K12.K32.C__law_rule_of K)) [] Ed (dCons (dVar 14) (dNil))) (dCons (dLst (dCons (dTup (dCons (dC (.str "self")) (dCons (dOp fMod (dCB bInt (dCons (dOp fAdd (dVar 13) (dC (.int 1))) (dNil))) (dVar 2)) (dNil)))) (dNil))) (dNil))))) (dC (.str "end"))))) (sRet (dC (.bl false))) (sNext))))))))))))))))) (sSeq (sAsg 6 (dOp Sl.fRepL2 (dLst (dCons (dTup (dCons (dC (.str "self")) (dCons (dC (.int 0)) (dNil)))) (dNil))) (dOp fIx (dLst (dCons (dC (.int 1000)) (dCons (dC (.int 1001)) (dNil)))) (dCall ((C__law_take hd)) [] Ed (dCons (dVar 1) (dCons (dC (.int 2)) (dNil))))))) (sSeq (sAsg 7 (dIf (dTest (dOp (fEq false) (dCB bLen (dCons (dVar 6) (dNil))) (dC (.int 1000)))) (dC .non) (dC (.str "steps")))) (sSeq (sIf (dTest (dOp (fEq true) (dCall ((K12.K32.C_steps_fault K)) [] Ed (dCons (dVar 4) (dCons (In.dMk (He.ga K "Rule") 2 ["premises", "end"] (K12.K32.C_Rule_init K) [] Ed (dCons (dTup (dNil)) (dCons (dTup (dCons (dC (.str "not after")) (dCons (dC (.int 0)) (dCons (dC (.int 0)) (dNil))))) (dNil)))) (dCons (dVar 6) (dNil))))) (dVar 7))) (sRet (dC (.bl false))) (sNext)) (sRet (dOp (fEq false) (dCall ((K12.K32.C_steps_fault K)) [] Ed (dCons (dVar 4) (dCons (In.dMk (He.ga K "Rule") 2 ["premises", "end"] (K12.K32.C_Rule_init K) [] Ed (dCons (dTup (dNil)) (dCons (dTup (dCons (dC (.str "never")) (dNil))) (dNil)))) (dCons (dOp fIx (dLst (dCons (dLst (dNil)) (dCons (dC .non) (dCons (dC (.int 5)) (dCons (dC (.str "self")) (dCons (dTup (dNil)) (dNil))))))) (dCall ((C__law_take hd)) [] Ed (dCons (dVar 1) (dCons (dC (.int 5)) (dNil))))) (dNil))))) (dC (.str "steps"))))))))))
theorem pd_law {P : Program} {w : World} {K : PySem.W.Frag} {mg : Str → Option Value} {base : Heap} {I : HI} {fa : Addr} {hd : Addr} {cdv : Value} {A : Around} {outer : List Env} {s : Shared} {H : Hp} {E : XK} {Ed : Exc → Prop} (T : Tf K mg) (c__law_odd_row : Cl P w K mg base I 4 "_law_odd_row" 4 (K12.K32.C__law_odd_row K hd) []) (c__law_rule : Cl P w K mg base I 4 "_law_rule" 2 (K12.K32.C__law_rule K hd) []) (c__law_rule_of : Cl P w K mg base I 7 "_law_rule_of" 1 (K12.K32.C__law_rule_of K) []) (c__law_rules_of : Cl P w K mg base I 8 "_law_rules_of" 2 (K12.K32.C__law_rules_of K) []) (c__law_steps_word : Cl P w K mg base I 4 "_law_steps_word" 4 (K12.K32.C__law_steps_word K) []) (c__law_take : Cl P w K mg base I 3 "_law_take" 2 (C__law_take hd) []) (c_steps_fault : Cl P w K mg base I 5 "steps_fault" 3 (K12.K32.C_steps_fault K) []) (cf__law_own_steps : Fr.ClF P w K mg base I 2 "_law_own_steps" 3 (K12.K32.C__law_own_steps K) []) (k_Rule : In.ClI P w K mg base I 5 "Rule" 2 (He.ga K "Rule") ["premises", "end"] (K12.K32.C_Rule_init K) []) (hgd : A.guards = some []) (jc__law_odd_row : ∀ (as : List Addr) (ct : Addr → List V), (∀ a ∈ as, ¬ I.foot a) → Cl P w K mg base (Fq.trk I as ct) 4 "_law_odd_row" 4 (K12.K32.C__law_odd_row K hd) []) (jc__law_take : ∀ (as : List Addr) (ct : Addr → List V), (∀ a ∈ as, ¬ I.foot a) → Cl P w K mg base (Fq.trk I as ct) 3 "_law_take" 2 (C__law_take hd) [])
    (hr : Room 8 (A.deeper (envOfC "law" (defScope s_law) s.heap.objs.size fa cdv))) (tk : Takes (cxD P w K mg base N_law "law" (defScope s_law) fa cdv A outer s H E) (gOf I Ed E).W) :
    PSsD (cxD P w K mg base N_law "law" (defScope s_law) fa cdv A outer s H E) (gOf I Ed E) (defBody s_law).tail (d_law K hd (gOf I Ed E).Ed) :=
  by
  have nd := sc_law.nd
  refine ds_cons ?_ ?_
  refine ds_set (i := 2) ?_ ?_ ?_ ?_
  exact nd
  exact rfl
  (first | exact Or.inl rfl | exact Or.inr rfl)
  refine d_ix ?_ ?_
  refine d_lst ?_
  refine da_lits ?_
  (decide +kernel)
  refine d_callC c__law_take (ar__law_take _) hr (by decide) rfl tk ?_
  refine da_cons ?_ ?_
  exact dv 1
  refine da_cons ?_ ?_
  exact d_int
  exact da_nil
  refine ds_cons ?_ ?_
  refine ds_lcV (i := 3) rfl nd rfl rfl (sw_true rfl rfl rfl (by decide +kernel)) ?_ (blkOk_by (own := [("_law_k", 5)]) (N := N_law) (sc := defScope s_law) (by decide +kernel)) ?_ sg_name (gw_name (by decide)) ?_ ?_
  refine di_range1 rfl T.n_range ?_
  refine da_cons ?_ ?_
  refine d_op r_add ?_ ?_
  exact d_int
  refine d_callC c__law_take (ar__law_take _) hr (by decide) rfl tk ?_
  refine da_cons ?_ ?_
  exact dv 1
  refine da_cons ?_ ?_
  exact d_int
  exact da_nil
  exact da_nil
  exact (fun _ _ _ _ _ => pg_name (i := 5) nd rfl (by first | exact Or.inl rfl | exact Or.inr rfl))
  exact bt_nil
  refine be_of ?_
  intro _ _ _ _ _
  refine d_callC c__law_rule (K12.K32.ar__law_rule _) hr (by decide) rfl takes0 ?_
  refine da_cons ?_ ?_
  exact dv 1
  refine da_cons ?_ ?_
  exact dv 2
  exact da_nil
  refine ds_cons ?_ ?_
  refine ds_set (i := 4) ?_ ?_ ?_ ?_
  exact nd
  exact rfl
  (first | exact Or.inl rfl | exact Or.inr rfl)
  refine d_callC c__law_rules_of (K12.K32.ar__law_rules_of _) hr (by decide) rfl tk ?_
  refine da_cons ?_ ?_
  exact dv 2
  refine da_cons ?_ ?_
  exact dv 3
  exact da_nil
  refine ds_cons ?_ ?_
  refine ds_for ?_ ?_ ?_ ?_ ?_
  exact passes_of rfl
  exact rfl
  refine di_range1 rfl T.n_range ?_
  refine da_cons ?_ ?_
  exact d_int
  exact da_nil
  exact dg_name (i := 5) nd rfl (by first | exact Or.inl rfl | exact Or.inr rfl)
  refine ds_cons ?_ ?_
  refine ds_set (i := 8) ?_ ?_ ?_ ?_
  exact nd
  exact rfl
  (first | exact Or.inl rfl | exact Or.inr rfl)
  refine d_callC c__law_rule (K12.K32.ar__law_rule _) hr (by decide) rfl tk ?_
  refine da_cons ?_ ?_
  exact dv 1
  refine da_cons ?_ ?_
  exact dv 2
  exact da_nil
  refine Fq.ds_open ?_
  refine Fq.fs_more (i := 9) nd rfl (by first | exact Or.inl rfl | exact Or.inr rfl) ?_ ?_
  refine Fr.pf_call cf__law_own_steps (K12.K32.ar__law_own_steps _) hr (by decide) rfl tk ?_
  refine da_cons ?_ ?_
  exact dv 2
  refine da_cons ?_ ?_
  exact dv 3
  refine da_cons ?_ ?_
  exact dv 8
  exact da_nil
  refine Fq.fs_cons ?_ ?_
  refine Fq.f_if ?_ ?_ ?_
  refine dt_cmp (r_eq (h64 hr)) ?_ ?_ (nomark _)
  refine d_callC c__law_take (ar__law_take _) hr (by decide) rfl tk ?_
  refine da_cons ?_ ?_
  exact dv 1
  refine da_cons ?_ ?_
  exact d_int
  exact da_nil
  exact d_int
  refine Fq.fs_one ?_
  refine Fq.f_reb (i := 9) nd rfl (by first | exact Or.inl rfl | exact Or.inr rfl) ?_
  refine Fm.pf_sl ?_ ?_ ?_
  exact dv 9
  exact do_none
  refine do_some ?_
  refine d_op r_add ?_ ?_
  exact d_int
  refine d_callC c__law_take (ar__law_take _) hr (by decide) rfl tk ?_
  refine da_cons ?_ ?_
  exact dv 1
  refine da_cons ?_ ?_
  refine d_callB c_len rfl T.n_len PySem.boot_len ?_
  refine da_cons ?_ ?_
  exact dv 9
  exact da_nil
  exact da_nil
  exact Fq.fs_nil
  refine Fq.fs_cons ?_ ?_
  refine Fq.f_for (j := 10) (passes_of rfl) rfl nd rfl (by first | exact Or.inl rfl | exact Or.inr rfl) ?_ ?_
  intro as ct hn
  refine di_range1 rfl T.n_range ?_
  refine da_cons ?_ ?_
  refine d_callC (jc__law_take _ _ hn) (ar__law_take _) hr (by decide) rfl tk ?_
  refine da_cons ?_ ?_
  exact dv 1
  refine da_cons ?_ ?_
  exact d_int
  exact da_nil
  exact da_nil
  refine Fq.fs_cons ?_ ?_
  refine Fq.f_set (j := 16) nd rfl (by first | exact Or.inl rfl | exact Or.inr rfl) ?_
  refine d_callC c__law_take (ar__law_take _) hr (by decide) rfl tk ?_
  refine da_cons ?_ ?_
  exact dv 1
  refine da_cons ?_ ?_
  refine d_callB c_len rfl T.n_len PySem.boot_len ?_
  refine da_cons ?_ ?_
  exact dv 9
  exact da_nil
  exact da_nil
  refine Fq.fs_cons ?_ ?_
  refine Fq.f_setT (j := 17) nd rfl (by first | exact Or.inl rfl | exact Or.inr rfl) ?_
  intro as ct hn
  refine d_callC (jc__law_odd_row _ _ hn) (K12.K32.ar__law_odd_row _) hr (by decide) rfl tk ?_
  refine da_consL ?_ ?_ ?_
  exact dv 1
  refine da_consL ?_ ?_ ?_
  exact dv 2
  refine da_consL ?_ ?_ ?_
  refine d_callB c_len rfl T.n_len PySem.boot_len ?_
  refine da_cons ?_ ?_
  exact dv 3
  exact da_nil
  refine da_consL ?_ ?_ ?_
  exact dv 16
  exact da_nil
  exact rfl
  exact rfl
  exact rfl
  exact rfl
  refine Fq.fs_cons ?_ ?_
  refine Fq.f_set (j := 18) nd rfl (by first | exact Or.inl rfl | exact Or.inr rfl) ?_
  refine d_callC c__law_take (ar__law_take _) hr (by decide) rfl tk ?_
  refine da_cons ?_ ?_
  exact dv 1
  refine da_cons ?_ ?_
  exact d_int
  exact da_nil
  refine Fq.fs_one ?_
  refine Fq.f_if ?_ ?_ ?_
  refine dt_cmp (r_lt hr.units0) ?_ ?_ (nomark _)
  exact dv 18
  exact d_int
  refine Fq.fs_one ?_
  refine Fq.f_setIx (i := 9) (k := 0) rfl rfl (by first | exact Or.inl rfl | exact Or.inr (Or.inl rfl)) (by decide) (by decide) ?_ ?_ (hsub := pg_sub (pv 9) pe_w set_list)
  intro as ct hn
  exact dv 17
  exact dv 16
  refine Fq.fs_one ?_
  refine Fq.f_if ?_ ?_ ?_
  refine dt_cmp (r_eq (h64 hr)) ?_ ?_ (nomark _)
  exact dv 18
  exact d_int
  refine Fq.fs_one ?_
  refine Fq.f_reb (i := 9) nd rfl (by first | exact Or.inl rfl | exact Or.inr rfl) ?_
  refine Nw.pf_cat ?_ ?_
  refine d_op r_add ?_ ?_
  refine d_slice ?_ ?_ ?_
  exact dv 9
  exact do_none
  refine do_some ?_
  exact dv 16
  refine d_lst ?_
  refine da_cons ?_ ?_
  exact dv 17
  exact da_nil
  refine d_slice ?_ ?_ ?_
  exact dv 9
  refine do_some ?_
  exact dv 16
  exact do_none
  refine Fq.fs_one ?_
  refine Fq.f_if ?_ ?_ ?_
  refine dt_cmp r_gt ?_ ?_ (nomark _)
  refine d_callB c_len rfl T.n_len PySem.boot_len ?_
  refine da_cons ?_ ?_
  exact dv 9
  exact da_nil
  exact d_int
  refine Fq.fs_one ?_
  refine Fq.f_reb (i := 9) nd rfl (by first | exact Or.inl rfl | exact Or.inr rfl) ?_
  refine Nw.pf_cat ?_ ?_
  refine d_slice ?_ ?_ ?_
  exact dv 9
  exact do_none
  refine do_some ?_
  exact dv 16
  refine d_slice ?_ ?_ ?_
  exact dv 9
  refine do_some ?_
  refine d_op r_add ?_ ?_
  exact dv 16
  exact d_int
  exact do_none
  exact Fq.fs_nil
  refine Fq.fs_drop ?_
  refine ds_cons ?_ ?_
  refine ds_set (i := 11) ?_ ?_ ?_ ?_
  exact nd
  exact rfl
  (first | exact Or.inl rfl | exact Or.inr rfl)
  refine d_callB (c_repr hgd (h64 hr)) rfl T.n_repr boot_repr ?_
  refine da_cons ?_ ?_
  exact dv 9
  exact da_nil
  refine ds_cons ?_ ?_
  refine ds_set (i := 12) ?_ ?_ ?_ ?_
  exact nd
  exact rfl
  (first | exact Or.inl rfl | exact Or.inr rfl)
  refine d_callC c__law_steps_word (K12.K32.ar__law_steps_word _) hr (by decide) rfl tk ?_
  refine da_consL ?_ ?_ ?_
  exact dv 2
  refine da_consL ?_ ?_ ?_
  exact dv 3
  refine da_consL ?_ ?_ ?_
  exact dv 8
  refine da_consL ?_ ?_ ?_
  exact dv 9
  exact da_nil
  exact rfl
  exact rfl
  exact rfl
  exact rfl
  refine ds_cons ?_ ?_
  refine ds_if ?_ ?_ ?_
  refine PWD.pt ?_
  refine dt_or ?_ ?_
  refine dt_cmp (r_ne (h64 hr)) ?_ ?_ (nomark _)
  refine d_callC c_steps_fault (K12.K32.ar_steps_fault _) hr (by decide) rfl tk ?_
  refine da_cons ?_ ?_
  exact dv 4
  refine da_cons ?_ ?_
  refine d_callC c__law_rule_of (K12.K32.ar__law_rule_of _) hr (by decide) rfl tk ?_
  refine da_cons ?_ ?_
  exact dv 8
  exact da_nil
  refine da_cons ?_ ?_
  exact dv 9
  exact da_nil
  exact dv 12
  refine dt_or1 ?_
  refine dt_cmp r_neS ?_ ?_ (nomark _)
  refine d_callB (c_repr hgd (h64 hr)) rfl T.n_repr boot_repr ?_
  refine da_cons ?_ ?_
  exact dv 9
  exact da_nil
  exact dv 11
  refine ds_one ?_
  refine ds_ret ?_
  exact d_bl
  exact ds_nil
  refine ds_cons ?_ ?_
  refine ds_if ?_ ?_ ?_
  refine dt_cmp (r_ne (h64 hr)) ?_ ?_ (nomark _)
  refine d_callC c_steps_fault (K12.K32.ar_steps_fault _) hr (by decide) rfl tk ?_
  refine da_cons ?_ ?_
  exact dv 4
  refine da_cons ?_ ?_
  refine d_callC c__law_rule_of (K12.K32.ar__law_rule_of _) hr (by decide) rfl tk ?_
  refine da_cons ?_ ?_
  exact dv 8
  exact da_nil
  refine da_cons ?_ ?_
  refine d_callTy c_tup rfl T.n_tuple boot_tuple ?_
  refine da_cons ?_ ?_
  exact dv 9
  exact da_nil
  exact da_nil
  exact dv 12
  refine ds_one ?_
  refine ds_ret ?_
  exact d_bl
  exact ds_nil
  refine ds_cons ?_ ?_
  refine ds_set (i := 13) ?_ ?_ ?_ ?_
  exact nd
  exact rfl
  (first | exact Or.inl rfl | exact Or.inr rfl)
  refine d_callC c__law_take (ar__law_take _) hr (by decide) rfl tk ?_
  refine da_cons ?_ ?_
  exact dv 1
  refine da_cons ?_ ?_
  exact dv 2
  exact da_nil
  refine ds_cons ?_ ?_
  refine ds_set (i := 14) ?_ ?_ ?_ ?_
  exact nd
  exact rfl
  (first | exact Or.inl rfl | exact Or.inr rfl)
  refine d_tup ?_
  refine da_cons ?_ ?_
  refine d_tup ?_
  exact da_nil
  refine da_cons ?_ ?_
  refine d_tup ?_
  refine da_cons ?_ ?_
  exact d_str
  refine da_cons ?_ ?_
  exact dv 13
  refine da_cons ?_ ?_
  exact dv 13
  exact da_nil
  exact da_nil
  refine ds_cons ?_ ?_
  refine ds_set (i := 15) ?_ ?_ ?_ ?_
  exact nd
  exact rfl
  (first | exact Or.inl rfl | exact Or.inr rfl)
  refine d_lst ?_
  refine da_cons ?_ ?_
  refine d_tup ?_
  refine da_cons ?_ ?_
  exact d_str
  refine da_cons ?_ ?_
  refine d_callC c__law_take (ar__law_take _) hr (by decide) rfl tk ?_
  refine da_cons ?_ ?_
  exact dv 1
  refine da_cons ?_ ?_
  exact dv 2
  exact da_nil
  exact da_nil
  refine da_cons ?_ ?_
  refine d_tup ?_
  refine da_cons ?_ ?_
  exact d_str
  refine da_cons ?_ ?_
  exact dv 13
  exact da_nil
  exact da_nil
  refine ds_cons ?_ ?_
  refine ds_if ?_ ?_ ?_
  refine dt_cmp r_isnot ?_ ?_ (nomark _)
  refine d_callC c_steps_fault (K12.K32.ar_steps_fault _) hr (by decide) rfl tk ?_
  refine da_cons ?_ ?_
  exact dv 4
  refine da_cons ?_ ?_
  refine d_callC c__law_rule_of (K12.K32.ar__law_rule_of _) hr (by decide) rfl tk ?_
  refine da_cons ?_ ?_
  exact dv 14
  exact da_nil
  refine da_cons ?_ ?_
  exact dv 15
  exact da_nil
  exact d_non
  refine ds_one ?_
  refine ds_ret ?_
  exact d_bl
  exact ds_nil
  refine ds_one ?_
  refine ds_if ?_ ?_ ?_
  refine PWD.pt ?_
  refine dt_and ?_ ?_
  refine dt_cmp r_gt ?_ ?_ (nomark _)
  exact dv 2
  exact d_int
  refine dt_and1 ?_
  refine dt_cmp (r_ne (h64 hr)) ?_ ?_ (nomark _)
  refine d_callC c_steps_fault (K12.K32.ar_steps_fault _) hr (by decide) rfl tk ?_
  refine da_cons ?_ ?_
  exact dv 4
  refine da_cons ?_ ?_
  refine d_callC c__law_rule_of (K12.K32.ar__law_rule_of _) hr (by decide) rfl tk ?_
  refine da_cons ?_ ?_
  exact dv 14
  exact da_nil
  refine da_cons ?_ ?_
  refine d_lst ?_
  refine da_cons ?_ ?_
  refine d_tup ?_
  refine da_cons ?_ ?_
  exact d_str
  refine da_cons ?_ ?_
  refine d_op r_mod ?_ ?_
  refine d_callTy c_int rfl T.n_int boot_int ?_
  refine da_cons ?_ ?_
  refine d_op r_add ?_ ?_
  exact dv 13
  exact d_int
  exact da_nil
  exact dv 2
  exact da_nil
  exact da_nil
  exact da_nil
  exact d_str
  refine ds_one ?_
  refine ds_ret ?_
  exact d_bl
  exact ds_nil
  refine ds_cons ?_ ?_
  refine ds_set (i := 6) ?_ ?_ ?_ ?_
  exact nd
  exact rfl
  (first | exact Or.inl rfl | exact Or.inr rfl)
  refine d_op Sl.r_repL2 ?_ ?_
  refine d_lst ?_
  refine da_cons ?_ ?_
  refine d_tup ?_
  refine da_cons ?_ ?_
  exact d_str
  refine da_cons ?_ ?_
  exact d_int
  exact da_nil
  exact da_nil
  refine d_ix ?_ ?_
  refine d_lst ?_
  refine da_cons ?_ ?_
  exact d_int
  refine da_cons ?_ ?_
  exact d_int
  exact da_nil
  refine d_callC c__law_take (ar__law_take _) hr (by decide) rfl tk ?_
  refine da_cons ?_ ?_
  exact dv 1
  refine da_cons ?_ ?_
  exact d_int
  exact da_nil
  refine ds_cons ?_ ?_
  refine ds_set (i := 7) ?_ ?_ ?_ ?_
  exact nd
  exact rfl
  (first | exact Or.inl rfl | exact Or.inr rfl)
  refine d_ifExp ?_ ?_ ?_
  refine dt_cmp (r_eq (h64 hr)) ?_ ?_ (nomark _)
  refine d_callB c_len rfl T.n_len PySem.boot_len ?_
  refine da_cons ?_ ?_
  exact dv 6
  exact da_nil
  exact d_int
  exact d_non
  exact d_str
  refine ds_cons ?_ ?_
  refine ds_if ?_ ?_ ?_
  refine dt_cmp (r_ne (h64 hr)) ?_ ?_ (nomark _)
  refine d_callC c_steps_fault (K12.K32.ar_steps_fault _) hr (by decide) rfl tk ?_
  refine da_cons ?_ ?_
  exact dv 4
  refine da_cons ?_ ?_
  refine In.d_mkI k_Rule hr (by decide) rfl tk ?_
  refine da_cons ?_ ?_
  refine d_tup ?_
  exact da_nil
  refine da_cons ?_ ?_
  refine d_tup ?_
  refine da_cons ?_ ?_
  exact d_str
  refine da_cons ?_ ?_
  exact d_int
  refine da_cons ?_ ?_
  exact d_int
  exact da_nil
  exact da_nil
  refine da_cons ?_ ?_
  exact dv 6
  exact da_nil
  exact dv 7
  refine ds_one ?_
  refine ds_ret ?_
  exact d_bl
  exact ds_nil
  refine ds_one ?_
  refine ds_ret ?_
  refine d_cmp (r_eq (h64 hr)) ?_ ?_ (nomark _)
  refine d_callC c_steps_fault (K12.K32.ar_steps_fault _) hr (by decide) rfl tk ?_
  refine da_cons ?_ ?_
  exact dv 4
  refine da_cons ?_ ?_
  refine In.d_mkI k_Rule hr (by decide) rfl tk ?_
  refine da_cons ?_ ?_
  refine d_tup ?_
  exact da_nil
  refine da_cons ?_ ?_
  refine d_tup ?_
  refine da_cons ?_ ?_
  exact d_str
  exact da_nil
  exact da_nil
  refine da_cons ?_ ?_
  refine d_ix ?_ ?_
  refine d_lst ?_
  refine da_consL ?_ ?_ ?_
  refine d_lst ?_
  exact da_nil
  refine da_consL ?_ ?_ ?_
  exact d_non
  refine da_consL ?_ ?_ ?_
  exact d_int
  refine da_consL ?_ ?_ ?_
  exact d_str
  refine da_consL ?_ ?_ ?_
  refine d_tup ?_
  exact da_nil
  exact da_nil
  exact rfl
  exact rfl
  exact rfl
  exact rfl
  exact rfl
  refine d_callC c__law_take (ar__law_take _) hr (by decide) rfl tk ?_
  refine da_cons ?_ ?_
  exact dv 1
  refine da_cons ?_ ?_
  exact d_int
  exact da_nil
  exact da_nil
  exact d_str
end K32

namespace K12.K32
open PySem PySem.Spec PyProof.Rows L2 Dl Ns Zs Zz Rk Rd _root_.K32 K12
open K12.K00 (ix_D len_D)
abbrev jOdd (K : PySem.W.Frag) (hd : Addr) : Fq.TSF := (Fq.fSeq (Fq.fSet [9] 16 (dCall ((C__law_take hd)) [] (fun _ _ => False) (dCons (dVar 1) (dCons (dCB bLen (dCons (dVar 9) (dNil))) (dNil))))) (Fq.fSeq (Fq.fSetT [9] 17 (dCall ((K12.K32.C__law_odd_row K hd)) [] (fun _ _ => False) (dCons (dVar 1) (dCons (dVar 2) (dCons (dCB bLen (dCons (dVar 3) (dNil))) (dCons (dVar 16) (dNil))))))) (Fq.fSeq (Fq.fSet [9] 18 (dCall ((C__law_take hd)) [] (fun _ _ => False) (dCons (dVar 1) (dCons (dC (.int 4)) (dNil))))) (Fq.fIf [9] (dTest (dOp fLt (dVar 18) (dC (.int 2)))) (Fq.fSetIx [9] 0 (dVar 17) (dVar 16)) (Fq.fIf [9] (dTest (dOp (fEq false) (dVar 18) (dC (.int 2)))) (Fq.fReb 9 (Nw.fCatF (dOp fAdd (dSl (dVar 9) (dNoP) (dPart (dVar 16))) (dLst (dCons (dVar 17) (dNil)))) (dSl (dVar 9) (dPart (dVar 16)) (dNoP)))) (Fq.fIf [9] (dTest (dOp fGt (dCB bLen (dCons (dVar 9) (dNil))) (dC (.int 1)))) (Fq.fReb 9 (Nw.fCatF (dSl (dVar 9) (dNoP) (dPart (dVar 16))) (dSl (dVar 9) (dPart (dOp fAdd (dVar 16) (dC (.int 1)))) (dNoP)))) (Fq.fNext)))))))
abbrev jDrop (K : PySem.W.Frag) (hd : Addr) : TSD := (sSeq (sAsg 11 (dCB bRepr (dCons (dVar 9) (dNil)))) (sSeq (sAsg 12 (dCall ((K12.K32.C__law_steps_word K)) [] (fun _ _ => False) (dCons (dVar 2) (dCons (dVar 3) (dCons (dVar 8) (dCons (dVar 9) (dNil))))))) (sSeq (sIf (dOr (dTest (dOp (fEq true) (dCall ((K12.K32.C_steps_fault K)) [] (fun _ _ => False) (dCons (dVar 4) (dCons (dCall ((K12.K32.C__law_rule_of K)) [] (fun _ _ => False) (dCons (dVar 8) (dNil))) (dCons (dVar 9) (dNil))))) (dVar 12))) (dTest (dOp fNeS (dCB bRepr (dCons (dVar 9) (dNil))) (dVar 11)))) (sRet (dC (.bl false))) (sNext)) (sSeq (sIf (dTest (dOp (fEq true) (dCall ((K12.K32.C_steps_fault K)) [] (fun _ _ => False) (dCons (dVar 4) (dCons (dCall ((K12.K32.C__law_rule_of K)) [] (fun _ _ => False) (dCons (dVar 8) (dNil))) (dCons (dCB bTup (dCons (dVar 9) (dNil))) (dNil))))) (dVar 12))) (sRet (dC (.bl false))) (sNext)) (sSeq (sAsg 13 (dCall ((C__law_take hd)) [] (fun _ _ => False) (dCons (dVar 1) (dCons (dVar 2) (dNil))))) (sSeq (sAsg 14 (dTup (dCons (dTup (dNil)) (dCons (dTup (dCons (dC (.str "not after")) (dCons (dVar 13) (dCons (dVar 13) (dNil))))) (dNil))))) (sSeq (sAsg 15 (dLst (dCons (dTup (dCons (dC (.str "self")) (dCons (dCall ((C__law_take hd)) [] (fun _ _ => False) (dCons (dVar 1) (dCons (dVar 2) (dNil)))) (dNil)))) (dCons (dTup (dCons (dC (.str "self")) (dCons (dVar 13) (dNil)))) (dNil))))) (sSeq (sIf (dTest (dOp (fIs true) (dCall ((K12.K32.C_steps_fault K)) [] (fun _ _ => False) (dCons (dVar 4) (dCons (dCall ((K12.K32.C__law_rule_of K)) [] (fun _ _ => False) (dCons (dVar 14) (dNil))) (dCons (dVar 15) (dNil))))) (dC .non))) (sRet (dC (.bl false))) (sNext)) (sIf (dAnd (dTest (dOp fGt (dVar 2) (dC (.int 1)))) (dTest (dOp (fEq true) (dCall ((K12.K32.C_steps_fault K)) [] (fun _ _ => False) (dCons (dVar 4) (dCons (dCall ((K12.K32.C__law_rule_of K)) [] (fun _ _ => False) (dCons (dVar 14) (dNil))) (dCons (dLst (dCons (dTup (dCons (dC (.str "self")) (dCons (dOp fMod (dCB bInt (dCons (dOp fAdd (dVar 13) (dC (.int 1))) (dNil))) (dVar 2)) (dNil)))) (dNil))) (dNil))))) (dC (.str "end"))))) (sRet (dC (.bl false))) (sNext))))))))))
abbrev jBody (K : PySem.W.Frag) (hd : Addr) : TSD := (sSeq (sAsg 8 (dCall ((K12.K32.C__law_rule K hd)) [] (fun _ _ => False) (dCons (dVar 1) (dCons (dVar 2) (dNil))))) (Fq.sOpen (Fq.fMore [] 9 (Fr.fCall ((K12.K32.C__law_own_steps K)) [] (fun _ _ => False) (dCons (dVar 2) (dCons (dVar 3) (dCons (dVar 8) (dNil))))) (Fq.fSeq (Fq.fIf [9] (dTest (dOp (fEq false) (dCall ((C__law_take hd)) [] (fun _ _ => False) (dCons (dVar 1) (dCons (dC (.int 3)) (dNil)))) (dC (.int 0)))) (Fq.fReb 9 (Fm.fSlF (dVar 9) (dNoP) (dPart (dOp fAdd (dC (.int 1)) (dCall ((C__law_take hd)) [] (fun _ _ => False) (dCons (dVar 1) (dCons (dCB bLen (dCons (dVar 9) (dNil))) (dNil)))))))) (Fq.fNext)) (Fq.fSeq (Fq.fFor (idRng1 (dCons (dCall ((C__law_take hd)) [] (fun _ _ => False) (dCons (dVar 1) (dCons (dC (.int 3)) (dNil)))) (dNil))) 10 (jOdd K hd) [9]) (Fq.fDrop [9] (jDrop K hd)))))))
abbrev jEnd (K : PySem.W.Frag) (hd : Addr) : TSD := (sSeq (sAsg 6 (dOp Sl.fRepL2 (dLst (dCons (dTup (dCons (dC (.str "self")) (dCons (dC (.int 0)) (dNil)))) (dNil))) (dOp fIx (dLst (dCons (dC (.int 1000)) (dCons (dC (.int 1001)) (dNil)))) (dCall ((C__law_take hd)) [] (fun _ _ => False) (dCons (dVar 1) (dCons (dC (.int 2)) (dNil))))))) (sSeq (sAsg 7 (dIf (dTest (dOp (fEq false) (dCB bLen (dCons (dVar 6) (dNil))) (dC (.int 1000)))) (dC .non) (dC (.str "steps")))) (sSeq (sIf (dTest (dOp (fEq true) (dCall ((K12.K32.C_steps_fault K)) [] (fun _ _ => False) (dCons (dVar 4) (dCons (In.dMk (He.ga K "Rule") 2 ["premises", "end"] (K12.K32.C_Rule_init K) [] (fun _ _ => False) (dCons (dTup (dNil)) (dCons (dTup (dCons (dC (.str "not after")) (dCons (dC (.int 0)) (dCons (dC (.int 0)) (dNil))))) (dNil)))) (dCons (dVar 6) (dNil))))) (dVar 7))) (sRet (dC (.bl false))) (sNext)) (sRet (dOp (fEq false) (dCall ((K12.K32.C_steps_fault K)) [] (fun _ _ => False) (dCons (dVar 4) (dCons (In.dMk (He.ga K "Rule") 2 ["premises", "end"] (K12.K32.C_Rule_init K) [] (fun _ _ => False) (dCons (dTup (dNil)) (dCons (dTup (dCons (dC (.str "never")) (dNil))) (dNil)))) (dCons (dOp fIx (dLst (dCons (dLst (dNil)) (dCons (dC .non) (dCons (dC (.int 5)) (dCons (dC (.str "self")) (dCons (dTup (dNil)) (dNil))))))) (dCall ((C__law_take hd)) [] (fun _ _ => False) (dCons (dVar 1) (dCons (dC (.int 5)) (dNil))))) (dNil))))) (dC (.str "steps")))))))
theorem fault_ok {rs : List Rl} {sh : Sh} {pr : PR} {w : Str} (h : fault rs sh pr = some w) : PyData.strOk w = true := by
  unfold fault at h
  split at h
  · split at h
    · split at h
      · cases h
      · cases h; decide +kernel
    · split at h
      · cases h
      · cases h; decide +kernel
    · cases h
  · cases h; decide +kernel
theorem run_ok {n : Int} {rs : List Rl} {r : Rl} : ∀ {rows : List Row} {sh : Sh} {w : Str}, run n rs r sh rows = .inl w → PyData.strOk w = true
  | [], sh, w, h => by cases h
  | row :: rows, sh, w, h => by
    unfold run at h
    split at h
    · cases h; decide +kernel
    · split at h
      · rename_i e; cases h; exact fault_ok e
      · exact run_ok h
theorem word_ok {n : Int} {rs : List Rl} {r : Rl} {rows : List Row} {w : Str} (h : wordOf n rs r rows = some w) : PyData.strOk w = true := by
  unfold wordOf at h
  split at h
  · cases h; decide +kernel
  · split at h
    · rename_i e; cases h; exact run_ok e
    · split at h
      · split at h
        · cases h
        · cases h; decide +kernel
      · cases h
theorem okW (n : Int) (rs : List Rl) (r : Rl) (rows : List Row) : okD (wD (wordOf n rs r rows)) := by
  cases h : wordOf n rs r rows with
  | none => exact ⟨rfl, Nat.zero_le _⟩
  | some w => exact ⟨word_ok h, Nat.zero_le _⟩
theorem sameNe {d : D} {Q : D → Prop} (h : okD d) (q : Q (.bl false)) : fEq true d d Q := eq_d h h (by rw [eqD_refl h.1]; exact q)
theorem self_run {n : Int} {rs : List Rl} {r : Rl} : ∀ (xs : List Int) (sh : Sh), (∀ x ∈ xs, 0 ≤ x ∧ x < n) → run n rs r sh (xs.map fun x => .sq true .self [.a (.i x)]) = .inr (sh ++ xs.map fun x => some (x, x))
  | [], sh, _ => by rw [List.map_nil, List.map_nil, List.append_nil]; rfl
  | x :: xs, sh, h => by
    have hx := h x List.mem_cons_self
    have ep : parse n rs.length r.1.length (.sq true .self [.a (.i x)]) = some (.self x) := if_pos hx
    have ef : fault rs sh (.self x) = none := rfl
    rw [List.map_cons, run, ep]
    dsimp only
    rw [ef]
    dsimp only
    rw [self_run xs _ fun y hy => h y (List.mem_cons_of_mem _ hy), List.map_cons, List.append_assoc]
    rfl
theorem word_self {n : Int} {rs : List Rl} {r : Rl} {xs : List Int} {x : Int} (ne : xs ≠ []) (few : xs.length ≤ 1000) (h : ∀ x ∈ xs, 0 ≤ x ∧ x < n) (hl : xs.getLast? = some x) : wordOf n rs r (xs.map fun x => .sq true .self [.a (.i x)]) = if r.2 = some (x, x) then none else some ("end" : Str) := by
  unfold wordOf
  rw [if_neg (by rw [List.length_map, List.map_eq_nil_iff]; intro z; rcases z with z | z; exact ne z; omega), self_run xs [] h]
  dsimp only
  rw [List.nil_append, List.getLast?_map, hl]
  rfl
theorem rowS_ok {x : Int} (h : -(100000) ≤ x ∧ x ≤ 100000) : RowOk (.sq true .self [.a (.i x)]) := ok_one h
theorem tabP {ns : List Int} {r : Int} (P : Int → Prop) (h : ∀ x ∈ ns, P x) (r0 : 0 ≤ r) (r1 : r < ns.length) {Q : D → Prop} (q : ∀ x : Int, P x → Q (.int x)) : fIx (.lst (ns.map D.int)) (.int r) Q := by
  obtain ⟨d, e, hd⟩ := atI_ok (xs := ns.map D.int) r0 (by rw [List.length_map]; exact r1)
  obtain ⟨x, hx, rfl⟩ := List.mem_map.mp hd
  exact rIxL e (q x (h x hx))
theorem noN : ∀ {env : DEnv} {i : Nat}, noOwn env = true → noOwn (env.set i .no) = true
  | [], _, h => h
  | .val _ :: r, 0, h => by simpa [noOwn] using h
  | .no :: r, 0, h => by simpa [noOwn] using h
  | .val _ :: r, i + 1, h => by
    have : noOwn r = true := by simpa [noOwn] using h
    show noOwn (.val _ :: r.set i .no) = true
    simpa [noOwn] using noN this
  | .no :: r, i + 1, h => by
    have : noOwn r = true := by simpa [noOwn] using h
    show noOwn (.no :: r.set i .no) = true
    simpa [noOwn] using noN this
abbrev selfs (xs : List Int) : List Row := xs.map fun x => .sq true .self [.a (.i x)]
theorem selfs_ok {xs : List Int} (h : ∀ x ∈ xs, -(100000) ≤ x ∧ x ≤ 100000) : ∀ row ∈ selfs xs, RowOk row := fun row hr => by
  obtain ⟨x, hx, rfl⟩ := List.mem_map.mp hr
  exact rowS_ok (h x hx)
theorem j_end {K : PySem.W.Frag} {hd : Addr} {n : Int} {rs : List Rl} (A : ∀ r, GR n r → Ask n rs r) (n1 : 1 ≤ n) {v0 : D} {s5 s6 s7 s8 s9 s10 s11 s12 s13 s14 s15 s16 s17 s18 : Slot}
    (no : noOwn [.val v0, .val (.ref hd), .val (.int n), .val (.lst (rs.map ruleT)), .val (rulesI K n rs), s5, s6, s7, s8, s9, s10, s11, s12, s13, s14, s15, s16, s17, s18] = true) :
    jEnd K hd eL [.val v0, .val (.ref hd), .val (.int n), .val (.lst (rs.map ruleT)), .val (rulesI K n rs), s5, s6, s7, s8, s9, s10, s11, s12, s13, s14, s15, s16, s17, s18] := by
  have g0 : GR n ([], some (0, 0)) := ⟨Nat.zero_le _, (fun p hp => by cases hp), fun p hp => by cases hp; exact ⟨⟨Int.le_refl _, by show (0 : Int) < n; omega⟩, Int.le_refl _, by show (0 : Int) < n; omega⟩⟩
  have gN : GR n ([], none) := ⟨Nat.zero_le _, (fun p hp => by cases hp), (fun p hp => by cases hp)⟩
  have n7 := (A _ gN).hi
  show sSeq _ _ _ _
  (repeat decreasing_trivial_pre_omega)
  refine tk_ok (by decide) (by decide) fun t t0 t1 => ?_
  refine tabP (ns := [1000, 1001]) (fun k => k = 1000 ∨ k = 1001) (by decide) t0 t1 fun k hk => ?_
  refine ⟨_, k, rfl, rfl, by omega, by omega, by decide, ?_⟩
  have e1 : (List.replicate k.toNat [D.tup [.str "self", .int 0]]).flatten = (selfs (List.replicate k.toNat 0)).map rowD := by
    rw [List.flatten_replicate_singleton, List.map_map, List.map_replicate]
    rfl
  rw [e1]
  refine ⟨.inl (noN no), ?_⟩
  have lr : (selfs (List.replicate k.toNat 0)).length = k.toNat := by rw [List.length_map, List.length_replicate]
  have okr : stepOk (.inr (false, selfs (List.replicate k.toNat 0))) := ⟨by rw [lr]; omega, selfs_ok fun x hx => by rw [(List.mem_replicate.mp hx).2]; decide⟩
  have w1 : wordOf n rs ([], some (0, 0)) (selfs (List.replicate k.toNat 0)) = if k = 1000 then none else some ("steps" : Str) := by
    rcases hk with rfl | rfl
    · rw [if_pos rfl]
      refine (word_self (x := 0) (by decide) (by decide) (fun x hx => by rw [(List.mem_replicate.mp hx).2]; omega) (by rw [List.getLast?_replicate]; rfl)).trans ?_
      exact if_pos rfl
    · rw [if_neg (by decide)]
      unfold wordOf
      rw [if_pos (.inr (by rw [lr]; decide))]
  have step2 : ∀ {Q : D → Prop}, Q (wD (if k = 1000 then none else some ("steps" : Str))) → dIf (dTest (dOp (fEq false) (dCB bLen (dCons (dVar 6) (dNil))) (dC (.int 1000)))) (dC .non) (dC (.str "steps")) [.val v0, .val (.ref hd), .val (.int n), .val (.lst (rs.map ruleT)), .val (rulesI K n rs), s5, .val (.lst ((selfs (List.replicate k.toNat 0)).map rowD)), s7, s8, s9, s10, s11, s12, s13, s14, s15, s16, s17, s18] Q := fun {Q} hQ => by
    (repeat decreasing_trivial_pre_omega)
    rw [List.length_map, lr]
    rcases hk with rfl | rfl
    · rw [decide_eq_true (show (((1000 : Int).toNat : Nat) : Int) = 1000 by decide)]
      (repeat decreasing_trivial_pre_omega)
      exact hQ
    · rw [decide_eq_false (show ¬ (((1001 : Int).toNat : Nat) : Int) = 1000 by decide)]
      (repeat decreasing_trivial_pre_omega)
      exact hQ
  refine rSeq (rAsg (step2 ?_))
  refine ⟨.inr (nl_w _), ?_⟩
  refine rSeq ?_
  unfold In.dMk
  (repeat decreasing_trivial_pre_omega)
  refine ⟨rfl, true, true, ([], some (0, 0)), rfl, g0.up n7, fun _ => ?_⟩
  (repeat decreasing_trivial_pre_omega)
  refine ⟨n, rs, ([], some (0, 0)), .inr (false, selfs (List.replicate k.toNat 0)), rfl, A _ g0, okr, ?_⟩
  (repeat decreasing_trivial_pre_omega)
  show fEq true (wD (wordOf n rs ([], some (0, 0)) (selfs (List.replicate k.toNat 0)))) _ _
  rw [← w1]
  refine sameNe (okW _ _ _ _) ?_
  (repeat decreasing_trivial_pre_omega)
  refine ⟨rfl, true, true, ([], none), rfl, gN.up n7, fun _ => ?_⟩
  (repeat decreasing_trivial_pre_omega)
  refine tk_ok (by decide) (by decide) fun j j0 j1 => ?_
  have fin : ∀ st : Sum D (Bool × List Row), stepOk st → stepW n rs ([], none) st = some "steps" → (C_steps_fault K) [rulesI K n rs, ruleI K ([], none), stepD st] (fun x => fEq false x (.str "steps") fun d => d = .bl true) fun _ => False := fun st so sw => by
    refine ⟨n, rs, ([], none), st, rfl, A _ gN, so, ?_⟩
    rw [sw]
    exact eqsT rfl (by decide +kernel)
  obtain ⟨d, e, hdm⟩ := atI_ok (xs := [D.lst [], D.non, D.int 5, D.str "self", D.tup []]) j0 j1
  refine rIxL e ?_
  (repeat decreasing_trivial_pre_omega)
  simp only [List.mem_cons, List.not_mem_nil, or_false] at hdm
  rcases hdm with rfl | rfl | rfl | rfl | rfl
  · exact fin (.inr (false, [])) ⟨Nat.zero_le _, fun x hx => by cases hx⟩ rfl
  · exact fin (.inl .non) ⟨rfl, rfl⟩ rfl
  · exact fin (.inl (.int 5)) ⟨rfl, rfl⟩ rfl
  · exact fin (.inl (.str "self")) ⟨rfl, rfl⟩ rfl
  · exact fin (.inr (true, [])) ⟨Nat.zero_le _, fun x hx => by cases hx⟩ rfl
def W0 (K : PySem.W.Frag) (hd : Addr) (v0 : D) (n : Int) (rs : List Rl) (env : DEnv) : Prop := ∃ s5 s6 s7 s8 s9 s10 s11 s12 s13 s14 s15 s16 s17 s18 : Slot,
  env = [.val v0, .val (.ref hd), .val (.int n), .val (.lst (rs.map ruleT)), .val (rulesI K n rs), s5, s6, s7, s8, s9, s10, s11, s12, s13, s14, s15, s16, s17, s18] ∧ noOwn env = true
theorem next_ne {x n : Int} (h0 : 0 ≤ x) (h1 : x < n) (h2 : 1 < n) : (0 ≤ (x + 1) % n ∧ (x + 1) % n < n) ∧ (x + 1) % n ≠ x := by
  refine ⟨⟨Int.emod_nonneg _ (by omega), Int.emod_lt_of_pos _ (by omega)⟩, ?_⟩
  by_cases c : x + 1 < n
  · rw [Int.emod_eq_of_lt (by omega) c]; omega
  · have : x + 1 = n := by omega
    rw [this, Int.emod_self]; omega
theorem j_drop {K : PySem.W.Frag} {hd : Addr} {n : Int} {rs : List Rl} (A : ∀ r, GR n r → Ask n rs r) (n1 : 1 ≤ n) {v0 : D} {r : Rl} (g : GR n r) {rows : List Row} (ok : ∀ row ∈ rows, RowOk row) (l : rows.length ≤ 1000) {Dd : DEnds} {s5 s6 s7 s10 s11 s12 s13 s14 s15 s16 s17 s18 : Slot}
    (no : noOwn [.val v0, .val (.ref hd), .val (.int n), .val (.lst (rs.map ruleT)), .val (rulesI K n rs), s5, s6, s7, .val (ruleT r), .val (.lst (rows.map rowD)), s10, s11, s12, s13, s14, s15, s16, s17, s18] = true)
    (kk : ∀ env, W0 K hd v0 n rs env → Dd.nx env) :
    jDrop K hd Dd [.val v0, .val (.ref hd), .val (.int n), .val (.lst (rs.map ruleT)), .val (rulesI K n rs), s5, s6, s7, .val (ruleT r), .val (.lst (rows.map rowD)), s10, s11, s12, s13, s14, s15, s16, s17, s18] := by
  have n7 := (A r g).hi
  have so : ∀ tp, stepOk (.inr (tp, rows)) := fun tp => ⟨by omega, ok⟩
  show sSeq _ _ _ _
  (repeat decreasing_trivial_pre_omega)
  refine rep_rows ok l ?_
  refine ⟨.inr rfl, ?_⟩
  (repeat decreasing_trivial_pre_omega)
  refine ⟨n, rs, r, rows, rfl, A r g, so false, ?_⟩
  refine ⟨.inr (nl_w _), ?_⟩
  (repeat decreasing_trivial_pre_omega)
  refine ⟨r, rfl, g.up n7, ?_⟩
  (repeat decreasing_trivial_pre_omega)
  refine ⟨n, rs, r, .inr (false, rows), rfl, A r g, so false, ?_⟩
  (repeat decreasing_trivial_pre_omega)
  refine sameNe (okW n rs r rows) ?_
  (repeat decreasing_trivial_pre_omega)
  refine rep_rows ok l ?_
  (repeat decreasing_trivial_pre_omega)
  refine ⟨_, _, rfl, rfl, ?_⟩
  rw [decide_eq_true rfl]
  (repeat decreasing_trivial_pre_omega)
  refine ⟨r, rfl, g.up n7, ?_⟩
  (repeat decreasing_trivial_pre_omega)
  refine ⟨n, rs, r, .inr (true, rows), rfl, A r g, so true, ?_⟩
  (repeat decreasing_trivial_pre_omega)
  refine sameNe (okW n rs r rows) ?_
  (repeat decreasing_trivial_pre_omega)
  refine tk_ok (by omega) (Int.lt_of_le_of_lt n7 (by decide)) fun x x0 x1 => ?_
  refine ⟨.inr rfl, ?_⟩
  (repeat decreasing_trivial_pre_omega)
  refine tk_ok (by omega) (Int.lt_of_le_of_lt n7 (by decide)) fun t t0 t1 => ?_
  (repeat decreasing_trivial_pre_omega)
  refine ⟨.inl (noN (Fm.noOwn_val (j := 14) (Fm.noOwn_val (j := 13) (Fm.noOwn_val (j := 12) (Fm.noOwn_val (j := 11) no))))), ?_⟩
  have gx : GR n ([], some (x, x)) := ⟨Nat.zero_le _, (fun p hp => by cases hp), fun p hp => by cases hp; exact ⟨⟨x0, x1⟩, x0, x1⟩⟩
  (repeat decreasing_trivial_pre_omega)
  refine ⟨([], some (x, x)), rfl, gx.up n7, ?_⟩
  (repeat decreasing_trivial_pre_omega)
  refine ⟨n, rs, ([], some (x, x)), .inr (false, selfs [t, x]), rfl, A _ gx, ⟨Nat.le_of_ble_eq_true rfl, selfs_ok fun y hy => ?_⟩, ?_⟩
  · simp only [List.mem_cons, List.not_mem_nil, or_false] at hy
    rcases hy with rfl | rfl <;> omega
  (repeat decreasing_trivial_pre_omega)
  have w1 : stepW n rs ([], some (x, x)) (.inr (false, selfs [t, x])) = none := by
    refine (word_self (x := x) (xs := [t, x]) (by simp) (Nat.le_of_ble_eq_true rfl) (fun y hy => ?_) rfl).trans (if_pos rfl)
    simp only [List.mem_cons, List.not_mem_nil, or_false] at hy
    rcases hy with rfl | rfl <;> omega
  rw [w1]
  refine ⟨false, rfl, ?_⟩
  rw [if_neg (by decide)]
  (repeat decreasing_trivial_pre_omega)
  by_cases c : n > 1
  · rw [decide_eq_true (show n > 1 from c)]
    (repeat decreasing_trivial_pre_omega)
    refine ⟨([], some (x, x)), rfl, gx.up n7, ?_⟩
    (repeat decreasing_trivial_pre_omega)
    refine ⟨_, rfl, ?_⟩
    (repeat decreasing_trivial_pre_omega)
    refine rFI (show (0 : Int) < n by omega) ?_
    (repeat decreasing_trivial_pre_omega)
    obtain ⟨⟨y0, y1⟩, yn⟩ := next_ne x0 x1 c
    refine ⟨n, rs, ([], some (x, x)), .inr (false, selfs [(x + 1) % n]), rfl, A _ gx, ⟨Nat.le_of_ble_eq_true rfl, selfs_ok fun y hy => ?_⟩, ?_⟩
    · rw [List.mem_singleton.mp hy]; omega
    (repeat decreasing_trivial_pre_omega)
    have w2 : stepW n rs ([], some (x, x)) (.inr (false, selfs [(x + 1) % n])) = some "end" := by
      refine (word_self (x := (x + 1) % n) (xs := [(x + 1) % n]) (by simp) (Nat.le_of_ble_eq_true rfl) (fun y hy => ?_) rfl).trans (if_neg fun z => yn (congrArg Prod.fst (Option.some.inj z)).symm)
      rw [List.mem_singleton.mp hy]; exact ⟨y0, y1⟩
    rw [w2]
    refine sameNe ⟨by decide +kernel, by decide +kernel⟩ ?_
    (repeat decreasing_trivial_pre_omega)
    exact kk _ ⟨_, _, _, _, _, _, _, _, _, _, _, _, _, _, rfl, Fm.noOwn_val (j := 15) (Fm.noOwn_val (j := 14) (Fm.noOwn_val (j := 13) (Fm.noOwn_val (j := 12) (Fm.noOwn_val (j := 11) no))))⟩
  · rw [decide_eq_false (show ¬ n > 1 from c)]
    (repeat decreasing_trivial_pre_omega)
    exact kk _ ⟨_, _, _, _, _, _, _, _, _, _, _, _, _, _, rfl, Fm.noOwn_val (j := 15) (Fm.noOwn_val (j := 14) (Fm.noOwn_val (j := 13) (Fm.noOwn_val (j := 12) (Fm.noOwn_val (j := 11) no))))⟩
def Wt (K : PySem.W.Frag) (hd : Addr) (v0 : D) (n : Int) (rs : List Rl) (r : Rl) (env : DEnv) : Prop := ∃ s5 s6 s7 s10 s11 s12 s13 s14 s15 s16 s17 s18 : Slot,
  env = [.val v0, .val (.ref hd), .val (.int n), .val (.lst (rs.map ruleT)), .val (rulesI K n rs), s5, s6, s7, .val (ruleT r), .no, s10, s11, s12, s13, s14, s15, s16, s17, s18] ∧ noOwn env = true
section
variable {is : List Nat} {i j : Nat} {td te ti : TED} {tt : TTD} {tf : TFD} {t u : Fq.TSF} {ts : TSD} {Dd : Fq.FEnds} {T : Fq.Sts} {env : DEnv}
theorem qSeq (q : t { Dd with nx := u Dd, pl := { Dd.pl with nx := fun _ => False } } T env) : Fq.fSeq t u Dd T env := q
theorem qSet (q : td (Fq.view is T env) fun d => d.noLst = true ∧ j ∉ is ∧ Dd.nx T (env.set j (.val d))) : Fq.fSet is j td Dd T env := q
theorem qSetT (q : td env fun d => j ∉ is ∧ Dd.nx T (env.set j (.val d))) : Fq.fSetT is j td Dd T env := q
theorem qIf (q : tt (Fq.view is T env) fun c => if c = true then t Dd T env else u Dd T env) : Fq.fIf is tt t u Dd T env := q
theorem qSetIx (q : te env fun d => ti (Fq.view is T env) fun z => ∃ (xs : List D) (n : Nat), T[i]? = some xs ∧ z = .int n ∧ n < xs.length ∧ Dd.nx (T.set i (xs.set n d)) env) : Fq.fSetIx is i te ti Dd T env := q
theorem qReb (h : i < env.length) (q : tf (Fq.view [i] T env) fun ds => Dd.nx [ds] env) : Fq.fReb i tf Dd T env := ⟨h, q⟩
theorem qCat {ta tb : TED} {Q : List D → Prop} (q : ta env fun x => tb env fun y => ∃ xs ys : List D, x = .lst xs ∧ y = .lst ys ∧ xs.length + ys.length ≤ sizeLine ∧ Q (xs ++ ys)) : Nw.fCatF ta tb env Q := q
end
theorem j_odd {K : PySem.W.Frag} {hd : Addr} {n : Int} {rs : List Rl} {r : Rl} {v0 : D} (n1 : 1 ≤ n) (n7 : n ≤ 7) (l1 : 1 ≤ rs.length) (l8 : rs.length ≤ 80) {rows : List Row} (ok : ∀ row ∈ rows, RowOk row) (m1 : 1 ≤ rows.length) (m2 : rows.length ≤ 900) {Dd : Fq.FEnds} {env : DEnv} (h : Wt K hd v0 n rs r env)
    (kk : ∀ (rows2 : List Row) (env : DEnv), (∀ row ∈ rows2, RowOk row) → 1 ≤ rows2.length → rows2.length ≤ rows.length + 1 → Wt K hd v0 n rs r env → Dd.nx [rows2.map rowD] env) : jOdd K hd Dd [rows.map rowD] env := by
  obtain ⟨s5, s6, s7, s10, s11, s12, s13, s14, s15, s16, s17, s18, rfl, no⟩ := h
  have big : (10000 : Nat) < sizeLine := by decide
  have sm : ∀ {m : Int}, m < 2000 → m < 2 ^ 100 := fun h => Int.lt_trans h (by decide)
  refine qSeq (qSet ?_)
  (repeat decreasing_trivial_pre_omega)
  rw [List.length_map]
  refine tk_ok (by omega) (sm (by omega)) fun at_ a0 a1 => ⟨rfl, by decide, ?_⟩
  obtain ⟨j, rfl⟩ := Int.eq_ofNat_of_zero_le a0
  have hj : j < rows.length := by omega
  dsimp only
  refine qSeq (qSetT ?_)
  (repeat decreasing_trivial_pre_omega)
  rw [List.length_map]
  refine ⟨n, (rs.length : Nat), (j : Nat), rfl, ⟨n1, n7⟩, ⟨by omega, by omega⟩, ⟨by omega, by omega⟩, fun row hrow => ⟨by decide, ?_⟩⟩
  dsimp only
  refine qSeq (qSet ?_)
  (repeat decreasing_trivial_pre_omega)
  refine tk_ok (by decide) (by decide) fun kind k0 k1 => ⟨rfl, by decide, ?_⟩
  have wt : Wt K hd v0 n rs r [.val v0, .val (.ref hd), .val (.int n), .val (.lst (rs.map ruleT)), .val (rulesI K n rs), s5, s6, s7, .val (ruleT r), .no, s10, s11, s12, s13, s14, s15, .val (.int (j : Nat)), .val (rowD row), .val (.int kind)] :=
    ⟨_, _, _, _, _, _, _, _, _, _, _, _, rfl, Fm.noOwn_val (j := 18) (Fm.noOwn_val (j := 17) (Fm.noOwn_val (j := 16) no))⟩
  have tk : ∀ row ∈ rows.take j, RowOk row := fun q hq => ok q (List.mem_of_mem_take hq)
  have dp : ∀ a, ∀ row ∈ rows.drop a, RowOk row := fun a q hq => ok q (List.mem_of_mem_drop hq)
  dsimp only
  refine qIf ?_
  (repeat decreasing_trivial_pre_omega)
  by_cases c1 : kind < 2
  · rw [decide_eq_true c1]
    (repeat decreasing_trivial_pre_omega)
    refine qSetIx ?_
    (repeat decreasing_trivial_pre_omega)
    refine ⟨rows.map rowD, j, rfl, rfl, by rw [List.length_map]; exact hj, ?_⟩
    show Dd.nx [(rows.map rowD).set j (rowD row)] _
    rw [← List.map_set]
    refine kk _ _ (fun q hq => ?_) (by rw [List.length_set]; omega) (by rw [List.length_set]; omega) wt
    rcases List.mem_or_eq_of_mem_set hq with z | z
    · exact ok q z
    · rw [z]; exact hrow
  rw [decide_eq_false c1]
  (repeat decreasing_trivial_pre_omega)
  refine qIf ?_
  (repeat decreasing_trivial_pre_omega)
  by_cases c2 : kind = 2
  · rw [decide_eq_true c2]
    (repeat decreasing_trivial_pre_omega)
    refine qReb (Nat.le_of_ble_eq_true rfl) (qCat ?_)
    (repeat decreasing_trivial_pre_omega)
    refine sl_to ?_
    (repeat decreasing_trivial_pre_omega)
    refine ⟨by rw [List.length_take, List.length_map, List.length_singleton]; omega, ?_⟩
    (repeat decreasing_trivial_pre_omega)
    refine sl_from ?_
    refine ⟨_, _, rfl, rfl, by rw [List.length_append, List.length_take, List.length_drop, List.length_map, List.length_singleton]; omega, ?_⟩
    have e : (rows.map rowD).take j ++ [rowD row] ++ (rows.map rowD).drop j = (rows.take j ++ [row] ++ rows.drop j).map rowD := by
      rw [List.map_append, List.map_append, List.map_take, List.map_drop]; rfl
    rw [e]
    refine kk _ _ (fun q hq => ?_) (by rw [List.length_append, List.length_append, List.length_singleton]; omega) (by rw [List.length_append, List.length_append, List.length_take, List.length_drop, List.length_singleton]; omega) wt
    rcases List.mem_append.mp hq with z | z
    · rcases List.mem_append.mp z with z | z
      · exact tk q z
      · rw [List.mem_singleton.mp z]; exact hrow
    · exact dp j q z
  rw [decide_eq_false c2]
  (repeat decreasing_trivial_pre_omega)
  refine qIf ?_
  (repeat decreasing_trivial_pre_omega)
  rw [List.length_map]
  by_cases c3 : (rows.length : Int) > 1
  · rw [decide_eq_true (show (rows.length : Int) > 1 from c3)]
    (repeat decreasing_trivial_pre_omega)
    refine qReb (Nat.le_of_ble_eq_true rfl) (qCat ?_)
    (repeat decreasing_trivial_pre_omega)
    refine sl_to ?_
    (repeat decreasing_trivial_pre_omega)
    refine sl_from (a := j + 1) ?_
    refine ⟨_, _, rfl, rfl, by rw [List.length_take, List.length_drop, List.length_map]; omega, ?_⟩
    have e : (rows.map rowD).take j ++ (rows.map rowD).drop (j + 1) = (rows.take j ++ rows.drop (j + 1)).map rowD := by
      rw [List.map_append, List.map_take, List.map_drop]
    rw [e]
    refine kk _ _ (fun q hq => ?_) (by rw [List.length_append, List.length_take, List.length_drop]; omega) (by rw [List.length_append, List.length_take, List.length_drop]; omega) wt
    rcases List.mem_append.mp hq with z | z
    · exact tk q z
    · exact dp (j + 1) q z
  · rw [decide_eq_false (show ¬ (rows.length : Int) > 1 from c3)]
    (repeat decreasing_trivial_pre_omega)
    exact kk rows _ ok m1 (by omega) wt
theorem j_loop {K : PySem.W.Frag} {hd : Addr} {n : Int} {rs : List Rl} {r : Rl} {v0 : D} (n1 : 1 ≤ n) (n7 : n ≤ 7) (l1 : 1 ≤ rs.length) (l8 : rs.length ≤ 80) {Dd : Fq.FEnds} : ∀ (ds : List D) (rows : List Row) (env : DEnv), (∀ row ∈ rows, RowOk row) → 1 ≤ rows.length → rows.length + ds.length ≤ 900 → Wt K hd v0 n rs r env →
    (∀ (rows2 : List Row) (env : DEnv), (∀ row ∈ rows2, RowOk row) → 1 ≤ rows2.length → rows2.length ≤ 900 → Wt K hd v0 n rs r env → Dd.nx [rows2.map rowD] env) → Fq.forF 10 (jOdd K hd) [9] Dd ds [rows.map rowD] env
  | [], rows, env, ok, m1, m2, h, kk => kk rows env ok m1 (by rw [List.length_nil] at m2; omega) h
  | d :: ds, rows, env, ok, m1, m2, h, kk => by
    rw [List.length_cons] at m2
    refine ⟨by decide, ?_⟩
    have h2 : Wt K hd v0 n rs r (env.set 10 (.val d)) := by
      obtain ⟨s5, s6, s7, s10, s11, s12, s13, s14, s15, s16, s17, s18, rfl, no⟩ := h
      exact ⟨s5, s6, s7, _, s11, s12, s13, s14, s15, s16, s17, s18, rfl, Fm.noOwn_val (j := 10) no⟩
    refine j_odd n1 n7 l1 l8 ok m1 (by omega) h2 fun rows2 env2 ok2 a b h3 => ?_
    exact j_loop n1 n7 l1 l8 ds rows2 env2 ok2 a (by omega) h3 kk
theorem qFor {tid : TID} {j : Nat} {tb : Fq.TSF} {is : List Nat} {Dd : Fq.FEnds} {T : Fq.Sts} {env : DEnv} (q : tid env fun ds => Fq.forF j tb is Dd ds T env) : Fq.fFor tid j tb is Dd T env := q
theorem qSl {td : TED} {tl th : TOD} {env : DEnv} {Q : List D → Prop} (q : td env fun x => tl env fun lo => th env fun hi => ∃ xs, x = .lst xs ∧ Q (cutL xs lo hi)) : Fm.fSlF td tl th env Q := q
theorem j_cont {K : PySem.W.Frag} {hd : Addr} {n : Int} {rs : List Rl} (A : ∀ r, GR n r → Ask n rs r) (n1 : 1 ≤ n) (l1 : 1 ≤ rs.length) {v0 : D} {r : Rl} (g : GR n r) {rows : List Row} (ok : ∀ row ∈ rows, RowOk row) (m1 : 1 ≤ rows.length) (m2 : rows.length ≤ 200) {DF : Fq.FEnds} {env : DEnv} (h : Wt K hd v0 n rs r env) (kk : ∀ env, W0 K hd v0 n rs env → DF.pl.nx env) :
    Fq.fSeq (Fq.fFor (idRng1 (dCons (dCall ((C__law_take hd)) [] (fun _ _ => False) (dCons (dVar 1) (dCons (dC (.int 3)) (dNil)))) (dNil))) 10 (jOdd K hd) [9]) (Fq.fDrop [9] (jDrop K hd)) DF [rows.map rowD] env := by
  have l8 := (A r g).few
  have n7 := (A r g).hi
  have h0 := h
  obtain ⟨s5, s6, s7, s10, s11, s12, s13, s14, s15, s16, s17, s18, rfl, no⟩ := h0
  refine qSeq (qFor ?_)
  (repeat decreasing_trivial_pre_omega)
  refine tk_ok (by decide) (by decide) fun w w0 w1 => ?_
  refine ⟨w, rfl, ⟨by omega, by omega⟩, ?_⟩
  rw [rng_iota]
  refine j_loop n1 n7 l1 l8 _ rows _ ok m1 (by rw [List.length_map, iota_len]; omega) h fun rows2 env2 ok2 a b h2 => ?_
  obtain ⟨s5, s6, s7, s10, s11, s12, s13, s14, s15, s16, s17, s18, rfl, no⟩ := h2
  exact j_drop A n1 g ok2 (by omega) (Fm.noOwn_val (j := 9) no) kk
theorem j_body {K : PySem.W.Frag} {hd : Addr} {n : Int} {rs : List Rl} (A : ∀ r, GR n r → Ask n rs r) (n1 : 1 ≤ n) (n4 : n ≤ 4) (l1 : 1 ≤ rs.length) (l8 : rs.length ≤ 80) {v0 : D} {Dd : DEnds} {env : DEnv} (h : W0 K hd v0 n rs env) (kk : ∀ env, W0 K hd v0 n rs env → Dd.nx env) : jBody K hd Dd env := by
  obtain ⟨s5, s6, s7, s8, s9, s10, s11, s12, s13, s14, s15, s16, s17, s18, rfl, no⟩ := h
  have sm : ∀ {m : Int}, m < 2000 → m < 2 ^ 100 := fun h => Int.lt_trans h (by decide)
  show sSeq _ _ _ _
  (repeat decreasing_trivial_pre_omega)
  refine ⟨n, rfl, n1, by omega, fun r g => ⟨.inr (nol_ruleT r), ?_⟩⟩
  have no8 := Fm.noOwn_val (j := 8) (d := ruleT r) no
  refine ⟨no8, ?_⟩
  refine ⟨Nat.le_of_ble_eq_true rfl, by decide, ?_⟩
  rw [Fq.view_nil]
  unfold Fr.fCall
  (repeat decreasing_trivial_pre_omega)
  refine ⟨n, rs, r, rfl, A r g, n4, fun rows m1 m2 ok => ⟨.inl rfl, ?_⟩⟩
  have w9 : Wt K hd v0 n rs r (([.val v0, .val (.ref hd), .val (.int n), .val (.lst (rs.map ruleT)), .val (rulesI K n rs), s5, s6, s7, s8, s9, s10, s11, s12, s13, s14, s15, s16, s17, s18].set 8 (.val (ruleT r))).set 9 .no) :=
    ⟨_, _, _, _, _, _, _, _, _, _, _, _, rfl, noN (i := 9) no8⟩
  refine qSeq (qIf ?_)
  (repeat decreasing_trivial_pre_omega)
  refine tk_ok (by decide) (by decide) fun w w0 w1 => ?_
  (repeat decreasing_trivial_pre_omega)
  by_cases c : w = 0
  · rw [decide_eq_true c]
    (repeat decreasing_trivial_pre_omega)
    refine qReb (Nat.le_of_ble_eq_true rfl) (qSl ?_)
    (repeat decreasing_trivial_pre_omega)
    rw [List.length_map]
    refine tk_ok (by omega) (sm (by omega)) fun k k0 k1 => ?_
    (repeat decreasing_trivial_pre_omega)
    obtain ⟨j, rfl⟩ := Int.eq_ofNat_of_zero_le k0
    refine ⟨_, rfl, ?_⟩
    rw [show (1 : Int) + (j : Nat) = ((1 + j : Nat) : Int) by omega, K12.cut_to, ← List.map_take]
    exact j_cont A n1 l1 g (fun q hq => ok q (List.mem_of_mem_take hq)) (by rw [List.length_take]; omega) (by rw [List.length_take]; omega) w9 kk
  · rw [decide_eq_false c]
    (repeat decreasing_trivial_pre_omega)
    exact j_cont A n1 l1 g ok m1 m2 w9 kk
theorem ct_law32 {K : PySem.W.Frag} {hd : Addr} {ds : List D} : _root_.K32.d_law K hd (fun _ _ => False) eL (.val (scrD ds) :: .val (.ref hd) :: List.replicate 17 .no) := by
  unfold _root_.K32.d_law
  (repeat decreasing_trivial_pre_omega)
  refine tk_ok (by decide) (by decide) fun t t0 t1 => ?_
  refine tabP (ns := [3, 4, 2, 1]) (fun n => 1 ≤ n ∧ n ≤ 4) (by decide) t0 t1 fun n ⟨n1, n4⟩ => ?_
  (repeat decreasing_trivial_pre_omega)
  refine tk_ok (by decide) (by decide) fun m m0 m1 => ?_
  (repeat decreasing_trivial_pre_omega)
  refine ⟨1 + m, rfl, ⟨by omega, by omega⟩, ?_⟩
  rw [rng_iota]
  refine ⟨by rw [List.length_map, iota_len]; omega, ?_⟩
  refine lcD_draw (fun y => ∃ r, y = ruleT r ∧ GR n r) (fun y ⟨r, e, _⟩ => by rw [e]; exact nol_ruleT r) _ [] (fun x hx R hR => ?_) fun ys hl hy => ?_
  · (repeat decreasing_trivial_pre_omega)
    exact ⟨n, rfl, n1, by omega, fun r g => hR _ ⟨r, rfl, g⟩⟩
  obtain ⟨rs, rfl, hg⟩ := lift_some ruleT hy
  rw [List.length_map, List.length_map, iota_len] at hl
  rw [List.nil_append]
  (repeat decreasing_trivial_pre_omega)
  refine ⟨n, rs, rfl, by omega, by omega, by omega, hg, ?_⟩
  have A : ∀ r, GR n r → Ask n rs r := fun r g => ⟨n1, by omega, by omega, hg, g⟩
  (repeat decreasing_trivial_pre_omega)
  refine ⟨3, rfl, ⟨by decide, by decide⟩, ?_⟩
  refine for_ok (W0 K hd (scrD ds) n rs) _ _ ⟨_, _, _, _, _, _, _, _, _, _, _, _, _, _, rfl, rfl⟩ (fun x hx env nx he kk => ?_) fun env he => ?_
  · obtain ⟨s5, s6, s7, s8, s9, s10, s11, s12, s13, s14, s15, s16, s17, s18, rfl, no⟩ := he
    exact j_body A n1 n4 (by omega) (by omega) ⟨_, s6, s7, s8, s9, s10, s11, s12, s13, s14, s15, s16, s17, s18, rfl, Fm.noOwn_val (j := 5) no⟩ kk
  · obtain ⟨s5, s6, s7, s8, s9, s10, s11, s12, s13, s14, s15, s16, s17, s18, rfl, no⟩ := he
    exact j_end A n1 no
end K12.K32


namespace K32
open PySem PySem.Spec PyProof.Rows L2 Dl Ns Zs Zz Rk K12 K12.K32
theorem x32B_ok {K : PySem.W.Frag} (h : x32B K = true) (i : In.InsF K "Rule") (a : NoAttr K (He.ga K "Rule") "premises") (b : NoAttr K (He.ga K "Rule") "end") (j : In.InsF K "Rules") (c : NoAttr K (He.ga K "Rules") "size") (d : NoAttr K (He.ga K "Rules") "rules") : X32 K :=
  ⟨i.ins.cl, a, b, j.ins.cl, c, d, i.ins, of_decide_eq_true h⟩
end K32

namespace K32
open PySem PySem.Spec PyProof.Rows L2 Dl Ns Zs Rk K12 K12.K32
abbrev N_is_whole : List Str := ["thing", "low", "high"]
theorem sc_is_whole : FnScope N_is_whole ["thing", "low", "high"] (defScope s_is_whole) := ⟨rfl, rfl, rfl, by decide +kernel, rfl, by decide +kernel, by decide +kernel⟩
theorem pd_is_whole {P : Program} {w : World} {K : PySem.W.Frag} {mg : Str → Option Value} {base : Heap} {I : HI} {fa : Addr} {cdv : Value} {A : Around} {outer : List Env} {s : Shared} {H : Hp} {E : XK} {Ed : Exc → Prop} (T : Tf K mg) 
    (hr : Room 1 (A.deeper (envOfC "is_whole" (defScope s_is_whole) s.heap.objs.size fa cdv))) (tk : Takes (cxD P w K mg base N_is_whole "is_whole" (defScope s_is_whole) fa cdv A outer s H E) (gOf I Ed E).W) :
    PSsD (cxD P w K mg base N_is_whole "is_whole" (defScope s_is_whole) fa cdv A outer s H E) (gOf I Ed E) (defBody s_is_whole) (K12.d_is_whole K (gOf I Ed E).Ed) :=
  by
  have nd := sc_is_whole.nd
  refine ds_cons ?_ ?_
  refine ds_if ?_ ?_ ?_
  refine PWD.pt ?_
  refine dt_or ?_ ?_
  refine dt_val ?_
  refine d_callB c_isi rfl T.n_isinstance boot_isinstance ?_
  refine da_cons ?_ ?_
  exact dv 0
  refine da_cons ?_ ?_
  exact d_ty rfl T.n_bool boot_bool
  exact da_nil
  refine dt_or1 ?_
  refine dt_not ?_
  refine dt_val ?_
  refine d_callB c_isi rfl T.n_isinstance boot_isinstance ?_
  refine da_cons ?_ ?_
  exact dv 0
  refine da_cons ?_ ?_
  exact d_ty rfl T.n_int boot_int
  exact da_nil
  refine ds_one ?_
  refine ds_ret ?_
  exact d_bl
  exact ds_nil
  refine ds_one ?_
  refine ds_ret ?_
  refine d_and ?_ ?_
  refine d_or ?_ ?_
  refine d_cmp r_is ?_ ?_ (nomark _)
  exact dv 1
  exact d_non
  refine d_one ?_
  refine d_cmp r_ge ?_ ?_ (nomark _)
  exact dv 0
  exact dv 1
  refine d_one ?_
  refine d_or ?_ ?_
  refine d_cmp r_is ?_ ?_ (nomark _)
  exact dv 2
  exact d_non
  refine d_one ?_
  refine d_cmp r_le ?_ ?_ (nomark _)
  exact dv 0
  exact dv 2
end K32

namespace K32
open PySem PySem.Spec PyProof.Rows L2 Dl Ns Zs Rk K12 K12.K32
abbrev N__law_hand : List Str := ["_law_script", "_law_total", "_law_cells", "_law_cell"]
theorem sc__law_hand : FnScope N__law_hand ["_law_script"] (defScope s__law_hand) := ⟨rfl, rfl, rfl, by decide +kernel, rfl, by decide +kernel, by decide +kernel⟩
theorem pd__law_hand {P : Program} {w : World} {K : PySem.W.Frag} {mg : Str → Option Value} {base : Heap} {I : HI} {fa : Addr} {cdv : Value} {A : Around} {outer : List Env} {s : Shared} {H : Hp} {E : XK} {Ed : Exc → Prop} (T : Tf K mg) 
    (hr : Room 1 (A.deeper (envOfC "_law_hand" (defScope s__law_hand) s.heap.objs.size fa cdv))) (tk : Takes (cxD P w K mg base N__law_hand "_law_hand" (defScope s__law_hand) fa cdv A outer s H E) (gOf I Ed E).W) :
    PSsD (cxD P w K mg base N__law_hand "_law_hand" (defScope s__law_hand) fa cdv A outer s H E) (gOf I Ed E) (defBody s__law_hand) (K00.d__law_hand K (gOf I Ed E).Ed) :=
  by
  have nd := sc__law_hand.nd
  refine ds_cons ?_ ?_
  refine ds_set (i := 1) ?_ ?_ ?_ ?_
  exact nd
  exact rfl
  (first | exact Or.inl rfl | exact Or.inr rfl)
  refine d_op r_add ?_ ?_
  refine d_callB c_lenS rfl T.n_len PySem.boot_len ?_
  refine da_cons ?_ ?_
  exact dv 0
  exact da_nil
  exact d_int
  refine ds_cons ?_ ?_
  refine ds_new (i := 2) ?_ ?_ ?_ ?_
  exact nd
  exact rfl
  (first | exact Or.inl rfl | exact Or.inr rfl)
  refine f_lst ?_
  exact da_nil
  refine ds_cons ?_ ?_
  refine ds_for ?_ ?_ ?_ ?_ ?_
  exact passes_of rfl
  exact rfl
  exact di_varS 0
  exact dg_name (i := 3) nd rfl (by first | exact Or.inl rfl | exact Or.inr rfl)
  refine ds_cons ?_ ?_
  refine ds_set (i := 1) ?_ ?_ ?_ ?_
  exact nd
  exact rfl
  (first | exact Or.inl rfl | exact Or.inr rfl)
  refine d_op r_mod ?_ ?_
  refine d_callTy c_int rfl T.n_int boot_int ?_
  refine da_cons ?_ ?_
  refine d_op r_add ?_ ?_
  refine d_op r_mul ?_ ?_
  exact dv 1
  exact d_int
  refine d_callTy c_int rfl T.n_int boot_int ?_
  refine da_cons ?_ ?_
  exact dv 3
  exact da_nil
  exact da_nil
  exact d_int
  refine ds_one ?_
  refine ds_app (i := 2) ?_ ?_ ?_
  exact rfl
  (first | exact Or.inl rfl | exact Or.inr (Or.inl rfl))
  refine d_callB c_abs rfl T.n_abs boot_abs ?_
  refine da_cons ?_ ?_
  refine d_callTy c_int rfl T.n_int boot_int ?_
  refine da_cons ?_ ?_
  exact dv 3
  exact da_nil
  exact da_nil
  refine ds_one ?_
  refine ds_ret ?_
  refine d_lst ?_
  refine da_consL ?_ ?_ ?_
  exact dv 2
  refine da_consL ?_ ?_ ?_
  exact d_int
  refine da_consL ?_ ?_ ?_
  exact d_int
  refine da_consL ?_ ?_ ?_
  exact dv 1
  exact da_nil
  exact rfl
  exact rfl
  exact rfl
  exact rfl
end K32

namespace K32
open PySem PySem.Spec PyProof.Rows L2 Dl Ns Zs Rk K12 K12.K32
abbrev N__law_mixed : List Str := ["_law_number", "_law_turn", "_law_once", "_law_twice"]
theorem sc__law_mixed : FnScope N__law_mixed ["_law_number", "_law_turn"] (defScope s__law_mixed) := ⟨rfl, rfl, rfl, by decide +kernel, rfl, by decide +kernel, by decide +kernel⟩
theorem pd__law_mixed {P : Program} {w : World} {K : PySem.W.Frag} {mg : Str → Option Value} {base : Heap} {I : HI} {fa : Addr} {cdv : Value} {A : Around} {outer : List Env} {s : Shared} {H : Hp} {E : XK} {Ed : Exc → Prop} (T : Tf K mg) 
    (hr : Room 1 (A.deeper (envOfC "_law_mixed" (defScope s__law_mixed) s.heap.objs.size fa cdv))) (tk : Takes (cxD P w K mg base N__law_mixed "_law_mixed" (defScope s__law_mixed) fa cdv A outer s H E) (gOf I Ed E).W) :
    PSsD (cxD P w K mg base N__law_mixed "_law_mixed" (defScope s__law_mixed) fa cdv A outer s H E) (gOf I Ed E) (defBody s__law_mixed) (K00.d__law_mixed K (gOf I Ed E).Ed) :=
  by
  have nd := sc__law_mixed.nd
  refine ds_cons ?_ ?_
  refine ds_set (i := 2) ?_ ?_ ?_ ?_
  exact nd
  exact rfl
  (first | exact Or.inl rfl | exact Or.inr rfl)
  refine d_op r_mod ?_ ?_
  refine d_callTy c_int rfl T.n_int boot_int ?_
  refine da_cons ?_ ?_
  refine d_op r_add ?_ ?_
  refine d_op r_add ?_ ?_
  refine d_op r_mul ?_ ?_
  exact dv 0
  exact d_int
  refine d_op r_mul ?_ ?_
  exact dv 1
  exact d_int
  exact d_int
  exact da_nil
  exact d_int
  refine ds_cons ?_ ?_
  refine ds_set (i := 3) ?_ ?_ ?_ ?_
  exact nd
  exact rfl
  (first | exact Or.inl rfl | exact Or.inr rfl)
  refine d_op r_mod ?_ ?_
  refine d_callTy c_int rfl T.n_int boot_int ?_
  refine da_cons ?_ ?_
  refine d_op r_add ?_ ?_
  refine d_op r_add ?_ ?_
  refine d_op r_mul ?_ ?_
  exact dv 2
  exact dv 2
  refine d_op r_mul ?_ ?_
  exact dv 1
  exact d_int
  refine d_op r_div ?_ ?_
  exact dv 2
  exact d_int
  exact da_nil
  exact d_int
  refine ds_one ?_
  refine ds_ret ?_
  refine d_op r_div ?_ ?_
  refine d_callTy c_int rfl T.n_int boot_int ?_
  refine da_cons ?_ ?_
  refine d_op r_mod ?_ ?_
  refine d_callTy c_int rfl T.n_int boot_int ?_
  refine da_cons ?_ ?_
  refine d_op r_add ?_ ?_
  refine d_op r_mul ?_ ?_
  exact dv 3
  exact d_int
  refine d_op r_div ?_ ?_
  exact dv 2
  exact d_int
  exact da_nil
  exact d_int
  exact da_nil
  exact d_int
end K32

namespace K32
open PySem PySem.Spec PyProof.Rows L2 Dl Ns Zs Rk K12 K12.K32
abbrev N__law_whole : List Str := ["_law_thing"]
theorem sc__law_whole : FnScope N__law_whole ["_law_thing"] (defScope s__law_whole) := ⟨rfl, rfl, rfl, by decide +kernel, rfl, by decide +kernel, by decide +kernel⟩
theorem pd__law_whole {P : Program} {w : World} {K : PySem.W.Frag} {mg : Str → Option Value} {base : Heap} {I : HI} {fa : Addr} {cdv : Value} {A : Around} {outer : List Env} {s : Shared} {H : Hp} {E : XK} {Ed : Exc → Prop} (T : Tf K mg) 
    (hr : Room 1 (A.deeper (envOfC "_law_whole" (defScope s__law_whole) s.heap.objs.size fa cdv))) (tk : Takes (cxD P w K mg base N__law_whole "_law_whole" (defScope s__law_whole) fa cdv A outer s H E) (gOf I Ed E).W) :
    PSsD (cxD P w K mg base N__law_whole "_law_whole" (defScope s__law_whole) fa cdv A outer s H E) (gOf I Ed E) (defBody s__law_whole) (K00.d__law_whole K (gOf I Ed E).Ed) :=
  by
  have nd := sc__law_whole.nd
  refine ds_one ?_
  refine ds_ret ?_
  refine d_and ?_ ?_
  refine d_callB c_isi rfl T.n_isinstance boot_isinstance ?_
  refine da_cons ?_ ?_
  exact dv 0
  refine da_cons ?_ ?_
  exact d_ty rfl T.n_int boot_int
  exact da_nil
  refine d_one ?_
  refine d_not ?_
  refine d_callB c_isi rfl T.n_isinstance boot_isinstance ?_
  refine da_cons ?_ ?_
  exact dv 0
  refine da_cons ?_ ?_
  exact d_ty rfl T.n_bool boot_bool
  exact da_nil
end K32


namespace K32
open PySem PySem.Spec PyProof.Rows L2 Dl Ns Zs Zz Rk K12 K12.K32
theorem fn_Rule_init {P : Program} {w : World} {K : PySem.W.Frag} {mg : Str → Option Value} {base : Heap} {I : HI} {fa : Addr} {fd : FuncData} (F : FunD K "__init__" "Rule.__init__" (defArgs s_Rule_init) (defBody s_Rule_init) (defScope s_Rule_init) [] [] fa fd) (T : Tf K mg) (c__is_couple : ∀ J : HI, J.noXd → Cl P w K mg base J 3 "_is_couple" 1 (K12.K32.C__is_couple K) []) (c__is_end : ∀ J : HI, J.noXd → Cl P w K mg base J 4 "_is_end" 1 (K12.K32.C__is_end K) []) (hnx : I.noXd) (hcl : Cls K (He.ga K "Rule")) (no_Rule_premises : NoAttr K (He.ga K "Rule") "premises") (no_Rule_end : NoAttr K (He.ga K "Rule") "end") :
    FnOk P w K mg base (L2.CX P w) 5 fa fd ["self", "premises", "end"] (In.spI K I 2 (He.ga K "Rule") ["premises", "end"] (K12.K32.C_Rule_init K)) :=
  In.fn_I F sc_Rule_init rfl (fun cdv A outer s H E Ed a d hr na nad tk => pi_Rule_init T c__is_couple c__is_end hnx hcl no_Rule_premises no_Rule_end hr na nad tk) fun ds Qd Ed a h hl => K12.K32.ct_Rule_init h
theorem mk_k_Rule {P : Program} {w : World} {K : PySem.W.Frag} {mg : Str → Option Value} {base : Heap} {I : HI} {fa : Addr} {fd : FuncData} (F : FunD K "__init__" "Rule.__init__" (defArgs s_Rule_init) (defBody s_Rule_init) (defScope s_Rule_init) [] [] fa fd) (T : Tf K mg) (gm : mg "Rule" = some (.ref (He.ga K "Rule"))) (M : Mk K (He.ga K "Rule") fa) (c__is_couple : ∀ J : HI, J.noXd → Cl P w K mg base J 3 "_is_couple" 1 (K12.K32.C__is_couple K) []) (c__is_end : ∀ J : HI, J.noXd → Cl P w K mg base J 4 "_is_end" 1 (K12.K32.C__is_end K) []) (hnx : I.noXd) (hcl : Cls K (He.ga K "Rule")) (no_Rule_premises : NoAttr K (He.ga K "Rule") "premises") (no_Rule_end : NoAttr K (He.ga K "Rule") "end") : In.ClI P w K mg base I 5 "Rule" 2 (He.ga K "Rule") ["premises", "end"] (K12.K32.C_Rule_init K) [] := by
  have B : L2.Binds K fd ["self", "premises", "end"] [] := F.bindsN fun _ _ _ _ _ _ us hl => match us, hl with | [_, _, _], _ => rfl
  exact ⟨fa, fd, _, _, [], M, fn_Rule_init F T c__is_couple c__is_end hnx hcl no_Rule_premises no_Rule_end, gm, B, .nil, fun Av H => by simp only [DenA]⟩
end K32

namespace K32
open PySem PySem.Spec PyProof.Rows L2 Dl Ns Zs Zz Rk K12 K12.K32
theorem fn_Rules_init {P : Program} {w : World} {K : PySem.W.Frag} {mg : Str → Option Value} {base : Heap} {I : HI} {fa : Addr} {fd : FuncData} (F : FunD K "__init__" "Rules.__init__" (defArgs s_Rules_init) (defBody s_Rules_init) (defScope s_Rules_init) [] [] fa fd) (T : Tf K mg) (c_has_dates_below : ∀ J : HI, J.noXd → Cl P w K mg base J 3 "has_dates_below" 2 (K12.K32.C_has_dates_below K) []) (c_is_whole : ∀ J : HI, J.noXd → Cl P w K mg base J 2 "is_whole" 3 (C_is_whole K) []) (hnx : I.noXd) (hcl : Cls K (He.ga K "Rules")) (no_Rules_size : NoAttr K (He.ga K "Rules") "size") (no_Rules_rules : NoAttr K (He.ga K "Rules") "rules") (X32_ : X32 K) :
    FnOk P w K mg base (L2.CX P w) 4 fa fd ["self", "size", "rules"] (In.spI K I 2 (He.ga K "Rules") ["size", "rules"] (K12.K32.C_Rules_init K)) :=
  In.fn_I F sc_Rules_init rfl (fun cdv A outer s H E Ed a d hr na nad tk => pi_Rules_init T c_has_dates_below c_is_whole hnx hcl no_Rules_size no_Rules_rules hr na nad tk) fun ds Qd Ed a h hl => K12.K32.ct_Rules_init X32_ h
theorem mk_k_Rules {P : Program} {w : World} {K : PySem.W.Frag} {mg : Str → Option Value} {base : Heap} {I : HI} {fa : Addr} {fd : FuncData} (F : FunD K "__init__" "Rules.__init__" (defArgs s_Rules_init) (defBody s_Rules_init) (defScope s_Rules_init) [] [] fa fd) (T : Tf K mg) (gm : mg "Rules" = some (.ref (He.ga K "Rules"))) (M : Mk K (He.ga K "Rules") fa) (c_has_dates_below : ∀ J : HI, J.noXd → Cl P w K mg base J 3 "has_dates_below" 2 (K12.K32.C_has_dates_below K) []) (c_is_whole : ∀ J : HI, J.noXd → Cl P w K mg base J 2 "is_whole" 3 (C_is_whole K) []) (hnx : I.noXd) (hcl : Cls K (He.ga K "Rules")) (no_Rules_size : NoAttr K (He.ga K "Rules") "size") (no_Rules_rules : NoAttr K (He.ga K "Rules") "rules") (X32_ : X32 K) : In.ClI P w K mg base I 4 "Rules" 2 (He.ga K "Rules") ["size", "rules"] (K12.K32.C_Rules_init K) [] := by
  have B : L2.Binds K fd ["self", "size", "rules"] [] := F.bindsN fun _ _ _ _ _ _ us hl => match us, hl with | [_, _, _], _ => rfl
  exact ⟨fa, fd, _, _, [], M, fn_Rules_init F T c_has_dates_below c_is_whole hnx hcl no_Rules_size no_Rules_rules X32_, gm, B, .nil, fun Av H => by simp only [DenA]⟩
end K32

namespace K32
open PySem PySem.Spec PyProof.Rows L2 Dl Ns Zs Zz Rk K12 K12.K32
theorem fn_Rules_len {P : Program} {w : World} {K : PySem.W.Frag} {mg : Str → Option Value} {base : Heap} {fa : Addr} {fd : FuncData} (F : FunD K "__len__" "Rules.__len__" (defArgs s_Rules_len) (defBody s_Rules_len) (defScope s_Rules_len) [] [] fa fd) (T : Tf K mg)  (X32_ : X32 K) :
    FnOk P w K mg base (L2.CX P w) 2 fa fd ["self"] (spOf K HI.plain 1 (K12.K32.C_Rules_len K)) :=
  fn_D F sc_Rules_len (fun cdv A outer s H E Ed hr tk => pd_Rules_len T  hr tk) fun ds Qd Ed h _ => K12.K32.ct_Rules_len X32_ h
end K32

namespace K32
open PySem PySem.Spec PyProof.Rows L2 Dl Ns Zs Zz Rk K12 K12.K32
theorem fn_is_whole {P : Program} {w : World} {K : PySem.W.Frag} {mg : Str → Option Value} {base : Heap} {I : HI} {fa : Addr} {fd : FuncData} (F : FunD K "is_whole" "is_whole" (defArgs s_is_whole) (defBody s_is_whole) (defScope s_is_whole) [.non, .non] [] fa fd) (T : Tf K mg)  :
    FnOk P w K mg base (L2.CX P w) 2 fa fd ["thing", "low", "high"] (spOf K I 3 (C_is_whole K)) :=
  fn_D F sc_is_whole (fun cdv A outer s H E Ed hr tk => pd_is_whole T  hr tk) fun ds Qd Ed h _ => K12.ct_is_whole h
theorem mk_c_is_whole_1 {P : Program} {w : World} {K : PySem.W.Frag} {mg : Str → Option Value} {base : Heap} {I : HI} {fa : Addr} {fd : FuncData} (F : FunD K "is_whole" "is_whole" (defArgs s_is_whole) (defBody s_is_whole) (defScope s_is_whole) [.non, .non] [] fa fd) (T : Tf K mg) (gm : mg "is_whole" = some (.ref fa))  : Cl P w K mg base I 2 "is_whole" 3 (C_is_whole K) [.non, .non] := by
  obtain ⟨ds, V, B⟩ := F.binds1 (ps := ["thing", "low", "high"]) 1 0 (by simp) rfl fun T2 kV doc pm an cdv ct us its l1 l2 => match us, its, l1, l2 with | [_], [_, _], _, _ => ⟨_, rfl, rfl⟩
  exact ⟨fa, fd, _, _, _, fn_is_whole F T , gm, F.kp, B, V, fun H => by simp [DenA, Den]⟩
theorem mk_c_is_whole {P : Program} {w : World} {K : PySem.W.Frag} {mg : Str → Option Value} {base : Heap} {I : HI} {fa : Addr} {fd : FuncData} (F : FunD K "is_whole" "is_whole" (defArgs s_is_whole) (defBody s_is_whole) (defScope s_is_whole) [.non, .non] [] fa fd) (T : Tf K mg) (gm : mg "is_whole" = some (.ref fa))  : Cl P w K mg base I 2 "is_whole" 3 (C_is_whole K) [] := by
  obtain ⟨ds, V, B⟩ := F.binds1 (ps := ["thing", "low", "high"]) 3 2 (by simp) rfl fun T2 kV doc pm an cdv ct us its l1 l2 => match us, its, l1, l2 with | [_, _, _], [_, _], _, _ => ⟨_, rfl, rfl⟩
  exact ⟨fa, fd, _, _, _, fn_is_whole F T , gm, F.kp, B, V, fun H => by simp [DenA, Den]⟩
end K32

namespace K32
open PySem PySem.Spec PyProof.Rows L2 Dl Ns Zs Zz Rk K12 K12.K32
theorem fn__is_couple {P : Program} {w : World} {K : PySem.W.Frag} {mg : Str → Option Value} {base : Heap} {I : HI} {fa : Addr} {fd : FuncData} (F : FunD K "_is_couple" "_is_couple" (defArgs s__is_couple) (defBody s__is_couple) (defScope s__is_couple) [] [] fa fd) (T : Tf K mg) (c_is_whole : Cl P w K mg base I 2 "is_whole" 3 (C_is_whole K) []) :
    FnOk P w K mg base (L2.CX P w) 3 fa fd ["thing"] (spOf K I 1 (K12.K32.C__is_couple K)) :=
  fn_D F sc__is_couple (fun cdv A outer s H E Ed hr tk => pd__is_couple T c_is_whole hr tk) fun ds Qd Ed h _ => K12.K32.ct__is_couple h
theorem mk_c__is_couple {P : Program} {w : World} {K : PySem.W.Frag} {mg : Str → Option Value} {base : Heap} {I : HI} {fa : Addr} {fd : FuncData} (F : FunD K "_is_couple" "_is_couple" (defArgs s__is_couple) (defBody s__is_couple) (defScope s__is_couple) [] [] fa fd) (T : Tf K mg) (gm : mg "_is_couple" = some (.ref fa)) (c_is_whole : Cl P w K mg base I 2 "is_whole" 3 (C_is_whole K) []) : Cl P w K mg base I 3 "_is_couple" 1 (K12.K32.C__is_couple K) [] := by
  have B : L2.Binds K fd ["thing"] [] := F.bindsN fun _ _ _ _ _ _ us hl => match us, hl with | [_], _ => rfl
  exact ⟨fa, fd, _, _, [], fn__is_couple F T c_is_whole, gm, F.kp, B, .nil, fun H => by simp only [DenA]⟩
end K32

namespace K32
open PySem PySem.Spec PyProof.Rows L2 Dl Ns Zs Zz Rk K12 K12.K32
theorem fn__is_end {P : Program} {w : World} {K : PySem.W.Frag} {mg : Str → Option Value} {base : Heap} {I : HI} {fa : Addr} {fd : FuncData} (F : FunD K "_is_end" "_is_end" (defArgs s__is_end) (defBody s__is_end) (defScope s__is_end) [] [] fa fd) (T : Tf K mg) (c__is_couple : Cl P w K mg base I 3 "_is_couple" 1 (K12.K32.C__is_couple K) []) :
    FnOk P w K mg base (L2.CX P w) 4 fa fd ["thing"] (spOf K I 1 (K12.K32.C__is_end K)) :=
  fn_D F sc__is_end (fun cdv A outer s H E Ed hr tk => pd__is_end T c__is_couple hr tk) fun ds Qd Ed h _ => K12.K32.ct__is_end h
theorem mk_c__is_end {P : Program} {w : World} {K : PySem.W.Frag} {mg : Str → Option Value} {base : Heap} {I : HI} {fa : Addr} {fd : FuncData} (F : FunD K "_is_end" "_is_end" (defArgs s__is_end) (defBody s__is_end) (defScope s__is_end) [] [] fa fd) (T : Tf K mg) (gm : mg "_is_end" = some (.ref fa)) (c__is_couple : Cl P w K mg base I 3 "_is_couple" 1 (K12.K32.C__is_couple K) []) : Cl P w K mg base I 4 "_is_end" 1 (K12.K32.C__is_end K) [] := by
  have B : L2.Binds K fd ["thing"] [] := F.bindsN fun _ _ _ _ _ _ us hl => match us, hl with | [_], _ => rfl
  exact ⟨fa, fd, _, _, [], fn__is_end F T c__is_couple, gm, F.kp, B, .nil, fun H => by simp only [DenA]⟩
end K32

namespace K32
open PySem PySem.Spec PyProof.Rows L2 Dl Ns Zs Zz Rk K12 K12.K32
theorem fn_rule_dates {P : Program} {w : World} {K : PySem.W.Frag} {mg : Str → Option Value} {base : Heap} {I : HI} {fa : Addr} {fd : FuncData} (F : FunD K "rule_dates" "rule_dates" (defArgs s_rule_dates) (defBody s_rule_dates) (defScope s_rule_dates) [] [] fa fd) (T : Tf K mg)  (X32_ : X32 K) :
    FnOk P w K mg base (L2.CX P w) 2 fa fd ["rule"] (spOf K I 1 (K12.K32.C_rule_dates K)) :=
  fn_D F sc_rule_dates (fun cdv A outer s H E Ed hr tk => pd_rule_dates T  hr tk) fun ds Qd Ed h _ => K12.K32.ct_rule_dates X32_ h
theorem mk_c_rule_dates {P : Program} {w : World} {K : PySem.W.Frag} {mg : Str → Option Value} {base : Heap} {I : HI} {fa : Addr} {fd : FuncData} (F : FunD K "rule_dates" "rule_dates" (defArgs s_rule_dates) (defBody s_rule_dates) (defScope s_rule_dates) [] [] fa fd) (T : Tf K mg) (gm : mg "rule_dates" = some (.ref fa))  (X32_ : X32 K) : Cl P w K mg base I 2 "rule_dates" 1 (K12.K32.C_rule_dates K) [] := by
  have B : L2.Binds K fd ["rule"] [] := F.bindsN fun _ _ _ _ _ _ us hl => match us, hl with | [_], _ => rfl
  exact ⟨fa, fd, _, _, [], fn_rule_dates F T  X32_, gm, F.kp, B, .nil, fun H => by simp only [DenA]⟩
end K32

namespace K32
open PySem PySem.Spec PyProof.Rows L2 Dl Ns Zs Zz Rk K12 K12.K32
theorem fn_has_dates_below {P : Program} {w : World} {K : PySem.W.Frag} {mg : Str → Option Value} {base : Heap} {I : HI} {fa : Addr} {fd : FuncData} (F : FunD K "has_dates_below" "has_dates_below" (defArgs s_has_dates_below) (defBody s_has_dates_below) (defScope s_has_dates_below) [] [] fa fd) (T : Tf K mg) (c_rule_dates : Cl P w K mg base I 2 "rule_dates" 1 (K12.K32.C_rule_dates K) []) :
    FnOk P w K mg base (L2.CX P w) 3 fa fd ["rule", "size"] (spOf K I 2 (K12.K32.C_has_dates_below K)) :=
  fn_D F sc_has_dates_below (fun cdv A outer s H E Ed hr tk => pd_has_dates_below T c_rule_dates hr tk) fun ds Qd Ed h _ => K12.K32.ct_has_dates_below h
theorem mk_c_has_dates_below {P : Program} {w : World} {K : PySem.W.Frag} {mg : Str → Option Value} {base : Heap} {I : HI} {fa : Addr} {fd : FuncData} (F : FunD K "has_dates_below" "has_dates_below" (defArgs s_has_dates_below) (defBody s_has_dates_below) (defScope s_has_dates_below) [] [] fa fd) (T : Tf K mg) (gm : mg "has_dates_below" = some (.ref fa)) (c_rule_dates : Cl P w K mg base I 2 "rule_dates" 1 (K12.K32.C_rule_dates K) []) : Cl P w K mg base I 3 "has_dates_below" 2 (K12.K32.C_has_dates_below K) [] := by
  have B : L2.Binds K fd ["rule", "size"] [] := F.bindsN fun _ _ _ _ _ _ us hl => match us, hl with | [_, _], _ => rfl
  exact ⟨fa, fd, _, _, [], fn_has_dates_below F T c_rule_dates, gm, F.kp, B, .nil, fun H => by simp only [DenA]⟩
end K32

namespace K32
open PySem PySem.Spec PyProof.Rows L2 Dl Ns Zs Zz Rk K12 K12.K32
theorem fn__premise_ends {P : Program} {w : World} {K : PySem.W.Frag} {mg : Str → Option Value} {base : Heap} {I : HI} {fa : Addr} {fd : FuncData} (F : FunD K "_premise_ends" "_premise_ends" (defArgs s__premise_ends) (defBody s__premise_ends) (defScope s__premise_ends) [] [] fa fd) (T : Tf K mg)  :
    FnOk P w K mg base (L2.CX P w) 2 fa fd ["premises"] (Fr.spOfF K I 1 (K12.K32.C__premise_ends K)) :=
  Fr.fn_F F sc__premise_ends (fun cdv A outer s H E Ed hr tk => pd__premise_ends T  hr tk) fun ds Qd Ed h _ => K12.K32.ct__premise_ends h
theorem mk_cf__premise_ends {P : Program} {w : World} {K : PySem.W.Frag} {mg : Str → Option Value} {base : Heap} {I : HI} {fa : Addr} {fd : FuncData} (F : FunD K "_premise_ends" "_premise_ends" (defArgs s__premise_ends) (defBody s__premise_ends) (defScope s__premise_ends) [] [] fa fd) (T : Tf K mg) (gm : mg "_premise_ends" = some (.ref fa))  : Fr.ClF P w K mg base I 2 "_premise_ends" 1 (K12.K32.C__premise_ends K) [] := by
  have B : L2.Binds K fd ["premises"] [] := F.bindsN fun _ _ _ _ _ _ us hl => match us, hl with | [_], _ => rfl
  exact ⟨fa, fd, _, _, [], fn__premise_ends F T , gm, F.kp, B, .nil, fun H => by simp only [DenA]⟩
end K32

namespace K32
open PySem PySem.Spec PyProof.Rows L2 Dl Ns Zs Zz Rk K12 K12.K32
theorem fn_check_rule_dates {P : Program} {w : World} {K : PySem.W.Frag} {mg : Str → Option Value} {base : Heap} {I : HI} {fa : Addr} {fd : FuncData} (F : FunD K "check_rule_dates" "check_rule_dates" (defArgs s_check_rule_dates) (defBody s_check_rule_dates) (defScope s_check_rule_dates) [] [] fa fd) (T : Tf K mg) (c_has_dates_below : Cl P w K mg base I 3 "has_dates_below" 2 (K12.K32.C_has_dates_below K) []) (X32_ : X32 K) :
    FnOk P w K mg base (L2.CX P w) 4 fa fd ["rules", "rule"] (spOf K I 2 (K12.K32.C_check_rule_dates K)) :=
  fn_D F sc_check_rule_dates (fun cdv A outer s H E Ed hr tk => pd_check_rule_dates T c_has_dates_below hr tk) fun ds Qd Ed h _ => K12.K32.ct_check_rule_dates X32_ h
theorem mk_c_check_rule_dates {P : Program} {w : World} {K : PySem.W.Frag} {mg : Str → Option Value} {base : Heap} {I : HI} {fa : Addr} {fd : FuncData} (F : FunD K "check_rule_dates" "check_rule_dates" (defArgs s_check_rule_dates) (defBody s_check_rule_dates) (defScope s_check_rule_dates) [] [] fa fd) (T : Tf K mg) (gm : mg "check_rule_dates" = some (.ref fa)) (c_has_dates_below : Cl P w K mg base I 3 "has_dates_below" 2 (K12.K32.C_has_dates_below K) []) (X32_ : X32 K) : Cl P w K mg base I 4 "check_rule_dates" 2 (K12.K32.C_check_rule_dates K) [] := by
  have B : L2.Binds K fd ["rules", "rule"] [] := F.bindsN fun _ _ _ _ _ _ us hl => match us, hl with | [_, _], _ => rfl
  exact ⟨fa, fd, _, _, [], fn_check_rule_dates F T c_has_dates_below X32_, gm, F.kp, B, .nil, fun H => by simp only [DenA]⟩
end K32

namespace K32
open PySem PySem.Spec PyProof.Rows L2 Dl Ns Zs Zz Rk K12 K12.K32
theorem fn__row_numbers {P : Program} {w : World} {K : PySem.W.Frag} {mg : Str → Option Value} {base : Heap} {I : HI} {fa : Addr} {fd : FuncData} (F : FunD K "_row_numbers" "_row_numbers" (defArgs s__row_numbers) (defBody s__row_numbers) (defScope s__row_numbers) [] [] fa fd) (T : Tf K mg)  :
    FnOk P w K mg base (L2.CX P w) 2 fa fd ["row"] (spOf K I 1 (K12.K32.C__row_numbers K)) :=
  fn_D F sc__row_numbers (fun cdv A outer s H E Ed hr tk => pd__row_numbers T  hr tk) fun ds Qd Ed h _ => K12.K32.ct__row_numbers h
theorem mk_c__row_numbers {P : Program} {w : World} {K : PySem.W.Frag} {mg : Str → Option Value} {base : Heap} {I : HI} {fa : Addr} {fd : FuncData} (F : FunD K "_row_numbers" "_row_numbers" (defArgs s__row_numbers) (defBody s__row_numbers) (defScope s__row_numbers) [] [] fa fd) (T : Tf K mg) (gm : mg "_row_numbers" = some (.ref fa))  : Cl P w K mg base I 2 "_row_numbers" 1 (K12.K32.C__row_numbers K) [] := by
  have B : L2.Binds K fd ["row"] [] := F.bindsN fun _ _ _ _ _ _ us hl => match us, hl with | [_], _ => rfl
  exact ⟨fa, fd, _, _, [], fn__row_numbers F T , gm, F.kp, B, .nil, fun H => by simp only [DenA]⟩
end K32

namespace K32
open PySem PySem.Spec PyProof.Rows L2 Dl Ns Zs Zz Rk K12 K12.K32
theorem fn__back_fault {P : Program} {w : World} {K : PySem.W.Frag} {mg : Str → Option Value} {base : Heap} {I : HI} {fa : Addr} {fd : FuncData} (F : FunD K "_back_fault" "_back_fault" (defArgs s__back_fault) (defBody s__back_fault) (defScope s__back_fault) [] [] fa fd) (T : Tf K mg) (c__row_numbers : Cl P w K mg base I 2 "_row_numbers" 1 (K12.K32.C__row_numbers K) []) (c_is_whole : Cl P w K mg base I 2 "is_whole" 3 (C_is_whole K) []) (cf__premise_ends : Fr.ClF P w K mg base I 2 "_premise_ends" 1 (K12.K32.C__premise_ends K) []) (X32_ : X32 K) :
    FnOk P w K mg base (L2.CX P w) 3 fa fd ["rules", "row", "ends"] (spOf K I 3 (K12.K32.C__back_fault K)) :=
  fn_D F sc__back_fault (fun cdv A outer s H E Ed hr tk => pd__back_fault T c__row_numbers c_is_whole cf__premise_ends hr tk) fun ds Qd Ed h _ => K12.K32.ct__back_fault X32_ h
theorem mk_c__back_fault {P : Program} {w : World} {K : PySem.W.Frag} {mg : Str → Option Value} {base : Heap} {I : HI} {fa : Addr} {fd : FuncData} (F : FunD K "_back_fault" "_back_fault" (defArgs s__back_fault) (defBody s__back_fault) (defScope s__back_fault) [] [] fa fd) (T : Tf K mg) (gm : mg "_back_fault" = some (.ref fa)) (c__row_numbers : Cl P w K mg base I 2 "_row_numbers" 1 (K12.K32.C__row_numbers K) []) (c_is_whole : Cl P w K mg base I 2 "is_whole" 3 (C_is_whole K) []) (cf__premise_ends : Fr.ClF P w K mg base I 2 "_premise_ends" 1 (K12.K32.C__premise_ends K) []) (X32_ : X32 K) : Cl P w K mg base I 3 "_back_fault" 3 (K12.K32.C__back_fault K) [] := by
  have B : L2.Binds K fd ["rules", "row", "ends"] [] := F.bindsN fun _ _ _ _ _ _ us hl => match us, hl with | [_, _, _], _ => rfl
  exact ⟨fa, fd, _, _, [], fn__back_fault F T c__row_numbers c_is_whole cf__premise_ends X32_, gm, F.kp, B, .nil, fun H => by simp only [DenA]⟩
end K32

namespace K32
open PySem PySem.Spec PyProof.Rows L2 Dl Ns Zs Zz Rk K12 K12.K32
theorem fn__is_row {P : Program} {w : World} {K : PySem.W.Frag} {mg : Str → Option Value} {base : Heap} {I : HI} {fa : Addr} {fd : FuncData} (F : FunD K "_is_row" "_is_row" (defArgs s__is_row) (defBody s__is_row) (defScope s__is_row) [] [] fa fd) (T : Tf K mg) (len_Rules : Fr.LenCl P w K mg base 2 (He.ga K "Rules") (K12.K32.C_Rules_len K)) (c_is_whole_1 : Cl P w K mg base I 2 "is_whole" 3 (C_is_whole K) [.non, .non]) (c_is_whole : Cl P w K mg base I 2 "is_whole" 3 (C_is_whole K) []) (X32_ : X32 K) :
    FnOk P w K mg base (L2.CX P w) 4 fa fd ["rules", "rule", "row"] (spOf K I 3 (K12.K32.C__is_row K)) :=
  fn_D F sc__is_row (fun cdv A outer s H E Ed hr tk => pd__is_row T len_Rules c_is_whole_1 c_is_whole hr tk) fun ds Qd Ed h _ => K12.K32.ct__is_row X32_ h
theorem mk_c__is_row {P : Program} {w : World} {K : PySem.W.Frag} {mg : Str → Option Value} {base : Heap} {I : HI} {fa : Addr} {fd : FuncData} (F : FunD K "_is_row" "_is_row" (defArgs s__is_row) (defBody s__is_row) (defScope s__is_row) [] [] fa fd) (T : Tf K mg) (gm : mg "_is_row" = some (.ref fa)) (len_Rules : Fr.LenCl P w K mg base 2 (He.ga K "Rules") (K12.K32.C_Rules_len K)) (c_is_whole_1 : Cl P w K mg base I 2 "is_whole" 3 (C_is_whole K) [.non, .non]) (c_is_whole : Cl P w K mg base I 2 "is_whole" 3 (C_is_whole K) []) (X32_ : X32 K) : Cl P w K mg base I 4 "_is_row" 3 (K12.K32.C__is_row K) [] := by
  have B : L2.Binds K fd ["rules", "rule", "row"] [] := F.bindsN fun _ _ _ _ _ _ us hl => match us, hl with | [_, _, _], _ => rfl
  exact ⟨fa, fd, _, _, [], fn__is_row F T len_Rules c_is_whole_1 c_is_whole X32_, gm, F.kp, B, .nil, fun H => by simp only [DenA]⟩
end K32

namespace K32
open PySem PySem.Spec PyProof.Rows L2 Dl Ns Zs Zz Rk K12 K12.K32
theorem fn__end_of_row {P : Program} {w : World} {K : PySem.W.Frag} {mg : Str → Option Value} {base : Heap} {I : HI} {fa : Addr} {fd : FuncData} (F : FunD K "_end_of_row" "_end_of_row" (defArgs s__end_of_row) (defBody s__end_of_row) (defScope s__end_of_row) [] [] fa fd) (T : Tf K mg) (cf__premise_ends : Fr.ClF P w K mg base I 2 "_premise_ends" 1 (K12.K32.C__premise_ends K) []) (X32_ : X32 K) :
    FnOk P w K mg base (L2.CX P w) 3 fa fd ["rules", "rule", "row", "ends"] (spOf K I 4 (K12.K32.C__end_of_row K)) :=
  fn_D F sc__end_of_row (fun cdv A outer s H E Ed hr tk => pd__end_of_row T cf__premise_ends hr tk) fun ds Qd Ed h _ => K12.K32.ct__end_of_row X32_ h
theorem mk_c__end_of_row {P : Program} {w : World} {K : PySem.W.Frag} {mg : Str → Option Value} {base : Heap} {I : HI} {fa : Addr} {fd : FuncData} (F : FunD K "_end_of_row" "_end_of_row" (defArgs s__end_of_row) (defBody s__end_of_row) (defScope s__end_of_row) [] [] fa fd) (T : Tf K mg) (gm : mg "_end_of_row" = some (.ref fa)) (cf__premise_ends : Fr.ClF P w K mg base I 2 "_premise_ends" 1 (K12.K32.C__premise_ends K) []) (X32_ : X32 K) : Cl P w K mg base I 3 "_end_of_row" 4 (K12.K32.C__end_of_row K) [] := by
  have B : L2.Binds K fd ["rules", "rule", "row", "ends"] [] := F.bindsN fun _ _ _ _ _ _ us hl => match us, hl with | [_, _, _, _], _ => rfl
  exact ⟨fa, fd, _, _, [], fn__end_of_row F T cf__premise_ends X32_, gm, F.kp, B, .nil, fun H => by simp only [DenA]⟩
end K32

namespace K32
open PySem PySem.Spec PyProof.Rows L2 Dl Ns Zs Zz Rk K12 K12.K32
theorem fn_steps_fault {P : Program} {w : World} {K : PySem.W.Frag} {mg : Str → Option Value} {base : Heap} {I : HI} {fa : Addr} {fd : FuncData} (F : FunD K "steps_fault" "steps_fault" (defArgs s_steps_fault) (defBody s_steps_fault) (defScope s_steps_fault) [] [] fa fd) (T : Tf K mg) (c__back_fault : Cl P w K mg base I 3 "_back_fault" 3 (K12.K32.C__back_fault K) []) (c__end_of_row : Cl P w K mg base I 3 "_end_of_row" 4 (K12.K32.C__end_of_row K) []) (c__is_row : Cl P w K mg base I 4 "_is_row" 3 (K12.K32.C__is_row K) []) (c_check_rule_dates : Cl P w K mg base I 4 "check_rule_dates" 2 (K12.K32.C_check_rule_dates K) []) (X32_ : X32 K) :
    FnOk P w K mg base (L2.CX P w) 5 fa fd ["rules", "rule", "steps"] (spOf K I 3 (K12.K32.C_steps_fault K)) :=
  fn_D F sc_steps_fault (fun cdv A outer s H E Ed hr tk => pd_steps_fault T c__back_fault c__end_of_row c__is_row c_check_rule_dates hr tk) fun ds Qd Ed h _ => K12.K32.ct_steps_fault X32_ h
theorem mk_c_steps_fault {P : Program} {w : World} {K : PySem.W.Frag} {mg : Str → Option Value} {base : Heap} {I : HI} {fa : Addr} {fd : FuncData} (F : FunD K "steps_fault" "steps_fault" (defArgs s_steps_fault) (defBody s_steps_fault) (defScope s_steps_fault) [] [] fa fd) (T : Tf K mg) (gm : mg "steps_fault" = some (.ref fa)) (c__back_fault : Cl P w K mg base I 3 "_back_fault" 3 (K12.K32.C__back_fault K) []) (c__end_of_row : Cl P w K mg base I 3 "_end_of_row" 4 (K12.K32.C__end_of_row K) []) (c__is_row : Cl P w K mg base I 4 "_is_row" 3 (K12.K32.C__is_row K) []) (c_check_rule_dates : Cl P w K mg base I 4 "check_rule_dates" 2 (K12.K32.C_check_rule_dates K) []) (X32_ : X32 K) : Cl P w K mg base I 5 "steps_fault" 3 (K12.K32.C_steps_fault K) [] := by
  have B : L2.Binds K fd ["rules", "rule", "steps"] [] := F.bindsN fun _ _ _ _ _ _ us hl => match us, hl with | [_, _, _], _ => rfl
  exact ⟨fa, fd, _, _, [], fn_steps_fault F T c__back_fault c__end_of_row c__is_row c_check_rule_dates X32_, gm, F.kp, B, .nil, fun H => by simp only [DenA]⟩
end K32

namespace K32
open PySem PySem.Spec PyProof.Rows L2 Dl Ns Zs Zz Rk K12 K12.K32
theorem fn__law_hand {P : Program} {w : World} {K : PySem.W.Frag} {mg : Str → Option Value} {base : Heap} {I : HI} {fa : Addr} {fd : FuncData} (F : FunD K "_law_hand" "_law_hand" (defArgs s__law_hand) (defBody s__law_hand) (defScope s__law_hand) [] [] fa fd) (T : Tf K mg)  :
    FnOk P w K mg base (L2.CX P w) 2 fa fd ["_law_script"] (spOf K I 1 (C_hand K)) :=
  fn_D F sc__law_hand (fun cdv A outer s H E Ed hr tk => pd__law_hand T  hr tk) fun ds Qd Ed h _ => K12.K00.ct__law_hand h
end K32

namespace K32
open PySem PySem.Spec PyProof.Rows L2 Dl Ns Zs Zz Rk K12 K12.K32
theorem fn__law_mixed {P : Program} {w : World} {K : PySem.W.Frag} {mg : Str → Option Value} {base : Heap} {I : HI} {fa : Addr} {fd : FuncData} (F : FunD K "_law_mixed" "_law_mixed" (defArgs s__law_mixed) (defBody s__law_mixed) (defScope s__law_mixed) [] [] fa fd) (T : Tf K mg)  :
    FnOk P w K mg base (L2.CX P w) 2 fa fd ["_law_number", "_law_turn"] (spOf K I 2 (C__law_mixed K)) :=
  fn_D F sc__law_mixed (fun cdv A outer s H E Ed hr tk => pd__law_mixed T  hr tk) fun ds Qd Ed h _ => K12.K00.ct__law_mixed h
theorem mk_c__law_mixed {P : Program} {w : World} {K : PySem.W.Frag} {mg : Str → Option Value} {base : Heap} {I : HI} {fa : Addr} {fd : FuncData} (F : FunD K "_law_mixed" "_law_mixed" (defArgs s__law_mixed) (defBody s__law_mixed) (defScope s__law_mixed) [] [] fa fd) (T : Tf K mg) (gm : mg "_law_mixed" = some (.ref fa))  : Cl P w K mg base I 2 "_law_mixed" 2 (C__law_mixed K) [] := by
  have B : L2.Binds K fd ["_law_number", "_law_turn"] [] := F.bindsN fun _ _ _ _ _ _ us hl => match us, hl with | [_, _], _ => rfl
  exact ⟨fa, fd, _, _, [], fn__law_mixed F T , gm, F.kp, B, .nil, fun H => by simp only [DenA]⟩
end K32

namespace K32
open PySem PySem.Spec PyProof.Rows L2 Dl Ns Zs Zz Rk K12 K12.K32
theorem fn__law_whole {P : Program} {w : World} {K : PySem.W.Frag} {mg : Str → Option Value} {base : Heap} {I : HI} {fa : Addr} {fd : FuncData} (F : FunD K "_law_whole" "_law_whole" (defArgs s__law_whole) (defBody s__law_whole) (defScope s__law_whole) [] [] fa fd) (T : Tf K mg)  :
    FnOk P w K mg base (L2.CX P w) 2 fa fd ["_law_thing"] (spOf K I 1 (C__law_whole K)) :=
  fn_D F sc__law_whole (fun cdv A outer s H E Ed hr tk => pd__law_whole T  hr tk) fun ds Qd Ed h _ => K12.K00.ct__law_whole h
theorem mk_c__law_whole {P : Program} {w : World} {K : PySem.W.Frag} {mg : Str → Option Value} {base : Heap} {I : HI} {fa : Addr} {fd : FuncData} (F : FunD K "_law_whole" "_law_whole" (defArgs s__law_whole) (defBody s__law_whole) (defScope s__law_whole) [] [] fa fd) (T : Tf K mg) (gm : mg "_law_whole" = some (.ref fa))  : Cl P w K mg base I 2 "_law_whole" 1 (C__law_whole K) [] := by
  have B : L2.Binds K fd ["_law_thing"] [] := F.bindsN fun _ _ _ _ _ _ us hl => match us, hl with | [_], _ => rfl
  exact ⟨fa, fd, _, _, [], fn__law_whole F T , gm, F.kp, B, .nil, fun H => by simp only [DenA]⟩
end K32

namespace K32
open PySem PySem.Spec PyProof.Rows L2 Dl Ns Zs Zz Rk K12 K12.K32
theorem fn__law_rule {P : Program} {w : World} {K : PySem.W.Frag} {mg : Str → Option Value} {base : Heap} {I : HI} {fa : Addr} {hd : Addr} {fd : FuncData} (F : FunD K "_law_rule" "_law_rule" (defArgs s__law_rule) (defBody s__law_rule) (defScope s__law_rule) [] [] fa fd) (T : Tf K mg) (c__law_take : Cl P w K mg base I 3 "_law_take" 2 (C__law_take hd) []) :
    FnOk P w K mg base (L2.CX P w) 4 fa fd ["_law_hand_here", "_law_n"] (spOf K I 2 (K12.K32.C__law_rule K hd)) :=
  fn_D F sc__law_rule (fun cdv A outer s H E Ed hr tk => pd__law_rule T c__law_take hr tk) fun ds Qd Ed h _ => K12.K32.ct__law_rule h
theorem mk_c__law_rule {P : Program} {w : World} {K : PySem.W.Frag} {mg : Str → Option Value} {base : Heap} {I : HI} {fa : Addr} {hd : Addr} {fd : FuncData} (F : FunD K "_law_rule" "_law_rule" (defArgs s__law_rule) (defBody s__law_rule) (defScope s__law_rule) [] [] fa fd) (T : Tf K mg) (gm : mg "_law_rule" = some (.ref fa)) (c__law_take : Cl P w K mg base I 3 "_law_take" 2 (C__law_take hd) []) : Cl P w K mg base I 4 "_law_rule" 2 (K12.K32.C__law_rule K hd) [] := by
  have B : L2.Binds K fd ["_law_hand_here", "_law_n"] [] := F.bindsN fun _ _ _ _ _ _ us hl => match us, hl with | [_, _], _ => rfl
  exact ⟨fa, fd, _, _, [], fn__law_rule F T c__law_take, gm, F.kp, B, .nil, fun H => by simp only [DenA]⟩
end K32

namespace K32
open PySem PySem.Spec PyProof.Rows L2 Dl Ns Zs Zz Rk K12 K12.K32
theorem fn__law_rule_of {P : Program} {w : World} {K : PySem.W.Frag} {mg : Str → Option Value} {base : Heap} {I : HI} {fa : Addr} {fd : FuncData} (F : FunD K "_law_rule_of" "_law_rule_of" (defArgs s__law_rule_of) (defBody s__law_rule_of) (defScope s__law_rule_of) [] [] fa fd) (T : Tf K mg) (k_Rule : In.ClI P w K mg base I 5 "Rule" 2 (He.ga K "Rule") ["premises", "end"] (K12.K32.C_Rule_init K) []) :
    FnOk P w K mg base (L2.CX P w) 7 fa fd ["_law_rule_here"] (spOf K I 1 (K12.K32.C__law_rule_of K)) :=
  fn_D F sc__law_rule_of (fun cdv A outer s H E Ed hr tk => pd__law_rule_of T k_Rule hr tk) fun ds Qd Ed h _ => K12.K32.ct__law_rule_of h
theorem mk_c__law_rule_of {P : Program} {w : World} {K : PySem.W.Frag} {mg : Str → Option Value} {base : Heap} {I : HI} {fa : Addr} {fd : FuncData} (F : FunD K "_law_rule_of" "_law_rule_of" (defArgs s__law_rule_of) (defBody s__law_rule_of) (defScope s__law_rule_of) [] [] fa fd) (T : Tf K mg) (gm : mg "_law_rule_of" = some (.ref fa)) (k_Rule : In.ClI P w K mg base I 5 "Rule" 2 (He.ga K "Rule") ["premises", "end"] (K12.K32.C_Rule_init K) []) : Cl P w K mg base I 7 "_law_rule_of" 1 (K12.K32.C__law_rule_of K) [] := by
  have B : L2.Binds K fd ["_law_rule_here"] [] := F.bindsN fun _ _ _ _ _ _ us hl => match us, hl with | [_], _ => rfl
  exact ⟨fa, fd, _, _, [], fn__law_rule_of F T k_Rule, gm, F.kp, B, .nil, fun H => by simp only [DenA]⟩
end K32

namespace K32
open PySem PySem.Spec PyProof.Rows L2 Dl Ns Zs Zz Rk K12 K12.K32
theorem fn__law_rules_of {P : Program} {w : World} {K : PySem.W.Frag} {mg : Str → Option Value} {base : Heap} {I : HI} {fa : Addr} {fd : FuncData} (F : FunD K "_law_rules_of" "_law_rules_of" (defArgs s__law_rules_of) (defBody s__law_rules_of) (defScope s__law_rules_of) [] [] fa fd) (T : Tf K mg) (c__law_rule_of : Cl P w K mg base I 7 "_law_rule_of" 1 (K12.K32.C__law_rule_of K) []) (k_Rules : In.ClI P w K mg base I 4 "Rules" 2 (He.ga K "Rules") ["size", "rules"] (K12.K32.C_Rules_init K) []) :
    FnOk P w K mg base (L2.CX P w) 8 fa fd ["_law_n", "_law_rules"] (spOf K I 2 (K12.K32.C__law_rules_of K)) :=
  fn_D F sc__law_rules_of (fun cdv A outer s H E Ed hr tk => pd__law_rules_of T c__law_rule_of k_Rules hr tk) fun ds Qd Ed h _ => K12.K32.ct__law_rules_of h
theorem mk_c__law_rules_of {P : Program} {w : World} {K : PySem.W.Frag} {mg : Str → Option Value} {base : Heap} {I : HI} {fa : Addr} {fd : FuncData} (F : FunD K "_law_rules_of" "_law_rules_of" (defArgs s__law_rules_of) (defBody s__law_rules_of) (defScope s__law_rules_of) [] [] fa fd) (T : Tf K mg) (gm : mg "_law_rules_of" = some (.ref fa)) (c__law_rule_of : Cl P w K mg base I 7 "_law_rule_of" 1 (K12.K32.C__law_rule_of K) []) (k_Rules : In.ClI P w K mg base I 4 "Rules" 2 (He.ga K "Rules") ["size", "rules"] (K12.K32.C_Rules_init K) []) : Cl P w K mg base I 8 "_law_rules_of" 2 (K12.K32.C__law_rules_of K) [] := by
  have B : L2.Binds K fd ["_law_n", "_law_rules"] [] := F.bindsN fun _ _ _ _ _ _ us hl => match us, hl with | [_, _], _ => rfl
  exact ⟨fa, fd, _, _, [], fn__law_rules_of F T c__law_rule_of k_Rules, gm, F.kp, B, .nil, fun H => by simp only [DenA]⟩
end K32

namespace K32
open PySem PySem.Spec PyProof.Rows L2 Dl Ns Zs Zz Rk K12 K12.K32
theorem fn__law_row_form {P : Program} {w : World} {K : PySem.W.Frag} {mg : Str → Option Value} {base : Heap} {I : HI} {fa : Addr} {fd : FuncData} (F : FunD K "_law_row_form" "_law_row_form" (defArgs s__law_row_form) (defBody s__law_row_form) (defScope s__law_row_form) [] [] fa fd) (T : Tf K mg) (c__law_whole : Cl P w K mg base I 2 "_law_whole" 1 (C__law_whole K) []) :
    FnOk P w K mg base (L2.CX P w) 3 fa fd ["_law_n", "_law_rules", "_law_rule_here", "_law_row"] (spOf K I 4 (K12.K32.C__law_row_form K)) :=
  fn_D F sc__law_row_form (fun cdv A outer s H E Ed hr tk => pd__law_row_form T c__law_whole hr tk) fun ds Qd Ed h _ => K12.K32.ct__law_row_form h
theorem mk_c__law_row_form {P : Program} {w : World} {K : PySem.W.Frag} {mg : Str → Option Value} {base : Heap} {I : HI} {fa : Addr} {fd : FuncData} (F : FunD K "_law_row_form" "_law_row_form" (defArgs s__law_row_form) (defBody s__law_row_form) (defScope s__law_row_form) [] [] fa fd) (T : Tf K mg) (gm : mg "_law_row_form" = some (.ref fa)) (c__law_whole : Cl P w K mg base I 2 "_law_whole" 1 (C__law_whole K) []) : Cl P w K mg base I 3 "_law_row_form" 4 (K12.K32.C__law_row_form K) [] := by
  have B : L2.Binds K fd ["_law_n", "_law_rules", "_law_rule_here", "_law_row"] [] := F.bindsN fun _ _ _ _ _ _ us hl => match us, hl with | [_, _, _, _], _ => rfl
  exact ⟨fa, fd, _, _, [], fn__law_row_form F T c__law_whole, gm, F.kp, B, .nil, fun H => by simp only [DenA]⟩
end K32

namespace K32
open PySem PySem.Spec PyProof.Rows L2 Dl Ns Zs Zz Rk K12 K12.K32
theorem fn__law_steps_word {P : Program} {w : World} {K : PySem.W.Frag} {mg : Str → Option Value} {base : Heap} {I : HI} {fa : Addr} {fd : FuncData} (F : FunD K "_law_steps_word" "_law_steps_word" (defArgs s__law_steps_word) (defBody s__law_steps_word) (defScope s__law_steps_word) [] [] fa fd) (T : Tf K mg) (c__law_row_form : Cl P w K mg base I 3 "_law_row_form" 4 (K12.K32.C__law_row_form K) []) :
    FnOk P w K mg base (L2.CX P w) 4 fa fd ["_law_n", "_law_rules", "_law_rule_here", "_law_steps"] (spOf K I 4 (K12.K32.C__law_steps_word K)) :=
  fn_D F sc__law_steps_word (fun cdv A outer s H E Ed hr tk => pd__law_steps_word T c__law_row_form hr tk) fun ds Qd Ed h _ => K12.K32.ct__law_steps_word h
theorem mk_c__law_steps_word {P : Program} {w : World} {K : PySem.W.Frag} {mg : Str → Option Value} {base : Heap} {I : HI} {fa : Addr} {fd : FuncData} (F : FunD K "_law_steps_word" "_law_steps_word" (defArgs s__law_steps_word) (defBody s__law_steps_word) (defScope s__law_steps_word) [] [] fa fd) (T : Tf K mg) (gm : mg "_law_steps_word" = some (.ref fa)) (c__law_row_form : Cl P w K mg base I 3 "_law_row_form" 4 (K12.K32.C__law_row_form K) []) : Cl P w K mg base I 4 "_law_steps_word" 4 (K12.K32.C__law_steps_word K) [] := by
  have B : L2.Binds K fd ["_law_n", "_law_rules", "_law_rule_here", "_law_steps"] [] := F.bindsN fun _ _ _ _ _ _ us hl => match us, hl with | [_, _, _, _], _ => rfl
  exact ⟨fa, fd, _, _, [], fn__law_steps_word F T c__law_row_form, gm, F.kp, B, .nil, fun H => by simp only [DenA]⟩
end K32

namespace K32
open PySem PySem.Spec PyProof.Rows L2 Dl Ns Zs Zz Rk K12 K12.K32
theorem fn__law_own_steps {P : Program} {w : World} {K : PySem.W.Frag} {mg : Str → Option Value} {base : Heap} {I : HI} {fa : Addr} {fd : FuncData} (F : FunD K "_law_own_steps" "_law_own_steps" (defArgs s__law_own_steps) (defBody s__law_own_steps) (defScope s__law_own_steps) [] [] fa fd) (T : Tf K mg)  :
    FnOk P w K mg base (L2.CX P w) 2 fa fd ["_law_n", "_law_rules", "_law_rule_here"] (Fr.spOfF K I 3 (K12.K32.C__law_own_steps K)) :=
  Fr.fn_F F sc__law_own_steps (fun cdv A outer s H E Ed hr tk => pd__law_own_steps T  hr tk) fun ds Qd Ed h _ => K12.K32.ct__law_own_steps h
theorem mk_cf__law_own_steps {P : Program} {w : World} {K : PySem.W.Frag} {mg : Str → Option Value} {base : Heap} {I : HI} {fa : Addr} {fd : FuncData} (F : FunD K "_law_own_steps" "_law_own_steps" (defArgs s__law_own_steps) (defBody s__law_own_steps) (defScope s__law_own_steps) [] [] fa fd) (T : Tf K mg) (gm : mg "_law_own_steps" = some (.ref fa))  : Fr.ClF P w K mg base I 2 "_law_own_steps" 3 (K12.K32.C__law_own_steps K) [] := by
  have B : L2.Binds K fd ["_law_n", "_law_rules", "_law_rule_here"] [] := F.bindsN fun _ _ _ _ _ _ us hl => match us, hl with | [_, _, _], _ => rfl
  exact ⟨fa, fd, _, _, [], fn__law_own_steps F T , gm, F.kp, B, .nil, fun H => by simp only [DenA]⟩
end K32

namespace K32
open PySem PySem.Spec PyProof.Rows L2 Dl Ns Zs Zz Rk K12 K12.K32
theorem fn__law_odd_row {P : Program} {w : World} {K : PySem.W.Frag} {mg : Str → Option Value} {base : Heap} {I : HI} {fa : Addr} {hd : Addr} {fd : FuncData} (F : FunD K "_law_odd_row" "_law_odd_row" (defArgs s__law_odd_row) (defBody s__law_odd_row) (defScope s__law_odd_row) [] [] fa fd) (T : Tf K mg) (c__law_take : Cl P w K mg base I 3 "_law_take" 2 (C__law_take hd) []) :
    FnOk P w K mg base (L2.CX P w) 4 fa fd ["_law_hand_here", "_law_n", "_law_many", "_law_at"] (spOf K I 4 (K12.K32.C__law_odd_row K hd)) :=
  fn_D (tsd := d__law_odd_row K hd) F sc__law_odd_row (by
    intro cdv A outer s H E Ed hr tk
    have z := @pd__law_odd_row P w K mg base I fa hd cdv A outer s H E Ed T c__law_take hr tk
    assumption) fun ds Qd Ed h _ => K12.K32.ct__law_odd_row h
theorem mk_c__law_odd_row {P : Program} {w : World} {K : PySem.W.Frag} {mg : Str → Option Value} {base : Heap} {I : HI} {fa : Addr} {hd : Addr} {fd : FuncData} (F : FunD K "_law_odd_row" "_law_odd_row" (defArgs s__law_odd_row) (defBody s__law_odd_row) (defScope s__law_odd_row) [] [] fa fd) (T : Tf K mg) (gm : mg "_law_odd_row" = some (.ref fa)) (c__law_take : Cl P w K mg base I 3 "_law_take" 2 (C__law_take hd) []) : Cl P w K mg base I 4 "_law_odd_row" 4 (K12.K32.C__law_odd_row K hd) [] := by
  have B : L2.Binds K fd ["_law_hand_here", "_law_n", "_law_many", "_law_at"] [] := F.bindsN fun _ _ _ _ _ _ us hl => match us, hl with | [_, _, _, _], _ => rfl
  exact ⟨fa, fd, _, _, [], fn__law_odd_row F T c__law_take, gm, F.kp, B, .nil, fun H => by simp only [DenA]⟩
end K32

namespace K12
open PySem PySem.Spec PyProof.Rows L2 Dl Ns Zs Zz Rk Rd
end K12

namespace K32
open PySem PySem.Spec PyProof.Rows L2 Dl K12
abbrev N__law_take : List Str := ["_law_hand_here", "_law_many", "_law_cell", "_law_rest"]
theorem sc__law_take : FnScope N__law_take ["_law_hand_here", "_law_many"] (defScope s__law_take) := ⟨rfl, rfl, rfl, by decide +kernel, rfl, by decide +kernel, by decide +kernel⟩
theorem fn__law_take {P : Program} {w : World} {K : PySem.W.Frag} {mg : Str → Option Value} {base : Heap} {fa hd c : Addr} {fd : FuncData} (hne : hd ≠ c) (F : FunD K "_law_take" "_law_take" (defArgs s__law_take) (defBody s__law_take) (defScope s__law_take) [] [] fa fd) (T : Tf K mg)
    (c__law_mixed : Cl P w K mg base (handI hd c) 2 "_law_mixed" 2 (C__law_mixed K) []) : FnOk P w K mg base (L2.CX P w) 3 fa fd ["_law_hand_here", "_law_many"] (spOf K (handI hd c) 2 (C__law_take hd)) := by
  obtain ⟨fm, fdm, psm, dsm, dvsm, F__law_mixed, g__law_mixed, k__law_mixed, b__law_mixed, vm, dm⟩ := c__law_mixed
  have e1 : dvsm = [] := (dm (fun _ => none)).nil
  subst e1
  cases vm
  refine F.ok sc__law_take (fun vs H Q E ⟨ds, Qd, Ed, hl, dn, _⟩ => by rw [dn.len, hl]; rfl) (fun cdv A outer s H vs Q E hr h => ?_)
  have nd := sc__law_take.nd
  refine ⟨_, pss_cons (ps_if (PW.pt (pw_and (pt_cmpR op_eq (pe_ix ix_list (pv 0) (pe_int) (by intro _ _; rfl)) (pe_int) (nomark _)) (pw_and1 (pt_cmpR op_lt (pe_ix ix_list (pv 0) (pe_int) (by intro _ _; rfl)) (pe_callB call_len rfl T.n_len PySem.boot_len (pa_cons (pe_ix ix_list (pv 0) (pe_int) (by intro _ _; rfl)) (pa_nil))) (nomark _))))) (pss_cons (ps_set (i := 2) nd rfl (Or.inl rfl) (pe_ix ix_list (pe_ix ix_list (pv 0) (pe_int) (by intro _ _; rfl)) (pe_ix ix_list (pv 0) (pe_int) (by intro _ _; rfl)) (by intro _ _; rfl))) (pss_cons (ps_asg (pe_op op_add (pe_ix ix_list (pv 0) (pe_int) (by intro _ _; rfl)) (pe_int)) (pg_sub (pv 0) (pe_int) set_list)) (pss_cons (ps_if (pt_cmpR op_lt (pv 2) (pe_op op_pow (pe_int) (pe_int)) (nomark _)) (pss_one (ps_ret (pe_op op_mod (pe_callTy call_int1 rfl T.n_int boot_int (pa_cons (pe_call F__law_mixed (hr.mono (by decide)) rfl g__law_mixed k__law_mixed b__law_mixed .nil passL (pa_cons (pe_op op_mod (pe_callTy call_int1 rfl T.n_int boot_int (pa_cons (pv 2) (pa_nil))) (pe_int)) (pa_cons (pe_ix ix_list (pv 0) (pe_int) (by intro _ _; rfl)) (pa_nil)))) (pa_nil))) (pv 1)))) (pss_nil)) (pss_one (ps_asg (pv 2) (pg_sub (pv 0) (pe_int) set_list)))))) (pss_nil)) (pss_cons (ps_if (pt_cmpR op_gt (pe_ix ix_list (pv 0) (pe_int) (by intro _ _; rfl)) (pe_int) (nomark _)) (pss_cons (ps_set (i := 3) nd rfl (Or.inl rfl) (pe_ix ix_list (pv 0) (pe_int) (by intro _ _; rfl))) (pss_cons (ps_asg (pe_op op_fdivW (pe_callTy call_int1 rfl T.n_int boot_int (pa_cons (pv 3) (pa_nil))) (pv 1)) (pg_sub (pv 0) (pe_int) set_list)) (pss_one (ps_ret (pe_op op_mod (pe_callTy call_int1 rfl T.n_int boot_int (pa_cons (pv 3) (pa_nil))) (pv 1)))))) (pss_nil)) (pss_cons (ps_asg (pe_op op_mod (pe_callTy call_int1 rfl T.n_int boot_int (pa_cons (pe_op op_add (pe_ix ix_list (pv 0) (pe_int) (by intro _ _; rfl)) (pe_int)) (pa_nil))) (pe_int)) (pg_sub (pv 0) (pe_int) set_list)) (pss_one (ps_ret (pe_op op_mod (pe_callTy call_int1 rfl T.n_int boot_int (pa_cons (pe_call F__law_mixed (hr.mono (by decide)) rfl g__law_mixed k__law_mixed b__law_mixed .nil passL (pa_cons (pe_ix ix_list (pv 0) (pe_int) (by intro _ _; rfl)) (pa_cons (pe_ix ix_list (pv 0) (pe_int) (by intro _ _; rfl)) (pa_nil)))) (pa_nil))) (pv 1)))))), ?_⟩
  obtain ⟨ds, Qd, Ed, hl, dn, ok, ⟨m, rfl, m0, m1, q⟩, kq, ke⟩ := h
  obtain ⟨v1, r1, rfl, d1, dn⟩ := dn.cons
  obtain ⟨v2, rfl, d2⟩ := dn.one1
  simp only [Den] at d1 d2
  subst d1 d2
  obtain ⟨cs, at_, held, tot, Z⟩ := ok
  have hm : CDivW held m := ⟨m0, by
    have h1 : m.natAbs < 2 ^ 200 := by omega
    have h2 : m.natAbs ≠ 0 := by omega
    have := (Nat.log2_lt h2).mpr h1
    omega⟩
  have fin : ∀ (x : Int) (H' : Hp), Kp (handI hd c).own H H' → (handI hd c).ok H' → Q (.int (x % m)) H' := fun x H' e o =>
    kq (.int (x % m)) (.int (x % m)) H' ⟨e, o⟩ (by simp only [Den]) (q _ (Int.emod_nonneg _ (by omega)) (Int.emod_lt_of_pos _ m0))
  refine seq_of (P := fun σ' H' => ∃ a b, σ' = [some (.ref hd), some (.int m), a, b] ∧ Kp (handI hd c).own H H' ∧ ∃ cs at_ held tot, HandAt hd c cs at_ held tot H') ?_ ?_
  · intro σ' H' hh
    obtain ⟨a, b, rfl, kp, cs, at_, held, tot, Z⟩ := hh
    refine seq_of (P := fun σ' H' => ∃ a b, σ' = [some (.ref hd), some (.int m), a, b] ∧ Kp (handI hd c).own H H' ∧ ∃ cs at_ held tot, HandAt hd c cs at_ held tot H') ?_ ?_
    · intro σ' H' hh
      obtain ⟨a, b, rfl, kp, cs, at_, held, tot, Z⟩ := hh
      refine v_ix rfl Z.h rfl ⟨tot, 1, rfl, rfl, Or.inl ⟨tot + 1, rfl, ⟨tot + 1, _, rfl, rfl, (show (0 : Int) < 2147483549 by decide), ?_⟩⟩⟩
      refine v_set rfl Z.h rfl ?_
      have t0 : 0 ≤ (tot + 1) % 2147483549 := Int.emod_nonneg _ (by decide)
      have t1 : (tot + 1) % 2147483549 < 2147483549 := Int.emod_lt_of_pos _ (by decide)
      have Z' := Z.set hne Z.a0 Z.a1 Z.h0 t0 (by omega)
      refine v_ix rfl Z'.h rfl (v_ix rfl Z'.h rfl ?_)
      refine ⟨[.int _, .int at_], fun d => ∃ r : Int, d = .int r ∧ 0 ≤ r, fun _ => False, rfl, DenA.ints (ns := [_, at_]), ⟨_, _, _, _, Z'⟩, ⟨_, _, rfl, t0, by omega, Z.a0, by have := Z.a1; omega, fun r r0 _ => ⟨r, rfl, r0⟩⟩, fun v d H2 e2 dn ⟨r, er, r0⟩ => ?_, fun _ _ _ _ _ z => z.elim⟩
      subst er
      simp only [Den] at dn
      subst dn
      refine Or.inl ⟨r, rfl, ⟨_, rfl, ⟨r, m, rfl, rfl, m0, ?_⟩⟩⟩
      exact fin r H2 ((kp.trans kp_mut).trans e2.1) e2.2
    · intro nx
      by_cases hh : 0 < held
      · refine v_ix rfl Z.h rfl ⟨held, 0, rfl, rfl, _, rfl, ?_⟩
        refine it_t (decide_eq_true hh) ?_
        refine v_ix rfl Z.h rfl ?_
        refine ⟨_, rfl, Or.inl ⟨held, rfl, ⟨_, rfl, ⟨held, m, rfl, rfl, ⟨hm.1, hm.2⟩, ?_⟩⟩⟩⟩
        refine v_set rfl Z.h rfl ?_
        have Z' := Z.set hne Z.a0 Z.a1 (h' := held / m) (Int.ediv_nonneg Z.h0 (Int.le_of_lt m0)) Z.t0 Z.t1
        refine ⟨_, rfl, Or.inl ⟨held, rfl, ⟨_, rfl, ⟨held, m, rfl, rfl, m0, ?_⟩⟩⟩⟩
        exact fin held _ (kp.trans kp_mut) ⟨_, _, _, _, Z'⟩
      · refine v_ix rfl Z.h rfl ⟨held, 0, rfl, rfl, _, rfl, ?_⟩
        refine it_f (decide_eq_false hh) ?_
        exact nx _ _ ⟨a, b, rfl, kp, _, _, _, _, Z⟩
  · intro nx
    refine v_ix rfl Z.h rfl ⟨rfl, _, rfl, ?_⟩
    by_cases hh : held = 0
    · subst hh
      refine it_t (decide_eq_true rfl) ?_
      refine v_ix rfl Z.h rfl (v_ix rfl Z.h rfl ?_)
      refine ⟨_, (cs.map V.int).length, rfl, Or.inl ⟨_, SqL.of Z.c, rfl⟩, ⟨at_, _, rfl, rfl, _, rfl, ?_⟩⟩
      by_cases hl : at_ < ((cs.map V.int).length : Int)
      · refine it_t (decide_eq_true hl) ?_
        rw [List.length_map] at hl
        obtain ⟨x, ex, mx⟩ := take_cell Z.a0 hl
        have x0 := Z.pos x mx
        refine v_ix rfl Z.h rfl ?_
        refine v_ix rfl Z.h rfl ⟨c, _, at_, _, rfl, rfl, SqL.of Z.c, ex, ?_⟩
        refine v_ix rfl Z.h rfl ⟨at_, 1, rfl, rfl, ?_⟩
        refine v_set rfl Z.h rfl ?_
        have Z' := Z.set hne (a' := at_ + 1) (by have := Z.a0; omega) (by have := Z.len; omega) Z.h0 Z.t0 Z.t1
        refine ⟨_, rfl, ⟨10, 18, rfl, rfl, (by unfold CPow; decide), ⟨x, _, rfl, rfl, _, rfl, ?_⟩⟩⟩
        by_cases hx : x < (10 : Int) ^ (18 : Int).toNat
        · refine it_t (decide_eq_true hx) ?_
          refine ⟨_, rfl, Or.inl ⟨x, rfl, ⟨x, _, rfl, rfl, (show (0 : Int) < 2147483399 by decide), ?_⟩⟩⟩
          have c0 : 0 ≤ x % 2147483399 := Int.emod_nonneg _ (by decide)
          have c1 : x % 2147483399 < 2147483399 := Int.emod_lt_of_pos _ (by decide)
          refine v_ix rfl Z'.h rfl ?_
          refine ⟨[.int (x % 2147483399), .int (at_ + 1)], fun d => ∃ r : Int, d = .int r ∧ 0 ≤ r, fun _ => False, rfl, DenA.ints (ns := [x % 2147483399, at_ + 1]), ⟨_, _, _, _, Z'⟩, ⟨_, _, rfl, c0, by omega, Z'.a0, by have := Z'.a1; omega, fun r r0 _ => ⟨r, rfl, r0⟩⟩, fun v d H2 e2 dn ⟨r, er, r0⟩ => ?_, fun _ _ _ _ _ z => z.elim⟩
          subst er
          simp only [Den] at dn
          subst dn
          refine Or.inl ⟨r, rfl, ⟨_, rfl, ⟨r, m, rfl, rfl, m0, ?_⟩⟩⟩
          exact fin r H2 (kp_mut.trans e2.1) e2.2
        · refine it_f (decide_eq_false hx) ?_
          refine ⟨_, rfl, v_set rfl Z'.h rfl ?_⟩
          have Z2 := Z'.set hne Z'.a0 Z'.a1 (h' := x) x0 Z.t0 Z.t1
          refine nx _ _ ⟨_, _, rfl, kp_mut.trans kp_mut, _, _, _, _, Z2⟩
      · refine it_f (decide_eq_false hl) ?_
        exact nx _ _ ⟨_, _, rfl, Kp.refl, _, _, _, _, Z⟩
    · refine it_f (decide_eq_false fun z => hh (by injection z)) ?_
      refine it_f rfl ?_
      exact nx _ _ ⟨_, _, rfl, Kp.refl, _, _, _, _, Z⟩
end K32

namespace K32
open PySem PySem.Spec PyProof.Rows L2 Dl Ns Zs Zz Rk K12 K12.K32
theorem mk_c__law_take {P : Program} {w : World} {K : PySem.W.Frag} {mg : Str → Option Value} {base : Heap} {fa hd c : Addr} {fd : FuncData} (F : FunD K "_law_take" "_law_take" (defArgs s__law_take) (defBody s__law_take) (defScope s__law_take) [] [] fa fd) (hne : hd ≠ c) (T : Tf K mg) (gm : mg "_law_take" = some (.ref fa)) (c__law_mixed : Cl P w K mg base (handI hd c) 2 "_law_mixed" 2 (C__law_mixed K) []) : Cl P w K mg base (handI hd c) 3 "_law_take" 2 (C__law_take hd) [] := by
  have B : L2.Binds K fd ["_law_hand_here", "_law_many"] [] := F.bindsN fun _ _ _ _ _ _ us hl => match us, hl with | [_, _], _ => rfl
  exact ⟨fa, fd, _, _, [], fn__law_take hne F T c__law_mixed, gm, F.kp, B, .nil, fun H => by simp only [DenA]⟩
theorem mk_c__law_hand {P : Program} {w : World} {K : PySem.W.Frag} {mg : Str → Option Value} {base : Heap} {I : HI} {fa : Addr} {fd : FuncData} (F : FunD K "_law_hand" "_law_hand" (defArgs s__law_hand) (defBody s__law_hand) (defScope s__law_hand) [] [] fa fd) (T : Tf K mg) (gm : mg "_law_hand" = some (.ref fa))  : Cl P w K mg base I 2 "_law_hand" 1 (C_hand K) [] := by
  have B : L2.Binds K fd ["_law_script"] [] := F.bindsN fun _ _ _ _ _ _ us hl => match us, hl with | [_], _ => rfl
  exact ⟨fa, fd, _, _, [], fn__law_hand F T , gm, F.kp, B, .nil, fun H => by simp only [DenA]⟩
end K32


namespace K32
open PySem PySem.Spec PyProof.Rows L2 Dl Ns Zs Zz Rk K12 K12.K32
theorem fn_law {P : Program} {w : World} {K : PySem.W.Frag} {mg : Str → Option Value} {base : Heap} {fa : Addr} {fd : FuncData} (F : FunD K "law" "law" (defArgs s_law) (defBody s_law) (defScope s_law) [] [] fa fd) (T : Tf K mg)  
    (c__law_hand : Cl P w K mg base HI.plain 2 "_law_hand" 1 (C_hand K) []) (hs : ∀ hd c, hd ≠ c → Cl P w K mg base (handI hd c) 4 "_law_odd_row" 4 (K12.K32.C__law_odd_row K hd) [] ∧ Cl P w K mg base (handI hd c) 4 "_law_rule" 2 (K12.K32.C__law_rule K hd) [] ∧ Cl P w K mg base (handI hd c) 7 "_law_rule_of" 1 (K12.K32.C__law_rule_of K) [] ∧ Cl P w K mg base (handI hd c) 8 "_law_rules_of" 2 (K12.K32.C__law_rules_of K) [] ∧ Cl P w K mg base (handI hd c) 4 "_law_steps_word" 4 (K12.K32.C__law_steps_word K) [] ∧ Cl P w K mg base (handI hd c) 3 "_law_take" 2 (C__law_take hd) [] ∧ Cl P w K mg base (handI hd c) 5 "steps_fault" 3 (K12.K32.C_steps_fault K) [] ∧ Fr.ClF P w K mg base (handI hd c) 2 "_law_own_steps" 3 (K12.K32.C__law_own_steps K) [] ∧ In.ClI P w K mg base (handI hd c) 5 "Rule" 2 (He.ga K "Rule") ["premises", "end"] (K12.K32.C_Rule_init K) [] ∧ (∀ (as : List Addr) (ct : Addr → List V), (∀ a ∈ as, ¬ (handI hd c).foot a) → Cl P w K mg base (Fq.trk (handI hd c) as ct) 4 "_law_odd_row" 4 (K12.K32.C__law_odd_row K hd) []) ∧ (∀ (as : List Addr) (ct : Addr → List V), (∀ a ∈ as, ¬ (handI hd c).foot a) → Cl P w K mg base (Fq.trk (handI hd c) as ct) 3 "_law_take" 2 (C__law_take hd) [])) :
    FnAt P w K mg base (L2.CX P w) callerA fa fd ["_law_script"] (spLaw K) := by
  obtain ⟨fh, fdh, psh, dsh, dvsh, Fh, gh, kh, bh, vh, dh⟩ := c__law_hand
  have e1 : dvsh = [] := (dh (fun _ => none)).nil
  subst e1
  cases vh
  refine fnAt (k := 8) F sc_law ⟨rfl, by decide, by decide⟩ (fun cdv outer s H vs Q E hr h => ?_)
  obtain ⟨a, ns, rfl, hl, o, sq, hQ⟩ := h
  have nd := sc_law.nd
  have tk : Takes (cxD P w K mg base N_law "law" (defScope s_law) fa cdv callerA outer s H E) (gOf HI.plain (fun _ => False) E).W := takes_of rfl rfl rfl rfl
  refine ⟨_, pss_cons (ps_set (i := 1) nd rfl (by first | exact Or.inl rfl | exact Or.inr rfl) (pe_call Fh (hr.mono (by decide)) rfl gh kh bh .nil passL (pa_cons (pv 0) pa_nil))) pss_w, ?_⟩
  exact law_run (X := cxD P w K mg base N_law "law" (defScope s_law) fa cdv callerA outer s H E) (rest := (defBody s_law).tail) (td := fun hd => d_law K hd (fun _ _ => False)) (n := 17) (W := (gOf HI.plain (fun _ => False) E).W) rfl (fun hd c hne => have Z := hs hd c hne; pd_law (Ed := fun _ => False) T (Z.1) (Z.2.1) (Z.2.2.1) (Z.2.2.2.1) (Z.2.2.2.2.1) (Z.2.2.2.2.2.1) (Z.2.2.2.2.2.2.1) (Z.2.2.2.2.2.2.2.1) (Z.2.2.2.2.2.2.2.2.1) rfl (Z.2.2.2.2.2.2.2.2.2.1) (Z.2.2.2.2.2.2.2.2.2.2) hr tk) (fun hd => K12.K32.ct_law32) hl o sq hQ
theorem quiet {P : Program} {w : World} {K : PySem.W.Frag} {mg : Str → Option Value} {base : Heap} {A : Around} {f : Addr} {fd : FuncData} {ps : List Str} (F : FnAt P w K mg base (L2.CX P w) A f fd ps (spLaw K)) : FnAt P w K mg base L2.CX0 A f fd ps (spLaw K) :=
  ⟨fun outer s H args us vs Q E he hb hv hl hs => codeAny_mono (F.run outer s H args us vs Q E0 he hb hv hl hs) fun r s' h => by
    cases r with
    | error e =>
      have h : L2.CX P w outer H s E0 e s' := h
      obtain ⟨_, _, _, _, _, _, _, _, _, _, _, _, z⟩ := h
      exact z.elim
    | ok fl => cases fl <;> exact h⟩
theorem facts {P : Program} {w : World} {K : PySem.W.Frag} {h : Heap} {mg : Str → Option Value} {f : Addr} (X : K.In h) (G : h.Ns mainGlobals mg) (hfa : mg ("law" : Str) = some (.ref f)) (c : He.SaysD fa fns K) (x : exF K = true) (ty : SaysY ts w K) :
    ∃ fd : FuncData, (∀ (s : Shared) (v : Value), BindsTo s fd ⟨[v], []⟩ [("_law_script", v)]) ∧ ∀ base : Heap, K.In base → base.Ns mainGlobals mg → FnAt P w K mg base (L2.CX P w) callerA f fd ["_law_script"] (spLaw K) := by
  obtain ⟨fd_is_whole, F_is_whole⟩ := c.def_ 0 (d := defD s_is_whole none "is_whole" [.non, .non]) rfl
  have g_is_whole := He.glo_ok X G (c.fact 0 (f := .glo "is_whole") rfl)
  obtain ⟨fd__is_couple, F__is_couple⟩ := c.def_ 1 (d := defD s__is_couple none "_is_couple" []) rfl
  have g__is_couple := He.glo_ok X G (c.fact 1 (f := .glo "_is_couple") rfl)
  obtain ⟨fd__is_end, F__is_end⟩ := c.def_ 2 (d := defD s__is_end none "_is_end" []) rfl
  have g__is_end := He.glo_ok X G (c.fact 2 (f := .glo "_is_end") rfl)
  obtain ⟨fd_rule_dates, F_rule_dates⟩ := c.def_ 3 (d := defD s_rule_dates none "rule_dates" []) rfl
  have g_rule_dates := He.glo_ok X G (c.fact 3 (f := .glo "rule_dates") rfl)
  obtain ⟨fd_has_dates_below, F_has_dates_below⟩ := c.def_ 4 (d := defD s_has_dates_below none "has_dates_below" []) rfl
  have g_has_dates_below := He.glo_ok X G (c.fact 4 (f := .glo "has_dates_below") rfl)
  obtain ⟨fd__premise_ends, F__premise_ends⟩ := c.def_ 5 (d := defD s__premise_ends none "_premise_ends" []) rfl
  have g__premise_ends := He.glo_ok X G (c.fact 5 (f := .glo "_premise_ends") rfl)
  obtain ⟨fd_check_rule_dates, F_check_rule_dates⟩ := c.def_ 6 (d := defD s_check_rule_dates none "check_rule_dates" []) rfl
  have g_check_rule_dates := He.glo_ok X G (c.fact 6 (f := .glo "check_rule_dates") rfl)
  obtain ⟨fd_steps_fault, F_steps_fault⟩ := c.def_ 7 (d := defD s_steps_fault none "steps_fault" []) rfl
  have g_steps_fault := He.glo_ok X G (c.fact 7 (f := .glo "steps_fault") rfl)
  obtain ⟨fd__is_row, F__is_row⟩ := c.def_ 8 (d := defD s__is_row none "_is_row" []) rfl
  have g__is_row := He.glo_ok X G (c.fact 8 (f := .glo "_is_row") rfl)
  obtain ⟨fd__back_fault, F__back_fault⟩ := c.def_ 9 (d := defD s__back_fault none "_back_fault" []) rfl
  have g__back_fault := He.glo_ok X G (c.fact 9 (f := .glo "_back_fault") rfl)
  obtain ⟨fd__row_numbers, F__row_numbers⟩ := c.def_ 10 (d := defD s__row_numbers none "_row_numbers" []) rfl
  have g__row_numbers := He.glo_ok X G (c.fact 10 (f := .glo "_row_numbers") rfl)
  obtain ⟨fd__end_of_row, F__end_of_row⟩ := c.def_ 11 (d := defD s__end_of_row none "_end_of_row" []) rfl
  have g__end_of_row := He.glo_ok X G (c.fact 11 (f := .glo "_end_of_row") rfl)
  obtain ⟨fd__law_hand, F__law_hand⟩ := c.def_ 12 (d := defD s__law_hand none "_law_hand" []) rfl
  have g__law_hand := He.glo_ok X G (c.fact 12 (f := .glo "_law_hand") rfl)
  obtain ⟨fd__law_mixed, F__law_mixed⟩ := c.def_ 13 (d := defD s__law_mixed none "_law_mixed" []) rfl
  have g__law_mixed := He.glo_ok X G (c.fact 13 (f := .glo "_law_mixed") rfl)
  obtain ⟨fd__law_take, F__law_take⟩ := c.def_ 14 (d := defD s__law_take none "_law_take" []) rfl
  have g__law_take := He.glo_ok X G (c.fact 14 (f := .glo "_law_take") rfl)
  obtain ⟨fd__law_whole, F__law_whole⟩ := c.def_ 15 (d := defD s__law_whole none "_law_whole" []) rfl
  have g__law_whole := He.glo_ok X G (c.fact 15 (f := .glo "_law_whole") rfl)
  obtain ⟨fd__law_rule, F__law_rule⟩ := c.def_ 16 (d := defD s__law_rule none "_law_rule" []) rfl
  have g__law_rule := He.glo_ok X G (c.fact 16 (f := .glo "_law_rule") rfl)
  obtain ⟨fd__law_rule_of, F__law_rule_of⟩ := c.def_ 17 (d := defD s__law_rule_of none "_law_rule_of" []) rfl
  have g__law_rule_of := He.glo_ok X G (c.fact 17 (f := .glo "_law_rule_of") rfl)
  obtain ⟨fd__law_rules_of, F__law_rules_of⟩ := c.def_ 18 (d := defD s__law_rules_of none "_law_rules_of" []) rfl
  have g__law_rules_of := He.glo_ok X G (c.fact 18 (f := .glo "_law_rules_of") rfl)
  obtain ⟨fd__law_row_form, F__law_row_form⟩ := c.def_ 19 (d := defD s__law_row_form none "_law_row_form" []) rfl
  have g__law_row_form := He.glo_ok X G (c.fact 19 (f := .glo "_law_row_form") rfl)
  obtain ⟨fd__law_steps_word, F__law_steps_word⟩ := c.def_ 20 (d := defD s__law_steps_word none "_law_steps_word" []) rfl
  have g__law_steps_word := He.glo_ok X G (c.fact 20 (f := .glo "_law_steps_word") rfl)
  obtain ⟨fd__law_own_steps, F__law_own_steps⟩ := c.def_ 21 (d := defD s__law_own_steps none "_law_own_steps" []) rfl
  have g__law_own_steps := He.glo_ok X G (c.fact 21 (f := .glo "_law_own_steps") rfl)
  obtain ⟨fd__law_odd_row, F__law_odd_row⟩ := c.def_ 22 (d := defD s__law_odd_row none "_law_odd_row" []) rfl
  have g__law_odd_row := He.glo_ok X G (c.fact 22 (f := .glo "_law_odd_row") rfl)
  obtain ⟨fd_law, F_law⟩ := c.def_ 23 (d := defD s_law none "law" []) rfl
  have g_law := He.glo_ok X G (c.fact 23 (f := .glo "law") rfl)
  obtain ⟨fd_Rule_init, F_Rule_init⟩ := c.def_ 24 (d := defD s_Rule_init (some "Rule") "__init__" []) rfl
  obtain ⟨fd_Rules_init, F_Rules_init⟩ := c.def_ 25 (d := defD s_Rules_init (some "Rules") "__init__" []) rfl
  obtain ⟨fd_Rules_len, F_Rules_len⟩ := c.def_ 26 (d := defD s_Rules_len (some "Rules") "__len__" []) rfl
  have g_DateError := He.glo_ok X G (c.fact 24 (f := .glo "DateError") rfl)
  have g_BadRule := He.glo_ok X G (c.fact 25 (f := .glo "BadRule") rfl)
  have g_BadRules := He.glo_ok X G (c.fact 26 (f := .glo "BadRules") rfl)
  have g_Rule := He.glo_ok X G (c.fact 27 (f := .glo "Rule") rfl)
  have g_Rules := He.glo_ok X G (c.fact 28 (f := .glo "Rules") rfl)
  obtain ⟨x0, x⟩ := He.ba x
  obtain ⟨x1, x⟩ := He.ba x
  obtain ⟨x2, x⟩ := He.ba x
  obtain ⟨x3, x⟩ := He.ba x
  obtain ⟨x4, x⟩ := He.ba x
  obtain ⟨x5, x⟩ := He.ba x
  obtain ⟨x6, x⟩ := He.ba x
  obtain ⟨x7, x8⟩ := He.ba x
  have t_NEVER := Zs.tupG_of x0 (He.glo_ok X G (c.fact 41 (f := .glo "NEVER") rfl))
  have ins_Rule := In.insB_ok x1
  have hcl_Rule := ins_Rule.ins.cl
  have no_Rule_premises := In.noB_ok x2
  have no_Rule_end := In.noB_ok x3
  have ins_Rules := In.insB_ok x4
  have hcl_Rules := ins_Rules.ins.cl
  have no_Rules_size := In.noB_ok x5
  have no_Rules_rules := In.noB_ok x6
  have T : Tf K mg := ⟨He.free_ok X G (c.fact 29 (f := .free "abs") rfl), He.free_ok X G (c.fact 30 (f := .free "all") rfl), He.free_ok X G (c.fact 31 (f := .free "bool") rfl), He.free_ok X G (c.fact 32 (f := .free "enumerate") rfl), He.free_ok X G (c.fact 33 (f := .free "int") rfl), He.free_ok X G (c.fact 34 (f := .free "isinstance") rfl), He.free_ok X G (c.fact 35 (f := .free "len") rfl), He.free_ok X G (c.fact 36 (f := .free "list") rfl), He.free_ok X G (c.fact 37 (f := .free "range") rfl), He.free_ok X G (c.fact 38 (f := .free "repr") rfl), He.free_ok X G (c.fact 39 (f := .free "sorted") rfl), He.free_ok X G (c.fact 40 (f := .free "tuple") rfl), g_Rule, He.int_ok X G (c.fact 42 (f := .int "MOST_PLACES" 7) rfl), He.int_ok X G (c.fact 43 (f := .int "MOST_PREMISES" 4) rfl), He.int_ok X G (c.fact 44 (f := .int "MOST_RULES" 80) rfl), He.int_ok X G (c.fact 45 (f := .int "MOST_STEPS" 1000) rfl), t_NEVER, He.str_ok X G (c.fact 46 (f := .str "NOT_AFTER" "not after") rfl)⟩
  have X32_ : X32 K := x32B_ok x8 ins_Rule no_Rule_premises no_Rule_end ins_Rules no_Rules_size no_Rules_rules
  have e := hfa.symm.trans g_law
  cases e
  have b := FunD.bindsA (ps := ["_law_script"]) F_law fun _ _ _ _ _ _ us hl => match us, hl with | [_], _ => rfl
  refine ⟨fd_law, fun s v => b s [v] rfl, fun base _ _ => ?_⟩
  have len_Rules : Fr.LenCl P w K mg base 2 (He.ga K "Rules") (K12.K32.C_Rules_len K) := ⟨_, fd_Rules_len, _, fn_Rules_len F_Rules_len T X32_, of_decide_eq_true (He.ba x7).1, (He.ba x7).2, F_Rules_len.bindsN fun _ _ _ _ _ _ us hl => match us, hl with | [_], _ => rfl⟩
  have j_c__row_numbers := fun (J : HI) (hJ : J.noXd) => mk_c__row_numbers (P := P) (w := w) (base := base) (I := J) F__row_numbers T g__row_numbers 
  have j_c_is_whole := fun (J : HI) (hJ : J.noXd) => mk_c_is_whole (P := P) (w := w) (base := base) (I := J) F_is_whole T g_is_whole 
  have j_cf__premise_ends := fun (J : HI) (hJ : J.noXd) => mk_cf__premise_ends (P := P) (w := w) (base := base) (I := J) F__premise_ends T g__premise_ends 
  have j_c__back_fault := fun (J : HI) (hJ : J.noXd) => mk_c__back_fault (P := P) (w := w) (base := base) (I := J) F__back_fault T g__back_fault (j_c__row_numbers J hJ) (j_c_is_whole J hJ) (j_cf__premise_ends J hJ) X32_
  have j_c__end_of_row := fun (J : HI) (hJ : J.noXd) => mk_c__end_of_row (P := P) (w := w) (base := base) (I := J) F__end_of_row T g__end_of_row (j_cf__premise_ends J hJ) X32_
  have j_c__is_couple := fun (J : HI) (hJ : J.noXd) => mk_c__is_couple (P := P) (w := w) (base := base) (I := J) F__is_couple T g__is_couple (j_c_is_whole J hJ)
  have j_c__is_end := fun (J : HI) (hJ : J.noXd) => mk_c__is_end (P := P) (w := w) (base := base) (I := J) F__is_end T g__is_end (j_c__is_couple J hJ)
  have j_c_is_whole_1 := fun (J : HI) (hJ : J.noXd) => mk_c_is_whole_1 (P := P) (w := w) (base := base) (I := J) F_is_whole T g_is_whole 
  have j_c__is_row := fun (J : HI) (hJ : J.noXd) => mk_c__is_row (P := P) (w := w) (base := base) (I := J) F__is_row T g__is_row len_Rules (j_c_is_whole_1 J hJ) (j_c_is_whole J hJ) X32_
  have j_c__law_mixed := fun (J : HI) (hJ : J.noXd) => mk_c__law_mixed (P := P) (w := w) (base := base) (I := J) F__law_mixed T g__law_mixed 
  have j_c__law_whole := fun (J : HI) (hJ : J.noXd) => mk_c__law_whole (P := P) (w := w) (base := base) (I := J) F__law_whole T g__law_whole 
  have j_c__law_row_form := fun (J : HI) (hJ : J.noXd) => mk_c__law_row_form (P := P) (w := w) (base := base) (I := J) F__law_row_form T g__law_row_form (j_c__law_whole J hJ)
  have j_k_Rule := fun (J : HI) (hJ : J.noXd) => mk_k_Rule (P := P) (w := w) (base := base) (I := J) F_Rule_init T g_Rule ins_Rule.mak j_c__is_couple j_c__is_end hJ hcl_Rule no_Rule_premises no_Rule_end
  have j_c__law_rule_of := fun (J : HI) (hJ : J.noXd) => mk_c__law_rule_of (P := P) (w := w) (base := base) (I := J) F__law_rule_of T g__law_rule_of (j_k_Rule J hJ)
  have j_c_rule_dates := fun (J : HI) (hJ : J.noXd) => mk_c_rule_dates (P := P) (w := w) (base := base) (I := J) F_rule_dates T g_rule_dates X32_
  have j_c_has_dates_below := fun (J : HI) (hJ : J.noXd) => mk_c_has_dates_below (P := P) (w := w) (base := base) (I := J) F_has_dates_below T g_has_dates_below (j_c_rule_dates J hJ)
  have j_k_Rules := fun (J : HI) (hJ : J.noXd) => mk_k_Rules (P := P) (w := w) (base := base) (I := J) F_Rules_init T g_Rules ins_Rules.mak j_c_has_dates_below j_c_is_whole hJ hcl_Rules no_Rules_size no_Rules_rules X32_
  have j_c__law_rules_of := fun (J : HI) (hJ : J.noXd) => mk_c__law_rules_of (P := P) (w := w) (base := base) (I := J) F__law_rules_of T g__law_rules_of (j_c__law_rule_of J hJ) (j_k_Rules J hJ)
  have j_c__law_steps_word := fun (J : HI) (hJ : J.noXd) => mk_c__law_steps_word (P := P) (w := w) (base := base) (I := J) F__law_steps_word T g__law_steps_word (j_c__law_row_form J hJ)
  have j_c_check_rule_dates := fun (J : HI) (hJ : J.noXd) => mk_c_check_rule_dates (P := P) (w := w) (base := base) (I := J) F_check_rule_dates T g_check_rule_dates (j_c_has_dates_below J hJ) X32_
  have j_c_steps_fault := fun (J : HI) (hJ : J.noXd) => mk_c_steps_fault (P := P) (w := w) (base := base) (I := J) F_steps_fault T g_steps_fault (j_c__back_fault J hJ) (j_c__end_of_row J hJ) (j_c__is_row J hJ) (j_c_check_rule_dates J hJ) X32_
  have j_cf__law_own_steps := fun (J : HI) (hJ : J.noXd) => mk_cf__law_own_steps (P := P) (w := w) (base := base) (I := J) F__law_own_steps T g__law_own_steps 
  refine fn_law F_law T (mk_c__law_hand F__law_hand T g__law_hand) fun hd c hne => ?_
  have hnx := handI_noXd hd c
  have c__row_numbers := j_c__row_numbers (handI hd c) hnx
  have c_is_whole := j_c_is_whole (handI hd c) hnx
  have cf__premise_ends := j_cf__premise_ends (handI hd c) hnx
  have c__back_fault := j_c__back_fault (handI hd c) hnx
  have c__end_of_row := j_c__end_of_row (handI hd c) hnx
  have c__is_couple := j_c__is_couple (handI hd c) hnx
  have c__is_end := j_c__is_end (handI hd c) hnx
  have c_is_whole_1 := j_c_is_whole_1 (handI hd c) hnx
  have c__is_row := j_c__is_row (handI hd c) hnx
  have c__law_mixed := j_c__law_mixed (handI hd c) hnx
  have c__law_whole := j_c__law_whole (handI hd c) hnx
  have c__law_row_form := j_c__law_row_form (handI hd c) hnx
  have k_Rule := j_k_Rule (handI hd c) hnx
  have c__law_rule_of := j_c__law_rule_of (handI hd c) hnx
  have c_rule_dates := j_c_rule_dates (handI hd c) hnx
  have c_has_dates_below := j_c_has_dates_below (handI hd c) hnx
  have k_Rules := j_k_Rules (handI hd c) hnx
  have c__law_rules_of := j_c__law_rules_of (handI hd c) hnx
  have c__law_steps_word := j_c__law_steps_word (handI hd c) hnx
  have c_check_rule_dates := j_c_check_rule_dates (handI hd c) hnx
  have c_steps_fault := j_c_steps_fault (handI hd c) hnx
  have cf__law_own_steps := j_cf__law_own_steps (handI hd c) hnx
  have c__law_take := mk_c__law_take (P := P) (w := w) (base := base) F__law_take hne T g__law_take c__law_mixed
  have c__law_odd_row := mk_c__law_odd_row (P := P) (w := w) (base := base) (I := handI hd c) (hd := hd) F__law_odd_row T g__law_odd_row c__law_take
  have c__law_rule := mk_c__law_rule (P := P) (w := w) (base := base) (I := handI hd c) (hd := hd) F__law_rule T g__law_rule c__law_take
  have jc__law_take := fun (as : List Addr) (ct : Addr → List V) (hn : ∀ a ∈ as, ¬ (handI hd c).foot a) => Fq.cl_trk (as := as) (ct := ct) c__law_take (fun ds Q E ⟨m, e, h0, h1, q⟩ => ⟨m, e, h0, h1, fun r r0 r1 => ⟨q r r0 r1, rfl⟩⟩) hn
  have jc__law_odd_row := fun (as : List Addr) (ct : Addr → List V) (hn : ∀ a ∈ as, ¬ (handI hd c).foot a) => mk_c__law_odd_row (P := P) (w := w) (base := base) (I := Fq.trk (handI hd c) as ct) (hd := hd) F__law_odd_row T g__law_odd_row (jc__law_take as ct hn)
  exact ⟨c__law_odd_row, c__law_rule, c__law_rule_of, c__law_rules_of, c__law_steps_word, c__law_take, c_steps_fault, cf__law_own_steps, k_Rule, jc__law_odd_row, jc__law_take⟩
end K32
open PySem PySem.W PySem.Calls PyProof.Rows
theorem PySem.Challenge.cw_earliestlots_k32_steps_judged_holds : PySem.Challenge.rw_earliestlots_k32_steps_judged.Holds := by
  w_on; o_law
  refine HandSHeadRun.head_any (r := OpenLaw.row PySem.Challenge.rw_earliestlots_k32_steps_judged) (q := view (OpenLaw.row PySem.Challenge.rw_earliestlots_k32_steps_judged).prog [39]) (H := K32.hk) (ob := K32.ob) (M := 9000) (loose := K32.names) (d := HandSHeadRun.topDef (OpenLaw.row PySem.Challenge.rw_earliestlots_k32_steps_judged).prog 39) (kwd := []) K32.ob_eq
    (by kernel_rfl) (fun s => by kernel_rfl) K32.run (by kernel_rfl) (by kernel_rfl) (by kernel_rfl) (by rfl) (by first | assumption | decide +kernel) (by decide +kernel) ⟨rfl, rfl, rfl, rfl, rfl, by decide +kernel⟩ ?hw ?hc
  case hw => w_witness2
  case hc =>
    refine Dl.walk_at (l := PySem.Challenge.rw_earliestlots_k32_steps_judged) (n := 63) (x := "_law_script") rfl (by decide) (by kernel_rfl) ?F
    intro w mg fa h Y G hmg0
    obtain ⟨K, KX, c, x, ty⟩ := Y
    have hmg : mg ("law" : PySem.Str) = some (.ref fa) := by
      have e : (HandSHeadRun.topDef (OpenLaw.row PySem.Challenge.rw_earliestlots_k32_steps_judged).prog 39).name = ("law" : PySem.Str) := by kernel_rfl
      rw [← e]
      exact hmg0
    obtain ⟨fd, hb, hF⟩ := K32.facts (P := PySem.Challenge.rw_earliestlots_k32_steps_judged.prog) (w := w) KX G hmg c x ty
    exact ⟨K, fd, Dl.spLaw K, KX, hb, fun H a ns hl ho hS => ⟨a, ns, rfl, hl, ho, hS, fun _ => rfl⟩, fun base h1 h2 => K32.quiet (hF base h1 h2)⟩

