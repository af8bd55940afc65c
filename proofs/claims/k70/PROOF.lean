import PyProof.Rows.All
import Wide.All
import OpenK.AllK
import Wide.FinOn
import HandS.Base
import HandS.Call
import HandS.List
import HandS.Comp
import HandS.Iter
import HandS.Words
import HandS.WordsList
import HandS.Conv
import HandS.TupAny
import HandS.TupLe
import HandS.IsInst
import HandS.Flow
import HandS.Deep
import HandS.ExcInit
import KE.KeyNested
import HandS.Wide
import HandS.SortInts
import HandS.Exc
import HandS.ExcOwn
import HandS.WordsExc
import HandS.Strs
import HandS.Text
import HandS.Defaults
import HandS.More
import KE.GoesMore
import KE.GoesEnum
import HandS.Zip
import KE.KStateDown
import HandS.Head0
import HandS.Head1
import HandS.Head2
import HandS.HeadEnd
import HandS.HeadHook1
import HandS.HeadHook2
import HandS.ExcField
import HandS.SortOrd
import PyProof.TupleOfSeq
import HandS.ExcValue
import HandS.ExcIs
import KE.KExcIs
import HandS.Ends
import HandS.TupSets
import HandS.SetBool
import KE.SortData
import PyProof.ReprLen
import PyProof.StrLawsRepr
import PyProof.FitsInt
import PySem.Challenge.RW_earliestlots_k70_errors_stand_straight_u
set_option Elab.async false
set_option linter.all false
set_option maxRecDepth 100000
set_option maxHeartbeats 4000000
set_option autoImplicit false
namespace Dl
open PySem PySem.Spec PyProof.Rows L2

inductive OKd where
  | cau (a dd : Addr) | exv (C : Addr) | exn (C : Addr) | ins (C : Addr) | scr | dct (ks : List Key) | dcn (ks : List NestedKey)
inductive D where
  | obj (k : OKd) (ns : List Str) (ds : List D) | non | bl (b : Bool) | int (i : Int) | str (x : Str) | tup (xs : List D) | lst (xs : List D) | ref (a : Addr) | ty (n : String)

def NRaw (h : Heap) (a : Addr) (L : List (NestedKey × Addr × V)) : Prop :=
  (a == sysModules) = false ∧ L.length ≤ sizeLine ∧ (L.map (·.1)).Nodup ∧ ∃ o es ep, h.get? a = some o ∧ o.ExactDict ∧ o.data = .dict es ep ∧
    Paired (fun (p : NestedKey × Addr × V) (e : DictEntry) => (∀ w, e.hash = p.1.hash w) ∧ e.key = .ref p.2.1 ∧ RelV p.2.2 e.val) L es.toList
def NDO (a : Addr) (L : List (NestedKey × Addr × V)) : HO := .ext fun h => NRaw h a L
def KT (K : PySem.W.Frag) (a : Addr) (xs : List V) : Prop := ∃ (o : Obj) (its : Array Value) (n : Nat), K.lookup a = some o ∧ o.cls = .type "tuple" ∧ o.data = .seq its n ∧ its.size ≤ sizeLine ∧ Vals xs its.toList
def TupA (K : PySem.W.Frag) (Av : Addr → Prop) (H : Hp) (a : Addr) (xs : List V) : Prop := (¬ Av a ∧ H a = some (.tup xs)) ∨ KT K a xs
theorem TupA.sq {K : PySem.W.Frag} {Av : Addr → Prop} {H : Hp} {a : Addr} {xs : List V} (h : TupA K Av H a xs) : SqT K H a xs := h.imp (fun x => .inl x.2) id
def ObjA (K : PySem.W.Frag) (Av : Addr → Prop) (H : Hp) (k : OKd) (v : V) (ns : List Str) (ws : List V) : Prop := match k with
  | .cau a dd => v = .ref a ∧ ¬ Av dd ∧ H dd = some (.xd (ns.zip ws))
  | .exv C => ∃ a dd, v = .ref a ∧ (¬ Av a ∧ H a = some (exo a C (some dd))) ∧ ¬ Av dd ∧ H dd = some (exd dd (ns.zip ws))
  | .exn C => ∃ a, v = .ref a ∧ (¬ Av a ∧ H a = some (exo a C none))
  | .ins C => ∃ a dx, v = .ref a ∧ (¬ Av a ∧ H a = some (.ins C dx (ns.zip ws))) ∧ ¬ Av dx ∧ H dx = some (.own a)
  | .dct ks => ∃ a, v = .ref a ∧ ¬ Av a ∧ H a = some (.dK (ks.zip ws))
  | .dcn ks => ∃ (a : Addr) (T : List (Addr × V)), v = .ref a ∧ ws = T.map (fun t => V.ref t.1) ++ T.map (fun t => t.2) ∧ T.length = ks.length ∧ ¬ Av a ∧ H a = some (NDO a (ks.zip T))
  | .scr => ∃ a, v = .ref a ∧ ((¬ Av a ∧ ∃ o, H a = some (.frz o (.lst ws))) ∨ ∀ G, SqL K G a ws)
mutual
def Den (K : PySem.W.Frag) (Av : Addr → Prop) (H : Hp) : V → D → Prop
  | v, .obj k ns ds => ∃ ws, ws.length = ns.length ∧ ObjA K Av H k v ns ws ∧ DenA K Av H ws ds
  | v, .non => v = .non
  | v, .bl b => v = .bl b
  | v, .int i => v = .int i
  | v, .str x => v = .str x
  | v, .ref a => v = .ref a
  | v, .ty n => v = .ty n
  | v, .tup ds => ∃ a vs, v = .ref a ∧ SqT K H a vs ∧ TupA K Av H a vs ∧ DenA K Av H vs ds
  | v, .lst ds => ∃ a vs, v = .ref a ∧ H a = some (.lst vs) ∧ ¬ Av a ∧ DenA K Av H vs ds
def DenA (K : PySem.W.Frag) (Av : Addr → Prop) (H : Hp) : List V → List D → Prop
  | vs, [] => vs = []
  | vs, d :: ds => ∃ v r, vs = v :: r ∧ Den K Av H v d ∧ DenA K Av H r ds
end

def Kp (Av : Addr → Prop) (H H' : Hp) : Prop := ∀ a o, ¬ Av a → H a = some o → H' a = some o
theorem Kp.refl {Av : Addr → Prop} {H : Hp} : Kp Av H H := fun _ _ _ h => h
theorem Kp.trans {Av : Addr → Prop} {H H1 H2 : Hp} (a : Kp Av H H1) (b : Kp Av H1 H2) : Kp Av H H2 := fun x o n h => b x o n (a x o n h)
theorem Kp.weak {Av Bv : Addr → Prop} {H H1 : Hp} (a : Kp Av H H1) (s : ∀ x, Av x → Bv x) : Kp Bv H H1 := fun x o n h => a x o (fun z => n (s x z)) h
theorem Kp.new {Av : Addr → Prop} {H : Hp} {p : Addr} {o : HO} (h : H p = none) : Kp Av H (upd H p o) := fun a u _ e => by
  rw [upd_ne (ne_of_none e h)]; exact e
theorem Kp.mut {Av : Addr → Prop} {H : Hp} {p : Addr} {o : HO} (h : Av p) : Kp Av H (upd H p o) := fun a u n e => by
  rw [upd_ne (fun z => n (by rw [z]; exact h))]; exact e

section
variable {K : PySem.W.Frag} {Av Bv : Addr → Prop} {H H' : Hp}
theorem TupA.keep {a : Addr} {xs : List V} (k : Kp Av H H') (h : TupA K Av H a xs) : TupA K Av H' a xs := h.imp (fun x => ⟨x.1, k _ _ x.1 x.2⟩) id
theorem TupA.weak {a : Addr} {xs : List V} (s : ∀ a, Bv a → Av a) (h : TupA K Av H a xs) : TupA K Bv H a xs := h.imp (fun x => ⟨fun z => x.1 (s _ z), x.2⟩) id
theorem ObjA.keep {q : OKd} {v : V} {ns : List Str} {ws : List V} (k : Kp Av H H') (h : ObjA K Av H q v ns ws) : ObjA K Av H' q v ns ws := by
  cases q with
  | cau a dd => exact ⟨h.1, h.2.1, k _ _ h.2.1 h.2.2⟩
  | exv C => obtain ⟨a, dd, e, h1, h2, h3⟩ := h; exact ⟨a, dd, e, ⟨h1.1, k _ _ h1.1 h1.2⟩, h2, k _ _ h2 h3⟩
  | exn C => obtain ⟨a, e, h1⟩ := h; exact ⟨a, e, ⟨h1.1, k _ _ h1.1 h1.2⟩⟩
  | ins C => obtain ⟨a, dd, e, h1, h2, h3⟩ := h; exact ⟨a, dd, e, ⟨h1.1, k _ _ h1.1 h1.2⟩, h2, k _ _ h2 h3⟩
  | scr => obtain ⟨a, e, h⟩ := h; exact ⟨a, e, h.imp (fun ⟨n, o, h⟩ => ⟨n, o, k _ _ n h⟩) id⟩
  | dct ks => obtain ⟨a, e, n, h⟩ := h; exact ⟨a, e, n, k _ _ n h⟩
  | dcn ks => obtain ⟨a, T, e, e2, l, n, h⟩ := h; exact ⟨a, T, e, e2, l, n, k _ _ n h⟩
theorem ObjA.weak {q : OKd} {v : V} {ns : List Str} {ws : List V} (s : ∀ a, Bv a → Av a) (h : ObjA K Av H q v ns ws) : ObjA K Bv H q v ns ws := by
  cases q with
  | cau a dd => exact ⟨h.1, fun z => h.2.1 (s _ z), h.2.2⟩
  | exv C => obtain ⟨a, dd, e, h1, h2, h3⟩ := h; exact ⟨a, dd, e, ⟨fun z => h1.1 (s _ z), h1.2⟩, fun z => h2 (s _ z), h3⟩
  | exn C => obtain ⟨a, e, h1⟩ := h; exact ⟨a, e, ⟨fun z => h1.1 (s _ z), h1.2⟩⟩
  | ins C => obtain ⟨a, dd, e, h1, h2, h3⟩ := h; exact ⟨a, dd, e, ⟨fun z => h1.1 (s _ z), h1.2⟩, fun z => h2 (s _ z), h3⟩
  | scr => obtain ⟨a, e, h⟩ := h; exact ⟨a, e, h.imp (fun ⟨n, o, h⟩ => ⟨fun z => n (s _ z), o, h⟩) id⟩
  | dct ks => obtain ⟨a, e, n, h⟩ := h; exact ⟨a, e, fun z => n (s _ z), h⟩
  | dcn ks => obtain ⟨a, T, e, e2, l, n, h⟩ := h; exact ⟨a, T, e, e2, l, fun z => n (s _ z), h⟩
theorem ObjA.more {q : OKd} {v : V} {ns : List Str} {ws : List V} (s : ∀ a, Bv a → Av a ∨ H a = none ∨ ∃ xs, H a = some (.lst xs)) (h : ObjA K Av H q v ns ws) : ObjA K Bv H q v ns ws := by
  have n1 : ∀ {a : Addr} {o : HO}, ¬ Av a → H a = some o → (∀ xs, o ≠ .lst xs) → ¬ Bv a := fun {a o} n e d z => by
    rcases s _ z with z | z | ⟨xs, z⟩
    · exact n z
    · rw [e] at z; cases z
    · rw [e] at z; exact d xs (Option.some.inj z)
  cases q with
  | cau a dd => exact ⟨h.1, n1 h.2.1 h.2.2 (fun _ z => by cases z), h.2.2⟩
  | exv C => obtain ⟨a, dd, e, h1, h2, h3⟩ := h; exact ⟨a, dd, e, ⟨n1 h1.1 h1.2 (fun _ z => by unfold exo at z; cases z), h1.2⟩, n1 h2 h3 (fun _ z => by unfold exd at z; cases z), h3⟩
  | exn C => obtain ⟨a, e, h1⟩ := h; exact ⟨a, e, ⟨n1 h1.1 h1.2 (fun _ z => by unfold exo at z; cases z), h1.2⟩⟩
  | ins C => obtain ⟨a, dd, e, h1, h2, h3⟩ := h; exact ⟨a, dd, e, ⟨n1 h1.1 h1.2 (fun _ z => by cases z), h1.2⟩, n1 h2 h3 (fun _ z => by cases z), h3⟩
  | scr => obtain ⟨a, e, h⟩ := h; exact ⟨a, e, h.imp (fun ⟨n, o, h⟩ => ⟨n1 n h (fun _ z => by cases z), o, h⟩) id⟩
  | dct ks => obtain ⟨a, e, n, h⟩ := h; exact ⟨a, e, n1 n h (fun _ z => by cases z), h⟩
  | dcn ks => obtain ⟨a, T, e, e2, l, n, h⟩ := h; exact ⟨a, T, e, e2, l, n1 n h (fun _ z => by unfold NDO at z; cases z), h⟩
mutual
theorem Den.keep (k : Kp Av H H') : ∀ (d : D) (v : V), Den K Av H v d → Den K Av H' v d
  | .obj q ns ds, v, h => by
    simp only [Den] at h ⊢
    obtain ⟨ws, l, o, r⟩ := h
    exact ⟨ws, l, ObjA.keep k o, DenA.keep k ds ws r⟩
  | .non, _, h => by simpa only [Den] using h
  | .bl _, _, h => by simpa only [Den] using h
  | .int _, _, h => by simpa only [Den] using h
  | .str _, _, h => by simpa only [Den] using h
  | .ref _, _, h => by simpa only [Den] using h
  | .ty _, _, h => by simpa only [Den] using h
  | .tup ds, v, h => by
    simp only [Den] at h ⊢
    obtain ⟨a, vs, e, s, n, r⟩ := h
    exact ⟨a, vs, e, (TupA.keep k n).sq, TupA.keep k n, DenA.keep k ds vs r⟩
  | .lst ds, v, h => by
    simp only [Den] at h ⊢
    obtain ⟨a, vs, e, s, n, r⟩ := h
    exact ⟨a, vs, e, k _ _ n s, n, DenA.keep k ds vs r⟩
theorem DenA.keep (k : Kp Av H H') : ∀ (ds : List D) (vs : List V), DenA K Av H vs ds → DenA K Av H' vs ds
  | [], _, h => by simpa only [DenA] using h
  | d :: ds, vs, h => by
    simp only [DenA] at h ⊢
    obtain ⟨v, r, e, h1, h2⟩ := h
    exact ⟨v, r, e, Den.keep k d v h1, DenA.keep k ds r h2⟩
end
mutual
theorem Den.weak (s : ∀ a, Bv a → Av a) : ∀ (d : D) (v : V), Den K Av H v d → Den K Bv H v d
  | .obj q ns ds, v, h => by
    simp only [Den] at h ⊢
    obtain ⟨ws, l, o, r⟩ := h
    exact ⟨ws, l, ObjA.weak s o, DenA.weak s ds ws r⟩
  | .non, _, h => by simpa only [Den] using h
  | .bl _, _, h => by simpa only [Den] using h
  | .int _, _, h => by simpa only [Den] using h
  | .str _, _, h => by simpa only [Den] using h
  | .ref _, _, h => by simpa only [Den] using h
  | .ty _, _, h => by simpa only [Den] using h
  | .tup ds, v, h => by
    simp only [Den] at h ⊢
    obtain ⟨a, vs, e, q, n, r⟩ := h
    exact ⟨a, vs, e, q, TupA.weak s n, DenA.weak s ds vs r⟩
  | .lst ds, v, h => by
    simp only [Den] at h ⊢
    obtain ⟨a, vs, e, q, n, r⟩ := h
    exact ⟨a, vs, e, q, fun z => n (s a z), DenA.weak s ds vs r⟩
theorem DenA.weak (s : ∀ a, Bv a → Av a) : ∀ (ds : List D) (vs : List V), DenA K Av H vs ds → DenA K Bv H vs ds
  | [], _, h => by simpa only [DenA] using h
  | d :: ds, vs, h => by
    simp only [DenA] at h ⊢
    obtain ⟨v, r, e, h1, h2⟩ := h
    exact ⟨v, r, e, Den.weak s d v h1, DenA.weak s ds r h2⟩
end
mutual
/-- what is new is not in it -/
theorem Den.fresh {p : Addr} (hp : H p = none) : ∀ (d : D) (v : V), Den K Av H v d → Den K (fun a => Av a ∨ a = p) H v d
  | .obj q ns ds, v, h => by
    simp only [Den] at h ⊢
    obtain ⟨ws, l, o, r⟩ := h
    exact ⟨ws, l, ObjA.more (fun a z => z.imp id fun e => .inl (by rw [e]; exact hp)) o, DenA.fresh hp ds ws r⟩
  | .non, _, h => by simpa only [Den] using h
  | .bl _, _, h => by simpa only [Den] using h
  | .int _, _, h => by simpa only [Den] using h
  | .str _, _, h => by simpa only [Den] using h
  | .ref _, _, h => by simpa only [Den] using h
  | .ty _, _, h => by simpa only [Den] using h
  | .tup ds, v, h => by
    simp only [Den] at h ⊢
    obtain ⟨a, vs, e, q, n, r⟩ := h
    refine ⟨a, vs, e, q, n.imp (fun x => ⟨fun z => z.elim x.1 fun e => ?_, x.2⟩) id, DenA.fresh hp ds vs r⟩
    subst e
    have x := x.2
    rw [hp] at x; cases x
  | .lst ds, v, h => by
    simp only [Den] at h ⊢
    obtain ⟨a, vs, e, q, n, r⟩ := h
    refine ⟨a, vs, e, q, fun z => z.elim n fun e => ?_, DenA.fresh hp ds vs r⟩
    subst e
    rw [hp] at q; cases q
theorem DenA.fresh {p : Addr} (hp : H p = none) : ∀ (ds : List D) (vs : List V), DenA K Av H vs ds → DenA K (fun a => Av a ∨ a = p) H vs ds
  | [], _, h => by simpa only [DenA] using h
  | d :: ds, vs, h => by
    simp only [DenA] at h ⊢
    obtain ⟨v, r, e, h1, h2⟩ := h
    exact ⟨v, r, e, Den.fresh hp d v h1, DenA.fresh hp ds r h2⟩
end
mutual
def D.noLst : D → Bool
  | .obj _ _ xs => noLstA xs | .lst _ => false | .tup xs => noLstA xs | .non => true | .bl _ => true | .int _ => true | .str _ => true | .ref _ => true | .ty _ => true
def noLstA : List D → Bool
  | [] => true
  | x :: xs => D.noLst x && noLstA xs
end
mutual
/-- data without lists stands apart from every list -/
theorem Den.apart {P : Addr → Prop} (hp : ∀ a, P a → ∃ xs, H a = some (.lst xs)) : ∀ (d : D) (v : V), d.noLst = true → Den K Av H v d → Den K (fun a => Av a ∨ P a) H v d
  | .obj q ns ds, v, g, h => by
    simp only [Den] at h ⊢
    obtain ⟨ws, l, o, r⟩ := h
    exact ⟨ws, l, ObjA.more (fun a z => z.imp id fun e => .inr (hp a e)) o, DenA.apart hp ds ws (by simpa only [D.noLst] using g) r⟩
  | .non, _, _, h => by simpa only [Den] using h
  | .bl _, _, _, h => by simpa only [Den] using h
  | .int _, _, _, h => by simpa only [Den] using h
  | .str _, _, _, h => by simpa only [Den] using h
  | .ref _, _, _, h => by simpa only [Den] using h
  | .ty _, _, _, h => by simpa only [Den] using h
  | .tup ds, v, g, h => by
    simp only [Den] at h ⊢
    obtain ⟨a, vs, e, q, n, r⟩ := h
    refine ⟨a, vs, e, q, n.imp (fun x => ⟨fun z => z.elim x.1 fun e => ?_, x.2⟩) id, DenA.apart hp ds vs (by simpa only [D.noLst] using g) r⟩
    obtain ⟨xs, e⟩ := hp a e
    have x := x.2
    rw [e] at x; cases x
  | .lst ds, v, g, h => by simp [D.noLst] at g
theorem DenA.apart {P : Addr → Prop} (hp : ∀ a, P a → ∃ xs, H a = some (.lst xs)) : ∀ (ds : List D) (vs : List V), noLstA ds = true → DenA K Av H vs ds → DenA K (fun a => Av a ∨ P a) H vs ds
  | [], _, _, h => by simpa only [DenA] using h
  | d :: ds, vs, g, h => by
    simp only [noLstA, Bool.and_eq_true] at g
    simp only [DenA] at h ⊢
    obtain ⟨v, r, e, h1, h2⟩ := h
    exact ⟨v, r, e, Den.apart hp d v g.1 h1, DenA.apart hp ds r g.2 h2⟩
end
theorem DenA.len : ∀ {ds : List D} {vs : List V}, DenA K Av H vs ds → vs.length = ds.length
  | [], _, h => by simp only [DenA] at h; rw [h]; rfl
  | d :: ds, vs, h => by
    simp only [DenA] at h
    obtain ⟨v, r, e, h1, h2⟩ := h
    rw [e]; exact congrArg Nat.succ (DenA.len h2)
theorem DenA.get : ∀ {ds : List D} {vs : List V} {i : Nat} {d : D}, DenA K Av H vs ds → ds[i]? = some d → ∃ v, vs[i]? = some v ∧ Den K Av H v d
  | [], _, _, _, h, e => by simp at e
  | d :: ds, vs, 0, d', h, e => by
    simp only [DenA] at h
    obtain ⟨v, r, rfl, h1, h2⟩ := h
    simp at e; subst e
    exact ⟨v, rfl, h1⟩
  | d :: ds, vs, i + 1, d', h, e => by
    simp only [DenA] at h
    obtain ⟨v, r, rfl, h1, h2⟩ := h
    simpa using DenA.get (i := i) h2 (by simpa using e)
theorem DenA.app : ∀ {ds es : List D} {vs ws : List V}, DenA K Av H vs ds → DenA K Av H ws es → DenA K Av H (vs ++ ws) (ds ++ es)
  | [], _, _, _, h, g => by simp only [DenA] at h; rw [h]; exact g
  | d :: ds, es, vs, ws, h, g => by
    simp only [DenA] at h
    obtain ⟨v, r, rfl, h1, h2⟩ := h
    show DenA K Av H (v :: (r ++ ws)) (d :: (ds ++ es))
    simp only [DenA]
    exact ⟨v, _, rfl, h1, DenA.app h2 g⟩
theorem DenA.one {v : V} {d : D} (h : Den K Av H v d) : DenA K Av H [v] [d] := by
  simp only [DenA]; exact ⟨v, [], rfl, h, rfl⟩
theorem DenA.drop : ∀ {ds : List D} {vs : List V} (n : Nat), DenA K Av H vs ds → DenA K Av H (vs.drop n) (ds.drop n)
  | _, _, 0, h => h
  | [], _, n + 1, h => by simp only [DenA] at h; rw [h]; simp [DenA]
  | d :: ds, vs, n + 1, h => by
    simp only [DenA] at h
    obtain ⟨v, r, rfl, h1, h2⟩ := h
    exact DenA.drop n h2
theorem DenA.take : ∀ {ds : List D} {vs : List V} (n : Nat), DenA K Av H vs ds → DenA K Av H (vs.take n) (ds.take n)
  | ds, vs, 0, h => by simp [DenA]
  | [], _, n + 1, h => by simp only [DenA] at h; rw [h]; simp [DenA]
  | d :: ds, vs, n + 1, h => by
    simp only [DenA] at h
    obtain ⟨v, r, rfl, h1, h2⟩ := h
    show DenA K Av H (v :: r.take n) (d :: ds.take n)
    simp only [DenA]
    exact ⟨v, _, rfl, h1, DenA.take n h2⟩
theorem DenA.ints : ∀ {ns : List Int}, DenA K Av H (ns.map V.int) (ns.map D.int)
  | [] => by simp [DenA]
  | n :: ns => by
    show DenA K Av H (V.int n :: ns.map V.int) (D.int n :: ns.map D.int)
    simp only [DenA]
    exact ⟨_, _, rfl, by simp only [Den], DenA.ints⟩
theorem DenA.ofInts : ∀ {ns : List Int} {vs : List V}, DenA K Av H vs (ns.map D.int) → vs = ns.map V.int
  | [], _, h => by simpa [DenA] using h
  | n :: ns, vs, h => by
    have h' : DenA K Av H vs (D.int n :: ns.map D.int) := h
    simp only [DenA, Den] at h'
    obtain ⟨v, r, rfl, rfl, h2⟩ := h'
    rw [DenA.ofInts h2]; rfl
end

structure HI where
  own : Addr → Prop
  foot : Addr → Prop
  ok : Hp → Prop
  sub : ∀ a, own a → foot a
  dom : ∀ H a, ok H → foot a → H a ≠ none
  loc : ∀ H H', (∀ a, foot a → H' a = H a) → ok H → ok H'
def HI.plain : HI := ⟨fun _ => False, fun _ => False, fun _ => True, fun _ h => h, fun _ _ _ h => h.elim, fun _ _ _ _ => trivial⟩

def Ext (I : HI) (H H' : Hp) : Prop := Kp I.own H H' ∧ I.ok H'
section
variable {I : HI} {H H1 H2 : Hp}
theorem Ext.refl (h : I.ok H) : Ext I H H := ⟨Kp.refl, h⟩
theorem Ext.trans (a : Ext I H H1) (b : Ext I H1 H2) : Ext I H H2 := ⟨a.1.trans b.1, b.2⟩
theorem Ext.new {p : Addr} {o : HO} (h : I.ok H) (n : H p = none) : Ext I H (upd H p o) :=
  ⟨Kp.new n, I.loc H _ (fun a f => upd_ne (fun z => I.dom H a h f (by rw [z]; exact n))) h⟩
theorem HI.nown {p : Addr} (h : I.ok H) (n : H p = none) : ¬ I.own p := fun z => I.dom H p h (I.sub p z) n
end

inductive Slot where
  | no | val (d : D) | own (xs : List D)
abbrev DEnv := List Slot
def AvOf (I : HI) (env : DEnv) (oa : Nat → Addr) : Addr → Prop := fun a => I.own a ∨ ∃ (i : Nat) (xs : List D), env[i]? = some (Slot.own xs) ∧ a = oa i
structure B0 where
  H0 : Hp
  hs : List (V × D)
structure DenE (K : PySem.W.Frag) (I : HI) (b : B0) (σ : L2.St) (H : Hp) (env : DEnv) : Prop where
  len : σ.length = env.length
  ext : Ext I b.H0 H
  slots : ∃ oa : Nat → Addr,
    (∀ (i : Nat) (xs : List D), env[i]? = some (Slot.own xs) → (∃ vs, σ[i]? = some (some (.ref (oa i))) ∧ H (oa i) = some (.lst vs) ∧ DenA K (AvOf I env oa) H vs xs) ∧ b.H0 (oa i) = none ∧ ¬ I.foot (oa i)) ∧
    (∀ (i j : Nat) (xs ys : List D), env[i]? = some (Slot.own xs) → env[j]? = some (Slot.own ys) → oa i = oa j → i = j) ∧
    (∀ (i : Nat) (d : D), env[i]? = some (Slot.val d) → ∃ v : V, σ[i]? = some (some v) ∧ Den K (AvOf I env oa) H v d) ∧
    ∀ p ∈ b.hs, Den K (AvOf I env oa) H p.1 p.2
section
variable {K : PySem.W.Frag} {I : HI} {b : B0} {H H' : Hp} {σ : L2.St} {env : DEnv}
theorem DenE.ok (h : DenE K I b σ H env) : I.ok H := h.ext.2
theorem DenE.mono (h : DenE K I b σ H env) (e : Ext I H H') : DenE K I b σ H' env := by
  obtain ⟨oa, h1, h2, h3, h4⟩ := h.slots
  refine ⟨h.len, h.ext.trans e, oa, fun i xs q => ?_, h2, fun i d q => ?_, fun p hp => Den.keep (e.1.weak (fun x z => .inl z)) _ _ (h4 p hp)⟩
  · obtain ⟨⟨vs, e1, e2, e3⟩, e4, e5⟩ := h1 i xs q
    refine ⟨⟨vs, e1, e.1 _ _ (fun z => e5 (I.sub _ z)) e2, DenA.keep (e.1.weak (fun x z => .inl z)) xs vs e3⟩, e4, e5⟩
  · obtain ⟨v, e1, e2⟩ := h3 i d q
    exact ⟨v, e1, Den.keep (e.1.weak (fun x z => .inl z)) d v e2⟩
def rdSlot : Slot → Option D
  | .no => none
  | .val d => some d
  | .own xs => some (.lst xs)
theorem DenE.read (h : DenE K I b σ H env) {i : Nat} {s : Slot} {d : D} (hs : env[i]? = some s) (hd : rdSlot s = some d) : ∃ v, σ[i]? = some (some v) ∧ Den K I.own H v d := by
  obtain ⟨oa, h1, h2, h3, _⟩ := h.slots
  cases s with
  | no => cases hd
  | val d' =>
    have e : d' = d := Option.some.inj hd
    subst e
    obtain ⟨v, e1, e2⟩ := h3 i d' hs
    exact ⟨v, e1, Den.weak (fun a z => .inl z) _ _ e2⟩
  | own xs =>
    have e : D.lst xs = d := Option.some.inj hd
    subst e
    obtain ⟨⟨vs, e1, e2, e3⟩, e4, e5⟩ := h1 i xs hs
    refine ⟨_, e1, ?_⟩
    simp only [Den]
    exact ⟨_, vs, rfl, e2, fun z => e5 (I.sub _ z), DenA.weak (fun a z => .inl z) _ _ e3⟩
end
end Dl

namespace Dl
open PySem PySem.Spec PyProof.Rows L2

abbrev TED := DEnv → (D → Prop) → Prop
abbrev TTD := DEnv → (Bool → Prop) → Prop
abbrev TAD := DEnv → (List D → Prop) → Prop

def wE (X : Cx) (e : Expr) : TE := fun σ H Q => ∀ pins s, Inv X pins σ H s → wpAny (model X.prog X.w) X.A (eval e X.env) (EP X pins σ Q) X.xe s
def wT (X : Cx) (e : Expr) : TT := fun σ H Q => ∀ pins s, Inv X pins σ H s → wpAny (model X.prog X.w) X.A (isTrue e X.env (eval e X.env)) (TP X pins σ Q) X.xe s
def wW (X : Cx) (e : Expr) : TT := fun σ H Q => ∀ whole pins s, Inv X pins σ H s → wpAny (model X.prog X.w) X.A (isTrue e X.env whole) (TP X pins σ Q) X.xe s
def wA (X : Cx) (es : List Expr) : TA := fun σ H Q => ∀ pos pins s, Inv X pins σ H s → wpAny (model X.prog X.w) X.A (spliced (backTo pos (starEach es X.env))) (AP X pins σ Q) X.xe s
def rw2 (X : Cx) (f : Value → Value → Sem Value) : R2 := fun x y H Q => ∀ pins s σ v u, Inv X pins σ H s → RelV x v → RelV y u → wpAny (model X.prog X.w) X.A (f v u) (EP X pins σ Q) X.xe s
section
variable {X : Cx} {e : Expr} {es : List Expr} {f : Value → Value → Sem Value}
theorem pe_w : PE X e (wE X e) := ⟨fun pins s σ H Q I h => h pins s I⟩
theorem pt_w : PT X e (wT X e) := ⟨fun pins s σ H Q I h => h pins s I⟩
theorem pw_w : PW X e (wW X e) := ⟨fun whole pins s σ H Q I h => h whole pins s I⟩
theorem pa_w : PA X es (wA X es) := ⟨fun pos pins s σ H Q I h => h pos pins s I⟩
theorem or_w : OpR X f (rw2 X f) := fun pins s σ H x y v u Q I rx ry h => h pins s σ v u I rx ry
theorem rw2_of {r : R2} (h : OpR X f r) {x y : V} {H : Hp} {Q : VK} (q : r x y H Q) : rw2 X f x y H Q := fun pins s σ v u I rx ry => h pins s σ H x y v u Q I rx ry q
end

structure Exc where
  cls : Addr
  fs : Option (List (Str × D))
def ExD (K : PySem.W.Frag) (I : HI) (H : Hp) (x : Exc) (d : Option Addr) : Prop := match x.fs with
  | none => d = none
  | some fs => ∃ dd ws, d = some dd ∧ H dd = some (.xd ((fs.map (·.1)).zip ws)) ∧ DenA K I.own H ws (fs.map (·.2))
structure Gx where
  I : HI
  Ed : DEnv → Exc → Prop
  W : WX
abbrev Gx.nox (g : Gx) : Gx := ⟨g.I, fun _ _ => False, fun _ _ _ _ => False⟩
def XL (K : PySem.W.Frag) (g : Gx) (b : B0) : Prop := ∀ (σ : L2.St) (H : Hp) (env : DEnv) (x : Exc) (d : Option Addr) (H' : Hp), DenE K g.I b σ H env → Ext g.I H H' → ExD K g.I H' x d → g.Ed env x → g.W (.ref x.cls) d σ H'
theorem XL.nox {K : PySem.W.Frag} {g : Gx} {b : B0} : XL K g.nox b := fun _ _ _ _ _ _ _ _ _ h => h.elim

def SE (K : PySem.W.Frag) (g : Gx) (te : TE) (td : TED) : Prop :=
  ∀ (b : B0) (σ : L2.St) (H : Hp) (env : DEnv) (Qd : D → Prop) (Q : VK), DenE K g.I b σ H env → XL K g b → td env Qd → (∀ v d H', Ext g.I H H' → Den K g.I.own H' v d → Qd d → Q v H') → te σ H Q
def ST (K : PySem.W.Frag) (g : Gx) (tt : TT) (td : TTD) : Prop :=
  ∀ (b : B0) (σ : L2.St) (H : Hp) (env : DEnv) (Qd : Bool → Prop) (Q : Bool → Hp → Prop), DenE K g.I b σ H env → XL K g b → td env Qd → (∀ b H', Ext g.I H H' → Qd b → Q b H') → tt σ H Q
def SA (K : PySem.W.Frag) (g : Gx) (ta : TA) (td : TAD) : Prop :=
  ∀ (b : B0) (σ : L2.St) (H : Hp) (env : DEnv) (Qd : List D → Prop) (Q : List V → Hp → Prop), DenE K g.I b σ H env → XL K g b → td env Qd → (∀ vs ds H', Ext g.I H H' → DenA K g.I.own H' vs ds → Qd ds → Q vs H') → ta σ H Q

def PED (X : Cx) (g : Gx) (e : Expr) (td : TED) : Prop := SE X.K g (wE X e) td
def PTD (X : Cx) (g : Gx) (e : Expr) (td : TTD) : Prop := ST X.K g (wT X e) td
def PWD (X : Cx) (g : Gx) (e : Expr) (td : TTD) : Prop := ST X.K g (wW X e) td
def PAD (X : Cx) (g : Gx) (es : List Expr) (td : TAD) : Prop := SA X.K g (wA X es) td
abbrev F2 := D → D → (D → Prop) → Prop
def RD (X : Cx) (I : HI) (f : Value → Value → Sem Value) (h : F2) : Prop :=
  ∀ (H : Hp) (x y : V) (dx dy : D) (Qd : D → Prop) (Q : VK), I.ok H → Den X.K I.own H x dx → Den X.K I.own H y dy → h dx dy Qd → (∀ v d H', Ext I H H' → Den X.K I.own H' v d → Qd d → Q v H') → rw2 X f x y H Q

section
variable {X : Cx} {I : HI} {g : Gx} {e a b c : Expr} {es : List Expr} {te : TE} {tt : TT} {td ta tb tc : TED} {t u : TTD} {pos : Pos} {f : Value → Value → Sem Value} {o : F2}
theorem ped_of (p : PE X e te) (h : SE X.K g te td) : PED X g e td := fun b0 σ H env Qd Q hd xl ht k pins s J => p.run pins s σ H Q J (h b0 σ H env Qd Q hd xl ht k)
theorem ptd_of {td : TTD} (p : PT X e tt) (h : ST X.K g tt td) : PTD X g e td := fun b0 σ H env Qd Q hd xl ht k pins s J => p.run pins s σ H Q J (h b0 σ H env Qd Q hd xl ht k)
theorem pwd_of {td : TTD} (p : PW X e tt) (h : ST X.K g tt td) : PWD X g e td := fun b0 σ H env Qd Q hd xl ht k whole pins s J => p.run whole pins s σ H Q J (h b0 σ H env Qd Q hd xl ht k)
theorem pad_of {ta : TA} {td : TAD} (p : PA X es ta) (h : SA X.K g ta td) : PAD X g es td := fun b0 σ H env Qd Q hd xl ht k pos pins s J => p.run pos pins s σ H Q J (h b0 σ H env Qd Q hd xl ht k)
theorem PWD.pt {td : TTD} (h : PWD X g e td) : PTD X g e td := fun b0 σ H env Qd Q hd xl ht k pins s J => h b0 σ H env Qd Q hd xl ht k _ pins s J

def dVar (i : Nat) : TED := fun env Q => ∃ s d, env[i]? = some s ∧ rdSlot s = some d ∧ Q d
def dC (d : D) : TED := fun _ Q => Q d
theorem sd_var {K : PySem.W.Frag} {i : Nat} : SE K g (tVar i) (dVar i) := fun b0 σ H env Qd Q hd xl ⟨s, d, h1, h2, q⟩ k => by
  obtain ⟨v, e1, e2⟩ := hd.read h1 h2
  exact ⟨v, e1, k v d H (.refl hd.ok) e2 q⟩
theorem dv (i : Nat) {x : Str} {pos : Pos} (hN : X.N[i]? = some x := by rfl) (hv : Vis X.env.scope x := by first | exact Or.inl rfl | exact Or.inr (Or.inl rfl) | exact Or.inr (Or.inr rfl)) (hd : (x == ("__debug__" : Str)) = false := by decide)
    (hcd : (x == ("__classdict__" : Str)) = false := by decide) : PED X g (.Name x pos) (dVar i) := ped_of (pe_var hN hv hd hcd) sd_var
theorem sd_c {K : PySem.W.Frag} {v : V} {d : D} (h : ∀ H, Den K g.I.own H v d) : SE K g (tC v) (dC d) := fun b0 σ H env Qd Q hd xl q k => k v d H (.refl hd.ok) (h H) q
theorem d_int {i j pos} : PED X g (.Constant (.int i) j pos) (dC (.int i)) := ped_of pe_int (sd_c fun _ => by simp only [Den])
theorem d_bl {b j pos} : PED X g (.Constant (.bool b) j pos) (dC (.bl b)) := ped_of pe_bl (sd_c fun _ => by simp only [Den])
theorem d_non {j pos} : PED X g (.Constant .none j pos) (dC .non) := ped_of pe_non (sd_c fun _ => by simp only [Den])
theorem d_str {x j pos} : PED X g (.Constant (.str x) j pos) (dC (.str x)) := ped_of pe_str (sd_c fun _ => by simp only [Den])

def dOp (o : F2) (ta tb : TED) : TED := fun env Q => ta env fun x => tb env fun y => o x y Q
theorem sd_op {K : PySem.W.Frag} {ra rb : TE} {r : R2} (ha : SE K g ra ta) (hb : SE K g rb tb)
    (hr : ∀ (H : Hp) (x y : V) (dx dy : D) (Qd : D → Prop) (Q : VK), g.I.ok H → Den K g.I.own H x dx → Den K g.I.own H y dy → o dx dy Qd → (∀ v d H', Ext g.I H H' → Den K g.I.own H' v d → Qd d → Q v H') → r x y H Q) :
    SE K g (tOp r ra rb) (dOp o ta tb) := fun b0 σ H env Qd Q hd xl h k =>
  ha b0 σ H env _ _ hd xl h fun x dx H1 e1 dnx h1 => hb b0 σ H1 env _ _ (hd.mono e1) xl h1 fun y dy H2 e2 dny h2 =>
    hr H2 x y dx dy Qd Q e2.2 (Den.keep e2.1 _ _ dnx) dny h2 fun v d H' e3 dn q => k v d H' (e1.trans (e2.trans e3)) dn q
theorem d_op {op : Operator} (hr : RD X g.I (binaryOp op) o) (ha : PED X g a ta) (hb : PED X g b tb) : PED X g (.BinOp a op b pos) (dOp o ta tb) :=
  ped_of (pe_op or_w pe_w pe_w) (sd_op ha hb hr)
theorem d_cmp {op : CmpOp} (hr : RD X g.I (compareOp op) o) (ha : PED X g a ta) (hb : PED X g b tb) (hm : behindInMarks op b = false) : PED X g (.Compare a [op] [b] pos) (dOp o ta tb) :=
  ped_of (pe_cmpR or_w pe_w pe_w hm) (sd_op ha hb hr)
def dTest (td : TED) : TTD := fun env Q => td env fun d => ∃ c, d = .bl c ∧ Q c
theorem st_test {K : PySem.W.Frag} {te : TE} (h : SE K g te td) : ST K g (tTest te) (dTest td) := fun b0 σ H env Qd Q hd xl ht k =>
  h b0 σ H env _ _ hd xl ht fun v d H' e dn ⟨c, ed, q⟩ => by
    subst ed
    simp only [Den] at dn
    exact ⟨c, dn, k c H' e q⟩
theorem dt_cmp {op : CmpOp} (hr : RD X g.I (compareOp op) o) (ha : PED X g a ta) (hb : PED X g b tb) (hm : behindInMarks op b = false) : PTD X g (.Compare a [op] [b] pos) (dTest (dOp o ta tb)) :=
  ptd_of (pt_cmpR or_w pe_w pe_w hm) (st_test (sd_op ha hb hr))
theorem rd_of {r : R2} (ho : OpR X f r) (h : ∀ (H : Hp) (x y : V) (dx dy : D) (Qd : D → Prop) (Q : VK), I.ok H → Den X.K I.own H x dx → Den X.K I.own H y dy → o dx dy Qd → (∀ v d H', Ext I H H' → Den X.K I.own H' v d → Qd d → Q v H') → r x y H Q) : RD X I f o :=
  fun H x y dx dy Qd Q ok hx hy hg k => rw2_of ho (h H x y dx dy Qd Q ok hx hy hg k)
def fI (C : Int → Int → Prop) (h : Int → Int → D) : F2 := fun x y Q => ∃ i j, x = .int i ∧ y = .int j ∧ C i j ∧ Q (h i j)
def fI0 (h : Int → Int → D) : F2 := fun x y Q => ∃ i j, x = .int i ∧ y = .int j ∧ Q (h i j)
theorem rd_I {C : Int → Int → Prop} {gv : Int → Int → V} {h : Int → Int → D} (ho : OpR X f (rI C gv)) (hg : ∀ i j H, Den X.K I.own H (gv i j) (h i j)) : RD X I f (fI C h) :=
  rd_of ho fun H x y dx dy Qd Q ok hx hy ⟨i, j, e1, e2, c, q⟩ k => by
    subst e1 e2
    simp only [Den] at hx hy
    exact ⟨i, j, hx, hy, c, k _ _ H (.refl ok) (hg i j H) q⟩
theorem rd_I0 {gv : Int → Int → V} {h : Int → Int → D} (ho : OpR X f (rI0 gv)) (hg : ∀ i j H, Den X.K I.own H (gv i j) (h i j)) : RD X I f (fI0 h) :=
  rd_of ho fun H x y dx dy Qd Q ok hx hy ⟨i, j, e1, e2, q⟩ k => by
    subst e1 e2
    simp only [Den] at hx hy
    exact ⟨i, j, hx, hy, k _ _ H (.refl ok) (hg i j H) q⟩
abbrev fSub : F2 := fI0 fun i j => .int (i - j)
abbrev fMul : F2 := fI CMulW fun i j => .int (i * j)
abbrev fDiv : F2 := fI CDivW fun i j => .int (i / j)
abbrev fMod : F2 := fI (fun _ j => 0 < j) fun i j => .int (i % j)
abbrev fPow : F2 := fI CPow fun i j => .int (i ^ j.toNat)
theorem r_sub : RD X I (binaryOp .Sub) fSub := rd_I0 op_sub fun _ _ _ => by simp only [Den]
theorem r_mul : RD X I (binaryOp .Mult) fMul := rd_I op_mulW fun _ _ _ => by simp only [Den]
theorem r_div : RD X I (binaryOp .FloorDiv) fDiv := rd_I op_fdivW fun _ _ _ => by simp only [Den]
theorem r_mod : RD X I (binaryOp .Mod) fMod := rd_I op_mod fun _ _ _ => by simp only [Den]
theorem r_pow : RD X I (binaryOp .Pow) fPow := rd_I op_pow fun _ _ _ => by simp only [Den]
def fAdd : F2 := fun x y Q => match x, y with
  | .int i, .int j => Q (.int (i + j))
  | .str i, .str j => i.length + j.length ≤ sizeLine ∧ Q (.str (i ++ j))
  | .tup xs, .tup ys => xs.length + ys.length ≤ sizeLine ∧ Q (.tup (xs ++ ys))
  | .lst xs, .lst ys => xs.length + ys.length ≤ sizeLine ∧ Q (.lst (xs ++ ys))
  | _, _ => False
theorem r_add : RD X I (binaryOp .Add) fAdd := fun H x y dx dy Qd Q ok hx hy h k => by
  cases dx <;> cases dy <;> simp only [fAdd] at h
  case int.int i j =>
    simp only [Den] at hx hy
    exact rw2_of op_add ⟨i, j, hx, hy, k _ _ H (.refl ok) (by simp only [Den]) h⟩
  case str.str i j =>
    simp only [Den] at hx hy
    exact rw2_of op_add_str ⟨i, j, hx, hy, h.1, k _ _ H (.refl ok) (by simp only [Den]) h.2⟩
  case tup.tup xs ys =>
    have hx' := hx
    have hy' := hy
    simp only [Den] at hx hy
    obtain ⟨a, vs, rfl, s1, n1, r1⟩ := hx
    obtain ⟨b, ws, rfl, s2, n2, r2⟩ := hy
    refine rw2_of op_catA ⟨a, b, vs, ws, rfl, rfl, s1, s2, by rw [r1.len, r2.len]; exact h.1, fun e => ?_, fun e e2 => ?_, fun _ _ p hp => ?_⟩
    · have : xs = [] := by rw [← List.length_eq_zero_iff, ← r1.len, e]; rfl
      subst this
      exact k _ _ H (.refl ok) hy' h.2
    · have : ys = [] := by rw [← List.length_eq_zero_iff, ← r2.len, e2]; rfl
      subst this
      exact k _ _ H (.refl ok) hx' (by simpa using h.2)
    · refine k _ _ _ (.new ok hp) ?_ h.2
      have kk : Kp I.own H (upd H p (.tup (vs ++ ws))) := Kp.new hp
      simp only [Den]
      exact ⟨p, _, rfl, SqT.of upd_same, .inl ⟨HI.nown ok hp, upd_same⟩, DenA.app (DenA.keep kk _ _ r1) (DenA.keep kk _ _ r2)⟩
  case lst.lst xs ys =>
    simp only [Den] at hx hy
    obtain ⟨a, vs, rfl, s1, n1, r1⟩ := hx
    obtain ⟨b, ws, rfl, s2, n2, r2⟩ := hy
    refine rw2_of op_cat ⟨a, b, vs, ws, rfl, rfl, s1, s2, by rw [r1.len, r2.len]; exact h.1, fun p hp => ?_⟩
    refine k _ _ _ (.new ok hp) ?_ h.2
    have kk : Kp I.own H (upd H p (.lst (vs ++ ws))) := Kp.new hp
    simp only [Den]
    exact ⟨p, _, rfl, upd_same, HI.nown ok hp, DenA.app (DenA.keep kk _ _ r1) (DenA.keep kk _ _ r2)⟩
end
end Dl

namespace Dl
open PySem PySem.Spec PyProof.Rows L2

mutual
def D.py : D → PyData
  | .obj _ _ _ => .none | .non => .none | .bl b => .bool b | .int i => .int i | .str x => .str x | .tup xs => .tuple (pyA xs) | .lst xs => .list (pyA xs) | .ref _ => .none | .ty _ => .none
def pyA : List D → List PyData
  | [] => []
  | x :: xs => D.py x :: pyA xs
end
mutual
def D.good : D → Bool
  | .obj _ _ _ => false | .ref _ => false | .ty _ => false | .str x => PyData.strOk x | .tup xs => goodA xs | .lst xs => goodA xs | .non => true | .bl _ => true | .int _ => true
def goodA : List D → Bool
  | [] => true
  | x :: xs => D.good x && goodA xs
end
mutual
def D.dep : D → Nat
  | .obj _ _ _ => 0 | .tup xs => depA xs + 1 | .lst xs => depA xs + 1 | .non => 0 | .bl _ => 0 | .int _ => 0 | .str _ => 0 | .ref _ => 0 | .ty _ => 0
def depA : List D → Nat
  | [] => 0
  | x :: xs => max (D.dep x) (depA xs)
end
mutual
theorem py_can : ∀ d : D, d.good = true → d.py.canLay0 = true
  | .non, _ => rfl
  | .bl _, _ => rfl
  | .int _, _ => rfl
  | .str x, h => by simpa only [D.py, PyData.canLay0, D.good] using h
  | .tup xs, h => by simp only [D.py, PyData.canLay0]; exact pyA_can xs (by simpa only [D.good] using h)
  | .lst xs, h => by simp only [D.py, PyData.canLay0]; exact pyA_can xs (by simpa only [D.good] using h)
  | .ref _, h => by simp [D.good] at h
  | .ty _, h => by simp [D.good] at h
  | .obj _ _ _, h => by simp [D.good] at h
theorem pyA_can : ∀ ds : List D, goodA ds = true → PyData.canLayAll0 (pyA ds) = true
  | [], _ => rfl
  | x :: xs, h => by
    simp only [goodA, Bool.and_eq_true] at h
    simp only [pyA, PyData.canLayAll0, Bool.and_eq_true]
    exact ⟨py_can x h.1, pyA_can xs h.2⟩
end
mutual
theorem py_dep : ∀ d : D, d.py.depth = d.dep
  | .non => rfl
  | .bl _ => rfl
  | .int _ => rfl
  | .str x => rfl
  | .tup xs => by simp only [D.py, PyData.depth, D.dep, pyA_dep xs]
  | .lst xs => by simp only [D.py, PyData.depth, D.dep, pyA_dep xs]
  | .ref _ => rfl
  | .ty _ => rfl
  | .obj _ _ _ => rfl
theorem pyA_dep : ∀ ds : List D, PyData.depthAll (pyA ds) = depA ds
  | [] => rfl
  | x :: xs => by simp only [pyA, PyData.depthAll, depA, py_dep x, pyA_dep xs]
end
section
variable {K : PySem.W.Frag} {Av : Addr → Prop} {H : Hp}
mutual
theorem Den.dp : ∀ (d : D) (v : V), d.good = true → Den K Av H v d → Dp K H v d.py
  | .non, v, _, h => by simp only [Den] at h; subst h; exact .non
  | .bl b, v, _, h => by simp only [Den] at h; subst h; exact .bl b
  | .int b, v, _, h => by simp only [Den] at h; subst h; exact .int b
  | .str b, v, _, h => by simp only [Den] at h; subst h; exact .str b
  | .tup ds, v, g, h => by
    simp only [Den] at h
    obtain ⟨a, vs, rfl, s, _, r⟩ := h
    exact .tup s (DenA.dp ds vs (by simpa only [D.good] using g) r)
  | .lst ds, v, g, h => by
    simp only [Den] at h
    obtain ⟨a, vs, rfl, s, _, r⟩ := h
    exact .lst (SqL.of s) (DenA.dp ds vs (by simpa only [D.good] using g) r)
  | .ref _, _, g, _ => by simp [D.good] at g
  | .ty _, _, g, _ => by simp [D.good] at g
  | .obj _ _ _, _, g, _ => by simp [D.good] at g
theorem DenA.dp : ∀ (ds : List D) (vs : List V), goodA ds = true → DenA K Av H vs ds → DpAll K H vs (pyA ds)
  | [], vs, _, h => by simp only [DenA] at h; subst h; exact .nil
  | d :: ds, vs, g, h => by
    simp only [goodA, Bool.and_eq_true] at g
    simp only [DenA] at h
    obtain ⟨v, r, rfl, h1, h2⟩ := h
    exact .cons (Den.dp d v g.1 h1) (DenA.dp ds r g.2 h2)
end
end
def okD (d : D) : Prop := d.good = true ∧ d.dep ≤ 60
theorem okD.shaped {d : D} (h : okD d) : SeqAt.shaped d.py = true := by
  unfold SeqAt.shaped
  rw [py_can d h.1, py_dep d, decide_eq_true (by have := h.2; omega)]; rfl
def eqD (x y : D) : Bool := PyData.eqv x.py y.py
def xr (neg b : Bool) : Bool := if neg = true then !b else b

section
variable {X : Cx} {I : HI} {g : Gx} {e a b c : Expr} {es : List Expr} {te : TE} {tt : TT} {td ta tb tc : TED} {t u : TTD} {pos : Pos} {f : Value → Value → Sem Value} {o : F2}
def fEq (neg : Bool) : F2 := fun x y Q => okD x ∧ okD y ∧ Q (.bl (xr neg (eqD x y)))
theorem r_eq (hu : X.A.units + 64 < cLine) : RD X I (compareOp .Eq) (fEq false) := fun H x y dx dy Qd Q ok hx hy ⟨h1, h2, h⟩ k =>
  rw2_of (op_eqD hu) ⟨_, _, Den.dp dx x h1.1 hx, Den.dp dy y h2.1 hy, h1.shaped, h2.shaped, k _ _ H (.refl ok) (by simp only [Den]; rfl) h⟩
def fOrd (p : Int → Int → Bool) (q : List Int → List Int → Bool) : F2 := fun x y Q =>
  (∃ i j, x = .int i ∧ y = .int j ∧ Q (.bl (p i j))) ∨ ∃ ns ms : List Int, x = .tup (ns.map D.int) ∧ y = .tup (ms.map D.int) ∧ Q (.bl (q ns ms))
abbrev fLt : F2 := fOrd (fun i j => decide (i < j)) HT.lexLt
theorem r_lt (hu : X.A.units < cLine) : RD X I (compareOp .Lt) fLt := fun H x y dx dy Qd Q ok hx hy h k => by
  rcases h with ⟨i, j, rfl, rfl, h⟩ | ⟨ns, ms, rfl, rfl, h⟩
  · simp only [Den] at hx hy
    exact rw2_of op_lt ⟨i, j, hx, hy, k _ _ H (.refl ok) (by simp only [Den]) h⟩
  · simp only [Den] at hx hy
    obtain ⟨a, vs, rfl, s1, n1, r1⟩ := hx
    obtain ⟨b, ws, rfl, s2, n2, r2⟩ := hy
    have e1 := r1.ofInts
    have e2 := r2.ofInts
    subst e1 e2
    exact rw2_of (op_ltT hu) ⟨a, b, ns, ms, rfl, rfl, s1, s2, k _ _ H (.refl ok) (by simp only [Den]) h⟩
def fUn (h : Int → Int) : D → (D → Prop) → Prop := fun x Q => ∃ i, x = .int i ∧ Q (.int (h i))
def dUn (r : D → (D → Prop) → Prop) (ta : TED) : TED := fun env Q => ta env fun x => r x Q
theorem d_neg (ha : PED X g a ta) : PED X g (.UnaryOp .USub a pos) (dUn (fUn fun i => -i) ta) :=
  ped_of (pe_un un_neg pe_w) fun b0 σ H env Qd Q hd xl h k => ha b0 σ H env _ _ hd xl h fun v d H1 e1 dn ⟨i, ed, q⟩ => by
    subst ed
    simp only [Den] at dn
    exact ⟨i, dn, k _ _ H1 e1 (by simp only [Den]) q⟩

def dOr (t u : TTD) : TTD := fun env Q => t env fun c => if c = true then Q true else u env Q
def dNot (t : TTD) : TTD := fun env Q => t env fun c => Q (!c)
theorem dt_or1 (ha : PTD X g a t) : PWD X g (.BoolOp .Or [a] pos) t := pwd_of (pw_or1 pt_w) ha
theorem st_or {K : PySem.W.Frag} {ta tb : TT} (ha : ST K g ta t) (hb : ST K g tb u) : ST K g (tOr ta tb) (dOr t u) := fun b0 σ H env Qd Q hd xl h k =>
  ha b0 σ H env _ _ hd xl h fun c H1 e1 h1 => by
    cases c with
    | false => rw [if_neg Bool.false_ne_true] at h1 ⊢; exact hb b0 σ H1 env _ _ (hd.mono e1) xl h1 fun c' H2 e2 q => k c' H2 (e1.trans e2) q
    | true => rw [if_pos rfl] at h1 ⊢; exact k true H1 e1 h1
theorem dt_or {rest : List Expr} (ha : PTD X g a t) (hb : PWD X g (.BoolOp .Or (b :: rest) pos) u) : PWD X g (.BoolOp .Or (a :: b :: rest) pos) (dOr t u) := pwd_of (pw_or pt_w pw_w) (st_or ha hb)
theorem dt_not (ha : PTD X g a t) : PTD X g (.UnaryOp .Not a pos) (dNot t) := ptd_of (pt_not pt_w) fun b0 σ H env Qd Q hd xl h k => ha b0 σ H env _ _ hd xl h fun c H1 e1 q => k _ H1 e1 q
def dIf (t : TTD) (ta tb : TED) : TED := fun env Q => t env fun c => if c = true then ta env Q else tb env Q
theorem d_ifExp (hc : PTD X g c t) (ha : PED X g a ta) (hb : PED X g b tb) : PED X g (.IfExp c a b pos) (dIf t ta tb) :=
  ped_of (pe_ifExp pt_w pe_w pe_w) fun b0 σ H env Qd Q hd xl h k => hc b0 σ H env _ _ hd xl h fun c H1 e1 h1 => by
    cases c with
    | true => rw [if_pos rfl] at h1 ⊢; exact ha b0 σ H1 env _ _ (hd.mono e1) xl h1 fun v' d' H2 e2 dn' q => k v' d' H2 (e1.trans e2) dn' q
    | false => rw [if_neg Bool.false_ne_true] at h1 ⊢; exact hb b0 σ H1 env _ _ (hd.mono e1) xl h1 fun v' d' H2 e2 dn' q => k v' d' H2 (e1.trans e2) dn' q
def truD (d : D) (k : Bool) : Prop := match d with
  | .non => k = false
  | .bl b => k = b
  | .int i => k = (i != 0)
  | .str y => y.length ≤ sizeLine ∧ k = ((y.length : Int) != 0)
  | .tup xs => k = !xs.isEmpty
  | .lst xs => k = !xs.isEmpty
  | _ => False
theorem isEmpty_len {α β : Type} {xs : List α} {ys : List β} (h : xs.length = ys.length) : xs.isEmpty = ys.isEmpty := by
  cases xs <;> cases ys <;> simp_all
def dTru (td : TED) : TTD := fun env Q => td env fun d => ∃ k, truD d k ∧ Q k
theorem dt_tru (h : PED X g a td) (he : ∀ whole, isTrue a X.env whole = (do let v ← whole; standAt a.pos; holding [v] (truthy v)) := by intro _; rfl) : PTD X g a (dTru td) :=
  ptd_of (pt_truth pe_w he) fun b0 σ H env Qd Q hd xl h' k => h b0 σ H env _ _ hd xl h' fun v d H1 e1 dn ⟨b, hb, q⟩ => by
    refine ⟨b, ?_, k b H1 e1 q⟩
    cases d <;> simp only [truD] at hb <;> simp only [Den] at dn
    case non => subst dn; exact hb
    case bl => subst dn; exact hb
    case int => subst dn; exact hb
    case str => subst dn; exact hb
    case tup xs =>
      obtain ⟨a, vs, rfl, s, _, r⟩ := dn
      exact .inr (.inl ⟨vs, s, by rw [hb, isEmpty_len r.len]⟩)
    case lst xs =>
      obtain ⟨a, vs, rfl, s, _, r⟩ := dn
      exact .inl ⟨vs, SqL.of s, by rw [hb, isEmpty_len r.len]⟩
def dB (td : TED) : TTD := fun env Q => td env fun d => ∃ c, d = .bl c ∧ Q c
theorem dt_val (h : PED X g a td) (he : ∀ whole, isTrue a X.env whole = (do let v ← whole; standAt a.pos; holding [v] (truthy v)) := by intro _; rfl) : PTD X g a (dB td) :=
  ptd_of (pt_val pe_w he) fun b0 σ H env Qd Q hd xl h' k => h b0 σ H env _ _ hd xl h' fun v d H1 e1 dn ⟨c, ed, q⟩ => by
    subst ed
    simp only [Den] at dn
    exact ⟨c, dn, k c H1 e1 q⟩

def dNil : TAD := fun _ Q => Q []
def dCons (td : TED) (tr : TAD) : TAD := fun env Q => td env fun x => tr env fun xs => Q (x :: xs)
theorem da_nil : PAD X g [] dNil := pad_of pa_nil fun b0 σ H env Qd Q hd xl h k => k [] [] H (.refl hd.ok) (by simp only [DenA]) h
theorem da_cons {tr : TAD} (he : PED X g e td) (ht : PAD X g es tr) (hs : starEach (e :: es) X.env = (false, eval e X.env) :: starEach es X.env := by rfl) : PAD X g (e :: es) (dCons td tr) :=
  pad_of (pa_cons pe_w pa_w hs) fun b0 σ H env Qd Q hd xl h k => he b0 σ H env _ _ hd xl h fun v d H1 e1 dn h1 => ht b0 σ H1 env _ _ (hd.mono e1) xl h1 fun vs ds H2 e2 dn2 q =>
    k (v :: vs) (d :: ds) H2 (e1.trans e2) (by simp only [DenA]; exact ⟨v, vs, rfl, Den.keep e2.1 _ _ dn, dn2⟩) q
def dTup (ta : TAD) : TED := fun env Q => ta env fun xs => xs.length ≤ sizeLine ∧ Q (.tup xs)
def dLst (ta : TAD) : TED := fun env Q => ta env fun xs => xs.length ≤ sizeLine ∧ Q (.lst xs)
theorem new_tup {K : PySem.W.Frag} {H : Hp} {p : Addr} {vs : List V} {ds : List D} (ok : I.ok H) (hp : H p = none) (h : DenA K I.own H vs ds) : Den K I.own (upd H p (.tup vs)) (.ref p) (.tup ds) := by
  simp only [Den]
  exact ⟨p, vs, rfl, SqT.of upd_same, .inl ⟨HI.nown ok hp, upd_same⟩, DenA.keep (Kp.new hp) _ _ h⟩
theorem new_lst {K : PySem.W.Frag} {H : Hp} {p : Addr} {vs : List V} {ds : List D} (ok : I.ok H) (hp : H p = none) (h : DenA K I.own H vs ds) : Den K I.own (upd H p (.lst vs)) (.ref p) (.lst ds) := by
  simp only [Den]
  exact ⟨p, vs, rfl, upd_same, HI.nown ok hp, DenA.keep (Kp.new hp) _ _ h⟩
theorem d_tup {x1} {tas : TAD} (h : PAD X g es tas) : PED X g (.Tuple es x1 pos) (dTup tas) :=
  ped_of (pe_tup pa_w) fun b0 σ H env Qd Q hd xl hq k => h b0 σ H env _ _ hd xl hq fun vs ds H1 e1 dn ⟨z, q⟩ =>
    ⟨by rw [dn.len]; exact z, fun p hp => k _ _ _ (e1.trans (.new e1.2 hp)) (new_tup e1.2 hp dn) q⟩
theorem d_lst {tas : TAD} (h : PAD X g es tas) : PED X g (.List es pos) (dLst tas) :=
  ped_of (pe_lst pa_w) fun b0 σ H env Qd Q hd xl hq k => h b0 σ H env _ _ hd xl hq fun vs ds H1 e1 dn ⟨z, q⟩ =>
    ⟨by rw [dn.len]; exact z, fun p hp => k _ _ _ (e1.trans (.new e1.2 hp)) (new_lst e1.2 hp dn) q⟩

def fIx : F2 := fun x y Q => ∃ i : Int, y = .int i ∧ match x with
  | .tup xs => ∃ d, atI xs i = some d ∧ Q d
  | .lst xs => ∃ d, atI xs i = some d ∧ Q d
  | .str z => z.length ≤ sizeLine ∧ ∃ c, atI z.cps.toList i = some c ∧ Q (.str ⟨#[c]⟩)
  | _ => False
theorem atI_den {K : PySem.W.Frag} {Av : Addr → Prop} {H : Hp} {vs : List V} {ds : List D} {i : Int} {d : D} (h : DenA K Av H vs ds) (e : atI ds i = some d) : ∃ v, atI vs i = some v ∧ Den K Av H v d := by
  unfold atI at e ⊢
  rw [h.len]
  cases q : ixN ds.length i with
  | none => rw [q] at e; cases e
  | some j =>
    rw [q] at e
    exact h.get e
theorem d_ix (ha : PED X g a ta) (hb : PED X g b tb) (hs : PlainIx b := by intro _ _; rfl) : PED X g (.Subscript a b pos) (dOp fIx ta tb) :=
  ped_of (pe_ix ix_seq pe_w pe_w hs) (sd_op ha hb fun H x y dx dy Qd Q ok hx hy hh k => by
    obtain ⟨i, ey, h⟩ := hh
    subst ey
    simp only [Den] at hy
    cases dx <;> simp only at h
    case tup xs =>
      obtain ⟨d, e, q⟩ := h
      simp only [Den] at hx
      obtain ⟨a, vs, rfl, s1, n1, r1⟩ := hx
      obtain ⟨v, e2, dn⟩ := atI_den r1 e
      exact .inr (.inl ⟨a, vs, i, v, rfl, hy, s1, e2, k _ _ H (.refl ok) dn q⟩)
    case lst xs =>
      obtain ⟨d, e, q⟩ := h
      simp only [Den] at hx
      obtain ⟨a, vs, rfl, s1, n1, r1⟩ := hx
      obtain ⟨v, e2, dn⟩ := atI_den r1 e
      exact .inl ⟨a, vs, i, v, rfl, hy, SqL.of s1, e2, k _ _ H (.refl ok) dn q⟩
    case str z =>
      obtain ⟨z1, c, e, q⟩ := h
      simp only [Den] at hx
      exact .inr (.inr ⟨z, i, c, hx, hy, z1, e, k _ _ H (.refl ok) (by simp only [Den]) q⟩))
end
end Dl

namespace Dl
open PySem PySem.Spec PyProof.Rows L2

abbrev TOD := DEnv → (Option Int → Prop) → Prop
def wO (X : Cx) (e : Option Expr) : TO := fun σ H Q => ∀ pins s, Inv X pins σ H s → wpAny (model X.prog X.w) X.A (evalPart e X.env) (fun u s' => ∃ o H', Inv X pins σ H' s' ∧ IsPart u o ∧ Q o H') X.xe s
def SO (K : PySem.W.Frag) (g : Gx) (to : TO) (td : TOD) : Prop :=
  ∀ (b : B0) (σ : L2.St) (H : Hp) (env : DEnv) (Qd : Option Int → Prop) (Q : Option Int → Hp → Prop), DenE K g.I b σ H env → XL K g b → td env Qd → (∀ o H', Ext g.I H H' → Qd o → Q o H') → to σ H Q
def POD (X : Cx) (g : Gx) (e : Option Expr) (td : TOD) : Prop := SO X.K g (wO X e) td
def dNoP : TOD := fun _ Q => Q none
def dPart (td : TED) : TOD := fun env Q => td env fun x => ∃ i, x = .int i ∧ Q (some i)
def cutL {α : Type} (xs : List α) (lo hi : Option Int) : List α := (xs.drop (HT.sIx xs.length 0 lo)).take (HT.sIx xs.length xs.length hi - HT.sIx xs.length 0 lo)
def fSl : D → Option Int → Option Int → (D → Prop) → Prop := fun x lo hi Q => match x with
  | .tup xs => Q (.tup (cutL xs lo hi))
  | .lst xs => Q (.lst (cutL xs lo hi))
  | .str z => z.length ≤ sizeLine ∧ Q (.str (cutS z lo hi))
  | _ => False
def dSl (te : TED) (tl th : TOD) : TED := fun env Q => te env fun x => tl env fun lo => th env fun hi => fSl x lo hi Q
section
variable {X : Cx} {g : Gx} {e a b c : Expr} {es : List Expr} {td ta tb tc : TED} {t u : TTD} {pos : Pos} {lo hi : Option Expr} {tl th : TOD}
theorem do_none : POD X g none dNoP := fun b0 σ H env Qd Q hd xl ht k pins s J => po_none.run pins s σ H Q J (k none H (.refl hd.ok) ht)
theorem do_some (h : PED X g e td) : POD X g (some e) (dPart td) := fun b0 σ H env Qd Q hd xl ht k pins s J => (po_some pe_w).run pins s σ H Q J (h b0 σ H env _ _ hd xl ht fun v d H1 e1 dn ⟨i, ed, q⟩ => by
  subst ed
  simp only [Den] at dn
  exact ⟨i, dn, k _ H1 e1 q⟩)
theorem po_w {eo : Option Expr} : PO X eo (wO X eo) := ⟨fun pins s σ H Q I h => h pins s I⟩
theorem cut_den {K : PySem.W.Frag} {Av : Addr → Prop} {H : Hp} {vs : List V} {ds : List D} {lo hi : Option Int} (h : DenA K Av H vs ds) : DenA K Av H (cutV vs lo hi) (cutL ds lo hi) := by
  unfold cutV cutL
  rw [h.len]
  exact DenA.take _ (DenA.drop _ h)
theorem d_slice {p2 : Pos} (he : PED X g e td) (hl : POD X g lo tl) (hu : POD X g hi th) : PED X g (.Subscript e (.Slice lo hi none p2) pos) (dSl td tl th) :=
  ped_of (pe_slice (sl_list.or (sl_tupA.or sl_str)) pe_w po_w po_w) fun b0 σ H env Qd Q hd xl h k =>
    he b0 σ H env _ _ hd xl h fun v d H1 e1 dn h1 => hl b0 σ H1 env _ _ (hd.mono e1) xl h1 fun lo' H2 e2 h2 => hu b0 σ H2 env _ _ (hd.mono (e1.trans e2)) xl h2 fun hi' H3 e3 h3 => by
      replace dn := Den.keep (e2.trans e3).1 _ _ dn
      have ok := e3.2
      have ee := e1.trans (e2.trans e3)
      cases d <;> simp only [fSl] at h3 <;> simp only [Den] at dn
      case tup xs =>
        obtain ⟨a, vs, rfl, s1, n1, r1⟩ := dn
        refine .inr (.inl ⟨a, vs, rfl, s1, fun hw => k _ _ _ ee ?_ h3, fun hw p hp => k _ _ _ (ee.trans (.new ok hp)) (new_tup ok hp (cut_den r1)) h3⟩)
        have : cutL xs lo' hi' = xs := by
          unfold cutL
          rw [← r1.len, hw.1, hw.2, r1.len]
          simp
        rw [this]
        simp only [Den]
        exact ⟨a, vs, rfl, s1, n1, r1⟩
      case lst xs =>
        obtain ⟨a, vs, rfl, s1, n1, r1⟩ := dn
        exact .inl ⟨a, vs, rfl, SqL.of s1, fun p hp => k _ _ _ (ee.trans (.new ok hp)) (new_lst ok hp (cut_den r1)) h3⟩
      case str z => exact .inr (.inr ⟨z, dn, h3.1, k _ _ _ ee (by simp only [Den]) h3.2⟩)
end

def rwC (X : Cx) (f : Value) : List V → Hp → VK → Prop := fun xs H Q => ∀ pins s σ us, Inv X pins σ H s → Vals xs us → wpAny (model X.prog X.w) X.A (call f us) (EP X pins σ Q) X.xe s
abbrev FC := List D → (D → Prop) → Prop
def RC (X : Cx) (I : HI) (f : Value) (r : FC) : Prop :=
  ∀ (H : Hp) (xs : List V) (ds : List D) (Qd : D → Prop) (Q : VK), I.ok H → DenA X.K I.own H xs ds → r ds Qd → (∀ v d H', Ext I H H' → Den X.K I.own H' v d → Qd d → Q v H') → rwC X f xs H Q
def dCB (r : FC) (ta : TAD) : TED := fun env Q => ta env fun xs => r xs Q
section
variable {X : Cx} {I : HI} {g : Gx} {e a b c : Expr} {es : List Expr} {td ta tb tc : TED} {tas : TAD} {t u : TTD} {pos p : Pos} {f : Value} {r : FC} {x : Str}
theorem cr_w : CallR X f (rwC X f) := fun pins s σ H xs us Q J r h => h pins s σ us J r
theorem rc_of {f : Value} {r' : List V → Hp → VK → Prop} (h : CallR X f r') {xs : List V} {H : Hp} {Q : VK} (q : r' xs H Q) : rwC X f xs H Q := fun pins s σ us J rx => h pins s σ H xs us Q J rx q
theorem sd_cb {K : PySem.W.Frag} {ra : L2.TA} {r' : List V → Hp → VK → Prop} (ha : SA K g ra tas)
    (hr : ∀ (H : Hp) (xs : List V) (ds : List D) (Qd : D → Prop) (Q : VK), g.I.ok H → DenA K g.I.own H xs ds → r ds Qd → (∀ v d H', Ext g.I H H' → Den K g.I.own H' v d → Qd d → Q v H') → r' xs H Q) : SE K g (tCB r' ra) (dCB r tas) := fun b0 σ H env Qd Q hd xl h k =>
  ha b0 σ H env _ _ hd xl h fun vs ds H1 e1 dn q => hr H1 vs ds Qd Q e1.2 dn q fun v d H' e2 dn2 q2 => k v d H' (e1.trans e2) dn2 q2
theorem d_callB {id : String} (hc : RC X g.I (.builtin id) r) (hg : Gl X x) (hm : X.mg x = none) (hv : bootBuiltins x = some (.builtin id)) (ha : PAD X g (e :: es) tas) (hn : x ≠ "__name__" := by decide) (hdb : (x == ("__debug__" : Str)) = false := by decide)
    (he : starEach (e :: es) X.env = (false, eval e X.env) :: starEach es X.env := by rfl) (hpl : (backTo pos (starEach es X.env)).any (·.1) = false := by rfl) : PED X g (.Call (.Name x p) (e :: es) [] pos) (dCB r tas) :=
  ped_of (pe_callB cr_w hg hm hv pa_w hn hdb he hpl) (sd_cb ha hc)
theorem d_callTy {T : String} (hc : RC X g.I (.type T) r) (hg : Gl X x) (hm : X.mg x = none) (hv : bootBuiltins x = some (.type T)) (ha : PAD X g (e :: es) tas) (hn : x ≠ "__name__" := by decide) (hdb : (x == ("__debug__" : Str)) = false := by decide)
    (he : starEach (e :: es) X.env = (false, eval e X.env) :: starEach es X.env := by rfl) (hpl : (backTo pos (starEach es X.env)).any (·.1) = false := by rfl) : PED X g (.Call (.Name x p) (e :: es) [] pos) (dCB r tas) :=
  ped_of (pe_callTy cr_w hg hm hv pa_w hn hdb he hpl) (sd_cb ha hc)
theorem d_ty {n : String} (hg : Gl X x) (hm : X.mg x = none) (hv : bootBuiltins x = some (.type n)) (hn : x ≠ "__name__" := by decide) (hdb : (x == ("__debug__" : Str)) = false := by decide) : PED X g (.Name x p) (dC (.ty n)) :=
  ped_of (pe_bltn (v := .ty n) hg hm hv rfl hn hdb) (sd_c fun _ => by simp only [Den])
theorem DenA.nil {K : PySem.W.Frag} {Av : Addr → Prop} {H : Hp} {vs : List V} (h : DenA K Av H vs []) : vs = [] := by simpa only [DenA] using h
theorem DenA.cons {K : PySem.W.Frag} {Av : Addr → Prop} {H : Hp} {vs : List V} {d : D} {ds : List D} (h : DenA K Av H vs (d :: ds)) : ∃ v r, vs = v :: r ∧ Den K Av H v d ∧ DenA K Av H r ds := by simpa only [DenA] using h
theorem DenA.one1 {K : PySem.W.Frag} {Av : Addr → Prop} {H : Hp} {vs : List V} {d : D} (h : DenA K Av H vs [d]) : ∃ v, vs = [v] ∧ Den K Av H v d := by
  obtain ⟨v, r, rfl, h1, h2⟩ := h.cons
  cases h2.nil
  exact ⟨v, rfl, h1⟩
def bLen : FC := fun xs Q => ∃ x, xs = [x] ∧ match x with
  | .tup ys => Q (.int ys.length)
  | .lst ys => Q (.int ys.length)
  | .str z => z.length ≤ sizeLine ∧ Q (.int z.length)
  | _ => False
theorem c_len : RC X I (.builtin "len") bLen := fun H xs ds Qd Q ok dn hh k => by
  obtain ⟨x, rfl, h⟩ := hh
  obtain ⟨v, rfl, d1⟩ := dn.one1
  cases x <;> simp only at h <;> simp only [Den] at d1
  case tup ys =>
    obtain ⟨a, vs, rfl, s1, n1, r1⟩ := d1
    rw [← r1.len] at h
    exact rc_of call_len ⟨_, vs.length, rfl, .inr ⟨vs, s1, rfl⟩, k _ _ H (.refl ok) (by simp only [Den]) h⟩
  case lst ys =>
    obtain ⟨a, vs, rfl, s1, n1, r1⟩ := d1
    rw [← r1.len] at h
    exact rc_of call_len ⟨_, vs.length, rfl, .inl ⟨vs, SqL.of s1, rfl⟩, k _ _ H (.refl ok) (by simp only [Den]) h⟩
  case str z => subst d1; exact rc_of call_len_str ⟨z, rfl, h.1, k _ _ H (.refl ok) (by simp only [Den]) h.2⟩
end
end Dl

namespace Dl
open PySem PySem.Spec PyProof.Rows L2

section
variable {X : Cx} {I : HI} {g : Gx} {e a b c : Expr} {es : List Expr} {td ta tb tc : TED} {tas : TAD} {t u : TTD} {pos p : Pos} {f : Value} {r : FC} {x : Str}
def bInt : FC := fun xs Q => ∃ i, xs = [.int i] ∧ Q (.int i)
theorem c_int : RC X I (.type "int") bInt := fun H xs ds Qd Q ok dn ⟨i, e, h⟩ k => by
  subst e
  obtain ⟨v, rfl, d1⟩ := dn.one1
  simp only [Den] at d1
  subst d1
  exact rc_of call_int1 (.inl ⟨i, rfl, k _ _ H (.refl ok) (by simp only [Den]) h⟩)
def bAbs : FC := fun xs Q => ∃ i : Int, xs = [.int i] ∧ Q (.int (if i < 0 then -i else i))
theorem c_abs : RC X I (.builtin "abs") bAbs := fun H xs ds Qd Q ok dn ⟨i, e, h⟩ k => by
  subst e
  obtain ⟨v, rfl, d1⟩ := dn.one1
  simp only [Den] at d1
  subst d1
  exact rc_of call_abs ⟨i, rfl, k _ _ H (.refl ok) (by simp only [Den]) h⟩
def bStr : FC := fun xs Q => ∃ i : Int, xs = [.int i] ∧ i.natAbs.log2 < 1920 ∧ Q (.str (toString i))
theorem c_str : RC X I (.type "str") bStr := fun H xs ds Qd Q ok dn ⟨i, e, h1, h⟩ k => by
  subst e
  obtain ⟨v, rfl, d1⟩ := dn.one1
  simp only [Den] at d1
  subst d1
  exact rc_of call_str_int ⟨i, rfl, h1, k _ _ H (.refl ok) (by simp only [Den]) h⟩
abbrev Ct := List D → (D → Prop) → (Exc → Prop) → Prop
def spOf (K : PySem.W.Frag) (I : HI) (n : Nat) (C : Ct) : Sp := fun vs H Q E => ∃ ds Qd Ed, ds.length = n ∧ DenA K I.own H vs ds ∧ I.ok H ∧ C ds Qd Ed ∧
  (∀ v d H', Ext I H H' → Den K I.own H' v d → Qd d → Q v H') ∧ (∀ x d H', Ext I H H' → ExD K I H' x d → Ed x → E (.ref x.cls) d H')
def dCall (C : Ct) (dds : List D) (Ed : DEnv → Exc → Prop) (ta : TAD) : TED := fun env Q => ta env fun xs => C (xs ++ dds) Q (Ed env)
theorem run_fnD {k : Nat} {fa : Addr} {fd : FuncData} {ps : List Str} {sp : Sp} {ds : List Value} {dvs : List V} {pins : List (Addr × Obj)} {σ : L2.St} {H : Hp} {s : Shared} {Q : VK} {us : List Value} {vs : List V} {E : XK}
    (F : FnOk X.prog X.w X.K X.mg X.base (L2.CX X.prog X.w) k fa fd ps sp) (hr : Room k X.A) (hb : Binds X.K fd ps ds) (hd : Vals dvs ds) (hx : PassesAt (L2.CX X.prog X.w) X σ E)
    (J : Inv X pins σ H s) (r : Vals vs us) (h : sp (vs ++ dvs) H Q E) : wpAny (model X.prog X.w) X.A (call (.ref fa) us) (EP X pins σ Q) X.xe s := by
  have r2 : Vals (vs ++ dvs) (us ++ ds) := r.append hd
  have hl : (us ++ ds).length = ps.length := by rw [← r2.length]; exact F.len _ _ _ _ h
  refine wpAny_call (codeAny_mono (F.run X.A X.stack s H ⟨us, []⟩ (us ++ ds) (vs ++ dvs) Q E hr J.env0 (hb s us J.kIn hl) r2 h) fun r s' hq => ?_)
  cases r with
  | error e => exact hx pins H s e s' J hq
  | ok fl =>
    cases fl with
    | ret u => exact J.after hq
    | next => exact False.elim hq
    | brk => exact False.elim hq
    | cont => exact False.elim hq
theorem spOf_call {K : PySem.W.Frag} {n : Nat} {C : Ct} {H : Hp} {vs dvs : List V} {xs dds : List D} {Qd : D → Prop} {Ed : Exc → Prop} {Q : VK} {E : XK} (ok : I.ok H) (hl : (xs ++ dds).length = n) (dn : DenA K I.own H vs xs) (dd : DenA K I.own H dvs dds) (h : C (xs ++ dds) Qd Ed)
    (k : ∀ v d H', Ext I H H' → Den K I.own H' v d → Qd d → Q v H') (ke : ∀ x d H', Ext I H H' → ExD K I H' x d → Ed x → E (.ref x.cls) d H') : spOf K I n C (vs ++ dvs) H Q E :=
  ⟨xs ++ dds, Qd, Ed, hl, dn.app dd, ok, h, k, ke⟩
theorem d_call {k n : Nat} {fa : Addr} {fd : FuncData} {ps : List Str} {C : Ct} {ds : List Value} {dvs : List V} {dds : List D} (F : FnOk X.prog X.w X.K X.mg X.base (L2.CX X.prog X.w) k fa fd ps (spOf X.K g.I n C)) (hr : Room k X.A) (hg : Gl X x)
    (hm : X.mg x = some (.ref fa)) (hk : PySem.W.keepIn X.K (.ref fa) = true) (hb : Binds X.K fd ps ds) (hd : Vals dvs ds) (hdd : ∀ H, DenA X.K g.I.own H dvs dds) (tk : Takes X g.W) (hC : ∀ xs Q E, C xs Q E → xs.length = n) (ha : PAD X g (e :: es) tas)
    (hdb : (x == ("__debug__" : Str)) = false := by decide) (he : starEach (e :: es) X.env = (false, eval e X.env) :: starEach es X.env := by rfl) (hpl : (backTo pos (starEach es X.env)).any (·.1) = false := by rfl) :
    PED X g (.Call (.Name x p) (e :: es) [] pos) (dCall C dds g.Ed tas) := fun b0 σ H env Qd Q hd' xl h kq pins s J => by
  refine wpAny_Call_Name_kw (ld_glob J hg hm ?_ hdb)
  refine PySem.W.callWith_K (h₀ := X.base) J.ok.mod.kin hk (thn ((pa_w (es := e :: es)).run pos pins s σ H (fun vs H1 => spOf X.K g.I n C (vs ++ dvs) H1 Q (WE g.W σ)) J ?_) fun us s1 ⟨vs, H1, I1, r, q⟩ => ⟨I1.kIn, run_fnD F hr hb hd (passAt tk σ) I1 r q⟩) he hpl
  exact ha b0 σ H env _ _ hd' xl h fun vs xs H1 e1 dn q => spOf_call e1.2 (hC _ _ _ q) dn (hdd H1) q (fun v d H2 e2 dn2 q2 => kq v d H2 (e1.trans e2) dn2 q2) fun x d H2 e2 xd q2 => xl σ H env x d H2 hd' (e1.trans e2) xd q2
end

structure DEnds where
  nx : DEnv → Prop
  rt : D → Prop
  bk : DEnv → Prop := fun _ => False
  ct : DEnv → Prop := fun _ => False
abbrev TSD := DEnds → DEnv → Prop
structure EL (K : PySem.W.Frag) (g : Gx) (b : B0) (Dd : DEnds) (E : Ends) : Prop where
  nx : ∀ σ H env, DenE K g.I b σ H env → Dd.nx env → E.nx σ H
  rt : ∀ v d H, Ext g.I b.H0 H → Den K g.I.own H v d → Dd.rt d → E.rt v H
  bk : ∀ σ H env, DenE K g.I b σ H env → Dd.bk env → E.bk σ H
  ct : ∀ σ H env, DenE K g.I b σ H env → Dd.ct env → E.ct σ H
def SS (K : PySem.W.Frag) (g : Gx) (ts : TS) (td : TSD) : Prop :=
  ∀ (b : B0) (σ : L2.St) (H : Hp) (env : DEnv) (Dd : DEnds) (E : Ends), DenE K g.I b σ H env → XL K g b → td Dd env → EL K g b Dd E → ts E σ H
def wS (X : Cx) (st : Stmt) : TS := fun E σ H => ∀ pins s, Inv X pins σ H s → wpAny (model X.prog X.w) X.A (exec st X.env) (SP X pins E) X.xe s
def wSs (X : Cx) (sts : List Stmt) : TS := fun E σ H => ∀ pins s, Inv X pins σ H s → wpAny (model X.prog X.w) X.A (execs sts X.env) (SP X pins E) X.xe s
def PSD (X : Cx) (g : Gx) (st : Stmt) (td : TSD) : Prop := SS X.K g (wS X st) td
def PSsD (X : Cx) (g : Gx) (sts : List Stmt) (td : TSD) : Prop := SS X.K g (wSs X sts) td
section
variable {X : Cx} {g : Gx} {e : Expr} {st : Stmt} {rest sts sts2 : List Stmt} {td : TED} {tt : TTD} {ts t u : TSD} {ts' : TS} {pos : Pos}
theorem ps_w : PS X st (wS X st) := ⟨fun pins s σ H E J h => h pins s J⟩
theorem pss_w : PSs X sts (wSs X sts) := ⟨fun pins s σ H E J h => h pins s J⟩
theorem psd_of (p : PS X st ts') (h : SS X.K g ts' ts) : PSD X g st ts := fun b σ H env Dd E hd xl ht el pins s J => p.run pins s σ H E J (h b σ H env Dd E hd xl ht el)
theorem pssd_of (p : PSs X sts ts') (h : SS X.K g ts' ts) : PSsD X g sts ts := fun b σ H env Dd E hd xl ht el pins s J => p.run pins s σ H E J (h b σ H env Dd E hd xl ht el)
def sNext : TSD := fun Dd env => Dd.nx env
def sSeq (t u : TSD) : TSD := fun Dd env => t { Dd with nx := u Dd } env
theorem ds_nil : PSsD X g [] sNext := pssd_of pss_nil fun b σ H env Dd E hd xl h el => el.nx _ _ _ hd h
theorem ds_cons (h1 : PSD X g st t) (h2 : PSsD X g rest u) : PSsD X g (st :: rest) (sSeq t u) := pssd_of (pss_cons ps_w pss_w) fun b σ H env Dd E hd xl h el =>
  h1 b σ H env _ _ hd xl h ⟨fun σ' H' env' hd' h' => h2 b σ' H' env' _ _ hd' xl h' el, el.rt, el.bk, el.ct⟩
theorem ds_one (h1 : PSD X g st t) : PSsD X g [st] t := pssd_of (pss_one ps_w) h1
def sRet (td : TED) : TSD := fun Dd env => td env Dd.rt
theorem ds_ret (he : PED X g e td) : PSD X g (.Return (some e) pos) (sRet td) := psd_of (ps_ret pe_w) fun b σ H env Dd E hd xl h el => he b σ H env _ _ hd xl h fun v d H1 e1 dn q => el.rt v d H1 (hd.ext.trans e1) dn q
def sIf (c : TTD) (t u : TSD) : TSD := fun Dd env => c env fun b => if b = true then t Dd env else u Dd env
theorem ds_if {c : Expr} (hc : PTD X g c tt) (ha : PSsD X g sts t) (hb : PSsD X g sts2 u) : PSD X g (.If c sts sts2 pos) (sIf tt t u) := psd_of (ps_if pt_w pss_w pss_w) fun b σ H env Dd E hd xl h el =>
  hc b σ H env _ _ hd xl h fun c H1 e1 h1 => by
    cases c with
    | true => rw [if_pos rfl] at h1 ⊢; exact ha b σ H1 env Dd E (hd.mono e1) xl h1 el
    | false => rw [if_neg Bool.false_ne_true] at h1 ⊢; exact hb b σ H1 env Dd E (hd.mono e1) xl h1 el
def noOwn : DEnv → Bool
  | [] => true
  | .own _ :: _ => false
  | .val _ :: r => noOwn r
  | .no :: r => noOwn r
theorem noOwn_get : ∀ {env : DEnv}, noOwn env = true → ∀ {i : Nat} {xs : List D}, env[i]? ≠ some (Slot.own xs)
  | [], _, i, xs => by simp
  | .own _ :: _, h, _, _ => by simp [noOwn] at h
  | .val d :: r, h, 0, xs => by simp
  | .no :: r, h, 0, xs => by simp
  | .val d :: r, h, i + 1, xs => by simpa using noOwn_get (env := r) (by simpa [noOwn] using h) (i := i) (xs := xs)
  | .no :: r, h, i + 1, xs => by simpa using noOwn_get (env := r) (by simpa [noOwn] using h) (i := i) (xs := xs)
def keepable (env : DEnv) (i : Nat) (d : D) : Prop := noOwn (env.set i .no) = true ∨ d.noLst = true
theorem get_set {α : Type} {l : List α} {i j : Nat} {x y : α} (h : (l.set i x)[j]? = some y) : (j = i ∧ y = x) ∨ (j ≠ i ∧ l[j]? = some y) := by
  by_cases e : j = i
  · subst e
    by_cases hl : j < l.length
    · rw [List.getElem?_set_self hl] at h
      exact .inl ⟨rfl, (Option.some.inj h).symm⟩
    · rw [List.getElem?_eq_none (by rw [List.length_set]; omega)] at h
      cases h
  · rw [List.getElem?_set_ne (Ne.symm e)] at h
    exact .inr ⟨e, h⟩
theorem DenE.put {K : PySem.W.Frag} {I : HI} {b : B0} {σ : L2.St} {H : Hp} {env : DEnv} (h : DenE K I b σ H env) {i : Nat} {v : V} {d : D} (dn : Den K I.own H v d) (kp : keepable env i d) : DenE K I b (σ.set i (some v)) H (env.set i (.val d)) := by
  obtain ⟨oa, h1, h2, h3, h4⟩ := h.slots
  have sub : ∀ a, AvOf I (env.set i (.val d)) oa a → AvOf I env oa a := fun a z => z.imp id fun ⟨j, xs, e, q⟩ => by
    rcases get_set e with ⟨_, e⟩ | ⟨_, e⟩
    · cases e
    · exact ⟨j, xs, e, q⟩
  refine ⟨by rw [List.length_set, List.length_set]; exact h.len, h.ext, oa, fun j xs e => ?_, fun j k xs ys e1 e2 => ?_, fun j d' e => ?_, fun p hp => Den.weak sub _ _ (h4 p hp)⟩
  · rcases get_set e with ⟨_, e⟩ | ⟨ne, e⟩
    · cases e
    · obtain ⟨⟨vs, e1, e2, e3⟩, e4⟩ := h1 j xs e
      exact ⟨⟨vs, by rw [List.getElem?_set_ne (Ne.symm ne)]; exact e1, e2, DenA.weak sub _ _ e3⟩, e4⟩
  · rcases get_set e1 with ⟨_, e1⟩ | ⟨_, e1⟩
    · cases e1
    · rcases get_set e2 with ⟨_, e2⟩ | ⟨_, e2⟩
      · cases e2
      · exact h2 j k xs ys e1 e2
  · rcases get_set e with ⟨ej, ed⟩ | ⟨ne, e⟩
    · have hl : j < σ.length := by
        rw [h.len]
        have := (List.getElem?_eq_some_iff.mp e).1
        rwa [List.length_set] at this
      subst ej
      have ed := Slot.val.inj ed
      subst ed
      refine ⟨v, by rw [List.getElem?_set_self hl], ?_⟩
      rcases kp with kp | kp
      · refine Den.weak (fun a z => ?_) _ _ dn
        rcases z with z | ⟨k, xs, e, _⟩
        · exact z
        · exfalso
          rcases get_set e with ⟨_, e⟩ | ⟨ne, e⟩
          · cases e
          · exact noOwn_get kp (i := k) (xs := xs) (by rw [List.getElem?_set_ne (Ne.symm ne)]; exact e)
      · refine Den.weak (fun a z => ?_) _ _ (Den.apart (P := fun a => ∃ (k : Nat) (xs : List D), env[k]? = some (Slot.own xs) ∧ a = oa k) (fun a ⟨k, xs, e, q⟩ => ?_) _ _ kp dn)
        · rcases z with z | ⟨k, xs, e, q⟩
          · exact .inl z
          · rcases get_set e with ⟨_, e⟩ | ⟨ne, e⟩
            · cases e
            · exact .inr ⟨k, xs, e, q⟩
        · obtain ⟨⟨vs, _, e2, _⟩, _⟩ := h1 k xs e
          rw [q]
          exact ⟨vs, e2⟩
    · obtain ⟨w, e1, e2⟩ := h3 j d' e
      exact ⟨w, by rw [List.getElem?_set_ne (Ne.symm ne)]; exact e1, Den.weak sub _ _ e2⟩
def sAsg (i : Nat) (td : TED) : TSD := fun Dd env => td env fun d => keepable env i d ∧ Dd.nx (env.set i (.val d))
theorem ds_set {i : Nat} {x : Str} {pos' : Pos} (hN : X.N.Nodup) (hi : X.N[i]? = some x) (hx : Loc X.env.scope x) (he : PED X g e td) (hs : swapsWith e (some (.Name x pos')) pos.line X.env = pure false := by rfl)
    (hf : X.fn x = true ∨ X.env.scope.names.lookup x = some .local := by first | exact .inl rfl | exact .inr rfl | assumption) : PSD X g (.Assign [.Name x pos'] e pos) (sAsg i td) :=
  psd_of (ps_set hN hi hx pe_w hs hf) fun b σ H env Dd E hd xl h el => he b σ H env _ _ hd xl h fun v d H1 e1 dn ⟨kp, q⟩ => el.nx _ _ _ ((hd.mono e1).put dn kp) q
end
end Dl

namespace Dl
open PySem PySem.Spec PyProof.Rows L2

section
variable {K : PySem.W.Frag} {I : HI} {b : B0} {σ : L2.St} {H H' : Hp} {env : DEnv}
theorem Kp.back {Av : Addr → Prop} {p : Addr} (k : Kp Av H H') (ha : Av p → H' p ≠ none) (h : H' p = none) : H p = none := by
  cases e : H p with
  | none => rfl
  | some o =>
    by_cases n : Av p
    · exact absurd h (ha n)
    · rw [k p o n e] at h; cases h
theorem Ext.back {p : Addr} (e : Ext I H H') (h : H' p = none) : H p = none := e.1.back (fun n => I.dom H' p e.2 (I.sub p n)) h
theorem Ext.ofNew (ok : I.ok H) (k : Kp (fun _ => False) H H') : Ext I H H' :=
  ⟨k.weak fun _ z => z.elim, I.loc H H' (fun a f => by
    cases e : H a with
    | none => exact absurd e (I.dom H a ok f)
    | some o => exact k a o id e) ok⟩
def frzS : Slot → Slot
  | .own xs => .val (.lst xs)
  | .val d => .val d
  | .no => .no
def frz (env : DEnv) : DEnv := env.map frzS
theorem frz_no {i : Nat} {xs : List D} : (frz env)[i]? ≠ some (Slot.own xs) := fun h => by
  unfold frz at h
  rw [List.getElem?_map] at h
  cases e : env[i]? with
  | none => rw [e] at h; cases h
  | some s => rw [e] at h; cases s <;> cases h
theorem noOwn_frz : ∀ env : DEnv, noOwn (frz env) = true
  | [] => rfl
  | .own _ :: r => noOwn_frz r
  | .val _ :: r => noOwn_frz r
  | .no :: r => noOwn_frz r
theorem DenE.frz (h : DenE K I b σ H env) : DenE K I b σ H (frz env) := by
  obtain ⟨oa, h1, h2, h3, h4⟩ := h.slots
  have sub : ∀ a, AvOf I (Dl.frz env) oa a → I.own a := fun a z => z.elim id fun ⟨i, xs, e, _⟩ => absurd e frz_no
  have sub2 : ∀ a, AvOf I (Dl.frz env) oa a → AvOf I env oa a := fun a z => .inl (sub a z)
  refine ⟨by rw [h.len]; unfold Dl.frz; rw [List.length_map], h.ext, oa, fun i xs e => absurd e frz_no, fun i j xs ys e => absurd e frz_no, fun i d e => ?_, fun p hp => Den.weak sub2 _ _ (h4 p hp)⟩
  have e2 : (env[i]?).map frzS = some (.val d) := by rw [← List.getElem?_map]; exact e
  obtain ⟨s, e3, e4⟩ := Option.map_eq_some_iff.mp e2
  cases s with
  | no => cases e4
  | val d' =>
    have ed := Slot.val.inj e4
    subst ed
    obtain ⟨v, q1, q2⟩ := h3 i d' e3
    exact ⟨v, q1, Den.weak sub2 _ _ q2⟩
  | own xs =>
    have ed := Slot.val.inj e4
    subst ed
    obtain ⟨⟨vs, q1, q2, q3⟩, _, q5⟩ := h1 i xs e3
    refine ⟨_, q1, ?_⟩
    simp only [Den]
    exact ⟨_, vs, rfl, q2, fun z => q5 (I.sub _ (sub _ z)), DenA.weak sub2 _ _ q3⟩
theorem DenE.hold (h : DenE K I b σ H env) {v : V} {d : D} (dn : Den K I.own H v d) (kp : noOwn env = true ∨ d.noLst = true) : DenE K I ⟨b.H0, (v, d) :: b.hs⟩ σ H env := by
  obtain ⟨oa, h1, h2, h3, h4⟩ := h.slots
  refine ⟨h.len, h.ext, oa, h1, h2, h3, fun p hp => ?_⟩
  rcases List.mem_cons.mp hp with e | hp
  · subst e
    rcases kp with kp | kp
    · exact Den.weak (fun a z => z.elim id fun ⟨k, xs, e, _⟩ => absurd e (noOwn_get kp)) _ _ dn
    · refine Den.weak (fun a z => z) _ _ (Den.apart (P := fun a => ∃ (k : Nat) (xs : List D), env[k]? = some (Slot.own xs) ∧ a = oa k) (fun a ⟨k, xs, e, q⟩ => ?_) _ _ kp dn)
      obtain ⟨⟨vs, _, e2, _⟩, _⟩ := h1 k xs e
      rw [q]; exact ⟨vs, e2⟩
  · exact h4 p hp
theorem DenE.unhold {hw : List (V × D)} (h : DenE K I ⟨b.H0, hw ++ b.hs⟩ σ H env) : DenE K I b σ H env := by
  obtain ⟨oa, h1, h2, h3, h4⟩ := h.slots
  exact ⟨h.len, h.ext, oa, h1, h2, h3, fun p hp => h4 p (List.mem_append_right _ hp)⟩
theorem DenE.putH {v : V} {d : D} (h : DenE K I ⟨b.H0, (v, d) :: b.hs⟩ σ H env) (i : Nat) : DenE K I b (σ.set i (some v)) H (env.set i (.val d)) := by
  obtain ⟨oa, h1, h2, h3, h4⟩ := h.slots
  have sub : ∀ a, AvOf I (env.set i (.val d)) oa a → AvOf I env oa a := fun a z => z.imp id fun ⟨j, xs, e, q⟩ => by
    rcases get_set e with ⟨_, e⟩ | ⟨_, e⟩
    · cases e
    · exact ⟨j, xs, e, q⟩
  refine ⟨by rw [List.length_set, List.length_set]; exact h.len, h.ext, oa, fun j xs e => ?_, fun j k xs ys e1 e2 => ?_, fun j d' e => ?_, fun p hp => Den.weak sub _ _ (h4 p (List.mem_cons_of_mem _ hp))⟩
  · rcases get_set e with ⟨_, e⟩ | ⟨ne, e⟩
    · cases e
    · obtain ⟨⟨vs, e1, e2, e3⟩, e4⟩ := h1 j xs e
      exact ⟨⟨vs, by rw [List.getElem?_set_ne (Ne.symm ne)]; exact e1, e2, DenA.weak sub _ _ e3⟩, e4⟩
  · rcases get_set e1 with ⟨_, e1⟩ | ⟨_, e1⟩
    · cases e1
    · rcases get_set e2 with ⟨_, e2⟩ | ⟨_, e2⟩
      · cases e2
      · exact h2 j k xs ys e1 e2
  · rcases get_set e with ⟨ej, ed⟩ | ⟨ne, e⟩
    · have hl : j < σ.length := by
        rw [h.len]
        have := (List.getElem?_eq_some_iff.mp e).1
        rwa [List.length_set] at this
      subst ej
      have ed := Slot.val.inj ed
      subst ed
      exact ⟨v, by rw [List.getElem?_set_self hl], Den.weak sub _ _ (h4 (v, d') List.mem_cons_self)⟩
    · obtain ⟨w, e1, e2⟩ := h3 j d' e
      exact ⟨w, by rw [List.getElem?_set_ne (Ne.symm ne)]; exact e1, Den.weak sub _ _ e2⟩
end

abbrev TGD := D → DEnv → (DEnv → Prop) → Prop
def wG (X : Cx) (tg : Expr) : TG := fun v σ H Q => ∀ pins s u, Inv X pins σ H s → RelV v u → wpAny (model X.prog X.w) X.A (assign tg X.env u) (fun _ s' => ∃ σ' H', Inv X pins σ' H' s' ∧ Q σ' H') X.xe s
def SG (K : PySem.W.Frag) (g : Gx) (gt : TG) (gd : TGD) : Prop :=
  ∀ (b : B0) (σ : L2.St) (H : Hp) (env : DEnv) (v : V) (d : D) (Qd : DEnv → Prop) (Q : L2.St → Hp → Prop), DenE K g.I ⟨b.H0, (v, d) :: b.hs⟩ σ H env → gd d env Qd → (∀ σ' H' env', DenE K g.I b σ' H' env' → Ext g.I H H' → Qd env' → Q σ' H') → gt v σ H Q
def PGD (X : Cx) (g : Gx) (tg : Expr) (gd : TGD) : Prop := SG X.K g (wG X tg) gd
section
variable {X : Cx} {g : Gx} {tg : Expr} {pos : Pos} {gt : TG} {gd : TGD}
theorem pg_w : PG X tg (wG X tg) := ⟨fun pins s σ H v u Q J r h => h pins s u J r⟩
theorem pgd_of (p : PG X tg gt) (h : SG X.K g gt gd) : PGD X g tg gd := fun b σ H env v d Qd Q hd ht k pins s u J r => p.run pins s σ H v u Q J r (h b σ H env v d Qd Q hd ht k)
def gdName (i : Nat) : TGD := fun d env Q => Q (env.set i (.val d))
theorem sg_name {K : PySem.W.Frag} {i : Nat} : SG K g (gName i) (gdName i) := fun b σ H env v d Qd Q hd h k => k _ _ _ (hd.putH i) (.refl hd.ok) h
theorem dg_name {i : Nat} {x : Str} (hN : X.N.Nodup) (hi : X.N[i]? = some x) (hx : Loc X.env.scope x) (hf : X.fn x = true ∨ X.env.scope.names.lookup x = some .local := by first | exact .inl rfl | exact .inr rfl | assumption) : PGD X g (.Name x pos) (gdName i) :=
  pgd_of (pg_name hN hi hx hf) sg_name
end

def ItD (K : PySem.W.Frag) (J : It) (hw : List (V × D)) (ds : List D) : Prop :=
  ∀ (Av : Addr → Prop) (H : Hp), (∀ p ∈ hw, Den K Av H p.1 p.2) → (∀ a, Av a → H a ≠ none) →
    (∀ i, i < ds.length → J.go i H ∧ ∀ x H', J.yld i H x H' → Kp (fun _ => False) H H' ∧ ∃ d, ds[i]? = some d ∧ Den K Av H' x d) ∧ J.stop ds.length H
abbrev TID := DEnv → (List D → Prop) → Prop
def wI (X : Cx) (tg it : Expr) : TI := fun σ H R => ∀ pins s, Inv X pins σ H s → wpAny (model X.prog X.w) X.A (eval it X.env) (fun v s1 => wpAny (model X.prog X.w) X.A (pyIter v) (PIE X pins σ tg R) X.xe s1) X.xe s
def SI (K : PySem.W.Frag) (g : Gx) (wi : TI) (td : TID) : Prop :=
  ∀ (b : B0) (σ : L2.St) (H : Hp) (env : DEnv) (Qd : List D → Prop) (R : It → Hp → Prop), DenE K g.I b σ H env → XL K g b → td env Qd →
    (∀ J H' hw ds, DenE K g.I ⟨b.H0, hw ++ b.hs⟩ σ H' env → Ext g.I H H' → ItD K J hw ds → Qd ds → R J H') → wi σ H R
def PID (X : Cx) (g : Gx) (tg it : Expr) (td : TID) : Prop := SI X.K g (wI X tg it) td
section
variable {X : Cx} {g : Gx} {tg it e a : Expr} {es : List Expr} {pos p : Pos} {wi : TI} {td : TED} {tid : TID} {tas : TAD}
theorem pi_w : PI X tg it (wI X tg it) := ⟨fun pins s σ H R J h => h pins s J⟩
theorem pid_of (p : PI X tg it wi) (h : SI X.K g wi tid) : PID X g tg it tid := fun b σ H env Qd R hd xl ht k pins s J => p.run pins s σ H R J (h b σ H env Qd R hd xl ht k)
def rngD (lo : Int) (n : Nat) : List D := (List.range n).map fun (i : Nat) => D.int (lo + (i : Int))
theorem rngD_len {lo : Int} {n : Nat} : (rngD lo n).length = n := by simp [rngD]
theorem rngD_get {lo : Int} {n i : Nat} (h : i < n) : (rngD lo n)[i]? = some (.int (lo + (i : Int))) := by simp [rngD, h]
theorem itd_rng {K : PySem.W.Frag} {lo : Int} {n : Nat} : ItD K (Itr lo n) [] (rngD lo n) := fun Av H hw _ => by
  refine ⟨fun i hi => ?_, by rw [rngD_len]; exact Nat.le_refl n⟩
  rw [rngD_len] at hi
  exact ⟨hi, fun x H' ⟨e, y⟩ => by
    subst e y
    exact ⟨Kp.refl, _, rngD_get hi, by simp only [Den]⟩⟩
def iSeq (K : PySem.W.Frag) (tl : TE) : TI := fun σ H R => tl σ H fun x H1 => (∃ a, x = .ref a ∧ (∃ xs, SqL K H1 a xs) ∧ R (Itl K a) H1) ∨ ∃ a, x = .ref a ∧ (∃ xs, SqT K H1 a xs) ∧ R (Itt K a) H1
theorem pi_seq {l : Expr} {tl : TE} (hl : PE X l tl) : PI X tg l (iSeq X.K tl) := by
  refine ⟨fun pins s σ H R I h => ?_⟩
  refine thn (hl.run pins s σ H _ I h) fun v s1 ⟨x, H1, I1, r1, q1⟩ => ?_
  rcases q1 with ⟨a, e, ⟨xs, hq⟩, q⟩ | ⟨a, e, ⟨xs, hq⟩, q⟩
  · subst e
    cases r1
    obtain ⟨its, rv, p, hz⟩ := I1.list hq
    refine wpAny_pyIter_list p.isList ?_
    refine ⟨s1.heap.objs.size, [s1.heap.objs.size], _, _, H1, rfl, I1.kept (t' := s1.toks) fun b o e => Heap.get?_push_of_some _ e, turn_list a _, ⟨_, Heap.get?_push_size _ rfl, rfl, rfl⟩, fun b hb => ?_, q⟩
    have e : b = s1.heap.objs.size := by simpa using hb
    subst e
    exact I1.fpOk (Nat.le_refl _) (I1.hok.fresh (Nat.le_refl _))
  · subst e
    cases r1
    obtain ⟨its, rv, p, hz⟩ := I1.tuple hq
    refine wpAny_pyIter_tuple (show s1.heap.IsTuple a its.toArray from p) ?_
    refine ⟨s1.heap.objs.size, [s1.heap.objs.size], _, _, H1, rfl, I1.kept (t' := s1.toks) fun b o e => Heap.get?_push_of_some _ e, turn_tuple a _, ⟨_, Heap.get?_push_size _ rfl, rfl, rfl⟩, fun b hb => ?_, q⟩
    have e : b = s1.heap.objs.size := by simpa using hb
    subst e
    exact I1.fpOk (Nat.le_refl _) (I1.hok.fresh (Nat.le_refl _))
def idRng1 (ta : TAD) : TID := fun env Q => ta env fun xs => ∃ j : Int, xs = [.int j] ∧ (-(2 ^ 62) ≤ j ∧ j < 2 ^ 62) ∧ Q (rngD 0 j.toNat)
theorem di_range1 (hg : Gl X "range") (hm : X.mg "range" = none) (ha : PAD X g [a] tas) (hs : starEach [a] X.env = [(false, eval a X.env)] := by rfl) : PID X g tg (.Call (.Name "range" p) [a] [] pos) (idRng1 tas) :=
  pid_of (pi_range1 hg hm pa_w hs) fun b σ H env Qd R hd xl ht k => ha b σ H env _ _ hd xl ht fun vs ds H1 e1 dn ⟨j, e, hj, q⟩ => by
    subst e
    obtain ⟨v, rfl, d1⟩ := dn.one1
    simp only [Den] at d1
    subst d1
    exact ⟨j, rfl, hj.1, hj.2, k _ H1 [] _ (hd.mono e1) e1 itd_rng q⟩
end

def forD (gd : TGD) (tb : TSD) (Dd : DEnds) : List D → DEnv → Prop
  | [], env => Dd.nx env
  | x :: xs, env => gd x env (tb { Dd with nx := forD gd tb Dd xs, ct := forD gd tb Dd xs, bk := Dd.nx })
def sFor (tid : TID) (gd : TGD) (tb : TSD) : TSD := fun Dd env => tid env fun ds => forD gd tb Dd ds env
section
variable {X : Cx} {g : Gx} {tg it : Expr} {body : List Stmt} {pos : Pos} {tid : TID} {gd : TGD} {tb : TSD}
theorem ds_for (hp : PassesOwn (model X.prog X.w) X.A X.env X.xe) (hc : X.calm = true) (hi : PID X g tg it tid) (hg : PGD X g tg gd) (hb : PSsD X g body tb) (hs : ∀ x, foldedSetIterable it X.env x = pure x := by intro _; rfl) :
    PSD X g (.For tg it body [] pos) (sFor tid gd tb) := psd_of (ps_for hp hc pi_w pg_w pss_w hs) fun b σ H env Dd E hd xl h el =>
  hi b σ H env _ _ hd xl h fun J H1 hw ds hd1 e1 it0 q => by
    refine ⟨fun i m σ' H' => m = ds.length - i ∧ i ≤ ds.length ∧ ∃ env', DenE X.K g.I ⟨b.H0, hw ++ b.hs⟩ σ' H' env' ∧ forD gd tb Dd (ds.drop i) env', ⟨ds.length, by simp, Nat.zero_le _, env, hd1, by simpa using q⟩, ?_⟩
    rintro i m σ' H' ⟨rfl, hi', env', hd', q'⟩
    obtain ⟨oa, h1, h2, h3, h4⟩ := hd'.slots
    have hav : ∀ a, AvOf g.I env' oa a → H' a ≠ none := fun a z => by
      rcases z with z | ⟨k, xs, e, q⟩
      · exact g.I.dom H' a hd'.ok (g.I.sub a z)
      · obtain ⟨⟨vs, _, e2, _⟩, _⟩ := h1 k xs e
        rw [q, e2]; exact fun z => nomatch z
    have IT := it0 (AvOf g.I env' oa) H' (fun p hp => h4 p (List.mem_append_left _ hp)) hav
    by_cases hlt : i < ds.length
    · refine .inr ⟨(IT.1 i hlt).1, fun σ2 H2 => ∃ env2, DenE X.K g.I ⟨b.H0, hw ++ b.hs⟩ σ2 H2 env2 ∧ forD gd tb Dd (ds.drop (i + 1)) env2, fun σ2 H2 ⟨env2, p1, p2⟩ => ⟨ds.length - (i + 1), by omega, rfl, hlt, env2, p1, p2⟩, fun x H2 y => ?_⟩
      obtain ⟨kn, d, hd2, dn⟩ := (IT.1 i hlt).2 x H2 y
      have e2 : Ext g.I H' H2 := .ofNew hd'.ok kn
      have q2 : forD gd tb Dd (d :: ds.drop (i + 1)) env' := by
        rw [List.drop_eq_getElem_cons hlt] at q'
        have : d = ds[i] := by
          rw [List.getElem?_eq_getElem hlt] at hd2
          exact (Option.some.inj hd2).symm
        rw [this]; exact q'
      have hd3 := hd'.mono e2
      have held : DenE X.K g.I ⟨b.H0, (x, d) :: (hw ++ b.hs)⟩ σ' H2 env' := by
        have kp : Kp (AvOf g.I env' oa) H' H2 := kn.weak fun _ z => z.elim
        refine ⟨hd3.len, hd3.ext, oa, fun i xs q => ?_, h2, fun i d q => ?_, fun p hp => ?_⟩
        · obtain ⟨⟨vs, e1, e2, e3⟩, e4⟩ := h1 i xs q
          exact ⟨⟨vs, e1, kn _ _ id e2, DenA.keep kp _ _ e3⟩, e4⟩
        · obtain ⟨v, e1, e2⟩ := h3 i d q
          exact ⟨v, e1, Den.keep kp _ _ e2⟩
        · rcases List.mem_cons.mp hp with z | hp
          · rw [z]; exact dn
          · exact Den.keep kp _ _ (h4 p hp)
      refine hg ⟨b.H0, hw ++ b.hs⟩ σ' H2 env' x d _ _ held q2 fun σ3 H3 env3 hd4 e3 q3 => ?_
      refine hb ⟨b.H0, hw ++ b.hs⟩ σ3 H3 env3 _ _ hd4 (fun σ4 H4 env4 xx d4 H5 p1 p2 p3 p4 => xl σ4 H4 env4 xx d4 H5 p1.unhold p2 p3 p4) q3 ⟨fun σ4 H4 env4 p1 p2 => ⟨env4, p1, p2⟩, el.rt, fun σ4 H4 env4 p1 p2 => el.nx _ _ _ p1.unhold p2, fun σ4 H4 env4 p1 p2 => ⟨env4, p1, p2⟩⟩
    · have ei : i = ds.length := by omega
      subst ei
      rw [List.drop_length] at q'
      exact .inl ⟨IT.2, el.nx _ _ _ hd'.unhold q'⟩
end
end Dl

namespace Dl
open PySem PySem.Spec PyProof.Rows L2

abbrev TFD := DEnv → (List D → Prop) → Prop
def SF (K : PySem.W.Frag) (g : Gx) (te : TE) (td : TFD) : Prop :=
  ∀ (b : B0) (σ : L2.St) (H : Hp) (env : DEnv) (Qd : List D → Prop) (Q : VK), DenE K g.I b σ H env → XL K g b → td env Qd →
    (∀ p vs ds H', H p = none → Ext g.I H H' → H' p = some (.lst vs) → DenA K (fun a => g.I.own a ∨ a = p) H' vs ds → Qd ds → Q (.ref p) H') → te σ H Q
def PFD (X : Cx) (g : Gx) (e : Expr) (td : TFD) : Prop := SF X.K g (wE X e) td
def dF (td : TFD) : TED := fun env Q => td env fun ds => Q (.lst ds)
theorem SF.se {K : PySem.W.Frag} {g : Gx} {te : TE} {td : TFD} (h : SF K g te td) : SE K g te (dF td) := fun b σ H env Qd Q hd xl ht k =>
  h b σ H env _ _ hd xl ht fun p vs ds H' hp e hl dn q => k _ _ H' e (by
    simp only [Den]
    exact ⟨p, vs, rfl, hl, HI.nown hd.ok hp, DenA.weak (fun a z => .inl z) _ _ dn⟩) q

def wBE (X : Cx) (sc : Scope) (e : Expr) : TE := fun σ H Q => ∀ s0 H0 C cl fp pins s, Inv (X.blk s0 H0 sc (compEnvC sc cl C X.env) fp) pins σ H s → wpAny (model X.prog X.w) X.A (eval e (compEnvC sc cl C X.env)) (EP (X.blk s0 H0 sc (compEnvC sc cl C X.env) fp) pins σ Q) (fun _ _ => False) s
def wBT (X : Cx) (sc : Scope) (es : List Expr) : TT := fun σ H Q => ∀ s0 H0 C cl fp pins s, Inv (X.blk s0 H0 sc (compEnvC sc cl C X.env) fp) pins σ H s →
  wpAny (model X.prog X.w) X.A (forIn es true fun c r => if r = true then do let ok ← isTrue c (compEnvC sc cl C X.env) (eval c (compEnvC sc cl C X.env)); pure (ForInStep.yield ok) else pure (ForInStep.yield r)) (TP (X.blk s0 H0 sc (compEnvC sc cl C X.env) fp) pins σ Q) (fun _ _ => False) s
section
variable {X : Cx} {g : Gx} {sc : Scope} {e c : Expr} {td : TED} {tt : TTD}
theorem pe_blk {s : Shared} {H : Hp} {C : Addr} {cl : List (Str × Addr)} {fp : List Addr} : PE (X.blk s H sc (compEnvC sc cl C X.env) fp) e (wBE X sc e) := ⟨fun pins s σ H Q I h => h _ _ _ _ _ pins s I⟩
theorem pt_blk {es : List Expr} {s : Shared} {H : Hp} {C : Addr} {cl : List (Str × Addr)} {fp : List Addr} : PTs (X.blk s H sc (compEnvC sc cl C X.env) fp) es (wBT X sc es) := ⟨fun pins s σ H Q I h => h _ _ _ _ _ pins s I⟩
theorem be_of (h : ∀ (s : Shared) (H : Hp) (C : Addr) (cl : List (Str × Addr)) (fp : List Addr), PED (X.blk s H sc (compEnvC sc cl C X.env) fp) g.nox e td) : SE X.K g.nox (wBE X sc e) td :=
  fun b σ H env Qd Q hd xl ht k s0 H0 C cl fp pins s J => h s0 H0 C cl fp b σ H env Qd Q hd xl ht k pins s J
theorem bt_one (h : ∀ (s : Shared) (H : Hp) (C : Addr) (cl : List (Str × Addr)) (fp : List Addr), PTD (X.blk s H sc (compEnvC sc cl C X.env) fp) g.nox c tt) : ST X.K g.nox (wBT X sc [c]) tt :=
  fun b σ H env Qd Q hd xl ht k s0 H0 C cl fp pins s J => (pts_one pt_w).run pins s σ H Q J (h s0 H0 C cl fp b σ H env Qd Q hd xl ht k)
end
def wipeD (env : DEnv) : List Nat → DEnv
  | [] => env
  | v :: vs => (wipeD env vs).set v .no
def lcD (gd : TGD) (tt : TTD) (te : TED) (env : DEnv) : List D → List D → (List D → Prop) → Prop
  | [], acc, Q => Q acc
  | x :: xs, acc, Q => gd x env fun env2 => tt env2 fun b => if b = true then te env2 fun y => y.noLst = true ∧ lcD gd tt te env xs (acc ++ [y]) Q else lcD gd tt te env xs acc Q
def fLc (tid : TID) (gd : TGD) (tt : TTD) (te : TED) (vs : List Nat) : TFD := fun env Q => tid (frz env) fun ds => ds.length ≤ 1000000 ∧ lcD gd tt te (wipeD (frz env) vs) ds [] Q
def GW (gt : TG) (vs : List Nat) : Prop := ∀ v σ H Q, gt v σ H Q → gt v σ H fun σ2 H2 => wipe σ2 vs = wipe σ vs ∧ Q σ2 H2
theorem wipe_set {σ : L2.St} {i : Nat} {x : Option V} : ∀ {vs : List Nat}, wipe (σ.set i x) vs = if i ∈ vs then wipe σ vs else (wipe σ vs).set i x
  | [] => by simp [wipe]
  | v :: vs => by
    unfold wipe
    rw [wipe_set]
    by_cases h : i ∈ vs
    · rw [if_pos h, if_pos (List.mem_cons_of_mem _ h)]
    · rw [if_neg h]
      by_cases e : i = v
      · subst e
        rw [if_pos List.mem_cons_self, List.set_set]
      · rw [if_neg (fun z => (List.mem_cons.mp z).elim e h), List.set_comm _ _ e]
theorem gw_name {i : Nat} {vs : List Nat} (h : i ∈ vs) : GW (gName i) vs := fun v σ H Q q => ⟨by rw [wipe_set, if_pos h], q⟩
theorem wipe_idem {σ : L2.St} : ∀ vs : List Nat, wipe (wipe σ vs) vs = wipe σ vs := by
  have key : ∀ (ws : List Nat) (τ : L2.St) (vs : List Nat), (∀ w ∈ ws, w ∈ vs) → wipe (wipe τ ws) vs = wipe τ vs := by
    intro ws
    induction ws with
    | nil => intro τ vs _; rfl
    | cons w ws ih =>
      intro τ vs h
      show wipe ((wipe τ ws).set w none) vs = _
      rw [wipe_set, if_pos (h w List.mem_cons_self)]
      exact ih τ vs fun v hv => h v (List.mem_cons_of_mem _ hv)
  exact fun vs => key vs σ vs fun _ h => h
section
variable {K : PySem.W.Frag} {I : HI} {b : B0} {σ : L2.St} {H H' : Hp} {env : DEnv}
theorem DenE.clear (h : DenE K I b σ H env) (i : Nat) : DenE K I b (σ.set i none) H (env.set i .no) := by
  obtain ⟨oa, h1, h2, h3, h4⟩ := h.slots
  have sub : ∀ a, AvOf I (env.set i .no) oa a → AvOf I env oa a := fun a z => z.imp id fun ⟨j, xs, e, q⟩ => by
    rcases get_set e with ⟨_, e⟩ | ⟨_, e⟩
    · cases e
    · exact ⟨j, xs, e, q⟩
  refine ⟨by rw [List.length_set, List.length_set]; exact h.len, h.ext, oa, fun j xs e => ?_, fun j k xs ys e1 e2 => ?_, fun j d' e => ?_, fun p hp => Den.weak sub _ _ (h4 p hp)⟩
  · rcases get_set e with ⟨_, e⟩ | ⟨ne, e⟩
    · cases e
    · obtain ⟨⟨vs, e1, e2, e3⟩, e4⟩ := h1 j xs e
      exact ⟨⟨vs, by rw [List.getElem?_set_ne (Ne.symm ne)]; exact e1, e2, DenA.weak sub _ _ e3⟩, e4⟩
  · rcases get_set e1 with ⟨_, e1⟩ | ⟨_, e1⟩
    · cases e1
    · rcases get_set e2 with ⟨_, e2⟩ | ⟨_, e2⟩
      · cases e2
      · exact h2 j k xs ys e1 e2
  · rcases get_set e with ⟨_, ed⟩ | ⟨ne, e⟩
    · cases ed
    · obtain ⟨w, e1, e2⟩ := h3 j d' e
      exact ⟨w, by rw [List.getElem?_set_ne (Ne.symm ne)]; exact e1, Den.weak sub _ _ e2⟩
theorem DenE.wiped (h : DenE K I b σ H env) : ∀ vs : List Nat, DenE K I b (wipe σ vs) H (wipeD env vs)
  | [] => h
  | v :: vs => (DenE.wiped h vs).clear v
theorem DenE.rebase {hw : List (V × D)} (h : DenE K I ⟨b.H0, hw ++ b.hs⟩ σ H env) (n : noOwn env = true) : DenE K I ⟨H, hw⟩ σ H env := by
  obtain ⟨oa, h1, h2, h3, h4⟩ := h.slots
  exact ⟨h.len, .refl h.ok, oa, fun i xs e => absurd e (noOwn_get n), h2, h3, fun p hp => h4 p (List.mem_append_left _ hp)⟩
theorem noOwn_wipe {env : DEnv} (h : noOwn env = true) : ∀ vs : List Nat, noOwn (wipeD env vs) = true
  | [] => h
  | v :: vs => by
    have ih := noOwn_wipe h vs
    show noOwn ((wipeD env vs).set v .no) = true
    generalize wipeD env vs = e at ih
    clear h
    induction e generalizing v with
    | nil => simp [noOwn]
    | cons s r ihr =>
      cases v with
      | zero => cases s <;> simp_all [noOwn]
      | succ v => cases s <;> simp_all [noOwn]
end
theorem sf_lc {K : PySem.W.Frag} {g : Gx} {wi : TI} {gt : TG} {tt : TT} {te : TE} {vs : List Nat} {tid : TID} {gd : TGD} {td : TTD} {ed : TED} (hi : SI K g wi tid) (hg : SG K g.nox gt gd) (hw : GW gt vs) (ht : ST K g.nox tt td) (he : SE K g.nox te ed) :
    SF K g (tLc wi gt tt te vs) (fLc tid gd td ed vs) := fun b σ H env Qd Q hd xl hq k => by
  refine hi b σ H (frz env) _ _ hd.frz xl hq fun J H1 hws ds hd1 e1 it0 ⟨hlen, q⟩ => ?_
  intro D hD
  have hH : H D = none := e1.back hD
  have hE : DenE K g.I ⟨H1, hws⟩ (wipe σ vs) H1 (wipeD (frz env) vs) := (hd1.rebase (noOwn_frz env)).wiped vs
  have hno := noOwn_wipe (noOwn_frz env) vs
  have nD : ¬ g.I.own D := HI.nown e1.2 hD
  refine ⟨fun i m H' => m = ds.length - i ∧ i ≤ ds.length ∧ ∃ acc avs, H' D = some (.lst avs) ∧ avs.length ≤ i ∧ DenA K (fun a => g.I.own a ∨ a = D) H' avs acc ∧ Kp g.I.own H1 H' ∧ g.I.ok H' ∧ lcD gd td ed (wipeD (frz env) vs) (ds.drop i) acc Qd,
    ⟨ds.length, by simp, Nat.zero_le _, [], [], upd_same, Nat.zero_le _, by simp only [DenA], Kp.new hD, (Ext.new e1.2 hD).2, by simpa using q⟩, ?_⟩
  rintro i m H' ⟨rfl, hi', acc, avs, hl, hal, da, kp, ok, q'⟩
  have eH : Ext g.I H1 H' := ⟨kp, ok⟩
  have hE' := hE.mono eH
  obtain ⟨oa, h1, h2, h3, h4⟩ := id hE'.slots
  have IT := it0 g.I.own H' (fun p hp => Den.weak (fun a z => .inl z) _ _ (h4 p hp)) (fun a z => g.I.dom H' a ok (g.I.sub a z))
  by_cases hlt : i < ds.length
  · refine .inr ⟨(IT.1 i hlt).1, fun H2 => ∃ acc avs, H2 D = some (.lst avs) ∧ avs.length ≤ i + 1 ∧ DenA K (fun a => g.I.own a ∨ a = D) H2 avs acc ∧ Kp g.I.own H1 H2 ∧ g.I.ok H2 ∧ lcD gd td ed (wipeD (frz env) vs) (ds.drop (i + 1)) acc Qd,
      fun H2 h => ⟨ds.length - (i + 1), by omega, rfl, hlt, h⟩, fun x H2 y => ?_⟩
    obtain ⟨kn, d, hd2, dn⟩ := (IT.1 i hlt).2 x H2 y
    have e2 : Ext g.I H' H2 := .ofNew ok kn
    have q2 : lcD gd td ed (wipeD (frz env) vs) (d :: ds.drop (i + 1)) acc Qd := by
      rw [List.drop_eq_getElem_cons hlt] at q'
      have : d = ds[i] := by
        rw [List.getElem?_eq_getElem hlt] at hd2
        exact (Option.some.inj hd2).symm
      rw [this]; exact q'
    have held := (hE'.mono e2).hold dn (.inl hno)
    have wi2 : wipe (wipe σ vs) vs = wipe σ vs := wipe_idem vs
    refine (show gt x (wipe σ vs) H2 _ from ?_)
    have step := hw x (wipe σ vs) H2 _ (hg ⟨H1, hws⟩ (wipe σ vs) H2 _ x d _ (fun σ2 H3 => tt σ2 H3 fun b H4 => if b = true then te σ2 H4 fun y H5 => ∃ acc, H5 D = some (.lst acc) ∧ acc.length < sizeLine ∧
        (∃ acc' avs, (upd H5 D (.lst (acc ++ [y]))) D = some (.lst avs) ∧ avs.length ≤ i + 1 ∧ DenA K (fun a => g.I.own a ∨ a = D) (upd H5 D (.lst (acc ++ [y]))) avs acc' ∧ Kp g.I.own H1 (upd H5 D (.lst (acc ++ [y]))) ∧ g.I.ok (upd H5 D (.lst (acc ++ [y]))) ∧ lcD gd td ed (wipeD (frz env) vs) (ds.drop (i + 1)) acc' Qd)
        else ∃ acc avs, H4 D = some (.lst avs) ∧ avs.length ≤ i + 1 ∧ DenA K (fun a => g.I.own a ∨ a = D) H4 avs acc ∧ Kp g.I.own H1 H4 ∧ g.I.ok H4 ∧ lcD gd td ed (wipeD (frz env) vs) (ds.drop (i + 1)) acc Qd) held q2 fun σ3 H3 env3 hd3 e3 q3 => ?_)
    · rw [wi2] at step
      exact step
    · refine ht ⟨H1, hws⟩ σ3 H3 env3 _ _ hd3 XL.nox q3 fun c H4 e4 q4 => ?_
      have x4 : Ext g.I H' H4 := e2.trans (e3.trans e4)
      have l4 : H4 D = some (.lst avs) := x4.1 D _ nD hl
      have d4 : DenA K (fun a => g.I.own a ∨ a = D) H4 avs acc := DenA.keep (x4.1.weak fun a z => .inl z) _ _ da
      cases c with
      | false =>
        rw [if_neg Bool.false_ne_true] at q4 ⊢
        exact ⟨acc, avs, l4, by omega, d4, kp.trans x4.1, x4.2, q4⟩
      | true =>
        rw [if_pos rfl] at q4 ⊢
        refine he ⟨H1, hws⟩ σ3 H4 env3 _ _ (hd3.mono e4) XL.nox q4 fun yv yd H5 e5 dn5 ⟨nl, q5⟩ => ?_
        have l5 : H5 D = some (.lst avs) := e5.1 D _ nD l4
        have d5 : DenA K (fun a => g.I.own a ∨ a = D) H5 avs acc := DenA.keep (e5.1.weak fun a z => .inl z) _ _ d4
        have y5 : Den K (fun a => g.I.own a ∨ a = D) H5 yv yd := Den.apart (P := fun a => a = D) (fun a z => ⟨avs, by rw [z]; exact l5⟩) _ _ nl dn5
        have mu : Kp (fun a => g.I.own a ∨ a = D) H5 (upd H5 D (.lst (avs ++ [yv]))) := Kp.mut (.inr rfl)
        have k5 : Kp g.I.own H1 H5 := kp.trans (x4.1.trans e5.1)
        refine ⟨avs, l5, Nat.lt_of_le_of_lt hal (Nat.lt_of_lt_of_le hlt (Nat.le_trans hlen (by decide))), acc ++ [yd], avs ++ [yv], upd_same, by rw [List.length_append]; simpa using hal, DenA.keep mu _ _ (d5.app (.one y5)), fun a o n e => ?_, ?_, q5⟩
        · rw [upd_ne (ne_of_none e hD)]
          exact k5 a o n e
        · refine g.I.loc H5 _ (fun a f => upd_ne (fun z => ?_)) e5.2
          rw [z] at f
          exact g.I.dom H1 D e1.2 f hD
  · have ei : i = ds.length := by omega
    subst ei
    rw [List.drop_length] at q'
    exact .inl ⟨IT.2, k D avs acc H' hH (e1.trans eH) hl da q'⟩
section
variable {X : Cx} {g : Gx} {elt tg iter : Expr} {ifs : List Expr} {scope : Scope} {own : List (Str × Nat)} {pos : Pos} {gt : TG} {tid : TID} {gd : TGD} {td : TTD} {ed : TED}
theorem f_lc (hc : X.calm = true) (hN : X.N.Nodup) (hi : PID X g tg iter tid) (ok : BlkOk X.N X.env.scope scope own)
    (hg : ∀ (s : Shared) (H : Hp) (C : Addr) (cl : List (Str × Addr)) (fp : List Addr), PG (X.blk s H scope (compEnvC scope cl C X.env) fp) tg gt) (sg : SG X.K g.nox gt gd) (gw : GW gt (own.map (·.2)))
    (ht : ST X.K g.nox (wBT X scope ifs) td) (he : SE X.K g.nox (wBE X scope elt) ed) (hs : ∀ x, foldedSetIterable iter X.env x = pure x := by intro _; rfl) :
    PFD X g (.ListComp elt [⟨tg, iter, ifs, 0⟩] scope pos) (fLc tid gd td ed (own.map (·.2))) := fun b σ H env Qd Q hd xl hq k pins s J =>
  (pe_lc hc hN pi_w ok hg (fun _ _ _ _ _ => pt_blk) (fun _ _ _ _ _ => pe_blk) hs).run pins s σ H Q J (sf_lc hi sg gw ht he b σ H env Qd Q hd xl hq k)
end
end Dl

namespace Dl
open PySem PySem.Spec PyProof.Rows L2

def up (oa : Nat → Addr) (i : Nat) (p : Addr) : Nat → Addr := fun k => if k = i then p else oa k
theorem up_same {oa : Nat → Addr} {i : Nat} {p : Addr} : up oa i p i = p := if_pos rfl
theorem up_ne {oa : Nat → Addr} {i k : Nat} {p : Addr} (h : k ≠ i) : up oa i p k = oa k := if_neg h
section
variable {K : PySem.W.Frag} {I : HI} {b : B0} {σ : L2.St} {H H' : Hp} {env : DEnv}
theorem DenE.putNew (h : DenE K I b σ H env) {i : Nat} {p : Addr} {vs : List V} {ds : List D} (hi : i < env.length) (hp : H p = none) (e : Ext I H H') (hl : H' p = some (.lst vs)) (dn : DenA K (fun a => I.own a ∨ a = p) H' vs ds)
    (kp : noOwn (env.set i .no) = true ∨ noLstA ds = true) : DenE K I b (σ.set i (some (.ref p))) H' (env.set i (.own ds)) := by
  obtain ⟨oa, h1, h2, h3, h4⟩ := h.slots
  have np : ∀ k xs, env[k]? = some (Slot.own xs) → oa k ≠ p := fun k xs q z => by
    obtain ⟨⟨ws, _, e2, _⟩, _⟩ := h1 k xs q
    rw [z, hp] at e2
    cases e2
  have sub : ∀ a, AvOf I (env.set i (.own ds)) (up oa i p) a → AvOf I env oa a ∨ a = p := fun a z => by
    rcases z with z | ⟨j, xs, q, z⟩
    · exact .inl (.inl z)
    · rcases get_set q with ⟨ej, _⟩ | ⟨ne, q⟩
      · rw [ej, up_same] at z
        exact .inr z
      · rw [up_ne ne] at z
        exact .inl (.inr ⟨j, xs, q, z⟩)
  have kk : Kp (fun a => AvOf I env oa a ∨ a = p) H H' := e.1.weak fun a z => .inl (.inl z)
  have str : ∀ d v, Den K (AvOf I env oa) H v d → Den K (AvOf I (env.set i (.own ds)) (up oa i p)) H' v d := fun d v q => Den.weak sub _ _ (Den.keep kk _ _ (Den.fresh hp _ _ q))
  have strA : ∀ d v, DenA K (AvOf I env oa) H v d → DenA K (AvOf I (env.set i (.own ds)) (up oa i p)) H' v d := fun d v q => DenA.weak sub _ _ (DenA.keep kk _ _ (DenA.fresh hp _ _ q))
  refine ⟨by rw [List.length_set, List.length_set]; exact h.len, h.ext.trans e, up oa i p, fun j xs q => ?_, fun j k xs ys q1 q2 hjk => ?_, fun j d q => ?_, fun q hq => str _ _ (h4 q hq)⟩
  · rcases get_set q with ⟨ej, ed⟩ | ⟨ne, q⟩
    · subst ej
      have ed := Slot.own.inj ed
      subst ed
      refine ⟨⟨vs, ?_, ?_, ?_⟩, ?_, ?_⟩
      · rw [up_same, List.getElem?_set_self (by rw [h.len]; exact hi)]
      · rw [up_same]; exact hl
      · rcases kp with kp | kp
        · refine DenA.weak (fun a z => ?_) _ _ dn
          rcases z with z | ⟨k, ys, q2, z⟩
          · exact .inl z
          · rcases get_set q2 with ⟨ek, _⟩ | ⟨ne, q2⟩
            · rw [ek, up_same] at z
              exact .inr z
            · exact absurd (show (env.set j .no)[k]? = some (Slot.own ys) from by rw [List.getElem?_set_ne (Ne.symm ne)]; exact q2) (noOwn_get kp)
        · refine DenA.weak (fun a z => ?_) _ _ (DenA.apart (P := fun a => ∃ (k : Nat) (ys : List D), env[k]? = some (Slot.own ys) ∧ a = oa k) (fun a ⟨k, ys, q2, z⟩ => ?_) _ _ kp dn)
          · rcases z with z | ⟨k, ys, q2, z⟩
            · exact .inl (.inl z)
            · rcases get_set q2 with ⟨ek, _⟩ | ⟨ne, q2⟩
              · rw [ek, up_same] at z
                exact .inl (.inr z)
              · rw [up_ne ne] at z
                exact .inr ⟨k, ys, q2, z⟩
          · obtain ⟨⟨ws, _, e2, _⟩, _, e5⟩ := h1 k ys q2
            rw [z]
            exact ⟨ws, e.1 _ _ (fun z => e5 (I.sub _ z)) e2⟩
      · rw [up_same]; exact h.ext.back hp
      · rw [up_same]; exact fun z => I.dom H p h.ok z hp
    · obtain ⟨⟨ws, e1, e2, e3⟩, e4, e5⟩ := h1 j xs q
      refine ⟨⟨ws, ?_, ?_, strA _ _ e3⟩, ?_, ?_⟩
      · rw [up_ne ne, List.getElem?_set_ne (Ne.symm ne)]; exact e1
      · rw [up_ne ne]; exact e.1 _ _ (fun z => e5 (I.sub _ z)) e2
      · rw [up_ne ne]; exact e4
      · rw [up_ne ne]; exact e5
  · rcases get_set q1 with ⟨ej, _⟩ | ⟨nj, q1⟩ <;> rcases get_set q2 with ⟨ek, _⟩ | ⟨nk, q2⟩
    · rw [ej, ek]
    · rw [ej, up_same, up_ne nk] at hjk
      exact absurd hjk.symm (np k ys q2)
    · rw [ek, up_same, up_ne nj] at hjk
      exact absurd hjk (np j xs q1)
    · rw [up_ne nj, up_ne nk] at hjk
      exact h2 j k xs ys q1 q2 hjk
  · rcases get_set q with ⟨_, ed⟩ | ⟨ne, q⟩
    · cases ed
    · obtain ⟨v, e1, e2⟩ := h3 j d q
      exact ⟨v, by rw [List.getElem?_set_ne (Ne.symm ne)]; exact e1, str _ _ e2⟩
theorem DenE.wr (h : DenE K I b σ H env) {i : Nat} {xs : List D} (hi : env[i]? = some (.own xs)) : ∃ (a : Addr) (vs : List V) (S : Addr → Prop), σ[i]? = some (some (.ref a)) ∧ H a = some (.lst vs) ∧ DenA K S H vs xs ∧
    (∀ v d, d.noLst = true → Den K I.own H v d → Den K S H v d) ∧ ¬ I.own a ∧ (∀ vs' xs', DenA K S H vs' xs' → DenE K I b σ (upd H a (.lst vs')) (env.set i (.own xs'))) := by
  obtain ⟨oa, h1, h2, h3, h4⟩ := h.slots
  obtain ⟨⟨vs, e1, e2, e3⟩, e4, e5⟩ := h1 i xs hi
  refine ⟨oa i, vs, AvOf I env oa, e1, e2, e3, fun v d nl dn => ?_, fun z => e5 (I.sub _ z), fun vs' xs' dn => ?_⟩
  · refine Den.weak (fun a z => z) _ _ (Den.apart (P := fun a => ∃ (k : Nat) (ys : List D), env[k]? = some (Slot.own ys) ∧ a = oa k) (fun a ⟨k, ys, q2, z⟩ => ?_) _ _ nl dn)
    obtain ⟨⟨ws, _, q, _⟩, _⟩ := h1 k ys q2
    rw [z]; exact ⟨ws, q⟩
  · have hil : i < env.length := (List.getElem?_eq_some_iff.mp hi).1
    have same : ∀ a, AvOf I (env.set i (.own xs')) oa a → AvOf I env oa a := fun a z => z.imp id fun ⟨j, ys, q, z⟩ => by
      rcases get_set q with ⟨ej, _⟩ | ⟨ne, q⟩
      · exact ⟨i, xs, hi, by rw [z, ej]⟩
      · exact ⟨j, ys, q, z⟩
    have inA : AvOf I env oa (oa i) := .inr ⟨i, xs, hi, rfl⟩
    have mu : Kp (AvOf I env oa) H (upd H (oa i) (.lst vs')) := Kp.mut inA
    have ok' : I.ok (upd H (oa i) (.lst vs')) := I.loc H _ (fun a f => upd_ne (fun z => e5 (by rw [← z]; exact f))) h.ok
    refine ⟨by rw [List.length_set]; exact h.len, ⟨fun a o n q => ?_, ok'⟩, oa, fun j ys q => ?_, fun j k ys zs q1 q2 hjk => ?_, fun j d q => ?_, fun p hp => Den.weak same _ _ (Den.keep mu _ _ (h4 p hp))⟩
    · rw [upd_ne (ne_of_none q e4)]
      exact h.ext.1 a o n q
    · rcases get_set q with ⟨ej, ed⟩ | ⟨ne, q⟩
      · subst ej
        have ed := Slot.own.inj ed
        subst ed
        exact ⟨⟨vs', e1, upd_same, DenA.weak same _ _ (DenA.keep mu _ _ dn)⟩, e4, e5⟩
      · obtain ⟨⟨ws, q1, q2, q3⟩, q4⟩ := h1 j ys q
        exact ⟨⟨ws, q1, by rw [upd_ne (fun z => ne (h2 j i ys xs q hi z))]; exact q2, DenA.weak same _ _ (DenA.keep mu _ _ q3)⟩, q4⟩
    · have g1 : ∃ ys', env[j]? = some (Slot.own ys') := by
        rcases get_set q1 with ⟨ej, _⟩ | ⟨_, q1⟩
        · exact ⟨xs, by rw [ej]; exact hi⟩
        · exact ⟨ys, q1⟩
      have g2 : ∃ ys', env[k]? = some (Slot.own ys') := by
        rcases get_set q2 with ⟨ej, _⟩ | ⟨_, q2⟩
        · exact ⟨xs, by rw [ej]; exact hi⟩
        · exact ⟨zs, q2⟩
      obtain ⟨_, g1⟩ := g1
      obtain ⟨_, g2⟩ := g2
      exact h2 j k _ _ g1 g2 hjk
    · rcases get_set q with ⟨_, ed⟩ | ⟨ne, q⟩
      · cases ed
      · obtain ⟨v, q1, q2⟩ := h3 j d q
        exact ⟨v, q1, Den.weak same _ _ (Den.keep mu _ _ q2)⟩
end

section
variable {X : Cx} {g : Gx} {e e2 : Expr} {es : List Expr} {td ti tv : TED} {tf : TFD} {tas : TAD} {pos p p1 p2 pos' : Pos} {x : Str} {i : Nat}
theorem new_lstF {K : PySem.W.Frag} {I : HI} {H : Hp} {p : Addr} {vs : List V} {ds : List D} (hp : H p = none) (h : DenA K I.own H vs ds) : DenA K (fun a => I.own a ∨ a = p) (upd H p (.lst vs)) vs ds :=
  DenA.keep (Kp.new hp) _ _ (DenA.fresh hp _ _ h)
def fLst (ta : TAD) : TFD := fun env Q => ta env fun xs => xs.length ≤ sizeLine ∧ Q xs
theorem f_lst (h : PAD X g es tas) : PFD X g (.List es pos) (fLst tas) := fun b σ H env Qd Q hd xl hq k pins s J => (pe_lst pa_w).run pins s σ H Q J (h b σ H env _ _ hd xl hq fun vs ds H1 e1 dn ⟨z, q⟩ =>
    ⟨by rw [dn.len]; exact z, fun p hp => k p vs ds _ (e1.back hp) (e1.trans (.new e1.2 hp)) upd_same (new_lstF hp dn) q⟩)
def sNew (i : Nat) (tf : TFD) : TSD := fun Dd env => tf env fun ds => i < env.length ∧ (noOwn (env.set i .no) = true ∨ noLstA ds = true) ∧ Dd.nx (env.set i (.own ds))
theorem ds_new (hN : X.N.Nodup) (hi : X.N[i]? = some x) (hx : Loc X.env.scope x) (he : PFD X g e tf) (hs : swapsWith e (some (.Name x pos')) pos.line X.env = pure false := by rfl)
    (hf : X.fn x = true ∨ X.env.scope.names.lookup x = some .local := by first | exact .inl rfl | exact .inr rfl | assumption) : PSD X g (.Assign [.Name x pos'] e pos) (sNew i tf) :=
  psd_of (ps_set hN hi hx pe_w hs hf) fun b σ H env Dd E hd xl h el => he b σ H env _ _ hd xl h fun p vs ds H1 hp e1 hl dn ⟨z, kp, q⟩ => el.nx _ _ _ (hd.putNew z hp e1 hl dn kp) q
def sApp (i : Nat) (td : TED) : TSD := fun Dd env => ∃ xs, env[i]? = some (.own xs) ∧ td env fun d => d.noLst = true ∧ xs.length < sizeLine ∧ Dd.nx (env.set i (.own (xs ++ [d])))
theorem ds_app {apos cpos : Pos} (hN : X.N[i]? = some x) (hv : Vis X.env.scope x) (he : PED X g e td) (hd1 : (x == ("__debug__" : Str)) = false := by decide) (hcd : (x == ("__classdict__" : Str)) = false := by decide)
    (hbase : attributeBase (.Name x p1) "append" X.env (eval (.Name x p1) X.env) = eval (.Name x p1) X.env := by rfl)
    (hfew : ((backTo cpos (starEach (e :: []) X.env)).all (fun x => !x.1) && (backToKw cpos (keywordEach [] X.env)).all (fun x => x.1.isSome)
      && decide ((e :: []).length + ([] : List Keyword).length + (if ([] : List Keyword).isEmpty then 0 else 1) < 30)) = true := by rfl)
    (hline : (apos.endLine == cpos.line) = true := by rfl) (hs : starEach (e :: []) X.env = (false, eval e X.env) :: starEach [] X.env := by rfl) (hplain : (backTo cpos (starEach [] X.env)).any (·.1) = false := by rfl)
    (hsw : swapsWith (.Call (.Attribute (.Name x p1) "append" apos) [e] [] cpos) none pos.line X.env = pure false := by rfl) :
    PSD X g (.Expr (.Call (.Attribute (.Name x p1) "append" apos) [e] [] cpos) pos) (sApp i td) :=
  psd_of (ps_expr (pe_bm PySem.F.plainAttrs_list PySem.F.slot_list_append PySem.F.type_list_append mt_append (pe_var hN hv hd1 hcd) (pa_cons pe_w pa_nil hs) hbase hfew hline hs hplain) hsw) fun b σ H env Dd E hd xl h el => by
    obtain ⟨xs, hx, h⟩ := h
    obtain ⟨a, vs, S, q1, q2, _⟩ := hd.wr hx
    refine ⟨.ref a, q1, .inl ⟨rfl, vs, SqL.of q2⟩, he b σ H env _ _ hd xl h fun v d H1 e1 dn ⟨nl, hz, q⟩ => ?_⟩
    obtain ⟨a', vs', S', w1, w2, w3, w4, w5, w6⟩ := (hd.mono e1).wr hx
    rw [q1] at w1
    cases w1
    exact ⟨a, vs', v, rfl, rfl, w2, by rw [w3.len]; exact hz, el.nx _ _ _ (w6 _ _ (w3.app (.one (w4 v d nl dn)))) q⟩
end
end Dl

namespace Dl
open PySem PySem.Spec PyProof.Rows L2

def startD (N : List Str) (ds : List D) : DEnv := ds.map Slot.val ++ List.replicate (N.length - ds.length) Slot.no
def gOf (I : HI) (Ed : Exc → Prop) (E : XK) : Gx := ⟨I, fun _ x => Ed x, fun cls d _ H => E cls d H⟩
theorem startE {K : PySem.W.Frag} {I : HI} {N : List Str} {H : Hp} {vs : List V} {ds : List D} (ok : I.ok H) (dn : DenA K I.own H vs ds) : DenE K I ⟨H, []⟩ (L2.start N vs) H (startD N ds) := by
  have no : ∀ {i : Nat} {xs : List D}, (startD N ds)[i]? ≠ some (Slot.own xs) := fun {i xs} h => by
    unfold startD at h
    rw [List.getElem?_append] at h
    split at h
    · rw [List.getElem?_map] at h
      cases e : ds[i]? with
      | none => rw [e] at h; cases h
      | some d => rw [e] at h; cases h
    · rw [List.getElem?_replicate] at h
      split at h <;> cases h
  refine ⟨?_, .refl ok, fun _ => 0, fun i xs e => absurd e no, fun i j xs ys e => absurd e no, fun i d e => ?_, fun p hp => by cases hp⟩
  · unfold L2.start startD
    rw [List.length_append, List.length_append, List.length_map, List.length_map, List.length_replicate, List.length_replicate, dn.len]
  · unfold startD at e
    rw [List.getElem?_append] at e
    split at e
    · rename_i hl
      rw [List.length_map] at hl
      rw [List.getElem?_map] at e
      have hd : ds[i]? = some d := by
        cases q : ds[i]? with
        | none => rw [q] at e; cases e
        | some d' =>
          rw [q] at e
          have := Slot.val.inj (Option.some.inj e)
          rw [this]
      obtain ⟨v, q1, q2⟩ := dn.get hd
      refine ⟨v, ?_, Den.weak (fun a z => z.elim id fun ⟨j, xs, e, _⟩ => absurd e no) _ _ q2⟩
      unfold L2.start
      rw [List.getElem?_append_left (by rw [List.length_map, dn.len]; exact hl), List.getElem?_map, q1]
      rfl
    · rw [List.getElem?_replicate] at e
      split at e <;> cases e
section
variable {P : Program} {w : World} {K : PySem.W.Frag} {mg : Str → Option Value} {base : Heap}
abbrev cxD (P : Program) (w : World) (K : PySem.W.Frag) (mg : Str → Option Value) (base : Heap) (N : List Str) (qual : Str) (scope : Scope) (f : Addr) (cd : Value) (A : Around) (outer : List Env) (s : Shared) (H : Hp) (E : XK) : Cx :=
  cxOf (L2.CX P w) P w K mg base N qual scope f cd A outer s H E
theorem fn_D {x qual : Str} {params : Arguments} {body : List Stmt} {scope : Scope} {dvs : List V} {kws : List (Str × V)} {f : Addr} {fd : FuncData} {N ps : List Str} {k : Nat} {I : HI} {C : Ct} {tsd : (DEnv → Exc → Prop) → TSD}
    (F : FunD K x qual params body scope dvs kws f fd) (S : FnScope N ps scope)
    (hbody : ∀ (cdv : Value) (A : Around) (outer : List Env) (s : Shared) (H : Hp) (E : XK) (Ed : Exc → Prop), Room k (A.deeper (envOfC qual scope s.heap.objs.size f cdv)) →
      Takes (cxD P w K mg base N qual scope f cdv A outer s H E) (gOf I Ed E).W → PSsD (cxD P w K mg base N qual scope f cdv A outer s H E) (gOf I Ed E) body (tsd (gOf I Ed E).Ed))
    (hC : ∀ ds Qd Ed, C ds Qd Ed → ds.length = ps.length → tsd (fun _ x => Ed x) ⟨fun _ => Qd .non, Qd, fun _ => False, fun _ => False⟩ (startD N ds)) :
    FnOk P w K mg base (L2.CX P w) (k + 1) f fd ps (spOf K I ps.length C) := by
  refine F.ok S (fun vs H Q E ⟨ds, Qd, Ed, hl, dn, _⟩ => by rw [dn.len, hl]) (fun cdv A outer s H vs Q E hr ⟨ds, Qd, Ed, hl, dn, ok, hc, kq, ke⟩ => ?_)
  refine ⟨_, pss_w, ?_⟩
  have tk : Takes (cxD P w K mg base N qual scope f cdv A outer s H E) (gOf I Ed E).W := takes_of rfl rfl rfl rfl
  refine hbody cdv A outer s H E Ed hr tk ⟨H, []⟩ (L2.start N vs) H (startD N ds) _ _ (startE ok dn) ?_ (hC ds Qd Ed hc hl) ⟨fun σ' H' env' hd' q => ?_, fun v d H' e dn' q => kq v d H' e dn' q, fun _ _ _ _ q => q.elim, fun _ _ _ _ q => q.elim⟩
  · exact fun σ' H' env' x d H'' hd' e xd q => ke x d H'' (hd'.ext.trans e) xd q
  · exact kq .non .non H' hd'.ext (by simp only [Den]) q
end

def spExc (C : Addr) (fl : Str) : Sp := fun vs H Q _ => ∃ a v, vs = [.ref a, v] ∧ H a = some (exo a C none) ∧ ∀ dx, H dx = none → dx ≠ a → Q .non (upd (upd H dx (exd dx [(fl, v)])) a (exo a C (some dx)))
structure ErrC (K : PySem.W.Frag) (C : Addr) (fl : Str) : Prop where
  ox : OexC K C
  nf : PySem.W.findIn K (.ref C) fl = some none
section
variable {X : Cx} {g : Gx} {e : Expr} {td : TED} {pos p cpos : Pos} {x fl : Str} {C fI : Addr} {fd : FuncData} {ps : List Str} {k : Nat}
theorem init_ok {P : Program} {w : World} {K : PySem.W.Frag} {mg : Str → Option Value} {base : Heap} {qual : Str} {params : Arguments} {scope : Scope} {p1 p2 p3 p4 : Pos} {CX : CXT} (T : ErrC K C fl) (hfl : ("self" : Str) ≠ fl)
    (hdb : (fl == ("__debug__" : Str)) = false) (hcd : (fl == ("__classdict__" : Str)) = false) (v1 : Vis scope "self") (v2 : Vis scope fl)
    (F : FunD K "__init__" qual params [.Assign [.Attribute (.Name "self" p1) fl p2] (.Name fl p3) p4] scope [] [] fI fd) (S : FnScope ["self", fl] ["self", fl] scope)
    (hs : ∀ X : Cx, swapsWith (.Name fl p3) (some (.Attribute (.Name "self" p1) fl p2)) p4.line X.env = pure false) : FnOk P w K mg base CX 1 fI fd ["self", fl] (spExc C fl) := by
  refine F.ok S (fun vs H Q E ⟨a, v, e, _⟩ => by rw [e]; rfl) (fun cdv A outer s H vs Q E hr ⟨a, v, e, hH, q⟩ => ?_)
  subst e
  refine ⟨_, PSs.nox (pss_one (ps_ost (pe_var (i := 0) rfl v1) (pe_var (i := 1) rfl v2 hdb hcd) (hs _))), ?_⟩
  exact ⟨v, rfl, .ref a, rfl, a, C, rfl, T.ox, T.nf, .inl ⟨hH, fun dx h1 h2 => q dx h1 h2⟩⟩
end
end Dl

namespace PySem
open Sem (wp)
open PyProof.Rows
section
variable {prog : Program} {w : World} {A : Around} {E : Value → Shared → Prop} {s : Shared}
end
end PySem
namespace Dl
open PySem PySem.Spec PyProof.Rows L2
section
variable {X : Cx} {g : Gx} {e : Expr} {p pos tpos : Pos} {elts : List Expr} {kk : Nat} {td : TED}
end
end Dl

namespace Dl
open PySem PySem.Spec PyProof.Rows L2

def Cl (P : Program) (w : World) (K : PySem.W.Frag) (mg : Str → Option Value) (base : Heap) (I : HI) (k : Nat) (x : Str) (n : Nat) (C : Ct) (dds : List D) : Prop :=
  ∃ (fa : Addr) (fd : FuncData) (ps : List Str) (ds : List Value) (dvs : List V), FnOk P w K mg base (L2.CX P w) k fa fd ps (spOf K I n C) ∧ mg x = some (.ref fa) ∧ PySem.W.keepIn K (.ref fa) = true ∧ L2.Binds K fd ps ds ∧ Vals dvs ds ∧ ∀ H, DenA K I.own H dvs dds
abbrev ClX (X : Cx) (I : HI) (k : Nat) (x : Str) (n : Nat) (C : Ct) (dds : List D) : Prop := Cl X.prog X.w X.K X.mg X.base I k x n C dds
def Ar (n : Nat) (C : Ct) : Prop := ∀ xs Q E, C xs Q E → xs.length = n
theorem h64 {A : Around} {k : Nat} (hr : Room k A) : A.units + 64 < cLine := hr.units
section
variable {X : Cx} {g : Gx} {e e2 : Expr} {es : List Expr} {td ti tv : TED} {tas : TAD} {pos p p2 : Pos} {x : Str}
theorem d_callC {k j n : Nat} {C : Ct} {dds : List D} (c : ClX X g.I k x n C dds) (hC : Ar n C) (hr : Room j X.A) (hj : k ≤ j) (hg : Gl X x) (tk : Takes X g.W) (ha : PAD X g (e :: es) tas)
    (hdb : (x == ("__debug__" : Str)) = false := by decide) (he : starEach (e :: es) X.env = (false, eval e X.env) :: starEach es X.env := by rfl) (hpl : (backTo pos (starEach es X.env)).any (·.1) = false := by rfl) :
    PED X g (.Call (.Name x p) (e :: es) [] pos) (dCall C dds g.Ed tas) := by
  obtain ⟨fa, fd, ps, ds, dvs, F, hm, hk, hb, hd, hdd⟩ := c
  exact d_call F (hr.mono hj) hg hm hk hb hd hdd tk hC ha hdb he hpl
section
variable {i : Nat} {y : Str} {py : Pos} {elt tg iter : Expr} {ifs : List Expr} {scope : Scope} {own : List (Str × Nat)} {spos : Pos} {gt : TG} {tid : TID} {gd : TGD} {tt : TTD} {ed : TED}
end
end
end Dl

namespace Dl
open PySem PySem.Spec PyProof.Rows L2 He
def clsB (K : PySem.W.Frag) (C : Addr) : Bool := match K.lookup C with
  | some ⟨.type t, _, .cls cd, sl⟩ => (match cd.mro, sl.toList with
    | .ref C' :: bm, [_, _, _, _, some (.builtin n), _] => decide (t = "type") && (C' == C && (decide (n = "ValueError.__new__") && (!cd.hasDel && (cd.hasDict && PySem.HandSPX.refsVE bm))))
    | _, _ => false)
  | _ => false
theorem clsB_ok {K : PySem.W.Frag} {C : Addr} (q : clsB K C = true) : ∃ nm qn N bs bm sn sub ab col dd k0 k1 k2 k3 k5, K.lookup C = some (excClassObj nm qn C N bs bm true sn sub ab col dd k0 k1 k2 k3 k5 "ValueError.__new__") ∧ PySem.HandSPX.refsVE bm = true := by
  unfold clsB at q
  split at q
  · rename_i t dd cd sl ho
    split at q
    · rename_i C' bm k0 k1 k2 k3 n k5 hm hs
      simp only [Bool.and_eq_true, beq_iff_eq, Bool.not_eq_true', decide_eq_true_eq] at q
      obtain ⟨rfl, rfl, rfl, hdel, hh, hr⟩ := q
      obtain ⟨nm, bs, mro, ns, qn, hd, sn, sub, ab, col, del⟩ := cd
      dsimp only at hm hdel hh
      subst hm hdel hh
      have hsl : sl = #[k0, k1, k2, k3, some (.builtin "ValueError.__new__"), k5] := by
        obtain ⟨l⟩ := sl
        simp only at hs
        rw [hs]
      subst hsl
      exact ⟨nm, qn, ns, bs, bm, sn, sub, ab, col, dd, k0, k1, k2, k3, k5, ho, hr⟩
    · cases q
  · cases q
def errB (K : PySem.W.Frag) (x fl : Str) : Bool := clsB K (ga K x) && (decide (PySem.W.findIn K (.ref (ga K x)) "__setattr__" = some (some (.builtin "object.__setattr__"))) && (decide (PySem.W.subIn K (.ref (ga K x)) (.type "BaseException") = some true) &&
  (decide (PySem.W.typeIn K (.ref (ga K x)) = some (.type "type")) && (PySem.W.keepIn K (.ref (ga K x)) && (decide (PySem.W.findIn K (.ref (ga K x)) fl = some none) &&
  (decide (PySem.W.findIn K (.ref (ga K x)) "__init__" = some (some (.ref (ma K (ga K x) "__init__")))) && decide (PySem.W.typeIn K (.ref (ma K (ga K x) "__init__")) = some (.type "function"))))))))
structure ErrF (K : PySem.W.Frag) (x fl : Str) : Prop where
  e : ErrC K (ga K x) fl
  i : PySem.W.findIn K (.ref (ga K x)) "__init__" = some (some (.ref (ma K (ga K x) "__init__")))
  t : PySem.W.typeIn K (.ref (ma K (ga K x) "__init__")) = some (.type "function")
theorem errB_ok {K : PySem.W.Frag} {x fl : Str} (h : errB K x fl = true) : ErrF K x fl := by
  obtain ⟨h1, h⟩ := ba h
  obtain ⟨h2, h⟩ := ba h
  obtain ⟨h3, h⟩ := ba h
  obtain ⟨h4, h⟩ := ba h
  obtain ⟨h5, h⟩ := ba h
  obtain ⟨h6, h⟩ := ba h
  obtain ⟨h7, h8⟩ := ba h
  exact ⟨⟨⟨clsB_ok h1, of_decide_eq_true h2, of_decide_eq_true h3, of_decide_eq_true h4, h5⟩, of_decide_eq_true h6⟩, of_decide_eq_true h7, of_decide_eq_true h8⟩
structure Er (P : Program) (w : World) (K : PySem.W.Frag) (mg : Str → Option Value) (base : Heap) (x fl : Str) : Prop where
  f : ErrF K x fl
  m : mg x = some (.ref (ga K x))
  ex : ∃ fd, FnOk P w K mg base CX0 1 (ma K (ga K x) "__init__") fd ["self", fl] (spExc (ga K x) fl) ∧ L2.Binds K fd ["self", fl] []
section
variable {X : Cx} {g : Gx} {e : Expr} {td : TED} {pos p cpos : Pos} {x fl : Str} {j : Nat}
end
abbrev AlZ : Type := AlD × Bool
def obsZ (n : Nat) (fa : List Fa) (fn : List DefD) (ex : PySem.W.Frag → Bool) (g : Addr → Option Obj) : AlZ := (obsD fa fn (frG g (asD g n)), ex (frG g (asD g n)))
def hookZ (n : Nat) (fa : List Fa) (fn : List DefD) (ex : PySem.W.Frag → Bool) : PySem.W.Hook where
  α := AlZ
  obs := fun s => obsZ n fa fn ex s.heap.get?
  val := fun _ => (valD fn, true)
  says := fun _ h => ∃ K : PySem.W.Frag, K.In h ∧ SaysD fa fn K ∧ ex K = true
  of := fun _ _ e => ⟨_, frG_in, congrArg (fun z : AlZ => z.1) e, congrArg (fun z : AlZ => z.2) e⟩
  keeps := fun _ _ _ ⟨K, hK, c⟩ k => ⟨K, PySem.W.Frag.In.keeps hK k, c⟩
theorem obsZ_eq {n : Nat} {fa : List Fa} {fn : List DefD} {ex : PySem.W.Frag → Bool} {g : Addr → Option Obj} {s : Shared} (h : ∀ a, g a = s.heap.get? a) : obsZ n fa fn ex g = (hookZ n fa fn ex).obs s := by
  have e : g = s.heap.get? := funext h
  rw [e] <;> rfl
theorem all_mem {α : Type} {l : List α} {f : α → Bool} (h : l.all f = true) (i : Nat) {x : α} (e : l[i]? = some x) : f x = true := List.all_eq_true.mp h x (List.mem_of_getElem? e)
def defD (st : Stmt) (cl : Option Str) (x : Str) (dfl : List Dv) : DefD := ⟨(match cl with | some c => (c, some x) | none => (x, none)), x, (match cl with | some c => c ++ "." ++ x | none => x), defArgs st, defBody st, defScope st, dfl, []⟩
end Dl

namespace SrtT
open PySem PyProof.Rows Srt SrtO
end SrtT
namespace Dl
open PySem PySem.Spec PyProof.Rows L2
theorem pf_e {X : Cx} {g : Gx} {e : Expr} {td : TFD} (h : PFD X g e td) : PED X g e (dF td) := SF.se h
end Dl

namespace Dl
open PySem PySem.Spec PyProof.Rows L2

abbrev TSX := (DEnv → Exc → Prop) → TSD
section
variable {X : Cx} {g : Gx} {x n : Str} {c : Value} {i : Nat} {body suite : List Stmt} {b₀ : Stmt} {np pos pos' : Pos} {tb : TSX} {ts : Addr → Option Addr → Exc → TSD}
end
section
variable {X : Cx} {g : Gx} {a : Addr} {oe : Obj} {x : Exc} {d : Option Addr} {pn : List (Addr × Obj)} {e : Expr} {te : TED} {pos p : Pos} {n y : Str}
def lookD (n : Str) : List (Str × D) → Option D
  | [] => none
  | (m, d) :: r => if n = m then some d else lookD n r
theorem look_zip {K : PySem.W.Frag} {Av : Addr → Prop} {H : Hp} {n : Str} : ∀ {fs : List (Str × D)} {ws : List V} {v : D}, DenA K Av H ws (fs.map (·.2)) → lookD n fs = some v → ∃ u, ((fs.map (·.1)).zip ws).lookup n = some u ∧ Den K Av H u v
  | [], _, _, _, h => by cases h
  | (m, d) :: r, ws, v, dn, h => by
    obtain ⟨u, us, rfl, h1, h2⟩ := DenA.cons (show DenA K Av H ws (d :: r.map (·.2)) from dn)
    unfold lookD at h
    by_cases e : n = m
    · rw [if_pos e] at h
      cases h
      subst e
      exact ⟨u, by simp, h1⟩
    · rw [if_neg e] at h
      obtain ⟨u', q1, q2⟩ := look_zip h2 h
      refine ⟨u', ?_, q2⟩
      show ((m, u) :: (r.map (·.1)).zip us).lookup n = some u'
      rw [List.lookup_cons]
      have : (n == m) = false := by simpa using e
      rw [this]
      exact q1
def clsV : D → Option Value
  | .ref a => some (.ref a)
  | .ty n => some (.type n)
  | _ => none
theorem d_glo {C : Addr} (hg : Gl X y) (hm : X.mg y = some (.ref C)) (hd : (y == ("__debug__" : Str)) = false := by decide) : PED X g (.Name y p) (dC (.ref C)) :=
  ped_of (pe_glob (v := .ref C) hg hm rfl hd) (sd_c fun _ => by simp only [Den])
end
end Dl

namespace Dl
open PySem PySem.Spec PyProof.Rows L2

section
variable {X : Cx} {g : Gx} {e : Expr} {es : List Expr} {kws : List Keyword} {nm : Option Str} {td : TED} {ta tk : TAD} {pos p kpos : Pos} {x : Str}
end

section
variable {X : Cx} {g : Gx} {e e2 : Expr} {td ti : TED} {pos : Pos} {x : Str} {i : Nat} {p1 : Pos}
end
end Dl

namespace Dl
open PySem PySem.Spec PyProof.Rows L2
def C__law_mixed (K : PySem.W.Frag) : Ct := fun ds Q E => ∃ a b : Int, ds = [.int a, .int b] ∧ 0 ≤ a ∧ a < 2 ^ 32 ∧ 0 ≤ b ∧ b < 2 ^ 32 ∧ ∀ r : Int, 0 ≤ r → r < 2 ^ 32 → Q (.int r)
end Dl

namespace Dl
open PySem PySem.Spec PyProof.Rows L2
section
variable {X : Cx} {g : Gx} {c a b : Expr} {t : TTD} {ta tb : TFD} {pos : Pos}
end
end Dl

namespace Dl
open PySem PySem.Spec PyProof.Rows L2
structure HandAt (hd c : Addr) (cs : List Int) (at_ held tot : Int) (H : Hp) : Prop where
  h : H hd = some (.lst [.ref c, .int at_, .int held, .int tot])
  c : H c = some (.lst (cs.map V.int))
  len : cs.length ≤ 63
  pos : ∀ x ∈ cs, 0 ≤ x
  a0 : 0 ≤ at_
  a1 : at_ ≤ 63
  h0 : 0 ≤ held
  t0 : 0 ≤ tot
  t1 : tot < 2 ^ 32
def handI (hd c : Addr) : HI where
  own := fun a => a = hd
  foot := fun a => a = hd ∨ a = c
  ok := fun H => ∃ cs at_ held tot, HandAt hd c cs at_ held tot H
  sub := fun a h => .inl h
  dom := fun H a ⟨cs, at_, held, tot, h⟩ f z => by
    rcases f with rfl | rfl
    · have := h.h; rw [z] at this; cases this
    · have := h.c; rw [z] at this; cases this
  loc := fun H H' e ⟨cs, at_, held, tot, h⟩ => ⟨cs, at_, held, tot, ⟨by rw [e _ (.inl rfl)]; exact h.h, by rw [e _ (.inr rfl)]; exact h.c, h.len, h.pos, h.a0, h.a1, h.h0, h.t0, h.t1⟩⟩
def C__law_take (hd : Addr) : Ct := fun ds Q _ => ∃ m : Int, ds = [.ref hd, .int m] ∧ 0 < m ∧ m < 2 ^ 200 ∧ ∀ r : Int, 0 ≤ r → r < m → Q (.int r)
theorem ar__law_take (hd : Addr) : Ar 2 (C__law_take hd) := fun _ _ _ ⟨_, e, _⟩ => by rw [e]; rfl
theorem kp_mut {hd c : Addr} {H : Hp} {o : HO} : Kp (handI hd c).own H (upd H hd o) := Kp.mut (Av := (handI hd c).own) (show hd = hd from rfl)
theorem it_t {b : Bool} {p q : Prop} (h : b = true) (k : p) : if b = true then p else q := by rw [if_pos h]; exact k
theorem it_f {b : Bool} {p q : Prop} (h : b = false) (k : q) : if b = true then p else q := by rw [if_neg (by rw [h]; decide)]; exact k
section
variable {K : PySem.W.Frag} {σ : L2.St} {H : Hp} {Q : VK}
theorem v_ix {i : Nat} {k : Int} {hd : Addr} {xs : List V} {v : V} (e : σ[i]? = some (some (.ref hd))) (h : H hd = some (.lst xs)) (a : atI xs k = some v) (q : Q v H) : tOp (rIxL K) (tVar i) (tC (.int k)) σ H Q := ⟨_, e, hd, xs, k, v, rfl, rfl, SqL.of h, a, q⟩
theorem v_set {i : Nat} {k : Int} {j : Nat} {hd : Addr} {xs : List V} {v : V} {Q : L2.St → Hp → Prop} (e : σ[i]? = some (some (.ref hd))) (h : H hd = some (.lst xs)) (a : ixN xs.length k = some j) (q : Q σ (upd H hd (.lst (xs.set j v)))) : gSub (tVar i) (tC (.int k)) rSetL v σ H Q := ⟨_, e, hd, xs, k, j, rfl, rfl, h, a, q⟩
theorem seq_of {t u : TS} {D : Ends} (P : L2.St → Hp → Prop) (hb : ∀ σ' H', P σ' H' → u D σ' H') (ha : (∀ σ' H', P σ' H' → u D σ' H') → t { D with nx := u D } σ H) : tSeq t u D σ H := ha hb
theorem HandAt.set {hd c : Addr} {cs : List Int} {a h t a' h' t' : Int} (Z : HandAt hd c cs a h t H) (hne : hd ≠ c) (q1 : 0 ≤ a') (q2 : a' ≤ 63) (q3 : 0 ≤ h') (q4 : 0 ≤ t') (q5 : t' < 2 ^ 32) : HandAt hd c cs a' h' t' (upd H hd (.lst [.ref c, .int a', .int h', .int t'])) :=
  ⟨upd_same, by rw [upd_ne (Ne.symm hne)]; exact Z.c, Z.len, Z.pos, q1, q2, q3, q4, q5⟩
theorem take_cell {cs : List Int} {at_ : Int} (h0 : 0 ≤ at_) (h1 : at_ < cs.length) : ∃ x, atI (cs.map V.int) at_ = some (.int x) ∧ x ∈ cs := by
  have hlt : at_.toNat < cs.length := by omega
  refine ⟨cs[at_.toNat], ?_, List.getElem_mem hlt⟩
  unfold atI ixN
  simp only [List.length_map]
  rw [if_pos (by omega)]
  rw [if_pos h1]
  simp [List.getElem?_eq_getElem hlt]
end
end Dl

namespace Dl
open PySem PySem.Spec PyProof.Rows L2
end Dl

namespace Dl
open PySem PySem.Spec PyProof.Rows L2
theorem forD_of {gd : TGD} {tb : TSD} {Dd : DEnds} (Inv : List D → List D → DEnv → Prop) (end_ : ∀ done env, Inv done [] env → Dd.nx env)
    (step : ∀ done x rest env, Inv done (x :: rest) env → (∀ env', Inv (done ++ [x]) rest env' → forD gd tb Dd rest env') → gd x env (tb { Dd with nx := forD gd tb Dd rest, ct := forD gd tb Dd rest, bk := Dd.nx })) :
    ∀ rest done env, Inv done rest env → forD gd tb Dd rest env
  | [], done, env, h => end_ done env h
  | x :: rest, done, env, h => step done x rest env h fun env' h' => forD_of Inv end_ step rest (done ++ [x]) env' h'
def sel (p : List D → D → Bool) (f : List D → D → D) : List D → List D → List D
  | _, [] => []
  | pre, d :: ds => if p pre d = true then f pre d :: sel p f (pre ++ [d]) ds else sel p f (pre ++ [d]) ds
theorem goodA_of : ∀ {xs : List D}, (∀ x ∈ xs, x.good = true) → goodA xs = true
  | [], _ => rfl
  | y :: ys, h => by
    simp only [goodA, Bool.and_eq_true]
    exact ⟨h y List.mem_cons_self, goodA_of fun x m => h x (List.mem_cons_of_mem _ m)⟩
theorem depA_of {n : Nat} : ∀ {xs : List D}, (∀ x ∈ xs, x.dep ≤ n) → depA xs ≤ n
  | [], _ => Nat.zero_le _
  | y :: ys, h => by
    simp only [depA]
    exact Nat.max_le.mpr ⟨h y List.mem_cons_self, depA_of fun x m => h x (List.mem_cons_of_mem _ m)⟩
def okI (d : D) : Prop := d.good = true ∧ d.dep ≤ 50
theorem okI.ok {d : D} (h : okI d) : okD d := ⟨h.1, by have := h.2; omega⟩
theorem okI_int {i : Int} : okI (.int i) := ⟨by simp only [D.good], by simp only [D.dep]; omega⟩
theorem okD_lst {xs : List D} (h : ∀ x ∈ xs, okI x) : okD (.lst xs) := ⟨by simp only [D.good]; exact goodA_of fun x m => (h x m).1, by
  simp only [D.dep]
  have := depA_of fun x m => (h x m).2
  omega⟩
theorem mulW {i j : Int} (h1 : i.natAbs < 2 ^ 1000) (h2 : j.natAbs < 2 ^ 1000) : CMulW i j := by
  unfold CMulW
  have f : ∀ n : Nat, n < 2 ^ 1000 → n.log2 < 1000 := fun n h => by
    by_cases e : n = 0
    · subst e; decide
    · exact (Nat.log2_lt e).mpr h
  have := f _ h1
  have := f _ h2
  omega
theorem big_abs {i : Int} (h0 : 0 ≤ i) (h : i < 2 ^ 250) : i.natAbs < 2 ^ 1000 := by
  have h1 : i.natAbs < 2 ^ 250 := by omega
  exact Nat.lt_of_lt_of_le h1 (Nat.pow_le_pow_right (by decide) (by decide))
theorem sl_lst {xs : List D} {lo hi : Option Int} {Q : D → Prop} (h : Q (.lst (cutL xs lo hi))) : fSl (.lst xs) lo hi Q := h
theorem seqD {t u : TSD} {Dd : DEnds} {env : DEnv} (P : DEnv → Prop) (hb : ∀ env', P env' → u Dd env') (ha : (∀ env', P env' → u Dd env') → t { Dd with nx := u Dd } env) : sSeq t u Dd env := ha hb
theorem rngD_cons {lo : Int} {n : Nat} : rngD lo (n + 1) = .int lo :: rngD (lo + 1) n := by
  unfold rngD
  rw [List.range_succ_eq_map, List.map_cons, List.map_map]
  congr 1
  · simp
  · apply List.map_congr_left
    intro a _
    show D.int (lo + ((a + 1 : Nat) : Int)) = D.int (lo + 1 + (a : Int))
    congr 1
    omega
theorem rng_lc {i : Nat} {tt : TTD} {te : TED} {env : DEnv} {Q : List D → Prop} {xs : List D} (p : List D → D → Bool) (f : List D → D → D)
    (h : ∀ pre d suf (R : Option D → Prop), xs = pre ++ d :: suf → R (if p pre d = true then some (f pre d) else none) → tt (env.set i (.val (.int pre.length))) fun b => if b = true then te (env.set i (.val (.int pre.length))) fun y => y.noLst = true ∧ R (some y) else R none) :
    ∀ suf pre acc, xs = pre ++ suf → Q (acc ++ sel p f pre suf) → lcD (gdName i) tt te env (rngD pre.length suf.length) acc Q
  | [], pre, acc, e, q => by
    show Q acc
    simpa [sel] using q
  | d :: suf, pre, acc, e, q => by
    rw [List.length_cons, rngD_cons]
    show tt (env.set i (.val (.int pre.length))) fun b => if b = true then te (env.set i (.val (.int pre.length))) fun y => y.noLst = true ∧ lcD (gdName i) tt te env (rngD (pre.length + 1) suf.length) (acc ++ [y]) Q else lcD (gdName i) tt te env (rngD (pre.length + 1) suf.length) acc Q
    refine h pre d suf (fun o => match o with | some y => lcD (gdName i) tt te env (rngD (pre.length + 1) suf.length) (acc ++ [y]) Q | none => lcD (gdName i) tt te env (rngD (pre.length + 1) suf.length) acc Q) e ?_
    have hl : (pre.length : Int) + 1 = ((pre ++ [d]).length : Int) := by simp
    rw [hl]
    cases hp : p pre d with
    | true =>
      rw [if_pos rfl]
      exact rng_lc p f h suf (pre ++ [d]) (acc ++ [f pre d]) (by rw [e]; simp) (by simpa [sel, hp] using q)
    | false =>
      rw [if_neg (by decide)]
      exact rng_lc p f h suf (pre ++ [d]) acc (by rw [e]; simp) (by simpa [sel, hp] using q)
theorem atI_mid {α : Type} {pre suf : List α} {d : α} : atI (pre ++ d :: suf) (pre.length : Int) = some d := by
  unfold atI ixN
  rw [if_pos (by omega), if_pos (by rw [List.length_append, List.length_cons]; omega)]
  simp
theorem atI_ok {α : Type} {xs : List α} {i : Int} (h0 : 0 ≤ i) (h1 : i < xs.length) : ∃ x, atI xs i = some x ∧ x ∈ xs := by
  have hlt : i.toNat < xs.length := by omega
  refine ⟨xs[i.toNat], ?_, List.getElem_mem hlt⟩
  unfold atI ixN
  rw [if_pos h0, if_pos h1]
  simp [List.getElem?_eq_getElem hlt]
theorem eqD_refl {d : D} (h : d.good = true) : eqD d d = true := SeqAt.eqv_refl d.py (py_can d h)
end Dl

namespace Dl
open PySem PySem.Spec PyProof.Rows L2
abbrev scrD (ds : List D) : D := .obj .scr (ds.map fun _ => "") ds
theorem scr_sq {K : PySem.W.Frag} {Av : Addr → Prop} {H : Hp} {v : V} {ns : List Str} {ds : List D} (h : Den K Av H v (.obj .scr ns ds)) : ∃ a ws, v = .ref a ∧ SqL K H a ws ∧ DenA K Av H ws ds := by
  simp only [Den] at h
  obtain ⟨ws, _, ⟨a, e, h⟩, dn⟩ := h
  refine ⟨a, ws, e, ?_, dn⟩
  rcases h with ⟨_, o, h⟩ | h
  · exact .inl (.inr ⟨o, h⟩)
  · exact h H
def bLenS : FC := fun xs Q => ∃ ns ds, xs = [.obj .scr ns ds] ∧ Q (.int ds.length)
theorem c_lenS {X : Cx} {I : HI} : RC X I (.builtin "len") bLenS := fun H xs ds Qd Q ok dn ⟨ns, es, e, h⟩ k => by
  subst e
  obtain ⟨v, rfl, d1⟩ := dn.one1
  obtain ⟨a, ws, rfl, sq, dn'⟩ := scr_sq d1
  rw [← dn'.len] at h
  exact rc_of call_len ⟨_, ws.length, rfl, .inl ⟨ws, sq, rfl⟩, k _ _ H (.refl ok) (by simp only [Den]) h⟩
theorem itd_scr {K : PySem.W.Frag} {a : Addr} {ns : List Str} {ds : List D} : ItD K (Itl K a) [(.ref a, .obj .scr ns ds)] ds := fun Av H hw _ => by
  obtain ⟨a', ws, e, sq, dn⟩ := scr_sq (hw _ List.mem_cons_self)
  cases e
  refine ⟨fun i hi => ?_, ws, sq, by rw [dn.len]; exact Nat.le_refl _⟩
  obtain ⟨v, q1, q2⟩ := dn.get (List.getElem?_eq_getElem hi)
  refine ⟨⟨ws, v, sq, q1⟩, fun x H' ⟨e, y⟩ => ?_⟩
  subst e
  have := y ws sq
  rw [q1] at this
  cases this
  exact ⟨Kp.refl, _, List.getElem?_eq_getElem hi, q2⟩
def idVarS (i : Nat) : TID := fun env Q => ∃ ns ds, env[i]? = some (.val (.obj .scr ns ds)) ∧ Q ds
theorem di_varS {X : Cx} {g : Gx} {tg : Expr} {p : Pos} (i : Nat) {x : Str} (hN : X.N[i]? = some x := by rfl) (hv : Vis X.env.scope x := by first | exact Or.inl rfl | exact Or.inr (Or.inl rfl) | exact Or.inr (Or.inr rfl)) (hd : (x == ("__debug__" : Str)) = false := by decide)
    (hcd : (x == ("__classdict__" : Str)) = false := by decide) : PID X g tg (.Name x p) (idVarS i) := pid_of (pi_seq (pe_var hN hv hd hcd)) fun b σ H env Qd R hd xl ⟨ns, ds, e, q⟩ k => by
  obtain ⟨oa, h1, h2, h3, h4⟩ := hd.slots
  obtain ⟨v, q1, q2⟩ := h3 i _ e
  obtain ⟨a, ws, rfl, sq, dn⟩ := scr_sq q2
  refine ⟨_, q1, .inl ⟨a, rfl, ⟨ws, sq⟩, k _ H [(.ref a, .obj .scr ns ds)] ds ⟨hd.len, hd.ext, oa, h1, h2, h3, fun p hp => ?_⟩ (.refl hd.ok) itd_scr q⟩⟩
  rcases List.mem_append.mp hp with z | z
  · rw [List.mem_singleton.mp z]; exact q2
  · exact h4 p z
def C_hand (K : PySem.W.Frag) : Ct := fun ds Q _ => ∃ (nm : List Str) (ns : List Int), ds = [.obj .scr nm (ns.map D.int)] ∧ ns.length ≤ 63 ∧ ∀ (cs : List Int) (t : Int), cs.length ≤ 63 → (∀ c ∈ cs, 0 ≤ c) → 0 ≤ t → t < 2 ^ 32 → Q (.lst [.lst (cs.map D.int), .int 0, .int 0, .int t])
def spLaw (K : PySem.W.Frag) : Sp := fun vs H Q _ => ∃ (a : Addr) (ns : List Int), vs = [.ref a] ∧ ns.length ≤ 63 ∧ Only H ∧ SqL K H a (ns.map V.int) ∧ ∀ H', Q (.bl true) H'
theorem hand_at {K : PySem.W.Frag} {H : Hp} {v : V} {cs : List Int} {t : Int} (h : Den K (fun _ => False) H v (.lst [.lst (cs.map D.int), .int 0, .int 0, .int t])) (hl : cs.length ≤ 63) (hp : ∀ c ∈ cs, 0 ≤ c) (t0 : 0 ≤ t) (t1 : t < 2 ^ 32) :
    ∃ hd c, v = .ref hd ∧ hd ≠ c ∧ HandAt hd c cs 0 0 t H := by
  simp only [Den] at h
  obtain ⟨hd, vs, rfl, hh, _, dn⟩ := h
  obtain ⟨v1, r1, rfl, d1, dn⟩ := dn.cons
  obtain ⟨v2, r2, rfl, d2, dn⟩ := dn.cons
  obtain ⟨v3, r3, rfl, d3, dn⟩ := dn.cons
  obtain ⟨v4, rfl, d4⟩ := dn.one1
  simp only [Den] at d1 d2 d3 d4
  subst d2 d3 d4
  obtain ⟨c, ws, rfl, hc, _, dw⟩ := d1
  have e := dw.ofInts
  subst e
  refine ⟨hd, c, rfl, fun z => ?_, hh, hc, hl, hp, Int.le_refl 0, by decide, Int.le_refl 0, t0, t1⟩
  subst z
  rw [hc] at hh
  have hh := HO.lst.inj (Option.some.inj hh)
  cases cs with
  | nil => cases hh
  | cons x xs => cases hh
theorem scr_den {K : PySem.W.Frag} {H : Hp} {a : Addr} {ns : List Int} (o : Only H) (h : SqL K H a (ns.map V.int)) : Den K (fun _ => False) H (.ref a) (scrD (ns.map D.int)) := by
  simp only [Den]
  refine ⟨ns.map V.int, by simp, ⟨a, rfl, ?_⟩, DenA.ints⟩
  rcases h with (h | ⟨u, h⟩) | h
  · rcases o a with z | ⟨u, xs, z⟩
    · rw [z] at h; cases h
    · rw [z] at h; cases h
  · exact .inl ⟨id, u, h⟩
  · exact .inr fun G => .inr h
theorem law_run {X : Cx} {rest : List Stmt} {td : Addr → TSD} {Q : VK} {H : Hp} {a : Addr} {ns : List Int} {σ : L2.St} {n : Nat} {W : WX}
    (hσ : σ = some (.ref a) :: none :: List.replicate n none)
    (hrest : ∀ hd c, hd ≠ c → PSsD X ⟨handI hd c, fun _ _ => False, W⟩ rest (td hd))
    (hC : ∀ hd, td hd ⟨fun _ => False, fun d => d = .bl true, fun _ => False, fun _ => False⟩ (.val (scrD (ns.map D.int)) :: .val (.ref hd) :: List.replicate n .no))
    (hl : ns.length ≤ 63) (o : Only H) (sq : SqL X.K H a (ns.map V.int)) (hQ : ∀ H', Q (.bl true) H') :
    tSeq (tAsg (tCall (spOf X.K HI.plain 1 (C_hand X.K)) [] E0 (tCons (tVar 0) tNil)) (gName 1)) (wSs X rest) { nx := fun _ H' => Q .non H', rt := Q } σ H := by
  subst hσ
  have ds := scr_den o sq
  refine ⟨_, rfl, [scrD (ns.map D.int)], fun d => ∃ (cs : List Int) (t : Int), cs.length ≤ 63 ∧ (∀ c ∈ cs, 0 ≤ c) ∧ 0 ≤ t ∧ t < 2 ^ 32 ∧ d = .lst [.lst (cs.map D.int), .int 0, .int 0, .int t], fun _ => False, rfl, .one ds, trivial, ⟨_, ns, rfl, hl, fun cs t h1 h2 h3 h4 => ⟨cs, t, h1, h2, h3, h4, rfl⟩⟩, fun v d H1 e1 dn ⟨cs, t, h1, h2, h3, h4, ed⟩ => ?_, fun _ _ _ _ _ z => z.elim⟩
  subst ed
  obtain ⟨hd, c, rfl, hne, Z⟩ := hand_at dn h1 h2 h3 h4
  have kp : Kp (fun _ => False) H H1 := e1.1
  have ok1 : (handI hd c).ok H1 := ⟨_, _, _, _, Z⟩
  have hd0 : DenE X.K (handI hd c) ⟨H1, []⟩ (some (.ref a) :: some (.ref hd) :: List.replicate n none) H1 (.val (scrD (ns.map D.int)) :: .val (.ref hd) :: List.replicate n .no) := by
    refine ⟨by simp, .refl ok1, fun _ => 0, fun i xs e => ?_, fun i j xs ys e => ?_, fun i d e => ?_, fun p hp => by cases hp⟩
    · match i, e with
      | 0, e => cases e
      | 1, e => cases e
      | i + 2, e =>
        simp only [List.getElem?_cons_succ, List.getElem?_replicate] at e
        split at e <;> cases e
    · match i, e with
      | 0, e => cases e
      | 1, e => cases e
      | i + 2, e =>
        simp only [List.getElem?_cons_succ, List.getElem?_replicate] at e
        split at e <;> cases e
    · match i, e with
      | 0, e =>
        cases e
        refine ⟨.ref a, rfl, ?_⟩
        have d1 : Den X.K (fun _ => False) H1 (.ref a) (scrD (ns.map D.int)) := Den.keep kp _ _ ds
        simp only [Den] at d1 ⊢
        obtain ⟨ws, hw, ⟨b, eb, hb⟩, dw⟩ := d1
        cases eb
        have ew := dw.ofInts
        subst ew
        refine ⟨_, hw, ⟨a, rfl, hb.imp (fun ⟨_, u, hu⟩ => ⟨fun z => ?_, u, hu⟩) id⟩, DenA.ints⟩
        rcases z with z | ⟨i, xs, e, _⟩
        · have z : a = hd := z
          rw [z, Z.h] at hu
          cases hu
        · match i, e with
          | 0, e => cases e
          | 1, e => cases e
          | i + 2, e =>
            simp only [List.getElem?_cons_succ, List.getElem?_replicate] at e
            split at e <;> cases e
      | 1, e =>
        cases e
        exact ⟨.ref hd, rfl, by simp only [Den]⟩
      | i + 2, e =>
        simp only [List.getElem?_cons_succ, List.getElem?_replicate] at e
        split at e <;> cases e
  refine hrest hd c hne ⟨H1, []⟩ _ H1 _ _ _ hd0 (fun _ _ _ _ _ _ _ _ _ z => z.elim) (hC hd) ⟨fun _ _ _ _ z => z.elim, fun v d H2 e2 dn2 ed => ?_, fun _ _ _ _ z => z.elim, fun _ _ _ _ z => z.elim⟩
  subst ed
  simp only [Den] at dn2
  subst dn2
  exact hQ H2
end Dl

namespace Dl
open PySem PySem.Spec PyProof.Rows L2
section
variable {X : Cx} {g : Gx} {e tg : Expr} {td : TED} {gd : TGD} {pos : Pos} {I : HI}
end
end Dl

namespace Dl
open PySem PySem.Spec PyProof.Rows L2
section
variable {X : Cx} {x : Str} {e : Expr} {es : List Expr} {ta : L2.TA} {p pos : Pos}
theorem pe_exc0 {C : Addr} {bmB : List Value} {B newId initId : String} (F : ExcBaseFacts B newId initId bmB) (q : PySem.W.excIn X.K C bmB newId = true) (gC : X.mg x = some (.ref C)) (kC : PySem.W.keepIn X.K (.ref C) = true) (hg : Gl X x)
    (hdb : (x == ("__debug__" : Str)) = false := by decide) : PE X (.Call (.Name x p) [] [] pos) (fun σ H Q => ∀ a, H a = none → Q (.ref a) (upd H a (exo a C none))) := by
  constructor
  intro pins s σ H Q I h
  refine wpAny_Call_Name_kw (ld_glob I hg gC ?_ hdb)
  refine PySem.W.callWith_K0 I.kIn kC ?_
  show wpAny _ _ (call (.ref C) []) _ _ _
  have z := exc_obj I.kIn q
  obtain ⟨_, _, _, _, _, _, _, _, _, _, _, _, _, _, _, _, _, oC, nN, noI, T⟩ := z
  refine wpAny_call_exc_subT F T oC nN noI (fun h' b made => ?_) (by rw [sizeLine_eq]; exact Nat.zero_le _)
  obtain ⟨t, at_b, _, _⟩ := made.there
  have free : H b = none := I.hok.gone made.new
  exact ⟨.ref b, _, I.laidN made.keeps made.new free (exo_ok at_b), rfl, h b free⟩
def tMkV (C : Addr) (sp : Sp) (dvs : List V) (ta : L2.TA) : TE := fun σ H Q => ta σ H fun vs H1 => vs.length ≤ 1000 ∧ ∀ a, H1 a = none → sp (.ref a :: (vs ++ dvs)) (upd H1 a (exo a C none)) (fun v H2 => v = .non ∧ Q (.ref a) H2) (fun _ _ _ => False)
theorem pe_oexV {CX : CXT} {C fI : Addr} {k : Nat} {fd : FuncData} {ps : List Str} {sp : Sp} {ds : List Value} {dvs : List V} (T : OexC X.K C) (iC : PySem.W.findIn X.K (.ref C) "__init__" = some (some (.ref fI))) (tI : PySem.W.typeIn X.K (.ref fI) = some (.type "function"))
    (F1 : FnOk X.prog X.w X.K X.mg X.base CX k fI fd ps sp) (hr : Room (k + 1) X.A) (hb : Binds X.K fd ps ds) (hd : Vals dvs ds) (hx : Passes CX X (fun _ _ _ => False)) (hg : Gl X x) (hm : X.mg x = some (.ref C)) (ha : PA X (e :: es) ta)
    (hdb : (x == ("__debug__" : Str)) = false := by decide) (he : starEach (e :: es) X.env = (false, eval e X.env) :: starEach es X.env := by rfl) (hpl : (backTo pos (starEach es X.env)).any (·.1) = false := by rfl) :
    PE X (.Call (.Name x p) (e :: es) [] pos) (tMkV C sp dvs ta) := by
  constructor
  intro pins s σ H Q I h
  have z := T.cls
  obtain ⟨_, _, _, _, bm, _, _, _, _, _, _, _, _, _, _, lkC, ve⟩ := z
  refine wpAny_Call_Name_kw (ld_glob I hg hm ?_ hdb)
  refine PySem.W.callWith_K (h₀ := X.base) I.ok.mod.kin T.kC (thn (ha.run pos pins s σ H _ I h) fun us sA ⟨vs, HA, IA, rA, few, qA⟩ => ⟨IA.kIn, ?_⟩) he hpl
  show wpAny _ _ (call (.ref C) us) _ _ _
  obtain ⟨hp, g, dr, tk, os⟩ := sA
  -- where the new exception will stand: behind the tuple of its arguments
  have up1 : hp.objs.size ≤ hp.objs.size + 1 := Nat.le_succ _
  have promise := qA (hp.objs.size + 1) (IA.hok.fresh up1)
  have stay : ∀ b o, hp.get? b = some o → ((hp.push (PySem.W.kdv_tup us)).push (PySem.HandSPX.excO C hp.objs.size)).get? b = some o := fun b o q => Heap.get?_push_of_some _ (Heap.get?_push_of_some _ q)
  have there : ((hp.push (PySem.W.kdv_tup us)).push (PySem.HandSPX.excO C hp.objs.size)).get? (hp.objs.size + 1) = some (PySem.HandSPX.excO C hp.objs.size) := by heap_get
  have IB := IA.laid (t' := tk) (a := hp.objs.size + 1) (o := exo (hp.objs.size + 1) C none) stay up1 (exo_ok there)
  have rB : Vals (V.ref (hp.objs.size + 1) :: (vs ++ dvs)) (Value.ref (hp.objs.size + 1) :: (us ++ ds)) := .cons rfl (rA.append hd)
  have long : (Value.ref (hp.objs.size + 1) :: us ++ ds).length = ps.length := (F1.len _ _ _ _ promise ▸ rB.length).symm
  have small : us.length ≤ sizeLine := by
    have := Paired.length rA
    rw [sizeLine_eq]
    omega
  refine wpAny_call (PySem.HandSPX.call_own F.excBase_ValueError (fun Y => PySem.HandSPX.refsVE_contains Y bm ve) (IA.kIn _ _ lkC) (PySem.W.looks_findIn IA.kIn iC) (fun self => PySem.W.bind_fn IA.kIn self tI) small
    (codeAny_mono (F1.run _ X.stack _ _ ⟨Value.ref (hp.objs.size + 1) :: us, []⟩ (Value.ref (hp.objs.size + 1) :: (us ++ ds)) _ _ (fun _ _ _ => False) (hr.make C us []) (IB.env0.make C us []) (hb _ (Value.ref (hp.objs.size + 1) :: us) IB.kIn long) rB promise) fun r s' done => ?_))
  match r, done with
  | .error er, done => exact hx pins σ _ _ er s' IB done
  | .ok (.ret u), ⟨v, HC, o2, b2, u2, k2, rv, ev, q2⟩ =>
    subst ev
    exact ⟨rv, .ref (hp.objs.size + 1), HC, IB.call' (ch := []) o2 u2 k2 b2 (fun b z => absurd z (by simp)), rfl, q2⟩
end
def excOf : D → Option Addr
  | .obj (.exv C) _ _ => some C
  | .obj (.exn C) _ _ => some C
  | _ => none
section
variable {X : Cx} {pins : List (Addr × Obj)} {σ : L2.St} {H : Hp} {s : Shared} {Av : Addr → Prop}
theorem exc_inst (J : Inv X pins σ H s) {z : D} {C : Addr} {v : V} {u : Value} (ez : excOf z = some C) (dn : Den X.K Av H v z) (r : RelV v u) : ∃ a oe od, u = .ref a ∧ PySem.W.InstAt s.heap a oe C od := by
  match z, ez, dn with
  | .obj (.exv C') ns ds, ez, dn =>
    obtain rfl : C' = C := Option.some.inj ez
    simp only [Den] at dn
    obtain ⟨ws, _, ⟨a, dx, rfl, ⟨_, ha⟩, _, hx⟩, _⟩ := dn
    obtain rfl : u = Value.ref a := r
    obtain ⟨t1, g1⟩ := exo_at J.hok ha
    obtain ⟨mA, g2, _⟩ := exd_at J.hok hx
    obtain ⟨od, g3, _⟩ := lookIn_ns g2
    exact ⟨a, _, some od, rfl, g1, rfl, rfl, g3⟩
  | .obj (.exn C') ns ds, ez, dn =>
    obtain rfl : C' = C := Option.some.inj ez
    simp only [Den] at dn
    obtain ⟨ws, _, ⟨a, rfl, ⟨_, ha⟩⟩, _⟩ := dn
    obtain rfl : u = Value.ref a := r
    obtain ⟨t1, g1⟩ := exo_at J.hok ha
    exact ⟨a, _, none, rfl, g1, rfl, rfl, trivial⟩
end
def bIsV (K : PySem.W.Frag) : FC := fun xs Q => ∃ z C c cv t, xs = [z, c] ∧ excOf z = some C ∧ clsV c = some cv ∧ ExcC K C ∧ PySem.W.kitOne K (.ref C) cv = some t ∧ Q (.bl t)
section
variable {X : Cx} {I : HI} {g : Gx} {e : Expr} {te : TED} {pos p : Pos} {n y : Str}
theorem c_isV : RC X I (.builtin "isinstance") (bIsV X.K) := fun H xs ds Qd Q ok dn ⟨z, C, c, cv, t, e, ez, hc, ex, hk, q⟩ k => by
  subst e
  obtain ⟨v, r, rfl, d1, d2⟩ := dn.cons
  obtain ⟨w, rfl, d3⟩ := d2.one1
  intro pins s σ us J r
  match us, r with
  | [u1, u2], .cons rx (.cons rt .nil) =>
    have e2 : u2 = cv := by
      cases c <;> simp only [clsV, Option.some.injEq, reduceCtorEq] at hc <;> simp only [Den] at d3 <;> subst d3 <;> subst hc <;> exact rt
    subst e2
    obtain ⟨a, oe, od, rfl, ins⟩ := exc_inst J ez d1 rx
    have known : (PySem.W.clsIn X.K C).isSome = true := by
      obtain ⟨cd, hcd, _⟩ := PySem.W.any_some ex.hd
      rw [hcd]; rfl
    exact PySem.W.kia_one (PySem.W.kitx_exc known ex.hg ex.hk ex.hs ex.ha ex.hn ex.ht ex.hm) J.kIn ins hk (fun z => nomatch z) fun tk => ⟨.bl t, H, J.kept (t' := tk) fun _ _ z => z, rfl, k _ _ H (.refl ok) (by simp only [Den]) q⟩
def dXv (K : PySem.W.Frag) (n : Str) (te : TED) : TED := fun env Q => te env fun z => ∃ C ns ds, z = .obj (.exv C) ns ds ∧ XfC K C ∧ PySem.W.findIn K (.ref C) n = some none ∧ ns.length = ds.length ∧ ∃ v, lookD n (ns.zip ds) = some v ∧ Q v
theorem d_xv (he : PED X g e te) (hb : attributeBase e n X.env (eval e X.env) = eval e X.env := by rfl) : PED X g (.Attribute e n pos) (dXv X.K n te) := fun b0 σ H env Qd Q hd xl ht k pins s J => by
  refine attr_of hb (thn (he b0 σ H env _ (fun v H1 => ∃ (a dx C : Addr) (ws : List V) (ns : List Str) (u : V), v = .ref a ∧ XfC X.K C ∧ PySem.W.findIn X.K (.ref C) n = some none ∧ H1 a = some (exo a C (some dx)) ∧ H1 dx = some (exd dx (ns.zip ws)) ∧ (ns.zip ws).lookup n = some u ∧ Q u H1) hd xl ht (fun v z H1 e1 dn hq => ?_) pins s J) fun u s1 hh => ?_)
  · obtain ⟨C, ns, ds, rfl, hX, hn, hl, w, el, q⟩ := hq
    simp only [Den] at dn
    obtain ⟨ws, hw, ⟨a, dx, rfl, ⟨_, ha⟩, _, hx⟩, da⟩ := dn
    have m1 : (ns.zip ds).map (·.1) = ns := List.map_fst_zip (Nat.le_of_eq hl)
    have m2 : (ns.zip ds).map (·.2) = ds := List.map_snd_zip (Nat.le_of_eq hl.symm)
    obtain ⟨u, q1, q2⟩ := look_zip (fs := ns.zip ds) (by rw [m2]; exact da) el
    rw [m1] at q1
    exact ⟨a, dx, C, ws, ns, u, rfl, hX, hn, ha, hx, q1, k u w H1 e1 q2 q⟩
  · obtain ⟨z, H1, I1, rx, a, dx, C, ws, ns, v, rfl, T, hno, ha, hx, l, q⟩ := hh
    obtain rfl : u = Value.ref a := rx
    obtain ⟨t1, g1⟩ := exo_at I1.hok ha
    obtain ⟨mA, hns, hr⟩ := exd_at I1.hok hx
    obtain ⟨od, ho, hl⟩ := lookIn_ns hns
    obtain ⟨u, hu, ru⟩ := RelO.some_of (v := v) (o := mA n) (by rw [← l]; exact hr n)
    exact HandSPX.exc_get I1.kIn (ox := { cls := .ref C, dict := some dx, data := .fields #[.ref t1, .none, .none, .none, .bool false, .none] }) (od := some od) ⟨g1, rfl, rfl, ho⟩ T.ga T.gg T.exC (PySem.W.findObj_own T.hdC hno rfl (by rw [hl, hu])) (handed_of ru) ⟨v, H1, I1.tok _, ru, q⟩
end
end Dl

namespace Dl
open PySem PySem.Spec PyProof.Rows L2 He
theorem two_new {K : PySem.W.Frag} {I : HI} {H H2 : Hp} {a dx C : Addr} {fs : List Str} {vs : List V} {ds : List D} (ok : I.ok H) (na : H a = none) (nd : H dx = none) (ne : dx ≠ a) (same : ∀ b, b ≠ a → b ≠ dx → H2 b = H b) (h1 : H2 a = some (exo a C (some dx))) (h2 : H2 dx = some (exd dx (fs.zip vs)))
    (hl : vs.length = fs.length) (dn : DenA K I.own H vs ds) : Ext I H H2 ∧ Den K I.own H2 (.ref a) (.obj (.exv C) fs ds) := by
  have kp : Kp I.own H H2 := fun b o n e => by rw [same b (ne_of_none e na) (ne_of_none e nd)]; exact e
  have nf : ∀ {b}, I.foot b → b ≠ a ∧ b ≠ dx := fun {b} f => ⟨fun z => I.dom H b ok f (by rw [z]; exact na), fun z => I.dom H b ok f (by rw [z]; exact nd)⟩
  refine ⟨⟨kp, I.loc H _ (fun b f => same b (nf f).1 (nf f).2) ok⟩, ?_⟩
  simp only [Den]
  exact ⟨vs, hl, ⟨a, dx, rfl, ⟨HI.nown ok na, h1⟩, HI.nown ok nd, h2⟩, DenA.keep kp _ _ dn⟩
def dMk (C : Addr) (fl : Str) (td : TED) : TED := fun env Q => td env fun d => Q (.obj (.exv C) [fl] [d])
def spExc2 (C : Addr) (f1 f2 : Str) : Sp := fun vs H Q _ => ∃ a v1 v2, vs = [.ref a, v1, v2] ∧ H a = some (exo a C none) ∧ ∀ dx, H dx = none → dx ≠ a → Q .non (upd (upd (upd H dx (exd dx [(f1, v1)])) a (exo a C (some dx))) dx (exd dx [(f2, v2), (f1, v1)]))
def dMk2 (C : Addr) (f1 f2 : Str) (t1 t2 : TED) : TED := fun env Q => t1 env fun x => t2 env fun y => Q (.obj (.exv C) [f2, f1] [y, x])
structure Er2 (P : Program) (w : World) (K : PySem.W.Frag) (mg : Str → Option Value) (base : Heap) (x f1 f2 : Str) : Prop where
  f : ErrF K x f1
  g : PySem.W.findIn K (.ref (ga K x)) f2 = some none
  m : mg x = some (.ref (ga K x))
  ex : ∃ fd, FnOk P w K mg base CX0 1 (ma K (ga K x) "__init__") fd ["self", f1, f2] (spExc2 (ga K x) f1 f2) ∧ L2.Binds K fd ["self", f1, f2] []
structure Er0 (K : PySem.W.Frag) (mg : Str → Option Value) (x : Str) : Prop where
  q : PySem.W.excIn K (ga K x) [.type "ValueError", .type "Exception", .type "BaseException", .type "object"] "ValueError.__new__" = true
  k : PySem.W.keepIn K (.ref (ga K x)) = true
  m : mg x = some (.ref (ga K x))
def er0B (K : PySem.W.Frag) (x : Str) : Bool := PySem.W.excIn K (ga K x) [.type "ValueError", .type "Exception", .type "BaseException", .type "object"] "ValueError.__new__" && PySem.W.keepIn K (.ref (ga K x))
theorem init_ok2 {P : Program} {w : World} {K : PySem.W.Frag} {mg : Str → Option Value} {base : Heap} {qual : Str} {params : Arguments} {scope : Scope} {p1 p2 p3 p4 q1 q2 q3 q4 : Pos} {CX : CXT} {C fI : Addr} {fd : FuncData} {f1 f2 : Str} (T : ErrC K C f1) (T2 : PySem.W.findIn K (.ref C) f2 = some none)
    (d1 : (f1 == ("__debug__" : Str)) = false) (c1 : (f1 == ("__classdict__" : Str)) = false) (d2 : (f2 == ("__debug__" : Str)) = false) (c2 : (f2 == ("__classdict__" : Str)) = false) (v0 : Vis scope "self") (v1 : Vis scope f1) (v2 : Vis scope f2)
    (F : FunD K "__init__" qual params [.Assign [.Attribute (.Name "self" p1) f1 p2] (.Name f1 p3) p4, .Assign [.Attribute (.Name "self" q1) f2 q2] (.Name f2 q3) q4] scope [] [] fI fd) (S : FnScope ["self", f1, f2] ["self", f1, f2] scope)
    (s1 : ∀ X : Cx, swapsWith (.Name f1 p3) (some (.Attribute (.Name "self" p1) f1 p2)) p4.line X.env = pure false) (s2 : ∀ X : Cx, swapsWith (.Name f2 q3) (some (.Attribute (.Name "self" q1) f2 q2)) q4.line X.env = pure false) :
    FnOk P w K mg base CX 1 fI fd ["self", f1, f2] (spExc2 C f1 f2) := by
  refine F.ok S (fun vs H Q E ⟨a, v, u, e, _⟩ => by rw [e]; rfl) (fun cdv A outer s H vs Q E hr ⟨a, v, u, e, hH, q⟩ => ?_)
  subst e
  refine ⟨_, PSs.nox (pss_cons (ps_ost (pe_var (i := 0) rfl v0) (pe_var (i := 1) rfl v1 d1 c1) (s1 _)) (pss_one (ps_ost (pe_var (i := 0) rfl v0) (pe_var (i := 2) rfl v2 d2 c2) (s2 _)))), ?_⟩
  refine ⟨v, rfl, .ref a, rfl, a, C, rfl, T.ox, T.nf, .inl ⟨hH, fun dx h1 h2 => ?_⟩⟩
  exact ⟨u, rfl, .ref a, rfl, a, C, rfl, T.ox, T2, .inr ⟨dx, [(f1, v)], upd_same, by rw [upd_ne h2, upd_same], by simp, q dx h1 h2⟩⟩
section
variable {X : Cx} {g : Gx} {e e2 : Expr} {td t1 t2 : TED} {pos p : Pos} {x fl f1 f2 : Str} {j : Nat}
theorem d_exc1 (er : Er X.prog X.w X.K X.mg X.base x fl) (hr : Room j X.A) (hj : 2 ≤ j) (hg : Gl X x) (ha : PED X g e td) (hdb : (x == ("__debug__" : Str)) = false := by decide) (he : starEach (e :: []) X.env = (false, eval e X.env) :: starEach [] X.env := by rfl)
    (hpl : (backTo pos (starEach [] X.env)).any (·.1) = false := by rfl) : PED X g (.Call (.Name x p) [e] [] pos) (dMk (ga X.K x) fl td) := by
  obtain ⟨fd, F, hb⟩ := er.ex
  refine ped_of (pe_oexV er.f.e.ox er.f.i er.f.t F (hr.mono hj) hb .nil pass0 hg er.m (pa_cons pe_w pa_nil he) hdb he hpl) fun b σ H env Qd Q hd xl h k => ?_
  refine ha b σ H env _ _ hd xl h fun v d H1 e1 dn q => ?_
  refine ⟨(by decide : 1 ≤ 1000), fun a hA => ⟨a, v, rfl, upd_same, fun dx h1 h2 => ⟨rfl, ?_⟩⟩⟩
  have hdx : H1 dx = none := by rw [upd_ne h2] at h1; exact h1
  obtain ⟨x1, x2⟩ := two_new (K := X.K) (C := ga X.K x) (fs := [fl]) (H2 := upd (upd (upd H1 a (exo a (ga X.K x) none)) dx (exd dx [(fl, v)])) a (exo a (ga X.K x) (some dx))) e1.2 hA hdx h2 (fun b b1 b2 => by rw [upd_ne b1, upd_ne b2, upd_ne b1]) upd_same (by rw [upd_ne h2, upd_same]; rfl) rfl (.one dn)
  exact k _ _ _ (e1.trans x1) x2 q
theorem d_exc2 (er : Er2 X.prog X.w X.K X.mg X.base x f1 f2) (hr : Room j X.A) (hj : 2 ≤ j) (hg : Gl X x) (ha : PED X g e t1) (hb2 : PED X g e2 t2) (hdb : (x == ("__debug__" : Str)) = false := by decide)
    (he : starEach (e :: [e2]) X.env = (false, eval e X.env) :: starEach [e2] X.env := by rfl) (he2 : starEach [e2] X.env = (false, eval e2 X.env) :: starEach [] X.env := by rfl)
    (hpl : (backTo pos (starEach [e2] X.env)).any (·.1) = false := by rfl) : PED X g (.Call (.Name x p) [e, e2] [] pos) (dMk2 (ga X.K x) f1 f2 t1 t2) := by
  obtain ⟨fd, F, hb⟩ := er.ex
  refine ped_of (pe_oexV er.f.e.ox er.f.i er.f.t F (hr.mono hj) hb .nil pass0 hg er.m (pa_cons pe_w (pa_cons pe_w pa_nil he2) he) hdb he hpl) fun b σ H env Qd Q hd xl h k => ?_
  refine ha b σ H env _ _ hd xl h fun v d H1 e1 dn q => ?_
  refine hb2 b σ H1 env _ _ (hd.mono e1) xl q fun v2 d2 H2 e2 dn2 q => ?_
  refine ⟨(by decide : 2 ≤ 1000), fun a hA => ⟨a, v, v2, rfl, upd_same, fun dx h1 h2 => ⟨rfl, ?_⟩⟩⟩
  have hdx : H2 dx = none := by rw [upd_ne h2] at h1; exact h1
  have dn1 : Den X.K g.I.own H2 v d := Den.keep e2.1 _ _ dn
  obtain ⟨x1, x2⟩ := two_new (K := X.K) (C := ga X.K x) (fs := [f2, f1]) (vs := [v2, v]) (ds := [d2, d]) (H2 := upd (upd (upd (upd H2 a (exo a (ga X.K x) none)) dx (exd dx [(f1, v)])) a (exo a (ga X.K x) (some dx))) dx (exd dx [(f2, v2), (f1, v)])) e2.2 hA hdx h2
    (fun b b1 b2 => by rw [upd_ne b2, upd_ne b1, upd_ne b2, upd_ne b1]) (by rw [upd_ne (Ne.symm h2), upd_same]) (by rw [upd_same]; rfl) rfl (DenA.app (.one dn2) (.one dn1))
  exact k _ _ _ (e1.trans (e2.trans x1)) x2 q
theorem d_exc0 (er : Er0 X.K X.mg x) (hg : Gl X x) (hdb : (x == ("__debug__" : Str)) = false := by decide) : PED X g (.Call (.Name x p) [] [] pos) (dC (.obj (.exn (ga X.K x)) [] [])) :=
  ped_of (pe_exc0 F.excBase_ValueError er.q er.m er.k hg hdb) fun b σ H env Qd Q hd xl h k => fun a hA => k _ _ _ (.new hd.ok hA) (by
    simp only [Den]
    exact ⟨[], rfl, ⟨a, rfl, HI.nown hd.ok hA, upd_same⟩, by simp only [DenA]⟩) h
end
mutual
/-- data that may be shown: no class, no object -/
def D.nice : D → Bool
  | .obj _ _ _ => false | .ref _ => false | .ty _ => false | .str _ => true | .tup xs => niceA xs | .lst xs => niceA xs | .non => true | .bl _ => true | .int _ => true
def niceA : List D → Bool
  | [] => true
  | x :: xs => D.nice x && niceA xs
end
mutual
theorem Den.dpN {K : PySem.W.Frag} {Av : Addr → Prop} {H : Hp} : ∀ (d : D) (v : V), d.nice = true → Den K Av H v d → Dp K H v d.py
  | .non, v, _, h => by simp only [Den] at h; subst h; exact .non
  | .bl b, v, _, h => by simp only [Den] at h; subst h; exact .bl b
  | .int b, v, _, h => by simp only [Den] at h; subst h; exact .int b
  | .str b, v, _, h => by simp only [Den] at h; subst h; exact .str b
  | .tup ds, v, g, h => by
    simp only [Den] at h
    obtain ⟨a, vs, rfl, s, _, r⟩ := h
    exact .tup s (DenA.dpN ds vs (by simpa only [D.nice] using g) r)
  | .lst ds, v, g, h => by
    simp only [Den] at h
    obtain ⟨a, vs, rfl, s, _, r⟩ := h
    exact .lst (SqL.of s) (DenA.dpN ds vs (by simpa only [D.nice] using g) r)
  | .ref _, _, g, _ => by simp [D.nice] at g
  | .ty _, _, g, _ => by simp [D.nice] at g
  | .obj _ _ _, _, g, _ => by simp [D.nice] at g
theorem DenA.dpN {K : PySem.W.Frag} {Av : Addr → Prop} {H : Hp} : ∀ (ds : List D) (vs : List V), niceA ds = true → DenA K Av H vs ds → DpAll K H vs (pyA ds)
  | [], vs, _, h => by cases h.nil; exact .nil
  | d :: ds, vs, g, h => by
    simp only [niceA, Bool.and_eq_true] at g
    obtain ⟨v, r, rfl, h1, h2⟩ := h.cons
    exact .cons (Den.dpN d v g.1 h1) (DenA.dpN ds r g.2 h2)
end
def bRepr : FC := fun xs Q => ∃ ys : List D, xs = [.lst ys] ∧ (D.lst ys).nice = true ∧ (D.lst ys).dep ≤ 20 ∧ (D.lst ys).py.showable = true ∧ (D.lst ys).py.shown.length ≤ sizeLine ∧ Q (.str (D.lst ys).py.shown)
mutual
theorem py_noDict : ∀ d : D, d.py.hasDict = false
  | .obj _ _ _ => rfl | .non => rfl | .bl _ => rfl | .int _ => rfl | .str _ => rfl | .ref _ => rfl | .ty _ => rfl
  | .tup xs => by simp only [D.py, PyData.hasDict]; exact pyA_noDict xs
  | .lst xs => by simp only [D.py, PyData.hasDict]; exact pyA_noDict xs
theorem pyA_noDict : ∀ ds : List D, PyData.hasDictAll (pyA ds) = false
  | [] => rfl
  | x :: xs => by simp only [pyA, PyData.hasDictAll, py_noDict x, pyA_noDict xs, Bool.or_self]
end
theorem c_repr {X : Cx} {I : HI} (hgd : X.A.guards = some []) (hu : X.A.units + 64 < cLine) : RC X I (.builtin "repr") bRepr := fun H xs ds Qd Q ok dn ⟨ys, e, go, dp, sh, sz, q⟩ k => by
  subst e
  obtain ⟨v, rfl, d1⟩ := dn.one1
  intro pins s σ us J r
  match us, r with
  | [u], .cons rx .nil =>
    have dd := Den.dpN _ _ go d1
    simp only [Den] at d1
    obtain ⟨a, vs, rfl, _⟩ := d1
    obtain rfl : u = Value.ref a := rx
    obtain ⟨as, rd⟩ := Dp.reads J _ _ _ dd rfl
    have dl : (D.lst ys).py.depth ≤ 20 := by rw [py_dep]; exact dp
    refine repr_of_reads' rd sh (fun z => by rw [py_noDict] at z; cases z) hgd (by omega) (fun b o e => e) (fun h' t tk keep => ?_) sz
    exact ⟨.str _, H, J.kept (t' := tk) keep, ⟨_, rfl⟩, k _ _ H (.refl ok) (by simp only [Den]) q⟩
def fNeS : F2 := fun x y Q => ∃ a b : Str, x = .str a ∧ y = .str b ∧ Q (.bl (!decide (a = b)))
theorem r_neS {X : Cx} {I : HI} : RD X I (compareOp .NotEq) fNeS := fun H x y dx dy Qd Q ok hx hy ⟨a, b, e1, e2, h⟩ k => by
  subst e1 e2
  simp only [Den] at hx hy
  subst hx hy
  refine rw2_of op_ne ⟨rfl, ?_⟩
  have e : decide (V.str a = V.str b) = decide (a = b) := by rw [Bool.eq_iff_iff]; simp
  rw [e]
  exact k _ _ H (.refl ok) (by simp only [Den]) h
end Dl

namespace Dl
open PySem PySem.Spec PyProof.Rows L2
structure FnAt (P : Program) (w : World) (K : PySem.W.Frag) (mg : Str → Option Value) (base : Heap) (CX : CXT) (A : Around) (f : Addr) (fd : FuncData) (ps : List Str) (sp : Sp) : Prop where
  run : ∀ (outer : List Env) (s : Shared) (H : Hp) (args : Args) (us : List Value) (vs : List V) (Q : VK) (E : XK), Env0 P w K mg base A outer s H → BindsTo s fd args (ps.zip us) → Vals vs us → vs.length = ps.length → sp vs H Q E → codeAny (model P w) A (.call (.ref f) args) (CR CX outer P w H s Q E) s
section
variable {P : Program} {w : World} {K : PySem.W.Frag} {mg : Str → Option Value} {base : Heap} {x qual : Str} {params : Arguments} {body : List Stmt} {scope : Scope} {dvs : List V} {kws : List (Str × V)} {f : Addr} {fd : FuncData} {CX : CXT} {N ps : List Str} {sp : Sp} {A : Around} {k : Nat}
theorem fnAt (F : FunD K x qual params body scope dvs kws f fd) (S : FnScope N ps scope) (room : Room (k + 1) A)
    (walk : ∀ (cdv : Value) (outer : List Env) (s : Shared) (H : Hp) (vs : List V) (Q : VK) (E : XK), Room k (A.deeper (envOfC qual scope s.heap.objs.size f cdv)) → sp vs H Q E →
      ∃ t, PSs (cxOf CX P w K mg base N qual scope f cdv A outer s H E) body t ∧ t { nx := fun _ H' => Q .non H', rt := Q } (start N vs) H) : FnAt P w K mg base CX A f fd ps sp := by
  have z := F.ex
  obtain ⟨_, _, _, _, _, _, _, cdv, _, _, rfl, at_f, code, _, _⟩ := z
  constructor
  intro outer s H args us vs Q E e0 binds rel len hsp
  have inK := e0.mod.kin.keeps fun b o e => (e0.bs b o e).1
  have slots : ∀ y ∈ ps.zip us, scope.names.lookup y.1 = some .local ∨ (scope.names.lookup y.1 = some .cell ∧ ((cellsFrom (s.heap.objs.size + 1) scope.names []).lookup y.1).isSome = true) := fun y hy =>
    (S.par y.1 (List.of_mem_zip (a := y.1) (b := y.2) hy).1).imp id fun q => ⟨q, PySem.W.cellsFrom_some _ _ _ (.inl q)⟩
  refine codeAny_call_function room.depth (inK _ _ at_f) rfl S.co S.gen rfl (PySem.W.codeRec_of inK code) (binds _ _ _ _ (wpAny_newFunctionEnv_cells S.kind slots fun env he s1 entered => ?_))
  subst he
  refine ⟨(e0.mod.nolimit.keeps fun b o e => (e0.bs b o e).1).keeps entered.toInCall.keep, codeAny_func ?_⟩
  obtain ⟨t, read, holds⟩ := walk cdv outer s H vs Q E (room.deeper _) hsp
  have I := inv_start (CX := CX) (E := E) S room.hd e0 len rel entered
  refine wpAny_mono (read.run [] s1 (start N vs) H _ I holds) (fun fl s' ends => ?_) fun _ _ z => z
  match fl, ends with
  | .ret u, ⟨v, σ', H', J, rv, q⟩ => exact ⟨v, H', J.os, J.bare, J.base, J.hok, rv, q⟩
  | .next, ⟨σ', H', J, q⟩ => exact ⟨V.non, H', J.os, J.bare, J.base, J.hok, rfl, q⟩
  | .brk, ⟨_, _, _, q⟩ => exact False.elim q
  | .cont, ⟨_, _, _, q⟩ => exact False.elim q
end
section
variable {P : Program} {w : World} {K : PySem.W.Frag} {mg mb : Str → Option Value} {fa a : Addr} {s₁ : Shared} {vs : List Value} {ns : List Int}
abbrev Fine (s₁ : Shared) (r : Result) (s' : Shared) : Prop := r = .ok (.ret (.bool true)) ∧ OldK s₁.heap s'.heap ∧ s'.os = s₁.os ∧ AllBare s'.gens
theorem fine_of {H : Hp} (O : Only H) (ok : HOk P w H s₁.heap) {r : Result} {s' : Shared} (h : CR CX0 [] P w H s₁ (fun v _ => v = .bl true) E0 r s') : Fine s₁ r s' := by
  match r, h with
  | .ok (.ret u), ⟨v, H', os, bare, un, ok', rv, q⟩ =>
    have q : v = .bl true := q
    subst q
    obtain rfl : u = Value.bool true := rv
    refine ⟨rfl, OldK.of_keep fun b o e => ?_, os, bare⟩
    rcases O b with n | ⟨ob, xs, f⟩
    · exact un.keep b o e n (fun z => nomatch z) (fun z => nomatch z)
    · have before := (ok b _ f).1
      have after := (ok' b _ (un.frzs b ob _ f)).1
      rw [e] at before
      cases before
      exact after
theorem entry0 (KX : K.In s₁.heap) (gl : s₁.heap.Ns mainGlobals mg) (bl : s₁.heap.Ns builtinsNs mb) (bb : ∀ x : Str, x ≠ "__name__" → mb x = bootBuiltins x) (lim : s₁.heap.NoLimit) (gens : s₁.gens = #[])
    (at_a : s₁.heap.get? a = some { cls := .type "list", data := .seq vs.toArray }) {H : Hp} (few : ∀ b, H b ≠ none → b = a) (mine : H a ≠ none → K.lookup a = none) (ok : HOk P w H s₁.heap) :
    ∃ base : Heap, K.In base ∧ base.Ns mainGlobals mg ∧ Env0 P w K mg base callerA [] s₁ H := by
  have free : ∀ {b : Addr} {o : Obj}, s₁.heap.get? b = some o → (b = a → False) → H b = none := fun {b o} _ n => Classical.byContradiction fun z => n (few b z)
  have noDict : ∀ {b : Addr} {o : Obj} {es : Array DictEntry} {ep : Nat}, s₁.heap.get? b = some o → o.data = .dict es ep → H b = none := fun {b o es ep} e d => free e fun z => by
    rw [z, at_a] at e
    cases e
    cases (show Data.seq vs.toArray _ = Data.dict es ep from d)
  have nsB : ∀ {b : Addr} {m : Str → Option Value}, s₁.heap.Ns b m → (hidT s₁.heap H).Ns b m := fun {b m} ⟨o, es, ep, e, d, r⟩ => ⟨o, es, ep, hidT_get e (noDict e d), d, r⟩
  have inB : K.In (hidT s₁.heap H) := fun b o e => hidT_get (KX b o e) (Classical.byContradiction fun z => by
    have hb := few b z
    subst hb
    rw [mine z] at e
    cases e)
  obtain ⟨mc, l1, l2⟩ := lim
  refine ⟨hidT s₁.heap H, inB, nsB gl, rfl, ⟨inB, nsB gl, ⟨mb, nsB bl, bb⟩, ⟨mc, nsB l1, l2⟩⟩, fun b o e => of_hidT e, Nat.le_of_eq (hidT_size _ _), trivial, fun b z => ?_, ok, .of_eq gens⟩
  exact absurd (show b ∈ ([] : List Addr) from z) (by simp)
theorem law_at (KX : K.In s₁.heap) (gl : s₁.heap.Ns mainGlobals mg) (bl : s₁.heap.Ns builtinsNs mb) (bb : ∀ x : Str, x ≠ "__name__" → mb x = bootBuiltins x) (lim : s₁.heap.NoLimit) (gens : s₁.gens = #[])
    (at_a : s₁.heap.get? a = some { cls := .type "list", data := .seq vs.toArray }) (hi : IntsAre vs ns) (hl : ns.length ≤ sizeLine)
    (F : ∀ (base : Heap) (H : Hp), K.In base → base.Ns mainGlobals mg → Only H → SqL K H a (ns.map V.int) → Env0 P w K mg base callerA [] s₁ H → codeAny (model P w) callerA (.call (.ref fa) ⟨[.ref a], []⟩) (CR CX0 [] P w H s₁ (fun v _ => v = .bl true) E0) s₁) :
    codeAny (model P w) callerA (.call (.ref fa) ⟨[.ref a], []⟩) (Fine s₁) s₁ := by
  have rel := vals_ints hi
  have same := hi.length
  by_cases own : K.lookup a = none
  · -- the script is tracked, as it is
    let H : Hp := fun b => if b = a then some (.frz { cls := .type "list", data := .seq vs.toArray } (.lst (ns.map V.int))) else none
    have Ha : H a = some (.frz { cls := .type "list", data := .seq vs.toArray } (.lst (ns.map V.int))) := if_pos rfl
    have Hn : ∀ b, b ≠ a → H b = none := fun b n => if_neg n
    have O : Only H := fun b => by
      by_cases e : b = a
      · exact .inr ⟨_, _, by rw [e]; exact Ha⟩
      · exact .inl (Hn b e)
    have ok : HOk P w H s₁.heap := fun b u z => by
      by_cases e : b = a
      · subst e
        rw [Ha] at z
        cases z
        exact ⟨at_a, by rw [List.length_map]; exact hl, vs, _, rel, at_a⟩
      · rw [Hn b e] at z
        cases z
    obtain ⟨base, h1, h2, e0⟩ := entry0 KX gl bl bb lim gens at_a (H := H) (fun b z => Classical.byContradiction fun n => z (Hn b n)) (fun _ => own) ok
    exact codeAny_mono (F base H h1 h2 O (.inl (.inr ⟨_, Ha⟩)) e0) fun r s' h => fine_of O ok h
  · obtain ⟨o, lk⟩ := Option.ne_none_iff_exists'.mp own
    have e := KX a o lk
    rw [at_a] at e
    cases e
    have O : Only (fun _ => none) := fun _ => .inl rfl
    have ok : HOk P w (fun _ => none) s₁.heap := fun b u z => by cases (show (none : Option HO) = some u from z)
    obtain ⟨base, h1, h2, e0⟩ := entry0 KX gl bl bb lim gens at_a (H := fun _ => none) (fun b z => absurd rfl z) (fun z => absurd rfl z) ok
    exact codeAny_mono (F base _ h1 h2 O (.inr ⟨_, vs.toArray, _, lk, rfl, rfl, rfl, by rw [List.size_toArray, same]; exact hl, by simpa using rel⟩) e0) fun r s' h => fine_of O ok h
end
theorem walk_at {l : PySem.W.OpenLaw} {n : Nat} {q : Program} {loose : List Str} {XP : (Str → Option Value) → Heap → Prop} {YP : World → Heap → Prop} {d : DefRec} {x : Str} (hn : l.most = some n) (hn2 : n ≤ sizeLine) (hdf : d.params.defaults = [])
    (F : ∀ (w : World) (mg : Str → Option Value) (fa : Addr) (h : Heap), YP w h → h.Ns mainGlobals mg → mg d.name = some (.ref fa) →
      ∃ (K : PySem.W.Frag) (fd : FuncData) (sp : Sp), K.In h ∧ (∀ (s : Shared) (u : Value), BindsTo s fd ⟨[u], []⟩ [(x, u)]) ∧
        (∀ (H : Hp) (a : Addr) (ns : List Int), ns.length ≤ n → Only H → SqL K H a (ns.map V.int) → sp [.ref a] H (fun v _ => v = .bl true) E0) ∧
        ∀ base : Heap, K.In base → base.Ns mainGlobals mg → FnAt l.prog w K mg base CX0 callerA fa fd [x] sp) :
    PySem.W.WalkO q loose XP YP l.row.toRowW d [] (fun f vs => PySem.call f vs) := by
  refine Att.attach_call hn hdf fun w s₀ s₁ mg mb fa o pm cd doc a vs ns G Y _ _ _ hmg hobj hints hlen hg => ?_
  obtain ⟨K, fd, sp, KX, hb, hsp, hF⟩ := F w mg fa _ Y G.T.g hmg
  exact law_at KX G.T.g G.T.b G.T.builtins G.T.nolimit hg hobj hints (Nat.le_trans hlen hn2) fun base H h1 h2 hO hS e0 => (hF base h1 h2).run [] s₁ H ⟨[.ref a], []⟩ [.ref a] [.ref a] _ _ e0 (hb s₁ (.ref a)) (.cons rfl .nil) rfl (hsp H a ns hlen hO hS)
end Dl

namespace K70
open PySem PySem.Spec PyProof.Rows L2 Dl He
def nms : List Str := [Str.ofString "BadStanding", Str.ofString "BadPlaces", Str.ofString "BadLayers", Str.ofString "BadCount", Str.ofString "BadDates", Str.ofString "BadLot", Str.ofString "BadText", Str.ofString "BadRelation", Str.ofString "TooMany", Str.ofString "BadParts", Str.ofString "BadLining", Str.ofString "NoLot", Str.ofString "BadStray", Str.ofString "BadSpoilt", Str.ofString "NoFact", Str.ofString "NotFitting", Str.ofString "NoDate", Str.ofString "NotOver", Str.ofString "BadClause", Str.ofString "NotBroken", Str.ofString "NotLesser", Str.ofString "BadNumbers", Str.ofString "BadWorks", Str.ofString "BadRule", Str.ofString "NotAFact", Str.ofString "NotRuledFact", Str.ofString "BadPool", Str.ofString "BadWish", Str.ofString "BadEdit", Str.ofString "BadBook", Str.ofString "BadRules", Str.ofString "BadNumber", Str.ofString "OtherPlaces", Str.ofString "BadDeed", Str.ofString "BadCut", Str.ofString "BadClosing", Str.ofString "NoWay", Str.ofString "NotStuck", Str.ofString "BadPlace", Str.ofString "NotFit", Str.ofString "BadMoment", Str.ofString "NothingDone"]
abbrev nm (i : Nat) : Str := nms.getD i ""
def fls : List Str := [Str.ofString "index", Str.ofString "index", Str.ofString "index", Str.ofString "what", Str.ofString "index", Str.ofString "index", Str.ofString "place", Str.ofString "what", Str.ofString "most", Str.ofString "index", Str.ofString "index", Str.ofString "index", Str.ofString "what", Str.ofString "what", Str.ofString "number", Str.ofString "fact", Str.ofString "date", Str.ofString "fact", Str.ofString "what", Str.ofString "index", Str.ofString "fact", Str.ofString "index", Str.ofString "index", Str.ofString "what", Str.ofString "number", Str.ofString "fact", Str.ofString "index", Str.ofString "index", Str.ofString "index"]
abbrev fl (i : Nat) : Str := fls.getD i ""
abbrev mroV (K : PySem.W.Frag) (C : Addr) : List Value := [.ref C, .ref (ga K "DateError"), .type "ValueError", .type "Exception", .type "BaseException", .type "object"]
structure KF (K : PySem.W.Frag) : Prop where
  mro : ∀ i, i < 42 → (PySem.W.clsIn K (ga K (nm i))).map (·.mro) = some (mroV K (ga K (nm i)))
  ty : ∀ i, i < 42 → PySem.W.typeIn K (.ref (ga K (nm i))) = some (.type "type")
  de : (PySem.W.clsIn K (ga K "DateError")).isSome = true ∧ PySem.W.typeIn K (.ref (ga K "DateError")) = some (.type "type")
  inj : ∀ i j, i < 42 → j < 42 → ga K (nm i) = ga K (nm j) → i = j
  ne : ∀ i, i < 42 → ga K (nm i) ≠ ga K "DateError"
  exc : ∀ i, i < 42 → ExcC K (ga K (nm i))
  xf : ∀ i, i < 42 → XfC K (ga K (nm i))
  nf : ∀ i, i < 29 → PySem.W.findIn K (.ref (ga K (nm i))) (fl i) = some none
  nf2 : ∀ i, i = 29 ∨ i = 30 → PySem.W.findIn K (.ref (ga K (nm i))) "index" = some none ∧ PySem.W.findIn K (.ref (ga K (nm i))) "what" = some none
section
variable {K : PySem.W.Frag} (F : KF K)
include F
theorem KF.sub {i : Nat} (hi : i < 42) (v : Value) : PySem.W.subIn K (.ref (ga K (nm i))) v = some ((mroV K (ga K (nm i))).contains v) := by
  have h := F.mro i hi
  obtain ⟨cd, h1, h2⟩ := Option.map_eq_some_iff.mp h
  show PySem.W.mroIn K (ga K (nm i)) v = _
  unfold PySem.W.mroIn
  rw [h1, Option.bind_some, h2]
  rfl
theorem KF.known {i : Nat} (hi : i < 42) : (PySem.W.clsIn K (ga K (nm i))).isSome = true := by
  obtain ⟨cd, h1, _⟩ := Option.map_eq_some_iff.mp (F.mro i hi)
  rw [h1]; rfl
theorem KF.kit {i j : Nat} (hi : i < 42) (hj : j < 42) : PySem.W.kitOne K (.ref (ga K (nm i))) (.ref (ga K (nm j))) = some (decide (i = j)) := by
  unfold PySem.W.kitOne
  by_cases e : i = j
  · subst e
    rw [if_pos (beq_self_eq_true _), decide_eq_true rfl]
  · have ne : ga K (nm i) ≠ ga K (nm j) := fun z => e (F.inj i j hi hj z)
    rw [if_neg (fun z => ne (Value.ref.inj (eq_of_beq z))), decide_eq_false e]
    unfold PySem.W.kitCls
    dsimp only
    rw [F.known hj, F.ty j hj, if_pos (by rw [beq_self_eq_true]; rfl), F.sub hi]
    congr 1
    have n1 : (Value.ref (ga K (nm j)) == Value.ref (ga K (nm i))) = false := Bool.eq_false_iff.mpr fun z => ne (Value.ref.inj (eq_of_beq z)).symm
    have n2 : (Value.ref (ga K (nm j)) == Value.ref (ga K "DateError")) = false := Bool.eq_false_iff.mpr fun z => F.ne j hj (Value.ref.inj (eq_of_beq z))
    simp only [List.contains_cons, n1, n2, Bool.false_or]
    rfl
theorem KF.kitD {i : Nat} (hi : i < 42) : PySem.W.kitOne K (.ref (ga K (nm i))) (.ref (ga K "DateError")) = some true := by
  unfold PySem.W.kitOne
  rw [if_neg (fun z => F.ne i hi (Value.ref.inj (eq_of_beq z)))]
  unfold PySem.W.kitCls
  dsimp only
  rw [F.de.1, F.de.2, if_pos (by rw [beq_self_eq_true]; rfl), F.sub hi]
  simp [List.contains_cons]
theorem KF.kitV {i : Nat} (hi : i < 42) : PySem.W.kitOne K (.ref (ga K (nm i))) (.type "ValueError") = some true := by
  unfold PySem.W.kitOne
  rw [if_neg (fun z => by have := eq_of_beq z; cases this)]
  unfold PySem.W.kitCls
  dsimp only
  rw [if_pos (by decide +kernel), F.sub hi]
  simp [List.contains_cons]
end
abbrev isE (K : PySem.W.Frag) (z : D) (i : Nat) : Prop := i < 42 ∧ excOf z = some (ga K (nm i))
abbrev exD (K : PySem.W.Frag) (i : Nat) (t : D) : D := .obj (.exv (ga K (nm i))) [fl i] [t]
def C__law_first_classes (K : PySem.W.Frag) : Ct := fun ds Q _ => ∃ (z : D) (i : Nat), ds = [z] ∧ isE K z i ∧ Q (.lst (if i < 21 then [.int i] else []))
theorem ar__law_first_classes (K : PySem.W.Frag) : Ar 1 (C__law_first_classes K) := fun _ _ _ ⟨_, _, e, _⟩ => by rw [e]; rfl
def C__law_other_classes (K : PySem.W.Frag) : Ct := fun ds Q _ => ∃ (z : D) (i : Nat), ds = [z] ∧ isE K z i ∧ Q (.lst (if i < 21 then [] else [.int i]))
theorem ar__law_other_classes (K : PySem.W.Frag) : Ar 1 (C__law_other_classes K) := fun _ _ _ ⟨_, _, e, _⟩ => by rw [e]; rfl
def C__law_first_made (K : PySem.W.Frag) : Ct := fun ds Q _ => ∃ (i : Nat) (t : D), ds = [.int i, t] ∧ i < 16 ∧ Q (.lst [exD K i t, t])
theorem ar__law_first_made (K : PySem.W.Frag) : Ar 2 (C__law_first_made K) := fun _ _ _ ⟨_, _, e, _⟩ => by rw [e]; rfl
def C__law_second_made (K : PySem.W.Frag) : Ct := fun ds Q _ => ∃ (i : Nat) (t : D), ds = [.int i, t] ∧ 16 ≤ i ∧ i < 29 ∧ Q (.lst [exD K i t, t])
theorem ar__law_second_made (K : PySem.W.Frag) : Ar 2 (C__law_second_made K) := fun _ _ _ ⟨_, _, e, _⟩ => by rw [e]; rfl
def C__law_third_made (K : PySem.W.Frag) : Ct := fun ds Q _ => ∃ (i : Nat) (t o : D), ds = [.int i, t, o] ∧ 29 ≤ i ∧ i < 42 ∧ Q (.lst (if i < 31 then [.obj (.exv (ga K (nm i))) ["what", "index"] [o, t], t, o] else [.obj (.exn (ga K (nm i))) [] []]))
theorem ar__law_third_made (K : PySem.W.Frag) : Ar 3 (C__law_third_made K) := fun _ _ _ ⟨_, _, _, e, _⟩ => by rw [e]; rfl
def C__law_single (K : PySem.W.Frag) : Ct := fun ds Q _ => ∃ (z : D) (i : Nat), ds = [z, .int i] ∧ isE K z i ∧ Q (.bl true)
theorem ar__law_single (K : PySem.W.Frag) : Ar 2 (C__law_single K) := fun _ _ _ ⟨_, _, e, _⟩ => by rw [e]; rfl
end K70

namespace K70
open PySem PySem.Spec PyProof.Rows L2 Dl He
def top (i : Nat) : Stmt := PySem.Challenge.pw_earliestlots_k70_errors_stand_straight_u.main.body.getD i (.Pass ⟨0, 0, 0, 0⟩)
structure Tf (K : PySem.W.Frag) (mg : Str → Option Value) : Prop where
  n_ValueError : mg "ValueError" = none
  n_abs : mg "abs" = none
  n_int : mg "int" = none
  n_isinstance : mg "isinstance" = none
  n_len : mg "len" = none
  n_range : mg "range" = none
  n_repr : mg "repr" = none
  n_str : mg "str" = none
  g_BadBook : mg "BadBook" = some (.ref (He.ga K "BadBook"))
  g_BadClause : mg "BadClause" = some (.ref (He.ga K "BadClause"))
  g_BadClosing : mg "BadClosing" = some (.ref (He.ga K "BadClosing"))
  g_BadCount : mg "BadCount" = some (.ref (He.ga K "BadCount"))
  g_BadCut : mg "BadCut" = some (.ref (He.ga K "BadCut"))
  g_BadDates : mg "BadDates" = some (.ref (He.ga K "BadDates"))
  g_BadDeed : mg "BadDeed" = some (.ref (He.ga K "BadDeed"))
  g_BadEdit : mg "BadEdit" = some (.ref (He.ga K "BadEdit"))
  g_BadLayers : mg "BadLayers" = some (.ref (He.ga K "BadLayers"))
  g_BadLining : mg "BadLining" = some (.ref (He.ga K "BadLining"))
  g_BadLot : mg "BadLot" = some (.ref (He.ga K "BadLot"))
  g_BadMoment : mg "BadMoment" = some (.ref (He.ga K "BadMoment"))
  g_BadNumber : mg "BadNumber" = some (.ref (He.ga K "BadNumber"))
  g_BadNumbers : mg "BadNumbers" = some (.ref (He.ga K "BadNumbers"))
  g_BadParts : mg "BadParts" = some (.ref (He.ga K "BadParts"))
  g_BadPlace : mg "BadPlace" = some (.ref (He.ga K "BadPlace"))
  g_BadPlaces : mg "BadPlaces" = some (.ref (He.ga K "BadPlaces"))
  g_BadPool : mg "BadPool" = some (.ref (He.ga K "BadPool"))
  g_BadRelation : mg "BadRelation" = some (.ref (He.ga K "BadRelation"))
  g_BadRule : mg "BadRule" = some (.ref (He.ga K "BadRule"))
  g_BadRules : mg "BadRules" = some (.ref (He.ga K "BadRules"))
  g_BadSpoilt : mg "BadSpoilt" = some (.ref (He.ga K "BadSpoilt"))
  g_BadStanding : mg "BadStanding" = some (.ref (He.ga K "BadStanding"))
  g_BadStray : mg "BadStray" = some (.ref (He.ga K "BadStray"))
  g_BadText : mg "BadText" = some (.ref (He.ga K "BadText"))
  g_BadWish : mg "BadWish" = some (.ref (He.ga K "BadWish"))
  g_BadWorks : mg "BadWorks" = some (.ref (He.ga K "BadWorks"))
  g_DateError : mg "DateError" = some (.ref (He.ga K "DateError"))
  g_NoDate : mg "NoDate" = some (.ref (He.ga K "NoDate"))
  g_NoFact : mg "NoFact" = some (.ref (He.ga K "NoFact"))
  g_NoLot : mg "NoLot" = some (.ref (He.ga K "NoLot"))
  g_NoWay : mg "NoWay" = some (.ref (He.ga K "NoWay"))
  g_NotAFact : mg "NotAFact" = some (.ref (He.ga K "NotAFact"))
  g_NotBroken : mg "NotBroken" = some (.ref (He.ga K "NotBroken"))
  g_NotFit : mg "NotFit" = some (.ref (He.ga K "NotFit"))
  g_NotFitting : mg "NotFitting" = some (.ref (He.ga K "NotFitting"))
  g_NotLesser : mg "NotLesser" = some (.ref (He.ga K "NotLesser"))
  g_NotOver : mg "NotOver" = some (.ref (He.ga K "NotOver"))
  g_NotRuledFact : mg "NotRuledFact" = some (.ref (He.ga K "NotRuledFact"))
  g_NotStuck : mg "NotStuck" = some (.ref (He.ga K "NotStuck"))
  g_NothingDone : mg "NothingDone" = some (.ref (He.ga K "NothingDone"))
  g_OtherPlaces : mg "OtherPlaces" = some (.ref (He.ga K "OtherPlaces"))
  g_TooMany : mg "TooMany" = some (.ref (He.ga K "TooMany"))
abbrev s__law_mixed : Stmt := top 46
abbrev N__law_mixed : List Str := ["_law_number", "_law_turn", "_law_once", "_law_twice"]
theorem sc__law_mixed : FnScope N__law_mixed ["_law_number", "_law_turn"] (defScope s__law_mixed) := ⟨rfl, rfl, rfl, by decide +kernel, rfl, by decide +kernel, by decide +kernel⟩
def d__law_mixed (K : PySem.W.Frag) (Ed : DEnv → Exc → Prop) : TSD := sSeq (sAsg 2 (dOp fMod (dCB bInt (dCons (dOp fAdd (dOp fAdd (dOp fMul (dVar 0) (dC (.int 39373))) (dOp fMul (dVar 1) (dC (.int 6151)))) (dC (.int 50021))) (dNil))) (dC (.int 2147483399)))) (sSeq (sAsg 3 (dOp fMod (dCB bInt (dCons (dOp fAdd (dOp fAdd (dOp fMul (dVar 2) (dVar 2)) (dOp fMul (dVar 1) (dC (.int 81071)))) (dOp fDiv (dVar 2) (dC (.int 137)))) (dNil))) (dC (.int 2147483629)))) (sRet (dOp fDiv (dCB bInt (dCons (dOp fMod (dCB bInt (dCons (dOp fAdd (dOp fMul (dVar 3) (dC (.int 62089))) (dOp fDiv (dVar 2) (dC (.int 11)))) (dNil))) (dC (.int 2147483587))) (dNil))) (dC (.int 64)))))
theorem pd__law_mixed {P : Program} {w : World} {K : PySem.W.Frag} {mg : Str → Option Value} {base : Heap} {I : HI} {fa : Addr} {cdv : Value} {A : Around} {outer : List Env} {s : Shared} {H : Hp} {E : XK} {Ed : Exc → Prop} (T : Tf K mg) 
    (hr : Room 1 (A.deeper (envOfC "_law_mixed" (defScope s__law_mixed) s.heap.objs.size fa cdv))) (tk : Takes (cxD P w K mg base N__law_mixed "_law_mixed" (defScope s__law_mixed) fa cdv A outer s H E) (gOf I Ed E).W) :
    PSsD (cxD P w K mg base N__law_mixed "_law_mixed" (defScope s__law_mixed) fa cdv A outer s H E) (gOf I Ed E) (defBody s__law_mixed) (d__law_mixed K (gOf I Ed E).Ed) :=
  have nd := sc__law_mixed.nd; ds_cons (ds_set (i := 2) nd rfl (by first | exact Or.inl rfl | exact Or.inr rfl) (d_op r_mod (d_callTy c_int rfl T.n_int boot_int (da_cons (d_op r_add (d_op r_add (d_op r_mul (dv 0) (d_int)) (d_op r_mul (dv 1) (d_int))) (d_int)) (da_nil))) (d_int))) (ds_cons (ds_set (i := 3) nd rfl (by first | exact Or.inl rfl | exact Or.inr rfl) (d_op r_mod (d_callTy c_int rfl T.n_int boot_int (da_cons (d_op r_add (d_op r_add (d_op r_mul (dv 2) (dv 2)) (d_op r_mul (dv 1) (d_int))) (d_op r_div (dv 2) (d_int))) (da_nil))) (d_int))) (ds_one (ds_ret (d_op r_div (d_callTy c_int rfl T.n_int boot_int (da_cons (d_op r_mod (d_callTy c_int rfl T.n_int boot_int (da_cons (d_op r_add (d_op r_mul (dv 3) (d_int)) (d_op r_div (dv 2) (d_int))) (da_nil))) (d_int)) (da_nil))) (d_int)))))
abbrev s__law_hand : Stmt := top 45
abbrev N__law_hand : List Str := ["_law_script", "_law_total", "_law_cells", "_law_cell"]
theorem sc__law_hand : FnScope N__law_hand ["_law_script"] (defScope s__law_hand) := ⟨rfl, rfl, rfl, by decide +kernel, rfl, by decide +kernel, by decide +kernel⟩
def d__law_hand (K : PySem.W.Frag) (Ed : DEnv → Exc → Prop) : TSD := sSeq (sAsg 1 (dOp fAdd (dCB bLenS (dCons (dVar 0) (dNil))) (dC (.int 43)))) (sSeq (sNew 2 (fLst (dNil))) (sSeq (sFor (idVarS 0) (gdName 3) (sSeq (sAsg 1 (dOp fMod (dCB bInt (dCons (dOp fAdd (dOp fMul (dVar 1) (dC (.int 2003))) (dCB bInt (dCons (dVar 3) (dNil)))) (dNil))) (dC (.int 2147483563)))) (sApp 2 (dCB bAbs (dCons (dCB bInt (dCons (dVar 3) (dNil))) (dNil)))))) (sRet (dLst (dCons (dVar 2) (dCons (dC (.int 0)) (dCons (dC (.int 0)) (dCons (dVar 1) (dNil)))))))))
theorem pd__law_hand {P : Program} {w : World} {K : PySem.W.Frag} {mg : Str → Option Value} {base : Heap} {I : HI} {fa : Addr} {cdv : Value} {A : Around} {outer : List Env} {s : Shared} {H : Hp} {E : XK} {Ed : Exc → Prop} (T : Tf K mg) 
    (hr : Room 1 (A.deeper (envOfC "_law_hand" (defScope s__law_hand) s.heap.objs.size fa cdv))) (tk : Takes (cxD P w K mg base N__law_hand "_law_hand" (defScope s__law_hand) fa cdv A outer s H E) (gOf I Ed E).W) :
    PSsD (cxD P w K mg base N__law_hand "_law_hand" (defScope s__law_hand) fa cdv A outer s H E) (gOf I Ed E) (defBody s__law_hand) (d__law_hand K (gOf I Ed E).Ed) :=
  have nd := sc__law_hand.nd; ds_cons (ds_set (i := 1) nd rfl (by first | exact Or.inl rfl | exact Or.inr rfl) (d_op r_add (d_callB c_lenS rfl T.n_len PySem.boot_len (da_cons (dv 0) (da_nil))) (d_int))) (ds_cons (ds_new (i := 2) nd rfl (by first | exact Or.inl rfl | exact Or.inr rfl) (f_lst (da_nil))) (ds_cons (ds_for (passes_of rfl) rfl (di_varS 0) (dg_name (i := 3) nd rfl (by first | exact Or.inl rfl | exact Or.inr rfl)) (ds_cons (ds_set (i := 1) nd rfl (by first | exact Or.inl rfl | exact Or.inr rfl) (d_op r_mod (d_callTy c_int rfl T.n_int boot_int (da_cons (d_op r_add (d_op r_mul (dv 1) (d_int)) (d_callTy c_int rfl T.n_int boot_int (da_cons (dv 3) (da_nil)))) (da_nil))) (d_int))) (ds_one (ds_app (i := 2) rfl (by first | exact Or.inl rfl | exact Or.inr (Or.inl rfl)) (d_callB c_abs rfl T.n_abs boot_abs (da_cons (d_callTy c_int rfl T.n_int boot_int (da_cons (dv 3) (da_nil))) (da_nil))))))) (ds_one (ds_ret (d_lst (da_cons (dv 2) (da_cons (d_int) (da_cons (d_int) (da_cons (dv 1) (da_nil))))))))))
abbrev s__law_first_classes : Stmt := top 48
abbrev N__law_first_classes : List Str := ["_law_e", "_law_told", "_law_at"]
theorem sc__law_first_classes : FnScope N__law_first_classes ["_law_e"] (defScope s__law_first_classes) := ⟨rfl, rfl, rfl, by decide +kernel, rfl, by decide +kernel, by decide +kernel⟩
def d__law_first_classes (K : PySem.W.Frag) (Ed : DEnv → Exc → Prop) : TSD := sSeq (sAsg 1 (dLst (dCons (dCB (bIsV K) (dCons (dVar 0) (dCons (dC (.ref (He.ga K "BadStanding"))) (dNil)))) (dCons (dCB (bIsV K) (dCons (dVar 0) (dCons (dC (.ref (He.ga K "BadPlaces"))) (dNil)))) (dCons (dCB (bIsV K) (dCons (dVar 0) (dCons (dC (.ref (He.ga K "BadLayers"))) (dNil)))) (dCons (dCB (bIsV K) (dCons (dVar 0) (dCons (dC (.ref (He.ga K "BadCount"))) (dNil)))) (dNil))))))) (sSeq (sAsg 1 (dOp fAdd (dVar 1) (dLst (dCons (dCB (bIsV K) (dCons (dVar 0) (dCons (dC (.ref (He.ga K "BadDates"))) (dNil)))) (dCons (dCB (bIsV K) (dCons (dVar 0) (dCons (dC (.ref (He.ga K "BadLot"))) (dNil)))) (dCons (dCB (bIsV K) (dCons (dVar 0) (dCons (dC (.ref (He.ga K "BadText"))) (dNil)))) (dCons (dCB (bIsV K) (dCons (dVar 0) (dCons (dC (.ref (He.ga K "BadRelation"))) (dNil)))) (dNil)))))))) (sSeq (sAsg 1 (dOp fAdd (dVar 1) (dLst (dCons (dCB (bIsV K) (dCons (dVar 0) (dCons (dC (.ref (He.ga K "TooMany"))) (dNil)))) (dCons (dCB (bIsV K) (dCons (dVar 0) (dCons (dC (.ref (He.ga K "BadParts"))) (dNil)))) (dCons (dCB (bIsV K) (dCons (dVar 0) (dCons (dC (.ref (He.ga K "BadLining"))) (dNil)))) (dCons (dCB (bIsV K) (dCons (dVar 0) (dCons (dC (.ref (He.ga K "NoLot"))) (dNil)))) (dNil)))))))) (sSeq (sAsg 1 (dOp fAdd (dVar 1) (dLst (dCons (dCB (bIsV K) (dCons (dVar 0) (dCons (dC (.ref (He.ga K "BadStray"))) (dNil)))) (dCons (dCB (bIsV K) (dCons (dVar 0) (dCons (dC (.ref (He.ga K "BadSpoilt"))) (dNil)))) (dCons (dCB (bIsV K) (dCons (dVar 0) (dCons (dC (.ref (He.ga K "NoFact"))) (dNil)))) (dCons (dCB (bIsV K) (dCons (dVar 0) (dCons (dC (.ref (He.ga K "NotFitting"))) (dNil)))) (dNil)))))))) (sSeq (sAsg 1 (dOp fAdd (dVar 1) (dLst (dCons (dCB (bIsV K) (dCons (dVar 0) (dCons (dC (.ref (He.ga K "NoDate"))) (dNil)))) (dCons (dCB (bIsV K) (dCons (dVar 0) (dCons (dC (.ref (He.ga K "NotOver"))) (dNil)))) (dCons (dCB (bIsV K) (dCons (dVar 0) (dCons (dC (.ref (He.ga K "BadClause"))) (dNil)))) (dCons (dCB (bIsV K) (dCons (dVar 0) (dCons (dC (.ref (He.ga K "NotBroken"))) (dNil)))) (dNil)))))))) (sSeq (sAsg 1 (dOp fAdd (dVar 1) (dLst (dCons (dCB (bIsV K) (dCons (dVar 0) (dCons (dC (.ref (He.ga K "NotLesser"))) (dNil)))) (dNil))))) (sRet (dF (fLc (idRng1 (dCons (dCB bLen (dCons (dVar 1) (dNil))) (dNil))) (gdName 2) (dTru (dOp fIx (dVar 1) (dVar 2))) (dVar 2) (([("_law_at", 2)] : List (Str × Nat)).map (·.2))))))))))
theorem pd__law_first_classes {P : Program} {w : World} {K : PySem.W.Frag} {mg : Str → Option Value} {base : Heap} {I : HI} {fa : Addr} {cdv : Value} {A : Around} {outer : List Env} {s : Shared} {H : Hp} {E : XK} {Ed : Exc → Prop} (T : Tf K mg) 
    (hr : Room 1 (A.deeper (envOfC "_law_first_classes" (defScope s__law_first_classes) s.heap.objs.size fa cdv))) (tk : Takes (cxD P w K mg base N__law_first_classes "_law_first_classes" (defScope s__law_first_classes) fa cdv A outer s H E) (gOf I Ed E).W) :
    PSsD (cxD P w K mg base N__law_first_classes "_law_first_classes" (defScope s__law_first_classes) fa cdv A outer s H E) (gOf I Ed E) (defBody s__law_first_classes) (d__law_first_classes K (gOf I Ed E).Ed) :=
  have nd := sc__law_first_classes.nd; ds_cons (ds_set (i := 1) nd rfl (by first | exact Or.inl rfl | exact Or.inr rfl) (d_lst (da_cons (d_callB c_isV rfl T.n_isinstance boot_isinstance (da_cons (dv 0) (da_cons (d_glo rfl T.g_BadStanding) (da_nil)))) (da_cons (d_callB c_isV rfl T.n_isinstance boot_isinstance (da_cons (dv 0) (da_cons (d_glo rfl T.g_BadPlaces) (da_nil)))) (da_cons (d_callB c_isV rfl T.n_isinstance boot_isinstance (da_cons (dv 0) (da_cons (d_glo rfl T.g_BadLayers) (da_nil)))) (da_cons (d_callB c_isV rfl T.n_isinstance boot_isinstance (da_cons (dv 0) (da_cons (d_glo rfl T.g_BadCount) (da_nil)))) (da_nil))))))) (ds_cons (ds_set (i := 1) nd rfl (by first | exact Or.inl rfl | exact Or.inr rfl) (d_op r_add (dv 1) (d_lst (da_cons (d_callB c_isV rfl T.n_isinstance boot_isinstance (da_cons (dv 0) (da_cons (d_glo rfl T.g_BadDates) (da_nil)))) (da_cons (d_callB c_isV rfl T.n_isinstance boot_isinstance (da_cons (dv 0) (da_cons (d_glo rfl T.g_BadLot) (da_nil)))) (da_cons (d_callB c_isV rfl T.n_isinstance boot_isinstance (da_cons (dv 0) (da_cons (d_glo rfl T.g_BadText) (da_nil)))) (da_cons (d_callB c_isV rfl T.n_isinstance boot_isinstance (da_cons (dv 0) (da_cons (d_glo rfl T.g_BadRelation) (da_nil)))) (da_nil)))))))) (ds_cons (ds_set (i := 1) nd rfl (by first | exact Or.inl rfl | exact Or.inr rfl) (d_op r_add (dv 1) (d_lst (da_cons (d_callB c_isV rfl T.n_isinstance boot_isinstance (da_cons (dv 0) (da_cons (d_glo rfl T.g_TooMany) (da_nil)))) (da_cons (d_callB c_isV rfl T.n_isinstance boot_isinstance (da_cons (dv 0) (da_cons (d_glo rfl T.g_BadParts) (da_nil)))) (da_cons (d_callB c_isV rfl T.n_isinstance boot_isinstance (da_cons (dv 0) (da_cons (d_glo rfl T.g_BadLining) (da_nil)))) (da_cons (d_callB c_isV rfl T.n_isinstance boot_isinstance (da_cons (dv 0) (da_cons (d_glo rfl T.g_NoLot) (da_nil)))) (da_nil)))))))) (ds_cons (ds_set (i := 1) nd rfl (by first | exact Or.inl rfl | exact Or.inr rfl) (d_op r_add (dv 1) (d_lst (da_cons (d_callB c_isV rfl T.n_isinstance boot_isinstance (da_cons (dv 0) (da_cons (d_glo rfl T.g_BadStray) (da_nil)))) (da_cons (d_callB c_isV rfl T.n_isinstance boot_isinstance (da_cons (dv 0) (da_cons (d_glo rfl T.g_BadSpoilt) (da_nil)))) (da_cons (d_callB c_isV rfl T.n_isinstance boot_isinstance (da_cons (dv 0) (da_cons (d_glo rfl T.g_NoFact) (da_nil)))) (da_cons (d_callB c_isV rfl T.n_isinstance boot_isinstance (da_cons (dv 0) (da_cons (d_glo rfl T.g_NotFitting) (da_nil)))) (da_nil)))))))) (ds_cons (ds_set (i := 1) nd rfl (by first | exact Or.inl rfl | exact Or.inr rfl) (d_op r_add (dv 1) (d_lst (da_cons (d_callB c_isV rfl T.n_isinstance boot_isinstance (da_cons (dv 0) (da_cons (d_glo rfl T.g_NoDate) (da_nil)))) (da_cons (d_callB c_isV rfl T.n_isinstance boot_isinstance (da_cons (dv 0) (da_cons (d_glo rfl T.g_NotOver) (da_nil)))) (da_cons (d_callB c_isV rfl T.n_isinstance boot_isinstance (da_cons (dv 0) (da_cons (d_glo rfl T.g_BadClause) (da_nil)))) (da_cons (d_callB c_isV rfl T.n_isinstance boot_isinstance (da_cons (dv 0) (da_cons (d_glo rfl T.g_NotBroken) (da_nil)))) (da_nil)))))))) (ds_cons (ds_set (i := 1) nd rfl (by first | exact Or.inl rfl | exact Or.inr rfl) (d_op r_add (dv 1) (d_lst (da_cons (d_callB c_isV rfl T.n_isinstance boot_isinstance (da_cons (dv 0) (da_cons (d_glo rfl T.g_NotLesser) (da_nil)))) (da_nil))))) (ds_one (ds_ret (pf_e (f_lc rfl nd (di_range1 rfl T.n_range (da_cons (d_callB c_len rfl T.n_len PySem.boot_len (da_cons (dv 1) (da_nil))) (da_nil))) (blkOk_by (own := [("_law_at", 2)]) (N := N__law_first_classes) (sc := defScope s__law_first_classes) (by decide +kernel)) (fun _ _ _ _ _ => pg_name (i := 2) nd rfl (by first | exact Or.inl rfl | exact Or.inr rfl)) sg_name (gw_name (by decide)) (bt_one (fun _ _ _ _ _ => dt_tru (d_ix (dv 1) (dv 2)))) (be_of (fun _ _ _ _ _ => dv 2)))))))))))
abbrev s__law_other_classes : Stmt := top 49
abbrev N__law_other_classes : List Str := ["_law_e", "_law_told", "_law_at"]
theorem sc__law_other_classes : FnScope N__law_other_classes ["_law_e"] (defScope s__law_other_classes) := ⟨rfl, rfl, rfl, by decide +kernel, rfl, by decide +kernel, by decide +kernel⟩
def d__law_other_classes (K : PySem.W.Frag) (Ed : DEnv → Exc → Prop) : TSD := sSeq (sAsg 1 (dLst (dCons (dCB (bIsV K) (dCons (dVar 0) (dCons (dC (.ref (He.ga K "BadNumbers"))) (dNil)))) (dCons (dCB (bIsV K) (dCons (dVar 0) (dCons (dC (.ref (He.ga K "BadWorks"))) (dNil)))) (dCons (dCB (bIsV K) (dCons (dVar 0) (dCons (dC (.ref (He.ga K "BadRule"))) (dNil)))) (dCons (dCB (bIsV K) (dCons (dVar 0) (dCons (dC (.ref (He.ga K "NotAFact"))) (dNil)))) (dNil))))))) (sSeq (sAsg 1 (dOp fAdd (dVar 1) (dLst (dCons (dCB (bIsV K) (dCons (dVar 0) (dCons (dC (.ref (He.ga K "NotRuledFact"))) (dNil)))) (dCons (dCB (bIsV K) (dCons (dVar 0) (dCons (dC (.ref (He.ga K "BadPool"))) (dNil)))) (dCons (dCB (bIsV K) (dCons (dVar 0) (dCons (dC (.ref (He.ga K "BadWish"))) (dNil)))) (dCons (dCB (bIsV K) (dCons (dVar 0) (dCons (dC (.ref (He.ga K "BadEdit"))) (dNil)))) (dNil)))))))) (sSeq (sAsg 1 (dOp fAdd (dVar 1) (dLst (dCons (dCB (bIsV K) (dCons (dVar 0) (dCons (dC (.ref (He.ga K "BadBook"))) (dNil)))) (dCons (dCB (bIsV K) (dCons (dVar 0) (dCons (dC (.ref (He.ga K "BadRules"))) (dNil)))) (dCons (dCB (bIsV K) (dCons (dVar 0) (dCons (dC (.ref (He.ga K "BadNumber"))) (dNil)))) (dCons (dCB (bIsV K) (dCons (dVar 0) (dCons (dC (.ref (He.ga K "OtherPlaces"))) (dNil)))) (dNil)))))))) (sSeq (sAsg 1 (dOp fAdd (dVar 1) (dLst (dCons (dCB (bIsV K) (dCons (dVar 0) (dCons (dC (.ref (He.ga K "BadDeed"))) (dNil)))) (dCons (dCB (bIsV K) (dCons (dVar 0) (dCons (dC (.ref (He.ga K "BadCut"))) (dNil)))) (dCons (dCB (bIsV K) (dCons (dVar 0) (dCons (dC (.ref (He.ga K "BadClosing"))) (dNil)))) (dCons (dCB (bIsV K) (dCons (dVar 0) (dCons (dC (.ref (He.ga K "NoWay"))) (dNil)))) (dNil)))))))) (sSeq (sAsg 1 (dOp fAdd (dVar 1) (dLst (dCons (dCB (bIsV K) (dCons (dVar 0) (dCons (dC (.ref (He.ga K "NotStuck"))) (dNil)))) (dCons (dCB (bIsV K) (dCons (dVar 0) (dCons (dC (.ref (He.ga K "BadPlace"))) (dNil)))) (dCons (dCB (bIsV K) (dCons (dVar 0) (dCons (dC (.ref (He.ga K "NotFit"))) (dNil)))) (dCons (dCB (bIsV K) (dCons (dVar 0) (dCons (dC (.ref (He.ga K "BadMoment"))) (dNil)))) (dNil)))))))) (sSeq (sAsg 1 (dOp fAdd (dVar 1) (dLst (dCons (dCB (bIsV K) (dCons (dVar 0) (dCons (dC (.ref (He.ga K "NothingDone"))) (dNil)))) (dNil))))) (sRet (dF (fLc (idRng1 (dCons (dCB bLen (dCons (dVar 1) (dNil))) (dNil))) (gdName 2) (dTru (dOp fIx (dVar 1) (dVar 2))) (dOp fAdd (dVar 2) (dC (.int 21))) (([("_law_at", 2)] : List (Str × Nat)).map (·.2))))))))))
theorem pd__law_other_classes {P : Program} {w : World} {K : PySem.W.Frag} {mg : Str → Option Value} {base : Heap} {I : HI} {fa : Addr} {cdv : Value} {A : Around} {outer : List Env} {s : Shared} {H : Hp} {E : XK} {Ed : Exc → Prop} (T : Tf K mg) 
    (hr : Room 1 (A.deeper (envOfC "_law_other_classes" (defScope s__law_other_classes) s.heap.objs.size fa cdv))) (tk : Takes (cxD P w K mg base N__law_other_classes "_law_other_classes" (defScope s__law_other_classes) fa cdv A outer s H E) (gOf I Ed E).W) :
    PSsD (cxD P w K mg base N__law_other_classes "_law_other_classes" (defScope s__law_other_classes) fa cdv A outer s H E) (gOf I Ed E) (defBody s__law_other_classes) (d__law_other_classes K (gOf I Ed E).Ed) :=
  have nd := sc__law_other_classes.nd; ds_cons (ds_set (i := 1) nd rfl (by first | exact Or.inl rfl | exact Or.inr rfl) (d_lst (da_cons (d_callB c_isV rfl T.n_isinstance boot_isinstance (da_cons (dv 0) (da_cons (d_glo rfl T.g_BadNumbers) (da_nil)))) (da_cons (d_callB c_isV rfl T.n_isinstance boot_isinstance (da_cons (dv 0) (da_cons (d_glo rfl T.g_BadWorks) (da_nil)))) (da_cons (d_callB c_isV rfl T.n_isinstance boot_isinstance (da_cons (dv 0) (da_cons (d_glo rfl T.g_BadRule) (da_nil)))) (da_cons (d_callB c_isV rfl T.n_isinstance boot_isinstance (da_cons (dv 0) (da_cons (d_glo rfl T.g_NotAFact) (da_nil)))) (da_nil))))))) (ds_cons (ds_set (i := 1) nd rfl (by first | exact Or.inl rfl | exact Or.inr rfl) (d_op r_add (dv 1) (d_lst (da_cons (d_callB c_isV rfl T.n_isinstance boot_isinstance (da_cons (dv 0) (da_cons (d_glo rfl T.g_NotRuledFact) (da_nil)))) (da_cons (d_callB c_isV rfl T.n_isinstance boot_isinstance (da_cons (dv 0) (da_cons (d_glo rfl T.g_BadPool) (da_nil)))) (da_cons (d_callB c_isV rfl T.n_isinstance boot_isinstance (da_cons (dv 0) (da_cons (d_glo rfl T.g_BadWish) (da_nil)))) (da_cons (d_callB c_isV rfl T.n_isinstance boot_isinstance (da_cons (dv 0) (da_cons (d_glo rfl T.g_BadEdit) (da_nil)))) (da_nil)))))))) (ds_cons (ds_set (i := 1) nd rfl (by first | exact Or.inl rfl | exact Or.inr rfl) (d_op r_add (dv 1) (d_lst (da_cons (d_callB c_isV rfl T.n_isinstance boot_isinstance (da_cons (dv 0) (da_cons (d_glo rfl T.g_BadBook) (da_nil)))) (da_cons (d_callB c_isV rfl T.n_isinstance boot_isinstance (da_cons (dv 0) (da_cons (d_glo rfl T.g_BadRules) (da_nil)))) (da_cons (d_callB c_isV rfl T.n_isinstance boot_isinstance (da_cons (dv 0) (da_cons (d_glo rfl T.g_BadNumber) (da_nil)))) (da_cons (d_callB c_isV rfl T.n_isinstance boot_isinstance (da_cons (dv 0) (da_cons (d_glo rfl T.g_OtherPlaces) (da_nil)))) (da_nil)))))))) (ds_cons (ds_set (i := 1) nd rfl (by first | exact Or.inl rfl | exact Or.inr rfl) (d_op r_add (dv 1) (d_lst (da_cons (d_callB c_isV rfl T.n_isinstance boot_isinstance (da_cons (dv 0) (da_cons (d_glo rfl T.g_BadDeed) (da_nil)))) (da_cons (d_callB c_isV rfl T.n_isinstance boot_isinstance (da_cons (dv 0) (da_cons (d_glo rfl T.g_BadCut) (da_nil)))) (da_cons (d_callB c_isV rfl T.n_isinstance boot_isinstance (da_cons (dv 0) (da_cons (d_glo rfl T.g_BadClosing) (da_nil)))) (da_cons (d_callB c_isV rfl T.n_isinstance boot_isinstance (da_cons (dv 0) (da_cons (d_glo rfl T.g_NoWay) (da_nil)))) (da_nil)))))))) (ds_cons (ds_set (i := 1) nd rfl (by first | exact Or.inl rfl | exact Or.inr rfl) (d_op r_add (dv 1) (d_lst (da_cons (d_callB c_isV rfl T.n_isinstance boot_isinstance (da_cons (dv 0) (da_cons (d_glo rfl T.g_NotStuck) (da_nil)))) (da_cons (d_callB c_isV rfl T.n_isinstance boot_isinstance (da_cons (dv 0) (da_cons (d_glo rfl T.g_BadPlace) (da_nil)))) (da_cons (d_callB c_isV rfl T.n_isinstance boot_isinstance (da_cons (dv 0) (da_cons (d_glo rfl T.g_NotFit) (da_nil)))) (da_cons (d_callB c_isV rfl T.n_isinstance boot_isinstance (da_cons (dv 0) (da_cons (d_glo rfl T.g_BadMoment) (da_nil)))) (da_nil)))))))) (ds_cons (ds_set (i := 1) nd rfl (by first | exact Or.inl rfl | exact Or.inr rfl) (d_op r_add (dv 1) (d_lst (da_cons (d_callB c_isV rfl T.n_isinstance boot_isinstance (da_cons (dv 0) (da_cons (d_glo rfl T.g_NothingDone) (da_nil)))) (da_nil))))) (ds_one (ds_ret (pf_e (f_lc rfl nd (di_range1 rfl T.n_range (da_cons (d_callB c_len rfl T.n_len PySem.boot_len (da_cons (dv 1) (da_nil))) (da_nil))) (blkOk_by (own := [("_law_at", 2)]) (N := N__law_other_classes) (sc := defScope s__law_other_classes) (by decide +kernel)) (fun _ _ _ _ _ => pg_name (i := 2) nd rfl (by first | exact Or.inl rfl | exact Or.inr rfl)) sg_name (gw_name (by decide)) (bt_one (fun _ _ _ _ _ => dt_tru (d_ix (dv 1) (dv 2)))) (be_of (fun _ _ _ _ _ => d_op r_add (dv 2) (d_int))))))))))))
abbrev s__law_first_made : Stmt := top 50
abbrev N__law_first_made : List Str := ["_law_which", "_law_thing", "_law_made", "_law_e"]
theorem sc__law_first_made : FnScope N__law_first_made ["_law_which", "_law_thing"] (defScope s__law_first_made) := ⟨rfl, rfl, rfl, by decide +kernel, rfl, by decide +kernel, by decide +kernel⟩
def d__law_first_made (K : PySem.W.Frag) (Ed : DEnv → Exc → Prop) : TSD := sSeq (sIf (dTest (dOp fLt (dVar 0) (dC (.int 8)))) (sSeq (sAsg 2 (dLst (dCons (dMk (He.ga K "BadStanding") "index" (dVar 1)) (dCons (dMk (He.ga K "BadPlaces") "index" (dVar 1)) (dCons (dMk (He.ga K "BadLayers") "index" (dVar 1)) (dCons (dMk (He.ga K "BadCount") "what" (dVar 1)) (dNil))))))) (sSeq (sAsg 2 (dOp fAdd (dVar 2) (dLst (dCons (dMk (He.ga K "BadDates") "index" (dVar 1)) (dCons (dMk (He.ga K "BadLot") "index" (dVar 1)) (dCons (dMk (He.ga K "BadText") "place" (dVar 1)) (dCons (dMk (He.ga K "BadRelation") "what" (dVar 1)) (dNil)))))))) (sSeq (sAsg 3 (dOp fIx (dVar 2) (dVar 0))) (sSeq (sIf (dOr (dTest (dOp (fEq false) (dVar 0) (dC (.int 3)))) (dTest (dOp (fEq false) (dVar 0) (dC (.int 7))))) (sRet (dLst (dCons (dVar 3) (dCons (dXv K "what" (dVar 3)) (dNil))))) (sNext)) (sRet (dIf (dTest (dOp (fEq false) (dVar 0) (dC (.int 6)))) (dLst (dCons (dVar 3) (dCons (dXv K "place" (dVar 3)) (dNil)))) (dLst (dCons (dVar 3) (dCons (dXv K "index" (dVar 3)) (dNil)))))))))) (sNext)) (sSeq (sAsg 2 (dLst (dCons (dMk (He.ga K "TooMany") "most" (dVar 1)) (dCons (dMk (He.ga K "BadParts") "index" (dVar 1)) (dCons (dMk (He.ga K "BadLining") "index" (dVar 1)) (dCons (dMk (He.ga K "NoLot") "index" (dVar 1)) (dNil))))))) (sSeq (sAsg 2 (dOp fAdd (dVar 2) (dLst (dCons (dMk (He.ga K "BadStray") "what" (dVar 1)) (dCons (dMk (He.ga K "BadSpoilt") "what" (dVar 1)) (dCons (dMk (He.ga K "NoFact") "number" (dVar 1)) (dCons (dMk (He.ga K "NotFitting") "fact" (dVar 1)) (dNil)))))))) (sSeq (sAsg 3 (dOp fIx (dVar 2) (dOp fSub (dVar 0) (dC (.int 8))))) (sSeq (sIf (dTest (dOp (fEq false) (dVar 0) (dC (.int 8)))) (sRet (dLst (dCons (dVar 3) (dCons (dXv K "most" (dVar 3)) (dNil))))) (sNext)) (sSeq (sIf (dTest (dOp fLt (dVar 0) (dC (.int 12)))) (sRet (dLst (dCons (dVar 3) (dCons (dXv K "index" (dVar 3)) (dNil))))) (sNext)) (sSeq (sIf (dTest (dOp fLt (dVar 0) (dC (.int 14)))) (sRet (dLst (dCons (dVar 3) (dCons (dXv K "what" (dVar 3)) (dNil))))) (sNext)) (sRet (dIf (dTest (dOp (fEq false) (dVar 0) (dC (.int 14)))) (dLst (dCons (dVar 3) (dCons (dXv K "number" (dVar 3)) (dNil)))) (dLst (dCons (dVar 3) (dCons (dXv K "fact" (dVar 3)) (dNil))))))))))))
theorem pd__law_first_made {P : Program} {w : World} {K : PySem.W.Frag} {mg : Str → Option Value} {base : Heap} {I : HI} {fa : Addr} {cdv : Value} {A : Around} {outer : List Env} {s : Shared} {H : Hp} {E : XK} {Ed : Exc → Prop} (T : Tf K mg) (er_BadCount : Er P w K mg base "BadCount" "what") (er_BadDates : Er P w K mg base "BadDates" "index") (er_BadLayers : Er P w K mg base "BadLayers" "index") (er_BadLining : Er P w K mg base "BadLining" "index") (er_BadLot : Er P w K mg base "BadLot" "index") (er_BadParts : Er P w K mg base "BadParts" "index") (er_BadPlaces : Er P w K mg base "BadPlaces" "index") (er_BadRelation : Er P w K mg base "BadRelation" "what") (er_BadSpoilt : Er P w K mg base "BadSpoilt" "what") (er_BadStanding : Er P w K mg base "BadStanding" "index") (er_BadStray : Er P w K mg base "BadStray" "what") (er_BadText : Er P w K mg base "BadText" "place") (er_NoFact : Er P w K mg base "NoFact" "number") (er_NoLot : Er P w K mg base "NoLot" "index") (er_NotFitting : Er P w K mg base "NotFitting" "fact") (er_TooMany : Er P w K mg base "TooMany" "most")
    (hr : Room 2 (A.deeper (envOfC "_law_first_made" (defScope s__law_first_made) s.heap.objs.size fa cdv))) (tk : Takes (cxD P w K mg base N__law_first_made "_law_first_made" (defScope s__law_first_made) fa cdv A outer s H E) (gOf I Ed E).W) :
    PSsD (cxD P w K mg base N__law_first_made "_law_first_made" (defScope s__law_first_made) fa cdv A outer s H E) (gOf I Ed E) (defBody s__law_first_made) (d__law_first_made K (gOf I Ed E).Ed) :=
  have nd := sc__law_first_made.nd; ds_cons (ds_if (dt_cmp (r_lt hr.units0) (dv 0) (d_int) (nomark _)) (ds_cons (ds_set (i := 2) nd rfl (by first | exact Or.inl rfl | exact Or.inr rfl) (d_lst (da_cons (d_exc1 er_BadStanding hr (by decide) rfl (dv 1)) (da_cons (d_exc1 er_BadPlaces hr (by decide) rfl (dv 1)) (da_cons (d_exc1 er_BadLayers hr (by decide) rfl (dv 1)) (da_cons (d_exc1 er_BadCount hr (by decide) rfl (dv 1)) (da_nil))))))) (ds_cons (ds_set (i := 2) nd rfl (by first | exact Or.inl rfl | exact Or.inr rfl) (d_op r_add (dv 2) (d_lst (da_cons (d_exc1 er_BadDates hr (by decide) rfl (dv 1)) (da_cons (d_exc1 er_BadLot hr (by decide) rfl (dv 1)) (da_cons (d_exc1 er_BadText hr (by decide) rfl (dv 1)) (da_cons (d_exc1 er_BadRelation hr (by decide) rfl (dv 1)) (da_nil)))))))) (ds_cons (ds_set (i := 3) nd rfl (by first | exact Or.inl rfl | exact Or.inr rfl) (d_ix (dv 2) (dv 0))) (ds_cons (ds_if (PWD.pt (dt_or (dt_cmp (r_eq (h64 hr)) (dv 0) (d_int) (nomark _)) (dt_or1 (dt_cmp (r_eq (h64 hr)) (dv 0) (d_int) (nomark _))))) (ds_one (ds_ret (d_lst (da_cons (dv 3) (da_cons (d_xv (dv 3)) (da_nil)))))) (ds_nil)) (ds_one (ds_ret (d_ifExp (dt_cmp (r_eq (h64 hr)) (dv 0) (d_int) (nomark _)) (d_lst (da_cons (dv 3) (da_cons (d_xv (dv 3)) (da_nil)))) (d_lst (da_cons (dv 3) (da_cons (d_xv (dv 3)) (da_nil))))))))))) (ds_nil)) (ds_cons (ds_set (i := 2) nd rfl (by first | exact Or.inl rfl | exact Or.inr rfl) (d_lst (da_cons (d_exc1 er_TooMany hr (by decide) rfl (dv 1)) (da_cons (d_exc1 er_BadParts hr (by decide) rfl (dv 1)) (da_cons (d_exc1 er_BadLining hr (by decide) rfl (dv 1)) (da_cons (d_exc1 er_NoLot hr (by decide) rfl (dv 1)) (da_nil))))))) (ds_cons (ds_set (i := 2) nd rfl (by first | exact Or.inl rfl | exact Or.inr rfl) (d_op r_add (dv 2) (d_lst (da_cons (d_exc1 er_BadStray hr (by decide) rfl (dv 1)) (da_cons (d_exc1 er_BadSpoilt hr (by decide) rfl (dv 1)) (da_cons (d_exc1 er_NoFact hr (by decide) rfl (dv 1)) (da_cons (d_exc1 er_NotFitting hr (by decide) rfl (dv 1)) (da_nil)))))))) (ds_cons (ds_set (i := 3) nd rfl (by first | exact Or.inl rfl | exact Or.inr rfl) (d_ix (dv 2) (d_op r_sub (dv 0) (d_int)))) (ds_cons (ds_if (dt_cmp (r_eq (h64 hr)) (dv 0) (d_int) (nomark _)) (ds_one (ds_ret (d_lst (da_cons (dv 3) (da_cons (d_xv (dv 3)) (da_nil)))))) (ds_nil)) (ds_cons (ds_if (dt_cmp (r_lt hr.units0) (dv 0) (d_int) (nomark _)) (ds_one (ds_ret (d_lst (da_cons (dv 3) (da_cons (d_xv (dv 3)) (da_nil)))))) (ds_nil)) (ds_cons (ds_if (dt_cmp (r_lt hr.units0) (dv 0) (d_int) (nomark _)) (ds_one (ds_ret (d_lst (da_cons (dv 3) (da_cons (d_xv (dv 3)) (da_nil)))))) (ds_nil)) (ds_one (ds_ret (d_ifExp (dt_cmp (r_eq (h64 hr)) (dv 0) (d_int) (nomark _)) (d_lst (da_cons (dv 3) (da_cons (d_xv (dv 3)) (da_nil)))) (d_lst (da_cons (dv 3) (da_cons (d_xv (dv 3)) (da_nil)))))))))))))
abbrev s__law_second_made : Stmt := top 51
abbrev N__law_second_made : List Str := ["_law_which", "_law_thing", "_law_made", "_law_e"]
theorem sc__law_second_made : FnScope N__law_second_made ["_law_which", "_law_thing"] (defScope s__law_second_made) := ⟨rfl, rfl, rfl, by decide +kernel, rfl, by decide +kernel, by decide +kernel⟩
def d__law_second_made (K : PySem.W.Frag) (Ed : DEnv → Exc → Prop) : TSD := sSeq (sAsg 2 (dLst (dCons (dMk (He.ga K "NoDate") "date" (dVar 1)) (dCons (dMk (He.ga K "NotOver") "fact" (dVar 1)) (dCons (dMk (He.ga K "BadClause") "what" (dVar 1)) (dCons (dMk (He.ga K "NotBroken") "index" (dVar 1)) (dCons (dMk (He.ga K "NotLesser") "fact" (dVar 1)) (dCons (dMk (He.ga K "BadNumbers") "index" (dVar 1)) (dNil))))))))) (sSeq (sAsg 2 (dOp fAdd (dVar 2) (dLst (dCons (dMk (He.ga K "BadWorks") "index" (dVar 1)) (dCons (dMk (He.ga K "BadRule") "what" (dVar 1)) (dCons (dMk (He.ga K "NotAFact") "number" (dVar 1)) (dCons (dMk (He.ga K "NotRuledFact") "fact" (dVar 1)) (dCons (dMk (He.ga K "BadPool") "index" (dVar 1)) (dNil))))))))) (sSeq (sAsg 2 (dOp fAdd (dVar 2) (dLst (dCons (dMk (He.ga K "BadWish") "index" (dVar 1)) (dCons (dMk (He.ga K "BadEdit") "index" (dVar 1)) (dNil)))))) (sSeq (sAsg 3 (dOp fIx (dVar 2) (dOp fSub (dVar 0) (dC (.int 16))))) (sSeq (sIf (dTest (dOp (fEq false) (dVar 0) (dC (.int 16)))) (sRet (dLst (dCons (dVar 3) (dCons (dXv K "date" (dVar 3)) (dNil))))) (sNext)) (sSeq (sIf (dOr (dTest (dOp (fEq false) (dVar 0) (dC (.int 17)))) (dOr (dTest (dOp (fEq false) (dVar 0) (dC (.int 20)))) (dTest (dOp (fEq false) (dVar 0) (dC (.int 25)))))) (sRet (dLst (dCons (dVar 3) (dCons (dXv K "fact" (dVar 3)) (dNil))))) (sNext)) (sSeq (sIf (dOr (dTest (dOp (fEq false) (dVar 0) (dC (.int 18)))) (dTest (dOp (fEq false) (dVar 0) (dC (.int 23))))) (sRet (dLst (dCons (dVar 3) (dCons (dXv K "what" (dVar 3)) (dNil))))) (sNext)) (sRet (dIf (dTest (dOp (fEq false) (dVar 0) (dC (.int 24)))) (dLst (dCons (dVar 3) (dCons (dXv K "number" (dVar 3)) (dNil)))) (dLst (dCons (dVar 3) (dCons (dXv K "index" (dVar 3)) (dNil))))))))))))
theorem pd__law_second_made {P : Program} {w : World} {K : PySem.W.Frag} {mg : Str → Option Value} {base : Heap} {I : HI} {fa : Addr} {cdv : Value} {A : Around} {outer : List Env} {s : Shared} {H : Hp} {E : XK} {Ed : Exc → Prop} (T : Tf K mg) (er_BadClause : Er P w K mg base "BadClause" "what") (er_BadEdit : Er P w K mg base "BadEdit" "index") (er_BadNumbers : Er P w K mg base "BadNumbers" "index") (er_BadPool : Er P w K mg base "BadPool" "index") (er_BadRule : Er P w K mg base "BadRule" "what") (er_BadWish : Er P w K mg base "BadWish" "index") (er_BadWorks : Er P w K mg base "BadWorks" "index") (er_NoDate : Er P w K mg base "NoDate" "date") (er_NotAFact : Er P w K mg base "NotAFact" "number") (er_NotBroken : Er P w K mg base "NotBroken" "index") (er_NotLesser : Er P w K mg base "NotLesser" "fact") (er_NotOver : Er P w K mg base "NotOver" "fact") (er_NotRuledFact : Er P w K mg base "NotRuledFact" "fact")
    (hr : Room 2 (A.deeper (envOfC "_law_second_made" (defScope s__law_second_made) s.heap.objs.size fa cdv))) (tk : Takes (cxD P w K mg base N__law_second_made "_law_second_made" (defScope s__law_second_made) fa cdv A outer s H E) (gOf I Ed E).W) :
    PSsD (cxD P w K mg base N__law_second_made "_law_second_made" (defScope s__law_second_made) fa cdv A outer s H E) (gOf I Ed E) (defBody s__law_second_made) (d__law_second_made K (gOf I Ed E).Ed) :=
  have nd := sc__law_second_made.nd; ds_cons (ds_set (i := 2) nd rfl (by first | exact Or.inl rfl | exact Or.inr rfl) (d_lst (da_cons (d_exc1 er_NoDate hr (by decide) rfl (dv 1)) (da_cons (d_exc1 er_NotOver hr (by decide) rfl (dv 1)) (da_cons (d_exc1 er_BadClause hr (by decide) rfl (dv 1)) (da_cons (d_exc1 er_NotBroken hr (by decide) rfl (dv 1)) (da_cons (d_exc1 er_NotLesser hr (by decide) rfl (dv 1)) (da_cons (d_exc1 er_BadNumbers hr (by decide) rfl (dv 1)) (da_nil))))))))) (ds_cons (ds_set (i := 2) nd rfl (by first | exact Or.inl rfl | exact Or.inr rfl) (d_op r_add (dv 2) (d_lst (da_cons (d_exc1 er_BadWorks hr (by decide) rfl (dv 1)) (da_cons (d_exc1 er_BadRule hr (by decide) rfl (dv 1)) (da_cons (d_exc1 er_NotAFact hr (by decide) rfl (dv 1)) (da_cons (d_exc1 er_NotRuledFact hr (by decide) rfl (dv 1)) (da_cons (d_exc1 er_BadPool hr (by decide) rfl (dv 1)) (da_nil))))))))) (ds_cons (ds_set (i := 2) nd rfl (by first | exact Or.inl rfl | exact Or.inr rfl) (d_op r_add (dv 2) (d_lst (da_cons (d_exc1 er_BadWish hr (by decide) rfl (dv 1)) (da_cons (d_exc1 er_BadEdit hr (by decide) rfl (dv 1)) (da_nil)))))) (ds_cons (ds_set (i := 3) nd rfl (by first | exact Or.inl rfl | exact Or.inr rfl) (d_ix (dv 2) (d_op r_sub (dv 0) (d_int)))) (ds_cons (ds_if (dt_cmp (r_eq (h64 hr)) (dv 0) (d_int) (nomark _)) (ds_one (ds_ret (d_lst (da_cons (dv 3) (da_cons (d_xv (dv 3)) (da_nil)))))) (ds_nil)) (ds_cons (ds_if (PWD.pt (dt_or (dt_cmp (r_eq (h64 hr)) (dv 0) (d_int) (nomark _)) (dt_or (dt_cmp (r_eq (h64 hr)) (dv 0) (d_int) (nomark _)) (dt_or1 (dt_cmp (r_eq (h64 hr)) (dv 0) (d_int) (nomark _)))))) (ds_one (ds_ret (d_lst (da_cons (dv 3) (da_cons (d_xv (dv 3)) (da_nil)))))) (ds_nil)) (ds_cons (ds_if (PWD.pt (dt_or (dt_cmp (r_eq (h64 hr)) (dv 0) (d_int) (nomark _)) (dt_or1 (dt_cmp (r_eq (h64 hr)) (dv 0) (d_int) (nomark _))))) (ds_one (ds_ret (d_lst (da_cons (dv 3) (da_cons (d_xv (dv 3)) (da_nil)))))) (ds_nil)) (ds_one (ds_ret (d_ifExp (dt_cmp (r_eq (h64 hr)) (dv 0) (d_int) (nomark _)) (d_lst (da_cons (dv 3) (da_cons (d_xv (dv 3)) (da_nil)))) (d_lst (da_cons (dv 3) (da_cons (d_xv (dv 3)) (da_nil)))))))))))))
abbrev s__law_third_made : Stmt := top 52
abbrev N__law_third_made : List Str := ["_law_which", "_law_thing", "_law_other", "_law_made", "_law_e"]
theorem sc__law_third_made : FnScope N__law_third_made ["_law_which", "_law_thing", "_law_other"] (defScope s__law_third_made) := ⟨rfl, rfl, rfl, by decide +kernel, rfl, by decide +kernel, by decide +kernel⟩
def d__law_third_made (K : PySem.W.Frag) (Ed : DEnv → Exc → Prop) : TSD := sSeq (sIf (dTest (dOp fLt (dVar 0) (dC (.int 31)))) (sSeq (sAsg 4 (dIf (dTest (dOp (fEq false) (dVar 0) (dC (.int 29)))) (dMk2 (He.ga K "BadBook") "index" "what" (dVar 1) (dVar 2)) (dMk2 (He.ga K "BadRules") "index" "what" (dVar 1) (dVar 2)))) (sRet (dLst (dCons (dVar 4) (dCons (dXv K "index" (dVar 4)) (dCons (dXv K "what" (dVar 4)) (dNil))))))) (sNext)) (sSeq (sAsg 3 (dLst (dCons (dC (.obj (.exn (He.ga K "BadNumber")) [] [])) (dCons (dC (.obj (.exn (He.ga K "OtherPlaces")) [] [])) (dCons (dC (.obj (.exn (He.ga K "BadDeed")) [] [])) (dCons (dC (.obj (.exn (He.ga K "BadCut")) [] [])) (dCons (dC (.obj (.exn (He.ga K "BadClosing")) [] [])) (dCons (dC (.obj (.exn (He.ga K "NoWay")) [] [])) (dCons (dC (.obj (.exn (He.ga K "NotStuck")) [] [])) (dCons (dC (.obj (.exn (He.ga K "BadPlace")) [] [])) (dCons (dC (.obj (.exn (He.ga K "NotFit")) [] [])) (dNil)))))))))))) (sSeq (sAsg 3 (dOp fAdd (dVar 3) (dLst (dCons (dC (.obj (.exn (He.ga K "BadMoment")) [] [])) (dCons (dC (.obj (.exn (He.ga K "NothingDone")) [] [])) (dNil)))))) (sRet (dLst (dCons (dOp fIx (dVar 3) (dOp fSub (dVar 0) (dC (.int 31)))) (dNil))))))
theorem pd__law_third_made {P : Program} {w : World} {K : PySem.W.Frag} {mg : Str → Option Value} {base : Heap} {I : HI} {fa : Addr} {cdv : Value} {A : Around} {outer : List Env} {s : Shared} {H : Hp} {E : XK} {Ed : Exc → Prop} (T : Tf K mg) (er2_BadBook : Er2 P w K mg base "BadBook" "index" "what") (er2_BadRules : Er2 P w K mg base "BadRules" "index" "what") (e0_BadClosing : Er0 K mg "BadClosing") (e0_BadCut : Er0 K mg "BadCut") (e0_BadDeed : Er0 K mg "BadDeed") (e0_BadMoment : Er0 K mg "BadMoment") (e0_BadNumber : Er0 K mg "BadNumber") (e0_BadPlace : Er0 K mg "BadPlace") (e0_NoWay : Er0 K mg "NoWay") (e0_NotFit : Er0 K mg "NotFit") (e0_NotStuck : Er0 K mg "NotStuck") (e0_NothingDone : Er0 K mg "NothingDone") (e0_OtherPlaces : Er0 K mg "OtherPlaces")
    (hr : Room 2 (A.deeper (envOfC "_law_third_made" (defScope s__law_third_made) s.heap.objs.size fa cdv))) (tk : Takes (cxD P w K mg base N__law_third_made "_law_third_made" (defScope s__law_third_made) fa cdv A outer s H E) (gOf I Ed E).W) :
    PSsD (cxD P w K mg base N__law_third_made "_law_third_made" (defScope s__law_third_made) fa cdv A outer s H E) (gOf I Ed E) (defBody s__law_third_made) (d__law_third_made K (gOf I Ed E).Ed) :=
  have nd := sc__law_third_made.nd; ds_cons (ds_if (dt_cmp (r_lt hr.units0) (dv 0) (d_int) (nomark _)) (ds_cons (ds_set (i := 4) nd rfl (by first | exact Or.inl rfl | exact Or.inr rfl) (d_ifExp (dt_cmp (r_eq (h64 hr)) (dv 0) (d_int) (nomark _)) (d_exc2 er2_BadBook hr (by decide) rfl (dv 1) (dv 2)) (d_exc2 er2_BadRules hr (by decide) rfl (dv 1) (dv 2)))) (ds_one (ds_ret (d_lst (da_cons (dv 4) (da_cons (d_xv (dv 4)) (da_cons (d_xv (dv 4)) (da_nil)))))))) (ds_nil)) (ds_cons (ds_set (i := 3) nd rfl (by first | exact Or.inl rfl | exact Or.inr rfl) (d_lst (da_cons (d_exc0 e0_BadNumber rfl) (da_cons (d_exc0 e0_OtherPlaces rfl) (da_cons (d_exc0 e0_BadDeed rfl) (da_cons (d_exc0 e0_BadCut rfl) (da_cons (d_exc0 e0_BadClosing rfl) (da_cons (d_exc0 e0_NoWay rfl) (da_cons (d_exc0 e0_NotStuck rfl) (da_cons (d_exc0 e0_BadPlace rfl) (da_cons (d_exc0 e0_NotFit rfl) (da_nil)))))))))))) (ds_cons (ds_set (i := 3) nd rfl (by first | exact Or.inl rfl | exact Or.inr rfl) (d_op r_add (dv 3) (d_lst (da_cons (d_exc0 e0_BadMoment rfl) (da_cons (d_exc0 e0_NothingDone rfl) (da_nil)))))) (ds_one (ds_ret (d_lst (da_cons (d_ix (dv 3) (d_op r_sub (dv 0) (d_int))) (da_nil)))))))
abbrev s__law_single : Stmt := top 53
abbrev N__law_single : List Str := ["_law_e", "_law_which"]
theorem sc__law_single : FnScope N__law_single ["_law_e", "_law_which"] (defScope s__law_single) := ⟨rfl, rfl, rfl, by decide +kernel, rfl, by decide +kernel, by decide +kernel⟩
def d__law_single (K : PySem.W.Frag) (Ed : DEnv → Exc → Prop) : TSD := sSeq (sIf (dOr (dNot (dB (dCB (bIsV K) (dCons (dVar 0) (dCons (dC (.ref (He.ga K "DateError"))) (dNil)))))) (dNot (dB (dCB (bIsV K) (dCons (dVar 0) (dCons (dC (.ty "ValueError")) (dNil))))))) (sRet (dC (.bl false))) (sNext)) (sRet (dOp (fEq false) (dOp fAdd (dCall ((C__law_first_classes K)) [] Ed (dCons (dVar 0) (dNil))) (dCall ((C__law_other_classes K)) [] Ed (dCons (dVar 0) (dNil)))) (dLst (dCons (dVar 1) (dNil)))))
theorem pd__law_single {P : Program} {w : World} {K : PySem.W.Frag} {mg : Str → Option Value} {base : Heap} {I : HI} {fa : Addr} {cdv : Value} {A : Around} {outer : List Env} {s : Shared} {H : Hp} {E : XK} {Ed : Exc → Prop} (T : Tf K mg) (c__law_first_classes : Cl P w K mg base I 2 "_law_first_classes" 1 (C__law_first_classes K) []) (c__law_other_classes : Cl P w K mg base I 2 "_law_other_classes" 1 (C__law_other_classes K) [])
    (hr : Room 2 (A.deeper (envOfC "_law_single" (defScope s__law_single) s.heap.objs.size fa cdv))) (tk : Takes (cxD P w K mg base N__law_single "_law_single" (defScope s__law_single) fa cdv A outer s H E) (gOf I Ed E).W) :
    PSsD (cxD P w K mg base N__law_single "_law_single" (defScope s__law_single) fa cdv A outer s H E) (gOf I Ed E) (defBody s__law_single) (d__law_single K (gOf I Ed E).Ed) :=
  have nd := sc__law_single.nd; ds_cons (ds_if (PWD.pt (dt_or (dt_not (dt_val (d_callB c_isV rfl T.n_isinstance boot_isinstance (da_cons (dv 0) (da_cons (d_glo rfl T.g_DateError) (da_nil)))))) (dt_or1 (dt_not (dt_val (d_callB c_isV rfl T.n_isinstance boot_isinstance (da_cons (dv 0) (da_cons (d_ty rfl T.n_ValueError PyProof.Rows.Boot.«ValueError») (da_nil))))))))) (ds_one (ds_ret (d_bl))) (ds_nil)) (ds_one (ds_ret (d_cmp (r_eq (h64 hr)) (d_op r_add (d_callC c__law_first_classes (ar__law_first_classes _) hr (by decide) rfl tk (da_cons (dv 0) (da_nil))) (d_callC c__law_other_classes (ar__law_other_classes _) hr (by decide) rfl tk (da_cons (dv 0) (da_nil)))) (d_lst (da_cons (dv 1) (da_nil))) (nomark _))))
abbrev s_law : Stmt := top 54
abbrev N_law : List Str := ["_law_script", "_law_hand_here", "_law_things", "_law_which", "_law_thing", "_law_other", "_law_due", "_law_told"]
theorem sc_law : FnScope N_law ["_law_script"] (defScope s_law) := ⟨rfl, rfl, rfl, by decide +kernel, rfl, by decide +kernel, by decide +kernel⟩
def d_law (K : PySem.W.Frag) (hd : Addr) (Ed : DEnv → Exc → Prop) : TSD := sSeq (sAsg 2 (dLst (dCons (dOp fSub (dCall ((C__law_take hd)) [] Ed (dCons (dVar 1) (dCons (dOp fPow (dC (.int 10)) (dC (.int 30))) (dNil)))) (dOp fPow (dC (.int 10)) (dC (.int 29)))) (dCons (dOp fAdd (dC (.str "w")) (dCB bStr (dCons (dCall ((C__law_take hd)) [] Ed (dCons (dVar 1) (dCons (dOp fPow (dC (.int 10)) (dC (.int 9))) (dNil)))) (dNil)))) (dCons (dC .non) (dNil)))))) (sSeq (sAsg 2 (dOp fAdd (dVar 2) (dLst (dCons (dTup (dCons (dCall ((C__law_take hd)) [] Ed (dCons (dVar 1) (dCons (dC (.int 9)) (dNil)))) (dCons (dC (.str "a")) (dNil)))) (dCons (dUn (fUn fun i => -i) (dC (.int 1))) (dCons (dC (.bl true)) (dNil))))))) (sSeq (sFor (idRng1 (dCons (dC (.int 42)) (dNil))) (gdName 3) (sSeq (sAsg 4 (dOp fIx (dVar 2) (dCall ((C__law_take hd)) [] Ed (dCons (dVar 1) (dCons (dC (.int 6)) (dNil)))))) (sSeq (sAsg 5 (dOp fIx (dVar 2) (dCall ((C__law_take hd)) [] Ed (dCons (dVar 1) (dCons (dC (.int 6)) (dNil)))))) (sSeq (sIf (dTest (dOp fLt (dVar 3) (dC (.int 16)))) (sAsg 7 (dCall ((C__law_first_made K)) [] Ed (dCons (dVar 3) (dCons (dVar 4) (dNil))))) (sIf (dTest (dOp fLt (dVar 3) (dC (.int 29)))) (sAsg 7 (dCall ((C__law_second_made K)) [] Ed (dCons (dVar 3) (dCons (dVar 4) (dNil))))) (sAsg 7 (dCall ((C__law_third_made K)) [] Ed (dCons (dVar 3) (dCons (dVar 4) (dCons (dVar 5) (dNil)))))))) (sSeq (sAsg 6 (dIf (dTest (dOp fLt (dVar 3) (dC (.int 29)))) (dLst (dCons (dVar 4) (dNil))) (dIf (dTest (dOp fLt (dVar 3) (dC (.int 31)))) (dLst (dCons (dVar 4) (dCons (dVar 5) (dNil)))) (dLst (dNil))))) (sIf (dOr (dTest (dOp fNeS (dCB bRepr (dCons (dSl (dVar 7) (dPart (dC (.int 1))) (dNoP)) (dNil))) (dCB bRepr (dCons (dVar 6) (dNil))))) (dNot (dB (dCall ((C__law_single K)) [] Ed (dCons (dOp fIx (dVar 7) (dC (.int 0))) (dCons (dVar 3) (dNil))))))) (sRet (dC (.bl false))) (sNext))))))) (sRet (dC (.bl true)))))
theorem pd_law {P : Program} {w : World} {K : PySem.W.Frag} {mg : Str → Option Value} {base : Heap} {I : HI} {fa : Addr} {hd : Addr} {cdv : Value} {A : Around} {outer : List Env} {s : Shared} {H : Hp} {E : XK} {Ed : Exc → Prop} (T : Tf K mg) (c__law_first_made : Cl P w K mg base I 3 "_law_first_made" 2 (C__law_first_made K) []) (c__law_second_made : Cl P w K mg base I 3 "_law_second_made" 2 (C__law_second_made K) []) (c__law_single : Cl P w K mg base I 3 "_law_single" 2 (C__law_single K) []) (c__law_take : Cl P w K mg base I 3 "_law_take" 2 (C__law_take hd) []) (c__law_third_made : Cl P w K mg base I 3 "_law_third_made" 3 (C__law_third_made K) []) (hgd : A.guards = some [])
    (hr : Room 3 (A.deeper (envOfC "law" (defScope s_law) s.heap.objs.size fa cdv))) (tk : Takes (cxD P w K mg base N_law "law" (defScope s_law) fa cdv A outer s H E) (gOf I Ed E).W) :
    PSsD (cxD P w K mg base N_law "law" (defScope s_law) fa cdv A outer s H E) (gOf I Ed E) (defBody s_law).tail (d_law K hd (gOf I Ed E).Ed) :=
  have nd := sc_law.nd; ds_cons (ds_set (i := 2) nd rfl (by first | exact Or.inl rfl | exact Or.inr rfl) (d_lst (da_cons (d_op r_sub (d_callC c__law_take (ar__law_take _) hr (by decide) rfl tk (da_cons (dv 1) (da_cons (d_op r_pow (d_int) (d_int)) (da_nil)))) (d_op r_pow (d_int) (d_int))) (da_cons (d_op r_add (d_str) (d_callTy c_str rfl T.n_str boot_str (da_cons (d_callC c__law_take (ar__law_take _) hr (by decide) rfl tk (da_cons (dv 1) (da_cons (d_op r_pow (d_int) (d_int)) (da_nil)))) (da_nil)))) (da_cons (d_non) (da_nil)))))) (ds_cons (ds_set (i := 2) nd rfl (by first | exact Or.inl rfl | exact Or.inr rfl) (d_op r_add (dv 2) (d_lst (da_cons (d_tup (da_cons (d_callC c__law_take (ar__law_take _) hr (by decide) rfl tk (da_cons (dv 1) (da_cons (d_int) (da_nil)))) (da_cons (d_str) (da_nil)))) (da_cons (d_neg (d_int)) (da_cons (d_bl) (da_nil))))))) (ds_cons (ds_for (passes_of rfl) rfl (di_range1 rfl T.n_range (da_cons (d_int) (da_nil))) (dg_name (i := 3) nd rfl (by first | exact Or.inl rfl | exact Or.inr rfl)) (ds_cons (ds_set (i := 4) nd rfl (by first | exact Or.inl rfl | exact Or.inr rfl) (d_ix (dv 2) (d_callC c__law_take (ar__law_take _) hr (by decide) rfl tk (da_cons (dv 1) (da_cons (d_int) (da_nil)))))) (ds_cons (ds_set (i := 5) nd rfl (by first | exact Or.inl rfl | exact Or.inr rfl) (d_ix (dv 2) (d_callC c__law_take (ar__law_take _) hr (by decide) rfl tk (da_cons (dv 1) (da_cons (d_int) (da_nil)))))) (ds_cons (ds_if (dt_cmp (r_lt hr.units0) (dv 3) (d_int) (nomark _)) (ds_one (ds_set (i := 7) nd rfl (by first | exact Or.inl rfl | exact Or.inr rfl) (d_callC c__law_first_made (ar__law_first_made _) hr (by decide) rfl tk (da_cons (dv 3) (da_cons (dv 4) (da_nil)))))) (ds_one (ds_if (dt_cmp (r_lt hr.units0) (dv 3) (d_int) (nomark _)) (ds_one (ds_set (i := 7) nd rfl (by first | exact Or.inl rfl | exact Or.inr rfl) (d_callC c__law_second_made (ar__law_second_made _) hr (by decide) rfl tk (da_cons (dv 3) (da_cons (dv 4) (da_nil)))))) (ds_one (ds_set (i := 7) nd rfl (by first | exact Or.inl rfl | exact Or.inr rfl) (d_callC c__law_third_made (ar__law_third_made _) hr (by decide) rfl tk (da_cons (dv 3) (da_cons (dv 4) (da_cons (dv 5) (da_nil)))))))))) (ds_cons (ds_set (i := 6) nd rfl (by first | exact Or.inl rfl | exact Or.inr rfl) (d_ifExp (dt_cmp (r_lt hr.units0) (dv 3) (d_int) (nomark _)) (d_lst (da_cons (dv 4) (da_nil))) (d_ifExp (dt_cmp (r_lt hr.units0) (dv 3) (d_int) (nomark _)) (d_lst (da_cons (dv 4) (da_cons (dv 5) (da_nil)))) (d_lst (da_nil))))) (ds_one (ds_if (PWD.pt (dt_or (dt_cmp r_neS (d_callB (c_repr hgd (h64 hr)) rfl T.n_repr boot_repr (da_cons (d_slice (dv 7) (do_some (d_int)) (do_none)) (da_nil))) (d_callB (c_repr hgd (h64 hr)) rfl T.n_repr boot_repr (da_cons (dv 6) (da_nil))) (nomark _)) (dt_or1 (dt_not (dt_val (d_callC c__law_single (ar__law_single _) hr (by decide) rfl tk (da_cons (d_ix (dv 7) (d_int)) (da_cons (dv 3) (da_nil))))))))) (ds_one (ds_ret (d_bl))) (ds_nil)))))))) (ds_one (ds_ret (d_bl)))))
end K70

namespace K70
open PySem PySem.Spec PyProof.Rows L2 Dl He
theorem m40 {i j : Int} (h1 : 0 ≤ i) (h2 : i < 2 ^ 40) (h3 : 0 ≤ j) (h4 : j < 2 ^ 40) : CMulW i j := mulW (big_abs h1 (Int.lt_of_lt_of_le h2 (by decide))) (big_abs h3 (Int.lt_of_lt_of_le h4 (by decide)))
theorem d40 {i j : Int} (h : 0 < j) (h2 : j < 2 ^ 40) : CDivW i j := ⟨h, by
  have h1 : j.natAbs < 2 ^ 40 := by omega
  have h3 : j.natAbs ≠ 0 := by omega
  have := (Nat.log2_lt h3).mpr h1
  omega⟩
theorem kpI {env : DEnv} {i : Nat} {x : Int} : keepable env i (.int x) := .inr (by simp only [D.noLst])
theorem ct__law_mixed {K : PySem.W.Frag} {ds : List D} {Qd : D → Prop} {Ed : Exc → Prop} (h : C__law_mixed K ds Qd Ed) : d__law_mixed K (fun _ x => Ed x) ⟨fun _ => Qd .non, Qd, fun _ => False, fun _ => False⟩ (startD N__law_mixed ds) := by
  obtain ⟨a, b, rfl, a0, a1, b0, b1, q⟩ := h
  refine ⟨_, _, rfl, rfl, a, _, rfl, rfl, m40 a0 (by omega) (by decide) (by decide), _, _, rfl, rfl, b, _, rfl, rfl, m40 b0 (by omega) (by decide) (by decide), ⟨_, rfl, ⟨_, _, rfl, rfl, (show (0 : Int) < 2147483399 by decide), kpI, ?_⟩⟩⟩
  dsimp only
  generalize hx : (a * 39373 + b * 6151 + 50021) % 2147483399 = x
  have x0 : 0 ≤ x := by rw [← hx]; exact Int.emod_nonneg _ (by decide)
  have x1 : x < 2147483399 := by rw [← hx]; exact Int.emod_lt_of_pos _ (by decide)
  refine ⟨_, _, rfl, rfl, _, _, rfl, rfl, x, x, rfl, rfl, m40 x0 (by omega) x0 (by omega), _, _, rfl, rfl, b, _, rfl, rfl, m40 b0 (by omega) (by decide) (by decide), ?_⟩
  refine ⟨_, _, rfl, rfl, x, _, rfl, rfl, d40 (by decide) (by decide), ⟨_, rfl, ⟨_, _, rfl, rfl, (show (0 : Int) < 2147483629 by decide), kpI, ?_⟩⟩⟩
  dsimp only
  generalize hy : (x * x + b * 81071 + x / 137) % 2147483629 = y
  have y0 : 0 ≤ y := by rw [← hy]; exact Int.emod_nonneg _ (by decide)
  have y1 : y < 2147483629 := by rw [← hy]; exact Int.emod_lt_of_pos _ (by decide)
  refine ⟨_, _, rfl, rfl, y, _, rfl, rfl, m40 y0 (by omega) (by decide) (by decide), _, _, rfl, rfl, x, _, rfl, rfl, d40 (by decide) (by decide), ⟨_, rfl, ⟨_, _, rfl, rfl, (show (0 : Int) < 2147483587 by decide), ⟨_, rfl, ⟨_, _, rfl, rfl, d40 (by decide) (by decide), ?_⟩⟩⟩⟩⟩
  dsimp only
  generalize hz : (y * 62089 + x / 11) % 2147483587 = z
  have z0 : 0 ≤ z := by rw [← hz]; exact Int.emod_nonneg _ (by decide)
  have z1 : z < 2147483587 := by rw [← hz]; exact Int.emod_lt_of_pos _ (by decide)
  exact q (z / 64) (Int.ediv_nonneg z0 (by decide)) (by omega)
theorem ct__law_hand {K : PySem.W.Frag} {ds : List D} {Qd : D → Prop} {Ed : Exc → Prop} (h : C_hand K ds Qd Ed) : d__law_hand K (fun _ x => Ed x) ⟨fun _ => Qd .non, Qd, fun _ => False, fun _ => False⟩ (startD N__law_hand ds) := by
  obtain ⟨nm, ns, rfl, hl, q⟩ := h
  refine ⟨_, _, rfl, rfl, _, _, rfl, kpI, (show 0 ≤ sizeLine by decide), (show 2 < 4 by decide), .inl rfl, ⟨_, _, rfl, ?_⟩⟩
  refine forD_of (fun done rest env => ∃ (t : Int) (cs ms : List Int) (lc : Slot), env = [.val (.obj .scr nm (ns.map D.int)), .val (.int t), .own (cs.map D.int), lc] ∧ 0 ≤ t ∧ t < 2 ^ 32 ∧ (∀ c ∈ cs, 0 ≤ c) ∧ cs.length = done.length ∧ rest = ms.map D.int ∧ done.length + ms.length ≤ 63) ?_ ?_ _ [] _ ⟨_, [], ns, _, rfl, ?_, ?_, (fun c m => by cases m), rfl, rfl, by simpa using hl⟩
  · intro done env hh
    obtain ⟨t, cs, ms, lc, rfl, t0, t1, hc, hlen, hr, hb⟩ := hh
    refine ⟨_, _, rfl, rfl, ⟨_, _, rfl, rfl, (show 4 ≤ sizeLine by decide), ?_⟩⟩
    exact q cs t (by omega) hc t0 t1
  · intro done x rest env hh k
    obtain ⟨t, cs, ms, lc, rfl, t0, t1, hc, hlen, hr, hb⟩ := hh
    cases ms with
    | nil => cases hr
    | cons m ms =>
      obtain ⟨rfl, rfl⟩ := List.cons.inj hr
      refine ⟨_, _, rfl, rfl, t, _, rfl, rfl, m40 t0 (by omega) (by decide) (by decide), _, _, rfl, rfl, ⟨m, rfl, ⟨_, rfl, ⟨_, _, rfl, rfl, (show (0 : Int) < 2147483563 by decide), kpI, ?_⟩⟩⟩⟩
      refine ⟨_, rfl, _, _, rfl, rfl, m, rfl, m, rfl, by simp only [D.noLst], ?_, ?_⟩
      · rw [List.length_map, hlen]
        have : (100 : Nat) ≤ sizeLine := by decide
        omega
      · dsimp only
        refine k _ ⟨(t * 2003 + m) % 2147483563, cs ++ [if m < 0 then -m else m], ms, .val (.int m), ?_, Int.emod_nonneg _ (by decide), Int.lt_of_lt_of_le (Int.emod_lt_of_pos _ (by decide)) (by decide), fun c hcm => ?_, ?_, rfl, ?_⟩
        · rw [List.map_append]; rfl
        · rcases List.mem_append.mp hcm with z | z
          · exact hc c z
          · rw [List.mem_singleton.mp z]; split <;> omega
        · rw [List.length_append, List.length_append, hlen]; rfl
        · rw [List.length_append]
          rw [List.length_cons] at hb
          simp only [List.length_cons, List.length_nil]
          omega
  · show (0 : Int) ≤ ((ns.map D.int).length : Int) + 43
    omega
  · show ((ns.map D.int).length : Int) + 43 < 2 ^ 32
    rw [List.length_map]
    omega
end K70

namespace Ns
open PySem PySem.Spec PyProof.Rows L2
abbrev Key := NestedKey
section
variable {h h' : Heap} {k : Key} {b : Addr}
end
section
variable {P : Program} {w : World} {A : Around} {E : Value → Shared → Prop} {s : Shared}
end
end Ns

namespace Ns
open PySem PySem.Spec PyProof.Rows L2
section
variable {P : Program} {w : World} {A : Around} {E : Value → Shared → Prop} {s : Shared} {a : Addr} {L : List (Addr × Key)} {es : Array (Int × Value)} {ep : Nat} {t : SetTable}
end
end Ns

namespace Ns
open PySem PySem.Spec PyProof.Rows L2
section
variable {P : Program} {w : World} {A : Around} {E : Value → Shared → Prop} {s : Shared} {a : Addr} {L : List (Addr × Key)} {es : Array (Int × Value)} {ep : Nat} {t : SetTable}
end
end Ns

namespace Ns
open PySem PySem.Spec PyProof.Rows L2
section
variable {X : Cx} {O0 : Addr → HO} {Ad : Addr → V → Hp → (Hp → Prop) → Prop}
end
end Ns

namespace Ns
open PySem PySem.Spec PyProof.Rows L2
open Classical in
noncomputable def datumOf (h : Heap) (ds : List PyData) (v : Value) : PyData := if q : ∃ d, d ∈ ds ∧ ∃ as, Reads h v d as then q.choose else .none
section
variable {P : Program} {w : World} {A : Around} {E : Value → Shared → Prop} {s : Shared}
end
end Ns

namespace Ns
open PySem PySem.Spec PyProof.Rows L2 Dl
section
variable {X : Cx} {pins : List (Addr × Obj)} {σ : L2.St} {H : Hp} {s : Shared} {Av : Addr → Prop}
end
section
variable {X : Cx}
end
end Ns

namespace Ns
open PySem PySem.Spec PyProof.Rows L2 Dl
abbrev TZD := DEnv → (List D → Prop) → Prop
section
variable {X : Cx} {g : Gx} {wi : TI} {gt : TG} {tt : TT} {te : TE} {vs : List Nat} {tid : TID} {gd : TGD} {td : TTD} {ed : TED}
end
section
variable {X : Cx} {g : Gx} {elt tg iter : Expr} {ifs : List Expr} {scope : Scope} {own : List (Str × Nat)} {pos : Pos} {gt : TG} {tid : TID} {gd : TGD} {td : TTD} {ed : TED}
end
end Ns

namespace Ns
open PySem PySem.Spec PyProof.Rows L2 Dl
section
variable {X : Cx} {g : Gx} {e : Expr} {tas : TAD} {p pos : Pos}
end
section
variable {X : Cx} {Av : Addr → Prop}
end
section
variable {X : Cx} {g : Gx} {e : Expr} {tz : TZD} {p pos : Pos}
end
end Ns

namespace Ns
open PySem PySem.Spec PyProof.Rows L2 Dl HT
section
variable {prog : Program} {w : World} {A : Around} {E : Value → Shared → Prop} {s : Shared}
end
section
variable {X : Cx} {e st : Expr} {te ts : TE} {p2 pos : Pos}
end
end Ns

namespace Ns
open PySem PySem.Spec PyProof.Rows L2 Dl
section
variable {X : Cx} {g : Gx} {e c a b : Expr} {td ta tb : TED} {tf : TFD} {t : TTD} {pos : Pos} {sc : Scope}
end
section
variable {X : Cx} {g : Gx} {elt tg iter : Expr} {ifs : List Expr} {scope : Scope} {own : List (Str × Nat)} {pos : Pos} {gt : TG} {tid : TID} {gd : TGD} {td : TTD} {ed : TED}
end
end Ns

namespace Dl
open PySem PySem.Spec PyProof.Rows L2
end Dl

namespace Dl
open PySem PySem.Spec PyProof.Rows L2 Ns
end Dl

namespace Dl
open PySem PySem.Spec PyProof.Rows L2 Ns
theorem rng_from {i : Nat} {tb : TSD} {Dd : DEnds} (P : DEnv → Prop) {lo : Int} {n : Nat}
    (step : ∀ (k : Nat) env nx, k < n → P env → (∀ env', P env' → nx env') → tb { Dd with nx := nx, ct := nx, bk := Dd.nx } (env.set i (.val (.int (lo + (k : Int)))))) (end_ : ∀ env, P env → Dd.nx env) :
    ∀ env, P env → forD (gdName i) tb Dd (rngD lo n) env := by
  have key : ∀ (l : List Nat), (∀ k ∈ l, k < n) → ∀ env, P env → forD (gdName i) tb Dd (l.map fun (k : Nat) => D.int (lo + (k : Int))) env := by
    intro l
    induction l with
    | nil => intro _ env p; exact end_ env p
    | cons k l ih => intro h env p; exact step k env _ (h k List.mem_cons_self) p fun env' p' => ih (fun j hj => h j (List.mem_cons_of_mem _ hj)) env' p'
  exact key (List.range n) fun k hk => List.mem_range.mp hk
theorem atI_nat {α : Type} {xs : List α} {k : Nat} (h : k < xs.length) : atI xs (k : Int) = some (xs[k]) := by
  unfold atI ixN
  have h0 : ¬ ((k : Int) < 0) := by omega
  simp [h0, h]
end Dl

namespace K70
open PySem PySem.Spec PyProof.Rows L2 Dl He

def told (a : Nat) (i : Nat) : List D := (List.range 21).map fun j => D.bl (decide (i = a + j))
def isT (d : D) : Bool := match d with | .bl b => b | _ => false
theorem told_bl {a i : Nat} {d : D} (h : d ∈ told a i) : ∃ b, d = .bl b := by
  obtain ⟨j, _, rfl⟩ := List.mem_map.mp h
  exact ⟨_, rfl⟩
theorem told_sel0 : ∀ i, i < 42 → sel (fun _ d => isT d) (fun pre _ => .int pre.length) [] (told 0 i) = if i < 21 then [.int i] else [] := by
  intro i hi
  match i, hi with
  | 0, _ => rfl
  | 1, _ => rfl
  | 2, _ => rfl
  | 3, _ => rfl
  | 4, _ => rfl
  | 5, _ => rfl
  | 6, _ => rfl
  | 7, _ => rfl
  | 8, _ => rfl
  | 9, _ => rfl
  | 10, _ => rfl
  | 11, _ => rfl
  | 12, _ => rfl
  | 13, _ => rfl
  | 14, _ => rfl
  | 15, _ => rfl
  | 16, _ => rfl
  | 17, _ => rfl
  | 18, _ => rfl
  | 19, _ => rfl
  | 20, _ => rfl
  | 21, _ => rfl
  | 22, _ => rfl
  | 23, _ => rfl
  | 24, _ => rfl
  | 25, _ => rfl
  | 26, _ => rfl
  | 27, _ => rfl
  | 28, _ => rfl
  | 29, _ => rfl
  | 30, _ => rfl
  | 31, _ => rfl
  | 32, _ => rfl
  | 33, _ => rfl
  | 34, _ => rfl
  | 35, _ => rfl
  | 36, _ => rfl
  | 37, _ => rfl
  | 38, _ => rfl
  | 39, _ => rfl
  | 40, _ => rfl
  | 41, _ => rfl
  | n + 42, h => exact absurd h (by omega)
theorem told_sel1 : ∀ i, i < 42 → sel (fun _ d => isT d) (fun pre _ => .int ((pre.length : Int) + 21)) [] (told 21 i) = if i < 21 then [] else [.int i] := by
  intro i hi
  match i, hi with
  | 0, _ => rfl
  | 1, _ => rfl
  | 2, _ => rfl
  | 3, _ => rfl
  | 4, _ => rfl
  | 5, _ => rfl
  | 6, _ => rfl
  | 7, _ => rfl
  | 8, _ => rfl
  | 9, _ => rfl
  | 10, _ => rfl
  | 11, _ => rfl
  | 12, _ => rfl
  | 13, _ => rfl
  | 14, _ => rfl
  | 15, _ => rfl
  | 16, _ => rfl
  | 17, _ => rfl
  | 18, _ => rfl
  | 19, _ => rfl
  | 20, _ => rfl
  | 21, _ => rfl
  | 22, _ => rfl
  | 23, _ => rfl
  | 24, _ => rfl
  | 25, _ => rfl
  | 26, _ => rfl
  | 27, _ => rfl
  | 28, _ => rfl
  | 29, _ => rfl
  | 30, _ => rfl
  | 31, _ => rfl
  | 32, _ => rfl
  | 33, _ => rfl
  | 34, _ => rfl
  | 35, _ => rfl
  | 36, _ => rfl
  | 37, _ => rfl
  | 38, _ => rfl
  | 39, _ => rfl
  | 40, _ => rfl
  | 41, _ => rfl
  | n + 42, h => exact absurd h (by omega)
theorem ct__law_first_classes {K : PySem.W.Frag} (F : KF K) {ds : List D} {Qd : D → Prop} {Ed : Exc → Prop} (h : C__law_first_classes K ds Qd Ed) : d__law_first_classes K (fun _ x => Ed x) ⟨fun _ => Qd .non, Qd, fun _ => False, fun _ => False⟩ (startD N__law_first_classes ds) := by
  obtain ⟨z, i, rfl, ⟨hi, hz⟩, q⟩ := h
  refine ⟨_, _, rfl, rfl, _, _, _, _, _, rfl, hz, rfl, F.exc i hi, F.kit (j := 0) hi (by decide), _, _, rfl, rfl, _, _, _, _, _, rfl, hz, rfl, F.exc i hi, F.kit (j := 1) hi (by decide), _, _, rfl, rfl, _, _, _, _, _, rfl, hz, rfl, F.exc i hi, F.kit (j := 2) hi (by decide), _, _, rfl, rfl, _, _, _, _, _, rfl, hz, rfl, F.exc i hi, F.kit (j := 3) hi (by decide), (show 4 ≤ sizeLine by decide), .inl rfl, ?_⟩
  refine ⟨_, _, rfl, rfl, _, _, rfl, rfl, _, _, _, _, _, rfl, hz, rfl, F.exc i hi, F.kit (j := 4) hi (by decide), _, _, rfl, rfl, _, _, _, _, _, rfl, hz, rfl, F.exc i hi, F.kit (j := 5) hi (by decide), _, _, rfl, rfl, _, _, _, _, _, rfl, hz, rfl, F.exc i hi, F.kit (j := 6) hi (by decide), _, _, rfl, rfl, _, _, _, _, _, rfl, hz, rfl, F.exc i hi, F.kit (j := 7) hi (by decide), (show 4 ≤ sizeLine by decide), (show 8 ≤ sizeLine by decide), .inl rfl, ?_⟩
  refine ⟨_, _, rfl, rfl, _, _, rfl, rfl, _, _, _, _, _, rfl, hz, rfl, F.exc i hi, F.kit (j := 8) hi (by decide), _, _, rfl, rfl, _, _, _, _, _, rfl, hz, rfl, F.exc i hi, F.kit (j := 9) hi (by decide), _, _, rfl, rfl, _, _, _, _, _, rfl, hz, rfl, F.exc i hi, F.kit (j := 10) hi (by decide), _, _, rfl, rfl, _, _, _, _, _, rfl, hz, rfl, F.exc i hi, F.kit (j := 11) hi (by decide), (show 4 ≤ sizeLine by decide), (show 12 ≤ sizeLine by decide), .inl rfl, ?_⟩
  refine ⟨_, _, rfl, rfl, _, _, rfl, rfl, _, _, _, _, _, rfl, hz, rfl, F.exc i hi, F.kit (j := 12) hi (by decide), _, _, rfl, rfl, _, _, _, _, _, rfl, hz, rfl, F.exc i hi, F.kit (j := 13) hi (by decide), _, _, rfl, rfl, _, _, _, _, _, rfl, hz, rfl, F.exc i hi, F.kit (j := 14) hi (by decide), _, _, rfl, rfl, _, _, _, _, _, rfl, hz, rfl, F.exc i hi, F.kit (j := 15) hi (by decide), (show 4 ≤ sizeLine by decide), (show 16 ≤ sizeLine by decide), .inl rfl, ?_⟩
  refine ⟨_, _, rfl, rfl, _, _, rfl, rfl, _, _, _, _, _, rfl, hz, rfl, F.exc i hi, F.kit (j := 16) hi (by decide), _, _, rfl, rfl, _, _, _, _, _, rfl, hz, rfl, F.exc i hi, F.kit (j := 17) hi (by decide), _, _, rfl, rfl, _, _, _, _, _, rfl, hz, rfl, F.exc i hi, F.kit (j := 18) hi (by decide), _, _, rfl, rfl, _, _, _, _, _, rfl, hz, rfl, F.exc i hi, F.kit (j := 19) hi (by decide), (show 4 ≤ sizeLine by decide), (show 20 ≤ sizeLine by decide), .inl rfl, ?_⟩
  refine ⟨_, _, rfl, rfl, _, _, rfl, rfl, _, _, _, _, _, rfl, hz, rfl, F.exc i hi, F.kit (j := 20) hi (by decide), (show 1 ≤ sizeLine by decide), (show 21 ≤ sizeLine by decide), .inl rfl, ?_⟩
  refine ⟨_, _, rfl, rfl, _, rfl, 21, rfl, ⟨by decide, by decide⟩, (show (21 : Nat) ≤ 1000000 by decide), ?_⟩
  refine rng_lc (xs := told 0 i) (fun _ d => isT d) (fun pre _ => .int pre.length) (fun pre d suf R e hR => ?_) (told 0 i) [] [] rfl ?_
  · obtain ⟨b, rfl⟩ := told_bl (a := 0) (i := i) (d := d) (by rw [e]; simp)
    have hat : atI (told 0 i) (pre.length : Int) = some (.bl b) := by rw [e]; exact atI_mid
    refine ⟨_, _, rfl, rfl, _, _, rfl, rfl, _, rfl, _, hat, b, rfl, ?_⟩
    cases b with
    | true =>
      refine it_t rfl ?_
      exact ⟨_, _, rfl, rfl, by simp only [D.noLst], hR⟩
    | false => exact it_f rfl hR
  · rw [List.nil_append, told_sel0 i hi]
    exact q
theorem ct__law_other_classes {K : PySem.W.Frag} (F : KF K) {ds : List D} {Qd : D → Prop} {Ed : Exc → Prop} (h : C__law_other_classes K ds Qd Ed) : d__law_other_classes K (fun _ x => Ed x) ⟨fun _ => Qd .non, Qd, fun _ => False, fun _ => False⟩ (startD N__law_other_classes ds) := by
  obtain ⟨z, i, rfl, ⟨hi, hz⟩, q⟩ := h
  refine ⟨_, _, rfl, rfl, _, _, _, _, _, rfl, hz, rfl, F.exc i hi, F.kit (j := 21) hi (by decide), _, _, rfl, rfl, _, _, _, _, _, rfl, hz, rfl, F.exc i hi, F.kit (j := 22) hi (by decide), _, _, rfl, rfl, _, _, _, _, _, rfl, hz, rfl, F.exc i hi, F.kit (j := 23) hi (by decide), _, _, rfl, rfl, _, _, _, _, _, rfl, hz, rfl, F.exc i hi, F.kit (j := 24) hi (by decide), (show 4 ≤ sizeLine by decide), .inl rfl, ?_⟩
  refine ⟨_, _, rfl, rfl, _, _, rfl, rfl, _, _, _, _, _, rfl, hz, rfl, F.exc i hi, F.kit (j := 25) hi (by decide), _, _, rfl, rfl, _, _, _, _, _, rfl, hz, rfl, F.exc i hi, F.kit (j := 26) hi (by decide), _, _, rfl, rfl, _, _, _, _, _, rfl, hz, rfl, F.exc i hi, F.kit (j := 27) hi (by decide), _, _, rfl, rfl, _, _, _, _, _, rfl, hz, rfl, F.exc i hi, F.kit (j := 28) hi (by decide), (show 4 ≤ sizeLine by decide), (show 8 ≤ sizeLine by decide), .inl rfl, ?_⟩
  refine ⟨_, _, rfl, rfl, _, _, rfl, rfl, _, _, _, _, _, rfl, hz, rfl, F.exc i hi, F.kit (j := 29) hi (by decide), _, _, rfl, rfl, _, _, _, _, _, rfl, hz, rfl, F.exc i hi, F.kit (j := 30) hi (by decide), _, _, rfl, rfl, _, _, _, _, _, rfl, hz, rfl, F.exc i hi, F.kit (j := 31) hi (by decide), _, _, rfl, rfl, _, _, _, _, _, rfl, hz, rfl, F.exc i hi, F.kit (j := 32) hi (by decide), (show 4 ≤ sizeLine by decide), (show 12 ≤ sizeLine by decide), .inl rfl, ?_⟩
  refine ⟨_, _, rfl, rfl, _, _, rfl, rfl, _, _, _, _, _, rfl, hz, rfl, F.exc i hi, F.kit (j := 33) hi (by decide), _, _, rfl, rfl, _, _, _, _, _, rfl, hz, rfl, F.exc i hi, F.kit (j := 34) hi (by decide), _, _, rfl, rfl, _, _, _, _, _, rfl, hz, rfl, F.exc i hi, F.kit (j := 35) hi (by decide), _, _, rfl, rfl, _, _, _, _, _, rfl, hz, rfl, F.exc i hi, F.kit (j := 36) hi (by decide), (show 4 ≤ sizeLine by decide), (show 16 ≤ sizeLine by decide), .inl rfl, ?_⟩
  refine ⟨_, _, rfl, rfl, _, _, rfl, rfl, _, _, _, _, _, rfl, hz, rfl, F.exc i hi, F.kit (j := 37) hi (by decide), _, _, rfl, rfl, _, _, _, _, _, rfl, hz, rfl, F.exc i hi, F.kit (j := 38) hi (by decide), _, _, rfl, rfl, _, _, _, _, _, rfl, hz, rfl, F.exc i hi, F.kit (j := 39) hi (by decide), _, _, rfl, rfl, _, _, _, _, _, rfl, hz, rfl, F.exc i hi, F.kit (j := 40) hi (by decide), (show 4 ≤ sizeLine by decide), (show 20 ≤ sizeLine by decide), .inl rfl, ?_⟩
  refine ⟨_, _, rfl, rfl, _, _, rfl, rfl, _, _, _, _, _, rfl, hz, rfl, F.exc i hi, F.kit (j := 41) hi (by decide), (show 1 ≤ sizeLine by decide), (show 21 ≤ sizeLine by decide), .inl rfl, ?_⟩
  refine ⟨_, _, rfl, rfl, _, rfl, 21, rfl, ⟨by decide, by decide⟩, (show (21 : Nat) ≤ 1000000 by decide), ?_⟩
  refine rng_lc (xs := told 21 i) (fun _ d => isT d) (fun pre _ => .int ((pre.length : Int) + 21)) (fun pre d suf R e hR => ?_) (told 21 i) [] [] rfl ?_
  · obtain ⟨b, rfl⟩ := told_bl (a := 21) (i := i) (d := d) (by rw [e]; simp)
    have hat : atI (told 21 i) (pre.length : Int) = some (.bl b) := by rw [e]; exact atI_mid
    refine ⟨_, _, rfl, rfl, _, _, rfl, rfl, _, rfl, _, hat, b, rfl, ?_⟩
    cases b with
    | true =>
      refine it_t rfl ?_
      exact ⟨_, _, rfl, rfl, by simp only [D.noLst], hR⟩
    | false => exact it_f rfl hR
  · rw [List.nil_append, told_sel1 i hi]
    exact q
theorem ct__law_first_made {K : PySem.W.Frag} (F : KF K) {ds : List D} {Qd : D → Prop} {Ed : Exc → Prop} (h : C__law_first_made K ds Qd Ed) : d__law_first_made K (fun _ x => Ed x) ⟨fun _ => Qd .non, Qd, fun _ => False, fun _ => False⟩ (startD N__law_first_made ds) := by
  obtain ⟨i, t, rfl, hi, q⟩ := h
  match i, hi with
  | 0, _ =>
    refine ⟨_, _, rfl, rfl, .inl ⟨_, _, rfl, rfl, _, rfl, ?_⟩⟩
    refine it_t (by decide) ?_
    refine ⟨_, _, rfl, rfl, _, _, rfl, rfl, _, _, rfl, rfl, _, _, rfl, rfl, (show 4 ≤ sizeLine by decide), .inl rfl, ?_⟩
    refine ⟨_, _, rfl, rfl, _, _, rfl, rfl, _, _, rfl, rfl, _, _, rfl, rfl, _, _, rfl, rfl, (show 4 ≤ sizeLine by decide), (show 8 ≤ sizeLine by decide), .inl rfl, ?_⟩
    refine ⟨_, _, rfl, rfl, _, _, rfl, rfl, _, rfl, exD K 0 t, rfl, .inl rfl, ?_⟩
    refine ⟨_, _, rfl, rfl, okI_int.ok, okI_int.ok, _, rfl, ?_⟩
    refine it_f (by decide) ⟨_, _, rfl, rfl, okI_int.ok, okI_int.ok, _, rfl, ?_⟩
    refine it_f (by decide) ?_
    refine ⟨_, _, rfl, rfl, okI_int.ok, okI_int.ok, _, rfl, ?_⟩
    refine it_f (by decide) ?_
    exact ⟨_, _, rfl, rfl, _, _, rfl, rfl, _, _, _, rfl, F.xf 0 (by decide), F.nf 0 (by decide), rfl, _, if_pos rfl, (show 2 ≤ sizeLine by decide), q⟩
  | 1, _ =>
    refine ⟨_, _, rfl, rfl, .inl ⟨_, _, rfl, rfl, _, rfl, ?_⟩⟩
    refine it_t (by decide) ?_
    refine ⟨_, _, rfl, rfl, _, _, rfl, rfl, _, _, rfl, rfl, _, _, rfl, rfl, (show 4 ≤ sizeLine by decide), .inl rfl, ?_⟩
    refine ⟨_, _, rfl, rfl, _, _, rfl, rfl, _, _, rfl, rfl, _, _, rfl, rfl, _, _, rfl, rfl, (show 4 ≤ sizeLine by decide), (show 8 ≤ sizeLine by decide), .inl rfl, ?_⟩
    refine ⟨_, _, rfl, rfl, _, _, rfl, rfl, _, rfl, exD K 1 t, rfl, .inl rfl, ?_⟩
    refine ⟨_, _, rfl, rfl, okI_int.ok, okI_int.ok, _, rfl, ?_⟩
    refine it_f (by decide) ⟨_, _, rfl, rfl, okI_int.ok, okI_int.ok, _, rfl, ?_⟩
    refine it_f (by decide) ?_
    refine ⟨_, _, rfl, rfl, okI_int.ok, okI_int.ok, _, rfl, ?_⟩
    refine it_f (by decide) ?_
    exact ⟨_, _, rfl, rfl, _, _, rfl, rfl, _, _, _, rfl, F.xf 1 (by decide), F.nf 1 (by decide), rfl, _, if_pos rfl, (show 2 ≤ sizeLine by decide), q⟩
  | 2, _ =>
    refine ⟨_, _, rfl, rfl, .inl ⟨_, _, rfl, rfl, _, rfl, ?_⟩⟩
    refine it_t (by decide) ?_
    refine ⟨_, _, rfl, rfl, _, _, rfl, rfl, _, _, rfl, rfl, _, _, rfl, rfl, (show 4 ≤ sizeLine by decide), .inl rfl, ?_⟩
    refine ⟨_, _, rfl, rfl, _, _, rfl, rfl, _, _, rfl, rfl, _, _, rfl, rfl, _, _, rfl, rfl, (show 4 ≤ sizeLine by decide), (show 8 ≤ sizeLine by decide), .inl rfl, ?_⟩
    refine ⟨_, _, rfl, rfl, _, _, rfl, rfl, _, rfl, exD K 2 t, rfl, .inl rfl, ?_⟩
    refine ⟨_, _, rfl, rfl, okI_int.ok, okI_int.ok, _, rfl, ?_⟩
    refine it_f (by decide) ⟨_, _, rfl, rfl, okI_int.ok, okI_int.ok, _, rfl, ?_⟩
    refine it_f (by decide) ?_
    refine ⟨_, _, rfl, rfl, okI_int.ok, okI_int.ok, _, rfl, ?_⟩
    refine it_f (by decide) ?_
    exact ⟨_, _, rfl, rfl, _, _, rfl, rfl, _, _, _, rfl, F.xf 2 (by decide), F.nf 2 (by decide), rfl, _, if_pos rfl, (show 2 ≤ sizeLine by decide), q⟩
  | 3, _ =>
    refine ⟨_, _, rfl, rfl, .inl ⟨_, _, rfl, rfl, _, rfl, ?_⟩⟩
    refine it_t (by decide) ?_
    refine ⟨_, _, rfl, rfl, _, _, rfl, rfl, _, _, rfl, rfl, _, _, rfl, rfl, (show 4 ≤ sizeLine by decide), .inl rfl, ?_⟩
    refine ⟨_, _, rfl, rfl, _, _, rfl, rfl, _, _, rfl, rfl, _, _, rfl, rfl, _, _, rfl, rfl, (show 4 ≤ sizeLine by decide), (show 8 ≤ sizeLine by decide), .inl rfl, ?_⟩
    refine ⟨_, _, rfl, rfl, _, _, rfl, rfl, _, rfl, exD K 3 t, rfl, .inl rfl, ?_⟩
    refine ⟨_, _, rfl, rfl, okI_int.ok, okI_int.ok, _, rfl, ?_⟩
    refine it_t (by decide) (it_t rfl ?_)
    exact ⟨_, _, rfl, rfl, _, _, rfl, rfl, _, _, _, rfl, F.xf 3 (by decide), F.nf 3 (by decide), rfl, _, if_pos rfl, (show 2 ≤ sizeLine by decide), q⟩
  | 4, _ =>
    refine ⟨_, _, rfl, rfl, .inl ⟨_, _, rfl, rfl, _, rfl, ?_⟩⟩
    refine it_t (by decide) ?_
    refine ⟨_, _, rfl, rfl, _, _, rfl, rfl, _, _, rfl, rfl, _, _, rfl, rfl, (show 4 ≤ sizeLine by decide), .inl rfl, ?_⟩
    refine ⟨_, _, rfl, rfl, _, _, rfl, rfl, _, _, rfl, rfl, _, _, rfl, rfl, _, _, rfl, rfl, (show 4 ≤ sizeLine by decide), (show 8 ≤ sizeLine by decide), .inl rfl, ?_⟩
    refine ⟨_, _, rfl, rfl, _, _, rfl, rfl, _, rfl, exD K 4 t, rfl, .inl rfl, ?_⟩
    refine ⟨_, _, rfl, rfl, okI_int.ok, okI_int.ok, _, rfl, ?_⟩
    refine it_f (by decide) ⟨_, _, rfl, rfl, okI_int.ok, okI_int.ok, _, rfl, ?_⟩
    refine it_f (by decide) ?_
    refine ⟨_, _, rfl, rfl, okI_int.ok, okI_int.ok, _, rfl, ?_⟩
    refine it_f (by decide) ?_
    exact ⟨_, _, rfl, rfl, _, _, rfl, rfl, _, _, _, rfl, F.xf 4 (by decide), F.nf 4 (by decide), rfl, _, if_pos rfl, (show 2 ≤ sizeLine by decide), q⟩
  | 5, _ =>
    refine ⟨_, _, rfl, rfl, .inl ⟨_, _, rfl, rfl, _, rfl, ?_⟩⟩
    refine it_t (by decide) ?_
    refine ⟨_, _, rfl, rfl, _, _, rfl, rfl, _, _, rfl, rfl, _, _, rfl, rfl, (show 4 ≤ sizeLine by decide), .inl rfl, ?_⟩
    refine ⟨_, _, rfl, rfl, _, _, rfl, rfl, _, _, rfl, rfl, _, _, rfl, rfl, _, _, rfl, rfl, (show 4 ≤ sizeLine by decide), (show 8 ≤ sizeLine by decide), .inl rfl, ?_⟩
    refine ⟨_, _, rfl, rfl, _, _, rfl, rfl, _, rfl, exD K 5 t, rfl, .inl rfl, ?_⟩
    refine ⟨_, _, rfl, rfl, okI_int.ok, okI_int.ok, _, rfl, ?_⟩
    refine it_f (by decide) ⟨_, _, rfl, rfl, okI_int.ok, okI_int.ok, _, rfl, ?_⟩
    refine it_f (by decide) ?_
    refine ⟨_, _, rfl, rfl, okI_int.ok, okI_int.ok, _, rfl, ?_⟩
    refine it_f (by decide) ?_
    exact ⟨_, _, rfl, rfl, _, _, rfl, rfl, _, _, _, rfl, F.xf 5 (by decide), F.nf 5 (by decide), rfl, _, if_pos rfl, (show 2 ≤ sizeLine by decide), q⟩
  | 6, _ =>
    refine ⟨_, _, rfl, rfl, .inl ⟨_, _, rfl, rfl, _, rfl, ?_⟩⟩
    refine it_t (by decide) ?_
    refine ⟨_, _, rfl, rfl, _, _, rfl, rfl, _, _, rfl, rfl, _, _, rfl, rfl, (show 4 ≤ sizeLine by decide), .inl rfl, ?_⟩
    refine ⟨_, _, rfl, rfl, _, _, rfl, rfl, _, _, rfl, rfl, _, _, rfl, rfl, _, _, rfl, rfl, (show 4 ≤ sizeLine by decide), (show 8 ≤ sizeLine by decide), .inl rfl, ?_⟩
    refine ⟨_, _, rfl, rfl, _, _, rfl, rfl, _, rfl, exD K 6 t, rfl, .inl rfl, ?_⟩
    refine ⟨_, _, rfl, rfl, okI_int.ok, okI_int.ok, _, rfl, ?_⟩
    refine it_f (by decide) ⟨_, _, rfl, rfl, okI_int.ok, okI_int.ok, _, rfl, ?_⟩
    refine it_f (by decide) ?_
    refine ⟨_, _, rfl, rfl, okI_int.ok, okI_int.ok, _, rfl, ?_⟩
    refine it_t (by decide) ?_
    exact ⟨_, _, rfl, rfl, _, _, rfl, rfl, _, _, _, rfl, F.xf 6 (by decide), F.nf 6 (by decide), rfl, _, if_pos rfl, (show 2 ≤ sizeLine by decide), q⟩
  | 7, _ =>
    refine ⟨_, _, rfl, rfl, .inl ⟨_, _, rfl, rfl, _, rfl, ?_⟩⟩
    refine it_t (by decide) ?_
    refine ⟨_, _, rfl, rfl, _, _, rfl, rfl, _, _, rfl, rfl, _, _, rfl, rfl, (show 4 ≤ sizeLine by decide), .inl rfl, ?_⟩
    refine ⟨_, _, rfl, rfl, _, _, rfl, rfl, _, _, rfl, rfl, _, _, rfl, rfl, _, _, rfl, rfl, (show 4 ≤ sizeLine by decide), (show 8 ≤ sizeLine by decide), .inl rfl, ?_⟩
    refine ⟨_, _, rfl, rfl, _, _, rfl, rfl, _, rfl, exD K 7 t, rfl, .inl rfl, ?_⟩
    refine ⟨_, _, rfl, rfl, okI_int.ok, okI_int.ok, _, rfl, ?_⟩
    refine it_f (by decide) ⟨_, _, rfl, rfl, okI_int.ok, okI_int.ok, _, rfl, ?_⟩
    refine it_t (by decide) ?_
    exact ⟨_, _, rfl, rfl, _, _, rfl, rfl, _, _, _, rfl, F.xf 7 (by decide), F.nf 7 (by decide), rfl, _, if_pos rfl, (show 2 ≤ sizeLine by decide), q⟩
  | 8, _ =>
    refine ⟨_, _, rfl, rfl, .inl ⟨_, _, rfl, rfl, _, rfl, ?_⟩⟩
    refine it_f (by decide) ?_
    refine ⟨_, _, rfl, rfl, _, _, rfl, rfl, _, _, rfl, rfl, _, _, rfl, rfl, (show 4 ≤ sizeLine by decide), .inl rfl, ?_⟩
    refine ⟨_, _, rfl, rfl, _, _, rfl, rfl, _, _, rfl, rfl, _, _, rfl, rfl, _, _, rfl, rfl, (show 4 ≤ sizeLine by decide), (show 8 ≤ sizeLine by decide), .inl rfl, ?_⟩
    refine ⟨_, _, rfl, rfl, _, _, rfl, rfl, _, 8, rfl, rfl, _, rfl, exD K 8 t, rfl, .inl rfl, ?_⟩
    refine ⟨_, _, rfl, rfl, okI_int.ok, okI_int.ok, _, rfl, ?_⟩
    refine it_t (by decide) ?_
    exact ⟨_, _, rfl, rfl, _, _, rfl, rfl, _, _, _, rfl, F.xf 8 (by decide), F.nf 8 (by decide), rfl, _, if_pos rfl, (show 2 ≤ sizeLine by decide), q⟩
  | 9, _ =>
    refine ⟨_, _, rfl, rfl, .inl ⟨_, _, rfl, rfl, _, rfl, ?_⟩⟩
    refine it_f (by decide) ?_
    refine ⟨_, _, rfl, rfl, _, _, rfl, rfl, _, _, rfl, rfl, _, _, rfl, rfl, (show 4 ≤ sizeLine by decide), .inl rfl, ?_⟩
    refine ⟨_, _, rfl, rfl, _, _, rfl, rfl, _, _, rfl, rfl, _, _, rfl, rfl, _, _, rfl, rfl, (show 4 ≤ sizeLine by decide), (show 8 ≤ sizeLine by decide), .inl rfl, ?_⟩
    refine ⟨_, _, rfl, rfl, _, _, rfl, rfl, _, 8, rfl, rfl, _, rfl, exD K 9 t, rfl, .inl rfl, ?_⟩
    refine ⟨_, _, rfl, rfl, okI_int.ok, okI_int.ok, _, rfl, ?_⟩
    refine it_f (by decide) ?_
    refine ⟨_, _, rfl, rfl, .inl ⟨_, _, rfl, rfl, _, rfl, ?_⟩⟩
    refine it_t (by decide) ?_
    exact ⟨_, _, rfl, rfl, _, _, rfl, rfl, _, _, _, rfl, F.xf 9 (by decide), F.nf 9 (by decide), rfl, _, if_pos rfl, (show 2 ≤ sizeLine by decide), q⟩
  | 10, _ =>
    refine ⟨_, _, rfl, rfl, .inl ⟨_, _, rfl, rfl, _, rfl, ?_⟩⟩
    refine it_f (by decide) ?_
    refine ⟨_, _, rfl, rfl, _, _, rfl, rfl, _, _, rfl, rfl, _, _, rfl, rfl, (show 4 ≤ sizeLine by decide), .inl rfl, ?_⟩
    refine ⟨_, _, rfl, rfl, _, _, rfl, rfl, _, _, rfl, rfl, _, _, rfl, rfl, _, _, rfl, rfl, (show 4 ≤ sizeLine by decide), (show 8 ≤ sizeLine by decide), .inl rfl, ?_⟩
    refine ⟨_, _, rfl, rfl, _, _, rfl, rfl, _, 8, rfl, rfl, _, rfl, exD K 10 t, rfl, .inl rfl, ?_⟩
    refine ⟨_, _, rfl, rfl, okI_int.ok, okI_int.ok, _, rfl, ?_⟩
    refine it_f (by decide) ?_
    refine ⟨_, _, rfl, rfl, .inl ⟨_, _, rfl, rfl, _, rfl, ?_⟩⟩
    refine it_t (by decide) ?_
    exact ⟨_, _, rfl, rfl, _, _, rfl, rfl, _, _, _, rfl, F.xf 10 (by decide), F.nf 10 (by decide), rfl, _, if_pos rfl, (show 2 ≤ sizeLine by decide), q⟩
  | 11, _ =>
    refine ⟨_, _, rfl, rfl, .inl ⟨_, _, rfl, rfl, _, rfl, ?_⟩⟩
    refine it_f (by decide) ?_
    refine ⟨_, _, rfl, rfl, _, _, rfl, rfl, _, _, rfl, rfl, _, _, rfl, rfl, (show 4 ≤ sizeLine by decide), .inl rfl, ?_⟩
    refine ⟨_, _, rfl, rfl, _, _, rfl, rfl, _, _, rfl, rfl, _, _, rfl, rfl, _, _, rfl, rfl, (show 4 ≤ sizeLine by decide), (show 8 ≤ sizeLine by decide), .inl rfl, ?_⟩
    refine ⟨_, _, rfl, rfl, _, _, rfl, rfl, _, 8, rfl, rfl, _, rfl, exD K 11 t, rfl, .inl rfl, ?_⟩
    refine ⟨_, _, rfl, rfl, okI_int.ok, okI_int.ok, _, rfl, ?_⟩
    refine it_f (by decide) ?_
    refine ⟨_, _, rfl, rfl, .inl ⟨_, _, rfl, rfl, _, rfl, ?_⟩⟩
    refine it_t (by decide) ?_
    exact ⟨_, _, rfl, rfl, _, _, rfl, rfl, _, _, _, rfl, F.xf 11 (by decide), F.nf 11 (by decide), rfl, _, if_pos rfl, (show 2 ≤ sizeLine by decide), q⟩
  | 12, _ =>
    refine ⟨_, _, rfl, rfl, .inl ⟨_, _, rfl, rfl, _, rfl, ?_⟩⟩
    refine it_f (by decide) ?_
    refine ⟨_, _, rfl, rfl, _, _, rfl, rfl, _, _, rfl, rfl, _, _, rfl, rfl, (show 4 ≤ sizeLine by decide), .inl rfl, ?_⟩
    refine ⟨_, _, rfl, rfl, _, _, rfl, rfl, _, _, rfl, rfl, _, _, rfl, rfl, _, _, rfl, rfl, (show 4 ≤ sizeLine by decide), (show 8 ≤ sizeLine by decide), .inl rfl, ?_⟩
    refine ⟨_, _, rfl, rfl, _, _, rfl, rfl, _, 8, rfl, rfl, _, rfl, exD K 12 t, rfl, .inl rfl, ?_⟩
    refine ⟨_, _, rfl, rfl, okI_int.ok, okI_int.ok, _, rfl, ?_⟩
    refine it_f (by decide) ?_
    refine ⟨_, _, rfl, rfl, .inl ⟨_, _, rfl, rfl, _, rfl, ?_⟩⟩
    refine it_f (by decide) ?_
    refine ⟨_, _, rfl, rfl, .inl ⟨_, _, rfl, rfl, _, rfl, ?_⟩⟩
    refine it_t (by decide) ?_
    exact ⟨_, _, rfl, rfl, _, _, rfl, rfl, _, _, _, rfl, F.xf 12 (by decide), F.nf 12 (by decide), rfl, _, if_pos rfl, (show 2 ≤ sizeLine by decide), q⟩
  | 13, _ =>
    refine ⟨_, _, rfl, rfl, .inl ⟨_, _, rfl, rfl, _, rfl, ?_⟩⟩
    refine it_f (by decide) ?_
    refine ⟨_, _, rfl, rfl, _, _, rfl, rfl, _, _, rfl, rfl, _, _, rfl, rfl, (show 4 ≤ sizeLine by decide), .inl rfl, ?_⟩
    refine ⟨_, _, rfl, rfl, _, _, rfl, rfl, _, _, rfl, rfl, _, _, rfl, rfl, _, _, rfl, rfl, (show 4 ≤ sizeLine by decide), (show 8 ≤ sizeLine by decide), .inl rfl, ?_⟩
    refine ⟨_, _, rfl, rfl, _, _, rfl, rfl, _, 8, rfl, rfl, _, rfl, exD K 13 t, rfl, .inl rfl, ?_⟩
    refine ⟨_, _, rfl, rfl, okI_int.ok, okI_int.ok, _, rfl, ?_⟩
    refine it_f (by decide) ?_
    refine ⟨_, _, rfl, rfl, .inl ⟨_, _, rfl, rfl, _, rfl, ?_⟩⟩
    refine it_f (by decide) ?_
    refine ⟨_, _, rfl, rfl, .inl ⟨_, _, rfl, rfl, _, rfl, ?_⟩⟩
    refine it_t (by decide) ?_
    exact ⟨_, _, rfl, rfl, _, _, rfl, rfl, _, _, _, rfl, F.xf 13 (by decide), F.nf 13 (by decide), rfl, _, if_pos rfl, (show 2 ≤ sizeLine by decide), q⟩
  | 14, _ =>
    refine ⟨_, _, rfl, rfl, .inl ⟨_, _, rfl, rfl, _, rfl, ?_⟩⟩
    refine it_f (by decide) ?_
    refine ⟨_, _, rfl, rfl, _, _, rfl, rfl, _, _, rfl, rfl, _, _, rfl, rfl, (show 4 ≤ sizeLine by decide), .inl rfl, ?_⟩
    refine ⟨_, _, rfl, rfl, _, _, rfl, rfl, _, _, rfl, rfl, _, _, rfl, rfl, _, _, rfl, rfl, (show 4 ≤ sizeLine by decide), (show 8 ≤ sizeLine by decide), .inl rfl, ?_⟩
    refine ⟨_, _, rfl, rfl, _, _, rfl, rfl, _, 8, rfl, rfl, _, rfl, exD K 14 t, rfl, .inl rfl, ?_⟩
    refine ⟨_, _, rfl, rfl, okI_int.ok, okI_int.ok, _, rfl, ?_⟩
    refine it_f (by decide) ?_
    refine ⟨_, _, rfl, rfl, .inl ⟨_, _, rfl, rfl, _, rfl, ?_⟩⟩
    refine it_f (by decide) ?_
    refine ⟨_, _, rfl, rfl, .inl ⟨_, _, rfl, rfl, _, rfl, ?_⟩⟩
    refine it_f (by decide) ?_
    refine ⟨_, _, rfl, rfl, okI_int.ok, okI_int.ok, _, rfl, ?_⟩
    refine it_t (by decide) ?_
    exact ⟨_, _, rfl, rfl, _, _, rfl, rfl, _, _, _, rfl, F.xf 14 (by decide), F.nf 14 (by decide), rfl, _, if_pos rfl, (show 2 ≤ sizeLine by decide), q⟩
  | 15, _ =>
    refine ⟨_, _, rfl, rfl, .inl ⟨_, _, rfl, rfl, _, rfl, ?_⟩⟩
    refine it_f (by decide) ?_
    refine ⟨_, _, rfl, rfl, _, _, rfl, rfl, _, _, rfl, rfl, _, _, rfl, rfl, (show 4 ≤ sizeLine by decide), .inl rfl, ?_⟩
    refine ⟨_, _, rfl, rfl, _, _, rfl, rfl, _, _, rfl, rfl, _, _, rfl, rfl, _, _, rfl, rfl, (show 4 ≤ sizeLine by decide), (show 8 ≤ sizeLine by decide), .inl rfl, ?_⟩
    refine ⟨_, _, rfl, rfl, _, _, rfl, rfl, _, 8, rfl, rfl, _, rfl, exD K 15 t, rfl, .inl rfl, ?_⟩
    refine ⟨_, _, rfl, rfl, okI_int.ok, okI_int.ok, _, rfl, ?_⟩
    refine it_f (by decide) ?_
    refine ⟨_, _, rfl, rfl, .inl ⟨_, _, rfl, rfl, _, rfl, ?_⟩⟩
    refine it_f (by decide) ?_
    refine ⟨_, _, rfl, rfl, .inl ⟨_, _, rfl, rfl, _, rfl, ?_⟩⟩
    refine it_f (by decide) ?_
    refine ⟨_, _, rfl, rfl, okI_int.ok, okI_int.ok, _, rfl, ?_⟩
    refine it_f (by decide) ?_
    exact ⟨_, _, rfl, rfl, _, _, rfl, rfl, _, _, _, rfl, F.xf 15 (by decide), F.nf 15 (by decide), rfl, _, if_pos rfl, (show 2 ≤ sizeLine by decide), q⟩
  | n + 16, h => exact absurd h (by omega)
theorem ct__law_second_made {K : PySem.W.Frag} (F : KF K) {ds : List D} {Qd : D → Prop} {Ed : Exc → Prop} (h : C__law_second_made K ds Qd Ed) : d__law_second_made K (fun _ x => Ed x) ⟨fun _ => Qd .non, Qd, fun _ => False, fun _ => False⟩ (startD N__law_second_made ds) := by
  obtain ⟨i, t, rfl, hlo, hi, q⟩ := h
  refine ⟨_, _, rfl, rfl, _, _, rfl, rfl, _, _, rfl, rfl, _, _, rfl, rfl, _, _, rfl, rfl, _, _, rfl, rfl, (show 6 ≤ sizeLine by decide), .inl rfl, ?_⟩
  refine ⟨_, _, rfl, rfl, _, _, rfl, rfl, _, _, rfl, rfl, _, _, rfl, rfl, _, _, rfl, rfl, _, _, rfl, rfl, (show 5 ≤ sizeLine by decide), (show 11 ≤ sizeLine by decide), .inl rfl, ?_⟩
  refine ⟨_, _, rfl, rfl, _, _, rfl, rfl, _, _, rfl, rfl, (show 2 ≤ sizeLine by decide), (show 13 ≤ sizeLine by decide), .inl rfl, ?_⟩
  match i, hlo, hi with
  | 16, _, _ =>
    refine ⟨_, _, rfl, rfl, _, _, rfl, rfl, _, 16, rfl, rfl, _, rfl, exD K 16 t, rfl, .inl rfl, ?_⟩
    refine ⟨_, _, rfl, rfl, okI_int.ok, okI_int.ok, _, rfl, ?_⟩
    refine it_t (by decide) ?_
    exact ⟨_, _, rfl, rfl, _, _, rfl, rfl, _, _, _, rfl, F.xf 16 (by decide), F.nf 16 (by decide), rfl, _, if_pos rfl, (show 2 ≤ sizeLine by decide), q⟩
  | 17, _, _ =>
    refine ⟨_, _, rfl, rfl, _, _, rfl, rfl, _, 16, rfl, rfl, _, rfl, exD K 17 t, rfl, .inl rfl, ?_⟩
    refine ⟨_, _, rfl, rfl, okI_int.ok, okI_int.ok, _, rfl, ?_⟩
    refine it_f (by decide) ?_
    refine ⟨_, _, rfl, rfl, okI_int.ok, okI_int.ok, _, rfl, ?_⟩
    refine it_t (by decide) (it_t rfl ?_)
    exact ⟨_, _, rfl, rfl, _, _, rfl, rfl, _, _, _, rfl, F.xf 17 (by decide), F.nf 17 (by decide), rfl, _, if_pos rfl, (show 2 ≤ sizeLine by decide), q⟩
  | 18, _, _ =>
    refine ⟨_, _, rfl, rfl, _, _, rfl, rfl, _, 16, rfl, rfl, _, rfl, exD K 18 t, rfl, .inl rfl, ?_⟩
    refine ⟨_, _, rfl, rfl, okI_int.ok, okI_int.ok, _, rfl, ?_⟩
    refine it_f (by decide) ?_
    refine ⟨_, _, rfl, rfl, okI_int.ok, okI_int.ok, _, rfl, ?_⟩
    refine it_f (by decide) ?_
    refine ⟨_, _, rfl, rfl, okI_int.ok, okI_int.ok, _, rfl, ?_⟩
    refine it_f (by decide) ?_
    refine ⟨_, _, rfl, rfl, okI_int.ok, okI_int.ok, _, rfl, ?_⟩
    refine it_f (by decide) ?_
    refine ⟨_, _, rfl, rfl, okI_int.ok, okI_int.ok, _, rfl, ?_⟩
    refine it_t (by decide) (it_t rfl ?_)
    exact ⟨_, _, rfl, rfl, _, _, rfl, rfl, _, _, _, rfl, F.xf 18 (by decide), F.nf 18 (by decide), rfl, _, if_pos rfl, (show 2 ≤ sizeLine by decide), q⟩
  | 19, _, _ =>
    refine ⟨_, _, rfl, rfl, _, _, rfl, rfl, _, 16, rfl, rfl, _, rfl, exD K 19 t, rfl, .inl rfl, ?_⟩
    refine ⟨_, _, rfl, rfl, okI_int.ok, okI_int.ok, _, rfl, ?_⟩
    refine it_f (by decide) ?_
    refine ⟨_, _, rfl, rfl, okI_int.ok, okI_int.ok, _, rfl, ?_⟩
    refine it_f (by decide) ?_
    refine ⟨_, _, rfl, rfl, okI_int.ok, okI_int.ok, _, rfl, ?_⟩
    refine it_f (by decide) ?_
    refine ⟨_, _, rfl, rfl, okI_int.ok, okI_int.ok, _, rfl, ?_⟩
    refine it_f (by decide) ?_
    refine ⟨_, _, rfl, rfl, okI_int.ok, okI_int.ok, _, rfl, ?_⟩
    refine it_f (by decide) ?_
    refine ⟨_, _, rfl, rfl, okI_int.ok, okI_int.ok, _, rfl, ?_⟩
    refine it_f (by decide) ?_
    refine ⟨_, _, rfl, rfl, okI_int.ok, okI_int.ok, _, rfl, ?_⟩
    refine it_f (by decide) ?_
    exact ⟨_, _, rfl, rfl, _, _, rfl, rfl, _, _, _, rfl, F.xf 19 (by decide), F.nf 19 (by decide), rfl, _, if_pos rfl, (show 2 ≤ sizeLine by decide), q⟩
  | 20, _, _ =>
    refine ⟨_, _, rfl, rfl, _, _, rfl, rfl, _, 16, rfl, rfl, _, rfl, exD K 20 t, rfl, .inl rfl, ?_⟩
    refine ⟨_, _, rfl, rfl, okI_int.ok, okI_int.ok, _, rfl, ?_⟩
    refine it_f (by decide) ?_
    refine ⟨_, _, rfl, rfl, okI_int.ok, okI_int.ok, _, rfl, ?_⟩
    refine it_f (by decide) ?_
    refine ⟨_, _, rfl, rfl, okI_int.ok, okI_int.ok, _, rfl, ?_⟩
    refine it_t (by decide) (it_t rfl ?_)
    exact ⟨_, _, rfl, rfl, _, _, rfl, rfl, _, _, _, rfl, F.xf 20 (by decide), F.nf 20 (by decide), rfl, _, if_pos rfl, (show 2 ≤ sizeLine by decide), q⟩
  | 21, _, _ =>
    refine ⟨_, _, rfl, rfl, _, _, rfl, rfl, _, 16, rfl, rfl, _, rfl, exD K 21 t, rfl, .inl rfl, ?_⟩
    refine ⟨_, _, rfl, rfl, okI_int.ok, okI_int.ok, _, rfl, ?_⟩
    refine it_f (by decide) ?_
    refine ⟨_, _, rfl, rfl, okI_int.ok, okI_int.ok, _, rfl, ?_⟩
    refine it_f (by decide) ?_
    refine ⟨_, _, rfl, rfl, okI_int.ok, okI_int.ok, _, rfl, ?_⟩
    refine it_f (by decide) ?_
    refine ⟨_, _, rfl, rfl, okI_int.ok, okI_int.ok, _, rfl, ?_⟩
    refine it_f (by decide) ?_
    refine ⟨_, _, rfl, rfl, okI_int.ok, okI_int.ok, _, rfl, ?_⟩
    refine it_f (by decide) ?_
    refine ⟨_, _, rfl, rfl, okI_int.ok, okI_int.ok, _, rfl, ?_⟩
    refine it_f (by decide) ?_
    refine ⟨_, _, rfl, rfl, okI_int.ok, okI_int.ok, _, rfl, ?_⟩
    refine it_f (by decide) ?_
    exact ⟨_, _, rfl, rfl, _, _, rfl, rfl, _, _, _, rfl, F.xf 21 (by decide), F.nf 21 (by decide), rfl, _, if_pos rfl, (show 2 ≤ sizeLine by decide), q⟩
  | 22, _, _ =>
    refine ⟨_, _, rfl, rfl, _, _, rfl, rfl, _, 16, rfl, rfl, _, rfl, exD K 22 t, rfl, .inl rfl, ?_⟩
    refine ⟨_, _, rfl, rfl, okI_int.ok, okI_int.ok, _, rfl, ?_⟩
    refine it_f (by decide) ?_
    refine ⟨_, _, rfl, rfl, okI_int.ok, okI_int.ok, _, rfl, ?_⟩
    refine it_f (by decide) ?_
    refine ⟨_, _, rfl, rfl, okI_int.ok, okI_int.ok, _, rfl, ?_⟩
    refine it_f (by decide) ?_
    refine ⟨_, _, rfl, rfl, okI_int.ok, okI_int.ok, _, rfl, ?_⟩
    refine it_f (by decide) ?_
    refine ⟨_, _, rfl, rfl, okI_int.ok, okI_int.ok, _, rfl, ?_⟩
    refine it_f (by decide) ?_
    refine ⟨_, _, rfl, rfl, okI_int.ok, okI_int.ok, _, rfl, ?_⟩
    refine it_f (by decide) ?_
    refine ⟨_, _, rfl, rfl, okI_int.ok, okI_int.ok, _, rfl, ?_⟩
    refine it_f (by decide) ?_
    exact ⟨_, _, rfl, rfl, _, _, rfl, rfl, _, _, _, rfl, F.xf 22 (by decide), F.nf 22 (by decide), rfl, _, if_pos rfl, (show 2 ≤ sizeLine by decide), q⟩
  | 23, _, _ =>
    refine ⟨_, _, rfl, rfl, _, _, rfl, rfl, _, 16, rfl, rfl, _, rfl, exD K 23 t, rfl, .inl rfl, ?_⟩
    refine ⟨_, _, rfl, rfl, okI_int.ok, okI_int.ok, _, rfl, ?_⟩
    refine it_f (by decide) ?_
    refine ⟨_, _, rfl, rfl, okI_int.ok, okI_int.ok, _, rfl, ?_⟩
    refine it_f (by decide) ?_
    refine ⟨_, _, rfl, rfl, okI_int.ok, okI_int.ok, _, rfl, ?_⟩
    refine it_f (by decide) ?_
    refine ⟨_, _, rfl, rfl, okI_int.ok, okI_int.ok, _, rfl, ?_⟩
    refine it_f (by decide) ?_
    refine ⟨_, _, rfl, rfl, okI_int.ok, okI_int.ok, _, rfl, ?_⟩
    refine it_f (by decide) ?_
    refine ⟨_, _, rfl, rfl, okI_int.ok, okI_int.ok, _, rfl, ?_⟩
    refine it_t (by decide) ?_
    exact ⟨_, _, rfl, rfl, _, _, rfl, rfl, _, _, _, rfl, F.xf 23 (by decide), F.nf 23 (by decide), rfl, _, if_pos rfl, (show 2 ≤ sizeLine by decide), q⟩
  | 24, _, _ =>
    refine ⟨_, _, rfl, rfl, _, _, rfl, rfl, _, 16, rfl, rfl, _, rfl, exD K 24 t, rfl, .inl rfl, ?_⟩
    refine ⟨_, _, rfl, rfl, okI_int.ok, okI_int.ok, _, rfl, ?_⟩
    refine it_f (by decide) ?_
    refine ⟨_, _, rfl, rfl, okI_int.ok, okI_int.ok, _, rfl, ?_⟩
    refine it_f (by decide) ?_
    refine ⟨_, _, rfl, rfl, okI_int.ok, okI_int.ok, _, rfl, ?_⟩
    refine it_f (by decide) ?_
    refine ⟨_, _, rfl, rfl, okI_int.ok, okI_int.ok, _, rfl, ?_⟩
    refine it_f (by decide) ?_
    refine ⟨_, _, rfl, rfl, okI_int.ok, okI_int.ok, _, rfl, ?_⟩
    refine it_f (by decide) ?_
    refine ⟨_, _, rfl, rfl, okI_int.ok, okI_int.ok, _, rfl, ?_⟩
    refine it_f (by decide) ?_
    refine ⟨_, _, rfl, rfl, okI_int.ok, okI_int.ok, _, rfl, ?_⟩
    refine it_t (by decide) ?_
    exact ⟨_, _, rfl, rfl, _, _, rfl, rfl, _, _, _, rfl, F.xf 24 (by decide), F.nf 24 (by decide), rfl, _, if_pos rfl, (show 2 ≤ sizeLine by decide), q⟩
  | 25, _, _ =>
    refine ⟨_, _, rfl, rfl, _, _, rfl, rfl, _, 16, rfl, rfl, _, rfl, exD K 25 t, rfl, .inl rfl, ?_⟩
    refine ⟨_, _, rfl, rfl, okI_int.ok, okI_int.ok, _, rfl, ?_⟩
    refine it_f (by decide) ?_
    refine ⟨_, _, rfl, rfl, okI_int.ok, okI_int.ok, _, rfl, ?_⟩
    refine it_f (by decide) ?_
    refine ⟨_, _, rfl, rfl, okI_int.ok, okI_int.ok, _, rfl, ?_⟩
    refine it_f (by decide) ?_
    refine ⟨_, _, rfl, rfl, okI_int.ok, okI_int.ok, _, rfl, ?_⟩
    refine it_t (by decide) ?_
    exact ⟨_, _, rfl, rfl, _, _, rfl, rfl, _, _, _, rfl, F.xf 25 (by decide), F.nf 25 (by decide), rfl, _, if_pos rfl, (show 2 ≤ sizeLine by decide), q⟩
  | 26, _, _ =>
    refine ⟨_, _, rfl, rfl, _, _, rfl, rfl, _, 16, rfl, rfl, _, rfl, exD K 26 t, rfl, .inl rfl, ?_⟩
    refine ⟨_, _, rfl, rfl, okI_int.ok, okI_int.ok, _, rfl, ?_⟩
    refine it_f (by decide) ?_
    refine ⟨_, _, rfl, rfl, okI_int.ok, okI_int.ok, _, rfl, ?_⟩
    refine it_f (by decide) ?_
    refine ⟨_, _, rfl, rfl, okI_int.ok, okI_int.ok, _, rfl, ?_⟩
    refine it_f (by decide) ?_
    refine ⟨_, _, rfl, rfl, okI_int.ok, okI_int.ok, _, rfl, ?_⟩
    refine it_f (by decide) ?_
    refine ⟨_, _, rfl, rfl, okI_int.ok, okI_int.ok, _, rfl, ?_⟩
    refine it_f (by decide) ?_
    refine ⟨_, _, rfl, rfl, okI_int.ok, okI_int.ok, _, rfl, ?_⟩
    refine it_f (by decide) ?_
    refine ⟨_, _, rfl, rfl, okI_int.ok, okI_int.ok, _, rfl, ?_⟩
    refine it_f (by decide) ?_
    exact ⟨_, _, rfl, rfl, _, _, rfl, rfl, _, _, _, rfl, F.xf 26 (by decide), F.nf 26 (by decide), rfl, _, if_pos rfl, (show 2 ≤ sizeLine by decide), q⟩
  | 27, _, _ =>
    refine ⟨_, _, rfl, rfl, _, _, rfl, rfl, _, 16, rfl, rfl, _, rfl, exD K 27 t, rfl, .inl rfl, ?_⟩
    refine ⟨_, _, rfl, rfl, okI_int.ok, okI_int.ok, _, rfl, ?_⟩
    refine it_f (by decide) ?_
    refine ⟨_, _, rfl, rfl, okI_int.ok, okI_int.ok, _, rfl, ?_⟩
    refine it_f (by decide) ?_
    refine ⟨_, _, rfl, rfl, okI_int.ok, okI_int.ok, _, rfl, ?_⟩
    refine it_f (by decide) ?_
    refine ⟨_, _, rfl, rfl, okI_int.ok, okI_int.ok, _, rfl, ?_⟩
    refine it_f (by decide) ?_
    refine ⟨_, _, rfl, rfl, okI_int.ok, okI_int.ok, _, rfl, ?_⟩
    refine it_f (by decide) ?_
    refine ⟨_, _, rfl, rfl, okI_int.ok, okI_int.ok, _, rfl, ?_⟩
    refine it_f (by decide) ?_
    refine ⟨_, _, rfl, rfl, okI_int.ok, okI_int.ok, _, rfl, ?_⟩
    refine it_f (by decide) ?_
    exact ⟨_, _, rfl, rfl, _, _, rfl, rfl, _, _, _, rfl, F.xf 27 (by decide), F.nf 27 (by decide), rfl, _, if_pos rfl, (show 2 ≤ sizeLine by decide), q⟩
  | 28, _, _ =>
    refine ⟨_, _, rfl, rfl, _, _, rfl, rfl, _, 16, rfl, rfl, _, rfl, exD K 28 t, rfl, .inl rfl, ?_⟩
    refine ⟨_, _, rfl, rfl, okI_int.ok, okI_int.ok, _, rfl, ?_⟩
    refine it_f (by decide) ?_
    refine ⟨_, _, rfl, rfl, okI_int.ok, okI_int.ok, _, rfl, ?_⟩
    refine it_f (by decide) ?_
    refine ⟨_, _, rfl, rfl, okI_int.ok, okI_int.ok, _, rfl, ?_⟩
    refine it_f (by decide) ?_
    refine ⟨_, _, rfl, rfl, okI_int.ok, okI_int.ok, _, rfl, ?_⟩
    refine it_f (by decide) ?_
    refine ⟨_, _, rfl, rfl, okI_int.ok, okI_int.ok, _, rfl, ?_⟩
    refine it_f (by decide) ?_
    refine ⟨_, _, rfl, rfl, okI_int.ok, okI_int.ok, _, rfl, ?_⟩
    refine it_f (by decide) ?_
    refine ⟨_, _, rfl, rfl, okI_int.ok, okI_int.ok, _, rfl, ?_⟩
    refine it_f (by decide) ?_
    exact ⟨_, _, rfl, rfl, _, _, rfl, rfl, _, _, _, rfl, F.xf 28 (by decide), F.nf 28 (by decide), rfl, _, if_pos rfl, (show 2 ≤ sizeLine by decide), q⟩
  | n + 29, _, h => exact absurd h (by omega)
  | 0, h, _ => exact absurd h (by decide)
  | 1, h, _ => exact absurd h (by decide)
  | 2, h, _ => exact absurd h (by decide)
  | 3, h, _ => exact absurd h (by decide)
  | 4, h, _ => exact absurd h (by decide)
  | 5, h, _ => exact absurd h (by decide)
  | 6, h, _ => exact absurd h (by decide)
  | 7, h, _ => exact absurd h (by decide)
  | 8, h, _ => exact absurd h (by decide)
  | 9, h, _ => exact absurd h (by decide)
  | 10, h, _ => exact absurd h (by decide)
  | 11, h, _ => exact absurd h (by decide)
  | 12, h, _ => exact absurd h (by decide)
  | 13, h, _ => exact absurd h (by decide)
  | 14, h, _ => exact absurd h (by decide)
  | 15, h, _ => exact absurd h (by decide)
theorem ct__law_third_made {K : PySem.W.Frag} (F : KF K) {ds : List D} {Qd : D → Prop} {Ed : Exc → Prop} (h : C__law_third_made K ds Qd Ed) : d__law_third_made K (fun _ x => Ed x) ⟨fun _ => Qd .non, Qd, fun _ => False, fun _ => False⟩ (startD N__law_third_made ds) := by
  obtain ⟨i, t, o, rfl, hlo, hi, q⟩ := h
  match i, hlo, hi with
  | 29, _, _ =>
    refine ⟨_, _, rfl, rfl, .inl ⟨_, _, rfl, rfl, _, rfl, ?_⟩⟩
    refine it_t (by decide) ?_
    refine ⟨_, _, rfl, rfl, okI_int.ok, okI_int.ok, _, rfl, ?_⟩
    refine it_t (by decide) ?_
    refine ⟨_, _, rfl, rfl, _, _, rfl, rfl, .inl rfl, ?_⟩
    exact ⟨_, _, rfl, rfl, _, _, rfl, rfl, _, _, _, rfl, F.xf 29 (by decide), (F.nf2 29 (by decide)).1, rfl, _, rfl, _, _, rfl, rfl, _, _, _, rfl, F.xf 29 (by decide), (F.nf2 29 (by decide)).2, rfl, _, rfl, (show 3 ≤ sizeLine by decide), q⟩
  | 30, _, _ =>
    refine ⟨_, _, rfl, rfl, .inl ⟨_, _, rfl, rfl, _, rfl, ?_⟩⟩
    refine it_t (by decide) ?_
    refine ⟨_, _, rfl, rfl, okI_int.ok, okI_int.ok, _, rfl, ?_⟩
    refine it_f (by decide) ?_
    refine ⟨_, _, rfl, rfl, _, _, rfl, rfl, .inl rfl, ?_⟩
    exact ⟨_, _, rfl, rfl, _, _, rfl, rfl, _, _, _, rfl, F.xf 30 (by decide), (F.nf2 30 (by decide)).1, rfl, _, rfl, _, _, rfl, rfl, _, _, _, rfl, F.xf 30 (by decide), (F.nf2 30 (by decide)).2, rfl, _, rfl, (show 3 ≤ sizeLine by decide), q⟩
  | 31, _, _ =>
    refine ⟨_, _, rfl, rfl, .inl ⟨_, _, rfl, rfl, _, rfl, ?_⟩⟩
    refine it_f (by decide) ?_
    refine ⟨(show 9 ≤ sizeLine by decide), .inl rfl, ?_⟩
    refine ⟨_, _, rfl, rfl, (show 2 ≤ sizeLine by decide), (show 11 ≤ sizeLine by decide), .inl rfl, ?_⟩
    exact ⟨_, _, rfl, rfl, _, _, rfl, rfl, _, 31, rfl, rfl, _, rfl, .obj (.exn (ga K (nm 31))) [] [], rfl, (show 1 ≤ sizeLine by decide), q⟩
  | 32, _, _ =>
    refine ⟨_, _, rfl, rfl, .inl ⟨_, _, rfl, rfl, _, rfl, ?_⟩⟩
    refine it_f (by decide) ?_
    refine ⟨(show 9 ≤ sizeLine by decide), .inl rfl, ?_⟩
    refine ⟨_, _, rfl, rfl, (show 2 ≤ sizeLine by decide), (show 11 ≤ sizeLine by decide), .inl rfl, ?_⟩
    exact ⟨_, _, rfl, rfl, _, _, rfl, rfl, _, 31, rfl, rfl, _, rfl, .obj (.exn (ga K (nm 32))) [] [], rfl, (show 1 ≤ sizeLine by decide), q⟩
  | 33, _, _ =>
    refine ⟨_, _, rfl, rfl, .inl ⟨_, _, rfl, rfl, _, rfl, ?_⟩⟩
    refine it_f (by decide) ?_
    refine ⟨(show 9 ≤ sizeLine by decide), .inl rfl, ?_⟩
    refine ⟨_, _, rfl, rfl, (show 2 ≤ sizeLine by decide), (show 11 ≤ sizeLine by decide), .inl rfl, ?_⟩
    exact ⟨_, _, rfl, rfl, _, _, rfl, rfl, _, 31, rfl, rfl, _, rfl, .obj (.exn (ga K (nm 33))) [] [], rfl, (show 1 ≤ sizeLine by decide), q⟩
  | 34, _, _ =>
    refine ⟨_, _, rfl, rfl, .inl ⟨_, _, rfl, rfl, _, rfl, ?_⟩⟩
    refine it_f (by decide) ?_
    refine ⟨(show 9 ≤ sizeLine by decide), .inl rfl, ?_⟩
    refine ⟨_, _, rfl, rfl, (show 2 ≤ sizeLine by decide), (show 11 ≤ sizeLine by decide), .inl rfl, ?_⟩
    exact ⟨_, _, rfl, rfl, _, _, rfl, rfl, _, 31, rfl, rfl, _, rfl, .obj (.exn (ga K (nm 34))) [] [], rfl, (show 1 ≤ sizeLine by decide), q⟩
  | 35, _, _ =>
    refine ⟨_, _, rfl, rfl, .inl ⟨_, _, rfl, rfl, _, rfl, ?_⟩⟩
    refine it_f (by decide) ?_
    refine ⟨(show 9 ≤ sizeLine by decide), .inl rfl, ?_⟩
    refine ⟨_, _, rfl, rfl, (show 2 ≤ sizeLine by decide), (show 11 ≤ sizeLine by decide), .inl rfl, ?_⟩
    exact ⟨_, _, rfl, rfl, _, _, rfl, rfl, _, 31, rfl, rfl, _, rfl, .obj (.exn (ga K (nm 35))) [] [], rfl, (show 1 ≤ sizeLine by decide), q⟩
  | 36, _, _ =>
    refine ⟨_, _, rfl, rfl, .inl ⟨_, _, rfl, rfl, _, rfl, ?_⟩⟩
    refine it_f (by decide) ?_
    refine ⟨(show 9 ≤ sizeLine by decide), .inl rfl, ?_⟩
    refine ⟨_, _, rfl, rfl, (show 2 ≤ sizeLine by decide), (show 11 ≤ sizeLine by decide), .inl rfl, ?_⟩
    exact ⟨_, _, rfl, rfl, _, _, rfl, rfl, _, 31, rfl, rfl, _, rfl, .obj (.exn (ga K (nm 36))) [] [], rfl, (show 1 ≤ sizeLine by decide), q⟩
  | 37, _, _ =>
    refine ⟨_, _, rfl, rfl, .inl ⟨_, _, rfl, rfl, _, rfl, ?_⟩⟩
    refine it_f (by decide) ?_
    refine ⟨(show 9 ≤ sizeLine by decide), .inl rfl, ?_⟩
    refine ⟨_, _, rfl, rfl, (show 2 ≤ sizeLine by decide), (show 11 ≤ sizeLine by decide), .inl rfl, ?_⟩
    exact ⟨_, _, rfl, rfl, _, _, rfl, rfl, _, 31, rfl, rfl, _, rfl, .obj (.exn (ga K (nm 37))) [] [], rfl, (show 1 ≤ sizeLine by decide), q⟩
  | 38, _, _ =>
    refine ⟨_, _, rfl, rfl, .inl ⟨_, _, rfl, rfl, _, rfl, ?_⟩⟩
    refine it_f (by decide) ?_
    refine ⟨(show 9 ≤ sizeLine by decide), .inl rfl, ?_⟩
    refine ⟨_, _, rfl, rfl, (show 2 ≤ sizeLine by decide), (show 11 ≤ sizeLine by decide), .inl rfl, ?_⟩
    exact ⟨_, _, rfl, rfl, _, _, rfl, rfl, _, 31, rfl, rfl, _, rfl, .obj (.exn (ga K (nm 38))) [] [], rfl, (show 1 ≤ sizeLine by decide), q⟩
  | 39, _, _ =>
    refine ⟨_, _, rfl, rfl, .inl ⟨_, _, rfl, rfl, _, rfl, ?_⟩⟩
    refine it_f (by decide) ?_
    refine ⟨(show 9 ≤ sizeLine by decide), .inl rfl, ?_⟩
    refine ⟨_, _, rfl, rfl, (show 2 ≤ sizeLine by decide), (show 11 ≤ sizeLine by decide), .inl rfl, ?_⟩
    exact ⟨_, _, rfl, rfl, _, _, rfl, rfl, _, 31, rfl, rfl, _, rfl, .obj (.exn (ga K (nm 39))) [] [], rfl, (show 1 ≤ sizeLine by decide), q⟩
  | 40, _, _ =>
    refine ⟨_, _, rfl, rfl, .inl ⟨_, _, rfl, rfl, _, rfl, ?_⟩⟩
    refine it_f (by decide) ?_
    refine ⟨(show 9 ≤ sizeLine by decide), .inl rfl, ?_⟩
    refine ⟨_, _, rfl, rfl, (show 2 ≤ sizeLine by decide), (show 11 ≤ sizeLine by decide), .inl rfl, ?_⟩
    exact ⟨_, _, rfl, rfl, _, _, rfl, rfl, _, 31, rfl, rfl, _, rfl, .obj (.exn (ga K (nm 40))) [] [], rfl, (show 1 ≤ sizeLine by decide), q⟩
  | 41, _, _ =>
    refine ⟨_, _, rfl, rfl, .inl ⟨_, _, rfl, rfl, _, rfl, ?_⟩⟩
    refine it_f (by decide) ?_
    refine ⟨(show 9 ≤ sizeLine by decide), .inl rfl, ?_⟩
    refine ⟨_, _, rfl, rfl, (show 2 ≤ sizeLine by decide), (show 11 ≤ sizeLine by decide), .inl rfl, ?_⟩
    exact ⟨_, _, rfl, rfl, _, _, rfl, rfl, _, 31, rfl, rfl, _, rfl, .obj (.exn (ga K (nm 41))) [] [], rfl, (show 1 ≤ sizeLine by decide), q⟩
  | n + 42, _, h => exact absurd h (by omega)
  | 0, h, _ => exact absurd h (by decide)
  | 1, h, _ => exact absurd h (by decide)
  | 2, h, _ => exact absurd h (by decide)
  | 3, h, _ => exact absurd h (by decide)
  | 4, h, _ => exact absurd h (by decide)
  | 5, h, _ => exact absurd h (by decide)
  | 6, h, _ => exact absurd h (by decide)
  | 7, h, _ => exact absurd h (by decide)
  | 8, h, _ => exact absurd h (by decide)
  | 9, h, _ => exact absurd h (by decide)
  | 10, h, _ => exact absurd h (by decide)
  | 11, h, _ => exact absurd h (by decide)
  | 12, h, _ => exact absurd h (by decide)
  | 13, h, _ => exact absurd h (by decide)
  | 14, h, _ => exact absurd h (by decide)
  | 15, h, _ => exact absurd h (by decide)
  | 16, h, _ => exact absurd h (by decide)
  | 17, h, _ => exact absurd h (by decide)
  | 18, h, _ => exact absurd h (by decide)
  | 19, h, _ => exact absurd h (by decide)
  | 20, h, _ => exact absurd h (by decide)
  | 21, h, _ => exact absurd h (by decide)
  | 22, h, _ => exact absurd h (by decide)
  | 23, h, _ => exact absurd h (by decide)
  | 24, h, _ => exact absurd h (by decide)
  | 25, h, _ => exact absurd h (by decide)
  | 26, h, _ => exact absurd h (by decide)
  | 27, h, _ => exact absurd h (by decide)
  | 28, h, _ => exact absurd h (by decide)
theorem ct__law_single {K : PySem.W.Frag} (F : KF K) {ds : List D} {Qd : D → Prop} {Ed : Exc → Prop} (h : C__law_single K ds Qd Ed) : d__law_single K (fun _ x => Ed x) ⟨fun _ => Qd .non, Qd, fun _ => False, fun _ => False⟩ (startD N__law_single ds) := by
  obtain ⟨z, i, rfl, ⟨hi, hz⟩, q⟩ := h
  refine ⟨_, _, rfl, rfl, _, _, _, _, _, rfl, hz, rfl, F.exc i hi, F.kitD hi, _, rfl, it_f rfl ?_⟩
  refine ⟨_, _, rfl, rfl, _, _, _, _, _, rfl, hz, rfl, F.exc i hi, F.kitV hi, _, rfl, it_f rfl ?_⟩
  refine ⟨_, _, rfl, rfl, z, i, rfl, ⟨hi, hz⟩, ?_⟩
  refine ⟨_, _, rfl, rfl, z, i, rfl, ⟨hi, hz⟩, ?_⟩
  have e : (if i < 21 then [D.int i] else []) ++ (if i < 21 then [] else [D.int i]) = [D.int i] := by
    by_cases h : i < 21
    · rw [if_pos h, if_pos h]; rfl
    · rw [if_neg h, if_neg h]; rfl
  have l : (if i < 21 then [D.int i] else []).length + (if i < 21 then [] else [D.int i]).length ≤ sizeLine := by
    rw [← List.length_append, e]
    exact (show 1 ≤ sizeLine by decide)
  refine ⟨l, ?_⟩
  rw [e]
  have ok : okD (D.lst [.int i]) := okD_lst fun x m => by
    rw [List.mem_singleton.mp m]; exact okI_int
  refine ⟨_, _, rfl, rfl, (show 1 ≤ sizeLine by decide), ok, ok, ?_⟩
  rw [eqD_refl ok.1]
  exact q
end K70

namespace K70
open PySem PySem.Spec PyProof.Rows L2 Dl He
structure Sh (d : D) : Prop where
  nice : d.nice = true
  dep : d.dep ≤ 1
  show_ : d.py.showable = true
  few : d.py.shown.length ≤ 1000
theorem txt_len (s : String) : (Str.ofString s).length = s.length := PySem.ofString_length s
theorem int_sh {a : Int} (h : a.natAbs < 10 ^ 40) : Sh (.int a) := by
  refine ⟨rfl, Nat.zero_le _, ?_, ?_⟩
  · simp only [D.py, PyData.showable]
    refine decide_eq_true ?_
    by_cases e : a.natAbs = 0
    · rw [e]; decide
    · have h2 : a.natAbs < 2 ^ 1920 := Nat.lt_of_lt_of_le h (by decide)
      exact (Nat.log2_lt e).mpr h2
  · have := int_text_length_le10 (k := 40) (by decide) h
    simp only [D.py, PyData.shown]
    rw [txt_len]
    omega
theorem codes_lt (s : String) : ∀ c ∈ (Str.ofString s).cps.toList, c < 16 ^ 8 := by
  rw [Str.ofString_eq_toList]
  intro c hc
  obtain ⟨ch, _, rfl⟩ := List.mem_map.mp (by simpa using hc)
  exact Nat.lt_of_lt_of_le ch.val.toNat_lt (by decide)
theorem app_codes {a b : Str} (ha : ∀ c ∈ a.cps.toList, c < 16 ^ 8) (hb : ∀ c ∈ b.cps.toList, c < 16 ^ 8) : ∀ c ∈ (a ++ b).cps.toList, c < 16 ^ 8 := by
  intro c hc
  have e : (a ++ b).cps.toList = a.cps.toList ++ b.cps.toList := by
    show (a.cps ++ b.cps).toList = _
    simp
  rw [e] at hc
  rcases List.mem_append.mp hc with h | h
  · exact ha c h
  · exact hb c h
theorem app_len (a b : Str) : (a ++ b).length = a.length + b.length := strLen_append a b
theorem str_sh {x : Str} (hc : ∀ c ∈ x.cps.toList, c < 16 ^ 8) (hl : x.length ≤ 90) : Sh (.str x) := by
  refine ⟨rfl, Nat.zero_le _, rfl, ?_⟩
  have := StrLaws.reprText_len x hc
  simp only [D.py, PyData.shown]
  omega
theorem sh_list : ∀ {ys : List D}, (∀ y ∈ ys, Sh y) → niceA ys = true ∧ depA ys ≤ 1 ∧ PyData.showableAll (pyA ys) = true ∧ ((PyData.shownAll (pyA ys)).map (·.length)).sum ≤ 1000 * ys.length ∧ (PyData.shownAll (pyA ys)).length = ys.length
  | [], _ => ⟨rfl, Nat.zero_le _, rfl, Nat.le_refl _, rfl⟩
  | y :: ys, h => by
    obtain ⟨a, b, c, d, e⟩ := sh_list (ys := ys) fun z m => h z (List.mem_cons_of_mem _ m)
    have k := h y List.mem_cons_self
    refine ⟨?_, ?_, ?_, ?_, ?_⟩
    · simp only [niceA, k.nice, a, Bool.and_self]
    · simp only [depA]; exact Nat.max_le.mpr ⟨k.dep, b⟩
    · simp only [pyA, PyData.showableAll, k.show_, c, Bool.and_self]
    · simp only [pyA, PyData.shownAll, List.map_cons, List.sum_cons, List.length_cons]
      have := k.few
      omega
    · simp only [pyA, PyData.shownAll, List.length_cons, e]
theorem tup_sh {ys : List D} (h : ∀ y ∈ ys, y = .str "a" ∨ ∃ i : Int, y = .int i ∧ 0 ≤ i ∧ i < 9) (hl : ys.length ≤ 2) : Sh (.tup ys) := by
  have each : ∀ y ∈ ys, Sh y := fun y m => by
    rcases h y m with rfl | ⟨i, rfl, h0, h1⟩
    · exact str_sh (codes_lt _) (by decide)
    · exact int_sh (by omega)
  have small : ∀ y ∈ ys, y.dep = 0 ∧ y.py.shown.length ≤ 50 := fun y m => by
    rcases h y m with rfl | ⟨i, rfl, h0, h1⟩
    · refine ⟨rfl, ?_⟩
      have := StrLaws.reprText_len (Str.ofString "a") (codes_lt _)
      have l : (Str.ofString "a").length = 1 := by decide
      simp only [D.py, PyData.shown]
      omega
    · refine ⟨rfl, ?_⟩
      have := int_text_length_le10 (a := i) (k := 9) (by decide) (by omega)
      simp only [D.py, PyData.shown]
      rw [txt_len]
      omega
  have lens : ∀ {zs : List D}, (∀ y ∈ zs, y.dep = 0 ∧ y.py.shown.length ≤ 50) → depA zs = 0 ∧ ((PyData.shownAll (pyA zs)).map (·.length)).sum ≤ 50 * zs.length := by
    intro zs
    induction zs with
    | nil => intro _; exact ⟨rfl, Nat.le_refl _⟩
    | cons z zs ih =>
      intro hz
      obtain ⟨a, b⟩ := ih fun y m => hz y (List.mem_cons_of_mem _ m)
      obtain ⟨c, d⟩ := hz z List.mem_cons_self
      refine ⟨by simp only [depA, a, c, Nat.max_self], ?_⟩
      simp only [pyA, PyData.shownAll, List.map_cons, List.sum_cons, List.length_cons]
      omega
  obtain ⟨a, b, c, d, e⟩ := sh_list each
  obtain ⟨p, q⟩ := lens small
  refine ⟨by simpa only [D.nice] using a, by simp only [D.dep, p]; omega, by simpa only [D.py, PyData.showable] using c, ?_⟩
  have := tupleText_len_le (PyData.shownAll (pyA ys))
  simp only [D.py, PyData.shown]
  omega
theorem rep {ys : List D} {Q : D → Prop} (h : ∀ y ∈ ys, Sh y) (hl : ys.length ≤ 2) (q : Q (.str (D.lst ys).py.shown)) : bRepr [.lst ys] Q := by
  obtain ⟨a, b, c, d, e⟩ := sh_list h
  refine ⟨ys, rfl, by simpa only [D.nice] using a, by simp only [D.dep]; omega, by simpa only [D.py, PyData.showable] using c, ?_, q⟩
  have := listText_len_le (PyData.shownAll (pyA ys))
  simp only [D.py, PyData.shown]
  have z : (10000 : Nat) ≤ sizeLine := by decide
  omega
theorem cut1 (z : D) (ys : List D) : cutL (z :: ys) (some 1) none = ys := by
  unfold cutL
  rw [HT.sIx_none, show (1 : Int) = ((1 : Nat) : Int) from rfl, HT.sIx_nat]
  simp
def sl : Option D → Slot
  | none => .no
  | some d => .val d
theorem noOwn_sl (a : Option D) (r : DEnv) : noOwn (sl a :: r) = noOwn r := by cases a <;> rfl
def duel (k : Nat) (t o : D) : List D := if k < 29 then [t] else if k < 31 then [t, o] else []
theorem ct_law {K : PySem.W.Frag} {hd : Addr} {ds : List D} : d_law K hd (fun _ _ => False) ⟨fun _ => False, fun d => d = .bl true, fun _ => False, fun _ => False⟩ (.val (scrD ds) :: .val (.ref hd) :: List.replicate 6 .no) := by
  refine ⟨_, _, rfl, rfl, 10, 30, rfl, rfl, (by unfold CPow; decide), _, rfl, by decide, by decide, fun r r0 r1 => ?_⟩
  refine ⟨10, 29, rfl, rfl, (by unfold CPow; decide), r, _, rfl, rfl, ?_⟩
  refine ⟨_, _, rfl, rfl, 10, 9, rfl, rfl, (by unfold CPow; decide), _, rfl, by decide, by decide, fun n n0 n1 => ?_⟩
  have n1' : n < 1000000000 := Int.lt_of_lt_of_le n1 (by decide)
  have nl : (toString n).length ≤ 11 := int_text_length_le10 (k := 10) (by decide) (by omega)
  refine ⟨n, rfl, ?_, ?_, ?_⟩
  · by_cases e : n.natAbs = 0
    · rw [e]; decide
    · have h2 : n.natAbs < 2 ^ 1920 := Nat.lt_of_lt_of_le (show n.natAbs < 1000000000 by omega) (by decide)
      exact (Nat.log2_lt e).mpr h2
  · have e1 : ("w" : String).length = 1 := by decide
    have z : (1000 : Nat) ≤ sizeLine := by decide
    rw [txt_len, txt_len]
    omega
  have sw : Sh (.str (Str.ofString "w" ++ Str.ofString (toString n))) := by
    refine str_sh (app_codes (codes_lt _) (codes_lt _)) ?_
    have : (Str.ofString "w").length = 1 := by decide
    rw [app_len, txt_len (toString n)]
    omega
  have sr : Sh (.int (r - (10 : Int) ^ (29 : Int).toNat)) := int_sh (by
    have e1 : (10 : Int) ^ (30 : Int).toNat = 1000000000000000000000000000000 := by decide
    have e2 : (10 : Int) ^ (29 : Int).toNat = 100000000000000000000000000000 := by decide
    rw [e1] at r1
    rw [e2]
    have e3 : (10 : Nat) ^ 40 = 10000000000000000000000000000000000000000 := by decide
    rw [e3]
    omega)
  refine ⟨(show 3 ≤ sizeLine by decide), .inl rfl, ?_⟩
  refine ⟨_, _, rfl, rfl, _, _, rfl, rfl, _, rfl, by decide, by decide, fun m m0 m1 => ?_⟩
  refine ⟨(show 2 ≤ sizeLine by decide), 1, rfl, (show 3 ≤ sizeLine by decide), (show 6 ≤ sizeLine by decide), .inl rfl, ?_⟩
  have st : Sh (.tup [.int m, .str "a"]) := tup_sh (fun y h => by
    simp only [List.mem_cons, List.not_mem_nil, or_false] at h
    rcases h with rfl | rfl
    · exact .inr ⟨m, rfl, m0, m1⟩
    · exact .inl rfl) (Nat.le_refl 2)
  generalize hth : ([.int (r - (10 : Int) ^ (29 : Int).toNat), .str (Str.ofString "w" ++ Str.ofString (toString n)), .non] ++ [.tup [.int m, .str "a"], .int (-1), .bl true] : List D) = things
  have shT : ∀ y ∈ things, Sh y := fun y h => by
    rw [← hth] at h
    simp only [List.mem_append, List.mem_cons, List.not_mem_nil, or_false] at h
    rcases h with (rfl | rfl | rfl) | rfl | rfl | rfl
    · exact sr
    · exact sw
    · exact ⟨rfl, Nat.zero_le _, rfl, by decide⟩
    · exact st
    · exact int_sh (by decide)
    · exact ⟨rfl, Nat.zero_le _, rfl, by decide⟩
  have lenT : things.length = 6 := by rw [← hth]; rfl
  dsimp only
  refine seqD (P := fun env => ∃ a b c d e : Option D, env = [.val (scrD ds), .val (.ref hd), .val (.lst things), sl a, sl b, sl c, sl d, sl e]) ?_ ?_
  · rintro env ⟨a, b, c, d, e, rfl⟩
    exact rfl
  · intro hk
    refine ⟨42, rfl, ⟨by decide, by decide⟩, ?_⟩
    refine rng_from (fun env => ∃ a b c d e : Option D, env = [.val (scrD ds), .val (.ref hd), .val (.lst things), sl a, sl b, sl c, sl d, sl e]) (fun k env nx hi hp kk => ?_) (fun env hp => hk env hp) _ ⟨none, none, none, none, none, by rw [← hth]; rfl⟩
    obtain ⟨a, b, c, d, e, rfl⟩ := hp
    rw [Int.zero_add]
    have hi : k < 42 := hi
    refine ⟨_, _, rfl, rfl, _, _, rfl, rfl, _, rfl, by decide, by decide, fun j j0 j1 => ?_⟩
    obtain ⟨t, ht, mt⟩ := atI_ok (xs := things) j0 (by rw [lenT]; exact j1)
    refine ⟨_, rfl, t, ht, .inl (by simp [noOwn, noOwn_sl]), ?_⟩
    refine ⟨_, _, rfl, rfl, _, _, rfl, rfl, _, rfl, by decide, by decide, fun j j0 j1 => ?_⟩
    obtain ⟨o, ho, mo⟩ := atI_ok (xs := things) j0 (by rw [lenT]; exact j1)
    refine ⟨_, rfl, o, ho, .inl (by simp [noOwn, noOwn_sl]), ?_⟩
    have s1 := shT t mt
    have s2 := shT o mo
    dsimp only
    refine seqD (P := fun env => ∃ z, isE K z k ∧ env = [.val (scrD ds), .val (.ref hd), .val (.lst things), .val (.int (k : Int)), .val t, .val o, sl d, .val (.lst (z :: duel k t o))]) ?_ ?_
    · rintro env ⟨z, hz, rfl⟩
      refine seqD (P := fun env => env = [.val (scrD ds), .val (.ref hd), .val (.lst things), .val (.int (k : Int)), .val t, .val o, .val (.lst (duel k t o)), .val (.lst (z :: duel k t o))]) ?_ ?_
      · rintro env rfl
        have shD : ∀ y ∈ duel k t o, Sh y := fun y h => by
          unfold duel at h
          split at h
          · rw [List.mem_singleton.mp h]; exact s1
          · split at h
            · simp only [List.mem_cons, List.not_mem_nil, or_false] at h
              rcases h with rfl | rfl
              · exact s1
              · exact s2
            · cases h
        have lenD : (duel k t o).length ≤ 2 := by
          unfold duel
          split
          · exact (show 1 ≤ 2 by decide)
          · split
            · exact Nat.le_refl 2
            · exact Nat.zero_le _
        refine ⟨_, _, rfl, rfl, 1, rfl, ?_⟩
        dsimp only [dNoP, dNil]
        refine sl_lst ?_
        rw [cut1]
        refine rep shD lenD ?_
        refine ⟨_, _, rfl, rfl, ?_⟩
        dsimp only [dNil]
        refine rep shD lenD ?_
        refine ⟨_, _, rfl, rfl, _, rfl, ?_⟩
        refine it_f (by simp) ?_
        have hz0 : atI (z :: duel k t o) 0 = some z := atI_nat (k := 0) (by simp)
        refine ⟨_, _, rfl, rfl, 0, rfl, z, hz0, _, _, rfl, rfl, z, k, rfl, hz, _, rfl, ?_⟩
        exact it_f rfl (kk _ ⟨some _, some _, some _, some _, some _, rfl⟩)
      · intro hk2
        refine ⟨_, _, rfl, rfl, .inl ⟨_, _, rfl, rfl, _, rfl, ?_⟩⟩
        by_cases h29 : k < 29
        · refine it_t (decide_eq_true (by omega)) ⟨_, _, rfl, rfl, (show 1 ≤ sizeLine by decide), .inl (by simp [noOwn, noOwn_sl]), hk2 _ ?_⟩
          unfold duel
          rw [if_pos h29]
          rfl
        · refine it_f (decide_eq_false (by omega)) ?_
          refine ⟨_, _, rfl, rfl, .inl ⟨_, _, rfl, rfl, _, rfl, ?_⟩⟩
          by_cases h31 : k < 31
          · refine it_t (decide_eq_true (by omega)) ⟨_, _, rfl, rfl, _, _, rfl, rfl, (show 2 ≤ sizeLine by decide), .inl (by simp [noOwn, noOwn_sl]), hk2 _ ?_⟩
            unfold duel
            rw [if_neg h29, if_pos h31]
            rfl
          · refine it_f (decide_eq_false (by omega)) ⟨(show 0 ≤ sizeLine by decide), .inl (by simp [noOwn, noOwn_sl]), hk2 _ ?_⟩
            unfold duel
            rw [if_neg h29, if_neg h31]
            rfl
    · intro hk2
      refine ⟨_, _, rfl, rfl, .inl ⟨_, _, rfl, rfl, _, rfl, ?_⟩⟩
      by_cases h16 : k < 16
      · refine it_t (decide_eq_true (by omega)) ⟨_, _, rfl, rfl, _, _, rfl, rfl, k, t, rfl, h16, .inl (by simp [noOwn, noOwn_sl]), hk2 _ ⟨exD K k t, ⟨hi, rfl⟩, ?_⟩⟩
        unfold duel
        rw [if_pos (by omega)]
        rfl
      · refine it_f (decide_eq_false (by omega)) ?_
        refine ⟨_, _, rfl, rfl, .inl ⟨_, _, rfl, rfl, _, rfl, ?_⟩⟩
        by_cases h29 : k < 29
        · refine it_t (decide_eq_true (by omega)) ⟨_, _, rfl, rfl, _, _, rfl, rfl, k, t, rfl, by omega, h29, .inl (by simp [noOwn, noOwn_sl]), hk2 _ ⟨exD K k t, ⟨hi, rfl⟩, ?_⟩⟩
          unfold duel
          rw [if_pos h29]
          rfl
        · refine it_f (decide_eq_false (by omega)) ⟨_, _, rfl, rfl, _, _, rfl, rfl, _, _, rfl, rfl, k, t, o, rfl, by omega, hi, .inl (by simp [noOwn, noOwn_sl]), ?_⟩
          by_cases h31 : k < 31
          · rw [if_pos h31]
            refine hk2 _ ⟨.obj (.exv (ga K (nm k))) ["what", "index"] [o, t], ⟨hi, rfl⟩, ?_⟩
            unfold duel
            rw [if_neg h29, if_pos h31]
            rfl
          · rw [if_neg h31]
            refine hk2 _ ⟨.obj (.exn (ga K (nm k))) [] [], ⟨hi, rfl⟩, ?_⟩
            unfold duel
            rw [if_neg h29, if_neg h31]
            rfl
end K70

namespace K70
open PySem PySem.Spec PyProof.Rows L2 Dl He
abbrev s__law_take : Stmt := top 47
abbrev N__law_take : List Str := ["_law_hand_here", "_law_many", "_law_cell", "_law_rest"]
theorem sc__law_take : FnScope N__law_take ["_law_hand_here", "_law_many"] (defScope s__law_take) := ⟨rfl, rfl, rfl, by decide +kernel, rfl, by decide +kernel, by decide +kernel⟩
theorem fn__law_take {P : Program} {w : World} {K : PySem.W.Frag} {mg : Str → Option Value} {base : Heap} {fa hd c : Addr} {fd : FuncData} (hne : hd ≠ c) (F : FunD K "_law_take" "_law_take" (defArgs s__law_take) (defBody s__law_take) (defScope s__law_take) [] [] fa fd) (T : Tf K mg)
    (c__law_mixed : Cl P w K mg base (handI hd c) 2 "_law_mixed" 2 (C__law_mixed K) []) : FnOk P w K mg base (L2.CX P w) 3 fa fd ["_law_hand_here", "_law_many"] (spOf K (handI hd c) 2 (C__law_take hd)) := by
  obtain ⟨fm, fdm, psm, dsm, dvsm, F__law_mixed, g__law_mixed, k__law_mixed, b__law_mixed, vm, dm⟩ := c__law_mixed
  have e1 : dvsm = [] := (dm (fun _ => none)).nil
  subst e1
  cases vm
  refine F.ok sc__law_take (fun vs H Q E ⟨ds, Qd, Ed, hl, dn, _⟩ => by rw [dn.len, hl]; rfl) (fun cdv A outer s H vs Q E hr h => ?_)
  have nd := sc__law_take.nd
  refine ⟨_, pss_cons (ps_if (PW.pt (pw_and (pt_cmpR op_eq (pe_ix ix_list (pv 0) (pe_int) (by intro _ _; rfl)) (pe_int) (nomark _)) (pw_and1 (pt_cmpR op_lt (pe_ix ix_list (pv 0) (pe_int) (by intro _ _; rfl)) (pe_callB call_len rfl T.n_len PySem.boot_len (pa_cons (pe_ix ix_list (pv 0) (pe_int) (by intro _ _; rfl)) (pa_nil))) (nomark _))))) (pss_cons (ps_set (i := 2) nd rfl (Or.inl rfl) (pe_ix ix_list (pe_ix ix_list (pv 0) (pe_int) (by intro _ _; rfl)) (pe_ix ix_list (pv 0) (pe_int) (by intro _ _; rfl)) (by intro _ _; rfl))) (pss_cons (ps_asg (pe_op op_add (pe_ix ix_list (pv 0) (pe_int) (by intro _ _; rfl)) (pe_int)) (pg_sub (pv 0) (pe_int) set_list)) (pss_cons (ps_if (pt_cmpR op_lt (pv 2) (pe_op op_pow (pe_int) (pe_int)) (nomark _)) (pss_one (ps_ret (pe_op op_mod (pe_callTy call_int1 rfl T.n_int boot_int (pa_cons (pe_call F__law_mixed (hr.mono (by decide)) rfl g__law_mixed k__law_mixed b__law_mixed .nil passL (pa_cons (pe_op op_mod (pe_callTy call_int1 rfl T.n_int boot_int (pa_cons (pv 2) (pa_nil))) (pe_int)) (pa_cons (pe_ix ix_list (pv 0) (pe_int) (by intro _ _; rfl)) (pa_nil)))) (pa_nil))) (pv 1)))) (pss_nil)) (pss_one (ps_asg (pv 2) (pg_sub (pv 0) (pe_int) set_list)))))) (pss_nil)) (pss_cons (ps_if (pt_cmpR op_gt (pe_ix ix_list (pv 0) (pe_int) (by intro _ _; rfl)) (pe_int) (nomark _)) (pss_cons (ps_set (i := 3) nd rfl (Or.inl rfl) (pe_ix ix_list (pv 0) (pe_int) (by intro _ _; rfl))) (pss_cons (ps_asg (pe_op op_fdivW (pe_callTy call_int1 rfl T.n_int boot_int (pa_cons (pv 3) (pa_nil))) (pv 1)) (pg_sub (pv 0) (pe_int) set_list)) (pss_one (ps_ret (pe_op op_mod (pe_callTy call_int1 rfl T.n_int boot_int (pa_cons (pv 3) (pa_nil))) (pv 1)))))) (pss_nil)) (pss_cons (ps_asg (pe_op op_mod (pe_callTy call_int1 rfl T.n_int boot_int (pa_cons (pe_op op_add (pe_ix ix_list (pv 0) (pe_int) (by intro _ _; rfl)) (pe_int)) (pa_nil))) (pe_int)) (pg_sub (pv 0) (pe_int) set_list)) (pss_one (ps_ret (pe_op op_mod (pe_callTy call_int1 rfl T.n_int boot_int (pa_cons (pe_call F__law_mixed (hr.mono (by decide)) rfl g__law_mixed k__law_mixed b__law_mixed .nil passL (pa_cons (pe_ix ix_list (pv 0) (pe_int) (by intro _ _; rfl)) (pa_cons (pe_ix ix_list (pv 0) (pe_int) (by intro _ _; rfl)) (pa_nil)))) (pa_nil))) (pv 1)))))), ?_⟩
  obtain ⟨ds, Qd, Ed, hl, dn, ok, ⟨m, rfl, m0, m1, q⟩, kq, ke⟩ := h
  obtain ⟨v1, r1, rfl, d1, dn⟩ := dn.cons
  obtain ⟨v2, rfl, d2⟩ := dn.one1
  simp only [Den] at d1 d2
  subst d1 d2
  obtain ⟨cs, at_, held, tot, Z⟩ := ok
  have hm : CDivW held m := ⟨m0, by
    have h1 : m.natAbs < 2 ^ 200 := by omega
    have h2 : m.natAbs ≠ 0 := by omega
    have := (Nat.log2_lt h2).mpr h1
    omega⟩
  have fin : ∀ (x : Int) (H' : Hp), Kp (handI hd c).own H H' → (handI hd c).ok H' → Q (.int (x % m)) H' := fun x H' e o =>
    kq (.int (x % m)) (.int (x % m)) H' ⟨e, o⟩ (by simp only [Den]) (q _ (Int.emod_nonneg _ (by omega)) (Int.emod_lt_of_pos _ m0))
  refine seq_of (P := fun σ' H' => ∃ a b, σ' = [some (.ref hd), some (.int m), a, b] ∧ Kp (handI hd c).own H H' ∧ ∃ cs at_ held tot, HandAt hd c cs at_ held tot H') ?_ ?_
  · intro σ' H' hh
    obtain ⟨a, b, rfl, kp, cs, at_, held, tot, Z⟩ := hh
    refine seq_of (P := fun σ' H' => ∃ a b, σ' = [some (.ref hd), some (.int m), a, b] ∧ Kp (handI hd c).own H H' ∧ ∃ cs at_ held tot, HandAt hd c cs at_ held tot H') ?_ ?_
    · intro σ' H' hh
      obtain ⟨a, b, rfl, kp, cs, at_, held, tot, Z⟩ := hh
      refine v_ix rfl Z.h rfl ⟨tot, 1, rfl, rfl, Or.inl ⟨tot + 1, rfl, ⟨tot + 1, _, rfl, rfl, (show (0 : Int) < 2147483549 by decide), ?_⟩⟩⟩
      refine v_set rfl Z.h rfl ?_
      have t0 : 0 ≤ (tot + 1) % 2147483549 := Int.emod_nonneg _ (by decide)
      have t1 : (tot + 1) % 2147483549 < 2147483549 := Int.emod_lt_of_pos _ (by decide)
      have Z' := Z.set hne Z.a0 Z.a1 Z.h0 t0 (by omega)
      refine v_ix rfl Z'.h rfl (v_ix rfl Z'.h rfl ?_)
      refine ⟨[.int _, .int at_], fun d => ∃ r : Int, d = .int r ∧ 0 ≤ r, fun _ => False, rfl, DenA.ints (ns := [_, at_]), ⟨_, _, _, _, Z'⟩, ⟨_, _, rfl, t0, by omega, Z.a0, by have := Z.a1; omega, fun r r0 _ => ⟨r, rfl, r0⟩⟩, fun v d H2 e2 dn ⟨r, er, r0⟩ => ?_, fun _ _ _ _ _ z => z.elim⟩
      subst er
      simp only [Den] at dn
      subst dn
      refine Or.inl ⟨r, rfl, ⟨_, rfl, ⟨r, m, rfl, rfl, m0, ?_⟩⟩⟩
      exact fin r H2 ((kp.trans kp_mut).trans e2.1) e2.2
    · intro nx
      by_cases hh : 0 < held
      · refine v_ix rfl Z.h rfl ⟨held, 0, rfl, rfl, _, rfl, ?_⟩
        refine it_t (decide_eq_true hh) ?_
        refine v_ix rfl Z.h rfl ?_
        refine ⟨_, rfl, Or.inl ⟨held, rfl, ⟨_, rfl, ⟨held, m, rfl, rfl, ⟨hm.1, hm.2⟩, ?_⟩⟩⟩⟩
        refine v_set rfl Z.h rfl ?_
        have Z' := Z.set hne Z.a0 Z.a1 (h' := held / m) (Int.ediv_nonneg Z.h0 (Int.le_of_lt m0)) Z.t0 Z.t1
        refine ⟨_, rfl, Or.inl ⟨held, rfl, ⟨_, rfl, ⟨held, m, rfl, rfl, m0, ?_⟩⟩⟩⟩
        exact fin held _ (kp.trans kp_mut) ⟨_, _, _, _, Z'⟩
      · refine v_ix rfl Z.h rfl ⟨held, 0, rfl, rfl, _, rfl, ?_⟩
        refine it_f (decide_eq_false hh) ?_
        exact nx _ _ ⟨a, b, rfl, kp, _, _, _, _, Z⟩
  · intro nx
    refine v_ix rfl Z.h rfl ⟨rfl, _, rfl, ?_⟩
    by_cases hh : held = 0
    · subst hh
      refine it_t (decide_eq_true rfl) ?_
      refine v_ix rfl Z.h rfl (v_ix rfl Z.h rfl ?_)
      refine ⟨_, (cs.map V.int).length, rfl, Or.inl ⟨_, SqL.of Z.c, rfl⟩, ⟨at_, _, rfl, rfl, _, rfl, ?_⟩⟩
      by_cases hl : at_ < ((cs.map V.int).length : Int)
      · refine it_t (decide_eq_true hl) ?_
        rw [List.length_map] at hl
        obtain ⟨x, ex, mx⟩ := take_cell Z.a0 hl
        have x0 := Z.pos x mx
        refine v_ix rfl Z.h rfl ?_
        refine v_ix rfl Z.h rfl ⟨c, _, at_, _, rfl, rfl, SqL.of Z.c, ex, ?_⟩
        refine v_ix rfl Z.h rfl ⟨at_, 1, rfl, rfl, ?_⟩
        refine v_set rfl Z.h rfl ?_
        have Z' := Z.set hne (a' := at_ + 1) (by have := Z.a0; omega) (by have := Z.len; omega) Z.h0 Z.t0 Z.t1
        refine ⟨_, rfl, ⟨10, 18, rfl, rfl, (by unfold CPow; decide), ⟨x, _, rfl, rfl, _, rfl, ?_⟩⟩⟩
        by_cases hx : x < (10 : Int) ^ (18 : Int).toNat
        · refine it_t (decide_eq_true hx) ?_
          refine ⟨_, rfl, Or.inl ⟨x, rfl, ⟨x, _, rfl, rfl, (show (0 : Int) < 2147483399 by decide), ?_⟩⟩⟩
          have c0 : 0 ≤ x % 2147483399 := Int.emod_nonneg _ (by decide)
          have c1 : x % 2147483399 < 2147483399 := Int.emod_lt_of_pos _ (by decide)
          refine v_ix rfl Z'.h rfl ?_
          refine ⟨[.int (x % 2147483399), .int (at_ + 1)], fun d => ∃ r : Int, d = .int r ∧ 0 ≤ r, fun _ => False, rfl, DenA.ints (ns := [x % 2147483399, at_ + 1]), ⟨_, _, _, _, Z'⟩, ⟨_, _, rfl, c0, by omega, Z'.a0, by have := Z'.a1; omega, fun r r0 _ => ⟨r, rfl, r0⟩⟩, fun v d H2 e2 dn ⟨r, er, r0⟩ => ?_, fun _ _ _ _ _ z => z.elim⟩
          subst er
          simp only [Den] at dn
          subst dn
          refine Or.inl ⟨r, rfl, ⟨_, rfl, ⟨r, m, rfl, rfl, m0, ?_⟩⟩⟩
          exact fin r H2 (kp_mut.trans e2.1) e2.2
        · refine it_f (decide_eq_false hx) ?_
          refine ⟨_, rfl, v_set rfl Z'.h rfl ?_⟩
          have Z2 := Z'.set hne Z'.a0 Z'.a1 (h' := x) x0 Z.t0 Z.t1
          refine nx _ _ ⟨_, _, rfl, kp_mut.trans kp_mut, _, _, _, _, Z2⟩
      · refine it_f (decide_eq_false hl) ?_
        exact nx _ _ ⟨_, _, rfl, Kp.refl, _, _, _, _, Z⟩
    · refine it_f (decide_eq_false fun z => hh (by injection z)) ?_
      refine it_f rfl ?_
      exact nx _ _ ⟨_, _, rfl, Kp.refl, _, _, _, _, Z⟩
end K70

namespace K70
open PySem PySem.Spec PyProof.Rows L2 Dl He
theorem fn__law_mixed {P : Program} {w : World} {K : PySem.W.Frag} {mg : Str → Option Value} {base : Heap} {I : HI} {fa : Addr} {fd : FuncData} (F : FunD K "_law_mixed" "_law_mixed" (defArgs s__law_mixed) (defBody s__law_mixed) (defScope s__law_mixed) [] [] fa fd) (T : Tf K mg)  :
    FnOk P w K mg base (L2.CX P w) 2 fa fd ["_law_number", "_law_turn"] (spOf K I 2 (C__law_mixed K)) :=
  fn_D F sc__law_mixed (fun cdv A outer s H E Ed hr tk => pd__law_mixed T  hr tk) fun ds Qd Ed h _ => ct__law_mixed h
theorem mk_c__law_mixed {P : Program} {w : World} {K : PySem.W.Frag} {mg : Str → Option Value} {base : Heap} {I : HI} {fa : Addr} {fd : FuncData} (F : FunD K "_law_mixed" "_law_mixed" (defArgs s__law_mixed) (defBody s__law_mixed) (defScope s__law_mixed) [] [] fa fd) (T : Tf K mg) (gm : mg "_law_mixed" = some (.ref fa))  : Cl P w K mg base I 2 "_law_mixed" 2 (C__law_mixed K) [] := by
  have B : L2.Binds K fd ["_law_number", "_law_turn"] [] := F.bindsN fun _ _ _ _ _ _ us hl => match us, hl with | [_, _], _ => rfl
  exact ⟨fa, fd, _, _, [], fn__law_mixed F T , gm, F.kp, B, .nil, fun H => by simp only [DenA]⟩
theorem fn__law_hand {P : Program} {w : World} {K : PySem.W.Frag} {mg : Str → Option Value} {base : Heap} {I : HI} {fa : Addr} {fd : FuncData} (F : FunD K "_law_hand" "_law_hand" (defArgs s__law_hand) (defBody s__law_hand) (defScope s__law_hand) [] [] fa fd) (T : Tf K mg)  :
    FnOk P w K mg base (L2.CX P w) 2 fa fd ["_law_script"] (spOf K I 1 (C_hand K)) :=
  fn_D F sc__law_hand (fun cdv A outer s H E Ed hr tk => pd__law_hand T  hr tk) fun ds Qd Ed h _ => ct__law_hand h
theorem fn__law_first_classes {P : Program} {w : World} {K : PySem.W.Frag} {mg : Str → Option Value} {base : Heap} {I : HI} {fa : Addr} {fd : FuncData} (F : FunD K "_law_first_classes" "_law_first_classes" (defArgs s__law_first_classes) (defBody s__law_first_classes) (defScope s__law_first_classes) [] [] fa fd) (T : Tf K mg)  (FK : KF K) :
    FnOk P w K mg base (L2.CX P w) 2 fa fd ["_law_e"] (spOf K I 1 (C__law_first_classes K)) :=
  fn_D F sc__law_first_classes (fun cdv A outer s H E Ed hr tk => pd__law_first_classes T  hr tk) fun ds Qd Ed h _ => ct__law_first_classes FK h
theorem mk_c__law_first_classes {P : Program} {w : World} {K : PySem.W.Frag} {mg : Str → Option Value} {base : Heap} {I : HI} {fa : Addr} {fd : FuncData} (F : FunD K "_law_first_classes" "_law_first_classes" (defArgs s__law_first_classes) (defBody s__law_first_classes) (defScope s__law_first_classes) [] [] fa fd) (T : Tf K mg) (gm : mg "_law_first_classes" = some (.ref fa))  (FK : KF K) : Cl P w K mg base I 2 "_law_first_classes" 1 (C__law_first_classes K) [] := by
  have B : L2.Binds K fd ["_law_e"] [] := F.bindsN fun _ _ _ _ _ _ us hl => match us, hl with | [_], _ => rfl
  exact ⟨fa, fd, _, _, [], fn__law_first_classes F T  FK, gm, F.kp, B, .nil, fun H => by simp only [DenA]⟩
theorem fn__law_other_classes {P : Program} {w : World} {K : PySem.W.Frag} {mg : Str → Option Value} {base : Heap} {I : HI} {fa : Addr} {fd : FuncData} (F : FunD K "_law_other_classes" "_law_other_classes" (defArgs s__law_other_classes) (defBody s__law_other_classes) (defScope s__law_other_classes) [] [] fa fd) (T : Tf K mg)  (FK : KF K) :
    FnOk P w K mg base (L2.CX P w) 2 fa fd ["_law_e"] (spOf K I 1 (C__law_other_classes K)) :=
  fn_D F sc__law_other_classes (fun cdv A outer s H E Ed hr tk => pd__law_other_classes T  hr tk) fun ds Qd Ed h _ => ct__law_other_classes FK h
theorem mk_c__law_other_classes {P : Program} {w : World} {K : PySem.W.Frag} {mg : Str → Option Value} {base : Heap} {I : HI} {fa : Addr} {fd : FuncData} (F : FunD K "_law_other_classes" "_law_other_classes" (defArgs s__law_other_classes) (defBody s__law_other_classes) (defScope s__law_other_classes) [] [] fa fd) (T : Tf K mg) (gm : mg "_law_other_classes" = some (.ref fa))  (FK : KF K) : Cl P w K mg base I 2 "_law_other_classes" 1 (C__law_other_classes K) [] := by
  have B : L2.Binds K fd ["_law_e"] [] := F.bindsN fun _ _ _ _ _ _ us hl => match us, hl with | [_], _ => rfl
  exact ⟨fa, fd, _, _, [], fn__law_other_classes F T  FK, gm, F.kp, B, .nil, fun H => by simp only [DenA]⟩
theorem fn__law_first_made {P : Program} {w : World} {K : PySem.W.Frag} {mg : Str → Option Value} {base : Heap} {I : HI} {fa : Addr} {fd : FuncData} (F : FunD K "_law_first_made" "_law_first_made" (defArgs s__law_first_made) (defBody s__law_first_made) (defScope s__law_first_made) [] [] fa fd) (T : Tf K mg) (er_BadCount : Er P w K mg base "BadCount" "what") (er_BadDates : Er P w K mg base "BadDates" "index") (er_BadLayers : Er P w K mg base "BadLayers" "index") (er_BadLining : Er P w K mg base "BadLining" "index") (er_BadLot : Er P w K mg base "BadLot" "index") (er_BadParts : Er P w K mg base "BadParts" "index") (er_BadPlaces : Er P w K mg base "BadPlaces" "index") (er_BadRelation : Er P w K mg base "BadRelation" "what") (er_BadSpoilt : Er P w K mg base "BadSpoilt" "what") (er_BadStanding : Er P w K mg base "BadStanding" "index") (er_BadStray : Er P w K mg base "BadStray" "what") (er_BadText : Er P w K mg base "BadText" "place") (er_NoFact : Er P w K mg base "NoFact" "number") (er_NoLot : Er P w K mg base "NoLot" "index") (er_NotFitting : Er P w K mg base "NotFitting" "fact") (er_TooMany : Er P w K mg base "TooMany" "most") (FK : KF K) :
    FnOk P w K mg base (L2.CX P w) 3 fa fd ["_law_which", "_law_thing"] (spOf K I 2 (C__law_first_made K)) :=
  fn_D F sc__law_first_made (fun cdv A outer s H E Ed hr tk => pd__law_first_made T er_BadCount er_BadDates er_BadLayers er_BadLining er_BadLot er_BadParts er_BadPlaces er_BadRelation er_BadSpoilt er_BadStanding er_BadStray er_BadText er_NoFact er_NoLot er_NotFitting er_TooMany hr tk) fun ds Qd Ed h _ => ct__law_first_made FK h
theorem mk_c__law_first_made {P : Program} {w : World} {K : PySem.W.Frag} {mg : Str → Option Value} {base : Heap} {I : HI} {fa : Addr} {fd : FuncData} (F : FunD K "_law_first_made" "_law_first_made" (defArgs s__law_first_made) (defBody s__law_first_made) (defScope s__law_first_made) [] [] fa fd) (T : Tf K mg) (gm : mg "_law_first_made" = some (.ref fa)) (er_BadCount : Er P w K mg base "BadCount" "what") (er_BadDates : Er P w K mg base "BadDates" "index") (er_BadLayers : Er P w K mg base "BadLayers" "index") (er_BadLining : Er P w K mg base "BadLining" "index") (er_BadLot : Er P w K mg base "BadLot" "index") (er_BadParts : Er P w K mg base "BadParts" "index") (er_BadPlaces : Er P w K mg base "BadPlaces" "index") (er_BadRelation : Er P w K mg base "BadRelation" "what") (er_BadSpoilt : Er P w K mg base "BadSpoilt" "what") (er_BadStanding : Er P w K mg base "BadStanding" "index") (er_BadStray : Er P w K mg base "BadStray" "what") (er_BadText : Er P w K mg base "BadText" "place") (er_NoFact : Er P w K mg base "NoFact" "number") (er_NoLot : Er P w K mg base "NoLot" "index") (er_NotFitting : Er P w K mg base "NotFitting" "fact") (er_TooMany : Er P w K mg base "TooMany" "most") (FK : KF K) : Cl P w K mg base I 3 "_law_first_made" 2 (C__law_first_made K) [] := by
  have B : L2.Binds K fd ["_law_which", "_law_thing"] [] := F.bindsN fun _ _ _ _ _ _ us hl => match us, hl with | [_, _], _ => rfl
  exact ⟨fa, fd, _, _, [], fn__law_first_made F T er_BadCount er_BadDates er_BadLayers er_BadLining er_BadLot er_BadParts er_BadPlaces er_BadRelation er_BadSpoilt er_BadStanding er_BadStray er_BadText er_NoFact er_NoLot er_NotFitting er_TooMany FK, gm, F.kp, B, .nil, fun H => by simp only [DenA]⟩
theorem fn__law_second_made {P : Program} {w : World} {K : PySem.W.Frag} {mg : Str → Option Value} {base : Heap} {I : HI} {fa : Addr} {fd : FuncData} (F : FunD K "_law_second_made" "_law_second_made" (defArgs s__law_second_made) (defBody s__law_second_made) (defScope s__law_second_made) [] [] fa fd) (T : Tf K mg) (er_BadClause : Er P w K mg base "BadClause" "what") (er_BadEdit : Er P w K mg base "BadEdit" "index") (er_BadNumbers : Er P w K mg base "BadNumbers" "index") (er_BadPool : Er P w K mg base "BadPool" "index") (er_BadRule : Er P w K mg base "BadRule" "what") (er_BadWish : Er P w K mg base "BadWish" "index") (er_BadWorks : Er P w K mg base "BadWorks" "index") (er_NoDate : Er P w K mg base "NoDate" "date") (er_NotAFact : Er P w K mg base "NotAFact" "number") (er_NotBroken : Er P w K mg base "NotBroken" "index") (er_NotLesser : Er P w K mg base "NotLesser" "fact") (er_NotOver : Er P w K mg base "NotOver" "fact") (er_NotRuledFact : Er P w K mg base "NotRuledFact" "fact") (FK : KF K) :
    FnOk P w K mg base (L2.CX P w) 3 fa fd ["_law_which", "_law_thing"] (spOf K I 2 (C__law_second_made K)) :=
  fn_D F sc__law_second_made (fun cdv A outer s H E Ed hr tk => pd__law_second_made T er_BadClause er_BadEdit er_BadNumbers er_BadPool er_BadRule er_BadWish er_BadWorks er_NoDate er_NotAFact er_NotBroken er_NotLesser er_NotOver er_NotRuledFact hr tk) fun ds Qd Ed h _ => ct__law_second_made FK h
theorem mk_c__law_second_made {P : Program} {w : World} {K : PySem.W.Frag} {mg : Str → Option Value} {base : Heap} {I : HI} {fa : Addr} {fd : FuncData} (F : FunD K "_law_second_made" "_law_second_made" (defArgs s__law_second_made) (defBody s__law_second_made) (defScope s__law_second_made) [] [] fa fd) (T : Tf K mg) (gm : mg "_law_second_made" = some (.ref fa)) (er_BadClause : Er P w K mg base "BadClause" "what") (er_BadEdit : Er P w K mg base "BadEdit" "index") (er_BadNumbers : Er P w K mg base "BadNumbers" "index") (er_BadPool : Er P w K mg base "BadPool" "index") (er_BadRule : Er P w K mg base "BadRule" "what") (er_BadWish : Er P w K mg base "BadWish" "index") (er_BadWorks : Er P w K mg base "BadWorks" "index") (er_NoDate : Er P w K mg base "NoDate" "date") (er_NotAFact : Er P w K mg base "NotAFact" "number") (er_NotBroken : Er P w K mg base "NotBroken" "index") (er_NotLesser : Er P w K mg base "NotLesser" "fact") (er_NotOver : Er P w K mg base "NotOver" "fact") (er_NotRuledFact : Er P w K mg base "NotRuledFact" "fact") (FK : KF K) : Cl P w K mg base I 3 "_law_second_made" 2 (C__law_second_made K) [] := by
  have B : L2.Binds K fd ["_law_which", "_law_thing"] [] := F.bindsN fun _ _ _ _ _ _ us hl => match us, hl with | [_, _], _ => rfl
  exact ⟨fa, fd, _, _, [], fn__law_second_made F T er_BadClause er_BadEdit er_BadNumbers er_BadPool er_BadRule er_BadWish er_BadWorks er_NoDate er_NotAFact er_NotBroken er_NotLesser er_NotOver er_NotRuledFact FK, gm, F.kp, B, .nil, fun H => by simp only [DenA]⟩
theorem fn__law_third_made {P : Program} {w : World} {K : PySem.W.Frag} {mg : Str → Option Value} {base : Heap} {I : HI} {fa : Addr} {fd : FuncData} (F : FunD K "_law_third_made" "_law_third_made" (defArgs s__law_third_made) (defBody s__law_third_made) (defScope s__law_third_made) [] [] fa fd) (T : Tf K mg) (er2_BadBook : Er2 P w K mg base "BadBook" "index" "what") (er2_BadRules : Er2 P w K mg base "BadRules" "index" "what") (e0_BadClosing : Er0 K mg "BadClosing") (e0_BadCut : Er0 K mg "BadCut") (e0_BadDeed : Er0 K mg "BadDeed") (e0_BadMoment : Er0 K mg "BadMoment") (e0_BadNumber : Er0 K mg "BadNumber") (e0_BadPlace : Er0 K mg "BadPlace") (e0_NoWay : Er0 K mg "NoWay") (e0_NotFit : Er0 K mg "NotFit") (e0_NotStuck : Er0 K mg "NotStuck") (e0_NothingDone : Er0 K mg "NothingDone") (e0_OtherPlaces : Er0 K mg "OtherPlaces") (FK : KF K) :
    FnOk P w K mg base (L2.CX P w) 3 fa fd ["_law_which", "_law_thing", "_law_other"] (spOf K I 3 (C__law_third_made K)) :=
  fn_D F sc__law_third_made (fun cdv A outer s H E Ed hr tk => pd__law_third_made T er2_BadBook er2_BadRules e0_BadClosing e0_BadCut e0_BadDeed e0_BadMoment e0_BadNumber e0_BadPlace e0_NoWay e0_NotFit e0_NotStuck e0_NothingDone e0_OtherPlaces hr tk) fun ds Qd Ed h _ => ct__law_third_made FK h
theorem mk_c__law_third_made {P : Program} {w : World} {K : PySem.W.Frag} {mg : Str → Option Value} {base : Heap} {I : HI} {fa : Addr} {fd : FuncData} (F : FunD K "_law_third_made" "_law_third_made" (defArgs s__law_third_made) (defBody s__law_third_made) (defScope s__law_third_made) [] [] fa fd) (T : Tf K mg) (gm : mg "_law_third_made" = some (.ref fa)) (er2_BadBook : Er2 P w K mg base "BadBook" "index" "what") (er2_BadRules : Er2 P w K mg base "BadRules" "index" "what") (e0_BadClosing : Er0 K mg "BadClosing") (e0_BadCut : Er0 K mg "BadCut") (e0_BadDeed : Er0 K mg "BadDeed") (e0_BadMoment : Er0 K mg "BadMoment") (e0_BadNumber : Er0 K mg "BadNumber") (e0_BadPlace : Er0 K mg "BadPlace") (e0_NoWay : Er0 K mg "NoWay") (e0_NotFit : Er0 K mg "NotFit") (e0_NotStuck : Er0 K mg "NotStuck") (e0_NothingDone : Er0 K mg "NothingDone") (e0_OtherPlaces : Er0 K mg "OtherPlaces") (FK : KF K) : Cl P w K mg base I 3 "_law_third_made" 3 (C__law_third_made K) [] := by
  have B : L2.Binds K fd ["_law_which", "_law_thing", "_law_other"] [] := F.bindsN fun _ _ _ _ _ _ us hl => match us, hl with | [_, _, _], _ => rfl
  exact ⟨fa, fd, _, _, [], fn__law_third_made F T er2_BadBook er2_BadRules e0_BadClosing e0_BadCut e0_BadDeed e0_BadMoment e0_BadNumber e0_BadPlace e0_NoWay e0_NotFit e0_NotStuck e0_NothingDone e0_OtherPlaces FK, gm, F.kp, B, .nil, fun H => by simp only [DenA]⟩
theorem fn__law_single {P : Program} {w : World} {K : PySem.W.Frag} {mg : Str → Option Value} {base : Heap} {I : HI} {fa : Addr} {fd : FuncData} (F : FunD K "_law_single" "_law_single" (defArgs s__law_single) (defBody s__law_single) (defScope s__law_single) [] [] fa fd) (T : Tf K mg) (c__law_first_classes : Cl P w K mg base I 2 "_law_first_classes" 1 (C__law_first_classes K) []) (c__law_other_classes : Cl P w K mg base I 2 "_law_other_classes" 1 (C__law_other_classes K) []) (FK : KF K) :
    FnOk P w K mg base (L2.CX P w) 3 fa fd ["_law_e", "_law_which"] (spOf K I 2 (C__law_single K)) :=
  fn_D F sc__law_single (fun cdv A outer s H E Ed hr tk => pd__law_single T c__law_first_classes c__law_other_classes hr tk) fun ds Qd Ed h _ => ct__law_single FK h
theorem mk_c__law_single {P : Program} {w : World} {K : PySem.W.Frag} {mg : Str → Option Value} {base : Heap} {I : HI} {fa : Addr} {fd : FuncData} (F : FunD K "_law_single" "_law_single" (defArgs s__law_single) (defBody s__law_single) (defScope s__law_single) [] [] fa fd) (T : Tf K mg) (gm : mg "_law_single" = some (.ref fa)) (c__law_first_classes : Cl P w K mg base I 2 "_law_first_classes" 1 (C__law_first_classes K) []) (c__law_other_classes : Cl P w K mg base I 2 "_law_other_classes" 1 (C__law_other_classes K) []) (FK : KF K) : Cl P w K mg base I 3 "_law_single" 2 (C__law_single K) [] := by
  have B : L2.Binds K fd ["_law_e", "_law_which"] [] := F.bindsN fun _ _ _ _ _ _ us hl => match us, hl with | [_, _], _ => rfl
  exact ⟨fa, fd, _, _, [], fn__law_single F T c__law_first_classes c__law_other_classes FK, gm, F.kp, B, .nil, fun H => by simp only [DenA]⟩
theorem mk_c__law_take {P : Program} {w : World} {K : PySem.W.Frag} {mg : Str → Option Value} {base : Heap} {fa hd c : Addr} {fd : FuncData} (F : FunD K "_law_take" "_law_take" (defArgs s__law_take) (defBody s__law_take) (defScope s__law_take) [] [] fa fd) (hne : hd ≠ c) (T : Tf K mg) (gm : mg "_law_take" = some (.ref fa)) (c__law_mixed : Cl P w K mg base (handI hd c) 2 "_law_mixed" 2 (C__law_mixed K) []) : Cl P w K mg base (handI hd c) 3 "_law_take" 2 (C__law_take hd) [] := by
  have B : L2.Binds K fd ["_law_hand_here", "_law_many"] [] := F.bindsN fun _ _ _ _ _ _ us hl => match us, hl with | [_, _], _ => rfl
  exact ⟨fa, fd, _, _, [], fn__law_take hne F T c__law_mixed, gm, F.kp, B, .nil, fun H => by simp only [DenA]⟩
theorem mk_c__law_hand {P : Program} {w : World} {K : PySem.W.Frag} {mg : Str → Option Value} {base : Heap} {I : HI} {fa : Addr} {fd : FuncData} (F : FunD K "_law_hand" "_law_hand" (defArgs s__law_hand) (defBody s__law_hand) (defScope s__law_hand) [] [] fa fd) (T : Tf K mg) (gm : mg "_law_hand" = some (.ref fa))  : Cl P w K mg base I 2 "_law_hand" 1 (C_hand K) [] := by
  have B : L2.Binds K fd ["_law_script"] [] := F.bindsN fun _ _ _ _ _ _ us hl => match us, hl with | [_], _ => rfl
  exact ⟨fa, fd, _, _, [], fn__law_hand F T , gm, F.kp, B, .nil, fun H => by simp only [DenA]⟩
end K70

namespace K70
open PySem PySem.Spec PyProof.Rows L2 Dl He
def clsBody : Stmt → List Stmt
  | .ClassDef (body := b) .. => b
  | _ => []
abbrev m_BadStanding : Stmt := (clsBody (top 2)).getD 0 (.Pass ⟨0, 0, 0, 0⟩)
abbrev m_BadPlaces : Stmt := (clsBody (top 3)).getD 0 (.Pass ⟨0, 0, 0, 0⟩)
abbrev m_BadLayers : Stmt := (clsBody (top 4)).getD 0 (.Pass ⟨0, 0, 0, 0⟩)
abbrev m_BadCount : Stmt := (clsBody (top 5)).getD 0 (.Pass ⟨0, 0, 0, 0⟩)
abbrev m_BadDates : Stmt := (clsBody (top 7)).getD 0 (.Pass ⟨0, 0, 0, 0⟩)
abbrev m_BadLot : Stmt := (clsBody (top 8)).getD 0 (.Pass ⟨0, 0, 0, 0⟩)
abbrev m_BadText : Stmt := (clsBody (top 9)).getD 0 (.Pass ⟨0, 0, 0, 0⟩)
abbrev m_BadRelation : Stmt := (clsBody (top 10)).getD 0 (.Pass ⟨0, 0, 0, 0⟩)
abbrev m_TooMany : Stmt := (clsBody (top 12)).getD 0 (.Pass ⟨0, 0, 0, 0⟩)
abbrev m_BadParts : Stmt := (clsBody (top 13)).getD 0 (.Pass ⟨0, 0, 0, 0⟩)
abbrev m_BadLining : Stmt := (clsBody (top 14)).getD 0 (.Pass ⟨0, 0, 0, 0⟩)
abbrev m_NoLot : Stmt := (clsBody (top 17)).getD 0 (.Pass ⟨0, 0, 0, 0⟩)
abbrev m_BadStray : Stmt := (clsBody (top 19)).getD 0 (.Pass ⟨0, 0, 0, 0⟩)
abbrev m_BadSpoilt : Stmt := (clsBody (top 20)).getD 0 (.Pass ⟨0, 0, 0, 0⟩)
abbrev m_NoFact : Stmt := (clsBody (top 22)).getD 0 (.Pass ⟨0, 0, 0, 0⟩)
abbrev m_NotFitting : Stmt := (clsBody (top 23)).getD 0 (.Pass ⟨0, 0, 0, 0⟩)
abbrev m_NoDate : Stmt := (clsBody (top 24)).getD 0 (.Pass ⟨0, 0, 0, 0⟩)
abbrev m_NotOver : Stmt := (clsBody (top 27)).getD 0 (.Pass ⟨0, 0, 0, 0⟩)
abbrev m_BadClause : Stmt := (clsBody (top 28)).getD 0 (.Pass ⟨0, 0, 0, 0⟩)
abbrev m_NotBroken : Stmt := (clsBody (top 30)).getD 0 (.Pass ⟨0, 0, 0, 0⟩)
abbrev m_NotLesser : Stmt := (clsBody (top 31)).getD 0 (.Pass ⟨0, 0, 0, 0⟩)
abbrev m_BadNumbers : Stmt := (clsBody (top 33)).getD 0 (.Pass ⟨0, 0, 0, 0⟩)
abbrev m_BadWorks : Stmt := (clsBody (top 35)).getD 0 (.Pass ⟨0, 0, 0, 0⟩)
abbrev m_BadRule : Stmt := (clsBody (top 36)).getD 0 (.Pass ⟨0, 0, 0, 0⟩)
abbrev m_NotAFact : Stmt := (clsBody (top 38)).getD 0 (.Pass ⟨0, 0, 0, 0⟩)
abbrev m_NotRuledFact : Stmt := (clsBody (top 39)).getD 0 (.Pass ⟨0, 0, 0, 0⟩)
abbrev m_BadPool : Stmt := (clsBody (top 40)).getD 0 (.Pass ⟨0, 0, 0, 0⟩)
abbrev m_BadWish : Stmt := (clsBody (top 41)).getD 0 (.Pass ⟨0, 0, 0, 0⟩)
abbrev m_BadEdit : Stmt := (clsBody (top 42)).getD 0 (.Pass ⟨0, 0, 0, 0⟩)
abbrev m_BadBook : Stmt := (clsBody (top 21)).getD 0 (.Pass ⟨0, 0, 0, 0⟩)
abbrev m_BadRules : Stmt := (clsBody (top 37)).getD 0 (.Pass ⟨0, 0, 0, 0⟩)
def fns : List He.DefD := [defD s__law_hand none "_law_hand" [], defD s__law_mixed none "_law_mixed" [], defD s__law_take none "_law_take" [], defD s__law_first_classes none "_law_first_classes" [], defD s__law_other_classes none "_law_other_classes" [], defD s__law_first_made none "_law_first_made" [], defD s__law_second_made none "_law_second_made" [], defD s__law_third_made none "_law_third_made" [], defD s__law_single none "_law_single" [], defD s_law none "law" [], defD m_BadStanding (some "BadStanding") "__init__" [], defD m_BadPlaces (some "BadPlaces") "__init__" [], defD m_BadLayers (some "BadLayers") "__init__" [], defD m_BadCount (some "BadCount") "__init__" [], defD m_BadDates (some "BadDates") "__init__" [], defD m_BadLot (some "BadLot") "__init__" [], defD m_BadText (some "BadText") "__init__" [], defD m_BadRelation (some "BadRelation") "__init__" [], defD m_TooMany (some "TooMany") "__init__" [], defD m_BadParts (some "BadParts") "__init__" [], defD m_BadLining (some "BadLining") "__init__" [], defD m_NoLot (some "NoLot") "__init__" [], defD m_BadStray (some "BadStray") "__init__" [], defD m_BadSpoilt (some "BadSpoilt") "__init__" [], defD m_NoFact (some "NoFact") "__init__" [], defD m_NotFitting (some "NotFitting") "__init__" [], defD m_NoDate (some "NoDate") "__init__" [], defD m_NotOver (some "NotOver") "__init__" [], defD m_BadClause (some "BadClause") "__init__" [], defD m_NotBroken (some "NotBroken") "__init__" [], defD m_NotLesser (some "NotLesser") "__init__" [], defD m_BadNumbers (some "BadNumbers") "__init__" [], defD m_BadWorks (some "BadWorks") "__init__" [], defD m_BadRule (some "BadRule") "__init__" [], defD m_NotAFact (some "NotAFact") "__init__" [], defD m_NotRuledFact (some "NotRuledFact") "__init__" [], defD m_BadPool (some "BadPool") "__init__" [], defD m_BadWish (some "BadWish") "__init__" [], defD m_BadEdit (some "BadEdit") "__init__" [], defD m_BadBook (some "BadBook") "__init__" [], defD m_BadRules (some "BadRules") "__init__" []]
def fa : List He.Fa := [.glo (Str.ofString "_law_hand"), .glo (Str.ofString "_law_mixed"), .glo (Str.ofString "_law_take"), .glo (Str.ofString "_law_first_classes"), .glo (Str.ofString "_law_other_classes"), .glo (Str.ofString "_law_first_made"), .glo (Str.ofString "_law_second_made"), .glo (Str.ofString "_law_third_made"), .glo (Str.ofString "_law_single"), .glo (Str.ofString "law"), .glo (Str.ofString "DateError"), .glo (Str.ofString "BadStanding"), .glo (Str.ofString "BadPlaces"), .glo (Str.ofString "BadLayers"), .glo (Str.ofString "BadCount"), .glo (Str.ofString "BadDates"), .glo (Str.ofString "BadLot"), .glo (Str.ofString "BadText"), .glo (Str.ofString "BadRelation"), .glo (Str.ofString "TooMany"), .glo (Str.ofString "BadParts"), .glo (Str.ofString "BadLining"), .glo (Str.ofString "NoLot"), .glo (Str.ofString "BadStray"), .glo (Str.ofString "BadSpoilt"), .glo (Str.ofString "NoFact"), .glo (Str.ofString "NotFitting"), .glo (Str.ofString "NoDate"), .glo (Str.ofString "NotOver"), .glo (Str.ofString "BadClause"), .glo (Str.ofString "NotBroken"), .glo (Str.ofString "NotLesser"), .glo (Str.ofString "BadNumbers"), .glo (Str.ofString "BadWorks"), .glo (Str.ofString "BadRule"), .glo (Str.ofString "NotAFact"), .glo (Str.ofString "NotRuledFact"), .glo (Str.ofString "BadPool"), .glo (Str.ofString "BadWish"), .glo (Str.ofString "BadEdit"), .glo (Str.ofString "BadBook"), .glo (Str.ofString "BadRules"), .glo (Str.ofString "BadNumber"), .glo (Str.ofString "OtherPlaces"), .glo (Str.ofString "BadDeed"), .glo (Str.ofString "BadCut"), .glo (Str.ofString "BadClosing"), .glo (Str.ofString "NoWay"), .glo (Str.ofString "NotStuck"), .glo (Str.ofString "BadPlace"), .glo (Str.ofString "NotFit"), .glo (Str.ofString "BadMoment"), .glo (Str.ofString "NothingDone"), .free (Str.ofString "ValueError"), .free (Str.ofString "abs"), .free (Str.ofString "int"), .free (Str.ofString "isinstance"), .free (Str.ofString "len"), .free (Str.ofString "range"), .free (Str.ofString "repr"), .free (Str.ofString "str")]
def excB (K : PySem.W.Frag) (D : Addr) : Bool := decide (PySem.W.findIn K (.ref D) "__getattribute__" = some (some (.builtin "BaseException.__getattribute__"))) && (decide (PySem.W.findIn K (.ref D) "__getattr__" = some none) && (decide (PySem.W.subIn K (.ref D) (.type "BaseException") = some true) && (PySem.W.hasDictIn K D &&
  (decide (PySem.W.findIn K (.ref D) "__class__" = some (some (.builtin "object.__class__"))) && decide (PySem.W.mroIn K D (.type "object") = some true)))))
def clsD (K : PySem.W.Frag) : Bool := decide (PySem.W.specialIn K (.builtin "object.__class__") "__get__" = some (some (.builtin "getset_descriptor.__get__"))) && decide (PySem.W.takesIn K (.builtin "object.__class__") = some true)
theorem excB_ok {K : PySem.W.Frag} {D : Addr} (h : excB K D = true) (z : clsD K = true) : ExcC K D ∧ XfC K D := by
  obtain ⟨h1, h⟩ := He.ba h
  obtain ⟨h2, h⟩ := He.ba h
  obtain ⟨h3, h⟩ := He.ba h
  obtain ⟨h4, h⟩ := He.ba h
  obtain ⟨h5, h8⟩ := He.ba h
  obtain ⟨h6, h7⟩ := He.ba z
  exact ⟨⟨of_decide_eq_true h1, of_decide_eq_true h2, of_decide_eq_true h3, h4, of_decide_eq_true h5, of_decide_eq_true h6, of_decide_eq_true h7, of_decide_eq_true h8⟩, ⟨of_decide_eq_true h1, of_decide_eq_true h2, of_decide_eq_true h3, h4⟩⟩
def ones : List (Str × Str) := [(Str.ofString "BadStanding", Str.ofString "index"), (Str.ofString "BadPlaces", Str.ofString "index"), (Str.ofString "BadLayers", Str.ofString "index"), (Str.ofString "BadCount", Str.ofString "what"), (Str.ofString "BadDates", Str.ofString "index"), (Str.ofString "BadLot", Str.ofString "index"), (Str.ofString "BadText", Str.ofString "place"), (Str.ofString "BadRelation", Str.ofString "what"), (Str.ofString "TooMany", Str.ofString "most"), (Str.ofString "BadParts", Str.ofString "index"), (Str.ofString "BadLining", Str.ofString "index"), (Str.ofString "NoLot", Str.ofString "index"), (Str.ofString "BadStray", Str.ofString "what"), (Str.ofString "BadSpoilt", Str.ofString "what"), (Str.ofString "NoFact", Str.ofString "number"), (Str.ofString "NotFitting", Str.ofString "fact"), (Str.ofString "NoDate", Str.ofString "date"), (Str.ofString "NotOver", Str.ofString "fact"), (Str.ofString "BadClause", Str.ofString "what"), (Str.ofString "NotBroken", Str.ofString "index"), (Str.ofString "NotLesser", Str.ofString "fact"), (Str.ofString "BadNumbers", Str.ofString "index"), (Str.ofString "BadWorks", Str.ofString "index"), (Str.ofString "BadRule", Str.ofString "what"), (Str.ofString "NotAFact", Str.ofString "number"), (Str.ofString "NotRuledFact", Str.ofString "fact"), (Str.ofString "BadPool", Str.ofString "index"), (Str.ofString "BadWish", Str.ofString "index"), (Str.ofString "BadEdit", Str.ofString "index")]
def twos : List Str := [Str.ofString "BadBook", Str.ofString "BadRules"]
def zeros : List Str := [Str.ofString "BadNumber", Str.ofString "OtherPlaces", Str.ofString "BadDeed", Str.ofString "BadCut", Str.ofString "BadClosing", Str.ofString "NoWay", Str.ofString "NotStuck", Str.ofString "BadPlace", Str.ofString "NotFit", Str.ofString "BadMoment", Str.ofString "NothingDone"]
def mB (K : PySem.W.Frag) (x : Str) : Bool := decide ((PySem.W.clsIn K (ga K x)).map (·.mro) = some (mroV K (ga K x))) && (decide (PySem.W.typeIn K (.ref (ga K x)) = some (.type "type")) && excB K (ga K x))
def exF (K : PySem.W.Frag) : Bool := ones.all (fun p => errB K p.1 p.2) && (twos.all (fun x => errB K x "index" && decide (PySem.W.findIn K (.ref (ga K x)) "what" = some none)) && (zeros.all (er0B K) && (nms.all (mB K) && (clsD K &&
  (((PySem.W.clsIn K (ga K "DateError")).isSome && decide (PySem.W.typeIn K (.ref (ga K "DateError")) = some (.type "type"))) && decide (((Str.ofString "DateError" :: nms).map (ga K)).Nodup))))))
abbrev R : PySem.W.OpenRow := PySem.W.OpenLaw.row PySem.Challenge.rw_earliestlots_k70_errors_stand_straight_u
abbrev qv : Program := PySem.W.view R.prog [54]
abbrev hk : PySem.W.Hook := hookZ 5 fa fns exF
def ob (s : PySem.W.SharedT) : AlZ := obsZ 5 fa fns exF (HandSHeadRun.getT s)
theorem ob_eq (s : PySem.W.SharedT) : ob s = hk.obs s.abs := obsZ_eq (HandSHeadRun.getT_eq s)
def names : List Str := [Str.ofString "DateError", Str.ofString "BadStanding", Str.ofString "BadPlaces", Str.ofString "BadLayers", Str.ofString "BadCount", Str.ofString "BadNumber", Str.ofString "BadDates", Str.ofString "BadLot", Str.ofString "BadText", Str.ofString "BadRelation", Str.ofString "OtherPlaces", Str.ofString "TooMany", Str.ofString "BadParts", Str.ofString "BadLining", Str.ofString "BadDeed", Str.ofString "BadCut", Str.ofString "NoLot", Str.ofString "BadClosing", Str.ofString "BadStray", Str.ofString "BadSpoilt", Str.ofString "BadBook", Str.ofString "NoFact", Str.ofString "NotFitting", Str.ofString "NoDate", Str.ofString "NoWay", Str.ofString "NotStuck", Str.ofString "NotOver", Str.ofString "BadClause", Str.ofString "BadPlace", Str.ofString "NotBroken", Str.ofString "NotLesser", Str.ofString "NotFit", Str.ofString "BadNumbers", Str.ofString "BadMoment", Str.ofString "BadWorks", Str.ofString "BadRule", Str.ofString "BadRules", Str.ofString "NotAFact", Str.ofString "NotRuledFact", Str.ofString "BadPool", Str.ofString "BadWish", Str.ofString "BadEdit", Str.ofString "NothingDone", Str.ofString "_law_hand", Str.ofString "_law_mixed", Str.ofString "_law_take", Str.ofString "_law_first_classes", Str.ofString "_law_other_classes", Str.ofString "_law_first_made", Str.ofString "_law_second_made", Str.ofString "_law_third_made", Str.ofString "_law_single"]
theorem run (w : World) : HandSHeadRun.RunEq R qv hk ob 20000 names w := by
  intro os
  kernel_rfl
end K70

namespace K70
open PySem PySem.Spec PyProof.Rows L2 Dl He
theorem fn_law {P : Program} {w : World} {K : PySem.W.Frag} {mg : Str → Option Value} {base : Heap} {fa : Addr} {fd : FuncData} (F : FunD K "law" "law" (defArgs s_law) (defBody s_law) (defScope s_law) [] [] fa fd) (T : Tf K mg)
    (c__law_hand : Cl P w K mg base HI.plain 2 "_law_hand" 1 (C_hand K) []) (hs : ∀ hd c, hd ≠ c → Cl P w K mg base (handI hd c) 3 "_law_first_made" 2 (C__law_first_made K) [] ∧ Cl P w K mg base (handI hd c) 3 "_law_second_made" 2 (C__law_second_made K) [] ∧ Cl P w K mg base (handI hd c) 3 "_law_single" 2 (C__law_single K) [] ∧ Cl P w K mg base (handI hd c) 3 "_law_take" 2 (C__law_take hd) [] ∧ Cl P w K mg base (handI hd c) 3 "_law_third_made" 3 (C__law_third_made K) []) :
    FnAt P w K mg base (L2.CX P w) callerA fa fd ["_law_script"] (spLaw K) := by
  obtain ⟨fh, fdh, psh, dsh, dvsh, Fh, gh, kh, bh, vh, dh⟩ := c__law_hand
  have e1 : dvsh = [] := (dh (fun _ => none)).nil
  subst e1
  cases vh
  refine fnAt (k := 3) F sc_law ⟨rfl, by decide, by decide⟩ (fun cdv outer s H vs Q E hr h => ?_)
  obtain ⟨a, ns, rfl, hl, o, sq, hQ⟩ := h
  have nd := sc_law.nd
  have tk : Takes (cxD P w K mg base N_law "law" (defScope s_law) fa cdv callerA outer s H E) (gOf HI.plain (fun _ => False) E).W := takes_of rfl rfl rfl rfl
  refine ⟨_, pss_cons (ps_set (i := 1) nd rfl (Or.inl rfl) (pe_call Fh (hr.mono (by decide)) rfl gh kh bh .nil passL (pa_cons (pv 0) pa_nil))) pss_w, ?_⟩
  exact law_run (X := cxD P w K mg base N_law "law" (defScope s_law) fa cdv callerA outer s H E) (rest := (defBody s_law).tail) (td := fun hd => d_law K hd (fun _ _ => False)) (n := 6) (W := (gOf HI.plain (fun _ => False) E).W) rfl (fun hd c hne => pd_law (Ed := fun _ => False) T (hs hd c hne).1 (hs hd c hne).2.1 (hs hd c hne).2.2.1 (hs hd c hne).2.2.2.1 (hs hd c hne).2.2.2.2 rfl hr tk) (fun hd => ct_law) hl o sq hQ
theorem quiet {P : Program} {w : World} {K : PySem.W.Frag} {mg : Str → Option Value} {base : Heap} {A : Around} {f : Addr} {fd : FuncData} {ps : List Str} (F : FnAt P w K mg base (L2.CX P w) A f fd ps (spLaw K)) : FnAt P w K mg base L2.CX0 A f fd ps (spLaw K) :=
  ⟨fun outer s H args us vs Q E he hb hv hl hs => codeAny_mono (F.run outer s H args us vs Q E0 he hb hv hl hs) fun r s' h => by
    cases r with
    | error e =>
      have h : L2.CX P w outer H s E0 e s' := h
      obtain ⟨_, _, _, _, _, _, _, _, _, _, _, _, z⟩ := h
      exact z.elim
    | ok fl => cases fl <;> exact h⟩
theorem nd_ix {α : Type} : ∀ {l : List α} {i j : Nat} {x : α}, l.Nodup → l[i]? = some x → l[j]? = some x → i = j
  | [], i, j, x, _, h, _ => by simp at h
  | y :: l, i, j, x, nd, h1, h2 => by
    obtain ⟨n1, n2⟩ := List.nodup_cons.mp nd
    match i, j, h1, h2 with
    | 0, 0, _, _ => rfl
    | 0, j + 1, h1, h2 =>
      have e : y = x := by simpa using h1
      rw [e] at n1
      exact absurd (List.mem_of_getElem? (by simpa using h2)) n1
    | i + 1, 0, h1, h2 =>
      have e : y = x := by simpa using h2
      rw [e] at n1
      exact absurd (List.mem_of_getElem? (by simpa using h1)) n1
    | i + 1, j + 1, h1, h2 => exact congrArg (· + 1) (nd_ix (x := x) n2 (by simpa using h1) (by simpa using h2))
theorem nm_at {i : Nat} (h : i < 42) : nms[i]? = some (nm i) := by
  have l : i < nms.length := h
  unfold nm
  rw [List.getD_eq_getElem?_getD, List.getElem?_eq_getElem l]
  rfl
theorem kf {K : PySem.W.Frag} (x : exF K = true) : KF K := by
  obtain ⟨x1, x⟩ := He.ba x
  obtain ⟨x2, x⟩ := He.ba x
  obtain ⟨x3, x⟩ := He.ba x
  obtain ⟨x4, x⟩ := He.ba x
  obtain ⟨x5, x⟩ := He.ba x
  obtain ⟨x6, x7⟩ := He.ba x
  obtain ⟨x8, x9⟩ := He.ba x6
  have nd : ((Str.ofString "DateError" :: nms).map (ga K)).Nodup := of_decide_eq_true x7
  have at_ : ∀ i, i < 42 → ((Str.ofString "DateError" :: nms).map (ga K))[i + 1]? = some (ga K (nm i)) := fun i h => by
    rw [List.getElem?_map, List.getElem?_cons_succ, nm_at h]
    rfl
  have each : ∀ i, i < 42 → mB K (nm i) = true := fun i h => all_mem x4 i (nm_at h)
  have parts : ∀ i, i < 42 → (PySem.W.clsIn K (ga K (nm i))).map (·.mro) = some (mroV K (ga K (nm i))) ∧ PySem.W.typeIn K (.ref (ga K (nm i))) = some (.type "type") ∧ ExcC K (ga K (nm i)) ∧ XfC K (ga K (nm i)) := fun i h => by
    obtain ⟨y1, y⟩ := He.ba (each i h)
    obtain ⟨y2, y3⟩ := He.ba y
    obtain ⟨z1, z2⟩ := excB_ok y3 x5
    exact ⟨of_decide_eq_true y1, of_decide_eq_true y2, z1, z2⟩
  refine ⟨fun i h => (parts i h).1, fun i h => (parts i h).2.1, ⟨x8, of_decide_eq_true x9⟩, fun i j hi hj e => ?_, fun i h e => ?_, fun i h => (parts i h).2.2.1, fun i h => (parts i h).2.2.2, fun i h => ?_, fun i h => ?_⟩
  · have := nd_ix nd (at_ i hi) (by rw [at_ j hj, e])
    omega
  · have := nd_ix nd (at_ i h) (show ((Str.ofString "DateError" :: nms).map (ga K))[0]? = _ by rw [e]; rfl)
    omega
  · match i, h with
    | 0, _ => exact (errB_ok (all_mem x1 0 rfl)).e.nf
    | 1, _ => exact (errB_ok (all_mem x1 1 rfl)).e.nf
    | 2, _ => exact (errB_ok (all_mem x1 2 rfl)).e.nf
    | 3, _ => exact (errB_ok (all_mem x1 3 rfl)).e.nf
    | 4, _ => exact (errB_ok (all_mem x1 4 rfl)).e.nf
    | 5, _ => exact (errB_ok (all_mem x1 5 rfl)).e.nf
    | 6, _ => exact (errB_ok (all_mem x1 6 rfl)).e.nf
    | 7, _ => exact (errB_ok (all_mem x1 7 rfl)).e.nf
    | 8, _ => exact (errB_ok (all_mem x1 8 rfl)).e.nf
    | 9, _ => exact (errB_ok (all_mem x1 9 rfl)).e.nf
    | 10, _ => exact (errB_ok (all_mem x1 10 rfl)).e.nf
    | 11, _ => exact (errB_ok (all_mem x1 11 rfl)).e.nf
    | 12, _ => exact (errB_ok (all_mem x1 12 rfl)).e.nf
    | 13, _ => exact (errB_ok (all_mem x1 13 rfl)).e.nf
    | 14, _ => exact (errB_ok (all_mem x1 14 rfl)).e.nf
    | 15, _ => exact (errB_ok (all_mem x1 15 rfl)).e.nf
    | 16, _ => exact (errB_ok (all_mem x1 16 rfl)).e.nf
    | 17, _ => exact (errB_ok (all_mem x1 17 rfl)).e.nf
    | 18, _ => exact (errB_ok (all_mem x1 18 rfl)).e.nf
    | 19, _ => exact (errB_ok (all_mem x1 19 rfl)).e.nf
    | 20, _ => exact (errB_ok (all_mem x1 20 rfl)).e.nf
    | 21, _ => exact (errB_ok (all_mem x1 21 rfl)).e.nf
    | 22, _ => exact (errB_ok (all_mem x1 22 rfl)).e.nf
    | 23, _ => exact (errB_ok (all_mem x1 23 rfl)).e.nf
    | 24, _ => exact (errB_ok (all_mem x1 24 rfl)).e.nf
    | 25, _ => exact (errB_ok (all_mem x1 25 rfl)).e.nf
    | 26, _ => exact (errB_ok (all_mem x1 26 rfl)).e.nf
    | 27, _ => exact (errB_ok (all_mem x1 27 rfl)).e.nf
    | 28, _ => exact (errB_ok (all_mem x1 28 rfl)).e.nf
    | n + 29, h => exact absurd h (by omega)
  · rcases h with rfl | rfl
    · obtain ⟨y1, y2⟩ := He.ba (all_mem x2 0 rfl)
      exact ⟨(errB_ok y1).e.nf, of_decide_eq_true y2⟩
    · obtain ⟨y1, y2⟩ := He.ba (all_mem x2 1 rfl)
      exact ⟨(errB_ok y1).e.nf, of_decide_eq_true y2⟩
theorem facts {P : Program} {w : World} {K : PySem.W.Frag} {h : Heap} {mg : Str → Option Value} {f : Addr} (X : K.In h) (G : h.Ns mainGlobals mg) (hfa : mg ("law" : Str) = some (.ref f)) (c : He.SaysD fa fns K) (x : exF K = true) :
    ∃ fd : FuncData, (∀ (s : Shared) (v : Value), BindsTo s fd ⟨[v], []⟩ [("_law_script", v)]) ∧ ∀ base : Heap, K.In base → base.Ns mainGlobals mg → FnAt P w K mg base (L2.CX P w) callerA f fd ["_law_script"] (spLaw K) := by
  obtain ⟨fd__law_hand, F__law_hand⟩ := c.def_ 0 (d := defD s__law_hand none "_law_hand" []) rfl
  have g__law_hand := He.glo_ok X G (c.fact 0 (f := .glo "_law_hand") rfl)
  obtain ⟨fd__law_mixed, F__law_mixed⟩ := c.def_ 1 (d := defD s__law_mixed none "_law_mixed" []) rfl
  have g__law_mixed := He.glo_ok X G (c.fact 1 (f := .glo "_law_mixed") rfl)
  obtain ⟨fd__law_take, F__law_take⟩ := c.def_ 2 (d := defD s__law_take none "_law_take" []) rfl
  have g__law_take := He.glo_ok X G (c.fact 2 (f := .glo "_law_take") rfl)
  obtain ⟨fd__law_first_classes, F__law_first_classes⟩ := c.def_ 3 (d := defD s__law_first_classes none "_law_first_classes" []) rfl
  have g__law_first_classes := He.glo_ok X G (c.fact 3 (f := .glo "_law_first_classes") rfl)
  obtain ⟨fd__law_other_classes, F__law_other_classes⟩ := c.def_ 4 (d := defD s__law_other_classes none "_law_other_classes" []) rfl
  have g__law_other_classes := He.glo_ok X G (c.fact 4 (f := .glo "_law_other_classes") rfl)
  obtain ⟨fd__law_first_made, F__law_first_made⟩ := c.def_ 5 (d := defD s__law_first_made none "_law_first_made" []) rfl
  have g__law_first_made := He.glo_ok X G (c.fact 5 (f := .glo "_law_first_made") rfl)
  obtain ⟨fd__law_second_made, F__law_second_made⟩ := c.def_ 6 (d := defD s__law_second_made none "_law_second_made" []) rfl
  have g__law_second_made := He.glo_ok X G (c.fact 6 (f := .glo "_law_second_made") rfl)
  obtain ⟨fd__law_third_made, F__law_third_made⟩ := c.def_ 7 (d := defD s__law_third_made none "_law_third_made" []) rfl
  have g__law_third_made := He.glo_ok X G (c.fact 7 (f := .glo "_law_third_made") rfl)
  obtain ⟨fd__law_single, F__law_single⟩ := c.def_ 8 (d := defD s__law_single none "_law_single" []) rfl
  have g__law_single := He.glo_ok X G (c.fact 8 (f := .glo "_law_single") rfl)
  obtain ⟨fd_law, F_law⟩ := c.def_ 9 (d := defD s_law none "law" []) rfl
  have g_law := He.glo_ok X G (c.fact 9 (f := .glo "law") rfl)
  obtain ⟨fd_BadStanding, F_BadStanding⟩ := c.def_ 10 (d := defD m_BadStanding (some "BadStanding") "__init__" []) rfl
  obtain ⟨fd_BadPlaces, F_BadPlaces⟩ := c.def_ 11 (d := defD m_BadPlaces (some "BadPlaces") "__init__" []) rfl
  obtain ⟨fd_BadLayers, F_BadLayers⟩ := c.def_ 12 (d := defD m_BadLayers (some "BadLayers") "__init__" []) rfl
  obtain ⟨fd_BadCount, F_BadCount⟩ := c.def_ 13 (d := defD m_BadCount (some "BadCount") "__init__" []) rfl
  obtain ⟨fd_BadDates, F_BadDates⟩ := c.def_ 14 (d := defD m_BadDates (some "BadDates") "__init__" []) rfl
  obtain ⟨fd_BadLot, F_BadLot⟩ := c.def_ 15 (d := defD m_BadLot (some "BadLot") "__init__" []) rfl
  obtain ⟨fd_BadText, F_BadText⟩ := c.def_ 16 (d := defD m_BadText (some "BadText") "__init__" []) rfl
  obtain ⟨fd_BadRelation, F_BadRelation⟩ := c.def_ 17 (d := defD m_BadRelation (some "BadRelation") "__init__" []) rfl
  obtain ⟨fd_TooMany, F_TooMany⟩ := c.def_ 18 (d := defD m_TooMany (some "TooMany") "__init__" []) rfl
  obtain ⟨fd_BadParts, F_BadParts⟩ := c.def_ 19 (d := defD m_BadParts (some "BadParts") "__init__" []) rfl
  obtain ⟨fd_BadLining, F_BadLining⟩ := c.def_ 20 (d := defD m_BadLining (some "BadLining") "__init__" []) rfl
  obtain ⟨fd_NoLot, F_NoLot⟩ := c.def_ 21 (d := defD m_NoLot (some "NoLot") "__init__" []) rfl
  obtain ⟨fd_BadStray, F_BadStray⟩ := c.def_ 22 (d := defD m_BadStray (some "BadStray") "__init__" []) rfl
  obtain ⟨fd_BadSpoilt, F_BadSpoilt⟩ := c.def_ 23 (d := defD m_BadSpoilt (some "BadSpoilt") "__init__" []) rfl
  obtain ⟨fd_NoFact, F_NoFact⟩ := c.def_ 24 (d := defD m_NoFact (some "NoFact") "__init__" []) rfl
  obtain ⟨fd_NotFitting, F_NotFitting⟩ := c.def_ 25 (d := defD m_NotFitting (some "NotFitting") "__init__" []) rfl
  obtain ⟨fd_NoDate, F_NoDate⟩ := c.def_ 26 (d := defD m_NoDate (some "NoDate") "__init__" []) rfl
  obtain ⟨fd_NotOver, F_NotOver⟩ := c.def_ 27 (d := defD m_NotOver (some "NotOver") "__init__" []) rfl
  obtain ⟨fd_BadClause, F_BadClause⟩ := c.def_ 28 (d := defD m_BadClause (some "BadClause") "__init__" []) rfl
  obtain ⟨fd_NotBroken, F_NotBroken⟩ := c.def_ 29 (d := defD m_NotBroken (some "NotBroken") "__init__" []) rfl
  obtain ⟨fd_NotLesser, F_NotLesser⟩ := c.def_ 30 (d := defD m_NotLesser (some "NotLesser") "__init__" []) rfl
  obtain ⟨fd_BadNumbers, F_BadNumbers⟩ := c.def_ 31 (d := defD m_BadNumbers (some "BadNumbers") "__init__" []) rfl
  obtain ⟨fd_BadWorks, F_BadWorks⟩ := c.def_ 32 (d := defD m_BadWorks (some "BadWorks") "__init__" []) rfl
  obtain ⟨fd_BadRule, F_BadRule⟩ := c.def_ 33 (d := defD m_BadRule (some "BadRule") "__init__" []) rfl
  obtain ⟨fd_NotAFact, F_NotAFact⟩ := c.def_ 34 (d := defD m_NotAFact (some "NotAFact") "__init__" []) rfl
  obtain ⟨fd_NotRuledFact, F_NotRuledFact⟩ := c.def_ 35 (d := defD m_NotRuledFact (some "NotRuledFact") "__init__" []) rfl
  obtain ⟨fd_BadPool, F_BadPool⟩ := c.def_ 36 (d := defD m_BadPool (some "BadPool") "__init__" []) rfl
  obtain ⟨fd_BadWish, F_BadWish⟩ := c.def_ 37 (d := defD m_BadWish (some "BadWish") "__init__" []) rfl
  obtain ⟨fd_BadEdit, F_BadEdit⟩ := c.def_ 38 (d := defD m_BadEdit (some "BadEdit") "__init__" []) rfl
  obtain ⟨fd_BadBook, F_BadBook⟩ := c.def_ 39 (d := defD m_BadBook (some "BadBook") "__init__" []) rfl
  obtain ⟨fd_BadRules, F_BadRules⟩ := c.def_ 40 (d := defD m_BadRules (some "BadRules") "__init__" []) rfl
  have g_DateError := He.glo_ok X G (c.fact 10 (f := .glo "DateError") rfl)
  have g_BadStanding := He.glo_ok X G (c.fact 11 (f := .glo "BadStanding") rfl)
  have g_BadPlaces := He.glo_ok X G (c.fact 12 (f := .glo "BadPlaces") rfl)
  have g_BadLayers := He.glo_ok X G (c.fact 13 (f := .glo "BadLayers") rfl)
  have g_BadCount := He.glo_ok X G (c.fact 14 (f := .glo "BadCount") rfl)
  have g_BadDates := He.glo_ok X G (c.fact 15 (f := .glo "BadDates") rfl)
  have g_BadLot := He.glo_ok X G (c.fact 16 (f := .glo "BadLot") rfl)
  have g_BadText := He.glo_ok X G (c.fact 17 (f := .glo "BadText") rfl)
  have g_BadRelation := He.glo_ok X G (c.fact 18 (f := .glo "BadRelation") rfl)
  have g_TooMany := He.glo_ok X G (c.fact 19 (f := .glo "TooMany") rfl)
  have g_BadParts := He.glo_ok X G (c.fact 20 (f := .glo "BadParts") rfl)
  have g_BadLining := He.glo_ok X G (c.fact 21 (f := .glo "BadLining") rfl)
  have g_NoLot := He.glo_ok X G (c.fact 22 (f := .glo "NoLot") rfl)
  have g_BadStray := He.glo_ok X G (c.fact 23 (f := .glo "BadStray") rfl)
  have g_BadSpoilt := He.glo_ok X G (c.fact 24 (f := .glo "BadSpoilt") rfl)
  have g_NoFact := He.glo_ok X G (c.fact 25 (f := .glo "NoFact") rfl)
  have g_NotFitting := He.glo_ok X G (c.fact 26 (f := .glo "NotFitting") rfl)
  have g_NoDate := He.glo_ok X G (c.fact 27 (f := .glo "NoDate") rfl)
  have g_NotOver := He.glo_ok X G (c.fact 28 (f := .glo "NotOver") rfl)
  have g_BadClause := He.glo_ok X G (c.fact 29 (f := .glo "BadClause") rfl)
  have g_NotBroken := He.glo_ok X G (c.fact 30 (f := .glo "NotBroken") rfl)
  have g_NotLesser := He.glo_ok X G (c.fact 31 (f := .glo "NotLesser") rfl)
  have g_BadNumbers := He.glo_ok X G (c.fact 32 (f := .glo "BadNumbers") rfl)
  have g_BadWorks := He.glo_ok X G (c.fact 33 (f := .glo "BadWorks") rfl)
  have g_BadRule := He.glo_ok X G (c.fact 34 (f := .glo "BadRule") rfl)
  have g_NotAFact := He.glo_ok X G (c.fact 35 (f := .glo "NotAFact") rfl)
  have g_NotRuledFact := He.glo_ok X G (c.fact 36 (f := .glo "NotRuledFact") rfl)
  have g_BadPool := He.glo_ok X G (c.fact 37 (f := .glo "BadPool") rfl)
  have g_BadWish := He.glo_ok X G (c.fact 38 (f := .glo "BadWish") rfl)
  have g_BadEdit := He.glo_ok X G (c.fact 39 (f := .glo "BadEdit") rfl)
  have g_BadBook := He.glo_ok X G (c.fact 40 (f := .glo "BadBook") rfl)
  have g_BadRules := He.glo_ok X G (c.fact 41 (f := .glo "BadRules") rfl)
  have g_BadNumber := He.glo_ok X G (c.fact 42 (f := .glo "BadNumber") rfl)
  have g_OtherPlaces := He.glo_ok X G (c.fact 43 (f := .glo "OtherPlaces") rfl)
  have g_BadDeed := He.glo_ok X G (c.fact 44 (f := .glo "BadDeed") rfl)
  have g_BadCut := He.glo_ok X G (c.fact 45 (f := .glo "BadCut") rfl)
  have g_BadClosing := He.glo_ok X G (c.fact 46 (f := .glo "BadClosing") rfl)
  have g_NoWay := He.glo_ok X G (c.fact 47 (f := .glo "NoWay") rfl)
  have g_NotStuck := He.glo_ok X G (c.fact 48 (f := .glo "NotStuck") rfl)
  have g_BadPlace := He.glo_ok X G (c.fact 49 (f := .glo "BadPlace") rfl)
  have g_NotFit := He.glo_ok X G (c.fact 50 (f := .glo "NotFit") rfl)
  have g_BadMoment := He.glo_ok X G (c.fact 51 (f := .glo "BadMoment") rfl)
  have g_NothingDone := He.glo_ok X G (c.fact 52 (f := .glo "NothingDone") rfl)
  have T : Tf K mg := ⟨He.free_ok X G (c.fact 53 (f := .free "ValueError") rfl), He.free_ok X G (c.fact 54 (f := .free "abs") rfl), He.free_ok X G (c.fact 55 (f := .free "int") rfl), He.free_ok X G (c.fact 56 (f := .free "isinstance") rfl), He.free_ok X G (c.fact 57 (f := .free "len") rfl), He.free_ok X G (c.fact 58 (f := .free "range") rfl), He.free_ok X G (c.fact 59 (f := .free "repr") rfl), He.free_ok X G (c.fact 60 (f := .free "str") rfl), g_BadBook, g_BadClause, g_BadClosing, g_BadCount, g_BadCut, g_BadDates, g_BadDeed, g_BadEdit, g_BadLayers, g_BadLining, g_BadLot, g_BadMoment, g_BadNumber, g_BadNumbers, g_BadParts, g_BadPlace, g_BadPlaces, g_BadPool, g_BadRelation, g_BadRule, g_BadRules, g_BadSpoilt, g_BadStanding, g_BadStray, g_BadText, g_BadWish, g_BadWorks, g_DateError, g_NoDate, g_NoFact, g_NoLot, g_NoWay, g_NotAFact, g_NotBroken, g_NotFit, g_NotFitting, g_NotLesser, g_NotOver, g_NotRuledFact, g_NotStuck, g_NothingDone, g_OtherPlaces, g_TooMany⟩
  have FK := kf x
  obtain ⟨x1, x⟩ := He.ba x
  obtain ⟨x2, x⟩ := He.ba x
  obtain ⟨x3, x⟩ := He.ba x
  have y_BadStanding := errB_ok (x := "BadStanding") (fl := "index") (all_mem x1 0 rfl)
  have er_BadStanding : ∀ base : Heap, Er P w K mg base "BadStanding" "index" := fun base => ⟨y_BadStanding, g_BadStanding, fd_BadStanding, init_ok y_BadStanding.e (by decide) (by decide) (by decide) (Or.inl rfl) (Or.inl rfl) F_BadStanding ⟨rfl, rfl, rfl, by decide +kernel, rfl, by decide +kernel, by decide +kernel⟩ (fun _ => rfl), F_BadStanding.bindsN fun _ _ _ _ _ _ us hl => match us, hl with | [_, _], _ => rfl⟩
  have y_BadPlaces := errB_ok (x := "BadPlaces") (fl := "index") (all_mem x1 1 rfl)
  have er_BadPlaces : ∀ base : Heap, Er P w K mg base "BadPlaces" "index" := fun base => ⟨y_BadPlaces, g_BadPlaces, fd_BadPlaces, init_ok y_BadPlaces.e (by decide) (by decide) (by decide) (Or.inl rfl) (Or.inl rfl) F_BadPlaces ⟨rfl, rfl, rfl, by decide +kernel, rfl, by decide +kernel, by decide +kernel⟩ (fun _ => rfl), F_BadPlaces.bindsN fun _ _ _ _ _ _ us hl => match us, hl with | [_, _], _ => rfl⟩
  have y_BadLayers := errB_ok (x := "BadLayers") (fl := "index") (all_mem x1 2 rfl)
  have er_BadLayers : ∀ base : Heap, Er P w K mg base "BadLayers" "index" := fun base => ⟨y_BadLayers, g_BadLayers, fd_BadLayers, init_ok y_BadLayers.e (by decide) (by decide) (by decide) (Or.inl rfl) (Or.inl rfl) F_BadLayers ⟨rfl, rfl, rfl, by decide +kernel, rfl, by decide +kernel, by decide +kernel⟩ (fun _ => rfl), F_BadLayers.bindsN fun _ _ _ _ _ _ us hl => match us, hl with | [_, _], _ => rfl⟩
  have y_BadCount := errB_ok (x := "BadCount") (fl := "what") (all_mem x1 3 rfl)
  have er_BadCount : ∀ base : Heap, Er P w K mg base "BadCount" "what" := fun base => ⟨y_BadCount, g_BadCount, fd_BadCount, init_ok y_BadCount.e (by decide) (by decide) (by decide) (Or.inl rfl) (Or.inl rfl) F_BadCount ⟨rfl, rfl, rfl, by decide +kernel, rfl, by decide +kernel, by decide +kernel⟩ (fun _ => rfl), F_BadCount.bindsN fun _ _ _ _ _ _ us hl => match us, hl with | [_, _], _ => rfl⟩
  have y_BadDates := errB_ok (x := "BadDates") (fl := "index") (all_mem x1 4 rfl)
  have er_BadDates : ∀ base : Heap, Er P w K mg base "BadDates" "index" := fun base => ⟨y_BadDates, g_BadDates, fd_BadDates, init_ok y_BadDates.e (by decide) (by decide) (by decide) (Or.inl rfl) (Or.inl rfl) F_BadDates ⟨rfl, rfl, rfl, by decide +kernel, rfl, by decide +kernel, by decide +kernel⟩ (fun _ => rfl), F_BadDates.bindsN fun _ _ _ _ _ _ us hl => match us, hl with | [_, _], _ => rfl⟩
  have y_BadLot := errB_ok (x := "BadLot") (fl := "index") (all_mem x1 5 rfl)
  have er_BadLot : ∀ base : Heap, Er P w K mg base "BadLot" "index" := fun base => ⟨y_BadLot, g_BadLot, fd_BadLot, init_ok y_BadLot.e (by decide) (by decide) (by decide) (Or.inl rfl) (Or.inl rfl) F_BadLot ⟨rfl, rfl, rfl, by decide +kernel, rfl, by decide +kernel, by decide +kernel⟩ (fun _ => rfl), F_BadLot.bindsN fun _ _ _ _ _ _ us hl => match us, hl with | [_, _], _ => rfl⟩
  have y_BadText := errB_ok (x := "BadText") (fl := "place") (all_mem x1 6 rfl)
  have er_BadText : ∀ base : Heap, Er P w K mg base "BadText" "place" := fun base => ⟨y_BadText, g_BadText, fd_BadText, init_ok y_BadText.e (by decide) (by decide) (by decide) (Or.inl rfl) (Or.inl rfl) F_BadText ⟨rfl, rfl, rfl, by decide +kernel, rfl, by decide +kernel, by decide +kernel⟩ (fun _ => rfl), F_BadText.bindsN fun _ _ _ _ _ _ us hl => match us, hl with | [_, _], _ => rfl⟩
  have y_BadRelation := errB_ok (x := "BadRelation") (fl := "what") (all_mem x1 7 rfl)
  have er_BadRelation : ∀ base : Heap, Er P w K mg base "BadRelation" "what" := fun base => ⟨y_BadRelation, g_BadRelation, fd_BadRelation, init_ok y_BadRelation.e (by decide) (by decide) (by decide) (Or.inl rfl) (Or.inl rfl) F_BadRelation ⟨rfl, rfl, rfl, by decide +kernel, rfl, by decide +kernel, by decide +kernel⟩ (fun _ => rfl), F_BadRelation.bindsN fun _ _ _ _ _ _ us hl => match us, hl with | [_, _], _ => rfl⟩
  have y_TooMany := errB_ok (x := "TooMany") (fl := "most") (all_mem x1 8 rfl)
  have er_TooMany : ∀ base : Heap, Er P w K mg base "TooMany" "most" := fun base => ⟨y_TooMany, g_TooMany, fd_TooMany, init_ok y_TooMany.e (by decide) (by decide) (by decide) (Or.inl rfl) (Or.inl rfl) F_TooMany ⟨rfl, rfl, rfl, by decide +kernel, rfl, by decide +kernel, by decide +kernel⟩ (fun _ => rfl), F_TooMany.bindsN fun _ _ _ _ _ _ us hl => match us, hl with | [_, _], _ => rfl⟩
  have y_BadParts := errB_ok (x := "BadParts") (fl := "index") (all_mem x1 9 rfl)
  have er_BadParts : ∀ base : Heap, Er P w K mg base "BadParts" "index" := fun base => ⟨y_BadParts, g_BadParts, fd_BadParts, init_ok y_BadParts.e (by decide) (by decide) (by decide) (Or.inl rfl) (Or.inl rfl) F_BadParts ⟨rfl, rfl, rfl, by decide +kernel, rfl, by decide +kernel, by decide +kernel⟩ (fun _ => rfl), F_BadParts.bindsN fun _ _ _ _ _ _ us hl => match us, hl with | [_, _], _ => rfl⟩
  have y_BadLining := errB_ok (x := "BadLining") (fl := "index") (all_mem x1 10 rfl)
  have er_BadLining : ∀ base : Heap, Er P w K mg base "BadLining" "index" := fun base => ⟨y_BadLining, g_BadLining, fd_BadLining, init_ok y_BadLining.e (by decide) (by decide) (by decide) (Or.inl rfl) (Or.inl rfl) F_BadLining ⟨rfl, rfl, rfl, by decide +kernel, rfl, by decide +kernel, by decide +kernel⟩ (fun _ => rfl), F_BadLining.bindsN fun _ _ _ _ _ _ us hl => match us, hl with | [_, _], _ => rfl⟩
  have y_NoLot := errB_ok (x := "NoLot") (fl := "index") (all_mem x1 11 rfl)
  have er_NoLot : ∀ base : Heap, Er P w K mg base "NoLot" "index" := fun base => ⟨y_NoLot, g_NoLot, fd_NoLot, init_ok y_NoLot.e (by decide) (by decide) (by decide) (Or.inl rfl) (Or.inl rfl) F_NoLot ⟨rfl, rfl, rfl, by decide +kernel, rfl, by decide +kernel, by decide +kernel⟩ (fun _ => rfl), F_NoLot.bindsN fun _ _ _ _ _ _ us hl => match us, hl with | [_, _], _ => rfl⟩
  have y_BadStray := errB_ok (x := "BadStray") (fl := "what") (all_mem x1 12 rfl)
  have er_BadStray : ∀ base : Heap, Er P w K mg base "BadStray" "what" := fun base => ⟨y_BadStray, g_BadStray, fd_BadStray, init_ok y_BadStray.e (by decide) (by decide) (by decide) (Or.inl rfl) (Or.inl rfl) F_BadStray ⟨rfl, rfl, rfl, by decide +kernel, rfl, by decide +kernel, by decide +kernel⟩ (fun _ => rfl), F_BadStray.bindsN fun _ _ _ _ _ _ us hl => match us, hl with | [_, _], _ => rfl⟩
  have y_BadSpoilt := errB_ok (x := "BadSpoilt") (fl := "what") (all_mem x1 13 rfl)
  have er_BadSpoilt : ∀ base : Heap, Er P w K mg base "BadSpoilt" "what" := fun base => ⟨y_BadSpoilt, g_BadSpoilt, fd_BadSpoilt, init_ok y_BadSpoilt.e (by decide) (by decide) (by decide) (Or.inl rfl) (Or.inl rfl) F_BadSpoilt ⟨rfl, rfl, rfl, by decide +kernel, rfl, by decide +kernel, by decide +kernel⟩ (fun _ => rfl), F_BadSpoilt.bindsN fun _ _ _ _ _ _ us hl => match us, hl with | [_, _], _ => rfl⟩
  have y_NoFact := errB_ok (x := "NoFact") (fl := "number") (all_mem x1 14 rfl)
  have er_NoFact : ∀ base : Heap, Er P w K mg base "NoFact" "number" := fun base => ⟨y_NoFact, g_NoFact, fd_NoFact, init_ok y_NoFact.e (by decide) (by decide) (by decide) (Or.inl rfl) (Or.inl rfl) F_NoFact ⟨rfl, rfl, rfl, by decide +kernel, rfl, by decide +kernel, by decide +kernel⟩ (fun _ => rfl), F_NoFact.bindsN fun _ _ _ _ _ _ us hl => match us, hl with | [_, _], _ => rfl⟩
  have y_NotFitting := errB_ok (x := "NotFitting") (fl := "fact") (all_mem x1 15 rfl)
  have er_NotFitting : ∀ base : Heap, Er P w K mg base "NotFitting" "fact" := fun base => ⟨y_NotFitting, g_NotFitting, fd_NotFitting, init_ok y_NotFitting.e (by decide) (by decide) (by decide) (Or.inl rfl) (Or.inl rfl) F_NotFitting ⟨rfl, rfl, rfl, by decide +kernel, rfl, by decide +kernel, by decide +kernel⟩ (fun _ => rfl), F_NotFitting.bindsN fun _ _ _ _ _ _ us hl => match us, hl with | [_, _], _ => rfl⟩
  have y_NoDate := errB_ok (x := "NoDate") (fl := "date") (all_mem x1 16 rfl)
  have er_NoDate : ∀ base : Heap, Er P w K mg base "NoDate" "date" := fun base => ⟨y_NoDate, g_NoDate, fd_NoDate, init_ok y_NoDate.e (by decide) (by decide) (by decide) (Or.inl rfl) (Or.inl rfl) F_NoDate ⟨rfl, rfl, rfl, by decide +kernel, rfl, by decide +kernel, by decide +kernel⟩ (fun _ => rfl), F_NoDate.bindsN fun _ _ _ _ _ _ us hl => match us, hl with | [_, _], _ => rfl⟩
  have y_NotOver := errB_ok (x := "NotOver") (fl := "fact") (all_mem x1 17 rfl)
  have er_NotOver : ∀ base : Heap, Er P w K mg base "NotOver" "fact" := fun base => ⟨y_NotOver, g_NotOver, fd_NotOver, init_ok y_NotOver.e (by decide) (by decide) (by decide) (Or.inl rfl) (Or.inl rfl) F_NotOver ⟨rfl, rfl, rfl, by decide +kernel, rfl, by decide +kernel, by decide +kernel⟩ (fun _ => rfl), F_NotOver.bindsN fun _ _ _ _ _ _ us hl => match us, hl with | [_, _], _ => rfl⟩
  have y_BadClause := errB_ok (x := "BadClause") (fl := "what") (all_mem x1 18 rfl)
  have er_BadClause : ∀ base : Heap, Er P w K mg base "BadClause" "what" := fun base => ⟨y_BadClause, g_BadClause, fd_BadClause, init_ok y_BadClause.e (by decide) (by decide) (by decide) (Or.inl rfl) (Or.inl rfl) F_BadClause ⟨rfl, rfl, rfl, by decide +kernel, rfl, by decide +kernel, by decide +kernel⟩ (fun _ => rfl), F_BadClause.bindsN fun _ _ _ _ _ _ us hl => match us, hl with | [_, _], _ => rfl⟩
  have y_NotBroken := errB_ok (x := "NotBroken") (fl := "index") (all_mem x1 19 rfl)
  have er_NotBroken : ∀ base : Heap, Er P w K mg base "NotBroken" "index" := fun base => ⟨y_NotBroken, g_NotBroken, fd_NotBroken, init_ok y_NotBroken.e (by decide) (by decide) (by decide) (Or.inl rfl) (Or.inl rfl) F_NotBroken ⟨rfl, rfl, rfl, by decide +kernel, rfl, by decide +kernel, by decide +kernel⟩ (fun _ => rfl), F_NotBroken.bindsN fun _ _ _ _ _ _ us hl => match us, hl with | [_, _], _ => rfl⟩
  have y_NotLesser := errB_ok (x := "NotLesser") (fl := "fact") (all_mem x1 20 rfl)
  have er_NotLesser : ∀ base : Heap, Er P w K mg base "NotLesser" "fact" := fun base => ⟨y_NotLesser, g_NotLesser, fd_NotLesser, init_ok y_NotLesser.e (by decide) (by decide) (by decide) (Or.inl rfl) (Or.inl rfl) F_NotLesser ⟨rfl, rfl, rfl, by decide +kernel, rfl, by decide +kernel, by decide +kernel⟩ (fun _ => rfl), F_NotLesser.bindsN fun _ _ _ _ _ _ us hl => match us, hl with | [_, _], _ => rfl⟩
  have y_BadNumbers := errB_ok (x := "BadNumbers") (fl := "index") (all_mem x1 21 rfl)
  have er_BadNumbers : ∀ base : Heap, Er P w K mg base "BadNumbers" "index" := fun base => ⟨y_BadNumbers, g_BadNumbers, fd_BadNumbers, init_ok y_BadNumbers.e (by decide) (by decide) (by decide) (Or.inl rfl) (Or.inl rfl) F_BadNumbers ⟨rfl, rfl, rfl, by decide +kernel, rfl, by decide +kernel, by decide +kernel⟩ (fun _ => rfl), F_BadNumbers.bindsN fun _ _ _ _ _ _ us hl => match us, hl with | [_, _], _ => rfl⟩
  have y_BadWorks := errB_ok (x := "BadWorks") (fl := "index") (all_mem x1 22 rfl)
  have er_BadWorks : ∀ base : Heap, Er P w K mg base "BadWorks" "index" := fun base => ⟨y_BadWorks, g_BadWorks, fd_BadWorks, init_ok y_BadWorks.e (by decide) (by decide) (by decide) (Or.inl rfl) (Or.inl rfl) F_BadWorks ⟨rfl, rfl, rfl, by decide +kernel, rfl, by decide +kernel, by decide +kernel⟩ (fun _ => rfl), F_BadWorks.bindsN fun _ _ _ _ _ _ us hl => match us, hl with | [_, _], _ => rfl⟩
  have y_BadRule := errB_ok (x := "BadRule") (fl := "what") (all_mem x1 23 rfl)
  have er_BadRule : ∀ base : Heap, Er P w K mg base "BadRule" "what" := fun base => ⟨y_BadRule, g_BadRule, fd_BadRule, init_ok y_BadRule.e (by decide) (by decide) (by decide) (Or.inl rfl) (Or.inl rfl) F_BadRule ⟨rfl, rfl, rfl, by decide +kernel, rfl, by decide +kernel, by decide +kernel⟩ (fun _ => rfl), F_BadRule.bindsN fun _ _ _ _ _ _ us hl => match us, hl with | [_, _], _ => rfl⟩
  have y_NotAFact := errB_ok (x := "NotAFact") (fl := "number") (all_mem x1 24 rfl)
  have er_NotAFact : ∀ base : Heap, Er P w K mg base "NotAFact" "number" := fun base => ⟨y_NotAFact, g_NotAFact, fd_NotAFact, init_ok y_NotAFact.e (by decide) (by decide) (by decide) (Or.inl rfl) (Or.inl rfl) F_NotAFact ⟨rfl, rfl, rfl, by decide +kernel, rfl, by decide +kernel, by decide +kernel⟩ (fun _ => rfl), F_NotAFact.bindsN fun _ _ _ _ _ _ us hl => match us, hl with | [_, _], _ => rfl⟩
  have y_NotRuledFact := errB_ok (x := "NotRuledFact") (fl := "fact") (all_mem x1 25 rfl)
  have er_NotRuledFact : ∀ base : Heap, Er P w K mg base "NotRuledFact" "fact" := fun base => ⟨y_NotRuledFact, g_NotRuledFact, fd_NotRuledFact, init_ok y_NotRuledFact.e (by decide) (by decide) (by decide) (Or.inl rfl) (Or.inl rfl) F_NotRuledFact ⟨rfl, rfl, rfl, by decide +kernel, rfl, by decide +kernel, by decide +kernel⟩ (fun _ => rfl), F_NotRuledFact.bindsN fun _ _ _ _ _ _ us hl => match us, hl with | [_, _], _ => rfl⟩
  have y_BadPool := errB_ok (x := "BadPool") (fl := "index") (all_mem x1 26 rfl)
  have er_BadPool : ∀ base : Heap, Er P w K mg base "BadPool" "index" := fun base => ⟨y_BadPool, g_BadPool, fd_BadPool, init_ok y_BadPool.e (by decide) (by decide) (by decide) (Or.inl rfl) (Or.inl rfl) F_BadPool ⟨rfl, rfl, rfl, by decide +kernel, rfl, by decide +kernel, by decide +kernel⟩ (fun _ => rfl), F_BadPool.bindsN fun _ _ _ _ _ _ us hl => match us, hl with | [_, _], _ => rfl⟩
  have y_BadWish := errB_ok (x := "BadWish") (fl := "index") (all_mem x1 27 rfl)
  have er_BadWish : ∀ base : Heap, Er P w K mg base "BadWish" "index" := fun base => ⟨y_BadWish, g_BadWish, fd_BadWish, init_ok y_BadWish.e (by decide) (by decide) (by decide) (Or.inl rfl) (Or.inl rfl) F_BadWish ⟨rfl, rfl, rfl, by decide +kernel, rfl, by decide +kernel, by decide +kernel⟩ (fun _ => rfl), F_BadWish.bindsN fun _ _ _ _ _ _ us hl => match us, hl with | [_, _], _ => rfl⟩
  have y_BadEdit := errB_ok (x := "BadEdit") (fl := "index") (all_mem x1 28 rfl)
  have er_BadEdit : ∀ base : Heap, Er P w K mg base "BadEdit" "index" := fun base => ⟨y_BadEdit, g_BadEdit, fd_BadEdit, init_ok y_BadEdit.e (by decide) (by decide) (by decide) (Or.inl rfl) (Or.inl rfl) F_BadEdit ⟨rfl, rfl, rfl, by decide +kernel, rfl, by decide +kernel, by decide +kernel⟩ (fun _ => rfl), F_BadEdit.bindsN fun _ _ _ _ _ _ us hl => match us, hl with | [_, _], _ => rfl⟩
  obtain ⟨z_BadBook, w_BadBook⟩ := He.ba (all_mem x2 0 rfl)
  have y_BadBook := errB_ok (x := "BadBook") (fl := "index") z_BadBook
  have er2_BadBook : ∀ base : Heap, Er2 P w K mg base "BadBook" "index" "what" := fun base => ⟨y_BadBook, of_decide_eq_true w_BadBook, g_BadBook, fd_BadBook, init_ok2 y_BadBook.e (of_decide_eq_true w_BadBook) (by decide) (by decide) (by decide) (by decide) (Or.inl rfl) (Or.inl rfl) (Or.inl rfl) F_BadBook ⟨rfl, rfl, rfl, by decide +kernel, rfl, by decide +kernel, by decide +kernel⟩ (fun _ => rfl) (fun _ => rfl), F_BadBook.bindsN fun _ _ _ _ _ _ us hl => match us, hl with | [_, _, _], _ => rfl⟩
  obtain ⟨z_BadRules, w_BadRules⟩ := He.ba (all_mem x2 1 rfl)
  have y_BadRules := errB_ok (x := "BadRules") (fl := "index") z_BadRules
  have er2_BadRules : ∀ base : Heap, Er2 P w K mg base "BadRules" "index" "what" := fun base => ⟨y_BadRules, of_decide_eq_true w_BadRules, g_BadRules, fd_BadRules, init_ok2 y_BadRules.e (of_decide_eq_true w_BadRules) (by decide) (by decide) (by decide) (by decide) (Or.inl rfl) (Or.inl rfl) (Or.inl rfl) F_BadRules ⟨rfl, rfl, rfl, by decide +kernel, rfl, by decide +kernel, by decide +kernel⟩ (fun _ => rfl) (fun _ => rfl), F_BadRules.bindsN fun _ _ _ _ _ _ us hl => match us, hl with | [_, _, _], _ => rfl⟩
  have e0_BadNumber : Er0 K mg "BadNumber" := ⟨(He.ba (all_mem x3 0 rfl)).1, (He.ba (all_mem x3 0 rfl)).2, g_BadNumber⟩
  have e0_OtherPlaces : Er0 K mg "OtherPlaces" := ⟨(He.ba (all_mem x3 1 rfl)).1, (He.ba (all_mem x3 1 rfl)).2, g_OtherPlaces⟩
  have e0_BadDeed : Er0 K mg "BadDeed" := ⟨(He.ba (all_mem x3 2 rfl)).1, (He.ba (all_mem x3 2 rfl)).2, g_BadDeed⟩
  have e0_BadCut : Er0 K mg "BadCut" := ⟨(He.ba (all_mem x3 3 rfl)).1, (He.ba (all_mem x3 3 rfl)).2, g_BadCut⟩
  have e0_BadClosing : Er0 K mg "BadClosing" := ⟨(He.ba (all_mem x3 4 rfl)).1, (He.ba (all_mem x3 4 rfl)).2, g_BadClosing⟩
  have e0_NoWay : Er0 K mg "NoWay" := ⟨(He.ba (all_mem x3 5 rfl)).1, (He.ba (all_mem x3 5 rfl)).2, g_NoWay⟩
  have e0_NotStuck : Er0 K mg "NotStuck" := ⟨(He.ba (all_mem x3 6 rfl)).1, (He.ba (all_mem x3 6 rfl)).2, g_NotStuck⟩
  have e0_BadPlace : Er0 K mg "BadPlace" := ⟨(He.ba (all_mem x3 7 rfl)).1, (He.ba (all_mem x3 7 rfl)).2, g_BadPlace⟩
  have e0_NotFit : Er0 K mg "NotFit" := ⟨(He.ba (all_mem x3 8 rfl)).1, (He.ba (all_mem x3 8 rfl)).2, g_NotFit⟩
  have e0_BadMoment : Er0 K mg "BadMoment" := ⟨(He.ba (all_mem x3 9 rfl)).1, (He.ba (all_mem x3 9 rfl)).2, g_BadMoment⟩
  have e0_NothingDone : Er0 K mg "NothingDone" := ⟨(He.ba (all_mem x3 10 rfl)).1, (He.ba (all_mem x3 10 rfl)).2, g_NothingDone⟩
  have e := hfa.symm.trans g_law
  cases e
  have b := FunD.bindsA (ps := ["_law_script"]) F_law fun _ _ _ _ _ _ us hl => match us, hl with | [_], _ => rfl
  refine ⟨fd_law, fun s v => b s [v] rfl, fun base _ _ => ?_⟩
  refine fn_law F_law T (mk_c__law_hand F__law_hand T g__law_hand) fun hd c hne => ?_
  have c__law_mixed := mk_c__law_mixed (P := P) (w := w) (base := base) (I := handI hd c) F__law_mixed T g__law_mixed 
  have c__law_take := mk_c__law_take (P := P) (w := w) (base := base) F__law_take hne T g__law_take c__law_mixed
  have c__law_first_classes := mk_c__law_first_classes (P := P) (w := w) (base := base) (I := handI hd c) F__law_first_classes T g__law_first_classes FK
  have c__law_other_classes := mk_c__law_other_classes (P := P) (w := w) (base := base) (I := handI hd c) F__law_other_classes T g__law_other_classes FK
  have c__law_first_made := mk_c__law_first_made (P := P) (w := w) (base := base) (I := handI hd c) F__law_first_made T g__law_first_made (er_BadCount base) (er_BadDates base) (er_BadLayers base) (er_BadLining base) (er_BadLot base) (er_BadParts base) (er_BadPlaces base) (er_BadRelation base) (er_BadSpoilt base) (er_BadStanding base) (er_BadStray base) (er_BadText base) (er_NoFact base) (er_NoLot base) (er_NotFitting base) (er_TooMany base) FK
  have c__law_second_made := mk_c__law_second_made (P := P) (w := w) (base := base) (I := handI hd c) F__law_second_made T g__law_second_made (er_BadClause base) (er_BadEdit base) (er_BadNumbers base) (er_BadPool base) (er_BadRule base) (er_BadWish base) (er_BadWorks base) (er_NoDate base) (er_NotAFact base) (er_NotBroken base) (er_NotLesser base) (er_NotOver base) (er_NotRuledFact base) FK
  have c__law_third_made := mk_c__law_third_made (P := P) (w := w) (base := base) (I := handI hd c) F__law_third_made T g__law_third_made (er2_BadBook base) (er2_BadRules base) e0_BadClosing e0_BadCut e0_BadDeed e0_BadMoment e0_BadNumber e0_BadPlace e0_NoWay e0_NotFit e0_NotStuck e0_NothingDone e0_OtherPlaces FK
  have c__law_single := mk_c__law_single (P := P) (w := w) (base := base) (I := handI hd c) F__law_single T g__law_single c__law_first_classes c__law_other_classes FK
  exact ⟨c__law_first_made, c__law_second_made, c__law_single, c__law_take, c__law_third_made⟩
end K70
open PySem PySem.W PySem.Calls PyProof.Rows
theorem PySem.Challenge.cw_earliestlots_k70_errors_stand_straight_u_holds : PySem.Challenge.rw_earliestlots_k70_errors_stand_straight_u.Holds := by
  w_on; o_law
  refine HandSHeadRun.head_any (r := OpenLaw.row PySem.Challenge.rw_earliestlots_k70_errors_stand_straight_u) (q := view (OpenLaw.row PySem.Challenge.rw_earliestlots_k70_errors_stand_straight_u).prog [54]) (H := K70.hk) (ob := K70.ob) (M := 20000) (loose := K70.names) (d := HandSHeadRun.topDef (OpenLaw.row PySem.Challenge.rw_earliestlots_k70_errors_stand_straight_u).prog 54) (kwd := []) K70.ob_eq
    (by kernel_rfl) (fun s => by kernel_rfl) K70.run (by kernel_rfl) (by kernel_rfl) (by kernel_rfl) (by rfl) (by first | assumption | decide +kernel) (by decide +kernel) ⟨rfl, rfl, rfl, rfl, rfl, by decide +kernel⟩ ?hw ?hc
  case hw => w_witness2
  case hc =>
    refine Dl.walk_at (l := PySem.Challenge.rw_earliestlots_k70_errors_stand_straight_u) (n := 63) (x := "_law_script") rfl (by decide) (by kernel_rfl) ?F
    intro w mg fa h Y G hmg0
    obtain ⟨K, KX, c, x⟩ := Y
    have hmg : mg ("law" : PySem.Str) = some (.ref fa) := by
      have e : (HandSHeadRun.topDef (OpenLaw.row PySem.Challenge.rw_earliestlots_k70_errors_stand_straight_u).prog 54).name = ("law" : PySem.Str) := by kernel_rfl
      rw [← e]
      exact hmg0
    obtain ⟨fd, hb, hF⟩ := K70.facts (P := PySem.Challenge.rw_earliestlots_k70_errors_stand_straight_u.prog) (w := w) KX G hmg c x
    exact ⟨K, fd, Dl.spLaw K, KX, hb, fun H a ns hl ho hS => ⟨a, ns, rfl, hl, ho, hS, fun _ => rfl⟩, fun base h1 h2 => K70.quiet (hF base h1 h2)⟩

