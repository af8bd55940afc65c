import PyProof.Rows.All
import Wide.All
import OpenK.AllK
import Wide.FinOn
import HandS.Base
import HandS.Call
import HandS.List
import HandS.Comp
import HandS.Iter
import HandS.Words
import HandS.WordsList
import HandS.Conv
import HandS.TupAny
import HandS.TupLe
import HandS.IsInst
import HandS.Flow
import HandS.Deep
import HandS.ExcInit
import KE.KeyNested
import HandS.Wide
import HandS.SortInts
import HandS.Exc
import HandS.ExcOwn
import HandS.WordsExc
import HandS.Strs
import HandS.Text
import HandS.Defaults
import HandS.More
import KE.GoesMore
import KE.GoesEnum
import HandS.Zip
import KE.KStateDown
import HandS.Head0
import HandS.Head1
import HandS.Head2
import HandS.HeadEnd
import HandS.HeadHook1
import HandS.HeadHook2
import HandS.ExcField
import HandS.SortOrd
import PyProof.TupleOfSeq
import HandS.ExcValue
import HandS.ExcIs
import KE.KExcIs
import HandS.Ends
import HandS.TupSets
import HandS.SetBool
import KE.SortData
import HandS.SetFor
import KE.DataMinMax
import HandS.SortKw
import HandS.DictComp
import HandS.TupMul
import HandS.TryMany
import HandS.Style
import PySem.Challenge.RW_earliestlots_k09_whole_deeds_of_numbers
set_option Elab.async false
set_option linter.all false
set_option maxRecDepth 100000
set_option maxHeartbeats 4000000
set_option autoImplicit false
namespace Dl
open PySem PySem.Spec PyProof.Rows L2

inductive OKd where
  | cau (a dd : Addr) | exv (C : Addr) | exn (C : Addr) | ins (C : Addr) | scr | dct (ks : List Key) | dcn (ks : List NestedKey)
inductive D where
  | obj (k : OKd) (ns : List Str) (ds : List D) | non | bl (b : Bool) | int (i : Int) | str (x : Str) | tup (xs : List D) | lst (xs : List D) | ref (a : Addr) | ty (n : String)

def NRaw (h : Heap) (a : Addr) (L : List (NestedKey × Addr × V)) : Prop :=
  (a == sysModules) = false ∧ L.length ≤ sizeLine ∧ (L.map (·.1)).Nodup ∧ ∃ o es ep, h.get? a = some o ∧ o.ExactDict ∧ o.data = .dict es ep ∧
    Paired (fun (p : NestedKey × Addr × V) (e : DictEntry) => (∀ w, e.hash = p.1.hash w) ∧ e.key = .ref p.2.1 ∧ RelV p.2.2 e.val) L es.toList
def NDO (a : Addr) (L : List (NestedKey × Addr × V)) : HO := .ext fun h => NRaw h a L
def KT (K : PySem.W.Frag) (a : Addr) (xs : List V) : Prop := ∃ (o : Obj) (its : Array Value) (n : Nat), K.lookup a = some o ∧ o.cls = .type "tuple" ∧ o.data = .seq its n ∧ its.size ≤ sizeLine ∧ Vals xs its.toList
def TupA (K : PySem.W.Frag) (Av : Addr → Prop) (H : Hp) (a : Addr) (xs : List V) : Prop := (¬ Av a ∧ H a = some (.tup xs)) ∨ KT K a xs
theorem TupA.sq {K : PySem.W.Frag} {Av : Addr → Prop} {H : Hp} {a : Addr} {xs : List V} (h : TupA K Av H a xs) : SqT K H a xs := h.imp (fun x => .inl x.2) id
def ObjA (K : PySem.W.Frag) (Av : Addr → Prop) (H : Hp) (k : OKd) (v : V) (ns : List Str) (ws : List V) : Prop := match k with
  | .cau a dd => v = .ref a ∧ ¬ Av dd ∧ H dd = some (.xd (ns.zip ws))
  | .exv C => ∃ a dd, v = .ref a ∧ (¬ Av a ∧ H a = some (exo a C (some dd))) ∧ ¬ Av dd ∧ H dd = some (exd dd (ns.zip ws))
  | .exn C => ∃ a, v = .ref a ∧ (¬ Av a ∧ H a = some (exo a C none))
  | .ins C => ∃ a dx, v = .ref a ∧ (¬ Av a ∧ H a = some (.ins C dx (ns.zip ws))) ∧ ¬ Av dx ∧ H dx = some (.own a)
  | .dct ks => ∃ a, v = .ref a ∧ ¬ Av a ∧ H a = some (.dK (ks.zip ws))
  | .dcn ks => ∃ (a : Addr) (T : List (Addr × V)), v = .ref a ∧ ws = T.map (fun t => V.ref t.1) ++ T.map (fun t => t.2) ∧ T.length = ks.length ∧ ¬ Av a ∧ H a = some (NDO a (ks.zip T))
  | .scr => ∃ a, v = .ref a ∧ ((¬ Av a ∧ ∃ o, H a = some (.frz o (.lst ws))) ∨ ∀ G, SqL K G a ws)
mutual
def Den (K : PySem.W.Frag) (Av : Addr → Prop) (H : Hp) : V → D → Prop
  | v, .obj k ns ds => ∃ ws, ws.length = ns.length ∧ ObjA K Av H k v ns ws ∧ DenA K Av H ws ds
  | v, .non => v = .non
  | v, .bl b => v = .bl b
  | v, .int i => v = .int i
  | v, .str x => v = .str x
  | v, .ref a => v = .ref a
  | v, .ty n => v = .ty n
  | v, .tup ds => ∃ a vs, v = .ref a ∧ SqT K H a vs ∧ TupA K Av H a vs ∧ DenA K Av H vs ds
  | v, .lst ds => ∃ a vs, v = .ref a ∧ H a = some (.lst vs) ∧ ¬ Av a ∧ DenA K Av H vs ds
def DenA (K : PySem.W.Frag) (Av : Addr → Prop) (H : Hp) : List V → List D → Prop
  | vs, [] => vs = []
  | vs, d :: ds => ∃ v r, vs = v :: r ∧ Den K Av H v d ∧ DenA K Av H r ds
end

def Kp (Av : Addr → Prop) (H H' : Hp) : Prop := ∀ a o, ¬ Av a → H a = some o → H' a = some o
theorem Kp.refl {Av : Addr → Prop} {H : Hp} : Kp Av H H := fun _ _ _ h => h
theorem Kp.trans {Av : Addr → Prop} {H H1 H2 : Hp} (a : Kp Av H H1) (b : Kp Av H1 H2) : Kp Av H H2 := fun x o n h => b x o n (a x o n h)
theorem Kp.weak {Av Bv : Addr → Prop} {H H1 : Hp} (a : Kp Av H H1) (s : ∀ x, Av x → Bv x) : Kp Bv H H1 := fun x o n h => a x o (fun z => n (s x z)) h
theorem Kp.new {Av : Addr → Prop} {H : Hp} {p : Addr} {o : HO} (h : H p = none) : Kp Av H (upd H p o) := fun a u _ e => by
  rw [upd_ne (ne_of_none e h)]; exact e
theorem Kp.mut {Av : Addr → Prop} {H : Hp} {p : Addr} {o : HO} (h : Av p) : Kp Av H (upd H p o) := fun a u n e => by
  rw [upd_ne (fun z => n (by rw [z]; exact h))]; exact e

section
variable {K : PySem.W.Frag} {Av Bv : Addr → Prop} {H H' : Hp}
theorem TupA.keep {a : Addr} {xs : List V} (k : Kp Av H H') (h : TupA K Av H a xs) : TupA K Av H' a xs := h.imp (fun x => ⟨x.1, k _ _ x.1 x.2⟩) id
theorem TupA.weak {a : Addr} {xs : List V} (s : ∀ a, Bv a → Av a) (h : TupA K Av H a xs) : TupA K Bv H a xs := h.imp (fun x => ⟨fun z => x.1 (s _ z), x.2⟩) id
theorem ObjA.keep {q : OKd} {v : V} {ns : List Str} {ws : List V} (k : Kp Av H H') (h : ObjA K Av H q v ns ws) : ObjA K Av H' q v ns ws := by
  cases q with
  | cau a dd => exact ⟨h.1, h.2.1, k _ _ h.2.1 h.2.2⟩
  | exv C => obtain ⟨a, dd, e, h1, h2, h3⟩ := h; exact ⟨a, dd, e, ⟨h1.1, k _ _ h1.1 h1.2⟩, h2, k _ _ h2 h3⟩
  | exn C => obtain ⟨a, e, h1⟩ := h; exact ⟨a, e, ⟨h1.1, k _ _ h1.1 h1.2⟩⟩
  | ins C => obtain ⟨a, dd, e, h1, h2, h3⟩ := h; exact ⟨a, dd, e, ⟨h1.1, k _ _ h1.1 h1.2⟩, h2, k _ _ h2 h3⟩
  | scr => obtain ⟨a, e, h⟩ := h; exact ⟨a, e, h.imp (fun ⟨n, o, h⟩ => ⟨n, o, k _ _ n h⟩) id⟩
  | dct ks => obtain ⟨a, e, n, h⟩ := h; exact ⟨a, e, n, k _ _ n h⟩
  | dcn ks => obtain ⟨a, T, e, e2, l, n, h⟩ := h; exact ⟨a, T, e, e2, l, n, k _ _ n h⟩
theorem ObjA.weak {q : OKd} {v : V} {ns : List Str} {ws : List V} (s : ∀ a, Bv a → Av a) (h : ObjA K Av H q v ns ws) : ObjA K Bv H q v ns ws := by
  cases q with
  | cau a dd => exact ⟨h.1, fun z => h.2.1 (s _ z), h.2.2⟩
  | exv C => obtain ⟨a, dd, e, h1, h2, h3⟩ := h; exact ⟨a, dd, e, ⟨fun z => h1.1 (s _ z), h1.2⟩, fun z => h2 (s _ z), h3⟩
  | exn C => obtain ⟨a, e, h1⟩ := h; exact ⟨a, e, ⟨fun z => h1.1 (s _ z), h1.2⟩⟩
  | ins C => obtain ⟨a, dd, e, h1, h2, h3⟩ := h; exact ⟨a, dd, e, ⟨fun z => h1.1 (s _ z), h1.2⟩, fun z => h2 (s _ z), h3⟩
  | scr => obtain ⟨a, e, h⟩ := h; exact ⟨a, e, h.imp (fun ⟨n, o, h⟩ => ⟨fun z => n (s _ z), o, h⟩) id⟩
  | dct ks => obtain ⟨a, e, n, h⟩ := h; exact ⟨a, e, fun z => n (s _ z), h⟩
  | dcn ks => obtain ⟨a, T, e, e2, l, n, h⟩ := h; exact ⟨a, T, e, e2, l, fun z => n (s _ z), h⟩
theorem ObjA.more {q : OKd} {v : V} {ns : List Str} {ws : List V} (s : ∀ a, Bv a → Av a ∨ H a = none ∨ ∃ xs, H a = some (.lst xs)) (h : ObjA K Av H q v ns ws) : ObjA K Bv H q v ns ws := by
  have n1 : ∀ {a : Addr} {o : HO}, ¬ Av a → H a = some o → (∀ xs, o ≠ .lst xs) → ¬ Bv a := fun {a o} n e d z => by
    rcases s _ z with z | z | ⟨xs, z⟩
    · exact n z
    · rw [e] at z; cases z
    · rw [e] at z; exact d xs (Option.some.inj z)
  cases q with
  | cau a dd => exact ⟨h.1, n1 h.2.1 h.2.2 (fun _ z => by cases z), h.2.2⟩
  | exv C => obtain ⟨a, dd, e, h1, h2, h3⟩ := h; exact ⟨a, dd, e, ⟨n1 h1.1 h1.2 (fun _ z => by unfold exo at z; cases z), h1.2⟩, n1 h2 h3 (fun _ z => by unfold exd at z; cases z), h3⟩
  | exn C => obtain ⟨a, e, h1⟩ := h; exact ⟨a, e, ⟨n1 h1.1 h1.2 (fun _ z => by unfold exo at z; cases z), h1.2⟩⟩
  | ins C => obtain ⟨a, dd, e, h1, h2, h3⟩ := h; exact ⟨a, dd, e, ⟨n1 h1.1 h1.2 (fun _ z => by cases z), h1.2⟩, n1 h2 h3 (fun _ z => by cases z), h3⟩
  | scr => obtain ⟨a, e, h⟩ := h; exact ⟨a, e, h.imp (fun ⟨n, o, h⟩ => ⟨n1 n h (fun _ z => by cases z), o, h⟩) id⟩
  | dct ks => obtain ⟨a, e, n, h⟩ := h; exact ⟨a, e, n1 n h (fun _ z => by cases z), h⟩
  | dcn ks => obtain ⟨a, T, e, e2, l, n, h⟩ := h; exact ⟨a, T, e, e2, l, n1 n h (fun _ z => by unfold NDO at z; cases z), h⟩
mutual
theorem Den.keep (k : Kp Av H H') : ∀ (d : D) (v : V), Den K Av H v d → Den K Av H' v d
  | .obj q ns ds, v, h => by
    simp only [Den] at h ⊢
    obtain ⟨ws, l, o, r⟩ := h
    exact ⟨ws, l, ObjA.keep k o, DenA.keep k ds ws r⟩
  | .non, _, h => by simpa only [Den] using h
  | .bl _, _, h => by simpa only [Den] using h
  | .int _, _, h => by simpa only [Den] using h
  | .str _, _, h => by simpa only [Den] using h
  | .ref _, _, h => by simpa only [Den] using h
  | .ty _, _, h => by simpa only [Den] using h
  | .tup ds, v, h => by
    simp only [Den] at h ⊢
    obtain ⟨a, vs, e, s, n, r⟩ := h
    exact ⟨a, vs, e, (TupA.keep k n).sq, TupA.keep k n, DenA.keep k ds vs r⟩
  | .lst ds, v, h => by
    simp only [Den] at h ⊢
    obtain ⟨a, vs, e, s, n, r⟩ := h
    exact ⟨a, vs, e, k _ _ n s, n, DenA.keep k ds vs r⟩
theorem DenA.keep (k : Kp Av H H') : ∀ (ds : List D) (vs : List V), DenA K Av H vs ds → DenA K Av H' vs ds
  | [], _, h => by simpa only [DenA] using h
  | d :: ds, vs, h => by
    simp only [DenA] at h ⊢
    obtain ⟨v, r, e, h1, h2⟩ := h
    exact ⟨v, r, e, Den.keep k d v h1, DenA.keep k ds r h2⟩
end
mutual
theorem Den.weak (s : ∀ a, Bv a → Av a) : ∀ (d : D) (v : V), Den K Av H v d → Den K Bv H v d
  | .obj q ns ds, v, h => by
    simp only [Den] at h ⊢
    obtain ⟨ws, l, o, r⟩ := h
    exact ⟨ws, l, ObjA.weak s o, DenA.weak s ds ws r⟩
  | .non, _, h => by simpa only [Den] using h
  | .bl _, _, h => by simpa only [Den] using h
  | .int _, _, h => by simpa only [Den] using h
  | .str _, _, h => by simpa only [Den] using h
  | .ref _, _, h => by simpa only [Den] using h
  | .ty _, _, h => by simpa only [Den] using h
  | .tup ds, v, h => by
    simp only [Den] at h ⊢
    obtain ⟨a, vs, e, q, n, r⟩ := h
    exact ⟨a, vs, e, q, TupA.weak s n, DenA.weak s ds vs r⟩
  | .lst ds, v, h => by
    simp only [Den] at h ⊢
    obtain ⟨a, vs, e, q, n, r⟩ := h
    exact ⟨a, vs, e, q, fun z => n (s a z), DenA.weak s ds vs r⟩
theorem DenA.weak (s : ∀ a, Bv a → Av a) : ∀ (ds : List D) (vs : List V), DenA K Av H vs ds → DenA K Bv H vs ds
  | [], _, h => by simpa only [DenA] using h
  | d :: ds, vs, h => by
    simp only [DenA] at h ⊢
    obtain ⟨v, r, e, h1, h2⟩ := h
    exact ⟨v, r, e, Den.weak s d v h1, DenA.weak s ds r h2⟩
end
mutual
/-- what is new is not in it -/
theorem Den.fresh {p : Addr} (hp : H p = none) : ∀ (d : D) (v : V), Den K Av H v d → Den K (fun a => Av a ∨ a = p) H v d
  | .obj q ns ds, v, h => by
    simp only [Den] at h ⊢
    obtain ⟨ws, l, o, r⟩ := h
    exact ⟨ws, l, ObjA.more (fun a z => z.imp id fun e => .inl (by rw [e]; exact hp)) o, DenA.fresh hp ds ws r⟩
  | .non, _, h => by simpa only [Den] using h
  | .bl _, _, h => by simpa only [Den] using h
  | .int _, _, h => by simpa only [Den] using h
  | .str _, _, h => by simpa only [Den] using h
  | .ref _, _, h => by simpa only [Den] using h
  | .ty _, _, h => by simpa only [Den] using h
  | .tup ds, v, h => by
    simp only [Den] at h ⊢
    obtain ⟨a, vs, e, q, n, r⟩ := h
    refine ⟨a, vs, e, q, n.imp (fun x => ⟨fun z => z.elim x.1 fun e => ?_, x.2⟩) id, DenA.fresh hp ds vs r⟩
    subst e
    have x := x.2
    rw [hp] at x; cases x
  | .lst ds, v, h => by
    simp only [Den] at h ⊢
    obtain ⟨a, vs, e, q, n, r⟩ := h
    refine ⟨a, vs, e, q, fun z => z.elim n fun e => ?_, DenA.fresh hp ds vs r⟩
    subst e
    rw [hp] at q; cases q
theorem DenA.fresh {p : Addr} (hp : H p = none) : ∀ (ds : List D) (vs : List V), DenA K Av H vs ds → DenA K (fun a => Av a ∨ a = p) H vs ds
  | [], _, h => by simpa only [DenA] using h
  | d :: ds, vs, h => by
    simp only [DenA] at h ⊢
    obtain ⟨v, r, e, h1, h2⟩ := h
    exact ⟨v, r, e, Den.fresh hp d v h1, DenA.fresh hp ds r h2⟩
end
mutual
def D.noLst : D → Bool
  | .obj _ _ xs => noLstA xs | .lst _ => false | .tup xs => noLstA xs | .non => true | .bl _ => true | .int _ => true | .str _ => true | .ref _ => true | .ty _ => true
def noLstA : List D → Bool
  | [] => true
  | x :: xs => D.noLst x && noLstA xs
end
mutual
/-- data without lists stands apart from every list -/
theorem Den.apart {P : Addr → Prop} (hp : ∀ a, P a → ∃ xs, H a = some (.lst xs)) : ∀ (d : D) (v : V), d.noLst = true → Den K Av H v d → Den K (fun a => Av a ∨ P a) H v d
  | .obj q ns ds, v, g, h => by
    simp only [Den] at h ⊢
    obtain ⟨ws, l, o, r⟩ := h
    exact ⟨ws, l, ObjA.more (fun a z => z.imp id fun e => .inr (hp a e)) o, DenA.apart hp ds ws (by simpa only [D.noLst] using g) r⟩
  | .non, _, _, h => by simpa only [Den] using h
  | .bl _, _, _, h => by simpa only [Den] using h
  | .int _, _, _, h => by simpa only [Den] using h
  | .str _, _, _, h => by simpa only [Den] using h
  | .ref _, _, _, h => by simpa only [Den] using h
  | .ty _, _, _, h => by simpa only [Den] using h
  | .tup ds, v, g, h => by
    simp only [Den] at h ⊢
    obtain ⟨a, vs, e, q, n, r⟩ := h
    refine ⟨a, vs, e, q, n.imp (fun x => ⟨fun z => z.elim x.1 fun e => ?_, x.2⟩) id, DenA.apart hp ds vs (by simpa only [D.noLst] using g) r⟩
    obtain ⟨xs, e⟩ := hp a e
    have x := x.2
    rw [e] at x; cases x
  | .lst ds, v, g, h => by simp [D.noLst] at g
theorem DenA.apart {P : Addr → Prop} (hp : ∀ a, P a → ∃ xs, H a = some (.lst xs)) : ∀ (ds : List D) (vs : List V), noLstA ds = true → DenA K Av H vs ds → DenA K (fun a => Av a ∨ P a) H vs ds
  | [], _, _, h => by simpa only [DenA] using h
  | d :: ds, vs, g, h => by
    simp only [noLstA, Bool.and_eq_true] at g
    simp only [DenA] at h ⊢
    obtain ⟨v, r, e, h1, h2⟩ := h
    exact ⟨v, r, e, Den.apart hp d v g.1 h1, DenA.apart hp ds r g.2 h2⟩
end
theorem DenA.len : ∀ {ds : List D} {vs : List V}, DenA K Av H vs ds → vs.length = ds.length
  | [], _, h => by simp only [DenA] at h; rw [h]; rfl
  | d :: ds, vs, h => by
    simp only [DenA] at h
    obtain ⟨v, r, e, h1, h2⟩ := h
    rw [e]; exact congrArg Nat.succ (DenA.len h2)
theorem DenA.get : ∀ {ds : List D} {vs : List V} {i : Nat} {d : D}, DenA K Av H vs ds → ds[i]? = some d → ∃ v, vs[i]? = some v ∧ Den K Av H v d
  | [], _, _, _, h, e => by simp at e
  | d :: ds, vs, 0, d', h, e => by
    simp only [DenA] at h
    obtain ⟨v, r, rfl, h1, h2⟩ := h
    simp at e; subst e
    exact ⟨v, rfl, h1⟩
  | d :: ds, vs, i + 1, d', h, e => by
    simp only [DenA] at h
    obtain ⟨v, r, rfl, h1, h2⟩ := h
    simpa using DenA.get (i := i) h2 (by simpa using e)
theorem DenA.app : ∀ {ds es : List D} {vs ws : List V}, DenA K Av H vs ds → DenA K Av H ws es → DenA K Av H (vs ++ ws) (ds ++ es)
  | [], _, _, _, h, g => by simp only [DenA] at h; rw [h]; exact g
  | d :: ds, es, vs, ws, h, g => by
    simp only [DenA] at h
    obtain ⟨v, r, rfl, h1, h2⟩ := h
    show DenA K Av H (v :: (r ++ ws)) (d :: (ds ++ es))
    simp only [DenA]
    exact ⟨v, _, rfl, h1, DenA.app h2 g⟩
theorem DenA.one {v : V} {d : D} (h : Den K Av H v d) : DenA K Av H [v] [d] := by
  simp only [DenA]; exact ⟨v, [], rfl, h, rfl⟩
theorem DenA.drop : ∀ {ds : List D} {vs : List V} (n : Nat), DenA K Av H vs ds → DenA K Av H (vs.drop n) (ds.drop n)
  | _, _, 0, h => h
  | [], _, n + 1, h => by simp only [DenA] at h; rw [h]; simp [DenA]
  | d :: ds, vs, n + 1, h => by
    simp only [DenA] at h
    obtain ⟨v, r, rfl, h1, h2⟩ := h
    exact DenA.drop n h2
theorem DenA.take : ∀ {ds : List D} {vs : List V} (n : Nat), DenA K Av H vs ds → DenA K Av H (vs.take n) (ds.take n)
  | ds, vs, 0, h => by simp [DenA]
  | [], _, n + 1, h => by simp only [DenA] at h; rw [h]; simp [DenA]
  | d :: ds, vs, n + 1, h => by
    simp only [DenA] at h
    obtain ⟨v, r, rfl, h1, h2⟩ := h
    show DenA K Av H (v :: r.take n) (d :: ds.take n)
    simp only [DenA]
    exact ⟨v, _, rfl, h1, DenA.take n h2⟩
theorem DenA.ints : ∀ {ns : List Int}, DenA K Av H (ns.map V.int) (ns.map D.int)
  | [] => by simp [DenA]
  | n :: ns => by
    show DenA K Av H (V.int n :: ns.map V.int) (D.int n :: ns.map D.int)
    simp only [DenA]
    exact ⟨_, _, rfl, by simp only [Den], DenA.ints⟩
theorem DenA.ofInts : ∀ {ns : List Int} {vs : List V}, DenA K Av H vs (ns.map D.int) → vs = ns.map V.int
  | [], _, h => by simpa [DenA] using h
  | n :: ns, vs, h => by
    have h' : DenA K Av H vs (D.int n :: ns.map D.int) := h
    simp only [DenA, Den] at h'
    obtain ⟨v, r, rfl, rfl, h2⟩ := h'
    rw [DenA.ofInts h2]; rfl
end

structure HI where
  own : Addr → Prop
  foot : Addr → Prop
  ok : Hp → Prop
  sub : ∀ a, own a → foot a
  dom : ∀ H a, ok H → foot a → H a ≠ none
  loc : ∀ H H', (∀ a, foot a → H' a = H a) → ok H → ok H'
def HI.plain : HI := ⟨fun _ => False, fun _ => False, fun _ => True, fun _ h => h, fun _ _ _ h => h.elim, fun _ _ _ _ => trivial⟩

def Ext (I : HI) (H H' : Hp) : Prop := Kp I.own H H' ∧ I.ok H'
section
variable {I : HI} {H H1 H2 : Hp}
theorem Ext.refl (h : I.ok H) : Ext I H H := ⟨Kp.refl, h⟩
theorem Ext.trans (a : Ext I H H1) (b : Ext I H1 H2) : Ext I H H2 := ⟨a.1.trans b.1, b.2⟩
theorem Ext.new {p : Addr} {o : HO} (h : I.ok H) (n : H p = none) : Ext I H (upd H p o) :=
  ⟨Kp.new n, I.loc H _ (fun a f => upd_ne (fun z => I.dom H a h f (by rw [z]; exact n))) h⟩
theorem HI.nown {p : Addr} (h : I.ok H) (n : H p = none) : ¬ I.own p := fun z => I.dom H p h (I.sub p z) n
end

inductive Slot where
  | no | val (d : D) | own (xs : List D)
abbrev DEnv := List Slot
def AvOf (I : HI) (env : DEnv) (oa : Nat → Addr) : Addr → Prop := fun a => I.own a ∨ ∃ (i : Nat) (xs : List D), env[i]? = some (Slot.own xs) ∧ a = oa i
structure B0 where
  H0 : Hp
  hs : List (V × D)
structure DenE (K : PySem.W.Frag) (I : HI) (b : B0) (σ : L2.St) (H : Hp) (env : DEnv) : Prop where
  len : σ.length = env.length
  ext : Ext I b.H0 H
  slots : ∃ oa : Nat → Addr,
    (∀ (i : Nat) (xs : List D), env[i]? = some (Slot.own xs) → (∃ vs, σ[i]? = some (some (.ref (oa i))) ∧ H (oa i) = some (.lst vs) ∧ DenA K (AvOf I env oa) H vs xs) ∧ b.H0 (oa i) = none ∧ ¬ I.foot (oa i)) ∧
    (∀ (i j : Nat) (xs ys : List D), env[i]? = some (Slot.own xs) → env[j]? = some (Slot.own ys) → oa i = oa j → i = j) ∧
    (∀ (i : Nat) (d : D), env[i]? = some (Slot.val d) → ∃ v : V, σ[i]? = some (some v) ∧ Den K (AvOf I env oa) H v d) ∧
    ∀ p ∈ b.hs, Den K (AvOf I env oa) H p.1 p.2
section
variable {K : PySem.W.Frag} {I : HI} {b : B0} {H H' : Hp} {σ : L2.St} {env : DEnv}
theorem DenE.ok (h : DenE K I b σ H env) : I.ok H := h.ext.2
theorem DenE.mono (h : DenE K I b σ H env) (e : Ext I H H') : DenE K I b σ H' env := by
  obtain ⟨oa, h1, h2, h3, h4⟩ := h.slots
  refine ⟨h.len, h.ext.trans e, oa, fun i xs q => ?_, h2, fun i d q => ?_, fun p hp => Den.keep (e.1.weak (fun x z => .inl z)) _ _ (h4 p hp)⟩
  · obtain ⟨⟨vs, e1, e2, e3⟩, e4, e5⟩ := h1 i xs q
    refine ⟨⟨vs, e1, e.1 _ _ (fun z => e5 (I.sub _ z)) e2, DenA.keep (e.1.weak (fun x z => .inl z)) xs vs e3⟩, e4, e5⟩
  · obtain ⟨v, e1, e2⟩ := h3 i d q
    exact ⟨v, e1, Den.keep (e.1.weak (fun x z => .inl z)) d v e2⟩
def rdSlot : Slot → Option D
  | .no => none
  | .val d => some d
  | .own xs => some (.lst xs)
theorem DenE.read (h : DenE K I b σ H env) {i : Nat} {s : Slot} {d : D} (hs : env[i]? = some s) (hd : rdSlot s = some d) : ∃ v, σ[i]? = some (some v) ∧ Den K I.own H v d := by
  obtain ⟨oa, h1, h2, h3, _⟩ := h.slots
  cases s with
  | no => cases hd
  | val d' =>
    have e : d' = d := Option.some.inj hd
    subst e
    obtain ⟨v, e1, e2⟩ := h3 i d' hs
    exact ⟨v, e1, Den.weak (fun a z => .inl z) _ _ e2⟩
  | own xs =>
    have e : D.lst xs = d := Option.some.inj hd
    subst e
    obtain ⟨⟨vs, e1, e2, e3⟩, e4, e5⟩ := h1 i xs hs
    refine ⟨_, e1, ?_⟩
    simp only [Den]
    exact ⟨_, vs, rfl, e2, fun z => e5 (I.sub _ z), DenA.weak (fun a z => .inl z) _ _ e3⟩
end
end Dl

namespace Dl
open PySem PySem.Spec PyProof.Rows L2

abbrev TED := DEnv → (D → Prop) → Prop
abbrev TTD := DEnv → (Bool → Prop) → Prop
abbrev TAD := DEnv → (List D → Prop) → Prop

def wE (X : Cx) (e : Expr) : TE := fun σ H Q => ∀ pins s, Inv X pins σ H s → wpAny (model X.prog X.w) X.A (eval e X.env) (EP X pins σ Q) X.xe s
def wT (X : Cx) (e : Expr) : TT := fun σ H Q => ∀ pins s, Inv X pins σ H s → wpAny (model X.prog X.w) X.A (isTrue e X.env (eval e X.env)) (TP X pins σ Q) X.xe s
def wW (X : Cx) (e : Expr) : TT := fun σ H Q => ∀ whole pins s, Inv X pins σ H s → wpAny (model X.prog X.w) X.A (isTrue e X.env whole) (TP X pins σ Q) X.xe s
def wA (X : Cx) (es : List Expr) : TA := fun σ H Q => ∀ pos pins s, Inv X pins σ H s → wpAny (model X.prog X.w) X.A (spliced (backTo pos (starEach es X.env))) (AP X pins σ Q) X.xe s
def rw2 (X : Cx) (f : Value → Value → Sem Value) : R2 := fun x y H Q => ∀ pins s σ v u, Inv X pins σ H s → RelV x v → RelV y u → wpAny (model X.prog X.w) X.A (f v u) (EP X pins σ Q) X.xe s
section
variable {X : Cx} {e : Expr} {es : List Expr} {f : Value → Value → Sem Value}
theorem pe_w : PE X e (wE X e) := ⟨fun pins s σ H Q I h => h pins s I⟩
theorem pt_w : PT X e (wT X e) := ⟨fun pins s σ H Q I h => h pins s I⟩
theorem pw_w : PW X e (wW X e) := ⟨fun whole pins s σ H Q I h => h whole pins s I⟩
theorem pa_w : PA X es (wA X es) := ⟨fun pos pins s σ H Q I h => h pos pins s I⟩
theorem or_w : OpR X f (rw2 X f) := fun pins s σ H x y v u Q I rx ry h => h pins s σ v u I rx ry
theorem rw2_of {r : R2} (h : OpR X f r) {x y : V} {H : Hp} {Q : VK} (q : r x y H Q) : rw2 X f x y H Q := fun pins s σ v u I rx ry => h pins s σ H x y v u Q I rx ry q
end

structure Exc where
  cls : Addr
  fs : Option (List (Str × D))
def ExD (K : PySem.W.Frag) (I : HI) (H : Hp) (x : Exc) (d : Option Addr) : Prop := match x.fs with
  | none => d = none
  | some fs => ∃ dd ws, d = some dd ∧ H dd = some (.xd ((fs.map (·.1)).zip ws)) ∧ DenA K I.own H ws (fs.map (·.2))
structure Gx where
  I : HI
  Ed : DEnv → Exc → Prop
  W : WX
abbrev Gx.nox (g : Gx) : Gx := ⟨g.I, fun _ _ => False, fun _ _ _ _ => False⟩
def XL (K : PySem.W.Frag) (g : Gx) (b : B0) : Prop := ∀ (σ : L2.St) (H : Hp) (env : DEnv) (x : Exc) (d : Option Addr) (H' : Hp), DenE K g.I b σ H env → Ext g.I H H' → ExD K g.I H' x d → g.Ed env x → g.W (.ref x.cls) d σ H'
theorem XL.nox {K : PySem.W.Frag} {g : Gx} {b : B0} : XL K g.nox b := fun _ _ _ _ _ _ _ _ _ h => h.elim

def SE (K : PySem.W.Frag) (g : Gx) (te : TE) (td : TED) : Prop :=
  ∀ (b : B0) (σ : L2.St) (H : Hp) (env : DEnv) (Qd : D → Prop) (Q : VK), DenE K g.I b σ H env → XL K g b → td env Qd → (∀ v d H', Ext g.I H H' → Den K g.I.own H' v d → Qd d → Q v H') → te σ H Q
def ST (K : PySem.W.Frag) (g : Gx) (tt : TT) (td : TTD) : Prop :=
  ∀ (b : B0) (σ : L2.St) (H : Hp) (env : DEnv) (Qd : Bool → Prop) (Q : Bool → Hp → Prop), DenE K g.I b σ H env → XL K g b → td env Qd → (∀ b H', Ext g.I H H' → Qd b → Q b H') → tt σ H Q
def SA (K : PySem.W.Frag) (g : Gx) (ta : TA) (td : TAD) : Prop :=
  ∀ (b : B0) (σ : L2.St) (H : Hp) (env : DEnv) (Qd : List D → Prop) (Q : List V → Hp → Prop), DenE K g.I b σ H env → XL K g b → td env Qd → (∀ vs ds H', Ext g.I H H' → DenA K g.I.own H' vs ds → Qd ds → Q vs H') → ta σ H Q

def PED (X : Cx) (g : Gx) (e : Expr) (td : TED) : Prop := SE X.K g (wE X e) td
def PTD (X : Cx) (g : Gx) (e : Expr) (td : TTD) : Prop := ST X.K g (wT X e) td
def PWD (X : Cx) (g : Gx) (e : Expr) (td : TTD) : Prop := ST X.K g (wW X e) td
def PAD (X : Cx) (g : Gx) (es : List Expr) (td : TAD) : Prop := SA X.K g (wA X es) td
abbrev F2 := D → D → (D → Prop) → Prop
def RD (X : Cx) (I : HI) (f : Value → Value → Sem Value) (h : F2) : Prop :=
  ∀ (H : Hp) (x y : V) (dx dy : D) (Qd : D → Prop) (Q : VK), I.ok H → Den X.K I.own H x dx → Den X.K I.own H y dy → h dx dy Qd → (∀ v d H', Ext I H H' → Den X.K I.own H' v d → Qd d → Q v H') → rw2 X f x y H Q

section
variable {X : Cx} {I : HI} {g : Gx} {e a b c : Expr} {es : List Expr} {te : TE} {tt : TT} {td ta tb tc : TED} {t u : TTD} {pos : Pos} {f : Value → Value → Sem Value} {o : F2}
theorem ped_of (p : PE X e te) (h : SE X.K g te td) : PED X g e td := fun b0 σ H env Qd Q hd xl ht k pins s J => p.run pins s σ H Q J (h b0 σ H env Qd Q hd xl ht k)
theorem ptd_of {td : TTD} (p : PT X e tt) (h : ST X.K g tt td) : PTD X g e td := fun b0 σ H env Qd Q hd xl ht k pins s J => p.run pins s σ H Q J (h b0 σ H env Qd Q hd xl ht k)
theorem pwd_of {td : TTD} (p : PW X e tt) (h : ST X.K g tt td) : PWD X g e td := fun b0 σ H env Qd Q hd xl ht k whole pins s J => p.run whole pins s σ H Q J (h b0 σ H env Qd Q hd xl ht k)
theorem pad_of {ta : TA} {td : TAD} (p : PA X es ta) (h : SA X.K g ta td) : PAD X g es td := fun b0 σ H env Qd Q hd xl ht k pos pins s J => p.run pos pins s σ H Q J (h b0 σ H env Qd Q hd xl ht k)
theorem PWD.pt {td : TTD} (h : PWD X g e td) : PTD X g e td := fun b0 σ H env Qd Q hd xl ht k pins s J => h b0 σ H env Qd Q hd xl ht k _ pins s J

def dVar (i : Nat) : TED := fun env Q => ∃ s d, env[i]? = some s ∧ rdSlot s = some d ∧ Q d
def dC (d : D) : TED := fun _ Q => Q d
theorem sd_var {K : PySem.W.Frag} {i : Nat} : SE K g (tVar i) (dVar i) := fun b0 σ H env Qd Q hd xl ⟨s, d, h1, h2, q⟩ k => by
  obtain ⟨v, e1, e2⟩ := hd.read h1 h2
  exact ⟨v, e1, k v d H (.refl hd.ok) e2 q⟩
theorem dv (i : Nat) {x : Str} {pos : Pos} (hN : X.N[i]? = some x := by rfl) (hv : Vis X.env.scope x := by first | exact Or.inl rfl | exact Or.inr (Or.inl rfl) | exact Or.inr (Or.inr rfl)) (hd : (x == ("__debug__" : Str)) = false := by decide)
    (hcd : (x == ("__classdict__" : Str)) = false := by decide) : PED X g (.Name x pos) (dVar i) := ped_of (pe_var hN hv hd hcd) sd_var
theorem sd_c {K : PySem.W.Frag} {v : V} {d : D} (h : ∀ H, Den K g.I.own H v d) : SE K g (tC v) (dC d) := fun b0 σ H env Qd Q hd xl q k => k v d H (.refl hd.ok) (h H) q
theorem d_int {i j pos} : PED X g (.Constant (.int i) j pos) (dC (.int i)) := ped_of pe_int (sd_c fun _ => by simp only [Den])
theorem d_bl {b j pos} : PED X g (.Constant (.bool b) j pos) (dC (.bl b)) := ped_of pe_bl (sd_c fun _ => by simp only [Den])
theorem d_non {j pos} : PED X g (.Constant .none j pos) (dC .non) := ped_of pe_non (sd_c fun _ => by simp only [Den])
theorem d_str {x j pos} : PED X g (.Constant (.str x) j pos) (dC (.str x)) := ped_of pe_str (sd_c fun _ => by simp only [Den])

def dOp (o : F2) (ta tb : TED) : TED := fun env Q => ta env fun x => tb env fun y => o x y Q
theorem sd_op {K : PySem.W.Frag} {ra rb : TE} {r : R2} (ha : SE K g ra ta) (hb : SE K g rb tb)
    (hr : ∀ (H : Hp) (x y : V) (dx dy : D) (Qd : D → Prop) (Q : VK), g.I.ok H → Den K g.I.own H x dx → Den K g.I.own H y dy → o dx dy Qd → (∀ v d H', Ext g.I H H' → Den K g.I.own H' v d → Qd d → Q v H') → r x y H Q) :
    SE K g (tOp r ra rb) (dOp o ta tb) := fun b0 σ H env Qd Q hd xl h k =>
  ha b0 σ H env _ _ hd xl h fun x dx H1 e1 dnx h1 => hb b0 σ H1 env _ _ (hd.mono e1) xl h1 fun y dy H2 e2 dny h2 =>
    hr H2 x y dx dy Qd Q e2.2 (Den.keep e2.1 _ _ dnx) dny h2 fun v d H' e3 dn q => k v d H' (e1.trans (e2.trans e3)) dn q
theorem d_op {op : Operator} (hr : RD X g.I (binaryOp op) o) (ha : PED X g a ta) (hb : PED X g b tb) : PED X g (.BinOp a op b pos) (dOp o ta tb) :=
  ped_of (pe_op or_w pe_w pe_w) (sd_op ha hb hr)
theorem d_cmp {op : CmpOp} (hr : RD X g.I (compareOp op) o) (ha : PED X g a ta) (hb : PED X g b tb) (hm : behindInMarks op b = false) : PED X g (.Compare a [op] [b] pos) (dOp o ta tb) :=
  ped_of (pe_cmpR or_w pe_w pe_w hm) (sd_op ha hb hr)
def dTest (td : TED) : TTD := fun env Q => td env fun d => ∃ c, d = .bl c ∧ Q c
theorem st_test {K : PySem.W.Frag} {te : TE} (h : SE K g te td) : ST K g (tTest te) (dTest td) := fun b0 σ H env Qd Q hd xl ht k =>
  h b0 σ H env _ _ hd xl ht fun v d H' e dn ⟨c, ed, q⟩ => by
    subst ed
    simp only [Den] at dn
    exact ⟨c, dn, k c H' e q⟩
theorem dt_cmp {op : CmpOp} (hr : RD X g.I (compareOp op) o) (ha : PED X g a ta) (hb : PED X g b tb) (hm : behindInMarks op b = false) : PTD X g (.Compare a [op] [b] pos) (dTest (dOp o ta tb)) :=
  ptd_of (pt_cmpR or_w pe_w pe_w hm) (st_test (sd_op ha hb hr))
theorem rd_of {r : R2} (ho : OpR X f r) (h : ∀ (H : Hp) (x y : V) (dx dy : D) (Qd : D → Prop) (Q : VK), I.ok H → Den X.K I.own H x dx → Den X.K I.own H y dy → o dx dy Qd → (∀ v d H', Ext I H H' → Den X.K I.own H' v d → Qd d → Q v H') → r x y H Q) : RD X I f o :=
  fun H x y dx dy Qd Q ok hx hy hg k => rw2_of ho (h H x y dx dy Qd Q ok hx hy hg k)
def fI (C : Int → Int → Prop) (h : Int → Int → D) : F2 := fun x y Q => ∃ i j, x = .int i ∧ y = .int j ∧ C i j ∧ Q (h i j)
def fI0 (h : Int → Int → D) : F2 := fun x y Q => ∃ i j, x = .int i ∧ y = .int j ∧ Q (h i j)
theorem rd_I {C : Int → Int → Prop} {gv : Int → Int → V} {h : Int → Int → D} (ho : OpR X f (rI C gv)) (hg : ∀ i j H, Den X.K I.own H (gv i j) (h i j)) : RD X I f (fI C h) :=
  rd_of ho fun H x y dx dy Qd Q ok hx hy ⟨i, j, e1, e2, c, q⟩ k => by
    subst e1 e2
    simp only [Den] at hx hy
    exact ⟨i, j, hx, hy, c, k _ _ H (.refl ok) (hg i j H) q⟩
theorem rd_I0 {gv : Int → Int → V} {h : Int → Int → D} (ho : OpR X f (rI0 gv)) (hg : ∀ i j H, Den X.K I.own H (gv i j) (h i j)) : RD X I f (fI0 h) :=
  rd_of ho fun H x y dx dy Qd Q ok hx hy ⟨i, j, e1, e2, q⟩ k => by
    subst e1 e2
    simp only [Den] at hx hy
    exact ⟨i, j, hx, hy, k _ _ H (.refl ok) (hg i j H) q⟩
abbrev fSub : F2 := fI0 fun i j => .int (i - j)
abbrev fMul : F2 := fI CMulW fun i j => .int (i * j)
abbrev fDiv : F2 := fI CDivW fun i j => .int (i / j)
abbrev fMod : F2 := fI (fun _ j => 0 < j) fun i j => .int (i % j)
abbrev fPow : F2 := fI CPow fun i j => .int (i ^ j.toNat)
theorem r_sub : RD X I (binaryOp .Sub) fSub := rd_I0 op_sub fun _ _ _ => by simp only [Den]
theorem r_mul : RD X I (binaryOp .Mult) fMul := rd_I op_mulW fun _ _ _ => by simp only [Den]
theorem r_div : RD X I (binaryOp .FloorDiv) fDiv := rd_I op_fdivW fun _ _ _ => by simp only [Den]
theorem r_mod : RD X I (binaryOp .Mod) fMod := rd_I op_mod fun _ _ _ => by simp only [Den]
theorem r_pow : RD X I (binaryOp .Pow) fPow := rd_I op_pow fun _ _ _ => by simp only [Den]
def fAdd : F2 := fun x y Q => match x, y with
  | .int i, .int j => Q (.int (i + j))
  | .str i, .str j => i.length + j.length ≤ sizeLine ∧ Q (.str (i ++ j))
  | .tup xs, .tup ys => xs.length + ys.length ≤ sizeLine ∧ Q (.tup (xs ++ ys))
  | .lst xs, .lst ys => xs.length + ys.length ≤ sizeLine ∧ Q (.lst (xs ++ ys))
  | _, _ => False
theorem r_add : RD X I (binaryOp .Add) fAdd := fun H x y dx dy Qd Q ok hx hy h k => by
  cases dx <;> cases dy <;> simp only [fAdd] at h
  case int.int i j =>
    simp only [Den] at hx hy
    exact rw2_of op_add ⟨i, j, hx, hy, k _ _ H (.refl ok) (by simp only [Den]) h⟩
  case str.str i j =>
    simp only [Den] at hx hy
    exact rw2_of op_add_str ⟨i, j, hx, hy, h.1, k _ _ H (.refl ok) (by simp only [Den]) h.2⟩
  case tup.tup xs ys =>
    have hx' := hx
    have hy' := hy
    simp only [Den] at hx hy
    obtain ⟨a, vs, rfl, s1, n1, r1⟩ := hx
    obtain ⟨b, ws, rfl, s2, n2, r2⟩ := hy
    refine rw2_of op_catA ⟨a, b, vs, ws, rfl, rfl, s1, s2, by rw [r1.len, r2.len]; exact h.1, fun e => ?_, fun e e2 => ?_, fun _ _ p hp => ?_⟩
    · have : xs = [] := by rw [← List.length_eq_zero_iff, ← r1.len, e]; rfl
      subst this
      exact k _ _ H (.refl ok) hy' h.2
    · have : ys = [] := by rw [← List.length_eq_zero_iff, ← r2.len, e2]; rfl
      subst this
      exact k _ _ H (.refl ok) hx' (by simpa using h.2)
    · refine k _ _ _ (.new ok hp) ?_ h.2
      have kk : Kp I.own H (upd H p (.tup (vs ++ ws))) := Kp.new hp
      simp only [Den]
      exact ⟨p, _, rfl, SqT.of upd_same, .inl ⟨HI.nown ok hp, upd_same⟩, DenA.app (DenA.keep kk _ _ r1) (DenA.keep kk _ _ r2)⟩
  case lst.lst xs ys =>
    simp only [Den] at hx hy
    obtain ⟨a, vs, rfl, s1, n1, r1⟩ := hx
    obtain ⟨b, ws, rfl, s2, n2, r2⟩ := hy
    refine rw2_of op_cat ⟨a, b, vs, ws, rfl, rfl, s1, s2, by rw [r1.len, r2.len]; exact h.1, fun p hp => ?_⟩
    refine k _ _ _ (.new ok hp) ?_ h.2
    have kk : Kp I.own H (upd H p (.lst (vs ++ ws))) := Kp.new hp
    simp only [Den]
    exact ⟨p, _, rfl, upd_same, HI.nown ok hp, DenA.app (DenA.keep kk _ _ r1) (DenA.keep kk _ _ r2)⟩
end
end Dl

namespace Dl
open PySem PySem.Spec PyProof.Rows L2

mutual
def D.py : D → PyData
  | .obj _ _ _ => .none | .non => .none | .bl b => .bool b | .int i => .int i | .str x => .str x | .tup xs => .tuple (pyA xs) | .lst xs => .list (pyA xs) | .ref _ => .none | .ty _ => .none
def pyA : List D → List PyData
  | [] => []
  | x :: xs => D.py x :: pyA xs
end
mutual
def D.good : D → Bool
  | .obj _ _ _ => false | .ref _ => false | .ty _ => false | .str x => PyData.strOk x | .tup xs => goodA xs | .lst xs => goodA xs | .non => true | .bl _ => true | .int _ => true
def goodA : List D → Bool
  | [] => true
  | x :: xs => D.good x && goodA xs
end
mutual
def D.dep : D → Nat
  | .obj _ _ _ => 0 | .tup xs => depA xs + 1 | .lst xs => depA xs + 1 | .non => 0 | .bl _ => 0 | .int _ => 0 | .str _ => 0 | .ref _ => 0 | .ty _ => 0
def depA : List D → Nat
  | [] => 0
  | x :: xs => max (D.dep x) (depA xs)
end
mutual
theorem py_can : ∀ d : D, d.good = true → d.py.canLay0 = true
  | .non, _ => rfl
  | .bl _, _ => rfl
  | .int _, _ => rfl
  | .str x, h => by simpa only [D.py, PyData.canLay0, D.good] using h
  | .tup xs, h => by simp only [D.py, PyData.canLay0]; exact pyA_can xs (by simpa only [D.good] using h)
  | .lst xs, h => by simp only [D.py, PyData.canLay0]; exact pyA_can xs (by simpa only [D.good] using h)
  | .ref _, h => by simp [D.good] at h
  | .ty _, h => by simp [D.good] at h
  | .obj _ _ _, h => by simp [D.good] at h
theorem pyA_can : ∀ ds : List D, goodA ds = true → PyData.canLayAll0 (pyA ds) = true
  | [], _ => rfl
  | x :: xs, h => by
    simp only [goodA, Bool.and_eq_true] at h
    simp only [pyA, PyData.canLayAll0, Bool.and_eq_true]
    exact ⟨py_can x h.1, pyA_can xs h.2⟩
end
mutual
theorem py_dep : ∀ d : D, d.py.depth = d.dep
  | .non => rfl
  | .bl _ => rfl
  | .int _ => rfl
  | .str x => rfl
  | .tup xs => by simp only [D.py, PyData.depth, D.dep, pyA_dep xs]
  | .lst xs => by simp only [D.py, PyData.depth, D.dep, pyA_dep xs]
  | .ref _ => rfl
  | .ty _ => rfl
  | .obj _ _ _ => rfl
theorem pyA_dep : ∀ ds : List D, PyData.depthAll (pyA ds) = depA ds
  | [] => rfl
  | x :: xs => by simp only [pyA, PyData.depthAll, depA, py_dep x, pyA_dep xs]
end
section
variable {K : PySem.W.Frag} {Av : Addr → Prop} {H : Hp}
mutual
theorem Den.dp : ∀ (d : D) (v : V), d.good = true → Den K Av H v d → Dp K H v d.py
  | .non, v, _, h => by simp only [Den] at h; subst h; exact .non
  | .bl b, v, _, h => by simp only [Den] at h; subst h; exact .bl b
  | .int b, v, _, h => by simp only [Den] at h; subst h; exact .int b
  | .str b, v, _, h => by simp only [Den] at h; subst h; exact .str b
  | .tup ds, v, g, h => by
    simp only [Den] at h
    obtain ⟨a, vs, rfl, s, _, r⟩ := h
    exact .tup s (DenA.dp ds vs (by simpa only [D.good] using g) r)
  | .lst ds, v, g, h => by
    simp only [Den] at h
    obtain ⟨a, vs, rfl, s, _, r⟩ := h
    exact .lst (SqL.of s) (DenA.dp ds vs (by simpa only [D.good] using g) r)
  | .ref _, _, g, _ => by simp [D.good] at g
  | .ty _, _, g, _ => by simp [D.good] at g
  | .obj _ _ _, _, g, _ => by simp [D.good] at g
theorem DenA.dp : ∀ (ds : List D) (vs : List V), goodA ds = true → DenA K Av H vs ds → DpAll K H vs (pyA ds)
  | [], vs, _, h => by simp only [DenA] at h; subst h; exact .nil
  | d :: ds, vs, g, h => by
    simp only [goodA, Bool.and_eq_true] at g
    simp only [DenA] at h
    obtain ⟨v, r, rfl, h1, h2⟩ := h
    exact .cons (Den.dp d v g.1 h1) (DenA.dp ds r g.2 h2)
end
end
def okD (d : D) : Prop := d.good = true ∧ d.dep ≤ 60
theorem okD.shaped {d : D} (h : okD d) : SeqAt.shaped d.py = true := by
  unfold SeqAt.shaped
  rw [py_can d h.1, py_dep d, decide_eq_true (by have := h.2; omega)]; rfl
def eqD (x y : D) : Bool := PyData.eqv x.py y.py
def anyD (xs : List D) (x : D) : Bool := xs.any fun z => eqD z x
theorem anyD_py (x : D) : ∀ xs : List D, (pyA xs).any (fun z => PyData.eqv z x.py) = anyD xs x
  | [] => rfl
  | y :: ys => by
    show (PyData.eqv y.py x.py || (pyA ys).any fun z => PyData.eqv z x.py) = (eqD y x || anyD ys x)
    rw [anyD_py x ys]; rfl
def xr (neg b : Bool) : Bool := if neg = true then !b else b

section
variable {X : Cx} {I : HI} {g : Gx} {e a b c : Expr} {es : List Expr} {te : TE} {tt : TT} {td ta tb tc : TED} {t u : TTD} {pos : Pos} {f : Value → Value → Sem Value} {o : F2}
def fEq (neg : Bool) : F2 := fun x y Q => okD x ∧ okD y ∧ Q (.bl (xr neg (eqD x y)))
theorem r_eq (hu : X.A.units + 64 < cLine) : RD X I (compareOp .Eq) (fEq false) := fun H x y dx dy Qd Q ok hx hy ⟨h1, h2, h⟩ k =>
  rw2_of (op_eqD hu) ⟨_, _, Den.dp dx x h1.1 hx, Den.dp dy y h2.1 hy, h1.shaped, h2.shaped, k _ _ H (.refl ok) (by simp only [Den]; rfl) h⟩
theorem r_ne (hu : X.A.units + 64 < cLine) : RD X I (compareOp .NotEq) (fEq true) := fun H x y dx dy Qd Q ok hx hy ⟨h1, h2, h⟩ k =>
  rw2_of (op_neD hu) ⟨_, _, Den.dp dx x h1.1 hx, Den.dp dy y h2.1 hy, h1.shaped, h2.shaped, k _ _ H (.refl ok) (by simp only [Den]; rfl) h⟩
def occ (x y : Str) : Bool := !(Builtin.Str.occurrences y x 0 y.length 1).isEmpty
def fIn (neg : Bool) : F2 := fun x y Q => match y with
  | .tup ys => okD x ∧ okD (.tup ys) ∧ Q (.bl (xr neg (anyD ys x)))
  | .lst ys => okD x ∧ okD (.lst ys) ∧ Q (.bl (xr neg (anyD ys x)))
  | .str t => ∃ s, x = .str s ∧ Q (.bl (xr neg (occ s t)))
  | _ => False
theorem room_in {A : Around} {d : D} {ds : List D} (h : okD d) (hu : A.units + 64 < cLine) : A.units + 1 + min (PyData.depthAll (pyA ds)) d.py.depth < cLine := by
  rw [py_dep d]
  have := h.2
  omega
def rInT (K : PySem.W.Frag) (neg : Bool) : R2 := fun x y H Q => ∃ (d : D) (ds : List D), okD d ∧ okD (.tup ds) ∧ Dp K H x d.py ∧ Dp K H y (.tuple (pyA ds)) ∧ Q (.bl (xr neg (anyD ds d))) H
theorem op_inT (hu : X.A.units + 64 < cLine) : OpR X (compareOp .In) (rInT X.K false) := by
  intro pins s σ H x y v u Q J rx ry ⟨d, ds, h1, h2, hd, he, q⟩
  obtain ⟨as, r1⟩ := Dp.reads J d.py x v hd rx
  obtain ⟨bs, r2⟩ := Dp.reads J (.tuple (pyA ds)) y u he ry
  refine SeqAt.in_tuple_reads r2 r1 (pyA_can ds (by simpa only [D.good] using h2.1)) (py_can d h1.1) (room_in h1 hu) ⟨.bl _, H, J, rfl, ?_⟩
  rw [anyD_py]; exact q
theorem op_notInT (hu : X.A.units + 64 < cLine) : OpR X (compareOp .NotIn) (rInT X.K true) := by
  intro pins s σ H x y v u Q J rx ry ⟨d, ds, h1, h2, hd, he, q⟩
  obtain ⟨as, r1⟩ := Dp.reads J d.py x v hd rx
  obtain ⟨bs, r2⟩ := Dp.reads J (.tuple (pyA ds)) y u he ry
  refine SeqAt.notIn_tuple_reads r2 r1 (pyA_can ds (by simpa only [D.good] using h2.1)) (py_can d h1.1) (room_in h1 hu) ⟨.bl _, H, J, rfl, ?_⟩
  rw [anyD_py]; exact q
theorem r_in (hu : X.A.units + 65 < cLine) : RD X I (compareOp .In) (fIn false) := fun H x y dx dy Qd Q ok hx hy h k => by
  cases dy <;> simp only [fIn] at h
  case tup ys =>
    obtain ⟨h1, h2, h⟩ := h
    have hy' := Den.dp _ y h2.1 hy
    simp only [D.py] at hy'
    exact rw2_of (op_inT (by omega)) ⟨dx, ys, h1, h2, Den.dp dx x h1.1 hx, hy', k _ _ H (.refl ok) (by simp only [Den]) h⟩
  case lst ys =>
    obtain ⟨h1, h2, h⟩ := h
    have hy' := Den.dp _ y h2.1 hy
    have s2 := h2.shaped
    simp only [D.py] at hy' s2
    refine rw2_of (op_inD hu) ⟨_, _, Den.dp dx x h1.1 hx, hy', h1.shaped, s2, ?_⟩
    rw [anyD_py]
    exact k _ _ H (.refl ok) (by simp only [Den]; rfl) h
  case str t =>
    obtain ⟨s, rfl, h⟩ := h
    simp only [Den] at hx hy
    exact rw2_of op_in_str ⟨s, t, hx, hy, k _ _ H (.refl ok) (by simp only [Den]; rfl) h⟩
theorem r_nin (hu : X.A.units + 65 < cLine) : RD X I (compareOp .NotIn) (fIn true) := fun H x y dx dy Qd Q ok hx hy h k => by
  cases dy <;> simp only [fIn] at h
  case tup ys =>
    obtain ⟨h1, h2, h⟩ := h
    have hy' := Den.dp _ y h2.1 hy
    simp only [D.py] at hy'
    exact rw2_of (op_notInT (by omega)) ⟨dx, ys, h1, h2, Den.dp dx x h1.1 hx, hy', k _ _ H (.refl ok) (by simp only [Den]) h⟩
  case lst ys =>
    obtain ⟨h1, h2, h⟩ := h
    have hy' := Den.dp _ y h2.1 hy
    have s2 := h2.shaped
    simp only [D.py] at hy' s2
    refine rw2_of (op_notInD hu) ⟨_, _, Den.dp dx x h1.1 hx, hy', h1.shaped, s2, ?_⟩
    rw [anyD_py]
    exact k _ _ H (.refl ok) (by simp only [Den]; rfl) h
  case str t =>
    obtain ⟨s, rfl, h⟩ := h
    simp only [Den] at hx hy
    exact rw2_of op_notIn_str ⟨s, t, hx, hy, k _ _ H (.refl ok) (by simp only [Den]; rfl) h⟩
def fOrd (p : Int → Int → Bool) (q : List Int → List Int → Bool) : F2 := fun x y Q =>
  (∃ i j, x = .int i ∧ y = .int j ∧ Q (.bl (p i j))) ∨ ∃ ns ms : List Int, x = .tup (ns.map D.int) ∧ y = .tup (ms.map D.int) ∧ Q (.bl (q ns ms))
abbrev fLt : F2 := fOrd (fun i j => decide (i < j)) HT.lexLt
abbrev fGt : F2 := fI0 fun i j => .bl (decide (j < i))
abbrev fLe : F2 := fI0 fun i j => .bl (decide (i ≤ j))
abbrev fGe : F2 := fI0 fun i j => .bl (decide (j ≤ i))
theorem r_lt (hu : X.A.units < cLine) : RD X I (compareOp .Lt) fLt := fun H x y dx dy Qd Q ok hx hy h k => by
  rcases h with ⟨i, j, rfl, rfl, h⟩ | ⟨ns, ms, rfl, rfl, h⟩
  · simp only [Den] at hx hy
    exact rw2_of op_lt ⟨i, j, hx, hy, k _ _ H (.refl ok) (by simp only [Den]) h⟩
  · simp only [Den] at hx hy
    obtain ⟨a, vs, rfl, s1, n1, r1⟩ := hx
    obtain ⟨b, ws, rfl, s2, n2, r2⟩ := hy
    have e1 := r1.ofInts
    have e2 := r2.ofInts
    subst e1 e2
    exact rw2_of (op_ltT hu) ⟨a, b, ns, ms, rfl, rfl, s1, s2, k _ _ H (.refl ok) (by simp only [Den]) h⟩
theorem r_gt : RD X I (compareOp .Gt) fGt := rd_I0 op_gt fun _ _ _ => by simp only [Den]
theorem r_le : RD X I (compareOp .LtE) fLe := rd_I0 op_le fun _ _ _ => by simp only [Den]
theorem r_ge : RD X I (compareOp .GtE) fGe := rd_I0 op_ge fun _ _ _ => by simp only [Den]
def isN : D → Bool
  | .non => true
  | _ => false
theorem isN_den {K : PySem.W.Frag} {Av : Addr → Prop} {H : Hp} {v : V} {d : D} (h : Den K Av H v d) : decide (v = .non) = isN d := by
  cases d <;> simp only [Den] at h
  all_goals first
    | (subst h; rfl)
    | (obtain ⟨a, vs, rfl, _⟩ := h; rfl)
    | (rename_i q _ _; obtain ⟨ws, _, o, _⟩ := h; cases q <;> first | (obtain ⟨rfl, _⟩ := o; rfl) | (obtain ⟨a, rfl, _⟩ := o; rfl) | (obtain ⟨a, dd, rfl, _⟩ := o; rfl))
def fIs (neg : Bool) : F2 := fun x y Q => match y with
  | .non => Q (.bl (xr neg (isN x)))
  | .bl b => ∃ a, x = .bl a ∧ Q (.bl (xr neg (decide (a = b))))
  | _ => False
theorem r_is : RD X I (compareOp .Is) (fIs false) := fun H x y dx dy Qd Q ok hx hy h k => by
  cases dy <;> simp only [fIs] at h
  case non =>
    simp only [Den] at hy
    refine rw2_of op_isN ⟨hy, ?_⟩
    rw [isN_den hx]
    exact k _ _ H (.refl ok) (by simp only [Den]; rfl) h
  case bl b =>
    obtain ⟨a, rfl, h⟩ := h
    simp only [Den] at hx hy
    exact rw2_of op_is_bl ⟨a, b, hx, hy, k _ _ H (.refl ok) (by simp only [Den]; rfl) h⟩
theorem r_isnot : RD X I (compareOp .IsNot) (fIs true) := fun H x y dx dy Qd Q ok hx hy h k => by
  cases dy <;> simp only [fIs] at h
  case non =>
    simp only [Den] at hy
    refine rw2_of op_notN ⟨hy, ?_⟩
    rw [isN_den hx]
    exact k _ _ H (.refl ok) (by simp only [Den]; rfl) h
  case bl b =>
    obtain ⟨a, rfl, h⟩ := h
    simp only [Den] at hx hy
    exact rw2_of op_isnot_bl ⟨a, b, hx, hy, k _ _ H (.refl ok) (by simp only [Den]; rfl) h⟩
def fUn (h : Int → Int) : D → (D → Prop) → Prop := fun x Q => ∃ i, x = .int i ∧ Q (.int (h i))
def dUn (r : D → (D → Prop) → Prop) (ta : TED) : TED := fun env Q => ta env fun x => r x Q
theorem d_neg (ha : PED X g a ta) : PED X g (.UnaryOp .USub a pos) (dUn (fUn fun i => -i) ta) :=
  ped_of (pe_un un_neg pe_w) fun b0 σ H env Qd Q hd xl h k => ha b0 σ H env _ _ hd xl h fun v d H1 e1 dn ⟨i, ed, q⟩ => by
    subst ed
    simp only [Den] at dn
    exact ⟨i, dn, k _ _ H1 e1 (by simp only [Den]) q⟩

def dAnd (t u : TTD) : TTD := fun env Q => t env fun c => if c = true then u env Q else Q false
def dOr (t u : TTD) : TTD := fun env Q => t env fun c => if c = true then Q true else u env Q
def dNot (t : TTD) : TTD := fun env Q => t env fun c => Q (!c)
theorem dt_and1 (ha : PTD X g a t) : PWD X g (.BoolOp .And [a] pos) t := pwd_of (pw_and1 pt_w) ha
theorem dt_or1 (ha : PTD X g a t) : PWD X g (.BoolOp .Or [a] pos) t := pwd_of (pw_or1 pt_w) ha
theorem st_and {K : PySem.W.Frag} {ta tb : TT} (ha : ST K g ta t) (hb : ST K g tb u) : ST K g (tAnd ta tb) (dAnd t u) := fun b0 σ H env Qd Q hd xl h k =>
  ha b0 σ H env _ _ hd xl h fun c H1 e1 h1 => by
    cases c with
    | true => rw [if_pos rfl] at h1 ⊢; exact hb b0 σ H1 env _ _ (hd.mono e1) xl h1 fun c' H2 e2 q => k c' H2 (e1.trans e2) q
    | false => rw [if_neg Bool.false_ne_true] at h1 ⊢; exact k false H1 e1 h1
theorem st_or {K : PySem.W.Frag} {ta tb : TT} (ha : ST K g ta t) (hb : ST K g tb u) : ST K g (tOr ta tb) (dOr t u) := fun b0 σ H env Qd Q hd xl h k =>
  ha b0 σ H env _ _ hd xl h fun c H1 e1 h1 => by
    cases c with
    | false => rw [if_neg Bool.false_ne_true] at h1 ⊢; exact hb b0 σ H1 env _ _ (hd.mono e1) xl h1 fun c' H2 e2 q => k c' H2 (e1.trans e2) q
    | true => rw [if_pos rfl] at h1 ⊢; exact k true H1 e1 h1
theorem dt_and {rest : List Expr} (ha : PTD X g a t) (hb : PWD X g (.BoolOp .And (b :: rest) pos) u) : PWD X g (.BoolOp .And (a :: b :: rest) pos) (dAnd t u) := pwd_of (pw_and pt_w pw_w) (st_and ha hb)
theorem dt_or {rest : List Expr} (ha : PTD X g a t) (hb : PWD X g (.BoolOp .Or (b :: rest) pos) u) : PWD X g (.BoolOp .Or (a :: b :: rest) pos) (dOr t u) := pwd_of (pw_or pt_w pw_w) (st_or ha hb)
theorem dt_not (ha : PTD X g a t) : PTD X g (.UnaryOp .Not a pos) (dNot t) := ptd_of (pt_not pt_w) fun b0 σ H env Qd Q hd xl h k => ha b0 σ H env _ _ hd xl h fun c H1 e1 q => k _ H1 e1 q
def dAndV (ta tb : TED) : TED := fun env Q => ta env fun x => ∃ c, x = .bl c ∧ if c = true then tb env Q else Q (.bl false)
def dOrV (ta tb : TED) : TED := fun env Q => ta env fun x => ∃ c, x = .bl c ∧ if c = true then Q (.bl true) else tb env Q
def dNotV (ta : TED) : TED := fun env Q => ta env fun x => ∃ c, x = .bl c ∧ Q (.bl (!c))
theorem d_one {op} (h : PED X g a ta) : PED X g (.BoolOp op [a] pos) ta := ped_of (pe_one pe_w) h
theorem d_and {rest : List Expr} (ha : PED X g a ta) (hb : PED X g (.BoolOp .And (b :: rest) pos) tb) : PED X g (.BoolOp .And (a :: b :: rest) pos) (dAndV ta tb) :=
  ped_of (pe_and pe_w pe_w) fun b0 σ H env Qd Q hd xl h k => ha b0 σ H env _ _ hd xl h fun v d H1 e1 dn ⟨c, ed, h1⟩ => by
    subst ed
    simp only [Den] at dn
    refine ⟨c, dn, ?_⟩
    cases c with
    | true => rw [if_pos rfl] at h1 ⊢; exact hb b0 σ H1 env _ _ (hd.mono e1) xl h1 fun v' d' H2 e2 dn' q => k v' d' H2 (e1.trans e2) dn' q
    | false => rw [if_neg Bool.false_ne_true] at h1 ⊢; exact k _ _ H1 e1 (by simp only [Den]) h1
theorem d_or {rest : List Expr} (ha : PED X g a ta) (hb : PED X g (.BoolOp .Or (b :: rest) pos) tb) : PED X g (.BoolOp .Or (a :: b :: rest) pos) (dOrV ta tb) :=
  ped_of (pe_or pe_w pe_w) fun b0 σ H env Qd Q hd xl h k => ha b0 σ H env _ _ hd xl h fun v d H1 e1 dn ⟨c, ed, h1⟩ => by
    subst ed
    simp only [Den] at dn
    refine ⟨c, dn, ?_⟩
    cases c with
    | false => rw [if_neg Bool.false_ne_true] at h1 ⊢; exact hb b0 σ H1 env _ _ (hd.mono e1) xl h1 fun v' d' H2 e2 dn' q => k v' d' H2 (e1.trans e2) dn' q
    | true => rw [if_pos rfl] at h1 ⊢; exact k _ _ H1 e1 (by simp only [Den]) h1
theorem d_not (ha : PED X g a ta) : PED X g (.UnaryOp .Not a pos) (dNotV ta) :=
  ped_of (pe_not pe_w) fun b0 σ H env Qd Q hd xl h k => ha b0 σ H env _ _ hd xl h fun v d H1 e1 dn ⟨c, ed, h1⟩ => by
    subst ed
    simp only [Den] at dn
    exact ⟨c, dn, k _ _ H1 e1 (by simp only [Den]) h1⟩
def dIf (t : TTD) (ta tb : TED) : TED := fun env Q => t env fun c => if c = true then ta env Q else tb env Q
theorem d_ifExp (hc : PTD X g c t) (ha : PED X g a ta) (hb : PED X g b tb) : PED X g (.IfExp c a b pos) (dIf t ta tb) :=
  ped_of (pe_ifExp pt_w pe_w pe_w) fun b0 σ H env Qd Q hd xl h k => hc b0 σ H env _ _ hd xl h fun c H1 e1 h1 => by
    cases c with
    | true => rw [if_pos rfl] at h1 ⊢; exact ha b0 σ H1 env _ _ (hd.mono e1) xl h1 fun v' d' H2 e2 dn' q => k v' d' H2 (e1.trans e2) dn' q
    | false => rw [if_neg Bool.false_ne_true] at h1 ⊢; exact hb b0 σ H1 env _ _ (hd.mono e1) xl h1 fun v' d' H2 e2 dn' q => k v' d' H2 (e1.trans e2) dn' q
def dB (td : TED) : TTD := fun env Q => td env fun d => ∃ c, d = .bl c ∧ Q c
theorem dt_val (h : PED X g a td) (he : ∀ whole, isTrue a X.env whole = (do let v ← whole; standAt a.pos; holding [v] (truthy v)) := by intro _; rfl) : PTD X g a (dB td) :=
  ptd_of (pt_val pe_w he) fun b0 σ H env Qd Q hd xl h' k => h b0 σ H env _ _ hd xl h' fun v d H1 e1 dn ⟨c, ed, q⟩ => by
    subst ed
    simp only [Den] at dn
    exact ⟨c, dn, k c H1 e1 q⟩

def dNil : TAD := fun _ Q => Q []
def dCons (td : TED) (tr : TAD) : TAD := fun env Q => td env fun x => tr env fun xs => Q (x :: xs)
theorem da_nil : PAD X g [] dNil := pad_of pa_nil fun b0 σ H env Qd Q hd xl h k => k [] [] H (.refl hd.ok) (by simp only [DenA]) h
theorem da_cons {tr : TAD} (he : PED X g e td) (ht : PAD X g es tr) (hs : starEach (e :: es) X.env = (false, eval e X.env) :: starEach es X.env := by rfl) : PAD X g (e :: es) (dCons td tr) :=
  pad_of (pa_cons pe_w pa_w hs) fun b0 σ H env Qd Q hd xl h k => he b0 σ H env _ _ hd xl h fun v d H1 e1 dn h1 => ht b0 σ H1 env _ _ (hd.mono e1) xl h1 fun vs ds H2 e2 dn2 q =>
    k (v :: vs) (d :: ds) H2 (e1.trans e2) (by simp only [DenA]; exact ⟨v, vs, rfl, Den.keep e2.1 _ _ dn, dn2⟩) q
def dTup (ta : TAD) : TED := fun env Q => ta env fun xs => xs.length ≤ sizeLine ∧ Q (.tup xs)
def dLst (ta : TAD) : TED := fun env Q => ta env fun xs => xs.length ≤ sizeLine ∧ Q (.lst xs)
theorem new_tup {K : PySem.W.Frag} {H : Hp} {p : Addr} {vs : List V} {ds : List D} (ok : I.ok H) (hp : H p = none) (h : DenA K I.own H vs ds) : Den K I.own (upd H p (.tup vs)) (.ref p) (.tup ds) := by
  simp only [Den]
  exact ⟨p, vs, rfl, SqT.of upd_same, .inl ⟨HI.nown ok hp, upd_same⟩, DenA.keep (Kp.new hp) _ _ h⟩
theorem new_lst {K : PySem.W.Frag} {H : Hp} {p : Addr} {vs : List V} {ds : List D} (ok : I.ok H) (hp : H p = none) (h : DenA K I.own H vs ds) : Den K I.own (upd H p (.lst vs)) (.ref p) (.lst ds) := by
  simp only [Den]
  exact ⟨p, vs, rfl, upd_same, HI.nown ok hp, DenA.keep (Kp.new hp) _ _ h⟩
theorem d_tup {x1} {tas : TAD} (h : PAD X g es tas) : PED X g (.Tuple es x1 pos) (dTup tas) :=
  ped_of (pe_tup pa_w) fun b0 σ H env Qd Q hd xl hq k => h b0 σ H env _ _ hd xl hq fun vs ds H1 e1 dn ⟨z, q⟩ =>
    ⟨by rw [dn.len]; exact z, fun p hp => k _ _ _ (e1.trans (.new e1.2 hp)) (new_tup e1.2 hp dn) q⟩
theorem d_lst {tas : TAD} (h : PAD X g es tas) : PED X g (.List es pos) (dLst tas) :=
  ped_of (pe_lst pa_w) fun b0 σ H env Qd Q hd xl hq k => h b0 σ H env _ _ hd xl hq fun vs ds H1 e1 dn ⟨z, q⟩ =>
    ⟨by rw [dn.len]; exact z, fun p hp => k _ _ _ (e1.trans (.new e1.2 hp)) (new_lst e1.2 hp dn) q⟩

def fIx : F2 := fun x y Q => ∃ i : Int, y = .int i ∧ match x with
  | .tup xs => ∃ d, atI xs i = some d ∧ Q d
  | .lst xs => ∃ d, atI xs i = some d ∧ Q d
  | .str z => z.length ≤ sizeLine ∧ ∃ c, atI z.cps.toList i = some c ∧ Q (.str ⟨#[c]⟩)
  | _ => False
theorem atI_den {K : PySem.W.Frag} {Av : Addr → Prop} {H : Hp} {vs : List V} {ds : List D} {i : Int} {d : D} (h : DenA K Av H vs ds) (e : atI ds i = some d) : ∃ v, atI vs i = some v ∧ Den K Av H v d := by
  unfold atI at e ⊢
  rw [h.len]
  cases q : ixN ds.length i with
  | none => rw [q] at e; cases e
  | some j =>
    rw [q] at e
    exact h.get e
theorem d_ix (ha : PED X g a ta) (hb : PED X g b tb) (hs : PlainIx b := by intro _ _; rfl) : PED X g (.Subscript a b pos) (dOp fIx ta tb) :=
  ped_of (pe_ix ix_seq pe_w pe_w hs) (sd_op ha hb fun H x y dx dy Qd Q ok hx hy hh k => by
    obtain ⟨i, ey, h⟩ := hh
    subst ey
    simp only [Den] at hy
    cases dx <;> simp only at h
    case tup xs =>
      obtain ⟨d, e, q⟩ := h
      simp only [Den] at hx
      obtain ⟨a, vs, rfl, s1, n1, r1⟩ := hx
      obtain ⟨v, e2, dn⟩ := atI_den r1 e
      exact .inr (.inl ⟨a, vs, i, v, rfl, hy, s1, e2, k _ _ H (.refl ok) dn q⟩)
    case lst xs =>
      obtain ⟨d, e, q⟩ := h
      simp only [Den] at hx
      obtain ⟨a, vs, rfl, s1, n1, r1⟩ := hx
      obtain ⟨v, e2, dn⟩ := atI_den r1 e
      exact .inl ⟨a, vs, i, v, rfl, hy, SqL.of s1, e2, k _ _ H (.refl ok) dn q⟩
    case str z =>
      obtain ⟨z1, c, e, q⟩ := h
      simp only [Den] at hx
      exact .inr (.inr ⟨z, i, c, hx, hy, z1, e, k _ _ H (.refl ok) (by simp only [Den]) q⟩))
end
end Dl

namespace Dl
open PySem PySem.Spec PyProof.Rows L2

abbrev TOD := DEnv → (Option Int → Prop) → Prop
def wO (X : Cx) (e : Option Expr) : TO := fun σ H Q => ∀ pins s, Inv X pins σ H s → wpAny (model X.prog X.w) X.A (evalPart e X.env) (fun u s' => ∃ o H', Inv X pins σ H' s' ∧ IsPart u o ∧ Q o H') X.xe s
def SO (K : PySem.W.Frag) (g : Gx) (to : TO) (td : TOD) : Prop :=
  ∀ (b : B0) (σ : L2.St) (H : Hp) (env : DEnv) (Qd : Option Int → Prop) (Q : Option Int → Hp → Prop), DenE K g.I b σ H env → XL K g b → td env Qd → (∀ o H', Ext g.I H H' → Qd o → Q o H') → to σ H Q
def POD (X : Cx) (g : Gx) (e : Option Expr) (td : TOD) : Prop := SO X.K g (wO X e) td
def dNoP : TOD := fun _ Q => Q none
def dPart (td : TED) : TOD := fun env Q => td env fun x => ∃ i, x = .int i ∧ Q (some i)
def cutL {α : Type} (xs : List α) (lo hi : Option Int) : List α := (xs.drop (HT.sIx xs.length 0 lo)).take (HT.sIx xs.length xs.length hi - HT.sIx xs.length 0 lo)
def fSl : D → Option Int → Option Int → (D → Prop) → Prop := fun x lo hi Q => match x with
  | .tup xs => Q (.tup (cutL xs lo hi))
  | .lst xs => Q (.lst (cutL xs lo hi))
  | .str z => z.length ≤ sizeLine ∧ Q (.str (cutS z lo hi))
  | _ => False
def dSl (te : TED) (tl th : TOD) : TED := fun env Q => te env fun x => tl env fun lo => th env fun hi => fSl x lo hi Q
section
variable {X : Cx} {g : Gx} {e a b c : Expr} {es : List Expr} {td ta tb tc : TED} {t u : TTD} {pos : Pos} {lo hi : Option Expr} {tl th : TOD}
theorem do_none : POD X g none dNoP := fun b0 σ H env Qd Q hd xl ht k pins s J => po_none.run pins s σ H Q J (k none H (.refl hd.ok) ht)
theorem do_some (h : PED X g e td) : POD X g (some e) (dPart td) := fun b0 σ H env Qd Q hd xl ht k pins s J => (po_some pe_w).run pins s σ H Q J (h b0 σ H env _ _ hd xl ht fun v d H1 e1 dn ⟨i, ed, q⟩ => by
  subst ed
  simp only [Den] at dn
  exact ⟨i, dn, k _ H1 e1 q⟩)
theorem po_w {eo : Option Expr} : PO X eo (wO X eo) := ⟨fun pins s σ H Q I h => h pins s I⟩
theorem cut_den {K : PySem.W.Frag} {Av : Addr → Prop} {H : Hp} {vs : List V} {ds : List D} {lo hi : Option Int} (h : DenA K Av H vs ds) : DenA K Av H (cutV vs lo hi) (cutL ds lo hi) := by
  unfold cutV cutL
  rw [h.len]
  exact DenA.take _ (DenA.drop _ h)
theorem d_slice {p2 : Pos} (he : PED X g e td) (hl : POD X g lo tl) (hu : POD X g hi th) : PED X g (.Subscript e (.Slice lo hi none p2) pos) (dSl td tl th) :=
  ped_of (pe_slice (sl_list.or (sl_tupA.or sl_str)) pe_w po_w po_w) fun b0 σ H env Qd Q hd xl h k =>
    he b0 σ H env _ _ hd xl h fun v d H1 e1 dn h1 => hl b0 σ H1 env _ _ (hd.mono e1) xl h1 fun lo' H2 e2 h2 => hu b0 σ H2 env _ _ (hd.mono (e1.trans e2)) xl h2 fun hi' H3 e3 h3 => by
      replace dn := Den.keep (e2.trans e3).1 _ _ dn
      have ok := e3.2
      have ee := e1.trans (e2.trans e3)
      cases d <;> simp only [fSl] at h3 <;> simp only [Den] at dn
      case tup xs =>
        obtain ⟨a, vs, rfl, s1, n1, r1⟩ := dn
        refine .inr (.inl ⟨a, vs, rfl, s1, fun hw => k _ _ _ ee ?_ h3, fun hw p hp => k _ _ _ (ee.trans (.new ok hp)) (new_tup ok hp (cut_den r1)) h3⟩)
        have : cutL xs lo' hi' = xs := by
          unfold cutL
          rw [← r1.len, hw.1, hw.2, r1.len]
          simp
        rw [this]
        simp only [Den]
        exact ⟨a, vs, rfl, s1, n1, r1⟩
      case lst xs =>
        obtain ⟨a, vs, rfl, s1, n1, r1⟩ := dn
        exact .inl ⟨a, vs, rfl, SqL.of s1, fun p hp => k _ _ _ (ee.trans (.new ok hp)) (new_lst ok hp (cut_den r1)) h3⟩
      case str z => exact .inr (.inr ⟨z, dn, h3.1, k _ _ _ ee (by simp only [Den]) h3.2⟩)
end

def rwC (X : Cx) (f : Value) : List V → Hp → VK → Prop := fun xs H Q => ∀ pins s σ us, Inv X pins σ H s → Vals xs us → wpAny (model X.prog X.w) X.A (call f us) (EP X pins σ Q) X.xe s
abbrev FC := List D → (D → Prop) → Prop
def RC (X : Cx) (I : HI) (f : Value) (r : FC) : Prop :=
  ∀ (H : Hp) (xs : List V) (ds : List D) (Qd : D → Prop) (Q : VK), I.ok H → DenA X.K I.own H xs ds → r ds Qd → (∀ v d H', Ext I H H' → Den X.K I.own H' v d → Qd d → Q v H') → rwC X f xs H Q
def dCB (r : FC) (ta : TAD) : TED := fun env Q => ta env fun xs => r xs Q
section
variable {X : Cx} {I : HI} {g : Gx} {e a b c : Expr} {es : List Expr} {td ta tb tc : TED} {tas : TAD} {t u : TTD} {pos p : Pos} {f : Value} {r : FC} {x : Str}
theorem cr_w : CallR X f (rwC X f) := fun pins s σ H xs us Q J r h => h pins s σ us J r
theorem rc_of {f : Value} {r' : List V → Hp → VK → Prop} (h : CallR X f r') {xs : List V} {H : Hp} {Q : VK} (q : r' xs H Q) : rwC X f xs H Q := fun pins s σ us J rx => h pins s σ H xs us Q J rx q
theorem sd_cb {K : PySem.W.Frag} {ra : L2.TA} {r' : List V → Hp → VK → Prop} (ha : SA K g ra tas)
    (hr : ∀ (H : Hp) (xs : List V) (ds : List D) (Qd : D → Prop) (Q : VK), g.I.ok H → DenA K g.I.own H xs ds → r ds Qd → (∀ v d H', Ext g.I H H' → Den K g.I.own H' v d → Qd d → Q v H') → r' xs H Q) : SE K g (tCB r' ra) (dCB r tas) := fun b0 σ H env Qd Q hd xl h k =>
  ha b0 σ H env _ _ hd xl h fun vs ds H1 e1 dn q => hr H1 vs ds Qd Q e1.2 dn q fun v d H' e2 dn2 q2 => k v d H' (e1.trans e2) dn2 q2
theorem d_callB {id : String} (hc : RC X g.I (.builtin id) r) (hg : Gl X x) (hm : X.mg x = none) (hv : bootBuiltins x = some (.builtin id)) (ha : PAD X g (e :: es) tas) (hn : x ≠ "__name__" := by decide) (hdb : (x == ("__debug__" : Str)) = false := by decide)
    (he : starEach (e :: es) X.env = (false, eval e X.env) :: starEach es X.env := by rfl) (hpl : (backTo pos (starEach es X.env)).any (·.1) = false := by rfl) : PED X g (.Call (.Name x p) (e :: es) [] pos) (dCB r tas) :=
  ped_of (pe_callB cr_w hg hm hv pa_w hn hdb he hpl) (sd_cb ha hc)
theorem d_callTy {T : String} (hc : RC X g.I (.type T) r) (hg : Gl X x) (hm : X.mg x = none) (hv : bootBuiltins x = some (.type T)) (ha : PAD X g (e :: es) tas) (hn : x ≠ "__name__" := by decide) (hdb : (x == ("__debug__" : Str)) = false := by decide)
    (he : starEach (e :: es) X.env = (false, eval e X.env) :: starEach es X.env := by rfl) (hpl : (backTo pos (starEach es X.env)).any (·.1) = false := by rfl) : PED X g (.Call (.Name x p) (e :: es) [] pos) (dCB r tas) :=
  ped_of (pe_callTy cr_w hg hm hv pa_w hn hdb he hpl) (sd_cb ha hc)
theorem d_ty {n : String} (hg : Gl X x) (hm : X.mg x = none) (hv : bootBuiltins x = some (.type n)) (hn : x ≠ "__name__" := by decide) (hdb : (x == ("__debug__" : Str)) = false := by decide) : PED X g (.Name x p) (dC (.ty n)) :=
  ped_of (pe_bltn (v := .ty n) hg hm hv rfl hn hdb) (sd_c fun _ => by simp only [Den])
theorem DenA.nil {K : PySem.W.Frag} {Av : Addr → Prop} {H : Hp} {vs : List V} (h : DenA K Av H vs []) : vs = [] := by simpa only [DenA] using h
theorem DenA.cons {K : PySem.W.Frag} {Av : Addr → Prop} {H : Hp} {vs : List V} {d : D} {ds : List D} (h : DenA K Av H vs (d :: ds)) : ∃ v r, vs = v :: r ∧ Den K Av H v d ∧ DenA K Av H r ds := by simpa only [DenA] using h
theorem DenA.one1 {K : PySem.W.Frag} {Av : Addr → Prop} {H : Hp} {vs : List V} {d : D} (h : DenA K Av H vs [d]) : ∃ v, vs = [v] ∧ Den K Av H v d := by
  obtain ⟨v, r, rfl, h1, h2⟩ := h.cons
  cases h2.nil
  exact ⟨v, rfl, h1⟩
def bLen : FC := fun xs Q => ∃ x, xs = [x] ∧ match x with
  | .tup ys => Q (.int ys.length)
  | .lst ys => Q (.int ys.length)
  | .str z => z.length ≤ sizeLine ∧ Q (.int z.length)
  | _ => False
theorem c_len : RC X I (.builtin "len") bLen := fun H xs ds Qd Q ok dn hh k => by
  obtain ⟨x, rfl, h⟩ := hh
  obtain ⟨v, rfl, d1⟩ := dn.one1
  cases x <;> simp only at h <;> simp only [Den] at d1
  case tup ys =>
    obtain ⟨a, vs, rfl, s1, n1, r1⟩ := d1
    rw [← r1.len] at h
    exact rc_of call_len ⟨_, vs.length, rfl, .inr ⟨vs, s1, rfl⟩, k _ _ H (.refl ok) (by simp only [Den]) h⟩
  case lst ys =>
    obtain ⟨a, vs, rfl, s1, n1, r1⟩ := d1
    rw [← r1.len] at h
    exact rc_of call_len ⟨_, vs.length, rfl, .inl ⟨vs, SqL.of s1, rfl⟩, k _ _ H (.refl ok) (by simp only [Den]) h⟩
  case str z => subst d1; exact rc_of call_len_str ⟨z, rfl, h.1, k _ _ H (.refl ok) (by simp only [Den]) h.2⟩
def D.tyn : D → Option String
  | .non => some "NoneType" | .bl _ => some "bool" | .int _ => some "int" | .str _ => some "str" | .tup _ => some "tuple" | .lst _ => some "list" | .ref _ => none | .ty _ => none | .obj _ _ _ => none
def isiB (t n : String) : Bool := decide (t = n) || (decide (t = "bool") && decide (n = "int"))
def tyNames : List String := ["NoneType", "bool", "int", "str", "tuple", "list"]
theorem kitB_tab : ∀ t ∈ tyNames, ∀ n ∈ tyNames, kitB t n = some (isiB t n) := by decide +kernel
def tysOf : List D → Option (List String)
  | [] => some []
  | .ty n :: r => (tysOf r).map (n :: ·)
  | _ :: _ => none
def bIsi : FC := fun xs Q => ∃ x c, xs = [x, c] ∧ ∃ t, x.tyn = some t ∧ match c with
  | .ty n => n ∈ tyNames ∧ Q (.bl (isiB t n))
  | .tup cs => ∃ ns, tysOf cs = some ns ∧ (∀ n ∈ ns, n ∈ tyNames) ∧ Q (.bl (ns.any fun n => isiB t n))
  | _ => False
theorem tyn_mem {x : D} {t : String} (h : x.tyn = some t) : t ∈ tyNames := by
  cases x <;> simp only [D.tyn, Option.some.injEq] at h <;> first | (subst h; decide) | cases h
theorem tyx_den {K : PySem.W.Frag} {Av : Addr → Prop} {H : Hp} {v : V} {x : D} {t : String} (h : x.tyn = some t) (dn : Den K Av H v x) : TyX K H v (.type t) := by
  cases x <;> simp only [D.tyn, Option.some.injEq] at h <;> simp only [Den] at dn
  case non => subst h dn; exact .base .non
  case bl => subst h dn; exact .base (.bl _)
  case int => subst h dn; exact .base (.int _)
  case str => subst h dn; exact .base (.str _)
  case tup =>
    subst h
    obtain ⟨a, vs, rfl, s1, n1, r1⟩ := dn
    rcases s1 with (s | ⟨o, s⟩) | ⟨o, its, n, s, c, _⟩
    · exact .base (.tup s)
    · exact .fTuple s
    · exact .kTuple s c
  case lst =>
    subst h
    obtain ⟨a, vs, rfl, s1, n1, r1⟩ := dn
    exact .base (.lst s1)
  case ref => cases h
  case obj => cases h
  case ty => cases h
theorem kitAny_of {K : PySem.W.Frag} {t : String} (ht : t ∈ tyNames) : ∀ {ns : List String}, (∀ n ∈ ns, n ∈ tyNames) → PySem.W.kitAny K (.type t) (ns.map Value.type) = some (ns.any fun n => isiB t n)
  | [], _ => rfl
  | n :: ns, h => by
    have h1 : PySem.W.kitOne K (.type t) (.type n) = some (isiB t n) := kit_ty (kitB_tab t ht n (h n List.mem_cons_self))
    have ih := kitAny_of (K := K) ht (ns := ns) fun m hm => h m (List.mem_cons_of_mem _ hm)
    show (match PySem.W.kitOne K (.type t) (.type n) with
      | some true => some true
      | some false => PySem.W.kitAny K (.type t) (ns.map Value.type)
      | none => none) = some (isiB t n || ns.any fun n => isiB t n)
    rw [h1, ih]
    cases isiB t n <;> rfl
theorem tys_den {K : PySem.W.Frag} {Av : Addr → Prop} {H : Hp} : ∀ {cs : List D} {ns : List String} {vs : List V}, tysOf cs = some ns → DenA K Av H vs cs → Paired ClsV vs (ns.map Value.type)
  | [], ns, vs, h, dn => by
    cases dn.nil
    cases (show some [] = some ns from h)
    exact .nil
  | c :: cs, ns, vs, h, dn => by
    obtain ⟨v, r, rfl, h1, h2⟩ := dn.cons
    cases c <;> simp only [tysOf] at h
    case ty n =>
      obtain ⟨ms, e, rfl⟩ := Option.map_eq_some_iff.mp h
      simp only [Den] at h1
      subst h1
      exact .cons (.ty n) (tys_den e h2)
    all_goals cases h
theorem c_isi : RC X I (.builtin "isinstance") bIsi := fun H xs ds Qd Q ok dn hh k => by
  obtain ⟨x, c, rfl, t, ht, h⟩ := hh
  obtain ⟨v, r, rfl, d1, d2⟩ := dn.cons
  obtain ⟨w, rfl, d3⟩ := d2.one1
  cases c <;> simp only at h <;> simp only [Den] at d3
  case ty n =>
    subst d3
    exact rc_of call_isi ⟨v, .ty n, .type t, .type n, _, rfl, .ty n, tyx_den ht d1, kit_ty (kitB_tab t (tyn_mem ht) n h.1), k _ _ H (.refl ok) (by simp only [Den]) h.2⟩
  case tup cs =>
    obtain ⟨ns, h1, h2, q⟩ := h
    obtain ⟨a, vs, rfl, s1, n1, r1⟩ := d3
    rcases n1 with ⟨_, s⟩ | ⟨⟨oc, od, dt', osl⟩, its, n, s, c, dt, z, rv⟩
    · exact rc_of call_isiT ⟨v, a, vs, .type t, _, _, rfl, s, tys_den h1 r1, tyx_den ht d1, kitAny_of (tyn_mem ht) h2, k _ _ H (.refl ok) (by simp only [Den]) q⟩
    · simp only at c dt
      subst c dt
      have e : its.toList = ns.map Value.type := ClsV.all (tys_den h1 r1) rv
      have e2 : its = (ns.map Value.type).toArray := by rw [← e]
      subst e2
      exact rc_of call_isiK ⟨v, a, od, ns.map Value.type, n, osl, .type t, _, rfl, s, tyx_den ht d1, kitAny_of (tyn_mem ht) h2, k _ _ H (.refl ok) (by simp only [Den]) q⟩
end
end Dl

namespace Dl
open PySem PySem.Spec PyProof.Rows L2

section
variable {X : Cx} {I : HI} {g : Gx} {e a b c : Expr} {es : List Expr} {td ta tb tc : TED} {tas : TAD} {t u : TTD} {pos p : Pos} {f : Value} {r : FC} {x : Str}
def bTup : FC := fun xs Q => ∃ x, xs = [x] ∧ match x with
  | .tup ys => Q (.tup ys)
  | .lst ys => Q (.tup ys)
  | _ => False
theorem c_tup : RC X I (.type "tuple") bTup := fun H xs ds Qd Q ok dn hh k => by
  obtain ⟨x, rfl, h⟩ := hh
  obtain ⟨v, rfl, d1⟩ := dn.one1
  cases x <;> simp only at h
  case tup ys =>
    have d1' := d1
    simp only [Den] at d1
    obtain ⟨a, vs, rfl, s1, n1, r1⟩ := d1
    exact rc_of call_tuple_of ⟨a, vs, rfl, .inr ⟨s1, k _ _ H (.refl ok) d1' h⟩⟩
  case lst ys =>
    simp only [Den] at d1
    obtain ⟨a, vs, rfl, s1, n1, r1⟩ := d1
    exact rc_of call_tuple_of ⟨a, vs, rfl, .inl ⟨SqL.of s1, fun p hp => k _ _ _ (.new ok hp) (new_tup ok hp r1) h⟩⟩
def bLst : FC := fun xs Q => ∃ x, xs = [x] ∧ match x with
  | .tup ys => Q (.lst ys)
  | .lst ys => Q (.lst ys)
  | _ => False
theorem c_lst : RC X I (.type "list") bLst := fun H xs ds Qd Q ok dn hh k => by
  obtain ⟨x, rfl, h⟩ := hh
  obtain ⟨v, rfl, d1⟩ := dn.one1
  cases x <;> simp only at h <;> simp only [Den] at d1
  case tup ys =>
    obtain ⟨a, vs, rfl, s1, n1, r1⟩ := d1
    exact rc_of call_list_of ⟨a, vs, rfl, .inr s1, fun p hp => k _ _ _ (.new ok hp) (new_lst ok hp r1) h⟩
  case lst ys =>
    obtain ⟨a, vs, rfl, s1, n1, r1⟩ := d1
    exact rc_of call_list_of ⟨a, vs, rfl, .inl (SqL.of s1), fun p hp => k _ _ _ (.new ok hp) (new_lst ok hp r1) h⟩
def bInt : FC := fun xs Q => ∃ i, xs = [.int i] ∧ Q (.int i)
theorem c_int : RC X I (.type "int") bInt := fun H xs ds Qd Q ok dn ⟨i, e, h⟩ k => by
  subst e
  obtain ⟨v, rfl, d1⟩ := dn.one1
  simp only [Den] at d1
  subst d1
  exact rc_of call_int1 (.inl ⟨i, rfl, k _ _ H (.refl ok) (by simp only [Den]) h⟩)
def bAbs : FC := fun xs Q => ∃ i : Int, xs = [.int i] ∧ Q (.int (if i < 0 then -i else i))
theorem c_abs : RC X I (.builtin "abs") bAbs := fun H xs ds Qd Q ok dn ⟨i, e, h⟩ k => by
  subst e
  obtain ⟨v, rfl, d1⟩ := dn.one1
  simp only [Den] at d1
  subst d1
  exact rc_of call_abs ⟨i, rfl, k _ _ H (.refl ok) (by simp only [Den]) h⟩
abbrev Ct := List D → (D → Prop) → (Exc → Prop) → Prop
def spOf (K : PySem.W.Frag) (I : HI) (n : Nat) (C : Ct) : Sp := fun vs H Q E => ∃ ds Qd Ed, ds.length = n ∧ DenA K I.own H vs ds ∧ I.ok H ∧ C ds Qd Ed ∧
  (∀ v d H', Ext I H H' → Den K I.own H' v d → Qd d → Q v H') ∧ (∀ x d H', Ext I H H' → ExD K I H' x d → Ed x → E (.ref x.cls) d H')
def dCall (C : Ct) (dds : List D) (Ed : DEnv → Exc → Prop) (ta : TAD) : TED := fun env Q => ta env fun xs => C (xs ++ dds) Q (Ed env)
theorem run_fnD {k : Nat} {fa : Addr} {fd : FuncData} {ps : List Str} {sp : Sp} {ds : List Value} {dvs : List V} {pins : List (Addr × Obj)} {σ : L2.St} {H : Hp} {s : Shared} {Q : VK} {us : List Value} {vs : List V} {E : XK}
    (F : FnOk X.prog X.w X.K X.mg X.base (L2.CX X.prog X.w) k fa fd ps sp) (hr : Room k X.A) (hb : Binds X.K fd ps ds) (hd : Vals dvs ds) (hx : PassesAt (L2.CX X.prog X.w) X σ E)
    (J : Inv X pins σ H s) (r : Vals vs us) (h : sp (vs ++ dvs) H Q E) : wpAny (model X.prog X.w) X.A (call (.ref fa) us) (EP X pins σ Q) X.xe s := by
  have r2 : Vals (vs ++ dvs) (us ++ ds) := r.append hd
  have hl : (us ++ ds).length = ps.length := by rw [← r2.length]; exact F.len _ _ _ _ h
  refine wpAny_call (codeAny_mono (F.run X.A X.stack s H ⟨us, []⟩ (us ++ ds) (vs ++ dvs) Q E hr J.env0 (hb s us J.kIn hl) r2 h) fun r s' hq => ?_)
  cases r with
  | error e => exact hx pins H s e s' J hq
  | ok fl =>
    cases fl with
    | ret u => exact J.after hq
    | next => exact False.elim hq
    | brk => exact False.elim hq
    | cont => exact False.elim hq
theorem spOf_call {K : PySem.W.Frag} {n : Nat} {C : Ct} {H : Hp} {vs dvs : List V} {xs dds : List D} {Qd : D → Prop} {Ed : Exc → Prop} {Q : VK} {E : XK} (ok : I.ok H) (hl : (xs ++ dds).length = n) (dn : DenA K I.own H vs xs) (dd : DenA K I.own H dvs dds) (h : C (xs ++ dds) Qd Ed)
    (k : ∀ v d H', Ext I H H' → Den K I.own H' v d → Qd d → Q v H') (ke : ∀ x d H', Ext I H H' → ExD K I H' x d → Ed x → E (.ref x.cls) d H') : spOf K I n C (vs ++ dvs) H Q E :=
  ⟨xs ++ dds, Qd, Ed, hl, dn.app dd, ok, h, k, ke⟩
theorem d_call {k n : Nat} {fa : Addr} {fd : FuncData} {ps : List Str} {C : Ct} {ds : List Value} {dvs : List V} {dds : List D} (F : FnOk X.prog X.w X.K X.mg X.base (L2.CX X.prog X.w) k fa fd ps (spOf X.K g.I n C)) (hr : Room k X.A) (hg : Gl X x)
    (hm : X.mg x = some (.ref fa)) (hk : PySem.W.keepIn X.K (.ref fa) = true) (hb : Binds X.K fd ps ds) (hd : Vals dvs ds) (hdd : ∀ H, DenA X.K g.I.own H dvs dds) (tk : Takes X g.W) (hC : ∀ xs Q E, C xs Q E → xs.length = n) (ha : PAD X g (e :: es) tas)
    (hdb : (x == ("__debug__" : Str)) = false := by decide) (he : starEach (e :: es) X.env = (false, eval e X.env) :: starEach es X.env := by rfl) (hpl : (backTo pos (starEach es X.env)).any (·.1) = false := by rfl) :
    PED X g (.Call (.Name x p) (e :: es) [] pos) (dCall C dds g.Ed tas) := fun b0 σ H env Qd Q hd' xl h kq pins s J => by
  refine wpAny_Call_Name_kw (ld_glob J hg hm ?_ hdb)
  refine PySem.W.callWith_K (h₀ := X.base) J.ok.mod.kin hk (thn ((pa_w (es := e :: es)).run pos pins s σ H (fun vs H1 => spOf X.K g.I n C (vs ++ dvs) H1 Q (WE g.W σ)) J ?_) fun us s1 ⟨vs, H1, I1, r, q⟩ => ⟨I1.kIn, run_fnD F hr hb hd (passAt tk σ) I1 r q⟩) he hpl
  exact ha b0 σ H env _ _ hd' xl h fun vs xs H1 e1 dn q => spOf_call e1.2 (hC _ _ _ q) dn (hdd H1) q (fun v d H2 e2 dn2 q2 => kq v d H2 (e1.trans e2) dn2 q2) fun x d H2 e2 xd q2 => xl σ H env x d H2 hd' (e1.trans e2) xd q2
end

structure DEnds where
  nx : DEnv → Prop
  rt : D → Prop
  bk : DEnv → Prop := fun _ => False
  ct : DEnv → Prop := fun _ => False
abbrev TSD := DEnds → DEnv → Prop
structure EL (K : PySem.W.Frag) (g : Gx) (b : B0) (Dd : DEnds) (E : Ends) : Prop where
  nx : ∀ σ H env, DenE K g.I b σ H env → Dd.nx env → E.nx σ H
  rt : ∀ v d H, Ext g.I b.H0 H → Den K g.I.own H v d → Dd.rt d → E.rt v H
  bk : ∀ σ H env, DenE K g.I b σ H env → Dd.bk env → E.bk σ H
  ct : ∀ σ H env, DenE K g.I b σ H env → Dd.ct env → E.ct σ H
def SS (K : PySem.W.Frag) (g : Gx) (ts : TS) (td : TSD) : Prop :=
  ∀ (b : B0) (σ : L2.St) (H : Hp) (env : DEnv) (Dd : DEnds) (E : Ends), DenE K g.I b σ H env → XL K g b → td Dd env → EL K g b Dd E → ts E σ H
def wS (X : Cx) (st : Stmt) : TS := fun E σ H => ∀ pins s, Inv X pins σ H s → wpAny (model X.prog X.w) X.A (exec st X.env) (SP X pins E) X.xe s
def wSs (X : Cx) (sts : List Stmt) : TS := fun E σ H => ∀ pins s, Inv X pins σ H s → wpAny (model X.prog X.w) X.A (execs sts X.env) (SP X pins E) X.xe s
def PSD (X : Cx) (g : Gx) (st : Stmt) (td : TSD) : Prop := SS X.K g (wS X st) td
def PSsD (X : Cx) (g : Gx) (sts : List Stmt) (td : TSD) : Prop := SS X.K g (wSs X sts) td
section
variable {X : Cx} {g : Gx} {e : Expr} {st : Stmt} {rest sts sts2 : List Stmt} {td : TED} {tt : TTD} {ts t u : TSD} {ts' : TS} {pos : Pos}
theorem ps_w : PS X st (wS X st) := ⟨fun pins s σ H E J h => h pins s J⟩
theorem pss_w : PSs X sts (wSs X sts) := ⟨fun pins s σ H E J h => h pins s J⟩
theorem psd_of (p : PS X st ts') (h : SS X.K g ts' ts) : PSD X g st ts := fun b σ H env Dd E hd xl ht el pins s J => p.run pins s σ H E J (h b σ H env Dd E hd xl ht el)
theorem pssd_of (p : PSs X sts ts') (h : SS X.K g ts' ts) : PSsD X g sts ts := fun b σ H env Dd E hd xl ht el pins s J => p.run pins s σ H E J (h b σ H env Dd E hd xl ht el)
def sNext : TSD := fun Dd env => Dd.nx env
def sSeq (t u : TSD) : TSD := fun Dd env => t { Dd with nx := u Dd } env
theorem ds_nil : PSsD X g [] sNext := pssd_of pss_nil fun b σ H env Dd E hd xl h el => el.nx _ _ _ hd h
theorem ds_cons (h1 : PSD X g st t) (h2 : PSsD X g rest u) : PSsD X g (st :: rest) (sSeq t u) := pssd_of (pss_cons ps_w pss_w) fun b σ H env Dd E hd xl h el =>
  h1 b σ H env _ _ hd xl h ⟨fun σ' H' env' hd' h' => h2 b σ' H' env' _ _ hd' xl h' el, el.rt, el.bk, el.ct⟩
theorem ds_one (h1 : PSD X g st t) : PSsD X g [st] t := pssd_of (pss_one ps_w) h1
def sRet (td : TED) : TSD := fun Dd env => td env Dd.rt
theorem ds_ret (he : PED X g e td) : PSD X g (.Return (some e) pos) (sRet td) := psd_of (ps_ret pe_w) fun b σ H env Dd E hd xl h el => he b σ H env _ _ hd xl h fun v d H1 e1 dn q => el.rt v d H1 (hd.ext.trans e1) dn q
def sIf (c : TTD) (t u : TSD) : TSD := fun Dd env => c env fun b => if b = true then t Dd env else u Dd env
theorem ds_if {c : Expr} (hc : PTD X g c tt) (ha : PSsD X g sts t) (hb : PSsD X g sts2 u) : PSD X g (.If c sts sts2 pos) (sIf tt t u) := psd_of (ps_if pt_w pss_w pss_w) fun b σ H env Dd E hd xl h el =>
  hc b σ H env _ _ hd xl h fun c H1 e1 h1 => by
    cases c with
    | true => rw [if_pos rfl] at h1 ⊢; exact ha b σ H1 env Dd E (hd.mono e1) xl h1 el
    | false => rw [if_neg Bool.false_ne_true] at h1 ⊢; exact hb b σ H1 env Dd E (hd.mono e1) xl h1 el
def sDrop (td : TED) : TSD := fun Dd env => td env fun _ => Dd.nx env
theorem ds_expr (he : PED X g e td) (hs : swapsWith e none pos.line X.env = pure false := by rfl) : PSD X g (.Expr e pos) (sDrop td) := psd_of (ps_expr pe_w hs) fun b σ H env Dd E hd xl h el =>
  he b σ H env _ _ hd xl h fun v d H1 e1 dn q => el.nx _ _ _ (hd.mono e1) q

def noOwn : DEnv → Bool
  | [] => true
  | .own _ :: _ => false
  | .val _ :: r => noOwn r
  | .no :: r => noOwn r
theorem noOwn_get : ∀ {env : DEnv}, noOwn env = true → ∀ {i : Nat} {xs : List D}, env[i]? ≠ some (Slot.own xs)
  | [], _, i, xs => by simp
  | .own _ :: _, h, _, _ => by simp [noOwn] at h
  | .val d :: r, h, 0, xs => by simp
  | .no :: r, h, 0, xs => by simp
  | .val d :: r, h, i + 1, xs => by simpa using noOwn_get (env := r) (by simpa [noOwn] using h) (i := i) (xs := xs)
  | .no :: r, h, i + 1, xs => by simpa using noOwn_get (env := r) (by simpa [noOwn] using h) (i := i) (xs := xs)
def keepable (env : DEnv) (i : Nat) (d : D) : Prop := noOwn (env.set i .no) = true ∨ d.noLst = true
theorem get_set {α : Type} {l : List α} {i j : Nat} {x y : α} (h : (l.set i x)[j]? = some y) : (j = i ∧ y = x) ∨ (j ≠ i ∧ l[j]? = some y) := by
  by_cases e : j = i
  · subst e
    by_cases hl : j < l.length
    · rw [List.getElem?_set_self hl] at h
      exact .inl ⟨rfl, (Option.some.inj h).symm⟩
    · rw [List.getElem?_eq_none (by rw [List.length_set]; omega)] at h
      cases h
  · rw [List.getElem?_set_ne (Ne.symm e)] at h
    exact .inr ⟨e, h⟩
theorem DenE.put {K : PySem.W.Frag} {I : HI} {b : B0} {σ : L2.St} {H : Hp} {env : DEnv} (h : DenE K I b σ H env) {i : Nat} {v : V} {d : D} (dn : Den K I.own H v d) (kp : keepable env i d) : DenE K I b (σ.set i (some v)) H (env.set i (.val d)) := by
  obtain ⟨oa, h1, h2, h3, h4⟩ := h.slots
  have sub : ∀ a, AvOf I (env.set i (.val d)) oa a → AvOf I env oa a := fun a z => z.imp id fun ⟨j, xs, e, q⟩ => by
    rcases get_set e with ⟨_, e⟩ | ⟨_, e⟩
    · cases e
    · exact ⟨j, xs, e, q⟩
  refine ⟨by rw [List.length_set, List.length_set]; exact h.len, h.ext, oa, fun j xs e => ?_, fun j k xs ys e1 e2 => ?_, fun j d' e => ?_, fun p hp => Den.weak sub _ _ (h4 p hp)⟩
  · rcases get_set e with ⟨_, e⟩ | ⟨ne, e⟩
    · cases e
    · obtain ⟨⟨vs, e1, e2, e3⟩, e4⟩ := h1 j xs e
      exact ⟨⟨vs, by rw [List.getElem?_set_ne (Ne.symm ne)]; exact e1, e2, DenA.weak sub _ _ e3⟩, e4⟩
  · rcases get_set e1 with ⟨_, e1⟩ | ⟨_, e1⟩
    · cases e1
    · rcases get_set e2 with ⟨_, e2⟩ | ⟨_, e2⟩
      · cases e2
      · exact h2 j k xs ys e1 e2
  · rcases get_set e with ⟨ej, ed⟩ | ⟨ne, e⟩
    · have hl : j < σ.length := by
        rw [h.len]
        have := (List.getElem?_eq_some_iff.mp e).1
        rwa [List.length_set] at this
      subst ej
      have ed := Slot.val.inj ed
      subst ed
      refine ⟨v, by rw [List.getElem?_set_self hl], ?_⟩
      rcases kp with kp | kp
      · refine Den.weak (fun a z => ?_) _ _ dn
        rcases z with z | ⟨k, xs, e, _⟩
        · exact z
        · exfalso
          rcases get_set e with ⟨_, e⟩ | ⟨ne, e⟩
          · cases e
          · exact noOwn_get kp (i := k) (xs := xs) (by rw [List.getElem?_set_ne (Ne.symm ne)]; exact e)
      · refine Den.weak (fun a z => ?_) _ _ (Den.apart (P := fun a => ∃ (k : Nat) (xs : List D), env[k]? = some (Slot.own xs) ∧ a = oa k) (fun a ⟨k, xs, e, q⟩ => ?_) _ _ kp dn)
        · rcases z with z | ⟨k, xs, e, q⟩
          · exact .inl z
          · rcases get_set e with ⟨_, e⟩ | ⟨ne, e⟩
            · cases e
            · exact .inr ⟨k, xs, e, q⟩
        · obtain ⟨⟨vs, _, e2, _⟩, _⟩ := h1 k xs e
          rw [q]
          exact ⟨vs, e2⟩
    · obtain ⟨w, e1, e2⟩ := h3 j d' e
      exact ⟨w, by rw [List.getElem?_set_ne (Ne.symm ne)]; exact e1, Den.weak sub _ _ e2⟩
def sAsg (i : Nat) (td : TED) : TSD := fun Dd env => td env fun d => keepable env i d ∧ Dd.nx (env.set i (.val d))
theorem ds_set {i : Nat} {x : Str} {pos' : Pos} (hN : X.N.Nodup) (hi : X.N[i]? = some x) (hx : Loc X.env.scope x) (he : PED X g e td) (hs : swapsWith e (some (.Name x pos')) pos.line X.env = pure false := by rfl)
    (hf : X.fn x = true ∨ X.env.scope.names.lookup x = some .local := by first | exact .inl rfl | exact .inr rfl | assumption) : PSD X g (.Assign [.Name x pos'] e pos) (sAsg i td) :=
  psd_of (ps_set hN hi hx pe_w hs hf) fun b σ H env Dd E hd xl h el => he b σ H env _ _ hd xl h fun v d H1 e1 dn ⟨kp, q⟩ => el.nx _ _ _ ((hd.mono e1).put dn kp) q
end
end Dl

namespace Dl
open PySem PySem.Spec PyProof.Rows L2

section
variable {K : PySem.W.Frag} {I : HI} {b : B0} {σ : L2.St} {H H' : Hp} {env : DEnv}
theorem Kp.back {Av : Addr → Prop} {p : Addr} (k : Kp Av H H') (ha : Av p → H' p ≠ none) (h : H' p = none) : H p = none := by
  cases e : H p with
  | none => rfl
  | some o =>
    by_cases n : Av p
    · exact absurd h (ha n)
    · rw [k p o n e] at h; cases h
theorem Ext.back {p : Addr} (e : Ext I H H') (h : H' p = none) : H p = none := e.1.back (fun n => I.dom H' p e.2 (I.sub p n)) h
theorem Ext.ofNew (ok : I.ok H) (k : Kp (fun _ => False) H H') : Ext I H H' :=
  ⟨k.weak fun _ z => z.elim, I.loc H H' (fun a f => by
    cases e : H a with
    | none => exact absurd e (I.dom H a ok f)
    | some o => exact k a o id e) ok⟩
def frzS : Slot → Slot
  | .own xs => .val (.lst xs)
  | .val d => .val d
  | .no => .no
def frz (env : DEnv) : DEnv := env.map frzS
theorem frz_no {i : Nat} {xs : List D} : (frz env)[i]? ≠ some (Slot.own xs) := fun h => by
  unfold frz at h
  rw [List.getElem?_map] at h
  cases e : env[i]? with
  | none => rw [e] at h; cases h
  | some s => rw [e] at h; cases s <;> cases h
theorem noOwn_frz : ∀ env : DEnv, noOwn (frz env) = true
  | [] => rfl
  | .own _ :: r => noOwn_frz r
  | .val _ :: r => noOwn_frz r
  | .no :: r => noOwn_frz r
theorem DenE.frz (h : DenE K I b σ H env) : DenE K I b σ H (frz env) := by
  obtain ⟨oa, h1, h2, h3, h4⟩ := h.slots
  have sub : ∀ a, AvOf I (Dl.frz env) oa a → I.own a := fun a z => z.elim id fun ⟨i, xs, e, _⟩ => absurd e frz_no
  have sub2 : ∀ a, AvOf I (Dl.frz env) oa a → AvOf I env oa a := fun a z => .inl (sub a z)
  refine ⟨by rw [h.len]; unfold Dl.frz; rw [List.length_map], h.ext, oa, fun i xs e => absurd e frz_no, fun i j xs ys e => absurd e frz_no, fun i d e => ?_, fun p hp => Den.weak sub2 _ _ (h4 p hp)⟩
  have e2 : (env[i]?).map frzS = some (.val d) := by rw [← List.getElem?_map]; exact e
  obtain ⟨s, e3, e4⟩ := Option.map_eq_some_iff.mp e2
  cases s with
  | no => cases e4
  | val d' =>
    have ed := Slot.val.inj e4
    subst ed
    obtain ⟨v, q1, q2⟩ := h3 i d' e3
    exact ⟨v, q1, Den.weak sub2 _ _ q2⟩
  | own xs =>
    have ed := Slot.val.inj e4
    subst ed
    obtain ⟨⟨vs, q1, q2, q3⟩, _, q5⟩ := h1 i xs e3
    refine ⟨_, q1, ?_⟩
    simp only [Den]
    exact ⟨_, vs, rfl, q2, fun z => q5 (I.sub _ (sub _ z)), DenA.weak sub2 _ _ q3⟩
theorem DenE.hold (h : DenE K I b σ H env) {v : V} {d : D} (dn : Den K I.own H v d) (kp : noOwn env = true ∨ d.noLst = true) : DenE K I ⟨b.H0, (v, d) :: b.hs⟩ σ H env := by
  obtain ⟨oa, h1, h2, h3, h4⟩ := h.slots
  refine ⟨h.len, h.ext, oa, h1, h2, h3, fun p hp => ?_⟩
  rcases List.mem_cons.mp hp with e | hp
  · subst e
    rcases kp with kp | kp
    · exact Den.weak (fun a z => z.elim id fun ⟨k, xs, e, _⟩ => absurd e (noOwn_get kp)) _ _ dn
    · refine Den.weak (fun a z => z) _ _ (Den.apart (P := fun a => ∃ (k : Nat) (xs : List D), env[k]? = some (Slot.own xs) ∧ a = oa k) (fun a ⟨k, xs, e, q⟩ => ?_) _ _ kp dn)
      obtain ⟨⟨vs, _, e2, _⟩, _⟩ := h1 k xs e
      rw [q]; exact ⟨vs, e2⟩
  · exact h4 p hp
theorem DenE.unhold {hw : List (V × D)} (h : DenE K I ⟨b.H0, hw ++ b.hs⟩ σ H env) : DenE K I b σ H env := by
  obtain ⟨oa, h1, h2, h3, h4⟩ := h.slots
  exact ⟨h.len, h.ext, oa, h1, h2, h3, fun p hp => h4 p (List.mem_append_right _ hp)⟩
theorem DenE.putH {v : V} {d : D} (h : DenE K I ⟨b.H0, (v, d) :: b.hs⟩ σ H env) (i : Nat) : DenE K I b (σ.set i (some v)) H (env.set i (.val d)) := by
  obtain ⟨oa, h1, h2, h3, h4⟩ := h.slots
  have sub : ∀ a, AvOf I (env.set i (.val d)) oa a → AvOf I env oa a := fun a z => z.imp id fun ⟨j, xs, e, q⟩ => by
    rcases get_set e with ⟨_, e⟩ | ⟨_, e⟩
    · cases e
    · exact ⟨j, xs, e, q⟩
  refine ⟨by rw [List.length_set, List.length_set]; exact h.len, h.ext, oa, fun j xs e => ?_, fun j k xs ys e1 e2 => ?_, fun j d' e => ?_, fun p hp => Den.weak sub _ _ (h4 p (List.mem_cons_of_mem _ hp))⟩
  · rcases get_set e with ⟨_, e⟩ | ⟨ne, e⟩
    · cases e
    · obtain ⟨⟨vs, e1, e2, e3⟩, e4⟩ := h1 j xs e
      exact ⟨⟨vs, by rw [List.getElem?_set_ne (Ne.symm ne)]; exact e1, e2, DenA.weak sub _ _ e3⟩, e4⟩
  · rcases get_set e1 with ⟨_, e1⟩ | ⟨_, e1⟩
    · cases e1
    · rcases get_set e2 with ⟨_, e2⟩ | ⟨_, e2⟩
      · cases e2
      · exact h2 j k xs ys e1 e2
  · rcases get_set e with ⟨ej, ed⟩ | ⟨ne, e⟩
    · have hl : j < σ.length := by
        rw [h.len]
        have := (List.getElem?_eq_some_iff.mp e).1
        rwa [List.length_set] at this
      subst ej
      have ed := Slot.val.inj ed
      subst ed
      exact ⟨v, by rw [List.getElem?_set_self hl], Den.weak sub _ _ (h4 (v, d') List.mem_cons_self)⟩
    · obtain ⟨w, e1, e2⟩ := h3 j d' e
      exact ⟨w, by rw [List.getElem?_set_ne (Ne.symm ne)]; exact e1, Den.weak sub _ _ e2⟩
theorem DenE.parts {v : V} {ds : List D} (h : DenE K I ⟨b.H0, (v, .tup ds) :: b.hs⟩ σ H env) : ∃ a vs, v = .ref a ∧ SqT K H a vs ∧ vs.length = ds.length ∧ DenE K I ⟨b.H0, vs.zip ds ++ b.hs⟩ σ H env := by
  obtain ⟨oa, h1, h2, h3, h4⟩ := h.slots
  have := h4 (v, .tup ds) List.mem_cons_self
  simp only [Den] at this
  obtain ⟨a, vs, e, s, n, r⟩ := this
  refine ⟨a, vs, e, s, r.len, h.len, h.ext, oa, h1, h2, h3, fun p hp => ?_⟩
  rcases List.mem_append.mp hp with hp | hp
  · obtain ⟨i, hi⟩ := List.mem_iff_getElem?.mp hp
    rw [List.getElem?_zip_eq_some] at hi
    obtain ⟨w, q1, q2⟩ := r.get hi.2
    rw [hi.1] at q1
    cases q1
    exact q2
  · exact h4 p (List.mem_cons_of_mem _ hp)
end

abbrev TGD := D → DEnv → (DEnv → Prop) → Prop
def wG (X : Cx) (tg : Expr) : TG := fun v σ H Q => ∀ pins s u, Inv X pins σ H s → RelV v u → wpAny (model X.prog X.w) X.A (assign tg X.env u) (fun _ s' => ∃ σ' H', Inv X pins σ' H' s' ∧ Q σ' H') X.xe s
def SG (K : PySem.W.Frag) (g : Gx) (gt : TG) (gd : TGD) : Prop :=
  ∀ (b : B0) (σ : L2.St) (H : Hp) (env : DEnv) (v : V) (d : D) (Qd : DEnv → Prop) (Q : L2.St → Hp → Prop), DenE K g.I ⟨b.H0, (v, d) :: b.hs⟩ σ H env → gd d env Qd → (∀ σ' H' env', DenE K g.I b σ' H' env' → Ext g.I H H' → Qd env' → Q σ' H') → gt v σ H Q
def PGD (X : Cx) (g : Gx) (tg : Expr) (gd : TGD) : Prop := SG X.K g (wG X tg) gd
section
variable {X : Cx} {g : Gx} {tg : Expr} {pos : Pos} {gt : TG} {gd : TGD}
theorem pg_w : PG X tg (wG X tg) := ⟨fun pins s σ H v u Q J r h => h pins s u J r⟩
theorem pgd_of (p : PG X tg gt) (h : SG X.K g gt gd) : PGD X g tg gd := fun b σ H env v d Qd Q hd ht k pins s u J r => p.run pins s σ H v u Q J r (h b σ H env v d Qd Q hd ht k)
def gdName (i : Nat) : TGD := fun d env Q => Q (env.set i (.val d))
theorem sg_name {K : PySem.W.Frag} {i : Nat} : SG K g (gName i) (gdName i) := fun b σ H env v d Qd Q hd h k => k _ _ _ (hd.putH i) (.refl hd.ok) h
theorem dg_name {i : Nat} {x : Str} (hN : X.N.Nodup) (hi : X.N[i]? = some x) (hx : Loc X.env.scope x) (hf : X.fn x = true ∨ X.env.scope.names.lookup x = some .local := by first | exact .inl rfl | exact .inr rfl | assumption) : PGD X g (.Name x pos) (gdName i) :=
  pgd_of (pg_name hN hi hx hf) sg_name
def putAll : List Nat → List D → DEnv → DEnv
  | i :: is, d :: ds, env => putAll is ds (env.set i (.val d))
  | _, _, env => env
def gNames : List Nat → TGs
  | [] => gNil
  | i :: is => gCons (gName i) (gNames is)
def gdTup (is : List Nat) : TGD := fun d env Q => ∃ ds, d = .tup ds ∧ ds.length = is.length ∧ Q (putAll is ds env)
theorem sg_names {K : PySem.W.Frag} {I : HI} : ∀ (is : List Nat) (b : B0) (σ : L2.St) (H : Hp) (env : DEnv) (vs : List V) (ds : List D) (Q : L2.St → Hp → Prop), vs.length = ds.length → ds.length = is.length →
    DenE K I ⟨b.H0, vs.zip ds ++ b.hs⟩ σ H env → (∀ σ', DenE K I b σ' H (putAll is ds env) → Q σ' H) → gNames is vs σ H Q
  | [], b, σ, H, env, vs, ds, Q, h1, h2, hd, k => by
    have e1 : ds = [] := List.length_eq_zero_iff.mp h2
    subst e1
    have e2 : vs = [] := List.length_eq_zero_iff.mp h1
    subst e2
    exact ⟨rfl, k σ hd⟩
  | i :: is, b, σ, H, env, [], d :: ds, Q, h1, h2, hd, k => by cases h1
  | i :: is, b, σ, H, env, vs, [], Q, h1, h2, hd, k => by cases h2
  | i :: is, b, σ, H, env, v :: vs, d :: ds, Q, h1, h2, hd, k =>
    ⟨v, vs, rfl, sg_names is b _ H _ vs ds Q (Nat.succ.inj h1) (Nat.succ.inj h2) (DenE.putH (b := ⟨b.H0, vs.zip ds ++ b.hs⟩) hd i) k⟩
theorem sg_tup {K : PySem.W.Frag} {is : List Nat} : SG K g (gTup K is.length (gNames is)) (gdTup is) := fun b σ H env v d Qd Q hd ⟨ds, e, hl, h⟩ k => by
  subst e
  obtain ⟨a, vs, ev, s, hl2, hd2⟩ := hd.parts
  exact ⟨a, vs, ev, s, hl2.trans hl, sg_names is b σ H env vs ds Q hl2 hl hd2 fun σ' hd3 => k σ' H _ hd3 (.refl hd.ok) h⟩
theorem dg_tup {es : List Expr} {k : Nat} {is : List Nat} (hc : X.calm = true) (h : PGs X es (gNames is)) (hn : (assignEach es X.env).length = is.length := by rfl) (hst : List.findIdx? (fun x => x.fst) (assignEach es X.env) = none := by rfl) : PGD X g (.Tuple es k pos) (gdTup is) :=
  pgd_of (pg_tup (pos := pos) (k := k) (n := is.length) hc h hn hst) sg_tup
end

def ItD (K : PySem.W.Frag) (J : It) (hw : List (V × D)) (ds : List D) : Prop :=
  ∀ (Av : Addr → Prop) (H : Hp), (∀ p ∈ hw, Den K Av H p.1 p.2) → (∀ a, Av a → H a ≠ none) →
    (∀ i, i < ds.length → J.go i H ∧ ∀ x H', J.yld i H x H' → Kp (fun _ => False) H H' ∧ ∃ d, ds[i]? = some d ∧ Den K Av H' x d) ∧ J.stop ds.length H
abbrev TID := DEnv → (List D → Prop) → Prop
def wI (X : Cx) (tg it : Expr) : TI := fun σ H R => ∀ pins s, Inv X pins σ H s → wpAny (model X.prog X.w) X.A (eval it X.env) (fun v s1 => wpAny (model X.prog X.w) X.A (pyIter v) (PIE X pins σ tg R) X.xe s1) X.xe s
def SI (K : PySem.W.Frag) (g : Gx) (wi : TI) (td : TID) : Prop :=
  ∀ (b : B0) (σ : L2.St) (H : Hp) (env : DEnv) (Qd : List D → Prop) (R : It → Hp → Prop), DenE K g.I b σ H env → XL K g b → td env Qd →
    (∀ J H' hw ds, DenE K g.I ⟨b.H0, hw ++ b.hs⟩ σ H' env → Ext g.I H H' → ItD K J hw ds → Qd ds → R J H') → wi σ H R
def PID (X : Cx) (g : Gx) (tg it : Expr) (td : TID) : Prop := SI X.K g (wI X tg it) td
section
variable {X : Cx} {g : Gx} {tg it e a : Expr} {es : List Expr} {pos p : Pos} {wi : TI} {td : TED} {tid : TID} {tas : TAD}
theorem pi_w : PI X tg it (wI X tg it) := ⟨fun pins s σ H R J h => h pins s J⟩
theorem pid_of (p : PI X tg it wi) (h : SI X.K g wi tid) : PID X g tg it tid := fun b σ H env Qd R hd xl ht k pins s J => p.run pins s σ H R J (h b σ H env Qd R hd xl ht k)
theorem itd_list {K : PySem.W.Frag} {a : Addr} {ds : List D} : ItD K (Itl K a) [(.ref a, .lst ds)] ds := fun Av H hw _ => by
  have := hw _ List.mem_cons_self
  simp only [Den] at this
  obtain ⟨a', vs, e, s, n, r⟩ := this
  cases e
  refine ⟨fun i hi => ?_, vs, SqL.of s, by rw [r.len]; exact Nat.le_refl _⟩
  obtain ⟨v, q1, q2⟩ := r.get (List.getElem?_eq_getElem hi)
  exact ⟨⟨vs, v, SqL.of s, q1⟩, fun x H' ⟨e, y⟩ => by
    subst e
    have := y vs (SqL.of s)
    rw [q1] at this
    cases this
    exact ⟨Kp.refl, _, List.getElem?_eq_getElem hi, q2⟩⟩
theorem itd_tup {K : PySem.W.Frag} {a : Addr} {ds : List D} : ItD K (Itt K a) [(.ref a, .tup ds)] ds := fun Av H hw _ => by
  have := hw _ List.mem_cons_self
  simp only [Den] at this
  obtain ⟨a', vs, e, s, n, r⟩ := this
  cases e
  refine ⟨fun i hi => ?_, vs, s, by rw [r.len]; exact Nat.le_refl _⟩
  obtain ⟨v, q1, q2⟩ := r.get (List.getElem?_eq_getElem hi)
  exact ⟨⟨vs, v, s, q1⟩, fun x H' ⟨e, y⟩ => by
    subst e
    have := y vs s
    rw [q1] at this
    cases this
    exact ⟨Kp.refl, _, List.getElem?_eq_getElem hi, q2⟩⟩
def rngD (lo : Int) (n : Nat) : List D := (List.range n).map fun (i : Nat) => D.int (lo + (i : Int))
theorem rngD_len {lo : Int} {n : Nat} : (rngD lo n).length = n := by simp [rngD]
theorem rngD_get {lo : Int} {n i : Nat} (h : i < n) : (rngD lo n)[i]? = some (.int (lo + (i : Int))) := by simp [rngD, h]
theorem itd_rng {K : PySem.W.Frag} {lo : Int} {n : Nat} : ItD K (Itr lo n) [] (rngD lo n) := fun Av H hw _ => by
  refine ⟨fun i hi => ?_, by rw [rngD_len]; exact Nat.le_refl n⟩
  rw [rngD_len] at hi
  exact ⟨hi, fun x H' ⟨e, y⟩ => by
    subst e y
    exact ⟨Kp.refl, _, rngD_get hi, by simp only [Den]⟩⟩
def iSeq (K : PySem.W.Frag) (tl : TE) : TI := fun σ H R => tl σ H fun x H1 => (∃ a, x = .ref a ∧ (∃ xs, SqL K H1 a xs) ∧ R (Itl K a) H1) ∨ ∃ a, x = .ref a ∧ (∃ xs, SqT K H1 a xs) ∧ R (Itt K a) H1
theorem pi_seq {l : Expr} {tl : TE} (hl : PE X l tl) : PI X tg l (iSeq X.K tl) := by
  refine ⟨fun pins s σ H R I h => ?_⟩
  refine thn (hl.run pins s σ H _ I h) fun v s1 ⟨x, H1, I1, r1, q1⟩ => ?_
  rcases q1 with ⟨a, e, ⟨xs, hq⟩, q⟩ | ⟨a, e, ⟨xs, hq⟩, q⟩
  · subst e
    cases r1
    obtain ⟨its, rv, p, hz⟩ := I1.list hq
    refine wpAny_pyIter_list p.isList ?_
    refine ⟨s1.heap.objs.size, [s1.heap.objs.size], _, _, H1, rfl, I1.kept (t' := s1.toks) fun b o e => Heap.get?_push_of_some _ e, turn_list a _, ⟨_, Heap.get?_push_size _ rfl, rfl, rfl⟩, fun b hb => ?_, q⟩
    have e : b = s1.heap.objs.size := by simpa using hb
    subst e
    exact I1.fpOk (Nat.le_refl _) (I1.hok.fresh (Nat.le_refl _))
  · subst e
    cases r1
    obtain ⟨its, rv, p, hz⟩ := I1.tuple hq
    refine wpAny_pyIter_tuple (show s1.heap.IsTuple a its.toArray from p) ?_
    refine ⟨s1.heap.objs.size, [s1.heap.objs.size], _, _, H1, rfl, I1.kept (t' := s1.toks) fun b o e => Heap.get?_push_of_some _ e, turn_tuple a _, ⟨_, Heap.get?_push_size _ rfl, rfl, rfl⟩, fun b hb => ?_, q⟩
    have e : b = s1.heap.objs.size := by simpa using hb
    subst e
    exact I1.fpOk (Nat.le_refl _) (I1.hok.fresh (Nat.le_refl _))
def seqOf : D → Option (List D)
  | .tup xs => some xs
  | .lst xs => some xs
  | _ => none
def idSeq (td : TED) : TID := fun env Q => td env fun d => (noOwn env = true ∨ d.noLst = true) ∧ ∃ ds, seqOf d = some ds ∧ Q ds
theorem si_seq {K : PySem.W.Frag} {b : B0} {σ : L2.St} {H : Hp} {env : DEnv} {I : HI} {R : It → Hp → Prop} {v : V} {d : D} {ds : List D} (hd : DenE K I ⟨b.H0, (v, d) :: b.hs⟩ σ H env) (hs : seqOf d = some ds)
    (k : ∀ J hw, DenE K I ⟨b.H0, hw ++ b.hs⟩ σ H env → ItD K J hw ds → R J H) : (∃ a, v = .ref a ∧ (∃ xs, SqL K H a xs) ∧ R (Itl K a) H) ∨ ∃ a, v = .ref a ∧ (∃ xs, SqT K H a xs) ∧ R (Itt K a) H := by
  obtain ⟨oa, h1, h2, h3, h4⟩ := hd.slots
  have dn := h4 _ List.mem_cons_self
  cases d <;> simp only [seqOf, Option.some.injEq] at hs <;> simp only [Den] at dn
  case tup xs =>
    subst hs
    obtain ⟨a, vs, rfl, s, n, r⟩ := dn
    exact .inr ⟨a, rfl, ⟨vs, s⟩, k _ _ hd itd_tup⟩
  case lst xs =>
    subst hs
    obtain ⟨a, vs, rfl, s, n, r⟩ := dn
    exact .inl ⟨a, rfl, ⟨vs, SqL.of s⟩, k _ _ hd itd_list⟩
  all_goals cases hs
theorem di_seq (he : PED X g e td) : PID X g tg e (idSeq td) := pid_of (pi_seq pe_w) fun b σ H env Qd R hd xl ht k =>
  he b σ H env _ _ hd xl ht fun v d H1 e1 dn ⟨kp, ds, hs, q⟩ => si_seq ((hd.mono e1).hold dn kp) hs fun J hw hd2 it => k J H1 hw ds hd2 e1 it q
def idVar (i : Nat) : TID := fun env Q => ∃ d ds, env[i]? = some (.val d) ∧ seqOf d = some ds ∧ Q ds
theorem di_var (i : Nat) {x : Str} (hN : X.N[i]? = some x := by rfl) (hv : Vis X.env.scope x := by first | exact Or.inl rfl | exact Or.inr (Or.inl rfl) | exact Or.inr (Or.inr rfl)) (hd : (x == ("__debug__" : Str)) = false := by decide)
    (hcd : (x == ("__classdict__" : Str)) = false := by decide) : PID X g tg (.Name x p) (idVar i) := pid_of (pi_seq (pe_var hN hv hd hcd)) fun b σ H env Qd R hd xl ⟨d, ds, e, hs, q⟩ k => by
  obtain ⟨oa, h1, h2, h3, h4⟩ := hd.slots
  obtain ⟨v, q1, q2⟩ := h3 i d e
  refine ⟨v, q1, si_seq (b := b) (env := env) (σ := σ) (d := d) ⟨hd.len, hd.ext, oa, h1, h2, h3, fun p hp => ?_⟩ hs fun J hw hd2 it => k J H hw ds hd2 (.refl hd.ok) it q⟩
  rcases List.mem_cons.mp hp with z | hp
  · rw [z]; exact q2
  · exact h4 p hp
def idRng1 (ta : TAD) : TID := fun env Q => ta env fun xs => ∃ j : Int, xs = [.int j] ∧ (-(2 ^ 62) ≤ j ∧ j < 2 ^ 62) ∧ Q (rngD 0 j.toNat)
theorem di_range1 (hg : Gl X "range") (hm : X.mg "range" = none) (ha : PAD X g [a] tas) (hs : starEach [a] X.env = [(false, eval a X.env)] := by rfl) : PID X g tg (.Call (.Name "range" p) [a] [] pos) (idRng1 tas) :=
  pid_of (pi_range1 hg hm pa_w hs) fun b σ H env Qd R hd xl ht k => ha b σ H env _ _ hd xl ht fun vs ds H1 e1 dn ⟨j, e, hj, q⟩ => by
    subst e
    obtain ⟨v, rfl, d1⟩ := dn.one1
    simp only [Den] at d1
    subst d1
    exact ⟨j, rfl, hj.1, hj.2, k _ H1 [] _ (hd.mono e1) e1 itd_rng q⟩
end

def forD (gd : TGD) (tb : TSD) (Dd : DEnds) : List D → DEnv → Prop
  | [], env => Dd.nx env
  | x :: xs, env => gd x env (tb { Dd with nx := forD gd tb Dd xs, ct := forD gd tb Dd xs, bk := Dd.nx })
def sFor (tid : TID) (gd : TGD) (tb : TSD) : TSD := fun Dd env => tid env fun ds => forD gd tb Dd ds env
section
variable {X : Cx} {g : Gx} {tg it : Expr} {body : List Stmt} {pos : Pos} {tid : TID} {gd : TGD} {tb : TSD}
theorem ds_for (hp : PassesOwn (model X.prog X.w) X.A X.env X.xe) (hc : X.calm = true) (hi : PID X g tg it tid) (hg : PGD X g tg gd) (hb : PSsD X g body tb) (hs : ∀ x, foldedSetIterable it X.env x = pure x := by intro _; rfl) :
    PSD X g (.For tg it body [] pos) (sFor tid gd tb) := psd_of (ps_for hp hc pi_w pg_w pss_w hs) fun b σ H env Dd E hd xl h el =>
  hi b σ H env _ _ hd xl h fun J H1 hw ds hd1 e1 it0 q => by
    refine ⟨fun i m σ' H' => m = ds.length - i ∧ i ≤ ds.length ∧ ∃ env', DenE X.K g.I ⟨b.H0, hw ++ b.hs⟩ σ' H' env' ∧ forD gd tb Dd (ds.drop i) env', ⟨ds.length, by simp, Nat.zero_le _, env, hd1, by simpa using q⟩, ?_⟩
    rintro i m σ' H' ⟨rfl, hi', env', hd', q'⟩
    obtain ⟨oa, h1, h2, h3, h4⟩ := hd'.slots
    have hav : ∀ a, AvOf g.I env' oa a → H' a ≠ none := fun a z => by
      rcases z with z | ⟨k, xs, e, q⟩
      · exact g.I.dom H' a hd'.ok (g.I.sub a z)
      · obtain ⟨⟨vs, _, e2, _⟩, _⟩ := h1 k xs e
        rw [q, e2]; exact fun z => nomatch z
    have IT := it0 (AvOf g.I env' oa) H' (fun p hp => h4 p (List.mem_append_left _ hp)) hav
    by_cases hlt : i < ds.length
    · refine .inr ⟨(IT.1 i hlt).1, fun σ2 H2 => ∃ env2, DenE X.K g.I ⟨b.H0, hw ++ b.hs⟩ σ2 H2 env2 ∧ forD gd tb Dd (ds.drop (i + 1)) env2, fun σ2 H2 ⟨env2, p1, p2⟩ => ⟨ds.length - (i + 1), by omega, rfl, hlt, env2, p1, p2⟩, fun x H2 y => ?_⟩
      obtain ⟨kn, d, hd2, dn⟩ := (IT.1 i hlt).2 x H2 y
      have e2 : Ext g.I H' H2 := .ofNew hd'.ok kn
      have q2 : forD gd tb Dd (d :: ds.drop (i + 1)) env' := by
        rw [List.drop_eq_getElem_cons hlt] at q'
        have : d = ds[i] := by
          rw [List.getElem?_eq_getElem hlt] at hd2
          exact (Option.some.inj hd2).symm
        rw [this]; exact q'
      have hd3 := hd'.mono e2
      have held : DenE X.K g.I ⟨b.H0, (x, d) :: (hw ++ b.hs)⟩ σ' H2 env' := by
        have kp : Kp (AvOf g.I env' oa) H' H2 := kn.weak fun _ z => z.elim
        refine ⟨hd3.len, hd3.ext, oa, fun i xs q => ?_, h2, fun i d q => ?_, fun p hp => ?_⟩
        · obtain ⟨⟨vs, e1, e2, e3⟩, e4⟩ := h1 i xs q
          exact ⟨⟨vs, e1, kn _ _ id e2, DenA.keep kp _ _ e3⟩, e4⟩
        · obtain ⟨v, e1, e2⟩ := h3 i d q
          exact ⟨v, e1, Den.keep kp _ _ e2⟩
        · rcases List.mem_cons.mp hp with z | hp
          · rw [z]; exact dn
          · exact Den.keep kp _ _ (h4 p hp)
      refine hg ⟨b.H0, hw ++ b.hs⟩ σ' H2 env' x d _ _ held q2 fun σ3 H3 env3 hd4 e3 q3 => ?_
      refine hb ⟨b.H0, hw ++ b.hs⟩ σ3 H3 env3 _ _ hd4 (fun σ4 H4 env4 xx d4 H5 p1 p2 p3 p4 => xl σ4 H4 env4 xx d4 H5 p1.unhold p2 p3 p4) q3 ⟨fun σ4 H4 env4 p1 p2 => ⟨env4, p1, p2⟩, el.rt, fun σ4 H4 env4 p1 p2 => el.nx _ _ _ p1.unhold p2, fun σ4 H4 env4 p1 p2 => ⟨env4, p1, p2⟩⟩
    · have ei : i = ds.length := by omega
      subst ei
      rw [List.drop_length] at q'
      exact .inl ⟨IT.2, el.nx _ _ _ hd'.unhold q'⟩
end
end Dl

namespace Dl
open PySem PySem.Spec PyProof.Rows L2

abbrev TFD := DEnv → (List D → Prop) → Prop
def SF (K : PySem.W.Frag) (g : Gx) (te : TE) (td : TFD) : Prop :=
  ∀ (b : B0) (σ : L2.St) (H : Hp) (env : DEnv) (Qd : List D → Prop) (Q : VK), DenE K g.I b σ H env → XL K g b → td env Qd →
    (∀ p vs ds H', H p = none → Ext g.I H H' → H' p = some (.lst vs) → DenA K (fun a => g.I.own a ∨ a = p) H' vs ds → Qd ds → Q (.ref p) H') → te σ H Q
def PFD (X : Cx) (g : Gx) (e : Expr) (td : TFD) : Prop := SF X.K g (wE X e) td
def dF (td : TFD) : TED := fun env Q => td env fun ds => Q (.lst ds)
theorem SF.se {K : PySem.W.Frag} {g : Gx} {te : TE} {td : TFD} (h : SF K g te td) : SE K g te (dF td) := fun b σ H env Qd Q hd xl ht k =>
  h b σ H env _ _ hd xl ht fun p vs ds H' hp e hl dn q => k _ _ H' e (by
    simp only [Den]
    exact ⟨p, vs, rfl, hl, HI.nown hd.ok hp, DenA.weak (fun a z => .inl z) _ _ dn⟩) q

def wBE (X : Cx) (sc : Scope) (e : Expr) : TE := fun σ H Q => ∀ s0 H0 C cl fp pins s, Inv (X.blk s0 H0 sc (compEnvC sc cl C X.env) fp) pins σ H s → wpAny (model X.prog X.w) X.A (eval e (compEnvC sc cl C X.env)) (EP (X.blk s0 H0 sc (compEnvC sc cl C X.env) fp) pins σ Q) (fun _ _ => False) s
def wBT (X : Cx) (sc : Scope) (es : List Expr) : TT := fun σ H Q => ∀ s0 H0 C cl fp pins s, Inv (X.blk s0 H0 sc (compEnvC sc cl C X.env) fp) pins σ H s →
  wpAny (model X.prog X.w) X.A (forIn es true fun c r => if r = true then do let ok ← isTrue c (compEnvC sc cl C X.env) (eval c (compEnvC sc cl C X.env)); pure (ForInStep.yield ok) else pure (ForInStep.yield r)) (TP (X.blk s0 H0 sc (compEnvC sc cl C X.env) fp) pins σ Q) (fun _ _ => False) s
def dYes : TTD := fun _ Q => Q true
section
variable {X : Cx} {g : Gx} {sc : Scope} {e c : Expr} {td : TED} {tt : TTD}
theorem pe_blk {s : Shared} {H : Hp} {C : Addr} {cl : List (Str × Addr)} {fp : List Addr} : PE (X.blk s H sc (compEnvC sc cl C X.env) fp) e (wBE X sc e) := ⟨fun pins s σ H Q I h => h _ _ _ _ _ pins s I⟩
theorem pt_blk {es : List Expr} {s : Shared} {H : Hp} {C : Addr} {cl : List (Str × Addr)} {fp : List Addr} : PTs (X.blk s H sc (compEnvC sc cl C X.env) fp) es (wBT X sc es) := ⟨fun pins s σ H Q I h => h _ _ _ _ _ pins s I⟩
theorem be_of (h : ∀ (s : Shared) (H : Hp) (C : Addr) (cl : List (Str × Addr)) (fp : List Addr), PED (X.blk s H sc (compEnvC sc cl C X.env) fp) g.nox e td) : SE X.K g.nox (wBE X sc e) td :=
  fun b σ H env Qd Q hd xl ht k s0 H0 C cl fp pins s J => h s0 H0 C cl fp b σ H env Qd Q hd xl ht k pins s J
theorem bt_nil : ST X.K g.nox (wBT X sc []) dYes := fun b σ H env Qd Q hd xl ht k s0 H0 C cl fp pins s J => pts_nil.run pins s σ H Q J (k true H (.refl hd.ok) ht)
theorem bt_one (h : ∀ (s : Shared) (H : Hp) (C : Addr) (cl : List (Str × Addr)) (fp : List Addr), PTD (X.blk s H sc (compEnvC sc cl C X.env) fp) g.nox c tt) : ST X.K g.nox (wBT X sc [c]) tt :=
  fun b σ H env Qd Q hd xl ht k s0 H0 C cl fp pins s J => (pts_one pt_w).run pins s σ H Q J (h s0 H0 C cl fp b σ H env Qd Q hd xl ht k)
end
def wipeD (env : DEnv) : List Nat → DEnv
  | [] => env
  | v :: vs => (wipeD env vs).set v .no
def lcD (gd : TGD) (tt : TTD) (te : TED) (env : DEnv) : List D → List D → (List D → Prop) → Prop
  | [], acc, Q => Q acc
  | x :: xs, acc, Q => gd x env fun env2 => tt env2 fun b => if b = true then te env2 fun y => y.noLst = true ∧ lcD gd tt te env xs (acc ++ [y]) Q else lcD gd tt te env xs acc Q
def fLc (tid : TID) (gd : TGD) (tt : TTD) (te : TED) (vs : List Nat) : TFD := fun env Q => tid (frz env) fun ds => ds.length ≤ 1000000 ∧ lcD gd tt te (wipeD (frz env) vs) ds [] Q
def GW (gt : TG) (vs : List Nat) : Prop := ∀ v σ H Q, gt v σ H Q → gt v σ H fun σ2 H2 => wipe σ2 vs = wipe σ vs ∧ Q σ2 H2
theorem wipe_set {σ : L2.St} {i : Nat} {x : Option V} : ∀ {vs : List Nat}, wipe (σ.set i x) vs = if i ∈ vs then wipe σ vs else (wipe σ vs).set i x
  | [] => by simp [wipe]
  | v :: vs => by
    unfold wipe
    rw [wipe_set]
    by_cases h : i ∈ vs
    · rw [if_pos h, if_pos (List.mem_cons_of_mem _ h)]
    · rw [if_neg h]
      by_cases e : i = v
      · subst e
        rw [if_pos List.mem_cons_self, List.set_set]
      · rw [if_neg (fun z => (List.mem_cons.mp z).elim e h), List.set_comm _ _ e]
theorem gw_name {i : Nat} {vs : List Nat} (h : i ∈ vs) : GW (gName i) vs := fun v σ H Q q => ⟨by rw [wipe_set, if_pos h], q⟩
theorem gw_names {vs : List Nat} : ∀ {is : List Nat}, (∀ i ∈ is, i ∈ vs) → ∀ ws σ H Q, gNames is ws σ H Q → gNames is ws σ H fun σ2 H2 => wipe σ2 vs = wipe σ vs ∧ Q σ2 H2
  | [], _, ws, σ, H, Q, q => ⟨q.1, rfl, q.2⟩
  | i :: is, h, ws, σ, H, Q, ⟨v, r, e, q⟩ => by
    refine ⟨v, r, e, ?_⟩
    have := gw_names (is := is) (fun j hj => h j (List.mem_cons_of_mem _ hj)) r (σ.set i (some v)) H Q q
    rw [wipe_set, if_pos (h i List.mem_cons_self)] at this
    exact this
theorem gw_tup {K : PySem.W.Frag} {n : Nat} {is vs : List Nat} (h : ∀ i ∈ is, i ∈ vs) : GW (gTup K n (gNames is)) vs := fun v σ H Q ⟨a, xs, e, s, hl, q⟩ => ⟨a, xs, e, s, hl, gw_names h xs σ H Q q⟩
theorem wipe_idem {σ : L2.St} : ∀ vs : List Nat, wipe (wipe σ vs) vs = wipe σ vs := by
  have key : ∀ (ws : List Nat) (τ : L2.St) (vs : List Nat), (∀ w ∈ ws, w ∈ vs) → wipe (wipe τ ws) vs = wipe τ vs := by
    intro ws
    induction ws with
    | nil => intro τ vs _; rfl
    | cons w ws ih =>
      intro τ vs h
      show wipe ((wipe τ ws).set w none) vs = _
      rw [wipe_set, if_pos (h w List.mem_cons_self)]
      exact ih τ vs fun v hv => h v (List.mem_cons_of_mem _ hv)
  exact fun vs => key vs σ vs fun _ h => h
section
variable {K : PySem.W.Frag} {I : HI} {b : B0} {σ : L2.St} {H H' : Hp} {env : DEnv}
theorem DenE.clear (h : DenE K I b σ H env) (i : Nat) : DenE K I b (σ.set i none) H (env.set i .no) := by
  obtain ⟨oa, h1, h2, h3, h4⟩ := h.slots
  have sub : ∀ a, AvOf I (env.set i .no) oa a → AvOf I env oa a := fun a z => z.imp id fun ⟨j, xs, e, q⟩ => by
    rcases get_set e with ⟨_, e⟩ | ⟨_, e⟩
    · cases e
    · exact ⟨j, xs, e, q⟩
  refine ⟨by rw [List.length_set, List.length_set]; exact h.len, h.ext, oa, fun j xs e => ?_, fun j k xs ys e1 e2 => ?_, fun j d' e => ?_, fun p hp => Den.weak sub _ _ (h4 p hp)⟩
  · rcases get_set e with ⟨_, e⟩ | ⟨ne, e⟩
    · cases e
    · obtain ⟨⟨vs, e1, e2, e3⟩, e4⟩ := h1 j xs e
      exact ⟨⟨vs, by rw [List.getElem?_set_ne (Ne.symm ne)]; exact e1, e2, DenA.weak sub _ _ e3⟩, e4⟩
  · rcases get_set e1 with ⟨_, e1⟩ | ⟨_, e1⟩
    · cases e1
    · rcases get_set e2 with ⟨_, e2⟩ | ⟨_, e2⟩
      · cases e2
      · exact h2 j k xs ys e1 e2
  · rcases get_set e with ⟨_, ed⟩ | ⟨ne, e⟩
    · cases ed
    · obtain ⟨w, e1, e2⟩ := h3 j d' e
      exact ⟨w, by rw [List.getElem?_set_ne (Ne.symm ne)]; exact e1, Den.weak sub _ _ e2⟩
theorem DenE.wiped (h : DenE K I b σ H env) : ∀ vs : List Nat, DenE K I b (wipe σ vs) H (wipeD env vs)
  | [] => h
  | v :: vs => (DenE.wiped h vs).clear v
theorem DenE.rebase {hw : List (V × D)} (h : DenE K I ⟨b.H0, hw ++ b.hs⟩ σ H env) (n : noOwn env = true) : DenE K I ⟨H, hw⟩ σ H env := by
  obtain ⟨oa, h1, h2, h3, h4⟩ := h.slots
  exact ⟨h.len, .refl h.ok, oa, fun i xs e => absurd e (noOwn_get n), h2, h3, fun p hp => h4 p (List.mem_append_left _ hp)⟩
theorem noOwn_wipe {env : DEnv} (h : noOwn env = true) : ∀ vs : List Nat, noOwn (wipeD env vs) = true
  | [] => h
  | v :: vs => by
    have ih := noOwn_wipe h vs
    show noOwn ((wipeD env vs).set v .no) = true
    generalize wipeD env vs = e at ih
    clear h
    induction e generalizing v with
    | nil => simp [noOwn]
    | cons s r ihr =>
      cases v with
      | zero => cases s <;> simp_all [noOwn]
      | succ v => cases s <;> simp_all [noOwn]
end
theorem sf_lc {K : PySem.W.Frag} {g : Gx} {wi : TI} {gt : TG} {tt : TT} {te : TE} {vs : List Nat} {tid : TID} {gd : TGD} {td : TTD} {ed : TED} (hi : SI K g wi tid) (hg : SG K g.nox gt gd) (hw : GW gt vs) (ht : ST K g.nox tt td) (he : SE K g.nox te ed) :
    SF K g (tLc wi gt tt te vs) (fLc tid gd td ed vs) := fun b σ H env Qd Q hd xl hq k => by
  refine hi b σ H (frz env) _ _ hd.frz xl hq fun J H1 hws ds hd1 e1 it0 ⟨hlen, q⟩ => ?_
  intro D hD
  have hH : H D = none := e1.back hD
  have hE : DenE K g.I ⟨H1, hws⟩ (wipe σ vs) H1 (wipeD (frz env) vs) := (hd1.rebase (noOwn_frz env)).wiped vs
  have hno := noOwn_wipe (noOwn_frz env) vs
  have nD : ¬ g.I.own D := HI.nown e1.2 hD
  refine ⟨fun i m H' => m = ds.length - i ∧ i ≤ ds.length ∧ ∃ acc avs, H' D = some (.lst avs) ∧ avs.length ≤ i ∧ DenA K (fun a => g.I.own a ∨ a = D) H' avs acc ∧ Kp g.I.own H1 H' ∧ g.I.ok H' ∧ lcD gd td ed (wipeD (frz env) vs) (ds.drop i) acc Qd,
    ⟨ds.length, by simp, Nat.zero_le _, [], [], upd_same, Nat.zero_le _, by simp only [DenA], Kp.new hD, (Ext.new e1.2 hD).2, by simpa using q⟩, ?_⟩
  rintro i m H' ⟨rfl, hi', acc, avs, hl, hal, da, kp, ok, q'⟩
  have eH : Ext g.I H1 H' := ⟨kp, ok⟩
  have hE' := hE.mono eH
  obtain ⟨oa, h1, h2, h3, h4⟩ := id hE'.slots
  have IT := it0 g.I.own H' (fun p hp => Den.weak (fun a z => .inl z) _ _ (h4 p hp)) (fun a z => g.I.dom H' a ok (g.I.sub a z))
  by_cases hlt : i < ds.length
  · refine .inr ⟨(IT.1 i hlt).1, fun H2 => ∃ acc avs, H2 D = some (.lst avs) ∧ avs.length ≤ i + 1 ∧ DenA K (fun a => g.I.own a ∨ a = D) H2 avs acc ∧ Kp g.I.own H1 H2 ∧ g.I.ok H2 ∧ lcD gd td ed (wipeD (frz env) vs) (ds.drop (i + 1)) acc Qd,
      fun H2 h => ⟨ds.length - (i + 1), by omega, rfl, hlt, h⟩, fun x H2 y => ?_⟩
    obtain ⟨kn, d, hd2, dn⟩ := (IT.1 i hlt).2 x H2 y
    have e2 : Ext g.I H' H2 := .ofNew ok kn
    have q2 : lcD gd td ed (wipeD (frz env) vs) (d :: ds.drop (i + 1)) acc Qd := by
      rw [List.drop_eq_getElem_cons hlt] at q'
      have : d = ds[i] := by
        rw [List.getElem?_eq_getElem hlt] at hd2
        exact (Option.some.inj hd2).symm
      rw [this]; exact q'
    have held := (hE'.mono e2).hold dn (.inl hno)
    have wi2 : wipe (wipe σ vs) vs = wipe σ vs := wipe_idem vs
    refine (show gt x (wipe σ vs) H2 _ from ?_)
    have step := hw x (wipe σ vs) H2 _ (hg ⟨H1, hws⟩ (wipe σ vs) H2 _ x d _ (fun σ2 H3 => tt σ2 H3 fun b H4 => if b = true then te σ2 H4 fun y H5 => ∃ acc, H5 D = some (.lst acc) ∧ acc.length < sizeLine ∧
        (∃ acc' avs, (upd H5 D (.lst (acc ++ [y]))) D = some (.lst avs) ∧ avs.length ≤ i + 1 ∧ DenA K (fun a => g.I.own a ∨ a = D) (upd H5 D (.lst (acc ++ [y]))) avs acc' ∧ Kp g.I.own H1 (upd H5 D (.lst (acc ++ [y]))) ∧ g.I.ok (upd H5 D (.lst (acc ++ [y]))) ∧ lcD gd td ed (wipeD (frz env) vs) (ds.drop (i + 1)) acc' Qd)
        else ∃ acc avs, H4 D = some (.lst avs) ∧ avs.length ≤ i + 1 ∧ DenA K (fun a => g.I.own a ∨ a = D) H4 avs acc ∧ Kp g.I.own H1 H4 ∧ g.I.ok H4 ∧ lcD gd td ed (wipeD (frz env) vs) (ds.drop (i + 1)) acc Qd) held q2 fun σ3 H3 env3 hd3 e3 q3 => ?_)
    · rw [wi2] at step
      exact step
    · refine ht ⟨H1, hws⟩ σ3 H3 env3 _ _ hd3 XL.nox q3 fun c H4 e4 q4 => ?_
      have x4 : Ext g.I H' H4 := e2.trans (e3.trans e4)
      have l4 : H4 D = some (.lst avs) := x4.1 D _ nD hl
      have d4 : DenA K (fun a => g.I.own a ∨ a = D) H4 avs acc := DenA.keep (x4.1.weak fun a z => .inl z) _ _ da
      cases c with
      | false =>
        rw [if_neg Bool.false_ne_true] at q4 ⊢
        exact ⟨acc, avs, l4, by omega, d4, kp.trans x4.1, x4.2, q4⟩
      | true =>
        rw [if_pos rfl] at q4 ⊢
        refine he ⟨H1, hws⟩ σ3 H4 env3 _ _ (hd3.mono e4) XL.nox q4 fun yv yd H5 e5 dn5 ⟨nl, q5⟩ => ?_
        have l5 : H5 D = some (.lst avs) := e5.1 D _ nD l4
        have d5 : DenA K (fun a => g.I.own a ∨ a = D) H5 avs acc := DenA.keep (e5.1.weak fun a z => .inl z) _ _ d4
        have y5 : Den K (fun a => g.I.own a ∨ a = D) H5 yv yd := Den.apart (P := fun a => a = D) (fun a z => ⟨avs, by rw [z]; exact l5⟩) _ _ nl dn5
        have mu : Kp (fun a => g.I.own a ∨ a = D) H5 (upd H5 D (.lst (avs ++ [yv]))) := Kp.mut (.inr rfl)
        have k5 : Kp g.I.own H1 H5 := kp.trans (x4.1.trans e5.1)
        refine ⟨avs, l5, Nat.lt_of_le_of_lt hal (Nat.lt_of_lt_of_le hlt (Nat.le_trans hlen (by decide))), acc ++ [yd], avs ++ [yv], upd_same, by rw [List.length_append]; simpa using hal, DenA.keep mu _ _ (d5.app (.one y5)), fun a o n e => ?_, ?_, q5⟩
        · rw [upd_ne (ne_of_none e hD)]
          exact k5 a o n e
        · refine g.I.loc H5 _ (fun a f => upd_ne (fun z => ?_)) e5.2
          rw [z] at f
          exact g.I.dom H1 D e1.2 f hD
  · have ei : i = ds.length := by omega
    subst ei
    rw [List.drop_length] at q'
    exact .inl ⟨IT.2, k D avs acc H' hH (e1.trans eH) hl da q'⟩
section
variable {X : Cx} {g : Gx} {elt tg iter : Expr} {ifs : List Expr} {scope : Scope} {own : List (Str × Nat)} {pos : Pos} {gt : TG} {tid : TID} {gd : TGD} {td : TTD} {ed : TED}
theorem f_lc (hc : X.calm = true) (hN : X.N.Nodup) (hi : PID X g tg iter tid) (ok : BlkOk X.N X.env.scope scope own)
    (hg : ∀ (s : Shared) (H : Hp) (C : Addr) (cl : List (Str × Addr)) (fp : List Addr), PG (X.blk s H scope (compEnvC scope cl C X.env) fp) tg gt) (sg : SG X.K g.nox gt gd) (gw : GW gt (own.map (·.2)))
    (ht : ST X.K g.nox (wBT X scope ifs) td) (he : SE X.K g.nox (wBE X scope elt) ed) (hs : ∀ x, foldedSetIterable iter X.env x = pure x := by intro _; rfl) :
    PFD X g (.ListComp elt [⟨tg, iter, ifs, 0⟩] scope pos) (fLc tid gd td ed (own.map (·.2))) := fun b σ H env Qd Q hd xl hq k pins s J =>
  (pe_lc hc hN pi_w ok hg (fun _ _ _ _ _ => pt_blk) (fun _ _ _ _ _ => pe_blk) hs).run pins s σ H Q J (sf_lc hi sg gw ht he b σ H env Qd Q hd xl hq k)
end
end Dl

namespace Dl
open PySem PySem.Spec PyProof.Rows L2

def up (oa : Nat → Addr) (i : Nat) (p : Addr) : Nat → Addr := fun k => if k = i then p else oa k
theorem up_same {oa : Nat → Addr} {i : Nat} {p : Addr} : up oa i p i = p := if_pos rfl
theorem up_ne {oa : Nat → Addr} {i k : Nat} {p : Addr} (h : k ≠ i) : up oa i p k = oa k := if_neg h
section
variable {K : PySem.W.Frag} {I : HI} {b : B0} {σ : L2.St} {H H' : Hp} {env : DEnv}
theorem DenE.putNew (h : DenE K I b σ H env) {i : Nat} {p : Addr} {vs : List V} {ds : List D} (hi : i < env.length) (hp : H p = none) (e : Ext I H H') (hl : H' p = some (.lst vs)) (dn : DenA K (fun a => I.own a ∨ a = p) H' vs ds)
    (kp : noOwn (env.set i .no) = true ∨ noLstA ds = true) : DenE K I b (σ.set i (some (.ref p))) H' (env.set i (.own ds)) := by
  obtain ⟨oa, h1, h2, h3, h4⟩ := h.slots
  have np : ∀ k xs, env[k]? = some (Slot.own xs) → oa k ≠ p := fun k xs q z => by
    obtain ⟨⟨ws, _, e2, _⟩, _⟩ := h1 k xs q
    rw [z, hp] at e2
    cases e2
  have sub : ∀ a, AvOf I (env.set i (.own ds)) (up oa i p) a → AvOf I env oa a ∨ a = p := fun a z => by
    rcases z with z | ⟨j, xs, q, z⟩
    · exact .inl (.inl z)
    · rcases get_set q with ⟨ej, _⟩ | ⟨ne, q⟩
      · rw [ej, up_same] at z
        exact .inr z
      · rw [up_ne ne] at z
        exact .inl (.inr ⟨j, xs, q, z⟩)
  have kk : Kp (fun a => AvOf I env oa a ∨ a = p) H H' := e.1.weak fun a z => .inl (.inl z)
  have str : ∀ d v, Den K (AvOf I env oa) H v d → Den K (AvOf I (env.set i (.own ds)) (up oa i p)) H' v d := fun d v q => Den.weak sub _ _ (Den.keep kk _ _ (Den.fresh hp _ _ q))
  have strA : ∀ d v, DenA K (AvOf I env oa) H v d → DenA K (AvOf I (env.set i (.own ds)) (up oa i p)) H' v d := fun d v q => DenA.weak sub _ _ (DenA.keep kk _ _ (DenA.fresh hp _ _ q))
  refine ⟨by rw [List.length_set, List.length_set]; exact h.len, h.ext.trans e, up oa i p, fun j xs q => ?_, fun j k xs ys q1 q2 hjk => ?_, fun j d q => ?_, fun q hq => str _ _ (h4 q hq)⟩
  · rcases get_set q with ⟨ej, ed⟩ | ⟨ne, q⟩
    · subst ej
      have ed := Slot.own.inj ed
      subst ed
      refine ⟨⟨vs, ?_, ?_, ?_⟩, ?_, ?_⟩
      · rw [up_same, List.getElem?_set_self (by rw [h.len]; exact hi)]
      · rw [up_same]; exact hl
      · rcases kp with kp | kp
        · refine DenA.weak (fun a z => ?_) _ _ dn
          rcases z with z | ⟨k, ys, q2, z⟩
          · exact .inl z
          · rcases get_set q2 with ⟨ek, _⟩ | ⟨ne, q2⟩
            · rw [ek, up_same] at z
              exact .inr z
            · exact absurd (show (env.set j .no)[k]? = some (Slot.own ys) from by rw [List.getElem?_set_ne (Ne.symm ne)]; exact q2) (noOwn_get kp)
        · refine DenA.weak (fun a z => ?_) _ _ (DenA.apart (P := fun a => ∃ (k : Nat) (ys : List D), env[k]? = some (Slot.own ys) ∧ a = oa k) (fun a ⟨k, ys, q2, z⟩ => ?_) _ _ kp dn)
          · rcases z with z | ⟨k, ys, q2, z⟩
            · exact .inl (.inl z)
            · rcases get_set q2 with ⟨ek, _⟩ | ⟨ne, q2⟩
              · rw [ek, up_same] at z
                exact .inl (.inr z)
              · rw [up_ne ne] at z
                exact .inr ⟨k, ys, q2, z⟩
          · obtain ⟨⟨ws, _, e2, _⟩, _, e5⟩ := h1 k ys q2
            rw [z]
            exact ⟨ws, e.1 _ _ (fun z => e5 (I.sub _ z)) e2⟩
      · rw [up_same]; exact h.ext.back hp
      · rw [up_same]; exact fun z => I.dom H p h.ok z hp
    · obtain ⟨⟨ws, e1, e2, e3⟩, e4, e5⟩ := h1 j xs q
      refine ⟨⟨ws, ?_, ?_, strA _ _ e3⟩, ?_, ?_⟩
      · rw [up_ne ne, List.getElem?_set_ne (Ne.symm ne)]; exact e1
      · rw [up_ne ne]; exact e.1 _ _ (fun z => e5 (I.sub _ z)) e2
      · rw [up_ne ne]; exact e4
      · rw [up_ne ne]; exact e5
  · rcases get_set q1 with ⟨ej, _⟩ | ⟨nj, q1⟩ <;> rcases get_set q2 with ⟨ek, _⟩ | ⟨nk, q2⟩
    · rw [ej, ek]
    · rw [ej, up_same, up_ne nk] at hjk
      exact absurd hjk.symm (np k ys q2)
    · rw [ek, up_same, up_ne nj] at hjk
      exact absurd hjk (np j xs q1)
    · rw [up_ne nj, up_ne nk] at hjk
      exact h2 j k xs ys q1 q2 hjk
  · rcases get_set q with ⟨_, ed⟩ | ⟨ne, q⟩
    · cases ed
    · obtain ⟨v, e1, e2⟩ := h3 j d q
      exact ⟨v, by rw [List.getElem?_set_ne (Ne.symm ne)]; exact e1, str _ _ e2⟩
theorem DenE.wr (h : DenE K I b σ H env) {i : Nat} {xs : List D} (hi : env[i]? = some (.own xs)) : ∃ (a : Addr) (vs : List V) (S : Addr → Prop), σ[i]? = some (some (.ref a)) ∧ H a = some (.lst vs) ∧ DenA K S H vs xs ∧
    (∀ v d, d.noLst = true → Den K I.own H v d → Den K S H v d) ∧ ¬ I.own a ∧ (∀ vs' xs', DenA K S H vs' xs' → DenE K I b σ (upd H a (.lst vs')) (env.set i (.own xs'))) := by
  obtain ⟨oa, h1, h2, h3, h4⟩ := h.slots
  obtain ⟨⟨vs, e1, e2, e3⟩, e4, e5⟩ := h1 i xs hi
  refine ⟨oa i, vs, AvOf I env oa, e1, e2, e3, fun v d nl dn => ?_, fun z => e5 (I.sub _ z), fun vs' xs' dn => ?_⟩
  · refine Den.weak (fun a z => z) _ _ (Den.apart (P := fun a => ∃ (k : Nat) (ys : List D), env[k]? = some (Slot.own ys) ∧ a = oa k) (fun a ⟨k, ys, q2, z⟩ => ?_) _ _ nl dn)
    obtain ⟨⟨ws, _, q, _⟩, _⟩ := h1 k ys q2
    rw [z]; exact ⟨ws, q⟩
  · have hil : i < env.length := (List.getElem?_eq_some_iff.mp hi).1
    have same : ∀ a, AvOf I (env.set i (.own xs')) oa a → AvOf I env oa a := fun a z => z.imp id fun ⟨j, ys, q, z⟩ => by
      rcases get_set q with ⟨ej, _⟩ | ⟨ne, q⟩
      · exact ⟨i, xs, hi, by rw [z, ej]⟩
      · exact ⟨j, ys, q, z⟩
    have inA : AvOf I env oa (oa i) := .inr ⟨i, xs, hi, rfl⟩
    have mu : Kp (AvOf I env oa) H (upd H (oa i) (.lst vs')) := Kp.mut inA
    have ok' : I.ok (upd H (oa i) (.lst vs')) := I.loc H _ (fun a f => upd_ne (fun z => e5 (by rw [← z]; exact f))) h.ok
    refine ⟨by rw [List.length_set]; exact h.len, ⟨fun a o n q => ?_, ok'⟩, oa, fun j ys q => ?_, fun j k ys zs q1 q2 hjk => ?_, fun j d q => ?_, fun p hp => Den.weak same _ _ (Den.keep mu _ _ (h4 p hp))⟩
    · rw [upd_ne (ne_of_none q e4)]
      exact h.ext.1 a o n q
    · rcases get_set q with ⟨ej, ed⟩ | ⟨ne, q⟩
      · subst ej
        have ed := Slot.own.inj ed
        subst ed
        exact ⟨⟨vs', e1, upd_same, DenA.weak same _ _ (DenA.keep mu _ _ dn)⟩, e4, e5⟩
      · obtain ⟨⟨ws, q1, q2, q3⟩, q4⟩ := h1 j ys q
        exact ⟨⟨ws, q1, by rw [upd_ne (fun z => ne (h2 j i ys xs q hi z))]; exact q2, DenA.weak same _ _ (DenA.keep mu _ _ q3)⟩, q4⟩
    · have g1 : ∃ ys', env[j]? = some (Slot.own ys') := by
        rcases get_set q1 with ⟨ej, _⟩ | ⟨_, q1⟩
        · exact ⟨xs, by rw [ej]; exact hi⟩
        · exact ⟨ys, q1⟩
      have g2 : ∃ ys', env[k]? = some (Slot.own ys') := by
        rcases get_set q2 with ⟨ej, _⟩ | ⟨_, q2⟩
        · exact ⟨xs, by rw [ej]; exact hi⟩
        · exact ⟨zs, q2⟩
      obtain ⟨_, g1⟩ := g1
      obtain ⟨_, g2⟩ := g2
      exact h2 j k _ _ g1 g2 hjk
    · rcases get_set q with ⟨_, ed⟩ | ⟨ne, q⟩
      · cases ed
      · obtain ⟨v, q1, q2⟩ := h3 j d q
        exact ⟨v, q1, Den.weak same _ _ (Den.keep mu _ _ q2)⟩
end

section
variable {X : Cx} {g : Gx} {e e2 : Expr} {es : List Expr} {td ti tv : TED} {tf : TFD} {tas : TAD} {pos p p1 p2 pos' : Pos} {x : Str} {i : Nat}
theorem new_lstF {K : PySem.W.Frag} {I : HI} {H : Hp} {p : Addr} {vs : List V} {ds : List D} (hp : H p = none) (h : DenA K I.own H vs ds) : DenA K (fun a => I.own a ∨ a = p) (upd H p (.lst vs)) vs ds :=
  DenA.keep (Kp.new hp) _ _ (DenA.fresh hp _ _ h)
def fLst (ta : TAD) : TFD := fun env Q => ta env fun xs => xs.length ≤ sizeLine ∧ Q xs
theorem f_lst (h : PAD X g es tas) : PFD X g (.List es pos) (fLst tas) := fun b σ H env Qd Q hd xl hq k pins s J => (pe_lst pa_w).run pins s σ H Q J (h b σ H env _ _ hd xl hq fun vs ds H1 e1 dn ⟨z, q⟩ =>
    ⟨by rw [dn.len]; exact z, fun p hp => k p vs ds _ (e1.back hp) (e1.trans (.new e1.2 hp)) upd_same (new_lstF hp dn) q⟩)
def sNew (i : Nat) (tf : TFD) : TSD := fun Dd env => tf env fun ds => i < env.length ∧ (noOwn (env.set i .no) = true ∨ noLstA ds = true) ∧ Dd.nx (env.set i (.own ds))
theorem ds_new (hN : X.N.Nodup) (hi : X.N[i]? = some x) (hx : Loc X.env.scope x) (he : PFD X g e tf) (hs : swapsWith e (some (.Name x pos')) pos.line X.env = pure false := by rfl)
    (hf : X.fn x = true ∨ X.env.scope.names.lookup x = some .local := by first | exact .inl rfl | exact .inr rfl | assumption) : PSD X g (.Assign [.Name x pos'] e pos) (sNew i tf) :=
  psd_of (ps_set hN hi hx pe_w hs hf) fun b σ H env Dd E hd xl h el => he b σ H env _ _ hd xl h fun p vs ds H1 hp e1 hl dn ⟨z, kp, q⟩ => el.nx _ _ _ (hd.putNew z hp e1 hl dn kp) q
def sApp (i : Nat) (td : TED) : TSD := fun Dd env => ∃ xs, env[i]? = some (.own xs) ∧ td env fun d => d.noLst = true ∧ xs.length < sizeLine ∧ Dd.nx (env.set i (.own (xs ++ [d])))
theorem ds_app {apos cpos : Pos} (hN : X.N[i]? = some x) (hv : Vis X.env.scope x) (he : PED X g e td) (hd1 : (x == ("__debug__" : Str)) = false := by decide) (hcd : (x == ("__classdict__" : Str)) = false := by decide)
    (hbase : attributeBase (.Name x p1) "append" X.env (eval (.Name x p1) X.env) = eval (.Name x p1) X.env := by rfl)
    (hfew : ((backTo cpos (starEach (e :: []) X.env)).all (fun x => !x.1) && (backToKw cpos (keywordEach [] X.env)).all (fun x => x.1.isSome)
      && decide ((e :: []).length + ([] : List Keyword).length + (if ([] : List Keyword).isEmpty then 0 else 1) < 30)) = true := by rfl)
    (hline : (apos.endLine == cpos.line) = true := by rfl) (hs : starEach (e :: []) X.env = (false, eval e X.env) :: starEach [] X.env := by rfl) (hplain : (backTo cpos (starEach [] X.env)).any (·.1) = false := by rfl)
    (hsw : swapsWith (.Call (.Attribute (.Name x p1) "append" apos) [e] [] cpos) none pos.line X.env = pure false := by rfl) :
    PSD X g (.Expr (.Call (.Attribute (.Name x p1) "append" apos) [e] [] cpos) pos) (sApp i td) :=
  psd_of (ps_expr (pe_bm PySem.F.plainAttrs_list PySem.F.slot_list_append PySem.F.type_list_append mt_append (pe_var hN hv hd1 hcd) (pa_cons pe_w pa_nil hs) hbase hfew hline hs hplain) hsw) fun b σ H env Dd E hd xl h el => by
    obtain ⟨xs, hx, h⟩ := h
    obtain ⟨a, vs, S, q1, q2, _⟩ := hd.wr hx
    refine ⟨.ref a, q1, .inl ⟨rfl, vs, SqL.of q2⟩, he b σ H env _ _ hd xl h fun v d H1 e1 dn ⟨nl, hz, q⟩ => ?_⟩
    obtain ⟨a', vs', S', w1, w2, w3, w4, w5, w6⟩ := (hd.mono e1).wr hx
    rw [q1] at w1
    cases w1
    exact ⟨a, vs', v, rfl, rfl, w2, by rw [w3.len]; exact hz, el.nx _ _ _ (w6 _ _ (w3.app (.one (w4 v d nl dn)))) q⟩
end
end Dl

namespace Dl
open PySem PySem.Spec PyProof.Rows L2

def startD (N : List Str) (ds : List D) : DEnv := ds.map Slot.val ++ List.replicate (N.length - ds.length) Slot.no
def gOf (I : HI) (Ed : Exc → Prop) (E : XK) : Gx := ⟨I, fun _ x => Ed x, fun cls d _ H => E cls d H⟩
theorem startE {K : PySem.W.Frag} {I : HI} {N : List Str} {H : Hp} {vs : List V} {ds : List D} (ok : I.ok H) (dn : DenA K I.own H vs ds) : DenE K I ⟨H, []⟩ (L2.start N vs) H (startD N ds) := by
  have no : ∀ {i : Nat} {xs : List D}, (startD N ds)[i]? ≠ some (Slot.own xs) := fun {i xs} h => by
    unfold startD at h
    rw [List.getElem?_append] at h
    split at h
    · rw [List.getElem?_map] at h
      cases e : ds[i]? with
      | none => rw [e] at h; cases h
      | some d => rw [e] at h; cases h
    · rw [List.getElem?_replicate] at h
      split at h <;> cases h
  refine ⟨?_, .refl ok, fun _ => 0, fun i xs e => absurd e no, fun i j xs ys e => absurd e no, fun i d e => ?_, fun p hp => by cases hp⟩
  · unfold L2.start startD
    rw [List.length_append, List.length_append, List.length_map, List.length_map, List.length_replicate, List.length_replicate, dn.len]
  · unfold startD at e
    rw [List.getElem?_append] at e
    split at e
    · rename_i hl
      rw [List.length_map] at hl
      rw [List.getElem?_map] at e
      have hd : ds[i]? = some d := by
        cases q : ds[i]? with
        | none => rw [q] at e; cases e
        | some d' =>
          rw [q] at e
          have := Slot.val.inj (Option.some.inj e)
          rw [this]
      obtain ⟨v, q1, q2⟩ := dn.get hd
      refine ⟨v, ?_, Den.weak (fun a z => z.elim id fun ⟨j, xs, e, _⟩ => absurd e no) _ _ q2⟩
      unfold L2.start
      rw [List.getElem?_append_left (by rw [List.length_map, dn.len]; exact hl), List.getElem?_map, q1]
      rfl
    · rw [List.getElem?_replicate] at e
      split at e <;> cases e
section
variable {P : Program} {w : World} {K : PySem.W.Frag} {mg : Str → Option Value} {base : Heap}
abbrev cxD (P : Program) (w : World) (K : PySem.W.Frag) (mg : Str → Option Value) (base : Heap) (N : List Str) (qual : Str) (scope : Scope) (f : Addr) (cd : Value) (A : Around) (outer : List Env) (s : Shared) (H : Hp) (E : XK) : Cx :=
  cxOf (L2.CX P w) P w K mg base N qual scope f cd A outer s H E
theorem fn_D {x qual : Str} {params : Arguments} {body : List Stmt} {scope : Scope} {dvs : List V} {kws : List (Str × V)} {f : Addr} {fd : FuncData} {N ps : List Str} {k : Nat} {I : HI} {C : Ct} {tsd : (DEnv → Exc → Prop) → TSD}
    (F : FunD K x qual params body scope dvs kws f fd) (S : FnScope N ps scope)
    (hbody : ∀ (cdv : Value) (A : Around) (outer : List Env) (s : Shared) (H : Hp) (E : XK) (Ed : Exc → Prop), Room k (A.deeper (envOfC qual scope s.heap.objs.size f cdv)) →
      Takes (cxD P w K mg base N qual scope f cdv A outer s H E) (gOf I Ed E).W → PSsD (cxD P w K mg base N qual scope f cdv A outer s H E) (gOf I Ed E) body (tsd (gOf I Ed E).Ed))
    (hC : ∀ ds Qd Ed, C ds Qd Ed → ds.length = ps.length → tsd (fun _ x => Ed x) ⟨fun _ => Qd .non, Qd, fun _ => False, fun _ => False⟩ (startD N ds)) :
    FnOk P w K mg base (L2.CX P w) (k + 1) f fd ps (spOf K I ps.length C) := by
  refine F.ok S (fun vs H Q E ⟨ds, Qd, Ed, hl, dn, _⟩ => by rw [dn.len, hl]) (fun cdv A outer s H vs Q E hr ⟨ds, Qd, Ed, hl, dn, ok, hc, kq, ke⟩ => ?_)
  refine ⟨_, pss_w, ?_⟩
  have tk : Takes (cxD P w K mg base N qual scope f cdv A outer s H E) (gOf I Ed E).W := takes_of rfl rfl rfl rfl
  refine hbody cdv A outer s H E Ed hr tk ⟨H, []⟩ (L2.start N vs) H (startD N ds) _ _ (startE ok dn) ?_ (hC ds Qd Ed hc hl) ⟨fun σ' H' env' hd' q => ?_, fun v d H' e dn' q => kq v d H' e dn' q, fun _ _ _ _ q => q.elim, fun _ _ _ _ q => q.elim⟩
  · exact fun σ' H' env' x d H'' hd' e xd q => ke x d H'' (hd'.ext.trans e) xd q
  · exact kq .non .non H' hd'.ext (by simp only [Den]) q
end

def spExc (C : Addr) (fl : Str) : Sp := fun vs H Q _ => ∃ a v, vs = [.ref a, v] ∧ H a = some (exo a C none) ∧ ∀ dx, H dx = none → dx ≠ a → Q .non (upd (upd H dx (exd dx [(fl, v)])) a (exo a C (some dx)))
structure ErrC (K : PySem.W.Frag) (C : Addr) (fl : Str) : Prop where
  ox : OexC K C
  nf : PySem.W.findIn K (.ref C) fl = some none
section
variable {X : Cx} {g : Gx} {e : Expr} {td : TED} {pos p cpos : Pos} {x fl : Str} {C fI : Addr} {fd : FuncData} {ps : List Str} {k : Nat}
theorem init_ok {P : Program} {w : World} {K : PySem.W.Frag} {mg : Str → Option Value} {base : Heap} {qual : Str} {params : Arguments} {scope : Scope} {p1 p2 p3 p4 : Pos} {CX : CXT} (T : ErrC K C fl) (hfl : ("self" : Str) ≠ fl)
    (hdb : (fl == ("__debug__" : Str)) = false) (hcd : (fl == ("__classdict__" : Str)) = false) (v1 : Vis scope "self") (v2 : Vis scope fl)
    (F : FunD K "__init__" qual params [.Assign [.Attribute (.Name "self" p1) fl p2] (.Name fl p3) p4] scope [] [] fI fd) (S : FnScope ["self", fl] ["self", fl] scope)
    (hs : ∀ X : Cx, swapsWith (.Name fl p3) (some (.Attribute (.Name "self" p1) fl p2)) p4.line X.env = pure false) : FnOk P w K mg base CX 1 fI fd ["self", fl] (spExc C fl) := by
  refine F.ok S (fun vs H Q E ⟨a, v, e, _⟩ => by rw [e]; rfl) (fun cdv A outer s H vs Q E hr ⟨a, v, e, hH, q⟩ => ?_)
  subst e
  refine ⟨_, PSs.nox (pss_one (ps_ost (pe_var (i := 0) rfl v1) (pe_var (i := 1) rfl v2 hdb hcd) (hs _))), ?_⟩
  exact ⟨v, rfl, .ref a, rfl, a, C, rfl, T.ox, T.nf, .inl ⟨hH, fun dx h1 h2 => q dx h1 h2⟩⟩
def sRaise (C : Addr) (fl : Str) (Ed : DEnv → Exc → Prop) (td : TED) : TSD := fun _ env => td env fun d => Ed env ⟨C, some [(fl, d)]⟩
theorem ds_raise {CX : CXT} (hc : X.calm = true) (T : ErrC X.K C fl) (iC : PySem.W.findIn X.K (.ref C) "__init__" = some (some (.ref fI))) (tI : PySem.W.typeIn X.K (.ref fI) = some (.type "function"))
    (F1 : FnOk X.prog X.w X.K X.mg X.base CX k fI fd ["self", fl] (spExc C fl)) (hx : Passes CX X (fun _ _ _ => False)) (hr : Room (k + 1) X.A) (hb : Binds X.K fd ["self", fl] []) (hg : Gl X x) (hm : X.mg x = some (.ref C)) (tk : Takes X g.W) (ha : PED X g e td)
    (hdb : (x == ("__debug__" : Str)) = false := by decide) (he : starEach (e :: []) X.env = (false, eval e X.env) :: starEach [] X.env := by rfl) (hpl : (backTo cpos (starEach [] X.env)).any (·.1) = false := by rfl) :
    PSD X g (.Raise (some (.Call (.Name x p) [e] [] cpos)) none pos) (sRaise C fl g.Ed td) :=
  psd_of (ps_raise hc tk (pmk_oex T.ox iC tI F1 hr hb .nil hx hg hm (pa_cons pe_w pa_nil he) hdb he hpl)) fun b σ H env Dd E hd xl h el => by
    refine ha b σ H env _ _ hd xl h fun v d H1 e1 dn q => ?_
    refine ⟨(by decide : 1 ≤ 1000), fun a hA => ⟨a, v, rfl, upd_same, fun dx h1 h2 => ⟨rfl, dx, [(fl, v)], upd_same, ?_, ?_, ?_⟩⟩⟩
    · rw [upd_ne h2, upd_same]
    · rw [upd_ne h2] at h1; exact h1
    · have hdx : H1 dx = none := by rw [upd_ne h2] at h1; exact h1
      have ee : upd (del (upd (upd (upd H1 a (exo a C none)) dx (exd dx [(fl, v)])) a (exo a C (some dx))) a) dx (.xd [(fl, v)]) = upd H1 dx (.xd [(fl, v)]) := by
        funext c
        unfold upd del
        by_cases c1 : c = dx
        · rw [if_pos c1, if_pos c1]
        · rw [if_neg c1, if_neg c1]
          by_cases c2 : c = a
          · rw [if_pos c2, c2, hA]
          · rw [if_neg c2]
            show (if c = a then some (exo a C (some dx)) else if c = dx then some (exd dx [(fl, v)]) else if c = a then some (exo a C none) else H1 c) = H1 c
            rw [if_neg c2, if_neg c1, if_neg c2]
      rw [ee]
      have e2 : Ext g.I H1 (upd H1 dx (.xd [(fl, v)])) := .new e1.2 hdx
      refine xl σ H env ⟨C, some [(fl, d)]⟩ (some dx) _ hd (e1.trans e2) ⟨dx, [v], rfl, upd_same, ?_⟩ q
      exact .one (Den.keep e2.1 _ _ dn)
end
end Dl

namespace PySem
open Sem (wp)
open PyProof.Rows
theorem meets_enum1B {v : Value} {o : Obj} {H : Heap → Prop} (B : Begins v o H) :
    Meets (Builtin.«enumerate.__new__» ⟨[.type "enumerate", v], []⟩) (fun _ R s => H s.heap ∧
      R (.ok (.ret (.ref (s.heap.push o).objs.size))) { s with heap := (s.heap.push o).push { cls := .type "enumerate", data := .fields #[.none, .bool false, .ref s.heap.objs.size, rawInt 0, .none, .none] } }) :=
  .of_wp fun prog w A R s h => by
    obtain ⟨hp, g, d, tk, os⟩ := s; obtain ⟨h1, h⟩ := h
    have hsub := sub_enumerate
    have q1 : ∀ {A' : Around} {E : Value → Shared → Prop} {Q : Value → Shared → Prop}, Q (.ref hp.objs.size) ⟨hp.push o, g, d, tk, os⟩ → wpAny (model prog w) A' (pyIter v) Q E ⟨hp, g, d, tk, os⟩ :=
      fun q => B.iter prog w _ _ ⟨hp, g, d, tk, os⟩ _ h1 q
    wp_walk using q1
    refine wpAny_stack_any fun st => wpAny_pure ?_
    split
    · rename_i c _ _ _ _ _
      cases (c == Value.type "enumerate")
      · wp_walk using q1
        exact ⟨_, rfl, h⟩
      · wp_walk using q1
        exact ⟨_, rfl, h⟩
    · wp_walk using q1
      exact ⟨_, rfl, h⟩
section
variable {prog : Program} {w : World} {A : Around} {E : Value → Shared → Prop} {s : Shared}
theorem pyNext_enumT_end {e it t : Addr} {i : Nat} {items : Array Value} {k : Int} {old : Value} {Q : Option Value → Shared → Prop} (hh : A.handled = none)
    (he : IsEnum s.heap e it k old) (hit : s.heap.IsTupleIter it t i) (hl : s.heap.IsTuple t items) (hx : items[i]? = none)
    (hQ : ∀ h', Heap.ExtBut it s.heap h' → Q none { s with heap := h' }) : wpAny (model prog w) A (pyNext (.ref e)) Q E s := by
  have hT : s.TypeIs (.ref e) "enumerate" := ⟨_, he, rfl⟩
  unfold pyNext
  refine wpAny_bind (wpAny_attempt (wpAny_callSpecial?_slot (name := Str.ofString "__next__") hT F.slot_enumerate_next
    (wpAny_call_entry F.slot_enumerate_next hT F.entry_enumerate_next ?_ (F.args_enumerate_next_1 _))))
  show wpAny _ _ (field (.ref e) 2 >>= _) _ _ _
  refine wpAny_bind (wpAny_field he rfl (x := .ref it) rfl ?_)
  refine wpAny_bind (wpAny_nextOf_tuple_end hh hit hl hx fun h' x he' hx' => ?_)
  obtain ⟨o, ho, hc⟩ := hx'
  refine wpAny_bind (wpAny_isInstance (T := "StopIteration") (b := true) ⟨o, ho, hc⟩ isSubtype_stop ?_)
  exact wpAny_pure (hQ _ he')
theorem enum1_begins {v : Value} {o : Obj} {H : Heap → Prop} {Q : Value → Shared → Prop} (B : Begins v o H) (h1 : H s.heap)
    (h : ∀ h', IsEnum h' (s.heap.objs.size + 1) s.heap.objs.size 0 .none → h'.get? s.heap.objs.size = some o → h'.objs.size = s.heap.objs.size + 2 →
      (∀ b o, s.heap.get? b = some o → h'.get? b = some o) → Q (.ref (s.heap.objs.size + 1)) { s with heap := h' }) :
    wpAny (model prog w) A (call (.type "enumerate") [v]) Q E s := by
  refine callType_new F.called_enumerate (by decide) (F.typeCall_enumerate_1 _) (F.newCall_enumerate_1 _) (fun obj => F.args_object_init_2 obj _) F.entry_enumerate_new
    (meets_enum1B B) ⟨h1, ?_⟩
  have hz : (s.heap.push o).objs.size = s.heap.objs.size + 1 := Heap.size_push ..
  show _ ∧ _
  rw [hz]
  have he : IsEnum ((s.heap.push o).push { cls := .type "enumerate", data := .fields #[.none, .bool false, .ref s.heap.objs.size, rawInt 0, .none, .none] }) (s.heap.objs.size + 1) s.heap.objs.size 0 .none := by
    have := Heap.get?_push_size (s.heap.push o) (o := { cls := .type "enumerate", data := .fields #[.none, .bool false, .ref s.heap.objs.size, rawInt 0, .none, .none] }) rfl
    rw [hz] at this; exact this
  refine ⟨⟨_, he, rfl⟩, h _ he (Heap.get?_push_of_some _ (Heap.get?_push_size _ B.free)) (by rw [Heap.size_push, hz]) fun b o x => Heap.get?_push_of_some _ (Heap.get?_push_of_some _ x)⟩
end
end PySem
namespace Dl
open PySem PySem.Spec PyProof.Rows L2
def IteT (K : PySem.W.Frag) (a : Addr) : It :=
  ⟨fun i H => ∃ (xs : List V) (x : V), SqT K H a xs ∧ xs[i]? = some x, fun i H v H' => ∃ T x, v = .ref T ∧ H T = none ∧ H' = upd H T (.tup [.int (i : Nat), x]) ∧ ∀ xs, SqT K H a xs → xs[i]? = some x, fun i H => ∃ xs : List V, SqT K H a xs ∧ xs.length ≤ i⟩
theorem turn_enumT {P : Program} {w : World} {K : PySem.W.Frag} {elts : List Expr} {kk : Nat} {tpos : Pos} (a e it : Addr) :
    Turn P w K (.Tuple elts kk tpos) (IteT K a) [e, it] e (fun i h => (∃ old, IsEnum h e it ((i : Nat) : Int) old) ∧ h.IsTupleIter it a i ∧ e ≠ it ∧ a ≠ it ∧ a ≠ e) where
  mem := by simp
  obj := fun i h st b hb => by
    obtain ⟨⟨old, he⟩, ⟨o, ho, hc, hd⟩, _⟩ := st
    have e' : b = e ∨ b = it := by simpa using hb
    rcases e' with z | z
    · rw [z]; exact ⟨_, he, fun v q => nomatch q⟩
    · rw [z]; exact ⟨o, ho, fun v q => by rw [hd] at q; cases q⟩
  keep := fun i h h' st k => let ⟨⟨old, he⟩, hi, hne⟩ := st; ⟨⟨old, k e (by simp) _ he⟩, hi.at fun o q => k it (by simp) o q, hne⟩
  item := by
    intro X hP hw hK hc i pins s σ H E I hf st hg
    subst hP hw hK
    obtain ⟨⟨old, he⟩, hit, hne, na, nb⟩ := st
    obtain ⟨xs, x, hq, hx⟩ := hg
    obtain ⟨its, rv, p, hz⟩ := I.tuple hq
    obtain ⟨u, hu, ru⟩ := rv.get hx
    have hel : e < s.heap.objs.size := Heap.lt_size he
    have hil : it < s.heap.objs.size := by obtain ⟨_, q, _⟩ := hit; exact Heap.lt_size q
    have hlt : i < its.toArray.size := by
      have := (List.getElem?_eq_some_iff.mp hu).1
      simpa using this
    refine wpAny_pyNext_enum_itemD (Draws.tuple (A := X.A.in1) (I.ok.hd hc) it a na its.toArray) he ⟨hit, p⟩ hlt hne (by simp only [List.mem_cons, List.not_mem_nil, or_false, not_or]; exact ⟨hne, Ne.symm nb⟩) fun y h' tk hy ho hit' hT hsz hk => ?_
    have hy' : y = u := by
      have : its[i]? = some y := by simpa using hy
      rw [hu] at this
      exact (Option.some.inj this).symm
    subst hy'
    refine ⟨_, rfl, wpAny_letOwnedTupleGo_enum (s := { s with heap := h', toks := tk + 1 }) ho fun h'' he' sb => ?_⟩
    have hT2 : h''.get? s.heap.objs.size = some { cls := .type "tuple", data := .seq #[.int i tk, y] } := (sb.2 _ (Nat.ne_of_gt hel)).trans hT
    have new : ObjOk X.prog X.w (upd H s.heap.objs.size (.tup [.int (i : Nat), x])) h'' s.heap.objs.size (.tup [.int (i : Nat), x]) :=
      ⟨by show 2 ≤ sizeLine; decide, [.int i tk, y], .cons ⟨_, rfl⟩ (.cons ru .nil), ⟨_, hT2, rfl, _, rfl⟩⟩
    have I1 : Inv X pins σ (upd H s.heap.objs.size (.tup [.int (i : Nat), x])) { s with heap := h'', toks := tk + 1 } :=
      I.turnedNew (ch := [e, it]) (fun b ob hb q => (sb.2 b (fun z => hb (by simp [z]))).trans (hk b ob (fun z => hb (by simp [z])) (fun z => hb (by simp [z])) q)) hf (Nat.le_refl _) new
    refine ⟨.ref s.heap.objs.size, _, I1, rfl, ⟨_, x, rfl, I.hok.fresh (Nat.le_refl _), rfl, fun ys hy => by rw [I.tuple_inj hy hq]; exact hx⟩, ⟨⟨y, ?_⟩, hit'.1.at fun o q => (sb.2 it (Ne.symm hne)).trans q, hne, na, nb⟩, fun b hb => ?_⟩
    · have e1 : ((i + 1 : Nat) : Int) = (i : Int) + 1 := by omega
      rw [e1]; exact he'
    · have hb' : b < s.heap.objs.size := by
        have e' : b = e ∨ b = it := by simpa using hb
        rcases e' with z | z
        · rw [z]; exact hel
        · rw [z]; exact hil
      rw [upd_ne (Nat.ne_of_lt hb')]
      exact (hf b hb).1
  done := by
    intro X hP hw hK hc i pins s σ H E I hf st hg
    subst hP hw hK
    obtain ⟨⟨old, he⟩, hit, hne, na, nb⟩ := st
    obtain ⟨xs, hq, hx⟩ := hg
    obtain ⟨its, rv, p, hz⟩ := I.tuple hq
    obtain ⟨f0, f1, f2, f3, f4, f5⟩ := hf it (by simp)
    have hl := rv.length
    exact pyNext_enumT_end (I.ok.hd hc) he hit p (by simp; omega) fun h' eb => ⟨rfl, I.turned (t' := s.toks) (fun b o hb q => eb b o hb q) f0 f1 f3 f4 f5⟩
  self := fun A i s Q E st h => let ⟨⟨_, he⟩, _⟩ := st; wpAny_pyIter_enum he h
def iEnumA (K : PySem.W.Frag) (ta : L2.TA) : TI := fun σ H R => ta σ H fun vs H1 => ∃ a xs, vs = [.ref a] ∧ ((SqL K H1 a xs ∧ R (Ite K a) H1) ∨ (SqT K H1 a xs ∧ R (IteT K a) H1))
theorem pi_enumA {X : Cx} {e : Expr} {ta : L2.TA} {p pos tpos : Pos} {elts : List Expr} {kk : Nat} (hg : Gl X "enumerate") (hm : X.mg "enumerate" = none) (ha : PA X [e] ta) (hs : starEach [e] X.env = [(false, eval e X.env)] := by rfl) :
    PI X (.Tuple elts kk tpos) (.Call (.Name "enumerate" p) [e] [] pos) (iEnumA X.K ta) := by
  refine ⟨fun pins s σ H R I h => ?_⟩
  refine Call_ (ld_blt I hg hm boot_enumerate (PyProof.Rows.callWith_type1 (thn (ha.run pos pins s σ H _ I h) fun us s1 ⟨vs, H1, I1, r1, q1⟩ => ?_) hs rfl))
  obtain ⟨a, xs, ex, q⟩ := q1
  subst ex
  cases r1 with
  | cons r rr =>
    cases rr
    cases r
    have fin : ∀ b ∈ [s1.heap.objs.size + 1, s1.heap.objs.size], FpOk X pins H1 b := fun b hb => by
      have e' : b = s1.heap.objs.size + 1 ∨ b = s1.heap.objs.size := by simpa using hb
      have hle : s1.heap.objs.size ≤ b := by
        rcases e' with z | z
        · rw [z]; exact Nat.le_add_right _ _
        · rw [z]; exact Nat.le_refl _
      exact I1.fpOk hle (I1.hok.fresh hle)
    rcases q with ⟨hq, q⟩ | ⟨hq, q⟩
    · obtain ⟨its, rv, p', hz⟩ := I1.list hq
      refine call_enumerate_list p'.isList fun h' he hit hsz hk => wpAny_pyIter_enum he ?_
      have I2 : Inv X pins σ H1 { s1 with heap := h' } := I1.kept (t' := s1.toks) hk
      exact ⟨s1.heap.objs.size + 1, [s1.heap.objs.size + 1, s1.heap.objs.size], _, _, H1, rfl, I2, turn_enum a (s1.heap.objs.size + 1) s1.heap.objs.size, ⟨⟨.none, he⟩, hit, Nat.succ_ne_self _⟩, fin, q⟩
    · obtain ⟨its, rv, p', hz⟩ := I1.tuple hq
      have pt : s1.heap.IsTuple a its.toArray := p'
      have al : a < s1.heap.objs.size := by obtain ⟨_, q, _⟩ := pt; exact Heap.lt_size q
      refine enum1_begins (begins_tuple a its.toArray) pt fun h' he hit hsz hk => wpAny_pyIter_enum he ?_
      have I2 : Inv X pins σ H1 { s1 with heap := h' } := I1.kept (t' := s1.toks) hk
      exact ⟨s1.heap.objs.size + 1, [s1.heap.objs.size + 1, s1.heap.objs.size], _, _, H1, rfl, I2, turn_enumT a (s1.heap.objs.size + 1) s1.heap.objs.size, ⟨⟨.none, he⟩, ⟨_, hit, rfl, rfl⟩, Nat.succ_ne_self _, Nat.ne_of_lt al, Nat.ne_of_lt (Nat.lt_succ_of_lt al)⟩, fin, q⟩
def enumD : Nat → List D → List D
  | _, [] => []
  | n, d :: ds => .tup [.int (n : Nat), d] :: enumD (n + 1) ds
theorem enumD_len : ∀ {n : Nat} {ds : List D}, (enumD n ds).length = ds.length
  | _, [] => rfl
  | n, d :: ds => congrArg Nat.succ enumD_len
theorem enumD_get : ∀ {n i : Nat} {ds : List D} {d : D}, ds[i]? = some d → (enumD n ds)[i]? = some (.tup [.int ((n + i : Nat) : Int), d])
  | n, i, [], d, h => by simp at h
  | n, 0, e :: ds, d, h => by
    have : e = d := by simpa using h
    subst this
    rfl
  | n, i + 1, e :: ds, d, h => by
    have ih := enumD_get (n := n + 1) (i := i) (ds := ds) (d := d) (by simpa using h)
    have e1 : n + 1 + i = n + (i + 1) := by omega
    rw [e1] at ih
    exact ih
theorem pair_den {K : PySem.W.Frag} {Av : Addr → Prop} {H : Hp} {T : Addr} {x y : V} {dx dy : D} (hT : H T = none) (nT : ¬ Av T) (hx : Den K Av H x dx) (hy : Den K Av H y dy) : Den K Av (upd H T (.tup [x, y])) (.ref T) (.tup [dx, dy]) := by
  have kk : Kp Av H (upd H T (.tup [x, y])) := Kp.new hT
  simp only [Den]
  refine ⟨T, [x, y], rfl, SqT.of upd_same, .inl ⟨nT, upd_same⟩, ?_⟩
  simp only [DenA]
  exact ⟨x, [y], rfl, Den.keep kk _ _ hx, y, [], rfl, Den.keep kk _ _ hy, rfl⟩
theorem itd_enumL {K : PySem.W.Frag} {a : Addr} {ds : List D} : ItD K (Ite K a) [(.ref a, .lst ds)] (enumD 0 ds) := fun Av H hw hav => by
  have := hw _ List.mem_cons_self
  simp only [Den] at this
  obtain ⟨a', vs, e, s, n, r⟩ := this
  cases e
  refine ⟨fun i hi => ?_, vs, SqL.of s, by rw [r.len, enumD_len]; exact Nat.le_refl _⟩
  rw [enumD_len] at hi
  obtain ⟨v, q1, q2⟩ := r.get (List.getElem?_eq_getElem hi)
  refine ⟨⟨vs, v, SqL.of s, q1⟩, fun x H' ⟨T, y, e1, hT, e2, hy⟩ => ?_⟩
  subst e1 e2
  have z := hy vs (SqL.of s)
  rw [q1] at z
  cases z
  refine ⟨Kp.new hT, _, enumD_get (List.getElem?_eq_getElem hi), pair_den hT (fun z => hav T z hT) ?_ q2⟩
  simp only [Den, Nat.zero_add]
theorem itd_enumT {K : PySem.W.Frag} {a : Addr} {ds : List D} : ItD K (IteT K a) [(.ref a, .tup ds)] (enumD 0 ds) := fun Av H hw hav => by
  have := hw _ List.mem_cons_self
  simp only [Den] at this
  obtain ⟨a', vs, e, s, n, r⟩ := this
  cases e
  refine ⟨fun i hi => ?_, vs, s, by rw [r.len, enumD_len]; exact Nat.le_refl _⟩
  rw [enumD_len] at hi
  obtain ⟨v, q1, q2⟩ := r.get (List.getElem?_eq_getElem hi)
  refine ⟨⟨vs, v, s, q1⟩, fun x H' ⟨T, y, e1, hT, e2, hy⟩ => ?_⟩
  subst e1 e2
  have z := hy vs s
  rw [q1] at z
  cases z
  refine ⟨Kp.new hT, _, enumD_get (List.getElem?_eq_getElem hi), pair_den hT (fun z => hav T z hT) ?_ q2⟩
  simp only [Den, Nat.zero_add]
def idEnum (td : TED) : TID := fun env Q => td env fun d => (noOwn env = true ∨ d.noLst = true) ∧ ∃ ds, seqOf d = some ds ∧ Q (enumD 0 ds)
def idEnumV (i : Nat) : TID := fun env Q => ∃ d ds, env[i]? = some (.val d) ∧ seqOf d = some ds ∧ Q (enumD 0 ds)
theorem si_enum {K : PySem.W.Frag} {b : B0} {σ : L2.St} {H : Hp} {env : DEnv} {I : HI} {R : It → Hp → Prop} {v : V} {d : D} {ds : List D} (hd : DenE K I ⟨b.H0, (v, d) :: b.hs⟩ σ H env) (hs : seqOf d = some ds)
    (k : ∀ J hw, DenE K I ⟨b.H0, hw ++ b.hs⟩ σ H env → ItD K J hw (enumD 0 ds) → R J H) : ∃ a xs, [v] = [.ref a] ∧ ((SqL K H a xs ∧ R (Ite K a) H) ∨ (SqT K H a xs ∧ R (IteT K a) H)) := by
  obtain ⟨oa, h1, h2, h3, h4⟩ := hd.slots
  have dn := h4 _ List.mem_cons_self
  cases d <;> simp only [seqOf, Option.some.injEq] at hs <;> simp only [Den] at dn
  case tup xs =>
    subst hs
    obtain ⟨a, vs, rfl, s, n, r⟩ := dn
    exact ⟨a, vs, rfl, .inr ⟨s, k _ _ hd itd_enumT⟩⟩
  case lst xs =>
    subst hs
    obtain ⟨a, vs, rfl, s, n, r⟩ := dn
    exact ⟨a, vs, rfl, .inl ⟨SqL.of s, k _ _ hd itd_enumL⟩⟩
  all_goals cases hs
section
variable {X : Cx} {g : Gx} {e : Expr} {p pos tpos : Pos} {elts : List Expr} {kk : Nat} {td : TED}
theorem di_enum (hg : Gl X "enumerate") (hm : X.mg "enumerate" = none) (he : PED X g e td) (hs : starEach [e] X.env = [(false, eval e X.env)] := by rfl) : PID X g (.Tuple elts kk tpos) (.Call (.Name "enumerate" p) [e] [] pos) (idEnum td) :=
  pid_of (pi_enumA hg hm (pa_cons pe_w pa_nil hs) hs) fun b σ H env Qd R hd xl ht k =>
    he b σ H env _ _ hd xl ht fun v d H1 e1 dn ⟨kp, ds, hs, q⟩ => si_enum ((hd.mono e1).hold dn kp) hs fun J hw hd2 it => k J H1 hw _ hd2 e1 it q
theorem di_enumV (i : Nat) {x : Str} {p2 : Pos} (hg : Gl X "enumerate") (hm : X.mg "enumerate" = none) (hN : X.N[i]? = some x := by rfl) (hv : Vis X.env.scope x := by first | exact Or.inl rfl | exact Or.inr (Or.inl rfl) | exact Or.inr (Or.inr rfl))
    (hd : (x == ("__debug__" : Str)) = false := by decide) (hcd : (x == ("__classdict__" : Str)) = false := by decide) (hs : starEach [Expr.Name x p2] X.env = [(false, eval (.Name x p2) X.env)] := by rfl) :
    PID X g (.Tuple elts kk tpos) (.Call (.Name "enumerate" p) [.Name x p2] [] pos) (idEnumV i) :=
  pid_of (pi_enumA hg hm (pa_cons (pe_var hN hv hd hcd) pa_nil hs) hs) fun b σ H env Qd R hd xl ⟨d, ds, e, hs, q⟩ k => by
    obtain ⟨oa, h1, h2, h3, h4⟩ := hd.slots
    obtain ⟨v, q1, q2⟩ := h3 i d e
    refine ⟨v, q1, si_enum (b := b) (env := env) (σ := σ) (d := d) ⟨hd.len, hd.ext, oa, h1, h2, h3, fun p hp => ?_⟩ hs fun J hw hd2 it => k J H hw _ hd2 (.refl hd.ok) it q⟩
    rcases List.mem_cons.mp hp with z | hp
    · rw [z]; exact q2
    · exact h4 p hp
end
end Dl

namespace Dl
open PySem PySem.Spec PyProof.Rows L2

def Cl (P : Program) (w : World) (K : PySem.W.Frag) (mg : Str → Option Value) (base : Heap) (I : HI) (k : Nat) (x : Str) (n : Nat) (C : Ct) (dds : List D) : Prop :=
  ∃ (fa : Addr) (fd : FuncData) (ps : List Str) (ds : List Value) (dvs : List V), FnOk P w K mg base (L2.CX P w) k fa fd ps (spOf K I n C) ∧ mg x = some (.ref fa) ∧ PySem.W.keepIn K (.ref fa) = true ∧ L2.Binds K fd ps ds ∧ Vals dvs ds ∧ ∀ H, DenA K I.own H dvs dds
abbrev ClX (X : Cx) (I : HI) (k : Nat) (x : Str) (n : Nat) (C : Ct) (dds : List D) : Prop := Cl X.prog X.w X.K X.mg X.base I k x n C dds
def Ar (n : Nat) (C : Ct) : Prop := ∀ xs Q E, C xs Q E → xs.length = n
theorem h64 {A : Around} {k : Nat} (hr : Room k A) : A.units + 64 < cLine := hr.units
theorem h65 {A : Around} {k : Nat} (hr : Room k A) : A.units + 65 < cLine := by have := hr.un; omega
section
variable {X : Cx} {g : Gx} {e e2 : Expr} {es : List Expr} {td ti tv : TED} {tas : TAD} {pos p p2 : Pos} {x : Str}
theorem d_callC {k j n : Nat} {C : Ct} {dds : List D} (c : ClX X g.I k x n C dds) (hC : Ar n C) (hr : Room j X.A) (hj : k ≤ j) (hg : Gl X x) (tk : Takes X g.W) (ha : PAD X g (e :: es) tas)
    (hdb : (x == ("__debug__" : Str)) = false := by decide) (he : starEach (e :: es) X.env = (false, eval e X.env) :: starEach es X.env := by rfl) (hpl : (backTo pos (starEach es X.env)).any (·.1) = false := by rfl) :
    PED X g (.Call (.Name x p) (e :: es) [] pos) (dCall C dds g.Ed tas) := by
  obtain ⟨fa, fd, ps, ds, dvs, F, hm, hk, hb, hd, hdd⟩ := c
  exact d_call F (hr.mono hj) hg hm hk hb hd hdd tk hC ha hdb he hpl
theorem d_gint {i : Int} (hg : Gl X x) (hm : ∃ t, X.mg x = some (.int i t)) (hd : (x == ("__debug__" : Str)) = false := by decide) : PED X g (.Name x p) (dC (.int i)) := by
  obtain ⟨t, hm⟩ := hm
  exact ped_of (pe_glob (v := .int i) hg hm ⟨t, rfl⟩ hd) (sd_c fun _ => by simp only [Den])

section
variable {i : Nat} {y : Str} {py : Pos} {elt tg iter : Expr} {ifs : List Expr} {scope : Scope} {own : List (Str × Nat)} {spos : Pos} {gt : TG} {tid : TID} {gd : TGD} {tt : TTD} {ed : TED}
theorem ds_lcV (hc : X.calm = true) (hN : X.N.Nodup) (hy : X.N[i]? = some y) (hyl : X.env.scope.names.lookup y = some .local) (hsw : swapsWith (.ListComp elt [⟨tg, iter, ifs, 0⟩] scope pos) (some (.Name y py)) spos.line X.env = pure true)
    (hi : PID X g tg iter tid) (ok : BlkOk X.N X.env.scope scope own)
    (hg : ∀ (s : Shared) (H : Hp) (C : Addr) (cl : List (Str × Addr)) (fp : List Addr), PG (X.blk s H scope (compEnvC scope cl C X.env) fp) tg gt) (sg : SG X.K g.nox gt gd) (gw : GW gt (own.map (·.2)))
    (ht : ST X.K g.nox (wBT X scope ifs) tt) (he : SE X.K g.nox (wBE X scope elt) ed) (hs : ∀ x, foldedSetIterable iter X.env x = pure x := by intro _; rfl) :
    PSD X g (.Assign [.Name y py] (.ListComp elt [⟨tg, iter, ifs, 0⟩] scope pos) spos) (sAsg i (dF (fLc tid gd tt ed (own.map (·.2))))) :=
  psd_of (ps_setLc hc hN hy hyl hsw pi_w ok hg (fun _ _ _ _ _ => pt_blk) (fun _ _ _ _ _ => pe_blk) hs) fun b σ H env Dd E hd xl h el =>
    sf_lc hi sg gw ht he b σ H env _ _ hd xl h fun p vs ds H1 hp e1 hl dn ⟨kp, q⟩ => el.nx _ _ _ ((hd.mono e1).put (by
      simp only [Den]
      exact ⟨p, vs, rfl, hl, HI.nown hd.ok hp, DenA.weak (fun a z => .inl z) _ _ dn⟩) kp) q
end
end
end Dl

namespace Dl
open PySem PySem.Spec PyProof.Rows L2 He
def clsB (K : PySem.W.Frag) (C : Addr) : Bool := match K.lookup C with
  | some ⟨.type t, _, .cls cd, sl⟩ => (match cd.mro, sl.toList with
    | .ref C' :: bm, [_, _, _, _, some (.builtin n), _] => decide (t = "type") && (C' == C && (decide (n = "ValueError.__new__") && (!cd.hasDel && (cd.hasDict && PySem.HandSPX.refsVE bm))))
    | _, _ => false)
  | _ => false
theorem clsB_ok {K : PySem.W.Frag} {C : Addr} (q : clsB K C = true) : ∃ nm qn N bs bm sn sub ab col dd k0 k1 k2 k3 k5, K.lookup C = some (excClassObj nm qn C N bs bm true sn sub ab col dd k0 k1 k2 k3 k5 "ValueError.__new__") ∧ PySem.HandSPX.refsVE bm = true := by
  unfold clsB at q
  split at q
  · rename_i t dd cd sl ho
    split at q
    · rename_i C' bm k0 k1 k2 k3 n k5 hm hs
      simp only [Bool.and_eq_true, beq_iff_eq, Bool.not_eq_true', decide_eq_true_eq] at q
      obtain ⟨rfl, rfl, rfl, hdel, hh, hr⟩ := q
      obtain ⟨nm, bs, mro, ns, qn, hd, sn, sub, ab, col, del⟩ := cd
      dsimp only at hm hdel hh
      subst hm hdel hh
      have hsl : sl = #[k0, k1, k2, k3, some (.builtin "ValueError.__new__"), k5] := by
        obtain ⟨l⟩ := sl
        simp only at hs
        rw [hs]
      subst hsl
      exact ⟨nm, qn, ns, bs, bm, sn, sub, ab, col, dd, k0, k1, k2, k3, k5, ho, hr⟩
    · cases q
  · cases q
def errB (K : PySem.W.Frag) (x fl : Str) : Bool := clsB K (ga K x) && (decide (PySem.W.findIn K (.ref (ga K x)) "__setattr__" = some (some (.builtin "object.__setattr__"))) && (decide (PySem.W.subIn K (.ref (ga K x)) (.type "BaseException") = some true) &&
  (decide (PySem.W.typeIn K (.ref (ga K x)) = some (.type "type")) && (PySem.W.keepIn K (.ref (ga K x)) && (decide (PySem.W.findIn K (.ref (ga K x)) fl = some none) &&
  (decide (PySem.W.findIn K (.ref (ga K x)) "__init__" = some (some (.ref (ma K (ga K x) "__init__")))) && decide (PySem.W.typeIn K (.ref (ma K (ga K x) "__init__")) = some (.type "function"))))))))
structure ErrF (K : PySem.W.Frag) (x fl : Str) : Prop where
  e : ErrC K (ga K x) fl
  i : PySem.W.findIn K (.ref (ga K x)) "__init__" = some (some (.ref (ma K (ga K x) "__init__")))
  t : PySem.W.typeIn K (.ref (ma K (ga K x) "__init__")) = some (.type "function")
theorem errB_ok {K : PySem.W.Frag} {x fl : Str} (h : errB K x fl = true) : ErrF K x fl := by
  obtain ⟨h1, h⟩ := ba h
  obtain ⟨h2, h⟩ := ba h
  obtain ⟨h3, h⟩ := ba h
  obtain ⟨h4, h⟩ := ba h
  obtain ⟨h5, h⟩ := ba h
  obtain ⟨h6, h⟩ := ba h
  obtain ⟨h7, h8⟩ := ba h
  exact ⟨⟨⟨clsB_ok h1, of_decide_eq_true h2, of_decide_eq_true h3, of_decide_eq_true h4, h5⟩, of_decide_eq_true h6⟩, of_decide_eq_true h7, of_decide_eq_true h8⟩
structure Er (P : Program) (w : World) (K : PySem.W.Frag) (mg : Str → Option Value) (base : Heap) (x fl : Str) : Prop where
  f : ErrF K x fl
  m : mg x = some (.ref (ga K x))
  ex : ∃ fd, FnOk P w K mg base CX0 1 (ma K (ga K x) "__init__") fd ["self", fl] (spExc (ga K x) fl) ∧ L2.Binds K fd ["self", fl] []
section
variable {X : Cx} {g : Gx} {e : Expr} {td : TED} {pos p cpos : Pos} {x fl : Str} {j : Nat}
theorem ds_raiseC (er : Er X.prog X.w X.K X.mg X.base x fl) (hc : X.calm = true) (hr : Room j X.A) (hj : 2 ≤ j) (hg : Gl X x) (tk : Takes X g.W) (ha : PED X g e td)
    (hdb : (x == ("__debug__" : Str)) = false := by decide) (he : starEach (e :: []) X.env = (false, eval e X.env) :: starEach [] X.env := by rfl) (hpl : (backTo cpos (starEach [] X.env)).any (·.1) = false := by rfl) :
    PSD X g (.Raise (some (.Call (.Name x p) [e] [] cpos)) none pos) (sRaise (ga X.K x) fl g.Ed td) := by
  obtain ⟨fd, F, hb⟩ := er.ex
  exact ds_raise hc er.f.e er.f.i er.f.t F pass0 (hr.mono hj) hb hg er.m tk ha hdb he hpl
end
abbrev AlZ : Type := AlD × Bool
def obsZ (n : Nat) (fa : List Fa) (fn : List DefD) (ex : PySem.W.Frag → Bool) (g : Addr → Option Obj) : AlZ := (obsD fa fn (frG g (asD g n)), ex (frG g (asD g n)))
def hookZ (n : Nat) (fa : List Fa) (fn : List DefD) (ex : PySem.W.Frag → Bool) : PySem.W.Hook where
  α := AlZ
  obs := fun s => obsZ n fa fn ex s.heap.get?
  val := fun _ => (valD fn, true)
  says := fun _ h => ∃ K : PySem.W.Frag, K.In h ∧ SaysD fa fn K ∧ ex K = true
  of := fun _ _ e => ⟨_, frG_in, congrArg (fun z : AlZ => z.1) e, congrArg (fun z : AlZ => z.2) e⟩
  keeps := fun _ _ _ ⟨K, hK, c⟩ k => ⟨K, PySem.W.Frag.In.keeps hK k, c⟩
theorem obsZ_eq {n : Nat} {fa : List Fa} {fn : List DefD} {ex : PySem.W.Frag → Bool} {g : Addr → Option Obj} {s : Shared} (h : ∀ a, g a = s.heap.get? a) : obsZ n fa fn ex g = (hookZ n fa fn ex).obs s := by
  have e : g = s.heap.get? := funext h
  rw [e] <;> rfl
def defD (st : Stmt) (cl : Option Str) (x : Str) (dfl : List Dv) : DefD := ⟨(match cl with | some c => (c, some x) | none => (x, none)), x, (match cl with | some c => c ++ "." ++ x | none => x), defArgs st, defBody st, defScope st, dfl, []⟩
end Dl

namespace SrtT
open PySem PyProof.Rows Srt SrtO
end SrtT
namespace Dl
open PySem PySem.Spec PyProof.Rows L2
theorem pf_e {X : Cx} {g : Gx} {e : Expr} {td : TFD} (h : PFD X g e td) : PED X g e (dF td) := SF.se h
end Dl

namespace Dl
open PySem PySem.Spec PyProof.Rows L2

abbrev TSX := (DEnv → Exc → Prop) → TSD
section
variable {X : Cx} {g : Gx} {x n : Str} {c : Value} {i : Nat} {body suite : List Stmt} {b₀ : Stmt} {np pos pos' : Pos} {tb : TSX} {ts : Addr → Option Addr → Exc → TSD}
end
section
variable {X : Cx} {g : Gx} {a : Addr} {oe : Obj} {x : Exc} {d : Option Addr} {pn : List (Addr × Obj)} {e : Expr} {te : TED} {pos p : Pos} {n y : Str}
end
end Dl

namespace Dl
open PySem PySem.Spec PyProof.Rows L2

def wK (X : Cx) (kws : List Keyword) : L2.TA := fun σ H Q => ∀ pos pins s, Inv X pins σ H s → wpAny (model X.prog X.w) X.A (evalAll ((backToKw pos (keywordEach kws X.env)).map (·.2))) (AP X pins σ Q) X.xe s
def PKD (X : Cx) (g : Gx) (kws : List Keyword) (td : TAD) : Prop := SA X.K g (wK X kws) td
section
variable {X : Cx} {g : Gx} {e : Expr} {es : List Expr} {kws : List Keyword} {nm : Option Str} {td : TED} {ta tk : TAD} {pos p kpos : Pos} {x : Str}
theorem pk_w : PK X kws (wK X kws) := ⟨fun pos pins s σ H Q I h => h pos pins s I⟩
theorem pkd_of {ta' : L2.TA} (p : PK X kws ta') (h : SA X.K g ta' ta) : PKD X g kws ta := fun b0 σ H env Qd Q hd xl ht k pos pins s J => p.run pos pins s σ H Q J (h b0 σ H env Qd Q hd xl ht k)
theorem dk_nil : PKD X g [] dNil := pkd_of pk_nil fun b0 σ H env Qd Q hd xl h k => k [] [] H (.refl hd.ok) (by simp only [DenA]) h
theorem dk_cons (he : PED X g e td) (ht : PKD X g kws tk) : PKD X g (⟨nm, e, kpos⟩ :: kws) (dCons td tk) :=
  pkd_of (pk_cons pe_w pk_w) fun b0 σ H env Qd Q hd xl h k => he b0 σ H env _ _ hd xl h fun v d H1 e1 dn h1 => ht b0 σ H1 env _ _ (hd.mono e1) xl h1 fun vs ds H2 e2 dn2 q =>
    k (v :: vs) (d :: ds) H2 (e1.trans e2) (by simp only [DenA]; exact ⟨v, vs, rfl, Den.keep e2.1 _ _ dn, dn2⟩) q
end

section
variable {X : Cx} {g : Gx} {e e2 : Expr} {td ti : TED} {pos : Pos} {x : Str} {i : Nat} {p1 : Pos}
end
end Dl

namespace Dl
open PySem PySem.Spec PyProof.Rows L2
def isWh (x lo hi : D) : Bool := match x with
  | .int i => (match lo with | .int l => decide (l ≤ i) | _ => true) && (match hi with | .int h => decide (i ≤ h) | _ => true)
  | _ => false
def isOpt : D → Prop
  | .non => True
  | .int _ => True
  | _ => False
def C_is_whole (K : PySem.W.Frag) : Ct := fun ds Q _ => ∃ x lo hi, ds = [x, lo, hi] ∧ x.tyn.isSome = true ∧ isOpt lo ∧ isOpt hi ∧ Q (.bl (isWh x lo hi))
theorem ar_is_whole (K : PySem.W.Frag) : Ar 3 (C_is_whole K) := fun _ _ _ ⟨_, _, _, e, _⟩ => by rw [e]; rfl
def fstBad (bad : List D → D → Bool) : List D → List D → Option Nat
  | _, [] => none
  | pre, d :: ds => if bad pre d = true then some pre.length else fstBad bad (pre ++ [d]) ds
def allTy (xs : List D) : Prop := ∀ x ∈ xs, x.tyn.isSome = true
def excI (K : PySem.W.Frag) (c : Str) (i : Int) : Exc := ⟨He.ga K c, some [("index", .int i)]⟩
def C__law_mixed (K : PySem.W.Frag) : Ct := fun ds Q E => ∃ a b : Int, ds = [.int a, .int b] ∧ 0 ≤ a ∧ a < 2 ^ 32 ∧ 0 ≤ b ∧ b < 2 ^ 32 ∧ ∀ r : Int, 0 ≤ r → r < 2 ^ 32 → Q (.int r)
def C__law_whole (K : PySem.W.Frag) : Ct := fun ds Q E => ∃ x, ds = [x] ∧ x.tyn.isSome = true ∧ Q (.bl (isWh x .non .non))
theorem ar__law_whole (K : PySem.W.Frag) : Ar 1 (C__law_whole K) := fun _ _ _ ⟨_, e, _⟩ => by rw [e]; rfl
end Dl

namespace Dl
open PySem PySem.Spec PyProof.Rows L2
section
variable {X : Cx} {g : Gx} {c a b : Expr} {t : TTD} {ta tb : TFD} {pos : Pos}
end
end Dl

namespace Dl
open PySem PySem.Spec PyProof.Rows L2
structure HandAt (hd c : Addr) (cs : List Int) (at_ held tot : Int) (H : Hp) : Prop where
  h : H hd = some (.lst [.ref c, .int at_, .int held, .int tot])
  c : H c = some (.lst (cs.map V.int))
  len : cs.length ≤ 63
  pos : ∀ x ∈ cs, 0 ≤ x
  a0 : 0 ≤ at_
  a1 : at_ ≤ 63
  h0 : 0 ≤ held
  t0 : 0 ≤ tot
  t1 : tot < 2 ^ 32
def handI (hd c : Addr) : HI where
  own := fun a => a = hd
  foot := fun a => a = hd ∨ a = c
  ok := fun H => ∃ cs at_ held tot, HandAt hd c cs at_ held tot H
  sub := fun a h => .inl h
  dom := fun H a ⟨cs, at_, held, tot, h⟩ f z => by
    rcases f with rfl | rfl
    · have := h.h; rw [z] at this; cases this
    · have := h.c; rw [z] at this; cases this
  loc := fun H H' e ⟨cs, at_, held, tot, h⟩ => ⟨cs, at_, held, tot, ⟨by rw [e _ (.inl rfl)]; exact h.h, by rw [e _ (.inr rfl)]; exact h.c, h.len, h.pos, h.a0, h.a1, h.h0, h.t0, h.t1⟩⟩
def C__law_take (hd : Addr) : Ct := fun ds Q _ => ∃ m : Int, ds = [.ref hd, .int m] ∧ 0 < m ∧ m < 2 ^ 200 ∧ ∀ r : Int, 0 ≤ r → r < m → Q (.int r)
theorem ar__law_take (hd : Addr) : Ar 2 (C__law_take hd) := fun _ _ _ ⟨_, e, _⟩ => by rw [e]; rfl
theorem kp_mut {hd c : Addr} {H : Hp} {o : HO} : Kp (handI hd c).own H (upd H hd o) := Kp.mut (Av := (handI hd c).own) (show hd = hd from rfl)
theorem it_t {b : Bool} {p q : Prop} (h : b = true) (k : p) : if b = true then p else q := by rw [if_pos h]; exact k
theorem it_f {b : Bool} {p q : Prop} (h : b = false) (k : q) : if b = true then p else q := by rw [if_neg (by rw [h]; decide)]; exact k
section
variable {K : PySem.W.Frag} {σ : L2.St} {H : Hp} {Q : VK}
theorem v_ix {i : Nat} {k : Int} {hd : Addr} {xs : List V} {v : V} (e : σ[i]? = some (some (.ref hd))) (h : H hd = some (.lst xs)) (a : atI xs k = some v) (q : Q v H) : tOp (rIxL K) (tVar i) (tC (.int k)) σ H Q := ⟨_, e, hd, xs, k, v, rfl, rfl, SqL.of h, a, q⟩
theorem v_set {i : Nat} {k : Int} {j : Nat} {hd : Addr} {xs : List V} {v : V} {Q : L2.St → Hp → Prop} (e : σ[i]? = some (some (.ref hd))) (h : H hd = some (.lst xs)) (a : ixN xs.length k = some j) (q : Q σ (upd H hd (.lst (xs.set j v)))) : gSub (tVar i) (tC (.int k)) rSetL v σ H Q := ⟨_, e, hd, xs, k, j, rfl, rfl, h, a, q⟩
theorem seq_of {t u : TS} {D : Ends} (P : L2.St → Hp → Prop) (hb : ∀ σ' H', P σ' H' → u D σ' H') (ha : (∀ σ' H', P σ' H' → u D σ' H') → t { D with nx := u D } σ H) : tSeq t u D σ H := ha hb
theorem HandAt.set {hd c : Addr} {cs : List Int} {a h t a' h' t' : Int} (Z : HandAt hd c cs a h t H) (hne : hd ≠ c) (q1 : 0 ≤ a') (q2 : a' ≤ 63) (q3 : 0 ≤ h') (q4 : 0 ≤ t') (q5 : t' < 2 ^ 32) : HandAt hd c cs a' h' t' (upd H hd (.lst [.ref c, .int a', .int h', .int t'])) :=
  ⟨upd_same, by rw [upd_ne (Ne.symm hne)]; exact Z.c, Z.len, Z.pos, q1, q2, q3, q4, q5⟩
theorem take_cell {cs : List Int} {at_ : Int} (h0 : 0 ≤ at_) (h1 : at_ < cs.length) : ∃ x, atI (cs.map V.int) at_ = some (.int x) ∧ x ∈ cs := by
  have hlt : at_.toNat < cs.length := by omega
  refine ⟨cs[at_.toNat], ?_, List.getElem_mem hlt⟩
  unfold atI ixN
  simp only [List.length_map]
  rw [if_pos (by omega)]
  rw [if_pos h1]
  simp [List.getElem?_eq_getElem hlt]
end
end Dl

namespace Dl
open PySem PySem.Spec PyProof.Rows L2
end Dl

namespace Dl
open PySem PySem.Spec PyProof.Rows L2
theorem tm_bool : ("bool" ∈ tyNames) = True := by simp [tyNames]
theorem tm_int : ("int" ∈ tyNames) = True := by simp [tyNames]
theorem forD_of {gd : TGD} {tb : TSD} {Dd : DEnds} (Inv : List D → List D → DEnv → Prop) (end_ : ∀ done env, Inv done [] env → Dd.nx env)
    (step : ∀ done x rest env, Inv done (x :: rest) env → (∀ env', Inv (done ++ [x]) rest env' → forD gd tb Dd rest env') → gd x env (tb { Dd with nx := forD gd tb Dd rest, ct := forD gd tb Dd rest, bk := Dd.nx })) :
    ∀ rest done env, Inv done rest env → forD gd tb Dd rest env
  | [], done, env, h => end_ done env h
  | x :: rest, done, env, h => step done x rest env h fun env' h' => forD_of Inv end_ step rest (done ++ [x]) env' h'
theorem lcD_map {gd : TGD} {tt : TTD} {te : TED} {env : DEnv} {Q : List D → Prop} (f : D → D) (p : D → Bool) : ∀ (xs acc : List D),
    (∀ x ∈ xs, ∀ (R : Option D → Prop), R (if p x = true then some (f x) else none) → gd x env fun env2 => tt env2 fun b => if b = true then te env2 fun y => y.noLst = true ∧ R (some y) else R none) →
    Q (acc ++ (xs.filter p).map f) → lcD gd tt te env xs acc Q
  | [], acc, _, q => by
    show Q acc
    simpa using q
  | x :: xs, acc, h, q => by
    show gd x env fun env2 => tt env2 fun b => if b = true then te env2 fun y => y.noLst = true ∧ lcD gd tt te env xs (acc ++ [y]) Q else lcD gd tt te env xs acc Q
    refine h x List.mem_cons_self (fun o => match o with | some y => lcD gd tt te env xs (acc ++ [y]) Q | none => lcD gd tt te env xs acc Q) ?_
    cases e : p x with
    | true =>
      rw [if_pos rfl]
      exact lcD_map f p xs (acc ++ [f x]) (fun y hy => h y (List.mem_cons_of_mem _ hy)) (by simpa [List.filter_cons, e] using q)
    | false =>
      rw [if_neg (by decide)]
      exact lcD_map f p xs acc (fun y hy => h y (List.mem_cons_of_mem _ hy)) (by simpa [List.filter_cons, e] using q)
theorem fstBad_cons {bad : List D → D → Bool} {pre : List D} {d : D} {ds : List D} : fstBad bad pre (d :: ds) = if bad pre d = true then some pre.length else fstBad bad (pre ++ [d]) ds := rfl
theorem enum_loop {i j : Nat} {tb : TSD} {Dd : DEnds} {xs : List D} (bad : List D → D → Bool) (P : DEnv → Prop)
    (hbad : ∀ pre d suf env nx, xs = pre ++ d :: suf → P env → fstBad bad [] xs = some pre.length → bad pre d = true → tb { Dd with nx := nx, ct := nx, bk := Dd.nx } ((env.set i (.val (.int pre.length))).set j (.val d)))
    (hgood : ∀ pre d suf env nx, xs = pre ++ d :: suf → P env → bad pre d = false → (∀ env', P env' → nx env') → tb { Dd with nx := nx, ct := nx, bk := Dd.nx } ((env.set i (.val (.int pre.length))).set j (.val d)))
    (hend : ∀ env, fstBad bad [] xs = none → P env → Dd.nx env) : ∀ (suf pre : List D) (env : DEnv), xs = pre ++ suf → fstBad bad [] xs = fstBad bad pre suf → P env → forD (gdTup [i, j]) tb Dd (enumD pre.length suf) env
  | [], pre, env, e, h, p => hend env h p
  | d :: suf, pre, env, e, h, p => by
    refine ⟨_, rfl, rfl, ?_⟩
    show tb _ ((env.set i (.val (.int pre.length))).set j (.val d))
    rw [fstBad_cons] at h
    cases hb : bad pre d with
    | true =>
      rw [hb, if_pos rfl] at h
      exact hbad pre d suf env _ e p h hb
    | false =>
      rw [hb, if_neg (by decide)] at h
      refine hgood pre d suf env _ e p hb fun env' p' => ?_
      have := enum_loop bad P hbad hgood hend suf (pre ++ [d]) env' (by rw [e]; simp) h p'
      rw [List.length_append] at this
      exact this
def sel (p : List D → D → Bool) (f : List D → D → D) : List D → List D → List D
  | _, [] => []
  | pre, d :: ds => if p pre d = true then f pre d :: sel p f (pre ++ [d]) ds else sel p f (pre ++ [d]) ds
theorem enum_lc {i j : Nat} {tt : TTD} {te : TED} {env : DEnv} {Q : List D → Prop} {xs : List D} (p : List D → D → Bool) (f : List D → D → D)
    (h : ∀ pre d suf (R : Option D → Prop), xs = pre ++ d :: suf → R (if p pre d = true then some (f pre d) else none) → tt ((env.set i (.val (.int pre.length))).set j (.val d)) fun b => if b = true then te ((env.set i (.val (.int pre.length))).set j (.val d)) fun y => y.noLst = true ∧ R (some y) else R none) :
    ∀ suf pre acc, xs = pre ++ suf → Q (acc ++ sel p f pre suf) → lcD (gdTup [i, j]) tt te env (enumD pre.length suf) acc Q
  | [], pre, acc, e, q => by
    show Q acc
    simpa [sel] using q
  | d :: suf, pre, acc, e, q => by
    refine ⟨_, rfl, rfl, ?_⟩
    show tt ((env.set i (.val (.int pre.length))).set j (.val d)) fun b => if b = true then te ((env.set i (.val (.int pre.length))).set j (.val d)) fun y => y.noLst = true ∧ lcD (gdTup [i, j]) tt te env (enumD (pre.length + 1) suf) (acc ++ [y]) Q else lcD (gdTup [i, j]) tt te env (enumD (pre.length + 1) suf) acc Q
    refine h pre d suf (fun o => match o with | some y => lcD (gdTup [i, j]) tt te env (enumD (pre.length + 1) suf) (acc ++ [y]) Q | none => lcD (gdTup [i, j]) tt te env (enumD (pre.length + 1) suf) acc Q) e ?_
    have hl : pre.length + 1 = (pre ++ [d]).length := by simp
    rw [hl]
    cases hp : p pre d with
    | true =>
      rw [if_pos rfl]
      exact enum_lc p f h suf (pre ++ [d]) (acc ++ [f pre d]) (by rw [e]; simp) (by simpa [sel, hp] using q)
    | false =>
      rw [if_neg (by decide)]
      exact enum_lc p f h suf (pre ++ [d]) acc (by rw [e]; simp) (by simpa [sel, hp] using q)
theorem cutL_pre {α : Type} {pre suf : List α} : cutL (pre ++ suf) none (some (pre.length : Int)) = pre := by
  unfold cutL
  rw [HT.sIx_none, HT.sIx_nat]
  simp
theorem goodA_mem : ∀ {xs : List D} {x : D}, goodA xs = true → x ∈ xs → x.good = true
  | y :: ys, x, h, m => by
    simp only [goodA, Bool.and_eq_true] at h
    rcases List.mem_cons.mp m with rfl | m
    · exact h.1
    · exact goodA_mem h.2 m
theorem depA_mem : ∀ {xs : List D} {x : D}, x ∈ xs → x.dep ≤ depA xs
  | y :: ys, x, m => by
    simp only [depA]
    rcases List.mem_cons.mp m with rfl | m
    · exact Nat.le_max_left _ _
    · exact Nat.le_trans (depA_mem m) (Nat.le_max_right _ _)
theorem goodA_of : ∀ {xs : List D}, (∀ x ∈ xs, x.good = true) → goodA xs = true
  | [], _ => rfl
  | y :: ys, h => by
    simp only [goodA, Bool.and_eq_true]
    exact ⟨h y List.mem_cons_self, goodA_of fun x m => h x (List.mem_cons_of_mem _ m)⟩
theorem depA_of {n : Nat} : ∀ {xs : List D}, (∀ x ∈ xs, x.dep ≤ n) → depA xs ≤ n
  | [], _ => Nat.zero_le _
  | y :: ys, h => by
    simp only [depA]
    exact Nat.max_le.mpr ⟨h y List.mem_cons_self, depA_of fun x m => h x (List.mem_cons_of_mem _ m)⟩
def okI (d : D) : Prop := d.good = true ∧ d.dep ≤ 50
theorem okI.ok {d : D} (h : okI d) : okD d := ⟨h.1, by have := h.2; omega⟩
theorem okI_int {i : Int} : okI (.int i) := ⟨by simp only [D.good], by simp only [D.dep]; omega⟩
theorem okD_lst {xs : List D} (h : ∀ x ∈ xs, okI x) : okD (.lst xs) := ⟨by simp only [D.good]; exact goodA_of fun x m => (h x m).1, by
  simp only [D.dep]
  have := depA_of fun x m => (h x m).2
  omega⟩
theorem okD_mem {xs : List D} {x : D} (h : okD (.lst xs)) (m : x ∈ xs) : okD x := ⟨goodA_mem (by simpa only [D.good] using h.1) m, by
  have h2 := h.2
  simp only [D.dep] at h2
  have := depA_mem m
  omega⟩
theorem okD_sub {xs ys : List D} (h : okD (.lst xs)) (s : ∀ y ∈ ys, y ∈ xs) : okD (.lst ys) := ⟨by
    have := h.1
    simp only [D.good] at this ⊢
    exact goodA_of fun y m => goodA_mem this (s y m), by
  have h2 := h.2
  simp only [D.dep] at h2 ⊢
  have := depA_of (n := depA xs) fun y m => depA_mem (s y m)
  omega⟩
theorem okD_tl {xs : List D} (h : okD (.lst xs)) : okD (.tup xs) := by
  refine ⟨?_, ?_⟩
  · have := h.1; simp only [D.good] at this ⊢; exact this
  · have := h.2; simp only [D.dep] at this ⊢; exact this
theorem noLst_of : ∀ {xs : List D}, (∀ x ∈ xs, x.noLst = true) → noLstA xs = true
  | [], _ => rfl
  | y :: ys, h => by
    simp only [noLstA, Bool.and_eq_true]
    exact ⟨h y List.mem_cons_self, noLst_of fun x m => h x (List.mem_cons_of_mem _ m)⟩
theorem mulW {i j : Int} (h1 : i.natAbs < 2 ^ 1000) (h2 : j.natAbs < 2 ^ 1000) : CMulW i j := by
  unfold CMulW
  have f : ∀ n : Nat, n < 2 ^ 1000 → n.log2 < 1000 := fun n h => by
    by_cases e : n = 0
    · subst e; decide
    · exact (Nat.log2_lt e).mpr h
  have := f _ h1
  have := f _ h2
  omega
theorem big_abs {i : Int} (h0 : 0 ≤ i) (h : i < 2 ^ 250) : i.natAbs < 2 ^ 1000 := by
  have h1 : i.natAbs < 2 ^ 250 := by omega
  exact Nat.lt_of_lt_of_le h1 (Nat.pow_le_pow_right (by decide) (by decide))
theorem sl_tup {xs : List D} {lo hi : Option Int} {Q : D → Prop} (h : Q (.tup (cutL xs lo hi))) : fSl (.tup xs) lo hi Q := h
theorem sl_lst {xs : List D} {lo hi : Option Int} {Q : D → Prop} (h : Q (.lst (cutL xs lo hi))) : fSl (.lst xs) lo hi Q := h
theorem in_tup {neg : Bool} {ys : List D} {x : D} {Q : D → Prop} (h1 : okD x) (h2 : okD (.tup ys)) (h : Q (.bl (xr neg (anyD ys x)))) : fIn neg x (.tup ys) Q := ⟨h1, h2, h⟩
theorem in_lst {neg : Bool} {ys : List D} {x : D} {Q : D → Prop} (h1 : okD x) (h2 : okD (.lst ys)) (h : Q (.bl (xr neg (anyD ys x)))) : fIn neg x (.lst ys) Q := ⟨h1, h2, h⟩
theorem eqD_int {i j : Int} : eqD (.int i) (.int j) = decide (i = j) := by
  unfold eqD
  simp only [D.py]
  show (i == j) = decide (i = j)
  by_cases h : i = j
  · rw [decide_eq_true h]; simpa using h
  · rw [decide_eq_false h]; simpa using h
theorem len_tup {ys : List D} {Q : D → Prop} (h : Q (.int ys.length)) : bLen [.tup ys] Q := ⟨_, rfl, h⟩
theorem len_lst {ys : List D} {Q : D → Prop} (h : Q (.int ys.length)) : bLen [.lst ys] Q := ⟨_, rfl, h⟩
theorem len_seq {x : D} {ys : List D} {Q : D → Prop} (e : seqOf x = some ys) (h : Q (.int ys.length)) : bLen [x] Q := by
  cases x <;> simp only [seqOf, Option.some.injEq, reduceCtorEq] at e <;> subst e
  · exact len_tup h
  · exact len_lst h
theorem mem_lt : ∀ n ∈ ["list", "tuple"], n ∈ tyNames := by simp [tyNames]
theorem seq_cases {x : D} {xs : List D} (h : seqOf x = some xs) : x = .tup xs ∨ x = .lst xs := by
  cases x <;> simp only [seqOf, Option.some.injEq, reduceCtorEq] at h <;> subst h <;> simp
theorem one_sz : 0 + 1 + 1 ≤ sizeLine := by decide
theorem isSeq_iff {x : D} {t : String} (h : x.tyn = some t) : (["list", "tuple"].any fun n => isiB t n) = (seqOf x).isSome := by
  cases x <;> simp only [D.tyn, Option.some.injEq, reduceCtorEq] at h <;> subst h <;> simp [isiB, seqOf]
theorem seqD {t u : TSD} {Dd : DEnds} {env : DEnv} (P : DEnv → Prop) (hb : ∀ env', P env' → u Dd env') (ha : (∀ env', P env' → u Dd env') → t { Dd with nx := u Dd } env) : sSeq t u Dd env := ha hb
theorem lcD_draw {i : Nat} {te : TED} {env : DEnv} {Q : List D → Prop} (P : D → Prop) (hP : ∀ y, P y → y.noLst = true) : ∀ (xs acc : List D), (∀ x ∈ xs, ∀ R : D → Prop, (∀ y, P y → R y) → te (env.set i (.val x)) R) →
    (∀ ys : List D, ys.length = xs.length → (∀ y ∈ ys, P y) → Q (acc ++ ys)) → lcD (gdName i) dYes te env xs acc Q
  | [], acc, _, q => by
    have := q [] rfl fun y m => by cases m
    rw [List.append_nil] at this
    exact this
  | x :: xs, acc, h, q => by
    show if true = true then te (env.set i (.val x)) (fun y => y.noLst = true ∧ lcD (gdName i) dYes te env xs (acc ++ [y]) Q) else lcD (gdName i) dYes te env xs acc Q
    rw [if_pos rfl]
    refine h x List.mem_cons_self _ fun y hy => ⟨hP y hy, lcD_draw P hP xs (acc ++ [y]) (fun z m => h z (List.mem_cons_of_mem _ m)) fun ys hl hys => ?_⟩
    have := q (y :: ys) (by rw [List.length_cons, List.length_cons, hl]) fun z m => by
      rcases List.mem_cons.mp m with rfl | m
      · exact hy
      · exact hys z m
    rw [List.append_assoc]
    exact this
theorem rngD_cons {lo : Int} {n : Nat} : rngD lo (n + 1) = .int lo :: rngD (lo + 1) n := by
  unfold rngD
  rw [List.range_succ_eq_map, List.map_cons, List.map_map]
  congr 1
  · simp
  · apply List.map_congr_left
    intro a _
    show D.int (lo + ((a + 1 : Nat) : Int)) = D.int (lo + 1 + (a : Int))
    congr 1
    omega
theorem eqD_refl {d : D} (h : d.good = true) : eqD d d = true := SeqAt.eqv_refl d.py (py_can d h)
end Dl

namespace Dl
open PySem PySem.Spec PyProof.Rows L2
abbrev scrD (ds : List D) : D := .obj .scr (ds.map fun _ => "") ds
theorem scr_sq {K : PySem.W.Frag} {Av : Addr → Prop} {H : Hp} {v : V} {ns : List Str} {ds : List D} (h : Den K Av H v (.obj .scr ns ds)) : ∃ a ws, v = .ref a ∧ SqL K H a ws ∧ DenA K Av H ws ds := by
  simp only [Den] at h
  obtain ⟨ws, _, ⟨a, e, h⟩, dn⟩ := h
  refine ⟨a, ws, e, ?_, dn⟩
  rcases h with ⟨_, o, h⟩ | h
  · exact .inl (.inr ⟨o, h⟩)
  · exact h H
def bLenS : FC := fun xs Q => ∃ ns ds, xs = [.obj .scr ns ds] ∧ Q (.int ds.length)
theorem c_lenS {X : Cx} {I : HI} : RC X I (.builtin "len") bLenS := fun H xs ds Qd Q ok dn ⟨ns, es, e, h⟩ k => by
  subst e
  obtain ⟨v, rfl, d1⟩ := dn.one1
  obtain ⟨a, ws, rfl, sq, dn'⟩ := scr_sq d1
  rw [← dn'.len] at h
  exact rc_of call_len ⟨_, ws.length, rfl, .inl ⟨ws, sq, rfl⟩, k _ _ H (.refl ok) (by simp only [Den]) h⟩
theorem itd_scr {K : PySem.W.Frag} {a : Addr} {ns : List Str} {ds : List D} : ItD K (Itl K a) [(.ref a, .obj .scr ns ds)] ds := fun Av H hw _ => by
  obtain ⟨a', ws, e, sq, dn⟩ := scr_sq (hw _ List.mem_cons_self)
  cases e
  refine ⟨fun i hi => ?_, ws, sq, by rw [dn.len]; exact Nat.le_refl _⟩
  obtain ⟨v, q1, q2⟩ := dn.get (List.getElem?_eq_getElem hi)
  refine ⟨⟨ws, v, sq, q1⟩, fun x H' ⟨e, y⟩ => ?_⟩
  subst e
  have := y ws sq
  rw [q1] at this
  cases this
  exact ⟨Kp.refl, _, List.getElem?_eq_getElem hi, q2⟩
def idVarS (i : Nat) : TID := fun env Q => ∃ ns ds, env[i]? = some (.val (.obj .scr ns ds)) ∧ Q ds
theorem di_varS {X : Cx} {g : Gx} {tg : Expr} {p : Pos} (i : Nat) {x : Str} (hN : X.N[i]? = some x := by rfl) (hv : Vis X.env.scope x := by first | exact Or.inl rfl | exact Or.inr (Or.inl rfl) | exact Or.inr (Or.inr rfl)) (hd : (x == ("__debug__" : Str)) = false := by decide)
    (hcd : (x == ("__classdict__" : Str)) = false := by decide) : PID X g tg (.Name x p) (idVarS i) := pid_of (pi_seq (pe_var hN hv hd hcd)) fun b σ H env Qd R hd xl ⟨ns, ds, e, q⟩ k => by
  obtain ⟨oa, h1, h2, h3, h4⟩ := hd.slots
  obtain ⟨v, q1, q2⟩ := h3 i _ e
  obtain ⟨a, ws, rfl, sq, dn⟩ := scr_sq q2
  refine ⟨_, q1, .inl ⟨a, rfl, ⟨ws, sq⟩, k _ H [(.ref a, .obj .scr ns ds)] ds ⟨hd.len, hd.ext, oa, h1, h2, h3, fun p hp => ?_⟩ (.refl hd.ok) itd_scr q⟩⟩
  rcases List.mem_append.mp hp with z | z
  · rw [List.mem_singleton.mp z]; exact q2
  · exact h4 p z
def C_hand (K : PySem.W.Frag) : Ct := fun ds Q _ => ∃ (nm : List Str) (ns : List Int), ds = [.obj .scr nm (ns.map D.int)] ∧ ns.length ≤ 63 ∧ ∀ (cs : List Int) (t : Int), cs.length ≤ 63 → (∀ c ∈ cs, 0 ≤ c) → 0 ≤ t → t < 2 ^ 32 → Q (.lst [.lst (cs.map D.int), .int 0, .int 0, .int t])
def spLaw (K : PySem.W.Frag) : Sp := fun vs H Q _ => ∃ (a : Addr) (ns : List Int), vs = [.ref a] ∧ ns.length ≤ 63 ∧ Only H ∧ SqL K H a (ns.map V.int) ∧ ∀ H', Q (.bl true) H'
theorem hand_at {K : PySem.W.Frag} {H : Hp} {v : V} {cs : List Int} {t : Int} (h : Den K (fun _ => False) H v (.lst [.lst (cs.map D.int), .int 0, .int 0, .int t])) (hl : cs.length ≤ 63) (hp : ∀ c ∈ cs, 0 ≤ c) (t0 : 0 ≤ t) (t1 : t < 2 ^ 32) :
    ∃ hd c, v = .ref hd ∧ hd ≠ c ∧ HandAt hd c cs 0 0 t H := by
  simp only [Den] at h
  obtain ⟨hd, vs, rfl, hh, _, dn⟩ := h
  obtain ⟨v1, r1, rfl, d1, dn⟩ := dn.cons
  obtain ⟨v2, r2, rfl, d2, dn⟩ := dn.cons
  obtain ⟨v3, r3, rfl, d3, dn⟩ := dn.cons
  obtain ⟨v4, rfl, d4⟩ := dn.one1
  simp only [Den] at d1 d2 d3 d4
  subst d2 d3 d4
  obtain ⟨c, ws, rfl, hc, _, dw⟩ := d1
  have e := dw.ofInts
  subst e
  refine ⟨hd, c, rfl, fun z => ?_, hh, hc, hl, hp, Int.le_refl 0, by decide, Int.le_refl 0, t0, t1⟩
  subst z
  rw [hc] at hh
  have hh := HO.lst.inj (Option.some.inj hh)
  cases cs with
  | nil => cases hh
  | cons x xs => cases hh
theorem scr_den {K : PySem.W.Frag} {H : Hp} {a : Addr} {ns : List Int} (o : Only H) (h : SqL K H a (ns.map V.int)) : Den K (fun _ => False) H (.ref a) (scrD (ns.map D.int)) := by
  simp only [Den]
  refine ⟨ns.map V.int, by simp, ⟨a, rfl, ?_⟩, DenA.ints⟩
  rcases h with (h | ⟨u, h⟩) | h
  · rcases o a with z | ⟨u, xs, z⟩
    · rw [z] at h; cases h
    · rw [z] at h; cases h
  · exact .inl ⟨id, u, h⟩
  · exact .inr fun G => .inr h
theorem law_run {X : Cx} {rest : List Stmt} {td : Addr → TSD} {Q : VK} {H : Hp} {a : Addr} {ns : List Int} {σ : L2.St} {n : Nat} {W : WX}
    (hσ : σ = some (.ref a) :: none :: List.replicate n none)
    (hrest : ∀ hd c, hd ≠ c → PSsD X ⟨handI hd c, fun _ _ => False, W⟩ rest (td hd))
    (hC : ∀ hd, td hd ⟨fun _ => False, fun d => d = .bl true, fun _ => False, fun _ => False⟩ (.val (scrD (ns.map D.int)) :: .val (.ref hd) :: List.replicate n .no))
    (hl : ns.length ≤ 63) (o : Only H) (sq : SqL X.K H a (ns.map V.int)) (hQ : ∀ H', Q (.bl true) H') :
    tSeq (tAsg (tCall (spOf X.K HI.plain 1 (C_hand X.K)) [] E0 (tCons (tVar 0) tNil)) (gName 1)) (wSs X rest) { nx := fun _ H' => Q .non H', rt := Q } σ H := by
  subst hσ
  have ds := scr_den o sq
  refine ⟨_, rfl, [scrD (ns.map D.int)], fun d => ∃ (cs : List Int) (t : Int), cs.length ≤ 63 ∧ (∀ c ∈ cs, 0 ≤ c) ∧ 0 ≤ t ∧ t < 2 ^ 32 ∧ d = .lst [.lst (cs.map D.int), .int 0, .int 0, .int t], fun _ => False, rfl, .one ds, trivial, ⟨_, ns, rfl, hl, fun cs t h1 h2 h3 h4 => ⟨cs, t, h1, h2, h3, h4, rfl⟩⟩, fun v d H1 e1 dn ⟨cs, t, h1, h2, h3, h4, ed⟩ => ?_, fun _ _ _ _ _ z => z.elim⟩
  subst ed
  obtain ⟨hd, c, rfl, hne, Z⟩ := hand_at dn h1 h2 h3 h4
  have kp : Kp (fun _ => False) H H1 := e1.1
  have ok1 : (handI hd c).ok H1 := ⟨_, _, _, _, Z⟩
  have hd0 : DenE X.K (handI hd c) ⟨H1, []⟩ (some (.ref a) :: some (.ref hd) :: List.replicate n none) H1 (.val (scrD (ns.map D.int)) :: .val (.ref hd) :: List.replicate n .no) := by
    refine ⟨by simp, .refl ok1, fun _ => 0, fun i xs e => ?_, fun i j xs ys e => ?_, fun i d e => ?_, fun p hp => by cases hp⟩
    · match i, e with
      | 0, e => cases e
      | 1, e => cases e
      | i + 2, e =>
        simp only [List.getElem?_cons_succ, List.getElem?_replicate] at e
        split at e <;> cases e
    · match i, e with
      | 0, e => cases e
      | 1, e => cases e
      | i + 2, e =>
        simp only [List.getElem?_cons_succ, List.getElem?_replicate] at e
        split at e <;> cases e
    · match i, e with
      | 0, e =>
        cases e
        refine ⟨.ref a, rfl, ?_⟩
        have d1 : Den X.K (fun _ => False) H1 (.ref a) (scrD (ns.map D.int)) := Den.keep kp _ _ ds
        simp only [Den] at d1 ⊢
        obtain ⟨ws, hw, ⟨b, eb, hb⟩, dw⟩ := d1
        cases eb
        have ew := dw.ofInts
        subst ew
        refine ⟨_, hw, ⟨a, rfl, hb.imp (fun ⟨_, u, hu⟩ => ⟨fun z => ?_, u, hu⟩) id⟩, DenA.ints⟩
        rcases z with z | ⟨i, xs, e, _⟩
        · have z : a = hd := z
          rw [z, Z.h] at hu
          cases hu
        · match i, e with
          | 0, e => cases e
          | 1, e => cases e
          | i + 2, e =>
            simp only [List.getElem?_cons_succ, List.getElem?_replicate] at e
            split at e <;> cases e
      | 1, e =>
        cases e
        exact ⟨.ref hd, rfl, by simp only [Den]⟩
      | i + 2, e =>
        simp only [List.getElem?_cons_succ, List.getElem?_replicate] at e
        split at e <;> cases e
  refine hrest hd c hne ⟨H1, []⟩ _ H1 _ _ _ hd0 (fun _ _ _ _ _ _ _ _ _ z => z.elim) (hC hd) ⟨fun _ _ _ _ z => z.elim, fun v d H2 e2 dn2 ed => ?_, fun _ _ _ _ z => z.elim, fun _ _ _ _ z => z.elim⟩
  subst ed
  simp only [Den] at dn2
  subst dn2
  exact hQ H2
theorem law_cx0 {P : Program} {w : World} {K : PySem.W.Frag} {mg : Str → Option Value} {base : Heap} {k : Nat} {f : Addr} {fd : FuncData} {ps : List Str} (F : FnOk P w K mg base (L2.CX P w) k f fd ps (spLaw K)) : FnOk P w K mg base CX0 k f fd ps (spLaw K) :=
  ⟨F.len, fun A outer s H args us vs Q E hr he hb hv hs => codeAny_mono (F.run A outer s H args us vs Q E0 hr he hb hv hs) fun r s' h => by
    cases r with
    | error e =>
      have h : L2.CX P w outer H s E0 e s' := h
      obtain ⟨_, _, _, _, _, _, _, _, _, _, _, _, z⟩ := h
      exact z.elim
    | ok fl => cases fl <;> exact h⟩
end Dl

namespace Dl
open PySem PySem.Spec PyProof.Rows L2
def sAsgG (td : TED) (gd : TGD) : TSD := fun Dd env => td env fun d => (noOwn env = true ∨ d.noLst = true) ∧ gd d env Dd.nx
section
variable {X : Cx} {g : Gx} {e tg : Expr} {td : TED} {gd : TGD} {pos : Pos} {I : HI}
theorem ds_asgG (he : PED X g e td) (hg : PGD X g tg gd) (hs : swapsWithSole [tg] e pos.line X.env = pure false := by rfl) (hw : swappedStores [tg] e X.env = pure none := by rfl)
    (h1 : (assignEach [tg] X.env).map (·.2) = [assign tg X.env] := by rfl) : PSD X g (.Assign [tg] e pos) (sAsgG td gd) :=
  psd_of (ps_asg pe_w pg_w hs hw h1) fun b σ H env Dd E hd xl h el => he b σ H env _ _ hd xl h fun v d H1 e1 dn ⟨kp, q⟩ =>
    hg b σ H1 env v d _ _ ((hd.mono e1).hold dn kp) q fun σ' H' env' hd' e' q' => el.nx σ' H' env' hd' q'
def bMin2 : FC := fun xs Q => ∃ i j : Int, xs = [.int i, .int j] ∧ Q (.int (if j < i then j else i))
theorem c_min2 (hc : X.calm = true) : RC X I (.builtin "min") bMin2 := fun H xs ds Qd Q ok dn ⟨i, j, e, h⟩ k => by
  subst e
  obtain ⟨v, r, rfl, d1, d2⟩ := dn.cons
  obtain ⟨w, rfl, d3⟩ := d2.one1
  simp only [Den] at d1 d3
  subst d1 d3
  exact rc_of (call_min2 hc) ⟨i, j, rfl, k _ _ H (.refl ok) (by simp only [Den]) h⟩
end
end Dl

namespace Dl
open PySem PySem.Spec PyProof.Rows L2
section
variable {X : Cx} {x : Str} {e : Expr} {es : List Expr} {ta : L2.TA} {p pos : Pos}
end
section
variable {X : Cx} {pins : List (Addr × Obj)} {σ : L2.St} {H : Hp} {s : Shared} {Av : Addr → Prop}
end
section
variable {X : Cx} {I : HI} {g : Gx} {e : Expr} {te : TED} {pos p : Pos} {n y : Str}
end
end Dl

namespace Dl
open PySem PySem.Spec PyProof.Rows L2 He
structure Er0 (K : PySem.W.Frag) (mg : Str → Option Value) (x : Str) : Prop where
  q : PySem.W.excIn K (ga K x) [.type "ValueError", .type "Exception", .type "BaseException", .type "object"] "ValueError.__new__" = true
  k : PySem.W.keepIn K (.ref (ga K x)) = true
  m : mg x = some (.ref (ga K x))
def er0B (K : PySem.W.Frag) (x : Str) : Bool := PySem.W.excIn K (ga K x) [.type "ValueError", .type "Exception", .type "BaseException", .type "object"] "ValueError.__new__" && PySem.W.keepIn K (.ref (ga K x))
section
variable {X : Cx} {g : Gx} {e e2 : Expr} {td t1 t2 : TED} {pos p : Pos} {x fl f1 f2 : Str} {j : Nat}
end
end Dl

namespace Dl
open PySem PySem.Spec PyProof.Rows L2
section
variable {P : Program} {w : World} {K : PySem.W.Frag} {mg : Str → Option Value} {base : Heap} {x qual : Str} {params : Arguments} {body : List Stmt} {scope : Scope} {dvs : List V} {kws : List (Str × V)} {f : Addr} {fd : FuncData} {CX : CXT} {N ps : List Str} {sp : Sp} {A : Around} {k : Nat}
end
section
variable {P : Program} {w : World} {K : PySem.W.Frag} {mg mb : Str → Option Value} {fa a : Addr} {s₁ : Shared} {vs : List Value} {ns : List Int}
end
end Dl

namespace Ns
open PySem PySem.Spec PyProof.Rows L2
abbrev Key := NestedKey
section
variable {h h' : Heap} {k : Key} {b : Addr}
end
section
variable {P : Program} {w : World} {A : Around} {E : Value → Shared → Prop} {s : Shared}
end
end Ns

namespace Ns
open PySem PySem.Spec PyProof.Rows L2
section
variable {P : Program} {w : World} {A : Around} {E : Value → Shared → Prop} {s : Shared} {a : Addr} {L : List (Addr × Key)} {es : Array (Int × Value)} {ep : Nat} {t : SetTable}
end
end Ns

namespace Ns
open PySem PySem.Spec PyProof.Rows L2
section
variable {P : Program} {w : World} {A : Around} {E : Value → Shared → Prop} {s : Shared} {a : Addr} {L : List (Addr × Key)} {es : Array (Int × Value)} {ep : Nat} {t : SetTable}
end
end Ns

namespace Ns
open PySem PySem.Spec PyProof.Rows L2
section
variable {X : Cx} {O0 : Addr → HO} {Ad : Addr → V → Hp → (Hp → Prop) → Prop}
end
end Ns

namespace Ns
open PySem PySem.Spec PyProof.Rows L2
abbrev toks (x : PyData) : List (Int ⊕ List Nat) := PySem.W.keyToks x
open Classical in
noncomputable def datumOf (h : Heap) (ds : List PyData) (v : Value) : PyData := if q : ∃ d, d ∈ ds ∧ ∃ as, Reads h v d as then q.choose else .none
section
variable {P : Program} {w : World} {A : Around} {E : Value → Shared → Prop} {s : Shared}
end
end Ns

namespace Ns
open PySem PySem.Spec PyProof.Rows L2 Dl
mutual
def keyD : D → Key
  | .int i => .num i
  | .tup xs => .tup (keysD xs)
  | .non => .none | .bl _ => .none | .str _ => .none | .lst _ => .none | .ref _ => .none | .ty _ => .none | .obj _ _ _ => .none
def keysD : List D → List Key
  | [] => []
  | x :: xs => keyD x :: keysD xs
end
mutual
/-- None, a whole number, a tuple of such -/
def kok : D → Bool
  | .non => true | .int _ => true | .tup xs => kokA xs
  | .bl _ => false | .str _ => false | .lst _ => false | .ref _ => false | .ty _ => false | .obj _ _ _ => false
def kokA : List D → Bool
  | [] => true
  | x :: xs => kok x && kokA xs
end
section
variable {X : Cx} {pins : List (Addr × Obj)} {σ : L2.St} {H : Hp} {s : Shared} {Av : Addr → Prop}
end
abbrev kp (m : Addr × D) : Addr × Key := (m.1, keyD m.2)
section
variable {X : Cx}
end
end Ns

namespace Ns
open PySem PySem.Spec PyProof.Rows L2 Dl
abbrev TZD := DEnv → (List D → Prop) → Prop
mutual
/-- what holds a tuple is no set -/
theorem den_off {K : PySem.W.Frag} {Av : Addr → Prop} {H : Hp} {S : Addr} {o : HO} (hS : H S = some o) (no : ∀ xs, o ≠ .tup xs) : ∀ (d : D) (v : V), kok d = true → Den K Av H v d → Den K (fun a => Av a ∨ a = S) H v d
  | .non, v, _, h => by simpa only [Den] using h
  | .int i, v, _, h => by simpa only [Den] using h
  | .tup xs, v, k, h => by
    simp only [Den] at h ⊢
    obtain ⟨a, vs, e, sq, tp, dn⟩ := h
    refine ⟨a, vs, e, sq, tp.imp (fun x => ⟨fun z => z.elim x.1 fun e => ?_, x.2⟩) id, denA_off hS no xs vs (by simpa only [kok] using k) dn⟩
    have x2 := x.2
    rw [e, hS] at x2
    exact no vs (Option.some.inj x2)
  | .bl _, _, h, _ => by simp [kok] at h
  | .str _, _, h, _ => by simp [kok] at h
  | .lst _, _, h, _ => by simp [kok] at h
  | .ref _, _, h, _ => by simp [kok] at h
  | .ty _, _, h, _ => by simp [kok] at h
  | .obj _ _ _, _, h, _ => by simp [kok] at h
theorem denA_off {K : PySem.W.Frag} {Av : Addr → Prop} {H : Hp} {S : Addr} {o : HO} (hS : H S = some o) (no : ∀ xs, o ≠ .tup xs) : ∀ (ds : List D) (vs : List V), kokA ds = true → DenA K Av H vs ds → DenA K (fun a => Av a ∨ a = S) H vs ds
  | [], vs, _, h => by simpa only [DenA] using h
  | d :: ds, vs, k, h => by
    simp only [kokA, Bool.and_eq_true] at k
    simp only [DenA] at h ⊢
    obtain ⟨v, r, e, h1, h2⟩ := h
    exact ⟨v, r, e, den_off hS no d v k.1 h1, denA_off hS no ds r k.2 h2⟩
end
section
variable {X : Cx} {g : Gx} {wi : TI} {gt : TG} {tt : TT} {te : TE} {vs : List Nat} {tid : TID} {gd : TGD} {td : TTD} {ed : TED}
end
section
variable {X : Cx} {g : Gx} {elt tg iter : Expr} {ifs : List Expr} {scope : Scope} {own : List (Str × Nat)} {pos : Pos} {gt : TG} {tid : TID} {gd : TGD} {td : TTD} {ed : TED}
end
end Ns

namespace Ns
open PySem PySem.Spec PyProof.Rows L2 Dl
theorem ints_inj : ∀ {a b : List Int}, a.map D.int = b.map D.int → a = b
  | [], [], _ => rfl
  | [], _ :: _, h => by cases h
  | _ :: _, [], h => by cases h
  | x :: a, y :: b, h => by
    obtain ⟨h1, h2⟩ := List.cons.inj h
    rw [D.int.inj h1, ints_inj h2]
section
variable {X : Cx} {g : Gx} {e : Expr} {tas : TAD} {p pos : Pos}
end
section
variable {X : Cx} {Av : Addr → Prop}
end
section
variable {X : Cx} {g : Gx} {e : Expr} {tz : TZD} {p pos : Pos}
end
end Ns

namespace Ns
open PySem PySem.Spec PyProof.Rows L2 Dl HT
section
variable {prog : Program} {w : World} {A : Around} {E : Value → Shared → Prop} {s : Shared}
end
section
variable {X : Cx} {e st : Expr} {te ts : TE} {p2 pos : Pos}
end
end Ns

namespace Ns
open PySem PySem.Spec PyProof.Rows L2 Dl
section
variable {X : Cx} {g : Gx} {e c a b : Expr} {td ta tb : TED} {tf : TFD} {t : TTD} {pos : Pos} {sc : Scope}
end
section
variable {X : Cx} {g : Gx} {elt tg iter : Expr} {ifs : List Expr} {scope : Scope} {own : List (Str × Nat)} {pos : Pos} {gt : TG} {tid : TID} {gd : TGD} {td : TTD} {ed : TED}
end
end Ns

namespace Zs
open PySem PySem.Spec PyProof.Rows L2
abbrev born (w : World) : Obj := { cls := .type "set", dict := none, data := .set #[] 0 (.fresh 0 0 (!w.params.followText "set-order")) }
abbrev withS (w : World) (s : Shared) : Shared := { s with heap := s.heap.push (born w) }
section
variable {P : Program} {w : World} {A : Around} {E : Value → Shared → Prop} {s : Shared}
def Made (w : World) (s : Shared) (ns : List Int) (r : Value) (s2 : Shared) : Prop :=
  r = .none ∧ ∃ (h' : Heap) (tk c : Nat), s2 = { s with heap := h', toks := tk } ∧ SetR w h' s.heap.objs.size (fun j => decide (j ∈ ns)) c ∧ c ≤ ns.length ∧ ∀ b o, s.heap.get? b = some o → h'.get? b = some o
theorem init_list {A : Around} {l : Addr} {items : Array Value} {ns : List Int} (hh : A.handled = none) (hl : s.heap.IsList l items) (hit : IntsAre items.toList ns) (hb : ns.length + 1 < scanBound) :
    codeAny (model P w) A (.call (.builtin "set.__init__") ⟨[.ref s.heap.objs.size, .ref l], []⟩) (wants (Made w s ns) E) (withS w s) := by
  have size : items.size = ns.length := by
    have q := IntsAre.length hit
    rwa [Array.length_toList] at q
  have atS : (s.heap.push (born w)).get? s.heap.objs.size = some (born w) := Heap.get?_push_size _ rfl
  obtain ⟨⟨c0, d0, x0, sl0⟩, ho, hc, n, hd⟩ := hl
  simp only at hc hd
  subst hc hd
  have lt : l < s.heap.objs.size := Heap.lt_size ho
  have ho' : (s.heap.push (born w)).get? l = some { cls := .type "list", dict := d0, data := .seq items n, slots := sl0 } := Heap.get?_push_of_some _ ho
  have isl : (s.heap.push (born w)).IsList l items := ⟨_, ho', rfl, n, rfl⟩
  have h1 := F.sub_list_set
  have h2 := F.sub_list_frozenset
  have h3 : (Value.type "list" == Value.type "dict") = false := by decide
  refine codeAny_call_builtin F.called_set.init.plain F.entry_set_init (check_set_init_1 ⟨_, atS, rfl⟩ ?_)
  unfold Builtin.«set.__init__» noKeywords Builtin.Frozenset.updateFrom
  generalize hI : pyIter = PI
  wp_walk
  subst hI
  refine wpAny_pyIter_list isl (wpAny_bind (wpAny_runValue ?_))
  have sz : (s.heap.push (born w)).objs.size = s.heap.objs.size + 1 := Heap.size_push ..
  have ne1 : l ≠ (s.heap.push (born w)).objs.size := by rw [sz]; exact Nat.ne_of_lt (Nat.lt_succ_of_lt lt)
  have ne2 : s.heap.objs.size ∉ [(s.heap.push (born w)).objs.size, l] := by
    rw [sz]
    simp only [List.mem_cons, List.not_mem_nil, or_false, not_or]
    exact ⟨Nat.ne_of_lt (Nat.lt_succ_self _), Nat.ne_of_gt lt⟩
  have val : ∀ (i : Nat) (v : Value), items[i]? = some v → ∃ k t, ns[i]? = some k ∧ v = .int k t := fun i v hv => by
    have hi : i < ns.length := by rw [← size]; exact (Array.getElem?_eq_some_iff.mp hv).1
    obtain ⟨t, e⟩ := IntsAre.int_at hit i v (by rw [Array.getElem?_toList]; exact hv)
    exact ⟨ns[i], t, List.getElem?_eq_getElem hi, by rw [e, List.getD_eq_getElem?_getD, List.getElem?_eq_getElem hi]; rfl⟩
  have hh2 : A.in1.in1.handled = none := by simp [hh]
  refine set_update_ints ((Walks.list hh2 _ l ne1 items).toS) s.heap.objs.size ne2 ns size hb val items.size 0 _ (by omega) (Nat.zero_le _) ⟨⟨_, Heap.get?_push_size _ rfl, rfl, rfl⟩, ?_⟩
    ⟨0, Nat.le_refl 0, setR_new_at (w := w) ?_⟩ ?_
  · exact isl.push _
  · exact Heap.get?_push_of_some _ atS
  rintro ⟨h', g2, d', tk', os'⟩ c hm hc' hS'
  have eg : g2 = s.gens := hm.gens
  have ed : d' = s.drawn := hm.drawn
  have eo : os' = s.os := hm.os
  subst eg ed eo
  show wpAny _ _ _ _ _ _
  refine wpAny_pure ?_
  show wpAny _ _ (ret Value.none) _ _ _
  rw [size] at hc'
  refine wpAny_pure ⟨rfl, h', tk', c, rfl, hS', hc', fun b o e => ?_⟩
  have lb : b < s.heap.objs.size := Heap.lt_size e
  refine hm.heap b o ?_ (Heap.get?_push_of_some _ (Heap.get?_push_of_some _ e))
  rw [sz]
  simp only [List.mem_cons, List.not_mem_nil, or_false, not_or]
  exact ⟨Nat.ne_of_lt lb, Nat.ne_of_lt (Nat.lt_succ_of_lt lb)⟩
theorem call_list {l : Addr} {items : Array Value} {ns : List Int} {Q : Value → Shared → Prop} (hh : A.handled = none) (hl : s.heap.IsList l items) (hit : IntsAre items.toList ns) (hb : ns.length + 1 < scanBound)
    (h : ∀ (h' : Heap) (tk c : Nat), SetR w h' s.heap.objs.size (fun j => decide (j ∈ ns)) c → c ≤ ns.length → (∀ b o, s.heap.get? b = some o → h'.get? b = some o) → Q (.ref s.heap.objs.size) { s with heap := h', toks := tk }) :
    wpAny (model P w) A (call (.type "set") [.ref l]) Q E s := by
  obtain ⟨_, _, m1⟩ := F.called_set.mro
  have m2 := F.called_set.made
  have m3 := F.called_set.sub
  have m4 := F.called_set.notType
  have m5 := F.called_set.canCreate
  have m6 := F.typeCall_set_1 (.ref l)
  refine wpAny_call (codeAny_of_tree ?_)
  show wpAny _ _ (callAny (.type "set") _) _ _ _
  refine wpAny_pure ⟨Code.quiet_builtin _ (by decide +kernel), codeAny_builtin F.entry_type_call ?_⟩
  rw [Around.under_plain (weight_type_call_type "set" [.ref l] []) rfl]
  repeat (any_goals (first | assumption | wp_step))
  refine codeAny_mono (code_set_led1 (.ref l) (E := E) (Q₁ := fun obj s₁ => obj = .ref s.heap.objs.size ∧ s₁ = withS w s) ⟨rfl, rfl⟩) fun r s1 hr => ?_
  rcases r with e | fl
  · exact hr
  cases fl with
  | ret obj =>
    obtain ⟨rfl, rfl⟩ := hr
    have atS : (s.heap.push (born w)).get? s.heap.objs.size = some (born w) := Heap.get?_push_size _ rfl
    have typ : Shared.TypeIs (withS w s) (.ref s.heap.objs.size) "set" := ⟨_, atS, rfl⟩
    have i1 := F.called_set.init.lookup
    have i2 := F.called_set.init.bind (.ref s.heap.objs.size)
    repeat (any_goals (first | assumption | wp_step))
    refine codeAny_mono (init_list (E := E) (by simp [hh]) hl hit hb) fun r2 s2 hr2 => ?_
    rcases r2 with e | fl2
    · exact hr2
    cases fl2 with
    | ret r =>
      obtain ⟨rfl, h', tk, c, rfl, a1, a2, a3⟩ := hr2
      repeat (any_goals (first | assumption | wp_step))
      exact h h' tk c a1 a2 a3
    | _ => exact hr2.elim
  | _ => exact hr.elim
end
end Zs

namespace Dl
open PySem PySem.Spec PyProof.Rows L2
abbrev tI (ns : List Int) : D := .tup (ns.map D.int)
end Dl

namespace Dl
open PySem PySem.Spec PyProof.Rows L2 Ns
theorem good_ints : ∀ ns : List Int, goodA (ns.map D.int) = true ∧ depA (ns.map D.int) = 0 ∧ noLstA (ns.map D.int) = true
  | [] => ⟨rfl, rfl, rfl⟩
  | n :: ns => by
    obtain ⟨a, b, c⟩ := good_ints ns
    exact ⟨by simp only [List.map_cons, goodA, D.good, a, Bool.and_self], by simp only [List.map_cons, depA, D.dep, b, Nat.max_self], by simp only [List.map_cons, noLstA, D.noLst, c, Bool.and_self]⟩
end Dl

namespace Dl
open PySem PySem.Spec PyProof.Rows L2 Ns
theorem sorted_eq {α : Type} {lt : α → α → Prop} (irr : ∀ a, ¬ lt a a) (tr : ∀ {a b c}, lt a b → lt b c → lt a c) : ∀ {l m : List α}, l.Pairwise lt → m.Pairwise lt → (∀ x, x ∈ l ↔ x ∈ m) → l = m
  | [], [], _, _, _ => rfl
  | [], y :: m, _, _, h => by have := (h y).mpr List.mem_cons_self; cases this
  | x :: l, [], _, _, h => by have := (h x).mp List.mem_cons_self; cases this
  | x :: l, y :: m, h1, h2, h => by
    obtain ⟨a1, b1⟩ := List.pairwise_cons.mp h1
    obtain ⟨a2, b2⟩ := List.pairwise_cons.mp h2
    have e : x = y := by
      rcases List.mem_cons.mp ((h x).mp List.mem_cons_self) with e | hx
      · exact e
      · rcases List.mem_cons.mp ((h y).mpr List.mem_cons_self) with e | hy
        · exact e.symm
        · exact absurd (tr (a1 y hy) (a2 x hx)) (irr x)
    subst e
    rw [sorted_eq irr tr b1 b2 fun z => ?_]
    constructor
    · intro hz
      rcases List.mem_cons.mp ((h z).mp (List.mem_cons_of_mem _ hz)) with e | q
      · subst e; exact absurd (a1 z hz) (irr z)
      · exact q
    · intro hz
      rcases List.mem_cons.mp ((h z).mpr (List.mem_cons_of_mem _ hz)) with e | q
      · subst e; exact absurd (a2 z hz) (irr z)
      · exact q
theorem atI_nat {α : Type} {xs : List α} {k : Nat} (h : k < xs.length) : atI xs (k : Int) = some (xs[k]) := by
  unfold atI ixN
  have h0 : ¬ ((k : Int) < 0) := by omega
  simp [h0, h]
end Dl

namespace Zs
open PySem PySem.Spec PyProof.Rows L2 Dl
def putI (x : Int) : List Int → List Int
  | [] => [x]
  | y :: ys => if x < y then x :: y :: ys else if x = y then y :: ys else y :: putI x ys
def canon : List Int → List Int
  | [] => []
  | x :: xs => putI x (canon xs)
abbrev Up (cs : List Int) : Prop := cs.Pairwise (· < ·)
theorem mem_putI {x k : Int} : ∀ {ys : List Int}, k ∈ putI x ys ↔ k = x ∨ k ∈ ys
  | [] => by simp [putI]
  | y :: ys => by
    unfold putI
    split
    · simp [List.mem_cons]
    · split
      · rename_i h
        subst h
        simp [List.mem_cons]
      · rw [List.mem_cons, mem_putI, List.mem_cons]
        constructor
        · rintro (h | h | h)
          · exact .inr (.inl h)
          · exact .inl h
          · exact .inr (.inr h)
        · rintro (h | h | h)
          · exact .inr (.inl h)
          · exact .inl h
          · exact .inr (.inr h)
theorem mem_canon {k : Int} : ∀ {ns : List Int}, k ∈ canon ns ↔ k ∈ ns
  | [] => Iff.rfl
  | n :: ns => by rw [canon, mem_putI, mem_canon, List.mem_cons]
theorem up_putI {x : Int} : ∀ {ys : List Int}, Up ys → Up (putI x ys)
  | [], _ => List.pairwise_singleton _ _
  | y :: ys, h => by
    obtain ⟨h1, h2⟩ := List.pairwise_cons.mp h
    unfold putI
    split
    · rename_i c
      refine List.pairwise_cons.mpr ⟨fun z hz => ?_, h⟩
      rcases List.mem_cons.mp hz with e | hz
      · rw [e]; exact c
      · exact Int.lt_trans c (h1 z hz)
    · split
      · exact h
      · rename_i c1 c2
        refine List.pairwise_cons.mpr ⟨fun z hz => ?_, up_putI h2⟩
        rcases mem_putI.mp hz with e | hz
        · rw [e]; omega
        · exact h1 z hz
theorem up_canon : ∀ ns : List Int, Up (canon ns)
  | [] => .nil
  | n :: ns => up_putI (up_canon ns)
theorem Up.nodup {cs : List Int} (h : Up cs) : cs.Nodup := h.imp fun h e => by rw [e] at h; exact Int.lt_irrefl _ h
theorem up_eq {a b : List Int} (ha : Up a) (hb : Up b) (h : ∀ k, k ∈ a ↔ k ∈ b) : a = b := sorted_eq (lt := fun a b : Int => a < b) Int.lt_irrefl Int.lt_trans ha hb h
theorem canon_len : ∀ ns : List Int, (canon ns).length ≤ ns.length
  | [] => Nat.le_refl _
  | n :: ns => by
    have h : ∀ ys : List Int, (putI n ys).length ≤ ys.length + 1 := fun ys => by
      induction ys with
      | nil => exact Nat.le_refl _
      | cons y ys ih =>
        unfold putI
        split
        · exact Nat.le_refl _
        · split
          · exact Nat.le_succ _
          · simpa using ih
    exact Nat.le_trans (h _) (Nat.succ_le_succ (canon_len ns))
def SetIO (w : World) (a : Addr) (S : Int → Bool) (n : Nat) : HO := .ext fun h => SetR w h a S n
theorem setIO_ok {w : World} {P : Program} {H : Hp} {h : Heap} {a : Addr} {S : Int → Bool} {n : Nat} (R : SetR w h a S n) : ObjOk P w H h a (SetIO w a S n) :=
  ⟨R, (let ⟨o, _, _, _, ho, _⟩ := R; ⟨o, ho⟩), fun _ _ p k => SetR.at p k⟩
abbrev setOf (w : World) (a : Addr) (cs : List Int) : HO := SetIO w a (fun j => decide (j ∈ cs)) cs.length
theorem set_many {w : World} {h : Heap} {a : Addr} {ns : List Int} {c : Nat} (R : SetR w h a (fun j => decide (j ∈ ns)) c) : SetR w h a (fun j => decide (j ∈ canon ns)) (canon ns).length := by
  have R2 := R
  obtain ⟨o, es, ep, t, ho, hx, hd, g, nd, hm, hb, hf, hn, r⟩ := R2
  have e : (canon ns).length = c := by
    rw [← hn, ← Array.length_toList, ← List.length_map (f := keyOf)]
    refine ((List.perm_ext_iff_of_nodup (up_canon ns).nodup nd).mpr fun k => ?_).length_eq
    rw [mem_canon, ← hm k, decide_eq_true_iff]
  rw [e]
  exact R.congr fun k => by simp only [mem_canon]
abbrev TZI := DEnv → (List Int → Prop) → Prop
def SZI (X : Cx) (g : Gx) (te : TE) (tz : TZI) : Prop :=
  ∀ (b : B0) (σ : L2.St) (H : Hp) (env : DEnv) (Qd : List Int → Prop) (Q : VK), DenE X.K g.I b σ H env → XL X.K g b → tz env Qd → (∀ a cs H', Ext g.I H H' → H' a = some (setOf X.w a cs) → Up cs → Qd cs → Q (.ref a) H') → te σ H Q
def PZI (X : Cx) (g : Gx) (e : Expr) (tz : TZI) : Prop := SZI X g (wE X e) tz
theorem pzi_of {X : Cx} {g : Gx} {e : Expr} {te : TE} {tz : TZI} (p : PE X e te) (h : SZI X g te tz) : PZI X g e tz := fun b σ H env Qd Q hd xl ht k pins s J => p.run pins s σ H Q J (h b σ H env Qd Q hd xl ht k)
def rSetI (K : PySem.W.Frag) (w : World) : List V → Hp → VK → Prop := fun xs H Q => ∃ (l : Addr) (ns : List Int), xs = [.ref l] ∧ (SqL K H l (ns.map V.int) ∨ SqT K H l (ns.map V.int)) ∧ ns.length ≤ 4000 ∧ ∀ a, H a = none → Q (.ref a) (upd H a (setOf w a (canon ns)))
theorem cr_setI {X : Cx} (hc : X.calm = true) : CallR X (.type "set") (rSetI X.K X.w) := fun pins s σ H xs us Q J r h => by
  obtain ⟨l, ns, rfl, hl, few, q⟩ := h
  rw [Vals.ref1 r]
  have hn : H s.heap.objs.size = none := J.hok.fresh (Nat.le_refl _)
  have room : ns.length + 1 < scanBound := by unfold scanBound; omega
  have fin : ∀ (h' : Heap) (tk c : Nat), SetR X.w h' s.heap.objs.size (fun j => decide (j ∈ ns)) c → c ≤ ns.length → (∀ b o, s.heap.get? b = some o → h'.get? b = some o) → EP X pins σ Q (.ref s.heap.objs.size) { s with heap := h', toks := tk } := fun h' tk c R _ k =>
    ⟨.ref _, upd H s.heap.objs.size (setOf X.w s.heap.objs.size (canon ns)), J.laid (t' := tk) k (Nat.le_refl _) (setIO_ok (set_many R)), rfl, q _ hn⟩
  rcases hl with hl | hl
  · obtain ⟨its, rv, pl, _⟩ := J.list hl
    exact call_list (J.ok.hd hc) pl.isList (by simpa using rv.ints) room fin
  · obtain ⟨its, rv, ⟨o, ho, ho2, n, hd⟩, _⟩ := J.tuple hl
    exact call_set_tupI ns (J.ok.hd hc) ⟨o, ho, ho2, n, hd⟩ (by simpa using rv.ints) room fin
def zSetI (ta : TAD) : TZI := fun env Q => ta env fun xs => ∃ ns : List Int, (xs = [.lst (ns.map D.int)] ∨ xs = [.tup (ns.map D.int)]) ∧ ns.length ≤ 4000 ∧ Q (canon ns)
section
variable {X : Cx} {g : Gx} {e : Expr} {tas : TAD} {tz : TZI} {p pos : Pos}
theorem z_setI (hc : X.calm = true) (hg : Gl X "set") (hm : X.mg "set" = none) (ha : PAD X g [e] tas)
    (he : starEach [e] X.env = (false, eval e X.env) :: starEach [] X.env := by rfl) (hpl : (backTo pos (starEach [] X.env)).any (·.1) = false := by rfl) : PZI X g (.Call (.Name "set" p) [e] [] pos) (zSetI tas) :=
  pzi_of (pe_callTy (cr_setI hc) hg hm boot_set pa_w (by decide) (by decide) he hpl) fun b σ H env Qd Q hd xl ht k => ha b σ H env _ _ hd xl ht fun vs ds H1 e1 dn ⟨ns, e, few, q⟩ => by
    have fin : ∀ a, H1 a = none → Q (.ref a) (upd H1 a (setOf X.w a (canon ns))) := fun a hn => k a _ _ (e1.trans (.new e1.2 hn)) upd_same (up_canon ns) q
    rcases e with rfl | rfl
    · obtain ⟨v, rfl, d1⟩ := dn.one1
      simp only [Den] at d1
      obtain ⟨a, us, rfl, hl, na, r⟩ := d1
      have e2 := r.ofInts
      subst e2
      exact ⟨a, ns, rfl, .inl (SqL.of hl), few, fin⟩
    · obtain ⟨v, rfl, d1⟩ := dn.one1
      simp only [Den] at d1
      obtain ⟨a, us, rfl, sq, _, r⟩ := d1
      have e2 := r.ofInts
      subst e2
      exact ⟨a, ns, rfl, .inr sq, few, fin⟩
def rLenZ (w : World) : List V → Hp → VK → Prop := fun xs H Q => ∃ (a : Addr) (cs : List Int), xs = [.ref a] ∧ H a = some (setOf w a cs) ∧ Q (.int (cs.length : Nat)) H
theorem cr_lenZ : CallR X (.builtin "len") (rLenZ X.w) := fun pins s σ H xs us Q J r h => by
  obtain ⟨a, cs, rfl, hS, q⟩ := h
  rw [Vals.ref1 r]
  obtain ⟨o, es, ep, t, ho, hx, hd, _, _, _, hb, hf, hn, _⟩ := (J.hok a _ hS).1
  exact call_len_set ho hx hd hf (by unfold scanBound at hb; omega) ⟨.int cs.length, H, J.tok _, ⟨_, by rw [hn]⟩, q⟩
def dLenZ (tz : TZI) : TED := fun env Q => tz env fun cs => Q (.int (cs.length : Nat))
theorem d_lenZ (hg : Gl X "len") (hm : X.mg "len" = none) (ha : PZI X g e tz)
    (he : starEach [e] X.env = (false, eval e X.env) :: starEach [] X.env := by rfl) (hpl : (backTo pos (starEach [] X.env)).any (·.1) = false := by rfl) : PED X g (.Call (.Name "len" p) [e] [] pos) (dLenZ tz) :=
  ped_of (pe_callB cr_lenZ hg hm boot_len (pa_cons pe_w pa_nil he) (by decide) (by decide) he hpl) fun b σ H env Qd Q hd xl ht k =>
    ha b σ H env _ (fun v H' => rLenZ X.w [v] H' Q) hd xl ht fun a cs H1 e1 hS up q => ⟨a, cs, rfl, hS, k _ _ _ e1 (by simp only [Den]) q⟩
def rSortI (w : World) : List V → Hp → VK → Prop := fun xs H Q => ∃ (a : Addr) (cs : List Int), xs = [.ref a] ∧ H a = some (setOf w a cs) ∧ Up cs ∧ cs.length < 64 ∧ ∀ p, H p = none → Q (.ref p) (upd H p (.lst (cs.map V.int)))
theorem cr_sortI (hc : X.calm = true) : CallR X (.builtin "sorted") (rSortI X.w) := fun pins s σ H xs us Q J r h => by
  obtain ⟨a, cs, rfl, hS, up, few, q⟩ := h
  rw [Vals.ref1 r]
  have R : SetR X.w s.heap a (fun j => decide (j ∈ cs)) cs.length := (J.hok a _ hS).1
  refine sorted_set R (J.ok.hd hc) few fun s' p out c ns keep gs os hp hg iv asc mem len => ?_
  have e : ns = cs := up_eq asc up fun k => by rw [mem k, decide_eq_true_iff]
  subst e
  have hn : H p = none := J.hok.fresh hp
  have hv : Vals (ns.map V.int) out.toList := vals_of_ints iv
  have J2 : Inv X pins σ (upd H p (.lst (ns.map V.int))) { s with heap := s'.heap, gens := s'.gens, drawn := s'.drawn, toks := s'.toks } :=
    J.call (ch := []) (Un.laid keep hp hn) (J.hok.laid keep hp ⟨by rw [List.length_map, sizeLine_eq]; omega, out.toList, c, hv, hg⟩) (by rw [gs]; exact J.bare) (fun _ z => nomatch z)
  have es : s' = { s with heap := s'.heap, gens := s'.gens, drawn := s'.drawn, toks := s'.toks } := by
    cases s'
    cases s
    cases os
    rfl
  rw [es]
  exact ⟨.ref p, _, J2, rfl, q p hn⟩
def dSortI (tz : TZI) : TED := fun env Q => tz env fun cs => cs.length < 64 ∧ Q (.lst (cs.map D.int))
theorem ints_den {K : PySem.W.Frag} {Av : Addr → Prop} {H : Hp} : ∀ ns : List Int, DenA K Av H (ns.map V.int) (ns.map D.int)
  | [] => by simp [DenA]
  | n :: ns => by
    show DenA K Av H (V.int n :: ns.map V.int) (D.int n :: ns.map D.int)
    simp only [DenA]
    exact ⟨_, _, rfl, by simp only [Den], ints_den ns⟩
theorem d_sortI (hc : X.calm = true) (hg : Gl X "sorted") (hm : X.mg "sorted" = none) (ha : PZI X g e tz)
    (he : starEach [e] X.env = (false, eval e X.env) :: starEach [] X.env := by rfl) (hpl : (backTo pos (starEach [] X.env)).any (·.1) = false := by rfl) : PED X g (.Call (.Name "sorted" p) [e] [] pos) (dSortI tz) :=
  ped_of (pe_callB (cr_sortI hc) hg hm boot_sorted (pa_cons pe_w pa_nil he) (by decide) (by decide) he hpl) fun b σ H env Qd Q hd xl ht k =>
    ha b σ H env _ (fun v H' => rSortI X.w [v] H' Q) hd xl ht fun a cs H1 e1 hS up ⟨few, q⟩ => ⟨a, cs, rfl, hS, up, few, fun p hn => k _ _ _ (e1.trans (.new e1.2 hn)) (new_lst e1.2 hn (ints_den cs)) q⟩
end
end Zs

namespace Zs
open PySem PySem.Spec PyProof.Rows L2 Dl
def Top (mx : Bool) (ns : List Int) (m : Int) : Prop := m ∈ ns ∧ ∀ y ∈ ns, if mx = true then y ≤ m else m ≤ y
theorem pys (ns : List Int) : pyA (ns.map D.int) = ns.map PyData.int := by
  induction ns with
  | nil => rfl
  | cons n ns ih => show D.py (.int n) :: pyA (ns.map D.int) = _; rw [ih]; rfl
theorem good_ints : ∀ ns : List Int, goodA (ns.map D.int) = true
  | [] => rfl
  | n :: ns => by show (D.good (.int n) && goodA (ns.map D.int)) = true; rw [good_ints ns]; rfl
theorem like_ints (ns : List Int) : PySem.W.AlikeAll (ns.map PyData.int) := by
  refine ⟨fun x hx y hy => ?_, fun x hx => ?_⟩
  · obtain ⟨a, _, rfl⟩ := List.mem_map.mp hx
    obtain ⟨b, _, rfl⟩ := List.mem_map.mp hy
    rfl
  · obtain ⟨a, _, rfl⟩ := List.mem_map.mp hx
    exact fun z => nomatch z
theorem dep_ints : ∀ ns : List Int, PyData.depthAll (ns.map PyData.int) = 0
  | [] => rfl
  | n :: ns => by show max 0 (PyData.depthAll (ns.map PyData.int)) = 0; rw [dep_ints ns]; rfl
theorem lt_int (a b : Int) : PySem.W.dataLt (.int a) (.int b) = decide (a < b) := by
  exact PySem.W.dataLt_int a b
theorem fold_max : ∀ (ys : List Int) (x : Int), ∃ m : Int, PySem.W.maxD (.int x) (ys.map PyData.int) = .int m ∧ Top true (x :: ys) m
  | [], x => ⟨x, rfl, List.mem_singleton.mpr rfl, fun y hy => by rw [List.mem_singleton.mp hy]; exact Int.le_refl _⟩
  | y :: ys, x => by
    have e : PySem.W.maxD (.int x) ((y :: ys).map PyData.int) = PySem.W.maxD (.int (if x < y then y else x)) (ys.map PyData.int) := by
      unfold PySem.W.maxD
      rw [List.map_cons, List.foldl_cons]
      congr 1
      rw [lt_int]
      by_cases h : x < y <;> simp [h]
    obtain ⟨m, h1, h2, h3⟩ := fold_max ys (if x < y then y else x)
    refine ⟨m, e.trans h1, ?_, fun z hz => ?_⟩
    · rcases List.mem_cons.mp h2 with q | q
      · rw [q]; split
        · exact List.mem_cons_of_mem _ List.mem_cons_self
        · exact List.mem_cons_self
      · exact List.mem_cons_of_mem _ (List.mem_cons_of_mem _ q)
    · have t := h3 _ List.mem_cons_self
      rw [if_pos rfl] at t ⊢
      rcases List.mem_cons.mp hz with q | q
      · rw [q]; split at t <;> omega
      · rcases List.mem_cons.mp q with q | q
        · rw [q]; split at t <;> omega
        · have := h3 z (List.mem_cons_of_mem _ q)
          rwa [if_pos rfl] at this
theorem fold_min : ∀ (ys : List Int) (x : Int), ∃ m : Int, PySem.W.minD (.int x) (ys.map PyData.int) = .int m ∧ Top false (x :: ys) m
  | [], x => ⟨x, rfl, List.mem_singleton.mpr rfl, fun y hy => by rw [List.mem_singleton.mp hy]; exact Int.le_refl _⟩
  | y :: ys, x => by
    have e : PySem.W.minD (.int x) ((y :: ys).map PyData.int) = PySem.W.minD (.int (if y < x then y else x)) (ys.map PyData.int) := by
      unfold PySem.W.minD
      rw [List.map_cons, List.foldl_cons]
      congr 1
      rw [lt_int]
      by_cases h : y < x <;> simp [h]
    obtain ⟨m, h1, h2, h3⟩ := fold_min ys (if y < x then y else x)
    refine ⟨m, e.trans h1, ?_, fun z hz => ?_⟩
    · rcases List.mem_cons.mp h2 with q | q
      · rw [q]; split
        · exact List.mem_cons_of_mem _ List.mem_cons_self
        · exact List.mem_cons_self
      · exact List.mem_cons_of_mem _ (List.mem_cons_of_mem _ q)
    · have t := h3 _ List.mem_cons_self
      rw [if_neg Bool.false_ne_true] at t ⊢
      rcases List.mem_cons.mp hz with q | q
      · rw [q]; split at t <;> omega
      · rcases List.mem_cons.mp q with q | q
        · rw [q]; split at t <;> omega
        · have := h3 z (List.mem_cons_of_mem _ q)
          rwa [if_neg Bool.false_ne_true] at this
def bnm (mx : Bool) : String := if mx = true then "max" else "min"
def rBest (K : PySem.W.Frag) (mx : Bool) : List V → List V → Hp → VK → Prop := fun xs zs H Q => ∃ (l : Addr) (ns : List Int) (d : V), xs = [.ref l] ∧ zs = [d] ∧ (SqL K H l (ns.map V.int) ∨ SqT K H l (ns.map V.int)) ∧
  (ns = [] → Q d H) ∧ ∀ m, Top mx ns m → Q (.int m) H
theorem cr_best {X : Cx} (mx : Bool) (hc : X.calm = true) (hu : X.A.units + 64 < cLine) : CallRK X (.builtin (bnm mx)) [Str.ofString "default"] (rBest X.K mx) := fun pins s σ H xs zs us ws Q J rx rz h => by
  obtain ⟨l, ns, d, rfl, rfl, hl, q0, q1⟩ := h
  rw [Vals.ref1 rx]
  obtain ⟨u, rfl, ru⟩ : ∃ u, ws = [u] ∧ RelV d u := by
    cases rz with
    | cons r1 r2 => cases r2; exact ⟨_, rfl, r1⟩
  show wpAny _ _ (call (.builtin (bnm mx)) [.ref l] [(Str.ofString "default", u)]) _ _ _
  have dn : ∀ h' tk, (∀ b o, s.heap.get? b = some o → h'.get? b = some o) → ns = [] → EP X pins σ Q u { s with heap := h', toks := tk } := fun h' tk k e => ⟨d, H, J.kept k, ru, q0 e⟩
  have got : ∀ (x : PyData) (m : Int) (v : Value) (h' : Heap) (tk : Nat) (bs : List Addr), x = .int m → Reads h' v x bs → Top mx ns m → (∀ b o, s.heap.get? b = some o → h'.get? b = some o) → EP X pins σ Q v { s with heap := h', toks := tk } := fun x m v h' tk bs e r t k => by
    subst e
    cases r
    exact ⟨.int m, H, J.kept k, ⟨_, rfl⟩, q1 m t⟩
  have rs : ∀ {vs : List V} {its : List Value}, vs = ns.map V.int → Vals vs its → ∃ as, ReadsAll s.heap its (ns.map PyData.int) as := fun {vs its} e r => by
    subst e
    rw [← pys]
    exact Dp.readsAll J _ _ _ (DenA.dp (K := X.K) (Av := fun _ => False) (H := H) _ _ (good_ints ns) (ints_den ns)) r
  have ru2 : X.A.units + 1 + PyData.depthAll (ns.map PyData.int) < cLine := by rw [dep_ints]; omega
  have best : ∀ (y : PyData) (ys : List PyData), ns.map PyData.int = y :: ys → ∃ m : Int, (if mx = true then PySem.W.maxD y ys else PySem.W.minD y ys) = .int m ∧ Top mx ns m := fun y ys e => by
    cases ns with
    | nil => cases e
    | cons n ns =>
      obtain ⟨rfl, rfl⟩ := List.cons.inj e
      cases mx with
      | true => rw [if_pos rfl]; exact fold_max ns n
      | false => rw [if_neg Bool.false_ne_true]; exact fold_min ns n
  have nil_of : ns.map PyData.int = [] → ns = [] := List.map_eq_nil_iff.mp
  rcases hl with hl | hl
  · obtain ⟨its, rv, pl, _⟩ := J.list hl
    obtain ⟨as, ra⟩ := rs rfl rv
    cases mx with
    | true => exact PySem.W.max_list_default (J.ok.hd hc) pl.isList (by simpa using ra) (like_ints ns) ru2 (fun e h' tk k => dn h' tk k (nil_of e)) fun y ys i v h' tk bs e hi r k => let ⟨m, e1, t⟩ := best y ys e; got _ m v h' tk bs e1 r t k
    | false => exact PySem.W.min_list_default (J.ok.hd hc) pl.isList (by simpa using ra) (like_ints ns) ru2 (fun e h' tk k => dn h' tk k (nil_of e)) fun y ys i v h' tk bs e hi r k => let ⟨m, e1, t⟩ := best y ys e; got _ m v h' tk bs e1 r t k
  · obtain ⟨its, rv, ⟨o, ho, ho2, n, hd⟩, _⟩ := J.tuple hl
    obtain ⟨as, ra⟩ := rs rfl rv
    have it : s.heap.IsTuple l its.toArray := ⟨o, ho, ho2, n, hd⟩
    cases mx with
    | true => exact PySem.W.max_tuple_default (J.ok.hd hc) it (by simpa using ra) (like_ints ns) ru2 (fun e h' tk k => dn h' tk k (nil_of e)) fun y ys i v h' tk bs e hi r k => let ⟨m, e1, t⟩ := best y ys e; got _ m v h' tk bs e1 r t k
    | false => exact PySem.W.min_tuple_default (J.ok.hd hc) it (by simpa using ra) (like_ints ns) ru2 (fun e h' tk k => dn h' tk k (nil_of e)) fun y ys i v h' tk bs e hi r k => let ⟨m, e1, t⟩ := best y ys e; got _ m v h' tk bs e1 r t k
def dBest (mx : Bool) (ta tk : TAD) : TED := fun env Q => ta env fun xs => tk env fun zs => ∃ (ns : List Int) (d : D), (xs = [.lst (ns.map D.int)] ∨ xs = [.tup (ns.map D.int)]) ∧ zs = [d] ∧ (ns = [] → Q d) ∧ ∀ m, Top mx ns m → Q (.int m)
section
variable {X : Cx} {g : Gx} {e : Expr} {kws : List Keyword} {ta tk : TAD} {p pos : Pos} {x : Str}
theorem d_best (mx : Bool) (hu : X.A.units + 64 < cLine) (hc : X.calm = true) (hg : Gl X x) (hm : X.mg x = none) (ha : PAD X g [e] ta) (hkw : PKD X g kws tk) (hx : bootBuiltins x = some (.builtin (bnm mx)))
    (hn : x ≠ "__name__" := by decide) (hdb : (x == ("__debug__" : Str)) = false := by decide)
    (he : backTo pos (starEach [e] X.env) = (false, eval e X.env) :: backTo pos (starEach [] X.env) := by rfl) (hpl : (backTo pos (starEach [e] X.env)).any (·.1) = false := by rfl)
    (hall : (backToKw pos (keywordEach kws X.env)).all (·.1.isSome) = true := by rfl) (hnone : (backToKw pos (keywordEach kws X.env)).any (·.1.isNone) = false := by rfl) (hks : (backToKw pos (keywordEach kws X.env)).filterMap (·.1) = [Str.ofString "default"] := by rfl) :
    PED X g (.Call (.Name x p) [e] kws pos) (dBest mx ta tk) :=
  ped_of (pe_callBK (cr_best mx hc hu) hg hm hx pa_w pk_w hn hdb he hpl hall hnone hks) fun b0 σ H env Qd Q hd xl h k => ha b0 σ H env _ _ hd xl h fun vs xs H1 e1 dn h1 => hkw b0 σ H1 env _ _ (hd.mono e1) xl h1 fun zs ys H2 e2 dn2 ⟨ns, d, e, ez, q0, q1⟩ => by
    subst ez
    obtain ⟨dv, rfl, dd⟩ := dn2.one1
    have dn' := DenA.keep e2.1 _ _ dn
    have f0 : ns = [] → Q dv H2 := fun e => k _ _ _ (e1.trans e2) dd (q0 e)
    have f1 : ∀ m, Top mx ns m → Q (.int m) H2 := fun m t => k _ _ _ (e1.trans e2) (by simp only [Den]) (q1 m t)
    rcases e with rfl | rfl
    · obtain ⟨v, rfl, d1⟩ := dn'.one1
      simp only [Den] at d1
      obtain ⟨a, us, rfl, hl, na, r⟩ := d1
      have e2 := r.ofInts
      subst e2
      exact ⟨a, ns, dv, rfl, rfl, .inl (SqL.of hl), f0, f1⟩
    · obtain ⟨v, rfl, d1⟩ := dn'.one1
      simp only [Den] at d1
      obtain ⟨a, us, rfl, sq, _, r⟩ := d1
      have e2 := r.ofInts
      subst e2
      exact ⟨a, ns, dv, rfl, rfl, .inr sq, f0, f1⟩
end
end Zs

namespace Zs
open PySem PySem.Spec PyProof.Rows L2 Dl Ns
abbrev KeyD := L2.Key
def kD : KeyD → D
  | .inl i => .int i
  | .inr x => .str x
theorem kD_den {K : PySem.W.Frag} {Av : Addr → Prop} {H : Hp} {v : V} (k : KeyD) (h : Den K Av H v (kD k)) : v = kV k := by
  cases k <;> simpa only [kD, Den, kV] using h
abbrev dctD (ps : List (KeyD × D)) : D := .obj (.dct (ps.map (·.1))) (ps.map fun _ => "") (ps.map (·.2))
def dcD (gd : TGD) (tt : TTD) (tk tv : TED) (env : DEnv) : List D → List (KeyD × D) → (D → Prop) → Prop
  | [], acc, Q => Q (dctD acc)
  | x :: xs, acc, Q => gd x env fun env2 => tt env2 fun b => if b = true then tk env2 fun y => ∃ k, y = kD k ∧ k ∉ acc.map (·.1) ∧ tv env2 fun z => kok z = true ∧ dcD gd tt tk tv env xs (acc ++ [(k, z)]) Q else dcD gd tt tk tv env xs acc Q
def dDc (tid : TID) (gd : TGD) (tt : TTD) (tk tv : TED) (vs : List Nat) : TED := fun env Q => tid (frz env) fun ds => ds.length ≤ sizeLine ∧ dcD gd tt tk tv (wipeD (frz env) vs) ds [] Q
theorem valV_none {k : KeyD} : ∀ {kvs : List (KeyD × V)}, k ∉ kvs.map (·.1) → valV kvs k = none
  | [], _ => rfl
  | p :: r, h => by
    rw [valV_neg (fun e => h (by rw [List.map_cons, e]; exact List.mem_cons_self))]
    exact valV_none fun z => h (List.mem_cons_of_mem _ z)
theorem zip_keys : ∀ (kvs : List (KeyD × V)), kvs = (kvs.map (·.1)).zip (kvs.map (·.2))
  | [] => rfl
  | p :: r => by rw [List.map_cons, List.map_cons, List.zip_cons_cons, ← zip_keys r]
section
variable {X : Cx} {g : Gx} {wi : TI} {gt : TG} {tt : TT} {tk te : TE} {vs : List Nat} {tid : TID} {gd : TGD} {td : TTD} {kd ed : TED}
structure SofarK (X : Cx) (I : HI) (S : Addr) (n : Nat) (H1 H : Hp) (acc : List (KeyD × D)) : Prop where
  ex : ∃ kvs : List (KeyD × V), H S = some (.dK kvs) ∧ kvs.length ≤ n ∧ kvs.map (·.1) = acc.map (·.1) ∧ DenA X.K (fun a => I.own a ∨ a = S) H (kvs.map (·.2)) (acc.map (·.2))
  kp : Kp I.own H1 H
  ok : I.ok H
theorem sd_dc (hi : SI X.K g wi tid) (hg : SG X.K g.nox gt gd) (hw : GW gt vs) (ht : ST X.K g.nox tt td) (hk : SE X.K g.nox tk kd) (he : SE X.K g.nox te ed) :
    SE X.K g (tDc wi gt tt tk te vs) (dDc tid gd td kd ed vs) := fun b σ H env Qd Q hd xl hq k => by
  refine hi b σ H (frz env) _ _ hd.frz xl hq fun J H1 hws ds hd1 e1 it0 ⟨hlen, q⟩ => ?_
  intro S hS
  have hE : DenE X.K g.I ⟨H1, hws⟩ (wipe σ vs) H1 (wipeD (frz env) vs) := (hd1.rebase (noOwn_frz env)).wiped vs
  have hno := noOwn_wipe (noOwn_frz env) vs
  have nS : ¬ g.I.own S := HI.nown e1.2 hS
  have offS : ∀ {L : List (KeyD × V)} xs, HO.dK L ≠ .tup xs := fun xs z => by cases z
  refine ⟨fun i m H' => m = ds.length - i ∧ i ≤ ds.length ∧ ∃ acc, SofarK X g.I S i H1 H' acc ∧ dcD gd td kd ed (wipeD (frz env) vs) (ds.drop i) acc Qd,
    ⟨ds.length, by simp, Nat.zero_le _, [], ⟨⟨[], upd_same, Nat.le_refl _, rfl, by simp only [List.map_nil, DenA]⟩, Kp.new hS, (Ext.new e1.2 hS).2⟩, by simpa using q⟩, ?_⟩
  rintro i m H' ⟨rfl, hi', acc, ⟨⟨kvs, hM, hMl, hMk, hMv⟩, kp', ok⟩, q'⟩
  have eH : Ext g.I H1 H' := ⟨kp', ok⟩
  have hE' := hE.mono eH
  obtain ⟨oa, h1, h2, h3, h4⟩ := id hE'.slots
  have IT := it0 g.I.own H' (fun p hp => Den.weak (fun a z => .inl z) _ _ (h4 p hp)) (fun a z => g.I.dom H' a ok (g.I.sub a z))
  by_cases hlt : i < ds.length
  · refine .inr ⟨(IT.1 i hlt).1, fun H2 => ∃ acc, SofarK X g.I S (i + 1) H1 H2 acc ∧ dcD gd td kd ed (wipeD (frz env) vs) (ds.drop (i + 1)) acc Qd, fun H2 h => ⟨ds.length - (i + 1), by omega, rfl, hlt, h⟩, fun x H2 y => ?_⟩
    obtain ⟨kn, d, hd2, dn⟩ := (IT.1 i hlt).2 x H2 y
    have e2 : Ext g.I H' H2 := .ofNew ok kn
    have q2 : dcD gd td kd ed (wipeD (frz env) vs) (d :: ds.drop (i + 1)) acc Qd := by
      rw [List.drop_eq_getElem_cons hlt] at q'
      have : d = ds[i] := by
        rw [List.getElem?_eq_getElem hlt] at hd2
        exact (Option.some.inj hd2).symm
      rw [this]; exact q'
    have held := (hE'.mono e2).hold dn (.inl hno)
    have step := hw x (wipe σ vs) H2 _ (hg ⟨H1, hws⟩ (wipe σ vs) H2 _ x d _ (fun σ2 H3 => tt σ2 H3 fun b H4 => if b = true then tk σ2 H4 fun y H5 => te σ2 H5 fun z H6 => ∃ kvs k, y = kV k ∧ H6 S = some (.dK kvs) ∧ kvs.length < sizeLine ∧ ∃ acc, SofarK X g.I S (i + 1) H1 (upd H6 S (.dK (putK kvs k z))) acc ∧ dcD gd td kd ed (wipeD (frz env) vs) (ds.drop (i + 1)) acc Qd
        else ∃ acc, SofarK X g.I S (i + 1) H1 H4 acc ∧ dcD gd td kd ed (wipeD (frz env) vs) (ds.drop (i + 1)) acc Qd) held q2 fun σ3 H3 env3 hd3 e3 q3 => ?_)
    · rw [wipe_idem vs] at step
      exact step
    · refine ht ⟨H1, hws⟩ σ3 H3 env3 _ _ hd3 XL.nox q3 fun c H4 e4 q4 => ?_
      have x4 : Ext g.I H' H4 := e2.trans (e3.trans e4)
      have S4 : H4 S = some (.dK kvs) := x4.1 S _ nS hM
      have M4 : DenA X.K (fun a => g.I.own a ∨ a = S) H4 (kvs.map (·.2)) (acc.map (·.2)) := DenA.keep (x4.1.weak fun a z => .inl z) _ _ hMv
      cases c with
      | false =>
        rw [if_neg Bool.false_ne_true] at q4 ⊢
        exact ⟨acc, ⟨⟨kvs, S4, by omega, hMk, M4⟩, kp'.trans x4.1, x4.2⟩, q4⟩
      | true =>
        rw [if_pos rfl] at q4 ⊢
        refine hk ⟨H1, hws⟩ σ3 H4 env3 _ _ (hd3.mono e4) XL.nox q4 fun yv yd H5 e5 dn5 ⟨key, ey, fresh, q5⟩ => ?_
        subst ey
        refine he ⟨H1, hws⟩ σ3 H5 env3 _ _ (hd3.mono (e4.trans e5)) XL.nox q5 fun zv zd H6 e6 dn6 ⟨kz, q6⟩ => ?_
        have x6 : Ext g.I H4 H6 := e5.trans e6
        have S6 : H6 S = some (.dK kvs) := x6.1 S _ nS S4
        have M6 : DenA X.K (fun a => g.I.own a ∨ a = S) H6 (kvs.map (·.2)) (acc.map (·.2)) := DenA.keep (x6.1.weak fun a z => .inl z) _ _ M4
        have mu : Kp (fun a => g.I.own a ∨ a = S) H6 (upd H6 S (.dK (putK kvs key zv))) := Kp.mut (.inr rfl)
        have nk : valV kvs key = none := valV_none (by rw [hMk]; exact fresh)
        refine ⟨kvs, key, kD_den key dn5, S6, by omega, acc ++ [(key, zd)], ⟨⟨kvs ++ [(key, zv)], by rw [upd_same, putK_new zv nk], by rw [List.length_append, List.length_singleton]; omega, by rw [List.map_append, List.map_append, hMk]; rfl, ?_⟩, fun a o n e => ?_, ?_⟩, q6⟩
        · rw [List.map_append, List.map_append]
          exact DenA.app (DenA.keep mu _ _ M6) (.one (Den.keep mu _ _ (den_off S6 offS zd _ kz dn6)))
        · rw [upd_ne (ne_of_none e hS)]
          exact (kp'.trans (x4.1.trans x6.1)) a o n e
        · refine g.I.loc H6 _ (fun a f => upd_ne (fun z => ?_)) e6.2
          rw [z] at f
          exact g.I.dom H1 S e1.2 f hS
  · have ei : i = ds.length := by omega
    subst ei
    rw [List.drop_length] at q'
    refine .inl ⟨IT.2, k _ _ H' (e1.trans eH) ?_ q'⟩
    simp only [Den]
    refine ⟨kvs.map (·.2), ?_, ⟨S, rfl, nS, ?_⟩, DenA.weak (fun a z => .inl z) _ _ hMv⟩
    · rw [List.length_map, List.length_map]
      have := congrArg List.length hMk
      simpa using this
    · rw [hM, ← hMk, ← zip_keys]
end
section
variable {X : Cx} {g : Gx} {kx vx tg iter : Expr} {ifs : List Expr} {scope : Scope} {own : List (Str × Nat)} {pos : Pos} {gt : TG} {tid : TID} {gd : TGD} {td : TTD} {kd ed : TED}
theorem d_dc (hc : X.calm = true) (hN : X.N.Nodup) (hi : PID X g tg iter tid) (ok : BlkOk X.N X.env.scope scope own)
    (hg : ∀ (s : Shared) (H : Hp) (C : Addr) (cl : List (Str × Addr)) (fp : List Addr), PG (X.blk s H scope (compEnvC scope cl C X.env) fp) tg gt) (sg : SG X.K g.nox gt gd) (gw : GW gt (own.map (·.2)))
    (ht : ST X.K g.nox (wBT X scope ifs) td) (hk : SE X.K g.nox (wBE X scope kx) kd) (he : SE X.K g.nox (wBE X scope vx) ed) (hs : ∀ x, foldedSetIterable iter X.env x = pure x := by intro _; rfl) :
    PED X g (.DictComp kx vx [⟨tg, iter, ifs, 0⟩] scope pos) (dDc tid gd td kd ed (own.map (·.2))) :=
  ped_of (pe_dc hc hN pi_w ok hg (fun _ _ _ _ _ => pt_blk) (fun _ _ _ _ _ => pe_blk) (fun _ _ _ _ _ => pe_blk) hs) (sd_dc hi sg gw ht hk he)
end
def dGet (ta tb : TED) : TED := fun env Q => ta env fun x => tb env fun y => ∃ (ps : List (KeyD × D)) (k : KeyD) (i : Nat) (d : D), x = dctD ps ∧ y = kD k ∧ (ps.map (·.1))[i]? = some k ∧ (∀ j, j < i → (ps.map (·.1))[j]? ≠ some k) ∧ (ps.map (·.2))[i]? = some d ∧ Q d
theorem valV_at {k : KeyD} : ∀ {ks : List KeyD} {ws : List V} {i : Nat} {v : V}, ks[i]? = some k → (∀ j, j < i → ks[j]? ≠ some k) → ws[i]? = some v → valV (ks.zip ws) k = some v
  | [], _, _, _, h, _, _ => by simp at h
  | _ :: _, [], _, _, _, _, h => by simp at h
  | q :: ks, w :: ws, 0, v, h, _, h2 => by
    rw [List.getElem?_cons_zero] at h h2
    rw [List.zip_cons_cons, valV_pos (Option.some.inj h)]
    exact h2
  | q :: ks, w :: ws, i + 1, v, h, n, h2 => by
    rw [List.getElem?_cons_succ] at h h2
    rw [List.zip_cons_cons, valV_neg fun e => n 0 (Nat.succ_pos _) (by rw [List.getElem?_cons_zero]; exact congrArg some e)]
    exact valV_at h (fun j hj e => n (j + 1) (Nat.succ_lt_succ hj) (by rw [List.getElem?_cons_succ]; exact e)) h2
section
variable {X : Cx} {g : Gx} {a b : Expr} {ta tb : TED} {pos : Pos}
theorem d_get (hu : X.A.units + 64 < cLine) (ha : PED X g a ta) (hb : PED X g b tb) (hs : NoSl b := by intro _ _; rfl) : PED X g (.Subscript a b pos) (dGet ta tb) :=
  ped_of (pe_dget (by omega) pe_w pe_w hs) fun b0 σ H env Qd Q hd xl h k => ha b0 σ H env _ _ hd xl h fun x dx H1 e1 dnx h1 => hb b0 σ H1 env _ _ (hd.mono e1) xl h1 fun y dy H2 e2 dny ⟨ps, key, i, d, ex, ey, hi, hn, hdv, q⟩ => by
    subst ex ey
    have dx := Den.keep e2.1 _ _ dnx
    simp only [Den] at dx
    obtain ⟨ws, hl, ⟨p, rfl, np, hp⟩, dn⟩ := dx
    obtain ⟨v, hv, dv⟩ := dn.get hdv
    exact ⟨p, v, rfl, .inl ⟨_, key, .inl hp, kD_den key dny, (valV_at hi hn hv).symm⟩, k _ _ _ (e1.trans e2) dv q⟩
end
end Zs

namespace Zs
open PySem PySem.Spec PyProof.Rows L2 Dl He
structure ErR (K : PySem.W.Frag) (mg : Str → Option Value) (x : Str) : Prop where
  e : Er0 K mg x
  s : PySem.W.subIn K (.ref (ga K x)) (.type "BaseException") = some true
  t : PySem.W.typeIn K (.ref (ga K x)) = some (.type "type")
def erRB (K : PySem.W.Frag) (x : Str) : Bool := er0B K x && (PySem.W.subIn K (.ref (ga K x)) (.type "BaseException") == some true) && (PySem.W.typeIn K (.ref (ga K x)) == some (.type "type"))
theorem erR_of {K : PySem.W.Frag} {mg : Str → Option Value} {x : Str} (h : erRB K x = true) (m : mg x = some (.ref (ga K x))) : ErR K mg x := by
  unfold erRB er0B at h
  simp only [Bool.and_eq_true, beq_iff_eq] at h
  exact ⟨⟨h.1.1.1, h.1.1.2, m⟩, h.1.2, h.2⟩
section
variable {X : Cx} {g : Gx} {pos p cpos : Pos} {x : Str}
theorem pmk_exc0 {C : Addr} {bmB : List Value} {B newId initId : String} (F : ExcBaseFacts B newId initId bmB) (q : PySem.W.excIn X.K C bmB newId = true) (gC : X.mg x = some (.ref C)) (kC : PySem.W.keepIn X.K (.ref C) = true) (r : Raises X (.ref C)) (hg : Gl X x)
    (hdb : (x == ("__debug__" : Str)) = false := by decide) : PMk X (.Call (.Name x p) [] [] pos) (fun _ H Q => Q (.ref C) none H) := by
  intro pins s σ H Q I h
  refine wpAny_Call_Name_kw (ld_glob I hg gC ?_ hdb)
  refine PySem.W.callWith_K0 I.kIn kC ?_
  show wpAny _ _ (call (.ref C) []) _ _ _
  obtain ⟨_, _, _, _, _, _, _, _, _, _, _, _, _, _, _, _, _, oC, nN, noI, T⟩ := exc_obj I.kIn q
  exact wpAny_call_exc_subT F T oC nN noI (fun h' b made => mk_of I made r h (I.hok.gone made.new)) (by rw [sizeLine_eq]; exact Nat.zero_le _)
def sRaise0 (C : Addr) (Ed : DEnv → Exc → Prop) : TSD := fun _ env => Ed env ⟨C, none⟩
theorem ds_raise0 (er : ErR X.K X.mg x) (hc : X.calm = true) (tk : Takes X g.W) (hg : Gl X x) (hdb : (x == ("__debug__" : Str)) = false := by decide) : PSD X g (.Raise (some (.Call (.Name x p) [] [] cpos)) none pos) (sRaise0 (ga X.K x) g.Ed) :=
  psd_of (ps_raise hc tk (pmk_exc0 F.excBase_ValueError er.e.q er.e.m er.e.k (raises_own er.s er.t) hg hdb)) fun b σ H env Dd E hd xl h el =>
    xl σ H env ⟨ga X.K x, none⟩ none H hd (.refl hd.ok) rfl h
end
def sAug (i : Nat) (f : Int → Int → Int) (td : TED) : TSD := fun Dd env => ∃ s m, env[i]? = some s ∧ rdSlot s = some (.int m) ∧ td env fun d => ∃ n, d = .int n ∧ keepable env i (.int (f m n)) ∧ Dd.nx (env.set i (.val (.int (f m n))))
section
variable {X : Cx} {g : Gx} {pos p : Pos} {x : Str} {e : Expr} {td : TED}
theorem ds_aug {i : Nat} {op : Operator} {f : Int → Int → Int} {pos' : Pos} (ip : PIp X op (ipI f)) (hN : X.N.Nodup) (hi : X.N[i]? = some x) (hx : Loc X.env.scope x) (he : PED X g e td)
    (hf : X.fn x = true ∨ X.env.scope.names.lookup x = some .local := by first | exact .inl rfl | exact .inr rfl | assumption) : PSD X g (.AugAssign (.Name x pos') op e pos) (sAug i f td) :=
  psd_of (ps_aug hN hi hx pe_w ip hf) fun b σ H env Dd E hd xl ⟨s, m, h1, h2, h⟩ el => by
    obtain ⟨v, e1, e2⟩ := hd.read h1 h2
    simp only [Den] at e2
    subst e2
    exact ⟨.int m, e1, he b σ H env _ _ hd xl h fun v d H1 ex dn ⟨n, ed, kp, q⟩ => by
      subst ed
      simp only [Den] at dn
      exact ⟨m, n, rfl, dn, el.nx _ _ _ ((hd.mono ex).put (by simp only [Den]) kp) q⟩⟩
theorem ds_augSub {i : Nat} {pos' : Pos} (hN : X.N.Nodup) (hi : X.N[i]? = some x) (hx : Loc X.env.scope x) (he : PED X g e td)
    (hf : X.fn x = true ∨ X.env.scope.names.lookup x = some .local := by first | exact .inl rfl | exact .inr rfl | assumption) : PSD X g (.AugAssign (.Name x pos') .Sub e pos) (sAug i (fun a b => a - b) td) := ds_aug ip_sub hN hi hx he hf
end
def dIndex (ta tb : TED) : TED := fun env Q => ta env fun x => ∃ ds : List D, x = .lst ds ∧ tb env fun d => ∃ (j : Nat) (z : D), okD d ∧ okD (.lst ds) ∧ ds[j]? = some z ∧ eqD z d = true ∧ (∀ (m : Nat) (z' : D), m < j → ds[m]? = some z' → eqD z' d = false) ∧ Q (.int (j : Nat))
theorem pyA_at : ∀ (ds : List D) (j : Nat), (pyA ds)[j]? = (ds[j]?).map D.py
  | [], _ => rfl
  | d :: ds, 0 => rfl
  | d :: ds, j + 1 => pyA_at ds j
section
variable {X : Cx} {g : Gx} {o e : Expr} {ta tb : TED} {apos cpos : Pos}
theorem d_index (hu : X.A.units + 65 < cLine) (ho : PED X g o ta) (he : PED X g e tb)
    (hbase : attributeBase o "index" X.env (eval o X.env) = eval o X.env := by rfl)
    (hfew : ((backTo cpos (starEach (e :: []) X.env)).all (fun x => !x.1) && (backToKw cpos (keywordEach [] X.env)).all (fun x => x.1.isSome)
      && decide ((e :: []).length + ([] : List Keyword).length + (if ([] : List Keyword).isEmpty then 0 else 1) < 30)) = true := by rfl)
    (hline : (apos.endLine == cpos.line) = true := by rfl) (hs : starEach (e :: []) X.env = (false, eval e X.env) :: starEach [] X.env := by rfl) (hplain : (backTo cpos (starEach [] X.env)).any (·.1) = false := by rfl) :
    PED X g (.Call (.Attribute o "index" apos) [e] [] cpos) (dIndex ta tb) :=
  ped_of (pe_bm PySem.F.plainAttrs_list PySem.F.slot_list_index (by first | exact PySem.F.type_list_index | rfl | decide +kernel) (mt_indexD hu) pe_w (pa_cons pe_w pa_nil hs) hbase hfew hline hs hplain) fun b σ H env Qd Q hd xl h k =>
    ho b σ H env _ _ hd xl h fun v d H1 e1 dn ⟨ds, ed, h1⟩ => ⟨(by
      subst ed
      simp only [Den] at dn
      obtain ⟨a, vs, rfl, hl, _, _⟩ := dn
      exact .inl ⟨rfl, vs, SqL.of hl⟩), he b σ H1 env _ _ (hd.mono e1) xl h1 fun v2 d2 H2 e2 dn2 ⟨j, z, k1, k2, hz, hq, no, q⟩ => by
      subst ed
      have dn' := Den.keep e2.1 _ _ dn
      have l := Den.dp _ _ k2.1 dn'
      simp only [Den] at dn'
      obtain ⟨a, vs, rfl, hl, _, _⟩ := dn'
      have s2 := k2.shaped
      simp only [D.py] at l s2
      exact ⟨a, v2, d2.py, pyA ds, j, z.py, rfl, rfl, l, Den.dp _ _ k1.1 dn2, s2, k1.shaped, by rw [pyA_at, hz]; rfl, hq, fun m z' hm hz' => by
        rw [pyA_at] at hz'
        cases e : ds[m]? with
        | none => rw [e] at hz'; cases hz'
        | some w =>
          rw [e] at hz'
          cases hz'
          exact no m w hm e, k _ _ _ (e1.trans e2) (by simp only [Den]) q⟩⟩
end
def sAppPop (i j : Nat) (td : TED) : TSD := fun Dd env => ∃ xs ys, env[i]? = some (.own xs) ∧ env[j]? = some (.own ys) ∧ i ≠ j ∧ td env fun z => ∃ (k : Nat) (d : D), z = .int k ∧ ys[k]? = some d ∧ ys.length ≤ sizeLine ∧ d.noLst = true ∧ xs.length < sizeLine ∧
  Dd.nx ((env.set j (.own (ys.eraseIdx k))).set i (.own (xs ++ [d])))
theorem dena_erase {K : PySem.W.Frag} {Av : Addr → Prop} {H : Hp} : ∀ {vs : List V} {ds : List D} (k : Nat), DenA K Av H vs ds → DenA K Av H (vs.eraseIdx k) (ds.eraseIdx k)
  | vs, [], k, h => by
    have e : vs = [] := by simpa only [DenA] using h
    subst e
    simpa only [DenA, List.eraseIdx_nil] using h
  | vs, d :: ds, 0, h => by
    obtain ⟨v, r, rfl, h1, h2⟩ := h.cons
    simpa only [List.eraseIdx_cons_zero] using h2
  | vs, d :: ds, k + 1, h => by
    obtain ⟨v, r, rfl, h1, h2⟩ := h.cons
    rw [List.eraseIdx_cons_succ, List.eraseIdx_cons_succ]
    simp only [DenA]
    exact ⟨v, _, rfl, h1, dena_erase k h2⟩
section
variable {X : Cx} {g : Gx} {pos p1 p2 : Pos} {x y : Str} {e : Expr} {td : TED} {i j : Nat}
theorem ds_appPop {apos cpos apos2 cpos2 : Pos} (hN : X.N[i]? = some x) (hv : Vis X.env.scope x) (hN2 : X.N[j]? = some y) (hv2 : Vis X.env.scope y) (he : PED X g e td) (hd1 : (x == ("__debug__" : Str)) = false := by decide) (hcd : (x == ("__classdict__" : Str)) = false := by decide)
    (hd2 : (y == ("__debug__" : Str)) = false := by decide) (hcd2 : (y == ("__classdict__" : Str)) = false := by decide)
    (hbase : attributeBase (.Name x p1) "append" X.env (eval (.Name x p1) X.env) = eval (.Name x p1) X.env := by rfl)
    (hbase2 : attributeBase (.Name y p2) "pop" X.env (eval (.Name y p2) X.env) = eval (.Name y p2) X.env := by rfl)
    (hfew : ((backTo cpos (starEach (.Call (.Attribute (.Name y p2) "pop" apos2) [e] [] cpos2 :: []) X.env)).all (fun x => !x.1) && (backToKw cpos (keywordEach [] X.env)).all (fun x => x.1.isSome)
      && decide ((Expr.Call (.Attribute (.Name y p2) "pop" apos2) [e] [] cpos2 :: []).length + ([] : List Keyword).length + (if ([] : List Keyword).isEmpty then 0 else 1) < 30)) = true := by rfl)
    (hfew2 : ((backTo cpos2 (starEach (e :: []) X.env)).all (fun x => !x.1) && (backToKw cpos2 (keywordEach [] X.env)).all (fun x => x.1.isSome)
      && decide ((e :: []).length + ([] : List Keyword).length + (if ([] : List Keyword).isEmpty then 0 else 1) < 30)) = true := by rfl)
    (hline : (apos.endLine == cpos.line) = true := by rfl) (hline2 : (apos2.endLine == cpos2.line) = true := by rfl)
    (hs : starEach (.Call (.Attribute (.Name y p2) "pop" apos2) [e] [] cpos2 :: []) X.env = (false, eval (.Call (.Attribute (.Name y p2) "pop" apos2) [e] [] cpos2) X.env) :: starEach [] X.env := by rfl) (hs2 : starEach (e :: []) X.env = (false, eval e X.env) :: starEach [] X.env := by rfl)
    (hplain : (backTo cpos (starEach [] X.env)).any (·.1) = false := by rfl) (hplain2 : (backTo cpos2 (starEach [] X.env)).any (·.1) = false := by rfl)
    (hsw : swapsWith (.Call (.Attribute (.Name x p1) "append" apos) [.Call (.Attribute (.Name y p2) "pop" apos2) [e] [] cpos2] [] cpos) none pos.line X.env = pure false := by rfl) :
    PSD X g (.Expr (.Call (.Attribute (.Name x p1) "append" apos) [.Call (.Attribute (.Name y p2) "pop" apos2) [e] [] cpos2] [] cpos) pos) (sAppPop i j td) :=
  psd_of (ps_expr (pe_bm PySem.F.plainAttrs_list PySem.F.slot_list_append PySem.F.type_list_append mt_append (pe_var hN hv hd1 hcd) (pa_cons (pe_bm PySem.F.plainAttrs_list PySem.F.slot_list_pop PySem.F.type_list_pop mt_popAt (pe_var hN2 hv2 hd2 hcd2) (pa_cons pe_w pa_nil hs2) hbase2 hfew2 hline2 hs2 hplain2) pa_nil hs) hbase hfew hline hs hplain) hsw) fun b σ H env Dd E hd xl ⟨xs, ys, hx, hy, ne, h⟩ el => by
    obtain ⟨a, vs, S, q1, q2, _⟩ := hd.wr hx
    obtain ⟨c, ws, S2, r1, r2, _⟩ := hd.wr hy
    refine ⟨.ref a, q1, .inl ⟨rfl, vs, SqL.of q2⟩, .ref c, r1, .inl ⟨rfl, ws, SqL.of r2⟩, he b σ H env _ _ hd xl h fun zv z H1 e1 dn ⟨k, d, ez, hk, few, nl, hz, q⟩ => ?_⟩
    subst ez
    simp only [Den] at dn
    have hd1 := hd.mono e1
    obtain ⟨c', ws', S', w1, w2, w3, w4, w5, w6⟩ := hd1.wr hy
    rw [r1] at w1
    cases w1
    obtain ⟨v, hv', dv⟩ := w3.get hk
    have hkl : k < ys.length := (List.getElem?_eq_some_iff.mp hk).1
    have wl : ws'.length = ys.length := w3.len
    have b63 : (k : Int) < 2 ^ 63 := by rw [sizeLine_eq] at few; omega
    refine ⟨c, ws', k, k, v, rfl, by rw [dn], w2, by omega, b63, ?_, hv', ?_⟩
    · rw [seqIndex_of (Int.natCast_nonneg k) (by rw [wl]; exact_mod_cast hkl), Int.toNat_natCast]
    · have hd2 := w6 _ _ (dena_erase k w3)
      have hx2 : (env.set j (.own (ys.eraseIdx k)))[i]? = some (.own xs) := by rw [List.getElem?_set_ne (Ne.symm ne)]; exact hx
      obtain ⟨a', vs', S3, u1, u2, u3, u4, u5, u6⟩ := hd2.wr hx2
      rw [q1] at u1
      cases u1
      refine ⟨a, vs', v, rfl, rfl, u2, by rw [u3.len]; exact hz, el.nx _ _ _ (u6 _ _ (u3.app (.one (u4 v d nl ?_)))) q⟩
      obtain ⟨oa, g1, _, _, _⟩ := hd1.slots
      obtain ⟨⟨us, o1, o2, o3⟩, _⟩ := g1 j ys hy
      rw [r1] at o1
      cases o1
      rw [w2] at o2
      cases o2
      obtain ⟨v', e1', dv'⟩ := o3.get hk
      rw [hv'] at e1'
      cases e1'
      exact Den.weak (fun a z => .inl z) _ _ (Den.keep (Kp.mut (.inr ⟨j, ys, hy, rfl⟩)) _ _ dv')
end
end Zs

namespace Zs
open PySem PySem.Spec PyProof.Rows L2 Dl He
section
variable {X : Cx} {I : HI} {g : Gx} {e a b : Expr} {td ta tb : TED} {p pos p2 q : Pos} {x : Str}
def bIntB : FC := fun xs Q => (∃ i, xs = [.int i] ∧ Q (.int i)) ∨ ∃ c, xs = [.bl c] ∧ Q (.int (if c = true then 1 else 0))
theorem c_intB : RC X I (.type "int") bIntB := fun H xs ds Qd Q ok dn h k => by
  rcases h with ⟨i, e, h⟩ | ⟨c, e, h⟩
  · subst e
    obtain ⟨v, rfl, d1⟩ := dn.one1
    simp only [Den] at d1
    subst d1
    exact rc_of call_int1 (.inl ⟨i, rfl, k _ _ H (.refl ok) (by simp only [Den]) h⟩)
  · subst e
    obtain ⟨v, rfl, d1⟩ := dn.one1
    simp only [Den] at d1
    subst d1
    exact rc_of call_int1 (.inr ⟨c, rfl, k _ _ H (.refl ok) (by simp only [Den]) h⟩)
def rgD (i j : Int) : List D := (List.range (j - i).toNat).map fun k => D.int (i + (k : Nat))
theorem rg_den {K : PySem.W.Frag} {Av : Addr → Prop} {H : Hp} (i j : Int) : DenA K Av H (rgV i j) (rgD i j) := by
  unfold rgV rgD
  generalize List.range (j - i).toNat = l
  induction l with
  | nil => simp [DenA]
  | cons k l ih =>
    rw [List.map_cons, List.map_cons]
    simp only [DenA]
    exact ⟨_, _, rfl, by simp only [Den], ih⟩
def rgIn (i j : Int) : Prop := 0 ≤ i ∧ i ≤ 16777216 ∧ 0 ≤ j ∧ j ≤ 16777216
def fRg1 (td : TED) : TFD := fun env Q => td env fun d => ∃ n : Int, d = .int n ∧ rgIn 0 n ∧ Q (rgD 0 n)
theorem f_listRg1 (hc : X.calm = true) (hl : Gl X "list") (ml : X.mg "list" = none) (hg : Gl X "range") (hm : X.mg "range" = none) (ha : PED X g e td)
    (na : starEach [.Call (.Name "range" p2) [e] [] q] X.env = (false, eval (.Call (.Name "range" p2) [e] [] q) X.env) :: starEach [] X.env := by rfl) (na2 : starEach [e] X.env = (false, eval e X.env) :: starEach [] X.env := by rfl) :
    PFD X g (.Call (.Name "list" p) [.Call (.Name "range" p2) [e] [] q] [] pos) (fRg1 td) := fun b σ H env Qd Q hd xl hq k pins s J =>
  (pe_listRg hc hl ml (prg_1 hg hm pe_w na2) na).run pins s σ H Q J (ha b σ H env _ _ hd xl hq fun v d H1 e1 dn ⟨n, ed, ok, q⟩ => by
    subst ed
    simp only [Den] at dn
    exact ⟨n, dn, RgOk.of_le (Int.le_refl 0) ok.2.2.2 (by omega) ok.2.2.1, fun p hp => k p _ _ _ (e1.back hp) (e1.trans (.new e1.2 hp)) upd_same (new_lstF hp (rg_den 0 n)) q⟩)
structure TupG (K : PySem.W.Frag) (mg : Str → Option Value) (x : Str) (zs : List Str) : Prop where
  m : mg x = some (.ref (ga K x))
  t : KT K (ga K x) (zs.map V.str)
theorem strs_den {K : PySem.W.Frag} {Av : Addr → Prop} {H : Hp} : ∀ zs : List Str, DenA K Av H (zs.map V.str) (zs.map D.str)
  | [] => by simp [DenA]
  | z :: zs => by
    show DenA K Av H (V.str z :: zs.map V.str) (D.str z :: zs.map D.str)
    simp only [DenA]
    exact ⟨_, _, rfl, by simp only [Den], strs_den zs⟩
theorem KT.sqT {K : PySem.W.Frag} {H : Hp} {a : Addr} {vs : List V} (h : KT K a vs) : SqT K H a vs := TupA.sq (Av := fun _ => False) (.inr h)
theorem d_gtup {zs : List Str} (hg : Gl X x) (t : TupG X.K X.mg x zs) (hd : (x == ("__debug__" : Str)) = false := by decide) : PED X g (.Name x p) (dC (.tup (zs.map D.str))) :=
  ped_of (pe_glob (v := .ref (ga X.K x)) hg t.m rfl hd) (sd_c fun H => by
    simp only [Den]
    exact ⟨_, _, rfl, KT.sqT t.t, .inr t.t, strs_den zs⟩)
def tupGB (K : PySem.W.Frag) (x : Str) (zs : List Str) : Bool := match K.lookup (ga K x) with
  | some o => decide (o.cls = .type "tuple") && (match o.data with
    | .seq its _ => decide (its.size ≤ 1000) && (its.toList.map absV == zs.map fun z => some (V.str z))
    | _ => false)
  | none => false
end
end Zs

namespace Zs
open PySem PySem.Spec PyProof.Rows L2 Dl He
theorem str_abs {u : Value} {z : Str} (h : absV u = some (V.str z)) : RelV (V.str z) u := by
  cases u <;> simp only [absV, Option.some.injEq, reduceCtorEq] at h
  case str x t =>
    cases h
    exact ⟨t, rfl⟩
theorem strs_abs : ∀ {us : List Value} {zs : List Str}, us.map absV = zs.map (fun z => some (V.str z)) → Vals (zs.map V.str) us
  | [], [], _ => .nil
  | [], _ :: _, h => by cases h
  | _ :: _, [], h => by cases h
  | u :: us, z :: zs, h => by
    obtain ⟨h1, h2⟩ := List.cons.inj h
    exact .cons (str_abs h1) (strs_abs h2)
theorem tupG_of {K : PySem.W.Frag} {mg : Str → Option Value} {x : Str} {zs : List Str} (h : tupGB K x zs = true) (m : mg x = some (.ref (ga K x))) : TupG K mg x zs := by
  refine ⟨m, ?_⟩
  unfold tupGB at h
  cases e : K.lookup (ga K x) with
  | none => rw [e] at h; cases h
  | some o =>
    rw [e] at h
    dsimp only at h
    rw [Bool.and_eq_true] at h
    obtain ⟨h1, h2⟩ := h
    obtain ⟨cls, dd, data, sl⟩ := o
    cases data with
    | seq its n =>
      dsimp only at h2
      rw [Bool.and_eq_true] at h2
      obtain ⟨h3, h4⟩ := h2
      refine ⟨_, its, n, e, of_decide_eq_true h1, rfl, ?_, strs_abs (eq_of_beq h4)⟩
      have := of_decide_eq_true h3
      rw [sizeLine_eq]
      omega
    | _ => cases h2
section
variable {X : Cx} {I : HI}
theorem mul_one_t (l : Addr) (items : Array Value) (n : Nat) (dd : Option Addr) (sl : Array (Option Value)) (u : Tok) :
    Meets (Builtin.«tuple.__mul__» ⟨[.ref l, .int 1 u], []⟩) (fun _ R s => s.heap.get? l = some { cls := .type "tuple", dict := dd, data := .seq items n, slots := sl } ∧ R (.ok (.ret (Value.ref l))) s) :=
  .of_wp fun prog w A R s h => by
    obtain ⟨hp, g, d, tk, os⟩ := s
    obtain ⟨hl, h⟩ := h
    have f1 := AutoSeq1.idx_int
    have c1 : (items.isEmpty || (1 : Int) == 1) = true := by simp
    wp_walk using wpAny_loadPart' hl
    exact ⟨_, rfl, h⟩
theorem mul_none_t (l : Addr) (items : Array Value) (n : Nat) (dd : Option Addr) (sl : Array (Option Value)) (u : Tok) (ne : items.isEmpty = false) :
    Meets (Builtin.«tuple.__mul__» ⟨[.ref l, .int 0 u], []⟩) (fun _ R s => s.heap.get? l = some { cls := .type "tuple", dict := dd, data := .seq items n, slots := sl } ∧
      R (.ok (.ret (Value.ref s.heap.objs.size))) { s with heap := s.heap.push { cls := Value.type "tuple", data := Data.seq #[] }, toks := s.toks }) :=
  .of_wp fun prog w A R s h => by
    obtain ⟨hp, g, d, tk, os⟩ := s
    obtain ⟨hl, h⟩ := h
    have f1 := AutoSeq1.idx_int
    have c1 : (items.isEmpty || (0 : Int) == 1) = false := by rw [ne]; rfl
    wp_walk using wpAny_loadPart' hl
    repeat (first
      | (refine wpAny_ite_false (decide_eq_false (by rw [c1]; exact Bool.false_ne_true)) ?_; wp_walk using wpAny_loadPart' hl))
    exact ⟨_, rfl, h⟩
def rRepN (K : PySem.W.Frag) : R2 := fun x y H Q => ∃ l k xs, x = .ref l ∧ y = .int k ∧ SqT K H l xs ∧ xs ≠ [] ∧ 0 ≤ k ∧ k ≤ 1000 ∧ xs.length ≤ 1000 ∧ (k = 1 → Q (.ref l) H) ∧ (k ≠ 1 → ∀ p, H p = none → Q (.ref p) (upd H p (.tup (List.replicate k.toNat xs).flatten)))
theorem op_repN : OpR X (binaryOp .Mult) (rRepN X.K) := by
  intro pins s σ H x y v u Q J rx ry h
  obtain ⟨l, k, xs, rfl, rfl, hT, ne, k0, k1, few, q1, q2⟩ := h
  by_cases big : 2 ≤ k
  · exact op_repT pins s σ H _ _ v u Q J rx ry ⟨l, k, xs, rfl, rfl, hT, ne, big, k1, few, q2 (by omega)⟩
  · cases rx
    obtain ⟨t, rfl⟩ := ry
    obtain ⟨its, r, ⟨⟨cls, dd, data, sl⟩, ho, hc, n, hd⟩, hs⟩ := J.tuple hT
    simp only at hc hd
    subst hc hd
    have nei : its.toArray.isEmpty = false := by
      cases its with
      | nil => cases r; exact absurd rfl ne
      | cons a b => rfl
    refine wpAny_binaryOp_repeat_ref (T := "tuple") (U := "int") (by decide) ⟨_, ho, rfl⟩ (fun s' => typeIs_int s' k t) noFill_tuple_mul F.fills_int_mul F.slot_int_rmul repeat_tuple F.slot_int_index.lookup
      (call_meets F.slot_int_rmul (typeIs_int s k t) F.entry_int_rmul (F.args_int_rmul_2 _ _) (int_rmul_tuple k t l its.toArray n dd sl) ⟨ho, rfl, ⟨_, ho, rfl⟩, ?_⟩)
    rcases (show k = 0 ∨ k = 1 by omega) with e | e
    · subst e
      refine call_meets F.slot_tuple_mul ⟨_, ho, rfl⟩ F.entry_tuple_mul (F.args_tuple_mul_2 _ _) (mul_none_t l its.toArray n dd sl t nei) ⟨ho, ?_⟩
      refine ⟨.ref s.heap.objs.size, _, J.laid (t' := s.toks) (o := .tup []) (fun b ob q => Heap.get?_push_of_some _ q) (Nat.le_refl _) ⟨by show 0 ≤ sizeLine; decide, [], .nil, IsTup.new _ _⟩, rfl, q2 (by decide) _ (J.hok.fresh (Nat.le_refl _))⟩
    · subst e
      exact call_meets F.slot_tuple_mul ⟨_, ho, rfl⟩ F.entry_tuple_mul (F.args_tuple_mul_2 _ _) (mul_one_t l its.toArray n dd sl t) ⟨ho, ⟨.ref l, H, J, rfl, q1 rfl⟩⟩
def fRepT : F2 := fun x y Q => ∃ (xs : List D) (k : Int), x = .tup xs ∧ y = .int k ∧ xs ≠ [] ∧ 0 ≤ k ∧ k ≤ 1000 ∧ xs.length ≤ 1000 ∧ Q (.tup (List.replicate k.toNat xs).flatten)
theorem dena_rep {K : PySem.W.Frag} {Av : Addr → Prop} {H : Hp} {vs : List V} {ds : List D} (h : DenA K Av H vs ds) : ∀ n, DenA K Av H (List.replicate n vs).flatten (List.replicate n ds).flatten
  | 0 => by simp [DenA]
  | n + 1 => by
    rw [List.replicate_succ, List.replicate_succ, List.flatten_cons, List.flatten_cons]
    exact DenA.app h (dena_rep h n)
theorem r_repT : RD X I (binaryOp .Mult) fRepT := fun H x y dx dy Qd Q ok hx hy ⟨xs, k, e1, e2, ne, k0, k1, few, h⟩ kk => by
  subst e1 e2
  have hx' := hx
  simp only [Den] at hx hy
  obtain ⟨a, vs, rfl, s1, n1, r1⟩ := hx
  refine rw2_of op_repN ⟨a, k, vs, rfl, hy, s1, fun e => ne ?_, k0, k1, by rw [r1.len]; exact few, fun e => ?_, fun e p hp => ?_⟩
  · rw [← List.length_eq_zero_iff, ← r1.len, e]; rfl
  · subst e
    exact kk _ _ H (.refl ok) hx' (by simpa using h)
  · exact kk _ _ _ (.new ok hp) (new_tup ok hp (dena_rep r1 _)) h
end
end Zs

namespace Zz
open PySem PySem.Spec PyProof.Rows L2
def Sq : Bool → Heap → Addr → Array Value → Prop
  | true, h, l, xs => h.IsTuple l xs
  | false, h, l, xs => h.IsList l xs
def Wk : Bool → Heap → Addr → Addr → Nat → Prop
  | true, h, it, l, k => h.IsTupleIter it l k
  | false, h, it, l, k => h.IsListIter it l k
abbrev wkName (b : Bool) : String := if b = true then "tuple_iterator" else "list_iterator"
abbrev wkObj (b : Bool) (l : Addr) : Obj := { cls := .type (wkName b), data := .fields #[.ref l, .int 0 0] }
structure Leg (b : Bool) (it l : Addr) (xs : Array Value) (k : Nat) (h : Heap) : Prop where
  sq : Sq b h l xs
  wk : Wk b h it l k
section
variable {b : Bool} {it l : Addr} {xs : Array Value} {k : Nat} {h h' : Heap}
theorem Sq.far {c : Addr} (x : Sq b h l xs) (m : Heap.ExtBut c h h') (n : l ≠ c) : Sq b h' l xs := by
  cases b with
  | true => exact Heap.IsTuple.extBut (show h.IsTuple l xs from x) m n
  | false => exact Heap.IsList.extBut (show h.IsList l xs from x) m n
theorem Wk.far {c : Addr} (x : Wk b h it l k) (m : Heap.ExtBut c h h') (n : it ≠ c) : Wk b h' it l k := by
  cases b with
  | true => exact Heap.IsTupleIter.extBut (show h.IsTupleIter it l k from x) m n
  | false => exact Heap.IsListIter.extBut (show h.IsListIter it l k from x) m n
theorem Leg.far {c : Addr} (x : Leg b it l xs k h) (m : Heap.ExtBut c h h') (n1 : it ≠ c) (n2 : l ≠ c) : Leg b it l xs k h' := ⟨x.sq.far m n2, x.wk.far m n1⟩
theorem Wk.at (x : Wk b h it l k) (m : ∀ o, h.get? it = some o → h'.get? it = some o) : Wk b h' it l k := by
  cases b with
  | true => exact Heap.IsTupleIter.at (show h.IsTupleIter it l k from x) m
  | false => exact Heap.IsListIter.at (show h.IsListIter it l k from x) m
theorem Wk.ob (x : Wk b h it l k) : ∃ o, h.get? it = some o ∧ ∀ v, o.data ≠ .cell v := by
  cases b with
  | true =>
    obtain ⟨o, e, _, d⟩ := (show h.IsTupleIter it l k from x)
    exact ⟨o, e, fun v z => by rw [d] at z; cases z⟩
  | false =>
    obtain ⟨o, e, _, d⟩ := (show h.IsListIter it l k from x)
    exact ⟨o, e, fun v z => by rw [d] at z; cases z⟩
theorem Wk.lt (x : Wk b h it l k) : it < h.objs.size := let ⟨_, e, _⟩ := x.ob; Heap.lt_size e
variable {P : Program} {w : World} {A : Around} {E : Value → Shared → Prop} {s : Shared}
theorem Leg.item {x : Value} {Q : Value → Shared → Prop} (L : Leg b it l xs k s.heap) (apart : l ≠ it) (hx : xs[k]? = some x) (q : ∀ h', Leg b it l xs (k + 1) h' → Heap.SameBut it s.heap h' → Q x { s with heap := h' }) :
    wpAny (model P w) A (Builtin.SmallTypes.nextOf (.ref it)) Q E s := by
  obtain ⟨sq, wk⟩ := L
  cases b with
  | true => exact RZ.nextOf_tuple_item wk sq hx fun h' a m => q h' ⟨Sq.far (b := true) sq m.extBut apart, a⟩ m
  | false => exact wpAny_nextOf_list_item wk sq hx fun h' a m => q h' ⟨Sq.far (b := false) sq m.extBut apart, a⟩ m
theorem Leg.stop {Q : Value → Shared → Prop} (hh : A.handled = none) (L : Leg b it l xs k s.heap) (hx : xs[k]? = none)
    (q : ∀ h' e, Heap.ExtBut it s.heap h' → (∃ o, h'.get? e = some o ∧ o.cls = .type "StopIteration") → E (.ref e) { s with heap := h' }) : wpAny (model P w) A (Builtin.SmallTypes.nextOf (.ref it)) Q E s := by
  obtain ⟨sq, wk⟩ := L
  cases b with
  | true => exact RZ.nextOf_tuple_end hh wk sq hx q
  | false => exact wpAny_nextOf_list_end hh wk sq hx q
end
section
variable {P : Program} {w : World} {A : Around} {E : Value → Shared → Prop} {s : Shared} {b1 b2 : Bool} {z TI TO i1 i2 l1 l2 : Addr} {k : Nat} {xs ys : Array Value} {x y u v : Value}
structure Mid (b1 b2 : Bool) (z TI TO i1 i2 l1 l2 : Addr) (xs ys : Array Value) (k : Nat) (h : Heap) : Prop where
  z : IsZip h z TI TO .none
  ti : IsPair h TI (.ref i1) (.ref i2)
  to : ∃ u v, IsPair h TO u v
  a : Leg b1 i1 l1 xs k h
  b : Leg b2 i2 l2 ys k h
theorem turn_item {Q : Value → Shared → Prop} (D : ZipApart z TI TO i1 i2 l1 l2) (M : Mid b1 b2 z TI TO i1 i2 l1 l2 xs ys k s.heap) (hx : xs[k]? = some x) (hy : ys[k]? = some y)
    (hQ : ∀ h', IsZip h' z TI TO (rawInt s.heap.objs.size) → IsPair h' TO x y → Wk b1 h' i1 l1 (k + 1) → Wk b2 h' i2 l2 (k + 1) → IsPair h' s.heap.objs.size x y → h'.objs.size = s.heap.objs.size + 1 →
      (∀ c o, c ≠ z → c ≠ TO → c ≠ i1 → c ≠ i2 → s.heap.get? c = some o → h'.get? c = some o) → Q (.ref s.heap.objs.size) { s with heap := h' }) :
    wpAny (model P w) A (Builtin.«zip.__next__» ⟨[.ref z], []⟩) (fun fin s' => ∃ v, fin = .done (.ret v) ∧ Q v s') E s := by
  obtain ⟨Mz, Mi, ⟨u, v, Mo⟩, L1, L2⟩ := M
  show wpAny _ _ (field (.ref z) 2 >>= _) _ _ _
  refine wpAny_bind (wpAny_field Mz rfl (x := .bool false) rfl ?_)
  show wpAny _ _ (field (.ref z) 3 >>= _) _ _ _
  refine wpAny_bind (wpAny_field Mz rfl (x := .ref TI) rfl (wpAny_bind (wpAny_seqItems Mi rfl ?_)))
  show wpAny _ _ (Builtin.SmallTypes.ownedTupleIsFree (.ref z) >>= _) _ _ _
  unfold Builtin.SmallTypes.ownedTupleIsFree
  refine wpAny_bind (wpAny_bind (wpAny_field Mz rfl (x := .none) rfl (wpAny_pure ?_)))
  simp only [if_true]
  refine wpAny_bind (wpAny_rule (wpAny_bind (wpAny_field Mz rfl (x := .ref TO) rfl (wpAny_bind (wpAny_setField_rec Mz (by simp) fun g1 Gz1 S1 => ?_)))))
  have Gz1 : IsZip g1 z TI TO .ellipsis := Gz1
  refine wpAny_bind ?_
  simp only [List.zipIdx_cons, List.zipIdx_nil, List.forIn_cons, List.forIn_nil]
  have A1 : Leg b1 i1 l1 xs k g1 := L1.far S1.extBut D.i1z D.l1z
  have B1 : Leg b2 i2 l2 ys k g1 := L2.far S1.extBut D.i2z D.l2z
  have O1 : IsPair g1 TO u v := S1.extBut _ _ D.TOz Mo
  refine wpAny_bind (wpAny_bind (wpAny_onRaise ?_))
  show wpAny _ _ (Builtin.SmallTypes.nextOf (.ref i1) >>= _) _ _ _
  refine wpAny_bind (A1.item D.l1i1 hx fun g2 A2 S2 => wpAny_pure ?_)
  have B2 : Leg b2 i2 l2 ys k g2 := B1.far S2.extBut D.i12.symm D.l2i1
  have O2 : IsPair g2 TO u v := S2.extBut _ _ D.TOi1 O1
  refine wpAny_bind (wpAny_seqItems O2 rfl (wpAny_bind (wpAny_updateSeq_pair O2 fun g3 O3 S3 => ?_)))
  have O3 : IsPair g3 TO x v := O3
  refine wpAny_bind (wpAny_letGo (wpAny_pure ?_))
  have A3 : Leg b1 i1 l1 xs (k + 1) g3 := A2.far S3.extBut D.TOi1.symm D.l1TO
  have B3 : Leg b2 i2 l2 ys k g3 := B2.far S3.extBut D.TOi2.symm D.l2TO
  refine wpAny_bind (wpAny_bind (wpAny_onRaise ?_))
  show wpAny _ _ (Builtin.SmallTypes.nextOf (.ref i2) >>= _) _ _ _
  refine wpAny_bind (B3.item D.l2i2 hy fun g4 B4 S4 => wpAny_pure ?_)
  have A4 : Leg b1 i1 l1 xs (k + 1) g4 := A3.far S4.extBut D.i12 D.l1i2
  have O4 : IsPair g4 TO x v := S4.extBut _ _ D.TOi2 O3
  refine wpAny_bind (wpAny_seqItems O4 rfl (wpAny_bind (wpAny_updateSeq_pair O4 fun g5 O5 S5 => ?_)))
  have O5 : IsPair g5 TO x y := O5
  refine wpAny_bind (wpAny_letGo (wpAny_pure (wpAny_pure ?_)))
  have A5 : Leg b1 i1 l1 xs (k + 1) g5 := A4.far S5.extBut D.TOi1.symm D.l1TO
  have B5 : Leg b2 i2 l2 ys (k + 1) g5 := B4.far S5.extBut D.TOi2.symm D.l2TO
  have kept : ∀ c o, c ≠ z → c ≠ TO → c ≠ i1 → c ≠ i2 → s.heap.get? c = some o → g5.get? c = some o := fun c o n1 n2 n3 n4 e =>
    S5.extBut _ _ n2 (S4.extBut _ _ n4 (S3.extBut _ _ n2 (S2.extBut _ _ n3 (S1.extBut _ _ n1 e))))
  have Gz5 : IsZip g5 z TI TO .ellipsis := S5.extBut _ _ D.TOz.symm (S4.extBut _ _ D.i2z.symm (S3.extBut _ _ D.TOz.symm (S2.extBut _ _ D.i1z.symm Gz1)))
  have size : g5.objs.size = s.heap.objs.size := by rw [S5.1, S4.1, S3.1, S2.1, S1.1]
  have zl : z < g5.objs.size := Heap.lt_size Gz5
  refine wpAny_bind (wpAny_seqItems O5 rfl (wpAny_bind (wpAny_newTuple ?_)))
  show wpAny _ _ (Builtin.SmallTypes.ownedTupleHandOut (.ref z) (.ref g5.objs.size) >>= _) _ _ _
  unfold Builtin.SmallTypes.ownedTupleHandOut
  have Gz6 : IsZip (g5.push { cls := .type "tuple", data := .seq #[x, y] }) z TI TO .ellipsis := Heap.get?_push_of_some _ Gz5
  refine wpAny_bind (wpAny_bind (wpAny_setField_rec Gz6 (by simp) fun g7 Gz7 S7 => ?_))
  have Gz7 : IsZip g7 z TI TO (rawInt g5.objs.size) := Gz7
  refine wpAny_setField_rec Gz7 (by simp) fun g8 Gz8 S8 => ?_
  have Gz8 : IsZip g8 z TI TO (rawInt g5.objs.size) := Gz8
  have up : ∀ c o, c ≠ z → g5.get? c = some o → g8.get? c = some o := fun c o n e => S8.extBut _ _ n (S7.extBut _ _ n (Heap.get?_push_of_some _ e))
  have new : IsPair g8 g5.objs.size x y := S8.extBut _ _ (Nat.ne_of_gt zl) (S7.extBut _ _ (Nat.ne_of_gt zl) (Heap.get?_push_size _ rfl))
  have size8 : g8.objs.size = g5.objs.size + 1 := by rw [S8.1, S7.1, Heap.size_push]
  refine wpAny_pure ⟨_, rfl, ?_⟩
  show Q (.ref g5.objs.size) _
  rw [size] at Gz8 new size8 ⊢
  exact hQ g8 Gz8 (up _ _ D.TOz O5) (A5.wk.at fun o => up _ o D.i1z) (B5.wk.at fun o => up _ o D.i2z) new size8 fun c o n1 n2 n3 n4 e => up c o n1 (kept c o n1 n2 n3 n4 e)
end
end Zz

namespace Zz
open PySem PySem.Spec PyProof.Rows L2
section
variable {P : Program} {w : World} {A : Around} {E : Value → Shared → Prop} {s : Shared} {b1 b2 : Bool} {z TI TO i1 i2 l1 l2 : Addr} {k : Nat} {xs ys : Array Value} {x y u v : Value}
abbrev Far (z TO i1 i2 : Addr) (h h' : Heap) : Prop := ∀ c o, c ≠ z → c ≠ TO → c ≠ i1 → c ≠ i2 → h.get? c = some o → h'.get? c = some o
theorem turn_end {Q : Fin → Shared → Prop} (hh : A.handled = none) (D : ZipApart z TI TO i1 i2 l1 l2) (M : Mid b1 b2 z TI TO i1 i2 l1 l2 xs ys k s.heap) (he : xs[k]? = none ∨ ys[k]? = none)
    (hE : ∀ h' e, Far z TO i1 i2 s.heap h' → (∃ o, h'.get? e = some o ∧ o.cls = .type "StopIteration") → E (.ref e) { s with heap := h' }) : wpAny (model P w) A (Builtin.«zip.__next__» ⟨[.ref z], []⟩) Q E s := by
  obtain ⟨Mz, Mi, ⟨u, v, Mo⟩, L1, L2⟩ := M
  show wpAny _ _ (field (.ref z) 2 >>= _) _ _ _
  refine wpAny_bind (wpAny_field Mz rfl (x := .bool false) rfl ?_)
  show wpAny _ _ (field (.ref z) 3 >>= _) _ _ _
  refine wpAny_bind (wpAny_field Mz rfl (x := .ref TI) rfl (wpAny_bind (wpAny_seqItems Mi rfl ?_)))
  show wpAny _ _ (Builtin.SmallTypes.ownedTupleIsFree (.ref z) >>= _) _ _ _
  unfold Builtin.SmallTypes.ownedTupleIsFree
  refine wpAny_bind (wpAny_bind (wpAny_field Mz rfl (x := .none) rfl (wpAny_pure ?_)))
  simp only [if_true]
  refine wpAny_bind (wpAny_rule (wpAny_bind (wpAny_field Mz rfl (x := .ref TO) rfl (wpAny_bind (wpAny_setField_rec Mz (by simp) fun g1 Gz1 S1 => ?_)))))
  have Gz1 : IsZip g1 z TI TO .ellipsis := Gz1
  refine wpAny_bind ?_
  simp only [List.zipIdx_cons, List.zipIdx_nil, List.forIn_cons, List.forIn_nil]
  have A1 : Leg b1 i1 l1 xs k g1 := L1.far S1.extBut D.i1z D.l1z
  have B1 : Leg b2 i2 l2 ys k g1 := L2.far S1.extBut D.i2z D.l2z
  have O1 : IsPair g1 TO u v := S1.extBut _ _ D.TOz Mo
  refine wpAny_bind (wpAny_bind (wpAny_onRaise ?_))
  show wpAny _ _ (Builtin.SmallTypes.nextOf (.ref i1) >>= _) _ _ _
  have last : ∀ {g : Heap} {e : Addr}, IsZip g z TI TO .ellipsis → (∃ o, g.get? e = some o ∧ o.cls = .type "StopIteration") → e ≠ z := fun {g e} G he q => by
    obtain ⟨o, ho, hc⟩ := he
    rw [q, G] at ho
    cases ho
    simp at hc
  cases hx : xs[k]? with
  | none =>
    refine wpAny_bind (A1.stop hh hx fun g2 e S2 ⟨o, ho, hc⟩ => ?_)
    have Gz2 : IsZip g2 z TI TO .ellipsis := S2 _ _ D.i1z.symm Gz1
    have ne := last Gz2 ⟨o, ho, hc⟩
    exact wpAny_setField_rec Gz2 (by simp) fun g3 _ S3 => hE g3 e (fun c o n1 _ n3 _ q => S3.extBut _ _ n1 (S2 _ _ n3 (S1.extBut _ _ n1 q))) ⟨o, S3.extBut _ _ ne ho, hc⟩
  | some x =>
    have hy : ys[k]? = none := he.resolve_left fun q => by rw [hx] at q; cases q
    refine wpAny_bind (A1.item D.l1i1 hx fun g2 A2 S2 => wpAny_pure ?_)
    have B2 : Leg b2 i2 l2 ys k g2 := B1.far S2.extBut D.i12.symm D.l2i1
    have O2 : IsPair g2 TO u v := S2.extBut _ _ D.TOi1 O1
    refine wpAny_bind (wpAny_seqItems O2 rfl (wpAny_bind (wpAny_updateSeq_pair O2 fun g3 O3 S3 => ?_)))
    refine wpAny_bind (wpAny_letGo (wpAny_pure ?_))
    have B3 : Leg b2 i2 l2 ys k g3 := B2.far S3.extBut D.TOi2.symm D.l2TO
    refine wpAny_bind (wpAny_bind (wpAny_onRaise ?_))
    show wpAny _ _ (Builtin.SmallTypes.nextOf (.ref i2) >>= _) _ _ _
    refine wpAny_bind (B3.stop hh hy fun g4 e S4 ⟨o, ho, hc⟩ => ?_)
    have Gz4 : IsZip g4 z TI TO .ellipsis := S4 _ _ D.i2z.symm (S3.extBut _ _ D.TOz.symm (S2.extBut _ _ D.i1z.symm Gz1))
    have ne := last Gz4 ⟨o, ho, hc⟩
    exact wpAny_setField_rec Gz4 (by simp) fun g5 _ S5 => hE g5 e (fun c o n1 n2 n3 n4 q => S5.extBut _ _ n1 (S4 _ _ n4 (S3.extBut _ _ n2 (S2.extBut _ _ n3 (S1.extBut _ _ n1 q))))) ⟨o, S5.extBut _ _ ne ho, hc⟩
theorem next_item {Q : Option Value → Shared → Prop} (D : ZipApart z TI TO i1 i2 l1 l2) (M : Mid b1 b2 z TI TO i1 i2 l1 l2 xs ys k s.heap) (hx : xs[k]? = some x) (hy : ys[k]? = some y)
    (hQ : ∀ h', IsZip h' z TI TO (rawInt s.heap.objs.size) → IsPair h' TO x y → Wk b1 h' i1 l1 (k + 1) → Wk b2 h' i2 l2 (k + 1) → IsPair h' s.heap.objs.size x y → h'.objs.size = s.heap.objs.size + 1 →
      Far z TO i1 i2 s.heap h' → Q (some (.ref s.heap.objs.size)) { s with heap := h' }) : wpAny (model P w) A (pyNext (.ref z)) Q E s := by
  have ty : s.TypeIs (.ref z) "zip" := ⟨_, M.z, rfl⟩
  unfold pyNext
  exact wpAny_bind (wpAny_attempt (wpAny_callSpecial?_slot (name := Str.ofString "__next__") ty F.slot_zip_next (wpAny_call_entry F.slot_zip_next ty F.entry_zip_next
    (turn_item D M hx hy fun h' a1 a2 a3 a4 a5 a6 a7 => wpAny_pure (hQ h' a1 a2 a3 a4 a5 a6 a7)) (F.args_zip_next_1 _))))
theorem next_end {Q : Option Value → Shared → Prop} (hh : A.handled = none) (D : ZipApart z TI TO i1 i2 l1 l2) (M : Mid b1 b2 z TI TO i1 i2 l1 l2 xs ys k s.heap) (he : xs[k]? = none ∨ ys[k]? = none)
    (hQ : ∀ h', Far z TO i1 i2 s.heap h' → Q none { s with heap := h' }) : wpAny (model P w) A (pyNext (.ref z)) Q E s := by
  have ty : s.TypeIs (.ref z) "zip" := ⟨_, M.z, rfl⟩
  unfold pyNext
  refine wpAny_bind (wpAny_attempt (wpAny_callSpecial?_slot (name := Str.ofString "__next__") ty F.slot_zip_next (wpAny_call_entry F.slot_zip_next ty F.entry_zip_next
    (turn_end (by simpa using hh) D M he fun h' e far ⟨o, ho, hc⟩ => ?_) (F.args_zip_next_1 _))))
  exact wpAny_bind (wpAny_isInstance (T := "StopIteration") (b := true) ⟨o, ho, hc⟩ isSubtype_stop (wpAny_pure (hQ _ far)))
abbrev g1 (b1 : Bool) (h : Heap) (l1 : Addr) : Heap := h.push (wkObj b1 l1)
abbrev g2 (b1 b2 : Bool) (h : Heap) (l1 l2 : Addr) : Heap := (g1 b1 h l1).push (wkObj b2 l2)
abbrev g3 (b1 b2 : Bool) (h : Heap) (l1 l2 : Addr) : Heap := (g2 b1 b2 h l1 l2).push { cls := .type "tuple", data := .seq #[.ref h.objs.size, .ref (g1 b1 h l1).objs.size] }
abbrev g4 (b1 b2 : Bool) (h : Heap) (l1 l2 : Addr) : Heap := (g3 b1 b2 h l1 l2).push { cls := .type "tuple", data := .seq #[.none, .none] }
abbrev g5 (b1 b2 : Bool) (h : Heap) (l1 l2 : Addr) : Heap := (g4 b1 b2 h l1 l2).push { cls := .type "zip", data := .fields #[.none, .bool false, .bool false, .ref (g2 b1 b2 h l1 l2).objs.size, .ref (g3 b1 b2 h l1 l2).objs.size] }
theorem Sq.push {b : Bool} {h : Heap} {l : Addr} {xs : Array Value} {o : Obj} (x : Sq b h l xs) : Sq b (h.push o) l xs := by
  cases b with
  | true => exact Heap.IsTuple.push (show h.IsTuple l xs from x) _
  | false => exact Heap.IsList.push (show h.IsList l xs from x) _
theorem new_zip (b1 b2 : Bool) (l1 l2 : Addr) (xs ys : Array Value) :
    Meets (Builtin.«zip.__new__» ⟨[.type "zip", .ref l1, .ref l2], []⟩) (fun _ R s => Sq b1 s.heap l1 xs ∧ Sq b2 s.heap l2 ys ∧ R (.ok (.ret (.ref (g4 b1 b2 s.heap l1 l2).objs.size))) { s with heap := g5 b1 b2 s.heap l1 l2 }) :=
  .of_wp fun prog w A R s h => by
    obtain ⟨hp, g, d, tk, os⟩ := s
    obtain ⟨h1, h2, h⟩ := h
    have hsub := sub_zip
    have s1 : Sq b1 (Shared.heap ⟨hp, g, d, tk, os⟩) l1 xs := h1
    have s2 : Sq b2 (Shared.heap ⟨hp.push (wkObj b1 l1), g, d, tk, os⟩) l2 ys := Sq.push h2
    cases b1 <;> cases b2
    · have e1 : Heap.IsList (Shared.heap ⟨hp, g, d, tk, os⟩) l1 xs := s1
      have e2 : Heap.IsList (Shared.heap ⟨hp.push { cls := .type "list_iterator", data := .fields #[.ref l1, .int 0 0] }, g, d, tk, os⟩) l2 ys := s2
      wp_walk using wpAny_pyIter_list e1, wpAny_pyIter_list e2
      exact ⟨_, rfl, h⟩
    · have e1 : Heap.IsList (Shared.heap ⟨hp, g, d, tk, os⟩) l1 xs := s1
      have e2 : Heap.IsTuple (Shared.heap ⟨hp.push { cls := .type "list_iterator", data := .fields #[.ref l1, .int 0 0] }, g, d, tk, os⟩) l2 ys := s2
      wp_walk using wpAny_pyIter_list e1, wpAny_pyIter_tuple e2
      exact ⟨_, rfl, h⟩
    · have e1 : Heap.IsTuple (Shared.heap ⟨hp, g, d, tk, os⟩) l1 xs := s1
      have e2 : Heap.IsList (Shared.heap ⟨hp.push { cls := .type "tuple_iterator", data := .fields #[.ref l1, .int 0 0] }, g, d, tk, os⟩) l2 ys := s2
      wp_walk using wpAny_pyIter_tuple e1, wpAny_pyIter_list e2
      exact ⟨_, rfl, h⟩
    · have e1 : Heap.IsTuple (Shared.heap ⟨hp, g, d, tk, os⟩) l1 xs := s1
      have e2 : Heap.IsTuple (Shared.heap ⟨hp.push { cls := .type "tuple_iterator", data := .fields #[.ref l1, .int 0 0] }, g, d, tk, os⟩) l2 ys := s2
      wp_walk using wpAny_pyIter_tuple e1, wpAny_pyIter_tuple e2
      exact ⟨_, rfl, h⟩
theorem wk_new {b : Bool} {h : Heap} {l it : Addr} (e : h.get? it = some (wkObj b l)) : Wk b h it l 0 := by
  cases b with
  | true => exact ⟨_, e, rfl, rfl⟩
  | false => exact ⟨_, e, rfl, rfl⟩
theorem call_zip {Q : Value → Shared → Prop} (h1 : Sq b1 s.heap l1 xs) (h2 : Sq b2 s.heap l2 ys)
    (h : ∀ h', IsZip h' (s.heap.objs.size + 4) (s.heap.objs.size + 2) (s.heap.objs.size + 3) .none → IsPair h' (s.heap.objs.size + 2) (.ref s.heap.objs.size) (.ref (s.heap.objs.size + 1)) →
      IsPair h' (s.heap.objs.size + 3) .none .none → Wk b1 h' s.heap.objs.size l1 0 → Wk b2 h' (s.heap.objs.size + 1) l2 0 →
      (∀ c o, s.heap.get? c = some o → h'.get? c = some o) → Q (.ref (s.heap.objs.size + 4)) { s with heap := h' }) : wpAny (model P w) A (call (.type "zip") [.ref l1, .ref l2]) Q E s := by
  refine callType_new F.called_zip (by decide) (F.typeCall_zip_2 _ _) (F.newCall_zip_2 _ _) (fun obj => F.args_object_init_3 obj _ _) F.entry_zip_new (new_zip b1 b2 l1 l2 xs ys) ⟨h1, h2, ?_⟩
  have n1 : (g1 b1 s.heap l1).objs.size = s.heap.objs.size + 1 := Heap.size_push ..
  have n2 : (g2 b1 b2 s.heap l1 l2).objs.size = s.heap.objs.size + 2 := by rw [Heap.size_push, n1]
  have n3 : (g3 b1 b2 s.heap l1 l2).objs.size = s.heap.objs.size + 3 := by rw [Heap.size_push, n2]
  have n4 : (g4 b1 b2 s.heap l1 l2).objs.size = s.heap.objs.size + 4 := by rw [Heap.size_push, n3]
  have o5 : (g5 b1 b2 s.heap l1 l2).get? (g4 b1 b2 s.heap l1 l2).objs.size = some _ := Heap.get?_push_size _ rfl
  have o4 : (g5 b1 b2 s.heap l1 l2).get? (g3 b1 b2 s.heap l1 l2).objs.size = some _ := Heap.get?_push_of_some _ (Heap.get?_push_size _ rfl)
  have o3 : (g5 b1 b2 s.heap l1 l2).get? (g2 b1 b2 s.heap l1 l2).objs.size = some _ := Heap.get?_push_of_some _ (Heap.get?_push_of_some _ (Heap.get?_push_size _ rfl))
  have o2 : (g5 b1 b2 s.heap l1 l2).get? (g1 b1 s.heap l1).objs.size = some (wkObj b2 l2) := Heap.get?_push_of_some _ (Heap.get?_push_of_some _ (Heap.get?_push_of_some _ (Heap.get?_push_size _ rfl)))
  have o1 : (g5 b1 b2 s.heap l1 l2).get? s.heap.objs.size = some (wkObj b1 l1) := Heap.get?_push_of_some _ (Heap.get?_push_of_some _ (Heap.get?_push_of_some _ (Heap.get?_push_of_some _ (Heap.get?_push_size _ rfl))))
  show _ ∧ _
  rw [n2, n3, n4] at o5
  rw [n1, n2] at o3
  rw [n3] at o4
  rw [n1] at o2
  rw [n4]
  exact ⟨⟨_, o5, rfl⟩, h _ o5 o3 o4 (wk_new o1) (wk_new o2) fun c o q => Heap.get?_push_of_some _ (Heap.get?_push_of_some _ (Heap.get?_push_of_some _ (Heap.get?_push_of_some _ (Heap.get?_push_of_some _ q))))⟩
end
end Zz

namespace Zz
open PySem PySem.Spec PyProof.Rows L2 Dl
def SqV (K : PySem.W.Frag) : Bool → Hp → Addr → List V → Prop
  | true, H, a, xs => SqT K H a xs
  | false, H, a, xs => SqL K H a xs
section
variable {X : Cx} {pins : List (Addr × Obj)} {σ : L2.St} {H : Hp} {s : Shared} {b : Bool} {a : Addr} {xs ys : List V}
theorem SqV.vals (I : Inv X pins σ H s) (h : SqV X.K b H a xs) : ∃ its, Vals xs its ∧ Sq b s.heap a its.toArray := by
  cases b with
  | true =>
    obtain ⟨its, rv, p, _⟩ := I.tuple (show SqT X.K H a xs from h)
    exact ⟨its, rv, p⟩
  | false =>
    obtain ⟨its, rv, p, _⟩ := I.list (show SqL X.K H a xs from h)
    exact ⟨its, rv, p.isList⟩
theorem SqV.inj (I : Inv X pins σ H s) (h : SqV X.K b H a xs) (h2 : SqV X.K b H a ys) : xs = ys := by
  cases b with
  | true => exact I.tuple_inj h h2
  | false => exact I.list_inj h h2
end
theorem Sq.lt {b : Bool} {h : Heap} {l : Addr} {xs : Array Value} (x : Sq b h l xs) : l < h.objs.size := by
  cases b with
  | true => obtain ⟨o, ho, _⟩ := (show h.IsTuple l xs from x); exact Heap.lt_size ho
  | false => obtain ⟨o, ho, _⟩ := (show h.IsList l xs from x); exact Heap.lt_size ho
def Itw (K : PySem.W.Frag) (b1 b2 : Bool) (l1 l2 : Addr) : It :=
  ⟨fun i H => ∃ (xs ys : List V) (x y : V), SqV K b1 H l1 xs ∧ SqV K b2 H l2 ys ∧ xs[i]? = some x ∧ ys[i]? = some y,
    fun i H v H' => ∃ T x y, v = .ref T ∧ H T = none ∧ H' = upd H T (.tup [x, y]) ∧ (∀ xs, SqV K b1 H l1 xs → xs[i]? = some x) ∧ ∀ ys, SqV K b2 H l2 ys → ys[i]? = some y,
    fun i H => ∃ xs ys : List V, SqV K b1 H l1 xs ∧ SqV K b2 H l2 ys ∧ (xs.length ≤ i ∨ ys.length ≤ i)⟩
theorem five {c z TI TO i1 i2 : Addr} (h : c ∈ [z, TI, TO, i1, i2]) : c = z ∨ c = TI ∨ c = TO ∨ c = i1 ∨ c = i2 := by simpa using h
theorem turn_zip {P : Program} {w : World} {K : PySem.W.Frag} {b1 b2 : Bool} {elts : List Expr} {kk : Nat} {tpos : Pos} {l1 l2 z TI TO i1 i2 : Addr} (D : ZipApart z TI TO i1 i2 l1 l2) :
    Turn P w K (.Tuple elts kk tpos) (Itw K b1 b2 l1 l2) [z, TI, TO, i1, i2] z (fun i h => IsZip h z TI TO .none ∧ IsPair h TI (.ref i1) (.ref i2) ∧ (∃ x y, IsPair h TO x y) ∧ Wk b1 h i1 l1 i ∧ Wk b2 h i2 l2 i) where
  mem := List.mem_cons_self
  obj := fun i h st c hc => by
    obtain ⟨m1, m2, ⟨x, y, m3⟩, m4, m5⟩ := st
    rcases five hc with q | q | q | q | q <;> subst q
    · exact ⟨_, m1, fun v q => nomatch q⟩
    · exact ⟨_, m2, fun v q => nomatch q⟩
    · exact ⟨_, m3, fun v q => nomatch q⟩
    · exact m4.ob
    · exact m5.ob
  keep := fun i h h' st k => by
    obtain ⟨m1, m2, ⟨x, y, m3⟩, m4, m5⟩ := st
    exact ⟨k z (by simp) _ m1, k TI (by simp) _ m2, ⟨x, y, k TO (by simp) _ m3⟩, m4.at fun o q => k i1 (by simp) o q, m5.at fun o q => k i2 (by simp) o q⟩
  item := by
    intro X hP hw hK hc i pins s σ H E I hf st hg
    subst hP hw hK
    obtain ⟨m1, m2, m3, m4, m5⟩ := st
    obtain ⟨xs, ys, x, y, q1, q2, hx, hy⟩ := hg
    obtain ⟨us, r1, p1⟩ := q1.vals I
    obtain ⟨ws, r2, p2⟩ := q2.vals I
    obtain ⟨u, hu, ru⟩ := r1.get hx
    obtain ⟨v, hv, rv⟩ := r2.get hy
    have zl : z < s.heap.objs.size := Heap.lt_size m1
    refine next_item D ⟨m1, m2, m3, ⟨p1, m4⟩, ⟨p2, m5⟩⟩ (x := u) (y := v) (by simpa using hu) (by simpa using hv) fun h' n1 n3 n4 n5 nT _ far => ?_
    refine ⟨_, rfl, wpAny_letOwnedTupleGo_zip (s := { s with heap := h' }) n1 fun h'' n1' sb => ?_⟩
    have tup : h''.get? s.heap.objs.size = some { cls := .type "tuple", data := .seq #[u, v] } := (sb.2 _ (Nat.ne_of_gt zl)).trans nT
    have new : ObjOk X.prog X.w (upd H s.heap.objs.size (.tup [x, y])) h'' s.heap.objs.size (.tup [x, y]) := ⟨by show 2 ≤ sizeLine; decide, [u, v], .cons ru (.cons rv .nil), ⟨_, tup, rfl, _, rfl⟩⟩
    have J : Inv X pins σ (upd H s.heap.objs.size (.tup [x, y])) { s with heap := h'' } :=
      I.turnedNew (t' := s.toks) (ch := [z, TI, TO, i1, i2]) (fun c o nb q => (sb.2 c fun e => nb (by simp [e])).trans (far c o (fun e => nb (by simp [e])) (fun e => nb (by simp [e])) (fun e => nb (by simp [e])) (fun e => nb (by simp [e])) q)) hf (Nat.le_refl _) new
    refine ⟨.ref s.heap.objs.size, _, J, rfl, ⟨_, x, y, rfl, I.hok.fresh (Nat.le_refl _), rfl, fun l hl => by rw [SqV.inj I hl q1]; exact hx, fun l hl => by rw [SqV.inj I hl q2]; exact hy⟩,
      ⟨n1', (sb.2 _ D.TIz).trans (far _ _ D.TIz D.TITO D.TIi1 D.TIi2 m2), ⟨u, v, (sb.2 _ D.TOz).trans n3⟩, n4.at fun o q => (sb.2 _ D.i1z).trans q, n5.at fun o q => (sb.2 _ D.i2z).trans q⟩, fun c hcm => ?_⟩
    have lt : c < s.heap.objs.size := by
      obtain ⟨_, _, m3o⟩ := m3
      rcases five hcm with q | q | q | q | q <;> subst q
      · exact zl
      · exact Heap.lt_size m2
      · exact Heap.lt_size m3o
      · exact m4.lt
      · exact m5.lt
    rw [upd_ne (Nat.ne_of_lt lt)]
    exact (hf c hcm).1
  done := by
    intro X hP hw hK hc i pins s σ H E I hf st hg
    subst hP hw hK
    obtain ⟨m1, m2, m3, m4, m5⟩ := st
    obtain ⟨xs, ys, q1, q2, he⟩ := hg
    obtain ⟨us, r1, p1⟩ := q1.vals I
    obtain ⟨ws, r2, p2⟩ := q2.vals I
    have n1 := r1.length
    have n2 := r2.length
    refine next_end (I.ok.hd hc) D ⟨m1, m2, m3, ⟨p1, m4⟩, ⟨p2, m5⟩⟩ (he.imp (fun q => by simp; omega) fun q => by simp; omega) fun h' far => ⟨rfl, I.turnedL (t' := s.toks) (ch := [z, TI, TO, i1, i2]) (fun c o nb q =>
      far c o (fun e => nb (by simp [e])) (fun e => nb (by simp [e])) (fun e => nb (by simp [e])) (fun e => nb (by simp [e])) q) hf⟩
  self := fun A i s Q E st h => wpAny_pyIter_zip st.1 h
def iZipW (K : PySem.W.Frag) (ta : L2.TA) : TI := fun σ H R => ta σ H fun vs H1 => ∃ (b1 b2 : Bool) (l1 l2 : Addr) (xs ys : List V), vs = [.ref l1, .ref l2] ∧ SqV K b1 H1 l1 xs ∧ SqV K b2 H1 l2 ys ∧ R (Itw K b1 b2 l1 l2) H1
theorem pi_zipW {X : Cx} {e e2 : Expr} {ta : L2.TA} {p pos tpos : Pos} {elts : List Expr} {kk : Nat} (hg : Gl X "zip") (hm : X.mg "zip" = none) (ha : PA X [e, e2] ta)
    (hs : starEach [e, e2] X.env = (false, eval e X.env) :: starEach [e2] X.env := by rfl) (hpl : (backTo pos (starEach [e2] X.env)).any (·.1) = false := by rfl) :
    PI X (.Tuple elts kk tpos) (.Call (.Name "zip" p) [e, e2] [] pos) (iZipW X.K ta) := by
  refine ⟨fun pins s σ H R I h => ?_⟩
  refine Call_ (ld_blt I hg hm PyProof.Rows.boot_zip (PyProof.Rows.callWith_type1 (thn (ha.run pos pins s σ H _ I h) fun us s1 ⟨vs, H1, I1, r1, b1, b2, l1, l2, xs, ys, e, q1, q2, q⟩ => ?_) hs hpl))
  subst e
  obtain ⟨rfl⟩ : us = [Value.ref l1, Value.ref l2] := by
    cases r1 with
    | cons a r =>
      cases r with
      | cons b r =>
        cases r
        cases a
        cases b
        rfl
  obtain ⟨_, _, p1⟩ := q1.vals I1
  obtain ⟨_, _, p2⟩ := q2.vals I1
  refine call_zip p1 p2 fun h' m1 m2 m3 m4 m5 keep => wpAny_pyIter_zip m1 ?_
  have I2 : Inv X pins σ H1 { s1 with heap := h' } := I1.kept (t' := s1.toks) keep
  refine ⟨s1.heap.objs.size + 4, [s1.heap.objs.size + 4, s1.heap.objs.size + 2, s1.heap.objs.size + 3, s1.heap.objs.size, s1.heap.objs.size + 1], _, _, H1, rfl, I2, turn_zip (PySem.W.ktu_apart s1.heap.objs.size l1 l2 p1.lt p2.lt), ⟨m1, m2, ⟨_, _, m3⟩, m4, m5⟩, fun c hc => ?_, q⟩
  have le : s1.heap.objs.size ≤ c := by
    rcases five hc with q | q | q | q | q <;> subst q
    · exact Nat.le_add_right _ _
    · exact Nat.le_add_right _ _
    · exact Nat.le_add_right _ _
    · exact Nat.le_refl _
    · exact Nat.le_add_right _ _
  exact I1.fpOk le (I1.hok.fresh le)
def zipD : List D → List D → List D
  | x :: xs, y :: ys => .tup [x, y] :: zipD xs ys
  | _, _ => []
theorem zipD_len : ∀ xs ys : List D, (zipD xs ys).length = min xs.length ys.length
  | x :: xs, y :: ys => by simp only [zipD, List.length_cons, zipD_len xs ys]; omega
  | [], ys => by simp [zipD]
  | _ :: _, [] => by simp [zipD]
theorem zipD_get : ∀ {xs ys : List D} {i : Nat} {x y : D}, xs[i]? = some x → ys[i]? = some y → (zipD xs ys)[i]? = some (.tup [x, y])
  | a :: xs, b :: ys, 0, x, y, h1, h2 => by
    rw [List.getElem?_cons_zero] at h1 h2
    cases h1
    cases h2
    rfl
  | a :: xs, b :: ys, i + 1, x, y, h1, h2 => by
    rw [List.getElem?_cons_succ] at h1 h2
    simp only [zipD, List.getElem?_cons_succ]
    exact zipD_get h1 h2
  | [], _, _, _, _, h1, _ => by simp at h1
  | _ :: _, [], _, _, _, _, h2 => by simp at h2
theorem seq_sqv {K : PySem.W.Frag} {Av : Addr → Prop} {H : Hp} {v : V} {d : D} {ds : List D} (h : Den K Av H v d) (e : seqOf d = some ds) : ∃ (b : Bool) (a : Addr) (vs : List V), v = .ref a ∧ SqV K b H a vs ∧ DenA K Av H vs ds := by
  cases d <;> simp only [seqOf, Option.some.injEq] at e <;> simp only [Den] at h
  case tup xs =>
    subst e
    obtain ⟨a, vs, rfl, s, n, r⟩ := h
    exact ⟨true, a, vs, rfl, s, r⟩
  case lst xs =>
    subst e
    obtain ⟨a, vs, rfl, s, n, r⟩ := h
    exact ⟨false, a, vs, rfl, SqL.of s, r⟩
  all_goals cases e
def tupB : D → Bool
  | .tup _ => true
  | _ => false
theorem seq_sqb {K : PySem.W.Frag} {Av : Addr → Prop} {H : Hp} {a : Addr} {d : D} {ds : List D} (h : Den K Av H (.ref a) d) (e : seqOf d = some ds) : ∃ vs : List V, SqV K (tupB d) H a vs ∧ DenA K Av H vs ds := by
  cases d <;> simp only [seqOf, Option.some.injEq] at e <;> simp only [Den] at h
  case tup xs =>
    subst e
    obtain ⟨a', vs, q, s, n, r⟩ := h
    cases q
    exact ⟨vs, s, r⟩
  case lst xs =>
    subst e
    obtain ⟨a', vs, q, s, n, r⟩ := h
    cases q
    exact ⟨vs, SqL.of s, r⟩
  all_goals cases e
theorem itd_zip {X : Cx} {l1 l2 : Addr} {d1 d2 : D} {xs ys : List D} (e1 : seqOf d1 = some xs) (e2 : seqOf d2 = some ys) :
    ItD X.K (Itw X.K (tupB d1) (tupB d2) l1 l2) [(.ref l1, d1), (.ref l2, d2)] (zipD xs ys) := fun Av H hw hav => by
  obtain ⟨vs, s1, r1⟩ := seq_sqb (hw _ List.mem_cons_self) e1
  obtain ⟨ws, s2, r2⟩ := seq_sqb (hw _ (List.mem_cons_of_mem _ List.mem_cons_self)) e2
  refine ⟨fun i hi => ?_, vs, ws, s1, s2, by rw [r1.len, r2.len, zipD_len]; omega⟩
  rw [zipD_len] at hi
  have hx : i < xs.length := by omega
  have hy : i < ys.length := by omega
  obtain ⟨x, q1, x1⟩ := r1.get (List.getElem?_eq_getElem hx)
  obtain ⟨y, q2, y1⟩ := r2.get (List.getElem?_eq_getElem hy)
  refine ⟨⟨vs, ws, x, y, s1, s2, q1, q2⟩, fun v H' ⟨T, x', y', e1, hT, e2, u1, u2⟩ => ?_⟩
  subst e1 e2
  have z1 := u1 vs s1
  have z2 := u2 ws s2
  rw [q1] at z1
  rw [q2] at z2
  cases z1
  cases z2
  exact ⟨Kp.new hT, _, zipD_get (List.getElem?_eq_getElem hx) (List.getElem?_eq_getElem hy), pair_den hT (fun z => hav T z hT) x1 y1⟩
end Zz

namespace Zz
open PySem PySem.Spec PyProof.Rows L2 Dl
def idZipV (i j : Nat) : TID := fun env Q => ∃ d1 d2 xs ys, env[i]? = some (.val d1) ∧ env[j]? = some (.val d2) ∧ seqOf d1 = some xs ∧ seqOf d2 = some ys ∧ Q (zipD xs ys)
section
variable {X : Cx} {g : Gx} {e e2 : Expr} {p pos tpos : Pos} {elts : List Expr} {kk : Nat} {tas : TAD}
theorem si_zip {b : B0} {σ : L2.St} {H : Hp} {env : DEnv} {I : HI} {R : It → Hp → Prop} {v1 v2 : V} {d1 d2 : D} {xs ys : List D} (hd : DenE X.K I ⟨b.H0, (v1, d1) :: (v2, d2) :: b.hs⟩ σ H env) (e1 : seqOf d1 = some xs) (e2 : seqOf d2 = some ys)
    (k : ∀ J hw, DenE X.K I ⟨b.H0, hw ++ b.hs⟩ σ H env → ItD X.K J hw (zipD xs ys) → R J H) : ∃ (b1 b2 : Bool) (l1 l2 : Addr) (us ws : List V), [v1, v2] = [.ref l1, .ref l2] ∧ SqV X.K b1 H l1 us ∧ SqV X.K b2 H l2 ws ∧ R (Itw X.K b1 b2 l1 l2) H := by
  obtain ⟨oa, _, _, _, h4⟩ := hd.slots
  have n1 := h4 _ List.mem_cons_self
  have n2 := h4 _ (List.mem_cons_of_mem _ List.mem_cons_self)
  obtain ⟨_, l1, _, rfl, _, _⟩ := seq_sqv n1 e1
  obtain ⟨_, l2, _, rfl, _, _⟩ := seq_sqv n2 e2
  obtain ⟨us, s1, _⟩ := seq_sqb n1 e1
  obtain ⟨ws, s2, _⟩ := seq_sqb n2 e2
  exact ⟨_, _, l1, l2, us, ws, rfl, s1, s2, k _ [(.ref l1, d1), (.ref l2, d2)] hd (itd_zip e1 e2)⟩
theorem di_zipV (i j : Nat) {x y : Str} {p1 p2 : Pos} (hg : Gl X "zip") (hm : X.mg "zip" = none) (hN : X.N[i]? = some x := by rfl) (hv : Vis X.env.scope x := by first | exact Or.inl rfl | exact Or.inr (Or.inl rfl) | exact Or.inr (Or.inr rfl))
    (hN2 : X.N[j]? = some y := by rfl) (hv2 : Vis X.env.scope y := by first | exact Or.inl rfl | exact Or.inr (Or.inl rfl) | exact Or.inr (Or.inr rfl))
    (hd : (x == ("__debug__" : Str)) = false := by decide) (hcd : (x == ("__classdict__" : Str)) = false := by decide) (hd2 : (y == ("__debug__" : Str)) = false := by decide) (hcd2 : (y == ("__classdict__" : Str)) = false := by decide)
    (hs : starEach [Expr.Name x p1, .Name y p2] X.env = (false, eval (.Name x p1) X.env) :: starEach [.Name y p2] X.env := by rfl) (hs2 : starEach [Expr.Name y p2] X.env = (false, eval (.Name y p2) X.env) :: starEach [] X.env := by rfl) (hpl : (backTo pos (starEach [Expr.Name y p2] X.env)).any (·.1) = false := by rfl) :
    PID X g (.Tuple elts kk tpos) (.Call (.Name "zip" p) [.Name x p1, .Name y p2] [] pos) (idZipV i j) :=
  pid_of (pi_zipW hg hm (pa_cons (pe_var hN hv hd hcd) (pa_cons (pe_var hN2 hv2 hd2 hcd2) pa_nil hs2) hs) hs hpl) fun b σ H env Qd R hd xl ⟨d1, d2, xs, ys, e1, e2, s1, s2, q⟩ k => by
    obtain ⟨oa, h1, h2, h3, h4⟩ := hd.slots
    obtain ⟨v1, q1, n1⟩ := h3 i d1 e1
    obtain ⟨v2, q2, n2⟩ := h3 j d2 e2
    refine ⟨v1, q1, v2, q2, si_zip (b := b) (env := env) (σ := σ) (d1 := d1) (d2 := d2) ⟨hd.len, hd.ext, oa, h1, h2, h3, fun p hp => ?_⟩ s1 s2 fun J hw hd2 it => k J H hw _ hd2 (.refl hd.ok) it q⟩
    rcases List.mem_cons.mp hp with z | hp
    · rw [z]; exact n1
    · rcases List.mem_cons.mp hp with z | hp
      · rw [z]; exact n2
      · exact h4 p hp
end
end Zz

namespace Dl
open PySem PySem.Spec PyProof.Rows L2 Zs
def topI : List Int → Int
  | [] => -1
  | n :: ns => if topI ns < n then n else topI ns
def isSeqI (x : D) (ns : List Int) : Prop := seqOf x = some (ns.map D.int)
structure Std (ns : List Int) : Prop where
  pos : ∀ n ∈ ns, 0 ≤ n
  few : ns.length ≤ 7
  full : ((canon ns).length : Int) = topI ns + 1
def rankIn (cs : List Int) (n : Int) : Int := ((cs.findIdx fun c => c == n : Nat) : Int)
def ranksOf (ns : List Int) : List Int := ns.map (rankIn (canon ns))
def offLen (pl : D) (n : Nat) : Bool := match pl with
  | .int p => decide ((n : Int) ≠ p)
  | _ => false
def stdAsk (K : PySem.W.Frag) (x pl : D) (Q : List Int → Prop) (E : Exc → Prop) : Prop := x.tyn.isSome = true ∧ isOpt pl ∧ match seqOf x with
  | none => E (excI K "BadStanding" (-1))
  | some xs => allTy xs ∧ if 7 < xs.length then E (excI K "BadStanding" (-1)) else if offLen pl xs.length = true then E (excI K "BadStanding" (-1)) else
    match fstBad (fun _ d => !isWh d (.int 0) .non) [] xs with
    | some i => E (excI K "BadStanding" i)
    | none => ∃ ns : List Int, xs = ns.map D.int ∧ if ((canon ns).length : Int) = topI ns + 1 then Q ns else E (excI K "BadStanding" (-1))
def C_check_standing (K : PySem.W.Frag) : Ct := fun ds Q E => ∃ x pl, ds = [x, pl] ∧ stdAsk K x pl (fun ns => Q (.tup (ns.map D.int))) E
theorem ar_check_standing (K : PySem.W.Frag) : Ar 2 (C_check_standing K) := fun _ _ _ ⟨_, _, e, _⟩ => by rw [e]; rfl
def C_ranks_number (K : PySem.W.Frag) : Ct := fun ds Q E => ∃ x, ds = [x] ∧ stdAsk K x .non (fun ns => Q (.int (topI ns + 1))) E
theorem ar_ranks_number (K : PySem.W.Frag) : Ar 1 (C_ranks_number K) := fun _ _ _ ⟨_, e, _⟩ => by rw [e]; rfl
def C_standing_of (K : PySem.W.Frag) : Ct := fun ds Q _ => ∃ x ns, ds = [x] ∧ isSeqI x ns ∧ ns.length < 64 ∧ Q (.tup ((ranksOf ns).map D.int))
theorem ar_standing_of (K : PySem.W.Frag) : Ar 1 (C_standing_of K) := fun _ _ _ ⟨_, _, e, _⟩ => by rw [e]; rfl
def C_check_places (K : PySem.W.Frag) : Ct := fun ds Q E => ∃ x many, ds = [x, .int many] ∧ x.tyn.isSome = true ∧ match seqOf x with
  | none => E (excI K "BadPlaces" (-1))
  | some xs => allTy xs ∧ okD (.lst xs) ∧ match fstBad (fun pre d => !isWh d (.int 0) (.int (many - 1)) || anyD pre d) [] xs with
    | some i => E (excI K "BadPlaces" i)
    | none => Q (.tup xs)
theorem ar_check_places (K : PySem.W.Frag) : Ar 2 (C_check_places K) := fun _ _ _ ⟨_, _, e, _⟩ => by rw [e]; rfl
def C__law_ranks (K : PySem.W.Frag) : Ct := fun ds Q _ => ∃ x ns, ds = [x] ∧ isSeqI x ns ∧ ns.length < 64 ∧ Q (.tup ((ranksOf ns).map D.int))
theorem ar__law_ranks (K : PySem.W.Frag) : Ar 1 (C__law_ranks K) := fun _ _ _ ⟨_, _, e, _⟩ => by rw [e]; rfl
def C__law_many_ranks (K : PySem.W.Frag) : Ct := fun ds Q _ => ∃ x ns, ds = [x] ∧ isSeqI x ns ∧ ns.length < 64 ∧ Q (.int ((canon ns).length : Nat))
theorem ar__law_many_ranks (K : PySem.W.Frag) : Ar 1 (C__law_many_ranks K) := fun _ _ _ ⟨_, _, e, _⟩ => by rw [e]; rfl
theorem topI_ge : ∀ {ns : List Int} {y : Int}, y ∈ ns → y ≤ topI ns
  | n :: ns, y, h => by
    unfold topI
    rcases List.mem_cons.mp h with e | h
    · subst e; split <;> omega
    · have := topI_ge h
      split <;> omega
theorem topI_mem : ∀ {ns : List Int}, ns ≠ [] → (∀ n ∈ ns, 0 ≤ n) → topI ns ∈ ns
  | [n], _, h => by
    have := h n List.mem_cons_self
    unfold topI topI
    rw [if_pos (by omega)]
    exact List.mem_cons_self
  | n :: m :: ns, _, h => by
    have ih := topI_mem (ns := m :: ns) (by simp) fun k hk => h k (List.mem_cons_of_mem _ hk)
    unfold topI
    split
    · exact List.mem_cons_self
    · exact List.mem_cons_of_mem _ ih
theorem topI_top {ns : List Int} {m : Int} (h : ∀ n ∈ ns, 0 ≤ n) (t : Top true ns m) : m = topI ns := by
  have ne : ns ≠ [] := fun e => by
    have := t.1
    rw [e] at this
    cases this
  have a := t.2 _ (topI_mem ne h)
  rw [if_pos rfl] at a
  have b := topI_ge t.1
  omega
theorem isSeqI_cases {x : D} {ns : List Int} (h : isSeqI x ns) : x = .tup (ns.map D.int) ∨ x = .lst (ns.map D.int) := seq_cases h
theorem ints_of_wh {lo : Int} : ∀ {xs pre : List D}, fstBad (fun _ d => !isWh d (.int lo) .non) pre xs = none → ∃ ns : List Int, xs = ns.map D.int ∧ ∀ n ∈ ns, lo ≤ n
  | [], _, _ => ⟨[], rfl, fun n h => by cases h⟩
  | x :: xs, pre, h => by
    rw [fstBad_cons] at h
    split at h
    · cases h
    · rename_i c
      obtain ⟨ns, e, hn⟩ := ints_of_wh h
      cases x <;> simp only [isWh, Bool.not_false, not_true_eq_false, Bool.and_true, Bool.not_eq_true', decide_eq_false_iff_not, Bool.not_eq_eq_eq_not] at c
      case int i =>
        refine ⟨i :: ns, by rw [List.map_cons, e], fun n hm => ?_⟩
        rcases List.mem_cons.mp hm with z | hm
        · rw [z]; simpa using c
        · exact hn n hm
end Dl

namespace Zs
open PySem PySem.Spec PyProof.Rows L2 Dl
def litI : List Expr → Option (List Int)
  | [] => some []
  | .Constant (.int i) _ _ :: es => (litI es).map (i :: ·)
  | _ => none
def dInts (ns : List Int) : TAD := fun _ Q => Q (ns.map D.int)
section
variable {X : Cx} {g : Gx}
theorem da_lits : ∀ {es : List Expr} {ns : List Int}, litI es = some ns → PAD X g es (dInts ns)
  | [], ns, h => by
    cases h
    exact da_nil
  | e :: es, ns, h => by
    cases e <;> first | (simp [litI] at h; done) | skip
    case Constant c k p =>
      cases c <;> first | (simp [litI] at h; done) | skip
      case int i =>
        simp only [litI, Option.map_eq_some_iff] at h
        obtain ⟨ms, h1, rfl⟩ := h
        exact da_cons d_int (da_lits h1)
end
end Zs

namespace Rk
open Dl Zs
theorem up_gap {cs : List Int} (h : Up cs) : ∀ (d p : Nat) (a b : Int), cs[p]? = some a → cs[p + d]? = some b → a + d ≤ b
  | 0, p, a, b, h1, h2 => by
    rw [Nat.add_zero, h1] at h2
    cases h2
    omega
  | d + 1, p, a, b, h1, h2 => by
    have l2 := (List.getElem?_eq_some_iff.mp h2).1
    have hc : p + d < cs.length := by omega
    have ih := up_gap h d p a cs[p + d] h1 (List.getElem?_eq_getElem hc)
    have lt := List.pairwise_iff_getElem.mp h (p + d) (p + (d + 1)) hc l2 (by omega)
    obtain ⟨_, e⟩ := List.getElem?_eq_some_iff.mp h2
    rw [e] at lt
    omega
theorem full_mem {rs : List Int} (pos : ∀ n ∈ rs, 0 ≤ n) (full : ((canon rs).length : Int) = topI rs + 1) {v : Int} (h0 : 0 ≤ v) (h1 : v ≤ topI rs) : v ∈ rs := by
  have up := up_canon rs
  obtain ⟨n, hn⟩ : ∃ n : Nat, v = n := ⟨v.toNat, by omega⟩
  subst hn
  have hlt : n < (canon rs).length := by omega
  have e1 : (canon rs)[n]? = some (canon rs)[n] := List.getElem?_eq_getElem hlt
  have hz : 0 < (canon rs).length := by omega
  have e0 : (canon rs)[0]? = some (canon rs)[0] := List.getElem?_eq_getElem hz
  have lo := up_gap up n 0 _ _ e0 (by rw [Nat.zero_add]; exact e1)
  have m0 := pos _ (mem_canon.mp (List.getElem_mem hz))
  have hl : (canon rs).length - 1 < (canon rs).length := by omega
  have el : (canon rs)[(canon rs).length - 1]? = some (canon rs)[(canon rs).length - 1] := List.getElem?_eq_getElem hl
  have hi := up_gap up ((canon rs).length - 1 - n) n _ _ e1 (by rw [show n + ((canon rs).length - 1 - n) = (canon rs).length - 1 by omega]; exact el)
  have mt := topI_ge (mem_canon.mp (List.getElem_mem hl))
  have : (canon rs)[n] = (n : Int) := by omega
  rw [← this]
  exact mem_canon.mp (List.getElem_mem hlt)
structure Rks {α : Type} (lt : α → α → Prop) (ks : List α) (rs : List Int) : Prop where
  len : rs.length = ks.length
  ord : ∀ (i j : Nat) (a b : α) (r s : Int), ks[i]? = some a → ks[j]? = some b → rs[i]? = some r → rs[j]? = some s → (lt a b ↔ r < s)
  pos : ∀ n ∈ rs, 0 ≤ n
  full : ((canon rs).length : Int) = topI rs + 1
section
variable {α β : Type} {lt : α → α → Prop} {lt' : β → β → Prop} {ks : List α} {ks' : List β} {rs rs' : List Int}
theorem rks_eq (h : Rks lt ks rs) (h' : Rks lt' ks' rs') (l : ks.length = ks'.length)
    (same : ∀ (i j : Nat) (a b : α) (a' b' : β), ks[i]? = some a → ks[j]? = some b → ks'[i]? = some a' → ks'[j]? = some b' → (lt a b ↔ lt' a' b')) : rs = rs' := by
  have at_ : ∀ {i : Nat} {r : Int}, rs[i]? = some r → ∃ a a' r', ks[i]? = some a ∧ ks'[i]? = some a' ∧ rs'[i]? = some r' := fun {i r} e => by
    have l1 := (List.getElem?_eq_some_iff.mp e).1
    have := h.len
    have := h'.len
    exact ⟨_, _, _, List.getElem?_eq_getElem (by omega), List.getElem?_eq_getElem (by omega), List.getElem?_eq_getElem (by omega)⟩
  have at_' : ∀ {i : Nat} {r : Int}, rs'[i]? = some r → ∃ r', rs[i]? = some r' := fun {i r} e => by
    have l1 := (List.getElem?_eq_some_iff.mp e).1
    have := h.len
    have := h'.len
    exact ⟨_, List.getElem?_eq_getElem (by omega)⟩
  have ord : ∀ {i j : Nat} {r s r' s' : Int}, rs[i]? = some r → rs[j]? = some s → rs'[i]? = some r' → rs'[j]? = some s' → (r < s ↔ r' < s') := fun {i j r s r' s'} e1 e2 e3 e4 => by
    obtain ⟨a, a', _, ha, ha', _⟩ := at_ e1
    obtain ⟨b, b', _, hb, hb', _⟩ := at_ e2
    rw [← h.ord i j a b r s ha hb e1 e2, ← h'.ord i j a' b' r' s' ha' hb' e3 e4]
    exact same i j a b a' b' ha hb ha' hb'
  have key : ∀ (v : Nat) (i : Nat), rs[i]? = some (v : Int) → rs'[i]? = some (v : Int) := by
    intro v
    induction v using Nat.strongRecOn with
    | ind v ih =>
      intro i e
      obtain ⟨_, _, r', _, _, e'⟩ := at_ e
      have lo : (v : Int) ≤ r' := by
        by_cases hv : v = 0
        · have := h'.pos r' (List.mem_of_getElem? e')
          omega
        · have mt := topI_ge (List.mem_of_getElem? e)
          have m := full_mem h.pos h.full (v := ((v - 1 : Nat) : Int)) (by omega) (by omega)
          obtain ⟨j, hj⟩ := List.mem_iff_getElem?.mp m
          have hj' := ih (v - 1) (by omega) j hj
          have := (ord hj e hj' e').mp (by omega)
          omega
      by_cases hlt : (v : Int) < r'
      · have mt := topI_ge (List.mem_of_getElem? e')
        have m := full_mem h'.pos h'.full (v := (v : Int)) (by omega) (by omega)
        obtain ⟨k, hk⟩ := List.mem_iff_getElem?.mp m
        obtain ⟨u, hu⟩ := at_' hk
        have lt1 := (ord hu e hk e').mpr hlt
        have u0 := h.pos u (List.mem_of_getElem? hu)
        have hu2 := ih u.toNat (by omega) k (by rw [hu]; congr 1; omega)
        rw [hk] at hu2
        have := Option.some.inj hu2
        omega
      · rw [e']
        congr 1
        omega
  apply List.ext_getElem?
  intro i
  cases e : rs[i]? with
  | none =>
    cases e2 : rs'[i]? with
    | none => rfl
    | some r =>
      obtain ⟨r', h2⟩ := at_' e2
      rw [e] at h2
      cases h2
  | some r =>
    have r0 := h.pos r (List.mem_of_getElem? e)
    have := key r.toNat i (by rw [e]; congr 1; omega)
    rw [this]
    congr 1
    omega
end
section
variable {α : Type} [BEq α] [LawfulBEq α] {lt : α → α → Prop} {ks S : List α}
theorem idx_at {k : α} (h : k ∈ S) : S.findIdx (fun c => c == k) < S.length ∧ S[S.findIdx (fun c => c == k)]? = some k := by
  have hl : S.findIdx (fun c => c == k) < S.length := List.findIdx_lt_length_of_exists ⟨k, h, beq_self_eq_true k⟩
  refine ⟨hl, ?_⟩
  rw [List.getElem?_eq_getElem hl]
  exact congrArg some (eq_of_beq (List.findIdx_getElem (p := fun c => c == k) (w := hl)))
theorem rks_of (asc : S.Pairwise lt) (irr : ∀ a, ¬ lt a a) (tr : ∀ {a b c}, lt a b → lt b c → lt a c) (mem : ∀ x, x ∈ S ↔ x ∈ ks) : Rks lt ks (ks.map fun k => ((S.findIdx fun c => c == k : Nat) : Int)) := by
  have pw := List.pairwise_iff_getElem.mp asc
  have nd : ∀ {p q : Nat} {a : α}, S[p]? = some a → S[q]? = some a → p = q := fun {p q a} e1 e2 => by
    obtain ⟨l1, f1⟩ := List.getElem?_eq_some_iff.mp e1
    obtain ⟨l2, f2⟩ := List.getElem?_eq_some_iff.mp e2
    rcases Nat.lt_trichotomy p q with h | h | h
    · have := pw p q l1 l2 h
      rw [f1, f2] at this
      exact absurd this (irr a)
    · exact h
    · have := pw q p l2 l1 h
      rw [f1, f2] at this
      exact absurd this (irr a)
  have ec : canon (ks.map fun k => ((S.findIdx fun c => c == k : Nat) : Int)) = (List.range S.length).map fun i => ((i : Nat) : Int) := by
    refine up_eq (up_canon _) ?_ fun v => ?_
    · refine List.Pairwise.map _ (fun a b h => ?_) List.pairwise_lt_range
      omega
    · rw [mem_canon, List.mem_map, List.mem_map]
      constructor
      · rintro ⟨k, hk, rfl⟩
        exact ⟨_, List.mem_range.mpr (idx_at ((mem k).mpr hk)).1, rfl⟩
      · rintro ⟨i, hi, rfl⟩
        have hi := List.mem_range.mp hi
        have mi : S[i] ∈ S := List.getElem_mem hi
        refine ⟨S[i], (mem _).mp mi, ?_⟩
        have := nd (idx_at mi).2 (List.getElem?_eq_getElem hi)
        omega
  refine ⟨List.length_map _, fun i j a b r s ha hb hr hs => ?_, fun n hn => ?_, ?_⟩
  · rw [List.getElem?_map, ha] at hr
    rw [List.getElem?_map, hb] at hs
    cases hr
    cases hs
    dsimp only
    obtain ⟨la, fa⟩ := idx_at ((mem a).mpr (List.mem_of_getElem? ha))
    obtain ⟨lb, fb⟩ := idx_at ((mem b).mpr (List.mem_of_getElem? hb))
    obtain ⟨_, ea⟩ := List.getElem?_eq_some_iff.mp fa
    obtain ⟨_, eb⟩ := List.getElem?_eq_some_iff.mp fb
    constructor
    · intro h
      rcases Nat.lt_trichotomy (S.findIdx fun c => c == a) (S.findIdx fun c => c == b) with q | q | q
      · omega
      · rw [q, fb] at fa
        cases fa
        exact absurd h (irr a)
      · have := pw _ _ lb la q
        rw [ea, eb] at this
        exact absurd (tr h this) (irr a)
    · intro h
      have := pw _ _ la lb (by omega)
      rw [ea, eb] at this
      exact this
  · obtain ⟨k, _, rfl⟩ := List.mem_map.mp hn
    omega
  · rw [ec, List.length_map, List.length_range]
    by_cases hz : S.length = 0
    · have e0 : S = [] := List.length_eq_zero_iff.mp hz
      have : ks = [] := List.eq_nil_iff_forall_not_mem.mpr fun x hx => by
        have := (mem x).mpr hx
        rw [e0] at this
        cases this
      rw [this, hz]
      rfl
    · have hl : S.length - 1 < S.length := by omega
      have top : ((S.length - 1 : Nat) : Int) ∈ ks.map fun k => ((S.findIdx fun c => c == k : Nat) : Int) := by
        rw [← mem_canon, ec]
        exact List.mem_map.mpr ⟨_, List.mem_range.mpr hl, rfl⟩
      have ne : (ks.map fun k => ((S.findIdx fun c => c == k : Nat) : Int)) ≠ [] := fun e => by
        rw [e] at top
        cases top
      have t1 := topI_ge top
      have t2 := topI_mem ne fun n hn => by
        obtain ⟨k, _, rfl⟩ := List.mem_map.mp hn
        omega
      obtain ⟨k, hk, e⟩ := List.mem_map.mp t2
      have := (idx_at ((mem k).mpr hk)).1
      omega
end
end Rk

namespace K09
open PySem Dl Zs Rk
def at_ (d : List Int) (i : Int) : Int := d.getD i.toNat 0
def pick (ps xs : List Int) : List Int := ps.map (at_ xs)
def iMF (b : Int) : Nat → List Int → List Int
  | _, [] => []
  | i, e :: es => if e = b then iMF b (i + 1) es else (i : Int) :: iMF b (i + 1) es
abbrev iM (L : List Int) (b : Int) : List Int := iMF b 0 L
def mom (L : List Int) (b : Int) (rs : List Int) : List Int := rs.map (at_ (iM L b))
def off (d : Str) (a b : Int) : Int := if d = "odd" ∧ a = b then 1 else if d = "common" ∧ a ≠ b then (if b < a then 1 else 2) else 0
def key (d : Str) (a b : Int) : Int := 3 * min a b + off d a b
def made (d : Str) (ns ms L : List Int) : List Int := ranksOf (List.zipWith (key d) (mom L 1 ns) (mom L 0 ms))
def linE (ns ms : List Int) (m : Int) : Int := if m ∈ ms then (if m ∈ ns then 2 else 1) else 0
def linOf (ns ms : List Int) : List Int := (canon (ns ++ ms)).map (linE ns ms)
def exch (L : List Int) : List Int := L.map fun e => if e = 2 then 2 else 1 - e
structure Lin (f s : Int) (L : List Int) : Prop where
  ent : ∀ e ∈ L, e = 0 ∨ e = 1 ∨ e = 2
  one : ((iM L 1).length : Int) = f
  two : ((iM L 0).length : Int) = s
structure Val (ns ms L : List Int) : Prop where
  sa : Std ns
  sb : Std ms
  len : ns.length = ms.length
  lin : Lin (topI ns + 1) (topI ms + 1) L
theorem mem_iMF {b : Int} : ∀ {i : Nat} {L : List Int} {x : Int}, x ∈ iMF b i L ↔ ∃ k e, L[k]? = some e ∧ e ≠ b ∧ x = ((i + k : Nat) : Int)
  | i, [], x => by simp [iMF]
  | i, e :: es, x => by
    have ih := mem_iMF (b := b) (i := i + 1) (L := es) (x := x)
    have tail : (∃ k e', es[k]? = some e' ∧ e' ≠ b ∧ x = ((i + 1 + k : Nat) : Int)) ↔ ∃ k e', (e :: es)[k + 1]? = some e' ∧ e' ≠ b ∧ x = ((i + (k + 1) : Nat) : Int) := by
      constructor
      · rintro ⟨k, e', h1, h2, h3⟩
        exact ⟨k, e', by simpa using h1, h2, by rw [h3]; congr 1; omega⟩
      · rintro ⟨k, e', h1, h2, h3⟩
        exact ⟨k, e', by simpa using h1, h2, by rw [h3]; congr 1; omega⟩
    unfold iMF
    split
    · rename_i c
      rw [ih, tail]
      constructor
      · rintro ⟨k, e', h⟩
        exact ⟨k + 1, e', h⟩
      · rintro ⟨k, e', h1, h2, h3⟩
        cases k with
        | zero =>
          simp only [List.getElem?_cons_zero, Option.some.injEq] at h1
          exact absurd (h1 ▸ c) h2
        | succ k => exact ⟨k, e', h1, h2, h3⟩
    · rename_i c
      rw [List.mem_cons, ih, tail]
      constructor
      · rintro (h | ⟨k, e', h⟩)
        · exact ⟨0, e, rfl, c, h⟩
        · exact ⟨k + 1, e', h⟩
      · rintro ⟨k, e', h1, h2, h3⟩
        cases k with
        | zero => exact .inl h3
        | succ k => exact .inr ⟨k, e', h1, h2, h3⟩
theorem up_iMF {b : Int} : ∀ {i : Nat} {L : List Int}, Up (iMF b i L)
  | i, [] => .nil
  | i, e :: es => by
    unfold iMF
    split
    · exact up_iMF
    · refine List.pairwise_cons.mpr ⟨fun x hx => ?_, up_iMF⟩
      obtain ⟨k, e', _, _, rfl⟩ := mem_iMF.mp hx
      omega
theorem exch_iMF {b c : Int} (hbc : (b = 0 ∧ c = 1) ∨ (b = 1 ∧ c = 0)) : ∀ {i : Nat} {L : List Int}, (∀ e ∈ L, e = 0 ∨ e = 1 ∨ e = 2) → iMF b i (exch L) = iMF c i L
  | i, [], _ => rfl
  | i, e :: es, h => by
    have ih := exch_iMF hbc (i := i + 1) (L := es) fun x hx => h x (List.mem_cons_of_mem _ hx)
    have he := h e List.mem_cons_self
    unfold exch at ih ⊢
    rw [List.map_cons]
    unfold iMF
    rw [ih]
    have : ((if e = 2 then 2 else 1 - e) = b) ↔ e = c := by
      split <;> omega
    by_cases q : e = c
    · rw [if_pos q, if_pos (this.mpr q)]
    · rw [if_neg q, if_neg fun z => q (this.mp z)]
theorem exch_ent {L : List Int} (h : ∀ e ∈ L, e = 0 ∨ e = 1 ∨ e = 2) : ∀ e ∈ exch L, e = 0 ∨ e = 1 ∨ e = 2 := fun e he => by
  obtain ⟨x, hx, rfl⟩ := List.mem_map.mp he
  have := h x hx
  split <;> omega
theorem Val.exch {ns ms L : List Int} (V : Val ns ms L) : Val ms ns (exch L) :=
  ⟨V.sb, V.sa, V.len.symm, ⟨exch_ent V.lin.ent, by rw [iM, exch_iMF (.inr ⟨rfl, rfl⟩) V.lin.ent]; exact V.lin.two, by rw [iM, exch_iMF (.inl ⟨rfl, rfl⟩) V.lin.ent]; exact V.lin.one⟩⟩
theorem off_symm {d : Str} (hd : d ≠ "common") (a b : Int) : off d a b = off d b a := by
  unfold off
  rw [if_neg (c := d = "common" ∧ a ≠ b) (fun z => hd z.1), if_neg (c := d = "common" ∧ b ≠ a) (fun z => hd z.1)]
  by_cases h : a = b
  · rw [h]
  · rw [if_neg (fun z => h z.2), if_neg (fun z => h z.2.symm)]
theorem key_symm {d : Str} (hd : d ≠ "common") (a b : Int) : key d a b = key d b a := by
  unfold key
  rw [off_symm hd, Int.min_comm]
theorem made_exch {d : Str} {ns ms L : List Int} (V : Val ns ms L) (hd : d ≠ "common") : made d ms ns (exch L) = made d ns ms L := by
  unfold made mom iM
  rw [exch_iMF (.inr ⟨rfl, rfl⟩) V.lin.ent, exch_iMF (.inl ⟨rfl, rfl⟩) V.lin.ent]
  congr 1
  rw [List.zipWith_comm]
  congr 1
  funext a b
  exact key_symm hd b a
theorem rks_ranks (ns : List Int) : Rks (fun a b : Int => a < b) ns (ranksOf ns) := rks_of (up_canon ns) Int.lt_irrefl (fun h h' => Int.lt_trans h h') fun x => mem_canon
theorem rank_lt {S : List Int} (up : Up S) {a b : Int} (ha : a ∈ S) (hb : b ∈ S) : a < b ↔ rankIn S a < rankIn S b := by
  obtain ⟨i, hi⟩ := List.mem_iff_getElem?.mp ha
  obtain ⟨j, hj⟩ := List.mem_iff_getElem?.mp hb
  have R := rks_of (ks := S) up Int.lt_irrefl (fun h h' => Int.lt_trans h h') fun x => Iff.rfl
  exact R.ord i j a b _ _ hi hj (by rw [List.getElem?_map, hi]; rfl) (by rw [List.getElem?_map, hj]; rfl)
theorem ranks_same {ns ms : List Int} (l : ns.length = ms.length) (same : ∀ (i j : Nat) (a b a' b' : Int), ns[i]? = some a → ns[j]? = some b → ms[i]? = some a' → ms[j]? = some b' → (a < b ↔ a' < b')) : ranksOf ns = ranksOf ms :=
  rks_eq (rks_ranks ns) (rks_ranks ms) l same
theorem ranks_std {rs : List Int} (h : Std rs) : ranksOf rs = rs :=
  rks_eq (lt' := fun a b : Int => a < b) (rks_ranks rs) ⟨rfl, fun i j a b r s h1 h2 h3 h4 => by
    rw [h1] at h3
    rw [h2] at h4
    cases h3
    cases h4
    exact Iff.rfl, h.pos, h.full⟩ rfl fun i j a b a' b' h1 h2 h3 h4 => by
    rw [h1] at h3
    rw [h2] at h4
    cases h3
    cases h4
    exact Iff.rfl
theorem std_ranks {ns : List Int} (h : ns.length ≤ 7) : Std (ranksOf ns) := ⟨(rks_ranks ns).pos, by unfold ranksOf; rw [List.length_map]; exact h, (rks_ranks ns).full⟩
theorem len_ranks (ns : List Int) : (ranksOf ns).length = ns.length := List.length_map _
theorem top_ranks (ns : List Int) : topI (ranksOf ns) + 1 = (canon ns).length := by
  rw [← (rks_ranks ns).full]
  have ec : canon (ranksOf ns) = (List.range (canon ns).length).map fun i => ((i : Nat) : Int) := by
    refine up_eq (up_canon _) ?_ fun v => ?_
    · refine List.Pairwise.map _ (fun a b h => ?_) List.pairwise_lt_range
      omega
    · rw [mem_canon, ranksOf, List.mem_map, List.mem_map]
      constructor
      · rintro ⟨k, hk, rfl⟩
        exact ⟨_, List.mem_range.mpr (idx_at (mem_canon.mpr hk)).1, rfl⟩
      · rintro ⟨i, hi, rfl⟩
        have hi := List.mem_range.mp hi
        have mi : (canon ns)[i] ∈ canon ns := List.getElem_mem hi
        refine ⟨(canon ns)[i], mem_canon.mp mi, ?_⟩
        obtain ⟨l1, f1⟩ := idx_at mi
        have f2 := (List.getElem?_eq_some_iff.mp f1).2
        have pw := List.pairwise_iff_getElem.mp (up_canon ns)
        show (((canon ns).findIdx fun c => c == (canon ns)[i] : Nat) : Int) = i
        rcases Nat.lt_trichotomy ((canon ns).findIdx fun c => c == (canon ns)[i]) i with q | q | q
        · have := pw _ _ l1 hi q
          omega
        · omega
        · have := pw _ _ hi l1 q
          omega
  rw [ec, List.length_map, List.length_range]
theorem off_bd (d : Str) (a b : Int) : 0 ≤ off d a b ∧ off d a b ≤ 2 := by
  unfold off
  split
  · omega
  · split
    · split <;> omega
    · omega
theorem off_same {d : Str} {a b a' b' : Int} (e : a = b ↔ a' = b') (l : b < a ↔ b' < a') : off d a b = off d a' b' := by
  unfold off
  by_cases h1 : a = b
  · have h2 := e.mp h1
    simp [h1, h2]
  · have h2 : ¬ a' = b' := fun z => h1 (e.mpr z)
    by_cases h3 : b < a
    · simp [h1, h2, h3, l.mp h3]
    · have h4 : ¬ b' < a' := fun z => h3 (l.mpr z)
      simp [h1, h2, h3, h4]
theorem key_same {d : Str} {a b x y a' b' x' y' : Int} (ab : a < b ↔ a' < b') (ba : b < a ↔ b' < a') (xy : x < y ↔ x' < y') (yx : y < x ↔ y' < x')
    (ax : a < x ↔ a' < x') (xa : x < a ↔ x' < a') (ay : a < y ↔ a' < y') (ya : y < a ↔ y' < a') (bx : b < x ↔ b' < x') (xb : x < b ↔ x' < b') (by_ : b < y ↔ b' < y') (yb : y < b ↔ y' < b') :
    key d a b < key d x y ↔ key d a' b' < key d x' y' := by
  unfold key
  have o1 := off_same (d := d) (a := a) (b := b) (a' := a') (b' := b') (by omega) ba
  have o2 := off_same (d := d) (a := x) (b := y) (a' := x') (b' := y') (by omega) yx
  have b1 := off_bd d a b
  have b2 := off_bd d x y
  rw [← o1, ← o2]
  have m1 : min a b < min x y ↔ min a' b' < min x' y' := by omega
  have m2 : min x y < min a b ↔ min x' y' < min a' b' := by omega
  generalize off d a b = p at *
  generalize off d x y = q at *
  generalize min a b = u at *
  generalize min x y = v at *
  generalize min a' b' = u' at *
  generalize min x' y' = v' at *
  omega
theorem at_get {xs : List Int} {i : Int} (h0 : 0 ≤ i) (h1 : i < xs.length) : xs[i.toNat]? = some (at_ xs i) := by
  unfold at_
  have hl : i.toNat < xs.length := by omega
  rw [List.getD_eq_getElem?_getD, List.getElem?_eq_getElem hl]
  rfl
theorem at_zip {f : Int → Int → Int} {xs ys : List Int} (l : xs.length = ys.length) {i : Int} (h0 : 0 ≤ i) (h1 : i < xs.length) : at_ (List.zipWith f xs ys) i = f (at_ xs i) (at_ ys i) := by
  have h2 := at_get (xs := List.zipWith f xs ys) h0 (by rw [List.length_zipWith]; omega)
  rw [List.getElem?_zipWith, at_get h0 h1, at_get h0 (by omega)] at h2
  exact (Option.some.inj h2).symm
theorem pick_zip {f : Int → Int → Int} {xs ys ps : List Int} (l : xs.length = ys.length) (hp : ∀ p ∈ ps, 0 ≤ p ∧ p < xs.length) : pick ps (List.zipWith f xs ys) = List.zipWith f (pick ps xs) (pick ps ys) := by
  unfold pick
  rw [List.zipWith_map]
  induction ps with
  | nil => rfl
  | cons p ps ih =>
    rw [List.map_cons, List.zipWith_cons_cons, ih fun q hq => hp q (List.mem_cons_of_mem _ hq), at_zip l (hp p List.mem_cons_self).1 (hp p List.mem_cons_self).2]
theorem pick_get {xs ps : List Int} {k : Nat} {a : Int} (h : (pick ps xs)[k]? = some a) : ∃ p, ps[k]? = some p ∧ a = at_ xs p := by
  unfold pick at h
  rw [List.getElem?_map] at h
  obtain ⟨p, h1, h2⟩ := Option.map_eq_some_iff.mp h
  exact ⟨p, h1, h2.symm⟩
theorem pick_len (ps xs : List Int) : (pick ps xs).length = ps.length := List.length_map _
theorem pick_same {xs ys ps : List Int} (l : xs.length = ys.length) (hp : ∀ p ∈ ps, 0 ≤ p ∧ p < xs.length) (same : ∀ (i j : Nat) (a b a' b' : Int), xs[i]? = some a → xs[j]? = some b → ys[i]? = some a' → ys[j]? = some b' → (a < b ↔ a' < b')) :
    ranksOf (pick ps xs) = ranksOf (pick ps ys) := by
  refine ranks_same (by rw [pick_len, pick_len]) fun i j a b a' b' h1 h2 h3 h4 => ?_
  obtain ⟨p, e1, rfl⟩ := pick_get h1
  obtain ⟨q, e2, rfl⟩ := pick_get h2
  obtain ⟨p', e3, rfl⟩ := pick_get h3
  obtain ⟨q', e4, rfl⟩ := pick_get h4
  rw [e1] at e3
  rw [e2] at e4
  cases e3
  cases e4
  have hp1 := hp p (List.mem_of_getElem? e1)
  have hq1 := hp q (List.mem_of_getElem? e2)
  exact same _ _ _ _ _ _ (at_get hp1.1 hp1.2) (at_get hq1.1 hq1.2) (at_get hp1.1 (by omega)) (at_get hq1.1 (by omega))
theorem pick_ranks {xs ps : List Int} (hp : ∀ p ∈ ps, 0 ≤ p ∧ p < xs.length) : ranksOf (pick ps (ranksOf xs)) = ranksOf (pick ps xs) := by
  refine (pick_same (xs := xs) (ys := ranksOf xs) (len_ranks xs).symm hp fun i j a b a' b' h1 h2 h3 h4 => ?_).symm
  exact (rks_ranks xs).ord i j a b a' b' h1 h2 h3 h4
theorem at_up {cs : List Int} (up : Up cs) {r s : Int} (r0 : 0 ≤ r) (r1 : r < cs.length) (s0 : 0 ≤ s) (s1 : s < cs.length) : r < s ↔ at_ cs r < at_ cs s := by
  have pw := List.pairwise_iff_getElem.mp up
  obtain ⟨l1, e1⟩ := List.getElem?_eq_some_iff.mp (at_get r0 r1)
  obtain ⟨l2, e2⟩ := List.getElem?_eq_some_iff.mp (at_get s0 s1)
  rw [← e1, ← e2]
  constructor
  · intro h
    exact pw _ _ l1 l2 (by omega)
  · intro h
    rcases Int.lt_trichotomy r s with q | q | q
    · exact q
    · subst q
      exact absurd h (Int.lt_irrefl _)
    · have := pw _ _ l2 l1 (by omega)
      omega
theorem std_in {rs : List Int} (h : Std rs) {r : Int} (hr : r ∈ rs) : 0 ≤ r ∧ r < topI rs + 1 := ⟨h.pos r hr, by have := topI_ge hr; omega⟩
theorem mom_len (L : List Int) (b : Int) (rs : List Int) : (mom L b rs).length = rs.length := List.length_map _
theorem mom_get {L rs : List Int} {b : Int} {k : Nat} {a : Int} (h : (mom L b rs)[k]? = some a) : ∃ r, rs[k]? = some r ∧ a = at_ (iM L b) r := by
  unfold mom at h
  rw [List.getElem?_map] at h
  obtain ⟨p, h1, h2⟩ := Option.map_eq_some_iff.mp h
  exact ⟨p, h1, h2.symm⟩
theorem mom_same {L rs : List Int} {b : Int} (hs : Std rs) (hl : ((iM L b).length : Int) = topI rs + 1) (i j : Nat) (a c a' c' : Int) (h1 : rs[i]? = some a) (h2 : rs[j]? = some c) (h3 : (mom L b rs)[i]? = some a') (h4 : (mom L b rs)[j]? = some c') : a < c ↔ a' < c' := by
  obtain ⟨r, e1, rfl⟩ := mom_get h3
  obtain ⟨s, e2, rfl⟩ := mom_get h4
  rw [h1] at e1
  rw [h2] at e2
  cases e1
  cases e2
  have := std_in hs (List.mem_of_getElem? h1)
  have := std_in hs (List.mem_of_getElem? h2)
  exact at_up up_iMF (by omega) (by rw [hl]; omega) (by omega) (by rw [hl]; omega)
theorem linE_ne1 {ns ms : List Int} {m : Int} (h : m ∈ ns ++ ms) : linE ns ms m ≠ 1 ↔ m ∈ ns := by
  unfold linE
  rcases List.mem_append.mp h with h | h
  · by_cases c : m ∈ ms <;> simp [h, c]
  · by_cases c : m ∈ ns <;> simp [h, c]
theorem linE_ne0 {ns ms : List Int} {m : Int} : linE ns ms m ≠ 0 ↔ m ∈ ms := by
  unfold linE
  by_cases c : m ∈ ms
  · by_cases d : m ∈ ns <;> simp [c, d]
  · simp [c]
theorem linOf_ent (ns ms : List Int) : ∀ e ∈ linOf ns ms, e = 0 ∨ e = 1 ∨ e = 2 := fun e he => by
  obtain ⟨m, _, rfl⟩ := List.mem_map.mp he
  unfold linE
  split
  · split <;> omega
  · omega
theorem rank_at {S : List Int} (up : Up S) {k : Nat} {m : Int} (h : S[k]? = some m) : rankIn S m = k := by
  obtain ⟨l1, f1⟩ := idx_at (List.mem_of_getElem? h)
  have pw := List.pairwise_iff_getElem.mp up
  obtain ⟨l2, f2⟩ := List.getElem?_eq_some_iff.mp h
  have f3 := (List.getElem?_eq_some_iff.mp f1).2
  show ((S.findIdx fun c => c == m : Nat) : Int) = k
  rcases Nat.lt_trichotomy (S.findIdx fun c => c == m) k with q | q | q
  · have := pw _ _ l1 l2 q
    omega
  · omega
  · have := pw _ _ l2 l1 q
    omega
theorem lin_iM {ns ms ks : List Int} {b : Int} (hk : ∀ m, m ∈ ns ++ ms → (linE ns ms m ≠ b ↔ m ∈ ks)) (sub : ∀ m ∈ ks, m ∈ ns ++ ms) : iM (linOf ns ms) b = (canon ks).map (rankIn (canon (ns ++ ms))) := by
  have upM := up_canon (ns ++ ms)
  refine up_eq up_iMF ?_ fun x => ?_
  · refine List.Pairwise.map (R := fun a b => a < b ∧ a ∈ canon ks ∧ b ∈ canon ks) _ (fun a c h => ?_) ?_
    · exact (rank_lt upM (mem_canon.mpr (sub a (mem_canon.mp h.2.1))) (mem_canon.mpr (sub c (mem_canon.mp h.2.2)))).mp h.1
    · exact (up_canon ks).imp_of_mem fun ha hb h => ⟨h, ha, hb⟩
  · rw [mem_iMF, List.mem_map]
    constructor
    · rintro ⟨k, e, h1, h2, rfl⟩
      unfold linOf at h1
      rw [List.getElem?_map] at h1
      obtain ⟨m, hm, rfl⟩ := Option.map_eq_some_iff.mp h1
      have mm := mem_canon.mp (List.mem_of_getElem? hm)
      exact ⟨m, mem_canon.mpr ((hk m mm).mp h2), by rw [rank_at upM hm]; congr 1; omega⟩
    · rintro ⟨m, hm, rfl⟩
      have hm := mem_canon.mp hm
      obtain ⟨k, hkm⟩ := List.mem_iff_getElem?.mp (mem_canon.mpr (sub m hm))
      exact ⟨k, linE ns ms m, by unfold linOf; rw [List.getElem?_map, hkm]; rfl, (hk m (sub m hm)).mpr hm, by rw [rank_at upM hkm]; congr 1; omega⟩
theorem at_map {f : Int → Int} {xs : List Int} {i : Int} (h0 : 0 ≤ i) (h1 : i < xs.length) : at_ (xs.map f) i = f (at_ xs i) := by
  have h2 := at_get (xs := xs.map f) h0 (by rw [List.length_map]; exact h1)
  rw [List.getElem?_map, at_get h0 h1] at h2
  exact (Option.some.inj h2).symm
theorem at_rank {ks : List Int} {k : Int} (h : k ∈ ks) : 0 ≤ rankIn (canon ks) k ∧ rankIn (canon ks) k < (canon ks).length ∧ at_ (canon ks) (rankIn (canon ks) k) = k := by
  obtain ⟨l, e⟩ := idx_at (mem_canon.mpr h)
  have b : 0 ≤ rankIn (canon ks) k ∧ rankIn (canon ks) k < (canon ks).length := ⟨by unfold rankIn; omega, by unfold rankIn; omega⟩
  refine ⟨b.1, b.2, ?_⟩
  have := at_get b.1 b.2
  have e2 : (canon ks)[(rankIn (canon ks) k).toNat]? = some k := e
  rw [e2] at this
  exact (Option.some.inj this).symm
theorem lin_mom {ns ms ks : List Int} {b : Int} (hk : ∀ m, m ∈ ns ++ ms → (linE ns ms m ≠ b ↔ m ∈ ks)) (sub : ∀ m ∈ ks, m ∈ ns ++ ms) : mom (linOf ns ms) b (ranksOf ks) = ks.map (rankIn (canon (ns ++ ms))) := by
  unfold mom ranksOf
  rw [List.map_map, lin_iM hk sub]
  refine List.map_congr_left fun k hkm => ?_
  obtain ⟨h0, h1, h2⟩ := at_rank hkm
  show at_ ((canon ks).map _) (rankIn (canon ks) k) = _
  rw [at_map h0 h1, h2]
theorem lin_val {ns ms : List Int} (l : ns.length = ms.length) (few : ns.length ≤ 7) : Val (ranksOf ns) (ranksOf ms) (linOf ns ms) where
  sa := std_ranks few
  sb := std_ranks (by omega)
  len := by rw [len_ranks, len_ranks, l]
  lin := ⟨linOf_ent ns ms, by rw [lin_iM (fun m h => linE_ne1 h) fun m h => List.mem_append_left _ h, List.length_map, top_ranks], by rw [lin_iM (fun m _ => linE_ne0) fun m h => List.mem_append_right _ h, List.length_map, top_ranks]⟩
theorem made_lin (d : Str) {ns ms : List Int} (l : ns.length = ms.length) : made d (ranksOf ns) (ranksOf ms) (linOf ns ms) = ranksOf (List.zipWith (key d) ns ms) := by
  unfold made
  rw [lin_mom (fun m h => linE_ne1 h) fun m h => List.mem_append_left _ h, lin_mom (fun m _ => linE_ne0) fun m h => List.mem_append_right _ h]
  have upM := up_canon (ns ++ ms)
  refine ranks_same (by simp [List.length_zipWith]) fun i j a b a' b' h1 h2 h3 h4 => ?_
  rw [List.getElem?_zipWith, List.getElem?_map, List.getElem?_map] at h1 h2
  rw [List.getElem?_zipWith] at h3 h4
  cases x1 : ns[i]? with
  | none => rw [x1] at h3; cases h3
  | some x =>
    cases y1 : ms[i]? with
    | none => rw [x1, y1] at h3; cases h3
    | some y =>
      cases x2 : ns[j]? with
      | none => rw [x2] at h4; cases h4
      | some u =>
        cases y2 : ms[j]? with
        | none => rw [x2, y2] at h4; cases h4
        | some v =>
          rw [x1, y1] at h1 h3
          rw [x2, y2] at h2 h4
          cases h1
          cases h2
          cases h3
          cases h4
          have mx : x ∈ canon (ns ++ ms) := mem_canon.mpr (List.mem_append_left _ (List.mem_of_getElem? x1))
          have my : y ∈ canon (ns ++ ms) := mem_canon.mpr (List.mem_append_right _ (List.mem_of_getElem? y1))
          have mu : u ∈ canon (ns ++ ms) := mem_canon.mpr (List.mem_append_left _ (List.mem_of_getElem? x2))
          have mv : v ∈ canon (ns ++ ms) := mem_canon.mpr (List.mem_append_right _ (List.mem_of_getElem? y2))
          have S := fun {p q : Int} (hp : p ∈ canon (ns ++ ms)) (hq : q ∈ canon (ns ++ ms)) => (rank_lt upM hp hq).symm
          exact key_same (S mx my) (S my mx) (S mu mv) (S mv mu) (S mx mu) (S mu mx) (S mx mv) (S mv mx) (S my mu) (S mu my) (S my mv) (S mv my)
theorem made_cut (d : Str) {ns ms L ps : List Int} (V : Val ns ms L) (hp : ∀ p ∈ ps, 0 ≤ p ∧ p < ns.length) :
    made d (ranksOf (pick ps ns)) (ranksOf (pick ps ms)) (linOf (pick ps (mom L 1 ns)) (pick ps (mom L 0 ms))) = ranksOf (pick ps (made d ns ms L)) := by
  have l := V.len
  rw [pick_same (xs := ns) (ys := mom L 1 ns) (mom_len ..).symm hp (mom_same V.sa V.lin.one), pick_same (xs := ms) (ys := mom L 0 ms) (mom_len ..).symm (fun p h => by rw [← l]; exact hp p h) (mom_same V.sb V.lin.two),
    made_lin d (by rw [pick_len, pick_len]), ← pick_zip (by rw [mom_len, mom_len, l]) (by rw [mom_len]; exact hp)]
  unfold made
  exact (pick_ranks (by rw [List.length_zipWith, mom_len, mom_len, ← l, Nat.min_self]; exact hp)).symm
theorem iMF_two {b : Int} (hb : b ≠ 2) : ∀ (n i : Nat), iMF b i (List.replicate n 2) = (List.range' i n).map fun k => ((k : Nat) : Int)
  | 0, i => rfl
  | n + 1, i => by
    rw [List.replicate_succ, iMF, if_neg (Ne.symm hb), iMF_two hb n (i + 1), List.range'_succ, List.map_cons]
theorem mom_two {b : Int} (hb : b ≠ 2) {rs : List Int} {n : Nat} (h : ∀ r ∈ rs, 0 ≤ r ∧ r < n) : mom (List.replicate n 2) b rs = rs := by
  unfold mom iM
  rw [iMF_two hb]
  have : ∀ r ∈ rs, at_ ((List.range' 0 n).map fun k => ((k : Nat) : Int)) r = r := fun r hr => by
    obtain ⟨h0, h1⟩ := h r hr
    have hl : r.toNat < ((List.range' 0 n).map fun k => ((k : Nat) : Int)).length := by rw [List.length_map, List.length_range']; omega
    unfold at_
    rw [List.getD_eq_getElem?_getD, List.getElem?_eq_getElem hl, List.getElem_map, List.getElem_range']
    show ((0 + 1 * r.toNat : Nat) : Int) = r
    omega
  rw [List.map_congr_left this, List.map_id']
theorem val_two {rs : List Int} (h : Std rs) {n : Nat} (hn : (n : Int) = topI rs + 1) : Val rs rs (List.replicate n 2) where
  sa := h
  sb := h
  len := rfl
  lin := ⟨fun e he => by rw [List.eq_of_mem_replicate he]; omega, by rw [iM, iMF_two (by decide), List.length_map, List.length_range']; exact hn, by rw [iM, iMF_two (by decide), List.length_map, List.length_range']; exact hn⟩
theorem made_two (d : Str) {rs : List Int} (h : Std rs) {n : Nat} (hn : (n : Int) = topI rs + 1) : made d rs rs (List.replicate n 2) = rs := by
  unfold made
  rw [mom_two (by decide) fun r hr => by have := std_in h hr; omega, mom_two (by decide) fun r hr => by have := std_in h hr; omega]
  have e : List.zipWith (key d) rs rs = rs.map fun r => 3 * r + off d 0 0 := by
    rw [List.zipWith_self]
    refine List.map_congr_left fun r _ => ?_
    unfold key
    rw [off_same (a' := 0) (b' := 0) (by omega) (by omega), Int.min_self]
  rw [e]
  have q : ranksOf (rs.map fun r => 3 * r + off d 0 0) = ranksOf rs := ranks_same (List.length_map _) fun i j a b a' b' h1 h2 h3 h4 => by
    rw [List.getElem?_map, h3] at h1
    rw [List.getElem?_map, h4] at h2
    cases h1
    cases h2
    show 3 * a' + off d 0 0 < 3 * b' + off d 0 0 ↔ a' < b'
    omega
  rw [q, ranks_std h]
theorem made_min {ns ms : List Int} : ranksOf (List.zipWith (key "lesser") ns ms) = ranksOf (List.zipWith min ns ms) := by
  have e : ∀ a b : Int, key "lesser" a b = 3 * min a b := fun a b => by
    unfold key off
    rw [if_neg (fun z => absurd z.1 (by decide)), if_neg (fun z => absurd z.1 (by decide))]
    omega
  refine ranks_same (by simp [List.length_zipWith]) fun i j a b a' b' h1 h2 h3 h4 => ?_
  rw [List.getElem?_zipWith] at h1 h2 h3 h4
  cases x1 : ns[i]? with
  | none => rw [x1] at h3; cases h3
  | some x =>
    cases y1 : ms[i]? with
    | none => rw [x1, y1] at h3; cases h3
    | some y =>
      cases x2 : ns[j]? with
      | none => rw [x2] at h4; cases h4
      | some u =>
        cases y2 : ms[j]? with
        | none => rw [x2, y2] at h4; cases h4
        | some v =>
          rw [x1, y1] at h1 h3
          rw [x2, y2] at h2 h4
          cases h1
          cases h2
          cases h3
          cases h4
          rw [e, e]
          omega
end K09

namespace Nd
open PySem PySem.Spec PyProof.Rows L2 Dl Ns
abbrev Ent := NestedKey × Addr × V
section
variable {P : Program} {w : World} {h : Heap} {a : Addr}
end
abbrev kn (m : Addr × D × V) : Ent := (keyD m.2.1, m.1, m.2.2)
section
variable {X : Cx} {pins : List (Addr × Obj)} {σ : L2.St} {H : Hp} {s : Shared} {Av : Addr → Prop} {S : Addr} {m : Addr × D} {M : List (Addr × D × V)} {A : Around} {E : Value → Shared → Prop}
end
end Nd

namespace Nd
open PySem PySem.Spec PyProof.Rows L2 Dl Ns
section
variable {X : Cx} {O0 : Addr → HO} {Pu : Addr → V → V → Hp → (Hp → Prop) → Prop}
end
end Nd

namespace Nd
open PySem PySem.Spec PyProof.Rows L2 Dl Ns
section
variable {X : Cx} {g : Gx} {wi : TI} {gt : TG} {tt : TT} {tk te : TE} {vs : List Nat} {tid : TID} {gd : TGD} {td : TTD} {kd ed : TED}
end
section
variable {X : Cx} {g : Gx} {kx vx tg iter : Expr} {ifs : List Expr} {scope : Scope} {own : List (Str × Nat)} {pos : Pos} {gt : TG} {tid : TID} {gd : TGD} {td : TTD} {kd ed : TED}
end
section
variable {X : Cx} {g : Gx} {a b : Expr} {ta tb : TED} {pos : Pos}
end
end Nd

namespace Tm
open PySem PySem.Spec PyProof.Rows L2 Dl
abbrev Cls := Value × Option Nat × (Addr → Value → Option Addr → TS)
section
variable {X : Cx} {body : List Stmt} {h0 : ExceptHandler} {hs : List ExceptHandler} {l : List Cls} {pos : Pos} {tb : WX → TS} {W : WX}
end
abbrev ClsD := Value × Option Nat × (Addr → Option Addr → Exc → TSD)
section
variable {X : Cx} {g : Gx} {body : List Stmt} {h0 : ExceptHandler} {hs : List ExceptHandler} {l : List ClsD} {pos : Pos} {tb : TSX}
end
end Tm

namespace Sl
open PySem PySem.Spec PyProof.Rows L2 Dl Ns Zs Nd
section
variable {X : Cx} {I : HI}
end
section
variable {X : Cx} {g : Gx} {e : Expr} {ta tb : TED} {p1 p2 p3 pos : Pos} {k : Nat}
end
end Sl

namespace Zs
open PySem PySem.Spec PyProof.Rows L2 Dl
end Zs

namespace Rd
open PySem PySem.Spec PyProof.Rows L2 Dl Ns Zs
section
variable {env : DEnv} {Q : D → Prop} {R : Bool → Prop} {L : List D → Prop} {i : Nat} {td ta tb : TED} {tr : TAD} {t u : TTD} {Dd : DEnds} {ss st : TSD} {f : TFD}
theorem rVar {s : Slot} {d : D} (h1 : env[i]? = some s) (h2 : rdSlot s = some d) (q : Q d) : dVar i env Q := ⟨s, d, h1, h2, q⟩
theorem rC {d : D} (q : Q d) : dC d env Q := q
theorem rNil (q : L []) : dNil env L := q
theorem rCons (q : td env fun x => tr env fun xs => L (x :: xs)) : dCons td tr env L := q
theorem rInts {ns : List Int} (q : L (ns.map D.int)) : dInts ns env L := q
theorem rOp {o : F2} (q : ta env fun x => tb env fun y => o x y Q) : dOp o ta tb env Q := q
theorem rTest (q : td env fun d => ∃ c, d = .bl c ∧ R c) : dTest td env R := q
theorem rB (q : td env fun d => ∃ c, d = .bl c ∧ R c) : dB td env R := q
theorem rEx {b : Bool} (q : R b) : ∃ c, D.bl b = D.bl c ∧ R c := ⟨b, rfl, q⟩
theorem rAnd (q : t env fun c => if c = true then u env R else R false) : dAnd t u env R := q
theorem rOr (q : t env fun c => if c = true then R true else u env R) : dOr t u env R := q
theorem rNot (q : t env fun c => R (!c)) : dNot t env R := q
theorem rYes (q : R true) : dYes env R := q
theorem rAndV (q : ta env fun x => ∃ c, x = .bl c ∧ if c = true then tb env Q else Q (.bl false)) : dAndV ta tb env Q := q
theorem rOrV (q : ta env fun x => ∃ c, x = .bl c ∧ if c = true then Q (.bl true) else tb env Q) : dOrV ta tb env Q := q
theorem rIfE (q : t env fun c => if c = true then ta env Q else tb env Q) : dIf t ta tb env Q := q
theorem rTup (q : tr env fun xs => xs.length ≤ sizeLine ∧ Q (.tup xs)) : dTup tr env Q := q
theorem rLst (q : tr env fun xs => xs.length ≤ sizeLine ∧ Q (.lst xs)) : dLst tr env Q := q
theorem rFLst (q : tr env fun xs => xs.length ≤ sizeLine ∧ L xs) : fLst tr env L := q
theorem rSz {n : Nat} {p : Prop} (h : n ≤ sizeLine) (q : p) : n ≤ sizeLine ∧ p := ⟨h, q⟩
theorem rF (q : f env fun ds => Q (.lst ds)) : dF f env Q := q
theorem rCB {r : FC} (q : tr env fun xs => r xs Q) : dCB r tr env Q := q
theorem rCall {C : Ct} {dds : List D} {Ed : DEnv → Exc → Prop} (q : tr env fun xs => C (xs ++ dds) Q (Ed env)) : dCall C dds Ed tr env Q := q
theorem rSub {h : Int → Int → D} {a b : Int} (q : Q (h a b)) : fI0 h (.int a) (.int b) Q := ⟨a, b, rfl, rfl, q⟩
theorem rFI {C : Int → Int → Prop} {h : Int → Int → D} {a b : Int} (c : C a b) (q : Q (h a b)) : fI C h (.int a) (.int b) Q := ⟨a, b, rfl, rfl, c, q⟩
theorem rAdd {a b : Int} (q : Q (.int (a + b))) : fAdd (.int a) (.int b) Q := q
theorem rLt {a b : Int} {o : List Int → List Int → Bool} {p : Int → Int → Bool} (q : Q (.bl (p a b))) : fOrd p o (.int a) (.int b) Q := .inl ⟨a, b, rfl, rfl, q⟩
theorem rEqI {a b : Int} {neg : Bool} (q : Q (.bl (xr neg (decide (a = b))))) : fEq neg (.int a) (.int b) Q := ⟨okI_int.ok, okI_int.ok, by rw [eqD_int]; exact q⟩
theorem rLenT {xs : List D} (q : Q (.int xs.length)) : bLen [.tup xs] Q := len_tup q
theorem rLenL {xs : List D} (q : Q (.int xs.length)) : bLen [.lst xs] Q := len_lst q
theorem rTupT {xs : List D} (q : Q (.tup xs)) : bTup [.tup xs] Q := ⟨_, rfl, q⟩
theorem rTupL {xs : List D} (q : Q (.tup xs)) : bTup [.lst xs] Q := ⟨_, rfl, q⟩
theorem rLstT {xs : List D} (q : Q (.lst xs)) : bLst [.tup xs] Q := ⟨_, rfl, q⟩
theorem rLstL {xs : List D} (q : Q (.lst xs)) : bLst [.lst xs] Q := ⟨_, rfl, q⟩
theorem rSeq (q : ss { Dd with nx := st Dd } env) : sSeq ss st Dd env := q
theorem rNext (q : Dd.nx env) : sNext Dd env := q
theorem rRet (q : td env Dd.rt) : sRet td Dd env := q
theorem rIf (q : t env fun b => if b = true then ss Dd env else st Dd env) : sIf t ss st Dd env := q
theorem rAsg (q : td env fun d => keepable env i d ∧ Dd.nx (env.set i (.val d))) : sAsg i td Dd env := q
theorem rKeep {d : D} {p : Prop} (k : keepable env i d) (q : p) : keepable env i d ∧ p := ⟨k, q⟩
theorem rNew (q : f env fun ds => i < env.length ∧ (noOwn (env.set i .no) = true ∨ noLstA ds = true) ∧ Dd.nx (env.set i (.own ds))) : sNew i f Dd env := q
theorem rNewK {ds : List D} {p : Prop} (h : i < env.length) (k : noOwn (env.set i .no) = true ∨ noLstA ds = true) (q : p) : i < env.length ∧ (noOwn (env.set i .no) = true ∨ noLstA ds = true) ∧ p := ⟨h, k, q⟩
theorem rYesT {p q : Prop} (k : p) : if true = true then p else q := k
theorem rNoT {p q : Prop} (k : q) : if false = true then p else q := k
theorem rLc {tid : TID} {gd : TGD} {vs : List Nat} (q : tid (frz env) fun ds => ds.length ≤ 1000000 ∧ lcD gd t ta (wipeD (frz env) vs) ds [] L) : fLc tid gd t ta vs env L := q
theorem rSeqI (q : td env fun d => (noOwn env = true ∨ d.noLst = true) ∧ ∃ ds, seqOf d = some ds ∧ L ds) : idSeq td env L := q
theorem rDrop (q : td env fun _ => Dd.nx env) : sDrop td Dd env := q
theorem rApp {xs : List D} (h : env[i]? = some (.own xs)) (q : td env fun d => d.noLst = true ∧ xs.length < sizeLine ∧ Dd.nx (env.set i (.own (xs ++ [d])))) : sApp i td Dd env := ⟨xs, h, q⟩
theorem rFor {tid : TID} {gd : TGD} (q : tid env fun ds => forD gd ss Dd ds env) : sFor tid gd ss Dd env := q
theorem rGdN {d : D} {P : DEnv → Prop} (q : P (env.set i (.val d))) : gdName i d env P := q
theorem rGdT {is : List Nat} {ds : List D} {P : DEnv → Prop} (h : ds.length = is.length) (q : P (putAll is ds env)) : gdTup is (.tup ds) env P := ⟨ds, rfl, h, q⟩
theorem rN1 {p q : Prop} (k : q) : if (!true) = true then p else q := k
theorem rX3 {p q : Prop} (k : q) : if xr true true = true then p else q := k
theorem rVarI {d : D} {ds : List D} (h1 : env[i]? = some (.val d)) (h2 : seqOf d = some ds) (q : L ds) : idVar i env L := ⟨d, ds, h1, h2, q⟩
theorem rRng {Q1 : List D → Prop} (q : tr env fun xs => ∃ j : Int, xs = [.int j] ∧ (-(2 ^ 62) ≤ j ∧ j < 2 ^ 62) ∧ Q1 (rngD 0 j.toNat)) : idRng1 tr env Q1 := q
end
end Rd

namespace Zo
open PySem PySem.Spec PyProof.Rows L2
structure Rnd (m : Nat) : Prop where
  all : ∀ j, j ≤ m → ∃ b, b ≤ m ∧ lcgN m b = j
  rnd : lcgN m (m + 1) = 0
theorem rnd_of {m : Nat} (h : ((List.range (m + 1)).all fun j => (List.range (m + 1)).any fun b => lcgN m b == j) = true) (z : lcgN m (m + 1) = 0) : Rnd m where
  all j hj := by
    obtain ⟨b, hb, e⟩ := List.any_eq_true.mp (List.all_eq_true.mp h j (List.mem_range.mpr (by omega)))
    exact ⟨b, by have := List.mem_range.mp hb; omega, by simpa using e⟩
  rnd := z
theorem rnd7 : Rnd 7 := rnd_of (by decide +kernel) (by decide +kernel)
theorem rnd15 : Rnd 15 := rnd_of (by decide +kernel) (by decide +kernel)
theorem rnd31 : Rnd 31 := rnd_of (by decide +kernel) (by decide +kernel)
theorem rnd63 : Rnd 63 := rnd_of (by decide +kernel) (by decide +kernel)
theorem rnd127 : Rnd 127 := rnd_of (by decide +kernel) (by decide +kernel)
theorem Rnd.again {m : Nat} (R : Rnd m) : ∀ k, lcgN m (m + 1 + k) = lcgN m k
  | 0 => R.rnd
  | k + 1 => by
    show (lcgN m (m + 1 + k) * 5 + 1) % (m + 1) = _
    rw [R.again k]
    rfl
theorem Rnd.meets {m : Nat} (R : Rnd m) (h : Int) {j : Nat} (hj : j ≤ m) : ∃ n, n ≤ m + 12 ∧ runI m (SetTable.bits h) n = j := by
  obtain ⟨a, ha, ea⟩ := R.all _ (runI_le m (SetTable.bits h) 12)
  obtain ⟨b, hb, eb⟩ := R.all j hj
  by_cases c : a ≤ b
  · refine ⟨12 + (b - a), by omega, ?_⟩
    rw [runI_tail (bits_lt h), ← ea, lcgN_add, Nat.add_sub_cancel' c]
    exact eb
  · refine ⟨12 + (m + 1 + b - a), by omega, ?_⟩
    rw [runI_tail (bits_lt h), ← ea, lcgN_add, Nat.add_sub_cancel' (by omega), R.again]
    exact eb
theorem Rnd.free {m : Nat} (R : Rnd m) (owner : Array (Option Nat)) (h : Int) {j : Nat} (hj : j ≤ m) (hf : oAt owner j = none) :
    ∃ i, i ≤ m ∧ SetTable.layClean.free m owner (SetTable.turns m) (SetTable.bits h % (m + 1)) (SetTable.bits h) = some i ∧ oAt owner i = none := by
  obtain ⟨n, hn, e⟩ := R.meets h hj
  let at_ : Nat → Nat := fun k => (nth m (runAt m (SetTable.bits h % (m + 1)) (SetTable.bits h)) k).j
  have here : oAt owner (at_ (off m (SetTable.bits h % (m + 1)) (SetTable.bits h) n)) = none := by
    show oAt owner (nth m (runAt m (SetTable.bits h % (m + 1)) (SetTable.bits h)) (off m (SetTable.bits h % (m + 1)) (SetTable.bits h) n)).j = none
    rw [nth_off, itL_run]
    show oAt owner (runI m (SetTable.bits h) n) = none
    rw [e]
    exact hf
  obtain ⟨K, k1, k2, k3⟩ := st_least (p := fun k => oAt owner (at_ k) = none) _ here
  refine ⟨at_ K, ?_, free_spec m owner _ n _ _ K (by unfold SetTable.turns; omega) k1 (fun k hk => ?_) ?_, k2⟩
  · have b := runEnd_bd (m := m) (i := SetTable.bits h % (m + 1)) (Nat.le_of_lt_succ (Nat.mod_lt _ (Nat.succ_pos m)))
    have q := nth_in (m := m) K (runAt m (SetTable.bits h % (m + 1)) (SetTable.bits h)) (by
      show SetTable.bits h % (m + 1) + (SetTable.runEnd m (SetTable.bits h % (m + 1)) - SetTable.bits h % (m + 1)) ≤ m
      omega)
    exact Nat.le_trans (Nat.le_add_right _ _) q
  · cases z : oAt owner (at_ k) with
    | none => exact absurd z (k3 k hk)
    | some x => rfl
  · show (oAt owner (at_ K)).isNone = true
    rw [k2]
    rfl
structure Sat (m n : Nat) (owner : Array (Option Nat)) : Prop where
  sz : owner.size = m + 1
  all : ∀ k, k < n → ∃ j, j ≤ m ∧ oAt owner j = some k
  ps : ∃ ps : List Nat, ps.length = n ∧ ∀ j, j ≤ m → oAt owner j ≠ none → j ∈ ps
theorem Sat.step {m n : Nat} (R : Rnd m) {owner : Array (Option Nat)} (W : Sat m n owner) (hl : n ≤ m) (h : Int) :
    ∃ i, SetTable.layClean.free m owner (SetTable.turns m) (SetTable.bits h % (m + 1)) (SetTable.bits h) = some i ∧ Sat m (n + 1) (owner.setIfInBounds i (some n)) := by
  obtain ⟨ps, hp, hin⟩ := W.ps
  obtain ⟨j, hj, hno⟩ := st_missing ps (m + 1) (by omega)
  have jn : oAt owner j = none := Classical.byContradiction fun c => hno (hin j (by omega) c)
  obtain ⟨i, him, e, hi⟩ := R.free owner h (by omega) jn
  refine ⟨i, e, ⟨by rw [Array.size_setIfInBounds, W.sz], fun k hk => ?_, i :: ps, by simp [hp], fun x hx hne => ?_⟩⟩
  · by_cases c : k = n
    · exact ⟨i, him, by rw [c]; exact oAt_set_self _ (by rw [W.sz]; omega)⟩
    · obtain ⟨x, hx, ex⟩ := W.all k (by omega)
      refine ⟨x, hx, ?_⟩
      rw [oAt_set_ne _ fun z => ?_]
      · exact ex
      · rw [z, hi] at ex
        cases ex
  · by_cases c : x = i
    · rw [c]
      exact List.mem_cons_self
    · rw [oAt_set_ne _ c] at hne
      exact List.mem_cons_of_mem _ (hin x hx hne)
theorem sat_fold {m : Nat} (R : Rnd m) : ∀ (rest : List Int) (n : Nat) (owner : Array (Option Nat)), Sat m n owner → n + rest.length ≤ m →
    ∃ o', rest.foldl (stepF m) (some (owner, n)) = some (o', n + rest.length) ∧ Sat m (n + rest.length) o'
  | [], n, owner, W, _ => ⟨owner, rfl, W⟩
  | h :: rest, n, owner, W, hl => by
    simp only [List.length_cons] at hl ⊢
    obtain ⟨i, e, W2⟩ := W.step R (by omega) h
    obtain ⟨o', f, W3⟩ := sat_fold R rest (n + 1) _ W2 (by omega)
    refine ⟨o', ?_, by rw [show n + (rest.length + 1) = n + 1 + rest.length by omega]; exact W3⟩
    rw [List.foldl_cons, stepF_some e, f, show n + (rest.length + 1) = n + 1 + rest.length by omega]
theorem clean_ok {m : Nat} (R : Rnd m) {hs : Array Int} (hn : hs.size ≤ m) : ∃ owner, SetTable.layClean m hs = some owner ∧ Sat m hs.size owner := by
  obtain ⟨o', f, W⟩ := sat_fold R hs.toList 0 (Array.replicate (m + 1) none) ⟨by simp, fun k hk => absurd hk (Nat.not_lt_zero _), [], rfl, fun j hj hne => absurd (oAt_init hj) hne⟩ (by rw [Array.length_toList]; omega)
  rw [Nat.zero_add, Array.length_toList] at f W
  exact ⟨o', by rw [layClean_eq, f]; rfl, W⟩
theorem laid_ok {m : Nat} (R : Rnd m) {hs : Array Int} (hn : hs.size ≤ m) (fi mv : Nat) (led pl : Bool) :
    ∃ t order, SetTable.laid m fi mv led pl hs = some (t, order) ∧ order.toList.Perm (List.range hs.size) ∧ Ris t.place.toList ∧ t.place.size = hs.size ∧ t.dummies = #[] ∧ t.mask = m ∧ t.led = led ∧ t.plain = pl := by
  obtain ⟨owner, e, W⟩ := clean_ok R hn
  have rr := ris_live (fun j => owner.getD j none) (List.range (m + 1)) (by
    unfold Ris
    first | exact List.pairwise_lt_range | exact List.pairwise_lt_range _)
  have r1 : Ris ((liveOf m owner).map (·.1)) := rr.1
  have nd : ((liveOf m owner).map (·.1)).Nodup := List.Pairwise.imp (fun h => Nat.ne_of_lt h) r1
  have has : ∀ k, k < hs.size → k ∈ (liveOf m owner).map (·.2) := fun k hk => by
    obtain ⟨j, b1, b2⟩ := W.all k hk
    exact List.mem_map.mpr ⟨(j, k), (mem_live W.sz).2 ⟨b1, b2⟩, rfl⟩
  have len : (liveOf m owner).length = hs.size := by
    obtain ⟨ps, p1, p2⟩ := W.ps
    have a := nat_nodup_len ((liveOf m owner).map (·.1)) ps nd fun x hx => by
      obtain ⟨⟨y, k⟩, hq, ey⟩ := List.mem_map.mp hx
      obtain ⟨b1, b2⟩ := (mem_live W.sz).1 hq
      have ey : y = x := ey
      rw [← ey]
      exact p2 y b1 (by rw [b2]; exact fun z => nomatch z)
    have b := nat_nodup_len (List.range hs.size) ((liveOf m owner).map (·.2)) List.nodup_range fun k hk => has k (List.mem_range.mp hk)
    simp only [List.length_map, List.length_range] at a b
    omega
  refine ⟨_, _, by
    unfold SetTable.laid
    rw [e]
    rfl, ?_, r1, ?_, rfl, rfl, rfl, rfl⟩
  · exact perm_range hs.size _ (by
      show ((liveOf m owner).map (·.2)).length = hs.size
      rw [List.length_map, len]) has
  · show ((liveOf m owner).map (·.1)).toArray.size = hs.size
    rw [List.size_toArray, List.length_map, len]
theorem pick_all {α : Type} (es : Array α) {order : Array Nat} (p : order.toList.Perm (List.range es.size)) : (order.filterMap (es[·]?)).toList.Perm es.toList := by
  rw [Array.toList_filterMap]
  have e : (List.range es.size).filterMap (es[·]?) = es.toList := by
    apply List.ext_getElem?
    intro i
    have h : (List.range es.size).filterMap (es[·]?) = (List.range es.size).pmap (fun i h => es[i]'h) fun i hi => List.mem_range.mp hi := by
      have : ∀ l : List Nat, ∀ hl : ∀ i ∈ l, i < es.size, l.filterMap (es[·]?) = l.pmap (fun i h => es[i]'h) hl := by
        intro l
        induction l with
        | nil => intro _; rfl
        | cons a l ih =>
          intro hl
          rw [List.filterMap_cons_some (Array.getElem?_eq_getElem (hl a List.mem_cons_self)), List.pmap_cons, ih fun i hi => hl i (List.mem_cons_of_mem _ hi)]
      exact this _ _
    rw [h]
    by_cases c : i < es.size
    · simp [List.getElem?_pmap, List.getElem?_range, c]
    · simp [List.getElem?_pmap, c]
  rw [← e]
  exact p.filterMap _
theorem size_or : ∀ n : Fin 64, 5 ≤ n.1 → (SetTable.sizeAbove (n.1 * 2) = 16 ∨ SetTable.sizeAbove (n.1 * 2) = 32 ∨ SetTable.sizeAbove (n.1 * 2) = 64 ∨ SetTable.sizeAbove (n.1 * 2) = 128) ∧ n.1 + n.1 < SetTable.sizeAbove (n.1 * 2) := by decide +kernel
theorem rnd_for {n : Nat} (h5 : 5 ≤ n) (h : n < 64) : Rnd (SetTable.sizeAbove (n * 2) - 1) ∧ n + n ≤ SetTable.sizeAbove (n * 2) - 1 ∧ SetTable.sizeAbove (n * 2) ≤ 128 := by
  obtain ⟨q, r⟩ := size_or ⟨n, h⟩ h5
  simp only at q r
  refine ⟨?_, by omega, by omega⟩
  rcases q with q | q | q | q
  · rw [q]; exact rnd15
  · rw [q]; exact rnd31
  · rw [q]; exact rnd63
  · rw [q]; exact rnd127
end Zo

namespace Zo
open PySem PySem.Spec PyProof.Rows L2 Zs
theorem entry_or : entryFor table "set.__or__" = some Builtin.«frozenset.__or__» :=
  entryFor_alias (id' := "frozenset.__or__") (by kernel_rfl) rfl (by decide +kernel) (by kernel_rfl)
section
variable {P : Program} {w : World} {A : Around} {E : Value → Shared → Prop} {s : Shared} {a b : Addr} {S T : Int → Bool} {n m : Nat}
theorem map_all (es : Array (Int × Value)) : (es.map (·.1)).size = es.size := Array.size_map ..
theorem relay_at {o : Obj} {es : Array (Int × Value)} {ep : Nat} {t : SetTable} (ho : s.heap.get? a = some o) (hd : o.data = .set es ep t) (hf : t.fits es.size = true) {k : Nat} (h5 : 5 ≤ k) (h64 : k < 64) (hk : es.size ≤ k)
    {Q : Unit → Shared → Prop}
    (hQ : ∀ h' es' t', Heap.SameBut a s.heap h' → h'.get? a = some { o with data := .set es' (ep + 1) t' } → es'.toList.Perm es.toList → Ris t'.place.toList → t'.place.size = es.size → t'.dummies = #[] → k + k ≤ t'.mask → Rnd t'.mask → t'.led = t.led → Q () { s with heap := h' }) :
    wpAny (model P w) A (setRelay a (k * 2)) Q E s := by
  obtain ⟨R, big, top⟩ := rnd_for h5 h64
  obtain ⟨t', order, e, hp, r1, r2, r3, r4, r5, r6⟩ := laid_ok R (hs := es.map (·.1)) (by rw [map_all]; omega) t.finger (t.movedTo (SetTable.sizeAbove (k * 2) - 1)) t.led t.plain
  rw [map_all] at hp r2
  have pm := pick_all es hp
  have hs2 : (order.filterMap (es[·]?)).size = es.size := by
    rw [← Array.length_toList, pm.length_eq, Array.length_toList]
  have e' : t.relaid (es.map (·.1)) (k * 2) = some (t', order) := e
  rw [setRelay_eq]
  refine wpAny_bind (wpAny_setState_of ho hd hf ?_)
  dsimp only
  refine wp_if_neg (by rw [sizeLine_eq]; omega) ?_
  try refine wpAny_bind (wpAny_pure ?_)
  rw [e']
  dsimp only
  refine wpAny_bind ?_
  refine wp_if_neg (by rw [hs2]; simp) ?_
  try refine wpAny_bind (wpAny_pure ?_)
  refine wpAny_pure ?_
  dsimp only
  refine wpAny_storeSet_of ho hd ?_ (by rw [hs2, sizeLine_eq]; omega)
  exact hQ _ _ t' (Heap.SameBut.update ..) (store_at ho hd) pm r1 r2 r3 (by omega) (by rw [r4]; exact R) r5
structure Tab (w : World) (h : Heap) (a : Addr) (S : Int → Bool) (n : Nat) (es : Array (Int × Value)) (ep : Nat) (t : SetTable) : Prop where
  ob : ∃ o, h.get? a = some o ∧ o.ExactSet ∧ o.data = .set es ep t
  good : ∀ e ∈ es.toList, GoodE e
  nd : (es.toList.map keyOf).Nodup
  mem : ∀ k, S k = true ↔ k ∈ es.toList.map keyOf
  sz : es.size = n
  pl : t.place.size = es.size
  ris : Ris t.place.toList
  dm : t.dummies = #[]
  few : n ≤ t.mask
  big : 7 ≤ t.mask
  led : w.params.followText "set-order" = true ∨ t.led = true
theorem Tab.fits {es : Array (Int × Value)} {ep : Nat} {t : SetTable} {h : Heap} (R : Tab w h a S n es ep t) : t.fits es.size = true := by
  unfold SetTable.fits SetTable.fill
  rw [R.dm, Bool.and_eq_true, beq_iff_eq, decide_eq_true_eq]
  show t.place.size = es.size ∧ t.place.size + 0 ≤ t.mask
  have := R.pl
  have := R.sz
  have := R.few
  omega
theorem Tab.setR {es : Array (Int × Value)} {ep : Nat} {t : SetTable} {h : Heap} (R : Tab w h a S n es ep t) (hn : n < scanBound) : SetR w h a S n := by
  obtain ⟨o, ho, hx, hd⟩ := R.ob
  exact ⟨o, es, ep, t, ho, hx, hd, R.good, R.nd, R.mem, by rw [R.sz]; exact hn, R.fits, R.sz, R.ris, R.led⟩
theorem tab_born {h : Heap} (hb : h.get? b = some (born w)) : Tab w h b (fun _ => false) 0 #[] 0 (.fresh 0 0 (!w.params.followText "set-order")) where
  ob := ⟨_, hb, ⟨rfl, rfl, rfl⟩, rfl⟩
  good e he := by simp at he
  nd := by simp
  mem k := by simp
  sz := rfl
  pl := rfl
  ris := List.Pairwise.nil
  dm := rfl
  few := Nat.zero_le _
  big := Nat.le_refl _
  led := by
    show _ ∨ (!w.params.followText "set-order") = true
    cases w.params.followText "set-order"
    · exact .inr rfl
    · exact .inl rfl
theorem mem_nil {es : Array (Int × Value)} (h : es.size = 0) : es.toList = [] := List.eq_nil_of_length_eq_zero (by rw [Array.length_toList]; exact h)
theorem Tab.order {h h' : Heap} {es es' : Array (Int × Value)} {ep ep' : Nat} {t t' : SetTable} (R : Tab w h a S n es ep t) (ho : ∃ o, h'.get? a = some o ∧ o.ExactSet ∧ o.data = .set es' ep' t') (pm : es'.toList.Perm es.toList)
    (pl : t'.place.size = es.size) (ris : Ris t'.place.toList) (dm : t'.dummies = #[]) (few : n ≤ t'.mask) (big : 7 ≤ t'.mask) (led : t'.led = t.led) : Tab w h' a S n es' ep' t' := by
  have z : es'.size = es.size := by rw [← Array.length_toList, pm.length_eq, Array.length_toList]
  exact { ob := ho, good := fun e he => R.good e (pm.mem_iff.mp he), nd := (pm.map keyOf).nodup_iff.mpr R.nd, mem := fun k => (R.mem k).trans (pm.map keyOf).mem_iff.symm, sz := by rw [z, R.sz], pl := by rw [pl, z], ris := ris, dm := dm, few := few, big := big, led := R.led.imp id fun q => by rw [led]; exact q }
theorem room_at {es : Array (Int × Value)} {ep : Nat} {t : SetTable} (R : Tab w s.heap a S n es ep t) (h0 : n = 0 → Rnd t.mask) {k : Nat} (h64 : n + k < 64) {Q : Unit → Shared → Prop}
    (hQ : ∀ h' es' ep' t', Heap.SameBut a s.heap h' → Tab w h' a S n es' ep' t' → (n = 0 → Rnd t'.mask) → k ≤ t'.mask → Q () { s with heap := h' }) :
    wpAny (model P w) A (setRoomFor a k) Q E s := by
  obtain ⟨o, ho, hx, hd⟩ := R.ob
  have e : t.roomFor k = if (t.place.size + 0 + k) * 5 ≥ t.mask * 3 then some ((t.place.size + k) * 2) else none := by
    unfold SetTable.roomFor SetTable.fill
    rw [R.dm]
    rfl
  have p1 := R.pl
  have p2 := R.sz
  have p3 := R.big
  have p4 := R.few
  unfold setRoomFor
  refine wpAny_bind (wpAny_setState_of ho hd R.fits ?_)
  dsimp only
  rw [e]
  by_cases c : (t.place.size + 0 + k) * 5 ≥ t.mask * 3
  · rw [if_pos c]
    dsimp only
    refine relay_at (k := t.place.size + k) ho hd R.fits (by omega) (by omega) (by omega) fun h' es' t' sb ho' pm r1 r2 r3 r4 r5 r6 => ?_
    refine hQ h' es' _ t' sb (R.order ⟨_, ho', ⟨hx.1, hx.2.1, hx.2.2⟩, rfl⟩ pm r2 r1 r3 (by omega) (by omega) r6) (fun _ => r5) (by omega)
  · rw [if_neg c]
    dsimp only
    exact wpAny_pure (hQ s.heap es ep t (.refl _ _) R h0 (by omega))
theorem merge0_at {es : Array (Int × Value)} {ep : Nat} {t : SetTable} {each : Sem Unit} (R : Tab w s.heap b S 0 es ep t) (h0 : Rnd t.mask) (T1 : SetR w s.heap a T m) (ne : b ≠ a) (h64 : m < 64) {Q : Unit → Shared → Prop}
    (hQ : ∀ h' es' ep' t', Heap.SameBut b s.heap h' → Tab w h' b T m es' ep' t' → (m = 0 → Rnd t'.mask) → Q () { s with heap := h' }) :
    wpAny (model P w) A (setMerge b a each) Q E s := by
  obtain ⟨o2, es2, ep2, t2, ho2, hx2, hd2, g2, nd2, m2, b2, f2, n2, r2, l2⟩ := T1
  unfold setMerge
  refine wp_if_neg (by simpa using ne) ?_
  try refine wpAny_bind (wpAny_pure ?_)
  refine wpAny_bind (wpAny_setState_of ho2 hd2 f2 ?_)
  dsimp only
  by_cases c0 : m = 0
  · refine wp_if_pos (by simp [Array.isEmpty, n2, c0]) ?_
    subst c0
    refine wpAny_pure (hQ s.heap es ep t (.refl _ _) ?_ fun _ => h0)
    have z1 := mem_nil R.sz
    have z2 := mem_nil n2
    exact { R with mem := fun k => by rw [m2 k, z1, z2] }
  · refine wp_if_neg (by simp [Array.isEmpty, n2, c0]) ?_
    try refine wpAny_bind (wpAny_pure ?_)
    refine wpAny_bind (room_at R (fun _ => h0) (k := es2.size) (by omega) fun h1 es1 ep1 t1 sb1 R1 q1 q2 => ?_)
    obtain ⟨o1, ho1, hx1, hd1⟩ := R1.ob
    refine wpAny_bind (wpAny_setState_of ho1 hd1 R1.fits ?_)
    dsimp only
    have fill : t1.fill = 0 := by
      unfold SetTable.fill
      rw [R1.dm, R1.pl, R1.sz]
      rfl
    have hp2 : t2.place.size = es2.size ∧ t2.fill ≤ t2.mask := by
      unfold SetTable.fits at f2
      simpa using f2
    have led : ∀ x y : Bool, (w.params.followText "set-order" = true ∨ x = true) → (w.params.followText "set-order" = true ∨ y = true) → (w.params.followText "set-order" = true ∨ (x && y) = true) := fun x y h1 h2 => by
      rcases h1 with h1 | h1
      · exact .inl h1
      · rcases h2 with h2 | h2
        · exact .inl h2
        · exact .inr (by rw [h1, h2]; rfl)
    unfold SetTable.road
    rw [fill]
    have sbw : ∀ f, Heap.SameBut b s.heap (h1.update b f) := fun f => sb1.trans (Heap.SameBut.update ..)
    by_cases c : (t1.mask == t2.mask && t2.dummies.isEmpty) = true
    · rw [if_neg (by simp), if_pos c]
      dsimp only
      rw [Bool.and_eq_true, beq_iff_eq] at c
      refine wpAny_storeSet_of ho1 hd1 ?_ (fits_of_scanBound b2)
      refine hQ _ es2 (ep1 + 1) _ (sbw _) ⟨⟨_, store_at ho1 hd1, ⟨hx1.1, hx1.2.1, hx1.2.2⟩, rfl⟩, g2, nd2, m2, n2, hp2.1, r2, by simpa [Array.isEmpty_iff] using c.2, ?_, ?_, led _ _ R1.led l2⟩ fun z => absurd z c0
      · show m ≤ t2.mask
        omega
      · show 7 ≤ t2.mask
        have := R1.big
        omega
    · rw [if_neg (by simp), if_neg c]
      dsimp only
      obtain ⟨t', order, e, hp, r1, r2', r3, r4, r5, r6⟩ := laid_ok (q1 rfl) (hs := es2.map (·.1)) (by rw [map_all]; exact q2) t1.finger t1.moves (t1.led && t2.led) (t1.plain && t2.plain)
      rw [map_all] at hp r2'
      have pm := pick_all es2 hp
      have hs2 : (order.filterMap (es2[·]?)).size = es2.size := by rw [← Array.length_toList, pm.length_eq, Array.length_toList]
      refine wpAny_bind ?_
      rw [e]
      show wpAny _ _ (if ((order.filterMap (es2[·]?)).size != es2.size) = true then _ else _) _ _ _
      refine wp_if_neg (by rw [hs2]; simp) ?_
      try refine wpAny_bind (wpAny_pure ?_)
      refine wpAny_pure ?_
      dsimp only
      refine wpAny_storeSet_of ho1 hd1 ?_ (by rw [hs2]; exact fits_of_scanBound b2)
      refine hQ _ (order.filterMap (es2[·]?)) (ep1 + 1) t' (sbw _) ⟨⟨_, store_at ho1 hd1, ⟨hx1.1, hx1.2.1, hx1.2.2⟩, rfl⟩, fun e he => g2 e (pm.mem_iff.mp he), (pm.map keyOf).nodup_iff.mpr nd2, fun k => (m2 k).trans (pm.map keyOf).mem_iff.symm, by rw [hs2, n2], by rw [r2', hs2], r1, r3, ?_, ?_, ?_⟩ fun z => absurd z c0
      · rw [r4]
        omega
      · rw [r4]
        exact R1.big
      · rw [r5]
        exact led _ _ R1.led l2
end
end Zo

namespace Zo
open PySem PySem.Spec PyProof.Rows L2 Zs
section
variable {P : Program} {w : World} {A : Around} {E : Value → Shared → Prop} {s : Shared} {a b : Addr} {S T : Int → Bool} {n m : Nat}
theorem goodE_int {e : Int × Value} (g : GoodE e) : ∃ k tk, e = (hashInt k, Value.int k tk) ∧ keyOf e = k := by
  obtain ⟨k, tk, h1, h2⟩ := g
  obtain ⟨x, y⟩ := e
  simp only at h1 h2
  subst h1 h2
  exact ⟨k, tk, rfl, rfl⟩
theorem quiet_at {l : List Addr} (h : ∀ a ∈ l, ∃ S n, SetR w s.heap a S n) {Q : Bool → Shared → Prop} (hQ : Q true s) : wpAny (model P w) A (setsQuiet l) Q E s := by
  unfold setsQuiet
  refine wpAny_bind (wpAny_forIn_list _ (fun rest b s' => b.1 = none ∧ s' = s ∧ ∀ x ∈ rest, ∃ S n, SetR w s.heap x S n) _ ?_ ?_ _ _ ⟨rfl, rfl, h⟩)
  · rintro x rest b s' ⟨hb, rfl, hr⟩
    obtain ⟨S, n, o, es, ep, t, ho, hx, hd, g, nd, hm, hbd, hf, r⟩ := hr x List.mem_cons_self
    unfold setEntries
    refine wpAny_bind (wpAny_bind (wpAny_setState_of ho hd hf (wpAny_pure ?_)))
    refine wpAny_bind (wpAny_forIn_array' _ (fun rest b s2 => b.1 = none ∧ s2 = s' ∧ ∀ e ∈ rest, GoodE e) _ ?_ ?_ _ _ ⟨rfl, rfl, g⟩)
    · rintro e rest2 b2 s2 ⟨hb2, rfl, g2⟩
      obtain ⟨k, tk, rfl, _⟩ := goodE_int (g2 e List.mem_cons_self)
      dsimp only
      exact wpAny_pure ⟨rfl, rfl, fun e he => g2 e (List.mem_cons_of_mem _ he)⟩
    · rintro ⟨b1, b2⟩ s2 ⟨hb2, rfl, _⟩
      simp only at hb2
      subst hb2
      exact wpAny_pure ⟨rfl, rfl, fun x hx => hr x (List.mem_cons_of_mem _ hx)⟩
  · rintro ⟨b1, b2⟩ s2 ⟨hb2, rfl, _⟩
    simp only at hb2
    subst hb2
    exact wpAny_pure hQ
theorem walk_at {o : Obj} {es : Array (Int × Value)} {ep : Nat} {t : SetTable} (ho : s.heap.get? a = some o) (hd : o.data = .set es ep t) (hf : t.fits es.size = true) (hl : w.params.followText "set-order" = true ∨ (t.led = true ∧ (t.plain = true ∨ es.size ≤ 1)))
    {Q : Array (Int × Value) → Shared → Prop} (hQ : ∀ xs : Array (Int × Value), xs.toList.Perm es.toList → Q xs s) : wpAny (model P w) A (setWalk a) Q E s := by
  unfold setWalk
  refine wpAny_bind (wpAny_setState_of ho hd hf ?_)
  dsimp only
  refine wpAny_bind (wpAny_byText ?_)
  by_cases c : w.params.followText "set-order" = true
  · refine wp_if_pos c ?_
    refine wpAny_bind (wpAny_askSetting ?_)
    exact wpAny_pure (hQ _ (pick_perm _ _))
  · refine wp_if_neg c ?_
    obtain ⟨l1, l2⟩ := hl.resolve_left c
    try refine wpAny_bind (wpAny_pure ?_)
    refine wp_if_neg (by
      show ¬ (!t.plain && decide (es.size > 1)) = true
      rcases l2 with l2 | l2
      · simp [l2]
      · simp [Nat.not_lt.mpr l2]) ?_
    try refine wpAny_bind (wpAny_pure ?_)
    refine wpAny_bind ?_
    show wpAny _ _ (if (!t.led && decide (es.size > 1)) = true then _ else _) _ _ _
    refine wp_if_neg (by simp [l1]) ?_
    exact wpAny_pure (wpAny_pure (hQ es (.refl _)))
theorem unseen_at {es : Array (Int × Value)} {ep : Nat} {t : SetTable} (R : Tab w s.heap b S n es ep t) (hn : n < scanBound) (ne : b ≠ a)
    {o2 : Obj} {es2 : Array (Int × Value)} {ep2 : Nat} {t2 : SetTable} (ho2 : s.heap.get? a = some o2) (hd2 : o2.data = .set es2 ep2 t2) (f2 : t2.fits es2.size = true) (T1 : SetR w s.heap a T m) (l2 : w.params.followText "set-order" = true ∨ t2.led = true)
    {Q : Array (Int × Value) → Shared → Prop} (hQ : ∀ (xs : Array (Int × Value)) h', xs.toList.Perm es2.toList → Heap.SameBut b s.heap h' → SetR w h' b S n → Q xs { s with heap := h' }) :
    wpAny (model P w) A (setWalkUnseen a [b] (some b)) Q E s := by
  have R0 := R.setR hn
  unfold setWalkUnseen
  refine wpAny_bind (wpAny_setState_of ho2 hd2 f2 ?_)
  dsimp only
  refine wpAny_bind (wpAny_byText ?_)
  by_cases c : (w.params.followText "set-order" || t2.led && t2.plain || decide (es2.size ≤ 1)) = true
  · refine wp_if_pos c ?_
    refine walk_at ho2 hd2 f2 ?_ fun xs pm => hQ xs s.heap pm (.refl _ _) R0
    simp only [Bool.or_eq_true, Bool.and_eq_true, decide_eq_true_eq] at c
    rcases c with (c | c) | c
    · exact .inl c
    · exact .inr ⟨c.1, .inl c.2⟩
    · rcases l2 with l2 | l2
      · exact .inl l2
      · exact .inr ⟨l2, .inr c⟩
  · refine wp_if_neg c ?_
    try refine wpAny_bind (wpAny_pure ?_)
    refine wpAny_bind (quiet_at (fun x hx => ?_) ?_)
    · rcases List.mem_cons.mp hx with e | hx
      · rw [e]; exact ⟨T, m, T1⟩
      · rw [List.mem_singleton.mp hx]; exact ⟨S, n, R0⟩
    refine wp_if_neg (by simp) ?_
    try refine wpAny_bind (wpAny_pure ?_)
    refine wpAny_bind (wpAny_rule ?_)
    try dsimp only
    obtain ⟨o, ho, hx, hd⟩ := R.ob
    refine wpAny_bind (wpAny_setState_of ho hd R.fits ?_)
    dsimp only
    split
    · refine wpAny_bind (wpAny_storeSet_of ho hd ?_ (by rw [R.sz]; exact fits_of_scanBound hn))
      refine wpAny_pure (hQ es2 _ (.refl _) (Heap.SameBut.update ..) (Tab.setR (es := es) (ep := ep + 1) (t := { t with led := t.led && t2.led, plain := t.plain && t2.plain }) ?_ hn))
      refine { ob := ⟨_, store_at ho hd, ⟨hx.1, hx.2.1, hx.2.2⟩, rfl⟩, good := R.good, nd := R.nd, mem := R.mem, sz := R.sz, pl := R.pl, ris := R.ris, dm := R.dm, few := R.few, big := R.big, led := ?_ }
      rcases R.led with h1 | h1
      · exact .inl h1
      · rcases l2 with h2 | h2
        · exact .inl h2
        · refine .inr ?_
          show (t.led && t2.led) = true
          rw [h1, h2]
          rfl
    · exact wpAny_pure (hQ es2 s.heap (.refl _) (.refl _ _) R0)
end
end Zo

namespace Zo
open PySem PySem.Spec PyProof.Rows L2 Zs
section
variable {P : Program} {w : World} {A : Around} {E : Value → Shared → Prop} {s : Shared} {a b : Addr} {S T : Int → Bool} {n m : Nat}
theorem merge1_at {es : Array (Int × Value)} {ep : Nat} {t : SetTable} {each : Sem Unit} (R : Tab w s.heap b S n es ep t) (n0 : n ≠ 0) (T1 : SetR w s.heap a T m) (ne : b ≠ a) (h64 : n + m < 64)
    (he : ∀ s' : Shared, (∀ o, s.heap.get? a = some o → s'.heap.get? a = some o) → ∀ Q' : Unit → Shared → Prop, Q' () s' → wpAny (model P w) A each Q' E s') {Q : Unit → Shared → Prop}
    (hQ : ∀ h' c, Heap.SameBut b s.heap h' → SetR w h' b (fun j => S j || T j) c → Q () { s with heap := h' }) :
    wpAny (model P w) A (setMerge b a each) Q E s := by
  have T2 := T1
  obtain ⟨o2, es2, ep2, t2, ho2, hx2, hd2, g2, nd2, m2, b2, f2, n2, r2, l2⟩ := T2
  unfold setMerge
  refine wp_if_neg (by simpa using ne) ?_
  try refine wpAny_bind (wpAny_pure ?_)
  refine wpAny_bind (wpAny_setState_of ho2 hd2 f2 ?_)
  dsimp only
  have sb64 : n < scanBound := by unfold scanBound; omega
  by_cases c0 : m = 0
  · refine wp_if_pos (by simp [Array.isEmpty, n2, c0]) ?_
    subst c0
    refine wpAny_pure (hQ s.heap n (.refl _ _) ((R.setR sb64).congr fun k => ?_))
    have z2 := mem_nil n2
    have : T k = false := by
      cases q : T k with
      | false => rfl
      | true =>
        have := (m2 k).1 q
        rw [z2] at this
        cases this
    rw [this, Bool.or_false]
  · refine wp_if_neg (by simp [Array.isEmpty, n2, c0]) ?_
    try refine wpAny_bind (wpAny_pure ?_)
    refine wpAny_bind (room_at R (fun z => absurd z n0) (k := es2.size) (by omega) fun h1 es1 ep1 t1 sb1 R1 q1 q2 => ?_)
    obtain ⟨o1, ho1, hx1, hd1⟩ := R1.ob
    refine wpAny_bind (wpAny_setState_of ho1 hd1 R1.fits ?_)
    dsimp only
    have fill : (t1.fill != 0) = true := by
      unfold SetTable.fill
      rw [R1.dm, R1.pl, R1.sz]
      simp [n0]
    unfold SetTable.road
    rw [if_pos fill]
    dsimp only
    have keep : ∀ {h' : Heap}, Heap.SameBut b s.heap h' → ∀ o, s.heap.get? a = some o → h'.get? a = some o := fun sb o q => (sb.2 a (Ne.symm ne)).trans q
    refine wpAny_bind (unseen_at (s := { s with heap := h1 }) R1 sb64 ne (keep sb1 _ ho2) hd2 f2 (T1.at (keep sb1)) l2 fun xs h2 pm sb2 R2 => ?_)
    have gx : ∀ e ∈ xs.toList, GoodE e := fun e he => g2 e (pm.mem_iff.mp he)
    have zx : xs.toList.length = m := by rw [pm.length_eq, Array.length_toList, n2]
    refine wpAny_bind (wpAny_forIn_array' _ (fun rest _ s' => ∃ done h' c, done ++ rest = xs.toList ∧ s' = { s with heap := h' } ∧ Heap.SameBut b s.heap h' ∧ SetR w h' b (fun j => S j || decide (j ∈ done.map keyOf)) c ∧ c ≤ n + done.length) _ ?_ ?_ xs _
      ⟨[], h2, n, rfl, rfl, sb1.trans sb2, R2.congr fun k => by simp, Nat.le_refl _⟩)
    · rintro e rest u s' ⟨done, h', c, e1, rfl, sb, R', hc⟩
      have hm : e ∈ xs.toList := by rw [← e1]; exact List.mem_append_right _ List.mem_cons_self
      have hlen : done.length + (rest.length + 1) = m := by rw [← zx, ← e1, List.length_append, List.length_cons]
      obtain ⟨k, tk, rfl, ek⟩ := goodE_int (gx e hm)
      dsimp only
      refine wpAny_bind (wpAny_holding ?_)
      refine setR_add_hashed (s := { s with heap := h' }) R' (by unfold scanBound; omega) fun h3 sb3 R3 => ?_
      have sb' := sb.trans sb3
      refine wpAny_bind (he _ (keep sb') _ ?_)
      refine wpAny_bind (wpAny_setState_of (s := { s with heap := h3 }) (keep sb' _ ho2) hd2 f2 ?_)
      dsimp only
      refine wp_if_neg (by simp) ?_
      try refine wpAny_bind (wpAny_pure ?_)
      refine wpAny_pure ⟨done ++ [(hashInt k, Value.int k tk)], h3, _, by rw [← e1, List.append_assoc]; rfl, rfl, sb', R3.congr fun j => ?_, ?_⟩
      · simp only [List.map_append, List.map_cons, List.map_nil, List.mem_append, List.mem_singleton, ek, Bool.decide_or, Bool.or_assoc]
      · rw [List.length_append]
        show _ ≤ n + (done.length + 1)
        split <;> omega
    · rintro u s' ⟨done, h', c, e1, rfl, sb, R', hc⟩
      rw [List.append_nil] at e1
      subst e1
      refine wpAny_pure (hQ h' c sb (R'.congr fun k => ?_))
      have : decide (k ∈ xs.toList.map keyOf) = T k := by
        rw [Bool.eq_iff_iff, decide_eq_true_iff, m2 k]
        exact ((pm.map keyOf).mem_iff).symm.symm
      rw [this]
theorem or_eq (args : Args) : Builtin.«frozenset.__or__» args = (do
    let (self, other) ← Builtin.Frozenset.slot1 "__or__" args
    let (l, r) := if false = true then (other, self) else (self, other)
    if !(← Builtin.Frozenset.isAnySet l <&&> Builtin.Frozenset.isAnySet r) then rule s!"frozenset.{"__or__"}.declined"; return ← ret .notImplemented
    let x ← Builtin.Frozenset.addrOf l
    let v ← ((fun (id : String) (l : Addr) (r : Value) => (do
        let result ← Builtin.Frozenset.copyOf l
        if r != Value.ref l then holding [result] (Builtin.Frozenset.updateFrom id (← Builtin.Frozenset.addrOf result) r)
        return result : Sem Value)) s!"frozenset.{"__or__"}" x r)
    ret v) := by rfl
theorem copy_at (R : SetR w s.heap a S n) (h64 : n < 64) {Q : Value → Shared → Prop}
    (hQ : ∀ h' es ep t, (∀ b o, s.heap.get? b = some o → h'.get? b = some o) → Tab w h' s.heap.objs.size S n es ep t → (n = 0 → Rnd t.mask) → Q (.ref s.heap.objs.size) { s with heap := h' }) :
    wpAny (model P w) A (Builtin.Frozenset.copyOf a) Q E s := by
  have lt : a < s.heap.objs.size := R.lt
  have keep : ∀ b o, s.heap.get? b = some o → (s.heap.push (born w)).get? b = some o := fun b o e => Heap.get?_push_of_some _ e
  have atS : (s.heap.push (born w)).get? s.heap.objs.size = some (born w) := Heap.get?_push_size _ rfl
  obtain ⟨o, es, ep, t, ho, hx, _⟩ := id R
  unfold Builtin.Frozenset.copyOf Builtin.Frozenset.baseOf newSet
  refine wpAny_bind (wpAny_bind (wpAny_isInstance (T := "set") (b := true) ⟨o, ho, hx.1⟩ sub_set_self (wpAny_pure ?_)))
  rw [if_pos rfl]
  refine wpAny_bind (wpAny_bind (wpAny_byText ?_))
  dsimp only
  refine wpAny_newObj_type ?_ (by size_fits)
  unfold Builtin.Frozenset.addrOf
  refine wpAny_bind (wpAny_pure ?_)
  refine wpAny_bind (merge0_at (s := withS w s) (tab_born atS) rnd7 (R.at fun o e => keep _ _ e) (Nat.ne_of_gt lt) h64 fun h' es' ep' t' sb R' r0 => ?_)
  refine wpAny_pure (hQ h' es' ep' t' (fun b o e => (sb.2 b (Nat.ne_of_lt (Heap.lt_size e))).trans (keep b o e)) R' r0)
theorem anySet_at {o : Obj} (ho : s.heap.get? a = some o) (hx : o.ExactSet) {Q : Bool → Shared → Prop} (h : Q true s) : wpAny (model P w) A (Builtin.Frozenset.isAnySet (.ref a)) Q E s := by
  unfold Builtin.Frozenset.isAnySet orM
  refine wpAny_bind (wpAny_isInstance (T := "set") (b := true) ⟨o, ho, hx.1⟩ sub_set_self ?_)
  exact wpAny_pure h
theorem or_at (R : SetR w s.heap a S n) (T1 : SetR w s.heap b T m) (h64 : n + m < 64) {Q : Value → Shared → Prop}
    (hQ : ∀ h' c, (∀ b o, s.heap.get? b = some o → h'.get? b = some o) → SetR w h' s.heap.objs.size (fun j => S j || T j) c → Q (.ref s.heap.objs.size) { s with heap := h' }) :
    wpAny (model P w) A (binaryOp .BitOr (.ref a) (.ref b)) Q E s := by
  obtain ⟨o1, es1, ep1, t1, ho1, hx1, hd1, g1, nd1, m1, b1, f1, n1, r1, l1⟩ := id R
  obtain ⟨o2, es2, ep2, t2, ho2, hx2, hd2, g2, nd2, m2, b2, f2, n2, r2, l2⟩ := id T1
  refine wpAny_binaryOp_same (T := "set") (id := "set.__or__") ⟨o1, ho1, hx1.1⟩ ⟨o2, ho2, hx2.1⟩ F.fills_set_or F.slot_set_or ?_
  refine wpAny_call_entry F.slot_set_or ⟨o1, ho1, hx1.1⟩ entry_or ?_ (F.args_set_or_2 _ _)
  rw [or_eq]
  have sb64 : n < scanBound := by unfold scanBound; omega
  refine wpAny_bind (show wpAny _ _ (Builtin.Frozenset.slot1 "__or__" ⟨[.ref a, .ref b], []⟩) _ _ _ from ?_)
  show wpAny _ _ (pure (Value.ref a, Value.ref b)) _ _ _
  refine wpAny_pure ?_
  dsimp only
  rw [if_neg Bool.false_ne_true]
  dsimp only
  refine wpAny_bind ?_
  unfold andM
  refine wpAny_bind (anySet_at ho1 hx1 ?_)
  try dsimp only
  first | (rw [if_pos rfl]; refine anySet_at ho2 hx2 ?_) | refine anySet_at ho2 hx2 ?_
  refine wp_if_neg (by simp) ?_
  refine wpAny_bind (wpAny_pure ?_)
  refine wpAny_bind (wpAny_bind (copy_at R (by omega) fun h1 es ep t keep R1 r0 => ?_))
  have lt : a < s.heap.objs.size := R.lt
  have lt2 : b < s.heap.objs.size := T1.lt
  by_cases eq : b = a
  · subst eq
    refine wp_if_neg (by simp) ?_
    refine wpAny_pure (wpAny_pure ⟨_, rfl, (by intro z; cases z), hQ h1 n keep ((R1.setR sb64).congr fun k => ?_)⟩)
    obtain rfl : o1 = o2 := Option.some.inj (ho1.symm.trans ho2)
    obtain ⟨e1, e2, e3⟩ : es1 = es2 ∧ ep1 = ep2 ∧ t1 = t2 := by
      rw [hd1] at hd2
      simpa using hd2
    subst e1
    have : S k = T k := by rw [Bool.eq_iff_iff, m1 k, m2 k]
    rw [this, Bool.or_self]
  · refine wp_if_pos (by simpa using eq) ?_
    unfold Builtin.Frozenset.addrOf
    refine wpAny_bind (wpAny_pure ?_)
    refine wpAny_bind (wpAny_holding ?_)
    have ho2' := keep b _ ho2
    have T1' : SetR w h1 b T m := T1.at fun o e => keep b o e
    unfold Builtin.Frozenset.updateFrom
    refine wpAny_bind (anySet_at (s := { s with heap := h1 }) ho2' hx2 ?_)
    try rw [if_pos rfl]
    unfold Builtin.Frozenset.addrOf Builtin.Frozenset.merge
    refine wpAny_bind (wpAny_pure ?_)
    unfold setEpoch
    refine wpAny_bind (wpAny_bind (wpAny_setState_of (s := { s with heap := h1 }) ho2' hd2 f2 (wpAny_pure ?_)))
    dsimp only
    have unch : ∀ (id : String) (s' : Shared), (∀ o, h1.get? b = some o → s'.heap.get? b = some o) → ∀ Q' : Unit → Shared → Prop, Q' () s' → wpAny (model P w) A.in1 (Builtin.Frozenset.unchanged id b ep2) Q' E s' := fun id s' k Q' q => by
      unfold Builtin.Frozenset.unchanged setEpoch
      refine wpAny_bind (wpAny_bind (wpAny_setState_of (k _ ho2') hd2 f2 (wpAny_pure ?_)))
      refine wp_if_neg (by simp) ?_
      exact wpAny_pure q
    have ne2 : s.heap.objs.size ≠ b := Nat.ne_of_gt lt2
    have fin : ∀ h2 c, Heap.SameBut s.heap.objs.size h1 h2 → SetR w h2 s.heap.objs.size (fun j => S j || T j) c → Q (.ref s.heap.objs.size) { s with heap := h2 } := fun h2 c sb R2 =>
      hQ h2 c (fun x o e => (sb.2 x (Nat.ne_of_lt (Heap.lt_size e))).trans (keep x o e)) R2
    by_cases n0 : n = 0
    · subst n0
      refine merge0_at (s := { s with heap := h1 }) R1 (r0 rfl) T1' ne2 (by omega) fun h2 es' ep' t' sb R2 _ => ?_
      refine wpAny_pure (wpAny_pure ⟨_, rfl, (by intro z; cases z), fin h2 m sb ((R2.setR (by unfold scanBound; omega)).congr fun k => ?_)⟩)
      have : S k = false := by
        cases q : S k with
        | false => rfl
        | true =>
          have := (m1 k).1 q
          rw [mem_nil n1] at this
          cases this
      rw [this, Bool.false_or]
    · refine merge1_at (s := { s with heap := h1 }) R1 n0 T1' ne2 h64 (fun s' k Q' q => unch _ s' k Q' q) fun h2 c sb R2 => ?_
      exact wpAny_pure (wpAny_pure ⟨_, rfl, (by intro z; cases z), fin h2 c sb R2⟩)
end
end Zo

namespace Zo
open PySem PySem.Spec PyProof.Rows L2 Dl Zs
def rOrI (w : World) : R2 := fun x y H Q => ∃ (a b : Addr) (cs ds : List Int), x = .ref a ∧ y = .ref b ∧ H a = some (setOf w a cs) ∧ H b = some (setOf w b ds) ∧ cs.length + ds.length < 64 ∧
  ∀ p, H p = none → Q (.ref p) (upd H p (setOf w p (canon (cs ++ ds))))
theorem op_or {X : Cx} : OpR X (binaryOp .BitOr) (rOrI X.w) := fun pins s σ H x y v u Q J rx ry h => by
  obtain ⟨a, b, cs, ds, rfl, rfl, hA, hB, few, q⟩ := h
  cases rx
  cases ry
  have hn : H s.heap.objs.size = none := J.hok.fresh (Nat.le_refl _)
  have RA : SetR X.w s.heap a _ _ := (J.hok a _ hA).1
  have RB : SetR X.w s.heap b _ _ := (J.hok b _ hB).1
  refine or_at RA RB few fun h' c k R => ?_
  have R2 : SetR X.w h' s.heap.objs.size (fun j => decide (j ∈ cs ++ ds)) c := R.congr fun j => by simp only [List.mem_append, Bool.decide_or]
  exact ⟨.ref _, upd H s.heap.objs.size (setOf X.w s.heap.objs.size (canon (cs ++ ds))), J.laid (t' := s.toks) k (Nat.le_refl _) (setIO_ok (set_many R2)), rfl, q _ hn⟩
def SZN (X : Cx) (g : Gx) (te : TE) (tz : TZI) : Prop :=
  ∀ (b : B0) (σ : L2.St) (H : Hp) (env : DEnv) (Qd : List Int → Prop) (Q : VK), DenE X.K g.I b σ H env → XL X.K g b → tz env Qd → (∀ a cs H', Ext g.I H H' → H' a = some (setOf X.w a cs) → ¬ g.I.own a → Up cs → Qd cs → Q (.ref a) H') → te σ H Q
def PZN (X : Cx) (g : Gx) (e : Expr) (tz : TZI) : Prop := SZN X g (wE X e) tz
section
variable {X : Cx} {g : Gx} {e e2 : Expr} {te : TE} {tas : TAD} {tz tz2 : TZI} {p pos : Pos}
theorem pzn_of (q : PE X e te) (h : SZN X g te tz) : PZN X g e tz := fun b σ H env Qd Q hd xl ht k pins s J => q.run pins s σ H Q J (h b σ H env Qd Q hd xl ht k)
theorem PZN.z (h : PZN X g e tz) : PZI X g e tz := fun b σ H env Qd Q hd xl ht k => h b σ H env Qd Q hd xl ht fun a cs H' e1 hS _ up q => k a cs H' e1 hS up q
theorem n_setI (hc : X.calm = true) (hg : Gl X "set") (hm : X.mg "set" = none) (ha : PAD X g [e] tas)
    (he : starEach [e] X.env = (false, eval e X.env) :: starEach [] X.env := by rfl) (hpl : (backTo pos (starEach [] X.env)).any (·.1) = false := by rfl) : PZN X g (.Call (.Name "set" p) [e] [] pos) (zSetI tas) :=
  pzn_of (pe_callTy (cr_setI hc) hg hm boot_set pa_w (by decide) (by decide) he hpl) fun b σ H env Qd Q hd xl ht k => ha b σ H env _ _ hd xl ht fun vs ds H1 e1 dn ⟨ns, e, few, q⟩ => by
    have fin : ∀ a, H1 a = none → Q (.ref a) (upd H1 a (setOf X.w a (canon ns))) := fun a hn => k a _ _ (e1.trans (.new e1.2 hn)) upd_same (g.I.nown e1.2 hn) (up_canon ns) q
    rcases e with rfl | rfl
    · obtain ⟨v, rfl, d1⟩ := dn.one1
      simp only [Den] at d1
      obtain ⟨a, us, rfl, hl, na, r⟩ := d1
      have e2 := r.ofInts
      subst e2
      exact ⟨a, ns, rfl, .inl (SqL.of hl), few, fin⟩
    · obtain ⟨v, rfl, d1⟩ := dn.one1
      simp only [Den] at d1
      obtain ⟨a, us, rfl, sq, _, r⟩ := d1
      have e2 := r.ofInts
      subst e2
      exact ⟨a, ns, rfl, .inr sq, few, fin⟩
def zOr (tz tz2 : TZI) : TZI := fun env Q => tz env fun cs => tz2 env fun ds => cs.length + ds.length < 64 ∧ Q (canon (cs ++ ds))
theorem n_or (ha : PZN X g e tz) (hb : PZN X g e2 tz2) : PZN X g (.BinOp e .BitOr e2 pos) (zOr tz tz2) :=
  pzn_of (pe_op op_or pe_w pe_w) fun b σ H env Qd Q hd xl ht k => ha b σ H env _ _ hd xl ht fun a cs H1 e1 hS no up h2 => hb b σ H1 env _ _ (hd.mono e1) xl h2 fun a2 ds H2 e2 hS2 no2 up2 ⟨few, q⟩ =>
    ⟨a, a2, cs, ds, rfl, rfl, e2.1 a _ no hS, hS2, few, fun p hp => k p _ _ (e1.trans (e2.trans (.new e2.2 hp))) upd_same (g.I.nown e2.2 hp) (up_canon _) q⟩
end
end Zo

namespace Zo
open PySem PySem.Spec PyProof.Rows L2 Dl Zs
theorem ext_none {I : HI} {H H1 : Hp} {p : Addr} (e : Ext I H H1) (h : H1 p = none) : H p = none := by
  cases c : H p with
  | none => rfl
  | some o =>
    by_cases w : I.own p
    · exact absurd h (I.dom H1 p e.2 (I.sub p w))
    · rw [e.1 p o w c] at h
      cases h
def idNew (td : TFD) : TID := fun env Q => td env fun ds => noLstA ds = true ∧ Q ds
section
variable {X : Cx} {g : Gx} {tg e : Expr} {td : TFD} {tz : TZI} {p pos : Pos}
theorem di_new (he : PFD X g e td) : PID X g tg e (idNew td) := pid_of (pi_seq pe_w) fun b σ H env Qd R hd xl ht k =>
  he b σ H env _ _ hd xl ht fun a vs ds H1 hn e1 hl dn ⟨nl, q⟩ => by
    have hd1 := hd.mono e1
    obtain ⟨oa, h1, h2, h3, h4⟩ := hd1.slots
    obtain ⟨oa0, g1, _⟩ := hd.slots
    have hd2 : DenE X.K g.I ⟨b.H0, (.ref a, .lst ds) :: b.hs⟩ σ H1 env := by
      refine ⟨hd1.len, hd1.ext, oa, h1, h2, h3, fun q hq => ?_⟩
      rcases List.mem_cons.mp hq with e | hq
      · subst e
        simp only [Den]
        have no : ∀ k xs, env[k]? = some (Slot.own xs) → a ≠ oa k := fun k xs ek z => by
          have h0 := (h1 k xs ek).2.1
          obtain ⟨⟨vs1, s1, _, _⟩, _⟩ := h1 k xs ek
          obtain ⟨⟨vs0, s0, l0, _⟩, _⟩ := g1 k xs ek
          rw [s1] at s0
          have : oa k = oa0 k := by simpa using s0
          rw [z, this, l0] at hn
          cases hn
        refine ⟨a, vs, rfl, hl, fun z => ?_, ?_⟩
        · rcases z with z | ⟨k, xs, ek, z⟩
          · exact HI.nown hd.ok hn z
          · exact no k xs ek z
        · refine DenA.weak (fun a z => z) _ _ (DenA.apart (P := fun a => ∃ (k : Nat) (xs : List D), env[k]? = some (Slot.own xs) ∧ a = oa k) (fun a ⟨k, xs, ek, z⟩ => ?_) _ _ nl (DenA.weak (fun a z => .inl z) _ _ dn))
          obtain ⟨⟨vs1, _, l1, _⟩, _⟩ := h1 k xs ek
          rw [z]
          exact ⟨vs1, l1⟩
      · exact h4 q hq
    exact si_seq hd2 rfl fun J hw hd3 it => k J H1 hw ds hd3 e1 it q
def fSortI (tz : TZI) : TFD := fun env Q => tz env fun cs => cs.length < 64 ∧ Q (cs.map D.int)
theorem pf_sortI (hc : X.calm = true) (hg : Gl X "sorted") (hm : X.mg "sorted" = none) (ha : PZI X g e tz)
    (he : starEach [e] X.env = (false, eval e X.env) :: starEach [] X.env := by rfl) (hpl : (backTo pos (starEach [] X.env)).any (·.1) = false := by rfl) : PFD X g (.Call (.Name "sorted" p) [e] [] pos) (fSortI tz) := fun b σ H env Qd Q hd xl ht k => by
  intro pins s J
  refine (pe_callB (cr_sortI hc) hg hm boot_sorted (pa_cons pe_w pa_nil he) (by decide) (by decide) he hpl).run pins s σ H Q J ?_
  exact ha b σ H env _ (fun v H' => rSortI X.w [v] H' Q) hd xl ht fun a cs H1 e1 hS up ⟨few, q⟩ => ⟨a, cs, rfl, hS, up, few, fun p hn => k p _ _ _ (ext_none e1 hn) (e1.trans (.new e1.2 hn)) upd_same (DenA.keep (Kp.new hn) _ _ (ints_den cs)) q⟩
end
abbrev fMulS : F2 := fI CMul fun i j => .int (i * j)
theorem r_mulS {X : Cx} {I : HI} : RD X I (binaryOp .Mult) fMulS := rd_I op_mul fun _ _ _ => by simp only [Den]
end Zo

namespace K09
open PySem PySem.Spec PyProof.Rows L2 Dl Ns Zs
abbrev tI (ns : List Int) : D := .tup (ns.map D.int)
abbrev lI (ns : List Int) : D := .lst (ns.map D.int)
def Arg (x y z : D) (ns ms L : List Int) : Prop := isSeqI x ns ∧ isSeqI y ms ∧ isSeqI z L ∧ Val ns ms L
def isDeed (d : Str) : Prop := d = "lesser" ∨ d = "odd" ∨ d = "common"
def places (ps : List Int) (n : Nat) : Prop := (∀ p ∈ ps, 0 ≤ p ∧ p < (n : Int)) ∧ ps.Nodup
def C_check_lining (K : PySem.W.Frag) : Ct := fun ds Q _ => ∃ x y z ns ms L, ds = [x, y, z] ∧ Arg x y z ns ms L ∧ Q (tI L)
theorem ar_check_lining (K : PySem.W.Frag) : Ar 3 (C_check_lining K) := fun _ _ _ ⟨_, _, _, _, _, _, e, _⟩ => by rw [e]; rfl
def C_rank_moments (K : PySem.W.Frag) : Ct := fun ds Q _ => ∃ L, ds = [tI L] ∧ L.length < 64 ∧ Q (.tup [lI (iM L 1), lI (iM L 0)])
theorem ar_rank_moments (K : PySem.W.Frag) : Ar 1 (C_rank_moments K) := fun _ _ _ ⟨_, e, _⟩ => by rw [e]; rfl
def C_moments_of (K : PySem.W.Frag) : Ct := fun ds Q _ => ∃ x y z ns ms L, ds = [x, y, z] ∧ Arg x y z ns ms L ∧ Q (.tup [tI (mom L 1 ns), tI (mom L 0 ms)])
theorem ar_moments_of (K : PySem.W.Frag) : Ar 3 (C_moments_of K) := fun _ _ _ ⟨_, _, _, _, _, _, e, _⟩ => by rw [e]; rfl
def C_lining_of (K : PySem.W.Frag) : Ct := fun ds Q _ => ∃ x y ns ms, ds = [x, y] ∧ isSeqI x ns ∧ isSeqI y ms ∧ ns.length = ms.length ∧ ns.length ≤ 12 ∧ Q (tI (linOf ns ms))
theorem ar_lining_of (K : PySem.W.Frag) : Ar 2 (C_lining_of K) := fun _ _ _ ⟨_, _, _, _, e, _⟩ => by rw [e]; rfl
def C_cut_lining (K : PySem.W.Frag) : Ct := fun ds Q _ => ∃ x y z p ns ms L ps, ds = [x, y, z, p] ∧ Arg x y z ns ms L ∧ isSeqI p ps ∧ places ps ns.length ∧ Q (tI (linOf (pick ps (mom L 1 ns)) (pick ps (mom L 0 ms))))
theorem ar_cut_lining (K : PySem.W.Frag) : Ar 4 (C_cut_lining K) := fun _ _ _ ⟨_, _, _, _, _, _, _, _, e, _⟩ => by rw [e]; rfl
def C_check_deed (K : PySem.W.Frag) : Ct := fun ds Q _ => ∃ d, ds = [.str d] ∧ isDeed d ∧ Q (.str d)
theorem ar_check_deed (K : PySem.W.Frag) : Ar 1 (C_check_deed K) := fun _ _ _ ⟨_, e, _⟩ => by rw [e]; rfl
def sm (a : Int) : Prop := a.natAbs < 2 ^ 300
def C__place_key (K : PySem.W.Frag) : Ct := fun ds Q _ => ∃ d a b, ds = [.str d, .int a, .int b] ∧ isDeed d ∧ sm a ∧ sm b ∧ Q (.int (key d a b))
theorem ar__place_key (K : PySem.W.Frag) : Ar 3 (C__place_key K) := fun _ _ _ ⟨_, _, _, e, _⟩ => by rw [e]; rfl
def tabD (d : Str) (L : List Int) : List D := (iM L 1).map fun a => tI ((iM L 0).map (key d a))
def C_deed_table (K : PySem.W.Frag) : Ct := fun ds Q _ => ∃ d L, ds = [.str d, tI L] ∧ isDeed d ∧ L.length < 64 ∧ Q (.tup (tabD d L))
theorem ar_deed_table (K : PySem.W.Frag) : Ar 2 (C_deed_table K) := fun _ _ _ ⟨_, _, e, _⟩ => by rw [e]; rfl
def C_made_by_table (K : PySem.W.Frag) : Ct := fun ds Q _ => ∃ d x y ns ms L, ds = [.tup (tabD d L), x, y] ∧ isSeqI x ns ∧ isSeqI y ms ∧ Val ns ms L ∧ Q (tI (made d ns ms L))
theorem ar_made_by_table (K : PySem.W.Frag) : Ar 3 (C_made_by_table K) := fun _ _ _ ⟨_, _, _, _, _, _, e, _⟩ => by rw [e]; rfl
def C_made_by (K : PySem.W.Frag) : Ct := fun ds Q _ => ∃ d x y z ns ms L, ds = [.str d, x, y, z] ∧ isDeed d ∧ Arg x y z ns ms L ∧ Q (tI (made d ns ms L))
theorem ar_made_by (K : PySem.W.Frag) : Ar 4 (C_made_by K) := fun _ _ _ ⟨_, _, _, _, _, _, _, e, _⟩ => by rw [e]; rfl
def C__law_pick (K : PySem.W.Frag) (hd : Addr) : Ct := fun ds Q _ => ∃ ns : List Int, ds = [.ref hd, lI ns] ∧ ns ≠ [] ∧ ns.length < 64 ∧ ∀ n ∈ ns, Q (.int n)
theorem ar__law_pick {K : PySem.W.Frag} (hd : Addr) : Ar 2 (C__law_pick K hd) := fun _ _ _ ⟨_, e, _⟩ => by rw [e]; rfl
def C__law_is_row (K : PySem.W.Frag) : Ct := fun ds Q _ => ∃ ns, ds = [tI ns] ∧ ns.length < 64 ∧ Q (.bl true)
theorem ar__law_is_row (K : PySem.W.Frag) : Ar 1 (C__law_is_row K) := fun _ _ _ ⟨_, e, _⟩ => by rw [e]; rfl
def C__law_lining (K : PySem.W.Frag) (hd : Addr) : Ct := fun ds Q _ => ∃ f s : Int, ds = [.ref hd, .int f, .int s] ∧ 0 ≤ f ∧ f ≤ 12 ∧ 0 ≤ s ∧ s ≤ 12 ∧ ∀ L, Lin f s L → Q (tI L)
theorem ar__law_lining {K : PySem.W.Frag} (hd : Addr) : Ar 3 (C__law_lining K hd) := fun _ _ _ ⟨_, _, e, _⟩ => by rw [e]; rfl
def C__law_moments (K : PySem.W.Frag) : Ct := fun ds Q _ => ∃ x y z ns ms L, ds = [x, y, z] ∧ Arg x y z ns ms L ∧ Q (.tup [lI (mom L 1 ns), lI (mom L 0 ms)])
theorem ar__law_moments (K : PySem.W.Frag) : Ar 3 (C__law_moments K) := fun _ _ _ ⟨_, _, _, _, _, _, e, _⟩ => by rw [e]; rfl
def C__law_key (K : PySem.W.Frag) : Ct := C__place_key K
theorem ar__law_key (K : PySem.W.Frag) : Ar 3 (C__law_key K) := ar__place_key K
def C__law_made (K : PySem.W.Frag) : Ct := C_made_by K
theorem ar__law_made (K : PySem.W.Frag) : Ar 4 (C__law_made K) := ar_made_by K
def C__law_rows (K : PySem.W.Frag) (hd : Addr) : Ct := fun ds Q _ => ds = [.ref hd] ∧ ∀ ns ms : List Int, ns.length = ms.length → ns.length ≤ 7 → (∀ n ∈ ns, sm n) → (∀ n ∈ ms, sm n) → Q (.tup [lI ns, lI ms])
theorem ar__law_rows {K : PySem.W.Frag} (hd : Addr) : Ar 1 (C__law_rows K hd) := fun _ _ _ ⟨e, _⟩ => by rw [e]; rfl
def C__law_some_places (K : PySem.W.Frag) (hd : Addr) : Ct := fun ds Q _ => ∃ n : Nat, ds = [.ref hd, .int n] ∧ n ≤ 7 ∧ ∀ ps, places ps n → Q (lI ps)
theorem ar__law_some_places {K : PySem.W.Frag} (hd : Addr) : Ar 2 (C__law_some_places K hd) := fun _ _ _ ⟨_, e, _⟩ => by rw [e]; rfl
def C__law_exchanged (K : PySem.W.Frag) : Ct := fun ds Q _ => ∃ L, ds = [tI L] ∧ (∀ e ∈ L, e = 0 ∨ e = 1 ∨ e = 2) ∧ L.length < 64 ∧ Q (tI (exch L))
theorem ar__law_exchanged (K : PySem.W.Frag) : Ar 1 (C__law_exchanged K) := fun _ _ _ ⟨_, e, _⟩ => by rw [e]; rfl
def C__law_deed_right (K : PySem.W.Frag) : Ct := fun ds Q _ => ∃ d ns ms L, ds = [.str d, tI ns, tI ms, tI L, tI (made d ns ms L)] ∧ isDeed d ∧ Val ns ms L ∧ Q (.bl true)
theorem ar__law_deed_right (K : PySem.W.Frag) : Ar 5 (C__law_deed_right K) := fun _ _ _ ⟨_, _, _, _, e, _⟩ => by rw [e]; rfl
def C__law_cut_right (K : PySem.W.Frag) : Ct := fun ds Q _ => ∃ d ns ms L ps, ds = [.str d, tI ns, tI ms, tI L, lI ps] ∧ isDeed d ∧ Val ns ms L ∧ places ps ns.length ∧ Q (.bl true)
theorem ar__law_cut_right (K : PySem.W.Frag) : Ar 5 (C__law_cut_right K) := fun _ _ _ ⟨_, _, _, _, _, e, _⟩ => by rw [e]; rfl
end K09

namespace K09
open PySem PySem.Spec PyProof.Rows L2 Dl Ns Zs
def top (i : Nat) : Stmt := PySem.Challenge.pw_earliestlots_k09_whole_deeds_of_numbers.main.body.getD i (.Pass ⟨0, 0, 0, 0⟩)
structure Tf (K : PySem.W.Frag) (mg : Str → Option Value) : Prop where
  n_abs : mg "abs" = none
  n_bool : mg "bool" = none
  n_enumerate : mg "enumerate" = none
  n_int : mg "int" = none
  n_isinstance : mg "isinstance" = none
  n_len : mg "len" = none
  n_list : mg "list" = none
  n_max : mg "max" = none
  n_min : mg "min" = none
  n_range : mg "range" = none
  n_set : mg "set" = none
  n_sorted : mg "sorted" = none
  n_tuple : mg "tuple" = none
  n_zip : mg "zip" = none
  i_BOTH : ∃ t, mg "BOTH" = some (.int (2) t)
  i_MOST_PLACES : ∃ t, mg "MOST_PLACES" = some (.int (7) t)
  i_ONE_ALONE : ∃ t, mg "ONE_ALONE" = some (.int (0) t)
  i_OTHER_ALONE : ∃ t, mg "OTHER_ALONE" = some (.int (1) t)
  t_DEEDS : Zs.TupG K mg "DEEDS" ["lesser", "odd", "common"]
abbrev s_is_whole : Stmt := top 9
abbrev N_is_whole : List Str := ["thing", "low", "high"]
theorem sc_is_whole : FnScope N_is_whole ["thing", "low", "high"] (defScope s_is_whole) := ⟨rfl, rfl, rfl, by decide +kernel, rfl, by decide +kernel, by decide +kernel⟩
def d_is_whole (K : PySem.W.Frag) (Ed : DEnv → Exc → Prop) : TSD := sSeq (sIf (dOr (dB (dCB bIsi (dCons (dVar 0) (dCons (dC (.ty "bool")) (dNil))))) (dNot (dB (dCB bIsi (dCons (dVar 0) (dCons (dC (.ty "int")) (dNil))))))) (sRet (dC (.bl false))) (sNext)) (sRet (dAndV (dOrV (dOp (fIs false) (dVar 1) (dC .non)) (dOp fGe (dVar 0) (dVar 1))) (dOrV (dOp (fIs false) (dVar 2) (dC .non)) (dOp fLe (dVar 0) (dVar 2)))))
theorem pd_is_whole {P : Program} {w : World} {K : PySem.W.Frag} {mg : Str → Option Value} {base : Heap} {I : HI} {fa : Addr} {cdv : Value} {A : Around} {outer : List Env} {s : Shared} {H : Hp} {E : XK} {Ed : Exc → Prop} (T : Tf K mg) 
    (hr : Room 1 (A.deeper (envOfC "is_whole" (defScope s_is_whole) s.heap.objs.size fa cdv))) (tk : Takes (cxD P w K mg base N_is_whole "is_whole" (defScope s_is_whole) fa cdv A outer s H E) (gOf I Ed E).W) :
    PSsD (cxD P w K mg base N_is_whole "is_whole" (defScope s_is_whole) fa cdv A outer s H E) (gOf I Ed E) (defBody s_is_whole) (d_is_whole K (gOf I Ed E).Ed) :=
  have nd := sc_is_whole.nd; ds_cons (ds_if (PWD.pt (dt_or (dt_val (d_callB c_isi rfl T.n_isinstance boot_isinstance (da_cons (dv 0) (da_cons (d_ty rfl T.n_bool boot_bool) (da_nil))))) (dt_or1 (dt_not (dt_val (d_callB c_isi rfl T.n_isinstance boot_isinstance (da_cons (dv 0) (da_cons (d_ty rfl T.n_int boot_int) (da_nil))))))))) (ds_one (ds_ret (d_bl))) (ds_nil)) (ds_one (ds_ret (d_and (d_or (d_cmp r_is (dv 1) (d_non) (nomark _)) (d_one (d_cmp r_ge (dv 0) (dv 1) (nomark _)))) (d_one (d_or (d_cmp r_is (dv 2) (d_non) (nomark _)) (d_one (d_cmp r_le (dv 0) (dv 2) (nomark _))))))))
abbrev s_check_standing : Stmt := top 10
abbrev N_check_standing : List Str := ["ranks", "places", "index", "rank"]
theorem sc_check_standing : FnScope N_check_standing ["ranks", "places"] (defScope s_check_standing) := ⟨rfl, rfl, rfl, by decide +kernel, rfl, by decide +kernel, by decide +kernel⟩
def d_check_standing (K : PySem.W.Frag) (Ed : DEnv → Exc → Prop) : TSD := sSeq (sIf (dOr (dNot (dB (dCB bIsi (dCons (dVar 0) (dCons (dTup (dCons (dC (.ty "list")) (dCons (dC (.ty "tuple")) (dNil)))) (dNil)))))) (dTest (dOp fGt (dCB bLen (dCons (dVar 0) (dNil))) (dC (.int 7))))) (sRaise (He.ga K "BadStanding") "index" Ed (dUn (fUn fun i => -i) (dC (.int 1)))) (sNext)) (sSeq (sIf (dAnd (dTest (dOp (fIs true) (dVar 1) (dC .non))) (dTest (dOp (fEq true) (dCB bLen (dCons (dVar 0) (dNil))) (dVar 1)))) (sRaise (He.ga K "BadStanding") "index" Ed (dUn (fUn fun i => -i) (dC (.int 1)))) (sNext)) (sSeq (sFor (idEnumV 0) (gdTup [2, 3]) (sIf (dNot (dB (dCall ((C_is_whole K)) [.non] Ed (dCons (dVar 3) (dCons (dC (.int 0)) (dNil)))))) (sRaise (He.ga K "BadStanding") "index" Ed (dVar 2)) (sNext))) (sSeq (sIf (dTest (dOp (fEq true) (dLenZ (zSetI (dCons (dVar 0) (dNil)))) (dOp fAdd (dBest true (dCons (dVar 0) (dNil)) (dCons (dUn (fUn fun i => -i) (dC (.int 1))) dNil)) (dC (.int 1))))) (sRaise (He.ga K "BadStanding") "index" Ed (dUn (fUn fun i => -i) (dC (.int 1)))) (sNext)) (sRet (dCB bTup (dCons (dVar 0) (dNil)))))))
theorem pd_check_standing {P : Program} {w : World} {K : PySem.W.Frag} {mg : Str → Option Value} {base : Heap} {I : HI} {fa : Addr} {cdv : Value} {A : Around} {outer : List Env} {s : Shared} {H : Hp} {E : XK} {Ed : Exc → Prop} (T : Tf K mg) (c_is_whole_2 : Cl P w K mg base I 2 "is_whole" 3 (C_is_whole K) [.non]) (er_BadStanding : Er P w K mg base "BadStanding" "index")
    (hr : Room 2 (A.deeper (envOfC "check_standing" (defScope s_check_standing) s.heap.objs.size fa cdv))) (tk : Takes (cxD P w K mg base N_check_standing "check_standing" (defScope s_check_standing) fa cdv A outer s H E) (gOf I Ed E).W) :
    PSsD (cxD P w K mg base N_check_standing "check_standing" (defScope s_check_standing) fa cdv A outer s H E) (gOf I Ed E) (defBody s_check_standing) (d_check_standing K (gOf I Ed E).Ed) :=
  have nd := sc_check_standing.nd; ds_cons (ds_if (PWD.pt (dt_or (dt_not (dt_val (d_callB c_isi rfl T.n_isinstance boot_isinstance (da_cons (dv 0) (da_cons (d_tup (da_cons (d_ty rfl T.n_list boot_list) (da_cons (d_ty rfl T.n_tuple boot_tuple) (da_nil)))) (da_nil)))))) (dt_or1 (dt_cmp r_gt (d_callB c_len rfl T.n_len PySem.boot_len (da_cons (dv 0) (da_nil))) (d_gint rfl T.i_MOST_PLACES) (nomark _))))) (ds_one (ds_raiseC er_BadStanding rfl hr (by decide) rfl tk (d_neg (d_int)))) (ds_nil)) (ds_cons (ds_if (PWD.pt (dt_and (dt_cmp r_isnot (dv 1) (d_non) (nomark _)) (dt_and1 (dt_cmp (r_ne (h64 hr)) (d_callB c_len rfl T.n_len PySem.boot_len (da_cons (dv 0) (da_nil))) (dv 1) (nomark _))))) (ds_one (ds_raiseC er_BadStanding rfl hr (by decide) rfl tk (d_neg (d_int)))) (ds_nil)) (ds_cons (ds_for (passes_of rfl) rfl (di_enumV 0 rfl T.n_enumerate) (dg_tup (is := [2, 3]) rfl (pgs_cons (pg_name (i := 2) nd rfl (by first | exact Or.inl rfl | exact Or.inr rfl)) (pgs_cons (pg_name (i := 3) nd rfl (by first | exact Or.inl rfl | exact Or.inr rfl)) (pgs_nil)))) (ds_one (ds_if (dt_not (dt_val (d_callC c_is_whole_2 (ar_is_whole _) hr (by decide) rfl tk (da_cons (dv 3) (da_cons (d_int) (da_nil)))))) (ds_one (ds_raiseC er_BadStanding rfl hr (by decide) rfl tk (dv 2))) (ds_nil)))) (ds_cons (ds_if (dt_cmp (r_ne (h64 hr)) (d_lenZ rfl T.n_len (z_setI rfl rfl T.n_set (da_cons (dv 0) (da_nil)))) (d_op r_add (d_best true (h64 hr) rfl rfl T.n_max (da_cons (dv 0) (da_nil)) (dk_cons (d_neg (d_int)) dk_nil) boot_max) (d_int)) (nomark _)) (ds_one (ds_raiseC er_BadStanding rfl hr (by decide) rfl tk (d_neg (d_int)))) (ds_nil)) (ds_one (ds_ret (d_callTy c_tup rfl T.n_tuple boot_tuple (da_cons (dv 0) (da_nil))))))))
abbrev s_standing_of : Stmt := top 11
abbrev N_standing_of : List Str := ["keys", "ranks", "rank", "key"]
theorem sc_standing_of : FnScope N_standing_of ["keys"] (defScope s_standing_of) := ⟨rfl, rfl, rfl, by decide +kernel, rfl, by decide +kernel, by decide +kernel⟩
def d_standing_of (K : PySem.W.Frag) (Ed : DEnv → Exc → Prop) : TSD := sSeq (sAsg 1 (dDc (idEnum (dSortI (zSetI (dCons (dVar 0) (dNil))))) (gdTup [2, 3]) (dYes) (dVar 3) (dVar 2) (([("rank", 2), ("key", 3)] : List (Str × Nat)).map (·.2)))) (sRet (dCB bTup (dCons (dF (fLc (idVar 0) (gdName 3) (dYes) (dGet (dVar 1) (dVar 3)) (([("key", 3)] : List (Str × Nat)).map (·.2)))) (dNil))))
theorem pd_standing_of {P : Program} {w : World} {K : PySem.W.Frag} {mg : Str → Option Value} {base : Heap} {I : HI} {fa : Addr} {cdv : Value} {A : Around} {outer : List Env} {s : Shared} {H : Hp} {E : XK} {Ed : Exc → Prop} (T : Tf K mg) 
    (hr : Room 1 (A.deeper (envOfC "standing_of" (defScope s_standing_of) s.heap.objs.size fa cdv))) (tk : Takes (cxD P w K mg base N_standing_of "standing_of" (defScope s_standing_of) fa cdv A outer s H E) (gOf I Ed E).W) :
    PSsD (cxD P w K mg base N_standing_of "standing_of" (defScope s_standing_of) fa cdv A outer s H E) (gOf I Ed E) (defBody s_standing_of) (d_standing_of K (gOf I Ed E).Ed) :=
  have nd := sc_standing_of.nd; ds_cons (ds_set (i := 1) nd rfl (by first | exact Or.inl rfl | exact Or.inr rfl) (d_dc rfl nd (di_enum rfl T.n_enumerate (d_sortI rfl rfl T.n_sorted (z_setI rfl rfl T.n_set (da_cons (dv 0) (da_nil))))) (blkOk_by (own := [("rank", 2), ("key", 3)]) (N := N_standing_of) (sc := defScope s_standing_of) (by decide +kernel)) (fun _ _ _ _ _ => pg_tup (t := gNames [2, 3]) (n := 2) rfl (pgs_cons (pg_name (i := 2) nd rfl (by first | exact Or.inl rfl | exact Or.inr rfl)) (pgs_cons (pg_name (i := 3) nd rfl (by first | exact Or.inl rfl | exact Or.inr rfl)) (pgs_nil)))) (sg_tup (is := [2, 3])) (gw_tup (is := [2, 3]) (by decide)) bt_nil (be_of (fun _ _ _ _ _ => dv 3)) (be_of (fun _ _ _ _ _ => dv 2)))) (ds_one (ds_ret (d_callTy c_tup rfl T.n_tuple boot_tuple (da_cons (pf_e (f_lc rfl nd (di_var 0) (blkOk_by (own := [("key", 3)]) (N := N_standing_of) (sc := defScope s_standing_of) (by decide +kernel)) (fun _ _ _ _ _ => pg_name (i := 3) nd rfl (by first | exact Or.inl rfl | exact Or.inr rfl)) sg_name (gw_name (by decide)) bt_nil (be_of (fun _ _ _ _ _ => d_get (h64 hr) (dv 1) (dv 3))))) (da_nil)))))
abbrev s_check_places : Stmt := top 12
abbrev N_check_places : List Str := ["places", "many", "index", "place"]
theorem sc_check_places : FnScope N_check_places ["places", "many"] (defScope s_check_places) := ⟨rfl, rfl, rfl, by decide +kernel, rfl, by decide +kernel, by decide +kernel⟩
def d_check_places (K : PySem.W.Frag) (Ed : DEnv → Exc → Prop) : TSD := sSeq (sIf (dNot (dB (dCB bIsi (dCons (dVar 0) (dCons (dTup (dCons (dC (.ty "list")) (dCons (dC (.ty "tuple")) (dNil)))) (dNil)))))) (sRaise (He.ga K "BadPlaces") "index" Ed (dUn (fUn fun i => -i) (dC (.int 1)))) (sNext)) (sSeq (sFor (idEnumV 0) (gdTup [2, 3]) (sIf (dOr (dNot (dB (dCall ((C_is_whole K)) [] Ed (dCons (dVar 3) (dCons (dC (.int 0)) (dCons (dOp fSub (dVar 1) (dC (.int 1))) (dNil))))))) (dTest (dOp (fIn false) (dVar 3) (dSl (dVar 0) (dNoP) (dPart (dVar 2)))))) (sRaise (He.ga K "BadPlaces") "index" Ed (dVar 2)) (sNext))) (sRet (dCB bTup (dCons (dVar 0) (dNil)))))
theorem pd_check_places {P : Program} {w : World} {K : PySem.W.Frag} {mg : Str → Option Value} {base : Heap} {I : HI} {fa : Addr} {cdv : Value} {A : Around} {outer : List Env} {s : Shared} {H : Hp} {E : XK} {Ed : Exc → Prop} (T : Tf K mg) (c_is_whole : Cl P w K mg base I 2 "is_whole" 3 (C_is_whole K) []) (er_BadPlaces : Er P w K mg base "BadPlaces" "index")
    (hr : Room 2 (A.deeper (envOfC "check_places" (defScope s_check_places) s.heap.objs.size fa cdv))) (tk : Takes (cxD P w K mg base N_check_places "check_places" (defScope s_check_places) fa cdv A outer s H E) (gOf I Ed E).W) :
    PSsD (cxD P w K mg base N_check_places "check_places" (defScope s_check_places) fa cdv A outer s H E) (gOf I Ed E) (defBody s_check_places) (d_check_places K (gOf I Ed E).Ed) :=
  have nd := sc_check_places.nd; ds_cons (ds_if (dt_not (dt_val (d_callB c_isi rfl T.n_isinstance boot_isinstance (da_cons (dv 0) (da_cons (d_tup (da_cons (d_ty rfl T.n_list boot_list) (da_cons (d_ty rfl T.n_tuple boot_tuple) (da_nil)))) (da_nil)))))) (ds_one (ds_raiseC er_BadPlaces rfl hr (by decide) rfl tk (d_neg (d_int)))) (ds_nil)) (ds_cons (ds_for (passes_of rfl) rfl (di_enumV 0 rfl T.n_enumerate) (dg_tup (is := [2, 3]) rfl (pgs_cons (pg_name (i := 2) nd rfl (by first | exact Or.inl rfl | exact Or.inr rfl)) (pgs_cons (pg_name (i := 3) nd rfl (by first | exact Or.inl rfl | exact Or.inr rfl)) (pgs_nil)))) (ds_one (ds_if (PWD.pt (dt_or (dt_not (dt_val (d_callC c_is_whole (ar_is_whole _) hr (by decide) rfl tk (da_cons (dv 3) (da_cons (d_int) (da_cons (d_op r_sub (dv 1) (d_int)) (da_nil))))))) (dt_or1 (dt_cmp (r_in (h65 hr)) (dv 3) (d_slice (dv 0) (do_none) (do_some (dv 2))) (by with_unfolding_all rfl))))) (ds_one (ds_raiseC er_BadPlaces rfl hr (by decide) rfl tk (dv 2))) (ds_nil)))) (ds_one (ds_ret (d_callTy c_tup rfl T.n_tuple boot_tuple (da_cons (dv 0) (da_nil))))))
abbrev s_ranks_number : Stmt := top 13
abbrev N_ranks_number : List Str := ["standing"]
theorem sc_ranks_number : FnScope N_ranks_number ["standing"] (defScope s_ranks_number) := ⟨rfl, rfl, rfl, by decide +kernel, rfl, by decide +kernel, by decide +kernel⟩
def d_ranks_number (K : PySem.W.Frag) (Ed : DEnv → Exc → Prop) : TSD := sRet (dOp fAdd (dBest true (dCons (dCall ((C_check_standing K)) [.non] Ed (dCons (dVar 0) (dNil))) (dNil)) (dCons (dUn (fUn fun i => -i) (dC (.int 1))) dNil)) (dC (.int 1)))
theorem pd_ranks_number {P : Program} {w : World} {K : PySem.W.Frag} {mg : Str → Option Value} {base : Heap} {I : HI} {fa : Addr} {cdv : Value} {A : Around} {outer : List Env} {s : Shared} {H : Hp} {E : XK} {Ed : Exc → Prop} (T : Tf K mg) (c_check_standing_1 : Cl P w K mg base I 3 "check_standing" 2 (C_check_standing K) [.non])
    (hr : Room 3 (A.deeper (envOfC "ranks_number" (defScope s_ranks_number) s.heap.objs.size fa cdv))) (tk : Takes (cxD P w K mg base N_ranks_number "ranks_number" (defScope s_ranks_number) fa cdv A outer s H E) (gOf I Ed E).W) :
    PSsD (cxD P w K mg base N_ranks_number "ranks_number" (defScope s_ranks_number) fa cdv A outer s H E) (gOf I Ed E) (defBody s_ranks_number) (d_ranks_number K (gOf I Ed E).Ed) :=
  have nd := sc_ranks_number.nd; ds_one (ds_ret (d_op r_add (d_best true (h64 hr) rfl rfl T.n_max (da_cons (d_callC c_check_standing_1 (ar_check_standing _) hr (by decide) rfl tk (da_cons (dv 0) (da_nil))) (da_nil)) (dk_cons (d_neg (d_int)) dk_nil) boot_max) (d_int)))
abbrev s_check_lining : Stmt := top 18
abbrev N_check_lining : List Str := ["one", "other", "lining", "first", "second", "index", "entry"]
theorem sc_check_lining : FnScope N_check_lining ["one", "other", "lining"] (defScope s_check_lining) := ⟨rfl, rfl, rfl, by decide +kernel, rfl, by decide +kernel, by decide +kernel⟩
def d_check_lining (K : PySem.W.Frag) (Ed : DEnv → Exc → Prop) : TSD := sSeq (sAsg 3 (dCall ((C_ranks_number K)) [] Ed (dCons (dVar 0) (dNil)))) (sSeq (sAsg 4 (dCall ((C_ranks_number K)) [] Ed (dCons (dVar 1) (dNil)))) (sSeq (sIf (dTest (dOp (fEq true) (dCB bLen (dCons (dVar 0) (dNil))) (dCB bLen (dCons (dVar 1) (dNil))))) (sRaise0 (He.ga K "OtherPlaces") Ed) (sNext)) (sSeq (sIf (dNot (dB (dCB bIsi (dCons (dVar 2) (dCons (dTup (dCons (dC (.ty "list")) (dCons (dC (.ty "tuple")) (dNil)))) (dNil)))))) (sRaise (He.ga K "BadLining") "index" Ed (dUn (fUn fun i => -i) (dC (.int 1)))) (sNext)) (sSeq (sFor (idEnumV 2) (gdTup [5, 6]) (sSeq (sIf (dNot (dB (dCall ((C_is_whole K)) [] Ed (dCons (dVar 6) (dCons (dC (.int 0)) (dCons (dC (.int 2)) (dNil))))))) (sRaise (He.ga K "BadLining") "index" Ed (dVar 5)) (sNext)) (sSeq (sIf (dTest (dOp (fEq true) (dVar 6) (dC (.int 1)))) (sAug 3 (fun a b => a - b) (dC (.int 1))) (sNext)) (sSeq (sIf (dTest (dOp (fEq true) (dVar 6) (dC (.int 0)))) (sAug 4 (fun a b => a - b) (dC (.int 1))) (sNext)) (sIf (dOr (dTest (dOp fLt (dVar 3) (dC (.int 0)))) (dTest (dOp fLt (dVar 4) (dC (.int 0))))) (sRaise (He.ga K "BadLining") "index" Ed (dVar 5)) (sNext)))))) (sSeq (sIf (dOr (dTest (dOp fGt (dVar 3) (dC (.int 0)))) (dTest (dOp fGt (dVar 4) (dC (.int 0))))) (sRaise (He.ga K "BadLining") "index" Ed (dUn (fUn fun i => -i) (dC (.int 1)))) (sNext)) (sRet (dCB bTup (dCons (dVar 2) (dNil)))))))))
theorem pd_check_lining {P : Program} {w : World} {K : PySem.W.Frag} {mg : Str → Option Value} {base : Heap} {I : HI} {fa : Addr} {cdv : Value} {A : Around} {outer : List Env} {s : Shared} {H : Hp} {E : XK} {Ed : Exc → Prop} (T : Tf K mg) (c_is_whole : Cl P w K mg base I 2 "is_whole" 3 (C_is_whole K) []) (c_ranks_number : Cl P w K mg base I 4 "ranks_number" 1 (C_ranks_number K) []) (er_BadLining : Er P w K mg base "BadLining" "index") (eR_OtherPlaces : Zs.ErR K mg "OtherPlaces")
    (hr : Room 4 (A.deeper (envOfC "check_lining" (defScope s_check_lining) s.heap.objs.size fa cdv))) (tk : Takes (cxD P w K mg base N_check_lining "check_lining" (defScope s_check_lining) fa cdv A outer s H E) (gOf I Ed E).W) :
    PSsD (cxD P w K mg base N_check_lining "check_lining" (defScope s_check_lining) fa cdv A outer s H E) (gOf I Ed E) (defBody s_check_lining) (d_check_lining K (gOf I Ed E).Ed) :=
  have nd := sc_check_lining.nd; ds_cons (ds_set (i := 3) nd rfl (by first | exact Or.inl rfl | exact Or.inr rfl) (d_callC c_ranks_number (ar_ranks_number _) hr (by decide) rfl tk (da_cons (dv 0) (da_nil)))) (ds_cons (ds_set (i := 4) nd rfl (by first | exact Or.inl rfl | exact Or.inr rfl) (d_callC c_ranks_number (ar_ranks_number _) hr (by decide) rfl tk (da_cons (dv 1) (da_nil)))) (ds_cons (ds_if (dt_cmp (r_ne (h64 hr)) (d_callB c_len rfl T.n_len PySem.boot_len (da_cons (dv 0) (da_nil))) (d_callB c_len rfl T.n_len PySem.boot_len (da_cons (dv 1) (da_nil))) (nomark _)) (ds_one (ds_raise0 (x := "OtherPlaces") eR_OtherPlaces rfl tk rfl)) (ds_nil)) (ds_cons (ds_if (dt_not (dt_val (d_callB c_isi rfl T.n_isinstance boot_isinstance (da_cons (dv 2) (da_cons (d_tup (da_cons (d_ty rfl T.n_list boot_list) (da_cons (d_ty rfl T.n_tuple boot_tuple) (da_nil)))) (da_nil)))))) (ds_one (ds_raiseC er_BadLining rfl hr (by decide) rfl tk (d_neg (d_int)))) (ds_nil)) (ds_cons (ds_for (passes_of rfl) rfl (di_enumV 2 rfl T.n_enumerate) (dg_tup (is := [5, 6]) rfl (pgs_cons (pg_name (i := 5) nd rfl (by first | exact Or.inl rfl | exact Or.inr rfl)) (pgs_cons (pg_name (i := 6) nd rfl (by first | exact Or.inl rfl | exact Or.inr rfl)) (pgs_nil)))) (ds_cons (ds_if (dt_not (dt_val (d_callC c_is_whole (ar_is_whole _) hr (by decide) rfl tk (da_cons (dv 6) (da_cons (d_gint rfl T.i_ONE_ALONE) (da_cons (d_gint rfl T.i_BOTH) (da_nil))))))) (ds_one (ds_raiseC er_BadLining rfl hr (by decide) rfl tk (dv 5))) (ds_nil)) (ds_cons (ds_if (dt_cmp (r_ne (h64 hr)) (dv 6) (d_gint rfl T.i_OTHER_ALONE) (nomark _)) (ds_one (ds_augSub (i := 3) nd rfl (by first | exact Or.inl rfl | exact Or.inr rfl) (d_int))) (ds_nil)) (ds_cons (ds_if (dt_cmp (r_ne (h64 hr)) (dv 6) (d_gint rfl T.i_ONE_ALONE) (nomark _)) (ds_one (ds_augSub (i := 4) nd rfl (by first | exact Or.inl rfl | exact Or.inr rfl) (d_int))) (ds_nil)) (ds_one (ds_if (PWD.pt (dt_or (dt_cmp (r_lt hr.units0) (dv 3) (d_int) (nomark _)) (dt_or1 (dt_cmp (r_lt hr.units0) (dv 4) (d_int) (nomark _))))) (ds_one (ds_raiseC er_BadLining rfl hr (by decide) rfl tk (dv 5))) (ds_nil))))))) (ds_cons (ds_if (PWD.pt (dt_or (dt_cmp r_gt (dv 3) (d_int) (nomark _)) (dt_or1 (dt_cmp r_gt (dv 4) (d_int) (nomark _))))) (ds_one (ds_raiseC er_BadLining rfl hr (by decide) rfl tk (d_neg (d_int)))) (ds_nil)) (ds_one (ds_ret (d_callTy c_tup rfl T.n_tuple boot_tuple (da_cons (dv 2) (da_nil))))))))))
abbrev s_rank_moments : Stmt := top 19
abbrev N_rank_moments : List Str := ["lining", "firsts", "seconds", "moment", "entry"]
theorem sc_rank_moments : FnScope N_rank_moments ["lining"] (defScope s_rank_moments) := ⟨rfl, rfl, rfl, by decide +kernel, rfl, by decide +kernel, by decide +kernel⟩
def d_rank_moments (K : PySem.W.Frag) (Ed : DEnv → Exc → Prop) : TSD := sSeq (sAsg 1 (dF (fLc (idEnumV 0) (gdTup [3, 4]) (dTest (dOp (fEq true) (dVar 4) (dC (.int 1)))) (dVar 3) (([("moment", 3), ("entry", 4)] : List (Str × Nat)).map (·.2))))) (sSeq (sAsg 2 (dF (fLc (idEnumV 0) (gdTup [3, 4]) (dTest (dOp (fEq true) (dVar 4) (dC (.int 0)))) (dVar 3) (([("moment", 3), ("entry", 4)] : List (Str × Nat)).map (·.2))))) (sRet (dTup (dCons (dVar 1) (dCons (dVar 2) (dNil))))))
theorem pd_rank_moments {P : Program} {w : World} {K : PySem.W.Frag} {mg : Str → Option Value} {base : Heap} {I : HI} {fa : Addr} {cdv : Value} {A : Around} {outer : List Env} {s : Shared} {H : Hp} {E : XK} {Ed : Exc → Prop} (T : Tf K mg) 
    (hr : Room 1 (A.deeper (envOfC "rank_moments" (defScope s_rank_moments) s.heap.objs.size fa cdv))) (tk : Takes (cxD P w K mg base N_rank_moments "rank_moments" (defScope s_rank_moments) fa cdv A outer s H E) (gOf I Ed E).W) :
    PSsD (cxD P w K mg base N_rank_moments "rank_moments" (defScope s_rank_moments) fa cdv A outer s H E) (gOf I Ed E) (defBody s_rank_moments) (d_rank_moments K (gOf I Ed E).Ed) :=
  have nd := sc_rank_moments.nd; ds_cons (ds_lcV (i := 1) rfl nd rfl rfl (sw_true rfl rfl rfl (by decide +kernel)) (di_enumV 0 rfl T.n_enumerate) (blkOk_by (own := [("moment", 3), ("entry", 4)]) (N := N_rank_moments) (sc := defScope s_rank_moments) (by decide +kernel)) (fun _ _ _ _ _ => pg_tup (t := gNames [3, 4]) (n := 2) rfl (pgs_cons (pg_name (i := 3) nd rfl (by first | exact Or.inl rfl | exact Or.inr rfl)) (pgs_cons (pg_name (i := 4) nd rfl (by first | exact Or.inl rfl | exact Or.inr rfl)) (pgs_nil)))) (sg_tup (is := [3, 4])) (gw_tup (is := [3, 4]) (by decide)) (bt_one (fun _ _ _ _ _ => dt_cmp (r_ne (h64 hr)) (dv 4) (d_gint rfl T.i_OTHER_ALONE) (nomark _))) (be_of (fun _ _ _ _ _ => dv 3))) (ds_cons (ds_lcV (i := 2) rfl nd rfl rfl (sw_true rfl rfl rfl (by decide +kernel)) (di_enumV 0 rfl T.n_enumerate) (blkOk_by (own := [("moment", 3), ("entry", 4)]) (N := N_rank_moments) (sc := defScope s_rank_moments) (by decide +kernel)) (fun _ _ _ _ _ => pg_tup (t := gNames [3, 4]) (n := 2) rfl (pgs_cons (pg_name (i := 3) nd rfl (by first | exact Or.inl rfl | exact Or.inr rfl)) (pgs_cons (pg_name (i := 4) nd rfl (by first | exact Or.inl rfl | exact Or.inr rfl)) (pgs_nil)))) (sg_tup (is := [3, 4])) (gw_tup (is := [3, 4]) (by decide)) (bt_one (fun _ _ _ _ _ => dt_cmp (r_ne (h64 hr)) (dv 4) (d_gint rfl T.i_ONE_ALONE) (nomark _))) (be_of (fun _ _ _ _ _ => dv 3))) (ds_one (ds_ret (d_tup (da_cons (dv 1) (da_cons (dv 2) (da_nil)))))))
abbrev s_moments_of : Stmt := top 20
abbrev N_moments_of : List Str := ["one", "other", "lining", "firsts", "seconds", "rank"]
theorem sc_moments_of : FnScope N_moments_of ["one", "other", "lining"] (defScope s_moments_of) := ⟨rfl, rfl, rfl, by decide +kernel, rfl, by decide +kernel, by decide +kernel⟩
def d_moments_of (K : PySem.W.Frag) (Ed : DEnv → Exc → Prop) : TSD := sSeq (sAsgG (dCall ((C_rank_moments K)) [] Ed (dCons (dCall ((C_check_lining K)) [] Ed (dCons (dVar 0) (dCons (dVar 1) (dCons (dVar 2) (dNil))))) (dNil))) (gdTup [3, 4])) (sRet (dTup (dCons (dCB bTup (dCons (dF (fLc (idVar 0) (gdName 5) (dYes) (dOp fIx (dVar 3) (dVar 5)) (([("rank", 5)] : List (Str × Nat)).map (·.2)))) (dNil))) (dCons (dCB bTup (dCons (dF (fLc (idVar 1) (gdName 5) (dYes) (dOp fIx (dVar 4) (dVar 5)) (([("rank", 5)] : List (Str × Nat)).map (·.2)))) (dNil))) (dNil)))))
theorem pd_moments_of {P : Program} {w : World} {K : PySem.W.Frag} {mg : Str → Option Value} {base : Heap} {I : HI} {fa : Addr} {cdv : Value} {A : Around} {outer : List Env} {s : Shared} {H : Hp} {E : XK} {Ed : Exc → Prop} (T : Tf K mg) (c_check_lining : Cl P w K mg base I 5 "check_lining" 3 (C_check_lining K) []) (c_rank_moments : Cl P w K mg base I 2 "rank_moments" 1 (C_rank_moments K) [])
    (hr : Room 5 (A.deeper (envOfC "moments_of" (defScope s_moments_of) s.heap.objs.size fa cdv))) (tk : Takes (cxD P w K mg base N_moments_of "moments_of" (defScope s_moments_of) fa cdv A outer s H E) (gOf I Ed E).W) :
    PSsD (cxD P w K mg base N_moments_of "moments_of" (defScope s_moments_of) fa cdv A outer s H E) (gOf I Ed E) (defBody s_moments_of) (d_moments_of K (gOf I Ed E).Ed) :=
  have nd := sc_moments_of.nd; ds_cons (ds_asgG (d_callC c_rank_moments (ar_rank_moments _) hr (by decide) rfl tk (da_cons (d_callC c_check_lining (ar_check_lining _) hr (by decide) rfl tk (da_cons (dv 0) (da_cons (dv 1) (da_cons (dv 2) (da_nil))))) (da_nil))) (dg_tup (is := [3, 4]) rfl (pgs_cons (pg_name (i := 3) nd rfl (by first | exact Or.inl rfl | exact Or.inr rfl)) (pgs_cons (pg_name (i := 4) nd rfl (by first | exact Or.inl rfl | exact Or.inr rfl)) (pgs_nil))))) (ds_one (ds_ret (d_tup (da_cons (d_callTy c_tup rfl T.n_tuple boot_tuple (da_cons (pf_e (f_lc rfl nd (di_var 0) (blkOk_by (own := [("rank", 5)]) (N := N_moments_of) (sc := defScope s_moments_of) (by decide +kernel)) (fun _ _ _ _ _ => pg_name (i := 5) nd rfl (by first | exact Or.inl rfl | exact Or.inr rfl)) sg_name (gw_name (by decide)) bt_nil (be_of (fun _ _ _ _ _ => d_ix (dv 3) (dv 5))))) (da_nil))) (da_cons (d_callTy c_tup rfl T.n_tuple boot_tuple (da_cons (pf_e (f_lc rfl nd (di_var 1) (blkOk_by (own := [("rank", 5)]) (N := N_moments_of) (sc := defScope s_moments_of) (by decide +kernel)) (fun _ _ _ _ _ => pg_name (i := 5) nd rfl (by first | exact Or.inl rfl | exact Or.inr rfl)) sg_name (gw_name (by decide)) bt_nil (be_of (fun _ _ _ _ _ => d_ix (dv 4) (dv 5))))) (da_nil))) (da_nil))))))
abbrev s_lining_of : Stmt := top 21
abbrev N_lining_of : List Str := ["numbers", "others", "lining", "number"]
theorem sc_lining_of : FnScope N_lining_of ["numbers", "others"] (defScope s_lining_of) := ⟨rfl, rfl, rfl, by decide +kernel, rfl, by decide +kernel, by decide +kernel⟩
def d_lining_of (K : PySem.W.Frag) (Ed : DEnv → Exc → Prop) : TSD := sSeq (sIf (dOr (dNot (dB (dCB bIsi (dCons (dVar 0) (dCons (dTup (dCons (dC (.ty "list")) (dCons (dC (.ty "tuple")) (dNil)))) (dNil)))))) (dNot (dB (dCB bIsi (dCons (dVar 1) (dCons (dTup (dCons (dC (.ty "list")) (dCons (dC (.ty "tuple")) (dNil)))) (dNil))))))) (sRaise0 (He.ga K "OtherPlaces") Ed) (sNext)) (sSeq (sIf (dTest (dOp (fEq true) (dCB bLen (dCons (dVar 0) (dNil))) (dCB bLen (dCons (dVar 1) (dNil))))) (sRaise0 (He.ga K "OtherPlaces") Ed) (sNext)) (sSeq (sNew 2 (fLst (dNil))) (sSeq (sFor (Zo.idNew (Zo.fSortI (Zo.zOr (zSetI (dCons (dVar 0) (dNil))) (zSetI (dCons (dVar 1) (dNil)))))) (gdName 3) (sIf (dTest (dOp (fIn true) (dVar 3) (dVar 1))) (sApp 2 (dC (.int 0))) (sIf (dTest (dOp (fIn true) (dVar 3) (dVar 0))) (sApp 2 (dC (.int 1))) (sApp 2 (dC (.int 2)))))) (sRet (dCB bTup (dCons (dVar 2) (dNil)))))))
theorem pd_lining_of {P : Program} {w : World} {K : PySem.W.Frag} {mg : Str → Option Value} {base : Heap} {I : HI} {fa : Addr} {cdv : Value} {A : Around} {outer : List Env} {s : Shared} {H : Hp} {E : XK} {Ed : Exc → Prop} (T : Tf K mg) (eR_OtherPlaces : Zs.ErR K mg "OtherPlaces")
    (hr : Room 1 (A.deeper (envOfC "lining_of" (defScope s_lining_of) s.heap.objs.size fa cdv))) (tk : Takes (cxD P w K mg base N_lining_of "lining_of" (defScope s_lining_of) fa cdv A outer s H E) (gOf I Ed E).W) :
    PSsD (cxD P w K mg base N_lining_of "lining_of" (defScope s_lining_of) fa cdv A outer s H E) (gOf I Ed E) (defBody s_lining_of) (d_lining_of K (gOf I Ed E).Ed) :=
  have nd := sc_lining_of.nd; ds_cons (ds_if (PWD.pt (dt_or (dt_not (dt_val (d_callB c_isi rfl T.n_isinstance boot_isinstance (da_cons (dv 0) (da_cons (d_tup (da_cons (d_ty rfl T.n_list boot_list) (da_cons (d_ty rfl T.n_tuple boot_tuple) (da_nil)))) (da_nil)))))) (dt_or1 (dt_not (dt_val (d_callB c_isi rfl T.n_isinstance boot_isinstance (da_cons (dv 1) (da_cons (d_tup (da_cons (d_ty rfl T.n_list boot_list) (da_cons (d_ty rfl T.n_tuple boot_tuple) (da_nil)))) (da_nil))))))))) (ds_one (ds_raise0 (x := "OtherPlaces") eR_OtherPlaces rfl tk rfl)) (ds_nil)) (ds_cons (ds_if (dt_cmp (r_ne (h64 hr)) (d_callB c_len rfl T.n_len PySem.boot_len (da_cons (dv 0) (da_nil))) (d_callB c_len rfl T.n_len PySem.boot_len (da_cons (dv 1) (da_nil))) (nomark _)) (ds_one (ds_raise0 (x := "OtherPlaces") eR_OtherPlaces rfl tk rfl)) (ds_nil)) (ds_cons (ds_new (i := 2) nd rfl (by first | exact Or.inl rfl | exact Or.inr rfl) (f_lst (da_nil))) (ds_cons (ds_for (passes_of rfl) rfl (Zo.di_new (Zo.pf_sortI rfl rfl T.n_sorted (Zo.PZN.z (Zo.n_or (Zo.n_setI rfl rfl T.n_set (da_cons (dv 0) (da_nil))) (Zo.n_setI rfl rfl T.n_set (da_cons (dv 1) (da_nil))))))) (dg_name (i := 3) nd rfl (by first | exact Or.inl rfl | exact Or.inr rfl)) (ds_one (ds_if (dt_cmp (r_nin (h65 hr)) (dv 3) (dv 1) (by with_unfolding_all rfl)) (ds_one (ds_app (i := 2) rfl (by first | exact Or.inl rfl | exact Or.inr (Or.inl rfl)) (d_gint rfl T.i_ONE_ALONE))) (ds_one (ds_if (dt_cmp (r_nin (h65 hr)) (dv 3) (dv 0) (by with_unfolding_all rfl)) (ds_one (ds_app (i := 2) rfl (by first | exact Or.inl rfl | exact Or.inr (Or.inl rfl)) (d_gint rfl T.i_OTHER_ALONE))) (ds_one (ds_app (i := 2) rfl (by first | exact Or.inl rfl | exact Or.inr (Or.inl rfl)) (d_gint rfl T.i_BOTH)))))))) (ds_one (ds_ret (d_callTy c_tup rfl T.n_tuple boot_tuple (da_cons (dv 2) (da_nil))))))))
abbrev s_cut_lining : Stmt := top 22
abbrev N_cut_lining : List Str := ["one", "other", "lining", "places", "kept", "firsts", "seconds", "place"]
theorem sc_cut_lining : FnScope N_cut_lining ["one", "other", "lining", "places"] (defScope s_cut_lining) := ⟨rfl, rfl, rfl, by decide +kernel, rfl, by decide +kernel, by decide +kernel⟩
def d_cut_lining (K : PySem.W.Frag) (Ed : DEnv → Exc → Prop) : TSD := sSeq (sAsgG (dCall ((C_moments_of K)) [] Ed (dCons (dVar 0) (dCons (dVar 1) (dCons (dVar 2) (dNil))))) (gdTup [5, 6])) (sSeq (sAsg 4 (dCall ((C_check_places K)) [] Ed (dCons (dVar 3) (dCons (dCB bLen (dCons (dVar 5) (dNil))) (dNil))))) (sRet (dCall ((C_lining_of K)) [] Ed (dCons (dF (fLc (idVar 4) (gdName 7) (dYes) (dOp fIx (dVar 5) (dVar 7)) (([("place", 7)] : List (Str × Nat)).map (·.2)))) (dCons (dF (fLc (idVar 4) (gdName 7) (dYes) (dOp fIx (dVar 6) (dVar 7)) (([("place", 7)] : List (Str × Nat)).map (·.2)))) (dNil))))))
theorem pd_cut_lining {P : Program} {w : World} {K : PySem.W.Frag} {mg : Str → Option Value} {base : Heap} {I : HI} {fa : Addr} {cdv : Value} {A : Around} {outer : List Env} {s : Shared} {H : Hp} {E : XK} {Ed : Exc → Prop} (T : Tf K mg) (c_check_places : Cl P w K mg base I 3 "check_places" 2 (C_check_places K) []) (c_lining_of : Cl P w K mg base I 2 "lining_of" 2 (C_lining_of K) []) (c_moments_of : Cl P w K mg base I 6 "moments_of" 3 (C_moments_of K) [])
    (hr : Room 6 (A.deeper (envOfC "cut_lining" (defScope s_cut_lining) s.heap.objs.size fa cdv))) (tk : Takes (cxD P w K mg base N_cut_lining "cut_lining" (defScope s_cut_lining) fa cdv A outer s H E) (gOf I Ed E).W) :
    PSsD (cxD P w K mg base N_cut_lining "cut_lining" (defScope s_cut_lining) fa cdv A outer s H E) (gOf I Ed E) (defBody s_cut_lining) (d_cut_lining K (gOf I Ed E).Ed) :=
  have nd := sc_cut_lining.nd; ds_cons (ds_asgG (d_callC c_moments_of (ar_moments_of _) hr (by decide) rfl tk (da_cons (dv 0) (da_cons (dv 1) (da_cons (dv 2) (da_nil))))) (dg_tup (is := [5, 6]) rfl (pgs_cons (pg_name (i := 5) nd rfl (by first | exact Or.inl rfl | exact Or.inr rfl)) (pgs_cons (pg_name (i := 6) nd rfl (by first | exact Or.inl rfl | exact Or.inr rfl)) (pgs_nil))))) (ds_cons (ds_set (i := 4) nd rfl (by first | exact Or.inl rfl | exact Or.inr rfl) (d_callC c_check_places (ar_check_places _) hr (by decide) rfl tk (da_cons (dv 3) (da_cons (d_callB c_len rfl T.n_len PySem.boot_len (da_cons (dv 5) (da_nil))) (da_nil))))) (ds_one (ds_ret (d_callC c_lining_of (ar_lining_of _) hr (by decide) rfl tk (da_cons (pf_e (f_lc rfl nd (di_var 4) (blkOk_by (own := [("place", 7)]) (N := N_cut_lining) (sc := defScope s_cut_lining) (by decide +kernel)) (fun _ _ _ _ _ => pg_name (i := 7) nd rfl (by first | exact Or.inl rfl | exact Or.inr rfl)) sg_name (gw_name (by decide)) bt_nil (be_of (fun _ _ _ _ _ => d_ix (dv 5) (dv 7))))) (da_cons (pf_e (f_lc rfl nd (di_var 4) (blkOk_by (own := [("place", 7)]) (N := N_cut_lining) (sc := defScope s_cut_lining) (by decide +kernel)) (fun _ _ _ _ _ => pg_name (i := 7) nd rfl (by first | exact Or.inl rfl | exact Or.inr rfl)) sg_name (gw_name (by decide)) bt_nil (be_of (fun _ _ _ _ _ => d_ix (dv 6) (dv 7))))) (da_nil)))))))
abbrev s_check_deed : Stmt := top 25
abbrev N_check_deed : List Str := ["deed"]
theorem sc_check_deed : FnScope N_check_deed ["deed"] (defScope s_check_deed) := ⟨rfl, rfl, rfl, by decide +kernel, rfl, by decide +kernel, by decide +kernel⟩
def d_check_deed (K : PySem.W.Frag) (Ed : DEnv → Exc → Prop) : TSD := sSeq (sIf (dTest (dOp (fIn true) (dVar 0) (dC (.tup ((["lesser", "odd", "common"] : List Str).map D.str))))) (sRaise0 (He.ga K "BadDeed") Ed) (sNext)) (sRet (dVar 0))
theorem pd_check_deed {P : Program} {w : World} {K : PySem.W.Frag} {mg : Str → Option Value} {base : Heap} {I : HI} {fa : Addr} {cdv : Value} {A : Around} {outer : List Env} {s : Shared} {H : Hp} {E : XK} {Ed : Exc → Prop} (T : Tf K mg) (eR_BadDeed : Zs.ErR K mg "BadDeed")
    (hr : Room 1 (A.deeper (envOfC "check_deed" (defScope s_check_deed) s.heap.objs.size fa cdv))) (tk : Takes (cxD P w K mg base N_check_deed "check_deed" (defScope s_check_deed) fa cdv A outer s H E) (gOf I Ed E).W) :
    PSsD (cxD P w K mg base N_check_deed "check_deed" (defScope s_check_deed) fa cdv A outer s H E) (gOf I Ed E) (defBody s_check_deed) (d_check_deed K (gOf I Ed E).Ed) :=
  have nd := sc_check_deed.nd; ds_cons (ds_if (dt_cmp (r_nin (h65 hr)) (dv 0) (d_gtup rfl T.t_DEEDS) (by with_unfolding_all rfl)) (ds_one (ds_raise0 (x := "BadDeed") eR_BadDeed rfl tk rfl)) (ds_nil)) (ds_one (ds_ret (dv 0)))
abbrev s__place_key : Stmt := top 26
abbrev N__place_key : List Str := ["deed", "first", "second", "key"]
theorem sc__place_key : FnScope N__place_key ["deed", "first", "second"] (defScope s__place_key) := ⟨rfl, rfl, rfl, by decide +kernel, rfl, by decide +kernel, by decide +kernel⟩
def d__place_key (K : PySem.W.Frag) (Ed : DEnv → Exc → Prop) : TSD := sSeq (sAsg 3 (dOp fMul (dC (.int 3)) (dCB bMin2 (dCons (dVar 1) (dCons (dVar 2) (dNil)))))) (sSeq (sIf (dAnd (dTest (dOp (fEq false) (dVar 0) (dC (.str "odd")))) (dTest (dOp (fEq false) (dVar 1) (dVar 2)))) (sRet (dOp fAdd (dVar 3) (dC (.int 1)))) (sNext)) (sSeq (sIf (dAnd (dTest (dOp (fEq false) (dVar 0) (dC (.str "common")))) (dTest (dOp (fEq true) (dVar 1) (dVar 2)))) (sRet (dIf (dTest (dOp fLt (dVar 2) (dVar 1))) (dOp fAdd (dVar 3) (dC (.int 1))) (dOp fAdd (dVar 3) (dC (.int 2))))) (sNext)) (sRet (dVar 3))))
theorem pd__place_key {P : Program} {w : World} {K : PySem.W.Frag} {mg : Str → Option Value} {base : Heap} {I : HI} {fa : Addr} {cdv : Value} {A : Around} {outer : List Env} {s : Shared} {H : Hp} {E : XK} {Ed : Exc → Prop} (T : Tf K mg) 
    (hr : Room 1 (A.deeper (envOfC "_place_key" (defScope s__place_key) s.heap.objs.size fa cdv))) (tk : Takes (cxD P w K mg base N__place_key "_place_key" (defScope s__place_key) fa cdv A outer s H E) (gOf I Ed E).W) :
    PSsD (cxD P w K mg base N__place_key "_place_key" (defScope s__place_key) fa cdv A outer s H E) (gOf I Ed E) (defBody s__place_key) (d__place_key K (gOf I Ed E).Ed) :=
  have nd := sc__place_key.nd; ds_cons (ds_set (i := 3) nd rfl (by first | exact Or.inl rfl | exact Or.inr rfl) (d_op r_mul (d_int) (d_callB (c_min2 rfl) rfl T.n_min boot_min (da_cons (dv 1) (da_cons (dv 2) (da_nil)))))) (ds_cons (ds_if (PWD.pt (dt_and (dt_cmp (r_eq (h64 hr)) (dv 0) (d_str) (nomark _)) (dt_and1 (dt_cmp (r_eq (h64 hr)) (dv 1) (dv 2) (nomark _))))) (ds_one (ds_ret (d_op r_add (dv 3) (d_int)))) (ds_nil)) (ds_cons (ds_if (PWD.pt (dt_and (dt_cmp (r_eq (h64 hr)) (dv 0) (d_str) (nomark _)) (dt_and1 (dt_cmp (r_ne (h64 hr)) (dv 1) (dv 2) (nomark _))))) (ds_one (ds_ret (d_ifExp (dt_cmp (r_lt hr.units0) (dv 2) (dv 1) (nomark _)) (d_op r_add (dv 3) (d_int)) (d_op r_add (dv 3) (d_int))))) (ds_nil)) (ds_one (ds_ret (dv 3)))))
abbrev s_deed_table : Stmt := top 27
abbrev N_deed_table : List Str := ["deed", "lining", "firsts", "seconds", "first", "second"]
theorem sc_deed_table : FnScope N_deed_table ["deed", "lining"] (defScope s_deed_table) := ⟨rfl, rfl, rfl, by decide +kernel, rfl, by decide +kernel, by decide +kernel⟩
def d_deed_table (K : PySem.W.Frag) (Ed : DEnv → Exc → Prop) : TSD := sSeq (sAsgG (dCall ((C_rank_moments K)) [] Ed (dCons (dVar 1) (dNil))) (gdTup [2, 3])) (sRet (dCB bTup (dCons (dF (fLc (idVar 2) (gdName 4) (dYes) (dCB bTup (dCons (dF (fLc (idVar 3) (gdName 5) (dYes) (dCall ((C__place_key K)) [] (fun _ _ => False) (dCons (dVar 0) (dCons (dVar 4) (dCons (dVar 5) (dNil))))) (([("second", 5)] : List (Str × Nat)).map (·.2)))) (dNil))) (([("first", 4)] : List (Str × Nat)).map (·.2)))) (dNil))))
theorem pd_deed_table {P : Program} {w : World} {K : PySem.W.Frag} {mg : Str → Option Value} {base : Heap} {I : HI} {fa : Addr} {cdv : Value} {A : Around} {outer : List Env} {s : Shared} {H : Hp} {E : XK} {Ed : Exc → Prop} (T : Tf K mg) (c__place_key : Cl P w K mg base I 2 "_place_key" 3 (C__place_key K) []) (c_rank_moments : Cl P w K mg base I 2 "rank_moments" 1 (C_rank_moments K) [])
    (hr : Room 2 (A.deeper (envOfC "deed_table" (defScope s_deed_table) s.heap.objs.size fa cdv))) (tk : Takes (cxD P w K mg base N_deed_table "deed_table" (defScope s_deed_table) fa cdv A outer s H E) (gOf I Ed E).W) :
    PSsD (cxD P w K mg base N_deed_table "deed_table" (defScope s_deed_table) fa cdv A outer s H E) (gOf I Ed E) (defBody s_deed_table) (d_deed_table K (gOf I Ed E).Ed) :=
  have nd := sc_deed_table.nd; ds_cons (ds_asgG (d_callC c_rank_moments (ar_rank_moments _) hr (by decide) rfl tk (da_cons (dv 1) (da_nil))) (dg_tup (is := [2, 3]) rfl (pgs_cons (pg_name (i := 2) nd rfl (by first | exact Or.inl rfl | exact Or.inr rfl)) (pgs_cons (pg_name (i := 3) nd rfl (by first | exact Or.inl rfl | exact Or.inr rfl)) (pgs_nil))))) (ds_one (ds_ret (d_callTy c_tup rfl T.n_tuple boot_tuple (da_cons (pf_e (f_lc rfl nd (di_var 2) (blkOk_by (own := [("first", 4)]) (N := N_deed_table) (sc := defScope s_deed_table) (by decide +kernel)) (fun _ _ _ _ _ => pg_name (i := 4) nd rfl (by first | exact Or.inl rfl | exact Or.inr rfl)) sg_name (gw_name (by decide)) bt_nil (be_of (fun _ _ _ _ _ => d_callTy c_tup rfl T.n_tuple boot_tuple (da_cons (pf_e (f_lc rfl nd (di_var 3) (blkOk_by (own := [("second", 5)]) (N := N_deed_table) (sc := _) (by kernel_rfl)) (fun _ _ _ _ _ => pg_name (i := 5) nd rfl (by first | exact Or.inl rfl | exact Or.inr rfl)) sg_name (gw_name (by decide)) bt_nil (be_of (fun _ _ _ _ _ => d_callC c__place_key (ar__place_key _) hr (by decide) rfl takes0 (da_cons (dv 0) (da_cons (dv 4) (da_cons (dv 5) (da_nil)))))))) (da_nil)))))) (da_nil)))))
abbrev s_made_by_table : Stmt := top 28
abbrev N_made_by_table : List Str := ["table", "one", "other", "rank", "beside"]
theorem sc_made_by_table : FnScope N_made_by_table ["table", "one", "other"] (defScope s_made_by_table) := ⟨rfl, rfl, rfl, by decide +kernel, rfl, by decide +kernel, by decide +kernel⟩
def d_made_by_table (K : PySem.W.Frag) (Ed : DEnv → Exc → Prop) : TSD := sRet (dCall ((C_standing_of K)) [] Ed (dCons (dF (fLc (Zz.idZipV 1 2) (gdTup [3, 4]) (dYes) (dOp fIx (dOp fIx (dVar 0) (dVar 3)) (dVar 4)) (([("rank", 3), ("beside", 4)] : List (Str × Nat)).map (·.2)))) (dNil)))
theorem pd_made_by_table {P : Program} {w : World} {K : PySem.W.Frag} {mg : Str → Option Value} {base : Heap} {I : HI} {fa : Addr} {cdv : Value} {A : Around} {outer : List Env} {s : Shared} {H : Hp} {E : XK} {Ed : Exc → Prop} (T : Tf K mg) (c_standing_of : Cl P w K mg base I 2 "standing_of" 1 (C_standing_of K) [])
    (hr : Room 2 (A.deeper (envOfC "made_by_table" (defScope s_made_by_table) s.heap.objs.size fa cdv))) (tk : Takes (cxD P w K mg base N_made_by_table "made_by_table" (defScope s_made_by_table) fa cdv A outer s H E) (gOf I Ed E).W) :
    PSsD (cxD P w K mg base N_made_by_table "made_by_table" (defScope s_made_by_table) fa cdv A outer s H E) (gOf I Ed E) (defBody s_made_by_table) (d_made_by_table K (gOf I Ed E).Ed) :=
  have nd := sc_made_by_table.nd; ds_one (ds_ret (d_callC c_standing_of (ar_standing_of _) hr (by decide) rfl tk (da_cons (pf_e (f_lc rfl nd (Zz.di_zipV 1 2 rfl T.n_zip) (blkOk_by (own := [("rank", 3), ("beside", 4)]) (N := N_made_by_table) (sc := defScope s_made_by_table) (by decide +kernel)) (fun _ _ _ _ _ => pg_tup (t := gNames [3, 4]) (n := 2) rfl (pgs_cons (pg_name (i := 3) nd rfl (by first | exact Or.inl rfl | exact Or.inr rfl)) (pgs_cons (pg_name (i := 4) nd rfl (by first | exact Or.inl rfl | exact Or.inr rfl)) (pgs_nil)))) (sg_tup (is := [3, 4])) (gw_tup (is := [3, 4]) (by decide)) bt_nil (be_of (fun _ _ _ _ _ => d_ix (d_ix (dv 0) (dv 3)) (dv 4))))) (da_nil))))
abbrev s_made_by : Stmt := top 29
abbrev N_made_by : List Str := ["deed", "one", "other", "lining"]
theorem sc_made_by : FnScope N_made_by ["deed", "one", "other", "lining"] (defScope s_made_by) := ⟨rfl, rfl, rfl, by decide +kernel, rfl, by decide +kernel, by decide +kernel⟩
def d_made_by (K : PySem.W.Frag) (Ed : DEnv → Exc → Prop) : TSD := sSeq (sDrop (dCall ((C_check_deed K)) [] Ed (dCons (dVar 0) (dNil)))) (sRet (dCall ((C_made_by_table K)) [] Ed (dCons (dCall ((C_deed_table K)) [] Ed (dCons (dVar 0) (dCons (dCall ((C_check_lining K)) [] Ed (dCons (dVar 1) (dCons (dVar 2) (dCons (dVar 3) (dNil))))) (dNil)))) (dCons (dVar 1) (dCons (dVar 2) (dNil))))))
theorem pd_made_by {P : Program} {w : World} {K : PySem.W.Frag} {mg : Str → Option Value} {base : Heap} {I : HI} {fa : Addr} {cdv : Value} {A : Around} {outer : List Env} {s : Shared} {H : Hp} {E : XK} {Ed : Exc → Prop} (T : Tf K mg) (c_check_deed : Cl P w K mg base I 2 "check_deed" 1 (C_check_deed K) []) (c_check_lining : Cl P w K mg base I 5 "check_lining" 3 (C_check_lining K) []) (c_deed_table : Cl P w K mg base I 3 "deed_table" 2 (C_deed_table K) []) (c_made_by_table : Cl P w K mg base I 3 "made_by_table" 3 (C_made_by_table K) [])
    (hr : Room 5 (A.deeper (envOfC "made_by" (defScope s_made_by) s.heap.objs.size fa cdv))) (tk : Takes (cxD P w K mg base N_made_by "made_by" (defScope s_made_by) fa cdv A outer s H E) (gOf I Ed E).W) :
    PSsD (cxD P w K mg base N_made_by "made_by" (defScope s_made_by) fa cdv A outer s H E) (gOf I Ed E) (defBody s_made_by) (d_made_by K (gOf I Ed E).Ed) :=
  have nd := sc_made_by.nd; ds_cons (ds_expr (d_callC c_check_deed (ar_check_deed _) hr (by decide) rfl tk (da_cons (dv 0) (da_nil)))) (ds_one (ds_ret (d_callC c_made_by_table (ar_made_by_table _) hr (by decide) rfl tk (da_cons (d_callC c_deed_table (ar_deed_table _) hr (by decide) rfl tk (da_cons (dv 0) (da_cons (d_callC c_check_lining (ar_check_lining _) hr (by decide) rfl tk (da_cons (dv 1) (da_cons (dv 2) (da_cons (dv 3) (da_nil))))) (da_nil)))) (da_cons (dv 1) (da_cons (dv 2) (da_nil)))))))
abbrev s__law_hand : Stmt := top 31
abbrev N__law_hand : List Str := ["_law_script", "_law_total", "_law_cells", "_law_cell"]
theorem sc__law_hand : FnScope N__law_hand ["_law_script"] (defScope s__law_hand) := ⟨rfl, rfl, rfl, by decide +kernel, rfl, by decide +kernel, by decide +kernel⟩
def d__law_hand (K : PySem.W.Frag) (Ed : DEnv → Exc → Prop) : TSD := sSeq (sAsg 1 (dOp fAdd (dCB bLenS (dCons (dVar 0) (dNil))) (dC (.int 91)))) (sSeq (sNew 2 (fLst (dNil))) (sSeq (sFor (idVarS 0) (gdName 3) (sSeq (sAsg 1 (dOp fMod (dCB bInt (dCons (dOp fAdd (dOp fAdd (dOp Zo.fMulS (dVar 1) (dC (.int 1009))) (dOp Zo.fMulS (dCB bAbs (dCons (dCB bInt (dCons (dVar 3) (dNil))) (dNil))) (dC (.int 3)))) (dC (.int 17))) (dNil))) (dC (.int 2147483579)))) (sApp 2 (dCB bAbs (dCons (dCB bInt (dCons (dVar 3) (dNil))) (dNil)))))) (sRet (dLst (dCons (dVar 2) (dCons (dC (.int 0)) (dCons (dC (.int 0)) (dCons (dVar 1) (dNil)))))))))
theorem pd__law_hand {P : Program} {w : World} {K : PySem.W.Frag} {mg : Str → Option Value} {base : Heap} {I : HI} {fa : Addr} {cdv : Value} {A : Around} {outer : List Env} {s : Shared} {H : Hp} {E : XK} {Ed : Exc → Prop} (T : Tf K mg) 
    (hr : Room 1 (A.deeper (envOfC "_law_hand" (defScope s__law_hand) s.heap.objs.size fa cdv))) (tk : Takes (cxD P w K mg base N__law_hand "_law_hand" (defScope s__law_hand) fa cdv A outer s H E) (gOf I Ed E).W) :
    PSsD (cxD P w K mg base N__law_hand "_law_hand" (defScope s__law_hand) fa cdv A outer s H E) (gOf I Ed E) (defBody s__law_hand) (d__law_hand K (gOf I Ed E).Ed) :=
  have nd := sc__law_hand.nd; ds_cons (ds_set (i := 1) nd rfl (by first | exact Or.inl rfl | exact Or.inr rfl) (d_op r_add (d_callB c_lenS rfl T.n_len PySem.boot_len (da_cons (dv 0) (da_nil))) (d_int))) (ds_cons (ds_new (i := 2) nd rfl (by first | exact Or.inl rfl | exact Or.inr rfl) (f_lst (da_nil))) (ds_cons (ds_for (passes_of rfl) rfl (di_varS 0) (dg_name (i := 3) nd rfl (by first | exact Or.inl rfl | exact Or.inr rfl)) (ds_cons (ds_set (i := 1) nd rfl (by first | exact Or.inl rfl | exact Or.inr rfl) (d_op r_mod (d_callTy c_int rfl T.n_int boot_int (da_cons (d_op r_add (d_op r_add (d_op Zo.r_mulS (dv 1) (d_int)) (d_op Zo.r_mulS (d_callB c_abs rfl T.n_abs boot_abs (da_cons (d_callTy c_int rfl T.n_int boot_int (da_cons (dv 3) (da_nil))) (da_nil))) (d_int))) (d_int)) (da_nil))) (d_int))) (ds_one (ds_app (i := 2) rfl (by first | exact Or.inl rfl | exact Or.inr (Or.inl rfl)) (d_callB c_abs rfl T.n_abs boot_abs (da_cons (d_callTy c_int rfl T.n_int boot_int (da_cons (dv 3) (da_nil))) (da_nil))))))) (ds_one (ds_ret (d_lst (da_cons (dv 2) (da_cons (d_int) (da_cons (d_int) (da_cons (dv 1) (da_nil))))))))))
abbrev s__law_mixed : Stmt := top 32
abbrev N__law_mixed : List Str := ["_law_number", "_law_turn", "_law_once", "_law_twice"]
theorem sc__law_mixed : FnScope N__law_mixed ["_law_number", "_law_turn"] (defScope s__law_mixed) := ⟨rfl, rfl, rfl, by decide +kernel, rfl, by decide +kernel, by decide +kernel⟩
def d__law_mixed (K : PySem.W.Frag) (Ed : DEnv → Exc → Prop) : TSD := sSeq (sAsg 2 (dOp fMod (dCB bInt (dCons (dOp fAdd (dOp fAdd (dOp fMul (dVar 0) (dC (.int 48271))) (dOp fMul (dVar 1) (dC (.int 7919)))) (dC (.int 104729))) (dNil))) (dC (.int 2147483647)))) (sSeq (sAsg 3 (dOp fMod (dCB bInt (dCons (dOp fAdd (dOp fAdd (dOp fMul (dVar 2) (dVar 2)) (dOp fMul (dVar 1) (dC (.int 69031)))) (dOp fDiv (dVar 2) (dC (.int 131)))) (dNil))) (dC (.int 2147483629)))) (sRet (dOp fDiv (dCB bInt (dCons (dOp fMod (dCB bInt (dCons (dOp fAdd (dOp fMul (dVar 3) (dC (.int 61927))) (dOp fDiv (dVar 2) (dC (.int 7)))) (dNil))) (dC (.int 2147483587))) (dNil))) (dC (.int 128)))))
theorem pd__law_mixed {P : Program} {w : World} {K : PySem.W.Frag} {mg : Str → Option Value} {base : Heap} {I : HI} {fa : Addr} {cdv : Value} {A : Around} {outer : List Env} {s : Shared} {H : Hp} {E : XK} {Ed : Exc → Prop} (T : Tf K mg) 
    (hr : Room 1 (A.deeper (envOfC "_law_mixed" (defScope s__law_mixed) s.heap.objs.size fa cdv))) (tk : Takes (cxD P w K mg base N__law_mixed "_law_mixed" (defScope s__law_mixed) fa cdv A outer s H E) (gOf I Ed E).W) :
    PSsD (cxD P w K mg base N__law_mixed "_law_mixed" (defScope s__law_mixed) fa cdv A outer s H E) (gOf I Ed E) (defBody s__law_mixed) (d__law_mixed K (gOf I Ed E).Ed) :=
  have nd := sc__law_mixed.nd; ds_cons (ds_set (i := 2) nd rfl (by first | exact Or.inl rfl | exact Or.inr rfl) (d_op r_mod (d_callTy c_int rfl T.n_int boot_int (da_cons (d_op r_add (d_op r_add (d_op r_mul (dv 0) (d_int)) (d_op r_mul (dv 1) (d_int))) (d_int)) (da_nil))) (d_int))) (ds_cons (ds_set (i := 3) nd rfl (by first | exact Or.inl rfl | exact Or.inr rfl) (d_op r_mod (d_callTy c_int rfl T.n_int boot_int (da_cons (d_op r_add (d_op r_add (d_op r_mul (dv 2) (dv 2)) (d_op r_mul (dv 1) (d_int))) (d_op r_div (dv 2) (d_int))) (da_nil))) (d_int))) (ds_one (ds_ret (d_op r_div (d_callTy c_int rfl T.n_int boot_int (da_cons (d_op r_mod (d_callTy c_int rfl T.n_int boot_int (da_cons (d_op r_add (d_op r_mul (dv 3) (d_int)) (d_op r_div (dv 2) (d_int))) (da_nil))) (d_int)) (da_nil))) (d_int)))))
abbrev s__law_pick : Stmt := top 34
abbrev N__law_pick : List Str := ["_law_hand_here", "_law_things"]
theorem sc__law_pick : FnScope N__law_pick ["_law_hand_here", "_law_things"] (defScope s__law_pick) := ⟨rfl, rfl, rfl, by decide +kernel, rfl, by decide +kernel, by decide +kernel⟩
def d__law_pick (K : PySem.W.Frag) (hd : Addr) (Ed : DEnv → Exc → Prop) : TSD := sRet (dOp fIx (dVar 1) (dCall ((C__law_take hd)) [] Ed (dCons (dVar 0) (dCons (dCB bLen (dCons (dVar 1) (dNil))) (dNil)))))
theorem pd__law_pick {P : Program} {w : World} {K : PySem.W.Frag} {mg : Str → Option Value} {base : Heap} {I : HI} {fa : Addr} {hd : Addr} {cdv : Value} {A : Around} {outer : List Env} {s : Shared} {H : Hp} {E : XK} {Ed : Exc → Prop} (T : Tf K mg) (c__law_take : Cl P w K mg base I 3 "_law_take" 2 (C__law_take hd) [])
    (hr : Room 3 (A.deeper (envOfC "_law_pick" (defScope s__law_pick) s.heap.objs.size fa cdv))) (tk : Takes (cxD P w K mg base N__law_pick "_law_pick" (defScope s__law_pick) fa cdv A outer s H E) (gOf I Ed E).W) :
    PSsD (cxD P w K mg base N__law_pick "_law_pick" (defScope s__law_pick) fa cdv A outer s H E) (gOf I Ed E) (defBody s__law_pick) (d__law_pick K hd (gOf I Ed E).Ed) :=
  have nd := sc__law_pick.nd; ds_one (ds_ret (d_ix (dv 1) (d_callC c__law_take (ar__law_take _) hr (by decide) rfl tk (da_cons (dv 0) (da_cons (d_callB c_len rfl T.n_len PySem.boot_len (da_cons (dv 1) (da_nil))) (da_nil))))))
abbrev s__law_whole : Stmt := top 35
abbrev N__law_whole : List Str := ["_law_thing"]
theorem sc__law_whole : FnScope N__law_whole ["_law_thing"] (defScope s__law_whole) := ⟨rfl, rfl, rfl, by decide +kernel, rfl, by decide +kernel, by decide +kernel⟩
def d__law_whole (K : PySem.W.Frag) (Ed : DEnv → Exc → Prop) : TSD := sRet (dAndV (dCB bIsi (dCons (dVar 0) (dCons (dC (.ty "int")) (dNil)))) (dNotV (dCB bIsi (dCons (dVar 0) (dCons (dC (.ty "bool")) (dNil))))))
theorem pd__law_whole {P : Program} {w : World} {K : PySem.W.Frag} {mg : Str → Option Value} {base : Heap} {I : HI} {fa : Addr} {cdv : Value} {A : Around} {outer : List Env} {s : Shared} {H : Hp} {E : XK} {Ed : Exc → Prop} (T : Tf K mg) 
    (hr : Room 1 (A.deeper (envOfC "_law_whole" (defScope s__law_whole) s.heap.objs.size fa cdv))) (tk : Takes (cxD P w K mg base N__law_whole "_law_whole" (defScope s__law_whole) fa cdv A outer s H E) (gOf I Ed E).W) :
    PSsD (cxD P w K mg base N__law_whole "_law_whole" (defScope s__law_whole) fa cdv A outer s H E) (gOf I Ed E) (defBody s__law_whole) (d__law_whole K (gOf I Ed E).Ed) :=
  have nd := sc__law_whole.nd; ds_one (ds_ret (d_and (d_callB c_isi rfl T.n_isinstance boot_isinstance (da_cons (dv 0) (da_cons (d_ty rfl T.n_int boot_int) (da_nil)))) (d_one (d_not (d_callB c_isi rfl T.n_isinstance boot_isinstance (da_cons (dv 0) (da_cons (d_ty rfl T.n_bool boot_bool) (da_nil))))))))
abbrev s__law_is_row : Stmt := top 36
abbrev N__law_is_row : List Str := ["_law_thing", "_law_part"]
theorem sc__law_is_row : FnScope N__law_is_row ["_law_thing"] (defScope s__law_is_row) := ⟨rfl, rfl, rfl, by decide +kernel, rfl, by decide +kernel, by decide +kernel⟩
def d__law_is_row (K : PySem.W.Frag) (Ed : DEnv → Exc → Prop) : TSD := sRet (dAndV (dCB bIsi (dCons (dVar 0) (dCons (dC (.ty "tuple")) (dNil)))) (dOp (fEq false) (dF (fLc (idVar 0) (gdName 1) (dNot (dB (dCall ((C__law_whole K)) [] (fun _ _ => False) (dCons (dVar 1) (dNil))))) (dVar 1) (([("_law_part", 1)] : List (Str × Nat)).map (·.2)))) (dLst (dNil))))
theorem pd__law_is_row {P : Program} {w : World} {K : PySem.W.Frag} {mg : Str → Option Value} {base : Heap} {I : HI} {fa : Addr} {cdv : Value} {A : Around} {outer : List Env} {s : Shared} {H : Hp} {E : XK} {Ed : Exc → Prop} (T : Tf K mg) (c__law_whole : Cl P w K mg base I 2 "_law_whole" 1 (C__law_whole K) [])
    (hr : Room 2 (A.deeper (envOfC "_law_is_row" (defScope s__law_is_row) s.heap.objs.size fa cdv))) (tk : Takes (cxD P w K mg base N__law_is_row "_law_is_row" (defScope s__law_is_row) fa cdv A outer s H E) (gOf I Ed E).W) :
    PSsD (cxD P w K mg base N__law_is_row "_law_is_row" (defScope s__law_is_row) fa cdv A outer s H E) (gOf I Ed E) (defBody s__law_is_row) (d__law_is_row K (gOf I Ed E).Ed) :=
  have nd := sc__law_is_row.nd; ds_one (ds_ret (d_and (d_callB c_isi rfl T.n_isinstance boot_isinstance (da_cons (dv 0) (da_cons (d_ty rfl T.n_tuple boot_tuple) (da_nil)))) (d_one (d_cmp (r_eq (h64 hr)) (pf_e (f_lc rfl nd (di_var 0) (blkOk_by (own := [("_law_part", 1)]) (N := N__law_is_row) (sc := defScope s__law_is_row) (by decide +kernel)) (fun _ _ _ _ _ => pg_name (i := 1) nd rfl (by first | exact Or.inl rfl | exact Or.inr rfl)) sg_name (gw_name (by decide)) (bt_one (fun _ _ _ _ _ => dt_not (dt_val (d_callC c__law_whole (ar__law_whole _) hr (by decide) rfl takes0 (da_cons (dv 1) (da_nil)))))) (be_of (fun _ _ _ _ _ => dv 1)))) (d_lst (da_nil)) (nomark _)))))
abbrev s__law_ranks : Stmt := top 37
abbrev N__law_ranks : List Str := ["_law_keys", "_law_order", "_law_key_here"]
theorem sc__law_ranks : FnScope N__law_ranks ["_law_keys"] (defScope s__law_ranks) := ⟨rfl, rfl, rfl, by decide +kernel, rfl, by decide +kernel, by decide +kernel⟩
def d__law_ranks (K : PySem.W.Frag) (Ed : DEnv → Exc → Prop) : TSD := sSeq (sAsg 1 (dSortI (zSetI (dCons (dCB bLst (dCons (dVar 0) (dNil))) (dNil))))) (sRet (dCB bTup (dCons (dF (fLc (idVar 0) (gdName 2) (dYes) (dIndex (dVar 1) (dVar 2)) (([("_law_key_here", 2)] : List (Str × Nat)).map (·.2)))) (dNil))))
theorem pd__law_ranks {P : Program} {w : World} {K : PySem.W.Frag} {mg : Str → Option Value} {base : Heap} {I : HI} {fa : Addr} {cdv : Value} {A : Around} {outer : List Env} {s : Shared} {H : Hp} {E : XK} {Ed : Exc → Prop} (T : Tf K mg) 
    (hr : Room 1 (A.deeper (envOfC "_law_ranks" (defScope s__law_ranks) s.heap.objs.size fa cdv))) (tk : Takes (cxD P w K mg base N__law_ranks "_law_ranks" (defScope s__law_ranks) fa cdv A outer s H E) (gOf I Ed E).W) :
    PSsD (cxD P w K mg base N__law_ranks "_law_ranks" (defScope s__law_ranks) fa cdv A outer s H E) (gOf I Ed E) (defBody s__law_ranks) (d__law_ranks K (gOf I Ed E).Ed) :=
  have nd := sc__law_ranks.nd; ds_cons (ds_set (i := 1) nd rfl (by first | exact Or.inl rfl | exact Or.inr rfl) (d_sortI rfl rfl T.n_sorted (z_setI rfl rfl T.n_set (da_cons (d_callTy c_lst rfl T.n_list boot_list (da_cons (dv 0) (da_nil))) (da_nil))))) (ds_one (ds_ret (d_callTy c_tup rfl T.n_tuple boot_tuple (da_cons (pf_e (f_lc rfl nd (di_var 0) (blkOk_by (own := [("_law_key_here", 2)]) (N := N__law_ranks) (sc := defScope s__law_ranks) (by decide +kernel)) (fun _ _ _ _ _ => pg_name (i := 2) nd rfl (by first | exact Or.inl rfl | exact Or.inr rfl)) sg_name (gw_name (by decide)) bt_nil (be_of (fun _ _ _ _ _ => d_index (h65 hr) (dv 1) (dv 2))))) (da_nil)))))
abbrev s__law_many_ranks : Stmt := top 38
abbrev N__law_many_ranks : List Str := ["_law_standing"]
theorem sc__law_many_ranks : FnScope N__law_many_ranks ["_law_standing"] (defScope s__law_many_ranks) := ⟨rfl, rfl, rfl, by decide +kernel, rfl, by decide +kernel, by decide +kernel⟩
def d__law_many_ranks (K : PySem.W.Frag) (Ed : DEnv → Exc → Prop) : TSD := sRet (dLenZ (zSetI (dCons (dCB bLst (dCons (dVar 0) (dNil))) (dNil))))
theorem pd__law_many_ranks {P : Program} {w : World} {K : PySem.W.Frag} {mg : Str → Option Value} {base : Heap} {I : HI} {fa : Addr} {cdv : Value} {A : Around} {outer : List Env} {s : Shared} {H : Hp} {E : XK} {Ed : Exc → Prop} (T : Tf K mg) 
    (hr : Room 1 (A.deeper (envOfC "_law_many_ranks" (defScope s__law_many_ranks) s.heap.objs.size fa cdv))) (tk : Takes (cxD P w K mg base N__law_many_ranks "_law_many_ranks" (defScope s__law_many_ranks) fa cdv A outer s H E) (gOf I Ed E).W) :
    PSsD (cxD P w K mg base N__law_many_ranks "_law_many_ranks" (defScope s__law_many_ranks) fa cdv A outer s H E) (gOf I Ed E) (defBody s__law_many_ranks) (d__law_many_ranks K (gOf I Ed E).Ed) :=
  have nd := sc__law_many_ranks.nd; ds_one (ds_ret (d_lenZ rfl T.n_len (z_setI rfl rfl T.n_set (da_cons (d_callTy c_lst rfl T.n_list boot_list (da_cons (dv 0) (da_nil))) (da_nil)))))
abbrev s__law_lining : Stmt := top 39
abbrev N__law_lining : List Str := ["_law_hand_here", "_law_first", "_law_second", "_law_found", "_law_k", "_law_turn"]
theorem sc__law_lining : FnScope N__law_lining ["_law_hand_here", "_law_first", "_law_second"] (defScope s__law_lining) := ⟨rfl, rfl, rfl, by decide +kernel, rfl, by decide +kernel, by decide +kernel⟩
def d__law_lining (K : PySem.W.Frag) (hd : Addr) (Ed : DEnv → Exc → Prop) : TSD := sSeq (sNew 3 (fLst (dNil))) (sSeq (sFor (idRng1 (dCons (dOp fAdd (dVar 1) (dVar 2)) (dNil))) (gdName 4) (sSeq (sAsg 5 (dIf (dTest (dOp (fEq false) (dVar 2) (dC (.int 0)))) (dC (.int 0)) (dC (.int 1)))) (sSeq (sIf (dAnd (dTest (dOp fGt (dVar 1) (dC (.int 0)))) (dTest (dOp fGt (dVar 2) (dC (.int 0))))) (sAsg 5 (dCall ((C__law_take hd)) [] Ed (dCons (dVar 0) (dCons (dC (.int 3)) (dNil))))) (sNext)) (sIf (dTest (dOp fGt (dOp fAdd (dVar 1) (dVar 2)) (dC (.int 0)))) (sSeq (sApp 3 (dVar 5)) (sSeq (sAsg 1 (dOp fSub (dVar 1) (dCB bIntB (dCons (dOp (fEq true) (dVar 5) (dC (.int 1))) (dNil))))) (sAsg 2 (dOp fSub (dVar 2) (dCB bIntB (dCons (dOp (fEq true) (dVar 5) (dC (.int 0))) (dNil))))))) (sNext))))) (sRet (dCB bTup (dCons (dVar 3) (dNil)))))
theorem pd__law_lining {P : Program} {w : World} {K : PySem.W.Frag} {mg : Str → Option Value} {base : Heap} {I : HI} {fa : Addr} {hd : Addr} {cdv : Value} {A : Around} {outer : List Env} {s : Shared} {H : Hp} {E : XK} {Ed : Exc → Prop} (T : Tf K mg) (c__law_take : Cl P w K mg base I 3 "_law_take" 2 (C__law_take hd) [])
    (hr : Room 3 (A.deeper (envOfC "_law_lining" (defScope s__law_lining) s.heap.objs.size fa cdv))) (tk : Takes (cxD P w K mg base N__law_lining "_law_lining" (defScope s__law_lining) fa cdv A outer s H E) (gOf I Ed E).W) :
    PSsD (cxD P w K mg base N__law_lining "_law_lining" (defScope s__law_lining) fa cdv A outer s H E) (gOf I Ed E) (defBody s__law_lining) (d__law_lining K hd (gOf I Ed E).Ed) :=
  have nd := sc__law_lining.nd; ds_cons (ds_new (i := 3) nd rfl (by first | exact Or.inl rfl | exact Or.inr rfl) (f_lst (da_nil))) (ds_cons (ds_for (passes_of rfl) rfl (di_range1 rfl T.n_range (da_cons (d_op r_add (dv 1) (dv 2)) (da_nil))) (dg_name (i := 4) nd rfl (by first | exact Or.inl rfl | exact Or.inr rfl)) (ds_cons (ds_set (i := 5) nd rfl (by first | exact Or.inl rfl | exact Or.inr rfl) (d_ifExp (dt_cmp (r_eq (h64 hr)) (dv 2) (d_int) (nomark _)) (d_int) (d_int))) (ds_cons (ds_if (PWD.pt (dt_and (dt_cmp r_gt (dv 1) (d_int) (nomark _)) (dt_and1 (dt_cmp r_gt (dv 2) (d_int) (nomark _))))) (ds_one (ds_set (i := 5) nd rfl (by first | exact Or.inl rfl | exact Or.inr rfl) (d_callC c__law_take (ar__law_take _) hr (by decide) rfl tk (da_cons (dv 0) (da_cons (d_int) (da_nil)))))) (ds_nil)) (ds_one (ds_if (dt_cmp r_gt (d_op r_add (dv 1) (dv 2)) (d_int) (nomark _)) (ds_cons (ds_app (i := 3) rfl (by first | exact Or.inl rfl | exact Or.inr (Or.inl rfl)) (dv 5)) (ds_cons (ds_set (i := 1) nd rfl (by first | exact Or.inl rfl | exact Or.inr rfl) (d_op r_sub (dv 1) (d_callTy c_intB rfl T.n_int boot_int (da_cons (d_cmp (r_ne (h64 hr)) (dv 5) (d_int) (nomark _)) (da_nil))))) (ds_one (ds_set (i := 2) nd rfl (by first | exact Or.inl rfl | exact Or.inr rfl) (d_op r_sub (dv 2) (d_callTy c_intB rfl T.n_int boot_int (da_cons (d_cmp (r_ne (h64 hr)) (dv 5) (d_int) (nomark _)) (da_nil)))))))) (ds_nil)))))) (ds_one (ds_ret (d_callTy c_tup rfl T.n_tuple boot_tuple (da_cons (dv 3) (da_nil))))))
abbrev s__law_moments : Stmt := top 40
abbrev N__law_moments : List Str := ["_law_one", "_law_other", "_law_lining_here", "_law_firsts", "_law_seconds", "_law_moment", "_law_rank"]
theorem sc__law_moments : FnScope N__law_moments ["_law_one", "_law_other", "_law_lining_here"] (defScope s__law_moments) := ⟨rfl, rfl, rfl, by decide +kernel, rfl, by decide +kernel, by decide +kernel⟩
def d__law_moments (K : PySem.W.Frag) (Ed : DEnv → Exc → Prop) : TSD := sSeq (sNew 3 (fLst (dNil))) (sSeq (sNew 4 (fLst (dNil))) (sSeq (sFor (idRng1 (dCons (dCB bLen (dCons (dVar 2) (dNil))) (dNil))) (gdName 5) (sSeq (sIf (dTest (dOp (fIn false) (dOp fIx (dVar 2) (dVar 5)) (dTup (dCons (dC (.int 0)) (dCons (dC (.int 2)) (dNil)))))) (sApp 3 (dVar 5)) (sNext)) (sIf (dTest (dOp (fIn false) (dOp fIx (dVar 2) (dVar 5)) (dTup (dCons (dC (.int 1)) (dCons (dC (.int 2)) (dNil)))))) (sApp 4 (dVar 5)) (sNext)))) (sRet (dTup (dCons (dF (fLc (idVar 0) (gdName 6) (dYes) (dOp fIx (dVar 3) (dVar 6)) (([("_law_rank", 6)] : List (Str × Nat)).map (·.2)))) (dCons (dF (fLc (idVar 1) (gdName 6) (dYes) (dOp fIx (dVar 4) (dVar 6)) (([("_law_rank", 6)] : List (Str × Nat)).map (·.2)))) (dNil)))))))
theorem pd__law_moments {P : Program} {w : World} {K : PySem.W.Frag} {mg : Str → Option Value} {base : Heap} {I : HI} {fa : Addr} {cdv : Value} {A : Around} {outer : List Env} {s : Shared} {H : Hp} {E : XK} {Ed : Exc → Prop} (T : Tf K mg) 
    (hr : Room 1 (A.deeper (envOfC "_law_moments" (defScope s__law_moments) s.heap.objs.size fa cdv))) (tk : Takes (cxD P w K mg base N__law_moments "_law_moments" (defScope s__law_moments) fa cdv A outer s H E) (gOf I Ed E).W) :
    PSsD (cxD P w K mg base N__law_moments "_law_moments" (defScope s__law_moments) fa cdv A outer s H E) (gOf I Ed E) (defBody s__law_moments) (d__law_moments K (gOf I Ed E).Ed) :=
  have nd := sc__law_moments.nd; ds_cons (ds_new (i := 3) nd rfl (by first | exact Or.inl rfl | exact Or.inr rfl) (f_lst (da_nil))) (ds_cons (ds_new (i := 4) nd rfl (by first | exact Or.inl rfl | exact Or.inr rfl) (f_lst (da_nil))) (ds_cons (ds_for (passes_of rfl) rfl (di_range1 rfl T.n_range (da_cons (d_callB c_len rfl T.n_len PySem.boot_len (da_cons (dv 2) (da_nil))) (da_nil))) (dg_name (i := 5) nd rfl (by first | exact Or.inl rfl | exact Or.inr rfl)) (ds_cons (ds_if (dt_cmp (r_in (h65 hr)) (d_ix (dv 2) (dv 5)) (d_tup (da_cons (d_int) (da_cons (d_int) (da_nil)))) (by with_unfolding_all rfl)) (ds_one (ds_app (i := 3) rfl (by first | exact Or.inl rfl | exact Or.inr (Or.inl rfl)) (dv 5))) (ds_nil)) (ds_one (ds_if (dt_cmp (r_in (h65 hr)) (d_ix (dv 2) (dv 5)) (d_tup (da_cons (d_int) (da_cons (d_int) (da_nil)))) (by with_unfolding_all rfl)) (ds_one (ds_app (i := 4) rfl (by first | exact Or.inl rfl | exact Or.inr (Or.inl rfl)) (dv 5))) (ds_nil))))) (ds_one (ds_ret (d_tup (da_cons (pf_e (f_lc rfl nd (di_var 0) (blkOk_by (own := [("_law_rank", 6)]) (N := N__law_moments) (sc := defScope s__law_moments) (by decide +kernel)) (fun _ _ _ _ _ => pg_name (i := 6) nd rfl (by first | exact Or.inl rfl | exact Or.inr rfl)) sg_name (gw_name (by decide)) bt_nil (be_of (fun _ _ _ _ _ => d_ix (dv 3) (dv 6))))) (da_cons (pf_e (f_lc rfl nd (di_var 1) (blkOk_by (own := [("_law_rank", 6)]) (N := N__law_moments) (sc := defScope s__law_moments) (by decide +kernel)) (fun _ _ _ _ _ => pg_name (i := 6) nd rfl (by first | exact Or.inl rfl | exact Or.inr rfl)) sg_name (gw_name (by decide)) bt_nil (be_of (fun _ _ _ _ _ => d_ix (dv 4) (dv 6))))) (da_nil))))))))
abbrev s__law_key : Stmt := top 41
abbrev N__law_key : List Str := ["_law_deed", "_law_a", "_law_b"]
theorem sc__law_key : FnScope N__law_key ["_law_deed", "_law_a", "_law_b"] (defScope s__law_key) := ⟨rfl, rfl, rfl, by decide +kernel, rfl, by decide +kernel, by decide +kernel⟩
def d__law_key (K : PySem.W.Frag) (Ed : DEnv → Exc → Prop) : TSD := sSeq (sIf (dTest (dOp (fEq false) (dVar 1) (dVar 2))) (sRet (dOp fAdd (dOp fMul (dC (.int 3)) (dVar 1)) (dCB bIntB (dCons (dOp (fEq false) (dVar 0) (dC (.str "odd"))) (dNil))))) (sNext)) (sSeq (sIf (dTest (dOp (fEq false) (dVar 0) (dC (.str "common")))) (sRet (dIf (dTest (dOp fLt (dVar 2) (dVar 1))) (dOp fAdd (dOp fMul (dC (.int 3)) (dVar 2)) (dC (.int 1))) (dOp fAdd (dOp fMul (dC (.int 3)) (dVar 1)) (dC (.int 2))))) (sNext)) (sRet (dOp fMul (dC (.int 3)) (dCB bMin2 (dCons (dVar 1) (dCons (dVar 2) (dNil)))))))
theorem pd__law_key {P : Program} {w : World} {K : PySem.W.Frag} {mg : Str → Option Value} {base : Heap} {I : HI} {fa : Addr} {cdv : Value} {A : Around} {outer : List Env} {s : Shared} {H : Hp} {E : XK} {Ed : Exc → Prop} (T : Tf K mg) 
    (hr : Room 1 (A.deeper (envOfC "_law_key" (defScope s__law_key) s.heap.objs.size fa cdv))) (tk : Takes (cxD P w K mg base N__law_key "_law_key" (defScope s__law_key) fa cdv A outer s H E) (gOf I Ed E).W) :
    PSsD (cxD P w K mg base N__law_key "_law_key" (defScope s__law_key) fa cdv A outer s H E) (gOf I Ed E) (defBody s__law_key) (d__law_key K (gOf I Ed E).Ed) :=
  have nd := sc__law_key.nd; ds_cons (ds_if (dt_cmp (r_eq (h64 hr)) (dv 1) (dv 2) (nomark _)) (ds_one (ds_ret (d_op r_add (d_op r_mul (d_int) (dv 1)) (d_callTy c_intB rfl T.n_int boot_int (da_cons (d_cmp (r_eq (h64 hr)) (dv 0) (d_str) (nomark _)) (da_nil)))))) (ds_nil)) (ds_cons (ds_if (dt_cmp (r_eq (h64 hr)) (dv 0) (d_str) (nomark _)) (ds_one (ds_ret (d_ifExp (dt_cmp (r_lt hr.units0) (dv 2) (dv 1) (nomark _)) (d_op r_add (d_op r_mul (d_int) (dv 2)) (d_int)) (d_op r_add (d_op r_mul (d_int) (dv 1)) (d_int))))) (ds_nil)) (ds_one (ds_ret (d_op r_mul (d_int) (d_callB (c_min2 rfl) rfl T.n_min boot_min (da_cons (dv 1) (da_cons (dv 2) (da_nil))))))))
abbrev s__law_made : Stmt := top 42
abbrev N__law_made : List Str := ["_law_deed", "_law_one", "_law_other", "_law_lining_here", "_law_firsts", "_law_seconds", "_law_k"]
theorem sc__law_made : FnScope N__law_made ["_law_deed", "_law_one", "_law_other", "_law_lining_here"] (defScope s__law_made) := ⟨rfl, rfl, rfl, by decide +kernel, rfl, by decide +kernel, by decide +kernel⟩
def d__law_made (K : PySem.W.Frag) (Ed : DEnv → Exc → Prop) : TSD := sSeq (sAsgG (dCall ((C__law_moments K)) [] Ed (dCons (dVar 1) (dCons (dVar 2) (dCons (dVar 3) (dNil))))) (gdTup [4, 5])) (sRet (dCall ((C__law_ranks K)) [] Ed (dCons (dF (fLc (idRng1 (dCons (dCB bLen (dCons (dVar 1) (dNil))) (dNil))) (gdName 6) (dYes) (dCall ((C__law_key K)) [] (fun _ _ => False) (dCons (dVar 0) (dCons (dOp fIx (dVar 4) (dVar 6)) (dCons (dOp fIx (dVar 5) (dVar 6)) (dNil))))) (([("_law_k", 6)] : List (Str × Nat)).map (·.2)))) (dNil))))
theorem pd__law_made {P : Program} {w : World} {K : PySem.W.Frag} {mg : Str → Option Value} {base : Heap} {I : HI} {fa : Addr} {cdv : Value} {A : Around} {outer : List Env} {s : Shared} {H : Hp} {E : XK} {Ed : Exc → Prop} (T : Tf K mg) (c__law_key : Cl P w K mg base I 2 "_law_key" 3 (C__law_key K) []) (c__law_moments : Cl P w K mg base I 2 "_law_moments" 3 (C__law_moments K) []) (c__law_ranks : Cl P w K mg base I 2 "_law_ranks" 1 (C__law_ranks K) [])
    (hr : Room 2 (A.deeper (envOfC "_law_made" (defScope s__law_made) s.heap.objs.size fa cdv))) (tk : Takes (cxD P w K mg base N__law_made "_law_made" (defScope s__law_made) fa cdv A outer s H E) (gOf I Ed E).W) :
    PSsD (cxD P w K mg base N__law_made "_law_made" (defScope s__law_made) fa cdv A outer s H E) (gOf I Ed E) (defBody s__law_made) (d__law_made K (gOf I Ed E).Ed) :=
  have nd := sc__law_made.nd; ds_cons (ds_asgG (d_callC c__law_moments (ar__law_moments _) hr (by decide) rfl tk (da_cons (dv 1) (da_cons (dv 2) (da_cons (dv 3) (da_nil))))) (dg_tup (is := [4, 5]) rfl (pgs_cons (pg_name (i := 4) nd rfl (by first | exact Or.inl rfl | exact Or.inr rfl)) (pgs_cons (pg_name (i := 5) nd rfl (by first | exact Or.inl rfl | exact Or.inr rfl)) (pgs_nil))))) (ds_one (ds_ret (d_callC c__law_ranks (ar__law_ranks _) hr (by decide) rfl tk (da_cons (pf_e (f_lc rfl nd (di_range1 rfl T.n_range (da_cons (d_callB c_len rfl T.n_len PySem.boot_len (da_cons (dv 1) (da_nil))) (da_nil))) (blkOk_by (own := [("_law_k", 6)]) (N := N__law_made) (sc := defScope s__law_made) (by decide +kernel)) (fun _ _ _ _ _ => pg_name (i := 6) nd rfl (by first | exact Or.inl rfl | exact Or.inr rfl)) sg_name (gw_name (by decide)) bt_nil (be_of (fun _ _ _ _ _ => d_callC c__law_key (ar__law_key _) hr (by decide) rfl takes0 (da_cons (dv 0) (da_cons (d_ix (dv 4) (dv 6)) (da_cons (d_ix (dv 5) (dv 6)) (da_nil)))))))) (da_nil)))))
abbrev s__law_some_places : Stmt := top 44
abbrev N__law_some_places : List Str := ["_law_hand_here", "_law_many", "_law_rest", "_law_found", "_law_k"]
theorem sc__law_some_places : FnScope N__law_some_places ["_law_hand_here", "_law_many"] (defScope s__law_some_places) := ⟨rfl, rfl, rfl, by decide +kernel, rfl, by decide +kernel, by decide +kernel⟩
def d__law_some_places (K : PySem.W.Frag) (hd : Addr) (Ed : DEnv → Exc → Prop) : TSD := sSeq (sNew 2 (fRg1 (dVar 1))) (sSeq (sNew 3 (fLst (dNil))) (sSeq (sFor (idRng1 (dCons (dCall ((C__law_take hd)) [] Ed (dCons (dVar 0) (dCons (dOp fAdd (dVar 1) (dC (.int 1))) (dNil)))) (dNil))) (gdName 4) (sAppPop 3 2 (dCall ((C__law_take hd)) [] Ed (dCons (dVar 0) (dCons (dCB bLen (dCons (dVar 2) (dNil))) (dNil)))))) (sRet (dVar 3))))
theorem pd__law_some_places {P : Program} {w : World} {K : PySem.W.Frag} {mg : Str → Option Value} {base : Heap} {I : HI} {fa : Addr} {hd : Addr} {cdv : Value} {A : Around} {outer : List Env} {s : Shared} {H : Hp} {E : XK} {Ed : Exc → Prop} (T : Tf K mg) (c__law_take : Cl P w K mg base I 3 "_law_take" 2 (C__law_take hd) [])
    (hr : Room 3 (A.deeper (envOfC "_law_some_places" (defScope s__law_some_places) s.heap.objs.size fa cdv))) (tk : Takes (cxD P w K mg base N__law_some_places "_law_some_places" (defScope s__law_some_places) fa cdv A outer s H E) (gOf I Ed E).W) :
    PSsD (cxD P w K mg base N__law_some_places "_law_some_places" (defScope s__law_some_places) fa cdv A outer s H E) (gOf I Ed E) (defBody s__law_some_places) (d__law_some_places K hd (gOf I Ed E).Ed) :=
  have nd := sc__law_some_places.nd; ds_cons (ds_new (i := 2) nd rfl (by first | exact Or.inl rfl | exact Or.inr rfl) (f_listRg1 rfl rfl T.n_list rfl T.n_range (dv 1))) (ds_cons (ds_new (i := 3) nd rfl (by first | exact Or.inl rfl | exact Or.inr rfl) (f_lst (da_nil))) (ds_cons (ds_for (passes_of rfl) rfl (di_range1 rfl T.n_range (da_cons (d_callC c__law_take (ar__law_take _) hr (by decide) rfl tk (da_cons (dv 0) (da_cons (d_op r_add (dv 1) (d_int)) (da_nil)))) (da_nil))) (dg_name (i := 4) nd rfl (by first | exact Or.inl rfl | exact Or.inr rfl)) (ds_one (ds_appPop (i := 3) (j := 2) rfl (by first | exact Or.inl rfl | exact Or.inr (Or.inl rfl)) rfl (by first | exact Or.inl rfl | exact Or.inr (Or.inl rfl)) (d_callC c__law_take (ar__law_take _) hr (by decide) rfl tk (da_cons (dv 0) (da_cons (d_callB c_len rfl T.n_len PySem.boot_len (da_cons (dv 2) (da_nil))) (da_nil))))))) (ds_one (ds_ret (dv 3)))))
abbrev s__law_exchanged : Stmt := top 45
abbrev N__law_exchanged : List Str := ["_law_lining_here", "_law_entry"]
theorem sc__law_exchanged : FnScope N__law_exchanged ["_law_lining_here"] (defScope s__law_exchanged) := ⟨rfl, rfl, rfl, by decide +kernel, rfl, by decide +kernel, by decide +kernel⟩
def d__law_exchanged (K : PySem.W.Frag) (Ed : DEnv → Exc → Prop) : TSD := sRet (dCB bTup (dCons (dF (fLc (idVar 0) (gdName 1) (dYes) (dIf (dTest (dOp (fEq false) (dVar 1) (dC (.int 2)))) (dC (.int 2)) (dOp fSub (dC (.int 1)) (dVar 1))) (([("_law_entry", 1)] : List (Str × Nat)).map (·.2)))) (dNil)))
theorem pd__law_exchanged {P : Program} {w : World} {K : PySem.W.Frag} {mg : Str → Option Value} {base : Heap} {I : HI} {fa : Addr} {cdv : Value} {A : Around} {outer : List Env} {s : Shared} {H : Hp} {E : XK} {Ed : Exc → Prop} (T : Tf K mg) 
    (hr : Room 1 (A.deeper (envOfC "_law_exchanged" (defScope s__law_exchanged) s.heap.objs.size fa cdv))) (tk : Takes (cxD P w K mg base N__law_exchanged "_law_exchanged" (defScope s__law_exchanged) fa cdv A outer s H E) (gOf I Ed E).W) :
    PSsD (cxD P w K mg base N__law_exchanged "_law_exchanged" (defScope s__law_exchanged) fa cdv A outer s H E) (gOf I Ed E) (defBody s__law_exchanged) (d__law_exchanged K (gOf I Ed E).Ed) :=
  have nd := sc__law_exchanged.nd; ds_one (ds_ret (d_callTy c_tup rfl T.n_tuple boot_tuple (da_cons (pf_e (f_lc rfl nd (di_var 0) (blkOk_by (own := [("_law_entry", 1)]) (N := N__law_exchanged) (sc := defScope s__law_exchanged) (by decide +kernel)) (fun _ _ _ _ _ => pg_name (i := 1) nd rfl (by first | exact Or.inl rfl | exact Or.inr rfl)) sg_name (gw_name (by decide)) bt_nil (be_of (fun _ _ _ _ _ => d_ifExp (dt_cmp (r_eq (h64 hr)) (dv 1) (d_int) (nomark _)) (d_int) (d_op r_sub (d_int) (dv 1)))))) (da_nil))))
abbrev s__law_deed_right : Stmt := top 46
abbrev N__law_deed_right : List Str := ["_law_deed", "_law_one", "_law_other", "_law_lining_here", "_law_due", "_law_given", "_law_told", "_law_back"]
theorem sc__law_deed_right : FnScope N__law_deed_right ["_law_deed", "_law_one", "_law_other", "_law_lining_here", "_law_due"] (defScope s__law_deed_right) := ⟨rfl, rfl, rfl, by decide +kernel, rfl, by decide +kernel, by decide +kernel⟩
def d__law_deed_right (K : PySem.W.Frag) (Ed : DEnv → Exc → Prop) : TSD := sSeq (sAsg 5 (dLst (dCons (dCB bLst (dCons (dVar 1) (dNil))) (dCons (dCB bLst (dCons (dVar 2) (dNil))) (dCons (dCB bLst (dCons (dVar 3) (dNil))) (dNil)))))) (sSeq (sAsg 6 (dCall ((C_made_by K)) [] Ed (dCons (dVar 0) (dCons (dOp fIx (dVar 5) (dC (.int 0))) (dCons (dOp fIx (dVar 5) (dC (.int 1))) (dCons (dOp fIx (dVar 5) (dC (.int 2))) (dNil))))))) (sSeq (sIf (dOr (dTest (dOp (fEq true) (dVar 6) (dVar 4))) (dOr (dNot (dB (dCall ((C__law_is_row K)) [] Ed (dCons (dVar 6) (dNil))))) (dTest (dOp (fEq true) (dVar 5) (dLst (dCons (dCB bLst (dCons (dVar 1) (dNil))) (dCons (dCB bLst (dCons (dVar 2) (dNil))) (dCons (dCB bLst (dCons (dVar 3) (dNil))) (dNil))))))))) (sRet (dC (.bl false))) (sNext)) (sSeq (sAsg 7 (dCall ((C__law_exchanged K)) [] Ed (dCons (dVar 3) (dNil)))) (sSeq (sIf (dTest (dOp (fEq true) (dCall ((C_made_by K)) [] Ed (dCons (dVar 0) (dCons (dVar 2) (dCons (dVar 1) (dCons (dVar 7) (dNil)))))) (dCall ((C__law_made K)) [] Ed (dCons (dVar 0) (dCons (dVar 2) (dCons (dVar 1) (dCons (dVar 7) (dNil)))))))) (sRet (dC (.bl false))) (sNext)) (sRet (dOrV (dOp (fEq false) (dVar 0) (dC (.str "common"))) (dOp (fEq false) (dCall ((C_made_by K)) [] Ed (dCons (dVar 0) (dCons (dVar 2) (dCons (dVar 1) (dCons (dVar 7) (dNil)))))) (dVar 4))))))))
theorem pd__law_deed_right {P : Program} {w : World} {K : PySem.W.Frag} {mg : Str → Option Value} {base : Heap} {I : HI} {fa : Addr} {cdv : Value} {A : Around} {outer : List Env} {s : Shared} {H : Hp} {E : XK} {Ed : Exc → Prop} (T : Tf K mg) (c__law_exchanged : Cl P w K mg base I 2 "_law_exchanged" 1 (C__law_exchanged K) []) (c__law_is_row : Cl P w K mg base I 3 "_law_is_row" 1 (C__law_is_row K) []) (c__law_made : Cl P w K mg base I 3 "_law_made" 4 (C__law_made K) []) (c_made_by : Cl P w K mg base I 6 "made_by" 4 (C_made_by K) [])
    (hr : Room 6 (A.deeper (envOfC "_law_deed_right" (defScope s__law_deed_right) s.heap.objs.size fa cdv))) (tk : Takes (cxD P w K mg base N__law_deed_right "_law_deed_right" (defScope s__law_deed_right) fa cdv A outer s H E) (gOf I Ed E).W) :
    PSsD (cxD P w K mg base N__law_deed_right "_law_deed_right" (defScope s__law_deed_right) fa cdv A outer s H E) (gOf I Ed E) (defBody s__law_deed_right) (d__law_deed_right K (gOf I Ed E).Ed) :=
  have nd := sc__law_deed_right.nd; ds_cons (ds_set (i := 5) nd rfl (by first | exact Or.inl rfl | exact Or.inr rfl) (d_lst (da_cons (d_callTy c_lst rfl T.n_list boot_list (da_cons (dv 1) (da_nil))) (da_cons (d_callTy c_lst rfl T.n_list boot_list (da_cons (dv 2) (da_nil))) (da_cons (d_callTy c_lst rfl T.n_list boot_list (da_cons (dv 3) (da_nil))) (da_nil)))))) (ds_cons (ds_set (i := 6) nd rfl (by first | exact Or.inl rfl | exact Or.inr rfl) (d_callC c_made_by (ar_made_by _) hr (by decide) rfl tk (da_cons (dv 0) (da_cons (d_ix (dv 5) (d_int)) (da_cons (d_ix (dv 5) (d_int)) (da_cons (d_ix (dv 5) (d_int)) (da_nil))))))) (ds_cons (ds_if (PWD.pt (dt_or (dt_cmp (r_ne (h64 hr)) (dv 6) (dv 4) (nomark _)) (dt_or (dt_not (dt_val (d_callC c__law_is_row (ar__law_is_row _) hr (by decide) rfl tk (da_cons (dv 6) (da_nil))))) (dt_or1 (dt_cmp (r_ne (h64 hr)) (dv 5) (d_lst (da_cons (d_callTy c_lst rfl T.n_list boot_list (da_cons (dv 1) (da_nil))) (da_cons (d_callTy c_lst rfl T.n_list boot_list (da_cons (dv 2) (da_nil))) (da_cons (d_callTy c_lst rfl T.n_list boot_list (da_cons (dv 3) (da_nil))) (da_nil))))) (nomark _)))))) (ds_one (ds_ret (d_bl))) (ds_nil)) (ds_cons (ds_set (i := 7) nd rfl (by first | exact Or.inl rfl | exact Or.inr rfl) (d_callC c__law_exchanged (ar__law_exchanged _) hr (by decide) rfl tk (da_cons (dv 3) (da_nil)))) (ds_cons (ds_if (dt_cmp (r_ne (h64 hr)) (d_callC c_made_by (ar_made_by _) hr (by decide) rfl tk (da_cons (dv 0) (da_cons (dv 2) (da_cons (dv 1) (da_cons (dv 7) (da_nil)))))) (d_callC c__law_made (ar__law_made _) hr (by decide) rfl tk (da_cons (dv 0) (da_cons (dv 2) (da_cons (dv 1) (da_cons (dv 7) (da_nil)))))) (nomark _)) (ds_one (ds_ret (d_bl))) (ds_nil)) (ds_one (ds_ret (d_or (d_cmp (r_eq (h64 hr)) (dv 0) (d_str) (nomark _)) (d_one (d_cmp (r_eq (h64 hr)) (d_callC c_made_by (ar_made_by _) hr (by decide) rfl tk (da_cons (dv 0) (da_cons (dv 2) (da_cons (dv 1) (da_cons (dv 7) (da_nil)))))) (dv 4) (nomark _))))))))))
abbrev s__law_cut_right : Stmt := top 47
abbrev N__law_cut_right : List Str := ["_law_deed", "_law_one", "_law_other", "_law_lining_here", "_law_places", "_law_marks", "_law_kept", "_law_also", "_law_due", "_law_told", "_law_whole_here", "_law_first", "_law_second", "_law_firsts", "_law_seconds", "_law_place", "_law_mark"]
theorem sc__law_cut_right : FnScope N__law_cut_right ["_law_deed", "_law_one", "_law_other", "_law_lining_here", "_law_places"] (defScope s__law_cut_right) := ⟨rfl, rfl, rfl, by decide +kernel, rfl, by decide +kernel, by decide +kernel⟩
def d__law_cut_right (K : PySem.W.Frag) (Ed : DEnv → Exc → Prop) : TSD := sSeq (sAsgG (dCall ((C__law_moments K)) [] Ed (dCons (dVar 1) (dCons (dVar 2) (dCons (dVar 3) (dNil))))) (gdTup [13, 14])) (sSeq (sAsg 5 (dSortI (zSetI (dCons (dOp fAdd (dF (fLc (idVar 4) (gdName 15) (dYes) (dOp fIx (dVar 13) (dVar 15)) (([("_law_place", 15)] : List (Str × Nat)).map (·.2)))) (dF (fLc (idVar 4) (gdName 15) (dYes) (dOp fIx (dVar 14) (dVar 15)) (([("_law_place", 15)] : List (Str × Nat)).map (·.2))))) (dNil))))) (sSeq (sAsg 6 (dF (fLc (idVar 4) (gdName 15) (dYes) (dOp fIx (dVar 13) (dVar 15)) (([("_law_place", 15)] : List (Str × Nat)).map (·.2))))) (sSeq (sAsg 7 (dF (fLc (idVar 4) (gdName 15) (dYes) (dOp fIx (dVar 14) (dVar 15)) (([("_law_place", 15)] : List (Str × Nat)).map (·.2))))) (sSeq (sAsg 8 (dCB bTup (dCons (dF (fLc (idVar 5) (gdName 16) (dYes) (dIf (dAnd (dTest (dOp (fIn false) (dVar 16) (dVar 6))) (dTest (dOp (fIn false) (dVar 16) (dVar 7)))) (dC (.int 2)) (dCB bIntB (dCons (dOp (fIn false) (dVar 16) (dVar 7)) (dNil)))) (([("_law_mark", 16)] : List (Str × Nat)).map (·.2)))) (dNil)))) (sSeq (sAsg 9 (dCall ((C_cut_lining K)) [] Ed (dCons (dVar 1) (dCons (dCB bLst (dCons (dVar 2) (dNil))) (dCons (dVar 3) (dCons (dVar 4) (dNil))))))) (sSeq (sIf (dOr (dTest (dOp (fEq true) (dVar 9) (dVar 8))) (dNot (dB (dCall ((C__law_is_row K)) [] Ed (dCons (dVar 9) (dNil)))))) (sRet (dC (.bl false))) (sNext)) (sSeq (sAsg 10 (dCall ((C__law_made K)) [] Ed (dCons (dVar 0) (dCons (dVar 1) (dCons (dVar 2) (dCons (dVar 3) (dNil))))))) (sSeq (sAsg 11 (dCall ((C__law_ranks K)) [] Ed (dCons (dF (fLc (idVar 4) (gdName 15) (dYes) (dOp fIx (dVar 1) (dVar 15)) (([("_law_place", 15)] : List (Str × Nat)).map (·.2)))) (dNil)))) (sSeq (sAsg 12 (dCall ((C__law_ranks K)) [] Ed (dCons (dF (fLc (idVar 4) (gdName 15) (dYes) (dOp fIx (dVar 2) (dVar 15)) (([("_law_place", 15)] : List (Str × Nat)).map (·.2)))) (dNil)))) (sRet (dOp (fEq false) (dCall ((C_made_by K)) [] Ed (dCons (dVar 0) (dCons (dVar 11) (dCons (dVar 12) (dCons (dVar 9) (dNil)))))) (dCall ((C__law_ranks K)) [] Ed (dCons (dF (fLc (idVar 4) (gdName 15) (dYes) (dOp fIx (dVar 10) (dVar 15)) (([("_law_place", 15)] : List (Str × Nat)).map (·.2)))) (dNil))))))))))))))
theorem pd__law_cut_right {P : Program} {w : World} {K : PySem.W.Frag} {mg : Str → Option Value} {base : Heap} {I : HI} {fa : Addr} {cdv : Value} {A : Around} {outer : List Env} {s : Shared} {H : Hp} {E : XK} {Ed : Exc → Prop} (T : Tf K mg) (c__law_is_row : Cl P w K mg base I 3 "_law_is_row" 1 (C__law_is_row K) []) (c__law_made : Cl P w K mg base I 3 "_law_made" 4 (C__law_made K) []) (c__law_moments : Cl P w K mg base I 2 "_law_moments" 3 (C__law_moments K) []) (c__law_ranks : Cl P w K mg base I 2 "_law_ranks" 1 (C__law_ranks K) []) (c_cut_lining : Cl P w K mg base I 7 "cut_lining" 4 (C_cut_lining K) []) (c_made_by : Cl P w K mg base I 6 "made_by" 4 (C_made_by K) [])
    (hr : Room 7 (A.deeper (envOfC "_law_cut_right" (defScope s__law_cut_right) s.heap.objs.size fa cdv))) (tk : Takes (cxD P w K mg base N__law_cut_right "_law_cut_right" (defScope s__law_cut_right) fa cdv A outer s H E) (gOf I Ed E).W) :
    PSsD (cxD P w K mg base N__law_cut_right "_law_cut_right" (defScope s__law_cut_right) fa cdv A outer s H E) (gOf I Ed E) (defBody s__law_cut_right) (d__law_cut_right K (gOf I Ed E).Ed) :=
  have nd := sc__law_cut_right.nd; ds_cons (ds_asgG (d_callC c__law_moments (ar__law_moments _) hr (by decide) rfl tk (da_cons (dv 1) (da_cons (dv 2) (da_cons (dv 3) (da_nil))))) (dg_tup (is := [13, 14]) rfl (pgs_cons (pg_name (i := 13) nd rfl (by first | exact Or.inl rfl | exact Or.inr rfl)) (pgs_cons (pg_name (i := 14) nd rfl (by first | exact Or.inl rfl | exact Or.inr rfl)) (pgs_nil))))) (ds_cons (ds_set (i := 5) nd rfl (by first | exact Or.inl rfl | exact Or.inr rfl) (d_sortI rfl rfl T.n_sorted (z_setI rfl rfl T.n_set (da_cons (d_op r_add (pf_e (f_lc rfl nd (di_var 4) (blkOk_by (own := [("_law_place", 15)]) (N := N__law_cut_right) (sc := defScope s__law_cut_right) (by decide +kernel)) (fun _ _ _ _ _ => pg_name (i := 15) nd rfl (by first | exact Or.inl rfl | exact Or.inr rfl)) sg_name (gw_name (by decide)) bt_nil (be_of (fun _ _ _ _ _ => d_ix (dv 13) (dv 15))))) (pf_e (f_lc rfl nd (di_var 4) (blkOk_by (own := [("_law_place", 15)]) (N := N__law_cut_right) (sc := defScope s__law_cut_right) (by decide +kernel)) (fun _ _ _ _ _ => pg_name (i := 15) nd rfl (by first | exact Or.inl rfl | exact Or.inr rfl)) sg_name (gw_name (by decide)) bt_nil (be_of (fun _ _ _ _ _ => d_ix (dv 14) (dv 15)))))) (da_nil))))) (ds_cons (ds_set (i := 6) nd rfl (by first | exact Or.inl rfl | exact Or.inr rfl) (pf_e (f_lc rfl nd (di_var 4) (blkOk_by (own := [("_law_place", 15)]) (N := N__law_cut_right) (sc := defScope s__law_cut_right) (by decide +kernel)) (fun _ _ _ _ _ => pg_name (i := 15) nd rfl (by first | exact Or.inl rfl | exact Or.inr rfl)) sg_name (gw_name (by decide)) bt_nil (be_of (fun _ _ _ _ _ => d_ix (dv 13) (dv 15)))))) (ds_cons (ds_set (i := 7) nd rfl (by first | exact Or.inl rfl | exact Or.inr rfl) (pf_e (f_lc rfl nd (di_var 4) (blkOk_by (own := [("_law_place", 15)]) (N := N__law_cut_right) (sc := defScope s__law_cut_right) (by decide +kernel)) (fun _ _ _ _ _ => pg_name (i := 15) nd rfl (by first | exact Or.inl rfl | exact Or.inr rfl)) sg_name (gw_name (by decide)) bt_nil (be_of (fun _ _ _ _ _ => d_ix (dv 14) (dv 15)))))) (ds_cons (ds_set (i := 8) nd rfl (by first | exact Or.inl rfl | exact Or.inr rfl) (d_callTy c_tup rfl T.n_tuple boot_tuple (da_cons (pf_e (f_lc rfl nd (di_var 5) (blkOk_by (own := [("_law_mark", 16)]) (N := N__law_cut_right) (sc := defScope s__law_cut_right) (by decide +kernel)) (fun _ _ _ _ _ => pg_name (i := 16) nd rfl (by first | exact Or.inl rfl | exact Or.inr rfl)) sg_name (gw_name (by decide)) bt_nil (be_of (fun _ _ _ _ _ => d_ifExp (PWD.pt (dt_and (dt_cmp (r_in (h65 hr)) (dv 16) (dv 6) (by with_unfolding_all rfl)) (dt_and1 (dt_cmp (r_in (h65 hr)) (dv 16) (dv 7) (by with_unfolding_all rfl))))) (d_int) (d_callTy c_intB rfl T.n_int boot_int (da_cons (d_cmp (r_in (h65 hr)) (dv 16) (dv 7) (by with_unfolding_all rfl)) (da_nil))))))) (da_nil)))) (ds_cons (ds_set (i := 9) nd rfl (by first | exact Or.inl rfl | exact Or.inr rfl) (d_callC c_cut_lining (ar_cut_lining _) hr (by decide) rfl tk (da_cons (dv 1) (da_cons (d_callTy c_lst rfl T.n_list boot_list (da_cons (dv 2) (da_nil))) (da_cons (dv 3) (da_cons (dv 4) (da_nil))))))) (ds_cons (ds_if (PWD.pt (dt_or (dt_cmp (r_ne (h64 hr)) (dv 9) (dv 8) (nomark _)) (dt_or1 (dt_not (dt_val (d_callC c__law_is_row (ar__law_is_row _) hr (by decide) rfl tk (da_cons (dv 9) (da_nil)))))))) (ds_one (ds_ret (d_bl))) (ds_nil)) (ds_cons (ds_set (i := 10) nd rfl (by first | exact Or.inl rfl | exact Or.inr rfl) (d_callC c__law_made (ar__law_made _) hr (by decide) rfl tk (da_cons (dv 0) (da_cons (dv 1) (da_cons (dv 2) (da_cons (dv 3) (da_nil))))))) (ds_cons (ds_set (i := 11) nd rfl (by first | exact Or.inl rfl | exact Or.inr rfl) (d_callC c__law_ranks (ar__law_ranks _) hr (by decide) rfl tk (da_cons (pf_e (f_lc rfl nd (di_var 4) (blkOk_by (own := [("_law_place", 15)]) (N := N__law_cut_right) (sc := defScope s__law_cut_right) (by decide +kernel)) (fun _ _ _ _ _ => pg_name (i := 15) nd rfl (by first | exact Or.inl rfl | exact Or.inr rfl)) sg_name (gw_name (by decide)) bt_nil (be_of (fun _ _ _ _ _ => d_ix (dv 1) (dv 15))))) (da_nil)))) (ds_cons (ds_set (i := 12) nd rfl (by first | exact Or.inl rfl | exact Or.inr rfl) (d_callC c__law_ranks (ar__law_ranks _) hr (by decide) rfl tk (da_cons (pf_e (f_lc rfl nd (di_var 4) (blkOk_by (own := [("_law_place", 15)]) (N := N__law_cut_right) (sc := defScope s__law_cut_right) (by decide +kernel)) (fun _ _ _ _ _ => pg_name (i := 15) nd rfl (by first | exact Or.inl rfl | exact Or.inr rfl)) sg_name (gw_name (by decide)) bt_nil (be_of (fun _ _ _ _ _ => d_ix (dv 2) (dv 15))))) (da_nil)))) (ds_one (ds_ret (d_cmp (r_eq (h64 hr)) (d_callC c_made_by (ar_made_by _) hr (by decide) rfl tk (da_cons (dv 0) (da_cons (dv 11) (da_cons (dv 12) (da_cons (dv 9) (da_nil)))))) (d_callC c__law_ranks (ar__law_ranks _) hr (by decide) rfl tk (da_cons (pf_e (f_lc rfl nd (di_var 4) (blkOk_by (own := [("_law_place", 15)]) (N := N__law_cut_right) (sc := defScope s__law_cut_right) (by decide +kernel)) (fun _ _ _ _ _ => pg_name (i := 15) nd rfl (by first | exact Or.inl rfl | exact Or.inr rfl)) sg_name (gw_name (by decide)) bt_nil (be_of (fun _ _ _ _ _ => d_ix (dv 10) (dv 15))))) (da_nil))) (nomark _)))))))))))))
end K09

namespace K09
open PySem PySem.Spec PyProof.Rows L2 Dl Zs
abbrev eK (Qd : D → Prop) : DEnds := ⟨fun _ => Qd .non, Qd, fun _ => False, fun _ => False⟩
theorem ct__law_many_ranks {K : PySem.W.Frag} {ds : List D} {Qd : D → Prop} {Ed : Exc → Prop} (h : C__law_many_ranks K ds Qd Ed) : d__law_many_ranks K (fun _ x => Ed x) (eK Qd) (startD N__law_many_ranks ds) := by
  obtain ⟨x, ns, rfl, hx, few, q⟩ := h
  refine ⟨_, _, rfl, rfl, x, rfl, ?_⟩
  rcases isSeqI_cases hx with rfl | rfl
  · exact ⟨ns, .inl rfl, by omega, q⟩
  · exact ⟨ns, .inl rfl, by omega, q⟩
theorem stdAsk_mono {K : PySem.W.Frag} {x pl : D} {Q Q' : List Int → Prop} {E : Exc → Prop} (h : stdAsk K x pl Q E) (k : ∀ ns, Std ns → isSeqI x ns → Q ns → Q' ns) : stdAsk K x pl Q' E := by
  obtain ⟨h1, h2, h⟩ := h
  refine ⟨h1, h2, ?_⟩
  cases hs : seqOf x with
  | none => rw [hs] at h; exact h
  | some xs =>
    rw [hs] at h
    dsimp only at h ⊢
    obtain ⟨hty, h⟩ := h
    refine ⟨hty, ?_⟩
    by_cases c1 : 7 < xs.length
    · rw [if_pos c1] at h ⊢; exact h
    · rw [if_neg c1] at h ⊢
      by_cases c2 : offLen pl xs.length = true
      · rw [if_pos c2] at h ⊢; exact h
      · rw [if_neg c2] at h ⊢
        cases hf : fstBad (fun _ d => !isWh d (.int 0) .non) [] xs with
        | some i => rw [hf] at h; exact h
        | none =>
          rw [hf] at h
          dsimp only at h ⊢
          obtain ⟨ns, e, h⟩ := h
          obtain ⟨ns', e', pos⟩ := ints_of_wh hf
          have en : ns = ns' := Ns.ints_inj (e.symm.trans e')
          subst en
          refine ⟨ns, e, ?_⟩
          by_cases c3 : ((canon ns).length : Int) = topI ns + 1
          · rw [if_pos c3] at h ⊢
            exact k ns ⟨pos, by rw [e, List.length_map] at c1; omega, c3⟩ (by rw [isSeqI, hs, e]) h
          · rw [if_neg c3] at h ⊢; exact h
theorem ct_ranks_number {K : PySem.W.Frag} {ds : List D} {Qd : D → Prop} {Ed : Exc → Prop} (h : C_ranks_number K ds Qd Ed) : d_ranks_number K (fun _ x => Ed x) (eK Qd) (startD N_ranks_number ds) := by
  obtain ⟨x, rfl, q⟩ := h
  refine ⟨_, _, rfl, rfl, x, .non, rfl, stdAsk_mono q fun ns std hs q => ?_⟩
  refine ⟨1, rfl, ns, .int (-1), .inr rfl, rfl, fun e => ?_, fun m t => ?_⟩
  · subst e; exact q
  · rw [topI_top std.pos t]; exact q
theorem ct_check_standing {K : PySem.W.Frag} {ds : List D} {Qd : D → Prop} {Ed : Exc → Prop} (h : C_check_standing K ds Qd Ed) : d_check_standing K (fun _ x => Ed x) (eK Qd) (startD N_check_standing ds) := by
  obtain ⟨x, pl, rfl, hx, ho, q⟩ := h
  obtain ⟨t, ht⟩ := Option.isSome_iff_exists.mp hx
  refine ⟨_, _, rfl, rfl, one_sz, _, _, rfl, t, ht, ⟨_, rfl, mem_lt, ⟨_, rfl, ?_⟩⟩⟩
  rw [isSeq_iff ht]
  cases hs : seqOf x with
  | none =>
    rw [hs] at q
    exact ⟨_, rfl, q⟩
  | some xs =>
    rw [hs] at q
    dsimp only at q
    obtain ⟨hty, q⟩ := q
    refine it_f rfl ⟨_, _, rfl, rfl, ?_⟩
    dsimp only [dNil]
    refine len_seq hs ⟨_, _, rfl, rfl, _, rfl, ?_⟩
    by_cases c1 : 7 < xs.length
    · rw [if_pos c1] at q
      exact it_t (decide_eq_true (by exact_mod_cast c1)) ⟨_, rfl, q⟩
    rw [if_neg c1] at q
    refine it_f (decide_eq_false (by intro z; exact c1 (by exact_mod_cast z))) ?_
    dsimp only [sNext]
    refine seqD (P := fun env => env = startD N_check_standing [x, pl] ∧ offLen pl xs.length = false) (fun env he => ?_) (fun hn => ?_)
    rotate_left
    · -- the length that is asked for
      refine ⟨_, _, rfl, rfl, ?_⟩
      cases pl <;> first | exact ho.elim | skip
      case non => exact ⟨_, rfl, hn _ ⟨rfl, rfl⟩⟩
      case int p =>
        refine ⟨_, rfl, ⟨_, _, rfl, rfl, ?_⟩⟩
        dsimp only [dNil]
        refine len_seq hs ⟨_, _, rfl, rfl, okI_int.ok, okI_int.ok, _, rfl, ?_⟩
        rw [eqD_int]
        by_cases c2 : (xs.length : Int) = p
        · exact it_f (by rw [decide_eq_true c2]; rfl) (hn _ ⟨rfl, decide_eq_false fun z => z c2⟩)
        · rw [if_pos (show offLen (.int p) xs.length = true from decide_eq_true c2)] at q
          exact it_t (by rw [decide_eq_false c2]; rfl) ⟨_, rfl, q⟩
    · obtain ⟨rfl, c2⟩ := he
      rw [if_neg (by rw [c2]; exact Bool.false_ne_true)] at q
      refine ⟨x, xs, rfl, hs, ?_⟩
      refine enum_loop (xs := xs) (fun _ d => !isWh d (.int 0) .non) (fun env => ∃ a b, env = [Slot.val x, Slot.val pl, a, b]) (fun pre d suf env nx e p hf hb => ?_) (fun pre d suf env nx e p hb k => ?_) (fun env hf p => ?_) xs [] _ rfl rfl ⟨_, _, rfl⟩
      · obtain ⟨a, b, rfl⟩ := p
        rw [hf] at q
        have hd := hty d (by rw [e]; simp)
        refine ⟨_, _, rfl, rfl, ⟨_, _, _, rfl, hd, trivial, trivial, _, rfl, ?_⟩⟩
        refine it_t hb ?_
        exact ⟨_, _, rfl, rfl, q⟩
      · obtain ⟨a, b, rfl⟩ := p
        have hd := hty d (by rw [e]; simp)
        refine ⟨_, _, rfl, rfl, ⟨_, _, _, rfl, hd, trivial, trivial, _, rfl, ?_⟩⟩
        refine it_f hb ?_
        exact k _ ⟨_, _, rfl⟩
      · obtain ⟨a, b, rfl⟩ := p
        rw [hf] at q
        dsimp only at q
        obtain ⟨ns, e, q⟩ := q
        obtain ⟨ns', e', pos⟩ := ints_of_wh hf
        have en : ns = ns' := Ns.ints_inj (e.symm.trans e')
        subst en
        have few : ns.length ≤ 7 := by rw [e, List.length_map] at c1; omega
        have sq : isSeqI x ns := by rw [isSeqI, hs, e]
        have xc : x = .lst (ns.map D.int) ∨ x = .tup (ns.map D.int) := (isSeqI_cases sq).symm
        have hx1 : [x] = [D.lst (ns.map D.int)] ∨ [x] = [D.tup (ns.map D.int)] := xc.imp (fun z => by rw [z]) fun z => by rw [z]
        refine ⟨_, _, rfl, rfl, ns, hx1, by omega, ?_⟩
        have fin : ∀ m : Int, m = topI ns → fAdd (.int m) (.int 1) (fun y => fEq true (.int ((canon ns).length : Nat)) y fun d => ∃ c, d = .bl c ∧ if c = true then sRaise (He.ga K "BadStanding") "index" (fun _ x => Ed x) (dUn (fUn fun i => -i) (dC (.int 1))) ⟨sRet (dCB bTup (dCons (dVar 0) dNil)) (eK Qd), Qd, fun _ => False, fun _ => False⟩ [Slot.val x, Slot.val pl, a, b] else sNext ⟨sRet (dCB bTup (dCons (dVar 0) dNil)) (eK Qd), Qd, fun _ => False, fun _ => False⟩ [Slot.val x, Slot.val pl, a, b]) := fun m em => by
          subst em
          refine ⟨okI_int.ok, okI_int.ok, _, rfl, ?_⟩
          rw [eqD_int]
          by_cases c3 : ((canon ns).length : Int) = topI ns + 1
          · rw [if_pos c3] at q
            refine it_f (by rw [decide_eq_true c3]; rfl) ?_
            refine ⟨_, _, rfl, rfl, x, rfl, ?_⟩
            rcases xc with rfl | rfl
            · exact q
            · exact q
          · rw [if_neg c3] at q
            exact it_t (by rw [decide_eq_false c3]; rfl) ⟨_, rfl, q⟩
        refine ⟨_, _, rfl, rfl, 1, rfl, ns, .int (-1), hx1, rfl, fun en => ?_, fun m t => ?_⟩
        · exact fin (-1) (by rw [en]; rfl)
        · exact fin m (topI_top pos t)
end K09

namespace K09
open PySem PySem.Spec PyProof.Rows L2 Dl Zs
theorem ct_check_places {K : PySem.W.Frag} {ds : List D} {Qd : D → Prop} {Ed : Exc → Prop} (h : C_check_places K ds Qd Ed) : d_check_places K (fun _ x => Ed x) (eK Qd) (startD N_check_places ds) := by
  obtain ⟨x, many, rfl, hx, q⟩ := h
  obtain ⟨t, ht⟩ := Option.isSome_iff_exists.mp hx
  refine ⟨_, _, rfl, rfl, one_sz, _, _, rfl, t, ht, ⟨_, rfl, mem_lt, ⟨_, rfl, ?_⟩⟩⟩
  rw [isSeq_iff ht]
  cases hs : seqOf x with
  | none =>
    rw [hs] at q
    exact ⟨_, rfl, q⟩
  | some xs =>
    rw [hs] at q
    dsimp only at q
    obtain ⟨hty, okx, q⟩ := q
    refine it_f rfl ?_
    dsimp only [sNext]
    refine ⟨x, xs, rfl, hs, ?_⟩
    have cond : ∀ pre d suf (R : Bool → Prop), xs = pre ++ d :: suf → R (!isWh d (.int 0) (.int (many - 1)) || anyD pre d) → dOr (dNot (dB (dCall ((C_is_whole K)) [] (fun _ x => Ed x) (dCons (dVar 3) (dCons (dC (.int 0)) (dCons (dOp fSub (dVar 1) (dC (.int 1))) (dNil))))))) (dTest (dOp (fIn false) (dVar 3) (dSl (dVar 0) (dNoP) (dPart (dVar 2))))) [.val x, .val (.int many), .val (.int (pre.length : Nat)), .val d] R := fun pre d suf R e hR => by
      have hd : d ∈ xs := by rw [e]; simp
      have okp : okD (.lst pre) := okD_sub okx fun y m => by rw [e]; simp [m]
      refine ⟨_, _, rfl, rfl, _, _, rfl, rfl, ⟨many, 1, rfl, rfl, ⟨_, _, _, rfl, hty d hd, trivial, trivial, _, rfl, ?_⟩⟩⟩
      cases hw : isWh d (.int 0) (.int (many - 1)) with
      | false => rw [hw] at hR; exact it_t rfl hR
      | true =>
        rw [hw] at hR
        refine it_f rfl ⟨_, _, rfl, rfl, _, _, rfl, rfl, _, _, rfl, rfl, _, rfl, ?_⟩
        have ec : cutL xs none (some (pre.length : Int)) = pre := by
          have := cutL_pre (pre := pre) (suf := d :: suf)
          rw [← e] at this; exact this
        rcases seq_cases hs with rfl | rfl
        · refine sl_tup ?_
          rw [ec]
          exact in_tup (okD_mem okx hd) (okD_tl okp) ⟨_, rfl, hR⟩
        · refine sl_lst ?_
          rw [ec]
          exact in_lst (okD_mem okx hd) okp ⟨_, rfl, hR⟩
    refine enum_loop (xs := xs) (fun pre d => !isWh d (.int 0) (.int (many - 1)) || anyD pre d) (fun env => ∃ a b, env = [Slot.val x, Slot.val (.int many), a, b]) (fun pre d suf env nx e p hf hb => ?_) (fun pre d suf env nx e p hb k => ?_) (fun env hf p => ?_) xs [] _ rfl rfl ⟨_, _, rfl⟩
    · obtain ⟨a, b, rfl⟩ := p
      rw [hf] at q
      refine cond pre d suf _ e ?_
      rw [hb]
      exact it_t rfl ⟨_, _, rfl, rfl, q⟩
    · obtain ⟨a, b, rfl⟩ := p
      refine cond pre d suf _ e ?_
      rw [hb]
      exact it_f rfl (k _ ⟨_, _, rfl⟩)
    · obtain ⟨a, b, rfl⟩ := p
      rw [hf] at q
      refine ⟨_, _, rfl, rfl, x, rfl, ?_⟩
      rcases seq_cases hs with rfl | rfl
      · exact q
      · exact q
theorem find_at {cs : List Int} {n : Int} (h : n ∈ cs) : cs.findIdx (fun c => c == n) < cs.length ∧ cs[cs.findIdx (fun c => c == n)]? = some n := by
  have hl : cs.findIdx (fun c => c == n) < cs.length := List.findIdx_lt_length_of_exists ⟨n, h, beq_self_eq_true n⟩
  refine ⟨hl, ?_⟩
  rw [List.getElem?_eq_getElem hl]
  have := List.findIdx_getElem (p := fun c => c == n) (w := hl)
  exact congrArg some (eq_of_beq this)
theorem find_lo {cs : List Int} {n : Int} {j : Nat} (h : j < cs.findIdx (fun c => c == n)) : cs[j]? ≠ some n := fun e => by
  have := List.not_of_lt_findIdx h
  obtain ⟨hj, e2⟩ := List.getElem?_eq_some_iff.mp e
  rw [e2] at this
  simp at this
theorem okL_ints (cs : List Int) : okD (.lst (cs.map D.int)) := okD_lst fun x m => by
  obtain ⟨c, _, rfl⟩ := List.mem_map.mp m
  exact okI_int
def rankD (cs : List Int) : D → D
  | .int n => .int (rankIn cs n)
  | _ => .non
theorem map_rankD (cs ns : List Int) : ((ns.map D.int).filter fun _ => true).map (rankD cs) = (ns.map (rankIn cs)).map D.int := by
  rw [List.filter_eq_self.mpr (fun _ _ => rfl), List.map_map, List.map_map]
  rfl
theorem no_eq {cs : List Int} {n : Int} (m : Nat) (z' : D) (hm : m < cs.findIdx (fun c => c == n)) (h : (cs.map D.int)[m]? = some z') : eqD z' (.int n) = false := by
  rw [List.getElem?_map] at h
  cases e : cs[m]? with
  | none => rw [e] at h; cases h
  | some c =>
    rw [e] at h
    cases h
    rw [eqD_int]
    refine decide_eq_false fun z => find_lo hm ?_
    rw [e, z]
theorem ct__law_ranks {K : PySem.W.Frag} {ds : List D} {Qd : D → Prop} {Ed : Exc → Prop} (h : C__law_ranks K ds Qd Ed) : d__law_ranks K (fun _ x => Ed x) (eK Qd) (startD N__law_ranks ds) := by
  obtain ⟨x, ns, rfl, hx, few, q⟩ := h
  have key : dSortI (zSetI (dCons (dCB bLst (dCons (dVar 0) (dNil))) (dNil))) (startD N__law_ranks [x]) (fun d => keepable (startD N__law_ranks [x]) 1 d ∧ sRet (dCB bTup (dCons (dF (fLc (idVar 0) (gdName 2) (dYes) (dIndex (dVar 1) (dVar 2)) (([("_law_key_here", 2)] : List (Str × Nat)).map (·.2)))) (dNil))) (eK Qd) ((startD N__law_ranks [x]).set 1 (.val d))) := by
    refine ⟨_, _, rfl, rfl, x, rfl, ?_⟩
    have go : ∃ ms : List Int, (([.lst (ns.map D.int)] : List D) = [.lst (ms.map D.int)] ∨ ([.lst (ns.map D.int)] : List D) = [.tup (ms.map D.int)]) ∧ ms.length ≤ 4000 ∧ (canon ms).length < 64 ∧ (keepable (startD N__law_ranks [x]) 1 (.lst ((canon ms).map D.int)) ∧ sRet (dCB bTup (dCons (dF (fLc (idVar 0) (gdName 2) (dYes) (dIndex (dVar 1) (dVar 2)) (([("_law_key_here", 2)] : List (Str × Nat)).map (·.2)))) (dNil))) (eK Qd) ((startD N__law_ranks [x]).set 1 (.val (.lst ((canon ms).map D.int))))) := by
      refine ⟨ns, .inl rfl, by omega, Nat.lt_of_le_of_lt (canon_len ns) few, .inl rfl, ?_⟩
      refine ⟨x, ns.map D.int, rfl, hx, ?_, ?_⟩
      · have : (64 : Nat) ≤ sizeLine := by decide
        rw [List.length_map]
        omega
      · refine lcD_map (rankD (canon ns)) (fun _ => true) _ [] (fun d hd R hR => ?_) ?_
        · obtain ⟨n, hn, rfl⟩ := List.mem_map.mp hd
          obtain ⟨f1, f2⟩ := find_at (mem_canon.mpr hn)
          refine ⟨_, _, rfl, rfl, _, rfl, _, _, rfl, rfl, (canon ns).findIdx (fun c => c == n), .int n, okI_int.ok, okL_ints _, by rw [List.getElem?_map, f2]; rfl, eqD_refl okI_int.ok.1, no_eq, rfl, hR⟩
        · rw [List.nil_append, map_rankD]
          exact ⟨_, rfl, q⟩
    obtain ⟨ms, a1, a2, a3, a4⟩ := go
    rcases isSeqI_cases hx with rfl | rfl
    · exact ⟨ms, a1, a2, a3, a4⟩
    · exact ⟨ms, a1, a2, a3, a4⟩
  exact key
def keyed : List Int → Nat → List (KeyD × D)
  | [], _ => []
  | c :: cs, k => (.inl c, .int (k : Nat)) :: keyed cs (k + 1)
theorem keyed_fst : ∀ (cs : List Int) (k : Nat), (keyed cs k).map (·.1) = cs.map Sum.inl
  | [], _ => rfl
  | c :: cs, k => by rw [keyed, List.map_cons, List.map_cons, keyed_fst cs]
theorem keyed_snd : ∀ {cs : List Int} {k i : Nat}, i < cs.length → ((keyed cs k).map (·.2))[i]? = some (.int ((k + i : Nat) : Int))
  | c :: cs, k, 0, _ => rfl
  | c :: cs, k, i + 1, h => by
    rw [keyed, List.map_cons, List.getElem?_cons_succ, keyed_snd (by simpa using h)]
    congr 2
    omega
theorem dc_ranks {s0 s1 : Slot} {Q : D → Prop} : ∀ (cs : List Int) (k : Nat) (acc : List (KeyD × D)) (s2 s3 : Slot), cs.Nodup → (∀ c ∈ cs, Sum.inl c ∉ acc.map (·.1)) → Q (dctD (acc ++ keyed cs k)) →
    dcD (gdTup [2, 3]) dYes (dVar 3) (dVar 2) [s0, s1, s2, s3] (enumD k (cs.map D.int)) acc Q
  | [], k, acc, s2, s3, _, _, q => by
    show Q (dctD acc)
    simpa [keyed] using q
  | c :: cs, k, acc, s2, s3, nd, fresh, q => by
    obtain ⟨n1, n2⟩ := List.nodup_cons.mp nd
    refine ⟨_, rfl, rfl, _, _, rfl, rfl, .inl c, rfl, fresh c List.mem_cons_self, _, _, rfl, rfl, rfl, ?_⟩
    refine dc_ranks cs (k + 1) _ _ _ n2 (fun c' hc hm => ?_) (by simpa [keyed] using q)
    rw [List.map_append, List.mem_append] at hm
    rcases hm with hm | hm
    · exact fresh c' (List.mem_cons_of_mem _ hc) hm
    · rw [List.map_cons, List.map_nil, List.mem_singleton] at hm
      cases hm
      exact n1 hc
theorem ct_standing_of {K : PySem.W.Frag} {ds : List D} {Qd : D → Prop} {Ed : Exc → Prop} (h : C_standing_of K ds Qd Ed) : d_standing_of K (fun _ x => Ed x) (eK Qd) (startD N_standing_of ds) := by
  obtain ⟨x, ns, rfl, hx, few, q⟩ := h
  have hx1 : [x] = [D.lst (ns.map D.int)] ∨ [x] = [D.tup (ns.map D.int)] := (isSeqI_cases hx).symm.imp (fun z => by rw [z]) fun z => by rw [z]
  have few2 := Nat.lt_of_le_of_lt (canon_len ns) few
  refine ⟨_, _, rfl, rfl, ns, hx1, by omega, few2, .inl rfl, _, rfl, ?_, ?_⟩
  · have : (64 : Nat) ≤ sizeLine := by decide
    rw [enumD_len, List.length_map]
    omega
  · refine dc_ranks (canon ns) 0 [] _ _ (Up.nodup (up_canon ns)) (fun c _ z => by cases z) ⟨.inl rfl, ?_⟩
    refine ⟨x, ns.map D.int, rfl, hx, ?_, ?_⟩
    · have : (64 : Nat) ≤ sizeLine := by decide
      rw [List.length_map]
      omega
    · refine lcD_map (rankD (canon ns)) (fun _ => true) _ [] (fun d hd R hR => ?_) ?_
      · obtain ⟨n, hn, rfl⟩ := List.mem_map.mp hd
        obtain ⟨f1, f2⟩ := find_at (mem_canon.mpr hn)
        refine ⟨_, _, rfl, rfl, _, _, rfl, rfl, keyed (canon ns) 0, .inl n, (canon ns).findIdx (fun c => c == n), .int (rankIn (canon ns) n), rfl, rfl, ?_, fun j hj => ?_, ?_, rfl, hR⟩
        · rw [keyed_fst, List.getElem?_map, f2]; rfl
        · rw [keyed_fst, List.getElem?_map]
          intro z
          cases e : (canon ns)[j]? with
          | none => rw [e] at z; cases z
          | some c =>
            rw [e] at z
            cases z
            exact find_lo hj e
        · rw [keyed_snd f1, Nat.zero_add]; rfl
      · rw [List.nil_append, map_rankD]
        exact ⟨_, rfl, q⟩
end K09

namespace K09
open PySem PySem.Spec PyProof.Rows L2 Dl Ns Zs Zz Rd
local macro_rules
  | `(tactic| decreasing_trivial_pre_omega) => `(tactic| first
  | ((with_reducible apply Rd.rVar); (rfl); (rfl))
  | (with_reducible refine Rd.rC ?_)
  | (with_reducible refine Rd.rCons ?_)
  | (with_reducible refine Rd.rNil ?_)
  | (with_reducible refine Rd.rInts ?_)
  | (with_reducible refine Rd.rOp ?_)
  | (with_reducible refine Rd.rUn ?_)
  | (with_reducible refine Rd.rNeg ?_)
  | (with_reducible refine Rd.rTest ?_)
  | (with_reducible refine Rd.rB ?_)
  | (with_reducible refine Rd.rEx ?_)
  | (with_reducible refine Rd.rAnd ?_)
  | (with_reducible refine Rd.rOr ?_)
  | (with_reducible refine Rd.rNot ?_)
  | (with_reducible refine Rd.rYes ?_)
  | (with_reducible refine Rd.rAndV ?_)
  | (with_reducible refine Rd.rOrV ?_)
  | (with_reducible refine Rd.rNotV ?_)
  | (with_reducible refine Rd.rIfE ?_)
  | (with_reducible refine Rd.rTup ?_)
  | (with_reducible refine Rd.rLst ?_)
  | (with_reducible refine Rd.rFLst ?_)
  | ((with_reducible refine Rd.rSz ?_ ?_); (first | decide | exact of_decide_eq_true rfl))
  | (with_reducible refine Rd.rF ?_)
  | (with_reducible refine Rd.rCB ?_)
  | (with_reducible refine Rd.rCall ?_)
  | (with_reducible refine Rd.rSl ?_)
  | (with_reducible refine Rd.rNoP ?_)
  | (with_reducible refine Rd.rPart ?_)
  | (with_reducible refine Rd.rExI ?_)
  | (with_reducible refine Rd.rSub ?_)
  | (with_reducible refine Rd.rAdd ?_)
  | (with_reducible refine Rd.rLt ?_)
  | (with_reducible refine Rd.rEqI ?_)
  | (with_reducible refine Rd.rLenT ?_)
  | (with_reducible refine Rd.rLenL ?_)
  | (with_reducible refine Rd.rTupT ?_)
  | (with_reducible refine Rd.rTupL ?_)
  | (with_reducible refine Rd.rLstT ?_)
  | (with_reducible refine Rd.rLstL ?_)
  | (with_reducible refine Rd.rSeq ?_)
  | (with_reducible refine Rd.rNext ?_)
  | (with_reducible refine Rd.rRet ?_)
  | (with_reducible refine Rd.rIf ?_)
  | (with_reducible refine Rd.rAsg ?_)
  | ((with_reducible refine Rd.rKeep ?_ ?_); (first | exact Or.inl rfl | exact Or.inr rfl | assumption))
  | (with_reducible refine Rd.rNew ?_)
  | ((with_reducible refine Rd.rNewK ?_ ?_ ?_); (exact Nat.le_of_ble_eq_true rfl); (first | exact Or.inl rfl | exact Or.inr rfl | assumption))
  | (with_reducible refine Rd.rYesT ?_)
  | (with_reducible refine Rd.rNoT ?_)
  | (with_reducible refine Rd.rN1 ?_)
  | (with_reducible refine Rd.rN2 ?_)
  | (with_reducible refine Rd.rX1 ?_)
  | (with_reducible refine Rd.rX2 ?_)
  | (with_reducible refine Rd.rX3 ?_)
  | (with_reducible refine Rd.rX4 ?_)
  | (with_reducible refine Rd.rLc ?_)
  | (with_reducible refine Rd.rDn ?_)
  | (with_reducible refine Rd.rEnum ?_)
  | (with_reducible refine Rd.rSeqI ?_)
  | (with_reducible refine Rd.rDrop ?_)
  | (with_reducible refine Rd.rFor ?_)
  | ((with_reducible apply Rd.rVarI); (rfl); (rfl))
  | (with_reducible refine Rd.rGdN ?_)
  | ((with_reducible refine Rd.rGdT ?_ ?_); (rfl))
  | (with_reducible refine Rd.rRng ?_)
  | ((with_reducible refine Rd.rKeep ?_ ?_); (exact Or.inr (tI_good _).2.2)))
theorem rIxT {xs : List D} {i : Int} {d : D} {Q : D → Prop} (h : atI xs i = some d) (q : Q d) : fIx (.tup xs) (.int i) Q := ⟨i, rfl, d, h, q⟩
theorem rIxL {xs : List D} {i : Int} {d : D} {Q : D → Prop} (h : atI xs i = some d) (q : Q d) : fIx (.lst xs) (.int i) Q := ⟨i, rfl, d, h, q⟩
theorem atI_of {ns : List Int} {j : Nat} {a : Int} (h : ns[j]? = some a) : atI (ns.map D.int) (j : Int) = some (.int a) := by
  have hl := (List.getElem?_eq_some_iff.mp h).1
  rw [atI_nat (by rw [List.length_map]; exact hl), List.getElem_map]
  obtain ⟨_, e⟩ := List.getElem?_eq_some_iff.mp h
  rw [e]
theorem at_at {d : List Int} {i : Int} (h0 : 0 ≤ i) (h1 : i < d.length) : atI (d.map D.int) i = some (.int (at_ d i)) := by
  have e : (i.toNat : Int) = i := Int.toNat_of_nonneg h0
  have := atI_of (at_get h0 h1)
  rw [e] at this
  exact this
theorem nolI (ns : List Int) : noLstA (ns.map D.int) = true := noLst_of fun x hx => by
  obtain ⟨n, _, rfl⟩ := List.mem_map.mp hx
  rfl
theorem map_int (f : Int → Int) (ns : List Int) (g : D → D) (hg : ∀ n ∈ ns, g (.int n) = .int (f n)) : ((ns.map D.int).filter fun _ => true).map g = (ns.map f).map D.int := by
  rw [List.filter_eq_self.mpr (fun _ _ => rfl), List.map_map, List.map_map]
  exact List.map_congr_left fun n hn => hg n hn
theorem lc_int {i : Nat} {te : TED} {env : DEnv} {Q : List D → Prop} {ns : List Int} (f : Int → Int) (h : ∀ n ∈ ns, ∀ R : D → Prop, R (.int (f n)) → te (env.set i (.val (.int n))) R) (q : Q ((ns.map f).map D.int)) :
    lcD (gdName i) dYes te env (ns.map D.int) [] Q := by
  refine lcD_map (fun d => match d with | .int n => .int (f n) | _ => .non) (fun _ => true) _ [] (fun d hd R hR => ?_) ?_
  · obtain ⟨n, hn, rfl⟩ := List.mem_map.mp hd
    rw [if_pos rfl] at hR
    refine rGdN (rYes (rYesT ?_))
    exact h n hn _ ⟨rfl, hR⟩
  · rw [List.nil_append, map_int f ns _ fun _ _ => rfl]
    exact q
theorem idv {i : Nat} {env : DEnv} {x : D} {ns : List Int} {L : List D → Prop} (e : env[i]? = some (.val x)) (h : isSeqI x ns) (q : L (ns.map D.int)) : idVar i env L := ⟨x, _, e, h, q⟩
theorem seq_tn {x : D} {ns : List Int} (h : isSeqI x ns) : ∃ t, x.tyn = some t ∧ (["list", "tuple"].any fun n => isiB t n) = true := by
  rcases isSeqI_cases h with rfl | rfl
  · exact ⟨_, rfl, by decide⟩
  · exact ⟨_, rfl, by decide⟩
def neB (b : Int) : D → Bool := fun d => match d with | .int n => !decide (n = b) | _ => false
theorem sel_iM (b : Int) : ∀ (L : List Int) (pre : List D), sel (fun _ d => neB b d) (fun pre _ => D.int (pre.length : Nat)) pre (L.map D.int) = (iMF b pre.length L).map D.int
  | [], pre => rfl
  | n :: L, pre => by
    have ih := sel_iM b L (pre ++ [.int n])
    rw [List.length_append] at ih
    show (if (!decide (n = b)) = true then D.int (pre.length : Nat) :: sel _ _ (pre ++ [.int n]) (L.map D.int) else sel _ _ (pre ++ [.int n]) (L.map D.int)) = _
    rw [ih]
    show _ = (if n = b then iMF b (pre.length + 1) L else (pre.length : Int) :: iMF b (pre.length + 1) L).map D.int
    by_cases c : n = b
    · rw [if_neg (by rw [decide_eq_true c]; decide), if_pos c]
      rfl
    · rw [if_pos (by rw [decide_eq_false c]; rfl), if_neg c]
      rfl
theorem iMF_len (b : Int) : ∀ (i : Nat) (L : List Int), (iMF b i L).length ≤ L.length
  | i, [] => Nat.le_refl _
  | i, e :: L => by
    have := iMF_len b (i + 1) L
    unfold iMF
    split
    · exact Nat.le_succ_of_le this
    · exact Nat.succ_le_succ this
theorem lc_enumV {i j : Nat} {tt : TTD} {env : DEnv} {Q : List D → Prop} {x : D} {L : List Int} (b : Int) {te : TED} (hx : isSeqI x L)
    (ht : ∀ (k : Nat) (n : Int) (R : Bool → Prop), R (!decide (n = b)) → tt ((env.set i (.val (.int k))).set j (.val (.int n))) R)
    (he : ∀ (k : Nat) (n : Int) (R : D → Prop), R (.int k) → te ((env.set i (.val (.int k))).set j (.val (.int n))) R) (q : Q ((iM L b).map D.int)) : lcD (gdTup [i, j]) tt te env (enumD 0 (L.map D.int)) [] Q := by
  refine enum_lc (xs := L.map D.int) (fun _ d => neB b d) (fun pre _ => D.int (pre.length : Nat)) (fun pre d suf R e hR => ?_) (L.map D.int) [] [] rfl ?_
  · have hd : d ∈ L.map D.int := by rw [e]; simp
    obtain ⟨n, hn, rfl⟩ := List.mem_map.mp hd
    refine ht _ _ _ ?_
    have hR : R (if (!decide (n = b)) = true then some (D.int (pre.length : Nat)) else none) := hR
    cases c : !decide (n = b) with
    | true =>
      rw [c, if_pos rfl] at hR
      rw [if_pos rfl]
      exact he _ _ _ ⟨rfl, hR⟩
    | false =>
      rw [c, if_neg (by decide)] at hR
      rw [if_neg (by decide)]
      exact hR
  · rw [List.nil_append, sel_iM]
    exact q
theorem ct_rank_moments {K : PySem.W.Frag} {ds : List D} {Qd : D → Prop} {Ed : Exc → Prop} (h : C_rank_moments K ds Qd Ed) : d_rank_moments K (fun _ x => Ed x) (eK Qd) (startD N_rank_moments ds) := by
  obtain ⟨L, rfl, few, q⟩ := h
  have l1 := iMF_len 1 0 L
  have l0 := iMF_len 0 0 L
  unfold d_rank_moments
  repeat decreasing_trivial_pre_omega
  refine ⟨_, _, rfl, rfl, ?_⟩
  refine ⟨by rw [enumD_len, List.length_map]; omega, lc_enumV 1 (x := tI L) rfl (fun k n R hR => ?_) (fun k n R hR => ?_) ?_⟩
  · repeat decreasing_trivial_pre_omega
    exact hR
  · repeat decreasing_trivial_pre_omega
    exact hR
  repeat decreasing_trivial_pre_omega
  refine ⟨_, _, rfl, rfl, ?_⟩
  refine ⟨by rw [enumD_len, List.length_map]; omega, lc_enumV 0 (x := tI L) rfl (fun k n R hR => ?_) (fun k n R hR => ?_) ?_⟩
  · repeat decreasing_trivial_pre_omega
    exact hR
  · repeat decreasing_trivial_pre_omega
    exact hR
  repeat decreasing_trivial_pre_omega
  exact q
end K09

namespace K09
open PySem PySem.Spec PyProof.Rows L2 Dl Ns Zs Zz Rd
local macro_rules
  | `(tactic| decreasing_trivial_pre_omega) => `(tactic| first
  | ((with_reducible apply Rd.rVar); (rfl); (rfl))
  | (with_reducible refine Rd.rC ?_)
  | (with_reducible refine Rd.rCons ?_)
  | (with_reducible refine Rd.rNil ?_)
  | (with_reducible refine Rd.rInts ?_)
  | (with_reducible refine Rd.rOp ?_)
  | (with_reducible refine Rd.rUn ?_)
  | (with_reducible refine Rd.rNeg ?_)
  | (with_reducible refine Rd.rTest ?_)
  | (with_reducible refine Rd.rB ?_)
  | (with_reducible refine Rd.rEx ?_)
  | (with_reducible refine Rd.rAnd ?_)
  | (with_reducible refine Rd.rOr ?_)
  | (with_reducible refine Rd.rNot ?_)
  | (with_reducible refine Rd.rYes ?_)
  | (with_reducible refine Rd.rAndV ?_)
  | (with_reducible refine Rd.rOrV ?_)
  | (with_reducible refine Rd.rNotV ?_)
  | (with_reducible refine Rd.rIfE ?_)
  | (with_reducible refine Rd.rTup ?_)
  | (with_reducible refine Rd.rLst ?_)
  | (with_reducible refine Rd.rFLst ?_)
  | ((with_reducible refine Rd.rSz ?_ ?_); (first | decide | exact of_decide_eq_true rfl))
  | (with_reducible refine Rd.rF ?_)
  | (with_reducible refine Rd.rCB ?_)
  | (with_reducible refine Rd.rCall ?_)
  | (with_reducible refine Rd.rSl ?_)
  | (with_reducible refine Rd.rNoP ?_)
  | (with_reducible refine Rd.rPart ?_)
  | (with_reducible refine Rd.rExI ?_)
  | (with_reducible refine Rd.rSub ?_)
  | (with_reducible refine Rd.rAdd ?_)
  | (with_reducible refine Rd.rLt ?_)
  | (with_reducible refine Rd.rEqI ?_)
  | (with_reducible refine Rd.rLenT ?_)
  | (with_reducible refine Rd.rLenL ?_)
  | (with_reducible refine Rd.rTupT ?_)
  | (with_reducible refine Rd.rTupL ?_)
  | (with_reducible refine Rd.rLstT ?_)
  | (with_reducible refine Rd.rLstL ?_)
  | (with_reducible refine Rd.rSeq ?_)
  | (with_reducible refine Rd.rNext ?_)
  | (with_reducible refine Rd.rRet ?_)
  | (with_reducible refine Rd.rIf ?_)
  | (with_reducible refine Rd.rAsg ?_)
  | ((with_reducible refine Rd.rKeep ?_ ?_); (first | exact Or.inl rfl | exact Or.inr rfl | assumption))
  | (with_reducible refine Rd.rNew ?_)
  | ((with_reducible refine Rd.rNewK ?_ ?_ ?_); (exact Nat.le_of_ble_eq_true rfl); (first | exact Or.inl rfl | exact Or.inr rfl | assumption))
  | (with_reducible refine Rd.rYesT ?_)
  | (with_reducible refine Rd.rNoT ?_)
  | (with_reducible refine Rd.rN1 ?_)
  | (with_reducible refine Rd.rN2 ?_)
  | (with_reducible refine Rd.rX1 ?_)
  | (with_reducible refine Rd.rX2 ?_)
  | (with_reducible refine Rd.rX3 ?_)
  | (with_reducible refine Rd.rX4 ?_)
  | (with_reducible refine Rd.rLc ?_)
  | (with_reducible refine Rd.rDn ?_)
  | (with_reducible refine Rd.rEnum ?_)
  | (with_reducible refine Rd.rSeqI ?_)
  | (with_reducible refine Rd.rDrop ?_)
  | (with_reducible refine Rd.rFor ?_)
  | ((with_reducible apply Rd.rVarI); (rfl); (rfl))
  | (with_reducible refine Rd.rGdN ?_)
  | ((with_reducible refine Rd.rGdT ?_ ?_); (rfl))
  | (with_reducible refine Rd.rRng ?_)
  | ((with_reducible refine Rd.rKeep ?_ ?_); (exact Or.inr (tI_good _).2.2)))
theorem isi_seq {x : D} {ns : List Int} {Q : D → Prop} (h : isSeqI x ns) (q : Q (.bl true)) : bIsi [x, .tup [.ty "list", .ty "tuple"]] Q := by
  obtain ⟨t, e, b⟩ := seq_tn h
  refine ⟨_, _, rfl, t, e, _, rfl, mem_lt, ?_⟩
  rw [b]
  exact q
theorem len_seq {x : D} {ns : List Int} {Q : D → Prop} (h : isSeqI x ns) (q : Q (.int ns.length)) : bLen [x] Q := by
  rcases isSeqI_cases h with rfl | rfl
  · refine rLenT ?_
    rw [List.length_map]
    exact q
  · refine rLenL ?_
    rw [List.length_map]
    exact q
theorem tup_seq {x : D} {ns : List Int} {Q : D → Prop} (h : isSeqI x ns) (q : Q (tI ns)) : bTup [x] Q := by
  rcases isSeqI_cases h with rfl | rfl
  · exact rTupT q
  · exact rTupL q
theorem ix_seq {x : D} {ns : List Int} {i : Int} {Q : D → Prop} (h : isSeqI x ns) (h0 : 0 ≤ i) (h1 : i < ns.length) (q : Q (.int (at_ ns i))) : fIx x (.int i) Q := by
  rcases isSeqI_cases h with rfl | rfl
  · exact rIxT (at_at h0 h1) q
  · exact rIxL (at_at h0 h1) q
theorem wh_std {ns : List Int} : ∀ {pre : List D}, (∀ n ∈ ns, 0 ≤ n) → fstBad (fun _ d => !isWh d (.int 0) .non) pre (ns.map D.int) = none := by
  induction ns with
  | nil => intro pre _; rfl
  | cons n ns ih =>
    intro pre h
    rw [List.map_cons, fstBad_cons]
    have : isWh (.int n) (.int 0) .non = true := by
      show (decide ((0 : Int) ≤ n) && true) = true
      rw [decide_eq_true (h n List.mem_cons_self)]
      rfl
    rw [this, if_neg (by decide)]
    exact ih fun k hk => h k (List.mem_cons_of_mem _ hk)
theorem std_ask {K : PySem.W.Frag} {x : D} {ns : List Int} {Q : List Int → Prop} {E : Exc → Prop} (hs : isSeqI x ns) (st : Std ns) (q : Q ns) : stdAsk K x .non Q E := by
  refine ⟨?_, trivial, ?_⟩
  · rcases isSeqI_cases hs with rfl | rfl <;> rfl
  · rw [hs]
    dsimp only
    refine ⟨fun d hd => ?_, ?_⟩
    · obtain ⟨n, _, rfl⟩ := List.mem_map.mp hd
      rfl
    · have := st.few
      rw [List.length_map, if_neg (by omega), if_neg (show ¬ offLen .non _ = true from Bool.false_ne_true), wh_std st.pos]
      exact ⟨ns, rfl, by rw [if_pos st.full]; exact q⟩
theorem rAugC {i : Nat} {f : Int → Int → Int} {n m : Int} {s : Slot} {Dd : DEnds} {env : DEnv} (h1 : env[i]? = some s) (h2 : rdSlot s = some (.int m)) (q : Dd.nx (env.set i (.val (.int (f m n))))) : sAug i f (dC (.int n)) Dd env := ⟨s, m, h1, h2, n, rfl, .inr rfl, q⟩
theorem chk_loop {tb : TSD} {Dd : DEnds} {x y z : D}
    (step : ∀ (f s : Int) (k : Nat) (e : Int) (nx : DEnv → Prop), (e = 0 ∨ e = 1 ∨ e = 2) → 0 ≤ f - (if e = 1 then 0 else 1) → 0 ≤ s - (if e = 0 then 0 else 1) →
      (∀ s5 s6, nx [.val x, .val y, .val z, .val (.int (f - (if e = 1 then 0 else 1))), .val (.int (s - (if e = 0 then 0 else 1))), s5, s6]) → tb { Dd with nx := nx, ct := nx, bk := Dd.nx } [.val x, .val y, .val z, .val (.int f), .val (.int s), .val (.int (k : Nat)), .val (.int e)])
    (fin : ∀ s5 s6, Dd.nx [.val x, .val y, .val z, .val (.int 0), .val (.int 0), s5, s6]) :
    ∀ (L : List Int) (k : Nat) (f s : Int) (s5 s6 : Slot), (∀ e ∈ L, e = 0 ∨ e = 1 ∨ e = 2) → ((iMF 1 k L).length : Int) = f → ((iMF 0 k L).length : Int) = s →
      forD (gdTup [5, 6]) tb Dd (enumD k (L.map D.int)) [.val x, .val y, .val z, .val (.int f), .val (.int s), s5, s6]
  | [], k, f, s, s5, s6, _, hf, hs => by
    have : f = 0 := hf.symm
    have : s = 0 := hs.symm
    subst f
    subst s
    exact fin s5 s6
  | e :: L, k, f, s, s5, s6, he, hf, hs => by
    have h1 : (if e = 1 then iMF 1 (k + 1) L else (k : Int) :: iMF 1 (k + 1) L) = iMF 1 k (e :: L) := rfl
    have h2 : (if e = 0 then iMF 0 (k + 1) L else (k : Int) :: iMF 0 (k + 1) L) = iMF 0 k (e :: L) := rfl
    rw [← h1] at hf
    rw [← h2] at hs
    have a1 : ((iMF 1 (k + 1) L).length : Int) = f - (if e = 1 then 0 else 1) := by
      split at hf
      · rw [if_pos ‹_›]; omega
      · rw [if_neg ‹_›]; simp only [List.length_cons] at hf; omega
    have a2 : ((iMF 0 (k + 1) L).length : Int) = s - (if e = 0 then 0 else 1) := by
      split at hs
      · rw [if_pos ‹_›]; omega
      · rw [if_neg ‹_›]; simp only [List.length_cons] at hs; omega
    refine ⟨_, rfl, rfl, ?_⟩
    exact step f s k e _ (he e List.mem_cons_self) (by omega) (by omega) fun s5 s6 => chk_loop step fin L (k + 1) _ _ s5 s6 (fun e' h => he e' (List.mem_cons_of_mem _ h)) a1 a2
theorem whole3 {K : PySem.W.Frag} {e : Int} {Q : D → Prop} {E : Exc → Prop} (he : e = 0 ∨ e = 1 ∨ e = 2) (q : Q (.bl true)) : C_is_whole K [.int e, .int 0, .int 2] Q E := by
  refine ⟨_, _, _, rfl, rfl, trivial, trivial, ?_⟩
  have : isWh (.int e) (.int 0) (.int 2) = true := by
    rcases he with rfl | rfl | rfl <;> rfl
  rw [this]
  exact q
theorem ct_check_lining {K : PySem.W.Frag} {ds : List D} {Qd : D → Prop} {Ed : Exc → Prop} (h : C_check_lining K ds Qd Ed) : d_check_lining K (fun _ x => Ed x) (eK Qd) (startD N_check_lining ds) := by
  obtain ⟨x, y, z, ns, ms, L, rfl, ⟨hx, hy, hz, V⟩, q⟩ := h
  unfold d_check_lining
  repeat decreasing_trivial_pre_omega
  refine ⟨x, rfl, std_ask hx V.sa ?_⟩
  repeat decreasing_trivial_pre_omega
  refine ⟨y, rfl, std_ask hy V.sb ?_⟩
  repeat decreasing_trivial_pre_omega
  refine len_seq hx ?_
  repeat decreasing_trivial_pre_omega
  refine len_seq hy ?_
  repeat decreasing_trivial_pre_omega
  refine it_f (by rw [decide_eq_true (by rw [V.len])]; rfl) ?_
  repeat decreasing_trivial_pre_omega
  refine isi_seq hz ?_
  repeat decreasing_trivial_pre_omega
  refine ⟨z, _, rfl, hz, ?_⟩
  refine chk_loop (fun f s k e nx he h1 h2 kk => ?_) (fun s5 s6 => ?_) L 0 _ _ _ _ V.lin.ent V.lin.one V.lin.two
  · repeat decreasing_trivial_pre_omega
    refine whole3 he ?_
    repeat decreasing_trivial_pre_omega
    rcases he with rfl | rfl | rfl
    · refine it_t (by decide) (rAugC rfl rfl ?_)
      repeat decreasing_trivial_pre_omega
      refine it_f (by decide) ?_
      repeat decreasing_trivial_pre_omega
      refine it_f (decide_eq_false (by simp at h1; omega)) ?_
      repeat decreasing_trivial_pre_omega
      refine it_f (decide_eq_false (by simp at h2; omega)) ?_
      repeat decreasing_trivial_pre_omega
      have := kk (.val (.int k)) (.val (.int 0))
      simpa using this
    · refine it_f (by decide) ?_
      repeat decreasing_trivial_pre_omega
      refine it_t (by decide) (rAugC rfl rfl ?_)
      repeat decreasing_trivial_pre_omega
      refine it_f (decide_eq_false (by simp at h1; omega)) ?_
      repeat decreasing_trivial_pre_omega
      refine it_f (decide_eq_false (by simp at h2; omega)) ?_
      repeat decreasing_trivial_pre_omega
      have := kk (.val (.int k)) (.val (.int 1))
      simpa using this
    · refine it_t (by decide) (rAugC rfl rfl ?_)
      repeat decreasing_trivial_pre_omega
      refine it_t (by decide) (rAugC rfl rfl ?_)
      repeat decreasing_trivial_pre_omega
      refine it_f (decide_eq_false (by simp at h1; omega)) ?_
      repeat decreasing_trivial_pre_omega
      refine it_f (decide_eq_false (by simp at h2; omega)) ?_
      repeat decreasing_trivial_pre_omega
      have := kk (.val (.int k)) (.val (.int 2))
      simpa using this
  · repeat decreasing_trivial_pre_omega
    refine it_f (by decide) ?_
    repeat decreasing_trivial_pre_omega
    refine it_f (by decide) ?_
    repeat decreasing_trivial_pre_omega
    refine tup_seq hz ?_
    exact q
end K09

namespace K09
open PySem PySem.Spec PyProof.Rows L2 Dl Ns Zs Zz Rd
local macro_rules
  | `(tactic| decreasing_trivial_pre_omega) => `(tactic| first
  | ((with_reducible apply Rd.rVar); (rfl); (rfl))
  | (with_reducible refine Rd.rC ?_)
  | (with_reducible refine Rd.rCons ?_)
  | (with_reducible refine Rd.rNil ?_)
  | (with_reducible refine Rd.rInts ?_)
  | (with_reducible refine Rd.rOp ?_)
  | (with_reducible refine Rd.rUn ?_)
  | (with_reducible refine Rd.rNeg ?_)
  | (with_reducible refine Rd.rTest ?_)
  | (with_reducible refine Rd.rB ?_)
  | (with_reducible refine Rd.rEx ?_)
  | (with_reducible refine Rd.rAnd ?_)
  | (with_reducible refine Rd.rOr ?_)
  | (with_reducible refine Rd.rNot ?_)
  | (with_reducible refine Rd.rYes ?_)
  | (with_reducible refine Rd.rAndV ?_)
  | (with_reducible refine Rd.rOrV ?_)
  | (with_reducible refine Rd.rNotV ?_)
  | (with_reducible refine Rd.rIfE ?_)
  | (with_reducible refine Rd.rTup ?_)
  | (with_reducible refine Rd.rLst ?_)
  | (with_reducible refine Rd.rFLst ?_)
  | ((with_reducible refine Rd.rSz ?_ ?_); (first | decide | exact of_decide_eq_true rfl))
  | (with_reducible refine Rd.rF ?_)
  | (with_reducible refine Rd.rCB ?_)
  | (with_reducible refine Rd.rCall ?_)
  | (with_reducible refine Rd.rSl ?_)
  | (with_reducible refine Rd.rNoP ?_)
  | (with_reducible refine Rd.rPart ?_)
  | (with_reducible refine Rd.rExI ?_)
  | (with_reducible refine Rd.rSub ?_)
  | (with_reducible refine Rd.rAdd ?_)
  | (with_reducible refine Rd.rLt ?_)
  | (with_reducible refine Rd.rEqI ?_)
  | (with_reducible refine Rd.rLenT ?_)
  | (with_reducible refine Rd.rLenL ?_)
  | (with_reducible refine Rd.rTupT ?_)
  | (with_reducible refine Rd.rTupL ?_)
  | (with_reducible refine Rd.rLstT ?_)
  | (with_reducible refine Rd.rLstL ?_)
  | (with_reducible refine Rd.rSeq ?_)
  | (with_reducible refine Rd.rNext ?_)
  | (with_reducible refine Rd.rRet ?_)
  | (with_reducible refine Rd.rIf ?_)
  | (with_reducible refine Rd.rAsg ?_)
  | ((with_reducible refine Rd.rKeep ?_ ?_); (first | exact Or.inl rfl | exact Or.inr rfl | assumption))
  | (with_reducible refine Rd.rNew ?_)
  | ((with_reducible refine Rd.rNewK ?_ ?_ ?_); (exact Nat.le_of_ble_eq_true rfl); (first | exact Or.inl rfl | exact Or.inr rfl | assumption))
  | (with_reducible refine Rd.rYesT ?_)
  | (with_reducible refine Rd.rNoT ?_)
  | (with_reducible refine Rd.rN1 ?_)
  | (with_reducible refine Rd.rN2 ?_)
  | (with_reducible refine Rd.rX1 ?_)
  | (with_reducible refine Rd.rX2 ?_)
  | (with_reducible refine Rd.rX3 ?_)
  | (with_reducible refine Rd.rX4 ?_)
  | (with_reducible refine Rd.rLc ?_)
  | (with_reducible refine Rd.rDn ?_)
  | (with_reducible refine Rd.rEnum ?_)
  | (with_reducible refine Rd.rSeqI ?_)
  | (with_reducible refine Rd.rDrop ?_)
  | (with_reducible refine Rd.rFor ?_)
  | ((with_reducible apply Rd.rVarI); (rfl); (rfl))
  | (with_reducible refine Rd.rGdN ?_)
  | ((with_reducible refine Rd.rGdT ?_ ?_); (rfl))
  | (with_reducible refine Rd.rRng ?_)
  | ((with_reducible refine Rd.rKeep ?_ ?_); (exact Or.inr (tI_good _).2.2)))
theorem lin_len : ∀ (L : List Int) (k : Nat), L.length ≤ (iMF 1 k L).length + (iMF 0 k L).length
  | [], _ => Nat.zero_le _
  | e :: L, k => by
    have ih := lin_len L (k + 1)
    show L.length + 1 ≤ (if e = 1 then iMF 1 (k + 1) L else (k : Int) :: iMF 1 (k + 1) L).length + (if e = 0 then iMF 0 (k + 1) L else (k : Int) :: iMF 0 (k + 1) L).length
    split
    · rw [if_neg (by omega)]
      simp only [List.length_cons]
      omega
    · split
      · simp only [List.length_cons]
        omega
      · simp only [List.length_cons]
        omega
theorem std_top7 {ns : List Int} (h : Std ns) : topI ns + 1 ≤ ns.length := by
  rw [← h.full]
  have := canon_len ns
  omega
theorem Val.few {ns ms L : List Int} (V : Val ns ms L) : L.length ≤ 14 := by
  have h1 := lin_len L 0
  have h2 : ((iMF 1 0 L).length : Int) = topI ns + 1 := V.lin.one
  have h3 : ((iMF 0 0 L).length : Int) = topI ms + 1 := V.lin.two
  have h4 := std_top7 V.sa
  have h5 := std_top7 V.sb
  have h6 := V.sa.few
  have h7 := V.sb.few
  omega
theorem Val.in1 {ns ms L : List Int} (V : Val ns ms L) {r : Int} (h : r ∈ ns) : 0 ≤ r ∧ r < (iM L 1).length := by
  have := std_in V.sa h
  have := V.lin.one
  omega
theorem Val.in0 {ns ms L : List Int} (V : Val ns ms L) {r : Int} (h : r ∈ ms) : 0 ≤ r ∧ r < (iM L 0).length := by
  have := std_in V.sb h
  have := V.lin.two
  omega
theorem ct_moments_of {K : PySem.W.Frag} {ds : List D} {Qd : D → Prop} {Ed : Exc → Prop} (h : C_moments_of K ds Qd Ed) : d_moments_of K (fun _ x => Ed x) (eK Qd) (startD N_moments_of ds) := by
  obtain ⟨x, y, z, ns, ms, L, rfl, ⟨hx, hy, hz, V⟩, q⟩ := h
  have few := V.few
  have f1 := V.sa.few
  have f2 := V.sb.few
  unfold d_moments_of
  repeat decreasing_trivial_pre_omega
  show dCall _ _ _ _ _ _
  repeat decreasing_trivial_pre_omega
  refine ⟨x, y, z, ns, ms, L, rfl, ⟨hx, hy, hz, V⟩, ?_⟩
  refine ⟨L, rfl, by omega, ?_⟩
  refine ⟨.inl rfl, ?_⟩
  repeat decreasing_trivial_pre_omega
  refine idv rfl hx ⟨by rw [List.length_map]; omega, ?_⟩
  refine lc_int (at_ (iM L 1)) (fun n hn R hR => ?_) ?_
  · repeat decreasing_trivial_pre_omega
    exact rIxL (at_at (V.in1 hn).1 (V.in1 hn).2) hR
  repeat decreasing_trivial_pre_omega
  refine idv rfl hy ⟨by rw [List.length_map]; omega, ?_⟩
  refine lc_int (at_ (iM L 0)) (fun n hn R hR => ?_) ?_
  · repeat decreasing_trivial_pre_omega
    exact rIxL (at_at (V.in0 hn).1 (V.in0 hn).2) hR
  repeat decreasing_trivial_pre_omega
  exact q
theorem in_seq {neg : Bool} {y : D} {ms : List Int} {m : Int} {Q : D → Prop} (h : isSeqI y ms) (q : Q (.bl (xr neg (decide (m ∈ ms))))) : fIn neg (.int m) y Q := by
  have e : anyD (ms.map D.int) (.int m) = decide (m ∈ ms) := by
    clear h q
    induction ms with
    | nil => rfl
    | cons a ms ih =>
      show (eqD (.int a) (.int m) || anyD (ms.map D.int) (.int m)) = _
      rw [ih, eqD_int]
      by_cases c : a = m
      · have e2 : decide (m ∈ a :: ms) = true := decide_eq_true (by rw [c]; exact List.mem_cons_self)
        rw [decide_eq_true c, e2]
        rfl
      · rw [decide_eq_false c, Bool.false_or]
        exact decide_eq_decide.mpr ⟨fun h => List.mem_cons_of_mem _ h, fun h => (List.mem_cons.mp h).elim (fun z => absurd z.symm c) id⟩
  rw [← e] at q
  rcases isSeqI_cases h with rfl | rfl
  · exact in_tup okI_int.ok (okD_tl (okL_ints ms)) q
  · exact in_lst okI_int.ok (okL_ints ms) q
theorem canon_canon (ns ms : List Int) : canon (canon ns ++ canon ms) = canon (ns ++ ms) := up_eq (up_canon _) (up_canon _) fun k => by
  rw [mem_canon, mem_canon, List.mem_append, List.mem_append, mem_canon, mem_canon]
theorem z_seq {x : D} {ns : List Int} (h : isSeqI x ns) : [x] = [.lst (ns.map D.int)] ∨ [x] = [.tup (ns.map D.int)] := by
  rcases isSeqI_cases h with rfl | rfl
  · exact .inr rfl
  · exact .inl rfl
theorem sort_or {i j : Nat} {env : DEnv} {s t : Slot} {x y : D} {ns ms : List Int} {Q : List D → Prop} (e1 : env[i]? = some s) (e2 : rdSlot s = some x) (e3 : env[j]? = some t) (e4 : rdSlot t = some y) (hx : isSeqI x ns) (hy : isSeqI y ms) (few : ns.length + ms.length < 64) (q : Q ((canon (ns ++ ms)).map D.int)) :
    Zo.idNew (Zo.fSortI (Zo.zOr (zSetI (dCons (dVar i) dNil)) (zSetI (dCons (dVar j) dNil)))) env Q := by
  have a := canon_len ns
  have b := canon_len ms
  have c := canon_len (ns ++ ms)
  rw [List.length_append] at c
  refine ⟨s, x, e1, e2, ns, z_seq hx, by omega, t, y, e3, e4, ms, z_seq hy, by omega, by omega, ?_⟩
  rw [canon_canon]
  exact ⟨by omega, nolI _, q⟩
theorem lin_loop {tb : TSD} {Dd : DEnds} {x y : D} {ns ms : List Int}
    (step : ∀ (acc : List Int) (m : Int) (nx : DEnv → Prop), acc.length < 64 → (∀ s3, nx [.val x, .val y, .own ((acc ++ [linE ns ms m]).map D.int), s3]) → tb { Dd with nx := nx, ct := nx, bk := Dd.nx } [.val x, .val y, .own (acc.map D.int), .val (.int m)]) :
    ∀ (M acc : List Int) (s3 : Slot), acc.length + M.length < 64 → (∀ s3, Dd.nx [.val x, .val y, .own ((acc ++ M.map (linE ns ms)).map D.int), s3]) → forD (gdName 3) tb Dd (M.map D.int) [.val x, .val y, .own (acc.map D.int), s3]
  | [], acc, s3, _, fin => by
    have := fin s3
    rw [List.map_nil, List.append_nil] at this
    exact this
  | m :: M, acc, s3, few, fin => by
    rw [List.length_cons] at few
    refine step acc m _ (by omega) fun s3 => ?_
    refine lin_loop step M (acc ++ [linE ns ms m]) s3 (by rw [List.length_append, List.length_singleton]; omega) fun s3 => ?_
    have := fin s3
    rw [List.map_cons] at this
    rw [List.append_assoc]
    exact this
theorem ct_lining_of {K : PySem.W.Frag} {ds : List D} {Qd : D → Prop} {Ed : Exc → Prop} (h : C_lining_of K ds Qd Ed) : d_lining_of K (fun _ x => Ed x) (eK Qd) (startD N_lining_of ds) := by
  obtain ⟨x, y, ns, ms, rfl, hx, hy, l, few, q⟩ := h
  unfold d_lining_of
  repeat decreasing_trivial_pre_omega
  refine isi_seq hx ?_
  repeat decreasing_trivial_pre_omega
  refine isi_seq hy ?_
  repeat decreasing_trivial_pre_omega
  refine len_seq hx ?_
  repeat decreasing_trivial_pre_omega
  refine len_seq hy ?_
  repeat decreasing_trivial_pre_omega
  refine it_f (by rw [decide_eq_true (by rw [l])]; rfl) ?_
  repeat decreasing_trivial_pre_omega
  refine sort_or rfl rfl rfl rfl hx hy (by omega) ?_
  have hl := canon_len (ns ++ ms)
  rw [List.length_append] at hl
  refine lin_loop (ns := ns) (ms := ms) (fun acc m nx fe kk => ?_) (canon (ns ++ ms)) [] _ (by simp; omega) fun s3 => ?_
  · have sz : (acc.map D.int).length < sizeLine := by
      rw [List.length_map]
      exact Nat.lt_of_lt_of_le fe (by decide)
    have kk := kk (.val (.int m))
    rw [List.map_append] at kk
    repeat decreasing_trivial_pre_omega
    refine in_seq hy ?_
    repeat decreasing_trivial_pre_omega
    by_cases c : m ∈ ms
    · have c1 : decide (m ∈ ms) = true := decide_eq_true c
      refine it_f (by rw [c1]; rfl) ?_
      repeat decreasing_trivial_pre_omega
      refine in_seq hx ?_
      repeat decreasing_trivial_pre_omega
      by_cases d : m ∈ ns
      · have c2 : decide (m ∈ ns) = true := decide_eq_true d
        refine it_f (by rw [c2]; rfl) ?_
        refine rApp rfl ?_
        repeat decreasing_trivial_pre_omega
        refine ⟨rfl, sz, ?_⟩
        have e : linE ns ms m = 2 := by unfold linE; rw [if_pos c, if_pos d]
        rw [e] at kk
        exact kk
      · have c2 : decide (m ∈ ns) = false := decide_eq_false d
        refine it_t (by rw [c2]; rfl) ?_
        refine rApp rfl ?_
        repeat decreasing_trivial_pre_omega
        refine ⟨rfl, sz, ?_⟩
        have e : linE ns ms m = 1 := by unfold linE; rw [if_pos c, if_neg d]
        rw [e] at kk
        exact kk
    · have c1 : decide (m ∈ ms) = false := decide_eq_false c
      refine it_t (by rw [c1]; rfl) ?_
      refine rApp rfl ?_
      repeat decreasing_trivial_pre_omega
      refine ⟨rfl, sz, ?_⟩
      have e : linE ns ms m = 0 := by unfold linE; rw [if_neg c]
      rw [e] at kk
      exact kk
  · repeat decreasing_trivial_pre_omega
    exact q
end K09

namespace K09
open PySem PySem.Spec PyProof.Rows L2 Dl Ns Zs Zz Rd
local macro_rules
  | `(tactic| decreasing_trivial_pre_omega) => `(tactic| first
  | ((with_reducible apply Rd.rVar); (rfl); (rfl))
  | (with_reducible refine Rd.rC ?_)
  | (with_reducible refine Rd.rCons ?_)
  | (with_reducible refine Rd.rNil ?_)
  | (with_reducible refine Rd.rInts ?_)
  | (with_reducible refine Rd.rOp ?_)
  | (with_reducible refine Rd.rUn ?_)
  | (with_reducible refine Rd.rNeg ?_)
  | (with_reducible refine Rd.rTest ?_)
  | (with_reducible refine Rd.rB ?_)
  | (with_reducible refine Rd.rEx ?_)
  | (with_reducible refine Rd.rAnd ?_)
  | (with_reducible refine Rd.rOr ?_)
  | (with_reducible refine Rd.rNot ?_)
  | (with_reducible refine Rd.rYes ?_)
  | (with_reducible refine Rd.rAndV ?_)
  | (with_reducible refine Rd.rOrV ?_)
  | (with_reducible refine Rd.rNotV ?_)
  | (with_reducible refine Rd.rIfE ?_)
  | (with_reducible refine Rd.rTup ?_)
  | (with_reducible refine Rd.rLst ?_)
  | (with_reducible refine Rd.rFLst ?_)
  | ((with_reducible refine Rd.rSz ?_ ?_); (first | decide | exact of_decide_eq_true rfl))
  | (with_reducible refine Rd.rF ?_)
  | (with_reducible refine Rd.rCB ?_)
  | (with_reducible refine Rd.rCall ?_)
  | (with_reducible refine Rd.rSl ?_)
  | (with_reducible refine Rd.rNoP ?_)
  | (with_reducible refine Rd.rPart ?_)
  | (with_reducible refine Rd.rExI ?_)
  | (with_reducible refine Rd.rSub ?_)
  | (with_reducible refine Rd.rAdd ?_)
  | (with_reducible refine Rd.rLt ?_)
  | (with_reducible refine Rd.rEqI ?_)
  | (with_reducible refine Rd.rLenT ?_)
  | (with_reducible refine Rd.rLenL ?_)
  | (with_reducible refine Rd.rTupT ?_)
  | (with_reducible refine Rd.rTupL ?_)
  | (with_reducible refine Rd.rLstT ?_)
  | (with_reducible refine Rd.rLstL ?_)
  | (with_reducible refine Rd.rSeq ?_)
  | (with_reducible refine Rd.rNext ?_)
  | (with_reducible refine Rd.rRet ?_)
  | (with_reducible refine Rd.rIf ?_)
  | (with_reducible refine Rd.rAsg ?_)
  | ((with_reducible refine Rd.rKeep ?_ ?_); (first | exact Or.inl rfl | exact Or.inr rfl | assumption))
  | (with_reducible refine Rd.rNew ?_)
  | ((with_reducible refine Rd.rNewK ?_ ?_ ?_); (exact Nat.le_of_ble_eq_true rfl); (first | exact Or.inl rfl | exact Or.inr rfl | assumption))
  | (with_reducible refine Rd.rYesT ?_)
  | (with_reducible refine Rd.rNoT ?_)
  | (with_reducible refine Rd.rN1 ?_)
  | (with_reducible refine Rd.rN2 ?_)
  | (with_reducible refine Rd.rX1 ?_)
  | (with_reducible refine Rd.rX2 ?_)
  | (with_reducible refine Rd.rX3 ?_)
  | (with_reducible refine Rd.rX4 ?_)
  | (with_reducible refine Rd.rLc ?_)
  | (with_reducible refine Rd.rDn ?_)
  | (with_reducible refine Rd.rEnum ?_)
  | (with_reducible refine Rd.rSeqI ?_)
  | (with_reducible refine Rd.rDrop ?_)
  | (with_reducible refine Rd.rFor ?_)
  | ((with_reducible apply Rd.rVarI); (rfl); (rfl))
  | (with_reducible refine Rd.rGdN ?_)
  | ((with_reducible refine Rd.rGdT ?_ ?_); (rfl))
  | (with_reducible refine Rd.rRng ?_)
  | ((with_reducible refine Rd.rKeep ?_ ?_); (exact Or.inr (tI_good _).2.2)))
theorem ok_deed {d : Str} (h : isDeed d) : okD (.str d) := by
  refine ⟨?_, by simp only [D.dep]; omega⟩
  simp only [D.good]
  rcases h with rfl | rfl | rfl <;> decide +kernel
theorem eqD_str (s t : Str) : eqD (.str s) (.str t) = decide (s = t) := by
  show PyData.eqv _ _ = _
  simp only [D.py, PyData.eqv]
  by_cases c : s = t
  · rw [decide_eq_true c, c]
    exact beq_self_eq_true t
  · rw [decide_eq_false c]
    exact beq_eq_false_iff_ne.mpr c
theorem eq_str {neg : Bool} {s t : Str} {Q : D → Prop} (hs : isDeed s) (ht : isDeed t) (q : Q (.bl (xr neg (decide (s = t))))) : fEq neg (.str s) (.str t) Q := ⟨ok_deed hs, ok_deed ht, by rw [eqD_str]; exact q⟩
theorem ct_check_deed {K : PySem.W.Frag} {ds : List D} {Qd : D → Prop} {Ed : Exc → Prop} (h : C_check_deed K ds Qd Ed) : d_check_deed K (fun _ x => Ed x) (eK Qd) (startD N_check_deed ds) := by
  obtain ⟨d, rfl, hd, q⟩ := h
  unfold d_check_deed
  repeat decreasing_trivial_pre_omega
  have ok3 : okD (.tup ((["lesser", "odd", "common"] : List Str).map D.str)) := okD_tl (okD_lst fun x m => by
    obtain ⟨s, hs, rfl⟩ := List.mem_map.mp m
    have hs : isDeed s := by simpa [isDeed] using hs
    exact ⟨(ok_deed hs).1, by simp only [D.dep]; omega⟩)
  refine in_tup (ok_deed hd) ok3 ?_
  repeat decreasing_trivial_pre_omega
  have e : anyD ((["lesser", "odd", "common"] : List Str).map D.str) (.str d) = true := by
    show (eqD (.str "lesser") (.str d) || (eqD (.str "odd") (.str d) || (eqD (.str "common") (.str d) || false))) = true
    rw [eqD_str, eqD_str, eqD_str]
    rcases hd with rfl | rfl | rfl
    · rw [decide_eq_true rfl]; rfl
    · rw [decide_eq_true (p := ("odd" : Str) = "odd") rfl]; simp
    · rw [decide_eq_true (p := ("common" : Str) = "common") rfl]; simp
  refine it_f (by rw [e]; rfl) ?_
  repeat decreasing_trivial_pre_omega
  exact q
theorem mul3 {a : Int} (h : sm a) : CMulW 3 a := mulW (by decide) (Nat.lt_of_lt_of_le h (Nat.pow_le_pow_right (by decide) (by decide)))
theorem min_if (a b : Int) : (if b < a then b else a) = min a b := by
  split <;> omega
theorem sm_min {a b : Int} (ha : sm a) (hb : sm b) : sm (min a b) := by
  rcases Int.le_total a b with c | c
  · rw [Int.min_eq_left c]; exact ha
  · rw [Int.min_eq_right c]; exact hb
theorem ct__place_key {K : PySem.W.Frag} {ds : List D} {Qd : D → Prop} {Ed : Exc → Prop} (h : C__place_key K ds Qd Ed) : d__place_key K (fun _ x => Ed x) (eK Qd) (startD N__place_key ds) := by
  obtain ⟨d, a, b, rfl, hd, ha, hb, q⟩ := h
  unfold key off at q
  unfold d__place_key
  repeat decreasing_trivial_pre_omega
  refine ⟨a, b, rfl, ?_⟩
  rw [min_if]
  refine rFI (mul3 (sm_min ha hb)) ?_
  repeat decreasing_trivial_pre_omega
  refine eq_str hd (by first | exact Or.inl rfl | exact Or.inr (Or.inl rfl) | exact Or.inr (Or.inr rfl)) ?_
  repeat decreasing_trivial_pre_omega
  by_cases c1 : d = "odd"
  · have n1 : ¬ (d = "common" ∧ a ≠ b) := fun z => absurd (c1.symm.trans z.1) (by decide)
    refine it_t (by rw [decide_eq_true c1]; rfl) ?_
    repeat decreasing_trivial_pre_omega
    by_cases c2 : a = b
    · refine it_t (by rw [decide_eq_true c2]; rfl) ?_
      repeat decreasing_trivial_pre_omega
      rw [if_pos ⟨c1, c2⟩] at q
      exact q
    · refine it_f (by rw [decide_eq_false c2]; rfl) ?_
      repeat decreasing_trivial_pre_omega
      refine eq_str hd (by first | exact Or.inl rfl | exact Or.inr (Or.inl rfl) | exact Or.inr (Or.inr rfl)) ?_
      repeat decreasing_trivial_pre_omega
      refine it_f (by rw [decide_eq_false (fun z => absurd (c1.symm.trans z) (by decide))]; rfl) ?_
      repeat decreasing_trivial_pre_omega
      rw [if_neg (fun z => c2 z.2), if_neg n1, Int.add_zero] at q
      exact q
  · have n1 : ¬ (d = "odd" ∧ a = b) := fun z => c1 z.1
    rw [if_neg n1] at q
    refine it_f (by rw [decide_eq_false c1]; rfl) ?_
    repeat decreasing_trivial_pre_omega
    refine eq_str hd (by first | exact Or.inl rfl | exact Or.inr (Or.inl rfl) | exact Or.inr (Or.inr rfl)) ?_
    repeat decreasing_trivial_pre_omega
    by_cases c3 : d = "common"
    · refine it_t (by rw [decide_eq_true c3]; rfl) ?_
      repeat decreasing_trivial_pre_omega
      by_cases c2 : a = b
      · refine it_f (by rw [decide_eq_true c2]; rfl) ?_
        repeat decreasing_trivial_pre_omega
        rw [if_neg (fun z => z.2 c2), Int.add_zero] at q
        exact q
      · refine it_t (by rw [decide_eq_false c2]; rfl) ?_
        repeat decreasing_trivial_pre_omega
        rw [if_pos ⟨c3, c2⟩] at q
        by_cases c4 : b < a
        · refine it_t (decide_eq_true c4) ?_
          repeat decreasing_trivial_pre_omega
          rw [if_pos c4] at q
          exact q
        · refine it_f (decide_eq_false c4) ?_
          repeat decreasing_trivial_pre_omega
          rw [if_neg c4] at q
          exact q
    · refine it_f (by rw [decide_eq_false c3]; rfl) ?_
      repeat decreasing_trivial_pre_omega
      rw [if_neg (fun z => c3 z.1), Int.add_zero] at q
      exact q
theorem ct__law_key {K : PySem.W.Frag} {ds : List D} {Qd : D → Prop} {Ed : Exc → Prop} (h : C__law_key K ds Qd Ed) : d__law_key K (fun _ x => Ed x) (eK Qd) (startD N__law_key ds) := by
  obtain ⟨d, a, b, rfl, hd, ha, hb, q⟩ := h
  unfold key off at q
  unfold d__law_key
  repeat decreasing_trivial_pre_omega
  by_cases c2 : a = b
  · have em : min a b = a := by omega
    refine it_t (by rw [decide_eq_true c2]; rfl) ?_
    repeat decreasing_trivial_pre_omega
    refine rFI (mul3 ha) ?_
    repeat decreasing_trivial_pre_omega
    refine eq_str hd (by first | exact Or.inl rfl | exact Or.inr (Or.inl rfl) | exact Or.inr (Or.inr rfl)) ?_
    refine .inr ⟨_, rfl, ?_⟩
    repeat decreasing_trivial_pre_omega
    rw [em] at q
    by_cases c1 : d = "odd"
    · rw [if_pos ⟨c1, c2⟩] at q
      rw [if_pos (by rw [decide_eq_true c1]; rfl)]
      exact q
    · rw [if_neg (fun z => c1 z.1), if_neg (fun z => z.2 c2)] at q
      rw [if_neg (by rw [decide_eq_false c1]; decide)]
      exact q
  · rw [if_neg (fun z => c2 z.2)] at q
    refine it_f (by rw [decide_eq_false c2]; rfl) ?_
    repeat decreasing_trivial_pre_omega
    refine eq_str hd (by first | exact Or.inl rfl | exact Or.inr (Or.inl rfl) | exact Or.inr (Or.inr rfl)) ?_
    repeat decreasing_trivial_pre_omega
    by_cases c3 : d = "common"
    · rw [if_pos ⟨c3, c2⟩] at q
      refine it_t (by rw [decide_eq_true c3]; rfl) ?_
      repeat decreasing_trivial_pre_omega
      by_cases c4 : b < a
      · have em : min a b = b := by omega
        rw [if_pos c4, em] at q
        refine it_t (decide_eq_true c4) ?_
        repeat decreasing_trivial_pre_omega
        refine rFI (mul3 hb) ?_
        repeat decreasing_trivial_pre_omega
        exact q
      · have em : min a b = a := by omega
        rw [if_neg c4, em] at q
        refine it_f (decide_eq_false c4) ?_
        repeat decreasing_trivial_pre_omega
        refine rFI (mul3 ha) ?_
        repeat decreasing_trivial_pre_omega
        exact q
    · rw [if_neg (fun z => c3 z.1), Int.add_zero] at q
      refine it_f (by rw [decide_eq_false c3]; rfl) ?_
      repeat decreasing_trivial_pre_omega
      refine ⟨a, b, rfl, ?_⟩
      rw [min_if]
      refine rFI (mul3 (sm_min ha hb)) ?_
      exact q
end K09

namespace K09
open PySem PySem.Spec PyProof.Rows L2 Dl Ns Zs Zz Rd
local macro_rules
  | `(tactic| decreasing_trivial_pre_omega) => `(tactic| first
  | ((with_reducible apply Rd.rVar); (rfl); (rfl))
  | (with_reducible refine Rd.rC ?_)
  | (with_reducible refine Rd.rCons ?_)
  | (with_reducible refine Rd.rNil ?_)
  | (with_reducible refine Rd.rInts ?_)
  | (with_reducible refine Rd.rOp ?_)
  | (with_reducible refine Rd.rUn ?_)
  | (with_reducible refine Rd.rNeg ?_)
  | (with_reducible refine Rd.rTest ?_)
  | (with_reducible refine Rd.rB ?_)
  | (with_reducible refine Rd.rEx ?_)
  | (with_reducible refine Rd.rAnd ?_)
  | (with_reducible refine Rd.rOr ?_)
  | (with_reducible refine Rd.rNot ?_)
  | (with_reducible refine Rd.rYes ?_)
  | (with_reducible refine Rd.rAndV ?_)
  | (with_reducible refine Rd.rOrV ?_)
  | (with_reducible refine Rd.rNotV ?_)
  | (with_reducible refine Rd.rIfE ?_)
  | (with_reducible refine Rd.rTup ?_)
  | (with_reducible refine Rd.rLst ?_)
  | (with_reducible refine Rd.rFLst ?_)
  | ((with_reducible refine Rd.rSz ?_ ?_); (first | decide | exact of_decide_eq_true rfl))
  | (with_reducible refine Rd.rF ?_)
  | (with_reducible refine Rd.rCB ?_)
  | (with_reducible refine Rd.rCall ?_)
  | (with_reducible refine Rd.rSl ?_)
  | (with_reducible refine Rd.rNoP ?_)
  | (with_reducible refine Rd.rPart ?_)
  | (with_reducible refine Rd.rExI ?_)
  | (with_reducible refine Rd.rSub ?_)
  | (with_reducible refine Rd.rAdd ?_)
  | (with_reducible refine Rd.rLt ?_)
  | (with_reducible refine Rd.rEqI ?_)
  | (with_reducible refine Rd.rLenT ?_)
  | (with_reducible refine Rd.rLenL ?_)
  | (with_reducible refine Rd.rTupT ?_)
  | (with_reducible refine Rd.rTupL ?_)
  | (with_reducible refine Rd.rLstT ?_)
  | (with_reducible refine Rd.rLstL ?_)
  | (with_reducible refine Rd.rSeq ?_)
  | (with_reducible refine Rd.rNext ?_)
  | (with_reducible refine Rd.rRet ?_)
  | (with_reducible refine Rd.rIf ?_)
  | (with_reducible refine Rd.rAsg ?_)
  | ((with_reducible refine Rd.rKeep ?_ ?_); (first | exact Or.inl rfl | exact Or.inr rfl | assumption))
  | (with_reducible refine Rd.rNew ?_)
  | ((with_reducible refine Rd.rNewK ?_ ?_ ?_); (exact Nat.le_of_ble_eq_true rfl); (first | exact Or.inl rfl | exact Or.inr rfl | assumption))
  | (with_reducible refine Rd.rYesT ?_)
  | (with_reducible refine Rd.rNoT ?_)
  | (with_reducible refine Rd.rN1 ?_)
  | (with_reducible refine Rd.rN2 ?_)
  | (with_reducible refine Rd.rX1 ?_)
  | (with_reducible refine Rd.rX2 ?_)
  | (with_reducible refine Rd.rX3 ?_)
  | (with_reducible refine Rd.rX4 ?_)
  | (with_reducible refine Rd.rLc ?_)
  | (with_reducible refine Rd.rDn ?_)
  | (with_reducible refine Rd.rEnum ?_)
  | (with_reducible refine Rd.rSeqI ?_)
  | (with_reducible refine Rd.rDrop ?_)
  | (with_reducible refine Rd.rFor ?_)
  | ((with_reducible apply Rd.rVarI); (rfl); (rfl))
  | (with_reducible refine Rd.rGdN ?_)
  | ((with_reducible refine Rd.rGdT ?_ ?_); (rfl))
  | (with_reducible refine Rd.rRng ?_)
  | ((with_reducible refine Rd.rKeep ?_ ?_); (exact Or.inr (tI_good _).2.2)))
theorem sm_few {a : Int} (h0 : 0 ≤ a) (h1 : a < 64) : sm a := by
  have h : a.natAbs < 64 := by omega
  exact Nat.lt_of_lt_of_le h (Nat.pow_le_pow_right (n := 2) (i := 6) (by decide) (by decide))
theorem iM_bd {b : Int} {L : List Int} {x : Int} (few : L.length < 64) (h : x ∈ iM L b) : 0 ≤ x ∧ x < 64 := by
  obtain ⟨k, e, h1, _, rfl⟩ := mem_iMF.mp h
  have := (List.getElem?_eq_some_iff.mp h1).1
  omega
theorem lc_any {i : Nat} {te : TED} {env : DEnv} {Q : List D → Prop} {ns : List Int} (f : Int → D) (nl : ∀ n, (f n).noLst = true) (h : ∀ n ∈ ns, ∀ R : D → Prop, R (f n) → te (env.set i (.val (.int n))) R) (q : Q (ns.map f)) :
    lcD (gdName i) dYes te env (ns.map D.int) [] Q := by
  refine lcD_map (fun d => match d with | .int n => f n | _ => .non) (fun _ => true) _ [] (fun d hd R hR => ?_) ?_
  · obtain ⟨n, hn, rfl⟩ := List.mem_map.mp hd
    rw [if_pos rfl] at hR
    refine rGdN (rYes (rYesT ?_))
    exact h n hn _ ⟨nl n, hR⟩
  · rw [List.nil_append, List.filter_eq_self.mpr (fun _ _ => rfl), List.map_map]
    exact q
theorem nolT (ns : List Int) : (tI ns).noLst = true := nolI ns
theorem ct_deed_table {K : PySem.W.Frag} {ds : List D} {Qd : D → Prop} {Ed : Exc → Prop} (h : C_deed_table K ds Qd Ed) : d_deed_table K (fun _ x => Ed x) (eK Qd) (startD N_deed_table ds) := by
  obtain ⟨d, L, rfl, hd, few, q⟩ := h
  have l1 : (iM L 1).length ≤ L.length := iMF_len 1 0 L
  have l0 : (iM L 0).length ≤ L.length := iMF_len 0 0 L
  unfold d_deed_table
  repeat decreasing_trivial_pre_omega
  show dCall _ _ _ _ _ _
  repeat decreasing_trivial_pre_omega
  refine ⟨L, rfl, few, ?_⟩
  refine ⟨.inl rfl, ?_⟩
  repeat decreasing_trivial_pre_omega
  refine ⟨by rw [List.length_map]; omega, ?_⟩
  refine lc_any (fun a => tI ((iM L 0).map (key d a))) (fun a => nolT _) (fun a ha R hR => ?_) ?_
  · repeat decreasing_trivial_pre_omega
    refine ⟨by rw [List.length_map]; omega, ?_⟩
    refine lc_int (key d a) (fun b hb R2 hR2 => ?_) ?_
    · repeat decreasing_trivial_pre_omega
      have ba := iM_bd few ha
      have bb := iM_bd few hb
      exact ⟨d, a, b, rfl, hd, sm_few ba.1 ba.2, sm_few bb.1 bb.2, hR2⟩
    repeat decreasing_trivial_pre_omega
    exact hR
  repeat decreasing_trivial_pre_omega
  exact q
theorem zip_map : ∀ (ns ms : List Int), zipD (ns.map D.int) (ms.map D.int) = (List.zip ns ms).map fun p => D.tup [.int p.1, .int p.2]
  | [], _ => by simp [zipD]
  | _ :: _, [] => by simp [zipD]
  | n :: ns, m :: ms => by
    rw [List.map_cons, List.map_cons, zipD, zip_map ns ms, List.zip_cons_cons, List.map_cons]
theorem lc_zip {i j : Nat} {te : TED} {env : DEnv} {Q : List D → Prop} {ns ms : List Int} (f : Int → Int → Int) (h : ∀ a b, a ∈ ns → b ∈ ms → ∀ R : D → Prop, R (.int (f a b)) → te ((env.set i (.val (.int a))).set j (.val (.int b))) R) (q : Q ((List.zipWith f ns ms).map D.int)) :
    lcD (gdTup [i, j]) dYes te env (zipD (ns.map D.int) (ms.map D.int)) [] Q := by
  rw [zip_map]
  refine lcD_map (fun d => match d with | .tup [.int a, .int b] => .int (f a b) | _ => .non) (fun _ => true) _ [] (fun d hd R hR => ?_) ?_
  · obtain ⟨⟨a, b⟩, hp, rfl⟩ := List.mem_map.mp hd
    rw [if_pos rfl] at hR
    refine rGdT rfl (rYes (rYesT ?_))
    exact h a b (List.of_mem_zip hp).1 (List.of_mem_zip hp).2 _ ⟨rfl, hR⟩
  · rw [List.nil_append, List.filter_eq_self.mpr (fun _ _ => rfl), List.map_map]
    have e : List.map ((fun d => match d with | D.tup [.int a, .int b] => D.int (f a b) | _ => .non) ∘ fun p : Int × Int => D.tup [.int p.1, .int p.2]) (ns.zip ms) = (List.zipWith f ns ms).map D.int := by
      rw [List.zip, List.map_zipWith, List.map_zipWith]
      rfl
    rw [e]
    exact q
theorem atI_mapD {g : Int → D} {xs : List Int} {i : Int} (h0 : 0 ≤ i) (h1 : i < xs.length) : atI (xs.map g) i = some (g (at_ xs i)) := by
  have e : (i.toNat : Int) = i := Int.toNat_of_nonneg h0
  have hl : i.toNat < xs.length := by omega
  have := atI_nat (xs := xs.map g) (k := i.toNat) (by rw [List.length_map]; exact hl)
  rw [e] at this
  rw [this, List.getElem_map]
  obtain ⟨_, e2⟩ := List.getElem?_eq_some_iff.mp (at_get h0 h1)
  rw [e2]
theorem ct_made_by_table {K : PySem.W.Frag} {ds : List D} {Qd : D → Prop} {Ed : Exc → Prop} (h : C_made_by_table K ds Qd Ed) : d_made_by_table K (fun _ x => Ed x) (eK Qd) (startD N_made_by_table ds) := by
  obtain ⟨d, x, y, ns, ms, L, rfl, hx, hy, V, q⟩ := h
  have f1 := V.sa.few
  have f2 := V.sb.few
  unfold d_made_by_table
  repeat decreasing_trivial_pre_omega
  refine ⟨x, y, _, _, rfl, rfl, hx, hy, ?_⟩
  refine ⟨by rw [zipD_len, List.length_map, List.length_map]; omega, ?_⟩
  refine lc_zip (fun r b => key d (at_ (iM L 1) r) (at_ (iM L 0) b)) (fun a b ha hb R hR => ?_) ?_
  · have i1 := V.in1 ha
    have i0 := V.in0 hb
    repeat decreasing_trivial_pre_omega
    refine rIxT (show atI (tabD d L) a = some (tI ((iM L 0).map (key d (at_ (iM L 1) a)))) from atI_mapD (g := fun a => tI ((iM L 0).map (key d a))) i1.1 i1.2) ?_
    repeat decreasing_trivial_pre_omega
    refine rIxT (at_at (d := (iM L 0).map (key d (at_ (iM L 1) a))) i0.1 (by rw [List.length_map]; exact i0.2)) ?_
    rw [at_map i0.1 i0.2]
    exact hR
  repeat decreasing_trivial_pre_omega
  refine ⟨_, _, rfl, rfl, by rw [List.length_zipWith]; omega, ?_⟩
  have e : List.zipWith (fun r b => key d (at_ (iM L 1) r) (at_ (iM L 0) b)) ns ms = List.zipWith (key d) (mom L 1 ns) (mom L 0 ms) := by
    unfold mom
    rw [List.zipWith_map]
  rw [e]
  exact q
theorem ct_made_by {K : PySem.W.Frag} {ds : List D} {Qd : D → Prop} {Ed : Exc → Prop} (h : C_made_by K ds Qd Ed) : d_made_by K (fun _ x => Ed x) (eK Qd) (startD N_made_by ds) := by
  obtain ⟨d, x, y, z, ns, ms, L, rfl, hd, ⟨hx, hy, hz, V⟩, q⟩ := h
  have few := V.few
  unfold d_made_by
  repeat decreasing_trivial_pre_omega
  refine ⟨d, rfl, hd, ?_⟩
  repeat decreasing_trivial_pre_omega
  refine ⟨x, y, z, ns, ms, L, rfl, ⟨hx, hy, hz, V⟩, ?_⟩
  repeat decreasing_trivial_pre_omega
  refine ⟨d, L, rfl, hd, by omega, ?_⟩
  repeat decreasing_trivial_pre_omega
  exact ⟨d, x, y, ns, ms, L, rfl, hx, hy, V, q⟩
theorem places_few {ps : List Int} {n : Nat} (h : places ps n) : ps.length ≤ n := by
  have e := nat_nodup_len (ps.map Int.toNat) (List.range n) (by
    refine List.Pairwise.map (R := fun a b => a ≠ b ∧ 0 ≤ a ∧ 0 ≤ b) _ (fun a b hab => ?_) (h.2.imp_of_mem fun ha hb hne => ⟨hne, (h.1 _ ha).1, (h.1 _ hb).1⟩)
    omega) (fun x hx => by
      obtain ⟨p, hp, rfl⟩ := List.mem_map.mp hx
      have := h.1 p hp
      exact List.mem_range.mpr (by omega))
  rw [List.length_map, List.length_range] at e
  exact e
theorem anyD_int (ms : List Int) (m : Int) : anyD (ms.map D.int) (.int m) = decide (m ∈ ms) := by
  induction ms with
  | nil => rfl
  | cons a ms ih =>
    show (eqD (.int a) (.int m) || anyD (ms.map D.int) (.int m)) = _
    rw [ih, eqD_int]
    by_cases c : a = m
    · have e2 : decide (m ∈ a :: ms) = true := decide_eq_true (by rw [c]; exact List.mem_cons_self)
      rw [decide_eq_true c, e2]
      rfl
    · rw [decide_eq_false c, Bool.false_or]
      exact decide_eq_decide.mpr ⟨fun h => List.mem_cons_of_mem _ h, fun h => (List.mem_cons.mp h).elim (fun z => absurd z.symm c) id⟩
theorem places_ok {n : Nat} : ∀ {suf pre : List Int}, places (pre ++ suf) n → fstBad (fun pre d => !isWh d (.int 0) (.int ((n : Int) - 1)) || anyD pre d) (pre.map D.int) (suf.map D.int) = none
  | [], pre, _ => rfl
  | p :: suf, pre, h => by
    rw [List.map_cons, fstBad_cons]
    obtain ⟨h0, h1⟩ := h.1 p (by simp)
    have w : isWh (.int p) (.int 0) (.int ((n : Int) - 1)) = true := by
      show (decide ((0 : Int) ≤ p) && decide (p ≤ (n : Int) - 1)) = true
      rw [decide_eq_true h0, decide_eq_true (by omega)]
      rfl
    have na : p ∉ pre := fun hp => by
      have := (List.nodup_append.mp h.2).2.2 p hp p List.mem_cons_self
      exact this rfl
    have e : anyD (pre.map D.int) (.int p) = false := by rw [anyD_int, decide_eq_false na]
    rw [w, e, if_neg (by decide)]
    have := places_ok (n := n) (suf := suf) (pre := pre ++ [p]) (by rw [List.append_assoc]; exact h)
    rw [List.map_append] at this
    exact this
theorem ct_cut_lining {K : PySem.W.Frag} {ds : List D} {Qd : D → Prop} {Ed : Exc → Prop} (h : C_cut_lining K ds Qd Ed) : d_cut_lining K (fun _ x => Ed x) (eK Qd) (startD N_cut_lining ds) := by
  obtain ⟨x, y, z, p, ns, ms, L, ps, rfl, ⟨hx, hy, hz, V⟩, hp, pl, q⟩ := h
  have f1 := V.sa.few
  have pf := places_few pl
  have l := V.len
  unfold d_cut_lining
  repeat decreasing_trivial_pre_omega
  show dCall _ _ _ _ _ _
  repeat decreasing_trivial_pre_omega
  refine ⟨x, y, z, ns, ms, L, rfl, ⟨hx, hy, hz, V⟩, ?_⟩
  refine ⟨.inl rfl, ?_⟩
  repeat decreasing_trivial_pre_omega
  rw [List.length_map, mom_len]
  refine ⟨p, _, rfl, ?_, ?_⟩
  · rcases isSeqI_cases hp with rfl | rfl <;> rfl
  rw [hp]
  dsimp only
  refine ⟨fun d hd => ?_, okL_ints ps, ?_⟩
  · obtain ⟨n, _, rfl⟩ := List.mem_map.mp hd
    rfl
  rw [show fstBad _ [] (ps.map D.int) = none from places_ok (pre := []) pl]
  dsimp only
  repeat decreasing_trivial_pre_omega
  refine ⟨by rw [List.length_map]; omega, ?_⟩
  refine lc_int (at_ (mom L 1 ns)) (fun n hn R hR => ?_) ?_
  · have := pl.1 n hn
    repeat decreasing_trivial_pre_omega
    exact rIxT (at_at this.1 (by rw [mom_len]; exact this.2)) hR
  repeat decreasing_trivial_pre_omega
  refine ⟨by rw [List.length_map]; omega, ?_⟩
  refine lc_int (at_ (mom L 0 ms)) (fun n hn R hR => ?_) ?_
  · have := pl.1 n hn
    repeat decreasing_trivial_pre_omega
    exact rIxT (at_at this.1 (by rw [mom_len, ← l]; exact this.2)) hR
  repeat decreasing_trivial_pre_omega
  exact ⟨_, _, _, _, rfl, rfl, rfl, by rw [List.length_map, List.length_map], by rw [List.length_map]; omega, q⟩
end K09

namespace K09
open PySem PySem.Spec PyProof.Rows L2 Dl Ns Zs Zz Rd
local macro_rules
  | `(tactic| decreasing_trivial_pre_omega) => `(tactic| first
  | ((with_reducible apply Rd.rVar); (rfl); (rfl))
  | (with_reducible refine Rd.rC ?_)
  | (with_reducible refine Rd.rCons ?_)
  | (with_reducible refine Rd.rNil ?_)
  | (with_reducible refine Rd.rInts ?_)
  | (with_reducible refine Rd.rOp ?_)
  | (with_reducible refine Rd.rUn ?_)
  | (with_reducible refine Rd.rNeg ?_)
  | (with_reducible refine Rd.rTest ?_)
  | (with_reducible refine Rd.rB ?_)
  | (with_reducible refine Rd.rEx ?_)
  | (with_reducible refine Rd.rAnd ?_)
  | (with_reducible refine Rd.rOr ?_)
  | (with_reducible refine Rd.rNot ?_)
  | (with_reducible refine Rd.rYes ?_)
  | (with_reducible refine Rd.rAndV ?_)
  | (with_reducible refine Rd.rOrV ?_)
  | (with_reducible refine Rd.rNotV ?_)
  | (with_reducible refine Rd.rIfE ?_)
  | (with_reducible refine Rd.rTup ?_)
  | (with_reducible refine Rd.rLst ?_)
  | (with_reducible refine Rd.rFLst ?_)
  | ((with_reducible refine Rd.rSz ?_ ?_); (first | decide | exact of_decide_eq_true rfl))
  | (with_reducible refine Rd.rF ?_)
  | (with_reducible refine Rd.rCB ?_)
  | (with_reducible refine Rd.rCall ?_)
  | (with_reducible refine Rd.rSl ?_)
  | (with_reducible refine Rd.rNoP ?_)
  | (with_reducible refine Rd.rPart ?_)
  | (with_reducible refine Rd.rExI ?_)
  | (with_reducible refine Rd.rSub ?_)
  | (with_reducible refine Rd.rAdd ?_)
  | (with_reducible refine Rd.rLt ?_)
  | (with_reducible refine Rd.rEqI ?_)
  | (with_reducible refine Rd.rLenT ?_)
  | (with_reducible refine Rd.rLenL ?_)
  | (with_reducible refine Rd.rTupT ?_)
  | (with_reducible refine Rd.rTupL ?_)
  | (with_reducible refine Rd.rLstT ?_)
  | (with_reducible refine Rd.rLstL ?_)
  | (with_reducible refine Rd.rSeq ?_)
  | (with_reducible refine Rd.rNext ?_)
  | (with_reducible refine Rd.rRet ?_)
  | (with_reducible refine Rd.rIf ?_)
  | (with_reducible refine Rd.rAsg ?_)
  | ((with_reducible refine Rd.rKeep ?_ ?_); (first | exact Or.inl rfl | exact Or.inr rfl | assumption))
  | (with_reducible refine Rd.rNew ?_)
  | ((with_reducible refine Rd.rNewK ?_ ?_ ?_); (exact Nat.le_of_ble_eq_true rfl); (first | exact Or.inl rfl | exact Or.inr rfl | assumption))
  | (with_reducible refine Rd.rYesT ?_)
  | (with_reducible refine Rd.rNoT ?_)
  | (with_reducible refine Rd.rN1 ?_)
  | (with_reducible refine Rd.rN2 ?_)
  | (with_reducible refine Rd.rX1 ?_)
  | (with_reducible refine Rd.rX2 ?_)
  | (with_reducible refine Rd.rX3 ?_)
  | (with_reducible refine Rd.rX4 ?_)
  | (with_reducible refine Rd.rLc ?_)
  | (with_reducible refine Rd.rDn ?_)
  | (with_reducible refine Rd.rEnum ?_)
  | (with_reducible refine Rd.rSeqI ?_)
  | (with_reducible refine Rd.rDrop ?_)
  | (with_reducible refine Rd.rFor ?_)
  | ((with_reducible apply Rd.rVarI); (rfl); (rfl))
  | (with_reducible refine Rd.rGdN ?_)
  | ((with_reducible refine Rd.rGdT ?_ ?_); (rfl))
  | (with_reducible refine Rd.rRng ?_)
  | ((with_reducible refine Rd.rKeep ?_ ?_); (exact Or.inr (tI_good _).2.2)))
theorem ct__law_pick {K : PySem.W.Frag} {hd : Addr} {ds : List D} {Qd : D → Prop} {Ed : Exc → Prop} (h : C__law_pick K hd ds Qd Ed) : d__law_pick K hd (fun _ x => Ed x) (eK Qd) (startD N__law_pick ds) := by
  obtain ⟨ns, rfl, ne, few, q⟩ := h
  have pos : 0 < ns.length := List.length_pos_iff.mpr ne
  unfold d__law_pick
  repeat decreasing_trivial_pre_omega
  rw [List.length_map]
  refine ⟨_, rfl, by omega, ?_, fun r r0 r1 => ?_⟩
  · exact Int.lt_trans (show (ns.length : Int) < 64 by omega) (by decide)
  · refine rIxL (at_at r0 r1) (q _ ?_)
    exact List.mem_of_getElem? (at_get r0 r1)
theorem ct__law_is_row {K : PySem.W.Frag} {ds : List D} {Qd : D → Prop} {Ed : Exc → Prop} (h : C__law_is_row K ds Qd Ed) : d__law_is_row K (fun _ x => Ed x) (eK Qd) (startD N__law_is_row ds) := by
  obtain ⟨ns, rfl, few, q⟩ := h
  unfold d__law_is_row
  repeat decreasing_trivial_pre_omega
  refine ⟨_, _, rfl, _, rfl, by decide, ?_⟩
  refine ⟨_, rfl, ?_⟩
  refine it_t (by decide) ?_
  repeat decreasing_trivial_pre_omega
  refine ⟨by rw [List.length_map]; omega, lcD_map (fun d => d) (fun _ => false) _ [] (fun d hd R hR => ?_) ?_⟩
  · obtain ⟨n, hn, rfl⟩ := List.mem_map.mp hd
    repeat decreasing_trivial_pre_omega
    refine ⟨_, rfl, rfl, ?_⟩
    refine ⟨_, rfl, ?_⟩
    refine it_f (by rfl) ?_
    exact hR
  · have e : (ns.map D.int).filter (fun _ => false) = [] := List.filter_eq_nil_iff.mpr fun _ _ => Bool.false_ne_true
    rw [e, List.map_nil, List.append_nil]
    repeat decreasing_trivial_pre_omega
    refine ⟨okL_ints [], okL_ints [], ?_⟩
    have e9 : eqD (D.lst []) (D.lst []) = true := eqD_refl (okL_ints []).1
    rw [e9]
    exact q
theorem ct__law_exchanged {K : PySem.W.Frag} {ds : List D} {Qd : D → Prop} {Ed : Exc → Prop} (h : C__law_exchanged K ds Qd Ed) : d__law_exchanged K (fun _ x => Ed x) (eK Qd) (startD N__law_exchanged ds) := by
  obtain ⟨L, rfl, ent, few, q⟩ := h
  unfold d__law_exchanged
  repeat decreasing_trivial_pre_omega
  refine ⟨by rw [List.length_map]; omega, ?_⟩
  refine lc_int (fun e => if e = 2 then 2 else 1 - e) (fun e he R hR => ?_) ?_
  · repeat decreasing_trivial_pre_omega
    by_cases c : e = 2
    · refine it_t (by rw [decide_eq_true c]; rfl) ?_
      repeat decreasing_trivial_pre_omega
      rw [if_pos c] at hR
      exact hR
    · refine it_f (by rw [decide_eq_false c]; rfl) ?_
      repeat decreasing_trivial_pre_omega
      rw [if_neg c] at hR
      exact hR
  repeat decreasing_trivial_pre_omega
  exact q
theorem in_two {e b : Int} {Q : D → Prop} (he : e = 0 ∨ e = 1 ∨ e = 2) (hb : (b = 0 ∨ b = 1)) (q : Q (.bl (decide (e ≠ 1 - b)))) : fIn false (.int e) (.tup [.int b, .int 2]) Q := by
  refine in_seq (ms := [b, 2]) rfl ?_
  have : xr false (decide (e ∈ [b, 2])) = decide (e ≠ 1 - b) := by
    show decide (e ∈ [b, 2]) = _
    refine decide_eq_decide.mpr ?_
    simp only [List.mem_cons, List.not_mem_nil, or_false]
    omega
  rw [this]
  exact q
theorem iMF_snoc (b : Int) : ∀ (L : List Int) (i : Nat) (e : Int), iMF b i (L ++ [e]) = iMF b i L ++ (if e = b then [] else [((i + L.length : Nat) : Int)])
  | [], i, e => by
    show (if e = b then iMF b (i + 1) [] else (i : Int) :: iMF b (i + 1) []) = _
    split <;> rfl
  | x :: L, i, e => by
    have ih := iMF_snoc b L (i + 1) e
    show (if x = b then iMF b (i + 1) (L ++ [e]) else (i : Int) :: iMF b (i + 1) (L ++ [e])) = (if x = b then iMF b (i + 1) L else (i : Int) :: iMF b (i + 1) L) ++ _
    rw [ih, List.length_cons, show i + 1 + L.length = i + (L.length + 1) by omega]
    split <;> rfl
theorem mom_loop {tb : TSD} {Dd : DEnds} {x y z : D} {L : List Int} {s6 : Slot}
    (step : ∀ (pre : List Int) (e : Int) (suf : List Int) (nx : DEnv → Prop), L = pre ++ e :: suf → (∀ s5, nx [.val x, .val y, .val z, .own ((iM (pre ++ [e]) 1).map D.int), .own ((iM (pre ++ [e]) 0).map D.int), s5, s6]) →
      tb { Dd with nx := nx, ct := nx, bk := Dd.nx } [.val x, .val y, .val z, .own ((iM pre 1).map D.int), .own ((iM pre 0).map D.int), .val (.int (pre.length : Nat)), s6])
    (fin : ∀ s5, Dd.nx [.val x, .val y, .val z, .own ((iM L 1).map D.int), .own ((iM L 0).map D.int), s5, s6]) :
    ∀ (suf pre : List Int) (s5 : Slot), L = pre ++ suf → forD (gdName 5) tb Dd (rngD pre.length suf.length) [.val x, .val y, .val z, .own ((iM pre 1).map D.int), .own ((iM pre 0).map D.int), s5, s6]
  | [], pre, s5, e => by
    rw [List.append_nil] at e
    subst e
    exact fin s5
  | a :: suf, pre, s5, e => by
    rw [List.length_cons, rngD_cons]
    refine step pre a suf _ e fun s5 => ?_
    have := mom_loop step fin suf (pre ++ [a]) s5 (by rw [e, List.append_assoc]; rfl)
    rw [List.length_append] at this
    exact this
theorem ct__law_moments {K : PySem.W.Frag} {ds : List D} {Qd : D → Prop} {Ed : Exc → Prop} (h : C__law_moments K ds Qd Ed) : d__law_moments K (fun _ x => Ed x) (eK Qd) (startD N__law_moments ds) := by
  obtain ⟨x, y, z, ns, ms, L, rfl, ⟨hx, hy, hz, V⟩, q⟩ := h
  have few := V.few
  have f1 := V.sa.few
  have f2 := V.sb.few
  unfold d__law_moments
  repeat decreasing_trivial_pre_omega
  refine len_seq hz ?_
  repeat decreasing_trivial_pre_omega
  refine ⟨(L.length : Int), rfl, by omega, ?_⟩
  have e0 : rngD 0 (Int.toNat (L.length : Int)) = rngD (([] : List Int).length : Nat) L.length := rfl
  rw [e0]
  refine mom_loop (L := L) (fun pre e suf nx eL kk => ?_) (fun s5 => ?_) L [] _ rfl
  · have he := V.lin.ent e (by rw [eL]; simp)
    have hl : pre.length < L.length := by rw [eL, List.length_append, List.length_cons]; omega
    have ea : at_ L (pre.length : Nat) = e := by
      unfold at_
      rw [eL]
      simp
    have sz : ∀ b, ((iM pre b).map D.int).length < sizeLine := fun b => by
      have := iMF_len b 0 pre
      rw [List.length_map]
      exact Nat.lt_of_lt_of_le (show (iM pre b).length < 1000 from by
        have : (iM pre b).length ≤ pre.length := this
        omega) (by decide)
    have k1 : (iM (pre ++ [e]) 1).map D.int = (iM pre 1).map D.int ++ (if e = 1 then [] else [D.int (pre.length : Nat)]) := by
      rw [iM, iMF_snoc, List.map_append, Nat.zero_add]
      split <;> rfl
    have k0 : (iM (pre ++ [e]) 0).map D.int = (iM pre 0).map D.int ++ (if e = 0 then [] else [D.int (pre.length : Nat)]) := by
      rw [iM, iMF_snoc, List.map_append, Nat.zero_add]
      split <;> rfl
    rw [k1, k0] at kk
    have kk := kk (.val (.int (pre.length : Nat)))
    have second : ∀ (xs : List D), nx [.val x, .val y, .val z, .own xs, .own ((iM pre 0).map D.int ++ (if e = 0 then [] else [D.int (pre.length : Nat)])), .val (.int (pre.length : Nat)), Slot.no] →
        True := fun _ _ => trivial
    repeat decreasing_trivial_pre_omega
    refine ix_seq hz (by omega) (by omega) ?_
    rw [ea]
    repeat decreasing_trivial_pre_omega
    refine in_two (b := 0) he (.inl rfl) ?_
    repeat decreasing_trivial_pre_omega
    by_cases c1 : e = 1
    · refine it_f (decide_eq_false (by omega)) ?_
      repeat decreasing_trivial_pre_omega
      refine ix_seq hz (by omega) (by omega) ?_
      rw [ea]
      repeat decreasing_trivial_pre_omega
      refine in_two (b := 1) he (.inr rfl) ?_
      repeat decreasing_trivial_pre_omega
      refine it_t (decide_eq_true (by omega)) ?_
      refine rApp rfl ?_
      repeat decreasing_trivial_pre_omega
      refine ⟨rfl, sz 0, ?_⟩
      rw [if_pos c1, if_neg (by omega), List.append_nil] at kk
      exact kk
    · refine it_t (decide_eq_true (by omega)) ?_
      refine rApp rfl ?_
      repeat decreasing_trivial_pre_omega
      refine ⟨rfl, sz 1, ?_⟩
      rw [if_neg c1] at kk
      repeat decreasing_trivial_pre_omega
      refine ix_seq hz (by omega) (by omega) ?_
      rw [ea]
      repeat decreasing_trivial_pre_omega
      refine in_two (b := 1) he (.inr rfl) ?_
      repeat decreasing_trivial_pre_omega
      by_cases c0 : e = 0
      · refine it_f (decide_eq_false (by omega)) ?_
        rw [if_pos c0, List.append_nil] at kk
        exact kk
      · refine it_t (decide_eq_true (by omega)) ?_
        refine rApp rfl ?_
        repeat decreasing_trivial_pre_omega
        refine ⟨rfl, sz 0, ?_⟩
        rw [if_neg c0] at kk
        exact kk
  · repeat decreasing_trivial_pre_omega
    refine idv rfl hx ⟨by rw [List.length_map]; omega, ?_⟩
    refine lc_int (at_ (iM L 1)) (fun n hn R hR => ?_) ?_
    · repeat decreasing_trivial_pre_omega
      exact rIxL (at_at (V.in1 hn).1 (V.in1 hn).2) hR
    repeat decreasing_trivial_pre_omega
    refine idv rfl hy ⟨by rw [List.length_map]; omega, ?_⟩
    refine lc_int (at_ (iM L 0)) (fun n hn R hR => ?_) ?_
    · repeat decreasing_trivial_pre_omega
      exact rIxL (at_at (V.in0 hn).1 (V.in0 hn).2) hR
    repeat decreasing_trivial_pre_omega
    exact q
theorem ct__law_made {K : PySem.W.Frag} {ds : List D} {Qd : D → Prop} {Ed : Exc → Prop} (h : C__law_made K ds Qd Ed) : d__law_made K (fun _ x => Ed x) (eK Qd) (startD N__law_made ds) := by
  obtain ⟨d, x, y, z, ns, ms, L, rfl, hd, ⟨hx, hy, hz, V⟩, q⟩ := h
  have few := V.few
  have f1 := V.sa.few
  have l := V.len
  unfold d__law_made
  repeat decreasing_trivial_pre_omega
  show dCall _ _ _ _ _ _
  repeat decreasing_trivial_pre_omega
  refine ⟨x, y, z, ns, ms, L, rfl, ⟨hx, hy, hz, V⟩, ?_⟩
  refine ⟨.inl rfl, ?_⟩
  repeat decreasing_trivial_pre_omega
  refine len_seq hx ?_
  repeat decreasing_trivial_pre_omega
  refine ⟨(ns.length : Int), rfl, by omega, ?_⟩
  have m1 := mom_len L 1 ns
  have m0 := mom_len L 0 ms
  have bd1 : ∀ a ∈ mom L 1 ns, sm a := fun a ha => by
    obtain ⟨r, hr, rfl⟩ := List.mem_map.mp ha
    have i1 := V.in1 hr
    have b := iM_bd (by omega) (List.mem_of_getElem? (at_get i1.1 i1.2))
    exact sm_few b.1 b.2
  have bd0 : ∀ a ∈ mom L 0 ms, sm a := fun a ha => by
    obtain ⟨r, hr, rfl⟩ := List.mem_map.mp ha
    have i0 := V.in0 hr
    have b := iM_bd (by omega) (List.mem_of_getElem? (at_get i0.1 i0.2))
    exact sm_few b.1 b.2
  have e1 : rngD 0 (Int.toNat (ns.length : Int)) = ((List.range ns.length).map fun i => ((i : Nat) : Int)).map D.int := by
    rw [rngD, List.map_map]
    refine List.map_congr_left fun i _ => ?_
    show D.int (0 + (i : Int)) = D.int i
    rw [Int.zero_add]
  rw [e1]
  refine ⟨by rw [List.length_map, List.length_map, List.length_range]; omega, ?_⟩
  refine lc_int (fun i => key d (at_ (mom L 1 ns) i) (at_ (mom L 0 ms) i)) (fun i hi R hR => ?_) ?_
  · obtain ⟨k, hk, rfl⟩ := List.mem_map.mp hi
    have hk := List.mem_range.mp hk
    repeat decreasing_trivial_pre_omega
    refine rIxL (at_at (d := mom L 1 ns) (by omega) (by omega)) ?_
    repeat decreasing_trivial_pre_omega
    refine rIxL (at_at (d := mom L 0 ms) (by omega) (by omega)) ?_
    repeat decreasing_trivial_pre_omega
    exact ⟨d, _, _, rfl, hd, bd1 _ (List.mem_of_getElem? (at_get (by omega) (by omega))), bd0 _ (List.mem_of_getElem? (at_get (by omega) (by omega))), hR⟩
  repeat decreasing_trivial_pre_omega
  refine ⟨_, _, rfl, rfl, by rw [List.length_map, List.length_map, List.length_range]; omega, ?_⟩
  have e2 : ((List.range ns.length).map fun i => ((i : Nat) : Int)).map (fun i => key d (at_ (mom L 1 ns) i) (at_ (mom L 0 ms) i)) = List.zipWith (key d) (mom L 1 ns) (mom L 0 ms) := by
    apply List.ext_getElem?
    intro i
    rw [List.map_map, List.getElem?_map, List.getElem?_zipWith]
    by_cases c : i < ns.length
    · have h1 := at_get (xs := mom L 1 ns) (i := (i : Int)) (by omega) (by omega)
      have h0 := at_get (xs := mom L 0 ms) (i := (i : Int)) (by omega) (by omega)
      rw [Int.toNat_natCast] at h1 h0
      rw [h1, h0, List.getElem?_range c]
      rfl
    · rw [List.getElem?_eq_none (by rw [List.length_range]; omega), List.getElem?_eq_none (l := mom L 1 ns) (by omega)]
      rfl
  rw [e2]
  exact q
end K09

namespace K09
open PySem PySem.Spec PyProof.Rows L2 Dl Ns Zs Zz Rd
local macro_rules
  | `(tactic| decreasing_trivial_pre_omega) => `(tactic| first
  | ((with_reducible apply Rd.rVar); (rfl); (rfl))
  | (with_reducible refine Rd.rC ?_)
  | (with_reducible refine Rd.rCons ?_)
  | (with_reducible refine Rd.rNil ?_)
  | (with_reducible refine Rd.rInts ?_)
  | (with_reducible refine Rd.rOp ?_)
  | (with_reducible refine Rd.rUn ?_)
  | (with_reducible refine Rd.rNeg ?_)
  | (with_reducible refine Rd.rTest ?_)
  | (with_reducible refine Rd.rB ?_)
  | (with_reducible refine Rd.rEx ?_)
  | (with_reducible refine Rd.rAnd ?_)
  | (with_reducible refine Rd.rOr ?_)
  | (with_reducible refine Rd.rNot ?_)
  | (with_reducible refine Rd.rYes ?_)
  | (with_reducible refine Rd.rAndV ?_)
  | (with_reducible refine Rd.rOrV ?_)
  | (with_reducible refine Rd.rNotV ?_)
  | (with_reducible refine Rd.rIfE ?_)
  | (with_reducible refine Rd.rTup ?_)
  | (with_reducible refine Rd.rLst ?_)
  | (with_reducible refine Rd.rFLst ?_)
  | ((with_reducible refine Rd.rSz ?_ ?_); (first | decide | exact of_decide_eq_true rfl))
  | (with_reducible refine Rd.rF ?_)
  | (with_reducible refine Rd.rCB ?_)
  | (with_reducible refine Rd.rCall ?_)
  | (with_reducible refine Rd.rSl ?_)
  | (with_reducible refine Rd.rNoP ?_)
  | (with_reducible refine Rd.rPart ?_)
  | (with_reducible refine Rd.rExI ?_)
  | (with_reducible refine Rd.rSub ?_)
  | (with_reducible refine Rd.rAdd ?_)
  | (with_reducible refine Rd.rLt ?_)
  | (with_reducible refine Rd.rEqI ?_)
  | (with_reducible refine Rd.rLenT ?_)
  | (with_reducible refine Rd.rLenL ?_)
  | (with_reducible refine Rd.rTupT ?_)
  | (with_reducible refine Rd.rTupL ?_)
  | (with_reducible refine Rd.rLstT ?_)
  | (with_reducible refine Rd.rLstL ?_)
  | (with_reducible refine Rd.rSeq ?_)
  | (with_reducible refine Rd.rNext ?_)
  | (with_reducible refine Rd.rRet ?_)
  | (with_reducible refine Rd.rIf ?_)
  | (with_reducible refine Rd.rAsg ?_)
  | ((with_reducible refine Rd.rKeep ?_ ?_); (first | exact Or.inl rfl | exact Or.inr rfl | assumption))
  | (with_reducible refine Rd.rNew ?_)
  | ((with_reducible refine Rd.rNewK ?_ ?_ ?_); (exact Nat.le_of_ble_eq_true rfl); (first | exact Or.inl rfl | exact Or.inr rfl | assumption))
  | (with_reducible refine Rd.rYesT ?_)
  | (with_reducible refine Rd.rNoT ?_)
  | (with_reducible refine Rd.rN1 ?_)
  | (with_reducible refine Rd.rN2 ?_)
  | (with_reducible refine Rd.rX1 ?_)
  | (with_reducible refine Rd.rX2 ?_)
  | (with_reducible refine Rd.rX3 ?_)
  | (with_reducible refine Rd.rX4 ?_)
  | (with_reducible refine Rd.rLc ?_)
  | (with_reducible refine Rd.rDn ?_)
  | (with_reducible refine Rd.rEnum ?_)
  | (with_reducible refine Rd.rSeqI ?_)
  | (with_reducible refine Rd.rDrop ?_)
  | (with_reducible refine Rd.rFor ?_)
  | ((with_reducible apply Rd.rVarI); (rfl); (rfl))
  | (with_reducible refine Rd.rGdN ?_)
  | ((with_reducible refine Rd.rGdT ?_ ?_); (rfl))
  | (with_reducible refine Rd.rRng ?_)
  | ((with_reducible refine Rd.rKeep ?_ ?_); (exact Or.inr (tI_good _).2.2)))
structure Way (f s : Int) (acc : List Int) (f' s' : Int) : Prop where
  ent : ∀ e ∈ acc, e = 0 ∨ e = 1 ∨ e = 2
  one : ((iM acc 1).length : Int) + f' = f
  two : ((iM acc 0).length : Int) + s' = s
  f0 : 0 ≤ f'
  s0 : 0 ≤ s'
theorem Way.more {f s : Int} {acc : List Int} {f' s' e : Int} (W : Way f s acc f' s') (he : e = 0 ∨ e = 1 ∨ e = 2) (h1 : 0 ≤ f' - (if e = 1 then 0 else 1)) (h2 : 0 ≤ s' - (if e = 0 then 0 else 1)) :
    Way f s (acc ++ [e]) (f' - (if e = 1 then 0 else 1)) (s' - (if e = 0 then 0 else 1)) where
  ent x hx := by
    rcases List.mem_append.mp hx with hx | hx
    · exact W.ent x hx
    · rw [List.mem_singleton.mp hx]; exact he
  one := by
    have : ((iMF 1 0 acc).length : Int) + f' = f := W.one
    rw [iM, iMF_snoc, List.length_append]
    split <;> simp only [List.length_nil, List.length_cons] <;> omega
  two := by
    have : ((iMF 0 0 acc).length : Int) + s' = s := W.two
    rw [iM, iMF_snoc, List.length_append]
    split <;> simp only [List.length_nil, List.length_cons] <;> omega
  f0 := h1
  s0 := h2
theorem draw_loop {tb : TSD} {Dd : DEnds} {hd : Addr} {f s : Int}
    (step : ∀ (acc : List Int) (f' s' k : Int) (s5 : Slot) (nx : DEnv → Prop), Way f s acc f' s' → (f' + s' = 0 → ∀ s4 s5, nx [.val (.ref hd), .val (.int f'), .val (.int s'), .own (acc.map D.int), s4, s5]) →
      (∀ e, (e = 0 ∨ e = 1 ∨ e = 2) → 0 < f' + s' → 0 ≤ f' - (if e = 1 then 0 else 1) → 0 ≤ s' - (if e = 0 then 0 else 1) → ∀ s4 s5, nx [.val (.ref hd), .val (.int (f' - (if e = 1 then 0 else 1))), .val (.int (s' - (if e = 0 then 0 else 1))), .own ((acc ++ [e]).map D.int), s4, s5]) →
      tb { Dd with nx := nx, ct := nx, bk := Dd.nx } [.val (.ref hd), .val (.int f'), .val (.int s'), .own (acc.map D.int), .val (.int k), s5])
    (fin : ∀ acc, Lin f s acc → ∀ s4 s5, Dd.nx [.val (.ref hd), .val (.int 0), .val (.int 0), .own (acc.map D.int), s4, s5]) :
    ∀ (r : Nat) (k : Int) (acc : List Int) (f' s' : Int) (s4 s5 : Slot), Way f s acc f' s' → f' + s' ≤ r → forD (gdName 4) tb Dd (rngD k r) [.val (.ref hd), .val (.int f'), .val (.int s'), .own (acc.map D.int), s4, s5]
  | 0, k, acc, f', s', s4, s5, W, h => by
    have a := W.f0
    have b := W.s0
    have e1 : f' = 0 := by omega
    have e2 : s' = 0 := by omega
    subst e1 e2
    exact fin acc ⟨W.ent, by have := W.one; omega, by have := W.two; omega⟩ s4 s5
  | r + 1, k, acc, f', s', s4, s5, W, h => by
    rw [rngD_cons]
    have a := W.f0
    have b := W.s0
    refine step acc f' s' k s5 _ W (fun z s4 s5 => ?_) (fun e he pos h1 h2 s4 s5 => ?_)
    · exact draw_loop step fin r _ acc f' s' s4 s5 W (by omega)
    · refine draw_loop step fin r _ (acc ++ [e]) _ _ s4 s5 (W.more he h1 h2) ?_
      rcases he with rfl | rfl | rfl
      · rw [if_neg (by decide), if_pos rfl]; omega
      · rw [if_pos rfl, if_neg (by decide)]; omega
      · rw [if_neg (by decide), if_neg (by decide)]; omega
theorem int_b {c : Bool} {Q : D → Prop} (q : Q (.int (if c = true then 1 else 0))) : bIntB [.bl c] Q := .inr ⟨c, rfl, q⟩
theorem ct__law_lining {K : PySem.W.Frag} {hd : Addr} {ds : List D} {Qd : D → Prop} {Ed : Exc → Prop} (h : C__law_lining K hd ds Qd Ed) : d__law_lining K hd (fun _ x => Ed x) (eK Qd) (startD N__law_lining ds) := by
  obtain ⟨f, s, rfl, f0, f1, s0, s1, q⟩ := h
  unfold d__law_lining
  repeat decreasing_trivial_pre_omega
  refine ⟨f + s, rfl, by omega, ?_⟩
  refine draw_loop (f := f) (s := s) (fun acc f' s' k s5 nx W k0 k1 => ?_) (fun acc hl s4 s5 => ?_) (f + s).toNat 0 [] f s _ _ ⟨fun e he => (by cases he), by show (0 : Int) + f = f; omega, by show (0 : Int) + s = s; omega, f0, s0⟩ (by omega)
  · have a := W.f0
    have b := W.s0
    have l1 := lin_len acc 0
    have w1 : ((iMF 1 0 acc).length : Int) + f' = f := W.one
    have w2 : ((iMF 0 0 acc).length : Int) + s' = s := W.two
    have sz : (acc.map D.int).length < sizeLine := by
      rw [List.length_map]
      exact Nat.lt_of_lt_of_le (show acc.length < 64 by omega) (by decide)
    have tail : ∀ e : Int, (e = 0 ∨ e = 1 ∨ e = 2) → (0 < f' + s' → 0 ≤ f' - (if e = 1 then 0 else 1) ∧ 0 ≤ s' - (if e = 0 then 0 else 1)) →
        (if decide (0 < f' + s') = true then (sSeq (sApp 3 (dVar 5)) (sSeq (sAsg 1 (dOp fSub (dVar 1) (dCB bIntB (dCons (dOp (fEq true) (dVar 5) (dC (.int 1))) (dNil))))) (sAsg 2 (dOp fSub (dVar 2) (dCB bIntB (dCons (dOp (fEq true) (dVar 5) (dC (.int 0))) (dNil))))))) { nx := nx, rt := Qd, ct := nx, bk := sRet (dCB bTup (dCons (dVar 3) dNil)) (eK Qd) } [.val (.ref hd), .val (.int f'), .val (.int s'), .own (acc.map D.int), .val (.int k), .val (.int e)] else sNext { nx := nx, rt := Qd, ct := nx, bk := sRet (dCB bTup (dCons (dVar 3) dNil)) (eK Qd) } [.val (.ref hd), .val (.int f'), .val (.int s'), .own (acc.map D.int), .val (.int k), .val (.int e)]) := fun e he hh => by
      by_cases c : 0 < f' + s'
      · obtain ⟨h1, h2⟩ := hh c
        refine it_t (decide_eq_true c) ?_
        repeat decreasing_trivial_pre_omega
        refine rApp rfl ?_
        repeat decreasing_trivial_pre_omega
        refine ⟨rfl, sz, ?_⟩
        repeat decreasing_trivial_pre_omega
        refine int_b ?_
        repeat decreasing_trivial_pre_omega
        refine int_b ?_
        repeat decreasing_trivial_pre_omega
        have := k1 e he c h1 h2 (.val (.int k)) (.val (.int e))
        rw [List.map_append] at this
        rcases he with rfl | rfl | rfl
        · exact this
        · exact this
        · exact this
      · refine it_f (decide_eq_false c) ?_
        repeat decreasing_trivial_pre_omega
        exact k0 (by omega) _ _
    repeat decreasing_trivial_pre_omega
    by_cases c : s' = 0
    · refine it_t (by rw [decide_eq_true c]; rfl) ?_
      repeat decreasing_trivial_pre_omega
      by_cases c2 : 0 < f'
      · refine it_t (decide_eq_true c2) ?_
        repeat decreasing_trivial_pre_omega
        refine it_f (decide_eq_false (by omega)) ?_
        repeat decreasing_trivial_pre_omega
        exact tail 0 (.inl rfl) fun p => ⟨by rw [if_neg (by decide)]; omega, by rw [if_pos rfl]; omega⟩
      · refine it_f (decide_eq_false c2) ?_
        repeat decreasing_trivial_pre_omega
        exact tail 0 (.inl rfl) fun p => ⟨by rw [if_neg (by decide)]; omega, by rw [if_pos rfl]; omega⟩
    · refine it_f (by rw [decide_eq_false c]; rfl) ?_
      repeat decreasing_trivial_pre_omega
      by_cases c2 : 0 < f'
      · refine it_t (decide_eq_true c2) ?_
        repeat decreasing_trivial_pre_omega
        refine it_t (decide_eq_true (by omega)) ?_
        repeat decreasing_trivial_pre_omega
        refine ⟨3, rfl, by decide, by decide, fun r r0 r1 => ?_⟩
        repeat decreasing_trivial_pre_omega
        exact tail r (by omega) fun p => ⟨by split <;> omega, by split <;> omega⟩
      · refine it_f (decide_eq_false c2) ?_
        repeat decreasing_trivial_pre_omega
        exact tail 1 (.inr (.inl rfl)) fun p => ⟨by rw [if_pos rfl]; omega, by rw [if_neg (by decide)]; omega⟩
  · repeat decreasing_trivial_pre_omega
    exact q acc hl
end K09

namespace K09
open PySem PySem.Spec PyProof.Rows L2 Dl Ns Zs
abbrev s__law_rows : Stmt := top 43
abbrev N__law_rows : List Str := ["_law_hand_here", "_law_many", "_law_width", "_law_base", "_law_apart", "_law_one", "_law_other", "_law_k"]
theorem sc__law_rows : FnScope N__law_rows ["_law_hand_here"] (defScope s__law_rows) := ⟨rfl, rfl, rfl, by decide +kernel, rfl, by decide +kernel, by decide +kernel⟩
def d__law_rows (K : PySem.W.Frag) (hd : Addr) (Ed : DEnv → Exc → Prop) : TSD := sSeq (sAsg 1 (dCall ((C__law_pick K hd)) [] Ed (dCons (dVar 0) (dCons (dLst (dInts [1, 2, 2, 3, 3, 4, 4, 5, 6, 7, 7, 0])) (dNil))))) (sSeq (sAsg 2 (dOp fAdd (dC (.int 1)) (dCall ((C__law_take hd)) [] Ed (dCons (dVar 0) (dCons (dC (.int 15)) (dNil)))))) (sSeq (sAsg 3 (dOp fSub (dOp fMul (dCall ((C__law_take hd)) [] Ed (dCons (dVar 0) (dCons (dOp fPow (dC (.int 10)) (dC (.int 9))) (dNil)))) (dOp fPow (dC (.int 10)) (dC (.int 21)))) (dOp fMul (dC (.int 5)) (dOp fPow (dC (.int 10)) (dC (.int 29)))))) (sSeq (sAsg 4 (dCall ((C__law_pick K hd)) [] Ed (dCons (dVar 0) (dCons (dLst (dCons (dC (.int 1)) (dCons (dC (.int 3)) (dCons (dOp fPow (dC (.int 10)) (dC (.int 20))) (dNil))))) (dNil))))) (sSeq (sAsg 5 (dF (fLc (idRng1 (dCons (dVar 1) (dNil))) (gdName 7) (dYes) (dOp fAdd (dVar 3) (dOp fMul (dVar 4) (dCall ((C__law_take hd)) [] (fun _ _ => False) (dCons (dVar 0) (dCons (dVar 2) (dNil)))))) (([("_law_k", 7)] : List (Str × Nat)).map (·.2))))) (sSeq (sAsg 6 (dF (fLc (idRng1 (dCons (dVar 1) (dNil))) (gdName 7) (dYes) (dOp fAdd (dVar 3) (dOp fMul (dVar 4) (dCall ((C__law_take hd)) [] (fun _ _ => False) (dCons (dVar 0) (dCons (dVar 2) (dNil)))))) (([("_law_k", 7)] : List (Str × Nat)).map (·.2))))) (sRet (dTup (dCons (dVar 5) (dCons (dVar 6) (dNil))))))))))
theorem pd__law_rows {P : Program} {w : World} {K : PySem.W.Frag} {mg : Str → Option Value} {base : Heap} {I : HI} {fa : Addr} {hd : Addr} {cdv : Value} {A : Around} {outer : List Env} {s : Shared} {H : Hp} {E : XK} {Ed : Exc → Prop} (T : Tf K mg) (c__law_pick : Cl P w K mg base I 4 "_law_pick" 2 (C__law_pick K hd) []) (c__law_take : Cl P w K mg base I 3 "_law_take" 2 (C__law_take hd) [])
    (hr : Room 4 (A.deeper (envOfC "_law_rows" (defScope s__law_rows) s.heap.objs.size fa cdv))) (tk : Takes (cxD P w K mg base N__law_rows "_law_rows" (defScope s__law_rows) fa cdv A outer s H E) (gOf I Ed E).W) :
    PSsD (cxD P w K mg base N__law_rows "_law_rows" (defScope s__law_rows) fa cdv A outer s H E) (gOf I Ed E) (defBody s__law_rows) (d__law_rows K hd (gOf I Ed E).Ed) :=
  have nd := sc__law_rows.nd; ds_cons (ds_set (i := 1) nd rfl (by first | exact Or.inl rfl | exact Or.inr rfl) (d_callC c__law_pick (ar__law_pick _) hr (by decide) rfl tk (da_cons (dv 0) (da_cons (d_lst (da_lits (ns := [1, 2, 2, 3, 3, 4, 4, 5, 6, 7, 7, 0]) rfl)) (da_nil))))) (ds_cons (ds_set (i := 2) nd rfl (by first | exact Or.inl rfl | exact Or.inr rfl) (d_op r_add (d_int) (d_callC c__law_take (ar__law_take _) hr (by decide) rfl tk (da_cons (dv 0) (da_cons (d_int) (da_nil)))))) (ds_cons (ds_set (i := 3) nd rfl (by first | exact Or.inl rfl | exact Or.inr rfl) (d_op r_sub (d_op r_mul (d_callC c__law_take (ar__law_take _) hr (by decide) rfl tk (da_cons (dv 0) (da_cons (d_op r_pow (d_int) (d_int)) (da_nil)))) (d_op r_pow (d_int) (d_int))) (d_op r_mul (d_int) (d_op r_pow (d_int) (d_int))))) (ds_cons (ds_set (i := 4) nd rfl (by first | exact Or.inl rfl | exact Or.inr rfl) (d_callC c__law_pick (ar__law_pick _) hr (by decide) rfl tk (da_cons (dv 0) (da_cons (d_lst (da_cons (d_int) (da_cons (d_int) (da_cons (d_op r_pow (d_int) (d_int)) (da_nil))))) (da_nil))))) (ds_cons (ds_lcV (i := 5) rfl nd rfl rfl (sw_true rfl rfl rfl (by decide +kernel)) (di_range1 rfl T.n_range (da_cons (dv 1) (da_nil))) (blkOk_by (own := [("_law_k", 7)]) (N := N__law_rows) (sc := defScope s__law_rows) (by decide +kernel)) (fun _ _ _ _ _ => pg_name (i := 7) nd rfl (by first | exact Or.inl rfl | exact Or.inr rfl)) sg_name (gw_name (by decide)) bt_nil (be_of (fun _ _ _ _ _ => d_op r_add (dv 3) (d_op r_mul (dv 4) (d_callC c__law_take (ar__law_take _) hr (by decide) rfl takes0 (da_cons (dv 0) (da_cons (dv 2) (da_nil)))))))) (ds_cons (ds_lcV (i := 6) rfl nd rfl rfl (sw_true rfl rfl rfl (by decide +kernel)) (di_range1 rfl T.n_range (da_cons (dv 1) (da_nil))) (blkOk_by (own := [("_law_k", 7)]) (N := N__law_rows) (sc := defScope s__law_rows) (by decide +kernel)) (fun _ _ _ _ _ => pg_name (i := 7) nd rfl (by first | exact Or.inl rfl | exact Or.inr rfl)) sg_name (gw_name (by decide)) bt_nil (be_of (fun _ _ _ _ _ => d_op r_add (dv 3) (d_op r_mul (dv 4) (d_callC c__law_take (ar__law_take _) hr (by decide) rfl takes0 (da_cons (dv 0) (da_cons (dv 2) (da_nil)))))))) (ds_one (ds_ret (d_tup (da_cons (dv 5) (da_cons (dv 6) (da_nil)))))))))))
end K09

namespace K09
open PySem PySem.Spec PyProof.Rows L2 Dl Ns Zs Zz Rd
local macro_rules
  | `(tactic| decreasing_trivial_pre_omega) => `(tactic| first
  | ((with_reducible apply Rd.rVar); (rfl); (rfl))
  | (with_reducible refine Rd.rC ?_)
  | (with_reducible refine Rd.rCons ?_)
  | (with_reducible refine Rd.rNil ?_)
  | (with_reducible refine Rd.rInts ?_)
  | (with_reducible refine Rd.rOp ?_)
  | (with_reducible refine Rd.rUn ?_)
  | (with_reducible refine Rd.rNeg ?_)
  | (with_reducible refine Rd.rTest ?_)
  | (with_reducible refine Rd.rB ?_)
  | (with_reducible refine Rd.rEx ?_)
  | (with_reducible refine Rd.rAnd ?_)
  | (with_reducible refine Rd.rOr ?_)
  | (with_reducible refine Rd.rNot ?_)
  | (with_reducible refine Rd.rYes ?_)
  | (with_reducible refine Rd.rAndV ?_)
  | (with_reducible refine Rd.rOrV ?_)
  | (with_reducible refine Rd.rNotV ?_)
  | (with_reducible refine Rd.rIfE ?_)
  | (with_reducible refine Rd.rTup ?_)
  | (with_reducible refine Rd.rLst ?_)
  | (with_reducible refine Rd.rFLst ?_)
  | ((with_reducible refine Rd.rSz ?_ ?_); (first | decide | exact of_decide_eq_true rfl))
  | (with_reducible refine Rd.rF ?_)
  | (with_reducible refine Rd.rCB ?_)
  | (with_reducible refine Rd.rCall ?_)
  | (with_reducible refine Rd.rSl ?_)
  | (with_reducible refine Rd.rNoP ?_)
  | (with_reducible refine Rd.rPart ?_)
  | (with_reducible refine Rd.rExI ?_)
  | (with_reducible refine Rd.rSub ?_)
  | (with_reducible refine Rd.rAdd ?_)
  | (with_reducible refine Rd.rLt ?_)
  | (with_reducible refine Rd.rEqI ?_)
  | (with_reducible refine Rd.rLenT ?_)
  | (with_reducible refine Rd.rLenL ?_)
  | (with_reducible refine Rd.rTupT ?_)
  | (with_reducible refine Rd.rTupL ?_)
  | (with_reducible refine Rd.rLstT ?_)
  | (with_reducible refine Rd.rLstL ?_)
  | (with_reducible refine Rd.rSeq ?_)
  | (with_reducible refine Rd.rNext ?_)
  | (with_reducible refine Rd.rRet ?_)
  | (with_reducible refine Rd.rIf ?_)
  | (with_reducible refine Rd.rAsg ?_)
  | ((with_reducible refine Rd.rKeep ?_ ?_); (first | exact Or.inl rfl | exact Or.inr rfl | assumption))
  | (with_reducible refine Rd.rNew ?_)
  | ((with_reducible refine Rd.rNewK ?_ ?_ ?_); (exact Nat.le_of_ble_eq_true rfl); (first | exact Or.inl rfl | exact Or.inr rfl | assumption))
  | (with_reducible refine Rd.rYesT ?_)
  | (with_reducible refine Rd.rNoT ?_)
  | (with_reducible refine Rd.rN1 ?_)
  | (with_reducible refine Rd.rN2 ?_)
  | (with_reducible refine Rd.rX1 ?_)
  | (with_reducible refine Rd.rX2 ?_)
  | (with_reducible refine Rd.rX3 ?_)
  | (with_reducible refine Rd.rX4 ?_)
  | (with_reducible refine Rd.rLc ?_)
  | (with_reducible refine Rd.rDn ?_)
  | (with_reducible refine Rd.rEnum ?_)
  | (with_reducible refine Rd.rSeqI ?_)
  | (with_reducible refine Rd.rDrop ?_)
  | (with_reducible refine Rd.rFor ?_)
  | ((with_reducible apply Rd.rVarI); (rfl); (rfl))
  | (with_reducible refine Rd.rGdN ?_)
  | ((with_reducible refine Rd.rGdT ?_ ?_); (rfl))
  | (with_reducible refine Rd.rRng ?_)
  | ((with_reducible refine Rd.rKeep ?_ ?_); (exact Or.inr (tI_good _).2.2)))
def baseI (n : Nat) : List Int := (List.range n).map fun i => ((i : Nat) : Int)
theorem places_of {n : Nat} {rest found : List Int} (p : (rest ++ found).Perm (baseI n)) : places found n := by
  have nd : (baseI n).Nodup := by
    unfold baseI
    exact List.Pairwise.map _ (fun a b h => by omega) (List.nodup_range (n := n))
  refine ⟨fun x hx => ?_, ?_⟩
  · have := p.mem_iff.mp (List.mem_append_right rest hx)
    obtain ⟨i, hi, rfl⟩ := List.mem_map.mp this
    have := List.mem_range.mp hi
    omega
  · exact (List.nodup_append.mp (p.nodup_iff.mpr nd)).2.1
theorem pop_perm {rest found : List Int} {k : Nat} {x : Int} (h : rest[k]? = some x) : (rest.eraseIdx k ++ (found ++ [x])).Perm (rest ++ found) := by
  have p := erase_perm rest k x h
  have q : (rest.eraseIdx k ++ (found ++ [x])).Perm (x :: (rest.eraseIdx k ++ found)) := by
    rw [← List.append_assoc]
    exact List.perm_append_singleton _ _
  refine q.trans ?_
  rw [← List.cons_append]
  exact p.append_right found
theorem pop_loop {tb : TSD} {Dd : DEnds} {hd : Addr} {n : Nat} {s1 : Slot}
    (step : ∀ (rest found : List Int) (k : Int) (nx : DEnv → Prop), 0 < rest.length → rest.length + found.length = n → (∀ (j : Nat) (x : Int), rest[j]? = some x → ∀ s4, nx [.val (.ref hd), s1, .own ((rest.eraseIdx j).map D.int), .own ((found ++ [x]).map D.int), s4]) →
      tb { Dd with nx := nx, ct := nx, bk := Dd.nx } [.val (.ref hd), s1, .own (rest.map D.int), .own (found.map D.int), .val (.int k)])
    (fin : ∀ rest found : List Int, (rest ++ found).Perm (baseI n) → ∀ s4, Dd.nx [.val (.ref hd), s1, .own (rest.map D.int), .own (found.map D.int), s4]) :
    ∀ (r : Nat) (k : Int) (rest found : List Int) (s4 : Slot), (rest ++ found).Perm (baseI n) → r ≤ rest.length → forD (gdName 4) tb Dd (rngD k r) [.val (.ref hd), s1, .own (rest.map D.int), .own (found.map D.int), s4]
  | 0, k, rest, found, s4, p, _ => fin rest found p s4
  | r + 1, k, rest, found, s4, p, h => by
    rw [rngD_cons]
    have hl := p.length_eq
    unfold baseI at hl
    rw [List.length_append, List.length_map, List.length_range] at hl
    refine step rest found k _ (by omega) hl fun j x hx s4 => ?_
    refine pop_loop step fin r _ _ _ s4 ((pop_perm hx).trans p) ?_
    have := (List.getElem?_eq_some_iff.mp hx).1
    rw [List.length_eraseIdx_of_lt this]
    omega
theorem erase_mapD {α β : Type} (f : α → β) : ∀ (l : List α) (j : Nat), (l.map f).eraseIdx j = (l.eraseIdx j).map f
  | [], j => by simp
  | a :: r, 0 => by simp
  | a :: r, j + 1 => by
    have ih := erase_mapD f r j
    simp [ih]
theorem ct__law_some_places {K : PySem.W.Frag} {hd : Addr} {ds : List D} {Qd : D → Prop} {Ed : Exc → Prop} (h : C__law_some_places K hd ds Qd Ed) : d__law_some_places K hd (fun _ x => Ed x) (eK Qd) (startD N__law_some_places ds) := by
  obtain ⟨n, rfl, n7, q⟩ := h
  unfold d__law_some_places
  repeat decreasing_trivial_pre_omega
  refine ⟨_, _, rfl, rfl, (n : Int), rfl, ⟨by omega, by omega, by omega, by omega⟩, ?_⟩
  have e1 : rgD 0 (n : Int) = (baseI n).map D.int := by
    unfold rgD baseI
    rw [List.map_map, show ((n : Int) - 0).toNat = n by omega]
    refine List.map_congr_left fun k _ => ?_
    show D.int (0 + (k : Int)) = D.int k
    rw [Int.zero_add]
  rw [e1]
  refine ⟨show 2 < 5 by decide, .inr (nolI _), ?_⟩
  repeat decreasing_trivial_pre_omega
  refine ⟨_, rfl, by omega, ?_, fun m m0 m1 => ?_⟩
  · exact Int.lt_trans (show (n : Int) + 1 < 64 by omega) (by decide)
  repeat decreasing_trivial_pre_omega
  refine ⟨m, rfl, by omega, ?_⟩
  refine pop_loop (n := n) (fun rest found k nx pos hl kk => ?_) (fun rest found p s4 => ?_) m.toNat 0 (baseI n) [] _ (by rw [List.append_nil]) (by unfold baseI; rw [List.length_map, List.length_range]; omega)
  · refine ⟨_, _, rfl, rfl, by decide, ?_⟩
    repeat decreasing_trivial_pre_omega
    rw [List.length_map]
    refine ⟨_, rfl, by omega, ?_, fun r r0 r1 => ?_⟩
    · exact Int.lt_trans (show (rest.length : Int) < 64 by omega) (by decide)
    have hg := at_get r0 r1
    refine ⟨r.toNat, .int (at_ rest r), by rw [Int.toNat_of_nonneg r0], by rw [List.getElem?_map, hg]; rfl, ?_, rfl, ?_, ?_⟩
    · exact Nat.le_trans (show rest.length ≤ 1000 by omega) (by decide)
    · rw [List.length_map]
      exact Nat.lt_of_lt_of_le (show found.length < 1000 by omega) (by decide)
    · have := kk r.toNat _ hg (.val (.int k))
      rw [List.map_append] at this
      rw [erase_mapD] 
      exact this
  · repeat decreasing_trivial_pre_omega
    exact q found (places_of p)
theorem sm_of {a : Int} (h0 : -(10 ^ 40) ≤ a) (h1 : a ≤ 10 ^ 40) : sm a := by
  have h : a.natAbs < 2 ^ 140 := by omega
  exact Nat.lt_of_lt_of_le h (Nat.pow_le_pow_right (n := 2) (by decide) (by decide))
theorem ints_sm : ∀ {ys : List D}, (∀ y ∈ ys, ∃ i, y = .int i ∧ sm i) → ∃ ns : List Int, ys = ns.map D.int ∧ ∀ n ∈ ns, sm n
  | [], _ => ⟨[], rfl, fun n h => by cases h⟩
  | y :: ys, h => by
    obtain ⟨i, rfl, hi⟩ := h y List.mem_cons_self
    obtain ⟨ns, rfl, hn⟩ := ints_sm fun z hz => h z (List.mem_cons_of_mem _ hz)
    refine ⟨i :: ns, rfl, fun x hx => ?_⟩
    rcases List.mem_cons.mp hx with e | hx
    · rw [e]; exact hi
    · exact hn x hx
theorem ct__law_rows {K : PySem.W.Frag} {hd : Addr} {ds : List D} {Qd : D → Prop} {Ed : Exc → Prop} (h : C__law_rows K hd ds Qd Ed) : d__law_rows K hd (fun _ x => Ed x) (eK Qd) (startD N__law_rows ds) := by
  obtain ⟨rfl, q⟩ := h
  unfold d__law_rows
  repeat decreasing_trivial_pre_omega
  refine ⟨[1, 2, 2, 3, 3, 4, 4, 5, 6, 7, 7, 0], rfl, by simp, by decide, fun n hn => ?_⟩
  have hb : ∀ x ∈ ([1, 2, 2, 3, 3, 4, 4, 5, 6, 7, 7, 0] : List Int), 0 ≤ x ∧ x ≤ 7 := by decide
  obtain ⟨n0, n7⟩ := hb n hn
  clear hn hb
  repeat decreasing_trivial_pre_omega
  refine ⟨15, rfl, by decide, by decide, fun w w0 w1 => ?_⟩
  repeat decreasing_trivial_pre_omega
  refine rFI (by unfold CPow; decide) ?_
  repeat decreasing_trivial_pre_omega
  refine ⟨_, rfl, by decide, by decide, fun b b0 b1 => ?_⟩
  repeat decreasing_trivial_pre_omega
  refine rFI (by unfold CPow; decide) ?_
  have b1 : b < 1000000000 := b1
  refine rFI (mulW (Nat.lt_of_lt_of_le (show b.natAbs < 2 ^ 40 by omega) (Nat.pow_le_pow_right (n := 2) (by decide) (by decide))) (by decide)) ?_
  repeat decreasing_trivial_pre_omega
  refine rFI (by unfold CPow; decide) ?_
  refine rFI (mulW (by decide) (by decide)) ?_
  repeat decreasing_trivial_pre_omega
  refine rFI (by unfold CPow; decide) ?_
  repeat decreasing_trivial_pre_omega
  refine ⟨[1, 3, 10 ^ 20], rfl, by simp, by decide, fun a ha => ?_⟩
  have hb : ∀ x ∈ ([1, 3, 10 ^ 20] : List Int), 0 ≤ x ∧ x ≤ 100000000000000000000 := by decide
  obtain ⟨a0, a1⟩ := hb a ha
  clear ha hb
  generalize hB : b * 10 ^ (21 : Int).toNat - 5 * 10 ^ (29 : Int).toNat = B
  have hB2 : B = b * 1000000000000000000000 - 500000000000000000000000000000 := by rw [← hB]; rfl
  have draw : ∀ (R : D → Prop) (i : Nat), (∀ y, (∃ i, y = .int i ∧ sm i) → R y) → ∀ r : Int, 0 ≤ r → r < 1 + w → R (.int (B + a * r)) := fun R _ h r r0 r1 => by
    refine h _ ⟨_, rfl, ?_⟩
    have h1 : a * r ≤ 100000000000000000000 * 16 := Int.mul_le_mul a1 (by omega) r0 (by decide)
    have h2 : 0 ≤ a * r := Int.mul_nonneg a0 r0
    exact sm_of (by omega) (by omega)
  repeat decreasing_trivial_pre_omega
  refine ⟨n, rfl, by omega, by rw [rngD_len]; omega, ?_⟩
  refine lcD_draw (fun y => ∃ i, y = .int i ∧ sm i) (fun y ⟨i, e, _⟩ => by rw [e]; rfl) _ [] (fun x hx R hR => ?_) (fun ys ln hy => ?_)
  · repeat decreasing_trivial_pre_omega
    refine ⟨_, rfl, by omega, ?_, fun r r0 r1 => ?_⟩
    · exact Int.lt_trans (show 1 + w < 64 by omega) (by decide)
    repeat decreasing_trivial_pre_omega
    refine rFI (mulW (Nat.lt_of_lt_of_le (show a.natAbs < 2 ^ 100 by omega) (Nat.pow_le_pow_right (n := 2) (by decide) (by decide))) (Nat.lt_of_lt_of_le (show r.natAbs < 2 ^ 10 by omega) (Nat.pow_le_pow_right (n := 2) (by decide) (by decide)))) ?_
    repeat decreasing_trivial_pre_omega
    exact draw R 0 hR r r0 r1
  obtain ⟨ns, rfl, sn⟩ := ints_sm hy
  rw [List.length_map, rngD_len] at ln
  rw [List.nil_append]
  repeat decreasing_trivial_pre_omega
  refine ⟨n, rfl, by omega, by rw [rngD_len]; omega, ?_⟩
  refine lcD_draw (fun y => ∃ i, y = .int i ∧ sm i) (fun y ⟨i, e, _⟩ => by rw [e]; rfl) _ [] (fun x hx R hR => ?_) (fun zs lm hz => ?_)
  · repeat decreasing_trivial_pre_omega
    refine ⟨_, rfl, by omega, ?_, fun r r0 r1 => ?_⟩
    · exact Int.lt_trans (show 1 + w < 64 by omega) (by decide)
    repeat decreasing_trivial_pre_omega
    refine rFI (mulW (Nat.lt_of_lt_of_le (show a.natAbs < 2 ^ 100 by omega) (Nat.pow_le_pow_right (n := 2) (by decide) (by decide))) (Nat.lt_of_lt_of_le (show r.natAbs < 2 ^ 10 by omega) (Nat.pow_le_pow_right (n := 2) (by decide) (by decide)))) ?_
    repeat decreasing_trivial_pre_omega
    exact draw R 0 hR r r0 r1
  obtain ⟨ms, rfl, sm'⟩ := ints_sm hz
  rw [List.length_map, rngD_len] at lm
  rw [List.nil_append]
  repeat decreasing_trivial_pre_omega
  exact q ns ms (by omega) (by omega) sn sm'
end K09

namespace K09
open PySem PySem.Spec PyProof.Rows L2 Dl Ns Zs
abbrev s_law : Stmt := top 48
abbrev N_law : List Str := ["_law_script", "_law_hand_here", "_law_one", "_law_other", "_law_places", "_law_asked", "_law_lining_here", "_law_drawn", "_law_deed", "_law_lesser", "_law_numbers", "_law_others", "_law_due", "_law_k"]
theorem sc_law : FnScope N_law ["_law_script"] (defScope s_law) := ⟨rfl, rfl, rfl, by decide +kernel, rfl, by decide +kernel, by decide +kernel⟩
def d_law (K : PySem.W.Frag) (hd : Addr) (Ed : DEnv → Exc → Prop) : TSD := sSeq (sAsgG (dCall ((C__law_rows K hd)) [] Ed (dCons (dVar 1) (dNil))) (gdTup [10, 11])) (sSeq (sAsg 2 (dCall ((C__law_ranks K)) [] Ed (dCons (dVar 10) (dNil)))) (sSeq (sAsg 3 (dCall ((C__law_ranks K)) [] Ed (dCons (dVar 11) (dNil)))) (sSeq (sAsg 4 (dCall ((C__law_some_places K hd)) [] Ed (dCons (dVar 1) (dCons (dCB bLen (dCons (dVar 2) (dNil))) (dNil))))) (sSeq (sAsg 5 (dCB bLst (dCons (dVar 4) (dNil)))) (sSeq (sAsg 6 (dCall ((C_lining_of K)) [] Ed (dCons (dVar 10) (dCons (dVar 11) (dNil))))) (sSeq (sAsg 7 (dCall ((C__law_lining K hd)) [] Ed (dCons (dVar 1) (dCons (dCall ((C__law_many_ranks K)) [] Ed (dCons (dVar 2) (dNil))) (dCons (dCall ((C__law_many_ranks K)) [] Ed (dCons (dVar 3) (dNil))) (dNil)))))) (sSeq (sFor (idSeq (dTup (dCons (dC (.str "lesser")) (dCons (dC (.str "odd")) (dCons (dC (.str "common")) (dNil)))))) (gdName 8) (sSeq (sAsg 12 (dCall ((C__law_ranks K)) [] Ed (dCons (dF (fLc (idRng1 (dCons (dCB bLen (dCons (dVar 10) (dNil))) (dNil))) (gdName 13) (dYes) (dCall ((C__law_key K)) [] (fun _ _ => False) (dCons (dVar 8) (dCons (dOp fIx (dVar 10) (dVar 13)) (dCons (dOp fIx (dVar 11) (dVar 13)) (dNil))))) (([("_law_k", 13)] : List (Str × Nat)).map (·.2)))) (dNil)))) (sSeq (sIf (dNot (dB (dCall ((C__law_deed_right K)) [] Ed (dCons (dVar 8) (dCons (dVar 2) (dCons (dVar 3) (dCons (dVar 6) (dCons (dVar 12) (dNil))))))))) (sRet (dC (.bl false))) (sNext)) (sSeq (sIf (dNot (dB (dCall ((C__law_deed_right K)) [] Ed (dCons (dVar 8) (dCons (dVar 2) (dCons (dVar 3) (dCons (dVar 7) (dCons (dCall ((C__law_made K)) [] Ed (dCons (dVar 8) (dCons (dVar 2) (dCons (dVar 3) (dCons (dVar 7) (dNil)))))) (dNil))))))))) (sRet (dC (.bl false))) (sNext)) (sSeq (sIf (dTest (dOp (fEq true) (dCall ((C_made_by K)) [] Ed (dCons (dVar 8) (dCons (dVar 2) (dCons (dCB bLst (dCons (dVar 2) (dNil))) (dCons (dOp fRepT (dTup (dCons (dC (.int 2)) (dNil))) (dCall ((C__law_many_ranks K)) [] Ed (dCons (dVar 2) (dNil)))) (dNil)))))) (dVar 2))) (sRet (dC (.bl false))) (sNext)) (sIf (dOr (dNot (dB (dCall ((C__law_cut_right K)) [] Ed (dCons (dVar 8) (dCons (dVar 2) (dCons (dVar 3) (dCons (dVar 7) (dCons (dVar 5) (dNil))))))))) (dTest (dOp (fEq true) (dVar 5) (dVar 4)))) (sRet (dC (.bl false))) (sNext))))))) (sSeq (sAsg 9 (dCall ((C__law_ranks K)) [] Ed (dCons (dF (fLc (idRng1 (dCons (dCB bLen (dCons (dVar 10) (dNil))) (dNil))) (gdName 13) (dYes) (dCB bMin2 (dCons (dOp fIx (dVar 10) (dVar 13)) (dCons (dOp fIx (dVar 11) (dVar 13)) (dNil)))) (([("_law_k", 13)] : List (Str × Nat)).map (·.2)))) (dNil)))) (sRet (dOp (fEq false) (dCall ((C_made_by K)) [] Ed (dCons (dC (.str "lesser")) (dCons (dVar 2) (dCons (dVar 3) (dCons (dVar 6) (dNil)))))) (dVar 9)))))))))))
theorem pd_law {P : Program} {w : World} {K : PySem.W.Frag} {mg : Str → Option Value} {base : Heap} {I : HI} {fa : Addr} {hd : Addr} {cdv : Value} {A : Around} {outer : List Env} {s : Shared} {H : Hp} {E : XK} {Ed : Exc → Prop} (T : Tf K mg) (c__law_cut_right : Cl P w K mg base I 8 "_law_cut_right" 5 (C__law_cut_right K) []) (c__law_deed_right : Cl P w K mg base I 7 "_law_deed_right" 5 (C__law_deed_right K) []) (c__law_key : Cl P w K mg base I 2 "_law_key" 3 (C__law_key K) []) (c__law_lining : Cl P w K mg base I 4 "_law_lining" 3 (C__law_lining K hd) []) (c__law_made : Cl P w K mg base I 3 "_law_made" 4 (C__law_made K) []) (c__law_many_ranks : Cl P w K mg base I 2 "_law_many_ranks" 1 (C__law_many_ranks K) []) (c__law_ranks : Cl P w K mg base I 2 "_law_ranks" 1 (C__law_ranks K) []) (c__law_rows : Cl P w K mg base I 5 "_law_rows" 1 (C__law_rows K hd) []) (c__law_some_places : Cl P w K mg base I 4 "_law_some_places" 2 (C__law_some_places K hd) []) (c_lining_of : Cl P w K mg base I 2 "lining_of" 2 (C_lining_of K) []) (c_made_by : Cl P w K mg base I 6 "made_by" 4 (C_made_by K) [])
    (hr : Room 8 (A.deeper (envOfC "law" (defScope s_law) s.heap.objs.size fa cdv))) (tk : Takes (cxD P w K mg base N_law "law" (defScope s_law) fa cdv A outer s H E) (gOf I Ed E).W) :
    PSsD (cxD P w K mg base N_law "law" (defScope s_law) fa cdv A outer s H E) (gOf I Ed E) (defBody s_law).tail (d_law K hd (gOf I Ed E).Ed) :=
  have nd := sc_law.nd; ds_cons (ds_asgG (d_callC c__law_rows (ar__law_rows _) hr (by decide) rfl tk (da_cons (dv 1) (da_nil))) (dg_tup (is := [10, 11]) rfl (pgs_cons (pg_name (i := 10) nd rfl (by first | exact Or.inl rfl | exact Or.inr rfl)) (pgs_cons (pg_name (i := 11) nd rfl (by first | exact Or.inl rfl | exact Or.inr rfl)) (pgs_nil))))) (ds_cons (ds_set (i := 2) nd rfl (by first | exact Or.inl rfl | exact Or.inr rfl) (d_callC c__law_ranks (ar__law_ranks _) hr (by decide) rfl tk (da_cons (dv 10) (da_nil)))) (ds_cons (ds_set (i := 3) nd rfl (by first | exact Or.inl rfl | exact Or.inr rfl) (d_callC c__law_ranks (ar__law_ranks _) hr (by decide) rfl tk (da_cons (dv 11) (da_nil)))) (ds_cons (ds_set (i := 4) nd rfl (by first | exact Or.inl rfl | exact Or.inr rfl) (d_callC c__law_some_places (ar__law_some_places _) hr (by decide) rfl tk (da_cons (dv 1) (da_cons (d_callB c_len rfl T.n_len PySem.boot_len (da_cons (dv 2) (da_nil))) (da_nil))))) (ds_cons (ds_set (i := 5) nd rfl (by first | exact Or.inl rfl | exact Or.inr rfl) (d_callTy c_lst rfl T.n_list boot_list (da_cons (dv 4) (da_nil)))) (ds_cons (ds_set (i := 6) nd rfl (by first | exact Or.inl rfl | exact Or.inr rfl) (d_callC c_lining_of (ar_lining_of _) hr (by decide) rfl tk (da_cons (dv 10) (da_cons (dv 11) (da_nil))))) (ds_cons (ds_set (i := 7) nd rfl (by first | exact Or.inl rfl | exact Or.inr rfl) (d_callC c__law_lining (ar__law_lining _) hr (by decide) rfl tk (da_cons (dv 1) (da_cons (d_callC c__law_many_ranks (ar__law_many_ranks _) hr (by decide) rfl tk (da_cons (dv 2) (da_nil))) (da_cons (d_callC c__law_many_ranks (ar__law_many_ranks _) hr (by decide) rfl tk (da_cons (dv 3) (da_nil))) (da_nil)))))) (ds_cons (ds_for (passes_of rfl) rfl (di_seq (d_tup (da_cons (d_str) (da_cons (d_str) (da_cons (d_str) (da_nil)))))) (dg_name (i := 8) nd rfl (by first | exact Or.inl rfl | exact Or.inr rfl)) (ds_cons (ds_set (i := 12) nd rfl (by first | exact Or.inl rfl | exact Or.inr rfl) (d_callC c__law_ranks (ar__law_ranks _) hr (by decide) rfl tk (da_cons (pf_e (f_lc rfl nd (di_range1 rfl T.n_range (da_cons (d_callB c_len rfl T.n_len PySem.boot_len (da_cons (dv 10) (da_nil))) (da_nil))) (blkOk_by (own := [("_law_k", 13)]) (N := N_law) (sc := defScope s_law) (by decide +kernel)) (fun _ _ _ _ _ => pg_name (i := 13) nd rfl (by first | exact Or.inl rfl | exact Or.inr rfl)) sg_name (gw_name (by decide)) bt_nil (be_of (fun _ _ _ _ _ => d_callC c__law_key (ar__law_key _) hr (by decide) rfl takes0 (da_cons (dv 8) (da_cons (d_ix (dv 10) (dv 13)) (da_cons (d_ix (dv 11) (dv 13)) (da_nil)))))))) (da_nil)))) (ds_cons (ds_if (dt_not (dt_val (d_callC c__law_deed_right (ar__law_deed_right _) hr (by decide) rfl tk (da_cons (dv 8) (da_cons (dv 2) (da_cons (dv 3) (da_cons (dv 6) (da_cons (dv 12) (da_nil))))))))) (ds_one (ds_ret (d_bl))) (ds_nil)) (ds_cons (ds_if (dt_not (dt_val (d_callC c__law_deed_right (ar__law_deed_right _) hr (by decide) rfl tk (da_cons (dv 8) (da_cons (dv 2) (da_cons (dv 3) (da_cons (dv 7) (da_cons (d_callC c__law_made (ar__law_made _) hr (by decide) rfl tk (da_cons (dv 8) (da_cons (dv 2) (da_cons (dv 3) (da_cons (dv 7) (da_nil)))))) (da_nil))))))))) (ds_one (ds_ret (d_bl))) (ds_nil)) (ds_cons (ds_if (dt_cmp (r_ne (h64 hr)) (d_callC c_made_by (ar_made_by _) hr (by decide) rfl tk (da_cons (dv 8) (da_cons (dv 2) (da_cons (d_callTy c_lst rfl T.n_list boot_list (da_cons (dv 2) (da_nil))) (da_cons (d_op r_repT (d_tup (da_cons (d_int) (da_nil))) (d_callC c__law_many_ranks (ar__law_many_ranks _) hr (by decide) rfl tk (da_cons (dv 2) (da_nil)))) (da_nil)))))) (dv 2) (nomark _)) (ds_one (ds_ret (d_bl))) (ds_nil)) (ds_one (ds_if (PWD.pt (dt_or (dt_not (dt_val (d_callC c__law_cut_right (ar__law_cut_right _) hr (by decide) rfl tk (da_cons (dv 8) (da_cons (dv 2) (da_cons (dv 3) (da_cons (dv 7) (da_cons (dv 5) (da_nil))))))))) (dt_or1 (dt_cmp (r_ne (h64 hr)) (dv 5) (dv 4) (nomark _))))) (ds_one (ds_ret (d_bl))) (ds_nil)))))))) (ds_cons (ds_set (i := 9) nd rfl (by first | exact Or.inl rfl | exact Or.inr rfl) (d_callC c__law_ranks (ar__law_ranks _) hr (by decide) rfl tk (da_cons (pf_e (f_lc rfl nd (di_range1 rfl T.n_range (da_cons (d_callB c_len rfl T.n_len PySem.boot_len (da_cons (dv 10) (da_nil))) (da_nil))) (blkOk_by (own := [("_law_k", 13)]) (N := N_law) (sc := defScope s_law) (by decide +kernel)) (fun _ _ _ _ _ => pg_name (i := 13) nd rfl (by first | exact Or.inl rfl | exact Or.inr rfl)) sg_name (gw_name (by decide)) bt_nil (be_of (fun _ _ _ _ _ => d_callB (c_min2 rfl) rfl T.n_min boot_min (da_cons (d_ix (dv 10) (dv 13)) (da_cons (d_ix (dv 11) (dv 13)) (da_nil))))))) (da_nil)))) (ds_one (ds_ret (d_cmp (r_eq (h64 hr)) (d_callC c_made_by (ar_made_by _) hr (by decide) rfl tk (da_cons (d_str) (da_cons (dv 2) (da_cons (dv 3) (da_cons (dv 6) (da_nil)))))) (dv 9) (nomark _))))))))))))
end K09

namespace K09
open PySem PySem.Spec PyProof.Rows L2 Dl Ns Zs Zz Rd
local macro_rules
  | `(tactic| decreasing_trivial_pre_omega) => `(tactic| first
  | ((with_reducible apply Rd.rVar); (rfl); (rfl))
  | (with_reducible refine Rd.rC ?_)
  | (with_reducible refine Rd.rCons ?_)
  | (with_reducible refine Rd.rNil ?_)
  | (with_reducible refine Rd.rInts ?_)
  | (with_reducible refine Rd.rOp ?_)
  | (with_reducible refine Rd.rUn ?_)
  | (with_reducible refine Rd.rNeg ?_)
  | (with_reducible refine Rd.rTest ?_)
  | (with_reducible refine Rd.rB ?_)
  | (with_reducible refine Rd.rEx ?_)
  | (with_reducible refine Rd.rAnd ?_)
  | (with_reducible refine Rd.rOr ?_)
  | (with_reducible refine Rd.rNot ?_)
  | (with_reducible refine Rd.rYes ?_)
  | (with_reducible refine Rd.rAndV ?_)
  | (with_reducible refine Rd.rOrV ?_)
  | (with_reducible refine Rd.rNotV ?_)
  | (with_reducible refine Rd.rIfE ?_)
  | (with_reducible refine Rd.rTup ?_)
  | (with_reducible refine Rd.rLst ?_)
  | (with_reducible refine Rd.rFLst ?_)
  | ((with_reducible refine Rd.rSz ?_ ?_); (first | decide | exact of_decide_eq_true rfl))
  | (with_reducible refine Rd.rF ?_)
  | (with_reducible refine Rd.rCB ?_)
  | (with_reducible refine Rd.rCall ?_)
  | (with_reducible refine Rd.rSl ?_)
  | (with_reducible refine Rd.rNoP ?_)
  | (with_reducible refine Rd.rPart ?_)
  | (with_reducible refine Rd.rExI ?_)
  | (with_reducible refine Rd.rSub ?_)
  | (with_reducible refine Rd.rAdd ?_)
  | (with_reducible refine Rd.rLt ?_)
  | (with_reducible refine Rd.rEqI ?_)
  | (with_reducible refine Rd.rLenT ?_)
  | (with_reducible refine Rd.rLenL ?_)
  | (with_reducible refine Rd.rTupT ?_)
  | (with_reducible refine Rd.rTupL ?_)
  | (with_reducible refine Rd.rLstT ?_)
  | (with_reducible refine Rd.rLstL ?_)
  | (with_reducible refine Rd.rSeq ?_)
  | (with_reducible refine Rd.rNext ?_)
  | (with_reducible refine Rd.rRet ?_)
  | (with_reducible refine Rd.rIf ?_)
  | (with_reducible refine Rd.rAsg ?_)
  | ((with_reducible refine Rd.rKeep ?_ ?_); (first | exact Or.inl rfl | exact Or.inr rfl | assumption))
  | (with_reducible refine Rd.rNew ?_)
  | ((with_reducible refine Rd.rNewK ?_ ?_ ?_); (exact Nat.le_of_ble_eq_true rfl); (first | exact Or.inl rfl | exact Or.inr rfl | assumption))
  | (with_reducible refine Rd.rYesT ?_)
  | (with_reducible refine Rd.rNoT ?_)
  | (with_reducible refine Rd.rN1 ?_)
  | (with_reducible refine Rd.rN2 ?_)
  | (with_reducible refine Rd.rX1 ?_)
  | (with_reducible refine Rd.rX2 ?_)
  | (with_reducible refine Rd.rX3 ?_)
  | (with_reducible refine Rd.rX4 ?_)
  | (with_reducible refine Rd.rLc ?_)
  | (with_reducible refine Rd.rDn ?_)
  | (with_reducible refine Rd.rEnum ?_)
  | (with_reducible refine Rd.rSeqI ?_)
  | (with_reducible refine Rd.rDrop ?_)
  | (with_reducible refine Rd.rFor ?_)
  | ((with_reducible apply Rd.rVarI); (rfl); (rfl))
  | (with_reducible refine Rd.rGdN ?_)
  | ((with_reducible refine Rd.rGdT ?_ ?_); (rfl))
  | (with_reducible refine Rd.rRng ?_)
  | ((with_reducible refine Rd.rKeep ?_ ?_); (exact Or.inr (tI_good _).2.2)))
theorem okT (ns : List Int) : okD (tI ns) := okD_tl (okL_ints ns)
theorem okI_l (ns : List Int) : okI (lI ns) := ⟨(okL_ints ns).1, by
  obtain ⟨_, b, _⟩ := Dl.good_ints ns
  simp only [D.dep, b]
  omega⟩
theorem eqT_self {neg : Bool} {ns : List Int} {Q : D → Prop} (q : Q (.bl (xr neg true))) : fEq neg (tI ns) (tI ns) Q := ⟨okT ns, okT ns, by rw [eqD_refl (okT ns).1]; exact q⟩
theorem eqL_self {neg : Bool} {ns : List Int} {Q : D → Prop} (q : Q (.bl (xr neg true))) : fEq neg (lI ns) (lI ns) Q := ⟨okL_ints ns, okL_ints ns, by rw [eqD_refl (okL_ints ns).1]; exact q⟩
theorem eqLL_self {neg : Bool} {a b c : List Int} {Q : D → Prop} (q : Q (.bl (xr neg true))) : fEq neg (.lst [lI a, lI b, lI c]) (.lst [lI a, lI b, lI c]) Q := by
  have ok : okD (.lst [lI a, lI b, lI c]) := okD_lst fun x m => by
    simp only [List.mem_cons, List.not_mem_nil, or_false] at m
    rcases m with rfl | rfl | rfl
    · exact okI_l a
    · exact okI_l b
    · exact okI_l c
  refine ⟨ok, ok, ?_⟩
  rw [eqD_refl ok.1]
  exact q
theorem made_len (d : Str) {ns ms L : List Int} (V : Val ns ms L) : (made d ns ms L).length = ns.length := by
  unfold made
  rw [len_ranks, List.length_zipWith, mom_len, mom_len, V.len, Nat.min_self]
theorem ct__law_deed_right {K : PySem.W.Frag} {ds : List D} {Qd : D → Prop} {Ed : Exc → Prop} (h : C__law_deed_right K ds Qd Ed) : d__law_deed_right K (fun _ x => Ed x) (eK Qd) (startD N__law_deed_right ds) := by
  obtain ⟨d, ns, ms, L, rfl, hd, V, q⟩ := h
  have few := V.few
  have f1 := V.sa.few
  unfold d__law_deed_right
  repeat decreasing_trivial_pre_omega
  refine rIxL (d := lI ns) rfl ?_
  repeat decreasing_trivial_pre_omega
  refine rIxL (d := lI ms) rfl ?_
  repeat decreasing_trivial_pre_omega
  refine rIxL (d := lI L) rfl ?_
  repeat decreasing_trivial_pre_omega
  refine ⟨d, _, _, _, ns, ms, L, rfl, hd, ⟨rfl, rfl, rfl, V⟩, ?_⟩
  repeat decreasing_trivial_pre_omega
  refine eqT_self ?_
  repeat decreasing_trivial_pre_omega
  refine ⟨_, rfl, by rw [made_len d V]; omega, ?_⟩
  repeat decreasing_trivial_pre_omega
  refine eqLL_self ?_
  repeat decreasing_trivial_pre_omega
  refine ⟨L, rfl, V.lin.ent, by omega, ?_⟩
  repeat decreasing_trivial_pre_omega
  refine ⟨d, _, _, _, ms, ns, exch L, rfl, hd, ⟨rfl, rfl, rfl, V.exch⟩, ?_⟩
  repeat decreasing_trivial_pre_omega
  refine ⟨d, _, _, _, ms, ns, exch L, rfl, hd, ⟨rfl, rfl, rfl, V.exch⟩, ?_⟩
  refine eqT_self ?_
  repeat decreasing_trivial_pre_omega
  refine eq_str hd (.inr (.inr rfl)) ?_
  refine ⟨_, rfl, ?_⟩
  by_cases c : d = "common"
  · refine it_t (by rw [decide_eq_true c]; rfl) ?_
    exact q
  · refine it_f (by rw [decide_eq_false c]; rfl) ?_
    repeat decreasing_trivial_pre_omega
    refine ⟨d, _, _, _, ms, ns, exch L, rfl, hd, ⟨rfl, rfl, rfl, V.exch⟩, ?_⟩
    repeat decreasing_trivial_pre_omega
    rw [made_exch V c]
    refine eqT_self ?_
    exact q
theorem rSortI {tz : TZI} {env : DEnv} {Q : D → Prop} (q : tz env fun cs => cs.length < 64 ∧ Q (.lst (cs.map D.int))) : dSortI tz env Q := q
theorem rZSet {ta : TAD} {env : DEnv} {P : List Int → Prop} (q : ta env fun xs => ∃ ns : List Int, (xs = [.lst (ns.map D.int)] ∨ xs = [.tup (ns.map D.int)]) ∧ ns.length ≤ 4000 ∧ P (canon ns)) : zSetI ta env P := q
theorem rAddL {xs ys : List D} {Q : D → Prop} (h : xs.length + ys.length ≤ sizeLine) (q : Q (.lst (xs ++ ys))) : fAdd (.lst xs) (.lst ys) Q := ⟨h, q⟩
theorem eqT_of {neg : Bool} {a b : List Int} {Q : D → Prop} (e : a = b) (q : Q (.bl (xr neg true))) : fEq neg (tI a) (tI b) Q := by
  subst e
  exact eqT_self q
theorem ct__law_cut_right {K : PySem.W.Frag} {ds : List D} {Qd : D → Prop} {Ed : Exc → Prop} (h : C__law_cut_right K ds Qd Ed) : d__law_cut_right K (fun _ x => Ed x) (eK Qd) (startD N__law_cut_right ds) := by
  obtain ⟨d, ns, ms, L, ps, rfl, hd, V, pl, q⟩ := h
  have few := V.few
  have f1 := V.sa.few
  have f2 := V.sb.few
  have l := V.len
  have pf := places_few pl
  have mc := made_cut d V pl.1
  have vl := lin_val (ns := pick ps ns) (ms := pick ps ms) (by rw [pick_len, pick_len]) (by rw [pick_len]; omega)
  unfold d__law_cut_right
  repeat decreasing_trivial_pre_omega
  show dCall _ _ _ _ _ _
  repeat decreasing_trivial_pre_omega
  refine ⟨_, _, _, ns, ms, L, rfl, ⟨rfl, rfl, rfl, V⟩, ?_⟩
  refine ⟨.inl rfl, ?_⟩
  have lp : (ps.map D.int).length ≤ 1000000 := by rw [List.length_map]; omega
  have A : ∀ (xs : List Int), xs.length = ns.length → ∀ n ∈ ps, 0 ≤ n ∧ n < xs.length := fun xs e n hn => by rw [e]; exact pl.1 n hn
  have a1 := A (mom L 1 ns) (mom_len ..)
  have a0 := A (mom L 0 ms) (by rw [mom_len, l])
  have an := A ns rfl
  have am := A ms l.symm
  have pk : ∀ xs : List Int, (pick ps xs).length = ps.length := pick_len ps
  have cl : ∀ xs : List Int, (canon xs).length ≤ xs.length := canon_len
  repeat decreasing_trivial_pre_omega
  refine rSortI (rZSet ?_)
  repeat decreasing_trivial_pre_omega
  refine ⟨lp, lc_int (at_ (mom L 1 ns)) (fun n hn R hR => ?_) ?_⟩
  · repeat decreasing_trivial_pre_omega
    exact rIxL (at_at (a1 n hn).1 (a1 n hn).2) hR
  repeat decreasing_trivial_pre_omega
  refine ⟨lp, lc_int (at_ (mom L 0 ms)) (fun n hn R hR => ?_) ?_⟩
  · repeat decreasing_trivial_pre_omega
    exact rIxL (at_at (a0 n hn).1 (a0 n hn).2) hR
  repeat decreasing_trivial_pre_omega
  have lpp : ((pick ps (mom L 1 ns)).map D.int).length + ((pick ps (mom L 0 ms)).map D.int).length ≤ sizeLine := by
    rw [List.length_map, List.length_map, pk, pk]
    exact Nat.le_trans (show ps.length + ps.length ≤ 1000 by omega) (by decide)
  refine rAddL lpp ?_
  repeat decreasing_trivial_pre_omega
  have lab : (pick ps (mom L 1 ns) ++ pick ps (mom L 0 ms)).length ≤ 14 := by rw [List.length_append, pk, pk]; omega
  have lcn := cl (pick ps (mom L 1 ns) ++ pick ps (mom L 0 ms))
  refine ⟨pick ps (mom L 1 ns) ++ pick ps (mom L 0 ms), .inl (by rw [List.map_append]; rfl), by omega, by omega, ?_⟩
  repeat decreasing_trivial_pre_omega
  refine ⟨lp, lc_int (at_ (mom L 1 ns)) (fun n hn R hR => ?_) ?_⟩
  · repeat decreasing_trivial_pre_omega
    exact rIxL (at_at (a1 n hn).1 (a1 n hn).2) hR
  repeat decreasing_trivial_pre_omega
  refine ⟨lp, lc_int (at_ (mom L 0 ms)) (fun n hn R hR => ?_) ?_⟩
  · repeat decreasing_trivial_pre_omega
    exact rIxL (at_at (a0 n hn).1 (a0 n hn).2) hR
  repeat decreasing_trivial_pre_omega
  refine ⟨by rw [List.length_map]; omega, lc_int (linE (pick ps (mom L 1 ns)) (pick ps (mom L 0 ms))) (fun m hm R hR => ?_) ?_⟩
  · have hm := List.mem_append.mp (mem_canon.mp hm)
    unfold linE at hR
    repeat decreasing_trivial_pre_omega
    refine in_seq (ms := pick ps (mom L 1 ns)) rfl ?_
    repeat decreasing_trivial_pre_omega
    by_cases c1 : m ∈ pick ps (mom L 1 ns)
    · have d1 : decide (m ∈ pick ps (mom L 1 ns)) = true := decide_eq_true c1
      refine it_t (by rw [d1]; rfl) ?_
      repeat decreasing_trivial_pre_omega
      refine in_seq (ms := pick ps (mom L 0 ms)) rfl ?_
      repeat decreasing_trivial_pre_omega
      by_cases c2 : m ∈ pick ps (mom L 0 ms)
      · have d2 : decide (m ∈ pick ps (mom L 0 ms)) = true := decide_eq_true c2
        refine it_t (by rw [d2]; rfl) ?_
        repeat decreasing_trivial_pre_omega
        rw [if_pos c2, if_pos c1] at hR
        exact hR
      · have d2 : decide (m ∈ pick ps (mom L 0 ms)) = false := decide_eq_false c2
        refine it_f (by rw [d2]; rfl) ?_
        repeat decreasing_trivial_pre_omega
        refine in_seq (ms := pick ps (mom L 0 ms)) rfl ?_
        refine int_b ?_
        rw [if_neg c2] at hR
        rw [if_neg (by rw [d2]; decide)]
        exact hR
    · have d1 : decide (m ∈ pick ps (mom L 1 ns)) = false := decide_eq_false c1
      refine it_f (by rw [d1]; rfl) ?_
      repeat decreasing_trivial_pre_omega
      refine in_seq (ms := pick ps (mom L 0 ms)) rfl ?_
      refine int_b ?_
      have c2 := hm.resolve_left c1
      have d2 : decide (m ∈ pick ps (mom L 0 ms)) = true := decide_eq_true c2
      rw [if_pos c2, if_neg c1] at hR
      rw [if_pos (by rw [d2]; rfl)]
      exact hR
  repeat decreasing_trivial_pre_omega
  refine ⟨_, _, _, _, ns, ms, L, ps, rfl, ⟨rfl, rfl, rfl, V⟩, rfl, pl, ?_⟩
  repeat decreasing_trivial_pre_omega
  refine eqT_self ?_
  repeat decreasing_trivial_pre_omega
  have ll : (linOf (pick ps (mom L 1 ns)) (pick ps (mom L 0 ms))).length ≤ 14 := by
    unfold linOf
    rw [List.length_map]
    omega
  refine ⟨_, rfl, by omega, ?_⟩
  repeat decreasing_trivial_pre_omega
  refine ⟨d, _, _, _, ns, ms, L, rfl, hd, ⟨rfl, rfl, rfl, V⟩, ?_⟩
  repeat decreasing_trivial_pre_omega
  refine ⟨lp, lc_int (at_ ns) (fun n hn R hR => ?_) ?_⟩
  · repeat decreasing_trivial_pre_omega
    exact rIxT (at_at (an n hn).1 (an n hn).2) hR
  repeat decreasing_trivial_pre_omega
  refine ⟨_, _, rfl, rfl, by rw [List.length_map]; omega, ?_⟩
  repeat decreasing_trivial_pre_omega
  refine ⟨lp, lc_int (at_ ms) (fun n hn R hR => ?_) ?_⟩
  · repeat decreasing_trivial_pre_omega
    exact rIxT (at_at (am n hn).1 (am n hn).2) hR
  repeat decreasing_trivial_pre_omega
  refine ⟨_, _, rfl, rfl, by rw [List.length_map]; omega, ?_⟩
  repeat decreasing_trivial_pre_omega
  have e1 : ranksOf (pick ps ns) = ranksOf (pick ps (mom L 1 ns)) := pick_same (mom_len ..).symm an (mom_same V.sa V.lin.one)
  have e0 : ranksOf (pick ps ms) = ranksOf (pick ps (mom L 0 ms)) := pick_same (mom_len ..).symm am (mom_same V.sb V.lin.two)
  have VV : Val (ranksOf (pick ps ns)) (ranksOf (pick ps ms)) (linOf (pick ps (mom L 1 ns)) (pick ps (mom L 0 ms))) := by
    rw [e1, e0]
    exact lin_val (by rw [pk, pk]) (by rw [pk]; omega)
  refine ⟨d, _, _, _, _, _, _, rfl, hd, ⟨rfl, rfl, rfl, VV⟩, ?_⟩
  repeat decreasing_trivial_pre_omega
  have lw := made_len d V
  have aw := A (made d ns ms L) lw
  refine ⟨lp, lc_int (at_ (made d ns ms L)) (fun n hn R hR => ?_) ?_⟩
  · repeat decreasing_trivial_pre_omega
    exact rIxT (at_at (aw n hn).1 (aw n hn).2) hR
  repeat decreasing_trivial_pre_omega
  refine ⟨_, _, rfl, rfl, by rw [List.length_map]; omega, ?_⟩
  refine eqT_of mc ?_
  exact q
end K09

namespace K09
open PySem PySem.Spec PyProof.Rows L2 Dl Ns Zs Zz Rd
local macro_rules
  | `(tactic| decreasing_trivial_pre_omega) => `(tactic| first
  | ((with_reducible apply Rd.rVar); (rfl); (rfl))
  | (with_reducible refine Rd.rC ?_)
  | (with_reducible refine Rd.rCons ?_)
  | (with_reducible refine Rd.rNil ?_)
  | (with_reducible refine Rd.rInts ?_)
  | (with_reducible refine Rd.rOp ?_)
  | (with_reducible refine Rd.rUn ?_)
  | (with_reducible refine Rd.rNeg ?_)
  | (with_reducible refine Rd.rTest ?_)
  | (with_reducible refine Rd.rB ?_)
  | (with_reducible refine Rd.rEx ?_)
  | (with_reducible refine Rd.rAnd ?_)
  | (with_reducible refine Rd.rOr ?_)
  | (with_reducible refine Rd.rNot ?_)
  | (with_reducible refine Rd.rYes ?_)
  | (with_reducible refine Rd.rAndV ?_)
  | (with_reducible refine Rd.rOrV ?_)
  | (with_reducible refine Rd.rNotV ?_)
  | (with_reducible refine Rd.rIfE ?_)
  | (with_reducible refine Rd.rTup ?_)
  | (with_reducible refine Rd.rLst ?_)
  | (with_reducible refine Rd.rFLst ?_)
  | ((with_reducible refine Rd.rSz ?_ ?_); (first | decide | exact of_decide_eq_true rfl))
  | (with_reducible refine Rd.rF ?_)
  | (with_reducible refine Rd.rCB ?_)
  | (with_reducible refine Rd.rCall ?_)
  | (with_reducible refine Rd.rSl ?_)
  | (with_reducible refine Rd.rNoP ?_)
  | (with_reducible refine Rd.rPart ?_)
  | (with_reducible refine Rd.rExI ?_)
  | (with_reducible refine Rd.rSub ?_)
  | (with_reducible refine Rd.rAdd ?_)
  | (with_reducible refine Rd.rLt ?_)
  | (with_reducible refine Rd.rEqI ?_)
  | (with_reducible refine Rd.rLenT ?_)
  | (with_reducible refine Rd.rLenL ?_)
  | (with_reducible refine Rd.rTupT ?_)
  | (with_reducible refine Rd.rTupL ?_)
  | (with_reducible refine Rd.rLstT ?_)
  | (with_reducible refine Rd.rLstL ?_)
  | (with_reducible refine Rd.rSeq ?_)
  | (with_reducible refine Rd.rNext ?_)
  | (with_reducible refine Rd.rRet ?_)
  | (with_reducible refine Rd.rIf ?_)
  | (with_reducible refine Rd.rAsg ?_)
  | ((with_reducible refine Rd.rKeep ?_ ?_); (first | exact Or.inl rfl | exact Or.inr rfl | assumption))
  | (with_reducible refine Rd.rNew ?_)
  | ((with_reducible refine Rd.rNewK ?_ ?_ ?_); (exact Nat.le_of_ble_eq_true rfl); (first | exact Or.inl rfl | exact Or.inr rfl | assumption))
  | (with_reducible refine Rd.rYesT ?_)
  | (with_reducible refine Rd.rNoT ?_)
  | (with_reducible refine Rd.rN1 ?_)
  | (with_reducible refine Rd.rN2 ?_)
  | (with_reducible refine Rd.rX1 ?_)
  | (with_reducible refine Rd.rX2 ?_)
  | (with_reducible refine Rd.rX3 ?_)
  | (with_reducible refine Rd.rX4 ?_)
  | (with_reducible refine Rd.rLc ?_)
  | (with_reducible refine Rd.rDn ?_)
  | (with_reducible refine Rd.rEnum ?_)
  | (with_reducible refine Rd.rSeqI ?_)
  | (with_reducible refine Rd.rDrop ?_)
  | (with_reducible refine Rd.rFor ?_)
  | ((with_reducible apply Rd.rVarI); (rfl); (rfl))
  | (with_reducible refine Rd.rGdN ?_)
  | ((with_reducible refine Rd.rGdT ?_ ?_); (rfl))
  | (with_reducible refine Rd.rRng ?_)
  | ((with_reducible refine Rd.rKeep ?_ ?_); (exact Or.inr (tI_good _).2.2)))
theorem rng_zip (f : Int → Int → Int) {xs ys : List Int} (l : xs.length = ys.length) : (baseI xs.length).map (fun i => f (at_ xs i) (at_ ys i)) = List.zipWith f xs ys := by
  apply List.ext_getElem?
  intro i
  unfold baseI
  rw [List.map_map, List.getElem?_map, List.getElem?_zipWith]
  by_cases c : i < xs.length
  · have h1 := at_get (xs := xs) (i := (i : Int)) (by omega) (by omega)
    have h0 := at_get (xs := ys) (i := (i : Int)) (by omega) (by omega)
    rw [Int.toNat_natCast] at h1 h0
    rw [h1, h0, List.getElem?_range c]
    rfl
  · rw [List.getElem?_eq_none (by rw [List.length_range]; omega), List.getElem?_eq_none (l := xs) (by omega)]
    rfl
theorem rng_base (n : Nat) : rngD 0 (Int.toNat (n : Int)) = (baseI n).map D.int := by
  unfold baseI
  rw [rngD, List.map_map]
  refine List.map_congr_left fun i _ => ?_
  show D.int (0 + (i : Int)) = D.int i
  rw [Int.zero_add]
theorem base_in {n : Nat} {i : Int} (h : i ∈ baseI n) : 0 ≤ i ∧ i < n := by
  obtain ⟨k, hk, rfl⟩ := List.mem_map.mp h
  have := List.mem_range.mp hk
  omega
theorem rep_two (n : Nat) : (List.replicate n [D.int 2]).flatten = (List.replicate n 2).map D.int := by
  induction n with
  | zero => rfl
  | succ n ih =>
    rw [List.replicate_succ, List.flatten_cons, ih, List.replicate_succ, List.map_cons]
    rfl
theorem ct_law {K : PySem.W.Frag} {hd : Addr} {ds : List D} : d_law K hd (fun _ _ => False) ⟨fun _ => False, fun d => d = .bl true, fun _ => False, fun _ => False⟩ (.val (scrD ds) :: .val (.ref hd) :: List.replicate 12 .no) := by
  unfold d_law
  repeat decreasing_trivial_pre_omega
  show dCall _ _ _ _ _ _
  repeat decreasing_trivial_pre_omega
  refine ⟨rfl, fun ns ms l few sn sm' => ?_⟩
  refine ⟨.inl rfl, ?_⟩
  have lo := len_ranks ns
  have lm := len_ranks ms
  have so := std_ranks few
  have sO := std_ranks (ns := ms) (by omega)
  have vl := lin_val l few
  have cl := canon_len (ranksOf ns)
  have cm := canon_len (ranksOf ms)
  repeat decreasing_trivial_pre_omega
  refine ⟨_, ns, rfl, rfl, by omega, ?_⟩
  repeat decreasing_trivial_pre_omega
  refine ⟨_, ms, rfl, rfl, by omega, ?_⟩
  repeat decreasing_trivial_pre_omega
  refine ⟨ns.length, by rw [List.length_map, lo]; rfl, few, fun ps pl => ?_⟩
  have pf := places_few pl
  repeat decreasing_trivial_pre_omega
  refine ⟨_, _, ns, ms, rfl, rfl, rfl, l, by omega, ?_⟩
  repeat decreasing_trivial_pre_omega
  refine ⟨_, ranksOf ns, rfl, rfl, by omega, ?_⟩
  repeat decreasing_trivial_pre_omega
  refine ⟨_, ranksOf ms, rfl, rfl, by omega, ?_⟩
  repeat decreasing_trivial_pre_omega
  refine ⟨_, _, rfl, by omega, by omega, by omega, by omega, fun L hL => ?_⟩
  have V : Val (ranksOf ns) (ranksOf ms) L := ⟨so, sO, by rw [lo, lm, l], by rw [← so.full, ← sO.full]; exact hL⟩
  repeat decreasing_trivial_pre_omega
  refine ⟨.inl rfl, _, rfl, ?_⟩
  have at1 : ∀ i ∈ baseI ns.length, 0 ≤ i ∧ i < (ns.length : Int) := fun i hi => base_in hi
  have bl : ((baseI ns.length).map D.int).length ≤ 1000000 := by
    unfold baseI
    rw [List.length_map, List.length_map, List.length_range]
    omega
  refine forD_of (fun done rest env => (∃ s8 s9 s12 s13, env = [.val (scrD ds), .val (.ref hd), .val (tI (ranksOf ns)), .val (tI (ranksOf ms)), .val (lI ps), .val (lI ps), .val (tI (linOf ns ms)), .val (tI L), s8, s9, .val (lI ns), .val (lI ms), s12, s13]) ∧ ∀ x ∈ rest, ∃ d, x = .str d ∧ isDeed d) (fun done env hh => ?_) (fun done x rest env hh kk => ?_) _ [] _ ⟨⟨_, _, _, _, rfl⟩, fun x hx => ?_⟩
  · obtain ⟨⟨s8, s9, s12, s13, rfl⟩, _⟩ := hh
    repeat decreasing_trivial_pre_omega
    rw [List.length_map]
    refine ⟨(ns.length : Int), rfl, by omega, ?_⟩
    rw [rng_base]
    refine ⟨bl, lc_int (fun i => min (at_ ns i) (at_ ms i)) (fun i hi R hR => ?_) ?_⟩
    · have hi := at1 i hi
      repeat decreasing_trivial_pre_omega
      refine rIxL (at_at (d := ns) hi.1 hi.2) ?_
      repeat decreasing_trivial_pre_omega
      refine rIxL (at_at (d := ms) hi.1 (by omega)) ?_
      repeat decreasing_trivial_pre_omega
      refine ⟨_, _, rfl, ?_⟩
      rw [min_if]
      exact hR
    rw [rng_zip _ l]
    repeat decreasing_trivial_pre_omega
    refine ⟨_, _, rfl, rfl, by rw [List.length_zipWith]; omega, ?_⟩
    refine ⟨.inr (nolT _), ?_⟩
    repeat decreasing_trivial_pre_omega
    refine ⟨"lesser", _, _, _, _, _, _, rfl, .inl rfl, ⟨rfl, rfl, rfl, vl⟩, ?_⟩
    repeat decreasing_trivial_pre_omega
    refine eqT_of (by rw [made_lin _ l, made_min]) ?_
    rfl
  · obtain ⟨⟨s8, s9, s12, s13, rfl⟩, hx⟩ := hh
    obtain ⟨d, rfl, hd'⟩ := hx x List.mem_cons_self
    have hx := fun y hy => hx y (List.mem_cons_of_mem _ hy)
    repeat decreasing_trivial_pre_omega
    rw [List.length_map]
    refine ⟨(ns.length : Int), rfl, by omega, ?_⟩
    rw [rng_base]
    refine ⟨bl, lc_int (fun i => key d (at_ ns i) (at_ ms i)) (fun i hi R hR => ?_) ?_⟩
    · have hi := at1 i hi
      have sa := sn _ (List.mem_of_getElem? (at_get (xs := ns) hi.1 hi.2))
      have sb := sm' _ (List.mem_of_getElem? (at_get (xs := ms) hi.1 (by omega)))
      repeat decreasing_trivial_pre_omega
      refine rIxL (at_at (d := ns) hi.1 hi.2) ?_
      repeat decreasing_trivial_pre_omega
      refine rIxL (at_at (d := ms) hi.1 (by omega)) ?_
      repeat decreasing_trivial_pre_omega
      exact ⟨d, _, _, rfl, hd', sa, sb, hR⟩
    rw [rng_zip _ l]
    repeat decreasing_trivial_pre_omega
    refine ⟨_, _, rfl, rfl, by rw [List.length_zipWith]; omega, ?_⟩
    refine ⟨.inr (nolT _), ?_⟩
    rw [← made_lin d l]
    repeat decreasing_trivial_pre_omega
    refine ⟨d, _, _, _, rfl, hd', vl, ?_⟩
    repeat decreasing_trivial_pre_omega
    refine ⟨d, _, _, _, _, _, _, rfl, hd', ⟨rfl, rfl, rfl, V⟩, ?_⟩
    repeat decreasing_trivial_pre_omega
    refine ⟨d, _, _, _, rfl, hd', V, ?_⟩
    repeat decreasing_trivial_pre_omega
    refine ⟨_, ranksOf ns, rfl, rfl, by omega, ?_⟩
    refine ⟨[.int 2], _, rfl, rfl, by simp, by omega, by omega, by decide, ?_⟩
    rw [Int.toNat_natCast, rep_two]
    have v2 := val_two so (n := (canon (ranksOf ns)).length) so.full
    refine ⟨d, _, _, _, _, _, _, rfl, hd', ⟨rfl, rfl, rfl, v2⟩, ?_⟩
    repeat decreasing_trivial_pre_omega
    refine eqT_of (made_two d so so.full) ?_
    repeat decreasing_trivial_pre_omega
    refine ⟨d, _, _, _, ps, rfl, hd', V, by rw [lo]; exact pl, ?_⟩
    repeat decreasing_trivial_pre_omega
    refine eqL_self ?_
    repeat decreasing_trivial_pre_omega
    exact kk _ ⟨⟨_, _, _, _, rfl⟩, hx⟩
  · simp only [List.mem_cons, List.not_mem_nil, or_false] at hx
    rcases hx with rfl | rfl | rfl
    · exact ⟨_, rfl, .inl rfl⟩
    · exact ⟨_, rfl, .inr (.inl rfl)⟩
    · exact ⟨_, rfl, .inr (.inr rfl)⟩
end K09

namespace K09
open PySem PySem.Spec PyProof.Rows L2 Dl
theorem m40 {i j : Int} (h1 : 0 ≤ i) (h2 : i < 2 ^ 40) (h3 : 0 ≤ j) (h4 : j < 2 ^ 40) : CMulW i j := mulW (big_abs h1 (Int.lt_of_lt_of_le h2 (by decide))) (big_abs h3 (Int.lt_of_lt_of_le h4 (by decide)))
theorem d40 {i j : Int} (h : 0 < j) (h2 : j < 2 ^ 40) : CDivW i j := ⟨h, by
  have h1 : j.natAbs < 2 ^ 40 := by omega
  have h3 : j.natAbs ≠ 0 := by omega
  have := (Nat.log2_lt h3).mpr h1
  omega⟩
theorem kpI {env : DEnv} {i : Nat} {x : Int} : keepable env i (.int x) := .inr (by simp only [D.noLst])
theorem ct__law_mixed {K : PySem.W.Frag} {ds : List D} {Qd : D → Prop} {Ed : Exc → Prop} (h : C__law_mixed K ds Qd Ed) : d__law_mixed K (fun _ x => Ed x) ⟨fun _ => Qd .non, Qd, fun _ => False, fun _ => False⟩ (startD N__law_mixed ds) := by
  obtain ⟨a, b, rfl, a0, a1, b0, b1, q⟩ := h
  refine ⟨_, _, rfl, rfl, a, _, rfl, rfl, m40 a0 (by omega) (by decide) (by decide), _, _, rfl, rfl, b, _, rfl, rfl, m40 b0 (by omega) (by decide) (by decide), ⟨_, rfl, ⟨_, _, rfl, rfl, (show (0 : Int) < 2147483647 by decide), kpI, ?_⟩⟩⟩
  dsimp only
  generalize hx : (a * 48271 + b * 7919 + 104729) % 2147483647 = x
  have x0 : 0 ≤ x := by rw [← hx]; exact Int.emod_nonneg _ (by decide)
  have x1 : x < 2147483647 := by rw [← hx]; exact Int.emod_lt_of_pos _ (by decide)
  refine ⟨_, _, rfl, rfl, _, _, rfl, rfl, x, x, rfl, rfl, m40 x0 (by omega) x0 (by omega), _, _, rfl, rfl, b, _, rfl, rfl, m40 b0 (by omega) (by decide) (by decide), ?_⟩
  refine ⟨_, _, rfl, rfl, x, _, rfl, rfl, d40 (by decide) (by decide), ⟨_, rfl, ⟨_, _, rfl, rfl, (show (0 : Int) < 2147483629 by decide), kpI, ?_⟩⟩⟩
  dsimp only
  generalize hy : (x * x + b * 69031 + x / 131) % 2147483629 = y
  have y0 : 0 ≤ y := by rw [← hy]; exact Int.emod_nonneg _ (by decide)
  have y1 : y < 2147483629 := by rw [← hy]; exact Int.emod_lt_of_pos _ (by decide)
  refine ⟨_, _, rfl, rfl, y, _, rfl, rfl, m40 y0 (by omega) (by decide) (by decide), _, _, rfl, rfl, x, _, rfl, rfl, d40 (by decide) (by decide), ⟨_, rfl, ⟨_, _, rfl, rfl, (show (0 : Int) < 2147483587 by decide), ⟨_, rfl, ⟨_, _, rfl, rfl, d40 (by decide) (by decide), ?_⟩⟩⟩⟩⟩
  dsimp only
  generalize hz : (y * 61927 + x / 7) % 2147483587 = z
  have z0 : 0 ≤ z := by rw [← hz]; exact Int.emod_nonneg _ (by decide)
  have z1 : z < 2147483587 := by rw [← hz]; exact Int.emod_lt_of_pos _ (by decide)
  exact q (z / 128) (Int.ediv_nonneg z0 (by decide)) (by omega)
theorem ct__law_whole {K : PySem.W.Frag} {ds : List D} {Qd : D → Prop} {Ed : Exc → Prop} (h : C__law_whole K ds Qd Ed) : d__law_whole K (fun _ x => Ed x) ⟨fun _ => Qd .non, Qd, fun _ => False, fun _ => False⟩ (startD N__law_whole ds) := by
  obtain ⟨x, rfl, hx, q⟩ := h
  obtain ⟨t, ht⟩ := Option.isSome_iff_exists.mp hx
  refine ⟨_, _, rfl, rfl, _, _, rfl, t, ht, ⟨by simp [tyNames], ⟨_, rfl, ?_⟩⟩⟩
  cases x <;> simp only [D.tyn, Option.some.injEq, reduceCtorEq] at ht
  all_goals subst ht
  all_goals first
    | exact it_f rfl q
    | refine it_t rfl ⟨_, _, rfl, rfl, _, _, rfl, _, rfl, ⟨by simp [tyNames], ⟨_, rfl, q⟩⟩⟩
theorem ct_is_whole {K : PySem.W.Frag} {ds : List D} {Qd : D → Prop} {Ed : Exc → Prop} (h : C_is_whole K ds Qd Ed) : d_is_whole K (fun _ x => Ed x) ⟨fun _ => Qd .non, Qd, fun _ => False, fun _ => False⟩ (startD N_is_whole ds) := by
  obtain ⟨x, lo, hi, rfl, hx, h1, h2, q⟩ := h
  obtain ⟨t, ht⟩ := Option.isSome_iff_exists.mp hx
  simp only [d_is_whole, sSeq, sIf, dOr, dNot, dB, dCB, dCons, dNil, dVar, dC, sRet, sNext, dAndV, dOrV, dOp, startD, List.map, List.length, List.replicate, List.nil_append, List.cons_append, List.append_nil, List.getElem?_cons_zero, List.getElem?_cons_succ, Option.some.injEq, exists_eq_left', exists_eq_left, rdSlot, exists_and_left, bIsi, List.cons.injEq, and_true, and_assoc, D.bl.injEq, ht, tm_bool, tm_int, true_and, if_true]
  cases x <;> simp only [D.tyn, Option.some.injEq, reduceCtorEq] at ht
  all_goals subst ht
  all_goals simp [isiB]
  all_goals first
    | simpa [isWh] using q
    | skip
  rename_i n
  cases lo <;> cases hi <;> simp only [isOpt] at h1 h2 <;> simp [fIs, isN, xr, fGe, fLe, fI0] <;> simp [isWh] at q ⊢
  · exact q
  · exact q
  · rename_i l
    by_cases h : l ≤ n
    · rw [decide_eq_true h] at q; exact .inr ⟨h, q⟩
    · rw [decide_eq_false h] at q; exact .inl ⟨by omega, q⟩
  · rename_i l u
    by_cases h : l ≤ n
    · rw [decide_eq_true h, Bool.true_and] at q; exact .inr ⟨h, q⟩
    · rw [decide_eq_false h, Bool.false_and] at q; exact .inl ⟨by omega, q⟩
theorem ct__law_hand {K : PySem.W.Frag} {ds : List D} {Qd : D → Prop} {Ed : Exc → Prop} (h : C_hand K ds Qd Ed) : d__law_hand K (fun _ x => Ed x) ⟨fun _ => Qd .non, Qd, fun _ => False, fun _ => False⟩ (startD N__law_hand ds) := by
  obtain ⟨nm, ns, rfl, hl, q⟩ := h
  refine ⟨_, _, rfl, rfl, _, _, rfl, kpI, (show 0 ≤ sizeLine by decide), (show 2 < 4 by decide), .inl rfl, ⟨_, _, rfl, ?_⟩⟩
  refine forD_of (fun done rest env => ∃ (t : Int) (cs ms : List Int) (lc : Slot), env = [.val (.obj .scr nm (ns.map D.int)), .val (.int t), .own (cs.map D.int), lc] ∧ 0 ≤ t ∧ t < 2 ^ 32 ∧ (∀ c ∈ cs, 0 ≤ c) ∧ cs.length = done.length ∧ rest = ms.map D.int ∧ done.length + ms.length ≤ 63) ?_ ?_ _ [] _ ⟨_, [], ns, _, rfl, ?_, ?_, (fun c m => by cases m), rfl, rfl, by simpa using hl⟩
  · intro done env hh
    obtain ⟨t, cs, ms, lc, rfl, t0, t1, hc, hlen, hr, hb⟩ := hh
    refine ⟨_, _, rfl, rfl, ⟨_, _, rfl, rfl, (show 4 ≤ sizeLine by decide), ?_⟩⟩
    exact q cs t (by omega) hc t0 t1
  · intro done x rest env hh k
    obtain ⟨t, cs, ms, lc, rfl, t0, t1, hc, hlen, hr, hb⟩ := hh
    cases ms with
    | nil => cases hr
    | cons m ms =>
      obtain ⟨rfl, rfl⟩ := List.cons.inj hr
      have small : ∀ x y : Int, 0 ≤ y → y < 2 ^ 40 → CMul x y := fun x y h0 h1 => .inr ⟨by omega, by omega⟩
      refine ⟨_, _, rfl, rfl, t, _, rfl, rfl, small _ _ (by decide) (by decide), ⟨_, _, rfl, rfl, ⟨m, rfl, ⟨m, rfl, ⟨_, _, rfl, rfl, small _ _ (by decide) (by decide), ⟨_, rfl, ⟨_, _, rfl, rfl, (show (0 : Int) < 2147483579 by decide), kpI, ?_⟩⟩⟩⟩⟩⟩⟩
      refine ⟨_, rfl, _, _, rfl, rfl, m, rfl, m, rfl, by simp only [D.noLst], ?_, ?_⟩
      · rw [List.length_map, hlen]
        have : (100 : Nat) ≤ sizeLine := by decide
        omega
      · dsimp only
        refine k _ ⟨(t * 1009 + (if m < 0 then -m else m) * 3 + 17) % 2147483579, cs ++ [if m < 0 then -m else m], ms, .val (.int m), ?_, Int.emod_nonneg _ (by decide), Int.lt_of_lt_of_le (Int.emod_lt_of_pos _ (by decide)) (by decide), fun c hcm => ?_, ?_, rfl, ?_⟩
        · rw [List.map_append]; rfl
        · rcases List.mem_append.mp hcm with z | z
          · exact hc c z
          · rw [List.mem_singleton.mp z]; split <;> omega
        · rw [List.length_append, List.length_append, hlen]; rfl
        · rw [List.length_append]
          rw [List.length_cons] at hb
          simp only [List.length_cons, List.length_nil]
          omega
  · show (0 : Int) ≤ ((ns.map D.int).length : Int) + 91
    omega
  · show ((ns.map D.int).length : Int) + 91 < 2 ^ 32
    rw [List.length_map]
    omega

end K09

namespace K09
open PySem PySem.Spec PyProof.Rows L2 Dl Ns Zs Zz
abbrev s__law_take : Stmt := top 33
abbrev N__law_take : List Str := ["_law_hand_here", "_law_many", "_law_cell", "_law_rest"]
theorem sc__law_take : FnScope N__law_take ["_law_hand_here", "_law_many"] (defScope s__law_take) := ⟨rfl, rfl, rfl, by decide +kernel, rfl, by decide +kernel, by decide +kernel⟩
theorem fn__law_take {P : Program} {w : World} {K : PySem.W.Frag} {mg : Str → Option Value} {base : Heap} {fa hd c : Addr} {fd : FuncData} (hne : hd ≠ c) (F : FunD K "_law_take" "_law_take" (defArgs s__law_take) (defBody s__law_take) (defScope s__law_take) [] [] fa fd) (T : Tf K mg)
    (c__law_mixed : Cl P w K mg base (handI hd c) 2 "_law_mixed" 2 (C__law_mixed K) []) : FnOk P w K mg base (L2.CX P w) 3 fa fd ["_law_hand_here", "_law_many"] (spOf K (handI hd c) 2 (C__law_take hd)) := by
  obtain ⟨fm, fdm, psm, dsm, dvsm, F__law_mixed, g__law_mixed, k__law_mixed, b__law_mixed, vm, dm⟩ := c__law_mixed
  have e1 : dvsm = [] := (dm (fun _ => none)).nil
  subst e1
  cases vm
  refine F.ok sc__law_take (fun vs H Q E ⟨ds, Qd, Ed, hl, dn, _⟩ => by rw [dn.len, hl]; rfl) (fun cdv A outer s H vs Q E hr h => ?_)
  have nd := sc__law_take.nd
  refine ⟨_, pss_cons (ps_if (PW.pt (pw_and (pt_cmpR op_eq (pe_ix ix_list (pv 0) (pe_int) (by intro _ _; rfl)) (pe_int) (nomark _)) (pw_and1 (pt_cmpR op_lt (pe_ix ix_list (pv 0) (pe_int) (by intro _ _; rfl)) (pe_callB call_len rfl T.n_len PySem.boot_len (pa_cons (pe_ix ix_list (pv 0) (pe_int) (by intro _ _; rfl)) (pa_nil))) (nomark _))))) (pss_cons (ps_set (i := 2) nd rfl (Or.inl rfl) (pe_ix ix_list (pe_ix ix_list (pv 0) (pe_int) (by intro _ _; rfl)) (pe_ix ix_list (pv 0) (pe_int) (by intro _ _; rfl)) (by intro _ _; rfl))) (pss_cons (ps_asg (pe_op op_add (pe_ix ix_list (pv 0) (pe_int) (by intro _ _; rfl)) (pe_int)) (pg_sub (pv 0) (pe_int) set_list)) (pss_cons (ps_if (pt_cmpR op_lt (pv 2) (pe_op op_pow (pe_int) (pe_int)) (nomark _)) (pss_one (ps_ret (pe_op op_mod (pe_callTy call_int1 rfl T.n_int boot_int (pa_cons (pe_call F__law_mixed (hr.mono (by decide)) rfl g__law_mixed k__law_mixed b__law_mixed .nil passL (pa_cons (pe_op op_mod (pe_callTy call_int1 rfl T.n_int boot_int (pa_cons (pe_op op_add (pe_op op_mulW (pv 2) (pe_int)) (pe_ix ix_list (pv 0) (pe_int) (by intro _ _; rfl))) (pa_nil))) (pe_int)) (pa_cons (pe_ix ix_list (pv 0) (pe_int) (by intro _ _; rfl)) (pa_nil)))) (pa_nil))) (pv 1)))) (pss_nil)) (pss_one (ps_asg (pv 2) (pg_sub (pv 0) (pe_int) set_list)))))) (pss_nil)) (pss_cons (ps_if (pt_cmpR op_gt (pe_ix ix_list (pv 0) (pe_int) (by intro _ _; rfl)) (pe_int) (nomark _)) (pss_cons (ps_set (i := 3) nd rfl (Or.inl rfl) (pe_ix ix_list (pv 0) (pe_int) (by intro _ _; rfl))) (pss_cons (ps_asg (pe_op op_fdivW (pe_callTy call_int1 rfl T.n_int boot_int (pa_cons (pv 3) (pa_nil))) (pv 1)) (pg_sub (pv 0) (pe_int) set_list)) (pss_one (ps_ret (pe_op op_mod (pe_callTy call_int1 rfl T.n_int boot_int (pa_cons (pv 3) (pa_nil))) (pv 1)))))) (pss_nil)) (pss_cons (ps_asg (pe_op op_mod (pe_callTy call_int1 rfl T.n_int boot_int (pa_cons (pe_op op_add (pe_ix ix_list (pv 0) (pe_int) (by intro _ _; rfl)) (pe_int)) (pa_nil))) (pe_int)) (pg_sub (pv 0) (pe_int) set_list)) (pss_one (ps_ret (pe_op op_mod (pe_callTy call_int1 rfl T.n_int boot_int (pa_cons (pe_call F__law_mixed (hr.mono (by decide)) rfl g__law_mixed k__law_mixed b__law_mixed .nil passL (pa_cons (pe_ix ix_list (pv 0) (pe_int) (by intro _ _; rfl)) (pa_cons (pe_ix ix_list (pv 0) (pe_int) (by intro _ _; rfl)) (pa_nil)))) (pa_nil))) (pv 1)))))), ?_⟩
  obtain ⟨ds, Qd, Ed, hl, dn, ok, ⟨m, rfl, m0, m1, q⟩, kq, ke⟩ := h
  obtain ⟨v1, r1, rfl, d1, dn⟩ := dn.cons
  obtain ⟨v2, rfl, d2⟩ := dn.one1
  simp only [Den] at d1 d2
  subst d1 d2
  obtain ⟨cs, at_, held, tot, Z⟩ := ok
  have hm : CDivW held m := ⟨m0, by
    have h1 : m.natAbs < 2 ^ 200 := by omega
    have h2 : m.natAbs ≠ 0 := by omega
    have := (Nat.log2_lt h2).mpr h1
    omega⟩
  have fin : ∀ (x : Int) (H' : Hp), Kp (handI hd c).own H H' → (handI hd c).ok H' → Q (.int (x % m)) H' := fun x H' e o =>
    kq (.int (x % m)) (.int (x % m)) H' ⟨e, o⟩ (by simp only [Den]) (q _ (Int.emod_nonneg _ (by omega)) (Int.emod_lt_of_pos _ m0))
  refine seq_of (P := fun σ' H' => ∃ a b, σ' = [some (.ref hd), some (.int m), a, b] ∧ Kp (handI hd c).own H H' ∧ ∃ cs at_ held tot, HandAt hd c cs at_ held tot H') ?_ ?_
  · intro σ' H' hh
    obtain ⟨a, b, rfl, kp, cs, at_, held, tot, Z⟩ := hh
    refine seq_of (P := fun σ' H' => ∃ a b, σ' = [some (.ref hd), some (.int m), a, b] ∧ Kp (handI hd c).own H H' ∧ ∃ cs at_ held tot, HandAt hd c cs at_ held tot H') ?_ ?_
    · intro σ' H' hh
      obtain ⟨a, b, rfl, kp, cs, at_, held, tot, Z⟩ := hh
      refine v_ix rfl Z.h rfl ⟨tot, 1, rfl, rfl, Or.inl ⟨tot + 1, rfl, ⟨tot + 1, _, rfl, rfl, (show (0 : Int) < 2147483579 by decide), ?_⟩⟩⟩
      refine v_set rfl Z.h rfl ?_
      have t0 : 0 ≤ (tot + 1) % 2147483579 := Int.emod_nonneg _ (by decide)
      have t1 : (tot + 1) % 2147483579 < 2147483579 := Int.emod_lt_of_pos _ (by decide)
      have Z' := Z.set hne Z.a0 Z.a1 Z.h0 t0 (by omega)
      refine v_ix rfl Z'.h rfl (v_ix rfl Z'.h rfl ?_)
      refine ⟨[.int _, .int at_], fun d => ∃ r : Int, d = .int r ∧ 0 ≤ r, fun _ => False, rfl, DenA.ints (ns := [_, at_]), ⟨_, _, _, _, Z'⟩, ⟨_, _, rfl, t0, by omega, Z.a0, by have := Z.a1; omega, fun r r0 _ => ⟨r, rfl, r0⟩⟩, fun v d H2 e2 dn ⟨r, er, r0⟩ => ?_, fun _ _ _ _ _ z => z.elim⟩
      subst er
      simp only [Den] at dn
      subst dn
      refine Or.inl ⟨r, rfl, ⟨_, rfl, ⟨r, m, rfl, rfl, m0, ?_⟩⟩⟩
      exact fin r H2 ((kp.trans kp_mut).trans e2.1) e2.2
    · intro nx
      by_cases hh : 0 < held
      · refine v_ix rfl Z.h rfl ⟨held, 0, rfl, rfl, _, rfl, ?_⟩
        refine it_t (decide_eq_true hh) ?_
        refine v_ix rfl Z.h rfl ?_
        refine ⟨_, rfl, Or.inl ⟨held, rfl, ⟨_, rfl, ⟨held, m, rfl, rfl, ⟨hm.1, hm.2⟩, ?_⟩⟩⟩⟩
        refine v_set rfl Z.h rfl ?_
        have Z' := Z.set hne Z.a0 Z.a1 (h' := held / m) (Int.ediv_nonneg Z.h0 (Int.le_of_lt m0)) Z.t0 Z.t1
        refine ⟨_, rfl, Or.inl ⟨held, rfl, ⟨_, rfl, ⟨held, m, rfl, rfl, m0, ?_⟩⟩⟩⟩
        exact fin held _ (kp.trans kp_mut) ⟨_, _, _, _, Z'⟩
      · refine v_ix rfl Z.h rfl ⟨held, 0, rfl, rfl, _, rfl, ?_⟩
        refine it_f (decide_eq_false hh) ?_
        exact nx _ _ ⟨a, b, rfl, kp, _, _, _, _, Z⟩
  · intro nx
    refine v_ix rfl Z.h rfl ⟨rfl, _, rfl, ?_⟩
    by_cases hh : held = 0
    · subst hh
      refine it_t (decide_eq_true rfl) ?_
      refine v_ix rfl Z.h rfl (v_ix rfl Z.h rfl ?_)
      refine ⟨_, (cs.map V.int).length, rfl, Or.inl ⟨_, SqL.of Z.c, rfl⟩, ⟨at_, _, rfl, rfl, _, rfl, ?_⟩⟩
      by_cases hl : at_ < ((cs.map V.int).length : Int)
      · refine it_t (decide_eq_true hl) ?_
        rw [List.length_map] at hl
        obtain ⟨x, ex, mx⟩ := take_cell Z.a0 hl
        have x0 := Z.pos x mx
        refine v_ix rfl Z.h rfl ?_
        refine v_ix rfl Z.h rfl ⟨c, _, at_, _, rfl, rfl, SqL.of Z.c, ex, ?_⟩
        refine v_ix rfl Z.h rfl ⟨at_, 1, rfl, rfl, ?_⟩
        refine v_set rfl Z.h rfl ?_
        have Z' := Z.set hne (a' := at_ + 1) (by have := Z.a0; omega) (by have := Z.len; omega) Z.h0 Z.t0 Z.t1
        refine ⟨_, rfl, ⟨10, 18, rfl, rfl, (by unfold CPow; decide), ⟨x, _, rfl, rfl, _, rfl, ?_⟩⟩⟩
        by_cases hx : x < (10 : Int) ^ (18 : Int).toNat
        · refine it_t (decide_eq_true hx) ?_
          have hx' : x < 1000000000000000000 := hx
          have cm : CMulW x 31 := mulW (Nat.lt_of_lt_of_le (show x.natAbs < 2 ^ 64 by omega) (Nat.pow_le_pow_right (n := 2) (by decide) (by decide))) (by decide)
          refine ⟨_, rfl, ⟨x, 31, rfl, rfl, cm, ?_⟩⟩
          refine v_ix rfl Z'.h rfl ⟨x * 31, tot, rfl, rfl, Or.inl ⟨x * 31 + tot, rfl, ⟨x * 31 + tot, _, rfl, rfl, (show (0 : Int) < 2147483579 by decide), ?_⟩⟩⟩
          have c0 : 0 ≤ (x * 31 + tot) % 2147483579 := Int.emod_nonneg _ (by decide)
          have c1 : (x * 31 + tot) % 2147483579 < 2147483579 := Int.emod_lt_of_pos _ (by decide)
          refine v_ix rfl Z'.h rfl ?_
          refine ⟨[.int ((x * 31 + tot) % 2147483579), .int (at_ + 1)], fun d => ∃ r : Int, d = .int r ∧ 0 ≤ r, fun _ => False, rfl, DenA.ints (ns := [(x * 31 + tot) % 2147483579, at_ + 1]), ⟨_, _, _, _, Z'⟩, ⟨_, _, rfl, c0, by omega, Z'.a0, by have := Z'.a1; omega, fun r r0 _ => ⟨r, rfl, r0⟩⟩, fun v d H2 e2 dn ⟨r, er, r0⟩ => ?_, fun _ _ _ _ _ z => z.elim⟩
          subst er
          simp only [Den] at dn
          subst dn
          refine Or.inl ⟨r, rfl, ⟨_, rfl, ⟨r, m, rfl, rfl, m0, ?_⟩⟩⟩
          exact fin r H2 (kp_mut.trans e2.1) e2.2
        · refine it_f (decide_eq_false hx) ?_
          refine ⟨_, rfl, v_set rfl Z'.h rfl ?_⟩
          have Z2 := Z'.set hne Z'.a0 Z'.a1 (h' := x) x0 Z.t0 Z.t1
          refine nx _ _ ⟨_, _, rfl, kp_mut.trans kp_mut, _, _, _, _, Z2⟩
      · refine it_f (decide_eq_false hl) ?_
        exact nx _ _ ⟨_, _, rfl, Kp.refl, _, _, _, _, Z⟩
    · refine it_f (decide_eq_false fun z => hh (by injection z)) ?_
      refine it_f rfl ?_
      exact nx _ _ ⟨_, _, rfl, Kp.refl, _, _, _, _, Z⟩

end K09

namespace K09
open PySem PySem.Spec PyProof.Rows L2 Dl Ns Zs Zz
theorem fn_is_whole {P : Program} {w : World} {K : PySem.W.Frag} {mg : Str → Option Value} {base : Heap} {I : HI} {fa : Addr} {fd : FuncData} (F : FunD K "is_whole" "is_whole" (defArgs s_is_whole) (defBody s_is_whole) (defScope s_is_whole) [.non, .non] [] fa fd) (T : Tf K mg)  :
    FnOk P w K mg base (L2.CX P w) 2 fa fd ["thing", "low", "high"] (spOf K I 3 (C_is_whole K)) :=
  fn_D F sc_is_whole (fun cdv A outer s H E Ed hr tk => pd_is_whole T  hr tk) fun ds Qd Ed h _ => ct_is_whole h
theorem mk_c_is_whole_2 {P : Program} {w : World} {K : PySem.W.Frag} {mg : Str → Option Value} {base : Heap} {I : HI} {fa : Addr} {fd : FuncData} (F : FunD K "is_whole" "is_whole" (defArgs s_is_whole) (defBody s_is_whole) (defScope s_is_whole) [.non, .non] [] fa fd) (T : Tf K mg) (gm : mg "is_whole" = some (.ref fa))  : Cl P w K mg base I 2 "is_whole" 3 (C_is_whole K) [.non] := by
  obtain ⟨ds, V, B⟩ := F.binds1 (ps := ["thing", "low", "high"]) 2 1 (by simp) rfl fun T2 kV doc pm an cdv ct us its l1 l2 => match us, its, l1, l2 with | [_, _], [_, _], _, _ => ⟨_, rfl, rfl⟩
  exact ⟨fa, fd, _, _, _, fn_is_whole F T , gm, F.kp, B, V, fun H => by simp [DenA, Den]⟩
theorem mk_c_is_whole {P : Program} {w : World} {K : PySem.W.Frag} {mg : Str → Option Value} {base : Heap} {I : HI} {fa : Addr} {fd : FuncData} (F : FunD K "is_whole" "is_whole" (defArgs s_is_whole) (defBody s_is_whole) (defScope s_is_whole) [.non, .non] [] fa fd) (T : Tf K mg) (gm : mg "is_whole" = some (.ref fa))  : Cl P w K mg base I 2 "is_whole" 3 (C_is_whole K) [] := by
  obtain ⟨ds, V, B⟩ := F.binds1 (ps := ["thing", "low", "high"]) 3 2 (by simp) rfl fun T2 kV doc pm an cdv ct us its l1 l2 => match us, its, l1, l2 with | [_, _, _], [_, _], _, _ => ⟨_, rfl, rfl⟩
  exact ⟨fa, fd, _, _, _, fn_is_whole F T , gm, F.kp, B, V, fun H => by simp [DenA, Den]⟩
theorem fn_check_standing {P : Program} {w : World} {K : PySem.W.Frag} {mg : Str → Option Value} {base : Heap} {I : HI} {fa : Addr} {fd : FuncData} (F : FunD K "check_standing" "check_standing" (defArgs s_check_standing) (defBody s_check_standing) (defScope s_check_standing) [.non] [] fa fd) (T : Tf K mg) (c_is_whole_2 : Cl P w K mg base I 2 "is_whole" 3 (C_is_whole K) [.non]) (er_BadStanding : Er P w K mg base "BadStanding" "index") :
    FnOk P w K mg base (L2.CX P w) 3 fa fd ["ranks", "places"] (spOf K I 2 (C_check_standing K)) :=
  fn_D F sc_check_standing (fun cdv A outer s H E Ed hr tk => pd_check_standing T c_is_whole_2 er_BadStanding hr tk) fun ds Qd Ed h _ => ct_check_standing h
theorem mk_c_check_standing_1 {P : Program} {w : World} {K : PySem.W.Frag} {mg : Str → Option Value} {base : Heap} {I : HI} {fa : Addr} {fd : FuncData} (F : FunD K "check_standing" "check_standing" (defArgs s_check_standing) (defBody s_check_standing) (defScope s_check_standing) [.non] [] fa fd) (T : Tf K mg) (gm : mg "check_standing" = some (.ref fa)) (c_is_whole_2 : Cl P w K mg base I 2 "is_whole" 3 (C_is_whole K) [.non]) (er_BadStanding : Er P w K mg base "BadStanding" "index") : Cl P w K mg base I 3 "check_standing" 2 (C_check_standing K) [.non] := by
  obtain ⟨ds, V, B⟩ := F.binds1 (ps := ["ranks", "places"]) 1 0 (by simp) rfl fun T2 kV doc pm an cdv ct us its l1 l2 => match us, its, l1, l2 with | [_], [_], _, _ => ⟨_, rfl, rfl⟩
  exact ⟨fa, fd, _, _, _, fn_check_standing F T c_is_whole_2 er_BadStanding, gm, F.kp, B, V, fun H => by simp [DenA, Den]⟩
theorem fn_standing_of {P : Program} {w : World} {K : PySem.W.Frag} {mg : Str → Option Value} {base : Heap} {I : HI} {fa : Addr} {fd : FuncData} (F : FunD K "standing_of" "standing_of" (defArgs s_standing_of) (defBody s_standing_of) (defScope s_standing_of) [] [] fa fd) (T : Tf K mg)  :
    FnOk P w K mg base (L2.CX P w) 2 fa fd ["keys"] (spOf K I 1 (C_standing_of K)) :=
  fn_D F sc_standing_of (fun cdv A outer s H E Ed hr tk => pd_standing_of T  hr tk) fun ds Qd Ed h _ => ct_standing_of h
theorem mk_c_standing_of {P : Program} {w : World} {K : PySem.W.Frag} {mg : Str → Option Value} {base : Heap} {I : HI} {fa : Addr} {fd : FuncData} (F : FunD K "standing_of" "standing_of" (defArgs s_standing_of) (defBody s_standing_of) (defScope s_standing_of) [] [] fa fd) (T : Tf K mg) (gm : mg "standing_of" = some (.ref fa))  : Cl P w K mg base I 2 "standing_of" 1 (C_standing_of K) [] := by
  have B : L2.Binds K fd ["keys"] [] := F.bindsN fun _ _ _ _ _ _ us hl => match us, hl with | [_], _ => rfl
  exact ⟨fa, fd, _, _, [], fn_standing_of F T , gm, F.kp, B, .nil, fun H => by simp only [DenA]⟩
theorem fn_check_places {P : Program} {w : World} {K : PySem.W.Frag} {mg : Str → Option Value} {base : Heap} {I : HI} {fa : Addr} {fd : FuncData} (F : FunD K "check_places" "check_places" (defArgs s_check_places) (defBody s_check_places) (defScope s_check_places) [] [] fa fd) (T : Tf K mg) (c_is_whole : Cl P w K mg base I 2 "is_whole" 3 (C_is_whole K) []) (er_BadPlaces : Er P w K mg base "BadPlaces" "index") :
    FnOk P w K mg base (L2.CX P w) 3 fa fd ["places", "many"] (spOf K I 2 (C_check_places K)) :=
  fn_D F sc_check_places (fun cdv A outer s H E Ed hr tk => pd_check_places T c_is_whole er_BadPlaces hr tk) fun ds Qd Ed h _ => ct_check_places h
theorem mk_c_check_places {P : Program} {w : World} {K : PySem.W.Frag} {mg : Str → Option Value} {base : Heap} {I : HI} {fa : Addr} {fd : FuncData} (F : FunD K "check_places" "check_places" (defArgs s_check_places) (defBody s_check_places) (defScope s_check_places) [] [] fa fd) (T : Tf K mg) (gm : mg "check_places" = some (.ref fa)) (c_is_whole : Cl P w K mg base I 2 "is_whole" 3 (C_is_whole K) []) (er_BadPlaces : Er P w K mg base "BadPlaces" "index") : Cl P w K mg base I 3 "check_places" 2 (C_check_places K) [] := by
  have B : L2.Binds K fd ["places", "many"] [] := F.bindsN fun _ _ _ _ _ _ us hl => match us, hl with | [_, _], _ => rfl
  exact ⟨fa, fd, _, _, [], fn_check_places F T c_is_whole er_BadPlaces, gm, F.kp, B, .nil, fun H => by simp only [DenA]⟩
theorem fn_ranks_number {P : Program} {w : World} {K : PySem.W.Frag} {mg : Str → Option Value} {base : Heap} {I : HI} {fa : Addr} {fd : FuncData} (F : FunD K "ranks_number" "ranks_number" (defArgs s_ranks_number) (defBody s_ranks_number) (defScope s_ranks_number) [] [] fa fd) (T : Tf K mg) (c_check_standing_1 : Cl P w K mg base I 3 "check_standing" 2 (C_check_standing K) [.non]) :
    FnOk P w K mg base (L2.CX P w) 4 fa fd ["standing"] (spOf K I 1 (C_ranks_number K)) :=
  fn_D F sc_ranks_number (fun cdv A outer s H E Ed hr tk => pd_ranks_number T c_check_standing_1 hr tk) fun ds Qd Ed h _ => ct_ranks_number h
theorem mk_c_ranks_number {P : Program} {w : World} {K : PySem.W.Frag} {mg : Str → Option Value} {base : Heap} {I : HI} {fa : Addr} {fd : FuncData} (F : FunD K "ranks_number" "ranks_number" (defArgs s_ranks_number) (defBody s_ranks_number) (defScope s_ranks_number) [] [] fa fd) (T : Tf K mg) (gm : mg "ranks_number" = some (.ref fa)) (c_check_standing_1 : Cl P w K mg base I 3 "check_standing" 2 (C_check_standing K) [.non]) : Cl P w K mg base I 4 "ranks_number" 1 (C_ranks_number K) [] := by
  have B : L2.Binds K fd ["standing"] [] := F.bindsN fun _ _ _ _ _ _ us hl => match us, hl with | [_], _ => rfl
  exact ⟨fa, fd, _, _, [], fn_ranks_number F T c_check_standing_1, gm, F.kp, B, .nil, fun H => by simp only [DenA]⟩
theorem fn_check_lining {P : Program} {w : World} {K : PySem.W.Frag} {mg : Str → Option Value} {base : Heap} {I : HI} {fa : Addr} {fd : FuncData} (F : FunD K "check_lining" "check_lining" (defArgs s_check_lining) (defBody s_check_lining) (defScope s_check_lining) [] [] fa fd) (T : Tf K mg) (c_is_whole : Cl P w K mg base I 2 "is_whole" 3 (C_is_whole K) []) (c_ranks_number : Cl P w K mg base I 4 "ranks_number" 1 (C_ranks_number K) []) (er_BadLining : Er P w K mg base "BadLining" "index") (eR_OtherPlaces : Zs.ErR K mg "OtherPlaces") :
    FnOk P w K mg base (L2.CX P w) 5 fa fd ["one", "other", "lining"] (spOf K I 3 (C_check_lining K)) :=
  fn_D F sc_check_lining (fun cdv A outer s H E Ed hr tk => pd_check_lining T c_is_whole c_ranks_number er_BadLining eR_OtherPlaces hr tk) fun ds Qd Ed h _ => ct_check_lining h
theorem mk_c_check_lining {P : Program} {w : World} {K : PySem.W.Frag} {mg : Str → Option Value} {base : Heap} {I : HI} {fa : Addr} {fd : FuncData} (F : FunD K "check_lining" "check_lining" (defArgs s_check_lining) (defBody s_check_lining) (defScope s_check_lining) [] [] fa fd) (T : Tf K mg) (gm : mg "check_lining" = some (.ref fa)) (c_is_whole : Cl P w K mg base I 2 "is_whole" 3 (C_is_whole K) []) (c_ranks_number : Cl P w K mg base I 4 "ranks_number" 1 (C_ranks_number K) []) (er_BadLining : Er P w K mg base "BadLining" "index") (eR_OtherPlaces : Zs.ErR K mg "OtherPlaces") : Cl P w K mg base I 5 "check_lining" 3 (C_check_lining K) [] := by
  have B : L2.Binds K fd ["one", "other", "lining"] [] := F.bindsN fun _ _ _ _ _ _ us hl => match us, hl with | [_, _, _], _ => rfl
  exact ⟨fa, fd, _, _, [], fn_check_lining F T c_is_whole c_ranks_number er_BadLining eR_OtherPlaces, gm, F.kp, B, .nil, fun H => by simp only [DenA]⟩
theorem fn_rank_moments {P : Program} {w : World} {K : PySem.W.Frag} {mg : Str → Option Value} {base : Heap} {I : HI} {fa : Addr} {fd : FuncData} (F : FunD K "rank_moments" "rank_moments" (defArgs s_rank_moments) (defBody s_rank_moments) (defScope s_rank_moments) [] [] fa fd) (T : Tf K mg)  :
    FnOk P w K mg base (L2.CX P w) 2 fa fd ["lining"] (spOf K I 1 (C_rank_moments K)) :=
  fn_D F sc_rank_moments (fun cdv A outer s H E Ed hr tk => pd_rank_moments T  hr tk) fun ds Qd Ed h _ => ct_rank_moments h
theorem mk_c_rank_moments {P : Program} {w : World} {K : PySem.W.Frag} {mg : Str → Option Value} {base : Heap} {I : HI} {fa : Addr} {fd : FuncData} (F : FunD K "rank_moments" "rank_moments" (defArgs s_rank_moments) (defBody s_rank_moments) (defScope s_rank_moments) [] [] fa fd) (T : Tf K mg) (gm : mg "rank_moments" = some (.ref fa))  : Cl P w K mg base I 2 "rank_moments" 1 (C_rank_moments K) [] := by
  have B : L2.Binds K fd ["lining"] [] := F.bindsN fun _ _ _ _ _ _ us hl => match us, hl with | [_], _ => rfl
  exact ⟨fa, fd, _, _, [], fn_rank_moments F T , gm, F.kp, B, .nil, fun H => by simp only [DenA]⟩
theorem fn_moments_of {P : Program} {w : World} {K : PySem.W.Frag} {mg : Str → Option Value} {base : Heap} {I : HI} {fa : Addr} {fd : FuncData} (F : FunD K "moments_of" "moments_of" (defArgs s_moments_of) (defBody s_moments_of) (defScope s_moments_of) [] [] fa fd) (T : Tf K mg) (c_check_lining : Cl P w K mg base I 5 "check_lining" 3 (C_check_lining K) []) (c_rank_moments : Cl P w K mg base I 2 "rank_moments" 1 (C_rank_moments K) []) :
    FnOk P w K mg base (L2.CX P w) 6 fa fd ["one", "other", "lining"] (spOf K I 3 (C_moments_of K)) :=
  fn_D F sc_moments_of (fun cdv A outer s H E Ed hr tk => pd_moments_of T c_check_lining c_rank_moments hr tk) fun ds Qd Ed h _ => ct_moments_of h
theorem mk_c_moments_of {P : Program} {w : World} {K : PySem.W.Frag} {mg : Str → Option Value} {base : Heap} {I : HI} {fa : Addr} {fd : FuncData} (F : FunD K "moments_of" "moments_of" (defArgs s_moments_of) (defBody s_moments_of) (defScope s_moments_of) [] [] fa fd) (T : Tf K mg) (gm : mg "moments_of" = some (.ref fa)) (c_check_lining : Cl P w K mg base I 5 "check_lining" 3 (C_check_lining K) []) (c_rank_moments : Cl P w K mg base I 2 "rank_moments" 1 (C_rank_moments K) []) : Cl P w K mg base I 6 "moments_of" 3 (C_moments_of K) [] := by
  have B : L2.Binds K fd ["one", "other", "lining"] [] := F.bindsN fun _ _ _ _ _ _ us hl => match us, hl with | [_, _, _], _ => rfl
  exact ⟨fa, fd, _, _, [], fn_moments_of F T c_check_lining c_rank_moments, gm, F.kp, B, .nil, fun H => by simp only [DenA]⟩
theorem fn_lining_of {P : Program} {w : World} {K : PySem.W.Frag} {mg : Str → Option Value} {base : Heap} {I : HI} {fa : Addr} {fd : FuncData} (F : FunD K "lining_of" "lining_of" (defArgs s_lining_of) (defBody s_lining_of) (defScope s_lining_of) [] [] fa fd) (T : Tf K mg) (eR_OtherPlaces : Zs.ErR K mg "OtherPlaces") :
    FnOk P w K mg base (L2.CX P w) 2 fa fd ["numbers", "others"] (spOf K I 2 (C_lining_of K)) :=
  fn_D F sc_lining_of (fun cdv A outer s H E Ed hr tk => pd_lining_of T eR_OtherPlaces hr tk) fun ds Qd Ed h _ => ct_lining_of h
theorem mk_c_lining_of {P : Program} {w : World} {K : PySem.W.Frag} {mg : Str → Option Value} {base : Heap} {I : HI} {fa : Addr} {fd : FuncData} (F : FunD K "lining_of" "lining_of" (defArgs s_lining_of) (defBody s_lining_of) (defScope s_lining_of) [] [] fa fd) (T : Tf K mg) (gm : mg "lining_of" = some (.ref fa)) (eR_OtherPlaces : Zs.ErR K mg "OtherPlaces") : Cl P w K mg base I 2 "lining_of" 2 (C_lining_of K) [] := by
  have B : L2.Binds K fd ["numbers", "others"] [] := F.bindsN fun _ _ _ _ _ _ us hl => match us, hl with | [_, _], _ => rfl
  exact ⟨fa, fd, _, _, [], fn_lining_of F T eR_OtherPlaces, gm, F.kp, B, .nil, fun H => by simp only [DenA]⟩
theorem fn_cut_lining {P : Program} {w : World} {K : PySem.W.Frag} {mg : Str → Option Value} {base : Heap} {I : HI} {fa : Addr} {fd : FuncData} (F : FunD K "cut_lining" "cut_lining" (defArgs s_cut_lining) (defBody s_cut_lining) (defScope s_cut_lining) [] [] fa fd) (T : Tf K mg) (c_check_places : Cl P w K mg base I 3 "check_places" 2 (C_check_places K) []) (c_lining_of : Cl P w K mg base I 2 "lining_of" 2 (C_lining_of K) []) (c_moments_of : Cl P w K mg base I 6 "moments_of" 3 (C_moments_of K) []) :
    FnOk P w K mg base (L2.CX P w) 7 fa fd ["one", "other", "lining", "places"] (spOf K I 4 (C_cut_lining K)) :=
  fn_D F sc_cut_lining (fun cdv A outer s H E Ed hr tk => pd_cut_lining T c_check_places c_lining_of c_moments_of hr tk) fun ds Qd Ed h _ => ct_cut_lining h
theorem mk_c_cut_lining {P : Program} {w : World} {K : PySem.W.Frag} {mg : Str → Option Value} {base : Heap} {I : HI} {fa : Addr} {fd : FuncData} (F : FunD K "cut_lining" "cut_lining" (defArgs s_cut_lining) (defBody s_cut_lining) (defScope s_cut_lining) [] [] fa fd) (T : Tf K mg) (gm : mg "cut_lining" = some (.ref fa)) (c_check_places : Cl P w K mg base I 3 "check_places" 2 (C_check_places K) []) (c_lining_of : Cl P w K mg base I 2 "lining_of" 2 (C_lining_of K) []) (c_moments_of : Cl P w K mg base I 6 "moments_of" 3 (C_moments_of K) []) : Cl P w K mg base I 7 "cut_lining" 4 (C_cut_lining K) [] := by
  have B : L2.Binds K fd ["one", "other", "lining", "places"] [] := F.bindsN fun _ _ _ _ _ _ us hl => match us, hl with | [_, _, _, _], _ => rfl
  exact ⟨fa, fd, _, _, [], fn_cut_lining F T c_check_places c_lining_of c_moments_of, gm, F.kp, B, .nil, fun H => by simp only [DenA]⟩
theorem fn_check_deed {P : Program} {w : World} {K : PySem.W.Frag} {mg : Str → Option Value} {base : Heap} {I : HI} {fa : Addr} {fd : FuncData} (F : FunD K "check_deed" "check_deed" (defArgs s_check_deed) (defBody s_check_deed) (defScope s_check_deed) [] [] fa fd) (T : Tf K mg) (eR_BadDeed : Zs.ErR K mg "BadDeed") :
    FnOk P w K mg base (L2.CX P w) 2 fa fd ["deed"] (spOf K I 1 (C_check_deed K)) :=
  fn_D F sc_check_deed (fun cdv A outer s H E Ed hr tk => pd_check_deed T eR_BadDeed hr tk) fun ds Qd Ed h _ => ct_check_deed h
theorem mk_c_check_deed {P : Program} {w : World} {K : PySem.W.Frag} {mg : Str → Option Value} {base : Heap} {I : HI} {fa : Addr} {fd : FuncData} (F : FunD K "check_deed" "check_deed" (defArgs s_check_deed) (defBody s_check_deed) (defScope s_check_deed) [] [] fa fd) (T : Tf K mg) (gm : mg "check_deed" = some (.ref fa)) (eR_BadDeed : Zs.ErR K mg "BadDeed") : Cl P w K mg base I 2 "check_deed" 1 (C_check_deed K) [] := by
  have B : L2.Binds K fd ["deed"] [] := F.bindsN fun _ _ _ _ _ _ us hl => match us, hl with | [_], _ => rfl
  exact ⟨fa, fd, _, _, [], fn_check_deed F T eR_BadDeed, gm, F.kp, B, .nil, fun H => by simp only [DenA]⟩
theorem fn__place_key {P : Program} {w : World} {K : PySem.W.Frag} {mg : Str → Option Value} {base : Heap} {I : HI} {fa : Addr} {fd : FuncData} (F : FunD K "_place_key" "_place_key" (defArgs s__place_key) (defBody s__place_key) (defScope s__place_key) [] [] fa fd) (T : Tf K mg)  :
    FnOk P w K mg base (L2.CX P w) 2 fa fd ["deed", "first", "second"] (spOf K I 3 (C__place_key K)) :=
  fn_D F sc__place_key (fun cdv A outer s H E Ed hr tk => pd__place_key T  hr tk) fun ds Qd Ed h _ => ct__place_key h
theorem mk_c__place_key {P : Program} {w : World} {K : PySem.W.Frag} {mg : Str → Option Value} {base : Heap} {I : HI} {fa : Addr} {fd : FuncData} (F : FunD K "_place_key" "_place_key" (defArgs s__place_key) (defBody s__place_key) (defScope s__place_key) [] [] fa fd) (T : Tf K mg) (gm : mg "_place_key" = some (.ref fa))  : Cl P w K mg base I 2 "_place_key" 3 (C__place_key K) [] := by
  have B : L2.Binds K fd ["deed", "first", "second"] [] := F.bindsN fun _ _ _ _ _ _ us hl => match us, hl with | [_, _, _], _ => rfl
  exact ⟨fa, fd, _, _, [], fn__place_key F T , gm, F.kp, B, .nil, fun H => by simp only [DenA]⟩
theorem fn_deed_table {P : Program} {w : World} {K : PySem.W.Frag} {mg : Str → Option Value} {base : Heap} {I : HI} {fa : Addr} {fd : FuncData} (F : FunD K "deed_table" "deed_table" (defArgs s_deed_table) (defBody s_deed_table) (defScope s_deed_table) [] [] fa fd) (T : Tf K mg) (c__place_key : Cl P w K mg base I 2 "_place_key" 3 (C__place_key K) []) (c_rank_moments : Cl P w K mg base I 2 "rank_moments" 1 (C_rank_moments K) []) :
    FnOk P w K mg base (L2.CX P w) 3 fa fd ["deed", "lining"] (spOf K I 2 (C_deed_table K)) :=
  fn_D F sc_deed_table (fun cdv A outer s H E Ed hr tk => pd_deed_table T c__place_key c_rank_moments hr tk) fun ds Qd Ed h _ => ct_deed_table h
theorem mk_c_deed_table {P : Program} {w : World} {K : PySem.W.Frag} {mg : Str → Option Value} {base : Heap} {I : HI} {fa : Addr} {fd : FuncData} (F : FunD K "deed_table" "deed_table" (defArgs s_deed_table) (defBody s_deed_table) (defScope s_deed_table) [] [] fa fd) (T : Tf K mg) (gm : mg "deed_table" = some (.ref fa)) (c__place_key : Cl P w K mg base I 2 "_place_key" 3 (C__place_key K) []) (c_rank_moments : Cl P w K mg base I 2 "rank_moments" 1 (C_rank_moments K) []) : Cl P w K mg base I 3 "deed_table" 2 (C_deed_table K) [] := by
  have B : L2.Binds K fd ["deed", "lining"] [] := F.bindsN fun _ _ _ _ _ _ us hl => match us, hl with | [_, _], _ => rfl
  exact ⟨fa, fd, _, _, [], fn_deed_table F T c__place_key c_rank_moments, gm, F.kp, B, .nil, fun H => by simp only [DenA]⟩
theorem fn_made_by_table {P : Program} {w : World} {K : PySem.W.Frag} {mg : Str → Option Value} {base : Heap} {I : HI} {fa : Addr} {fd : FuncData} (F : FunD K "made_by_table" "made_by_table" (defArgs s_made_by_table) (defBody s_made_by_table) (defScope s_made_by_table) [] [] fa fd) (T : Tf K mg) (c_standing_of : Cl P w K mg base I 2 "standing_of" 1 (C_standing_of K) []) :
    FnOk P w K mg base (L2.CX P w) 3 fa fd ["table", "one", "other"] (spOf K I 3 (C_made_by_table K)) :=
  fn_D F sc_made_by_table (fun cdv A outer s H E Ed hr tk => pd_made_by_table T c_standing_of hr tk) fun ds Qd Ed h _ => ct_made_by_table h
theorem mk_c_made_by_table {P : Program} {w : World} {K : PySem.W.Frag} {mg : Str → Option Value} {base : Heap} {I : HI} {fa : Addr} {fd : FuncData} (F : FunD K "made_by_table" "made_by_table" (defArgs s_made_by_table) (defBody s_made_by_table) (defScope s_made_by_table) [] [] fa fd) (T : Tf K mg) (gm : mg "made_by_table" = some (.ref fa)) (c_standing_of : Cl P w K mg base I 2 "standing_of" 1 (C_standing_of K) []) : Cl P w K mg base I 3 "made_by_table" 3 (C_made_by_table K) [] := by
  have B : L2.Binds K fd ["table", "one", "other"] [] := F.bindsN fun _ _ _ _ _ _ us hl => match us, hl with | [_, _, _], _ => rfl
  exact ⟨fa, fd, _, _, [], fn_made_by_table F T c_standing_of, gm, F.kp, B, .nil, fun H => by simp only [DenA]⟩
theorem fn_made_by {P : Program} {w : World} {K : PySem.W.Frag} {mg : Str → Option Value} {base : Heap} {I : HI} {fa : Addr} {fd : FuncData} (F : FunD K "made_by" "made_by" (defArgs s_made_by) (defBody s_made_by) (defScope s_made_by) [] [] fa fd) (T : Tf K mg) (c_check_deed : Cl P w K mg base I 2 "check_deed" 1 (C_check_deed K) []) (c_check_lining : Cl P w K mg base I 5 "check_lining" 3 (C_check_lining K) []) (c_deed_table : Cl P w K mg base I 3 "deed_table" 2 (C_deed_table K) []) (c_made_by_table : Cl P w K mg base I 3 "made_by_table" 3 (C_made_by_table K) []) :
    FnOk P w K mg base (L2.CX P w) 6 fa fd ["deed", "one", "other", "lining"] (spOf K I 4 (C_made_by K)) :=
  fn_D F sc_made_by (fun cdv A outer s H E Ed hr tk => pd_made_by T c_check_deed c_check_lining c_deed_table c_made_by_table hr tk) fun ds Qd Ed h _ => ct_made_by h
theorem mk_c_made_by {P : Program} {w : World} {K : PySem.W.Frag} {mg : Str → Option Value} {base : Heap} {I : HI} {fa : Addr} {fd : FuncData} (F : FunD K "made_by" "made_by" (defArgs s_made_by) (defBody s_made_by) (defScope s_made_by) [] [] fa fd) (T : Tf K mg) (gm : mg "made_by" = some (.ref fa)) (c_check_deed : Cl P w K mg base I 2 "check_deed" 1 (C_check_deed K) []) (c_check_lining : Cl P w K mg base I 5 "check_lining" 3 (C_check_lining K) []) (c_deed_table : Cl P w K mg base I 3 "deed_table" 2 (C_deed_table K) []) (c_made_by_table : Cl P w K mg base I 3 "made_by_table" 3 (C_made_by_table K) []) : Cl P w K mg base I 6 "made_by" 4 (C_made_by K) [] := by
  have B : L2.Binds K fd ["deed", "one", "other", "lining"] [] := F.bindsN fun _ _ _ _ _ _ us hl => match us, hl with | [_, _, _, _], _ => rfl
  exact ⟨fa, fd, _, _, [], fn_made_by F T c_check_deed c_check_lining c_deed_table c_made_by_table, gm, F.kp, B, .nil, fun H => by simp only [DenA]⟩
theorem fn__law_hand {P : Program} {w : World} {K : PySem.W.Frag} {mg : Str → Option Value} {base : Heap} {I : HI} {fa : Addr} {fd : FuncData} (F : FunD K "_law_hand" "_law_hand" (defArgs s__law_hand) (defBody s__law_hand) (defScope s__law_hand) [] [] fa fd) (T : Tf K mg)  :
    FnOk P w K mg base (L2.CX P w) 2 fa fd ["_law_script"] (spOf K I 1 (C_hand K)) :=
  fn_D F sc__law_hand (fun cdv A outer s H E Ed hr tk => pd__law_hand T  hr tk) fun ds Qd Ed h _ => ct__law_hand h
theorem fn__law_mixed {P : Program} {w : World} {K : PySem.W.Frag} {mg : Str → Option Value} {base : Heap} {I : HI} {fa : Addr} {fd : FuncData} (F : FunD K "_law_mixed" "_law_mixed" (defArgs s__law_mixed) (defBody s__law_mixed) (defScope s__law_mixed) [] [] fa fd) (T : Tf K mg)  :
    FnOk P w K mg base (L2.CX P w) 2 fa fd ["_law_number", "_law_turn"] (spOf K I 2 (C__law_mixed K)) :=
  fn_D F sc__law_mixed (fun cdv A outer s H E Ed hr tk => pd__law_mixed T  hr tk) fun ds Qd Ed h _ => ct__law_mixed h
theorem mk_c__law_mixed {P : Program} {w : World} {K : PySem.W.Frag} {mg : Str → Option Value} {base : Heap} {I : HI} {fa : Addr} {fd : FuncData} (F : FunD K "_law_mixed" "_law_mixed" (defArgs s__law_mixed) (defBody s__law_mixed) (defScope s__law_mixed) [] [] fa fd) (T : Tf K mg) (gm : mg "_law_mixed" = some (.ref fa))  : Cl P w K mg base I 2 "_law_mixed" 2 (C__law_mixed K) [] := by
  have B : L2.Binds K fd ["_law_number", "_law_turn"] [] := F.bindsN fun _ _ _ _ _ _ us hl => match us, hl with | [_, _], _ => rfl
  exact ⟨fa, fd, _, _, [], fn__law_mixed F T , gm, F.kp, B, .nil, fun H => by simp only [DenA]⟩
theorem fn__law_pick {P : Program} {w : World} {K : PySem.W.Frag} {mg : Str → Option Value} {base : Heap} {I : HI} {fa : Addr} {hd : Addr} {fd : FuncData} (F : FunD K "_law_pick" "_law_pick" (defArgs s__law_pick) (defBody s__law_pick) (defScope s__law_pick) [] [] fa fd) (T : Tf K mg) (c__law_take : Cl P w K mg base I 3 "_law_take" 2 (C__law_take hd) []) :
    FnOk P w K mg base (L2.CX P w) 4 fa fd ["_law_hand_here", "_law_things"] (spOf K I 2 (C__law_pick K hd)) :=
  fn_D F sc__law_pick (fun cdv A outer s H E Ed hr tk => pd__law_pick T c__law_take hr tk) fun ds Qd Ed h _ => ct__law_pick h
theorem mk_c__law_pick {P : Program} {w : World} {K : PySem.W.Frag} {mg : Str → Option Value} {base : Heap} {I : HI} {fa : Addr} {hd : Addr} {fd : FuncData} (F : FunD K "_law_pick" "_law_pick" (defArgs s__law_pick) (defBody s__law_pick) (defScope s__law_pick) [] [] fa fd) (T : Tf K mg) (gm : mg "_law_pick" = some (.ref fa)) (c__law_take : Cl P w K mg base I 3 "_law_take" 2 (C__law_take hd) []) : Cl P w K mg base I 4 "_law_pick" 2 (C__law_pick K hd) [] := by
  have B : L2.Binds K fd ["_law_hand_here", "_law_things"] [] := F.bindsN fun _ _ _ _ _ _ us hl => match us, hl with | [_, _], _ => rfl
  exact ⟨fa, fd, _, _, [], fn__law_pick F T c__law_take, gm, F.kp, B, .nil, fun H => by simp only [DenA]⟩
theorem fn__law_whole {P : Program} {w : World} {K : PySem.W.Frag} {mg : Str → Option Value} {base : Heap} {I : HI} {fa : Addr} {fd : FuncData} (F : FunD K "_law_whole" "_law_whole" (defArgs s__law_whole) (defBody s__law_whole) (defScope s__law_whole) [] [] fa fd) (T : Tf K mg)  :
    FnOk P w K mg base (L2.CX P w) 2 fa fd ["_law_thing"] (spOf K I 1 (C__law_whole K)) :=
  fn_D F sc__law_whole (fun cdv A outer s H E Ed hr tk => pd__law_whole T  hr tk) fun ds Qd Ed h _ => ct__law_whole h
theorem mk_c__law_whole {P : Program} {w : World} {K : PySem.W.Frag} {mg : Str → Option Value} {base : Heap} {I : HI} {fa : Addr} {fd : FuncData} (F : FunD K "_law_whole" "_law_whole" (defArgs s__law_whole) (defBody s__law_whole) (defScope s__law_whole) [] [] fa fd) (T : Tf K mg) (gm : mg "_law_whole" = some (.ref fa))  : Cl P w K mg base I 2 "_law_whole" 1 (C__law_whole K) [] := by
  have B : L2.Binds K fd ["_law_thing"] [] := F.bindsN fun _ _ _ _ _ _ us hl => match us, hl with | [_], _ => rfl
  exact ⟨fa, fd, _, _, [], fn__law_whole F T , gm, F.kp, B, .nil, fun H => by simp only [DenA]⟩
theorem fn__law_is_row {P : Program} {w : World} {K : PySem.W.Frag} {mg : Str → Option Value} {base : Heap} {I : HI} {fa : Addr} {fd : FuncData} (F : FunD K "_law_is_row" "_law_is_row" (defArgs s__law_is_row) (defBody s__law_is_row) (defScope s__law_is_row) [] [] fa fd) (T : Tf K mg) (c__law_whole : Cl P w K mg base I 2 "_law_whole" 1 (C__law_whole K) []) :
    FnOk P w K mg base (L2.CX P w) 3 fa fd ["_law_thing"] (spOf K I 1 (C__law_is_row K)) :=
  fn_D F sc__law_is_row (fun cdv A outer s H E Ed hr tk => pd__law_is_row T c__law_whole hr tk) fun ds Qd Ed h _ => ct__law_is_row h
theorem mk_c__law_is_row {P : Program} {w : World} {K : PySem.W.Frag} {mg : Str → Option Value} {base : Heap} {I : HI} {fa : Addr} {fd : FuncData} (F : FunD K "_law_is_row" "_law_is_row" (defArgs s__law_is_row) (defBody s__law_is_row) (defScope s__law_is_row) [] [] fa fd) (T : Tf K mg) (gm : mg "_law_is_row" = some (.ref fa)) (c__law_whole : Cl P w K mg base I 2 "_law_whole" 1 (C__law_whole K) []) : Cl P w K mg base I 3 "_law_is_row" 1 (C__law_is_row K) [] := by
  have B : L2.Binds K fd ["_law_thing"] [] := F.bindsN fun _ _ _ _ _ _ us hl => match us, hl with | [_], _ => rfl
  exact ⟨fa, fd, _, _, [], fn__law_is_row F T c__law_whole, gm, F.kp, B, .nil, fun H => by simp only [DenA]⟩
theorem fn__law_ranks {P : Program} {w : World} {K : PySem.W.Frag} {mg : Str → Option Value} {base : Heap} {I : HI} {fa : Addr} {fd : FuncData} (F : FunD K "_law_ranks" "_law_ranks" (defArgs s__law_ranks) (defBody s__law_ranks) (defScope s__law_ranks) [] [] fa fd) (T : Tf K mg)  :
    FnOk P w K mg base (L2.CX P w) 2 fa fd ["_law_keys"] (spOf K I 1 (C__law_ranks K)) :=
  fn_D F sc__law_ranks (fun cdv A outer s H E Ed hr tk => pd__law_ranks T  hr tk) fun ds Qd Ed h _ => ct__law_ranks h
theorem mk_c__law_ranks {P : Program} {w : World} {K : PySem.W.Frag} {mg : Str → Option Value} {base : Heap} {I : HI} {fa : Addr} {fd : FuncData} (F : FunD K "_law_ranks" "_law_ranks" (defArgs s__law_ranks) (defBody s__law_ranks) (defScope s__law_ranks) [] [] fa fd) (T : Tf K mg) (gm : mg "_law_ranks" = some (.ref fa))  : Cl P w K mg base I 2 "_law_ranks" 1 (C__law_ranks K) [] := by
  have B : L2.Binds K fd ["_law_keys"] [] := F.bindsN fun _ _ _ _ _ _ us hl => match us, hl with | [_], _ => rfl
  exact ⟨fa, fd, _, _, [], fn__law_ranks F T , gm, F.kp, B, .nil, fun H => by simp only [DenA]⟩
theorem fn__law_many_ranks {P : Program} {w : World} {K : PySem.W.Frag} {mg : Str → Option Value} {base : Heap} {I : HI} {fa : Addr} {fd : FuncData} (F : FunD K "_law_many_ranks" "_law_many_ranks" (defArgs s__law_many_ranks) (defBody s__law_many_ranks) (defScope s__law_many_ranks) [] [] fa fd) (T : Tf K mg)  :
    FnOk P w K mg base (L2.CX P w) 2 fa fd ["_law_standing"] (spOf K I 1 (C__law_many_ranks K)) :=
  fn_D F sc__law_many_ranks (fun cdv A outer s H E Ed hr tk => pd__law_many_ranks T  hr tk) fun ds Qd Ed h _ => ct__law_many_ranks h
theorem mk_c__law_many_ranks {P : Program} {w : World} {K : PySem.W.Frag} {mg : Str → Option Value} {base : Heap} {I : HI} {fa : Addr} {fd : FuncData} (F : FunD K "_law_many_ranks" "_law_many_ranks" (defArgs s__law_many_ranks) (defBody s__law_many_ranks) (defScope s__law_many_ranks) [] [] fa fd) (T : Tf K mg) (gm : mg "_law_many_ranks" = some (.ref fa))  : Cl P w K mg base I 2 "_law_many_ranks" 1 (C__law_many_ranks K) [] := by
  have B : L2.Binds K fd ["_law_standing"] [] := F.bindsN fun _ _ _ _ _ _ us hl => match us, hl with | [_], _ => rfl
  exact ⟨fa, fd, _, _, [], fn__law_many_ranks F T , gm, F.kp, B, .nil, fun H => by simp only [DenA]⟩
theorem fn__law_lining {P : Program} {w : World} {K : PySem.W.Frag} {mg : Str → Option Value} {base : Heap} {I : HI} {fa : Addr} {hd : Addr} {fd : FuncData} (F : FunD K "_law_lining" "_law_lining" (defArgs s__law_lining) (defBody s__law_lining) (defScope s__law_lining) [] [] fa fd) (T : Tf K mg) (c__law_take : Cl P w K mg base I 3 "_law_take" 2 (C__law_take hd) []) :
    FnOk P w K mg base (L2.CX P w) 4 fa fd ["_law_hand_here", "_law_first", "_law_second"] (spOf K I 3 (C__law_lining K hd)) :=
  fn_D F sc__law_lining (fun cdv A outer s H E Ed hr tk => pd__law_lining T c__law_take hr tk) fun ds Qd Ed h _ => ct__law_lining h
theorem mk_c__law_lining {P : Program} {w : World} {K : PySem.W.Frag} {mg : Str → Option Value} {base : Heap} {I : HI} {fa : Addr} {hd : Addr} {fd : FuncData} (F : FunD K "_law_lining" "_law_lining" (defArgs s__law_lining) (defBody s__law_lining) (defScope s__law_lining) [] [] fa fd) (T : Tf K mg) (gm : mg "_law_lining" = some (.ref fa)) (c__law_take : Cl P w K mg base I 3 "_law_take" 2 (C__law_take hd) []) : Cl P w K mg base I 4 "_law_lining" 3 (C__law_lining K hd) [] := by
  have B : L2.Binds K fd ["_law_hand_here", "_law_first", "_law_second"] [] := F.bindsN fun _ _ _ _ _ _ us hl => match us, hl with | [_, _, _], _ => rfl
  exact ⟨fa, fd, _, _, [], fn__law_lining F T c__law_take, gm, F.kp, B, .nil, fun H => by simp only [DenA]⟩
theorem fn__law_moments {P : Program} {w : World} {K : PySem.W.Frag} {mg : Str → Option Value} {base : Heap} {I : HI} {fa : Addr} {fd : FuncData} (F : FunD K "_law_moments" "_law_moments" (defArgs s__law_moments) (defBody s__law_moments) (defScope s__law_moments) [] [] fa fd) (T : Tf K mg)  :
    FnOk P w K mg base (L2.CX P w) 2 fa fd ["_law_one", "_law_other", "_law_lining_here"] (spOf K I 3 (C__law_moments K)) :=
  fn_D F sc__law_moments (fun cdv A outer s H E Ed hr tk => pd__law_moments T  hr tk) fun ds Qd Ed h _ => ct__law_moments h
theorem mk_c__law_moments {P : Program} {w : World} {K : PySem.W.Frag} {mg : Str → Option Value} {base : Heap} {I : HI} {fa : Addr} {fd : FuncData} (F : FunD K "_law_moments" "_law_moments" (defArgs s__law_moments) (defBody s__law_moments) (defScope s__law_moments) [] [] fa fd) (T : Tf K mg) (gm : mg "_law_moments" = some (.ref fa))  : Cl P w K mg base I 2 "_law_moments" 3 (C__law_moments K) [] := by
  have B : L2.Binds K fd ["_law_one", "_law_other", "_law_lining_here"] [] := F.bindsN fun _ _ _ _ _ _ us hl => match us, hl with | [_, _, _], _ => rfl
  exact ⟨fa, fd, _, _, [], fn__law_moments F T , gm, F.kp, B, .nil, fun H => by simp only [DenA]⟩
theorem fn__law_key {P : Program} {w : World} {K : PySem.W.Frag} {mg : Str → Option Value} {base : Heap} {I : HI} {fa : Addr} {fd : FuncData} (F : FunD K "_law_key" "_law_key" (defArgs s__law_key) (defBody s__law_key) (defScope s__law_key) [] [] fa fd) (T : Tf K mg)  :
    FnOk P w K mg base (L2.CX P w) 2 fa fd ["_law_deed", "_law_a", "_law_b"] (spOf K I 3 (C__law_key K)) :=
  fn_D F sc__law_key (fun cdv A outer s H E Ed hr tk => pd__law_key T  hr tk) fun ds Qd Ed h _ => ct__law_key h
theorem mk_c__law_key {P : Program} {w : World} {K : PySem.W.Frag} {mg : Str → Option Value} {base : Heap} {I : HI} {fa : Addr} {fd : FuncData} (F : FunD K "_law_key" "_law_key" (defArgs s__law_key) (defBody s__law_key) (defScope s__law_key) [] [] fa fd) (T : Tf K mg) (gm : mg "_law_key" = some (.ref fa))  : Cl P w K mg base I 2 "_law_key" 3 (C__law_key K) [] := by
  have B : L2.Binds K fd ["_law_deed", "_law_a", "_law_b"] [] := F.bindsN fun _ _ _ _ _ _ us hl => match us, hl with | [_, _, _], _ => rfl
  exact ⟨fa, fd, _, _, [], fn__law_key F T , gm, F.kp, B, .nil, fun H => by simp only [DenA]⟩
theorem fn__law_made {P : Program} {w : World} {K : PySem.W.Frag} {mg : Str → Option Value} {base : Heap} {I : HI} {fa : Addr} {fd : FuncData} (F : FunD K "_law_made" "_law_made" (defArgs s__law_made) (defBody s__law_made) (defScope s__law_made) [] [] fa fd) (T : Tf K mg) (c__law_key : Cl P w K mg base I 2 "_law_key" 3 (C__law_key K) []) (c__law_moments : Cl P w K mg base I 2 "_law_moments" 3 (C__law_moments K) []) (c__law_ranks : Cl P w K mg base I 2 "_law_ranks" 1 (C__law_ranks K) []) :
    FnOk P w K mg base (L2.CX P w) 3 fa fd ["_law_deed", "_law_one", "_law_other", "_law_lining_here"] (spOf K I 4 (C__law_made K)) :=
  fn_D F sc__law_made (fun cdv A outer s H E Ed hr tk => pd__law_made T c__law_key c__law_moments c__law_ranks hr tk) fun ds Qd Ed h _ => ct__law_made h
theorem mk_c__law_made {P : Program} {w : World} {K : PySem.W.Frag} {mg : Str → Option Value} {base : Heap} {I : HI} {fa : Addr} {fd : FuncData} (F : FunD K "_law_made" "_law_made" (defArgs s__law_made) (defBody s__law_made) (defScope s__law_made) [] [] fa fd) (T : Tf K mg) (gm : mg "_law_made" = some (.ref fa)) (c__law_key : Cl P w K mg base I 2 "_law_key" 3 (C__law_key K) []) (c__law_moments : Cl P w K mg base I 2 "_law_moments" 3 (C__law_moments K) []) (c__law_ranks : Cl P w K mg base I 2 "_law_ranks" 1 (C__law_ranks K) []) : Cl P w K mg base I 3 "_law_made" 4 (C__law_made K) [] := by
  have B : L2.Binds K fd ["_law_deed", "_law_one", "_law_other", "_law_lining_here"] [] := F.bindsN fun _ _ _ _ _ _ us hl => match us, hl with | [_, _, _, _], _ => rfl
  exact ⟨fa, fd, _, _, [], fn__law_made F T c__law_key c__law_moments c__law_ranks, gm, F.kp, B, .nil, fun H => by simp only [DenA]⟩
theorem fn__law_rows {P : Program} {w : World} {K : PySem.W.Frag} {mg : Str → Option Value} {base : Heap} {I : HI} {fa : Addr} {hd : Addr} {fd : FuncData} (F : FunD K "_law_rows" "_law_rows" (defArgs s__law_rows) (defBody s__law_rows) (defScope s__law_rows) [] [] fa fd) (T : Tf K mg) (c__law_pick : Cl P w K mg base I 4 "_law_pick" 2 (C__law_pick K hd) []) (c__law_take : Cl P w K mg base I 3 "_law_take" 2 (C__law_take hd) []) :
    FnOk P w K mg base (L2.CX P w) 5 fa fd ["_law_hand_here"] (spOf K I 1 (C__law_rows K hd)) :=
  fn_D F sc__law_rows (fun cdv A outer s H E Ed hr tk => pd__law_rows T c__law_pick c__law_take hr tk) fun ds Qd Ed h _ => ct__law_rows h
theorem mk_c__law_rows {P : Program} {w : World} {K : PySem.W.Frag} {mg : Str → Option Value} {base : Heap} {I : HI} {fa : Addr} {hd : Addr} {fd : FuncData} (F : FunD K "_law_rows" "_law_rows" (defArgs s__law_rows) (defBody s__law_rows) (defScope s__law_rows) [] [] fa fd) (T : Tf K mg) (gm : mg "_law_rows" = some (.ref fa)) (c__law_pick : Cl P w K mg base I 4 "_law_pick" 2 (C__law_pick K hd) []) (c__law_take : Cl P w K mg base I 3 "_law_take" 2 (C__law_take hd) []) : Cl P w K mg base I 5 "_law_rows" 1 (C__law_rows K hd) [] := by
  have B : L2.Binds K fd ["_law_hand_here"] [] := F.bindsN fun _ _ _ _ _ _ us hl => match us, hl with | [_], _ => rfl
  exact ⟨fa, fd, _, _, [], fn__law_rows F T c__law_pick c__law_take, gm, F.kp, B, .nil, fun H => by simp only [DenA]⟩
theorem fn__law_some_places {P : Program} {w : World} {K : PySem.W.Frag} {mg : Str → Option Value} {base : Heap} {I : HI} {fa : Addr} {hd : Addr} {fd : FuncData} (F : FunD K "_law_some_places" "_law_some_places" (defArgs s__law_some_places) (defBody s__law_some_places) (defScope s__law_some_places) [] [] fa fd) (T : Tf K mg) (c__law_take : Cl P w K mg base I 3 "_law_take" 2 (C__law_take hd) []) :
    FnOk P w K mg base (L2.CX P w) 4 fa fd ["_law_hand_here", "_law_many"] (spOf K I 2 (C__law_some_places K hd)) :=
  fn_D F sc__law_some_places (fun cdv A outer s H E Ed hr tk => pd__law_some_places T c__law_take hr tk) fun ds Qd Ed h _ => ct__law_some_places h
theorem mk_c__law_some_places {P : Program} {w : World} {K : PySem.W.Frag} {mg : Str → Option Value} {base : Heap} {I : HI} {fa : Addr} {hd : Addr} {fd : FuncData} (F : FunD K "_law_some_places" "_law_some_places" (defArgs s__law_some_places) (defBody s__law_some_places) (defScope s__law_some_places) [] [] fa fd) (T : Tf K mg) (gm : mg "_law_some_places" = some (.ref fa)) (c__law_take : Cl P w K mg base I 3 "_law_take" 2 (C__law_take hd) []) : Cl P w K mg base I 4 "_law_some_places" 2 (C__law_some_places K hd) [] := by
  have B : L2.Binds K fd ["_law_hand_here", "_law_many"] [] := F.bindsN fun _ _ _ _ _ _ us hl => match us, hl with | [_, _], _ => rfl
  exact ⟨fa, fd, _, _, [], fn__law_some_places F T c__law_take, gm, F.kp, B, .nil, fun H => by simp only [DenA]⟩
theorem fn__law_exchanged {P : Program} {w : World} {K : PySem.W.Frag} {mg : Str → Option Value} {base : Heap} {I : HI} {fa : Addr} {fd : FuncData} (F : FunD K "_law_exchanged" "_law_exchanged" (defArgs s__law_exchanged) (defBody s__law_exchanged) (defScope s__law_exchanged) [] [] fa fd) (T : Tf K mg)  :
    FnOk P w K mg base (L2.CX P w) 2 fa fd ["_law_lining_here"] (spOf K I 1 (C__law_exchanged K)) :=
  fn_D F sc__law_exchanged (fun cdv A outer s H E Ed hr tk => pd__law_exchanged T  hr tk) fun ds Qd Ed h _ => ct__law_exchanged h
theorem mk_c__law_exchanged {P : Program} {w : World} {K : PySem.W.Frag} {mg : Str → Option Value} {base : Heap} {I : HI} {fa : Addr} {fd : FuncData} (F : FunD K "_law_exchanged" "_law_exchanged" (defArgs s__law_exchanged) (defBody s__law_exchanged) (defScope s__law_exchanged) [] [] fa fd) (T : Tf K mg) (gm : mg "_law_exchanged" = some (.ref fa))  : Cl P w K mg base I 2 "_law_exchanged" 1 (C__law_exchanged K) [] := by
  have B : L2.Binds K fd ["_law_lining_here"] [] := F.bindsN fun _ _ _ _ _ _ us hl => match us, hl with | [_], _ => rfl
  exact ⟨fa, fd, _, _, [], fn__law_exchanged F T , gm, F.kp, B, .nil, fun H => by simp only [DenA]⟩
theorem fn__law_deed_right {P : Program} {w : World} {K : PySem.W.Frag} {mg : Str → Option Value} {base : Heap} {I : HI} {fa : Addr} {fd : FuncData} (F : FunD K "_law_deed_right" "_law_deed_right" (defArgs s__law_deed_right) (defBody s__law_deed_right) (defScope s__law_deed_right) [] [] fa fd) (T : Tf K mg) (c__law_exchanged : Cl P w K mg base I 2 "_law_exchanged" 1 (C__law_exchanged K) []) (c__law_is_row : Cl P w K mg base I 3 "_law_is_row" 1 (C__law_is_row K) []) (c__law_made : Cl P w K mg base I 3 "_law_made" 4 (C__law_made K) []) (c_made_by : Cl P w K mg base I 6 "made_by" 4 (C_made_by K) []) :
    FnOk P w K mg base (L2.CX P w) 7 fa fd ["_law_deed", "_law_one", "_law_other", "_law_lining_here", "_law_due"] (spOf K I 5 (C__law_deed_right K)) :=
  fn_D F sc__law_deed_right (fun cdv A outer s H E Ed hr tk => pd__law_deed_right T c__law_exchanged c__law_is_row c__law_made c_made_by hr tk) fun ds Qd Ed h _ => ct__law_deed_right h
theorem mk_c__law_deed_right {P : Program} {w : World} {K : PySem.W.Frag} {mg : Str → Option Value} {base : Heap} {I : HI} {fa : Addr} {fd : FuncData} (F : FunD K "_law_deed_right" "_law_deed_right" (defArgs s__law_deed_right) (defBody s__law_deed_right) (defScope s__law_deed_right) [] [] fa fd) (T : Tf K mg) (gm : mg "_law_deed_right" = some (.ref fa)) (c__law_exchanged : Cl P w K mg base I 2 "_law_exchanged" 1 (C__law_exchanged K) []) (c__law_is_row : Cl P w K mg base I 3 "_law_is_row" 1 (C__law_is_row K) []) (c__law_made : Cl P w K mg base I 3 "_law_made" 4 (C__law_made K) []) (c_made_by : Cl P w K mg base I 6 "made_by" 4 (C_made_by K) []) : Cl P w K mg base I 7 "_law_deed_right" 5 (C__law_deed_right K) [] := by
  have B : L2.Binds K fd ["_law_deed", "_law_one", "_law_other", "_law_lining_here", "_law_due"] [] := F.bindsN fun _ _ _ _ _ _ us hl => match us, hl with | [_, _, _, _, _], _ => rfl
  exact ⟨fa, fd, _, _, [], fn__law_deed_right F T c__law_exchanged c__law_is_row c__law_made c_made_by, gm, F.kp, B, .nil, fun H => by simp only [DenA]⟩
theorem fn__law_cut_right {P : Program} {w : World} {K : PySem.W.Frag} {mg : Str → Option Value} {base : Heap} {I : HI} {fa : Addr} {fd : FuncData} (F : FunD K "_law_cut_right" "_law_cut_right" (defArgs s__law_cut_right) (defBody s__law_cut_right) (defScope s__law_cut_right) [] [] fa fd) (T : Tf K mg) (c__law_is_row : Cl P w K mg base I 3 "_law_is_row" 1 (C__law_is_row K) []) (c__law_made : Cl P w K mg base I 3 "_law_made" 4 (C__law_made K) []) (c__law_moments : Cl P w K mg base I 2 "_law_moments" 3 (C__law_moments K) []) (c__law_ranks : Cl P w K mg base I 2 "_law_ranks" 1 (C__law_ranks K) []) (c_cut_lining : Cl P w K mg base I 7 "cut_lining" 4 (C_cut_lining K) []) (c_made_by : Cl P w K mg base I 6 "made_by" 4 (C_made_by K) []) :
    FnOk P w K mg base (L2.CX P w) 8 fa fd ["_law_deed", "_law_one", "_law_other", "_law_lining_here", "_law_places"] (spOf K I 5 (C__law_cut_right K)) :=
  fn_D F sc__law_cut_right (fun cdv A outer s H E Ed hr tk => pd__law_cut_right T c__law_is_row c__law_made c__law_moments c__law_ranks c_cut_lining c_made_by hr tk) fun ds Qd Ed h _ => ct__law_cut_right h
theorem mk_c__law_cut_right {P : Program} {w : World} {K : PySem.W.Frag} {mg : Str → Option Value} {base : Heap} {I : HI} {fa : Addr} {fd : FuncData} (F : FunD K "_law_cut_right" "_law_cut_right" (defArgs s__law_cut_right) (defBody s__law_cut_right) (defScope s__law_cut_right) [] [] fa fd) (T : Tf K mg) (gm : mg "_law_cut_right" = some (.ref fa)) (c__law_is_row : Cl P w K mg base I 3 "_law_is_row" 1 (C__law_is_row K) []) (c__law_made : Cl P w K mg base I 3 "_law_made" 4 (C__law_made K) []) (c__law_moments : Cl P w K mg base I 2 "_law_moments" 3 (C__law_moments K) []) (c__law_ranks : Cl P w K mg base I 2 "_law_ranks" 1 (C__law_ranks K) []) (c_cut_lining : Cl P w K mg base I 7 "cut_lining" 4 (C_cut_lining K) []) (c_made_by : Cl P w K mg base I 6 "made_by" 4 (C_made_by K) []) : Cl P w K mg base I 8 "_law_cut_right" 5 (C__law_cut_right K) [] := by
  have B : L2.Binds K fd ["_law_deed", "_law_one", "_law_other", "_law_lining_here", "_law_places"] [] := F.bindsN fun _ _ _ _ _ _ us hl => match us, hl with | [_, _, _, _, _], _ => rfl
  exact ⟨fa, fd, _, _, [], fn__law_cut_right F T c__law_is_row c__law_made c__law_moments c__law_ranks c_cut_lining c_made_by, gm, F.kp, B, .nil, fun H => by simp only [DenA]⟩
theorem mk_c__law_take {P : Program} {w : World} {K : PySem.W.Frag} {mg : Str → Option Value} {base : Heap} {fa hd c : Addr} {fd : FuncData} (F : FunD K "_law_take" "_law_take" (defArgs s__law_take) (defBody s__law_take) (defScope s__law_take) [] [] fa fd) (hne : hd ≠ c) (T : Tf K mg) (gm : mg "_law_take" = some (.ref fa)) (c__law_mixed : Cl P w K mg base (handI hd c) 2 "_law_mixed" 2 (C__law_mixed K) []) : Cl P w K mg base (handI hd c) 3 "_law_take" 2 (C__law_take hd) [] := by
  have B : L2.Binds K fd ["_law_hand_here", "_law_many"] [] := F.bindsN fun _ _ _ _ _ _ us hl => match us, hl with | [_, _], _ => rfl
  exact ⟨fa, fd, _, _, [], fn__law_take hne F T c__law_mixed, gm, F.kp, B, .nil, fun H => by simp only [DenA]⟩
theorem mk_c__law_hand {P : Program} {w : World} {K : PySem.W.Frag} {mg : Str → Option Value} {base : Heap} {I : HI} {fa : Addr} {fd : FuncData} (F : FunD K "_law_hand" "_law_hand" (defArgs s__law_hand) (defBody s__law_hand) (defScope s__law_hand) [] [] fa fd) (T : Tf K mg) (gm : mg "_law_hand" = some (.ref fa))  : Cl P w K mg base I 2 "_law_hand" 1 (C_hand K) [] := by
  have B : L2.Binds K fd ["_law_script"] [] := F.bindsN fun _ _ _ _ _ _ us hl => match us, hl with | [_], _ => rfl
  exact ⟨fa, fd, _, _, [], fn__law_hand F T , gm, F.kp, B, .nil, fun H => by simp only [DenA]⟩
end K09

namespace K09
open PySem PySem.Spec PyProof.Rows L2 Dl Ns Zs Zz
def clsBody : Stmt → List Stmt
  | .ClassDef (body := bd) .. => bd
  | _ => []
abbrev m_BadLining : Stmt := (clsBody (top 5)).getD 0 (.Pass ⟨0, 0, 0, 0⟩)
abbrev m_BadPlaces : Stmt := (clsBody (top 3)).getD 0 (.Pass ⟨0, 0, 0, 0⟩)
abbrev m_BadStanding : Stmt := (clsBody (top 2)).getD 0 (.Pass ⟨0, 0, 0, 0⟩)
def fns : List He.DefD := [defD s_is_whole none "is_whole" [.non, .non], defD s_check_standing none "check_standing" [.non], defD s_standing_of none "standing_of" [], defD s_check_places none "check_places" [], defD s_ranks_number none "ranks_number" [], defD s_check_lining none "check_lining" [], defD s_rank_moments none "rank_moments" [], defD s_moments_of none "moments_of" [], defD s_lining_of none "lining_of" [], defD s_cut_lining none "cut_lining" [], defD s_check_deed none "check_deed" [], defD s__place_key none "_place_key" [], defD s_deed_table none "deed_table" [], defD s_made_by_table none "made_by_table" [], defD s_made_by none "made_by" [], defD s__law_hand none "_law_hand" [], defD s__law_mixed none "_law_mixed" [], defD s__law_take none "_law_take" [], defD s__law_pick none "_law_pick" [], defD s__law_whole none "_law_whole" [], defD s__law_is_row none "_law_is_row" [], defD s__law_ranks none "_law_ranks" [], defD s__law_many_ranks none "_law_many_ranks" [], defD s__law_lining none "_law_lining" [], defD s__law_moments none "_law_moments" [], defD s__law_key none "_law_key" [], defD s__law_made none "_law_made" [], defD s__law_rows none "_law_rows" [], defD s__law_some_places none "_law_some_places" [], defD s__law_exchanged none "_law_exchanged" [], defD s__law_deed_right none "_law_deed_right" [], defD s__law_cut_right none "_law_cut_right" [], defD s_law none "law" [], defD m_BadLining (some "BadLining") "__init__" [], defD m_BadPlaces (some "BadPlaces") "__init__" [], defD m_BadStanding (some "BadStanding") "__init__" []]
def fa : List He.Fa := [.glo "is_whole", .glo "check_standing", .glo "standing_of", .glo "check_places", .glo "ranks_number", .glo "check_lining", .glo "rank_moments", .glo "moments_of", .glo "lining_of", .glo "cut_lining", .glo "check_deed", .glo "_place_key", .glo "deed_table", .glo "made_by_table", .glo "made_by", .glo "_law_hand", .glo "_law_mixed", .glo "_law_take", .glo "_law_pick", .glo "_law_whole", .glo "_law_is_row", .glo "_law_ranks", .glo "_law_many_ranks", .glo "_law_lining", .glo "_law_moments", .glo "_law_key", .glo "_law_made", .glo "_law_rows", .glo "_law_some_places", .glo "_law_exchanged", .glo "_law_deed_right", .glo "_law_cut_right", .glo "law", .glo "DateError", .glo "BadStanding", .glo "BadPlaces", .glo "OtherPlaces", .glo "BadLining", .glo "BadDeed", .free "abs", .free "bool", .free "enumerate", .free "int", .free "isinstance", .free "len", .free "list", .free "max", .free "min", .free "range", .free "set", .free "sorted", .free "tuple", .free "zip", .glo "DEEDS", .int "BOTH" 2, .int "MOST_PLACES" 7, .int "ONE_ALONE" 0, .int "OTHER_ALONE" 1]
def exF (K : PySem.W.Frag) : Bool := errB K "BadLining" "index" && (errB K "BadPlaces" "index" && (errB K "BadStanding" "index" && (Zs.erRB K "BadDeed" && (Zs.erRB K "OtherPlaces" && (Zs.tupGB K "DEEDS" ["lesser", "odd", "common"])))))
abbrev R : PySem.W.OpenRow := PySem.W.OpenLaw.row PySem.Challenge.rw_earliestlots_k09_whole_deeds_of_numbers
abbrev qv : Program := PySem.W.view R.prog [48]
abbrev hk : PySem.W.Hook := hookZ 5 fa fns exF
def ob (s : PySem.W.SharedT) : AlZ := obsZ 5 fa fns exF (HandSHeadRun.getT s)
theorem ob_eq (s : PySem.W.SharedT) : ob s = hk.obs s.abs := obsZ_eq (HandSHeadRun.getT_eq s)
def names : List Str := [Str.ofString "DateError", Str.ofString "BadStanding", Str.ofString "BadPlaces", Str.ofString "OtherPlaces", Str.ofString "BadLining", Str.ofString "BadDeed", Str.ofString "BOTH", Str.ofString "MOST_PLACES", Str.ofString "ONE_ALONE", Str.ofString "OTHER_ALONE", Str.ofString "DEEDS", Str.ofString "is_whole", Str.ofString "check_standing", Str.ofString "standing_of", Str.ofString "check_places", Str.ofString "ranks_number", Str.ofString "check_lining", Str.ofString "rank_moments", Str.ofString "moments_of", Str.ofString "lining_of", Str.ofString "cut_lining", Str.ofString "check_deed", Str.ofString "_place_key", Str.ofString "deed_table", Str.ofString "made_by_table", Str.ofString "made_by", Str.ofString "_law_hand", Str.ofString "_law_mixed", Str.ofString "_law_take", Str.ofString "_law_pick", Str.ofString "_law_whole", Str.ofString "_law_is_row", Str.ofString "_law_ranks", Str.ofString "_law_many_ranks", Str.ofString "_law_lining", Str.ofString "_law_moments", Str.ofString "_law_key", Str.ofString "_law_made", Str.ofString "_law_rows", Str.ofString "_law_some_places", Str.ofString "_law_exchanged", Str.ofString "_law_deed_right", Str.ofString "_law_cut_right"]
theorem run (w : World) : HandSHeadRun.RunEq R qv hk ob 3000 names w := by
  intro os
  kernel_rfl
end K09

namespace K09
open PySem PySem.Spec PyProof.Rows L2 Dl Ns Zs Zz
theorem fn_law {P : Program} {w : World} {K : PySem.W.Frag} {mg : Str → Option Value} {base : Heap} {fa : Addr} {fd : FuncData} (F : FunD K "law" "law" (defArgs s_law) (defBody s_law) (defScope s_law) [] [] fa fd) (T : Tf K mg)
    (c__law_hand : Cl P w K mg base HI.plain 2 "_law_hand" 1 (C_hand K) []) (hs : ∀ hd c, hd ≠ c → Cl P w K mg base (handI hd c) 8 "_law_cut_right" 5 (C__law_cut_right K) [] ∧ Cl P w K mg base (handI hd c) 7 "_law_deed_right" 5 (C__law_deed_right K) [] ∧ Cl P w K mg base (handI hd c) 2 "_law_key" 3 (C__law_key K) [] ∧ Cl P w K mg base (handI hd c) 4 "_law_lining" 3 (C__law_lining K hd) [] ∧ Cl P w K mg base (handI hd c) 3 "_law_made" 4 (C__law_made K) [] ∧ Cl P w K mg base (handI hd c) 2 "_law_many_ranks" 1 (C__law_many_ranks K) [] ∧ Cl P w K mg base (handI hd c) 2 "_law_ranks" 1 (C__law_ranks K) [] ∧ Cl P w K mg base (handI hd c) 5 "_law_rows" 1 (C__law_rows K hd) [] ∧ Cl P w K mg base (handI hd c) 4 "_law_some_places" 2 (C__law_some_places K hd) [] ∧ Cl P w K mg base (handI hd c) 2 "lining_of" 2 (C_lining_of K) [] ∧ Cl P w K mg base (handI hd c) 6 "made_by" 4 (C_made_by K) []) :
    FnOk P w K mg base (L2.CX P w) 9 fa fd ["_law_script"] (spLaw K) := by
  obtain ⟨fh, fdh, psh, dsh, dvsh, Fh, gh, kh, bh, vh, dh⟩ := c__law_hand
  have e1 : dvsh = [] := (dh (fun _ => none)).nil
  subst e1
  cases vh
  refine F.ok sc_law (fun vs H Q E ⟨a, ns, e, _⟩ => by rw [e]; rfl) (fun cdv A outer s H vs Q E hr h => ?_)
  obtain ⟨a, ns, rfl, hl, o, sq, hQ⟩ := h
  have nd := sc_law.nd
  have tk : Takes (cxD P w K mg base N_law "law" (defScope s_law) fa cdv A outer s H E) (gOf HI.plain (fun _ => False) E).W := takes_of rfl rfl rfl rfl
  refine ⟨_, pss_cons (ps_set (i := 1) nd rfl (Or.inl rfl) (pe_call Fh (hr.mono (by decide)) rfl gh kh bh .nil passL (pa_cons (pv 0) pa_nil))) pss_w, ?_⟩
  exact law_run (X := cxD P w K mg base N_law "law" (defScope s_law) fa cdv A outer s H E) (rest := (defBody s_law).tail) (td := fun hd => d_law K hd (fun _ _ => False)) (n := 12) (W := (gOf HI.plain (fun _ => False) E).W) rfl (fun hd c hne => have Z := hs hd c hne; pd_law (Ed := fun _ => False) T (Z.1) (Z.2.1) (Z.2.2.1) (Z.2.2.2.1) (Z.2.2.2.2.1) (Z.2.2.2.2.2.1) (Z.2.2.2.2.2.2.1) (Z.2.2.2.2.2.2.2.1) (Z.2.2.2.2.2.2.2.2.1) (Z.2.2.2.2.2.2.2.2.2.1) (Z.2.2.2.2.2.2.2.2.2.2) hr tk) (fun hd => ct_law) hl o sq hQ
theorem facts {P : Program} {w : World} {K : PySem.W.Frag} {h : Heap} {mg : Str → Option Value} {f : Addr} (X : K.In h) (G : h.Ns mainGlobals mg) (hfa : mg ("law" : Str) = some (.ref f)) (c : He.SaysD fa fns K) (x : exF K = true) :
    ∃ fd : FuncData, (∀ (s : Shared) (v : Value), BindsTo s fd ⟨[v], []⟩ [("_law_script", v)]) ∧ ∀ base : Heap, K.In base → base.Ns mainGlobals mg → FnOk P w K mg base (L2.CX P w) 9 f fd ["_law_script"] (spLaw K) := by
  obtain ⟨fd_is_whole, F_is_whole⟩ := c.def_ 0 (d := defD s_is_whole none "is_whole" [.non, .non]) rfl
  have g_is_whole := He.glo_ok X G (c.fact 0 (f := .glo "is_whole") rfl)
  obtain ⟨fd_check_standing, F_check_standing⟩ := c.def_ 1 (d := defD s_check_standing none "check_standing" [.non]) rfl
  have g_check_standing := He.glo_ok X G (c.fact 1 (f := .glo "check_standing") rfl)
  obtain ⟨fd_standing_of, F_standing_of⟩ := c.def_ 2 (d := defD s_standing_of none "standing_of" []) rfl
  have g_standing_of := He.glo_ok X G (c.fact 2 (f := .glo "standing_of") rfl)
  obtain ⟨fd_check_places, F_check_places⟩ := c.def_ 3 (d := defD s_check_places none "check_places" []) rfl
  have g_check_places := He.glo_ok X G (c.fact 3 (f := .glo "check_places") rfl)
  obtain ⟨fd_ranks_number, F_ranks_number⟩ := c.def_ 4 (d := defD s_ranks_number none "ranks_number" []) rfl
  have g_ranks_number := He.glo_ok X G (c.fact 4 (f := .glo "ranks_number") rfl)
  obtain ⟨fd_check_lining, F_check_lining⟩ := c.def_ 5 (d := defD s_check_lining none "check_lining" []) rfl
  have g_check_lining := He.glo_ok X G (c.fact 5 (f := .glo "check_lining") rfl)
  obtain ⟨fd_rank_moments, F_rank_moments⟩ := c.def_ 6 (d := defD s_rank_moments none "rank_moments" []) rfl
  have g_rank_moments := He.glo_ok X G (c.fact 6 (f := .glo "rank_moments") rfl)
  obtain ⟨fd_moments_of, F_moments_of⟩ := c.def_ 7 (d := defD s_moments_of none "moments_of" []) rfl
  have g_moments_of := He.glo_ok X G (c.fact 7 (f := .glo "moments_of") rfl)
  obtain ⟨fd_lining_of, F_lining_of⟩ := c.def_ 8 (d := defD s_lining_of none "lining_of" []) rfl
  have g_lining_of := He.glo_ok X G (c.fact 8 (f := .glo "lining_of") rfl)
  obtain ⟨fd_cut_lining, F_cut_lining⟩ := c.def_ 9 (d := defD s_cut_lining none "cut_lining" []) rfl
  have g_cut_lining := He.glo_ok X G (c.fact 9 (f := .glo "cut_lining") rfl)
  obtain ⟨fd_check_deed, F_check_deed⟩ := c.def_ 10 (d := defD s_check_deed none "check_deed" []) rfl
  have g_check_deed := He.glo_ok X G (c.fact 10 (f := .glo "check_deed") rfl)
  obtain ⟨fd__place_key, F__place_key⟩ := c.def_ 11 (d := defD s__place_key none "_place_key" []) rfl
  have g__place_key := He.glo_ok X G (c.fact 11 (f := .glo "_place_key") rfl)
  obtain ⟨fd_deed_table, F_deed_table⟩ := c.def_ 12 (d := defD s_deed_table none "deed_table" []) rfl
  have g_deed_table := He.glo_ok X G (c.fact 12 (f := .glo "deed_table") rfl)
  obtain ⟨fd_made_by_table, F_made_by_table⟩ := c.def_ 13 (d := defD s_made_by_table none "made_by_table" []) rfl
  have g_made_by_table := He.glo_ok X G (c.fact 13 (f := .glo "made_by_table") rfl)
  obtain ⟨fd_made_by, F_made_by⟩ := c.def_ 14 (d := defD s_made_by none "made_by" []) rfl
  have g_made_by := He.glo_ok X G (c.fact 14 (f := .glo "made_by") rfl)
  obtain ⟨fd__law_hand, F__law_hand⟩ := c.def_ 15 (d := defD s__law_hand none "_law_hand" []) rfl
  have g__law_hand := He.glo_ok X G (c.fact 15 (f := .glo "_law_hand") rfl)
  obtain ⟨fd__law_mixed, F__law_mixed⟩ := c.def_ 16 (d := defD s__law_mixed none "_law_mixed" []) rfl
  have g__law_mixed := He.glo_ok X G (c.fact 16 (f := .glo "_law_mixed") rfl)
  obtain ⟨fd__law_take, F__law_take⟩ := c.def_ 17 (d := defD s__law_take none "_law_take" []) rfl
  have g__law_take := He.glo_ok X G (c.fact 17 (f := .glo "_law_take") rfl)
  obtain ⟨fd__law_pick, F__law_pick⟩ := c.def_ 18 (d := defD s__law_pick none "_law_pick" []) rfl
  have g__law_pick := He.glo_ok X G (c.fact 18 (f := .glo "_law_pick") rfl)
  obtain ⟨fd__law_whole, F__law_whole⟩ := c.def_ 19 (d := defD s__law_whole none "_law_whole" []) rfl
  have g__law_whole := He.glo_ok X G (c.fact 19 (f := .glo "_law_whole") rfl)
  obtain ⟨fd__law_is_row, F__law_is_row⟩ := c.def_ 20 (d := defD s__law_is_row none "_law_is_row" []) rfl
  have g__law_is_row := He.glo_ok X G (c.fact 20 (f := .glo "_law_is_row") rfl)
  obtain ⟨fd__law_ranks, F__law_ranks⟩ := c.def_ 21 (d := defD s__law_ranks none "_law_ranks" []) rfl
  have g__law_ranks := He.glo_ok X G (c.fact 21 (f := .glo "_law_ranks") rfl)
  obtain ⟨fd__law_many_ranks, F__law_many_ranks⟩ := c.def_ 22 (d := defD s__law_many_ranks none "_law_many_ranks" []) rfl
  have g__law_many_ranks := He.glo_ok X G (c.fact 22 (f := .glo "_law_many_ranks") rfl)
  obtain ⟨fd__law_lining, F__law_lining⟩ := c.def_ 23 (d := defD s__law_lining none "_law_lining" []) rfl
  have g__law_lining := He.glo_ok X G (c.fact 23 (f := .glo "_law_lining") rfl)
  obtain ⟨fd__law_moments, F__law_moments⟩ := c.def_ 24 (d := defD s__law_moments none "_law_moments" []) rfl
  have g__law_moments := He.glo_ok X G (c.fact 24 (f := .glo "_law_moments") rfl)
  obtain ⟨fd__law_key, F__law_key⟩ := c.def_ 25 (d := defD s__law_key none "_law_key" []) rfl
  have g__law_key := He.glo_ok X G (c.fact 25 (f := .glo "_law_key") rfl)
  obtain ⟨fd__law_made, F__law_made⟩ := c.def_ 26 (d := defD s__law_made none "_law_made" []) rfl
  have g__law_made := He.glo_ok X G (c.fact 26 (f := .glo "_law_made") rfl)
  obtain ⟨fd__law_rows, F__law_rows⟩ := c.def_ 27 (d := defD s__law_rows none "_law_rows" []) rfl
  have g__law_rows := He.glo_ok X G (c.fact 27 (f := .glo "_law_rows") rfl)
  obtain ⟨fd__law_some_places, F__law_some_places⟩ := c.def_ 28 (d := defD s__law_some_places none "_law_some_places" []) rfl
  have g__law_some_places := He.glo_ok X G (c.fact 28 (f := .glo "_law_some_places") rfl)
  obtain ⟨fd__law_exchanged, F__law_exchanged⟩ := c.def_ 29 (d := defD s__law_exchanged none "_law_exchanged" []) rfl
  have g__law_exchanged := He.glo_ok X G (c.fact 29 (f := .glo "_law_exchanged") rfl)
  obtain ⟨fd__law_deed_right, F__law_deed_right⟩ := c.def_ 30 (d := defD s__law_deed_right none "_law_deed_right" []) rfl
  have g__law_deed_right := He.glo_ok X G (c.fact 30 (f := .glo "_law_deed_right") rfl)
  obtain ⟨fd__law_cut_right, F__law_cut_right⟩ := c.def_ 31 (d := defD s__law_cut_right none "_law_cut_right" []) rfl
  have g__law_cut_right := He.glo_ok X G (c.fact 31 (f := .glo "_law_cut_right") rfl)
  obtain ⟨fd_law, F_law⟩ := c.def_ 32 (d := defD s_law none "law" []) rfl
  have g_law := He.glo_ok X G (c.fact 32 (f := .glo "law") rfl)
  obtain ⟨fd_BadLining, F_BadLining⟩ := c.def_ 33 (d := defD m_BadLining (some "BadLining") "__init__" []) rfl
  obtain ⟨fd_BadPlaces, F_BadPlaces⟩ := c.def_ 34 (d := defD m_BadPlaces (some "BadPlaces") "__init__" []) rfl
  obtain ⟨fd_BadStanding, F_BadStanding⟩ := c.def_ 35 (d := defD m_BadStanding (some "BadStanding") "__init__" []) rfl
  have g_DateError := He.glo_ok X G (c.fact 33 (f := .glo "DateError") rfl)
  have g_BadStanding := He.glo_ok X G (c.fact 34 (f := .glo "BadStanding") rfl)
  have g_BadPlaces := He.glo_ok X G (c.fact 35 (f := .glo "BadPlaces") rfl)
  have g_OtherPlaces := He.glo_ok X G (c.fact 36 (f := .glo "OtherPlaces") rfl)
  have g_BadLining := He.glo_ok X G (c.fact 37 (f := .glo "BadLining") rfl)
  have g_BadDeed := He.glo_ok X G (c.fact 38 (f := .glo "BadDeed") rfl)
  obtain ⟨x0, x⟩ := He.ba x
  obtain ⟨x1, x⟩ := He.ba x
  obtain ⟨x2, x⟩ := He.ba x
  obtain ⟨x3, x⟩ := He.ba x
  obtain ⟨x4, x5⟩ := He.ba x
  have er_BadLining : ∀ base : Heap, Er P w K mg base "BadLining" "index" := fun base => ⟨errB_ok x0, g_BadLining, fd_BadLining, init_ok (errB_ok x0).e (by decide) (by decide) (by decide) (Or.inl rfl) (Or.inl rfl) F_BadLining ⟨rfl, rfl, rfl, by decide +kernel, rfl, by decide +kernel, by decide +kernel⟩ (fun _ => rfl), F_BadLining.bindsN fun _ _ _ _ _ _ us hl => match us, hl with | [_, _], _ => rfl⟩
  have er_BadPlaces : ∀ base : Heap, Er P w K mg base "BadPlaces" "index" := fun base => ⟨errB_ok x1, g_BadPlaces, fd_BadPlaces, init_ok (errB_ok x1).e (by decide) (by decide) (by decide) (Or.inl rfl) (Or.inl rfl) F_BadPlaces ⟨rfl, rfl, rfl, by decide +kernel, rfl, by decide +kernel, by decide +kernel⟩ (fun _ => rfl), F_BadPlaces.bindsN fun _ _ _ _ _ _ us hl => match us, hl with | [_, _], _ => rfl⟩
  have er_BadStanding : ∀ base : Heap, Er P w K mg base "BadStanding" "index" := fun base => ⟨errB_ok x2, g_BadStanding, fd_BadStanding, init_ok (errB_ok x2).e (by decide) (by decide) (by decide) (Or.inl rfl) (Or.inl rfl) F_BadStanding ⟨rfl, rfl, rfl, by decide +kernel, rfl, by decide +kernel, by decide +kernel⟩ (fun _ => rfl), F_BadStanding.bindsN fun _ _ _ _ _ _ us hl => match us, hl with | [_, _], _ => rfl⟩
  have eR_BadDeed := Zs.erR_of x3 g_BadDeed
  have eR_OtherPlaces := Zs.erR_of x4 g_OtherPlaces
  have t_DEEDS := Zs.tupG_of x5 (He.glo_ok X G (c.fact 53 (f := .glo "DEEDS") rfl))
  have T : Tf K mg := ⟨He.free_ok X G (c.fact 39 (f := .free "abs") rfl), He.free_ok X G (c.fact 40 (f := .free "bool") rfl), He.free_ok X G (c.fact 41 (f := .free "enumerate") rfl), He.free_ok X G (c.fact 42 (f := .free "int") rfl), He.free_ok X G (c.fact 43 (f := .free "isinstance") rfl), He.free_ok X G (c.fact 44 (f := .free "len") rfl), He.free_ok X G (c.fact 45 (f := .free "list") rfl), He.free_ok X G (c.fact 46 (f := .free "max") rfl), He.free_ok X G (c.fact 47 (f := .free "min") rfl), He.free_ok X G (c.fact 48 (f := .free "range") rfl), He.free_ok X G (c.fact 49 (f := .free "set") rfl), He.free_ok X G (c.fact 50 (f := .free "sorted") rfl), He.free_ok X G (c.fact 51 (f := .free "tuple") rfl), He.free_ok X G (c.fact 52 (f := .free "zip") rfl), He.int_ok X G (c.fact 54 (f := .int "BOTH" 2) rfl), He.int_ok X G (c.fact 55 (f := .int "MOST_PLACES" 7) rfl), He.int_ok X G (c.fact 56 (f := .int "ONE_ALONE" 0) rfl), He.int_ok X G (c.fact 57 (f := .int "OTHER_ALONE" 1) rfl), t_DEEDS⟩
  have e := hfa.symm.trans g_law
  cases e
  have b := FunD.bindsA (ps := ["_law_script"]) F_law fun _ _ _ _ _ _ us hl => match us, hl with | [_], _ => rfl
  refine ⟨fd_law, fun s v => b s [v] rfl, fun base _ _ => ?_⟩
  refine fn_law F_law T (mk_c__law_hand F__law_hand T g__law_hand) fun hd c hne => ?_
  have c__law_mixed := mk_c__law_mixed (P := P) (w := w) (base := base) (I := handI hd c) F__law_mixed T g__law_mixed 
  have c__law_take := mk_c__law_take (P := P) (w := w) (base := base) F__law_take hne T g__law_take c__law_mixed
  have c_is_whole_2 := mk_c_is_whole_2 (P := P) (w := w) (base := base) (I := handI hd c) F_is_whole T g_is_whole 
  have c_is_whole := mk_c_is_whole (P := P) (w := w) (base := base) (I := handI hd c) F_is_whole T g_is_whole 
  have c_check_standing_1 := mk_c_check_standing_1 (P := P) (w := w) (base := base) (I := handI hd c) F_check_standing T g_check_standing c_is_whole_2 (er_BadStanding base)
  have c_standing_of := mk_c_standing_of (P := P) (w := w) (base := base) (I := handI hd c) F_standing_of T g_standing_of 
  have c_check_places := mk_c_check_places (P := P) (w := w) (base := base) (I := handI hd c) F_check_places T g_check_places c_is_whole (er_BadPlaces base)
  have c_ranks_number := mk_c_ranks_number (P := P) (w := w) (base := base) (I := handI hd c) F_ranks_number T g_ranks_number c_check_standing_1
  have c_check_lining := mk_c_check_lining (P := P) (w := w) (base := base) (I := handI hd c) F_check_lining T g_check_lining c_is_whole c_ranks_number (er_BadLining base) eR_OtherPlaces
  have c_rank_moments := mk_c_rank_moments (P := P) (w := w) (base := base) (I := handI hd c) F_rank_moments T g_rank_moments 
  have c_moments_of := mk_c_moments_of (P := P) (w := w) (base := base) (I := handI hd c) F_moments_of T g_moments_of c_check_lining c_rank_moments
  have c_lining_of := mk_c_lining_of (P := P) (w := w) (base := base) (I := handI hd c) F_lining_of T g_lining_of eR_OtherPlaces
  have c_cut_lining := mk_c_cut_lining (P := P) (w := w) (base := base) (I := handI hd c) F_cut_lining T g_cut_lining c_check_places c_lining_of c_moments_of
  have c_check_deed := mk_c_check_deed (P := P) (w := w) (base := base) (I := handI hd c) F_check_deed T g_check_deed eR_BadDeed
  have c__place_key := mk_c__place_key (P := P) (w := w) (base := base) (I := handI hd c) F__place_key T g__place_key 
  have c_deed_table := mk_c_deed_table (P := P) (w := w) (base := base) (I := handI hd c) F_deed_table T g_deed_table c__place_key c_rank_moments
  have c_made_by_table := mk_c_made_by_table (P := P) (w := w) (base := base) (I := handI hd c) F_made_by_table T g_made_by_table c_standing_of
  have c_made_by := mk_c_made_by (P := P) (w := w) (base := base) (I := handI hd c) F_made_by T g_made_by c_check_deed c_check_lining c_deed_table c_made_by_table
  have c__law_pick := mk_c__law_pick (P := P) (w := w) (base := base) (I := handI hd c) (hd := hd) F__law_pick T g__law_pick c__law_take
  have c__law_whole := mk_c__law_whole (P := P) (w := w) (base := base) (I := handI hd c) F__law_whole T g__law_whole 
  have c__law_is_row := mk_c__law_is_row (P := P) (w := w) (base := base) (I := handI hd c) F__law_is_row T g__law_is_row c__law_whole
  have c__law_ranks := mk_c__law_ranks (P := P) (w := w) (base := base) (I := handI hd c) F__law_ranks T g__law_ranks 
  have c__law_many_ranks := mk_c__law_many_ranks (P := P) (w := w) (base := base) (I := handI hd c) F__law_many_ranks T g__law_many_ranks 
  have c__law_lining := mk_c__law_lining (P := P) (w := w) (base := base) (I := handI hd c) (hd := hd) F__law_lining T g__law_lining c__law_take
  have c__law_moments := mk_c__law_moments (P := P) (w := w) (base := base) (I := handI hd c) F__law_moments T g__law_moments 
  have c__law_key := mk_c__law_key (P := P) (w := w) (base := base) (I := handI hd c) F__law_key T g__law_key 
  have c__law_made := mk_c__law_made (P := P) (w := w) (base := base) (I := handI hd c) F__law_made T g__law_made c__law_key c__law_moments c__law_ranks
  have c__law_rows := mk_c__law_rows (P := P) (w := w) (base := base) (I := handI hd c) (hd := hd) F__law_rows T g__law_rows c__law_pick c__law_take
  have c__law_some_places := mk_c__law_some_places (P := P) (w := w) (base := base) (I := handI hd c) (hd := hd) F__law_some_places T g__law_some_places c__law_take
  have c__law_exchanged := mk_c__law_exchanged (P := P) (w := w) (base := base) (I := handI hd c) F__law_exchanged T g__law_exchanged 
  have c__law_deed_right := mk_c__law_deed_right (P := P) (w := w) (base := base) (I := handI hd c) F__law_deed_right T g__law_deed_right c__law_exchanged c__law_is_row c__law_made c_made_by
  have c__law_cut_right := mk_c__law_cut_right (P := P) (w := w) (base := base) (I := handI hd c) F__law_cut_right T g__law_cut_right c__law_is_row c__law_made c__law_moments c__law_ranks c_cut_lining c_made_by
  exact ⟨c__law_cut_right, c__law_deed_right, c__law_key, c__law_lining, c__law_made, c__law_many_ranks, c__law_ranks, c__law_rows, c__law_some_places, c_lining_of, c_made_by⟩
end K09
open PySem PySem.W PySem.Calls PyProof.Rows
theorem PySem.Challenge.cw_earliestlots_k09_whole_deeds_of_numbers_holds : PySem.Challenge.rw_earliestlots_k09_whole_deeds_of_numbers.Holds := by
  w_on; o_law
  refine HandSHeadRun.head_any (r := OpenLaw.row PySem.Challenge.rw_earliestlots_k09_whole_deeds_of_numbers) (q := view (OpenLaw.row PySem.Challenge.rw_earliestlots_k09_whole_deeds_of_numbers).prog [48]) (H := K09.hk) (ob := K09.ob) (M := 3000) (loose := K09.names) (d := HandSHeadRun.topDef (OpenLaw.row PySem.Challenge.rw_earliestlots_k09_whole_deeds_of_numbers).prog 48) (kwd := []) K09.ob_eq
    (by kernel_rfl) (fun s => by kernel_rfl) K09.run (by kernel_rfl) (by kernel_rfl) (by kernel_rfl) (by rfl) (by first | assumption | decide +kernel) (by decide +kernel) ⟨rfl, rfl, rfl, rfl, rfl, by decide +kernel⟩ ?hw ?hc
  case hw => w_witness2
  case hc =>
    refine L2.walk_ofE (l := PySem.Challenge.rw_earliestlots_k09_whole_deeds_of_numbers) (n := 63) (k := 9) (x := "_law_script") (CX := L2.CX0) rfl (by decide) (by kernel_rfl) ⟨rfl, by decide, by decide⟩ ?F (fun _ _ _ _ z => z)
    intro w mg fa h Y G hmg0
    obtain ⟨K, KX, c, x⟩ := Y
    have hmg : mg ("law" : PySem.Str) = some (.ref fa) := by
      have e : (HandSHeadRun.topDef (OpenLaw.row PySem.Challenge.rw_earliestlots_k09_whole_deeds_of_numbers).prog 48).name = ("law" : PySem.Str) := by kernel_rfl
      rw [← e]
      exact hmg0
    obtain ⟨fd, hb, hF⟩ := K09.facts (P := PySem.Challenge.rw_earliestlots_k09_whole_deeds_of_numbers.prog) (w := w) KX G hmg c x
    exact ⟨K, fd, Dl.spLaw K, KX, hb, fun H a ns hl ho hS => ⟨a, ns, rfl, hl, ho, hS, fun _ => rfl⟩, fun base h1 h2 => Dl.law_cx0 (hF base h1 h2)⟩

