import PyProof.Rows.All
import Wide.All
import OpenK.AllK
import Wide.FinOn
import HandS.Base
import HandS.Call
import HandS.List
import HandS.Comp
import HandS.Iter
import HandS.Words
import HandS.WordsList
import HandS.Conv
import HandS.TupAny
import HandS.TupLe
import HandS.IsInst
import HandS.Flow
import HandS.Deep
import HandS.ExcInit
import KE.KeyNested
import HandS.Wide
import HandS.SortInts
import HandS.Exc
import HandS.ExcOwn
import HandS.WordsExc
import HandS.Strs
import HandS.Text
import HandS.Defaults
import HandS.More
import KE.GoesMore
import KE.GoesEnum
import HandS.Zip
import KE.KStateDown
import HandS.Head0
import HandS.Head1
import HandS.Head2
import HandS.HeadEnd
import HandS.HeadHook1
import HandS.HeadHook2
import HandS.ExcField
import HandS.SortOrd
import PyProof.TupleOfSeq
import HandS.ExcValue
import HandS.ExcIs
import KE.KExcIs
import HandS.TupSets
import HandS.SetBool
import KE.SortData
import PySem.Challenge.RW_earliestlots_k02_whole_dates_and_lots_ch
set_option Elab.async false
set_option linter.all false
set_option maxRecDepth 100000
set_option maxHeartbeats 4000000
set_option autoImplicit false
namespace Dl
open PySem PySem.Spec PyProof.Rows L2

/-- kinds of objects with fields: a caught exception at a whose dict is dd; an exception held as a value, with fields (exv), without (exn); an instance whose fields stay; a list that is read alone (a law's script) -/
inductive OKd where
  | cau (a dd : Addr) | exv (C : Addr) | exn (C : Addr) | ins (C : Addr) | scr | dct (ks : List Key) | dcn (ks : List NestedKey)
inductive D where
  | obj (k : OKd) (ns : List Str) (ds : List D) | non | bl (b : Bool) | int (i : Int) | str (x : Str) | tup (xs : List D) | lst (xs : List D) | ref (a : Addr) | ty (n : String)

/-- a dict whose keys are tuples (of tuples): its object alone; each entry: key, where the key stands, value -/
def NRaw (h : Heap) (a : Addr) (L : List (NestedKey × Addr × V)) : Prop :=
  (a == sysModules) = false ∧ L.length ≤ sizeLine ∧ (L.map (·.1)).Nodup ∧ ∃ o es ep, h.get? a = some o ∧ o.ExactDict ∧ o.data = .dict es ep ∧
    Paired (fun (p : NestedKey × Addr × V) (e : DictEntry) => (∀ w, e.hash = p.1.hash w) ∧ e.key = .ref p.2.1 ∧ RelV p.2.2 e.val) L es.toList
def NDO (a : Addr) (L : List (NestedKey × Addr × V)) : HO := .ext fun h => NRaw h a L
def KT (K : PySem.W.Frag) (a : Addr) (xs : List V) : Prop := ∃ (o : Obj) (its : Array Value) (n : Nat), K.lookup a = some o ∧ o.cls = .type "tuple" ∧ o.data = .seq its n ∧ its.size ≤ sizeLine ∧ Vals xs its.toList
/-- a tuple that stays: of the written part, or tracked outside Av -/
def TupA (K : PySem.W.Frag) (Av : Addr → Prop) (H : Hp) (a : Addr) (xs : List V) : Prop := (¬ Av a ∧ H a = some (.tup xs)) ∨ KT K a xs
theorem TupA.sq {K : PySem.W.Frag} {Av : Addr → Prop} {H : Hp} {a : Addr} {xs : List V} (h : TupA K Av H a xs) : SqT K H a xs := h.imp (fun x => .inl x.2) id
def ObjA (K : PySem.W.Frag) (Av : Addr → Prop) (H : Hp) (k : OKd) (v : V) (ns : List Str) (ws : List V) : Prop := match k with
  | .cau a dd => v = .ref a ∧ ¬ Av dd ∧ H dd = some (.xd (ns.zip ws))
  | .exv C => ∃ a dd, v = .ref a ∧ (¬ Av a ∧ H a = some (exo a C (some dd))) ∧ ¬ Av dd ∧ H dd = some (exd dd (ns.zip ws))
  | .exn C => ∃ a, v = .ref a ∧ (¬ Av a ∧ H a = some (exo a C none))
  | .ins C => ∃ a dx, v = .ref a ∧ (¬ Av a ∧ H a = some (.ins C dx (ns.zip ws))) ∧ ¬ Av dx ∧ H dx = some (.own a)
  | .dct ks => ∃ a, v = .ref a ∧ ¬ Av a ∧ H a = some (.dK (ks.zip ws))
  | .dcn ks => ∃ (a : Addr) (T : List (Addr × V)), v = .ref a ∧ ws = T.map (fun t => V.ref t.1) ++ T.map (fun t => t.2) ∧ T.length = ks.length ∧ ¬ Av a ∧ H a = some (NDO a (ks.zip T))
  | .scr => ∃ a, v = .ref a ∧ ((¬ Av a ∧ ∃ o, H a = some (.frz o (.lst ws))) ∨ ∀ G, SqL K G a ws)
mutual
def Den (K : PySem.W.Frag) (Av : Addr → Prop) (H : Hp) : V → D → Prop
  | v, .obj k ns ds => ∃ ws, ws.length = ns.length ∧ ObjA K Av H k v ns ws ∧ DenA K Av H ws ds
  | v, .non => v = .non
  | v, .bl b => v = .bl b
  | v, .int i => v = .int i
  | v, .str x => v = .str x
  | v, .ref a => v = .ref a
  | v, .ty n => v = .ty n
  | v, .tup ds => ∃ a vs, v = .ref a ∧ SqT K H a vs ∧ TupA K Av H a vs ∧ DenA K Av H vs ds
  | v, .lst ds => ∃ a vs, v = .ref a ∧ H a = some (.lst vs) ∧ ¬ Av a ∧ DenA K Av H vs ds
def DenA (K : PySem.W.Frag) (Av : Addr → Prop) (H : Hp) : List V → List D → Prop
  | vs, [] => vs = []
  | vs, d :: ds => ∃ v r, vs = v :: r ∧ Den K Av H v d ∧ DenA K Av H r ds
end

/-- what stays: all but what Av names -/
def Kp (Av : Addr → Prop) (H H' : Hp) : Prop := ∀ a o, ¬ Av a → H a = some o → H' a = some o
theorem Kp.refl {Av : Addr → Prop} {H : Hp} : Kp Av H H := fun _ _ _ h => h
theorem Kp.trans {Av : Addr → Prop} {H H1 H2 : Hp} (a : Kp Av H H1) (b : Kp Av H1 H2) : Kp Av H H2 := fun x o n h => b x o n (a x o n h)
theorem Kp.weak {Av Bv : Addr → Prop} {H H1 : Hp} (a : Kp Av H H1) (s : ∀ x, Av x → Bv x) : Kp Bv H H1 := fun x o n h => a x o (fun z => n (s x z)) h
theorem Kp.new {Av : Addr → Prop} {H : Hp} {p : Addr} {o : HO} (h : H p = none) : Kp Av H (upd H p o) := fun a u _ e => by
  rw [upd_ne (ne_of_none e h)]; exact e
theorem Kp.mut {Av : Addr → Prop} {H : Hp} {p : Addr} {o : HO} (h : Av p) : Kp Av H (upd H p o) := fun a u n e => by
  rw [upd_ne (fun z => n (by rw [z]; exact h))]; exact e

section
variable {K : PySem.W.Frag} {Av Bv : Addr → Prop} {H H' : Hp}
theorem rd_keep {a : Addr} {u : HO} (k : Kp Av H H') (n : ¬ Av a) (h : Rd H a u) : Rd H' a u := by
  rcases h with h | ⟨o, h⟩
  · exact .inl (k _ _ n h)
  · exact .inr ⟨o, k _ _ n h⟩
theorem sqL_keep {a : Addr} {xs : List V} (k : Kp Av H H') (n : ¬ Av a) (h : SqL K H a xs) : SqL K H' a xs := h.imp (rd_keep k n) id
theorem sqT_keep {a : Addr} {xs : List V} (k : Kp Av H H') (n : ¬ Av a) (h : SqT K H a xs) : SqT K H' a xs := h.imp (rd_keep k n) id

theorem TupA.keep {a : Addr} {xs : List V} (k : Kp Av H H') (h : TupA K Av H a xs) : TupA K Av H' a xs := h.imp (fun x => ⟨x.1, k _ _ x.1 x.2⟩) id
theorem TupA.weak {a : Addr} {xs : List V} (s : ∀ a, Bv a → Av a) (h : TupA K Av H a xs) : TupA K Bv H a xs := h.imp (fun x => ⟨fun z => x.1 (s _ z), x.2⟩) id
theorem ObjA.keep {q : OKd} {v : V} {ns : List Str} {ws : List V} (k : Kp Av H H') (h : ObjA K Av H q v ns ws) : ObjA K Av H' q v ns ws := by
  cases q with
  | cau a dd => exact ⟨h.1, h.2.1, k _ _ h.2.1 h.2.2⟩
  | exv C => obtain ⟨a, dd, e, h1, h2, h3⟩ := h; exact ⟨a, dd, e, ⟨h1.1, k _ _ h1.1 h1.2⟩, h2, k _ _ h2 h3⟩
  | exn C => obtain ⟨a, e, h1⟩ := h; exact ⟨a, e, ⟨h1.1, k _ _ h1.1 h1.2⟩⟩
  | ins C => obtain ⟨a, dd, e, h1, h2, h3⟩ := h; exact ⟨a, dd, e, ⟨h1.1, k _ _ h1.1 h1.2⟩, h2, k _ _ h2 h3⟩
  | scr => obtain ⟨a, e, h⟩ := h; exact ⟨a, e, h.imp (fun ⟨n, o, h⟩ => ⟨n, o, k _ _ n h⟩) id⟩
  | dct ks => obtain ⟨a, e, n, h⟩ := h; exact ⟨a, e, n, k _ _ n h⟩
  | dcn ks => obtain ⟨a, T, e, e2, l, n, h⟩ := h; exact ⟨a, T, e, e2, l, n, k _ _ n h⟩
theorem ObjA.weak {q : OKd} {v : V} {ns : List Str} {ws : List V} (s : ∀ a, Bv a → Av a) (h : ObjA K Av H q v ns ws) : ObjA K Bv H q v ns ws := by
  cases q with
  | cau a dd => exact ⟨h.1, fun z => h.2.1 (s _ z), h.2.2⟩
  | exv C => obtain ⟨a, dd, e, h1, h2, h3⟩ := h; exact ⟨a, dd, e, ⟨fun z => h1.1 (s _ z), h1.2⟩, fun z => h2 (s _ z), h3⟩
  | exn C => obtain ⟨a, e, h1⟩ := h; exact ⟨a, e, ⟨fun z => h1.1 (s _ z), h1.2⟩⟩
  | ins C => obtain ⟨a, dd, e, h1, h2, h3⟩ := h; exact ⟨a, dd, e, ⟨fun z => h1.1 (s _ z), h1.2⟩, fun z => h2 (s _ z), h3⟩
  | scr => obtain ⟨a, e, h⟩ := h; exact ⟨a, e, h.imp (fun ⟨n, o, h⟩ => ⟨fun z => n (s _ z), o, h⟩) id⟩
  | dct ks => obtain ⟨a, e, n, h⟩ := h; exact ⟨a, e, fun z => n (s _ z), h⟩
  | dcn ks => obtain ⟨a, T, e, e2, l, n, h⟩ := h; exact ⟨a, T, e, e2, l, fun z => n (s _ z), h⟩
theorem ObjA.more {q : OKd} {v : V} {ns : List Str} {ws : List V} (s : ∀ a, Bv a → Av a ∨ H a = none ∨ ∃ xs, H a = some (.lst xs)) (h : ObjA K Av H q v ns ws) : ObjA K Bv H q v ns ws := by
  have n1 : ∀ {a : Addr} {o : HO}, ¬ Av a → H a = some o → (∀ xs, o ≠ .lst xs) → ¬ Bv a := fun {a o} n e d z => by
    rcases s _ z with z | z | ⟨xs, z⟩
    · exact n z
    · rw [e] at z; cases z
    · rw [e] at z; exact d xs (Option.some.inj z)
  cases q with
  | cau a dd => exact ⟨h.1, n1 h.2.1 h.2.2 (fun _ z => by cases z), h.2.2⟩
  | exv C => obtain ⟨a, dd, e, h1, h2, h3⟩ := h; exact ⟨a, dd, e, ⟨n1 h1.1 h1.2 (fun _ z => by unfold exo at z; cases z), h1.2⟩, n1 h2 h3 (fun _ z => by unfold exd at z; cases z), h3⟩
  | exn C => obtain ⟨a, e, h1⟩ := h; exact ⟨a, e, ⟨n1 h1.1 h1.2 (fun _ z => by unfold exo at z; cases z), h1.2⟩⟩
  | ins C => obtain ⟨a, dd, e, h1, h2, h3⟩ := h; exact ⟨a, dd, e, ⟨n1 h1.1 h1.2 (fun _ z => by cases z), h1.2⟩, n1 h2 h3 (fun _ z => by cases z), h3⟩
  | scr => obtain ⟨a, e, h⟩ := h; exact ⟨a, e, h.imp (fun ⟨n, o, h⟩ => ⟨n1 n h (fun _ z => by cases z), o, h⟩) id⟩
  | dct ks => obtain ⟨a, e, n, h⟩ := h; exact ⟨a, e, n1 n h (fun _ z => by cases z), h⟩
  | dcn ks => obtain ⟨a, T, e, e2, l, n, h⟩ := h; exact ⟨a, T, e, e2, l, n1 n h (fun _ z => by unfold NDO at z; cases z), h⟩
mutual
theorem Den.keep (k : Kp Av H H') : ∀ (d : D) (v : V), Den K Av H v d → Den K Av H' v d
  | .obj q ns ds, v, h => by
    simp only [Den] at h ⊢
    obtain ⟨ws, l, o, r⟩ := h
    exact ⟨ws, l, ObjA.keep k o, DenA.keep k ds ws r⟩
  | .non, _, h => by simpa only [Den] using h
  | .bl _, _, h => by simpa only [Den] using h
  | .int _, _, h => by simpa only [Den] using h
  | .str _, _, h => by simpa only [Den] using h
  | .ref _, _, h => by simpa only [Den] using h
  | .ty _, _, h => by simpa only [Den] using h
  | .tup ds, v, h => by
    simp only [Den] at h ⊢
    obtain ⟨a, vs, e, s, n, r⟩ := h
    exact ⟨a, vs, e, (TupA.keep k n).sq, TupA.keep k n, DenA.keep k ds vs r⟩
  | .lst ds, v, h => by
    simp only [Den] at h ⊢
    obtain ⟨a, vs, e, s, n, r⟩ := h
    exact ⟨a, vs, e, k _ _ n s, n, DenA.keep k ds vs r⟩
theorem DenA.keep (k : Kp Av H H') : ∀ (ds : List D) (vs : List V), DenA K Av H vs ds → DenA K Av H' vs ds
  | [], _, h => by simpa only [DenA] using h
  | d :: ds, vs, h => by
    simp only [DenA] at h ⊢
    obtain ⟨v, r, e, h1, h2⟩ := h
    exact ⟨v, r, e, Den.keep k d v h1, DenA.keep k ds r h2⟩
end
mutual
theorem Den.weak (s : ∀ a, Bv a → Av a) : ∀ (d : D) (v : V), Den K Av H v d → Den K Bv H v d
  | .obj q ns ds, v, h => by
    simp only [Den] at h ⊢
    obtain ⟨ws, l, o, r⟩ := h
    exact ⟨ws, l, ObjA.weak s o, DenA.weak s ds ws r⟩
  | .non, _, h => by simpa only [Den] using h
  | .bl _, _, h => by simpa only [Den] using h
  | .int _, _, h => by simpa only [Den] using h
  | .str _, _, h => by simpa only [Den] using h
  | .ref _, _, h => by simpa only [Den] using h
  | .ty _, _, h => by simpa only [Den] using h
  | .tup ds, v, h => by
    simp only [Den] at h ⊢
    obtain ⟨a, vs, e, q, n, r⟩ := h
    exact ⟨a, vs, e, q, TupA.weak s n, DenA.weak s ds vs r⟩
  | .lst ds, v, h => by
    simp only [Den] at h ⊢
    obtain ⟨a, vs, e, q, n, r⟩ := h
    exact ⟨a, vs, e, q, fun z => n (s a z), DenA.weak s ds vs r⟩
theorem DenA.weak (s : ∀ a, Bv a → Av a) : ∀ (ds : List D) (vs : List V), DenA K Av H vs ds → DenA K Bv H vs ds
  | [], _, h => by simpa only [DenA] using h
  | d :: ds, vs, h => by
    simp only [DenA] at h ⊢
    obtain ⟨v, r, e, h1, h2⟩ := h
    exact ⟨v, r, e, Den.weak s d v h1, DenA.weak s ds r h2⟩
end
mutual
/-- what is new is not in it -/
theorem Den.fresh {p : Addr} (hp : H p = none) : ∀ (d : D) (v : V), Den K Av H v d → Den K (fun a => Av a ∨ a = p) H v d
  | .obj q ns ds, v, h => by
    simp only [Den] at h ⊢
    obtain ⟨ws, l, o, r⟩ := h
    exact ⟨ws, l, ObjA.more (fun a z => z.imp id fun e => .inl (by rw [e]; exact hp)) o, DenA.fresh hp ds ws r⟩
  | .non, _, h => by simpa only [Den] using h
  | .bl _, _, h => by simpa only [Den] using h
  | .int _, _, h => by simpa only [Den] using h
  | .str _, _, h => by simpa only [Den] using h
  | .ref _, _, h => by simpa only [Den] using h
  | .ty _, _, h => by simpa only [Den] using h
  | .tup ds, v, h => by
    simp only [Den] at h ⊢
    obtain ⟨a, vs, e, q, n, r⟩ := h
    refine ⟨a, vs, e, q, n.imp (fun x => ⟨fun z => z.elim x.1 fun e => ?_, x.2⟩) id, DenA.fresh hp ds vs r⟩
    subst e
    have x := x.2
    rw [hp] at x; cases x
  | .lst ds, v, h => by
    simp only [Den] at h ⊢
    obtain ⟨a, vs, e, q, n, r⟩ := h
    refine ⟨a, vs, e, q, fun z => z.elim n fun e => ?_, DenA.fresh hp ds vs r⟩
    subst e
    rw [hp] at q; cases q
theorem DenA.fresh {p : Addr} (hp : H p = none) : ∀ (ds : List D) (vs : List V), DenA K Av H vs ds → DenA K (fun a => Av a ∨ a = p) H vs ds
  | [], _, h => by simpa only [DenA] using h
  | d :: ds, vs, h => by
    simp only [DenA] at h ⊢
    obtain ⟨v, r, e, h1, h2⟩ := h
    exact ⟨v, r, e, Den.fresh hp d v h1, DenA.fresh hp ds r h2⟩
end
mutual
def D.noLst : D → Bool
  | .obj _ _ xs => noLstA xs | .lst _ => false | .tup xs => noLstA xs | .non => true | .bl _ => true | .int _ => true | .str _ => true | .ref _ => true | .ty _ => true
def noLstA : List D → Bool
  | [] => true
  | x :: xs => D.noLst x && noLstA xs
end
mutual
/-- data without lists stands apart from every list -/
theorem Den.apart {P : Addr → Prop} (hp : ∀ a, P a → ∃ xs, H a = some (.lst xs)) : ∀ (d : D) (v : V), d.noLst = true → Den K Av H v d → Den K (fun a => Av a ∨ P a) H v d
  | .obj q ns ds, v, g, h => by
    simp only [Den] at h ⊢
    obtain ⟨ws, l, o, r⟩ := h
    exact ⟨ws, l, ObjA.more (fun a z => z.imp id fun e => .inr (hp a e)) o, DenA.apart hp ds ws (by simpa only [D.noLst] using g) r⟩
  | .non, _, _, h => by simpa only [Den] using h
  | .bl _, _, _, h => by simpa only [Den] using h
  | .int _, _, _, h => by simpa only [Den] using h
  | .str _, _, _, h => by simpa only [Den] using h
  | .ref _, _, _, h => by simpa only [Den] using h
  | .ty _, _, _, h => by simpa only [Den] using h
  | .tup ds, v, g, h => by
    simp only [Den] at h ⊢
    obtain ⟨a, vs, e, q, n, r⟩ := h
    refine ⟨a, vs, e, q, n.imp (fun x => ⟨fun z => z.elim x.1 fun e => ?_, x.2⟩) id, DenA.apart hp ds vs (by simpa only [D.noLst] using g) r⟩
    obtain ⟨xs, e⟩ := hp a e
    have x := x.2
    rw [e] at x; cases x
  | .lst ds, v, g, h => by simp [D.noLst] at g
theorem DenA.apart {P : Addr → Prop} (hp : ∀ a, P a → ∃ xs, H a = some (.lst xs)) : ∀ (ds : List D) (vs : List V), noLstA ds = true → DenA K Av H vs ds → DenA K (fun a => Av a ∨ P a) H vs ds
  | [], _, _, h => by simpa only [DenA] using h
  | d :: ds, vs, g, h => by
    simp only [noLstA, Bool.and_eq_true] at g
    simp only [DenA] at h ⊢
    obtain ⟨v, r, e, h1, h2⟩ := h
    exact ⟨v, r, e, Den.apart hp d v g.1 h1, DenA.apart hp ds r g.2 h2⟩
end
theorem DenA.len : ∀ {ds : List D} {vs : List V}, DenA K Av H vs ds → vs.length = ds.length
  | [], _, h => by simp only [DenA] at h; rw [h]; rfl
  | d :: ds, vs, h => by
    simp only [DenA] at h
    obtain ⟨v, r, e, h1, h2⟩ := h
    rw [e]; exact congrArg Nat.succ (DenA.len h2)
theorem DenA.get : ∀ {ds : List D} {vs : List V} {i : Nat} {d : D}, DenA K Av H vs ds → ds[i]? = some d → ∃ v, vs[i]? = some v ∧ Den K Av H v d
  | [], _, _, _, h, e => by simp at e
  | d :: ds, vs, 0, d', h, e => by
    simp only [DenA] at h
    obtain ⟨v, r, rfl, h1, h2⟩ := h
    simp at e; subst e
    exact ⟨v, rfl, h1⟩
  | d :: ds, vs, i + 1, d', h, e => by
    simp only [DenA] at h
    obtain ⟨v, r, rfl, h1, h2⟩ := h
    simpa using DenA.get (i := i) h2 (by simpa using e)
theorem DenA.getV : ∀ {ds : List D} {vs : List V} {i : Nat} {v : V}, DenA K Av H vs ds → vs[i]? = some v → ∃ d, ds[i]? = some d ∧ Den K Av H v d
  | [], _, _, _, h, e => by simp only [DenA] at h; rw [h] at e; simp at e
  | d :: ds, vs, 0, v', h, e => by
    simp only [DenA] at h
    obtain ⟨v, r, rfl, h1, h2⟩ := h
    simp at e; subst e
    exact ⟨d, rfl, h1⟩
  | d :: ds, vs, i + 1, v', h, e => by
    simp only [DenA] at h
    obtain ⟨v, r, rfl, h1, h2⟩ := h
    simpa using DenA.getV (i := i) h2 (by simpa using e)
theorem DenA.app : ∀ {ds es : List D} {vs ws : List V}, DenA K Av H vs ds → DenA K Av H ws es → DenA K Av H (vs ++ ws) (ds ++ es)
  | [], _, _, _, h, g => by simp only [DenA] at h; rw [h]; exact g
  | d :: ds, es, vs, ws, h, g => by
    simp only [DenA] at h
    obtain ⟨v, r, rfl, h1, h2⟩ := h
    show DenA K Av H (v :: (r ++ ws)) (d :: (ds ++ es))
    simp only [DenA]
    exact ⟨v, _, rfl, h1, DenA.app h2 g⟩
theorem DenA.one {v : V} {d : D} (h : Den K Av H v d) : DenA K Av H [v] [d] := by
  simp only [DenA]; exact ⟨v, [], rfl, h, rfl⟩
theorem DenA.drop : ∀ {ds : List D} {vs : List V} (n : Nat), DenA K Av H vs ds → DenA K Av H (vs.drop n) (ds.drop n)
  | _, _, 0, h => h
  | [], _, n + 1, h => by simp only [DenA] at h; rw [h]; simp [DenA]
  | d :: ds, vs, n + 1, h => by
    simp only [DenA] at h
    obtain ⟨v, r, rfl, h1, h2⟩ := h
    exact DenA.drop n h2
theorem DenA.take : ∀ {ds : List D} {vs : List V} (n : Nat), DenA K Av H vs ds → DenA K Av H (vs.take n) (ds.take n)
  | ds, vs, 0, h => by simp [DenA]
  | [], _, n + 1, h => by simp only [DenA] at h; rw [h]; simp [DenA]
  | d :: ds, vs, n + 1, h => by
    simp only [DenA] at h
    obtain ⟨v, r, rfl, h1, h2⟩ := h
    show DenA K Av H (v :: r.take n) (d :: ds.take n)
    simp only [DenA]
    exact ⟨v, _, rfl, h1, DenA.take n h2⟩
theorem DenA.set {v : V} {d : D} (hd : Den K Av H v d) : ∀ {ds : List D} {vs : List V} (n : Nat), DenA K Av H vs ds → DenA K Av H (vs.set n v) (ds.set n d)
  | [], _, n, h => by simp only [DenA] at h; rw [h]; simp [DenA]
  | e :: ds, vs, 0, h => by
    simp only [DenA] at h
    obtain ⟨v', r, rfl, h1, h2⟩ := h
    show DenA K Av H (v :: r) (d :: ds)
    simp only [DenA]
    exact ⟨v, _, rfl, hd, h2⟩
  | e :: ds, vs, n + 1, h => by
    simp only [DenA] at h
    obtain ⟨v', r, rfl, h1, h2⟩ := h
    show DenA K Av H (v' :: r.set n v) (e :: ds.set n d)
    simp only [DenA]
    exact ⟨v', _, rfl, h1, DenA.set hd n h2⟩
theorem DenA.ints : ∀ {ns : List Int}, DenA K Av H (ns.map V.int) (ns.map D.int)
  | [] => by simp [DenA]
  | n :: ns => by
    show DenA K Av H (V.int n :: ns.map V.int) (D.int n :: ns.map D.int)
    simp only [DenA]
    exact ⟨_, _, rfl, by simp only [Den], DenA.ints⟩
theorem DenA.ofInts : ∀ {ns : List Int} {vs : List V}, DenA K Av H vs (ns.map D.int) → vs = ns.map V.int
  | [], _, h => by simpa [DenA] using h
  | n :: ns, vs, h => by
    have h' : DenA K Av H vs (D.int n :: ns.map D.int) := h
    simp only [DenA, Den] at h'
    obtain ⟨v, r, rfl, rfl, h2⟩ := h'
    rw [DenA.ofInts h2]; rfl
end

/-! ### what calls may change -/
structure HI where
  own : Addr → Prop
  foot : Addr → Prop
  ok : Hp → Prop
  sub : ∀ a, own a → foot a
  dom : ∀ H a, ok H → foot a → H a ≠ none
  loc : ∀ H H', (∀ a, foot a → H' a = H a) → ok H → ok H'
def HI.plain : HI := ⟨fun _ => False, fun _ => False, fun _ => True, fun _ h => h, fun _ _ _ h => h.elim, fun _ _ _ _ => trivial⟩

def Ext (I : HI) (H H' : Hp) : Prop := Kp I.own H H' ∧ I.ok H'
section
variable {I : HI} {H H1 H2 : Hp}
theorem Ext.refl (h : I.ok H) : Ext I H H := ⟨Kp.refl, h⟩
theorem Ext.trans (a : Ext I H H1) (b : Ext I H1 H2) : Ext I H H2 := ⟨a.1.trans b.1, b.2⟩
theorem Ext.new {p : Addr} {o : HO} (h : I.ok H) (n : H p = none) : Ext I H (upd H p o) :=
  ⟨Kp.new n, I.loc H _ (fun a f => upd_ne (fun z => I.dom H a h f (by rw [z]; exact n))) h⟩
theorem HI.nown {p : Addr} (h : I.ok H) (n : H p = none) : ¬ I.own p := fun z => I.dom H p h (I.sub p z) n
end

/-! ### the slots -/
inductive Slot where
  | no | val (d : D) | own (xs : List D)
abbrev DEnv := List Slot
def AvOf (I : HI) (env : DEnv) (oa : Nat → Addr) : Addr → Prop := fun a => I.own a ∨ ∃ (i : Nat) (xs : List D), env[i]? = some (Slot.own xs) ∧ a = oa i
/-- where a body began, and what is held beside the slots -/
structure B0 where
  H0 : Hp
  hs : List (V × D)
structure DenE (K : PySem.W.Frag) (I : HI) (b : B0) (σ : L2.St) (H : Hp) (env : DEnv) : Prop where
  len : σ.length = env.length
  ext : Ext I b.H0 H
  slots : ∃ oa : Nat → Addr,
    (∀ (i : Nat) (xs : List D), env[i]? = some (Slot.own xs) → (∃ vs, σ[i]? = some (some (.ref (oa i))) ∧ H (oa i) = some (.lst vs) ∧ DenA K (AvOf I env oa) H vs xs) ∧ b.H0 (oa i) = none ∧ ¬ I.foot (oa i)) ∧
    (∀ (i j : Nat) (xs ys : List D), env[i]? = some (Slot.own xs) → env[j]? = some (Slot.own ys) → oa i = oa j → i = j) ∧
    (∀ (i : Nat) (d : D), env[i]? = some (Slot.val d) → ∃ v : V, σ[i]? = some (some v) ∧ Den K (AvOf I env oa) H v d) ∧
    ∀ p ∈ b.hs, Den K (AvOf I env oa) H p.1 p.2
section
variable {K : PySem.W.Frag} {I : HI} {b : B0} {H H' : Hp} {σ : L2.St} {env : DEnv}
theorem DenE.ok (h : DenE K I b σ H env) : I.ok H := h.ext.2
theorem DenE.mono (h : DenE K I b σ H env) (e : Ext I H H') : DenE K I b σ H' env := by
  obtain ⟨oa, h1, h2, h3, h4⟩ := h.slots
  refine ⟨h.len, h.ext.trans e, oa, fun i xs q => ?_, h2, fun i d q => ?_, fun p hp => Den.keep (e.1.weak (fun x z => .inl z)) _ _ (h4 p hp)⟩
  · obtain ⟨⟨vs, e1, e2, e3⟩, e4, e5⟩ := h1 i xs q
    refine ⟨⟨vs, e1, e.1 _ _ (fun z => e5 (I.sub _ z)) e2, DenA.keep (e.1.weak (fun x z => .inl z)) xs vs e3⟩, e4, e5⟩
  · obtain ⟨v, e1, e2⟩ := h3 i d q
    exact ⟨v, e1, Den.keep (e.1.weak (fun x z => .inl z)) d v e2⟩
/-- reading a slot -/
def rdSlot : Slot → Option D
  | .no => none
  | .val d => some d
  | .own xs => some (.lst xs)
theorem DenE.read (h : DenE K I b σ H env) {i : Nat} {s : Slot} {d : D} (hs : env[i]? = some s) (hd : rdSlot s = some d) : ∃ v, σ[i]? = some (some v) ∧ Den K I.own H v d := by
  obtain ⟨oa, h1, h2, h3, _⟩ := h.slots
  cases s with
  | no => cases hd
  | val d' =>
    have e : d' = d := Option.some.inj hd
    subst e
    obtain ⟨v, e1, e2⟩ := h3 i d' hs
    exact ⟨v, e1, Den.weak (fun a z => .inl z) _ _ e2⟩
  | own xs =>
    have e : D.lst xs = d := Option.some.inj hd
    subst e
    obtain ⟨⟨vs, e1, e2, e3⟩, e4, e5⟩ := h1 i xs hs
    refine ⟨_, e1, ?_⟩
    simp only [Den]
    exact ⟨_, vs, rfl, e2, fun z => e5 (I.sub _ z), DenA.weak (fun a z => .inl z) _ _ e3⟩
end
end Dl
namespace Dl
open PySem PySem.Spec PyProof.Rows L2

abbrev TED := DEnv → (D → Prop) → Prop
abbrev TTD := DEnv → (Bool → Prop) → Prop
abbrev TAD := DEnv → (List D → Prop) → Prop

/-- weakest readings -/
def wE (X : Cx) (e : Expr) : TE := fun σ H Q => ∀ pins s, Inv X pins σ H s → wpAny (model X.prog X.w) X.A (eval e X.env) (EP X pins σ Q) X.xe s
def wT (X : Cx) (e : Expr) : TT := fun σ H Q => ∀ pins s, Inv X pins σ H s → wpAny (model X.prog X.w) X.A (isTrue e X.env (eval e X.env)) (TP X pins σ Q) X.xe s
def wW (X : Cx) (e : Expr) : TT := fun σ H Q => ∀ whole pins s, Inv X pins σ H s → wpAny (model X.prog X.w) X.A (isTrue e X.env whole) (TP X pins σ Q) X.xe s
def wA (X : Cx) (es : List Expr) : TA := fun σ H Q => ∀ pos pins s, Inv X pins σ H s → wpAny (model X.prog X.w) X.A (spliced (backTo pos (starEach es X.env))) (AP X pins σ Q) X.xe s
def rw2 (X : Cx) (f : Value → Value → Sem Value) : R2 := fun x y H Q => ∀ pins s σ v u, Inv X pins σ H s → RelV x v → RelV y u → wpAny (model X.prog X.w) X.A (f v u) (EP X pins σ Q) X.xe s
section
variable {X : Cx} {e : Expr} {es : List Expr} {f : Value → Value → Sem Value}
theorem pe_w : PE X e (wE X e) := ⟨fun pins s σ H Q I h => h pins s I⟩
theorem pt_w : PT X e (wT X e) := ⟨fun pins s σ H Q I h => h pins s I⟩
theorem pw_w : PW X e (wW X e) := ⟨fun whole pins s σ H Q I h => h whole pins s I⟩
theorem pa_w : PA X es (wA X es) := ⟨fun pos pins s σ H Q I h => h pos pins s I⟩
theorem or_w : OpR X f (rw2 X f) := fun pins s σ H x y v u Q I rx ry h => h pins s σ v u I rx ry
theorem rw2_of {r : R2} (h : OpR X f r) {x y : V} {H : Hp} {Q : VK} (q : r x y H Q) : rw2 X f x y H Q := fun pins s σ v u I rx ry => h pins s σ H x y v u Q I rx ry q
end

/-- an exception: its class, its fields (none: it has no dict) -/
structure Exc where
  cls : Addr
  fs : Option (List (Str × D))
def ExD (K : PySem.W.Frag) (I : HI) (H : Hp) (x : Exc) (d : Option Addr) : Prop := match x.fs with
  | none => d = none
  | some fs => ∃ dd ws, d = some dd ∧ H dd = some (.xd ((fs.map (·.1)).zip ws)) ∧ DenA K I.own H ws (fs.map (·.2))
/-- what a body is judged by: what may change, what is wished of an exception, here and there -/
structure Gx where
  I : HI
  Ed : DEnv → Exc → Prop
  W : WX
abbrev Gx.nox (g : Gx) : Gx := ⟨g.I, fun _ _ => False, fun _ _ _ _ => False⟩
def XL (K : PySem.W.Frag) (g : Gx) (b : B0) : Prop := ∀ (σ : L2.St) (H : Hp) (env : DEnv) (x : Exc) (d : Option Addr) (H' : Hp), DenE K g.I b σ H env → Ext g.I H H' → ExD K g.I H' x d → g.Ed env x → g.W (.ref x.cls) d σ H'
theorem XL.nox {K : PySem.W.Frag} {g : Gx} {b : B0} : XL K g.nox b := fun _ _ _ _ _ _ _ _ _ h => h.elim

def SE (K : PySem.W.Frag) (g : Gx) (te : TE) (td : TED) : Prop :=
  ∀ (b : B0) (σ : L2.St) (H : Hp) (env : DEnv) (Qd : D → Prop) (Q : VK), DenE K g.I b σ H env → XL K g b → td env Qd → (∀ v d H', Ext g.I H H' → Den K g.I.own H' v d → Qd d → Q v H') → te σ H Q
def ST (K : PySem.W.Frag) (g : Gx) (tt : TT) (td : TTD) : Prop :=
  ∀ (b : B0) (σ : L2.St) (H : Hp) (env : DEnv) (Qd : Bool → Prop) (Q : Bool → Hp → Prop), DenE K g.I b σ H env → XL K g b → td env Qd → (∀ b H', Ext g.I H H' → Qd b → Q b H') → tt σ H Q
def SA (K : PySem.W.Frag) (g : Gx) (ta : TA) (td : TAD) : Prop :=
  ∀ (b : B0) (σ : L2.St) (H : Hp) (env : DEnv) (Qd : List D → Prop) (Q : List V → Hp → Prop), DenE K g.I b σ H env → XL K g b → td env Qd → (∀ vs ds H', Ext g.I H H' → DenA K g.I.own H' vs ds → Qd ds → Q vs H') → ta σ H Q

def PED (X : Cx) (g : Gx) (e : Expr) (td : TED) : Prop := SE X.K g (wE X e) td
def PTD (X : Cx) (g : Gx) (e : Expr) (td : TTD) : Prop := ST X.K g (wT X e) td
def PWD (X : Cx) (g : Gx) (e : Expr) (td : TTD) : Prop := ST X.K g (wW X e) td
def PAD (X : Cx) (g : Gx) (es : List Expr) (td : TAD) : Prop := SA X.K g (wA X es) td
/-- a two-place operation by values -/
abbrev F2 := D → D → (D → Prop) → Prop
def RD (X : Cx) (I : HI) (f : Value → Value → Sem Value) (h : F2) : Prop :=
  ∀ (H : Hp) (x y : V) (dx dy : D) (Qd : D → Prop) (Q : VK), I.ok H → Den X.K I.own H x dx → Den X.K I.own H y dy → h dx dy Qd → (∀ v d H', Ext I H H' → Den X.K I.own H' v d → Qd d → Q v H') → rw2 X f x y H Q

section
variable {X : Cx} {I : HI} {g : Gx} {e a b c : Expr} {es : List Expr} {te : TE} {tt : TT} {td ta tb tc : TED} {t u : TTD} {pos : Pos} {f : Value → Value → Sem Value} {o : F2}
theorem ped_of (p : PE X e te) (h : SE X.K g te td) : PED X g e td := fun b0 σ H env Qd Q hd xl ht k pins s J => p.run pins s σ H Q J (h b0 σ H env Qd Q hd xl ht k)
theorem ptd_of {td : TTD} (p : PT X e tt) (h : ST X.K g tt td) : PTD X g e td := fun b0 σ H env Qd Q hd xl ht k pins s J => p.run pins s σ H Q J (h b0 σ H env Qd Q hd xl ht k)
theorem pwd_of {td : TTD} (p : PW X e tt) (h : ST X.K g tt td) : PWD X g e td := fun b0 σ H env Qd Q hd xl ht k whole pins s J => p.run whole pins s σ H Q J (h b0 σ H env Qd Q hd xl ht k)
theorem pad_of {ta : TA} {td : TAD} (p : PA X es ta) (h : SA X.K g ta td) : PAD X g es td := fun b0 σ H env Qd Q hd xl ht k pos pins s J => p.run pos pins s σ H Q J (h b0 σ H env Qd Q hd xl ht k)
theorem PWD.pt {td : TTD} (h : PWD X g e td) : PTD X g e td := fun b0 σ H env Qd Q hd xl ht k pins s J => h b0 σ H env Qd Q hd xl ht k _ pins s J

/-! ### leaves -/
def dVar (i : Nat) : TED := fun env Q => ∃ s d, env[i]? = some s ∧ rdSlot s = some d ∧ Q d
def dC (d : D) : TED := fun _ Q => Q d
theorem sd_var {K : PySem.W.Frag} {i : Nat} : SE K g (tVar i) (dVar i) := fun b0 σ H env Qd Q hd xl ⟨s, d, h1, h2, q⟩ k => by
  obtain ⟨v, e1, e2⟩ := hd.read h1 h2
  exact ⟨v, e1, k v d H (.refl hd.ok) e2 q⟩
theorem dv (i : Nat) {x : Str} {pos : Pos} (hN : X.N[i]? = some x := by rfl) (hv : Vis X.env.scope x := by first | exact Or.inl rfl | exact Or.inr (Or.inl rfl) | exact Or.inr (Or.inr rfl)) (hd : (x == ("__debug__" : Str)) = false := by decide)
    (hcd : (x == ("__classdict__" : Str)) = false := by decide) : PED X g (.Name x pos) (dVar i) := ped_of (pe_var hN hv hd hcd) sd_var
theorem sd_c {K : PySem.W.Frag} {v : V} {d : D} (h : ∀ H, Den K g.I.own H v d) : SE K g (tC v) (dC d) := fun b0 σ H env Qd Q hd xl q k => k v d H (.refl hd.ok) (h H) q
theorem d_int {i j pos} : PED X g (.Constant (.int i) j pos) (dC (.int i)) := ped_of pe_int (sd_c fun _ => by simp only [Den])
theorem d_bl {b j pos} : PED X g (.Constant (.bool b) j pos) (dC (.bl b)) := ped_of pe_bl (sd_c fun _ => by simp only [Den])
theorem d_non {j pos} : PED X g (.Constant .none j pos) (dC .non) := ped_of pe_non (sd_c fun _ => by simp only [Den])
theorem d_str {x j pos} : PED X g (.Constant (.str x) j pos) (dC (.str x)) := ped_of pe_str (sd_c fun _ => by simp only [Den])

/-! ### operators -/
def dOp (o : F2) (ta tb : TED) : TED := fun env Q => ta env fun x => tb env fun y => o x y Q
theorem sd_op {K : PySem.W.Frag} {ra rb : TE} {r : R2} (ha : SE K g ra ta) (hb : SE K g rb tb)
    (hr : ∀ (H : Hp) (x y : V) (dx dy : D) (Qd : D → Prop) (Q : VK), g.I.ok H → Den K g.I.own H x dx → Den K g.I.own H y dy → o dx dy Qd → (∀ v d H', Ext g.I H H' → Den K g.I.own H' v d → Qd d → Q v H') → r x y H Q) :
    SE K g (tOp r ra rb) (dOp o ta tb) := fun b0 σ H env Qd Q hd xl h k =>
  ha b0 σ H env _ _ hd xl h fun x dx H1 e1 dnx h1 => hb b0 σ H1 env _ _ (hd.mono e1) xl h1 fun y dy H2 e2 dny h2 =>
    hr H2 x y dx dy Qd Q e2.2 (Den.keep e2.1 _ _ dnx) dny h2 fun v d H' e3 dn q => k v d H' (e1.trans (e2.trans e3)) dn q
theorem d_op {op : Operator} (hr : RD X g.I (binaryOp op) o) (ha : PED X g a ta) (hb : PED X g b tb) : PED X g (.BinOp a op b pos) (dOp o ta tb) :=
  ped_of (pe_op or_w pe_w pe_w) (sd_op ha hb hr)
theorem d_cmp {op : CmpOp} (hr : RD X g.I (compareOp op) o) (ha : PED X g a ta) (hb : PED X g b tb) (hm : behindInMarks op b = false) : PED X g (.Compare a [op] [b] pos) (dOp o ta tb) :=
  ped_of (pe_cmpR or_w pe_w pe_w hm) (sd_op ha hb hr)
def dTest (td : TED) : TTD := fun env Q => td env fun d => ∃ c, d = .bl c ∧ Q c
theorem st_test {K : PySem.W.Frag} {te : TE} (h : SE K g te td) : ST K g (tTest te) (dTest td) := fun b0 σ H env Qd Q hd xl ht k =>
  h b0 σ H env _ _ hd xl ht fun v d H' e dn ⟨c, ed, q⟩ => by
    subst ed
    simp only [Den] at dn
    exact ⟨c, dn, k c H' e q⟩
theorem dt_cmp {op : CmpOp} (hr : RD X g.I (compareOp op) o) (ha : PED X g a ta) (hb : PED X g b tb) (hm : behindInMarks op b = false) : PTD X g (.Compare a [op] [b] pos) (dTest (dOp o ta tb)) :=
  ptd_of (pt_cmpR or_w pe_w pe_w hm) (st_test (sd_op ha hb hr))
/-- rules by the shape of the two values -/
theorem rd_of {r : R2} (ho : OpR X f r) (h : ∀ (H : Hp) (x y : V) (dx dy : D) (Qd : D → Prop) (Q : VK), I.ok H → Den X.K I.own H x dx → Den X.K I.own H y dy → o dx dy Qd → (∀ v d H', Ext I H H' → Den X.K I.own H' v d → Qd d → Q v H') → r x y H Q) : RD X I f o :=
  fun H x y dx dy Qd Q ok hx hy hg k => rw2_of ho (h H x y dx dy Qd Q ok hx hy hg k)
/-- ints in, under C, and a value out -/
def fI (C : Int → Int → Prop) (h : Int → Int → D) : F2 := fun x y Q => ∃ i j, x = .int i ∧ y = .int j ∧ C i j ∧ Q (h i j)
def fI0 (h : Int → Int → D) : F2 := fun x y Q => ∃ i j, x = .int i ∧ y = .int j ∧ Q (h i j)
theorem rd_I {C : Int → Int → Prop} {gv : Int → Int → V} {h : Int → Int → D} (ho : OpR X f (rI C gv)) (hg : ∀ i j H, Den X.K I.own H (gv i j) (h i j)) : RD X I f (fI C h) :=
  rd_of ho fun H x y dx dy Qd Q ok hx hy ⟨i, j, e1, e2, c, q⟩ k => by
    subst e1 e2
    simp only [Den] at hx hy
    exact ⟨i, j, hx, hy, c, k _ _ H (.refl ok) (hg i j H) q⟩
theorem rd_I0 {gv : Int → Int → V} {h : Int → Int → D} (ho : OpR X f (rI0 gv)) (hg : ∀ i j H, Den X.K I.own H (gv i j) (h i j)) : RD X I f (fI0 h) :=
  rd_of ho fun H x y dx dy Qd Q ok hx hy ⟨i, j, e1, e2, q⟩ k => by
    subst e1 e2
    simp only [Den] at hx hy
    exact ⟨i, j, hx, hy, k _ _ H (.refl ok) (hg i j H) q⟩
abbrev fSub : F2 := fI0 fun i j => .int (i - j)
abbrev fMul : F2 := fI CMulW fun i j => .int (i * j)
abbrev fDiv : F2 := fI CDivW fun i j => .int (i / j)
abbrev fMod : F2 := fI (fun _ j => 0 < j) fun i j => .int (i % j)
abbrev fPow : F2 := fI CPow fun i j => .int (i ^ j.toNat)
theorem r_sub : RD X I (binaryOp .Sub) fSub := rd_I0 op_sub fun _ _ _ => by simp only [Den]
theorem r_mul : RD X I (binaryOp .Mult) fMul := rd_I op_mulW fun _ _ _ => by simp only [Den]
theorem r_div : RD X I (binaryOp .FloorDiv) fDiv := rd_I op_fdivW fun _ _ _ => by simp only [Den]
theorem r_mod : RD X I (binaryOp .Mod) fMod := rd_I op_mod fun _ _ _ => by simp only [Den]
theorem r_pow : RD X I (binaryOp .Pow) fPow := rd_I op_pow fun _ _ _ => by simp only [Den]
/-- + of ints, texts, tuples, lists -/
def fAdd : F2 := fun x y Q => match x, y with
  | .int i, .int j => Q (.int (i + j))
  | .str i, .str j => i.length + j.length ≤ sizeLine ∧ Q (.str (i ++ j))
  | .tup xs, .tup ys => xs.length + ys.length ≤ sizeLine ∧ Q (.tup (xs ++ ys))
  | .lst xs, .lst ys => xs.length + ys.length ≤ sizeLine ∧ Q (.lst (xs ++ ys))
  | _, _ => False
theorem r_add : RD X I (binaryOp .Add) fAdd := fun H x y dx dy Qd Q ok hx hy h k => by
  cases dx <;> cases dy <;> simp only [fAdd] at h
  case int.int i j =>
    simp only [Den] at hx hy
    exact rw2_of op_add ⟨i, j, hx, hy, k _ _ H (.refl ok) (by simp only [Den]) h⟩
  case str.str i j =>
    simp only [Den] at hx hy
    exact rw2_of op_add_str ⟨i, j, hx, hy, h.1, k _ _ H (.refl ok) (by simp only [Den]) h.2⟩
  case tup.tup xs ys =>
    have hx' := hx
    have hy' := hy
    simp only [Den] at hx hy
    obtain ⟨a, vs, rfl, s1, n1, r1⟩ := hx
    obtain ⟨b, ws, rfl, s2, n2, r2⟩ := hy
    refine rw2_of op_catA ⟨a, b, vs, ws, rfl, rfl, s1, s2, by rw [r1.len, r2.len]; exact h.1, fun e => ?_, fun e e2 => ?_, fun _ _ p hp => ?_⟩
    · have : xs = [] := by rw [← List.length_eq_zero_iff, ← r1.len, e]; rfl
      subst this
      exact k _ _ H (.refl ok) hy' h.2
    · have : ys = [] := by rw [← List.length_eq_zero_iff, ← r2.len, e2]; rfl
      subst this
      exact k _ _ H (.refl ok) hx' (by simpa using h.2)
    · refine k _ _ _ (.new ok hp) ?_ h.2
      have kk : Kp I.own H (upd H p (.tup (vs ++ ws))) := Kp.new hp
      simp only [Den]
      exact ⟨p, _, rfl, SqT.of upd_same, .inl ⟨HI.nown ok hp, upd_same⟩, DenA.app (DenA.keep kk _ _ r1) (DenA.keep kk _ _ r2)⟩
  case lst.lst xs ys =>
    simp only [Den] at hx hy
    obtain ⟨a, vs, rfl, s1, n1, r1⟩ := hx
    obtain ⟨b, ws, rfl, s2, n2, r2⟩ := hy
    refine rw2_of op_cat ⟨a, b, vs, ws, rfl, rfl, s1, s2, by rw [r1.len, r2.len]; exact h.1, fun p hp => ?_⟩
    refine k _ _ _ (.new ok hp) ?_ h.2
    have kk : Kp I.own H (upd H p (.lst (vs ++ ws))) := Kp.new hp
    simp only [Den]
    exact ⟨p, _, rfl, upd_same, HI.nown ok hp, DenA.app (DenA.keep kk _ _ r1) (DenA.keep kk _ _ r2)⟩
end
end Dl
namespace Dl
open PySem PySem.Spec PyProof.Rows L2

/-! ### data -/
mutual
def D.py : D → PyData
  | .obj _ _ _ => .none | .non => .none | .bl b => .bool b | .int i => .int i | .str x => .str x | .tup xs => .tuple (pyA xs) | .lst xs => .list (pyA xs) | .ref _ => .none | .ty _ => .none
def pyA : List D → List PyData
  | [] => []
  | x :: xs => D.py x :: pyA xs
end
mutual
def D.good : D → Bool
  | .obj _ _ _ => false | .ref _ => false | .ty _ => false | .str x => PyData.strOk x | .tup xs => goodA xs | .lst xs => goodA xs | .non => true | .bl _ => true | .int _ => true
def goodA : List D → Bool
  | [] => true
  | x :: xs => D.good x && goodA xs
end
mutual
def D.dep : D → Nat
  | .obj _ _ _ => 0 | .tup xs => depA xs + 1 | .lst xs => depA xs + 1 | .non => 0 | .bl _ => 0 | .int _ => 0 | .str _ => 0 | .ref _ => 0 | .ty _ => 0
def depA : List D → Nat
  | [] => 0
  | x :: xs => max (D.dep x) (depA xs)
end
mutual
theorem py_can : ∀ d : D, d.good = true → d.py.canLay0 = true
  | .non, _ => rfl
  | .bl _, _ => rfl
  | .int _, _ => rfl
  | .str x, h => by simpa only [D.py, PyData.canLay0, D.good] using h
  | .tup xs, h => by simp only [D.py, PyData.canLay0]; exact pyA_can xs (by simpa only [D.good] using h)
  | .lst xs, h => by simp only [D.py, PyData.canLay0]; exact pyA_can xs (by simpa only [D.good] using h)
  | .ref _, h => by simp [D.good] at h
  | .ty _, h => by simp [D.good] at h
  | .obj _ _ _, h => by simp [D.good] at h
theorem pyA_can : ∀ ds : List D, goodA ds = true → PyData.canLayAll0 (pyA ds) = true
  | [], _ => rfl
  | x :: xs, h => by
    simp only [goodA, Bool.and_eq_true] at h
    simp only [pyA, PyData.canLayAll0, Bool.and_eq_true]
    exact ⟨py_can x h.1, pyA_can xs h.2⟩
end
mutual
theorem py_dep : ∀ d : D, d.py.depth = d.dep
  | .non => rfl
  | .bl _ => rfl
  | .int _ => rfl
  | .str x => rfl
  | .tup xs => by simp only [D.py, PyData.depth, D.dep, pyA_dep xs]
  | .lst xs => by simp only [D.py, PyData.depth, D.dep, pyA_dep xs]
  | .ref _ => rfl
  | .ty _ => rfl
  | .obj _ _ _ => rfl
theorem pyA_dep : ∀ ds : List D, PyData.depthAll (pyA ds) = depA ds
  | [] => rfl
  | x :: xs => by simp only [pyA, PyData.depthAll, depA, py_dep x, pyA_dep xs]
end
section
variable {K : PySem.W.Frag} {Av : Addr → Prop} {H : Hp}
mutual
theorem Den.dp : ∀ (d : D) (v : V), d.good = true → Den K Av H v d → Dp K H v d.py
  | .non, v, _, h => by simp only [Den] at h; subst h; exact .non
  | .bl b, v, _, h => by simp only [Den] at h; subst h; exact .bl b
  | .int b, v, _, h => by simp only [Den] at h; subst h; exact .int b
  | .str b, v, _, h => by simp only [Den] at h; subst h; exact .str b
  | .tup ds, v, g, h => by
    simp only [Den] at h
    obtain ⟨a, vs, rfl, s, _, r⟩ := h
    exact .tup s (DenA.dp ds vs (by simpa only [D.good] using g) r)
  | .lst ds, v, g, h => by
    simp only [Den] at h
    obtain ⟨a, vs, rfl, s, _, r⟩ := h
    exact .lst (SqL.of s) (DenA.dp ds vs (by simpa only [D.good] using g) r)
  | .ref _, _, g, _ => by simp [D.good] at g
  | .ty _, _, g, _ => by simp [D.good] at g
  | .obj _ _ _, _, g, _ => by simp [D.good] at g
theorem DenA.dp : ∀ (ds : List D) (vs : List V), goodA ds = true → DenA K Av H vs ds → DpAll K H vs (pyA ds)
  | [], vs, _, h => by simp only [DenA] at h; subst h; exact .nil
  | d :: ds, vs, g, h => by
    simp only [goodA, Bool.and_eq_true] at g
    simp only [DenA] at h
    obtain ⟨v, r, rfl, h1, h2⟩ := h
    exact .cons (Den.dp d v g.1 h1) (DenA.dp ds r g.2 h2)
end
end
/-- data that may be compared -/
def okD (d : D) : Prop := d.good = true ∧ d.dep ≤ 60
theorem okD.shaped {d : D} (h : okD d) : SeqAt.shaped d.py = true := by
  unfold SeqAt.shaped
  rw [py_can d h.1, py_dep d, decide_eq_true (by have := h.2; omega)]; rfl
def eqD (x y : D) : Bool := PyData.eqv x.py y.py
def anyD (xs : List D) (x : D) : Bool := xs.any fun z => eqD z x
theorem anyD_py (x : D) : ∀ xs : List D, (pyA xs).any (fun z => PyData.eqv z x.py) = anyD xs x
  | [] => rfl
  | y :: ys => by
    show (PyData.eqv y.py x.py || (pyA ys).any fun z => PyData.eqv z x.py) = (eqD y x || anyD ys x)
    rw [anyD_py x ys]; rfl
def xr (neg b : Bool) : Bool := if neg = true then !b else b

section
variable {X : Cx} {I : HI} {g : Gx} {e a b c : Expr} {es : List Expr} {te : TE} {tt : TT} {td ta tb tc : TED} {t u : TTD} {pos : Pos} {f : Value → Value → Sem Value} {o : F2}
def fEq (neg : Bool) : F2 := fun x y Q => okD x ∧ okD y ∧ Q (.bl (xr neg (eqD x y)))
theorem r_eq (hu : X.A.units + 64 < cLine) : RD X I (compareOp .Eq) (fEq false) := fun H x y dx dy Qd Q ok hx hy ⟨h1, h2, h⟩ k =>
  rw2_of (op_eqD hu) ⟨_, _, Den.dp dx x h1.1 hx, Den.dp dy y h2.1 hy, h1.shaped, h2.shaped, k _ _ H (.refl ok) (by simp only [Den]; rfl) h⟩
theorem r_ne (hu : X.A.units + 64 < cLine) : RD X I (compareOp .NotEq) (fEq true) := fun H x y dx dy Qd Q ok hx hy ⟨h1, h2, h⟩ k =>
  rw2_of (op_neD hu) ⟨_, _, Den.dp dx x h1.1 hx, Den.dp dy y h2.1 hy, h1.shaped, h2.shaped, k _ _ H (.refl ok) (by simp only [Den]; rfl) h⟩
/-- x in a tuple, a list, a text -/
def occ (x y : Str) : Bool := !(Builtin.Str.occurrences y x 0 y.length 1).isEmpty
def fIn (neg : Bool) : F2 := fun x y Q => match y with
  | .tup ys => okD x ∧ okD (.tup ys) ∧ Q (.bl (xr neg (anyD ys x)))
  | .lst ys => okD x ∧ okD (.lst ys) ∧ Q (.bl (xr neg (anyD ys x)))
  | .str t => ∃ s, x = .str s ∧ Q (.bl (xr neg (occ s t)))
  | _ => False
theorem room_in {A : Around} {d : D} {ds : List D} (h : okD d) (hu : A.units + 64 < cLine) : A.units + 1 + min (PyData.depthAll (pyA ds)) d.py.depth < cLine := by
  rw [py_dep d]
  have := h.2
  omega
def rInT (K : PySem.W.Frag) (neg : Bool) : R2 := fun x y H Q => ∃ (d : D) (ds : List D), okD d ∧ okD (.tup ds) ∧ Dp K H x d.py ∧ Dp K H y (.tuple (pyA ds)) ∧ Q (.bl (xr neg (anyD ds d))) H
theorem op_inT (hu : X.A.units + 64 < cLine) : OpR X (compareOp .In) (rInT X.K false) := by
  intro pins s σ H x y v u Q J rx ry ⟨d, ds, h1, h2, hd, he, q⟩
  obtain ⟨as, r1⟩ := Dp.reads J d.py x v hd rx
  obtain ⟨bs, r2⟩ := Dp.reads J (.tuple (pyA ds)) y u he ry
  refine SeqAt.in_tuple_reads r2 r1 (pyA_can ds (by simpa only [D.good] using h2.1)) (py_can d h1.1) (room_in h1 hu) ⟨.bl _, H, J, rfl, ?_⟩
  rw [anyD_py]; exact q
theorem op_notInT (hu : X.A.units + 64 < cLine) : OpR X (compareOp .NotIn) (rInT X.K true) := by
  intro pins s σ H x y v u Q J rx ry ⟨d, ds, h1, h2, hd, he, q⟩
  obtain ⟨as, r1⟩ := Dp.reads J d.py x v hd rx
  obtain ⟨bs, r2⟩ := Dp.reads J (.tuple (pyA ds)) y u he ry
  refine SeqAt.notIn_tuple_reads r2 r1 (pyA_can ds (by simpa only [D.good] using h2.1)) (py_can d h1.1) (room_in h1 hu) ⟨.bl _, H, J, rfl, ?_⟩
  rw [anyD_py]; exact q
theorem r_in (hu : X.A.units + 65 < cLine) : RD X I (compareOp .In) (fIn false) := fun H x y dx dy Qd Q ok hx hy h k => by
  cases dy <;> simp only [fIn] at h
  case tup ys =>
    obtain ⟨h1, h2, h⟩ := h
    have hy' := Den.dp _ y h2.1 hy
    simp only [D.py] at hy'
    exact rw2_of (op_inT (by omega)) ⟨dx, ys, h1, h2, Den.dp dx x h1.1 hx, hy', k _ _ H (.refl ok) (by simp only [Den]) h⟩
  case lst ys =>
    obtain ⟨h1, h2, h⟩ := h
    have hy' := Den.dp _ y h2.1 hy
    have s2 := h2.shaped
    simp only [D.py] at hy' s2
    refine rw2_of (op_inD hu) ⟨_, _, Den.dp dx x h1.1 hx, hy', h1.shaped, s2, ?_⟩
    rw [anyD_py]
    exact k _ _ H (.refl ok) (by simp only [Den]; rfl) h
  case str t =>
    obtain ⟨s, rfl, h⟩ := h
    simp only [Den] at hx hy
    exact rw2_of op_in_str ⟨s, t, hx, hy, k _ _ H (.refl ok) (by simp only [Den]; rfl) h⟩
theorem r_nin (hu : X.A.units + 65 < cLine) : RD X I (compareOp .NotIn) (fIn true) := fun H x y dx dy Qd Q ok hx hy h k => by
  cases dy <;> simp only [fIn] at h
  case tup ys =>
    obtain ⟨h1, h2, h⟩ := h
    have hy' := Den.dp _ y h2.1 hy
    simp only [D.py] at hy'
    exact rw2_of (op_notInT (by omega)) ⟨dx, ys, h1, h2, Den.dp dx x h1.1 hx, hy', k _ _ H (.refl ok) (by simp only [Den]) h⟩
  case lst ys =>
    obtain ⟨h1, h2, h⟩ := h
    have hy' := Den.dp _ y h2.1 hy
    have s2 := h2.shaped
    simp only [D.py] at hy' s2
    refine rw2_of (op_notInD hu) ⟨_, _, Den.dp dx x h1.1 hx, hy', h1.shaped, s2, ?_⟩
    rw [anyD_py]
    exact k _ _ H (.refl ok) (by simp only [Den]; rfl) h
  case str t =>
    obtain ⟨s, rfl, h⟩ := h
    simp only [Den] at hx hy
    exact rw2_of op_notIn_str ⟨s, t, hx, hy, k _ _ H (.refl ok) (by simp only [Den]; rfl) h⟩
/-- order of ints, of tuples of ints -/
def fOrd (p : Int → Int → Bool) (q : List Int → List Int → Bool) : F2 := fun x y Q =>
  (∃ i j, x = .int i ∧ y = .int j ∧ Q (.bl (p i j))) ∨ ∃ ns ms : List Int, x = .tup (ns.map D.int) ∧ y = .tup (ms.map D.int) ∧ Q (.bl (q ns ms))
abbrev fLt : F2 := fOrd (fun i j => decide (i < j)) HT.lexLt
abbrev fGt : F2 := fI0 fun i j => .bl (decide (j < i))
abbrev fLe : F2 := fI0 fun i j => .bl (decide (i ≤ j))
abbrev fGe : F2 := fI0 fun i j => .bl (decide (j ≤ i))
theorem r_lt (hu : X.A.units < cLine) : RD X I (compareOp .Lt) fLt := fun H x y dx dy Qd Q ok hx hy h k => by
  rcases h with ⟨i, j, rfl, rfl, h⟩ | ⟨ns, ms, rfl, rfl, h⟩
  · simp only [Den] at hx hy
    exact rw2_of op_lt ⟨i, j, hx, hy, k _ _ H (.refl ok) (by simp only [Den]) h⟩
  · simp only [Den] at hx hy
    obtain ⟨a, vs, rfl, s1, n1, r1⟩ := hx
    obtain ⟨b, ws, rfl, s2, n2, r2⟩ := hy
    have e1 := r1.ofInts
    have e2 := r2.ofInts
    subst e1 e2
    exact rw2_of (op_ltT hu) ⟨a, b, ns, ms, rfl, rfl, s1, s2, k _ _ H (.refl ok) (by simp only [Den]) h⟩
theorem r_gt : RD X I (compareOp .Gt) fGt := rd_I0 op_gt fun _ _ _ => by simp only [Den]
theorem r_le : RD X I (compareOp .LtE) fLe := rd_I0 op_le fun _ _ _ => by simp only [Den]
theorem r_ge : RD X I (compareOp .GtE) fGe := rd_I0 op_ge fun _ _ _ => by simp only [Den]
/-- is None, is True, is False -/
def isN : D → Bool
  | .non => true
  | _ => false
theorem isN_den {K : PySem.W.Frag} {Av : Addr → Prop} {H : Hp} {v : V} {d : D} (h : Den K Av H v d) : decide (v = .non) = isN d := by
  cases d <;> simp only [Den] at h
  all_goals first
    | (subst h; rfl)
    | (obtain ⟨a, vs, rfl, _⟩ := h; rfl)
    | (rename_i q _ _; obtain ⟨ws, _, o, _⟩ := h; cases q <;> first | (obtain ⟨rfl, _⟩ := o; rfl) | (obtain ⟨a, rfl, _⟩ := o; rfl) | (obtain ⟨a, dd, rfl, _⟩ := o; rfl))
def fIs (neg : Bool) : F2 := fun x y Q => match y with
  | .non => Q (.bl (xr neg (isN x)))
  | .bl b => ∃ a, x = .bl a ∧ Q (.bl (xr neg (decide (a = b))))
  | _ => False
theorem r_is : RD X I (compareOp .Is) (fIs false) := fun H x y dx dy Qd Q ok hx hy h k => by
  cases dy <;> simp only [fIs] at h
  case non =>
    simp only [Den] at hy
    refine rw2_of op_isN ⟨hy, ?_⟩
    rw [isN_den hx]
    exact k _ _ H (.refl ok) (by simp only [Den]; rfl) h
  case bl b =>
    obtain ⟨a, rfl, h⟩ := h
    simp only [Den] at hx hy
    exact rw2_of op_is_bl ⟨a, b, hx, hy, k _ _ H (.refl ok) (by simp only [Den]; rfl) h⟩
theorem r_isnot : RD X I (compareOp .IsNot) (fIs true) := fun H x y dx dy Qd Q ok hx hy h k => by
  cases dy <;> simp only [fIs] at h
  case non =>
    simp only [Den] at hy
    refine rw2_of op_notN ⟨hy, ?_⟩
    rw [isN_den hx]
    exact k _ _ H (.refl ok) (by simp only [Den]; rfl) h
  case bl b =>
    obtain ⟨a, rfl, h⟩ := h
    simp only [Den] at hx hy
    exact rw2_of op_isnot_bl ⟨a, b, hx, hy, k _ _ H (.refl ok) (by simp only [Den]; rfl) h⟩
def fUn (h : Int → Int) : D → (D → Prop) → Prop := fun x Q => ∃ i, x = .int i ∧ Q (.int (h i))
def dUn (r : D → (D → Prop) → Prop) (ta : TED) : TED := fun env Q => ta env fun x => r x Q
theorem d_neg (ha : PED X g a ta) : PED X g (.UnaryOp .USub a pos) (dUn (fUn fun i => -i) ta) :=
  ped_of (pe_un un_neg pe_w) fun b0 σ H env Qd Q hd xl h k => ha b0 σ H env _ _ hd xl h fun v d H1 e1 dn ⟨i, ed, q⟩ => by
    subst ed
    simp only [Den] at dn
    exact ⟨i, dn, k _ _ H1 e1 (by simp only [Den]) q⟩

/-! ### and, or, not -/
def dAnd (t u : TTD) : TTD := fun env Q => t env fun c => if c = true then u env Q else Q false
def dOr (t u : TTD) : TTD := fun env Q => t env fun c => if c = true then Q true else u env Q
def dNot (t : TTD) : TTD := fun env Q => t env fun c => Q (!c)
theorem dt_and1 (ha : PTD X g a t) : PWD X g (.BoolOp .And [a] pos) t := pwd_of (pw_and1 pt_w) ha
theorem dt_or1 (ha : PTD X g a t) : PWD X g (.BoolOp .Or [a] pos) t := pwd_of (pw_or1 pt_w) ha
theorem st_and {K : PySem.W.Frag} {ta tb : TT} (ha : ST K g ta t) (hb : ST K g tb u) : ST K g (tAnd ta tb) (dAnd t u) := fun b0 σ H env Qd Q hd xl h k =>
  ha b0 σ H env _ _ hd xl h fun c H1 e1 h1 => by
    cases c with
    | true => rw [if_pos rfl] at h1 ⊢; exact hb b0 σ H1 env _ _ (hd.mono e1) xl h1 fun c' H2 e2 q => k c' H2 (e1.trans e2) q
    | false => rw [if_neg Bool.false_ne_true] at h1 ⊢; exact k false H1 e1 h1
theorem st_or {K : PySem.W.Frag} {ta tb : TT} (ha : ST K g ta t) (hb : ST K g tb u) : ST K g (tOr ta tb) (dOr t u) := fun b0 σ H env Qd Q hd xl h k =>
  ha b0 σ H env _ _ hd xl h fun c H1 e1 h1 => by
    cases c with
    | false => rw [if_neg Bool.false_ne_true] at h1 ⊢; exact hb b0 σ H1 env _ _ (hd.mono e1) xl h1 fun c' H2 e2 q => k c' H2 (e1.trans e2) q
    | true => rw [if_pos rfl] at h1 ⊢; exact k true H1 e1 h1
theorem dt_and {rest : List Expr} (ha : PTD X g a t) (hb : PWD X g (.BoolOp .And (b :: rest) pos) u) : PWD X g (.BoolOp .And (a :: b :: rest) pos) (dAnd t u) := pwd_of (pw_and pt_w pw_w) (st_and ha hb)
theorem dt_or {rest : List Expr} (ha : PTD X g a t) (hb : PWD X g (.BoolOp .Or (b :: rest) pos) u) : PWD X g (.BoolOp .Or (a :: b :: rest) pos) (dOr t u) := pwd_of (pw_or pt_w pw_w) (st_or ha hb)
theorem dt_not (ha : PTD X g a t) : PTD X g (.UnaryOp .Not a pos) (dNot t) := ptd_of (pt_not pt_w) fun b0 σ H env Qd Q hd xl h k => ha b0 σ H env _ _ hd xl h fun c H1 e1 q => k _ H1 e1 q
/-- .. as values, bools -/
def dAndV (ta tb : TED) : TED := fun env Q => ta env fun x => ∃ c, x = .bl c ∧ if c = true then tb env Q else Q (.bl false)
def dOrV (ta tb : TED) : TED := fun env Q => ta env fun x => ∃ c, x = .bl c ∧ if c = true then Q (.bl true) else tb env Q
def dNotV (ta : TED) : TED := fun env Q => ta env fun x => ∃ c, x = .bl c ∧ Q (.bl (!c))
theorem d_one {op} (h : PED X g a ta) : PED X g (.BoolOp op [a] pos) ta := ped_of (pe_one pe_w) h
theorem d_and {rest : List Expr} (ha : PED X g a ta) (hb : PED X g (.BoolOp .And (b :: rest) pos) tb) : PED X g (.BoolOp .And (a :: b :: rest) pos) (dAndV ta tb) :=
  ped_of (pe_and pe_w pe_w) fun b0 σ H env Qd Q hd xl h k => ha b0 σ H env _ _ hd xl h fun v d H1 e1 dn ⟨c, ed, h1⟩ => by
    subst ed
    simp only [Den] at dn
    refine ⟨c, dn, ?_⟩
    cases c with
    | true => rw [if_pos rfl] at h1 ⊢; exact hb b0 σ H1 env _ _ (hd.mono e1) xl h1 fun v' d' H2 e2 dn' q => k v' d' H2 (e1.trans e2) dn' q
    | false => rw [if_neg Bool.false_ne_true] at h1 ⊢; exact k _ _ H1 e1 (by simp only [Den]) h1
theorem d_or {rest : List Expr} (ha : PED X g a ta) (hb : PED X g (.BoolOp .Or (b :: rest) pos) tb) : PED X g (.BoolOp .Or (a :: b :: rest) pos) (dOrV ta tb) :=
  ped_of (pe_or pe_w pe_w) fun b0 σ H env Qd Q hd xl h k => ha b0 σ H env _ _ hd xl h fun v d H1 e1 dn ⟨c, ed, h1⟩ => by
    subst ed
    simp only [Den] at dn
    refine ⟨c, dn, ?_⟩
    cases c with
    | false => rw [if_neg Bool.false_ne_true] at h1 ⊢; exact hb b0 σ H1 env _ _ (hd.mono e1) xl h1 fun v' d' H2 e2 dn' q => k v' d' H2 (e1.trans e2) dn' q
    | true => rw [if_pos rfl] at h1 ⊢; exact k _ _ H1 e1 (by simp only [Den]) h1
theorem d_not (ha : PED X g a ta) : PED X g (.UnaryOp .Not a pos) (dNotV ta) :=
  ped_of (pe_not pe_w) fun b0 σ H env Qd Q hd xl h k => ha b0 σ H env _ _ hd xl h fun v d H1 e1 dn ⟨c, ed, h1⟩ => by
    subst ed
    simp only [Den] at dn
    exact ⟨c, dn, k _ _ H1 e1 (by simp only [Den]) h1⟩
def dIf (t : TTD) (ta tb : TED) : TED := fun env Q => t env fun c => if c = true then ta env Q else tb env Q
theorem d_ifExp (hc : PTD X g c t) (ha : PED X g a ta) (hb : PED X g b tb) : PED X g (.IfExp c a b pos) (dIf t ta tb) :=
  ped_of (pe_ifExp pt_w pe_w pe_w) fun b0 σ H env Qd Q hd xl h k => hc b0 σ H env _ _ hd xl h fun c H1 e1 h1 => by
    cases c with
    | true => rw [if_pos rfl] at h1 ⊢; exact ha b0 σ H1 env _ _ (hd.mono e1) xl h1 fun v' d' H2 e2 dn' q => k v' d' H2 (e1.trans e2) dn' q
    | false => rw [if_neg Bool.false_ne_true] at h1 ⊢; exact hb b0 σ H1 env _ _ (hd.mono e1) xl h1 fun v' d' H2 e2 dn' q => k v' d' H2 (e1.trans e2) dn' q
/-- truth -/
def truD (d : D) (k : Bool) : Prop := match d with
  | .non => k = false
  | .bl b => k = b
  | .int i => k = (i != 0)
  | .str y => y.length ≤ sizeLine ∧ k = ((y.length : Int) != 0)
  | .tup xs => k = !xs.isEmpty
  | .lst xs => k = !xs.isEmpty
  | _ => False
theorem isEmpty_len {α β : Type} {xs : List α} {ys : List β} (h : xs.length = ys.length) : xs.isEmpty = ys.isEmpty := by
  cases xs <;> cases ys <;> simp_all
def dTru (td : TED) : TTD := fun env Q => td env fun d => ∃ k, truD d k ∧ Q k
theorem dt_tru (h : PED X g a td) (he : ∀ whole, isTrue a X.env whole = (do let v ← whole; standAt a.pos; holding [v] (truthy v)) := by intro _; rfl) : PTD X g a (dTru td) :=
  ptd_of (pt_truth pe_w he) fun b0 σ H env Qd Q hd xl h' k => h b0 σ H env _ _ hd xl h' fun v d H1 e1 dn ⟨b, hb, q⟩ => by
    refine ⟨b, ?_, k b H1 e1 q⟩
    cases d <;> simp only [truD] at hb <;> simp only [Den] at dn
    case non => subst dn; exact hb
    case bl => subst dn; exact hb
    case int => subst dn; exact hb
    case str => subst dn; exact hb
    case tup xs =>
      obtain ⟨a, vs, rfl, s, _, r⟩ := dn
      exact .inr (.inl ⟨vs, s, by rw [hb, isEmpty_len r.len]⟩)
    case lst xs =>
      obtain ⟨a, vs, rfl, s, _, r⟩ := dn
      exact .inl ⟨vs, SqL.of s, by rw [hb, isEmpty_len r.len]⟩
/-- a bool as a test -/
def dB (td : TED) : TTD := fun env Q => td env fun d => ∃ c, d = .bl c ∧ Q c
theorem dt_val (h : PED X g a td) (he : ∀ whole, isTrue a X.env whole = (do let v ← whole; standAt a.pos; holding [v] (truthy v)) := by intro _; rfl) : PTD X g a (dB td) :=
  ptd_of (pt_val pe_w he) fun b0 σ H env Qd Q hd xl h' k => h b0 σ H env _ _ hd xl h' fun v d H1 e1 dn ⟨c, ed, q⟩ => by
    subst ed
    simp only [Den] at dn
    exact ⟨c, dn, k c H1 e1 q⟩

/-! ### displays -/
def dNil : TAD := fun _ Q => Q []
def dCons (td : TED) (tr : TAD) : TAD := fun env Q => td env fun x => tr env fun xs => Q (x :: xs)
theorem da_nil : PAD X g [] dNil := pad_of pa_nil fun b0 σ H env Qd Q hd xl h k => k [] [] H (.refl hd.ok) (by simp only [DenA]) h
theorem da_cons {tr : TAD} (he : PED X g e td) (ht : PAD X g es tr) (hs : starEach (e :: es) X.env = (false, eval e X.env) :: starEach es X.env := by rfl) : PAD X g (e :: es) (dCons td tr) :=
  pad_of (pa_cons pe_w pa_w hs) fun b0 σ H env Qd Q hd xl h k => he b0 σ H env _ _ hd xl h fun v d H1 e1 dn h1 => ht b0 σ H1 env _ _ (hd.mono e1) xl h1 fun vs ds H2 e2 dn2 q =>
    k (v :: vs) (d :: ds) H2 (e1.trans e2) (by simp only [DenA]; exact ⟨v, vs, rfl, Den.keep e2.1 _ _ dn, dn2⟩) q
def dTup (ta : TAD) : TED := fun env Q => ta env fun xs => xs.length ≤ sizeLine ∧ Q (.tup xs)
def dLst (ta : TAD) : TED := fun env Q => ta env fun xs => xs.length ≤ sizeLine ∧ Q (.lst xs)
theorem new_tup {K : PySem.W.Frag} {H : Hp} {p : Addr} {vs : List V} {ds : List D} (ok : I.ok H) (hp : H p = none) (h : DenA K I.own H vs ds) : Den K I.own (upd H p (.tup vs)) (.ref p) (.tup ds) := by
  simp only [Den]
  exact ⟨p, vs, rfl, SqT.of upd_same, .inl ⟨HI.nown ok hp, upd_same⟩, DenA.keep (Kp.new hp) _ _ h⟩
theorem new_lst {K : PySem.W.Frag} {H : Hp} {p : Addr} {vs : List V} {ds : List D} (ok : I.ok H) (hp : H p = none) (h : DenA K I.own H vs ds) : Den K I.own (upd H p (.lst vs)) (.ref p) (.lst ds) := by
  simp only [Den]
  exact ⟨p, vs, rfl, upd_same, HI.nown ok hp, DenA.keep (Kp.new hp) _ _ h⟩
theorem d_tup {x1} {tas : TAD} (h : PAD X g es tas) : PED X g (.Tuple es x1 pos) (dTup tas) :=
  ped_of (pe_tup pa_w) fun b0 σ H env Qd Q hd xl hq k => h b0 σ H env _ _ hd xl hq fun vs ds H1 e1 dn ⟨z, q⟩ =>
    ⟨by rw [dn.len]; exact z, fun p hp => k _ _ _ (e1.trans (.new e1.2 hp)) (new_tup e1.2 hp dn) q⟩
theorem d_lst {tas : TAD} (h : PAD X g es tas) : PED X g (.List es pos) (dLst tas) :=
  ped_of (pe_lst pa_w) fun b0 σ H env Qd Q hd xl hq k => h b0 σ H env _ _ hd xl hq fun vs ds H1 e1 dn ⟨z, q⟩ =>
    ⟨by rw [dn.len]; exact z, fun p hp => k _ _ _ (e1.trans (.new e1.2 hp)) (new_lst e1.2 hp dn) q⟩

/-! ### subscripts -/
def fIx : F2 := fun x y Q => ∃ i : Int, y = .int i ∧ match x with
  | .tup xs => ∃ d, atI xs i = some d ∧ Q d
  | .lst xs => ∃ d, atI xs i = some d ∧ Q d
  | .str z => z.length ≤ sizeLine ∧ ∃ c, atI z.cps.toList i = some c ∧ Q (.str ⟨#[c]⟩)
  | _ => False
theorem atI_den {K : PySem.W.Frag} {Av : Addr → Prop} {H : Hp} {vs : List V} {ds : List D} {i : Int} {d : D} (h : DenA K Av H vs ds) (e : atI ds i = some d) : ∃ v, atI vs i = some v ∧ Den K Av H v d := by
  unfold atI at e ⊢
  rw [h.len]
  cases q : ixN ds.length i with
  | none => rw [q] at e; cases e
  | some j =>
    rw [q] at e
    exact h.get e
theorem d_ix (ha : PED X g a ta) (hb : PED X g b tb) (hs : PlainIx b := by intro _ _; rfl) : PED X g (.Subscript a b pos) (dOp fIx ta tb) :=
  ped_of (pe_ix ix_seq pe_w pe_w hs) (sd_op ha hb fun H x y dx dy Qd Q ok hx hy hh k => by
    obtain ⟨i, ey, h⟩ := hh
    subst ey
    simp only [Den] at hy
    cases dx <;> simp only at h
    case tup xs =>
      obtain ⟨d, e, q⟩ := h
      simp only [Den] at hx
      obtain ⟨a, vs, rfl, s1, n1, r1⟩ := hx
      obtain ⟨v, e2, dn⟩ := atI_den r1 e
      exact .inr (.inl ⟨a, vs, i, v, rfl, hy, s1, e2, k _ _ H (.refl ok) dn q⟩)
    case lst xs =>
      obtain ⟨d, e, q⟩ := h
      simp only [Den] at hx
      obtain ⟨a, vs, rfl, s1, n1, r1⟩ := hx
      obtain ⟨v, e2, dn⟩ := atI_den r1 e
      exact .inl ⟨a, vs, i, v, rfl, hy, SqL.of s1, e2, k _ _ H (.refl ok) dn q⟩
    case str z =>
      obtain ⟨z1, c, e, q⟩ := h
      simp only [Den] at hx
      exact .inr (.inr ⟨z, i, c, hx, hy, z1, e, k _ _ H (.refl ok) (by simp only [Den]) q⟩))
end
end Dl
namespace Dl
open PySem PySem.Spec PyProof.Rows L2

/-! ### slices -/
abbrev TOD := DEnv → (Option Int → Prop) → Prop
def wO (X : Cx) (e : Option Expr) : TO := fun σ H Q => ∀ pins s, Inv X pins σ H s → wpAny (model X.prog X.w) X.A (evalPart e X.env) (fun u s' => ∃ o H', Inv X pins σ H' s' ∧ IsPart u o ∧ Q o H') X.xe s
def SO (K : PySem.W.Frag) (g : Gx) (to : TO) (td : TOD) : Prop :=
  ∀ (b : B0) (σ : L2.St) (H : Hp) (env : DEnv) (Qd : Option Int → Prop) (Q : Option Int → Hp → Prop), DenE K g.I b σ H env → XL K g b → td env Qd → (∀ o H', Ext g.I H H' → Qd o → Q o H') → to σ H Q
def POD (X : Cx) (g : Gx) (e : Option Expr) (td : TOD) : Prop := SO X.K g (wO X e) td
def dNoP : TOD := fun _ Q => Q none
def dPart (td : TED) : TOD := fun env Q => td env fun x => ∃ i, x = .int i ∧ Q (some i)
def cutL {α : Type} (xs : List α) (lo hi : Option Int) : List α := (xs.drop (HT.sIx xs.length 0 lo)).take (HT.sIx xs.length xs.length hi - HT.sIx xs.length 0 lo)
def fSl : D → Option Int → Option Int → (D → Prop) → Prop := fun x lo hi Q => match x with
  | .tup xs => Q (.tup (cutL xs lo hi))
  | .lst xs => Q (.lst (cutL xs lo hi))
  | .str z => z.length ≤ sizeLine ∧ Q (.str (cutS z lo hi))
  | _ => False
def dSl (te : TED) (tl th : TOD) : TED := fun env Q => te env fun x => tl env fun lo => th env fun hi => fSl x lo hi Q
section
variable {X : Cx} {g : Gx} {e a b c : Expr} {es : List Expr} {td ta tb tc : TED} {t u : TTD} {pos : Pos} {lo hi : Option Expr} {tl th : TOD}
theorem do_none : POD X g none dNoP := fun b0 σ H env Qd Q hd xl ht k pins s J => po_none.run pins s σ H Q J (k none H (.refl hd.ok) ht)
theorem do_some (h : PED X g e td) : POD X g (some e) (dPart td) := fun b0 σ H env Qd Q hd xl ht k pins s J => (po_some pe_w).run pins s σ H Q J (h b0 σ H env _ _ hd xl ht fun v d H1 e1 dn ⟨i, ed, q⟩ => by
  subst ed
  simp only [Den] at dn
  exact ⟨i, dn, k _ H1 e1 q⟩)
theorem po_w {eo : Option Expr} : PO X eo (wO X eo) := ⟨fun pins s σ H Q I h => h pins s I⟩
theorem cut_den {K : PySem.W.Frag} {Av : Addr → Prop} {H : Hp} {vs : List V} {ds : List D} {lo hi : Option Int} (h : DenA K Av H vs ds) : DenA K Av H (cutV vs lo hi) (cutL ds lo hi) := by
  unfold cutV cutL
  rw [h.len]
  exact DenA.take _ (DenA.drop _ h)
theorem d_slice {p2 : Pos} (he : PED X g e td) (hl : POD X g lo tl) (hu : POD X g hi th) : PED X g (.Subscript e (.Slice lo hi none p2) pos) (dSl td tl th) :=
  ped_of (pe_slice (sl_list.or (sl_tupA.or sl_str)) pe_w po_w po_w) fun b0 σ H env Qd Q hd xl h k =>
    he b0 σ H env _ _ hd xl h fun v d H1 e1 dn h1 => hl b0 σ H1 env _ _ (hd.mono e1) xl h1 fun lo' H2 e2 h2 => hu b0 σ H2 env _ _ (hd.mono (e1.trans e2)) xl h2 fun hi' H3 e3 h3 => by
      replace dn := Den.keep (e2.trans e3).1 _ _ dn
      have ok := e3.2
      have ee := e1.trans (e2.trans e3)
      cases d <;> simp only [fSl] at h3 <;> simp only [Den] at dn
      case tup xs =>
        obtain ⟨a, vs, rfl, s1, n1, r1⟩ := dn
        refine .inr (.inl ⟨a, vs, rfl, s1, fun hw => k _ _ _ ee ?_ h3, fun hw p hp => k _ _ _ (ee.trans (.new ok hp)) (new_tup ok hp (cut_den r1)) h3⟩)
        have : cutL xs lo' hi' = xs := by
          unfold cutL
          rw [← r1.len, hw.1, hw.2, r1.len]
          simp
        rw [this]
        simp only [Den]
        exact ⟨a, vs, rfl, s1, n1, r1⟩
      case lst xs =>
        obtain ⟨a, vs, rfl, s1, n1, r1⟩ := dn
        exact .inl ⟨a, vs, rfl, SqL.of s1, fun p hp => k _ _ _ (ee.trans (.new ok hp)) (new_lst ok hp (cut_den r1)) h3⟩
      case str z => exact .inr (.inr ⟨z, dn, h3.1, k _ _ _ ee (by simp only [Den]) h3.2⟩)
end

/-! ### calls of what is built in -/
def rwC (X : Cx) (f : Value) : List V → Hp → VK → Prop := fun xs H Q => ∀ pins s σ us, Inv X pins σ H s → Vals xs us → wpAny (model X.prog X.w) X.A (call f us) (EP X pins σ Q) X.xe s
abbrev FC := List D → (D → Prop) → Prop
def RC (X : Cx) (I : HI) (f : Value) (r : FC) : Prop :=
  ∀ (H : Hp) (xs : List V) (ds : List D) (Qd : D → Prop) (Q : VK), I.ok H → DenA X.K I.own H xs ds → r ds Qd → (∀ v d H', Ext I H H' → Den X.K I.own H' v d → Qd d → Q v H') → rwC X f xs H Q
def dCB (r : FC) (ta : TAD) : TED := fun env Q => ta env fun xs => r xs Q
section
variable {X : Cx} {I : HI} {g : Gx} {e a b c : Expr} {es : List Expr} {td ta tb tc : TED} {tas : TAD} {t u : TTD} {pos p : Pos} {f : Value} {r : FC} {x : Str}
theorem cr_w : CallR X f (rwC X f) := fun pins s σ H xs us Q J r h => h pins s σ us J r
theorem rc_of {f : Value} {r' : List V → Hp → VK → Prop} (h : CallR X f r') {xs : List V} {H : Hp} {Q : VK} (q : r' xs H Q) : rwC X f xs H Q := fun pins s σ us J rx => h pins s σ H xs us Q J rx q
theorem sd_cb {K : PySem.W.Frag} {ra : L2.TA} {r' : List V → Hp → VK → Prop} (ha : SA K g ra tas)
    (hr : ∀ (H : Hp) (xs : List V) (ds : List D) (Qd : D → Prop) (Q : VK), g.I.ok H → DenA K g.I.own H xs ds → r ds Qd → (∀ v d H', Ext g.I H H' → Den K g.I.own H' v d → Qd d → Q v H') → r' xs H Q) : SE K g (tCB r' ra) (dCB r tas) := fun b0 σ H env Qd Q hd xl h k =>
  ha b0 σ H env _ _ hd xl h fun vs ds H1 e1 dn q => hr H1 vs ds Qd Q e1.2 dn q fun v d H' e2 dn2 q2 => k v d H' (e1.trans e2) dn2 q2
theorem d_callB {id : String} (hc : RC X g.I (.builtin id) r) (hg : Gl X x) (hm : X.mg x = none) (hv : bootBuiltins x = some (.builtin id)) (ha : PAD X g (e :: es) tas) (hn : x ≠ "__name__" := by decide) (hdb : (x == ("__debug__" : Str)) = false := by decide)
    (he : starEach (e :: es) X.env = (false, eval e X.env) :: starEach es X.env := by rfl) (hpl : (backTo pos (starEach es X.env)).any (·.1) = false := by rfl) : PED X g (.Call (.Name x p) (e :: es) [] pos) (dCB r tas) :=
  ped_of (pe_callB cr_w hg hm hv pa_w hn hdb he hpl) (sd_cb ha hc)
theorem d_callTy {T : String} (hc : RC X g.I (.type T) r) (hg : Gl X x) (hm : X.mg x = none) (hv : bootBuiltins x = some (.type T)) (ha : PAD X g (e :: es) tas) (hn : x ≠ "__name__" := by decide) (hdb : (x == ("__debug__" : Str)) = false := by decide)
    (he : starEach (e :: es) X.env = (false, eval e X.env) :: starEach es X.env := by rfl) (hpl : (backTo pos (starEach es X.env)).any (·.1) = false := by rfl) : PED X g (.Call (.Name x p) (e :: es) [] pos) (dCB r tas) :=
  ped_of (pe_callTy cr_w hg hm hv pa_w hn hdb he hpl) (sd_cb ha hc)
/-- a built-in type as a value -/
theorem d_ty {n : String} (hg : Gl X x) (hm : X.mg x = none) (hv : bootBuiltins x = some (.type n)) (hn : x ≠ "__name__" := by decide) (hdb : (x == ("__debug__" : Str)) = false := by decide) : PED X g (.Name x p) (dC (.ty n)) :=
  ped_of (pe_bltn (v := .ty n) hg hm hv rfl hn hdb) (sd_c fun _ => by simp only [Den])
theorem DenA.nil {K : PySem.W.Frag} {Av : Addr → Prop} {H : Hp} {vs : List V} (h : DenA K Av H vs []) : vs = [] := by simpa only [DenA] using h
theorem DenA.cons {K : PySem.W.Frag} {Av : Addr → Prop} {H : Hp} {vs : List V} {d : D} {ds : List D} (h : DenA K Av H vs (d :: ds)) : ∃ v r, vs = v :: r ∧ Den K Av H v d ∧ DenA K Av H r ds := by simpa only [DenA] using h
theorem DenA.one1 {K : PySem.W.Frag} {Av : Addr → Prop} {H : Hp} {vs : List V} {d : D} (h : DenA K Av H vs [d]) : ∃ v, vs = [v] ∧ Den K Av H v d := by
  obtain ⟨v, r, rfl, h1, h2⟩ := h.cons
  cases h2.nil
  exact ⟨v, rfl, h1⟩
/-- len -/
def bLen : FC := fun xs Q => ∃ x, xs = [x] ∧ match x with
  | .tup ys => Q (.int ys.length)
  | .lst ys => Q (.int ys.length)
  | .str z => z.length ≤ sizeLine ∧ Q (.int z.length)
  | _ => False
theorem c_len : RC X I (.builtin "len") bLen := fun H xs ds Qd Q ok dn hh k => by
  obtain ⟨x, rfl, h⟩ := hh
  obtain ⟨v, rfl, d1⟩ := dn.one1
  cases x <;> simp only at h <;> simp only [Den] at d1
  case tup ys =>
    obtain ⟨a, vs, rfl, s1, n1, r1⟩ := d1
    rw [← r1.len] at h
    exact rc_of call_len ⟨_, vs.length, rfl, .inr ⟨vs, s1, rfl⟩, k _ _ H (.refl ok) (by simp only [Den]) h⟩
  case lst ys =>
    obtain ⟨a, vs, rfl, s1, n1, r1⟩ := d1
    rw [← r1.len] at h
    exact rc_of call_len ⟨_, vs.length, rfl, .inl ⟨vs, SqL.of s1, rfl⟩, k _ _ H (.refl ok) (by simp only [Den]) h⟩
  case str z => subst d1; exact rc_of call_len_str ⟨z, rfl, h.1, k _ _ H (.refl ok) (by simp only [Den]) h.2⟩
/-- isinstance by built-in types -/
def D.tyn : D → Option String
  | .non => some "NoneType" | .bl _ => some "bool" | .int _ => some "int" | .str _ => some "str" | .tup _ => some "tuple" | .lst _ => some "list" | .ref _ => none | .ty _ => none | .obj _ _ _ => none
def isiB (t n : String) : Bool := decide (t = n) || (decide (t = "bool") && decide (n = "int"))
def tyNames : List String := ["NoneType", "bool", "int", "str", "tuple", "list"]
theorem kitB_tab : ∀ t ∈ tyNames, ∀ n ∈ tyNames, kitB t n = some (isiB t n) := by decide +kernel
def tysOf : List D → Option (List String)
  | [] => some []
  | .ty n :: r => (tysOf r).map (n :: ·)
  | _ :: _ => none
def bIsi : FC := fun xs Q => ∃ x c, xs = [x, c] ∧ ∃ t, x.tyn = some t ∧ match c with
  | .ty n => n ∈ tyNames ∧ Q (.bl (isiB t n))
  | .tup cs => ∃ ns, tysOf cs = some ns ∧ (∀ n ∈ ns, n ∈ tyNames) ∧ Q (.bl (ns.any fun n => isiB t n))
  | _ => False
theorem tyn_mem {x : D} {t : String} (h : x.tyn = some t) : t ∈ tyNames := by
  cases x <;> simp only [D.tyn, Option.some.injEq] at h <;> first | (subst h; decide) | cases h
theorem tyx_den {K : PySem.W.Frag} {Av : Addr → Prop} {H : Hp} {v : V} {x : D} {t : String} (h : x.tyn = some t) (dn : Den K Av H v x) : TyX K H v (.type t) := by
  cases x <;> simp only [D.tyn, Option.some.injEq] at h <;> simp only [Den] at dn
  case non => subst h dn; exact .base .non
  case bl => subst h dn; exact .base (.bl _)
  case int => subst h dn; exact .base (.int _)
  case str => subst h dn; exact .base (.str _)
  case tup =>
    subst h
    obtain ⟨a, vs, rfl, s1, n1, r1⟩ := dn
    rcases s1 with (s | ⟨o, s⟩) | ⟨o, its, n, s, c, _⟩
    · exact .base (.tup s)
    · exact .fTuple s
    · exact .kTuple s c
  case lst =>
    subst h
    obtain ⟨a, vs, rfl, s1, n1, r1⟩ := dn
    exact .base (.lst s1)
  case ref => cases h
  case obj => cases h
  case ty => cases h
theorem kitAny_of {K : PySem.W.Frag} {t : String} (ht : t ∈ tyNames) : ∀ {ns : List String}, (∀ n ∈ ns, n ∈ tyNames) → PySem.W.kitAny K (.type t) (ns.map Value.type) = some (ns.any fun n => isiB t n)
  | [], _ => rfl
  | n :: ns, h => by
    have h1 : PySem.W.kitOne K (.type t) (.type n) = some (isiB t n) := kit_ty (kitB_tab t ht n (h n List.mem_cons_self))
    have ih := kitAny_of (K := K) ht (ns := ns) fun m hm => h m (List.mem_cons_of_mem _ hm)
    show (match PySem.W.kitOne K (.type t) (.type n) with
      | some true => some true
      | some false => PySem.W.kitAny K (.type t) (ns.map Value.type)
      | none => none) = some (isiB t n || ns.any fun n => isiB t n)
    rw [h1, ih]
    cases isiB t n <;> rfl
theorem tys_den {K : PySem.W.Frag} {Av : Addr → Prop} {H : Hp} : ∀ {cs : List D} {ns : List String} {vs : List V}, tysOf cs = some ns → DenA K Av H vs cs → Paired ClsV vs (ns.map Value.type)
  | [], ns, vs, h, dn => by
    cases dn.nil
    cases (show some [] = some ns from h)
    exact .nil
  | c :: cs, ns, vs, h, dn => by
    obtain ⟨v, r, rfl, h1, h2⟩ := dn.cons
    cases c <;> simp only [tysOf] at h
    case ty n =>
      obtain ⟨ms, e, rfl⟩ := Option.map_eq_some_iff.mp h
      simp only [Den] at h1
      subst h1
      exact .cons (.ty n) (tys_den e h2)
    all_goals cases h
theorem c_isi : RC X I (.builtin "isinstance") bIsi := fun H xs ds Qd Q ok dn hh k => by
  obtain ⟨x, c, rfl, t, ht, h⟩ := hh
  obtain ⟨v, r, rfl, d1, d2⟩ := dn.cons
  obtain ⟨w, rfl, d3⟩ := d2.one1
  cases c <;> simp only at h <;> simp only [Den] at d3
  case ty n =>
    subst d3
    exact rc_of call_isi ⟨v, .ty n, .type t, .type n, _, rfl, .ty n, tyx_den ht d1, kit_ty (kitB_tab t (tyn_mem ht) n h.1), k _ _ H (.refl ok) (by simp only [Den]) h.2⟩
  case tup cs =>
    obtain ⟨ns, h1, h2, q⟩ := h
    obtain ⟨a, vs, rfl, s1, n1, r1⟩ := d3
    rcases n1 with ⟨_, s⟩ | ⟨⟨oc, od, dt', osl⟩, its, n, s, c, dt, z, rv⟩
    · exact rc_of call_isiT ⟨v, a, vs, .type t, _, _, rfl, s, tys_den h1 r1, tyx_den ht d1, kitAny_of (tyn_mem ht) h2, k _ _ H (.refl ok) (by simp only [Den]) q⟩
    · simp only at c dt
      subst c dt
      have e : its.toList = ns.map Value.type := ClsV.all (tys_den h1 r1) rv
      have e2 : its = (ns.map Value.type).toArray := by rw [← e]
      subst e2
      exact rc_of call_isiK ⟨v, a, od, ns.map Value.type, n, osl, .type t, _, rfl, s, tyx_den ht d1, kitAny_of (tyn_mem ht) h2, k _ _ H (.refl ok) (by simp only [Den]) q⟩
end
end Dl
namespace Dl
open PySem PySem.Spec PyProof.Rows L2

section
variable {X : Cx} {I : HI} {g : Gx} {e a b c : Expr} {es : List Expr} {td ta tb tc : TED} {tas : TAD} {t u : TTD} {pos p : Pos} {f : Value} {r : FC} {x : Str}
/-- tuple(x), list(x) of a tuple, a list -/
def bTup : FC := fun xs Q => ∃ x, xs = [x] ∧ match x with
  | .tup ys => Q (.tup ys)
  | .lst ys => Q (.tup ys)
  | _ => False
theorem c_tup : RC X I (.type "tuple") bTup := fun H xs ds Qd Q ok dn hh k => by
  obtain ⟨x, rfl, h⟩ := hh
  obtain ⟨v, rfl, d1⟩ := dn.one1
  cases x <;> simp only at h
  case tup ys =>
    have d1' := d1
    simp only [Den] at d1
    obtain ⟨a, vs, rfl, s1, n1, r1⟩ := d1
    exact rc_of call_tuple_of ⟨a, vs, rfl, .inr ⟨s1, k _ _ H (.refl ok) d1' h⟩⟩
  case lst ys =>
    simp only [Den] at d1
    obtain ⟨a, vs, rfl, s1, n1, r1⟩ := d1
    exact rc_of call_tuple_of ⟨a, vs, rfl, .inl ⟨SqL.of s1, fun p hp => k _ _ _ (.new ok hp) (new_tup ok hp r1) h⟩⟩
def bLst : FC := fun xs Q => ∃ x, xs = [x] ∧ match x with
  | .tup ys => Q (.lst ys)
  | .lst ys => Q (.lst ys)
  | _ => False
theorem c_lst : RC X I (.type "list") bLst := fun H xs ds Qd Q ok dn hh k => by
  obtain ⟨x, rfl, h⟩ := hh
  obtain ⟨v, rfl, d1⟩ := dn.one1
  cases x <;> simp only at h <;> simp only [Den] at d1
  case tup ys =>
    obtain ⟨a, vs, rfl, s1, n1, r1⟩ := d1
    exact rc_of call_list_of ⟨a, vs, rfl, .inr s1, fun p hp => k _ _ _ (.new ok hp) (new_lst ok hp r1) h⟩
  case lst ys =>
    obtain ⟨a, vs, rfl, s1, n1, r1⟩ := d1
    exact rc_of call_list_of ⟨a, vs, rfl, .inl (SqL.of s1), fun p hp => k _ _ _ (.new ok hp) (new_lst ok hp r1) h⟩
def bInt : FC := fun xs Q => ∃ i, xs = [.int i] ∧ Q (.int i)
theorem c_int : RC X I (.type "int") bInt := fun H xs ds Qd Q ok dn ⟨i, e, h⟩ k => by
  subst e
  obtain ⟨v, rfl, d1⟩ := dn.one1
  simp only [Den] at d1
  subst d1
  exact rc_of call_int1 (.inl ⟨i, rfl, k _ _ H (.refl ok) (by simp only [Den]) h⟩)
def bAbs : FC := fun xs Q => ∃ i : Int, xs = [.int i] ∧ Q (.int (if i < 0 then -i else i))
theorem c_abs : RC X I (.builtin "abs") bAbs := fun H xs ds Qd Q ok dn ⟨i, e, h⟩ k => by
  subst e
  obtain ⟨v, rfl, d1⟩ := dn.one1
  simp only [Den] at d1
  subst d1
  exact rc_of call_abs ⟨i, rfl, k _ _ H (.refl ok) (by simp only [Den]) h⟩
def bStr : FC := fun xs Q => ∃ i : Int, xs = [.int i] ∧ i.natAbs.log2 < 1920 ∧ Q (.str (toString i))
theorem c_str : RC X I (.type "str") bStr := fun H xs ds Qd Q ok dn ⟨i, e, h1, h⟩ k => by
  subst e
  obtain ⟨v, rfl, d1⟩ := dn.one1
  simp only [Den] at d1
  subst d1
  exact rc_of call_str_int ⟨i, rfl, h1, k _ _ H (.refl ok) (by simp only [Den]) h⟩
/-- sorted of a list of ints -/
def bSortI : FC := fun xs Q => ∃ ns : List Int, xs = [.lst (ns.map D.int)] ∧ ∀ ns' : List Int, ns'.Perm ns → ns'.Pairwise (· ≤ ·) → Q (.lst (ns'.map D.int))
theorem c_sortI : RC X I (.builtin "sorted") bSortI := fun H xs ds Qd Q ok dn ⟨ns, e, h⟩ k => by
  subst e
  obtain ⟨v, rfl, d1⟩ := dn.one1
  simp only [Den] at d1
  obtain ⟨a, vs, rfl, s1, n1, r1⟩ := d1
  have e1 := r1.ofInts
  subst e1
  exact rc_of cr_sortedI ⟨a, ns, rfl, SqL.of s1, fun ns' p pm so hp => k _ _ _ (.new ok hp) (new_lst ok hp DenA.ints) (h ns' pm so)⟩
def bSum : FC := fun xs Q => ∃ ns : List Int, xs = [.lst (ns.map D.int)] ∧ Q (.int ns.sum)
theorem c_sum (hc : X.calm = true) : RC X I (.builtin "sum") bSum := fun H xs ds Qd Q ok dn ⟨ns, e, h⟩ k => by
  subst e
  obtain ⟨v, rfl, d1⟩ := dn.one1
  simp only [Den] at d1
  obtain ⟨a, vs, rfl, s1, n1, r1⟩ := d1
  have e1 := r1.ofInts
  subst e1
  exact rc_of (cr_sum hc) ⟨a, ns, rfl, SqL.of s1, k _ _ H (.refl ok) (by simp only [Den]) h⟩
theorem DenA.ofBls {K : PySem.W.Frag} {Av : Addr → Prop} {H : Hp} : ∀ {bs : List Bool} {vs : List V}, DenA K Av H vs (bs.map D.bl) → vs = bs.map V.bl
  | [], _, h => by simpa [DenA] using h
  | n :: ns, vs, h => by
    have h' : DenA K Av H vs (D.bl n :: ns.map D.bl) := h
    simp only [DenA, Den] at h'
    obtain ⟨v, r, rfl, rfl, h2⟩ := h'
    rw [DenA.ofBls h2]; rfl
def bAll : FC := fun xs Q => ∃ bs : List Bool, xs = [.lst (bs.map D.bl)] ∧ Q (.bl (bs.all id))
def bAny : FC := fun xs Q => ∃ bs : List Bool, xs = [.lst (bs.map D.bl)] ∧ Q (.bl (bs.any id))
theorem c_all (hc : X.calm = true) : RC X I (.builtin "all") bAll := fun H xs ds Qd Q ok dn ⟨ns, e, h⟩ k => by
  subst e
  obtain ⟨v, rfl, d1⟩ := dn.one1
  simp only [Den] at d1
  obtain ⟨a, vs, rfl, s1, n1, r1⟩ := d1
  have e1 := r1.ofBls
  subst e1
  exact rc_of (cr_all hc) ⟨a, ns, rfl, SqL.of s1, k _ _ H (.refl ok) (by simp only [Den]) h⟩
theorem c_any (hc : X.calm = true) : RC X I (.builtin "any") bAny := fun H xs ds Qd Q ok dn ⟨ns, e, h⟩ k => by
  subst e
  obtain ⟨v, rfl, d1⟩ := dn.one1
  simp only [Den] at d1
  obtain ⟨a, vs, rfl, s1, n1, r1⟩ := d1
  have e1 := r1.ofBls
  subst e1
  exact rc_of (cr_any hc) ⟨a, ns, rfl, SqL.of s1, k _ _ H (.refl ok) (by simp only [Den]) h⟩

/-! ### calls of own functions -/
/-- a contract: the arguments, what is wished of the value, of an exception -/
abbrev Ct := List D → (D → Prop) → (Exc → Prop) → Prop
def spOf (K : PySem.W.Frag) (I : HI) (n : Nat) (C : Ct) : Sp := fun vs H Q E => ∃ ds Qd Ed, ds.length = n ∧ DenA K I.own H vs ds ∧ I.ok H ∧ C ds Qd Ed ∧
  (∀ v d H', Ext I H H' → Den K I.own H' v d → Qd d → Q v H') ∧ (∀ x d H', Ext I H H' → ExD K I H' x d → Ed x → E (.ref x.cls) d H')
def dCall (C : Ct) (dds : List D) (Ed : DEnv → Exc → Prop) (ta : TAD) : TED := fun env Q => ta env fun xs => C (xs ++ dds) Q (Ed env)
theorem run_fnD {k : Nat} {fa : Addr} {fd : FuncData} {ps : List Str} {sp : Sp} {ds : List Value} {dvs : List V} {pins : List (Addr × Obj)} {σ : L2.St} {H : Hp} {s : Shared} {Q : VK} {us : List Value} {vs : List V} {E : XK}
    (F : FnOk X.prog X.w X.K X.mg X.base (L2.CX X.prog X.w) k fa fd ps sp) (hr : Room k X.A) (hb : Binds X.K fd ps ds) (hd : Vals dvs ds) (hx : PassesAt (L2.CX X.prog X.w) X σ E)
    (J : Inv X pins σ H s) (r : Vals vs us) (h : sp (vs ++ dvs) H Q E) : wpAny (model X.prog X.w) X.A (call (.ref fa) us) (EP X pins σ Q) X.xe s := by
  have r2 : Vals (vs ++ dvs) (us ++ ds) := r.append hd
  have hl : (us ++ ds).length = ps.length := by rw [← r2.length]; exact F.len _ _ _ _ h
  refine wpAny_call (codeAny_mono (F.run X.A X.stack s H ⟨us, []⟩ (us ++ ds) (vs ++ dvs) Q E hr J.env0 (hb s us J.kIn hl) r2 h) fun r s' hq => ?_)
  cases r with
  | error e => exact hx pins H s e s' J hq
  | ok fl =>
    cases fl with
    | ret u => exact J.after hq
    | next => exact False.elim hq
    | brk => exact False.elim hq
    | cont => exact False.elim hq
theorem spOf_call {K : PySem.W.Frag} {n : Nat} {C : Ct} {H : Hp} {vs dvs : List V} {xs dds : List D} {Qd : D → Prop} {Ed : Exc → Prop} {Q : VK} {E : XK} (ok : I.ok H) (hl : (xs ++ dds).length = n) (dn : DenA K I.own H vs xs) (dd : DenA K I.own H dvs dds) (h : C (xs ++ dds) Qd Ed)
    (k : ∀ v d H', Ext I H H' → Den K I.own H' v d → Qd d → Q v H') (ke : ∀ x d H', Ext I H H' → ExD K I H' x d → Ed x → E (.ref x.cls) d H') : spOf K I n C (vs ++ dvs) H Q E :=
  ⟨xs ++ dds, Qd, Ed, hl, dn.app dd, ok, h, k, ke⟩
/-- f(e, ..) -/
theorem d_call {k n : Nat} {fa : Addr} {fd : FuncData} {ps : List Str} {C : Ct} {ds : List Value} {dvs : List V} {dds : List D} (F : FnOk X.prog X.w X.K X.mg X.base (L2.CX X.prog X.w) k fa fd ps (spOf X.K g.I n C)) (hr : Room k X.A) (hg : Gl X x)
    (hm : X.mg x = some (.ref fa)) (hk : PySem.W.keepIn X.K (.ref fa) = true) (hb : Binds X.K fd ps ds) (hd : Vals dvs ds) (hdd : ∀ H, DenA X.K g.I.own H dvs dds) (tk : Takes X g.W) (hC : ∀ xs Q E, C xs Q E → xs.length = n) (ha : PAD X g (e :: es) tas)
    (hdb : (x == ("__debug__" : Str)) = false := by decide) (he : starEach (e :: es) X.env = (false, eval e X.env) :: starEach es X.env := by rfl) (hpl : (backTo pos (starEach es X.env)).any (·.1) = false := by rfl) :
    PED X g (.Call (.Name x p) (e :: es) [] pos) (dCall C dds g.Ed tas) := fun b0 σ H env Qd Q hd' xl h kq pins s J => by
  refine wpAny_Call_Name_kw (ld_glob J hg hm ?_ hdb)
  refine PySem.W.callWith_K (h₀ := X.base) J.ok.mod.kin hk (thn ((pa_w (es := e :: es)).run pos pins s σ H (fun vs H1 => spOf X.K g.I n C (vs ++ dvs) H1 Q (WE g.W σ)) J ?_) fun us s1 ⟨vs, H1, I1, r, q⟩ => ⟨I1.kIn, run_fnD F hr hb hd (passAt tk σ) I1 r q⟩) he hpl
  exact ha b0 σ H env _ _ hd' xl h fun vs xs H1 e1 dn q => spOf_call e1.2 (hC _ _ _ q) dn (hdd H1) q (fun v d H2 e2 dn2 q2 => kq v d H2 (e1.trans e2) dn2 q2) fun x d H2 e2 xd q2 => xl σ H env x d H2 hd' (e1.trans e2) xd q2
end

/-! ### statements -/
structure DEnds where
  nx : DEnv → Prop
  rt : D → Prop
  bk : DEnv → Prop := fun _ => False
  ct : DEnv → Prop := fun _ => False
abbrev TSD := DEnds → DEnv → Prop
/-- the ends below stand over those above -/
structure EL (K : PySem.W.Frag) (g : Gx) (b : B0) (Dd : DEnds) (E : Ends) : Prop where
  nx : ∀ σ H env, DenE K g.I b σ H env → Dd.nx env → E.nx σ H
  rt : ∀ v d H, Ext g.I b.H0 H → Den K g.I.own H v d → Dd.rt d → E.rt v H
  bk : ∀ σ H env, DenE K g.I b σ H env → Dd.bk env → E.bk σ H
  ct : ∀ σ H env, DenE K g.I b σ H env → Dd.ct env → E.ct σ H
def SS (K : PySem.W.Frag) (g : Gx) (ts : TS) (td : TSD) : Prop :=
  ∀ (b : B0) (σ : L2.St) (H : Hp) (env : DEnv) (Dd : DEnds) (E : Ends), DenE K g.I b σ H env → XL K g b → td Dd env → EL K g b Dd E → ts E σ H
def wS (X : Cx) (st : Stmt) : TS := fun E σ H => ∀ pins s, Inv X pins σ H s → wpAny (model X.prog X.w) X.A (exec st X.env) (SP X pins E) X.xe s
def wSs (X : Cx) (sts : List Stmt) : TS := fun E σ H => ∀ pins s, Inv X pins σ H s → wpAny (model X.prog X.w) X.A (execs sts X.env) (SP X pins E) X.xe s
def PSD (X : Cx) (g : Gx) (st : Stmt) (td : TSD) : Prop := SS X.K g (wS X st) td
def PSsD (X : Cx) (g : Gx) (sts : List Stmt) (td : TSD) : Prop := SS X.K g (wSs X sts) td
section
variable {X : Cx} {g : Gx} {e : Expr} {st : Stmt} {rest sts sts2 : List Stmt} {td : TED} {tt : TTD} {ts t u : TSD} {ts' : TS} {pos : Pos}
theorem ps_w : PS X st (wS X st) := ⟨fun pins s σ H E J h => h pins s J⟩
theorem pss_w : PSs X sts (wSs X sts) := ⟨fun pins s σ H E J h => h pins s J⟩
theorem psd_of (p : PS X st ts') (h : SS X.K g ts' ts) : PSD X g st ts := fun b σ H env Dd E hd xl ht el pins s J => p.run pins s σ H E J (h b σ H env Dd E hd xl ht el)
theorem pssd_of (p : PSs X sts ts') (h : SS X.K g ts' ts) : PSsD X g sts ts := fun b σ H env Dd E hd xl ht el pins s J => p.run pins s σ H E J (h b σ H env Dd E hd xl ht el)
def sNext : TSD := fun Dd env => Dd.nx env
def sSeq (t u : TSD) : TSD := fun Dd env => t { Dd with nx := u Dd } env
theorem ds_nil : PSsD X g [] sNext := pssd_of pss_nil fun b σ H env Dd E hd xl h el => el.nx _ _ _ hd h
theorem ds_cons (h1 : PSD X g st t) (h2 : PSsD X g rest u) : PSsD X g (st :: rest) (sSeq t u) := pssd_of (pss_cons ps_w pss_w) fun b σ H env Dd E hd xl h el =>
  h1 b σ H env _ _ hd xl h ⟨fun σ' H' env' hd' h' => h2 b σ' H' env' _ _ hd' xl h' el, el.rt, el.bk, el.ct⟩
theorem ds_one (h1 : PSD X g st t) : PSsD X g [st] t := pssd_of (pss_one ps_w) h1
def sBreak : TSD := fun Dd env => Dd.bk env
def sCont : TSD := fun Dd env => Dd.ct env
theorem ds_pass : PSD X g (.Pass pos) sNext := psd_of ps_pass fun b σ H env Dd E hd xl h el => el.nx _ _ _ hd h
theorem ds_break : PSD X g (.Break pos) sBreak := psd_of ps_break fun b σ H env Dd E hd xl h el => el.bk _ _ _ hd h
theorem ds_continue : PSD X g (.Continue pos) sCont := psd_of ps_continue fun b σ H env Dd E hd xl h el => el.ct _ _ _ hd h
def sRet (td : TED) : TSD := fun Dd env => td env Dd.rt
theorem ds_ret (he : PED X g e td) : PSD X g (.Return (some e) pos) (sRet td) := psd_of (ps_ret pe_w) fun b σ H env Dd E hd xl h el => he b σ H env _ _ hd xl h fun v d H1 e1 dn q => el.rt v d H1 (hd.ext.trans e1) dn q
def sRetN : TSD := fun Dd _ => Dd.rt .non
theorem ds_retN : PSD X g (.Return none pos) sRetN := psd_of ps_retN fun b σ H env Dd E hd xl h el => el.rt .non .non H hd.ext (by simp only [Den]) h
def sIf (c : TTD) (t u : TSD) : TSD := fun Dd env => c env fun b => if b = true then t Dd env else u Dd env
theorem ds_if {c : Expr} (hc : PTD X g c tt) (ha : PSsD X g sts t) (hb : PSsD X g sts2 u) : PSD X g (.If c sts sts2 pos) (sIf tt t u) := psd_of (ps_if pt_w pss_w pss_w) fun b σ H env Dd E hd xl h el =>
  hc b σ H env _ _ hd xl h fun c H1 e1 h1 => by
    cases c with
    | true => rw [if_pos rfl] at h1 ⊢; exact ha b σ H1 env Dd E (hd.mono e1) xl h1 el
    | false => rw [if_neg Bool.false_ne_true] at h1 ⊢; exact hb b σ H1 env Dd E (hd.mono e1) xl h1 el
def sDrop (td : TED) : TSD := fun Dd env => td env fun _ => Dd.nx env
theorem ds_expr (he : PED X g e td) (hs : swapsWith e none pos.line X.env = pure false := by rfl) : PSD X g (.Expr e pos) (sDrop td) := psd_of (ps_expr pe_w hs) fun b σ H env Dd E hd xl h el =>
  he b σ H env _ _ hd xl h fun v d H1 e1 dn q => el.nx _ _ _ (hd.mono e1) q

/-! ### a slot is stored -/
def noOwn : DEnv → Bool
  | [] => true
  | .own _ :: _ => false
  | .val _ :: r => noOwn r
  | .no :: r => noOwn r
theorem noOwn_get : ∀ {env : DEnv}, noOwn env = true → ∀ {i : Nat} {xs : List D}, env[i]? ≠ some (Slot.own xs)
  | [], _, i, xs => by simp
  | .own _ :: _, h, _, _ => by simp [noOwn] at h
  | .val d :: r, h, 0, xs => by simp
  | .no :: r, h, 0, xs => by simp
  | .val d :: r, h, i + 1, xs => by simpa using noOwn_get (env := r) (by simpa [noOwn] using h) (i := i) (xs := xs)
  | .no :: r, h, i + 1, xs => by simpa using noOwn_get (env := r) (by simpa [noOwn] using h) (i := i) (xs := xs)
/-- what may be kept in a slot beside the lists that are still written -/
def keepable (env : DEnv) (i : Nat) (d : D) : Prop := noOwn (env.set i .no) = true ∨ d.noLst = true
theorem get_set {α : Type} {l : List α} {i j : Nat} {x y : α} (h : (l.set i x)[j]? = some y) : (j = i ∧ y = x) ∨ (j ≠ i ∧ l[j]? = some y) := by
  by_cases e : j = i
  · subst e
    by_cases hl : j < l.length
    · rw [List.getElem?_set_self hl] at h
      exact .inl ⟨rfl, (Option.some.inj h).symm⟩
    · rw [List.getElem?_eq_none (by rw [List.length_set]; omega)] at h
      cases h
  · rw [List.getElem?_set_ne (Ne.symm e)] at h
    exact .inr ⟨e, h⟩
theorem DenE.put {K : PySem.W.Frag} {I : HI} {b : B0} {σ : L2.St} {H : Hp} {env : DEnv} (h : DenE K I b σ H env) {i : Nat} {v : V} {d : D} (dn : Den K I.own H v d) (kp : keepable env i d) : DenE K I b (σ.set i (some v)) H (env.set i (.val d)) := by
  obtain ⟨oa, h1, h2, h3, h4⟩ := h.slots
  have sub : ∀ a, AvOf I (env.set i (.val d)) oa a → AvOf I env oa a := fun a z => z.imp id fun ⟨j, xs, e, q⟩ => by
    rcases get_set e with ⟨_, e⟩ | ⟨_, e⟩
    · cases e
    · exact ⟨j, xs, e, q⟩
  refine ⟨by rw [List.length_set, List.length_set]; exact h.len, h.ext, oa, fun j xs e => ?_, fun j k xs ys e1 e2 => ?_, fun j d' e => ?_, fun p hp => Den.weak sub _ _ (h4 p hp)⟩
  · rcases get_set e with ⟨_, e⟩ | ⟨ne, e⟩
    · cases e
    · obtain ⟨⟨vs, e1, e2, e3⟩, e4⟩ := h1 j xs e
      exact ⟨⟨vs, by rw [List.getElem?_set_ne (Ne.symm ne)]; exact e1, e2, DenA.weak sub _ _ e3⟩, e4⟩
  · rcases get_set e1 with ⟨_, e1⟩ | ⟨_, e1⟩
    · cases e1
    · rcases get_set e2 with ⟨_, e2⟩ | ⟨_, e2⟩
      · cases e2
      · exact h2 j k xs ys e1 e2
  · rcases get_set e with ⟨ej, ed⟩ | ⟨ne, e⟩
    · have hl : j < σ.length := by
        rw [h.len]
        have := (List.getElem?_eq_some_iff.mp e).1
        rwa [List.length_set] at this
      subst ej
      have ed := Slot.val.inj ed
      subst ed
      refine ⟨v, by rw [List.getElem?_set_self hl], ?_⟩
      rcases kp with kp | kp
      · refine Den.weak (fun a z => ?_) _ _ dn
        rcases z with z | ⟨k, xs, e, _⟩
        · exact z
        · exfalso
          rcases get_set e with ⟨_, e⟩ | ⟨ne, e⟩
          · cases e
          · exact noOwn_get kp (i := k) (xs := xs) (by rw [List.getElem?_set_ne (Ne.symm ne)]; exact e)
      · refine Den.weak (fun a z => ?_) _ _ (Den.apart (P := fun a => ∃ (k : Nat) (xs : List D), env[k]? = some (Slot.own xs) ∧ a = oa k) (fun a ⟨k, xs, e, q⟩ => ?_) _ _ kp dn)
        · rcases z with z | ⟨k, xs, e, q⟩
          · exact .inl z
          · rcases get_set e with ⟨_, e⟩ | ⟨ne, e⟩
            · cases e
            · exact .inr ⟨k, xs, e, q⟩
        · obtain ⟨⟨vs, _, e2, _⟩, _⟩ := h1 k xs e
          rw [q]
          exact ⟨vs, e2⟩
    · obtain ⟨w, e1, e2⟩ := h3 j d' e
      exact ⟨w, by rw [List.getElem?_set_ne (Ne.symm ne)]; exact e1, Den.weak sub _ _ e2⟩
def sAsg (i : Nat) (td : TED) : TSD := fun Dd env => td env fun d => keepable env i d ∧ Dd.nx (env.set i (.val d))
theorem ds_set {i : Nat} {x : Str} {pos' : Pos} (hN : X.N.Nodup) (hi : X.N[i]? = some x) (hx : Loc X.env.scope x) (he : PED X g e td) (hs : swapsWith e (some (.Name x pos')) pos.line X.env = pure false := by rfl)
    (hf : X.fn x = true ∨ X.env.scope.names.lookup x = some .local := by first | exact .inl rfl | exact .inr rfl | assumption) : PSD X g (.Assign [.Name x pos'] e pos) (sAsg i td) :=
  psd_of (ps_set hN hi hx pe_w hs hf) fun b σ H env Dd E hd xl h el => he b σ H env _ _ hd xl h fun v d H1 e1 dn ⟨kp, q⟩ => el.nx _ _ _ ((hd.mono e1).put dn kp) q
end
end Dl
namespace Dl
open PySem PySem.Spec PyProof.Rows L2

section
variable {K : PySem.W.Frag} {I : HI} {b : B0} {σ : L2.St} {H H' : Hp} {env : DEnv}
theorem Kp.back {Av : Addr → Prop} {p : Addr} (k : Kp Av H H') (ha : Av p → H' p ≠ none) (h : H' p = none) : H p = none := by
  cases e : H p with
  | none => rfl
  | some o =>
    by_cases n : Av p
    · exact absurd h (ha n)
    · rw [k p o n e] at h; cases h
theorem Ext.back {p : Addr} (e : Ext I H H') (h : H' p = none) : H p = none := e.1.back (fun n => I.dom H' p e.2 (I.sub p n)) h
theorem Ext.ofNew (ok : I.ok H) (k : Kp (fun _ => False) H H') : Ext I H H' :=
  ⟨k.weak fun _ z => z.elim, I.loc H H' (fun a f => by
    cases e : H a with
    | none => exact absurd e (I.dom H a ok f)
    | some o => exact k a o id e) ok⟩
/-! ### the lists that are written, given up -/
def frzS : Slot → Slot
  | .own xs => .val (.lst xs)
  | .val d => .val d
  | .no => .no
def frz (env : DEnv) : DEnv := env.map frzS
theorem frz_no {i : Nat} {xs : List D} : (frz env)[i]? ≠ some (Slot.own xs) := fun h => by
  unfold frz at h
  rw [List.getElem?_map] at h
  cases e : env[i]? with
  | none => rw [e] at h; cases h
  | some s => rw [e] at h; cases s <;> cases h
theorem noOwn_frz : ∀ env : DEnv, noOwn (frz env) = true
  | [] => rfl
  | .own _ :: r => noOwn_frz r
  | .val _ :: r => noOwn_frz r
  | .no :: r => noOwn_frz r
theorem DenE.frz (h : DenE K I b σ H env) : DenE K I b σ H (frz env) := by
  obtain ⟨oa, h1, h2, h3, h4⟩ := h.slots
  have sub : ∀ a, AvOf I (Dl.frz env) oa a → I.own a := fun a z => z.elim id fun ⟨i, xs, e, _⟩ => absurd e frz_no
  have sub2 : ∀ a, AvOf I (Dl.frz env) oa a → AvOf I env oa a := fun a z => .inl (sub a z)
  refine ⟨by rw [h.len]; unfold Dl.frz; rw [List.length_map], h.ext, oa, fun i xs e => absurd e frz_no, fun i j xs ys e => absurd e frz_no, fun i d e => ?_, fun p hp => Den.weak sub2 _ _ (h4 p hp)⟩
  have e2 : (env[i]?).map frzS = some (.val d) := by rw [← List.getElem?_map]; exact e
  obtain ⟨s, e3, e4⟩ := Option.map_eq_some_iff.mp e2
  cases s with
  | no => cases e4
  | val d' =>
    have ed := Slot.val.inj e4
    subst ed
    obtain ⟨v, q1, q2⟩ := h3 i d' e3
    exact ⟨v, q1, Den.weak sub2 _ _ q2⟩
  | own xs =>
    have ed := Slot.val.inj e4
    subst ed
    obtain ⟨⟨vs, q1, q2, q3⟩, _, q5⟩ := h1 i xs e3
    refine ⟨_, q1, ?_⟩
    simp only [Den]
    exact ⟨_, vs, rfl, q2, fun z => q5 (I.sub _ (sub _ z)), DenA.weak sub2 _ _ q3⟩
/-- without written lists what is known weakly is known -/
theorem DenE.hold (h : DenE K I b σ H env) {v : V} {d : D} (dn : Den K I.own H v d) (kp : noOwn env = true ∨ d.noLst = true) : DenE K I ⟨b.H0, (v, d) :: b.hs⟩ σ H env := by
  obtain ⟨oa, h1, h2, h3, h4⟩ := h.slots
  refine ⟨h.len, h.ext, oa, h1, h2, h3, fun p hp => ?_⟩
  rcases List.mem_cons.mp hp with e | hp
  · subst e
    rcases kp with kp | kp
    · exact Den.weak (fun a z => z.elim id fun ⟨k, xs, e, _⟩ => absurd e (noOwn_get kp)) _ _ dn
    · refine Den.weak (fun a z => z) _ _ (Den.apart (P := fun a => ∃ (k : Nat) (xs : List D), env[k]? = some (Slot.own xs) ∧ a = oa k) (fun a ⟨k, xs, e, q⟩ => ?_) _ _ kp dn)
      obtain ⟨⟨vs, _, e2, _⟩, _⟩ := h1 k xs e
      rw [q]; exact ⟨vs, e2⟩
  · exact h4 p hp
theorem DenE.unhold {hw : List (V × D)} (h : DenE K I ⟨b.H0, hw ++ b.hs⟩ σ H env) : DenE K I b σ H env := by
  obtain ⟨oa, h1, h2, h3, h4⟩ := h.slots
  exact ⟨h.len, h.ext, oa, h1, h2, h3, fun p hp => h4 p (List.mem_append_right _ hp)⟩
theorem DenE.unhold1 {q : V × D} (h : DenE K I ⟨b.H0, q :: b.hs⟩ σ H env) : DenE K I b σ H env := DenE.unhold (hw := [q]) h
/-- a held value is stored -/
theorem DenE.putH {v : V} {d : D} (h : DenE K I ⟨b.H0, (v, d) :: b.hs⟩ σ H env) (i : Nat) : DenE K I b (σ.set i (some v)) H (env.set i (.val d)) := by
  obtain ⟨oa, h1, h2, h3, h4⟩ := h.slots
  have sub : ∀ a, AvOf I (env.set i (.val d)) oa a → AvOf I env oa a := fun a z => z.imp id fun ⟨j, xs, e, q⟩ => by
    rcases get_set e with ⟨_, e⟩ | ⟨_, e⟩
    · cases e
    · exact ⟨j, xs, e, q⟩
  refine ⟨by rw [List.length_set, List.length_set]; exact h.len, h.ext, oa, fun j xs e => ?_, fun j k xs ys e1 e2 => ?_, fun j d' e => ?_, fun p hp => Den.weak sub _ _ (h4 p (List.mem_cons_of_mem _ hp))⟩
  · rcases get_set e with ⟨_, e⟩ | ⟨ne, e⟩
    · cases e
    · obtain ⟨⟨vs, e1, e2, e3⟩, e4⟩ := h1 j xs e
      exact ⟨⟨vs, by rw [List.getElem?_set_ne (Ne.symm ne)]; exact e1, e2, DenA.weak sub _ _ e3⟩, e4⟩
  · rcases get_set e1 with ⟨_, e1⟩ | ⟨_, e1⟩
    · cases e1
    · rcases get_set e2 with ⟨_, e2⟩ | ⟨_, e2⟩
      · cases e2
      · exact h2 j k xs ys e1 e2
  · rcases get_set e with ⟨ej, ed⟩ | ⟨ne, e⟩
    · have hl : j < σ.length := by
        rw [h.len]
        have := (List.getElem?_eq_some_iff.mp e).1
        rwa [List.length_set] at this
      subst ej
      have ed := Slot.val.inj ed
      subst ed
      exact ⟨v, by rw [List.getElem?_set_self hl], Den.weak sub _ _ (h4 (v, d') List.mem_cons_self)⟩
    · obtain ⟨w, e1, e2⟩ := h3 j d' e
      exact ⟨w, by rw [List.getElem?_set_ne (Ne.symm ne)]; exact e1, Den.weak sub _ _ e2⟩
/-- the parts of a held tuple are held -/
theorem DenE.parts {v : V} {ds : List D} (h : DenE K I ⟨b.H0, (v, .tup ds) :: b.hs⟩ σ H env) : ∃ a vs, v = .ref a ∧ SqT K H a vs ∧ vs.length = ds.length ∧ DenE K I ⟨b.H0, vs.zip ds ++ b.hs⟩ σ H env := by
  obtain ⟨oa, h1, h2, h3, h4⟩ := h.slots
  have := h4 (v, .tup ds) List.mem_cons_self
  simp only [Den] at this
  obtain ⟨a, vs, e, s, n, r⟩ := this
  refine ⟨a, vs, e, s, r.len, h.len, h.ext, oa, h1, h2, h3, fun p hp => ?_⟩
  rcases List.mem_append.mp hp with hp | hp
  · obtain ⟨i, hi⟩ := List.mem_iff_getElem?.mp hp
    rw [List.getElem?_zip_eq_some] at hi
    obtain ⟨w, q1, q2⟩ := r.get hi.2
    rw [hi.1] at q1
    cases q1
    exact q2
  · exact h4 p (List.mem_cons_of_mem _ hp)
end

/-! ### targets -/
abbrev TGD := D → DEnv → (DEnv → Prop) → Prop
def wG (X : Cx) (tg : Expr) : TG := fun v σ H Q => ∀ pins s u, Inv X pins σ H s → RelV v u → wpAny (model X.prog X.w) X.A (assign tg X.env u) (fun _ s' => ∃ σ' H', Inv X pins σ' H' s' ∧ Q σ' H') X.xe s
def SG (K : PySem.W.Frag) (g : Gx) (gt : TG) (gd : TGD) : Prop :=
  ∀ (b : B0) (σ : L2.St) (H : Hp) (env : DEnv) (v : V) (d : D) (Qd : DEnv → Prop) (Q : L2.St → Hp → Prop), DenE K g.I ⟨b.H0, (v, d) :: b.hs⟩ σ H env → gd d env Qd → (∀ σ' H' env', DenE K g.I b σ' H' env' → Ext g.I H H' → Qd env' → Q σ' H') → gt v σ H Q
def PGD (X : Cx) (g : Gx) (tg : Expr) (gd : TGD) : Prop := SG X.K g (wG X tg) gd
section
variable {X : Cx} {g : Gx} {tg : Expr} {pos : Pos} {gt : TG} {gd : TGD}
theorem pg_w : PG X tg (wG X tg) := ⟨fun pins s σ H v u Q J r h => h pins s u J r⟩
theorem pgd_of (p : PG X tg gt) (h : SG X.K g gt gd) : PGD X g tg gd := fun b σ H env v d Qd Q hd ht k pins s u J r => p.run pins s σ H v u Q J r (h b σ H env v d Qd Q hd ht k)
def gdName (i : Nat) : TGD := fun d env Q => Q (env.set i (.val d))
theorem sg_name {K : PySem.W.Frag} {i : Nat} : SG K g (gName i) (gdName i) := fun b σ H env v d Qd Q hd h k => k _ _ _ (hd.putH i) (.refl hd.ok) h
theorem dg_name {i : Nat} {x : Str} (hN : X.N.Nodup) (hi : X.N[i]? = some x) (hx : Loc X.env.scope x) (hf : X.fn x = true ∨ X.env.scope.names.lookup x = some .local := by first | exact .inl rfl | exact .inr rfl | assumption) : PGD X g (.Name x pos) (gdName i) :=
  pgd_of (pg_name hN hi hx hf) sg_name
/-- names, one behind another -/
def putAll : List Nat → List D → DEnv → DEnv
  | i :: is, d :: ds, env => putAll is ds (env.set i (.val d))
  | _, _, env => env
def gNames : List Nat → TGs
  | [] => gNil
  | i :: is => gCons (gName i) (gNames is)
def gdTup (is : List Nat) : TGD := fun d env Q => ∃ ds, d = .tup ds ∧ ds.length = is.length ∧ Q (putAll is ds env)
theorem sg_names {K : PySem.W.Frag} {I : HI} : ∀ (is : List Nat) (b : B0) (σ : L2.St) (H : Hp) (env : DEnv) (vs : List V) (ds : List D) (Q : L2.St → Hp → Prop), vs.length = ds.length → ds.length = is.length →
    DenE K I ⟨b.H0, vs.zip ds ++ b.hs⟩ σ H env → (∀ σ', DenE K I b σ' H (putAll is ds env) → Q σ' H) → gNames is vs σ H Q
  | [], b, σ, H, env, vs, ds, Q, h1, h2, hd, k => by
    have e1 : ds = [] := List.length_eq_zero_iff.mp h2
    subst e1
    have e2 : vs = [] := List.length_eq_zero_iff.mp h1
    subst e2
    exact ⟨rfl, k σ hd⟩
  | i :: is, b, σ, H, env, [], d :: ds, Q, h1, h2, hd, k => by cases h1
  | i :: is, b, σ, H, env, vs, [], Q, h1, h2, hd, k => by cases h2
  | i :: is, b, σ, H, env, v :: vs, d :: ds, Q, h1, h2, hd, k =>
    ⟨v, vs, rfl, sg_names is b _ H _ vs ds Q (Nat.succ.inj h1) (Nat.succ.inj h2) (DenE.putH (b := ⟨b.H0, vs.zip ds ++ b.hs⟩) hd i) k⟩
theorem sg_tup {K : PySem.W.Frag} {is : List Nat} : SG K g (gTup K is.length (gNames is)) (gdTup is) := fun b σ H env v d Qd Q hd ⟨ds, e, hl, h⟩ k => by
  subst e
  obtain ⟨a, vs, ev, s, hl2, hd2⟩ := hd.parts
  exact ⟨a, vs, ev, s, hl2.trans hl, sg_names is b σ H env vs ds Q hl2 hl hd2 fun σ' hd3 => k σ' H _ hd3 (.refl hd.ok) h⟩
theorem dg_tup {es : List Expr} {k : Nat} {is : List Nat} (hc : X.calm = true) (h : PGs X es (gNames is)) (hn : (assignEach es X.env).length = is.length := by rfl) (hst : List.findIdx? (fun x => x.fst) (assignEach es X.env) = none := by rfl) : PGD X g (.Tuple es k pos) (gdTup is) :=
  pgd_of (pg_tup (pos := pos) (k := k) (n := is.length) hc h hn hst) sg_tup
end

/-! ### what is walked -/
def ItD (K : PySem.W.Frag) (J : It) (hw : List (V × D)) (ds : List D) : Prop :=
  ∀ (Av : Addr → Prop) (H : Hp), (∀ p ∈ hw, Den K Av H p.1 p.2) → (∀ a, Av a → H a ≠ none) →
    (∀ i, i < ds.length → J.go i H ∧ ∀ x H', J.yld i H x H' → Kp (fun _ => False) H H' ∧ ∃ d, ds[i]? = some d ∧ Den K Av H' x d) ∧ J.stop ds.length H
abbrev TID := DEnv → (List D → Prop) → Prop
def wI (X : Cx) (tg it : Expr) : TI := fun σ H R => ∀ pins s, Inv X pins σ H s → wpAny (model X.prog X.w) X.A (eval it X.env) (fun v s1 => wpAny (model X.prog X.w) X.A (pyIter v) (PIE X pins σ tg R) X.xe s1) X.xe s
def SI (K : PySem.W.Frag) (g : Gx) (wi : TI) (td : TID) : Prop :=
  ∀ (b : B0) (σ : L2.St) (H : Hp) (env : DEnv) (Qd : List D → Prop) (R : It → Hp → Prop), DenE K g.I b σ H env → XL K g b → td env Qd →
    (∀ J H' hw ds, DenE K g.I ⟨b.H0, hw ++ b.hs⟩ σ H' env → Ext g.I H H' → ItD K J hw ds → Qd ds → R J H') → wi σ H R
def PID (X : Cx) (g : Gx) (tg it : Expr) (td : TID) : Prop := SI X.K g (wI X tg it) td
section
variable {X : Cx} {g : Gx} {tg it e a : Expr} {es : List Expr} {pos p : Pos} {wi : TI} {td : TED} {tid : TID} {tas : TAD}
theorem pi_w : PI X tg it (wI X tg it) := ⟨fun pins s σ H R J h => h pins s J⟩
theorem pid_of (p : PI X tg it wi) (h : SI X.K g wi tid) : PID X g tg it tid := fun b σ H env Qd R hd xl ht k pins s J => p.run pins s σ H R J (h b σ H env Qd R hd xl ht k)
theorem itd_list {K : PySem.W.Frag} {a : Addr} {ds : List D} : ItD K (Itl K a) [(.ref a, .lst ds)] ds := fun Av H hw _ => by
  have := hw _ List.mem_cons_self
  simp only [Den] at this
  obtain ⟨a', vs, e, s, n, r⟩ := this
  cases e
  refine ⟨fun i hi => ?_, vs, SqL.of s, by rw [r.len]; exact Nat.le_refl _⟩
  obtain ⟨v, q1, q2⟩ := r.get (List.getElem?_eq_getElem hi)
  exact ⟨⟨vs, v, SqL.of s, q1⟩, fun x H' ⟨e, y⟩ => by
    subst e
    have := y vs (SqL.of s)
    rw [q1] at this
    cases this
    exact ⟨Kp.refl, _, List.getElem?_eq_getElem hi, q2⟩⟩
theorem itd_tup {K : PySem.W.Frag} {a : Addr} {ds : List D} : ItD K (Itt K a) [(.ref a, .tup ds)] ds := fun Av H hw _ => by
  have := hw _ List.mem_cons_self
  simp only [Den] at this
  obtain ⟨a', vs, e, s, n, r⟩ := this
  cases e
  refine ⟨fun i hi => ?_, vs, s, by rw [r.len]; exact Nat.le_refl _⟩
  obtain ⟨v, q1, q2⟩ := r.get (List.getElem?_eq_getElem hi)
  exact ⟨⟨vs, v, s, q1⟩, fun x H' ⟨e, y⟩ => by
    subst e
    have := y vs s
    rw [q1] at this
    cases this
    exact ⟨Kp.refl, _, List.getElem?_eq_getElem hi, q2⟩⟩
def rngD (lo : Int) (n : Nat) : List D := (List.range n).map fun (i : Nat) => D.int (lo + (i : Int))
theorem rngD_len {lo : Int} {n : Nat} : (rngD lo n).length = n := by simp [rngD]
theorem rngD_get {lo : Int} {n i : Nat} (h : i < n) : (rngD lo n)[i]? = some (.int (lo + (i : Int))) := by simp [rngD, h]
theorem itd_rng {K : PySem.W.Frag} {lo : Int} {n : Nat} : ItD K (Itr lo n) [] (rngD lo n) := fun Av H hw _ => by
  refine ⟨fun i hi => ?_, by rw [rngD_len]; exact Nat.le_refl n⟩
  rw [rngD_len] at hi
  exact ⟨hi, fun x H' ⟨e, y⟩ => by
    subst e y
    exact ⟨Kp.refl, _, rngD_get hi, by simp only [Den]⟩⟩
/-- a list or a tuple, by whatever names it -/
def iSeq (K : PySem.W.Frag) (tl : TE) : TI := fun σ H R => tl σ H fun x H1 => (∃ a, x = .ref a ∧ (∃ xs, SqL K H1 a xs) ∧ R (Itl K a) H1) ∨ ∃ a, x = .ref a ∧ (∃ xs, SqT K H1 a xs) ∧ R (Itt K a) H1
theorem pi_seq {l : Expr} {tl : TE} (hl : PE X l tl) : PI X tg l (iSeq X.K tl) := by
  refine ⟨fun pins s σ H R I h => ?_⟩
  refine thn (hl.run pins s σ H _ I h) fun v s1 ⟨x, H1, I1, r1, q1⟩ => ?_
  rcases q1 with ⟨a, e, ⟨xs, hq⟩, q⟩ | ⟨a, e, ⟨xs, hq⟩, q⟩
  · subst e
    cases r1
    obtain ⟨its, rv, p, hz⟩ := I1.list hq
    refine wpAny_pyIter_list p.isList ?_
    refine ⟨s1.heap.objs.size, [s1.heap.objs.size], _, _, H1, rfl, I1.kept (t' := s1.toks) fun b o e => Heap.get?_push_of_some _ e, turn_list a _, ⟨_, Heap.get?_push_size _ rfl, rfl, rfl⟩, fun b hb => ?_, q⟩
    have e : b = s1.heap.objs.size := by simpa using hb
    subst e
    exact I1.fpOk (Nat.le_refl _) (I1.hok.fresh (Nat.le_refl _))
  · subst e
    cases r1
    obtain ⟨its, rv, p, hz⟩ := I1.tuple hq
    refine wpAny_pyIter_tuple (show s1.heap.IsTuple a its.toArray from p) ?_
    refine ⟨s1.heap.objs.size, [s1.heap.objs.size], _, _, H1, rfl, I1.kept (t' := s1.toks) fun b o e => Heap.get?_push_of_some _ e, turn_tuple a _, ⟨_, Heap.get?_push_size _ rfl, rfl, rfl⟩, fun b hb => ?_, q⟩
    have e : b = s1.heap.objs.size := by simpa using hb
    subst e
    exact I1.fpOk (Nat.le_refl _) (I1.hok.fresh (Nat.le_refl _))
def seqOf : D → Option (List D)
  | .tup xs => some xs
  | .lst xs => some xs
  | _ => none
def idSeq (td : TED) : TID := fun env Q => td env fun d => (noOwn env = true ∨ d.noLst = true) ∧ ∃ ds, seqOf d = some ds ∧ Q ds
theorem si_seq {K : PySem.W.Frag} {b : B0} {σ : L2.St} {H : Hp} {env : DEnv} {I : HI} {R : It → Hp → Prop} {v : V} {d : D} {ds : List D} (hd : DenE K I ⟨b.H0, (v, d) :: b.hs⟩ σ H env) (hs : seqOf d = some ds)
    (k : ∀ J hw, DenE K I ⟨b.H0, hw ++ b.hs⟩ σ H env → ItD K J hw ds → R J H) : (∃ a, v = .ref a ∧ (∃ xs, SqL K H a xs) ∧ R (Itl K a) H) ∨ ∃ a, v = .ref a ∧ (∃ xs, SqT K H a xs) ∧ R (Itt K a) H := by
  obtain ⟨oa, h1, h2, h3, h4⟩ := hd.slots
  have dn := h4 _ List.mem_cons_self
  cases d <;> simp only [seqOf, Option.some.injEq] at hs <;> simp only [Den] at dn
  case tup xs =>
    subst hs
    obtain ⟨a, vs, rfl, s, n, r⟩ := dn
    exact .inr ⟨a, rfl, ⟨vs, s⟩, k _ _ hd itd_tup⟩
  case lst xs =>
    subst hs
    obtain ⟨a, vs, rfl, s, n, r⟩ := dn
    exact .inl ⟨a, rfl, ⟨vs, SqL.of s⟩, k _ _ hd itd_list⟩
  all_goals cases hs
theorem di_seq (he : PED X g e td) : PID X g tg e (idSeq td) := pid_of (pi_seq pe_w) fun b σ H env Qd R hd xl ht k =>
  he b σ H env _ _ hd xl ht fun v d H1 e1 dn ⟨kp, ds, hs, q⟩ => si_seq ((hd.mono e1).hold dn kp) hs fun J hw hd2 it => k J H1 hw ds hd2 e1 it q
/-- a name that holds a list that is not written here -/
def idVar (i : Nat) : TID := fun env Q => ∃ d ds, env[i]? = some (.val d) ∧ seqOf d = some ds ∧ Q ds
theorem di_var (i : Nat) {x : Str} (hN : X.N[i]? = some x := by rfl) (hv : Vis X.env.scope x := by first | exact Or.inl rfl | exact Or.inr (Or.inl rfl) | exact Or.inr (Or.inr rfl)) (hd : (x == ("__debug__" : Str)) = false := by decide)
    (hcd : (x == ("__classdict__" : Str)) = false := by decide) : PID X g tg (.Name x p) (idVar i) := pid_of (pi_seq (pe_var hN hv hd hcd)) fun b σ H env Qd R hd xl ⟨d, ds, e, hs, q⟩ k => by
  obtain ⟨oa, h1, h2, h3, h4⟩ := hd.slots
  obtain ⟨v, q1, q2⟩ := h3 i d e
  refine ⟨v, q1, si_seq (b := b) (env := env) (σ := σ) (d := d) ⟨hd.len, hd.ext, oa, h1, h2, h3, fun p hp => ?_⟩ hs fun J hw hd2 it => k J H hw ds hd2 (.refl hd.ok) it q⟩
  rcases List.mem_cons.mp hp with z | hp
  · rw [z]; exact q2
  · exact h4 p hp
def idRng1 (ta : TAD) : TID := fun env Q => ta env fun xs => ∃ j : Int, xs = [.int j] ∧ (-(2 ^ 62) ≤ j ∧ j < 2 ^ 62) ∧ Q (rngD 0 j.toNat)
def idRng2 (ta : TAD) : TID := fun env Q => ta env fun xs => ∃ i j : Int, xs = [.int i, .int j] ∧ (-(2 ^ 62) ≤ i ∧ i < 2 ^ 62 ∧ -(2 ^ 62) ≤ j ∧ j < 2 ^ 62) ∧ Q (rngD i (j - i).toNat)
theorem di_range1 (hg : Gl X "range") (hm : X.mg "range" = none) (ha : PAD X g [a] tas) (hs : starEach [a] X.env = [(false, eval a X.env)] := by rfl) : PID X g tg (.Call (.Name "range" p) [a] [] pos) (idRng1 tas) :=
  pid_of (pi_range1 hg hm pa_w hs) fun b σ H env Qd R hd xl ht k => ha b σ H env _ _ hd xl ht fun vs ds H1 e1 dn ⟨j, e, hj, q⟩ => by
    subst e
    obtain ⟨v, rfl, d1⟩ := dn.one1
    simp only [Den] at d1
    subst d1
    exact ⟨j, rfl, hj.1, hj.2, k _ H1 [] _ (hd.mono e1) e1 itd_rng q⟩
theorem di_range2 {a2 : Expr} (hg : Gl X "range") (hm : X.mg "range" = none) (ha : PAD X g [a, a2] tas) (hs : starEach [a, a2] X.env = [(false, eval a X.env), (false, eval a2 X.env)] := by rfl) (hs2 : starEach [a2] X.env = [(false, eval a2 X.env)] := by rfl) :
    PID X g tg (.Call (.Name "range" p) [a, a2] [] pos) (idRng2 tas) :=
  pid_of (pi_range2 hg hm pa_w hs hs2) fun b σ H env Qd R hd xl ht k => ha b σ H env _ _ hd xl ht fun vs ds H1 e1 dn ⟨i, j, e, hj, q⟩ => by
    subst e
    obtain ⟨v, r, rfl, d1, d2⟩ := dn.cons
    obtain ⟨w, rfl, d3⟩ := d2.one1
    simp only [Den] at d1 d3
    subst d1 d3
    exact ⟨i, j, rfl, hj, k _ H1 [] _ (hd.mono e1) e1 itd_rng q⟩
end

/-! ### for -/
def forD (gd : TGD) (tb : TSD) (Dd : DEnds) : List D → DEnv → Prop
  | [], env => Dd.nx env
  | x :: xs, env => gd x env (tb { Dd with nx := forD gd tb Dd xs, ct := forD gd tb Dd xs, bk := Dd.nx })
def sFor (tid : TID) (gd : TGD) (tb : TSD) : TSD := fun Dd env => tid env fun ds => forD gd tb Dd ds env
section
variable {X : Cx} {g : Gx} {tg it : Expr} {body : List Stmt} {pos : Pos} {tid : TID} {gd : TGD} {tb : TSD}
theorem ds_for (hp : PassesOwn (model X.prog X.w) X.A X.env X.xe) (hc : X.calm = true) (hi : PID X g tg it tid) (hg : PGD X g tg gd) (hb : PSsD X g body tb) (hs : ∀ x, foldedSetIterable it X.env x = pure x := by intro _; rfl) :
    PSD X g (.For tg it body [] pos) (sFor tid gd tb) := psd_of (ps_for hp hc pi_w pg_w pss_w hs) fun b σ H env Dd E hd xl h el =>
  hi b σ H env _ _ hd xl h fun J H1 hw ds hd1 e1 it0 q => by
    refine ⟨fun i m σ' H' => m = ds.length - i ∧ i ≤ ds.length ∧ ∃ env', DenE X.K g.I ⟨b.H0, hw ++ b.hs⟩ σ' H' env' ∧ forD gd tb Dd (ds.drop i) env', ⟨ds.length, by simp, Nat.zero_le _, env, hd1, by simpa using q⟩, ?_⟩
    rintro i m σ' H' ⟨rfl, hi', env', hd', q'⟩
    obtain ⟨oa, h1, h2, h3, h4⟩ := hd'.slots
    have hav : ∀ a, AvOf g.I env' oa a → H' a ≠ none := fun a z => by
      rcases z with z | ⟨k, xs, e, q⟩
      · exact g.I.dom H' a hd'.ok (g.I.sub a z)
      · obtain ⟨⟨vs, _, e2, _⟩, _⟩ := h1 k xs e
        rw [q, e2]; exact fun z => nomatch z
    have IT := it0 (AvOf g.I env' oa) H' (fun p hp => h4 p (List.mem_append_left _ hp)) hav
    by_cases hlt : i < ds.length
    · refine .inr ⟨(IT.1 i hlt).1, fun σ2 H2 => ∃ env2, DenE X.K g.I ⟨b.H0, hw ++ b.hs⟩ σ2 H2 env2 ∧ forD gd tb Dd (ds.drop (i + 1)) env2, fun σ2 H2 ⟨env2, p1, p2⟩ => ⟨ds.length - (i + 1), by omega, rfl, hlt, env2, p1, p2⟩, fun x H2 y => ?_⟩
      obtain ⟨kn, d, hd2, dn⟩ := (IT.1 i hlt).2 x H2 y
      have e2 : Ext g.I H' H2 := .ofNew hd'.ok kn
      have q2 : forD gd tb Dd (d :: ds.drop (i + 1)) env' := by
        rw [List.drop_eq_getElem_cons hlt] at q'
        have : d = ds[i] := by
          rw [List.getElem?_eq_getElem hlt] at hd2
          exact (Option.some.inj hd2).symm
        rw [this]; exact q'
      have hd3 := hd'.mono e2
      have held : DenE X.K g.I ⟨b.H0, (x, d) :: (hw ++ b.hs)⟩ σ' H2 env' := by
        have kp : Kp (AvOf g.I env' oa) H' H2 := kn.weak fun _ z => z.elim
        refine ⟨hd3.len, hd3.ext, oa, fun i xs q => ?_, h2, fun i d q => ?_, fun p hp => ?_⟩
        · obtain ⟨⟨vs, e1, e2, e3⟩, e4⟩ := h1 i xs q
          exact ⟨⟨vs, e1, kn _ _ id e2, DenA.keep kp _ _ e3⟩, e4⟩
        · obtain ⟨v, e1, e2⟩ := h3 i d q
          exact ⟨v, e1, Den.keep kp _ _ e2⟩
        · rcases List.mem_cons.mp hp with z | hp
          · rw [z]; exact dn
          · exact Den.keep kp _ _ (h4 p hp)
      refine hg ⟨b.H0, hw ++ b.hs⟩ σ' H2 env' x d _ _ held q2 fun σ3 H3 env3 hd4 e3 q3 => ?_
      refine hb ⟨b.H0, hw ++ b.hs⟩ σ3 H3 env3 _ _ hd4 (fun σ4 H4 env4 xx d4 H5 p1 p2 p3 p4 => xl σ4 H4 env4 xx d4 H5 p1.unhold p2 p3 p4) q3 ⟨fun σ4 H4 env4 p1 p2 => ⟨env4, p1, p2⟩, el.rt, fun σ4 H4 env4 p1 p2 => el.nx _ _ _ p1.unhold p2, fun σ4 H4 env4 p1 p2 => ⟨env4, p1, p2⟩⟩
    · have ei : i = ds.length := by omega
      subst ei
      rw [List.drop_length] at q'
      exact .inl ⟨IT.2, el.nx _ _ _ hd'.unhold q'⟩
end
end Dl
namespace Dl
open PySem PySem.Spec PyProof.Rows L2

/-! ### a new list -/
abbrev TFD := DEnv → (List D → Prop) → Prop
def SF (K : PySem.W.Frag) (g : Gx) (te : TE) (td : TFD) : Prop :=
  ∀ (b : B0) (σ : L2.St) (H : Hp) (env : DEnv) (Qd : List D → Prop) (Q : VK), DenE K g.I b σ H env → XL K g b → td env Qd →
    (∀ p vs ds H', H p = none → Ext g.I H H' → H' p = some (.lst vs) → DenA K (fun a => g.I.own a ∨ a = p) H' vs ds → Qd ds → Q (.ref p) H') → te σ H Q
def PFD (X : Cx) (g : Gx) (e : Expr) (td : TFD) : Prop := SF X.K g (wE X e) td
def dF (td : TFD) : TED := fun env Q => td env fun ds => Q (.lst ds)
theorem SF.se {K : PySem.W.Frag} {g : Gx} {te : TE} {td : TFD} (h : SF K g te td) : SE K g te (dF td) := fun b σ H env Qd Q hd xl ht k =>
  h b σ H env _ _ hd xl ht fun p vs ds H' hp e hl dn q => k _ _ H' e (by
    simp only [Den]
    exact ⟨p, vs, rfl, hl, HI.nown hd.ok hp, DenA.weak (fun a z => .inl z) _ _ dn⟩) q

/-! ### comprehensions -/
def wBE (X : Cx) (sc : Scope) (e : Expr) : TE := fun σ H Q => ∀ s0 H0 C cl fp pins s, Inv (X.blk s0 H0 sc (compEnvC sc cl C X.env) fp) pins σ H s → wpAny (model X.prog X.w) X.A (eval e (compEnvC sc cl C X.env)) (EP (X.blk s0 H0 sc (compEnvC sc cl C X.env) fp) pins σ Q) (fun _ _ => False) s
def wBT (X : Cx) (sc : Scope) (es : List Expr) : TT := fun σ H Q => ∀ s0 H0 C cl fp pins s, Inv (X.blk s0 H0 sc (compEnvC sc cl C X.env) fp) pins σ H s →
  wpAny (model X.prog X.w) X.A (forIn es true fun c r => if r = true then do let ok ← isTrue c (compEnvC sc cl C X.env) (eval c (compEnvC sc cl C X.env)); pure (ForInStep.yield ok) else pure (ForInStep.yield r)) (TP (X.blk s0 H0 sc (compEnvC sc cl C X.env) fp) pins σ Q) (fun _ _ => False) s
def dYes : TTD := fun _ Q => Q true
section
variable {X : Cx} {g : Gx} {sc : Scope} {e c : Expr} {td : TED} {tt : TTD}
theorem pe_blk {s : Shared} {H : Hp} {C : Addr} {cl : List (Str × Addr)} {fp : List Addr} : PE (X.blk s H sc (compEnvC sc cl C X.env) fp) e (wBE X sc e) := ⟨fun pins s σ H Q I h => h _ _ _ _ _ pins s I⟩
theorem pt_blk {es : List Expr} {s : Shared} {H : Hp} {C : Addr} {cl : List (Str × Addr)} {fp : List Addr} : PTs (X.blk s H sc (compEnvC sc cl C X.env) fp) es (wBT X sc es) := ⟨fun pins s σ H Q I h => h _ _ _ _ _ pins s I⟩
theorem be_of (h : ∀ (s : Shared) (H : Hp) (C : Addr) (cl : List (Str × Addr)) (fp : List Addr), PED (X.blk s H sc (compEnvC sc cl C X.env) fp) g.nox e td) : SE X.K g.nox (wBE X sc e) td :=
  fun b σ H env Qd Q hd xl ht k s0 H0 C cl fp pins s J => h s0 H0 C cl fp b σ H env Qd Q hd xl ht k pins s J
theorem bt_nil : ST X.K g.nox (wBT X sc []) dYes := fun b σ H env Qd Q hd xl ht k s0 H0 C cl fp pins s J => pts_nil.run pins s σ H Q J (k true H (.refl hd.ok) ht)
theorem bt_one (h : ∀ (s : Shared) (H : Hp) (C : Addr) (cl : List (Str × Addr)) (fp : List Addr), PTD (X.blk s H sc (compEnvC sc cl C X.env) fp) g.nox c tt) : ST X.K g.nox (wBT X sc [c]) tt :=
  fun b σ H env Qd Q hd xl ht k s0 H0 C cl fp pins s J => (pts_one pt_w).run pins s σ H Q J (h s0 H0 C cl fp b σ H env Qd Q hd xl ht k)
end
def wipeD (env : DEnv) : List Nat → DEnv
  | [] => env
  | v :: vs => (wipeD env vs).set v .no
def lcD (gd : TGD) (tt : TTD) (te : TED) (env : DEnv) : List D → List D → (List D → Prop) → Prop
  | [], acc, Q => Q acc
  | x :: xs, acc, Q => gd x env fun env2 => tt env2 fun b => if b = true then te env2 fun y => y.noLst = true ∧ lcD gd tt te env xs (acc ++ [y]) Q else lcD gd tt te env xs acc Q
def fLc (tid : TID) (gd : TGD) (tt : TTD) (te : TED) (vs : List Nat) : TFD := fun env Q => tid (frz env) fun ds => ds.length ≤ 1000000 ∧ lcD gd tt te (wipeD (frz env) vs) ds [] Q
/-- a target that stores into the block's own slots alone -/
def GW (gt : TG) (vs : List Nat) : Prop := ∀ v σ H Q, gt v σ H Q → gt v σ H fun σ2 H2 => wipe σ2 vs = wipe σ vs ∧ Q σ2 H2
theorem wipe_set {σ : L2.St} {i : Nat} {x : Option V} : ∀ {vs : List Nat}, wipe (σ.set i x) vs = if i ∈ vs then wipe σ vs else (wipe σ vs).set i x
  | [] => by simp [wipe]
  | v :: vs => by
    unfold wipe
    rw [wipe_set]
    by_cases h : i ∈ vs
    · rw [if_pos h, if_pos (List.mem_cons_of_mem _ h)]
    · rw [if_neg h]
      by_cases e : i = v
      · subst e
        rw [if_pos List.mem_cons_self, List.set_set]
      · rw [if_neg (fun z => (List.mem_cons.mp z).elim e h), List.set_comm _ _ e]
theorem gw_name {i : Nat} {vs : List Nat} (h : i ∈ vs) : GW (gName i) vs := fun v σ H Q q => ⟨by rw [wipe_set, if_pos h], q⟩
theorem gw_names {vs : List Nat} : ∀ {is : List Nat}, (∀ i ∈ is, i ∈ vs) → ∀ ws σ H Q, gNames is ws σ H Q → gNames is ws σ H fun σ2 H2 => wipe σ2 vs = wipe σ vs ∧ Q σ2 H2
  | [], _, ws, σ, H, Q, q => ⟨q.1, rfl, q.2⟩
  | i :: is, h, ws, σ, H, Q, ⟨v, r, e, q⟩ => by
    refine ⟨v, r, e, ?_⟩
    have := gw_names (is := is) (fun j hj => h j (List.mem_cons_of_mem _ hj)) r (σ.set i (some v)) H Q q
    rw [wipe_set, if_pos (h i List.mem_cons_self)] at this
    exact this
theorem gw_tup {K : PySem.W.Frag} {n : Nat} {is vs : List Nat} (h : ∀ i ∈ is, i ∈ vs) : GW (gTup K n (gNames is)) vs := fun v σ H Q ⟨a, xs, e, s, hl, q⟩ => ⟨a, xs, e, s, hl, gw_names h xs σ H Q q⟩
theorem wipe_idem {σ : L2.St} : ∀ vs : List Nat, wipe (wipe σ vs) vs = wipe σ vs := by
  have key : ∀ (ws : List Nat) (τ : L2.St) (vs : List Nat), (∀ w ∈ ws, w ∈ vs) → wipe (wipe τ ws) vs = wipe τ vs := by
    intro ws
    induction ws with
    | nil => intro τ vs _; rfl
    | cons w ws ih =>
      intro τ vs h
      show wipe ((wipe τ ws).set w none) vs = _
      rw [wipe_set, if_pos (h w List.mem_cons_self)]
      exact ih τ vs fun v hv => h v (List.mem_cons_of_mem _ hv)
  exact fun vs => key vs σ vs fun _ h => h
section
variable {K : PySem.W.Frag} {I : HI} {b : B0} {σ : L2.St} {H H' : Hp} {env : DEnv}
theorem DenE.clear (h : DenE K I b σ H env) (i : Nat) : DenE K I b (σ.set i none) H (env.set i .no) := by
  obtain ⟨oa, h1, h2, h3, h4⟩ := h.slots
  have sub : ∀ a, AvOf I (env.set i .no) oa a → AvOf I env oa a := fun a z => z.imp id fun ⟨j, xs, e, q⟩ => by
    rcases get_set e with ⟨_, e⟩ | ⟨_, e⟩
    · cases e
    · exact ⟨j, xs, e, q⟩
  refine ⟨by rw [List.length_set, List.length_set]; exact h.len, h.ext, oa, fun j xs e => ?_, fun j k xs ys e1 e2 => ?_, fun j d' e => ?_, fun p hp => Den.weak sub _ _ (h4 p hp)⟩
  · rcases get_set e with ⟨_, e⟩ | ⟨ne, e⟩
    · cases e
    · obtain ⟨⟨vs, e1, e2, e3⟩, e4⟩ := h1 j xs e
      exact ⟨⟨vs, by rw [List.getElem?_set_ne (Ne.symm ne)]; exact e1, e2, DenA.weak sub _ _ e3⟩, e4⟩
  · rcases get_set e1 with ⟨_, e1⟩ | ⟨_, e1⟩
    · cases e1
    · rcases get_set e2 with ⟨_, e2⟩ | ⟨_, e2⟩
      · cases e2
      · exact h2 j k xs ys e1 e2
  · rcases get_set e with ⟨_, ed⟩ | ⟨ne, e⟩
    · cases ed
    · obtain ⟨w, e1, e2⟩ := h3 j d' e
      exact ⟨w, by rw [List.getElem?_set_ne (Ne.symm ne)]; exact e1, Den.weak sub _ _ e2⟩
theorem DenE.wiped (h : DenE K I b σ H env) : ∀ vs : List Nat, DenE K I b (wipe σ vs) H (wipeD env vs)
  | [] => h
  | v :: vs => (DenE.wiped h vs).clear v
theorem DenE.rebase {hw : List (V × D)} (h : DenE K I ⟨b.H0, hw ++ b.hs⟩ σ H env) (n : noOwn env = true) : DenE K I ⟨H, hw⟩ σ H env := by
  obtain ⟨oa, h1, h2, h3, h4⟩ := h.slots
  exact ⟨h.len, .refl h.ok, oa, fun i xs e => absurd e (noOwn_get n), h2, h3, fun p hp => h4 p (List.mem_append_left _ hp)⟩
theorem noOwn_wipe {env : DEnv} (h : noOwn env = true) : ∀ vs : List Nat, noOwn (wipeD env vs) = true
  | [] => h
  | v :: vs => by
    have ih := noOwn_wipe h vs
    show noOwn ((wipeD env vs).set v .no) = true
    generalize wipeD env vs = e at ih
    clear h
    induction e generalizing v with
    | nil => simp [noOwn]
    | cons s r ihr =>
      cases v with
      | zero => cases s <;> simp_all [noOwn]
      | succ v => cases s <;> simp_all [noOwn]
end
theorem sf_lc {K : PySem.W.Frag} {g : Gx} {wi : TI} {gt : TG} {tt : TT} {te : TE} {vs : List Nat} {tid : TID} {gd : TGD} {td : TTD} {ed : TED} (hi : SI K g wi tid) (hg : SG K g.nox gt gd) (hw : GW gt vs) (ht : ST K g.nox tt td) (he : SE K g.nox te ed) :
    SF K g (tLc wi gt tt te vs) (fLc tid gd td ed vs) := fun b σ H env Qd Q hd xl hq k => by
  refine hi b σ H (frz env) _ _ hd.frz xl hq fun J H1 hws ds hd1 e1 it0 ⟨hlen, q⟩ => ?_
  intro D hD
  have hH : H D = none := e1.back hD
  have hE : DenE K g.I ⟨H1, hws⟩ (wipe σ vs) H1 (wipeD (frz env) vs) := (hd1.rebase (noOwn_frz env)).wiped vs
  have hno := noOwn_wipe (noOwn_frz env) vs
  have nD : ¬ g.I.own D := HI.nown e1.2 hD
  refine ⟨fun i m H' => m = ds.length - i ∧ i ≤ ds.length ∧ ∃ acc avs, H' D = some (.lst avs) ∧ avs.length ≤ i ∧ DenA K (fun a => g.I.own a ∨ a = D) H' avs acc ∧ Kp g.I.own H1 H' ∧ g.I.ok H' ∧ lcD gd td ed (wipeD (frz env) vs) (ds.drop i) acc Qd,
    ⟨ds.length, by simp, Nat.zero_le _, [], [], upd_same, Nat.zero_le _, by simp only [DenA], Kp.new hD, (Ext.new e1.2 hD).2, by simpa using q⟩, ?_⟩
  rintro i m H' ⟨rfl, hi', acc, avs, hl, hal, da, kp, ok, q'⟩
  have eH : Ext g.I H1 H' := ⟨kp, ok⟩
  have hE' := hE.mono eH
  obtain ⟨oa, h1, h2, h3, h4⟩ := id hE'.slots
  have IT := it0 g.I.own H' (fun p hp => Den.weak (fun a z => .inl z) _ _ (h4 p hp)) (fun a z => g.I.dom H' a ok (g.I.sub a z))
  by_cases hlt : i < ds.length
  · refine .inr ⟨(IT.1 i hlt).1, fun H2 => ∃ acc avs, H2 D = some (.lst avs) ∧ avs.length ≤ i + 1 ∧ DenA K (fun a => g.I.own a ∨ a = D) H2 avs acc ∧ Kp g.I.own H1 H2 ∧ g.I.ok H2 ∧ lcD gd td ed (wipeD (frz env) vs) (ds.drop (i + 1)) acc Qd,
      fun H2 h => ⟨ds.length - (i + 1), by omega, rfl, hlt, h⟩, fun x H2 y => ?_⟩
    obtain ⟨kn, d, hd2, dn⟩ := (IT.1 i hlt).2 x H2 y
    have e2 : Ext g.I H' H2 := .ofNew ok kn
    have q2 : lcD gd td ed (wipeD (frz env) vs) (d :: ds.drop (i + 1)) acc Qd := by
      rw [List.drop_eq_getElem_cons hlt] at q'
      have : d = ds[i] := by
        rw [List.getElem?_eq_getElem hlt] at hd2
        exact (Option.some.inj hd2).symm
      rw [this]; exact q'
    have held := (hE'.mono e2).hold dn (.inl hno)
    have wi2 : wipe (wipe σ vs) vs = wipe σ vs := wipe_idem vs
    refine (show gt x (wipe σ vs) H2 _ from ?_)
    have step := hw x (wipe σ vs) H2 _ (hg ⟨H1, hws⟩ (wipe σ vs) H2 _ x d _ (fun σ2 H3 => tt σ2 H3 fun b H4 => if b = true then te σ2 H4 fun y H5 => ∃ acc, H5 D = some (.lst acc) ∧ acc.length < sizeLine ∧
        (∃ acc' avs, (upd H5 D (.lst (acc ++ [y]))) D = some (.lst avs) ∧ avs.length ≤ i + 1 ∧ DenA K (fun a => g.I.own a ∨ a = D) (upd H5 D (.lst (acc ++ [y]))) avs acc' ∧ Kp g.I.own H1 (upd H5 D (.lst (acc ++ [y]))) ∧ g.I.ok (upd H5 D (.lst (acc ++ [y]))) ∧ lcD gd td ed (wipeD (frz env) vs) (ds.drop (i + 1)) acc' Qd)
        else ∃ acc avs, H4 D = some (.lst avs) ∧ avs.length ≤ i + 1 ∧ DenA K (fun a => g.I.own a ∨ a = D) H4 avs acc ∧ Kp g.I.own H1 H4 ∧ g.I.ok H4 ∧ lcD gd td ed (wipeD (frz env) vs) (ds.drop (i + 1)) acc Qd) held q2 fun σ3 H3 env3 hd3 e3 q3 => ?_)
    · rw [wi2] at step
      exact step
    · refine ht ⟨H1, hws⟩ σ3 H3 env3 _ _ hd3 XL.nox q3 fun c H4 e4 q4 => ?_
      have x4 : Ext g.I H' H4 := e2.trans (e3.trans e4)
      have l4 : H4 D = some (.lst avs) := x4.1 D _ nD hl
      have d4 : DenA K (fun a => g.I.own a ∨ a = D) H4 avs acc := DenA.keep (x4.1.weak fun a z => .inl z) _ _ da
      cases c with
      | false =>
        rw [if_neg Bool.false_ne_true] at q4 ⊢
        exact ⟨acc, avs, l4, by omega, d4, kp.trans x4.1, x4.2, q4⟩
      | true =>
        rw [if_pos rfl] at q4 ⊢
        refine he ⟨H1, hws⟩ σ3 H4 env3 _ _ (hd3.mono e4) XL.nox q4 fun yv yd H5 e5 dn5 ⟨nl, q5⟩ => ?_
        have l5 : H5 D = some (.lst avs) := e5.1 D _ nD l4
        have d5 : DenA K (fun a => g.I.own a ∨ a = D) H5 avs acc := DenA.keep (e5.1.weak fun a z => .inl z) _ _ d4
        have y5 : Den K (fun a => g.I.own a ∨ a = D) H5 yv yd := Den.apart (P := fun a => a = D) (fun a z => ⟨avs, by rw [z]; exact l5⟩) _ _ nl dn5
        have mu : Kp (fun a => g.I.own a ∨ a = D) H5 (upd H5 D (.lst (avs ++ [yv]))) := Kp.mut (.inr rfl)
        have k5 : Kp g.I.own H1 H5 := kp.trans (x4.1.trans e5.1)
        refine ⟨avs, l5, Nat.lt_of_le_of_lt hal (Nat.lt_of_lt_of_le hlt (Nat.le_trans hlen (by decide))), acc ++ [yd], avs ++ [yv], upd_same, by rw [List.length_append]; simpa using hal, DenA.keep mu _ _ (d5.app (.one y5)), fun a o n e => ?_, ?_, q5⟩
        · rw [upd_ne (ne_of_none e hD)]
          exact k5 a o n e
        · refine g.I.loc H5 _ (fun a f => upd_ne (fun z => ?_)) e5.2
          rw [z] at f
          exact g.I.dom H1 D e1.2 f hD
  · have ei : i = ds.length := by omega
    subst ei
    rw [List.drop_length] at q'
    exact .inl ⟨IT.2, k D avs acc H' hH (e1.trans eH) hl da q'⟩
section
variable {X : Cx} {g : Gx} {elt tg iter : Expr} {ifs : List Expr} {scope : Scope} {own : List (Str × Nat)} {pos : Pos} {gt : TG} {tid : TID} {gd : TGD} {td : TTD} {ed : TED}
theorem f_lc (hc : X.calm = true) (hN : X.N.Nodup) (hi : PID X g tg iter tid) (ok : BlkOk X.N X.env.scope scope own)
    (hg : ∀ (s : Shared) (H : Hp) (C : Addr) (cl : List (Str × Addr)) (fp : List Addr), PG (X.blk s H scope (compEnvC scope cl C X.env) fp) tg gt) (sg : SG X.K g.nox gt gd) (gw : GW gt (own.map (·.2)))
    (ht : ST X.K g.nox (wBT X scope ifs) td) (he : SE X.K g.nox (wBE X scope elt) ed) (hs : ∀ x, foldedSetIterable iter X.env x = pure x := by intro _; rfl) :
    PFD X g (.ListComp elt [⟨tg, iter, ifs, 0⟩] scope pos) (fLc tid gd td ed (own.map (·.2))) := fun b σ H env Qd Q hd xl hq k pins s J =>
  (pe_lc hc hN pi_w ok hg (fun _ _ _ _ _ => pt_blk) (fun _ _ _ _ _ => pe_blk) hs).run pins s σ H Q J (sf_lc hi sg gw ht he b σ H env Qd Q hd xl hq k)
end
end Dl
namespace Dl
open PySem PySem.Spec PyProof.Rows L2

def up (oa : Nat → Addr) (i : Nat) (p : Addr) : Nat → Addr := fun k => if k = i then p else oa k
theorem up_same {oa : Nat → Addr} {i : Nat} {p : Addr} : up oa i p i = p := if_pos rfl
theorem up_ne {oa : Nat → Addr} {i k : Nat} {p : Addr} (h : k ≠ i) : up oa i p k = oa k := if_neg h
section
variable {K : PySem.W.Frag} {I : HI} {b : B0} {σ : L2.St} {H H' : Hp} {env : DEnv}
/-- a new list goes to a slot, and may be written there -/
theorem DenE.putNew (h : DenE K I b σ H env) {i : Nat} {p : Addr} {vs : List V} {ds : List D} (hi : i < env.length) (hp : H p = none) (e : Ext I H H') (hl : H' p = some (.lst vs)) (dn : DenA K (fun a => I.own a ∨ a = p) H' vs ds)
    (kp : noOwn (env.set i .no) = true ∨ noLstA ds = true) : DenE K I b (σ.set i (some (.ref p))) H' (env.set i (.own ds)) := by
  obtain ⟨oa, h1, h2, h3, h4⟩ := h.slots
  have np : ∀ k xs, env[k]? = some (Slot.own xs) → oa k ≠ p := fun k xs q z => by
    obtain ⟨⟨ws, _, e2, _⟩, _⟩ := h1 k xs q
    rw [z, hp] at e2
    cases e2
  have sub : ∀ a, AvOf I (env.set i (.own ds)) (up oa i p) a → AvOf I env oa a ∨ a = p := fun a z => by
    rcases z with z | ⟨j, xs, q, z⟩
    · exact .inl (.inl z)
    · rcases get_set q with ⟨ej, _⟩ | ⟨ne, q⟩
      · rw [ej, up_same] at z
        exact .inr z
      · rw [up_ne ne] at z
        exact .inl (.inr ⟨j, xs, q, z⟩)
  have kk : Kp (fun a => AvOf I env oa a ∨ a = p) H H' := e.1.weak fun a z => .inl (.inl z)
  have str : ∀ d v, Den K (AvOf I env oa) H v d → Den K (AvOf I (env.set i (.own ds)) (up oa i p)) H' v d := fun d v q => Den.weak sub _ _ (Den.keep kk _ _ (Den.fresh hp _ _ q))
  have strA : ∀ d v, DenA K (AvOf I env oa) H v d → DenA K (AvOf I (env.set i (.own ds)) (up oa i p)) H' v d := fun d v q => DenA.weak sub _ _ (DenA.keep kk _ _ (DenA.fresh hp _ _ q))
  refine ⟨by rw [List.length_set, List.length_set]; exact h.len, h.ext.trans e, up oa i p, fun j xs q => ?_, fun j k xs ys q1 q2 hjk => ?_, fun j d q => ?_, fun q hq => str _ _ (h4 q hq)⟩
  · rcases get_set q with ⟨ej, ed⟩ | ⟨ne, q⟩
    · subst ej
      have ed := Slot.own.inj ed
      subst ed
      refine ⟨⟨vs, ?_, ?_, ?_⟩, ?_, ?_⟩
      · rw [up_same, List.getElem?_set_self (by rw [h.len]; exact hi)]
      · rw [up_same]; exact hl
      · rcases kp with kp | kp
        · refine DenA.weak (fun a z => ?_) _ _ dn
          rcases z with z | ⟨k, ys, q2, z⟩
          · exact .inl z
          · rcases get_set q2 with ⟨ek, _⟩ | ⟨ne, q2⟩
            · rw [ek, up_same] at z
              exact .inr z
            · exact absurd (show (env.set j .no)[k]? = some (Slot.own ys) from by rw [List.getElem?_set_ne (Ne.symm ne)]; exact q2) (noOwn_get kp)
        · refine DenA.weak (fun a z => ?_) _ _ (DenA.apart (P := fun a => ∃ (k : Nat) (ys : List D), env[k]? = some (Slot.own ys) ∧ a = oa k) (fun a ⟨k, ys, q2, z⟩ => ?_) _ _ kp dn)
          · rcases z with z | ⟨k, ys, q2, z⟩
            · exact .inl (.inl z)
            · rcases get_set q2 with ⟨ek, _⟩ | ⟨ne, q2⟩
              · rw [ek, up_same] at z
                exact .inl (.inr z)
              · rw [up_ne ne] at z
                exact .inr ⟨k, ys, q2, z⟩
          · obtain ⟨⟨ws, _, e2, _⟩, _, e5⟩ := h1 k ys q2
            rw [z]
            exact ⟨ws, e.1 _ _ (fun z => e5 (I.sub _ z)) e2⟩
      · rw [up_same]; exact h.ext.back hp
      · rw [up_same]; exact fun z => I.dom H p h.ok z hp
    · obtain ⟨⟨ws, e1, e2, e3⟩, e4, e5⟩ := h1 j xs q
      refine ⟨⟨ws, ?_, ?_, strA _ _ e3⟩, ?_, ?_⟩
      · rw [up_ne ne, List.getElem?_set_ne (Ne.symm ne)]; exact e1
      · rw [up_ne ne]; exact e.1 _ _ (fun z => e5 (I.sub _ z)) e2
      · rw [up_ne ne]; exact e4
      · rw [up_ne ne]; exact e5
  · rcases get_set q1 with ⟨ej, _⟩ | ⟨nj, q1⟩ <;> rcases get_set q2 with ⟨ek, _⟩ | ⟨nk, q2⟩
    · rw [ej, ek]
    · rw [ej, up_same, up_ne nk] at hjk
      exact absurd hjk.symm (np k ys q2)
    · rw [ek, up_same, up_ne nj] at hjk
      exact absurd hjk (np j xs q1)
    · rw [up_ne nj, up_ne nk] at hjk
      exact h2 j k xs ys q1 q2 hjk
  · rcases get_set q with ⟨_, ed⟩ | ⟨ne, q⟩
    · cases ed
    · obtain ⟨v, e1, e2⟩ := h3 j d q
      exact ⟨v, by rw [List.getElem?_set_ne (Ne.symm ne)]; exact e1, str _ _ e2⟩
/-- a list that is written -/
theorem DenE.wr (h : DenE K I b σ H env) {i : Nat} {xs : List D} (hi : env[i]? = some (.own xs)) : ∃ (a : Addr) (vs : List V) (S : Addr → Prop), σ[i]? = some (some (.ref a)) ∧ H a = some (.lst vs) ∧ DenA K S H vs xs ∧
    (∀ v d, d.noLst = true → Den K I.own H v d → Den K S H v d) ∧ ¬ I.own a ∧ (∀ vs' xs', DenA K S H vs' xs' → DenE K I b σ (upd H a (.lst vs')) (env.set i (.own xs'))) := by
  obtain ⟨oa, h1, h2, h3, h4⟩ := h.slots
  obtain ⟨⟨vs, e1, e2, e3⟩, e4, e5⟩ := h1 i xs hi
  refine ⟨oa i, vs, AvOf I env oa, e1, e2, e3, fun v d nl dn => ?_, fun z => e5 (I.sub _ z), fun vs' xs' dn => ?_⟩
  · refine Den.weak (fun a z => z) _ _ (Den.apart (P := fun a => ∃ (k : Nat) (ys : List D), env[k]? = some (Slot.own ys) ∧ a = oa k) (fun a ⟨k, ys, q2, z⟩ => ?_) _ _ nl dn)
    obtain ⟨⟨ws, _, q, _⟩, _⟩ := h1 k ys q2
    rw [z]; exact ⟨ws, q⟩
  · have hil : i < env.length := (List.getElem?_eq_some_iff.mp hi).1
    have same : ∀ a, AvOf I (env.set i (.own xs')) oa a → AvOf I env oa a := fun a z => z.imp id fun ⟨j, ys, q, z⟩ => by
      rcases get_set q with ⟨ej, _⟩ | ⟨ne, q⟩
      · exact ⟨i, xs, hi, by rw [z, ej]⟩
      · exact ⟨j, ys, q, z⟩
    have inA : AvOf I env oa (oa i) := .inr ⟨i, xs, hi, rfl⟩
    have mu : Kp (AvOf I env oa) H (upd H (oa i) (.lst vs')) := Kp.mut inA
    have ok' : I.ok (upd H (oa i) (.lst vs')) := I.loc H _ (fun a f => upd_ne (fun z => e5 (by rw [← z]; exact f))) h.ok
    refine ⟨by rw [List.length_set]; exact h.len, ⟨fun a o n q => ?_, ok'⟩, oa, fun j ys q => ?_, fun j k ys zs q1 q2 hjk => ?_, fun j d q => ?_, fun p hp => Den.weak same _ _ (Den.keep mu _ _ (h4 p hp))⟩
    · rw [upd_ne (ne_of_none q e4)]
      exact h.ext.1 a o n q
    · rcases get_set q with ⟨ej, ed⟩ | ⟨ne, q⟩
      · subst ej
        have ed := Slot.own.inj ed
        subst ed
        exact ⟨⟨vs', e1, upd_same, DenA.weak same _ _ (DenA.keep mu _ _ dn)⟩, e4, e5⟩
      · obtain ⟨⟨ws, q1, q2, q3⟩, q4⟩ := h1 j ys q
        exact ⟨⟨ws, q1, by rw [upd_ne (fun z => ne (h2 j i ys xs q hi z))]; exact q2, DenA.weak same _ _ (DenA.keep mu _ _ q3)⟩, q4⟩
    · have g1 : ∃ ys', env[j]? = some (Slot.own ys') := by
        rcases get_set q1 with ⟨ej, _⟩ | ⟨_, q1⟩
        · exact ⟨xs, by rw [ej]; exact hi⟩
        · exact ⟨ys, q1⟩
      have g2 : ∃ ys', env[k]? = some (Slot.own ys') := by
        rcases get_set q2 with ⟨ej, _⟩ | ⟨_, q2⟩
        · exact ⟨xs, by rw [ej]; exact hi⟩
        · exact ⟨zs, q2⟩
      obtain ⟨_, g1⟩ := g1
      obtain ⟨_, g2⟩ := g2
      exact h2 j k _ _ g1 g2 hjk
    · rcases get_set q with ⟨_, ed⟩ | ⟨ne, q⟩
      · cases ed
      · obtain ⟨v, q1, q2⟩ := h3 j d q
        exact ⟨v, q1, Den.weak same _ _ (Den.keep mu _ _ q2)⟩
end

section
variable {X : Cx} {g : Gx} {e e2 : Expr} {es : List Expr} {td ti tv : TED} {tf : TFD} {tas : TAD} {pos p p1 p2 pos' : Pos} {x : Str} {i : Nat}
/-! ### what makes a new list -/
theorem new_lstF {K : PySem.W.Frag} {I : HI} {H : Hp} {p : Addr} {vs : List V} {ds : List D} (hp : H p = none) (h : DenA K I.own H vs ds) : DenA K (fun a => I.own a ∨ a = p) (upd H p (.lst vs)) vs ds :=
  DenA.keep (Kp.new hp) _ _ (DenA.fresh hp _ _ h)
def fLst (ta : TAD) : TFD := fun env Q => ta env fun xs => xs.length ≤ sizeLine ∧ Q xs
theorem f_lst (h : PAD X g es tas) : PFD X g (.List es pos) (fLst tas) := fun b σ H env Qd Q hd xl hq k pins s J => (pe_lst pa_w).run pins s σ H Q J (h b σ H env _ _ hd xl hq fun vs ds H1 e1 dn ⟨z, q⟩ =>
    ⟨by rw [dn.len]; exact z, fun p hp => k p vs ds _ (e1.back hp) (e1.trans (.new e1.2 hp)) upd_same (new_lstF hp dn) q⟩)
/-- list(e) -/
def fListOf (td : TED) : TFD := fun env Q => td env fun d => ∃ ds, seqOf d = some ds ∧ Q ds
theorem f_listOf (hg : Gl X "list") (hm : X.mg "list" = none) (hv : bootBuiltins "list" = some (.type "list")) (ha : PED X g e td) (he : starEach (e :: []) X.env = (false, eval e X.env) :: starEach [] X.env := by rfl)
    (hpl : (backTo pos (starEach [] X.env)).any (·.1) = false := by rfl) : PFD X g (.Call (.Name "list" p) [e] [] pos) (fListOf td) := fun b σ H env Qd Q hd xl hq k pins s J =>
  (pe_callTy call_list_of hg hm hv (pa_cons pe_w pa_nil he) (by decide) (by decide) he hpl).run pins s σ H Q J (ha b σ H env _ _ hd xl hq fun v d H1 e1 dn ⟨ds, hs, q⟩ => by
    cases d <;> simp only [seqOf, Option.some.injEq] at hs <;> simp only [Den] at dn
    case tup ys =>
      subst hs
      obtain ⟨a, vs, rfl, s1, n1, r1⟩ := dn
      exact ⟨a, vs, rfl, .inr s1, fun p hp => k p vs _ _ (e1.back hp) (e1.trans (.new e1.2 hp)) upd_same (new_lstF hp r1) q⟩
    case lst ys =>
      subst hs
      obtain ⟨a, vs, rfl, s1, n1, r1⟩ := dn
      exact ⟨a, vs, rfl, .inl (SqL.of s1), fun p hp => k p vs _ _ (e1.back hp) (e1.trans (.new e1.2 hp)) upd_same (new_lstF hp r1) q⟩
    all_goals cases hs)

/-! ### x = a new list; x.append(e); x[i] = e -/
def sNew (i : Nat) (tf : TFD) : TSD := fun Dd env => tf env fun ds => i < env.length ∧ (noOwn (env.set i .no) = true ∨ noLstA ds = true) ∧ Dd.nx (env.set i (.own ds))
theorem ds_new (hN : X.N.Nodup) (hi : X.N[i]? = some x) (hx : Loc X.env.scope x) (he : PFD X g e tf) (hs : swapsWith e (some (.Name x pos')) pos.line X.env = pure false := by rfl)
    (hf : X.fn x = true ∨ X.env.scope.names.lookup x = some .local := by first | exact .inl rfl | exact .inr rfl | assumption) : PSD X g (.Assign [.Name x pos'] e pos) (sNew i tf) :=
  psd_of (ps_set hN hi hx pe_w hs hf) fun b σ H env Dd E hd xl h el => he b σ H env _ _ hd xl h fun p vs ds H1 hp e1 hl dn ⟨z, kp, q⟩ => el.nx _ _ _ (hd.putNew z hp e1 hl dn kp) q
/-- the same kept as a value -/
theorem ds_setF (hN : X.N.Nodup) (hi : X.N[i]? = some x) (hx : Loc X.env.scope x) (he : PFD X g e tf) (hs : swapsWith e (some (.Name x pos')) pos.line X.env = pure false := by rfl)
    (hf : X.fn x = true ∨ X.env.scope.names.lookup x = some .local := by first | exact .inl rfl | exact .inr rfl | assumption) : PSD X g (.Assign [.Name x pos'] e pos) (sAsg i (dF tf)) := ds_set hN hi hx he.se hs hf
/-- a list that is written is given up -/
def frzAt (env : DEnv) (i : Nat) : DEnv := match env[i]? with
  | some (.own xs) => env.set i (.val (.lst xs))
  | _ => env
theorem DenE.frzAt {K : PySem.W.Frag} {I : HI} {b : B0} {σ : L2.St} {H : Hp} {env : DEnv} (h : DenE K I b σ H env) (i : Nat) : DenE K I b σ H (frzAt env i) := by
  unfold Dl.frzAt
  split
  · rename_i xs hi
    obtain ⟨oa, h1, h2, h3, h4⟩ := h.slots
    obtain ⟨⟨vs, e1, e2, e3⟩, e4, e5⟩ := h1 i xs hi
    have sub : ∀ a, AvOf I (env.set i (.val (.lst xs))) oa a → AvOf I env oa a := fun a z => z.imp id fun ⟨j, ys, q, z⟩ => by
      rcases get_set q with ⟨_, e⟩ | ⟨_, q⟩
      · cases e
      · exact ⟨j, ys, q, z⟩
    refine ⟨by rw [List.length_set]; exact h.len, h.ext, oa, fun j ys q => ?_, fun j k ys zs q1 q2 hjk => ?_, fun j d q => ?_, fun p hp => Den.weak sub _ _ (h4 p hp)⟩
    · rcases get_set q with ⟨_, e⟩ | ⟨ne, q⟩
      · cases e
      · obtain ⟨⟨ws, q1, q2, q3⟩, q4⟩ := h1 j ys q
        exact ⟨⟨ws, q1, q2, DenA.weak sub _ _ q3⟩, q4⟩
    · rcases get_set q1 with ⟨_, e⟩ | ⟨_, q1⟩
      · cases e
      · rcases get_set q2 with ⟨_, e⟩ | ⟨_, q2⟩
        · cases e
        · exact h2 j k ys zs q1 q2 hjk
    · rcases get_set q with ⟨ej, ed⟩ | ⟨ne, q⟩
      · subst ej
        have ed := Slot.val.inj ed
        subst ed
        refine ⟨_, e1, ?_⟩
        simp only [Den]
        refine ⟨_, vs, rfl, e2, fun z => ?_, DenA.weak sub _ _ e3⟩
        rcases z with z | ⟨k, ys, q2, z⟩
        · exact e5 (I.sub _ z)
        · rcases get_set q2 with ⟨_, e⟩ | ⟨ne, q2⟩
          · cases e
          · exact ne (h2 k j ys xs q2 hi z.symm)
      · obtain ⟨v, q1, q2⟩ := h3 j d q
        exact ⟨v, q1, Den.weak sub _ _ q2⟩
  · exact h
def sFrz (i : Nat) (ts : TSD) : TSD := fun Dd env => ts Dd (frzAt env i)
theorem ds_frz {st : Stmt} {ts : TSD} (i : Nat) (h : PSD X g st ts) : PSD X g st (sFrz i ts) := fun b σ H env Dd E hd xl ht el => h b σ H _ Dd E (hd.frzAt i) xl ht el
def sApp (i : Nat) (td : TED) : TSD := fun Dd env => ∃ xs, env[i]? = some (.own xs) ∧ td env fun d => d.noLst = true ∧ xs.length < sizeLine ∧ Dd.nx (env.set i (.own (xs ++ [d])))
theorem ds_app {apos cpos : Pos} (hN : X.N[i]? = some x) (hv : Vis X.env.scope x) (he : PED X g e td) (hd1 : (x == ("__debug__" : Str)) = false := by decide) (hcd : (x == ("__classdict__" : Str)) = false := by decide)
    (hbase : attributeBase (.Name x p1) "append" X.env (eval (.Name x p1) X.env) = eval (.Name x p1) X.env := by rfl)
    (hfew : ((backTo cpos (starEach (e :: []) X.env)).all (fun x => !x.1) && (backToKw cpos (keywordEach [] X.env)).all (fun x => x.1.isSome)
      && decide ((e :: []).length + ([] : List Keyword).length + (if ([] : List Keyword).isEmpty then 0 else 1) < 30)) = true := by rfl)
    (hline : (apos.endLine == cpos.line) = true := by rfl) (hs : starEach (e :: []) X.env = (false, eval e X.env) :: starEach [] X.env := by rfl) (hplain : (backTo cpos (starEach [] X.env)).any (·.1) = false := by rfl)
    (hsw : swapsWith (.Call (.Attribute (.Name x p1) "append" apos) [e] [] cpos) none pos.line X.env = pure false := by rfl) :
    PSD X g (.Expr (.Call (.Attribute (.Name x p1) "append" apos) [e] [] cpos) pos) (sApp i td) :=
  psd_of (ps_expr (pe_bm PySem.F.plainAttrs_list PySem.F.slot_list_append PySem.F.type_list_append mt_append (pe_var hN hv hd1 hcd) (pa_cons pe_w pa_nil hs) hbase hfew hline hs hplain) hsw) fun b σ H env Dd E hd xl h el => by
    obtain ⟨xs, hx, h⟩ := h
    obtain ⟨a, vs, S, q1, q2, _⟩ := hd.wr hx
    refine ⟨.ref a, q1, .inl ⟨rfl, vs, SqL.of q2⟩, he b σ H env _ _ hd xl h fun v d H1 e1 dn ⟨nl, hz, q⟩ => ?_⟩
    obtain ⟨a', vs', S', w1, w2, w3, w4, w5, w6⟩ := (hd.mono e1).wr hx
    rw [q1] at w1
    cases w1
    exact ⟨a, vs', v, rfl, rfl, w2, by rw [w3.len]; exact hz, el.nx _ _ _ (w6 _ _ (w3.app (.one (w4 v d nl dn)))) q⟩
end
end Dl
namespace Dl
open PySem PySem.Spec PyProof.Rows L2

/-! ### a def keeps its contract -/
def startD (N : List Str) (ds : List D) : DEnv := ds.map Slot.val ++ List.replicate (N.length - ds.length) Slot.no
def gOf (I : HI) (Ed : Exc → Prop) (E : XK) : Gx := ⟨I, fun _ x => Ed x, fun cls d _ H => E cls d H⟩
theorem startE {K : PySem.W.Frag} {I : HI} {N : List Str} {H : Hp} {vs : List V} {ds : List D} (ok : I.ok H) (dn : DenA K I.own H vs ds) : DenE K I ⟨H, []⟩ (L2.start N vs) H (startD N ds) := by
  have no : ∀ {i : Nat} {xs : List D}, (startD N ds)[i]? ≠ some (Slot.own xs) := fun {i xs} h => by
    unfold startD at h
    rw [List.getElem?_append] at h
    split at h
    · rw [List.getElem?_map] at h
      cases e : ds[i]? with
      | none => rw [e] at h; cases h
      | some d => rw [e] at h; cases h
    · rw [List.getElem?_replicate] at h
      split at h <;> cases h
  refine ⟨?_, .refl ok, fun _ => 0, fun i xs e => absurd e no, fun i j xs ys e => absurd e no, fun i d e => ?_, fun p hp => by cases hp⟩
  · unfold L2.start startD
    rw [List.length_append, List.length_append, List.length_map, List.length_map, List.length_replicate, List.length_replicate, dn.len]
  · unfold startD at e
    rw [List.getElem?_append] at e
    split at e
    · rename_i hl
      rw [List.length_map] at hl
      rw [List.getElem?_map] at e
      have hd : ds[i]? = some d := by
        cases q : ds[i]? with
        | none => rw [q] at e; cases e
        | some d' =>
          rw [q] at e
          have := Slot.val.inj (Option.some.inj e)
          rw [this]
      obtain ⟨v, q1, q2⟩ := dn.get hd
      refine ⟨v, ?_, Den.weak (fun a z => z.elim id fun ⟨j, xs, e, _⟩ => absurd e no) _ _ q2⟩
      unfold L2.start
      rw [List.getElem?_append_left (by rw [List.length_map, dn.len]; exact hl), List.getElem?_map, q1]
      rfl
    · rw [List.getElem?_replicate] at e
      split at e <;> cases e
section
variable {P : Program} {w : World} {K : PySem.W.Frag} {mg : Str → Option Value} {base : Heap}
abbrev cxD (P : Program) (w : World) (K : PySem.W.Frag) (mg : Str → Option Value) (base : Heap) (N : List Str) (qual : Str) (scope : Scope) (f : Addr) (cd : Value) (A : Around) (outer : List Env) (s : Shared) (H : Hp) (E : XK) : Cx :=
  cxOf (L2.CX P w) P w K mg base N qual scope f cd A outer s H E
theorem fn_D {x qual : Str} {params : Arguments} {body : List Stmt} {scope : Scope} {dvs : List V} {kws : List (Str × V)} {f : Addr} {fd : FuncData} {N ps : List Str} {k : Nat} {I : HI} {C : Ct} {tsd : (DEnv → Exc → Prop) → TSD}
    (F : FunD K x qual params body scope dvs kws f fd) (S : FnScope N ps scope)
    (hbody : ∀ (cdv : Value) (A : Around) (outer : List Env) (s : Shared) (H : Hp) (E : XK) (Ed : Exc → Prop), Room k (A.deeper (envOfC qual scope s.heap.objs.size f cdv)) →
      Takes (cxD P w K mg base N qual scope f cdv A outer s H E) (gOf I Ed E).W → PSsD (cxD P w K mg base N qual scope f cdv A outer s H E) (gOf I Ed E) body (tsd (gOf I Ed E).Ed))
    (hC : ∀ ds Qd Ed, C ds Qd Ed → ds.length = ps.length → tsd (fun _ x => Ed x) ⟨fun _ => Qd .non, Qd, fun _ => False, fun _ => False⟩ (startD N ds)) :
    FnOk P w K mg base (L2.CX P w) (k + 1) f fd ps (spOf K I ps.length C) := by
  refine F.ok S (fun vs H Q E ⟨ds, Qd, Ed, hl, dn, _⟩ => by rw [dn.len, hl]) (fun cdv A outer s H vs Q E hr ⟨ds, Qd, Ed, hl, dn, ok, hc, kq, ke⟩ => ?_)
  refine ⟨_, pss_w, ?_⟩
  have tk : Takes (cxD P w K mg base N qual scope f cdv A outer s H E) (gOf I Ed E).W := takes_of rfl rfl rfl rfl
  refine hbody cdv A outer s H E Ed hr tk ⟨H, []⟩ (L2.start N vs) H (startD N ds) _ _ (startE ok dn) ?_ (hC ds Qd Ed hc hl) ⟨fun σ' H' env' hd' q => ?_, fun v d H' e dn' q => kq v d H' e dn' q, fun _ _ _ _ q => q.elim, fun _ _ _ _ q => q.elim⟩
  · exact fun σ' H' env' x d H'' hd' e xd q => ke x d H'' (hd'.ext.trans e) xd q
  · exact kq .non .non H' hd'.ext (by simp only [Den]) q
/-- the same at more room -/
theorem up_room {f : Addr} {fd : FuncData} {ps : List Str} {sp : Sp} {j k : Nat} (F : FnOk P w K mg base (L2.CX P w) j f fd ps sp) (h : j ≤ k) : FnOk P w K mg base (L2.CX P w) k f fd ps sp := F.mono h
end

/-! ### an own error with one field -/
def spExc (C : Addr) (fl : Str) : Sp := fun vs H Q _ => ∃ a v, vs = [.ref a, v] ∧ H a = some (exo a C none) ∧ ∀ dx, H dx = none → dx ≠ a → Q .non (upd (upd H dx (exd dx [(fl, v)])) a (exo a C (some dx)))
/-- what the written part says of such a class and its __init__ -/
structure ErrC (K : PySem.W.Frag) (C : Addr) (fl : Str) : Prop where
  ox : OexC K C
  nf : PySem.W.findIn K (.ref C) fl = some none
section
variable {X : Cx} {g : Gx} {e : Expr} {td : TED} {pos p cpos : Pos} {x fl : Str} {C fI : Addr} {fd : FuncData} {ps : List Str} {k : Nat}
theorem init_ok {P : Program} {w : World} {K : PySem.W.Frag} {mg : Str → Option Value} {base : Heap} {qual : Str} {params : Arguments} {scope : Scope} {p1 p2 p3 p4 : Pos} {CX : CXT} (T : ErrC K C fl) (hfl : ("self" : Str) ≠ fl)
    (hdb : (fl == ("__debug__" : Str)) = false) (hcd : (fl == ("__classdict__" : Str)) = false) (v1 : Vis scope "self") (v2 : Vis scope fl)
    (F : FunD K "__init__" qual params [.Assign [.Attribute (.Name "self" p1) fl p2] (.Name fl p3) p4] scope [] [] fI fd) (S : FnScope ["self", fl] ["self", fl] scope)
    (hs : ∀ X : Cx, swapsWith (.Name fl p3) (some (.Attribute (.Name "self" p1) fl p2)) p4.line X.env = pure false) : FnOk P w K mg base CX 1 fI fd ["self", fl] (spExc C fl) := by
  refine F.ok S (fun vs H Q E ⟨a, v, e, _⟩ => by rw [e]; rfl) (fun cdv A outer s H vs Q E hr ⟨a, v, e, hH, q⟩ => ?_)
  subst e
  refine ⟨_, PSs.nox (pss_one (ps_ost (pe_var (i := 0) rfl v1) (pe_var (i := 1) rfl v2 hdb hcd) (hs _))), ?_⟩
  exact ⟨v, rfl, .ref a, rfl, a, C, rfl, T.ox, T.nf, .inl ⟨hH, fun dx h1 h2 => q dx h1 h2⟩⟩
def sRaise (C : Addr) (fl : Str) (Ed : DEnv → Exc → Prop) (td : TED) : TSD := fun _ env => td env fun d => Ed env ⟨C, some [(fl, d)]⟩
theorem ds_raise {CX : CXT} (hc : X.calm = true) (T : ErrC X.K C fl) (iC : PySem.W.findIn X.K (.ref C) "__init__" = some (some (.ref fI))) (tI : PySem.W.typeIn X.K (.ref fI) = some (.type "function"))
    (F1 : FnOk X.prog X.w X.K X.mg X.base CX k fI fd ["self", fl] (spExc C fl)) (hx : Passes CX X (fun _ _ _ => False)) (hr : Room (k + 1) X.A) (hb : Binds X.K fd ["self", fl] []) (hg : Gl X x) (hm : X.mg x = some (.ref C)) (tk : Takes X g.W) (ha : PED X g e td)
    (hdb : (x == ("__debug__" : Str)) = false := by decide) (he : starEach (e :: []) X.env = (false, eval e X.env) :: starEach [] X.env := by rfl) (hpl : (backTo cpos (starEach [] X.env)).any (·.1) = false := by rfl) :
    PSD X g (.Raise (some (.Call (.Name x p) [e] [] cpos)) none pos) (sRaise C fl g.Ed td) :=
  psd_of (ps_raise hc tk (pmk_oex T.ox iC tI F1 hr hb .nil hx hg hm (pa_cons pe_w pa_nil he) hdb he hpl)) fun b σ H env Dd E hd xl h el => by
    refine ha b σ H env _ _ hd xl h fun v d H1 e1 dn q => ?_
    refine ⟨(by decide : 1 ≤ 1000), fun a hA => ⟨a, v, rfl, upd_same, fun dx h1 h2 => ⟨rfl, dx, [(fl, v)], upd_same, ?_, ?_, ?_⟩⟩⟩
    · rw [upd_ne h2, upd_same]
    · rw [upd_ne h2] at h1; exact h1
    · have hdx : H1 dx = none := by rw [upd_ne h2] at h1; exact h1
      have ee : upd (del (upd (upd (upd H1 a (exo a C none)) dx (exd dx [(fl, v)])) a (exo a C (some dx))) a) dx (.xd [(fl, v)]) = upd H1 dx (.xd [(fl, v)]) := by
        funext c
        unfold upd del
        by_cases c1 : c = dx
        · rw [if_pos c1, if_pos c1]
        · rw [if_neg c1, if_neg c1]
          by_cases c2 : c = a
          · rw [if_pos c2, c2, hA]
          · rw [if_neg c2]
            show (if c = a then some (exo a C (some dx)) else if c = dx then some (exd dx [(fl, v)]) else if c = a then some (exo a C none) else H1 c) = H1 c
            rw [if_neg c2, if_neg c1, if_neg c2]
      rw [ee]
      have e2 : Ext g.I H1 (upd H1 dx (.xd [(fl, v)])) := .new e1.2 hdx
      refine xl σ H env ⟨C, some [(fl, d)]⟩ (some dx) _ hd (e1.trans e2) ⟨dx, [v], rfl, upd_same, ?_⟩ q
      exact .one (Den.keep e2.1 _ _ dn)
end
end Dl
namespace PySem
open Sem (wp)
open PyProof.Rows
theorem meets_enum1B {v : Value} {o : Obj} {H : Heap → Prop} (B : Begins v o H) :
    Meets (Builtin.«enumerate.__new__» ⟨[.type "enumerate", v], []⟩) (fun _ R s => H s.heap ∧
      R (.ok (.ret (.ref (s.heap.push o).objs.size))) { s with heap := (s.heap.push o).push { cls := .type "enumerate", data := .fields #[.none, .bool false, .ref s.heap.objs.size, rawInt 0, .none, .none] } }) :=
  .of_wp fun prog w A R s h => by
    obtain ⟨hp, g, d, tk, os⟩ := s; obtain ⟨h1, h⟩ := h
    have hsub := sub_enumerate
    have q1 : ∀ {A' : Around} {E : Value → Shared → Prop} {Q : Value → Shared → Prop}, Q (.ref hp.objs.size) ⟨hp.push o, g, d, tk, os⟩ → wpAny (model prog w) A' (pyIter v) Q E ⟨hp, g, d, tk, os⟩ :=
      fun q => B.iter prog w _ _ ⟨hp, g, d, tk, os⟩ _ h1 q
    wp_walk using q1
    refine wpAny_stack_any fun st => wpAny_pure ?_
    split
    · rename_i c _ _ _ _ _
      cases (c == Value.type "enumerate")
      · wp_walk using q1
        exact ⟨_, rfl, h⟩
      · wp_walk using q1
        exact ⟨_, rfl, h⟩
    · wp_walk using q1
      exact ⟨_, rfl, h⟩
section
variable {prog : Program} {w : World} {A : Around} {E : Value → Shared → Prop} {s : Shared}
theorem pyNext_enumT_end {e it t : Addr} {i : Nat} {items : Array Value} {k : Int} {old : Value} {Q : Option Value → Shared → Prop} (hh : A.handled = none)
    (he : IsEnum s.heap e it k old) (hit : s.heap.IsTupleIter it t i) (hl : s.heap.IsTuple t items) (hx : items[i]? = none)
    (hQ : ∀ h', Heap.ExtBut it s.heap h' → Q none { s with heap := h' }) : wpAny (model prog w) A (pyNext (.ref e)) Q E s := by
  have hT : s.TypeIs (.ref e) "enumerate" := ⟨_, he, rfl⟩
  unfold pyNext
  refine wpAny_bind (wpAny_attempt (wpAny_callSpecial?_slot (name := Str.ofString "__next__") hT F.slot_enumerate_next
    (wpAny_call_entry F.slot_enumerate_next hT F.entry_enumerate_next ?_ (F.args_enumerate_next_1 _))))
  show wpAny _ _ (field (.ref e) 2 >>= _) _ _ _
  refine wpAny_bind (wpAny_field he rfl (x := .ref it) rfl ?_)
  refine wpAny_bind (wpAny_nextOf_tuple_end hh hit hl hx fun h' x he' hx' => ?_)
  obtain ⟨o, ho, hc⟩ := hx'
  refine wpAny_bind (wpAny_isInstance (T := "StopIteration") (b := true) ⟨o, ho, hc⟩ isSubtype_stop ?_)
  exact wpAny_pure (hQ _ he')
theorem enum1_begins {v : Value} {o : Obj} {H : Heap → Prop} {Q : Value → Shared → Prop} (B : Begins v o H) (h1 : H s.heap)
    (h : ∀ h', IsEnum h' (s.heap.objs.size + 1) s.heap.objs.size 0 .none → h'.get? s.heap.objs.size = some o → h'.objs.size = s.heap.objs.size + 2 →
      (∀ b o, s.heap.get? b = some o → h'.get? b = some o) → Q (.ref (s.heap.objs.size + 1)) { s with heap := h' }) :
    wpAny (model prog w) A (call (.type "enumerate") [v]) Q E s := by
  refine callType_new F.called_enumerate (by decide) (F.typeCall_enumerate_1 _) (F.newCall_enumerate_1 _) (fun obj => F.args_object_init_2 obj _) F.entry_enumerate_new
    (meets_enum1B B) ⟨h1, ?_⟩
  have hz : (s.heap.push o).objs.size = s.heap.objs.size + 1 := Heap.size_push ..
  show _ ∧ _
  rw [hz]
  have he : IsEnum ((s.heap.push o).push { cls := .type "enumerate", data := .fields #[.none, .bool false, .ref s.heap.objs.size, rawInt 0, .none, .none] }) (s.heap.objs.size + 1) s.heap.objs.size 0 .none := by
    have := Heap.get?_push_size (s.heap.push o) (o := { cls := .type "enumerate", data := .fields #[.none, .bool false, .ref s.heap.objs.size, rawInt 0, .none, .none] }) rfl
    rw [hz] at this; exact this
  refine ⟨⟨_, he, rfl⟩, h _ he (Heap.get?_push_of_some _ (Heap.get?_push_size _ B.free)) (by rw [Heap.size_push, hz]) fun b o x => Heap.get?_push_of_some _ (Heap.get?_push_of_some _ x)⟩
end
end PySem
namespace Dl
open PySem PySem.Spec PyProof.Rows L2
/-- enumerate(tuple) -/
def IteT (K : PySem.W.Frag) (a : Addr) : It :=
  ⟨fun i H => ∃ (xs : List V) (x : V), SqT K H a xs ∧ xs[i]? = some x, fun i H v H' => ∃ T x, v = .ref T ∧ H T = none ∧ H' = upd H T (.tup [.int (i : Nat), x]) ∧ ∀ xs, SqT K H a xs → xs[i]? = some x, fun i H => ∃ xs : List V, SqT K H a xs ∧ xs.length ≤ i⟩
theorem turn_enumT {P : Program} {w : World} {K : PySem.W.Frag} {elts : List Expr} {kk : Nat} {tpos : Pos} (a e it : Addr) :
    Turn P w K (.Tuple elts kk tpos) (IteT K a) [e, it] e (fun i h => (∃ old, IsEnum h e it ((i : Nat) : Int) old) ∧ h.IsTupleIter it a i ∧ e ≠ it ∧ a ≠ it ∧ a ≠ e) where
  mem := by simp
  obj := fun i h st b hb => by
    obtain ⟨⟨old, he⟩, ⟨o, ho, hc, hd⟩, _⟩ := st
    have e' : b = e ∨ b = it := by simpa using hb
    rcases e' with z | z
    · rw [z]; exact ⟨_, he, fun v q => nomatch q⟩
    · rw [z]; exact ⟨o, ho, fun v q => by rw [hd] at q; cases q⟩
  keep := fun i h h' st k => let ⟨⟨old, he⟩, hi, hne⟩ := st; ⟨⟨old, k e (by simp) _ he⟩, hi.at fun o q => k it (by simp) o q, hne⟩
  item := by
    intro X hP hw hK hc i pins s σ H E I hf st hg
    subst hP hw hK
    obtain ⟨⟨old, he⟩, hit, hne, na, nb⟩ := st
    obtain ⟨xs, x, hq, hx⟩ := hg
    obtain ⟨its, rv, p, hz⟩ := I.tuple hq
    obtain ⟨u, hu, ru⟩ := rv.get hx
    have hel : e < s.heap.objs.size := Heap.lt_size he
    have hil : it < s.heap.objs.size := by obtain ⟨_, q, _⟩ := hit; exact Heap.lt_size q
    have hlt : i < its.toArray.size := by
      have := (List.getElem?_eq_some_iff.mp hu).1
      simpa using this
    refine wpAny_pyNext_enum_itemD (Draws.tuple (A := X.A.in1) (I.ok.hd hc) it a na its.toArray) he ⟨hit, p⟩ hlt hne (by simp only [List.mem_cons, List.not_mem_nil, or_false, not_or]; exact ⟨hne, Ne.symm nb⟩) fun y h' tk hy ho hit' hT hsz hk => ?_
    have hy' : y = u := by
      have : its[i]? = some y := by simpa using hy
      rw [hu] at this
      exact (Option.some.inj this).symm
    subst hy'
    refine ⟨_, rfl, wpAny_letOwnedTupleGo_enum (s := { s with heap := h', toks := tk + 1 }) ho fun h'' he' sb => ?_⟩
    have hT2 : h''.get? s.heap.objs.size = some { cls := .type "tuple", data := .seq #[.int i tk, y] } := (sb.2 _ (Nat.ne_of_gt hel)).trans hT
    have new : ObjOk X.prog X.w (upd H s.heap.objs.size (.tup [.int (i : Nat), x])) h'' s.heap.objs.size (.tup [.int (i : Nat), x]) :=
      ⟨by show 2 ≤ sizeLine; decide, [.int i tk, y], .cons ⟨_, rfl⟩ (.cons ru .nil), ⟨_, hT2, rfl, _, rfl⟩⟩
    have I1 : Inv X pins σ (upd H s.heap.objs.size (.tup [.int (i : Nat), x])) { s with heap := h'', toks := tk + 1 } :=
      I.turnedNew (ch := [e, it]) (fun b ob hb q => (sb.2 b (fun z => hb (by simp [z]))).trans (hk b ob (fun z => hb (by simp [z])) (fun z => hb (by simp [z])) q)) hf (Nat.le_refl _) new
    refine ⟨.ref s.heap.objs.size, _, I1, rfl, ⟨_, x, rfl, I.hok.fresh (Nat.le_refl _), rfl, fun ys hy => by rw [I.tuple_inj hy hq]; exact hx⟩, ⟨⟨y, ?_⟩, hit'.1.at fun o q => (sb.2 it (Ne.symm hne)).trans q, hne, na, nb⟩, fun b hb => ?_⟩
    · have e1 : ((i + 1 : Nat) : Int) = (i : Int) + 1 := by omega
      rw [e1]; exact he'
    · have hb' : b < s.heap.objs.size := by
        have e' : b = e ∨ b = it := by simpa using hb
        rcases e' with z | z
        · rw [z]; exact hel
        · rw [z]; exact hil
      rw [upd_ne (Nat.ne_of_lt hb')]
      exact (hf b hb).1
  done := by
    intro X hP hw hK hc i pins s σ H E I hf st hg
    subst hP hw hK
    obtain ⟨⟨old, he⟩, hit, hne, na, nb⟩ := st
    obtain ⟨xs, hq, hx⟩ := hg
    obtain ⟨its, rv, p, hz⟩ := I.tuple hq
    obtain ⟨f0, f1, f2, f3, f4, f5⟩ := hf it (by simp)
    have hl := rv.length
    exact pyNext_enumT_end (I.ok.hd hc) he hit p (by simp; omega) fun h' eb => ⟨rfl, I.turned (t' := s.toks) (fun b o hb q => eb b o hb q) f0 f1 f3 f4 f5⟩
  self := fun A i s Q E st h => let ⟨⟨_, he⟩, _⟩ := st; wpAny_pyIter_enum he h
def iEnumA (K : PySem.W.Frag) (ta : L2.TA) : TI := fun σ H R => ta σ H fun vs H1 => ∃ a xs, vs = [.ref a] ∧ ((SqL K H1 a xs ∧ R (Ite K a) H1) ∨ (SqT K H1 a xs ∧ R (IteT K a) H1))
theorem pi_enumA {X : Cx} {e : Expr} {ta : L2.TA} {p pos tpos : Pos} {elts : List Expr} {kk : Nat} (hg : Gl X "enumerate") (hm : X.mg "enumerate" = none) (ha : PA X [e] ta) (hs : starEach [e] X.env = [(false, eval e X.env)] := by rfl) :
    PI X (.Tuple elts kk tpos) (.Call (.Name "enumerate" p) [e] [] pos) (iEnumA X.K ta) := by
  refine ⟨fun pins s σ H R I h => ?_⟩
  refine Call_ (ld_blt I hg hm boot_enumerate (PyProof.Rows.callWith_type1 (thn (ha.run pos pins s σ H _ I h) fun us s1 ⟨vs, H1, I1, r1, q1⟩ => ?_) hs rfl))
  obtain ⟨a, xs, ex, q⟩ := q1
  subst ex
  cases r1 with
  | cons r rr =>
    cases rr
    cases r
    have fin : ∀ b ∈ [s1.heap.objs.size + 1, s1.heap.objs.size], FpOk X pins H1 b := fun b hb => by
      have e' : b = s1.heap.objs.size + 1 ∨ b = s1.heap.objs.size := by simpa using hb
      have hle : s1.heap.objs.size ≤ b := by
        rcases e' with z | z
        · rw [z]; exact Nat.le_add_right _ _
        · rw [z]; exact Nat.le_refl _
      exact I1.fpOk hle (I1.hok.fresh hle)
    rcases q with ⟨hq, q⟩ | ⟨hq, q⟩
    · obtain ⟨its, rv, p', hz⟩ := I1.list hq
      refine call_enumerate_list p'.isList fun h' he hit hsz hk => wpAny_pyIter_enum he ?_
      have I2 : Inv X pins σ H1 { s1 with heap := h' } := I1.kept (t' := s1.toks) hk
      exact ⟨s1.heap.objs.size + 1, [s1.heap.objs.size + 1, s1.heap.objs.size], _, _, H1, rfl, I2, turn_enum a (s1.heap.objs.size + 1) s1.heap.objs.size, ⟨⟨.none, he⟩, hit, Nat.succ_ne_self _⟩, fin, q⟩
    · obtain ⟨its, rv, p', hz⟩ := I1.tuple hq
      have pt : s1.heap.IsTuple a its.toArray := p'
      have al : a < s1.heap.objs.size := by obtain ⟨_, q, _⟩ := pt; exact Heap.lt_size q
      refine enum1_begins (begins_tuple a its.toArray) pt fun h' he hit hsz hk => wpAny_pyIter_enum he ?_
      have I2 : Inv X pins σ H1 { s1 with heap := h' } := I1.kept (t' := s1.toks) hk
      exact ⟨s1.heap.objs.size + 1, [s1.heap.objs.size + 1, s1.heap.objs.size], _, _, H1, rfl, I2, turn_enumT a (s1.heap.objs.size + 1) s1.heap.objs.size, ⟨⟨.none, he⟩, ⟨_, hit, rfl, rfl⟩, Nat.succ_ne_self _, Nat.ne_of_lt al, Nat.ne_of_lt (Nat.lt_succ_of_lt al)⟩, fin, q⟩
def enumD : Nat → List D → List D
  | _, [] => []
  | n, d :: ds => .tup [.int (n : Nat), d] :: enumD (n + 1) ds
theorem enumD_len : ∀ {n : Nat} {ds : List D}, (enumD n ds).length = ds.length
  | _, [] => rfl
  | n, d :: ds => congrArg Nat.succ enumD_len
theorem enumD_get : ∀ {n i : Nat} {ds : List D} {d : D}, ds[i]? = some d → (enumD n ds)[i]? = some (.tup [.int ((n + i : Nat) : Int), d])
  | n, i, [], d, h => by simp at h
  | n, 0, e :: ds, d, h => by
    have : e = d := by simpa using h
    subst this
    rfl
  | n, i + 1, e :: ds, d, h => by
    have ih := enumD_get (n := n + 1) (i := i) (ds := ds) (d := d) (by simpa using h)
    have e1 : n + 1 + i = n + (i + 1) := by omega
    rw [e1] at ih
    exact ih
theorem pair_den {K : PySem.W.Frag} {Av : Addr → Prop} {H : Hp} {T : Addr} {x y : V} {dx dy : D} (hT : H T = none) (nT : ¬ Av T) (hx : Den K Av H x dx) (hy : Den K Av H y dy) : Den K Av (upd H T (.tup [x, y])) (.ref T) (.tup [dx, dy]) := by
  have kk : Kp Av H (upd H T (.tup [x, y])) := Kp.new hT
  simp only [Den]
  refine ⟨T, [x, y], rfl, SqT.of upd_same, .inl ⟨nT, upd_same⟩, ?_⟩
  simp only [DenA]
  exact ⟨x, [y], rfl, Den.keep kk _ _ hx, y, [], rfl, Den.keep kk _ _ hy, rfl⟩
theorem itd_enumL {K : PySem.W.Frag} {a : Addr} {ds : List D} : ItD K (Ite K a) [(.ref a, .lst ds)] (enumD 0 ds) := fun Av H hw hav => by
  have := hw _ List.mem_cons_self
  simp only [Den] at this
  obtain ⟨a', vs, e, s, n, r⟩ := this
  cases e
  refine ⟨fun i hi => ?_, vs, SqL.of s, by rw [r.len, enumD_len]; exact Nat.le_refl _⟩
  rw [enumD_len] at hi
  obtain ⟨v, q1, q2⟩ := r.get (List.getElem?_eq_getElem hi)
  refine ⟨⟨vs, v, SqL.of s, q1⟩, fun x H' ⟨T, y, e1, hT, e2, hy⟩ => ?_⟩
  subst e1 e2
  have z := hy vs (SqL.of s)
  rw [q1] at z
  cases z
  refine ⟨Kp.new hT, _, enumD_get (List.getElem?_eq_getElem hi), pair_den hT (fun z => hav T z hT) ?_ q2⟩
  simp only [Den, Nat.zero_add]
theorem itd_enumT {K : PySem.W.Frag} {a : Addr} {ds : List D} : ItD K (IteT K a) [(.ref a, .tup ds)] (enumD 0 ds) := fun Av H hw hav => by
  have := hw _ List.mem_cons_self
  simp only [Den] at this
  obtain ⟨a', vs, e, s, n, r⟩ := this
  cases e
  refine ⟨fun i hi => ?_, vs, s, by rw [r.len, enumD_len]; exact Nat.le_refl _⟩
  rw [enumD_len] at hi
  obtain ⟨v, q1, q2⟩ := r.get (List.getElem?_eq_getElem hi)
  refine ⟨⟨vs, v, s, q1⟩, fun x H' ⟨T, y, e1, hT, e2, hy⟩ => ?_⟩
  subst e1 e2
  have z := hy vs s
  rw [q1] at z
  cases z
  refine ⟨Kp.new hT, _, enumD_get (List.getElem?_eq_getElem hi), pair_den hT (fun z => hav T z hT) ?_ q2⟩
  simp only [Den, Nat.zero_add]
def idEnum (td : TED) : TID := fun env Q => td env fun d => (noOwn env = true ∨ d.noLst = true) ∧ ∃ ds, seqOf d = some ds ∧ Q (enumD 0 ds)
def idEnumV (i : Nat) : TID := fun env Q => ∃ d ds, env[i]? = some (.val d) ∧ seqOf d = some ds ∧ Q (enumD 0 ds)
theorem si_enum {K : PySem.W.Frag} {b : B0} {σ : L2.St} {H : Hp} {env : DEnv} {I : HI} {R : It → Hp → Prop} {v : V} {d : D} {ds : List D} (hd : DenE K I ⟨b.H0, (v, d) :: b.hs⟩ σ H env) (hs : seqOf d = some ds)
    (k : ∀ J hw, DenE K I ⟨b.H0, hw ++ b.hs⟩ σ H env → ItD K J hw (enumD 0 ds) → R J H) : ∃ a xs, [v] = [.ref a] ∧ ((SqL K H a xs ∧ R (Ite K a) H) ∨ (SqT K H a xs ∧ R (IteT K a) H)) := by
  obtain ⟨oa, h1, h2, h3, h4⟩ := hd.slots
  have dn := h4 _ List.mem_cons_self
  cases d <;> simp only [seqOf, Option.some.injEq] at hs <;> simp only [Den] at dn
  case tup xs =>
    subst hs
    obtain ⟨a, vs, rfl, s, n, r⟩ := dn
    exact ⟨a, vs, rfl, .inr ⟨s, k _ _ hd itd_enumT⟩⟩
  case lst xs =>
    subst hs
    obtain ⟨a, vs, rfl, s, n, r⟩ := dn
    exact ⟨a, vs, rfl, .inl ⟨SqL.of s, k _ _ hd itd_enumL⟩⟩
  all_goals cases hs
section
variable {X : Cx} {g : Gx} {e : Expr} {p pos tpos : Pos} {elts : List Expr} {kk : Nat} {td : TED}
theorem di_enum (hg : Gl X "enumerate") (hm : X.mg "enumerate" = none) (he : PED X g e td) (hs : starEach [e] X.env = [(false, eval e X.env)] := by rfl) : PID X g (.Tuple elts kk tpos) (.Call (.Name "enumerate" p) [e] [] pos) (idEnum td) :=
  pid_of (pi_enumA hg hm (pa_cons pe_w pa_nil hs) hs) fun b σ H env Qd R hd xl ht k =>
    he b σ H env _ _ hd xl ht fun v d H1 e1 dn ⟨kp, ds, hs, q⟩ => si_enum ((hd.mono e1).hold dn kp) hs fun J hw hd2 it => k J H1 hw _ hd2 e1 it q
theorem di_enumV (i : Nat) {x : Str} {p2 : Pos} (hg : Gl X "enumerate") (hm : X.mg "enumerate" = none) (hN : X.N[i]? = some x := by rfl) (hv : Vis X.env.scope x := by first | exact Or.inl rfl | exact Or.inr (Or.inl rfl) | exact Or.inr (Or.inr rfl))
    (hd : (x == ("__debug__" : Str)) = false := by decide) (hcd : (x == ("__classdict__" : Str)) = false := by decide) (hs : starEach [Expr.Name x p2] X.env = [(false, eval (.Name x p2) X.env)] := by rfl) :
    PID X g (.Tuple elts kk tpos) (.Call (.Name "enumerate" p) [.Name x p2] [] pos) (idEnumV i) :=
  pid_of (pi_enumA hg hm (pa_cons (pe_var hN hv hd hcd) pa_nil hs) hs) fun b σ H env Qd R hd xl ⟨d, ds, e, hs, q⟩ k => by
    obtain ⟨oa, h1, h2, h3, h4⟩ := hd.slots
    obtain ⟨v, q1, q2⟩ := h3 i d e
    refine ⟨v, q1, si_enum (b := b) (env := env) (σ := σ) (d := d) ⟨hd.len, hd.ext, oa, h1, h2, h3, fun p hp => ?_⟩ hs fun J hw hd2 it => k J H hw _ hd2 (.refl hd.ok) it q⟩
    rcases List.mem_cons.mp hp with z | hp
    · rw [z]; exact q2
    · exact h4 p hp
end
end Dl
namespace Dl
open PySem PySem.Spec PyProof.Rows L2

/-- x may be called with the last arguments dds filled in -/
def Cl (P : Program) (w : World) (K : PySem.W.Frag) (mg : Str → Option Value) (base : Heap) (I : HI) (k : Nat) (x : Str) (n : Nat) (C : Ct) (dds : List D) : Prop :=
  ∃ (fa : Addr) (fd : FuncData) (ps : List Str) (ds : List Value) (dvs : List V), FnOk P w K mg base (L2.CX P w) k fa fd ps (spOf K I n C) ∧ mg x = some (.ref fa) ∧ PySem.W.keepIn K (.ref fa) = true ∧ L2.Binds K fd ps ds ∧ Vals dvs ds ∧ ∀ H, DenA K I.own H dvs dds
abbrev ClX (X : Cx) (I : HI) (k : Nat) (x : Str) (n : Nat) (C : Ct) (dds : List D) : Prop := Cl X.prog X.w X.K X.mg X.base I k x n C dds
/-- a contract asks for n arguments -/
def Ar (n : Nat) (C : Ct) : Prop := ∀ xs Q E, C xs Q E → xs.length = n
theorem h64 {A : Around} {k : Nat} (hr : Room k A) : A.units + 64 < cLine := hr.units
theorem h65 {A : Around} {k : Nat} (hr : Room k A) : A.units + 65 < cLine := by have := hr.un; omega
section
variable {X : Cx} {g : Gx} {e e2 : Expr} {es : List Expr} {td ti tv : TED} {tas : TAD} {pos p p2 : Pos} {x : Str}
theorem d_callC {k j n : Nat} {C : Ct} {dds : List D} (c : ClX X g.I k x n C dds) (hC : Ar n C) (hr : Room j X.A) (hj : k ≤ j) (hg : Gl X x) (tk : Takes X g.W) (ha : PAD X g (e :: es) tas)
    (hdb : (x == ("__debug__" : Str)) = false := by decide) (he : starEach (e :: es) X.env = (false, eval e X.env) :: starEach es X.env := by rfl) (hpl : (backTo pos (starEach es X.env)).any (·.1) = false := by rfl) :
    PED X g (.Call (.Name x p) (e :: es) [] pos) (dCall C dds g.Ed tas) := by
  obtain ⟨fa, fd, ps, ds, dvs, F, hm, hk, hb, hd, hdd⟩ := c
  exact d_call F (hr.mono hj) hg hm hk hb hd hdd tk hC ha hdb he hpl
/-- a module's int -/
theorem d_gint {i : Int} (hg : Gl X x) (hm : ∃ t, X.mg x = some (.int i t)) (hd : (x == ("__debug__" : Str)) = false := by decide) : PED X g (.Name x p) (dC (.int i)) := by
  obtain ⟨t, hm⟩ := hm
  exact ped_of (pe_glob (v := .int i) hg hm ⟨t, rfl⟩ hd) (sd_c fun _ => by simp only [Den])

section
variable {i : Nat} {y : Str} {py : Pos} {elt tg iter : Expr} {ifs : List Expr} {scope : Scope} {own : List (Str × Nat)} {spos : Pos} {gt : TG} {tid : TID} {gd : TGD} {tt : TTD} {ed : TED}
theorem ds_lcN (hc : X.calm = true) (hN : X.N.Nodup) (hy : X.N[i]? = some y) (hyl : X.env.scope.names.lookup y = some .local) (hsw : swapsWith (.ListComp elt [⟨tg, iter, ifs, 0⟩] scope pos) (some (.Name y py)) spos.line X.env = pure true)
    (hi : PID X g tg iter tid) (ok : BlkOk X.N X.env.scope scope own)
    (hg : ∀ (s : Shared) (H : Hp) (C : Addr) (cl : List (Str × Addr)) (fp : List Addr), PG (X.blk s H scope (compEnvC scope cl C X.env) fp) tg gt) (sg : SG X.K g.nox gt gd) (gw : GW gt (own.map (·.2)))
    (ht : ST X.K g.nox (wBT X scope ifs) tt) (he : SE X.K g.nox (wBE X scope elt) ed) (hs : ∀ x, foldedSetIterable iter X.env x = pure x := by intro _; rfl) :
    PSD X g (.Assign [.Name y py] (.ListComp elt [⟨tg, iter, ifs, 0⟩] scope pos) spos) (sNew i (fLc tid gd tt ed (own.map (·.2)))) :=
  psd_of (ps_setLc hc hN hy hyl hsw pi_w ok hg (fun _ _ _ _ _ => pt_blk) (fun _ _ _ _ _ => pe_blk) hs) fun b σ H env Dd E hd xl h el =>
    sf_lc hi sg gw ht he b σ H env _ _ hd xl h fun p vs ds H1 hp e1 hl dn ⟨z, kp, q⟩ => el.nx _ _ _ (hd.putNew z hp e1 hl dn kp) q
theorem ds_lcV (hc : X.calm = true) (hN : X.N.Nodup) (hy : X.N[i]? = some y) (hyl : X.env.scope.names.lookup y = some .local) (hsw : swapsWith (.ListComp elt [⟨tg, iter, ifs, 0⟩] scope pos) (some (.Name y py)) spos.line X.env = pure true)
    (hi : PID X g tg iter tid) (ok : BlkOk X.N X.env.scope scope own)
    (hg : ∀ (s : Shared) (H : Hp) (C : Addr) (cl : List (Str × Addr)) (fp : List Addr), PG (X.blk s H scope (compEnvC scope cl C X.env) fp) tg gt) (sg : SG X.K g.nox gt gd) (gw : GW gt (own.map (·.2)))
    (ht : ST X.K g.nox (wBT X scope ifs) tt) (he : SE X.K g.nox (wBE X scope elt) ed) (hs : ∀ x, foldedSetIterable iter X.env x = pure x := by intro _; rfl) :
    PSD X g (.Assign [.Name y py] (.ListComp elt [⟨tg, iter, ifs, 0⟩] scope pos) spos) (sAsg i (dF (fLc tid gd tt ed (own.map (·.2))))) :=
  psd_of (ps_setLc hc hN hy hyl hsw pi_w ok hg (fun _ _ _ _ _ => pt_blk) (fun _ _ _ _ _ => pe_blk) hs) fun b σ H env Dd E hd xl h el =>
    sf_lc hi sg gw ht he b σ H env _ _ hd xl h fun p vs ds H1 hp e1 hl dn ⟨kp, q⟩ => el.nx _ _ _ ((hd.mono e1).put (by
      simp only [Den]
      exact ⟨p, vs, rfl, hl, HI.nown hd.ok hp, DenA.weak (fun a z => .inl z) _ _ dn⟩) kp) q
end
/-- x[i] = e, x a list that is written here -/
def sSetIx (i : Nat) (tv ti : TED) : TSD := fun Dd env => tv env fun d => ∃ xs, env[i]? = some (.own xs) ∧ ti env fun z => ∃ (k : Int) (j : Nat), z = .int k ∧ ixN xs.length k = some j ∧ d.noLst = true ∧ Dd.nx (env.set i (.own (xs.set j d)))
theorem ds_setIx {i : Nat} {p3 : Pos} (hN : X.N[i]? = some x) (hv : Vis X.env.scope x) (hd1 : (x == ("__debug__" : Str)) = false) (hcd : (x == ("__classdict__" : Str)) = false) (he : PED X g e tv) (hix : PED X g e2 ti)
    (hs : swapsWithSole [.Subscript (.Name x p) e2 p3] e pos.line X.env = pure false := by rfl) (hw : swappedStores [.Subscript (.Name x p) e2 p3] e X.env = pure none := by rfl)
    (hsub : PG X (.Subscript (.Name x p) e2 p3) (gSub (tVar i) (wE X e2) rSetL)) :
    PSD X g (.Assign [.Subscript (.Name x p) e2 p3] e pos) (sSetIx i tv ti) :=
  psd_of (ps_asg pe_w hsub hs hw) fun b σ H env Dd E hd xl h el => he b σ H env _ _ hd xl h fun v d H1 e1 dn ⟨xs, hx, q⟩ => by
    obtain ⟨a, vs, S, q1, q2, _⟩ := (hd.mono e1).wr hx
    refine ⟨.ref a, q1, ?_⟩
    refine hix b σ H1 env _ _ (hd.mono e1) xl q fun zv z H2 e2 dz ⟨k, j, ez, hj, nl, q⟩ => ?_
    subst ez
    simp only [Den] at dz
    obtain ⟨a', vs', S', w1, w2, w3, w4, w5, w6⟩ := (hd.mono (e1.trans e2)).wr hx
    rw [q1] at w1
    cases w1
    exact ⟨a, vs', k, j, rfl, dz, w2, by rw [w3.len]; exact hj, el.nx _ _ _ (w6 _ _ (DenA.set (w4 v d nl (Den.keep e2.1 _ _ dn)) j w3)) q⟩
end
end Dl
namespace Dl
open PySem PySem.Spec PyProof.Rows L2 He
/-! ### what the head tells of an own error class with one field -/
def clsB (K : PySem.W.Frag) (C : Addr) : Bool := match K.lookup C with
  | some ⟨.type t, _, .cls cd, sl⟩ => (match cd.mro, sl.toList with
    | .ref C' :: bm, [_, _, _, _, some (.builtin n), _] => decide (t = "type") && (C' == C && (decide (n = "ValueError.__new__") && (!cd.hasDel && (cd.hasDict && PySem.HandSPX.refsVE bm))))
    | _, _ => false)
  | _ => false
theorem clsB_ok {K : PySem.W.Frag} {C : Addr} (q : clsB K C = true) : ∃ nm qn N bs bm sn sub ab col dd k0 k1 k2 k3 k5, K.lookup C = some (excClassObj nm qn C N bs bm true sn sub ab col dd k0 k1 k2 k3 k5 "ValueError.__new__") ∧ PySem.HandSPX.refsVE bm = true := by
  unfold clsB at q
  split at q
  · rename_i t dd cd sl ho
    split at q
    · rename_i C' bm k0 k1 k2 k3 n k5 hm hs
      simp only [Bool.and_eq_true, beq_iff_eq, Bool.not_eq_true', decide_eq_true_eq] at q
      obtain ⟨rfl, rfl, rfl, hdel, hh, hr⟩ := q
      obtain ⟨nm, bs, mro, ns, qn, hd, sn, sub, ab, col, del⟩ := cd
      dsimp only at hm hdel hh
      subst hm hdel hh
      have hsl : sl = #[k0, k1, k2, k3, some (.builtin "ValueError.__new__"), k5] := by
        obtain ⟨l⟩ := sl
        simp only at hs
        rw [hs]
      subst hsl
      exact ⟨nm, qn, ns, bs, bm, sn, sub, ab, col, dd, k0, k1, k2, k3, k5, ho, hr⟩
    · cases q
  · cases q
def errB (K : PySem.W.Frag) (x fl : Str) : Bool := clsB K (ga K x) && (decide (PySem.W.findIn K (.ref (ga K x)) "__setattr__" = some (some (.builtin "object.__setattr__"))) && (decide (PySem.W.subIn K (.ref (ga K x)) (.type "BaseException") = some true) &&
  (decide (PySem.W.typeIn K (.ref (ga K x)) = some (.type "type")) && (PySem.W.keepIn K (.ref (ga K x)) && (decide (PySem.W.findIn K (.ref (ga K x)) fl = some none) &&
  (decide (PySem.W.findIn K (.ref (ga K x)) "__init__" = some (some (.ref (ma K (ga K x) "__init__")))) && decide (PySem.W.typeIn K (.ref (ma K (ga K x) "__init__")) = some (.type "function"))))))))
structure ErrF (K : PySem.W.Frag) (x fl : Str) : Prop where
  e : ErrC K (ga K x) fl
  i : PySem.W.findIn K (.ref (ga K x)) "__init__" = some (some (.ref (ma K (ga K x) "__init__")))
  t : PySem.W.typeIn K (.ref (ma K (ga K x) "__init__")) = some (.type "function")
theorem errB_ok {K : PySem.W.Frag} {x fl : Str} (h : errB K x fl = true) : ErrF K x fl := by
  obtain ⟨h1, h⟩ := ba h
  obtain ⟨h2, h⟩ := ba h
  obtain ⟨h3, h⟩ := ba h
  obtain ⟨h4, h⟩ := ba h
  obtain ⟨h5, h⟩ := ba h
  obtain ⟨h6, h⟩ := ba h
  obtain ⟨h7, h8⟩ := ba h
  exact ⟨⟨⟨clsB_ok h1, of_decide_eq_true h2, of_decide_eq_true h3, of_decide_eq_true h4, h5⟩, of_decide_eq_true h6⟩, of_decide_eq_true h7, of_decide_eq_true h8⟩
/-- such an error, ready to be raised -/
structure Er (P : Program) (w : World) (K : PySem.W.Frag) (mg : Str → Option Value) (base : Heap) (x fl : Str) : Prop where
  f : ErrF K x fl
  m : mg x = some (.ref (ga K x))
  ex : ∃ fd, FnOk P w K mg base CX0 1 (ma K (ga K x) "__init__") fd ["self", fl] (spExc (ga K x) fl) ∧ L2.Binds K fd ["self", fl] []
section
variable {X : Cx} {g : Gx} {e : Expr} {td : TED} {pos p cpos : Pos} {x fl : Str} {j : Nat}
theorem ds_raiseC (er : Er X.prog X.w X.K X.mg X.base x fl) (hc : X.calm = true) (hr : Room j X.A) (hj : 2 ≤ j) (hg : Gl X x) (tk : Takes X g.W) (ha : PED X g e td)
    (hdb : (x == ("__debug__" : Str)) = false := by decide) (he : starEach (e :: []) X.env = (false, eval e X.env) :: starEach [] X.env := by rfl) (hpl : (backTo cpos (starEach [] X.env)).any (·.1) = false := by rfl) :
    PSD X g (.Raise (some (.Call (.Name x p) [e] [] cpos)) none pos) (sRaise (ga X.K x) fl g.Ed td) := by
  obtain ⟨fd, F, hb⟩ := er.ex
  exact ds_raise hc er.f.e er.f.i er.f.t F pass0 (hr.mono hj) hb hg er.m tk ha hdb he hpl
end
/-! ### the Hook: defs, facts, one Bool more -/
abbrev AlZ : Type := AlD × Bool
def obsZ (n : Nat) (fa : List Fa) (fn : List DefD) (ex : PySem.W.Frag → Bool) (g : Addr → Option Obj) : AlZ := (obsD fa fn (frG g (asD g n)), ex (frG g (asD g n)))
def hookZ (n : Nat) (fa : List Fa) (fn : List DefD) (ex : PySem.W.Frag → Bool) : PySem.W.Hook where
  α := AlZ
  obs := fun s => obsZ n fa fn ex s.heap.get?
  val := fun _ => (valD fn, true)
  says := fun _ h => ∃ K : PySem.W.Frag, K.In h ∧ SaysD fa fn K ∧ ex K = true
  of := fun _ _ e => ⟨_, frG_in, congrArg (fun z : AlZ => z.1) e, congrArg (fun z : AlZ => z.2) e⟩
  keeps := fun _ _ _ ⟨K, hK, c⟩ k => ⟨K, PySem.W.Frag.In.keeps hK k, c⟩
theorem obsZ_eq {n : Nat} {fa : List Fa} {fn : List DefD} {ex : PySem.W.Frag → Bool} {g : Addr → Option Obj} {s : Shared} (h : ∀ a, g a = s.heap.get? a) : obsZ n fa fn ex g = (hookZ n fa fn ex).obs s := by
  have e : g = s.heap.get? := funext h
  rw [e] <;> rfl
theorem all_mem {α : Type} {l : List α} {f : α → Bool} (h : l.all f = true) (i : Nat) {x : α} (e : l[i]? = some x) : f x = true := List.all_eq_true.mp h x (List.mem_of_getElem? e)
/-- a def of the text by its place -/
def defD (st : Stmt) (cl : Option Str) (x : Str) (dfl : List Dv) : DefD := ⟨(match cl with | some c => (c, some x) | none => (x, none)), x, (match cl with | some c => c ++ "." ++ x | none => x), defArgs st, defBody st, defScope st, dfl, []⟩
abbrev FnS (K : PySem.W.Frag) (x : Str) (st : Stmt) (dvs : List V) (f : Addr) (fd : FuncData) : Prop := FunD K x x (defArgs st) (defBody st) (defScope st) dvs [] f fd
end Dl
/-! sorted of whatever can be gathered, by any strict weak order -/
namespace SrtT
open PySem PyProof.Rows Srt SrtO
/-- what sorted leaves: all that stood, and the new list -/
def After (s1 : Shared) (out : List Value) (s2 : Shared) : Prop := ∃ h : Heap, s2 = { s1 with heap := h } ∧ (∀ b o, s1.heap.get? b = some o → h.get? b = some o) ∧ ∃ e, h.get? s1.heap.objs.size = some (seqObj "list" out.toArray e)
theorem sorted_any {prog : Program} {w : World} {A : Around} {E : Value → Shared → Prop} {s : Shared} {v : Value} {ltv : Value → Value → Bool} {Q : Value → Shared → Prop} (O : Swo ltv) (G : List Value → Shared → Prop)
    (gather : ∀ (E' : Value → Shared → Prop) (R : List Value → Shared → Prop), (∀ vs s1, G vs s1 → R vs s1) → wpAny (model prog w) A.in1 (collect v) R E' s)
    (fits : ∀ vs s1, G vs s1 → vs.length ≤ sizeLine)
    (able : ∀ vs s1, G vs s1 → 2 ≤ vs.length → ∀ (h2 : Heap) (a : Addr), (∀ b o, s1.heap.get? b = some o → b ≠ a ∧ h2.get? b = some o) → SortableO prog w A.in1.in1 { s1 with heap := h2 } a vs ltv)
    (fin : ∀ vs s1, G vs s1 → ∀ out s2, Srtd ltv out → Stb ltv out vs → After s1 out s2 → Q (.ref s1.heap.objs.size) s2) : wpAny (model prog w) A (call (.builtin "sorted") [v]) Q E s := by
  apply Calls.call_function_entry kind_sorted plain_sorted entry_sorted (args_sorted1 _)
  unfold Builtin.«sorted»
  apply wpAny_bind (m := checkCount "sorted" 1 1 _)
  apply wpAny_pure
  apply wpAny_bind
  apply gather
  intro vs s1 g
  have hz := fits vs s1 g
  apply wpAny_bind
  refine wpAny_newList ?_ hz
  have made : (s1.heap.push (seqObj "list" vs.toArray 0)).get? s1.heap.objs.size = some (seqObj "list" vs.toArray 0) := Heap.get?_push_size _ rfl
  have old : ∀ b o, s1.heap.get? b = some o → b ≠ s1.heap.objs.size ∧ (s1.heap.push (seqObj "list" vs.toArray 0)).get? b = some o := fun b o q => ⟨Nat.ne_of_lt (Heap.lt_size q), Heap.get?_push_of_some _ q⟩
  show wpAny _ _ _ _ _ { s1 with heap := s1.heap.push (seqObj "list" vs.toArray 0) }
  apply wpAny_bind
  apply wpAny_holding
  refine wpAny_call_entry slot_list_sort ⟨_, made, rfl⟩ entry_list_sort (list_sort_ord O made hz (fun h2 => able vs s1 g h2 _ _ old) fun out so st => ⟨_, rfl, ?_⟩) (args_list_sort _)
  refine wpAny_pure ⟨_, rfl, fin vs s1 g out _ so st ⟨_, rfl, fun b o q => ?_, sortedHeap_at made⟩⟩
  obtain ⟨ne, q'⟩ := old b o q
  rw [sortedHeap_old ne (Heap.lt_size q')]
  exact q'
/-- the items of a list, a tuple -/
def Seq (s : Shared) (its : List Value) : List Value → Shared → Prop := fun vs s1 => vs = its ∧ ∃ h : Heap, s1 = { s with heap := h } ∧ ∀ b o, s.heap.get? b = some o → h.get? b = some o
theorem gather_seq {prog : Program} {w : World} {A : Around} {s : Shared} {a : Addr} {its : List Value} {T : String} (hT : T = "list" ∨ T = "tuple") {o : Obj} {n : Nat} (ho : s.heap.get? a = some o) (hc : o.cls = .type T) (hd : o.data = .seq its.toArray n) (hz : its.length ≤ sizeLine)
    (E' : Value → Shared → Prop) (R : List Value → Shared → Prop) (h : ∀ vs s1, Seq s its vs s1 → R vs s1) : wpAny (model prog w) A (collect (.ref a)) R E' s :=
  wpAny_collect_seq a hT ho hc hd (fun h' keep => h _ _ ⟨by simp, h', rfl, keep⟩) (by rw [List.size_toArray]; exact hz)
end SrtT
namespace Dl
open PySem PySem.Spec PyProof.Rows L2
/-- sorted of a tuple of ints -/
def rSortTI (K : PySem.W.Frag) : List V → Hp → VK → Prop := fun vs H Q => ∃ (a : Addr) (ns : List Int), vs = [V.ref a] ∧ SqT K H a (ns.map V.int) ∧
  ∀ (ms : List Int) (p : Addr), ms.Perm ns → ms.Pairwise (· ≤ ·) → H p = none → Q (.ref p) (upd H p (.lst (ms.map V.int)))
theorem cr_sortTI {X : Cx} : CallR X (.builtin "sorted") (rSortTI X.K) := fun pins s σ H vs us Q I r h => by
  obtain ⟨a, ns, rfl, hs, q⟩ := h
  obtain ⟨its, rv, ⟨o, ho, hc, n, hd⟩, hz⟩ := I.tuple hs
  have hi := rv.ints
  have hz' : its.length ≤ sizeLine := rv.length ▸ hz
  cases r with
  | cons r1 r2 =>
    cases r2
    cases r1
    refine SrtT.sorted_any SrtO.swo_int (SrtT.Seq s its) (SrtT.gather_seq (.inr rfl) ho hc hd hz') (fun vs s1 g => ?_) (fun vs s1 g h2 h₂ b _ => ?_) fun vs s1 g out s2 so st af => ?_
    · rw [g.1]; exact hz'
    · obtain ⟨rfl, h', rfl, _⟩ := g
      exact SrtO.ints_sortable hi h2
    · obtain ⟨rfl, h', rfl, keep⟩ := g
      obtain ⟨h3, rfl, keep3, e, new⟩ := af
      obtain ⟨k1, k2, k3⟩ := SrtO.ints_out hi so st
      have no' : h'.get? h'.objs.size = none := by
        cases z : h'.get? h'.objs.size with
        | none => rfl
        | some o => exact absurd (Heap.lt_size z) (Nat.lt_irrefl _)
      have no : s.heap.get? h'.objs.size = none := by
        cases z : s.heap.get? h'.objs.size with
        | none => rfl
        | some o =>
          have := keep _ _ z
          rw [no'] at this
          cases this
      have hl : ((out.map SrtO.iv).map V.int).length ≤ sizeLine := by
        rw [List.length_map, k2.length_eq, ← List.length_map (f := V.int)]
        exact hz
      exact ⟨.ref _, upd H h'.objs.size (.lst ((out.map SrtO.iv).map V.int)), I.laidN (t' := s.toks) (fun b u z => keep3 b u (keep b u z)) no (I.hok.gone no) ⟨hl, out, e, vals_of_ints k1, new⟩, rfl, q _ _ k2 k3 (I.hok.gone no)⟩
/-- sorted of a list or a tuple of ints -/
def bSort : FC := fun xs Q => ∃ ns : List Int, (xs = [.lst (ns.map D.int)] ∨ xs = [.tup (ns.map D.int)]) ∧ ∀ ns' : List Int, ns'.Perm ns → ns'.Pairwise (· ≤ ·) → Q (.lst (ns'.map D.int))
theorem c_sort {X : Cx} {I : HI} : RC X I (.builtin "sorted") bSort := fun H xs ds Qd Q ok dn ⟨ns, e, h⟩ k => by
  rcases e with e | e
  · exact c_sortI H xs ds Qd Q ok dn ⟨ns, e, h⟩ k
  · subst e
    obtain ⟨v, rfl, d1⟩ := dn.one1
    simp only [Den] at d1
    obtain ⟨a, vs, rfl, s1, n1, r1⟩ := d1
    have e1 := r1.ofInts
    subst e1
    exact rc_of cr_sortTI ⟨a, ns, rfl, s1, fun ns' p pm so hp => k _ _ _ (.new ok hp) (new_lst ok hp DenA.ints) (h ns' pm so)⟩
theorem pf_e {X : Cx} {g : Gx} {e : Expr} {td : TFD} (h : PFD X g e td) : PED X g e (dF td) := SF.se h
end Dl
namespace Dl
open PySem PySem.Spec PyProof.Rows L2

/-! ### try .. except C as e -/
def Exc.noLst (x : Exc) : Bool := match x.fs with
  | none => true
  | some fs => noLstA (fs.map (·.2))
/-- the caught exception as data -/
def excD (a : Addr) (d : Option Addr) (x : Exc) : D := match x.fs, d with
  | some fs, some dd => .obj (.cau a dd) (fs.map (·.1)) (fs.map (·.2))
  | _, _ => .ref a
theorem excD_noLst {a : Addr} {d : Option Addr} {x : Exc} (h : x.noLst = true) : (excD a d x).noLst = true := by
  unfold excD
  unfold Exc.noLst at h
  split
  · rename_i fs dd e1
    rw [e1] at h
    simpa only [D.noLst] using h
  · simp only [D.noLst]
theorem excD_den {K : PySem.W.Frag} {I : HI} {H : Hp} {a : Addr} {d : Option Addr} {x : Exc} (ok : I.ok H) (no : ∀ dd fs, H dd = some (.xd fs) → ¬ I.own dd) (h : ExD K I H x d) : Den K I.own H (.ref a) (excD a d x) := by
  unfold ExD at h
  unfold excD
  cases e : x.fs with
  | none =>
    rw [e] at h
    simp only [Den]
  | some fs =>
    rw [e] at h
    obtain ⟨dd, ws, rfl, hx, dn⟩ := h
    simp only [Den]
    refine ⟨ws, by rw [dn.len, List.length_map, List.length_map], ⟨rfl, no _ _ hx, hx⟩, dn⟩
/-- what may change holds no exception's dict -/
def HI.noXd (I : HI) : Prop := ∀ H, I.ok H → ∀ dd fs, H dd = some (.xd fs) → ¬ I.own dd
theorem DenE.del {K : PySem.W.Frag} {I : HI} {b : B0} {σ : L2.St} {H : Hp} {env : DEnv} (h : DenE K I b σ H env) (i : Nat) : DenE K I b (σ.set i none) H (env.set i .no) := by
  obtain ⟨oa, h1, h2, h3, h4⟩ := h.slots
  have sub : ∀ a, AvOf I (env.set i .no) oa a → AvOf I env oa a := fun a z => z.imp id fun ⟨j, xs, e, q⟩ => by
    rcases get_set e with ⟨_, e⟩ | ⟨_, e⟩
    · cases e
    · exact ⟨j, xs, e, q⟩
  refine ⟨by rw [List.length_set, List.length_set]; exact h.len, h.ext, oa, fun j xs e => ?_, fun j k xs ys e1 e2 => ?_, fun j d' e => ?_, fun p hp => Den.weak sub _ _ (h4 p hp)⟩
  · rcases get_set e with ⟨_, e⟩ | ⟨ne, e⟩
    · cases e
    · obtain ⟨⟨vs, e1, e2, e3⟩, e4⟩ := h1 j xs e
      exact ⟨⟨vs, by rw [List.getElem?_set_ne (Ne.symm ne)]; exact e1, e2, DenA.weak sub _ _ e3⟩, e4⟩
  · rcases get_set e1 with ⟨_, e1⟩ | ⟨_, e1⟩
    · cases e1
    · rcases get_set e2 with ⟨_, e2⟩ | ⟨_, e2⟩
      · cases e2
      · exact h2 j k xs ys e1 e2
  · rcases get_set e with ⟨_, e⟩ | ⟨ne, e⟩
    · cases e
    · obtain ⟨v, e1, e2⟩ := h3 j d' e
      exact ⟨v, by rw [List.getElem?_set_ne (Ne.symm ne)]; exact e1, Den.weak sub _ _ e2⟩

abbrev TSX := (DEnv → Exc → Prop) → TSD
/-- a reading by data, as a reading -/
def rdS (K : PySem.W.Frag) (I : HI) (td : TSX) (W : WX) : TS := fun E σ H => ∃ b env Dd Ed, DenE K I b σ H env ∧ XL K ⟨I, Ed, W⟩ b ∧ td Ed Dd env ∧ EL K ⟨I, Ed, W⟩ b Dd E
def rdU (K : PySem.W.Frag) (I : HI) (ts : Addr → Option Addr → Exc → TSD) (a : Addr) (cls : Value) (d : Option Addr) : TS := fun E σ H => ∃ b env Dd x, cls = .ref x.cls ∧ (x.fs.isSome = d.isSome) ∧ DenE K I b σ H env ∧ ts a d x Dd env ∧ EL K ⟨I, fun _ _ => False, fun _ _ _ _ => False⟩ b Dd E
def sTry (K : PySem.W.Frag) (c : Value) (i : Nat) (tb : TSX) (ts : Addr → Option Addr → Exc → TSD) (Ed : DEnv → Exc → Prop) : TSD := fun Dd env =>
  tb (fun env' x => ∃ t, PySem.W.exmOne K (.ref x.cls) c = some t ∧ (t = true → (noOwn (env'.set i .no) = true ∨ x.noLst = true) ∧ ∀ a d, x.fs.isSome = d.isSome → ts a d x ⟨fun e2 => Dd.nx (e2.set i .no), Dd.rt, fun e2 => Dd.bk (e2.set i .no), fun e2 => Dd.ct (e2.set i .no)⟩ (env'.set i (.val (excD a d x)))) ∧ (t = false → Ed env' x)) Dd env
section
variable {X : Cx} {g : Gx} {x n : Str} {c : Value} {i : Nat} {body suite : List Stmt} {b₀ : Stmt} {np pos pos' : Pos} {tb : TSX} {ts : Addr → Option Addr → Exc → TSD}
theorem ds_try (hs : X.stack = X.env :: X.outer) (hf : X.env.frame = some X.env.locals) (hN : X.N.Nodup) (hi : X.N[i]? = some n) (hln : X.env.kindOf n = some .local) (hc : Names X x c) (tk : Takes X g.W) (hx : g.I.noXd)
    (hb : ∀ (Ed : DEnv → Exc → Prop) (W : WX) (pn : List (Addr × Obj)) (xe : Value → Shared → Prop), Takes (X.tr pn xe) W → PassesOwn (model X.prog X.w) X.A X.env xe → PSsD (X.tr pn xe) ⟨g.I, Ed, W⟩ body (tb Ed))
    (hsu : ∀ (a : Addr) (oe : Obj) (x : Exc) (d : Option Addr) (pn : List (Addr × Obj)), Zc (.ref x.cls) d oe → (∃ vs, oe.data = .fields vs) → PSsD (X.suite a ((a, oe) :: pn)) ⟨g.I, fun _ _ => False, fun _ _ _ _ => False⟩ (b₀ :: suite) (ts a d x)) :
    PSD X g (.Try body [.ExceptHandler (some (.Name x np)) (some n) (b₀ :: suite) pos'] [] [] pos) (sTry X.K c i tb ts g.Ed) :=
  psd_of (ps_try_as (tb := fun W => rdS X.K g.I tb W) (ts := fun a cls d => rdU X.K g.I ts a cls d) hs hf hN hi hln hc tk
    (fun W pn xe tk' po => ⟨fun pins s σ H E J ⟨b, env, Dd, Ed, hd, xl, h, el⟩ => hb Ed W pn xe tk' po b σ H env Dd E hd xl h el pins s J⟩)
    (fun a oe cls d pn hz hv => ⟨fun pins s σ H E J ⟨b, env, Dd, x, ec, _, hd, h, el⟩ => by
      subst ec
      exact hsu a oe x d pn hz hv b σ H env Dd E hd (XL.nox (g := ⟨g.I, g.Ed, g.W⟩)) h el pins s J⟩)) fun b σ H env Dd E hd xl h el => by
    refine ⟨b, env, Dd, _, hd, fun σ' H0 env' x d H' hd' e xd ⟨t, e1, ht, hff⟩ => ?_, h, ⟨el.nx, el.rt, el.bk, el.ct⟩⟩
    refine ⟨t, e1, fun et a hA => ?_, fun ef => xl σ' H0 env' x d H' hd' e xd (hff ef)⟩
    obtain ⟨kp, q⟩ := ht et
    have hsd : x.fs.isSome = d.isSome := by
      unfold ExD at xd
      cases e2 : x.fs with
      | none => rw [e2] at xd; rw [xd]; rfl
      | some fs =>
        rw [e2] at xd
        obtain ⟨dd, ws, rfl, _⟩ := xd
        rfl
    refine ⟨b, _, _, x, rfl, hsd, (hd'.mono e).put (excD_den e.2 (hx H' e.2) xd) (kp.imp id excD_noLst), q a d hsd, ?_⟩
    exact ⟨fun σ2 H2 e2 hd2 q2 => el.nx _ _ _ (hd2.del i) q2, el.rt, fun σ2 H2 e2 hd2 q2 => el.bk _ _ _ (hd2.del i) q2, fun σ2 H2 e2 hd2 q2 => el.ct _ _ _ (hd2.del i) q2⟩
end
/-! ### within the suite: e.f, isinstance(e, C) -/
section
variable {X : Cx} {g : Gx} {a : Addr} {oe : Obj} {x : Exc} {d : Option Addr} {pn : List (Addr × Obj)} {e : Expr} {te : TED} {pos p : Pos} {n y : Str}
def lookD (n : Str) : List (Str × D) → Option D
  | [] => none
  | (m, d) :: r => if n = m then some d else lookD n r
/-- e.f -/
def dXf (K : PySem.W.Frag) (a : Addr) (d : Option Addr) (x : Exc) (n : Str) (te : TED) : TED := fun env Q => te env fun z => z = excD a d x ∧ XfC K x.cls ∧ PySem.W.findIn K (.ref x.cls) n = some none ∧ ∃ fs v, x.fs = some fs ∧ d.isSome = true ∧ lookD n fs = some v ∧ Q v
theorem look_zip {K : PySem.W.Frag} {Av : Addr → Prop} {H : Hp} {n : Str} : ∀ {fs : List (Str × D)} {ws : List V} {v : D}, DenA K Av H ws (fs.map (·.2)) → lookD n fs = some v → ∃ u, ((fs.map (·.1)).zip ws).lookup n = some u ∧ Den K Av H u v
  | [], _, _, _, h => by cases h
  | (m, d) :: r, ws, v, dn, h => by
    obtain ⟨u, us, rfl, h1, h2⟩ := DenA.cons (show DenA K Av H ws (d :: r.map (·.2)) from dn)
    unfold lookD at h
    by_cases e : n = m
    · rw [if_pos e] at h
      cases h
      subst e
      exact ⟨u, by simp, h1⟩
    · rw [if_neg e] at h
      obtain ⟨u', q1, q2⟩ := look_zip h2 h
      refine ⟨u', ?_, q2⟩
      show ((m, u) :: (r.map (·.1)).zip us).lookup n = some u'
      rw [List.lookup_cons]
      have : (n == m) = false := by simpa using e
      rw [this]
      exact q1
theorem d_xf (hz : Zc (.ref x.cls) d oe) (hf : ∃ vs, oe.data = .fields vs) (he : PED (X.suite a ((a, oe) :: pn)) g e te) (hb : attributeBase e n X.env (eval e X.env) = eval e X.env := by rfl) :
    PED (X.suite a ((a, oe) :: pn)) g (.Attribute e n pos) (dXf X.K a d x n te) := fun b0 σ H env Qd Q hd xl ht k pins s J => by
  refine attr_of hb (thn (he b0 σ H env (fun z => z = excD a d x ∧ XfC X.K x.cls ∧ PySem.W.findIn X.K (.ref x.cls) n = some none ∧ ∃ fs v, x.fs = some fs ∧ d.isSome = true ∧ lookD n fs = some v ∧ Qd v) (fun z H1 => z = .ref a ∧ XfC X.K x.cls ∧ PySem.W.findIn X.K (.ref x.cls) n = some none ∧ ∃ (dd : Addr) (fs : List (Str × V)) (v : V), d = some dd ∧ H1 dd = some (.xd fs) ∧ fs.lookup n = some v ∧ Q v H1) hd xl ht (fun v z H1 e1 dn hq => ?_) pins s J) fun u s1 hh => ?_)
  · obtain ⟨ez, hX, hn, fs, w, ef, es, el, q⟩ := hq
    obtain ⟨dd, rfl⟩ := Option.isSome_iff_exists.mp es
    have ez' : z = .obj (.cau a dd) (fs.map (·.1)) (fs.map (·.2)) := by rw [ez]; unfold excD; rw [ef]
    subst ez'
    simp only [Den] at dn
    obtain ⟨ws, hl, ⟨rfl, _, hx⟩, da⟩ := dn
    obtain ⟨u, q1, q2⟩ := look_zip da el
    exact ⟨rfl, hX, hn, dd, _, u, rfl, hx, q1, k u w H1 e1 q2 q⟩
  · obtain ⟨z, H1, I1, rx, ez, T, hno, dd, fs, v, ed, ea, l, q⟩ := hh
    subst ez
    obtain rfl : u = Value.ref a := rx
    subst ed
    obtain ⟨ha, _⟩ := I1.pin (a, oe) (List.mem_append_left _ List.mem_cons_self)
    obtain ⟨vs, hdt⟩ := hf
    have hx : ObjOk X.prog X.w H1 s1.heap dd (.xd fs) := I1.hok dd _ ea
    obtain ⟨mA, hns, hr⟩ := hx
    obtain ⟨od, ho, hl⟩ := lookIn_ns hns
    obtain ⟨u, hu, ru⟩ := RelO.some_of (v := v) (o := mA n) (by rw [← l]; exact hr n)
    have J : PySem.W.InstAt s1.heap a oe x.cls (some od) := ⟨ha, hz.1, by unfold PySem.W.notCls; rw [hdt] <;> rfl, by rw [hz.2]; exact ho⟩
    exact HandSPX.exc_get I1.kIn J T.ga T.gg T.exC (PySem.W.findObj_own T.hdC hno rfl (by rw [hl, hu])) (handed_of ru) ⟨v, H1, I1.tok _, ru, q⟩
/-- isinstance(e, C) -/
def clsV : D → Option Value
  | .ref a => some (.ref a)
  | .ty n => some (.type n)
  | _ => none
def bIsX (K : PySem.W.Frag) (a : Addr) (d : Option Addr) (x : Exc) : FC := fun xs Q => ∃ c cv t, xs = [excD a d x, c] ∧ x.fs.isSome = d.isSome ∧ clsV c = some cv ∧ ExcC K x.cls ∧ PySem.W.kitOne K (.ref x.cls) cv = some t ∧ Q (.bl t)
theorem c_isX {I : HI} (hz : Zc (.ref x.cls) d oe) (hf : ∃ vs, oe.data = .fields vs) : RC (X.suite a ((a, oe) :: pn)) I (.builtin "isinstance") (bIsX X.K a d x) := fun H xs ds Qd Q ok dn ⟨c, cv, t, e, hsd, hc, C, hk, q⟩ k => by
  subst e
  obtain ⟨v, r, rfl, d1, d2⟩ := dn.cons
  obtain ⟨w, rfl, d3⟩ := d2.one1
  intro pins s σ us J r
  cases r with
  | cons rx rr =>
    cases rr with
    | cons rt rr =>
      cases rr
      rename_i u1 u2
      have e2 : u2 = cv := by
        cases c <;> simp only [clsV, Option.some.injEq, reduceCtorEq] at hc <;> simp only [Den] at d3 <;> subst d3 <;> subst hc <;> exact rt
      subst e2
      obtain ⟨hget, _⟩ := J.pin (a, oe) (List.mem_append.mpr (.inl List.mem_cons_self))
      obtain ⟨vs, hv⟩ := hf
      have key : u1 = .ref a ∧ ∃ od, PySem.W.InstAt s.heap a oe x.cls od := by
        unfold excD at d1
        cases ef : x.fs with
        | none =>
          rw [ef] at d1 hsd
          have ed : d = none := by
            cases d with
            | none => rfl
            | some _ => cases hsd
          subst ed
          simp only [Den] at d1
          subst d1
          refine ⟨rx, none, hget, hz.1, by unfold PySem.W.notCls; rw [hv] <;> rfl, ?_⟩
          rw [hz.2]; trivial
        | some fs =>
          rw [ef] at d1 hsd
          cases d with
          | none => cases hsd
          | some dd =>
            simp only [Den] at d1
            obtain ⟨ws, hl, ⟨rfl, _, hx⟩, da⟩ := d1
            have hx : ObjOk X.prog X.w H s.heap dd (.xd _) := J.hok dd _ hx
            obtain ⟨mA, hns, hr⟩ := hx
            obtain ⟨od, ho, hl⟩ := lookIn_ns hns
            exact ⟨rx, some od, hget, hz.1, by unfold PySem.W.notCls; rw [hv] <;> rfl, by rw [hz.2]; exact ho⟩
      obtain ⟨rfl, od, JA⟩ := key
      have hcl : (PySem.W.clsIn X.K x.cls).isSome = true := by
        obtain ⟨cd, hcd, _⟩ := PySem.W.any_some C.hd
        rw [hcd]; rfl
      exact PySem.W.kia_one (PySem.W.kitx_exc hcl C.hg C.hk C.hs C.ha C.hn C.ht C.hm) J.kIn JA hk (fun z => nomatch z) fun tk => ⟨.bl t, H, J.kept (t' := tk) fun _ _ z => z, rfl, k _ _ H (.refl ok) (by simp only [Den]) q⟩
/-- a class of the program, a built-in class, as a value -/
theorem d_glo {C : Addr} (hg : Gl X y) (hm : X.mg y = some (.ref C)) (hd : (y == ("__debug__" : Str)) = false := by decide) : PED X g (.Name y p) (dC (.ref C)) :=
  ped_of (pe_glob (v := .ref C) hg hm rfl hd) (sd_c fun _ => by simp only [Den])
end
end Dl
namespace Dl
open PySem PySem.Spec PyProof.Rows L2

/-! ### f(e, .., k = v) -/
theorem kb1 {K : PySem.W.Frag} {x qual : Str} {params : Arguments} {body : List Stmt} {scope : Scope} {dvs : List V} {f : Addr} {fd : FuncData} {ps : List Str} (F : FunD K x qual params body scope dvs [] f fd) (n : Nat) (ks : List Str) (g : {α : Type} → List α → List α → List α → List α) (hd : dvs ≠ [])
    (hrel : ∀ {vs ds zs : List V} {us its ws : List Value}, Vals vs us → Vals ds its → Vals zs ws → Vals (g vs ds zs) (g us its ws))
    (h : ∀ (T : Addr) (kV doc pm : Value) (an : Option Addr) (cdv ct : Value) (us its ws : List Value), us.length = n → its.length = dvs.length → ws.length = ks.length →
      ∃ k, bindArgs (PySem.W.fnOf x qual params body scope (.ref T) kV doc pm an cdv ct) ⟨us, ks.zip ws⟩ = seqItems? (.ref T) >>= k ∧ k (some its.toArray) = pure (ps.zip (g us its ws))) :
    ∃ its : List Value, KBn K fd ps n ks (fun us ws => g us its ws) (fun vs zs => g vs dvs zs) := by
  obtain ⟨oc, od, dV, kV, doc, pm, an, cdv, ct, osl, rfl, lk, hcd, hD, hK⟩ := F.ex
  rcases hD with ⟨e, _⟩ | ⟨_, T, o, its, m, rfl, lT, oT, rT⟩
  · exact absurd e hd
  · refine ⟨its, ⟨fun s us ws X l1 l2 => ?_, fun r1 r2 => hrel r1 rT r2⟩⟩
    obtain ⟨k, e1, e2⟩ := h T kV doc pm an cdv ct us its ws l1 rT.length.symm l2
    refine BindsTo.of_looks fun M => ?_
    rw [e1]
    exact looks_items X lT oT (.of_pure e2)
/-- x may be called with n values and the keywords ks -/
def ClK (P : Program) (w : World) (K : PySem.W.Frag) (mg : Str → Option Value) (base : Heap) (I : HI) (k : Nat) (x : Str) (n : Nat) (ks : List Str) (m : Nat) (C : Ct) (gD : List D → List D → List D) : Prop :=
  ∃ (fa : Addr) (fd : FuncData) (ps : List Str) (gg : List Value → List Value → List Value) (gV : List V → List V → List V), FnOk P w K mg base (L2.CX P w) k fa fd ps (spOf K I m C) ∧ mg x = some (.ref fa) ∧ PySem.W.keepIn K (.ref fa) = true ∧ KBn K fd ps n ks gg gV ∧
    ∀ H vs xs zs ys, xs.length = n → ys.length = ks.length → DenA K I.own H vs xs → DenA K I.own H zs ys → DenA K I.own H (gV vs zs) (gD xs ys)
abbrev ClKX (X : Cx) (I : HI) (k : Nat) (x : Str) (n : Nat) (ks : List Str) (m : Nat) (C : Ct) (gD : List D → List D → List D) : Prop := ClK X.prog X.w X.K X.mg X.base I k x n ks m C gD
def wK (X : Cx) (kws : List Keyword) : L2.TA := fun σ H Q => ∀ pos pins s, Inv X pins σ H s → wpAny (model X.prog X.w) X.A (evalAll ((backToKw pos (keywordEach kws X.env)).map (·.2))) (AP X pins σ Q) X.xe s
def PKD (X : Cx) (g : Gx) (kws : List Keyword) (td : TAD) : Prop := SA X.K g (wK X kws) td
def dCallK (C : Ct) (n m : Nat) (gD : List D → List D → List D) (Ed : DEnv → Exc → Prop) (ta tk : TAD) : TED := fun env Q => ta env fun xs => tk env fun ys => xs.length = n ∧ ys.length = m ∧ C (gD xs ys) Q (Ed env)
section
variable {X : Cx} {g : Gx} {e : Expr} {es : List Expr} {kws : List Keyword} {nm : Option Str} {td : TED} {ta tk : TAD} {pos p kpos : Pos} {x : Str}
theorem pk_w : PK X kws (wK X kws) := ⟨fun pos pins s σ H Q I h => h pos pins s I⟩
theorem pkd_of {ta' : L2.TA} (p : PK X kws ta') (h : SA X.K g ta' ta) : PKD X g kws ta := fun b0 σ H env Qd Q hd xl ht k pos pins s J => p.run pos pins s σ H Q J (h b0 σ H env Qd Q hd xl ht k)
theorem dk_nil : PKD X g [] dNil := pkd_of pk_nil fun b0 σ H env Qd Q hd xl h k => k [] [] H (.refl hd.ok) (by simp only [DenA]) h
theorem dk_cons (he : PED X g e td) (ht : PKD X g kws tk) : PKD X g (⟨nm, e, kpos⟩ :: kws) (dCons td tk) :=
  pkd_of (pk_cons pe_w pk_w) fun b0 σ H env Qd Q hd xl h k => he b0 σ H env _ _ hd xl h fun v d H1 e1 dn h1 => ht b0 σ H1 env _ _ (hd.mono e1) xl h1 fun vs ds H2 e2 dn2 q =>
    k (v :: vs) (d :: ds) H2 (e1.trans e2) (by simp only [DenA]; exact ⟨v, vs, rfl, Den.keep e2.1 _ _ dn, dn2⟩) q
theorem run_fnDK {n k : Nat} {fa : Addr} {fd : FuncData} {ps ks : List Str} {sp : Sp} {gg : List Value → List Value → List Value} {gV : List V → List V → List V} {pins : List (Addr × Obj)} {σ : L2.St} {H : Hp} {s : Shared} {Q : VK} {us ws : List Value} {vs zs : List V} {E : XK}
    (F : FnOk X.prog X.w X.K X.mg X.base (L2.CX X.prog X.w) k fa fd ps sp) (hr : Room k X.A) (hb : KBn X.K fd ps n ks gg gV) (hx : PassesAt (L2.CX X.prog X.w) X σ E)
    (I : Inv X pins σ H s) (r : Vals vs us) (rz : Vals zs ws) (l1 : vs.length = n) (l2 : zs.length = ks.length) (h : sp (gV vs zs) H Q E) : wpAny (model X.prog X.w) X.A (call (.ref fa) us (ks.zip ws)) (EP X pins σ Q) X.xe s := by
  have r2 := hb.rel r rz
  refine wpAny_call (codeAny_mono (F.run X.A X.stack s H ⟨us, ks.zip ws⟩ (gg us ws) (gV vs zs) Q E hr I.env0 (hb.to s us ws I.kIn (r.length.symm.trans l1) (rz.length.symm.trans l2)) r2 h) fun r s' hq => ?_)
  cases r with
  | error e => exact hx pins H s e s' I hq
  | ok fl =>
    cases fl with
    | ret u => exact I.after hq
    | next => exact False.elim hq
    | brk => exact False.elim hq
    | cont => exact False.elim hq
theorem d_callK {k j n m : Nat} {ks : List Str} {C : Ct} {gD : List D → List D → List D} (c : ClKX X g.I k x n ks m C gD) (hC : Ar m C) (hr : Room j X.A) (hj : k ≤ j) (hg : Gl X x) (tk' : Takes X g.W) (ha : PAD X g (e :: es) ta) (hkw : PKD X g kws tk)
    (hall : (backToKw pos (keywordEach kws X.env)).all (·.1.isSome) = true := by rfl) (hks : (backToKw pos (keywordEach kws X.env)).filterMap (·.1) = ks := by rfl)
    (hdb : (x == ("__debug__" : Str)) = false := by decide) (he : starEach (e :: es) X.env = (false, eval e X.env) :: starEach es X.env := by rfl)
    (hpl : ((backTo pos (starEach (e :: es) X.env)).any (·.1) || (backToKw pos (keywordEach kws X.env)).any (·.1.isNone)) = false := by rfl) :
    PED X g (.Call (.Name x p) (e :: es) kws pos) (dCallK C n ks.length gD g.Ed ta tk) := fun b0 σ H env Qd Q hd' xl h kq pins s J => by
  obtain ⟨fa, fd, ps, gg, gV, F, hm, hk, hb, hden⟩ := c
  refine wpAny_Call_Name_kw (ld_glob J hg hm ?_ hdb)
  refine PySem.W.callWith_KW (h₀ := X.base) J.ok.mod.kin hk hall (thn ((pa_w (es := e :: es)).run pos pins s σ H (fun vs H1 => wK X kws σ H1 fun zs H2 => vs.length = n ∧ zs.length = ks.length ∧ spOf X.K g.I m C (gV vs zs) H2 Q (WE g.W σ)) J ?_) fun us s1 ⟨vs, H1, I1, r, q⟩ => ?_) hpl he
  · exact ha b0 σ H env _ _ hd' xl h fun vs xs H1 e1 dn q => hkw b0 σ H1 env _ _ (hd'.mono e1) xl q fun zs ys H2 e2 dn2 ⟨l1, l2, q⟩ => by
      have dn' := DenA.keep e2.1 _ _ dn
      refine ⟨by rw [dn'.len, l1], by rw [dn2.len, l2], gD xs ys, _, _, hC _ _ _ q, hden H2 vs xs zs ys l1 l2 dn' dn2, e2.2, q, fun v d H3 e3 dn3 q3 => kq v d H3 (e1.trans (e2.trans e3)) dn3 q3, fun x d H3 e3 xd q3 => xl σ H env x d H3 hd' (e1.trans (e2.trans e3)) xd q3⟩
  · refine thn ((pk_w (kws := kws)).run pos pins s1 σ H1 _ I1 q) fun ws s2 ⟨zs, H2, I2, rz, l1, l2, q2⟩ => ⟨I2.kIn, ?_⟩
    rw [hks]
    exact run_fnDK F (hr.mono hj) hb (passAt tk' σ) I2 r rz l1 l2 q2
end

/-! ### x.insert(i, e) -/
def sIns (i : Nat) (ti tv : TED) : TSD := fun Dd env => ∃ xs, env[i]? = some (.own xs) ∧ ti env fun z => ∃ k : Int, z = .int k ∧ 0 ≤ k ∧ k < 2 ^ 63 ∧ tv env fun d => d.noLst = true ∧ xs.length < sizeLine ∧ Dd.nx (env.set i (.own (xs.take k.toNat ++ [d] ++ xs.drop k.toNat)))
section
variable {X : Cx} {g : Gx} {e e2 : Expr} {td ti : TED} {pos : Pos} {x : Str} {i : Nat} {p1 : Pos}
theorem ds_ins {apos cpos : Pos} (hN : X.N[i]? = some x) (hv : Vis X.env.scope x) (hi : PED X g e ti) (he : PED X g e2 td) (hd1 : (x == ("__debug__" : Str)) = false := by decide) (hcd : (x == ("__classdict__" : Str)) = false := by decide)
    (hbase : attributeBase (.Name x p1) "insert" X.env (eval (.Name x p1) X.env) = eval (.Name x p1) X.env := by rfl)
    (hfew : ((backTo cpos (starEach (e :: [e2]) X.env)).all (fun x => !x.1) && (backToKw cpos (keywordEach [] X.env)).all (fun x => x.1.isSome)
      && decide ((e :: [e2]).length + ([] : List Keyword).length + (if ([] : List Keyword).isEmpty then 0 else 1) < 30)) = true := by rfl)
    (hline : (apos.endLine == cpos.line) = true := by rfl) (hs : starEach (e :: [e2]) X.env = (false, eval e X.env) :: starEach [e2] X.env := by rfl) (hs2 : starEach (e2 :: []) X.env = (false, eval e2 X.env) :: starEach [] X.env := by rfl) (hplain : (backTo cpos (starEach [e2] X.env)).any (·.1) = false := by rfl)
    (hsw : swapsWith (.Call (.Attribute (.Name x p1) "insert" apos) [e, e2] [] cpos) none pos.line X.env = pure false := by rfl) :
    PSD X g (.Expr (.Call (.Attribute (.Name x p1) "insert" apos) [e, e2] [] cpos) pos) (sIns i ti td) :=
  psd_of (ps_expr (pe_bm PySem.F.plainAttrs_list PySem.F.slot_list_insert PySem.F.type_list_insert mt_insert (pe_var hN hv hd1 hcd) (pa_cons pe_w (pa_cons pe_w pa_nil hs2) hs) hbase hfew hline hs hplain) hsw) fun b σ H env Dd E hd xl h el => by
    obtain ⟨xs, hx, h⟩ := h
    obtain ⟨a, vs, S, q1, q2, _⟩ := hd.wr hx
    refine ⟨.ref a, q1, .inl ⟨rfl, vs, SqL.of q2⟩, hi b σ H env _ _ hd xl h fun zv z H1 e1 dz ⟨k, ez, k0, k1, h⟩ => ?_⟩
    subst ez
    simp only [Den] at dz
    refine he b σ H1 env _ _ (hd.mono e1) xl h fun v d H2 e2 dn ⟨nl, hz, q⟩ => ?_
    obtain ⟨a', vs', S', w1, w2, w3, w4, w5, w6⟩ := (hd.mono (e1.trans e2)).wr hx
    rw [q1] at w1
    cases w1
    exact ⟨a, vs', k, v, rfl, by rw [dz], w2, by rw [w3.len]; exact hz, k0, k1, el.nx _ _ _ (w6 _ _ (((w3.take _).app (.one (w4 v d nl dn))).app (w3.drop _))) q⟩
end
end Dl
namespace Dl
open PySem PySem.Spec PyProof.Rows L2
/-! contracts of the program's defs, by data alone -/
def isWh (x lo hi : D) : Bool := match x with
  | .int i => (match lo with | .int l => decide (l ≤ i) | _ => true) && (match hi with | .int h => decide (i ≤ h) | _ => true)
  | _ => false
def isOpt : D → Prop
  | .non => True
  | .int _ => True
  | _ => False
def C_is_whole (K : PySem.W.Frag) : Ct := fun ds Q _ => ∃ x lo hi, ds = [x, lo, hi] ∧ x.tyn.isSome = true ∧ isOpt lo ∧ isOpt hi ∧ Q (.bl (isWh x lo hi))
theorem ar_is_whole (K : PySem.W.Frag) : Ar 3 (C_is_whole K) := fun _ _ _ ⟨_, _, _, e, _⟩ => by rw [e]; rfl
def fstBad (bad : List D → D → Bool) : List D → List D → Option Nat
  | _, [] => none
  | pre, d :: ds => if bad pre d = true then some pre.length else fstBad bad (pre ++ [d]) ds
def allTy (xs : List D) : Prop := ∀ x ∈ xs, x.tyn.isSome = true
def excI (K : PySem.W.Frag) (c : Str) (i : Int) : Exc := ⟨He.ga K c, some [("index", .int i)]⟩
def C_check_dates (K : PySem.W.Frag) : Ct := fun ds Q E => ∃ x size most, ds = [x, .int size, .int most] ∧ x.tyn.isSome = true ∧ match seqOf x with
  | none => E (excI K "BadDates" (-1))
  | some xs => allTy xs ∧ if most < xs.length then E (excI K "BadDates" (-1)) else match fstBad (fun _ d => !isWh d (.int 0) (.int (size - 1))) [] xs with
    | some i => E (excI K "BadDates" i)
    | none => Q (.tup xs)
theorem ar_check_dates (K : PySem.W.Frag) : Ar 3 (C_check_dates K) := fun _ _ _ ⟨_, _, _, e, _⟩ => by rw [e]; rfl
def unl : List D → List D → List D
  | _, [] => []
  | pre, d :: ds => if anyD pre d = true then unl (pre ++ [d]) ds else d :: unl (pre ++ [d]) ds
def C_unlike_dates (K : PySem.W.Frag) : Ct := fun ds Q E => ∃ x xs, ds = [x] ∧ seqOf x = some xs ∧ okD (.lst xs) ∧ noLstA xs = true ∧ xs.length ≤ 100000 ∧ Q (.tup (unl [] xs))
theorem ar_unlike_dates (K : PySem.W.Frag) : Ar 1 (C_unlike_dates K) := fun _ _ _ ⟨_, _, e, _⟩ => by rw [e]; rfl
def C_check_lot (K : PySem.W.Frag) : Ct := fun ds Q E => ∃ x am, ds = [x, am] ∧ x.tyn.isSome = true ∧ match seqOf x with
  | none => E (excI K "BadLot" (-1))
  | some xs => if xs.length = 0 then E (excI K "BadLot" (-1)) else ∃ ams, seqOf am = some ams ∧ okD (.lst ams) ∧ okD (.lst xs) ∧ allTy xs ∧ match fstBad (fun pre d => !isWh d .non .non || (!anyD ams d || anyD pre d)) [] xs with
    | some i => E (excI K "BadLot" i)
    | none => ∃ ns : List Int, xs = ns.map D.int ∧ ∀ ns' : List Int, ns'.Perm ns → ns'.Pairwise (· ≤ ·) → Q (.tup (ns'.map D.int))
theorem ar_check_lot (K : PySem.W.Frag) : Ar 2 (C_check_lot K) := fun _ _ _ ⟨_, _, e, _⟩ => by rw [e]; rfl
def C_lot_key (K : PySem.W.Frag) : Ct := fun ds Q E => ∃ x xs, ds = [x] ∧ seqOf x = some xs ∧ Q (.tup [.int xs.length, .tup xs])
theorem ar_lot_key (K : PySem.W.Frag) : Ar 1 (C_lot_key K) := fun _ _ _ ⟨_, _, e, _⟩ => by rw [e]; rfl
/-! the laws' own helpers -/
def C__law_mixed (K : PySem.W.Frag) : Ct := fun ds Q E => ∃ a b : Int, ds = [.int a, .int b] ∧ 0 ≤ a ∧ a < 2 ^ 32 ∧ 0 ≤ b ∧ b < 2 ^ 32 ∧ ∀ r : Int, 0 ≤ r → r < 2 ^ 32 → Q (.int r)
theorem ar__law_mixed (K : PySem.W.Frag) : Ar 2 (C__law_mixed K) := fun _ _ _ ⟨_, _, e, _⟩ => by rw [e]; rfl
def C__law_whole (K : PySem.W.Frag) : Ct := fun ds Q E => ∃ x, ds = [x] ∧ x.tyn.isSome = true ∧ Q (.bl (isWh x .non .non))
theorem ar__law_whole (K : PySem.W.Frag) : Ar 1 (C__law_whole K) := fun _ _ _ ⟨_, e, _⟩ => by rw [e]; rfl
def C__law_hand (K : PySem.W.Frag) : Ct := fun ds Q E => ∃ ns : List Int, ds = [.lst (ns.map D.int)] ∧ ns.length ≤ 63 ∧ ∀ (cs : List Int) (t : Int), cs.length ≤ 63 → (∀ c ∈ cs, 0 ≤ c) → 0 ≤ t → t < 2 ^ 32 → Q (.lst [.lst (cs.map D.int), .int 0, .int 0, .int t])
theorem ar__law_hand (K : PySem.W.Frag) : Ar 1 (C__law_hand K) := fun _ _ _ ⟨_, e, _⟩ => by rw [e]; rfl
end Dl
namespace Dl
open PySem PySem.Spec PyProof.Rows L2
theorem Ext.none {I : HI} {H H1 : Hp} {p : Addr} (e : Ext I H H1) (h : H1 p = none) : H p = none := by
  cases q : H p with
  | none => rfl
  | some o =>
    by_cases n : I.own p
    · exact absurd h (I.dom H1 p e.2 (I.sub p n))
    · have := e.1 p o n q
      rw [h] at this; cases this
/-! ### a new list by cases -/
def dIfF (t : TTD) (ta tb : TFD) : TFD := fun env Q => t env fun c => if c = true then ta env Q else tb env Q
section
variable {X : Cx} {g : Gx} {c a b : Expr} {t : TTD} {ta tb : TFD} {pos : Pos}
theorem f_if (hc : PTD X g c t) (ha : PFD X g a ta) (hb : PFD X g b tb) : PFD X g (.IfExp c a b pos) (dIfF t ta tb) := fun b0 σ H env Qd Q hd xl h k pins s J =>
  (pe_ifExp pt_w pe_w pe_w).run pins s σ H Q J (hc b0 σ H env _ _ hd xl h fun c H1 e1 h1 => by
    cases c with
    | true =>
      rw [if_pos rfl] at h1 ⊢
      exact ha b0 σ H1 env _ _ (hd.mono e1) xl h1 fun p vs ds H2 hp e2 hl dn q => k p vs ds H2 (e1.none hp) (e1.trans e2) hl dn q
    | false =>
      rw [if_neg Bool.false_ne_true] at h1 ⊢
      exact hb b0 σ H1 env _ _ (hd.mono e1) xl h1 fun p vs ds H2 hp e2 hl dn q => k p vs ds H2 (e1.none hp) (e1.trans e2) hl dn q)
end
end Dl
namespace Dl
open PySem PySem.Spec PyProof.Rows L2
/-! the laws' hand: a list [cells, at, held, total] that one def changes -/
structure HandAt (hd c : Addr) (cs : List Int) (at_ held tot : Int) (H : Hp) : Prop where
  h : H hd = some (.lst [.ref c, .int at_, .int held, .int tot])
  c : H c = some (.lst (cs.map V.int))
  len : cs.length ≤ 63
  pos : ∀ x ∈ cs, 0 ≤ x
  a0 : 0 ≤ at_
  a1 : at_ ≤ 63
  h0 : 0 ≤ held
  t0 : 0 ≤ tot
  t1 : tot < 2 ^ 32
def handI (hd c : Addr) : HI where
  own := fun a => a = hd
  foot := fun a => a = hd ∨ a = c
  ok := fun H => ∃ cs at_ held tot, HandAt hd c cs at_ held tot H
  sub := fun a h => .inl h
  dom := fun H a ⟨cs, at_, held, tot, h⟩ f z => by
    rcases f with rfl | rfl
    · have := h.h; rw [z] at this; cases this
    · have := h.c; rw [z] at this; cases this
  loc := fun H H' e ⟨cs, at_, held, tot, h⟩ => ⟨cs, at_, held, tot, ⟨by rw [e _ (.inl rfl)]; exact h.h, by rw [e _ (.inr rfl)]; exact h.c, h.len, h.pos, h.a0, h.a1, h.h0, h.t0, h.t1⟩⟩
theorem handI_noXd (hd c : Addr) : (handI hd c).noXd := fun H ⟨cs, at_, held, tot, h⟩ dd fs e z => by
  have z : dd = hd := z
  subst z
  have := h.h
  rw [e] at this; cases this
def C__law_take (hd : Addr) : Ct := fun ds Q _ => ∃ m : Int, ds = [.ref hd, .int m] ∧ 0 < m ∧ m < 2 ^ 200 ∧ ∀ r : Int, 0 ≤ r → r < m → Q (.int r)
theorem ar__law_take (hd : Addr) : Ar 2 (C__law_take hd) := fun _ _ _ ⟨_, e, _⟩ => by rw [e]; rfl
theorem kp_mut {hd c : Addr} {H : Hp} {o : HO} : Kp (handI hd c).own H (upd H hd o) := Kp.mut (Av := (handI hd c).own) (show hd = hd from rfl)
theorem it_t {b : Bool} {p q : Prop} (h : b = true) (k : p) : if b = true then p else q := by rw [if_pos h]; exact k
theorem it_f {b : Bool} {p q : Prop} (h : b = false) (k : q) : if b = true then p else q := by rw [if_neg (by rw [h]; decide)]; exact k
section
variable {K : PySem.W.Frag} {σ : L2.St} {H : Hp} {Q : VK}
theorem v_ix {i : Nat} {k : Int} {hd : Addr} {xs : List V} {v : V} (e : σ[i]? = some (some (.ref hd))) (h : H hd = some (.lst xs)) (a : atI xs k = some v) (q : Q v H) : tOp (rIxL K) (tVar i) (tC (.int k)) σ H Q := ⟨_, e, hd, xs, k, v, rfl, rfl, SqL.of h, a, q⟩
theorem v_set {i : Nat} {k : Int} {j : Nat} {hd : Addr} {xs : List V} {v : V} {Q : L2.St → Hp → Prop} (e : σ[i]? = some (some (.ref hd))) (h : H hd = some (.lst xs)) (a : ixN xs.length k = some j) (q : Q σ (upd H hd (.lst (xs.set j v)))) : gSub (tVar i) (tC (.int k)) rSetL v σ H Q := ⟨_, e, hd, xs, k, j, rfl, rfl, h, a, q⟩
theorem seq_of {t u : TS} {D : Ends} (P : L2.St → Hp → Prop) (hb : ∀ σ' H', P σ' H' → u D σ' H') (ha : (∀ σ' H', P σ' H' → u D σ' H') → t { D with nx := u D } σ H) : tSeq t u D σ H := ha hb
theorem HandAt.set {hd c : Addr} {cs : List Int} {a h t a' h' t' : Int} (Z : HandAt hd c cs a h t H) (hne : hd ≠ c) (q1 : 0 ≤ a') (q2 : a' ≤ 63) (q3 : 0 ≤ h') (q4 : 0 ≤ t') (q5 : t' < 2 ^ 32) : HandAt hd c cs a' h' t' (upd H hd (.lst [.ref c, .int a', .int h', .int t'])) :=
  ⟨upd_same, by rw [upd_ne (Ne.symm hne)]; exact Z.c, Z.len, Z.pos, q1, q2, q3, q4, q5⟩
theorem take_cell {cs : List Int} {at_ : Int} (h0 : 0 ≤ at_) (h1 : at_ < cs.length) : ∃ x, atI (cs.map V.int) at_ = some (.int x) ∧ x ∈ cs := by
  have hlt : at_.toNat < cs.length := by omega
  refine ⟨cs[at_.toNat], ?_, List.getElem_mem hlt⟩
  unfold atI ixN
  simp only [List.length_map]
  rw [if_pos (by omega)]
  rw [if_pos h1]
  simp [List.getElem?_eq_getElem hlt]
end
end Dl
namespace Dl
open PySem PySem.Spec PyProof.Rows L2
def bDates (size : Int) (most : Int) (xs : List D) : D := if most < xs.length then .lst [.int 1, .int (-1)] else match fstBad (fun _ d => !isWh d (.int 0) (.int (size - 1))) [] xs with
  | some i => .lst [.int 1, .int i]
  | none => .lst [.int 0, .tup xs]
def C__law_dates_asked (K : PySem.W.Frag) : Ct := fun ds Q E => ∃ x size most, ds = [x, .int size, .int most] ∧ x.tyn.isSome = true ∧ match seqOf x with
  | none => Q (.lst [.int 1, .int (-1)])
  | some xs => allTy xs ∧ noLstA xs = true ∧ Q (bDates size most xs)
theorem ar__law_dates_asked (K : PySem.W.Frag) : Ar 3 (C__law_dates_asked K) := fun _ _ _ ⟨_, _, _, e, _⟩ => by rw [e]; rfl
def askL (x am : D) (Q : D → Prop) : Prop := match seqOf x with
  | none => Q (.lst [.int 1, .int (-1)])
  | some xs => if xs.length = 0 then Q (.lst [.int 1, .int (-1)]) else ∃ ams, seqOf am = some ams ∧ okD (.lst ams) ∧ okD (.lst xs) ∧ allTy xs ∧ match fstBad (fun pre d => !isWh d .non .non || (!anyD ams d || anyD pre d)) [] xs with
    | some i => Q (.lst [.int 1, .int i])
    | none => ∃ ns : List Int, xs = ns.map D.int ∧ ∀ ns' : List Int, ns'.Perm ns → ns'.Pairwise (· ≤ ·) → Q (.lst [.int 0, .tup (ns'.map D.int)])
def C__law_lot_asked (K : PySem.W.Frag) : Ct := fun ds Q E => ∃ x am, ds = [x, am] ∧ x.tyn.isSome = true ∧ askL x am Q
theorem ar__law_lot_asked (K : PySem.W.Frag) : Ar 2 (C__law_lot_asked K) := fun _ _ _ ⟨_, _, e, _⟩ => by rw [e]; rfl
end Dl
namespace Dl
open PySem PySem.Spec PyProof.Rows L2
/-! pure lemmas for the readings by data -/
theorem tm_bool : ("bool" ∈ tyNames) = True := by simp [tyNames]
theorem tm_int : ("int" ∈ tyNames) = True := by simp [tyNames]
theorem tm_list : ("list" ∈ tyNames) = True := by simp [tyNames]
theorem tm_tuple : ("tuple" ∈ tyNames) = True := by simp [tyNames]
theorem forD_of {gd : TGD} {tb : TSD} {Dd : DEnds} (Inv : List D → List D → DEnv → Prop) (end_ : ∀ done env, Inv done [] env → Dd.nx env)
    (step : ∀ done x rest env, Inv done (x :: rest) env → (∀ env', Inv (done ++ [x]) rest env' → forD gd tb Dd rest env') → gd x env (tb { Dd with nx := forD gd tb Dd rest, ct := forD gd tb Dd rest, bk := Dd.nx })) :
    ∀ rest done env, Inv done rest env → forD gd tb Dd rest env
  | [], done, env, h => end_ done env h
  | x :: rest, done, env, h => step done x rest env h fun env' h' => forD_of Inv end_ step rest (done ++ [x]) env' h'
theorem lcD_map {gd : TGD} {tt : TTD} {te : TED} {env : DEnv} {Q : List D → Prop} (f : D → D) (p : D → Bool) : ∀ (xs acc : List D),
    (∀ x ∈ xs, ∀ (R : Option D → Prop), R (if p x = true then some (f x) else none) → gd x env fun env2 => tt env2 fun b => if b = true then te env2 fun y => y.noLst = true ∧ R (some y) else R none) →
    Q (acc ++ (xs.filter p).map f) → lcD gd tt te env xs acc Q
  | [], acc, _, q => by
    show Q acc
    simpa using q
  | x :: xs, acc, h, q => by
    show gd x env fun env2 => tt env2 fun b => if b = true then te env2 fun y => y.noLst = true ∧ lcD gd tt te env xs (acc ++ [y]) Q else lcD gd tt te env xs acc Q
    refine h x List.mem_cons_self (fun o => match o with | some y => lcD gd tt te env xs (acc ++ [y]) Q | none => lcD gd tt te env xs acc Q) ?_
    cases e : p x with
    | true =>
      rw [if_pos rfl]
      exact lcD_map f p xs (acc ++ [f x]) (fun y hy => h y (List.mem_cons_of_mem _ hy)) (by simpa [List.filter_cons, e] using q)
    | false =>
      rw [if_neg (by decide)]
      exact lcD_map f p xs acc (fun y hy => h y (List.mem_cons_of_mem _ hy)) (by simpa [List.filter_cons, e] using q)
theorem fstBad_cons {bad : List D → D → Bool} {pre : List D} {d : D} {ds : List D} : fstBad bad pre (d :: ds) = if bad pre d = true then some pre.length else fstBad bad (pre ++ [d]) ds := rfl
/-- for i, d in enumerate(xs): leave at the first bad one -/
theorem enum_loop {i j : Nat} {tb : TSD} {Dd : DEnds} {xs : List D} (bad : List D → D → Bool) (P : DEnv → Prop)
    (hbad : ∀ pre d suf env nx, xs = pre ++ d :: suf → P env → fstBad bad [] xs = some pre.length → bad pre d = true → tb { Dd with nx := nx, ct := nx, bk := Dd.nx } ((env.set i (.val (.int pre.length))).set j (.val d)))
    (hgood : ∀ pre d suf env nx, xs = pre ++ d :: suf → P env → bad pre d = false → (∀ env', P env' → nx env') → tb { Dd with nx := nx, ct := nx, bk := Dd.nx } ((env.set i (.val (.int pre.length))).set j (.val d)))
    (hend : ∀ env, fstBad bad [] xs = none → P env → Dd.nx env) : ∀ (suf pre : List D) (env : DEnv), xs = pre ++ suf → fstBad bad [] xs = fstBad bad pre suf → P env → forD (gdTup [i, j]) tb Dd (enumD pre.length suf) env
  | [], pre, env, e, h, p => hend env h p
  | d :: suf, pre, env, e, h, p => by
    refine ⟨_, rfl, rfl, ?_⟩
    show tb _ ((env.set i (.val (.int pre.length))).set j (.val d))
    rw [fstBad_cons] at h
    cases hb : bad pre d with
    | true =>
      rw [hb, if_pos rfl] at h
      exact hbad pre d suf env _ e p h hb
    | false =>
      rw [hb, if_neg (by decide)] at h
      refine hgood pre d suf env _ e p hb fun env' p' => ?_
      have := enum_loop bad P hbad hgood hend suf (pre ++ [d]) env' (by rw [e]; simp) h p'
      rw [List.length_append] at this
      exact this
def sel (p : List D → D → Bool) (f : List D → D → D) : List D → List D → List D
  | _, [] => []
  | pre, d :: ds => if p pre d = true then f pre d :: sel p f (pre ++ [d]) ds else sel p f (pre ++ [d]) ds
/-- [.. for i, d in enumerate(xs) if ..] -/
theorem enum_lc {i j : Nat} {tt : TTD} {te : TED} {env : DEnv} {Q : List D → Prop} {xs : List D} (p : List D → D → Bool) (f : List D → D → D)
    (h : ∀ pre d suf (R : Option D → Prop), xs = pre ++ d :: suf → R (if p pre d = true then some (f pre d) else none) → tt ((env.set i (.val (.int pre.length))).set j (.val d)) fun b => if b = true then te ((env.set i (.val (.int pre.length))).set j (.val d)) fun y => y.noLst = true ∧ R (some y) else R none) :
    ∀ suf pre acc, xs = pre ++ suf → Q (acc ++ sel p f pre suf) → lcD (gdTup [i, j]) tt te env (enumD pre.length suf) acc Q
  | [], pre, acc, e, q => by
    show Q acc
    simpa [sel] using q
  | d :: suf, pre, acc, e, q => by
    refine ⟨_, rfl, rfl, ?_⟩
    show tt ((env.set i (.val (.int pre.length))).set j (.val d)) fun b => if b = true then te ((env.set i (.val (.int pre.length))).set j (.val d)) fun y => y.noLst = true ∧ lcD (gdTup [i, j]) tt te env (enumD (pre.length + 1) suf) (acc ++ [y]) Q else lcD (gdTup [i, j]) tt te env (enumD (pre.length + 1) suf) acc Q
    refine h pre d suf (fun o => match o with | some y => lcD (gdTup [i, j]) tt te env (enumD (pre.length + 1) suf) (acc ++ [y]) Q | none => lcD (gdTup [i, j]) tt te env (enumD (pre.length + 1) suf) acc Q) e ?_
    have hl : pre.length + 1 = (pre ++ [d]).length := by simp
    rw [hl]
    cases hp : p pre d with
    | true =>
      rw [if_pos rfl]
      exact enum_lc p f h suf (pre ++ [d]) (acc ++ [f pre d]) (by rw [e]; simp) (by simpa [sel, hp] using q)
    | false =>
      rw [if_neg (by decide)]
      exact enum_lc p f h suf (pre ++ [d]) acc (by rw [e]; simp) (by simpa [sel, hp] using q)
theorem cutL_pre {α : Type} {pre suf : List α} : cutL (pre ++ suf) none (some (pre.length : Int)) = pre := by
  unfold cutL
  rw [HT.sIx_none, HT.sIx_nat]
  simp
theorem goodA_mem : ∀ {xs : List D} {x : D}, goodA xs = true → x ∈ xs → x.good = true
  | y :: ys, x, h, m => by
    simp only [goodA, Bool.and_eq_true] at h
    rcases List.mem_cons.mp m with rfl | m
    · exact h.1
    · exact goodA_mem h.2 m
theorem depA_mem : ∀ {xs : List D} {x : D}, x ∈ xs → x.dep ≤ depA xs
  | y :: ys, x, m => by
    simp only [depA]
    rcases List.mem_cons.mp m with rfl | m
    · exact Nat.le_max_left _ _
    · exact Nat.le_trans (depA_mem m) (Nat.le_max_right _ _)
theorem goodA_of : ∀ {xs : List D}, (∀ x ∈ xs, x.good = true) → goodA xs = true
  | [], _ => rfl
  | y :: ys, h => by
    simp only [goodA, Bool.and_eq_true]
    exact ⟨h y List.mem_cons_self, goodA_of fun x m => h x (List.mem_cons_of_mem _ m)⟩
theorem depA_of {n : Nat} : ∀ {xs : List D}, (∀ x ∈ xs, x.dep ≤ n) → depA xs ≤ n
  | [], _ => Nat.zero_le _
  | y :: ys, h => by
    simp only [depA]
    exact Nat.max_le.mpr ⟨h y List.mem_cons_self, depA_of fun x m => h x (List.mem_cons_of_mem _ m)⟩
/-- items that may be compared, shallow ones -/
def okI (d : D) : Prop := d.good = true ∧ d.dep ≤ 50
theorem okI.ok {d : D} (h : okI d) : okD d := ⟨h.1, by have := h.2; omega⟩
theorem okI_int {i : Int} : okI (.int i) := ⟨by simp only [D.good], by simp only [D.dep]; omega⟩
theorem okI_bl {i : Bool} : okI (.bl i) := ⟨by simp only [D.good], by simp only [D.dep]; omega⟩
theorem okI_non : okI .non := ⟨by simp only [D.good], by simp only [D.dep]; omega⟩
theorem okD_lst {xs : List D} (h : ∀ x ∈ xs, okI x) : okD (.lst xs) := ⟨by simp only [D.good]; exact goodA_of fun x m => (h x m).1, by
  simp only [D.dep]
  have := depA_of fun x m => (h x m).2
  omega⟩
theorem okD_tup {xs : List D} (h : ∀ x ∈ xs, okI x) : okD (.tup xs) := ⟨by simp only [D.good]; exact goodA_of fun x m => (h x m).1, by
  simp only [D.dep]
  have := depA_of fun x m => (h x m).2
  omega⟩
theorem okD_mem {xs : List D} {x : D} (h : okD (.lst xs)) (m : x ∈ xs) : okD x := ⟨goodA_mem (by simpa only [D.good] using h.1) m, by
  have h2 := h.2
  simp only [D.dep] at h2
  have := depA_mem m
  omega⟩
theorem okD_sub {xs ys : List D} (h : okD (.lst xs)) (s : ∀ y ∈ ys, y ∈ xs) : okD (.lst ys) := ⟨by
    have := h.1
    simp only [D.good] at this ⊢
    exact goodA_of fun y m => goodA_mem this (s y m), by
  have h2 := h.2
  simp only [D.dep] at h2 ⊢
  have := depA_of (n := depA xs) fun y m => depA_mem (s y m)
  omega⟩
theorem okD_tl {xs : List D} (h : okD (.lst xs)) : okD (.tup xs) := by
  refine ⟨?_, ?_⟩
  · have := h.1; simp only [D.good] at this ⊢; exact this
  · have := h.2; simp only [D.dep] at this ⊢; exact this
theorem noLst_mem : ∀ {xs : List D} {x : D}, noLstA xs = true → x ∈ xs → x.noLst = true
  | y :: ys, x, h, m => by
    simp only [noLstA, Bool.and_eq_true] at h
    rcases List.mem_cons.mp m with rfl | m
    · exact h.1
    · exact noLst_mem h.2 m
theorem noLst_of : ∀ {xs : List D}, (∀ x ∈ xs, x.noLst = true) → noLstA xs = true
  | [], _ => rfl
  | y :: ys, h => by
    simp only [noLstA, Bool.and_eq_true]
    exact ⟨h y List.mem_cons_self, noLst_of fun x m => h x (List.mem_cons_of_mem _ m)⟩
theorem mulW {i j : Int} (h1 : i.natAbs < 2 ^ 1000) (h2 : j.natAbs < 2 ^ 1000) : CMulW i j := by
  unfold CMulW
  have f : ∀ n : Nat, n < 2 ^ 1000 → n.log2 < 1000 := fun n h => by
    by_cases e : n = 0
    · subst e; decide
    · exact (Nat.log2_lt e).mpr h
  have := f _ h1
  have := f _ h2
  omega
theorem big_abs {i : Int} (h0 : 0 ≤ i) (h : i < 2 ^ 250) : i.natAbs < 2 ^ 1000 := by
  have h1 : i.natAbs < 2 ^ 250 := by omega
  exact Nat.lt_of_lt_of_le h1 (Nat.pow_le_pow_right (by decide) (by decide))
theorem sl_tup {xs : List D} {lo hi : Option Int} {Q : D → Prop} (h : Q (.tup (cutL xs lo hi))) : fSl (.tup xs) lo hi Q := h
theorem sl_lst {xs : List D} {lo hi : Option Int} {Q : D → Prop} (h : Q (.lst (cutL xs lo hi))) : fSl (.lst xs) lo hi Q := h
theorem in_tup {neg : Bool} {ys : List D} {x : D} {Q : D → Prop} (h1 : okD x) (h2 : okD (.tup ys)) (h : Q (.bl (xr neg (anyD ys x)))) : fIn neg x (.tup ys) Q := ⟨h1, h2, h⟩
theorem in_lst {neg : Bool} {ys : List D} {x : D} {Q : D → Prop} (h1 : okD x) (h2 : okD (.lst ys)) (h : Q (.bl (xr neg (anyD ys x)))) : fIn neg x (.lst ys) Q := ⟨h1, h2, h⟩
theorem eq_d {neg : Bool} {x y : D} {Q : D → Prop} (h1 : okD x) (h2 : okD y) (h : Q (.bl (xr neg (eqD x y)))) : fEq neg x y Q := ⟨h1, h2, h⟩
def dIfB (b : Bool) (p q : Prop) : Prop := if b = true then p else q
theorem eqD_int {i j : Int} : eqD (.int i) (.int j) = decide (i = j) := by
  unfold eqD
  simp only [D.py]
  show (i == j) = decide (i = j)
  by_cases h : i = j
  · rw [decide_eq_true h]; simpa using h
  · rw [decide_eq_false h]; simpa using h
theorem len_tup {ys : List D} {Q : D → Prop} (h : Q (.int ys.length)) : bLen [.tup ys] Q := ⟨_, rfl, h⟩
theorem len_lst {ys : List D} {Q : D → Prop} (h : Q (.int ys.length)) : bLen [.lst ys] Q := ⟨_, rfl, h⟩
theorem len_seq {x : D} {ys : List D} {Q : D → Prop} (e : seqOf x = some ys) (h : Q (.int ys.length)) : bLen [x] Q := by
  cases x <;> simp only [seqOf, Option.some.injEq, reduceCtorEq] at e <;> subst e
  · exact len_tup h
  · exact len_lst h
theorem mem_lt : ∀ n ∈ ["list", "tuple"], n ∈ tyNames := by simp [tyNames]
theorem seq_cases {x : D} {xs : List D} (h : seqOf x = some xs) : x = .tup xs ∨ x = .lst xs := by
  cases x <;> simp only [seqOf, Option.some.injEq, reduceCtorEq] at h <;> subst h <;> simp
theorem one_sz : 0 + 1 + 1 ≤ sizeLine := by decide
theorem isSeq_iff {x : D} {t : String} (h : x.tyn = some t) : (["list", "tuple"].any fun n => isiB t n) = (seqOf x).isSome := by
  cases x <;> simp only [D.tyn, Option.some.injEq, reduceCtorEq] at h <;> subst h <;> simp [isiB, seqOf]
theorem seqD {t u : TSD} {Dd : DEnds} {env : DEnv} (P : DEnv → Prop) (hb : ∀ env', P env' → u Dd env') (ha : (∀ env', P env' → u Dd env') → t { Dd with nx := u Dd } env) : sSeq t u Dd env := ha hb
theorem tkD {hd : Addr} {Ed : DEnv → Exc → Prop} {t : TED} {env : DEnv} {Q : D → Prop} (e : env[0]? = some (.val (.ref hd))) (h : t env fun d => ∃ m : Int, d = .int m ∧ 0 < m ∧ m < 2 ^ 200 ∧ ∀ r : Int, 0 ≤ r → r < m → Q (.int r)) : dCall (C__law_take hd) [] Ed (dCons (dVar 0) (dCons t dNil)) env Q := by
  refine ⟨_, _, e, rfl, ?_⟩
  have mono : ∀ (Q1 Q2 : D → Prop), (∀ d, Q1 d → Q2 d) → True := fun _ _ _ => trivial
  have e2 : (fun d => ∃ m : Int, d = .int m ∧ 0 < m ∧ m < 2 ^ 200 ∧ ∀ r : Int, 0 ≤ r → r < m → Q (.int r)) = fun x => dNil env fun xs => C__law_take hd ((.ref hd :: x :: xs) ++ []) Q (Ed env) := by
    funext d
    refine propext ⟨fun ⟨m, e, a, b, c⟩ => ⟨m, by rw [e]; rfl, a, b, c⟩, fun ⟨m, e, a, b, c⟩ => ⟨m, ?_, a, b, c⟩⟩
    have e : [D.ref hd, d] = [D.ref hd, D.int m] := e
    exact (List.cons.inj (List.cons.inj e).2).1
  rw [e2] at h
  exact h
theorem tkC {hd : Addr} {Ed : DEnv → Exc → Prop} {m : Int} {env : DEnv} {Q : D → Prop} (e : env[0]? = some (.val (.ref hd))) (m0 : 0 < m) (m1 : m < 2 ^ 200) (h : ∀ r : Int, 0 ≤ r → r < m → Q (.int r)) : dCall (C__law_take hd) [] Ed (dCons (dVar 0) (dCons (dC (.int m)) dNil)) env Q :=
  tkD e ⟨m, rfl, m0, m1, h⟩
theorem lcD_draw {i : Nat} {te : TED} {env : DEnv} {Q : List D → Prop} (P : D → Prop) (hP : ∀ y, P y → y.noLst = true) : ∀ (xs acc : List D), (∀ x ∈ xs, ∀ R : D → Prop, (∀ y, P y → R y) → te (env.set i (.val x)) R) →
    (∀ ys : List D, ys.length = xs.length → (∀ y ∈ ys, P y) → Q (acc ++ ys)) → lcD (gdName i) dYes te env xs acc Q
  | [], acc, _, q => by
    have := q [] rfl fun y m => by cases m
    rw [List.append_nil] at this
    exact this
  | x :: xs, acc, h, q => by
    show if true = true then te (env.set i (.val x)) (fun y => y.noLst = true ∧ lcD (gdName i) dYes te env xs (acc ++ [y]) Q) else lcD (gdName i) dYes te env xs acc Q
    rw [if_pos rfl]
    refine h x List.mem_cons_self _ fun y hy => ⟨hP y hy, lcD_draw P hP xs (acc ++ [y]) (fun z m => h z (List.mem_cons_of_mem _ m)) fun ys hl hys => ?_⟩
    have := q (y :: ys) (by rw [List.length_cons, List.length_cons, hl]) fun z m => by
      rcases List.mem_cons.mp m with rfl | m
      · exact hy
      · exact hys z m
    rw [List.append_assoc]
    exact this
theorem rngD_cons {lo : Int} {n : Nat} : rngD lo (n + 1) = .int lo :: rngD (lo + 1) n := by
  unfold rngD
  rw [List.range_succ_eq_map, List.map_cons, List.map_map]
  congr 1
  · simp
  · apply List.map_congr_left
    intro a _
    show D.int (lo + ((a + 1 : Nat) : Int)) = D.int (lo + 1 + (a : Int))
    congr 1
    omega
theorem rng_lc {i : Nat} {tt : TTD} {te : TED} {env : DEnv} {Q : List D → Prop} {xs : List D} (p : List D → D → Bool) (f : List D → D → D)
    (h : ∀ pre d suf (R : Option D → Prop), xs = pre ++ d :: suf → R (if p pre d = true then some (f pre d) else none) → tt (env.set i (.val (.int pre.length))) fun b => if b = true then te (env.set i (.val (.int pre.length))) fun y => y.noLst = true ∧ R (some y) else R none) :
    ∀ suf pre acc, xs = pre ++ suf → Q (acc ++ sel p f pre suf) → lcD (gdName i) tt te env (rngD pre.length suf.length) acc Q
  | [], pre, acc, e, q => by
    show Q acc
    simpa [sel] using q
  | d :: suf, pre, acc, e, q => by
    rw [List.length_cons, rngD_cons]
    show tt (env.set i (.val (.int pre.length))) fun b => if b = true then te (env.set i (.val (.int pre.length))) fun y => y.noLst = true ∧ lcD (gdName i) tt te env (rngD (pre.length + 1) suf.length) (acc ++ [y]) Q else lcD (gdName i) tt te env (rngD (pre.length + 1) suf.length) acc Q
    refine h pre d suf (fun o => match o with | some y => lcD (gdName i) tt te env (rngD (pre.length + 1) suf.length) (acc ++ [y]) Q | none => lcD (gdName i) tt te env (rngD (pre.length + 1) suf.length) acc Q) e ?_
    have hl : (pre.length : Int) + 1 = ((pre ++ [d]).length : Int) := by simp
    rw [hl]
    cases hp : p pre d with
    | true =>
      rw [if_pos rfl]
      exact rng_lc p f h suf (pre ++ [d]) (acc ++ [f pre d]) (by rw [e]; simp) (by simpa [sel, hp] using q)
    | false =>
      rw [if_neg (by decide)]
      exact rng_lc p f h suf (pre ++ [d]) acc (by rw [e]; simp) (by simpa [sel, hp] using q)
theorem atI_mid {α : Type} {pre suf : List α} {d : α} : atI (pre ++ d :: suf) (pre.length : Int) = some d := by
  unfold atI ixN
  rw [if_pos (by omega), if_pos (by rw [List.length_append, List.length_cons]; omega)]
  simp
theorem atI_ok {α : Type} {xs : List α} {i : Int} (h0 : 0 ≤ i) (h1 : i < xs.length) : ∃ x, atI xs i = some x ∧ x ∈ xs := by
  have hlt : i.toNat < xs.length := by omega
  refine ⟨xs[i.toNat], ?_, List.getElem_mem hlt⟩
  unfold atI ixN
  rw [if_pos h0, if_pos h1]
  simp [List.getElem?_eq_getElem hlt]
def ixs (bad : List D → D → Bool) : List D → List D → List D := sel bad fun pre _ => .int pre.length
theorem fst_ixs {bad : List D → D → Bool} : ∀ (xs pre : List D), (fstBad bad pre xs = none ∧ ixs bad pre xs = []) ∨ ∃ i r, fstBad bad pre xs = some i ∧ ixs bad pre xs = .int i :: r
  | [], pre => .inl ⟨rfl, rfl⟩
  | d :: xs, pre => by
    unfold ixs sel fstBad
    cases h : bad pre d with
    | true => exact .inr ⟨pre.length, _, rfl, rfl⟩
    | false => exact fst_ixs xs (pre ++ [d])
theorem eqD_refl {d : D} (h : d.good = true) : eqD d d = true := SeqAt.eqv_refl d.py (py_can d h)
/-- items: comparable, of a known type, no lists -/
def gI (d : D) : Prop := okI d ∧ d.tyn.isSome = true ∧ d.noLst = true
theorem gI_int {i : Int} : gI (.int i) := ⟨okI_int, rfl, rfl⟩
theorem gI_bl {i : Bool} : gI (.bl i) := ⟨okI_bl, rfl, rfl⟩
theorem gI_non : gI .non := ⟨okI_non, rfl, rfl⟩
/-- for i in range(len(xs)): .. -/
theorem rng_loop {i : Nat} {tb : TSD} {Dd : DEnds} {xs : List D} (P : List D → DEnv → Prop)
    (step : ∀ pre d suf env nx, xs = pre ++ d :: suf → P pre env → (∀ env', P (pre ++ [d]) env' → nx env') → tb { Dd with nx := nx, ct := nx, bk := Dd.nx } (env.set i (.val (.int pre.length))))
    (end_ : ∀ env, P xs env → Dd.nx env) : ∀ suf pre env, xs = pre ++ suf → P pre env → forD (gdName i) tb Dd (rngD pre.length suf.length) env
  | [], pre, env, e, h => by
    rw [List.append_nil] at e
    subst e
    exact end_ env h
  | d :: suf, pre, env, e, h => by
    rw [List.length_cons, rngD_cons]
    refine step pre d suf env _ e h fun env' h' => ?_
    have := rng_loop P step end_ suf (pre ++ [d]) env' (by rw [e]; simp) h'
    rw [List.length_append] at this
    exact this
theorem sel_snoc {p : List D → D → Bool} {f : List D → D → D} {d : D} : ∀ (xs pre : List D), sel p f pre (xs ++ [d]) = sel p f pre xs ++ (if p (pre ++ xs) d = true then [f (pre ++ xs) d] else [])
  | [], pre => by
    show sel p f pre [d] = _
    unfold sel
    rw [List.append_nil]
    cases p pre d <;> rfl
  | x :: xs, pre => by
    show sel p f pre (x :: (xs ++ [d])) = _
    unfold sel
    have e : pre ++ x :: xs = pre ++ [x] ++ xs := by simp
    rw [sel_snoc xs (pre ++ [x]), e]
    cases p pre x <;> simp
theorem fstBad_same {b1 b2 : List D → D → Bool} (I : List D → Prop) (h : ∀ pre d, I pre → b1 pre d = b2 pre d) (hk : ∀ pre d, I pre → b1 pre d = false → I (pre ++ [d])) : ∀ (xs pre : List D), I pre → fstBad b1 pre xs = fstBad b2 pre xs
  | [], _, _ => rfl
  | d :: xs, pre, hi => by
    rw [fstBad_cons, fstBad_cons, ← h pre d hi]
    cases e : b1 pre d with
    | true => rfl
    | false =>
      rw [if_neg (by decide), if_neg (by decide)]
      exact fstBad_same I h hk xs (pre ++ [d]) (hk pre d hi e)
theorem okD2 (a b : Int) : okD (.lst [.int a, .int b]) := okD_lst fun x m => by
  simp only [List.mem_cons, List.not_mem_nil, or_false] at m
  rcases m with rfl | rfl <;> exact okI_int
theorem lcD_some {gd : TGD} {tt : TTD} {te : TED} {env : DEnv} {Q : List D → Prop} (P : D → Prop) : ∀ (xs acc : List D),
    (∀ x ∈ xs, ∀ R : Option D → Prop, R none → (∀ y, P y → R (some y)) → gd x env fun env2 => tt env2 fun b => if b = true then te env2 fun y => y.noLst = true ∧ R (some y) else R none) →
    (∀ ys : List D, ys.length ≤ xs.length → (∀ y ∈ ys, P y) → Q (acc ++ ys)) → lcD gd tt te env xs acc Q
  | [], acc, _, q => by
    have := q [] (Nat.le_refl _) fun y m => by cases m
    rw [List.append_nil] at this
    exact this
  | x :: xs, acc, h, q => by
    show gd x env fun env2 => tt env2 fun b => if b = true then te env2 fun y => y.noLst = true ∧ lcD gd tt te env xs (acc ++ [y]) Q else lcD gd tt te env xs acc Q
    refine h x List.mem_cons_self (fun o => match o with | some y => lcD gd tt te env xs (acc ++ [y]) Q | none => lcD gd tt te env xs acc Q) ?_ fun y hy => ?_
    · exact lcD_some P xs acc (fun z m => h z (List.mem_cons_of_mem _ m)) fun ys hl hys => q ys (Nat.le_succ_of_le hl) hys
    · refine lcD_some P xs (acc ++ [y]) (fun z m => h z (List.mem_cons_of_mem _ m)) fun ys hl hys => ?_
      have := q (y :: ys) (by rw [List.length_cons, List.length_cons]; omega) fun z m => by
        rcases List.mem_cons.mp m with rfl | m
        · exact hy
        · exact hys z m
      rw [List.append_assoc]
      exact this
theorem rngD_int {lo : Int} {n : Nat} {x : D} (h : x ∈ rngD lo n) : ∃ i, x = .int i := by
  unfold rngD at h
  obtain ⟨i, _, rfl⟩ := List.mem_map.mp h
  exact ⟨_, rfl⟩
theorem len_sz {n : Nat} (h : n ≤ 1000) : n < sizeLine := by
  have : (1001 : Nat) ≤ sizeLine := by decide
  omega
end Dl
namespace Dl
open PySem PySem.Spec PyProof.Rows L2
/-! ### the script of a law: a list that is read alone -/
abbrev scrD (ds : List D) : D := .obj .scr (ds.map fun _ => "") ds
theorem scr_sq {K : PySem.W.Frag} {Av : Addr → Prop} {H : Hp} {v : V} {ns : List Str} {ds : List D} (h : Den K Av H v (.obj .scr ns ds)) : ∃ a ws, v = .ref a ∧ SqL K H a ws ∧ DenA K Av H ws ds := by
  simp only [Den] at h
  obtain ⟨ws, _, ⟨a, e, h⟩, dn⟩ := h
  refine ⟨a, ws, e, ?_, dn⟩
  rcases h with ⟨_, o, h⟩ | h
  · exact .inl (.inr ⟨o, h⟩)
  · exact h H
def bLenS : FC := fun xs Q => ∃ ns ds, xs = [.obj .scr ns ds] ∧ Q (.int ds.length)
theorem c_lenS {X : Cx} {I : HI} : RC X I (.builtin "len") bLenS := fun H xs ds Qd Q ok dn ⟨ns, es, e, h⟩ k => by
  subst e
  obtain ⟨v, rfl, d1⟩ := dn.one1
  obtain ⟨a, ws, rfl, sq, dn'⟩ := scr_sq d1
  rw [← dn'.len] at h
  exact rc_of call_len ⟨_, ws.length, rfl, .inl ⟨ws, sq, rfl⟩, k _ _ H (.refl ok) (by simp only [Den]) h⟩
theorem itd_scr {K : PySem.W.Frag} {a : Addr} {ns : List Str} {ds : List D} : ItD K (Itl K a) [(.ref a, .obj .scr ns ds)] ds := fun Av H hw _ => by
  obtain ⟨a', ws, e, sq, dn⟩ := scr_sq (hw _ List.mem_cons_self)
  cases e
  refine ⟨fun i hi => ?_, ws, sq, by rw [dn.len]; exact Nat.le_refl _⟩
  obtain ⟨v, q1, q2⟩ := dn.get (List.getElem?_eq_getElem hi)
  refine ⟨⟨ws, v, sq, q1⟩, fun x H' ⟨e, y⟩ => ?_⟩
  subst e
  have := y ws sq
  rw [q1] at this
  cases this
  exact ⟨Kp.refl, _, List.getElem?_eq_getElem hi, q2⟩
def idVarS (i : Nat) : TID := fun env Q => ∃ ns ds, env[i]? = some (.val (.obj .scr ns ds)) ∧ Q ds
theorem di_varS {X : Cx} {g : Gx} {tg : Expr} {p : Pos} (i : Nat) {x : Str} (hN : X.N[i]? = some x := by rfl) (hv : Vis X.env.scope x := by first | exact Or.inl rfl | exact Or.inr (Or.inl rfl) | exact Or.inr (Or.inr rfl)) (hd : (x == ("__debug__" : Str)) = false := by decide)
    (hcd : (x == ("__classdict__" : Str)) = false := by decide) : PID X g tg (.Name x p) (idVarS i) := pid_of (pi_seq (pe_var hN hv hd hcd)) fun b σ H env Qd R hd xl ⟨ns, ds, e, q⟩ k => by
  obtain ⟨oa, h1, h2, h3, h4⟩ := hd.slots
  obtain ⟨v, q1, q2⟩ := h3 i _ e
  obtain ⟨a, ws, rfl, sq, dn⟩ := scr_sq q2
  refine ⟨_, q1, .inl ⟨a, rfl, ⟨ws, sq⟩, k _ H [(.ref a, .obj .scr ns ds)] ds ⟨hd.len, hd.ext, oa, h1, h2, h3, fun p hp => ?_⟩ (.refl hd.ok) itd_scr q⟩⟩
  rcases List.mem_append.mp hp with z | z
  · rw [List.mem_singleton.mp z]; exact q2
  · exact h4 p z
/-! ### a law's def: the hand is made, the rest runs with it -/
def C_hand (K : PySem.W.Frag) : Ct := fun ds Q _ => ∃ (nm : List Str) (ns : List Int), ds = [.obj .scr nm (ns.map D.int)] ∧ ns.length ≤ 63 ∧ ∀ (cs : List Int) (t : Int), cs.length ≤ 63 → (∀ c ∈ cs, 0 ≤ c) → 0 ≤ t → t < 2 ^ 32 → Q (.lst [.lst (cs.map D.int), .int 0, .int 0, .int t])
theorem ar_hand (K : PySem.W.Frag) : Ar 1 (C_hand K) := fun _ _ _ ⟨_, _, e, _⟩ => by rw [e]; rfl
/-- a law's promise -/
def spLaw (K : PySem.W.Frag) : Sp := fun vs H Q _ => ∃ (a : Addr) (ns : List Int), vs = [.ref a] ∧ ns.length ≤ 63 ∧ Only H ∧ SqL K H a (ns.map V.int) ∧ ∀ H', Q (.bl true) H'
theorem hand_at {K : PySem.W.Frag} {H : Hp} {v : V} {cs : List Int} {t : Int} (h : Den K (fun _ => False) H v (.lst [.lst (cs.map D.int), .int 0, .int 0, .int t])) (hl : cs.length ≤ 63) (hp : ∀ c ∈ cs, 0 ≤ c) (t0 : 0 ≤ t) (t1 : t < 2 ^ 32) :
    ∃ hd c, v = .ref hd ∧ hd ≠ c ∧ HandAt hd c cs 0 0 t H := by
  simp only [Den] at h
  obtain ⟨hd, vs, rfl, hh, _, dn⟩ := h
  obtain ⟨v1, r1, rfl, d1, dn⟩ := dn.cons
  obtain ⟨v2, r2, rfl, d2, dn⟩ := dn.cons
  obtain ⟨v3, r3, rfl, d3, dn⟩ := dn.cons
  obtain ⟨v4, rfl, d4⟩ := dn.one1
  simp only [Den] at d1 d2 d3 d4
  subst d2 d3 d4
  obtain ⟨c, ws, rfl, hc, _, dw⟩ := d1
  have e := dw.ofInts
  subst e
  refine ⟨hd, c, rfl, fun z => ?_, hh, hc, hl, hp, Int.le_refl 0, by decide, Int.le_refl 0, t0, t1⟩
  subst z
  rw [hc] at hh
  have hh := HO.lst.inj (Option.some.inj hh)
  cases cs with
  | nil => cases hh
  | cons x xs => cases hh
/-- what stands when the script alone is known -/
theorem scr_den {K : PySem.W.Frag} {H : Hp} {a : Addr} {ns : List Int} (o : Only H) (h : SqL K H a (ns.map V.int)) : Den K (fun _ => False) H (.ref a) (scrD (ns.map D.int)) := by
  simp only [Den]
  refine ⟨ns.map V.int, by simp, ⟨a, rfl, ?_⟩, DenA.ints⟩
  rcases h with (h | ⟨u, h⟩) | h
  · rcases o a with z | ⟨u, xs, z⟩
    · rw [z] at h; cases h
    · rw [z] at h; cases h
  · exact .inl ⟨id, u, h⟩
  · exact .inr fun G => .inr h
theorem law_run {X : Cx} {rest : List Stmt} {td : Addr → TSD} {Q : VK} {H : Hp} {a : Addr} {ns : List Int} {σ : L2.St} {n : Nat} {W : WX}
    (hσ : σ = some (.ref a) :: none :: List.replicate n none)
    (hrest : ∀ hd c, hd ≠ c → PSsD X ⟨handI hd c, fun _ _ => False, W⟩ rest (td hd))
    (hC : ∀ hd, td hd ⟨fun _ => False, fun d => d = .bl true, fun _ => False, fun _ => False⟩ (.val (scrD (ns.map D.int)) :: .val (.ref hd) :: List.replicate n .no))
    (hl : ns.length ≤ 63) (o : Only H) (sq : SqL X.K H a (ns.map V.int)) (hQ : ∀ H', Q (.bl true) H') :
    tSeq (tAsg (tCall (spOf X.K HI.plain 1 (C_hand X.K)) [] E0 (tCons (tVar 0) tNil)) (gName 1)) (wSs X rest) { nx := fun _ H' => Q .non H', rt := Q } σ H := by
  subst hσ
  have ds := scr_den o sq
  refine ⟨_, rfl, [scrD (ns.map D.int)], fun d => ∃ (cs : List Int) (t : Int), cs.length ≤ 63 ∧ (∀ c ∈ cs, 0 ≤ c) ∧ 0 ≤ t ∧ t < 2 ^ 32 ∧ d = .lst [.lst (cs.map D.int), .int 0, .int 0, .int t], fun _ => False, rfl, .one ds, trivial, ⟨_, ns, rfl, hl, fun cs t h1 h2 h3 h4 => ⟨cs, t, h1, h2, h3, h4, rfl⟩⟩, fun v d H1 e1 dn ⟨cs, t, h1, h2, h3, h4, ed⟩ => ?_, fun _ _ _ _ _ z => z.elim⟩
  subst ed
  obtain ⟨hd, c, rfl, hne, Z⟩ := hand_at dn h1 h2 h3 h4
  have kp : Kp (fun _ => False) H H1 := e1.1
  have ok1 : (handI hd c).ok H1 := ⟨_, _, _, _, Z⟩
  have hd0 : DenE X.K (handI hd c) ⟨H1, []⟩ (some (.ref a) :: some (.ref hd) :: List.replicate n none) H1 (.val (scrD (ns.map D.int)) :: .val (.ref hd) :: List.replicate n .no) := by
    refine ⟨by simp, .refl ok1, fun _ => 0, fun i xs e => ?_, fun i j xs ys e => ?_, fun i d e => ?_, fun p hp => by cases hp⟩
    · match i, e with
      | 0, e => cases e
      | 1, e => cases e
      | i + 2, e =>
        simp only [List.getElem?_cons_succ, List.getElem?_replicate] at e
        split at e <;> cases e
    · match i, e with
      | 0, e => cases e
      | 1, e => cases e
      | i + 2, e =>
        simp only [List.getElem?_cons_succ, List.getElem?_replicate] at e
        split at e <;> cases e
    · match i, e with
      | 0, e =>
        cases e
        refine ⟨.ref a, rfl, ?_⟩
        have d1 : Den X.K (fun _ => False) H1 (.ref a) (scrD (ns.map D.int)) := Den.keep kp _ _ ds
        simp only [Den] at d1 ⊢
        obtain ⟨ws, hw, ⟨b, eb, hb⟩, dw⟩ := d1
        cases eb
        have ew := dw.ofInts
        subst ew
        refine ⟨_, hw, ⟨a, rfl, hb.imp (fun ⟨_, u, hu⟩ => ⟨fun z => ?_, u, hu⟩) id⟩, DenA.ints⟩
        rcases z with z | ⟨i, xs, e, _⟩
        · have z : a = hd := z
          rw [z, Z.h] at hu
          cases hu
        · match i, e with
          | 0, e => cases e
          | 1, e => cases e
          | i + 2, e =>
            simp only [List.getElem?_cons_succ, List.getElem?_replicate] at e
            split at e <;> cases e
      | 1, e =>
        cases e
        exact ⟨.ref hd, rfl, by simp only [Den]⟩
      | i + 2, e =>
        simp only [List.getElem?_cons_succ, List.getElem?_replicate] at e
        split at e <;> cases e
  refine hrest hd c hne ⟨H1, []⟩ _ H1 _ _ _ hd0 (fun _ _ _ _ _ _ _ _ _ z => z.elim) (hC hd) ⟨fun _ _ _ _ z => z.elim, fun v d H2 e2 dn2 ed => ?_, fun _ _ _ _ z => z.elim, fun _ _ _ _ z => z.elim⟩
  subst ed
  simp only [Den] at dn2
  subst dn2
  exact hQ H2
/-- a law lets no exception out -/
theorem law_cx0 {P : Program} {w : World} {K : PySem.W.Frag} {mg : Str → Option Value} {base : Heap} {k : Nat} {f : Addr} {fd : FuncData} {ps : List Str} (F : FnOk P w K mg base (L2.CX P w) k f fd ps (spLaw K)) : FnOk P w K mg base CX0 k f fd ps (spLaw K) :=
  ⟨F.len, fun A outer s H args us vs Q E hr he hb hv hs => codeAny_mono (F.run A outer s H args us vs Q E0 hr he hb hv hs) fun r s' h => by
    cases r with
    | error e =>
      have h : L2.CX P w outer H s E0 e s' := h
      obtain ⟨_, _, _, _, _, _, _, _, _, _, _, _, z⟩ := h
      exact z.elim
    | ok fl => cases fl <;> exact h⟩
end Dl
namespace Dl
open PySem PySem.Spec PyProof.Rows L2
/-! ### a, b = e -/
def sAsgG (td : TED) (gd : TGD) : TSD := fun Dd env => td env fun d => (noOwn env = true ∨ d.noLst = true) ∧ gd d env Dd.nx
section
variable {X : Cx} {g : Gx} {e tg : Expr} {td : TED} {gd : TGD} {pos : Pos} {I : HI}
theorem ds_asgG (he : PED X g e td) (hg : PGD X g tg gd) (hs : swapsWithSole [tg] e pos.line X.env = pure false := by rfl) (hw : swappedStores [tg] e X.env = pure none := by rfl)
    (h1 : (assignEach [tg] X.env).map (·.2) = [assign tg X.env] := by rfl) : PSD X g (.Assign [tg] e pos) (sAsgG td gd) :=
  psd_of (ps_asg pe_w pg_w hs hw h1) fun b σ H env Dd E hd xl h el => he b σ H env _ _ hd xl h fun v d H1 e1 dn ⟨kp, q⟩ =>
    hg b σ H1 env v d _ _ ((hd.mono e1).hold dn kp) q fun σ' H' env' hd' e' q' => el.nx σ' H' env' hd' q'
/-- min, max of two ints -/
def bMin2 : FC := fun xs Q => ∃ i j : Int, xs = [.int i, .int j] ∧ Q (.int (if j < i then j else i))
def bMax2 : FC := fun xs Q => ∃ i j : Int, xs = [.int i, .int j] ∧ Q (.int (if j > i then j else i))
theorem c_min2 (hc : X.calm = true) : RC X I (.builtin "min") bMin2 := fun H xs ds Qd Q ok dn ⟨i, j, e, h⟩ k => by
  subst e
  obtain ⟨v, r, rfl, d1, d2⟩ := dn.cons
  obtain ⟨w, rfl, d3⟩ := d2.one1
  simp only [Den] at d1 d3
  subst d1 d3
  exact rc_of (call_min2 hc) ⟨i, j, rfl, k _ _ H (.refl ok) (by simp only [Den]) h⟩
theorem c_max2 (hc : X.calm = true) : RC X I (.builtin "max") bMax2 := fun H xs ds Qd Q ok dn ⟨i, j, e, h⟩ k => by
  subst e
  obtain ⟨v, r, rfl, d1, d2⟩ := dn.cons
  obtain ⟨w, rfl, d3⟩ := d2.one1
  simp only [Den] at d1 d3
  subst d1 d3
  exact rc_of (call_max2 hc) ⟨i, j, rfl, k _ _ H (.refl ok) (by simp only [Den]) h⟩
end
end Dl
/-! sets whose members are tuples of whole numbers, None and such tuples -/
namespace Ns
open PySem PySem.Spec PyProof.Rows L2
abbrev Key := NestedKey
mutual
/-- no text within -/
def dry : Key → Bool
  | .none => true | .num _ => true | .text _ => false | .tup ks => dryA ks
def dryA : List Key → Bool
  | [] => true
  | k :: ks => dry k && dryA ks
end
/-- at b stands a tuple that is the key k -/
structure At (h : Heap) (k : Key) (b : Addr) : Prop where
  is : NestedIs h k (.ref b)
  low : k.depth ≤ 8
  dry : dry k = true
section
variable {h h' : Heap} {k : Key} {b : Addr}
theorem At.move (x : At h k b) (m : ∀ c o, h.get? c = some o → (∃ vs n, o.data = .seq vs n) → h'.get? c = some o) : At h' k b :=
  ⟨NestedIs.at (fun c o vs n e d => m c o e ⟨vs, n, d⟩) _ _ x.is, x.low, x.dry⟩
theorem At.kept (x : At h k b) (m : ∀ c o, h.get? c = some o → h'.get? c = some o) : At h' k b := x.move fun c o e _ => m c o e
/-- a set that changes is no key -/
theorem At.aside (x : At h k b) {a : Addr} {o : Obj} {es : Array (Int × Value)} {ep : Nat} {t : SetTable} (ha : h.get? a = some o) (hd : o.data = .set es ep t) (sb : Heap.SameBut a h h') : At h' k b :=
  x.move fun c u e ⟨vs, n, d⟩ => (sb.2 c fun z => by
    subst z
    cases ha.symm.trans e
    rw [d] at hd
    cases hd).trans e
end
section
variable {P : Program} {w : World} {A : Around} {E : Value → Shared → Prop} {s : Shared}
theorem At.eqs {k k' : Key} {b c : Addr} {Q : Bool → Shared → Prop} (hu : A.units + 8 < cLine) (x : At s.heap k b) (y : At s.heap k' c) (h : Q (decide (k = k')) s) : wpAny (model P w) A (eqBool (.ref b) (.ref c)) Q E s :=
  (nestedKind P w).eqBool hu ⟨x.is, x.low⟩ ⟨y.is, y.low⟩ h
theorem At.type {k : Key} {b : Addr} (x : At s.heap k b) : s.TypeIs (.ref b) "tuple" := by
  obtain ⟨x, _, _⟩ := x
  cases x with
  | tup ho hc hd hk => exact ⟨_, ho, hc⟩
/-- an array that is walked without a word -/
theorem quietly {β : Type} {f : Value → Option β × PUnit → Sem (ForInStep (Option β × PUnit))} {R : Option β × PUnit → Shared → Prop} : ∀ (vs : List Value), (∀ v ∈ vs, ∀ Q : ForInStep (Option β × PUnit) → Shared → Prop, Q (.yield (none, ⟨⟩)) s → wpAny (model P w) A (f v (none, ⟨⟩)) Q E s) → R (none, ⟨⟩) s →
    wpAny (model P w) A (forIn vs (none, ⟨⟩) f) R E s
  | [], _, h => by rw [List.forIn_nil]; exact wpAny_pure h
  | v :: vs, hv, h => by
    rw [List.forIn_cons]
    exact wpAny_bind (hv v List.mem_cons_self _ (quietly vs (fun u hu => hv u (List.mem_cons_of_mem _ hu)) h))
mutual
theorem cls_no : ∀ (k : Key) (v : Value) (n : Nat) (Q : Bool → Shared → Prop), NestedIs s.heap k v → k.depth ≤ n → Q false s → wpAny (model P w) A (ofAClassStatement n v) Q E s
  | .none, v, n, Q, x, _, q => by cases x; cases n <;> exact wpAny_pure q
  | .num i, v, n, Q, x, _, q => by cases x <;> cases n <;> exact wpAny_pure q
  | .text y, v, n, Q, x, _, q => by cases x; cases n <;> exact wpAny_pure q
  | .tup ks, v, n, Q, x, hn, q => by
    cases x with
    | tup ho hc hd hk =>
      simp only [NestedKey.depth] at hn
      obtain ⟨m, rfl⟩ : ∃ m, n = m + 1 := ⟨n - 1, by omega⟩
      unfold ofAClassStatement
      refine wpAny_bind (wpAny_typeOf (T := "tuple") ⟨_, ho, hc⟩ ?_)
      dsimp only
      rw [if_pos (by decide)]
      refine wpAny_bind (wpAny_pure ?_)
      rw [if_neg (by decide)]
      try dsimp only
      refine wpAny_bind (wpAny_seqItems ho hd ?_)
      dsimp only
      refine wpAny_bind ?_
      show wpAny _ _ (forIn _ _ _) _ _ s
      rw [← Array.forIn_toList]
      refine quietly _ (fun u hu Q' q' => ?_) (wpAny_pure q)
      refine wpAny_bind (clss_no ks _ m hk (by omega) u hu _ ?_)
      rw [if_neg (by decide)]
      exact wpAny_pure q'
theorem clss_no : ∀ (ks : List Key) (vs : List Value) (n : Nat), NestedAll s.heap ks vs → NestedKey.depthAll ks ≤ n → ∀ v ∈ vs, ∀ Q : Bool → Shared → Prop, Q false s → wpAny (model P w) A (ofAClassStatement n v) Q E s
  | [], _, n, x, _, v, hv, Q, q => by cases x; cases hv
  | k :: ks, _, n, x, hn, v, hv, Q, q => by
    cases x with
    | cons x1 x2 =>
      simp only [NestedKey.depthAll] at hn
      rcases List.mem_cons.mp hv with e | hv
      · rw [e]; exact cls_no k _ n Q x1 (by omega) q
      · exact clss_no ks _ n x2 (by omega) v hv Q q
end
mutual
theorem hbv_yes : ∀ (k : Key) (v : Value) (n : Nat) (Q : Bool → Shared → Prop), NestedIs s.heap k v → k.depth ≤ n → dry k = true → Q true s → wpAny (model P w) A (hashByValue n v) Q E s
  | .none, v, n, Q, x, _, _, q => by cases x; cases n <;> exact wpAny_pure q
  | .num i, v, n, Q, x, _, _, q => by cases x <;> cases n <;> exact wpAny_pure q
  | .text y, v, n, Q, x, _, d, q => by simp [dry] at d
  | .tup ks, v, n, Q, x, hn, d, q => by
    cases x with
    | tup ho hc hd hk =>
      simp only [NestedKey.depth] at hn
      obtain ⟨m, rfl⟩ : ∃ m, n = m + 1 := ⟨n - 1, by omega⟩
      unfold hashByValue
      refine wpAny_bind (wpAny_specialOf (T := "tuple") ⟨_, ho, hc⟩ PySem.F.slot_tuple_hash.lookup ?_)
      dsimp only
      refine wpAny_bind (wpAny_seqItems ho hd ?_)
      dsimp only [Option.getD]
      refine wpAny_bind ?_
      show wpAny _ _ (forIn _ _ _) _ _ s
      rw [← Array.forIn_toList]
      refine quietly _ (fun u hu Q' q' => ?_) (wpAny_pure q)
      refine wpAny_bind (hbvs_yes ks _ m hk (by omega) (by simpa only [dry] using d) u hu _ ?_)
      rw [if_neg (by decide)]
      exact wpAny_pure q'
theorem hbvs_yes : ∀ (ks : List Key) (vs : List Value) (n : Nat), NestedAll s.heap ks vs → NestedKey.depthAll ks ≤ n → dryA ks = true → ∀ v ∈ vs, ∀ Q : Bool → Shared → Prop, Q true s → wpAny (model P w) A (hashByValue n v) Q E s
  | [], _, n, x, _, _, v, hv, Q, q => by cases x; cases hv
  | k :: ks, _, n, x, hn, d, v, hv, Q, q => by
    cases x with
    | cons x1 x2 =>
      simp only [NestedKey.depthAll] at hn
      simp only [dryA, Bool.and_eq_true] at d
      rcases List.mem_cons.mp hv with e | hv
      · rw [e]; exact hbv_yes k _ n Q x1 (by omega) d.1 q
      · exact hbvs_yes ks _ n x2 (by omega) d.2 v hv Q q
end
theorem unseen {k : Key} {b : Addr} (x : At s.heap k b) {Q : Bool → Shared → Prop} (ys : List Value) (hy : ∀ y ∈ ys, ∃ k' c, y = Value.ref c ∧ At s.heap k' c) (q : Q false s) : wpAny (model P w) A (searchCouldBeSeen (.ref b) ys) Q E s := by
  unfold searchCouldBeSeen
  refine wpAny_bind (quietly ys (fun v hv Q' q' => ?_) (wpAny_pure q))
  obtain ⟨k', c, rfl, y⟩ := hy v hv
  dsimp only
  split
  · exact wpAny_pure q'
  · refine wpAny_bind ((nestedKind P w).quiet ⟨x.is, x.low⟩ ?_)
    rw [if_neg (by decide)]
    refine wpAny_bind ((nestedKind P w).quiet ⟨y.is, y.low⟩ ?_)
    rw [if_neg (by decide)]
    refine wpAny_bind (cls_no k _ 8 _ x.is x.low ?_)
    rw [if_neg (by decide)]
    refine wpAny_bind (cls_no k' _ 8 _ y.is y.low ?_)
    rw [if_neg (by decide)]
    exact wpAny_pure q'
end
end Ns
namespace Ns
open PySem PySem.Spec PyProof.Rows L2
/-- a row of the set: hash and member -/
abbrev rowOf (w : World) (p : Addr × Key) : Int × Value := (p.2.hash w, Value.ref p.1)
structure NSet (P : Program) (w : World) (h : Heap) (a : Addr) (L : List (Addr × Key)) (es : Array (Int × Value)) (ep : Nat) (t : SetTable) : Prop where
  obj : ∃ o, h.get? a = some o ∧ o.ExactSet ∧ o.data = .set es ep t
  lay : es.toList = L.map (rowOf w)
  tab : TabOk t (L.map fun p => p.2.hash w)
  uni : (L.map (·.2)).Nodup
  mem : ∀ p ∈ L, At h p.2 p.1
  hbv : t.plain = true
  led : w.params.followText "set-order" = true ∨ t.led = true
  gap : L.length * 5 < t.mask * 3
  few : L.length < 64
/-- the c-th state of a search for a hash -/
abbrev stp (t : SetTable) (H : Int) (c : Nat) : SetTable.Probe := nth t.mask (runAt t.mask (SetTable.bits H % (t.mask + 1)) (SetTable.bits H)) c
theorem stp_add (t : SetTable) (H : Int) (c q : Nat) : nth t.mask (stp t H c) q = stp t H (c + q) := (nth_add t.mask c _ q).symm
theorem nth_undum (m : Nat) : ∀ (n : Nat) (p : SetTable.Probe), p.dummy = none → (nth m p n).dummy = none
  | 0, _, e => e
  | n + 1, p, e => nth_undum m n (adv m p) (by unfold adv; split <;> exact e)
section
variable {P : Program} {w : World} {A : Around} {E : Value → Shared → Prop} {s : Shared} {a : Addr} {L : List (Addr × Key)} {es : Array (Int × Value)} {ep : Nat} {t : SetTable}
theorem lay_len {es : Array (Int × Value)} {L : List (Addr × Key)} (h : es.toList = L.map (rowOf w)) : es.size = L.length := by
  simpa using congrArg List.length h
theorem lay_get {es : Array (Int × Value)} {L : List (Addr × Key)} (h : es.toList = L.map (rowOf w)) {i : Nat} {p : Addr × Key} (hi : L[i]? = some p) : es[i]? = some (rowOf w p) := by
  rw [← Array.getElem?_toList, h, List.getElem?_map, hi]; rfl
theorem fits_by {n : Nat} (h1 : t.place.size = n) (h2 : t.dummies = #[]) (h3 : n ≤ t.mask) : t.fits n = true := by
  have e : t.dummies.size = 0 := by rw [h2]; rfl
  simp [SetTable.fits, SetTable.fill, h1, e, h3]
theorem NSet.fit (R : NSet P w s.heap a L es ep t) : t.fits es.size = true := by
  have e := lay_len R.lay
  have g := R.gap
  have z := R.tab.sz
  rw [List.length_map] at z
  rw [e]
  exact fits_by z R.tab.dm (by omega)
theorem NSet.stay (R : NSet P w s.heap a L es ep t) : ¬ t.gaveWay = true := by
  unfold SetTable.gaveWay
  rw [mask_odd R.tab.mok]
  decide
/-- one look at the table, from the c-th state on -/
theorem one_look (R : NSet P w s.heap a L es ep t) {H : Int} {c N : Nat} (hc : c ≤ N) (hN : N < 10 * SetTable.turns t.mask) (free : way t.mask H N ∉ t.place.toList) (busy : ∀ q, q < N → way t.mask H q ∈ t.place.toList) :
    (∃ (q i : Nat) (p : Addr × Key), c ≤ q ∧ q < N ∧ L[i]? = some p ∧ t.place.toList[i]? = some (way t.mask H q) ∧ (∀ (q' i' : Nat) (p' : Addr × Key), c ≤ q' → q' < q → t.place.toList[i']? = some (way t.mask H q') → L[i']? = some p' → p'.2.hash w ≠ H) ∧
      t.probe (fun i => (es[i]?.map (·.1)).getD 0) H (stp t H c) = some (.candidate (way t.mask H q) i (stp t H (q + 1)))) ∨
    ((∀ (q i : Nat) (p : Addr × Key), c ≤ q → q < N → t.place.toList[i]? = some (way t.mask H q) → L[i]? = some p → p.2.hash w ≠ H) ∧ t.probe (fun i => (es[i]?.map (·.1)).getD 0) H (stp t H c) = some (.empty (way t.mask H N) none)) := by
  have hash_at : ∀ (i : Nat) p, L[i]? = some p → (es[i]?.map (·.1)).getD 0 = p.2.hash w := fun i p hp => by rw [lay_get R.lay hp]; rfl
  have shift : ∀ q, (nth t.mask (stp t H c) q).j = way t.mask H (c + q) := fun q => congrArg SetTable.Probe.j (stp_add t H c q)
  have len : t.place.toList.length = L.length := by
    have z := R.tab.sz
    rw [List.length_map] at z
    rw [Array.length_toList]
    exact z
  rcases go_spec t R.tab.ris R.tab.dm (fun i => (es[i]?.map (·.1)).getD 0) H (10 * SetTable.turns t.mask) (N - c) (stp t H c) (nth_undum _ _ _ rfl) (by omega)
    (fun q hq => by rw [shift]; exact busy _ (by omega)) (by rw [shift, Nat.add_sub_cancel' hc]; exact free) with ⟨q, i, hq, hi, hh, hno, hpr⟩ | ⟨hno, hpr⟩
  · rw [shift] at hi
    have hil : i < L.length := by
      rw [← len]
      exact (List.getElem?_eq_some_iff.mp hi).1
    refine .inl ⟨c + q, i, L[i], Nat.le_add_right _ _, by omega, List.getElem?_eq_getElem hil, hi, fun q' i' p' h1 h2 h3 h4 => ?_, ?_⟩
    · rw [← hash_at i' p' h4]
      exact hno (q' - c) i' (by omega) (by rw [shift, Nat.add_sub_cancel' h1]; exact h3)
    · have e := hpr
      rw [shift, stp_add] at e
      exact e
  · refine .inr ⟨fun q i p h1 h2 h3 h4 => ?_, ?_⟩
    · rw [← hash_at i p h4]
      exact hno (q - c) i (by omega) (by rw [shift, Nat.add_sub_cancel' h1]; exact h3)
    · have e := hpr
      rw [shift, Nat.add_sub_cancel' hc] at e
      exact e
/-- where a member is found again, from the c-th state on -/
def Ahead (t : SetTable) (L : List (Addr × Key)) (k : Key) (H : Int) (c N : Nat) : Prop := ∀ (i : Nat) p, L[i]? = some p → p.2 = k → ∃ q, c ≤ q ∧ q < N ∧ t.place.toList[i]? = some (way t.mask H q)
theorem seek (R : NSet P w s.heap a L es ep t) {x : Addr} {k : Key} (hx : At s.heap k x) (hu : A.units + 8 < cLine) {H : Int} (hH : H = k.hash w) {N : Nat} (hN : N < 10 * SetTable.turns t.mask) (free : way t.mask H N ∉ t.place.toList) (busy : ∀ q, q < N → way t.mask H q ∈ t.place.toList)
    {Q : SetFound → Shared → Prop} (yes : k ∈ L.map (·.2) → Q (.there none) s) (no : k ∉ L.map (·.2) → Q (.free (way t.mask H N) false) s) :
    ∀ (f c : Nat) (from? : Option SetTable.Probe), from?.getD (t.probeStart H) = stp t H c → c ≤ N → N < c + f → Ahead t L k H c N → wpAny (model P w) A (setSearchFrom a (.ref x) H true f from?) Q E s
  | 0, c, _, _, h1, h2, _ => absurd h2 (by omega)
  | f + 1, c, from?, hs, hc, hf, ah => by
    obtain ⟨o, ho, hex, hd⟩ := R.obj
    rw [setSearchFrom_succ]
    refine wpAny_bind (wpAny_setState_of ho hd R.fit ?_)
    dsimp only
    refine wp_if_neg R.stay ?_
    try refine wpAny_bind (wpAny_pure ?_)
    rw [hs]
    rcases one_look R hc hN free busy with ⟨q, i, p, cq, qN, hp, hi, before, e⟩ | ⟨before, e⟩
    · rw [e]
      dsimp only
      have inL : p ∈ L := List.mem_of_getElem? hp
      have hslot := slot_live R.tab.ris hi
      have rest : wpAny (model P w) A (searchRest a (.ref x) H true f es t (way t.mask H q) i (stp t H (q + 1))) Q E s := by
        unfold searchRest
        rw [lay_get R.lay hp]
        dsimp only [rowOf]
        refine wpAny_bind (wpAny_holding (At.eqs hu (R.mem p inL) hx ?_))
        refine wpAny_bind (wpAny_setState_of ho hd R.fit ?_)
        dsimp only
        by_cases same : p.2 = k
        · refine wp_if_pos (by rw [decide_eq_true same]; rfl) (wpAny_pure (yes ?_))
          exact List.mem_map.mpr ⟨p, inL, same⟩
        · refine wp_if_neg (by rw [decide_eq_false same]; decide) ?_
          try refine wpAny_bind (wpAny_pure ?_)
          rw [sameMem]
          dsimp only
          simp only [if_true, hslot, lay_get R.lay hp, rowOf]
          refine wpAny_bind (wpAny_isSame_ref_self (wpAny_bind (wpAny_pure ?_)))
          simp only [if_true]
          refine wp_if_neg (by rw [decide_eq_false same]; decide) ?_
          refine seek R hx hu hH hN free busy yes no f (q + 1) _ rfl qN (by omega) fun i' p' h1 h2 => ?_
          obtain ⟨q', b1, b2, b3⟩ := ah i' p' h1 h2
          refine ⟨q', ?_, b2, b3⟩
          rcases Nat.lt_trichotomy q' q with lt | eq | gt
          · exact absurd (by rw [h2, hH]) (before q' i' p' b1 lt b3 h1)
          · subst eq
            have s2 := slot_live R.tab.ris b3
            rw [hslot] at s2
            cases s2
            rw [hp] at h1
            cases h1
            exact absurd h2 same
          · exact gt
      by_cases hl : t.led = true
      · refine wp_if_neg (by rw [hl]; decide) ?_
        try refine wpAny_bind (wpAny_pure ?_)
        exact rest
      · refine wp_if_pos (by simp [hl]) ?_
        refine wpAny_bind (unseen hx _ (fun y hy => ?_) ?_)
        · obtain ⟨e0, he0, rfl⟩ := List.mem_map.mp hy
          have m : e0 ∈ es.toList := by
            have := (Array.mem_toList_iff.mp he0)
            exact Array.mem_toList_iff.mpr (Array.mem_filter.mp this).1
          rw [R.lay] at m
          obtain ⟨p0, hp0, rfl⟩ := List.mem_map.mp m
          exact ⟨p0.2, p0.1, rfl, R.mem p0 hp0⟩
        · refine wp_if_neg (by decide) ?_
          try refine wpAny_bind (wpAny_pure ?_)
          exact rest
    · rw [e]
      dsimp only
      refine wpAny_pure (no fun hm => ?_)
      obtain ⟨p, hp, ek⟩ := List.mem_map.mp hm
      obtain ⟨i, hi⟩ := List.mem_iff_getElem?.mp hp
      obtain ⟨q, b1, b2, b3⟩ := ah i p hi ek
      exact before q i p b1 b2 b3 hi (by rw [ek, hH])
/-- the search that adding begins with -/
theorem sought (R : NSet P w s.heap a L es ep t) {x : Addr} {k : Key} (hx : At s.heap k x) (hu : A.units + 8 < cLine) {Q : SetFound → Shared → Prop} (yes : k ∈ L.map (·.2) → Q (.there none) s)
    (no : ∀ N, k ∉ L.map (·.2) → way t.mask (k.hash w) N ∉ t.place.toList → (∀ q, q < N → way t.mask (k.hash w) q ∈ t.place.toList) → Q (.free (way t.mask (k.hash w) N) false) s) :
    wpAny (model P w) A (setSearch a (.ref x) (k.hash w) true) Q E s := by
  have g := R.gap
  obtain ⟨N, hN, free, busy⟩ := R.tab.first (by rw [List.length_map]; omega) (k.hash w)
  have low : 10 * SetTable.turns t.mask ≤ 1420 := by
    unfold SetTable.turns
    rcases R.tab.mok with e | e | e <;> omega
  unfold setSearch
  refine seek R hx hu rfl hN free busy yes (fun z => no N z free busy) 100000 0 none rfl (Nat.zero_le _) (by omega) fun i p hp ek => ?_
  have hh : (L.map fun p => p.2.hash w)[i]? = some (k.hash w) := by rw [List.getElem?_map, hp, ← ek]; rfl
  have hil : i < t.place.toList.length := by
    have z := R.tab.sz
    rw [List.length_map] at z
    rw [Array.length_toList, z]
    exact (List.getElem?_eq_some_iff.mp hp).1
  obtain ⟨q, hq, e⟩ := R.tab.before free hh (List.getElem?_eq_getElem hil)
  exact ⟨q, Nat.zero_le _, hq, by rw [List.getElem?_eq_getElem hil, e]⟩
end
end Ns
namespace Ns
open PySem PySem.Spec PyProof.Rows L2
/-- numbers of a list, looked up -/
theorem pick_perm {α : Type} (L : List α) {ord : List Nat} (h : ord.Perm (List.range L.length)) : (ord.filterMap (L[·]?)).Perm L := by
  refine (h.filterMap _).trans (List.Perm.of_eq ?_)
  have key : ∀ (pre L : List α), (List.range' pre.length L.length).filterMap ((pre ++ L)[·]?) = L := by
    intro pre L
    induction L generalizing pre with
    | nil => simp
    | cons x L ih =>
      rw [List.length_cons, List.range'_succ, List.filterMap_cons_some (b := x) (by simp)]
      have := ih (pre ++ [x])
      simp only [List.length_append, List.length_cons, List.length_nil, List.append_assoc, List.cons_append, List.nil_append] at this
      rw [this]
  have := key [] L
  simpa [List.range_eq_range'] using this
theorem pick_all {α : Type} (L : List α) : ∀ {ord : List Nat}, (∀ i ∈ ord, i < L.length) → ∃ M : List α, ord.filterMap (L[·]?) = M ∧ ord.map (L[·]?) = M.map some
  | [], _ => ⟨[], rfl, rfl⟩
  | i :: ord, h => by
    obtain ⟨M, e1, e2⟩ := pick_all L (ord := ord) fun j hj => h j (List.mem_cons_of_mem _ hj)
    have hi := List.getElem?_eq_getElem (h i List.mem_cons_self)
    exact ⟨L[i]'(h i List.mem_cons_self) :: M, by rw [List.filterMap_cons_some hi, e1], by rw [List.map_cons, List.map_cons, e2, hi]⟩
theorem fm_same {α β : Type} {f g : α → Option β} : ∀ {l : List α}, (∀ x ∈ l, f x = g x) → l.filterMap f = l.filterMap g
  | [], _ => rfl
  | x :: l, h => by
    have ih := fm_same (l := l) fun y hy => h y (List.mem_cons_of_mem _ hy)
    have e := h x List.mem_cons_self
    cases q : g x with
    | none => rw [List.filterMap_cons_none (e.trans q), List.filterMap_cons_none q, ih]
    | some y => rw [List.filterMap_cons_some (e.trans q), List.filterMap_cons_some q, ih]
section
variable {P : Program} {w : World} {A : Around} {E : Value → Shared → Prop} {s : Shared} {a : Addr} {L : List (Addr × Key)} {es : Array (Int × Value)} {ep : Nat} {t : SetTable}
/-- the rows in another order -/
theorem relaid_rows {ord : Array Nat} (hl : es.toList = L.map (rowOf w)) (hp : ord.toList.Perm (List.range L.length)) :
    ∃ M : List (Addr × Key), M.Perm L ∧ (ord.filterMap (es[·]?)).toList = M.map (rowOf w) ∧ (ord.toList.map fun i => (es.map (·.1)).getD i 0) = M.map fun p => p.2.hash w := by
  have inb : ∀ i ∈ ord.toList, i < L.length := fun i hi => List.mem_range.mp (hp.mem_iff.mp hi)
  obtain ⟨M, e1, e2⟩ := pick_all L inb
  refine ⟨M, e1 ▸ pick_perm L hp, ?_, ?_⟩
  · rw [Array.toList_filterMap, ← e1, List.map_filterMap]
    refine fm_same fun i hi => ?_
    rw [← Array.getElem?_toList, hl, List.getElem?_map]
  · have e3 := congrArg (List.map fun o : Option (Addr × Key) => (o.map fun p => p.2.hash w).getD 0) e2
    rw [List.map_map, List.map_map] at e3
    refine Eq.trans (List.map_congr_left fun i hi => ?_) e3
    have hi' := List.getElem?_eq_getElem (inb i hi)
    show (es.map (·.1)).getD i 0 = ((L[i]?).map fun p => p.2.hash w).getD 0
    rw [Array.getD_eq_getD_getElem?, Array.getElem?_map, lay_get hl hi', hi']
    rfl
/-- what is said of a set that has just been stored -/
theorem NSet.stored {o : Obj} {h : Heap} {es' : Array (Int × Value)} {t' : SetTable} {M : List (Addr × Key)} (ho : h.get? a = some o) (hex : o.ExactSet) (hd : o.data = .set es ep t) (hl : es'.toList = M.map (rowOf w)) (tab : TabOk t' (M.map fun p => p.2.hash w))
    (uni : (M.map (·.2)).Nodup) (mem : ∀ p ∈ M, At h p.2 p.1) (pl : t'.plain = true) (ld : w.params.followText "set-order" = true ∨ t'.led = true) (gap : M.length * 5 < t'.mask * 3) (few : M.length < 64) :
    NSet P w (h.update a (Obj.putSet es' t')) a M es' (ep + 1) t' :=
  ⟨⟨_, store_at ho hd, ⟨hex.1, hex.2.1, hex.2.2⟩, rfl⟩, hl, tab, uni, fun p hp => (mem p hp).aside ho hd (.update ..), pl, ld, gap, few⟩
theorem regrown {o : Obj} {L : List (Addr × Key)} (ho : s.heap.get? a = some o) (hex : o.ExactSet) (hd : o.data = .set es ep t) (hl : es.toList = L.map (rowOf w)) (tab : TabOk t (L.map fun p => p.2.hash w)) (hle : L.length ≤ t.mask) (uni : (L.map (·.2)).Nodup) (mem : ∀ p ∈ L, At s.heap p.2 p.1)
    (pl : t.plain = true) (ld : w.params.followText "set-order" = true ∨ t.led = true) (few : L.length < 64) {want M : Nat} (hM : SetTable.sizeAbove want = M + 1) (ok : MaskOk M) (gap : L.length * 5 < M * 3) {Q : Unit → Shared → Prop}
    (q : ∀ h' L' es' ep' t', Heap.SameBut a s.heap h' → NSet P w h' a L' es' ep' t' → L'.Perm L → Q () { s with heap := h' }) : wpAny (model P w) A (setRelay a want) Q E s := by
  have n := lay_len hl
  have sz := tab.sz
  rw [List.length_map] at sz
  have M127 : M ≤ 127 := by rcases ok with e | e | e <;> omega
  obtain ⟨t', ord, e, hp, T, em, el, epl, _⟩ := relaid_ok t (hs := es.map (·.1)) (wanted := want) (M := M) (by omega) ok (by rw [Array.size_map]; omega)
  rw [Array.size_map, n] at hp
  obtain ⟨L', pm, r1, r2⟩ := relaid_rows (w := w) hl hp
  rw [r2] at T
  have n' : (ord.filterMap (es[·]?)).size = es.size := by rw [lay_len r1, pm.length_eq, n]
  rw [setRelay_eq]
  refine wpAny_bind (wpAny_setState_of ho hd (by rw [n]; exact fits_by sz tab.dm hle) ?_)
  dsimp only
  refine wp_if_neg (by rw [hM, sizeLine_eq]; omega) ?_
  try refine wpAny_bind (wpAny_pure ?_)
  rw [e]
  dsimp only
  refine wpAny_bind ?_
  refine wp_if_neg (by rw [n', bne_self_eq_false]; decide) ?_
  try refine wpAny_bind (wpAny_pure ?_)
  refine wpAny_pure ?_
  dsimp only
  refine wpAny_storeSet_of ho hd ?_ (by rw [n', n, sizeLine_eq]; omega)
  refine q _ L' _ _ t' (.update ..) (NSet.stored ho hex hd r1 T ((pm.map (·.2)).nodup_iff.mpr uni) (fun p m => mem p (pm.mem_iff.mp m)) (by rw [epl]; exact pl) (by rw [el]; exact ld) (by rw [pm.length_eq, em]; exact gap) (by rw [pm.length_eq]; exact few)) pm
theorem map_ins {α β : Type} (f : α → β) (L : List α) (x : α) (p : Nat) : (L.take p ++ x :: L.drop p).map f = (L.map f).take p ++ f x :: (L.map f).drop p := by
  rw [List.map_append, List.map_cons, List.map_take, List.map_drop]
/-- one more -/
theorem added (R : NSet P w s.heap a L es ep t) {x : Addr} {k : Key} (hx : At s.heap k x) (hu : A.units + 8 < cLine) (room : L.length + 1 < 64) {Q : Bool → Shared → Prop}
    (q : ∀ b h' L' es' ep' t', Heap.SameBut a s.heap h' → NSet P w h' a L' es' ep' t' → ((k ∈ L.map (·.2) ∧ L' = L) ∨ (k ∉ L.map (·.2) ∧ L'.Perm ((x, k) :: L))) → Q b { s with heap := h' }) :
    wpAny (model P w) A (setAddHashed a (.ref x) (k.hash w)) Q E s := by
  obtain ⟨o, ho, hex, hd⟩ := R.obj
  have n := lay_len R.lay
  have gap := R.gap
  unfold setAddHashed
  refine wpAny_holding ?_
  rw [show (100000 : Nat) = 99999 + 1 from rfl, setAddHashedIn_succ]
  refine wpAny_bind (wpAny_setState_of ho hd R.fit ?_)
  dsimp only
  refine wp_if_neg (by simp [byScan, Value.scannable]) ?_
  try refine wpAny_bind (wpAny_pure ?_)
  refine wpAny_bind (sought R hx hu (fun hm => ?_) fun N nm free busy => ?_)
  · exact wpAny_pure (q false s.heap L es ep t (.refl a s.heap) R (.inl ⟨hm, rfl⟩))
  dsimp only
  refine wpAny_bind (wpAny_setState_of ho hd R.fit ?_)
  dsimp only
  obtain ⟨p1, _, p3, p4, p5, p6, _, _, p9⟩ := R.tab.put free busy
  have pl : (t.put (way t.mask (k.hash w) N)).1.plain = true := by rw [p6]; exact R.hbv
  generalize t.put (way t.mask (k.hash w) N) = z at p1 p3 p4 p5 p9 pl ⊢
  obtain ⟨t1, p⟩ := z
  dsimp only at p1 p3 p4 p5 p9 pl ⊢
  subst p1
  generalize SetTable.below t.place (way t.mask (k.hash w) N) = p at p3 ⊢
  have yes : ∀ (R' : Bool → Shared → Prop), R' true s → wpAny (model P w) A (hashByValue 8 (.ref x)) R' E s := fun R' r => hbv_yes k _ 8 R' hx.is hx.low hx.dry r
  first
    | (refine wpAny_bind ?_; refine wp_if_pos pl (yes _ ?_))
    | refine wp_if_pos pl (wpAny_bind (yes _ ?_))
  simp only [if_true]
  have lay1 : (SetTable.insertAt es p (k.hash w, Value.ref x)).toList = (L.take p ++ (x, k) :: L.drop p).map (rowOf w) := by
    rw [SetTable.toList_insertAt, map_ins, R.lay]
  rw [← map_ins (fun p : Addr × Key => p.2.hash w) L (x, k) p] at p3
  have pm : (L.take p ++ (x, k) :: L.drop p).Perm ((x, k) :: L) := by
    have := List.perm_middle (a := (x, k)) (l₁ := L.take p) (l₂ := L.drop p)
    rwa [List.take_append_drop] at this
  generalize L.take p ++ (x, k) :: L.drop p = L1 at lay1 p3 pm
  generalize SetTable.insertAt es p (k.hash w, Value.ref x) = es1 at lay1 ⊢
  have len1 : L1.length = L.length + 1 := pm.length_eq
  have n1 := lay_len lay1
  have uni1 : (L1.map (·.2)).Nodup := (pm.map (·.2)).nodup_iff.mpr (List.nodup_cons.mpr ⟨nm, R.uni⟩)
  have mem1 : ∀ p ∈ L1, At s.heap p.2 p.1 := fun p hp => (List.mem_cons.mp (pm.mem_iff.mp hp)).elim (fun e => by rw [e]; exact hx) (R.mem p)
  have led1 : w.params.followText "set-order" = true ∨ t1.led = true := by rw [p5]; exact R.led
  refine wpAny_bind (wpAny_storeSet_of ho hd ?_ (by rw [n1, len1, sizeLine_eq]; omega))
  have sb := Heap.SameBut.update s.heap a (Obj.putSet es1 t1)
  by_cases full : t1.tooFull = true
  · have big : t1.mask * 3 ≤ (L.length + 1) * 5 := by
      have z := full
      unfold SetTable.tooFull at z
      rw [decide_eq_true_eq, p9, List.length_map] at z
      exact z
    have ho1 := store_at (es' := es1) (t' := t1) ho hd
    have what : (t.mask = 7 ∧ L.length = 4) ∨ (t.mask = 31 ∧ L.length = 18) := by
      rw [p4] at big
      rcases R.tab.mok with e | e | e
      · exact .inl ⟨e, by omega⟩
      · exact .inr ⟨e, by omega⟩
      · omega
    have go : ∀ M, SetTable.sizeAbove (SetTable.grown (es.size + 1)) = M + 1 → MaskOk M → (L.length + 1) * 5 < M * 3 →
        wpAny (model P w) A (setRelay a (SetTable.grown (es.size + 1))) (fun _ s' => wpAny (model P w) A (pure true) Q E s') E { s with heap := s.heap.update a (Obj.putSet es1 t1) } := fun M h1 h2 h3 =>
      regrown (s := { s with heap := s.heap.update a (Obj.putSet es1 t1) }) ho1 ⟨hex.1, hex.2.1, hex.2.2⟩ rfl lay1 p3 (by rw [p4]; omega) uni1 (fun p hp => (mem1 p hp).aside ho hd sb) pl led1 (by omega) h1 h2 (by omega)
        fun h' L' es' ep' t' sb' R' pm' => wpAny_pure (q true h' L' es' ep' t' (sb.trans sb') R' (.inr ⟨nm, pm'.trans pm⟩))
    first
      | (refine wpAny_bind ?_; refine wp_if_pos (by simp [full]) ?_)
      | (refine wp_if_pos (by simp [full]) ?_; refine wpAny_bind ?_)
    rcases what with ⟨_, e⟩ | ⟨_, e⟩
    · exact go 31 (by rw [n, e]; exact size_20) (.inr (.inl rfl)) (by omega)
    · exact go 127 (by rw [n, e]; exact size_76) (.inr (.inr rfl)) (by omega)
  · have small : (L.length + 1) * 5 < t1.mask * 3 := by
      have z := full
      unfold SetTable.tooFull at z
      rw [decide_eq_true_eq, p9, List.length_map] at z
      omega
    first
      | (refine wpAny_bind ?_; refine wp_if_neg (by simp [full]) ?_; refine wpAny_pure ?_)
      | refine wp_if_neg (by simp [full]) ?_
    exact wpAny_pure (q true _ L1 es1 (ep + 1) t1 sb (NSet.stored ho hex hd lay1 p3 uni1 mem1 pl led1 (by omega) (by omega)) (.inr ⟨nm, pm⟩))
/-- s.add(x) -/
theorem call_add (R : NSet P w s.heap a L es ep t) {x : Addr} {k : Key} (hx : At s.heap k x) (hu : A.units + 12 < cLine) (room : L.length + 1 < 64) {Q : Value → Shared → Prop}
    (q : ∀ h' tk L' es' ep' t', Heap.SameBut a s.heap h' → NSet P w h' a L' es' ep' t' → ((k ∈ L.map (·.2) ∧ L' = L) ∨ (k ∉ L.map (·.2) ∧ L'.Perm ((x, k) :: L))) → Q .none { s with heap := h', toks := tk }) :
    wpAny (model P w) A (call (.builtin "set.add") [.ref a, .ref x]) Q E s := by
  obtain ⟨o, ho, hex, hd⟩ := R.obj
  refine wpAny_call_entry F.slot_set_add ⟨o, ho, hex.1⟩ F.entry_set_add ?_ (F.args_set_add_2 _ _)
  unfold Builtin.«set.add» Builtin.Frozenset.oneOther
  simp only [List.isEmpty_nil, bind_assoc]
  unfold Builtin.Frozenset.addrOf setAdd
  refine wpAny_bind (wpAny_pure ?_)
  try dsimp only
  refine wpAny_bind (wpAny_pure ?_)
  try dsimp only
  refine wpAny_bind (wpAny_holding (wpAny_bind (pyHash_key k _ _ s _ hx.is ?_ ?_)))
  · have := hx.low
    have e : A.in1.units ≤ A.units + 2 := by simp [Around.in1]
    omega
  · refine added (s := { s with toks := s.toks + k.draws }) R hx ?_ room fun b h' L' es' ep' t' sb R' w' => ?_
    · have e : A.in1.units ≤ A.units + 2 := by simp [Around.in1]
      omega
    · show wpAny _ _ (ret Value.none) _ _ _
      exact wpAny_pure ⟨_, rfl, q h' _ L' es' ep' t' sb R' w'⟩
end
end Ns
namespace Ns
open PySem PySem.Spec PyProof.Rows L2
/-- the object that {.. for ..} begins with -/
abbrev bareSet (w : World) : Obj := { cls := .type "set", dict := none, data := .set #[] 0 (.fresh 0 0 (!w.params.followText "set-order")) }
/-- how the new set is told (O0), and what adding to it asks and does (Ad) -/
structure Adds (X : Cx) (O0 : Addr → HO) (Ad : Addr → V → Hp → (Hp → Prop) → Prop) : Prop where
  new : ∀ (H : Hp) (h : Heap) (D : Addr), h.get? D = some (bareSet X.w) → ObjOk X.prog X.w H h D (O0 D)
  add : ∀ (s0 : Shared) (H0 : Hp) (sc : Scope) (ce : Env) (fp : List Addr) (pins : List (Addr × Obj)) (σ : L2.St) (H : Hp) (s : Shared) (D : Addr) (y : V) (u : Value) (Nx : Hp → Prop) (E : Value → Shared → Prop) (Q : Value → Shared → Prop),
    Inv (X.blk s0 H0 sc ce fp) pins σ H s → RelV y u → Ad D y H Nx → (∀ s' H', Inv (X.blk s0 H0 sc ce fp) pins σ H' s' → Nx H' → Q .none s') → wpAny (model X.prog X.w) X.A (call (.builtin "set.add") [.ref D, u]) Q E s
def tSa (O0 : Addr → HO) (Ad : Addr → V → Hp → (Hp → Prop) → Prop) (wi : TI) (g : TG) (tt : TT) (te : TE) (vs : List Nat) : TE := fun σ H Q => wi σ H fun J H1 => ∀ D, H1 D = none →
  ∃ W : Nat → Nat → Hp → Prop, (∃ m, W 0 m (upd H1 D (O0 D))) ∧ ∀ i m H2, W i m H2 → (J.stop i H2 ∧ Q (.ref D) H2) ∨ (J.go i H2 ∧ ∃ Nx : Hp → Prop, (∀ H', Nx H' → ∃ m', m' < m ∧ W (i + 1) m' H') ∧
    ∀ x H', J.yld i H2 x H' → g x (wipe σ vs) H' fun σ3 H3 => wipe σ3 vs = wipe σ vs ∧ tt σ3 H3 fun b H4 => if b = true then te σ3 H4 fun y H5 => Ad D y H5 Nx else Nx H4)
section
variable {X : Cx} {O0 : Addr → HO} {Ad : Addr → V → Hp → (Hp → Prop) → Prop}
theorem sa_run {pins : List (Addr × Obj)} {s : Shared} {σ : L2.St} {H : Hp} {Q : VK} {elt tg iter : Expr} {ifs : List Expr} {scope : Scope} {own : List (PySem.Str × Nat)} {pos at? : Pos} {wi : TI} {g : TG} {tt : TT} {te : TE} {Qf : Value → Shared → Prop}
    (ad : Adds X O0 Ad) (calm : X.calm = true) (ndp : X.N.Nodup) (I : Inv X pins σ H s) (walk : PI X tg iter wi) (ok : BlkOk X.N X.env.scope scope own)
    (tgt : ∀ (s : Shared) (H : Hp) (C : Addr) (cl : List (PySem.Str × Addr)) (fp : List Addr), PG (X.blk s H scope (compEnvC scope cl C X.env) fp) tg g) (tst : ∀ (s : Shared) (H : Hp) (C : Addr) (cl : List (PySem.Str × Addr)) (fp : List Addr), PTs (X.blk s H scope (compEnvC scope cl C X.env) fp) ifs tt)
    (elm : ∀ (s : Shared) (H : Hp) (C : Addr) (cl : List (PySem.Str × Addr)) (fp : List Addr), PE (X.blk s H scope (compEnvC scope cl C X.env) fp) elt te) (plain : ∀ x, foldedSetIterable iter X.env x = pure x)
    (h : tSa O0 Ad wi g tt te (own.map (·.2)) σ H Q) (fin : ∀ D C s' m H', Inv X pins σ H' s' → Q (.ref D) H' → s'.heap.Ns C m → FpOk X pins H' C → compPost (model X.prog X.w) X.A X.xe none Qf (.ref D) C (.ok .next) s') :
    wpAny (model X.prog X.w) X.A (comprehension (.SetComp elt [⟨tg, iter, ifs, 0⟩] scope pos) scope X.env at? (newSet (.type "set")) false (eval iter X.env) none) Qf X.xe s := by
  have cells : ∀ y ∈ scope.names, y.2 = .free → ∃ c, X.env.cells.lookup y.1 = some c := fun y hy e => I.ok.has _ ((ok.free y hy e).imp id id)
  refine wpAny_comprehension_free (use := none) rfl plain (closure_ok cells) ok.kind (fun y hy e => (ok.uniq y hy).trans (congrArg some e)) (thn (walk.run pins s σ H _ I h) fun xv s1 hx => thn hx fun itv s2 h2 => ?_)
  obtain ⟨it, fp, tn, J, H2, e, I2, T, st2, f2, q⟩ := h2
  subst e
  refine PpSet.newSet_ok (newEnv_comp ?_)
  generalize hD : s2.heap.objs.size = D
  have new2 : s2.heap.objs.size ≤ D := Nat.le_of_eq hD
  obtain ⟨W, ⟨m0, w0⟩, turn⟩ := q D (I2.hok.fresh new2)
  have at3 : (s2.heap.push (bareSet X.w)).get? D = some (bareSet X.w) := by rw [← hD]; exact Heap.get?_push_size _ rfl
  generalize hs3 : ({ s2 with heap := s2.heap.push (bareSet X.w) } : Shared) = s3
  have e3 : s3.heap = s2.heap.push (bareSet X.w) := by rw [← hs3]
  generalize hH3 : upd H2 D (O0 D) = H3 at w0
  have I3 : Inv X pins σ H3 s3 := by
    rw [← hs3, ← hH3]
    exact I2.laid (t' := s2.toks) (fun b o e => Heap.get?_push_of_some _ e) new2 (ad.new _ _ D at3)
  have below : ∀ b ∈ fp, b < s2.heap.objs.size := fun b hb => let ⟨_, e, _⟩ := T.obj _ _ st2 b hb; Heap.lt_size e
  have none3 : ∀ b ∈ fp, H3 b = none := fun b hb => by
    have ne : b ≠ D := Nat.ne_of_lt (Nat.lt_of_lt_of_le (below b hb) new2)
    rw [← hH3, upd_ne ne]
    exact (f2 b hb).1
  have f3 : ∀ b ∈ fp, FpOk X pins H3 b ∧ b < s3.heap.objs.size := fun b hb => ⟨⟨none3 b hb, (f2 b hb).2⟩, by
    rw [e3, Heap.size_push]
    exact Nat.lt_succ_of_lt (below b hb)⟩
  have st3 : tn 0 s3.heap := T.keep _ _ _ st2 fun b _ o e => by rw [e3]; exact Heap.get?_push_of_some _ e
  have I4 := block_start I3 ok ndp f3
  have pg := tgt s3 H3 s3.heap.objs.size (cellsFrom (s3.heap.objs.size + 1) scope.names (cloFrom X.env.cells scope.names [])) fp
  have pt := tst s3 H3 s3.heap.objs.size (cellsFrom (s3.heap.objs.size + 1) scope.names (cloFrom X.env.cells scope.names [])) fp
  have pe := elm s3 H3 s3.heap.objs.size (cellsFrom (s3.heap.objs.size + 1) scope.names (cloFrom X.env.cells scope.names [])) fp
  show codeAny _ _ (.compStart _ 0 (.ref it) (.ref D) (compEnvC scope (cellsFrom (s3.heap.objs.size + 1) scope.names (cloFrom X.env.cells scope.names [])) s3.heap.objs.size X.env)) (compPost (model X.prog X.w) X.A X.xe none Qf (.ref D) s3.heap.objs.size) { s3 with heap := pushCells (s3.heap.push { cls := .type "dict", data := .dict #[] }) scope.names }
  have loc : (compEnvC scope (cellsFrom (s3.heap.objs.size + 1) scope.names (cloFrom X.env.cells scope.names [])) s3.heap.objs.size X.env).locals = s3.heap.objs.size := rfl
  generalize compEnvC scope (cellsFrom (s3.heap.objs.size + 1) scope.names (cloFrom X.env.cells scope.names [])) s3.heap.objs.size X.env = ce at I4 pg pt pe loc ⊢
  generalize hs4 : ({ s3 with heap := pushCells (s3.heap.push { cls := .type "dict", data := .dict #[] }) scope.names } : Shared) = s4 at I4 ⊢
  have st4 : tn 0 s4.heap := T.keep _ _ _ st3 fun b _ o e => by rw [← hs4]; exact pushCells_keeps _ _ _ _ (Heap.get?_push_of_some _ e)
  have feet : ∀ {σ' : L2.St} {H' : Hp} {s' : Shared}, Inv (X.blk s3 H3 scope ce fp) [] σ' H' s' → (∀ b ∈ fp, H' b = none) → ∀ b ∈ fp, FpOk (X.blk s3 H3 scope ce fp) [] H' b := fun {σ' H' s'} J' hn b hb =>
    ⟨hn b hb, (J'.ok.exf b hb).1, J'.ok.exfs b hb, .inl hb, fun x c e => (J'.ok.exf b hb).2 x c e, fun p hp => by cases hp⟩
  have loop : codeAny (model X.prog X.w) X.A (.compLoop (.SetComp elt [⟨tg, iter, ifs, 0⟩] scope pos) 0 (.ref it) (.ref D) ce) (compPost (model X.prog X.w) X.A X.xe none Qf (.ref D) s3.heap.objs.size) s4 := by
    refine PpSet.compLoopS_any (fun n s' => ∃ i H', Inv (X.blk s3 H3 scope ce fp) [] (wipe σ (own.map (·.2))) H' s' ∧ tn i s'.heap ∧ (∀ b ∈ fp, H' b = none) ∧ W i n H') ?_ m0 ⟨0, H3, I4, st4, none3, w0⟩
    rintro n s5 ⟨i, H5, I5, st5, n5, w5⟩
    rcases turn i n H5 w5 with ⟨stop, qq⟩ | ⟨go, Nx, next, step⟩
    · refine thnF (T.done (X.blk s3 H3 scope ce fp) rfl rfl rfl calm i [] s5 _ H5 (fun _ _ => False) I5 (feet I5 n5) st5 stop) fun r s6 ⟨hr, I6⟩ => ?_
      subst hr
      have back : Inv X pins σ H5 s6 := I3.call' (ch := fp) I6.os I6.base I6.hok I6.bare fun b hb => ⟨(f3 b hb).1.2.2.2.1, (f3 b hb).1.2.1, (f3 b hb).1.2.2.2.2.1, (f3 b hb).1.2.2.2.2.2⟩
      have gone : H5 s3.heap.objs.size = none := by rw [← loc]; exact I6.free
      obtain ⟨m, ns, _⟩ := I6.loc
      have ns' : s6.heap.Ns ce.locals m := ns
      exact fin D s3.heap.objs.size s6 m H5 back qq (loc ▸ ns') (I3.fpOk (Nat.le_refl _) gone)
    · refine thnF (T.item (X.blk s3 H3 scope ce fp) rfl rfl rfl calm i [] s5 _ H5 (fun _ _ => False) I5 (feet I5 n5) st5 go) fun r s6 ⟨u, hr, h6⟩ => ?_
      subst hr
      refine thnF h6 fun _ s7 ⟨x, H7, I7, r7, y7, st7, n7⟩ => ?_
      refine thnF (pg.run _ s7 _ H7 x u _ (I7.pinned (feet I7 n7) (T.obj _ _ st7)) r7 (step x H7 y7)) fun _ s8 ⟨σ8, H8, I8, same, q8⟩ => ?_
      refine thnF (pt.run _ s8 σ8 H8 _ I8 q8) fun b s9 ⟨H9, I9, q9⟩ => ?_
      have round : ∀ {s' : Shared} {H' : Hp}, Inv (X.blk s3 H3 scope ce fp) ([] ++ pinsAt fp s7.heap) σ8 H' s' → Nx H' → ∃ m, m < n ∧ ∃ i H', Inv (X.blk s3 H3 scope ce fp) [] (wipe σ (own.map (·.2))) H' s' ∧ tn i s'.heap ∧ (∀ b ∈ fp, H' b = none) ∧ W i m H' := fun {s' H'} J' nx => by
        obtain ⟨m', lt, w'⟩ := next H' nx
        have pinned : ∀ b ∈ fp, ∀ o, s7.heap.get? b = some o → s'.heap.get? b = some o ∧ H' b = none := fun b hb o e =>
          have z := J'.pin (b, o) (List.mem_append_right _ (List.mem_append_right _ (mem_pinsAt hb e)))
          ⟨z.1, z.2.1⟩
        refine ⟨m', lt, i + 1, H', (J'.unpinned (pins := [])).weak (by rw [← same, wipe_length]) (fun j v e => ?_), T.keep _ _ _ st7 fun b hb o e => (pinned b hb o e).1, fun b hb => ?_, w'⟩
        · rw [← same] at e
          exact (wipe_some e).1
        · obtain ⟨o, e, _⟩ := T.obj _ _ st7 b hb
          exact (pinned b hb o e).2
      cases b with
      | false => exact round I9 (by simpa using q9)
      | true =>
        simp only [if_true] at q9 ⊢
        exact thnF (pe.run _ s9 σ8 H9 _ I9 q9) fun z s10 ⟨yv, H10, I10, r10, q10⟩ => ad.add _ _ _ _ _ _ _ _ _ _ _ _ _ _ _ I10 r10 q10 fun s11 H11 I11 nx => round I11 nx
  exact PpSet.codeAny_compStart_set loop (T.self X.A 0 _ _ _ st4 loop)
theorem pe_sa {elt tg iter : Expr} {ifs : List Expr} {scope : Scope} {own : List (PySem.Str × Nat)} {pos : Pos} {wi : TI} {g : TG} {tt : TT} {te : TE}
    (ad : Adds X O0 Ad) (calm : X.calm = true) (ndp : X.N.Nodup) (walk : PI X tg iter wi) (ok : BlkOk X.N X.env.scope scope own)
    (tgt : ∀ (s : Shared) (H : Hp) (C : Addr) (cl : List (PySem.Str × Addr)) (fp : List Addr), PG (X.blk s H scope (compEnvC scope cl C X.env) fp) tg g) (tst : ∀ (s : Shared) (H : Hp) (C : Addr) (cl : List (PySem.Str × Addr)) (fp : List Addr), PTs (X.blk s H scope (compEnvC scope cl C X.env) fp) ifs tt)
    (elm : ∀ (s : Shared) (H : Hp) (C : Addr) (cl : List (PySem.Str × Addr)) (fp : List Addr), PE (X.blk s H scope (compEnvC scope cl C X.env) fp) elt te) (plain : ∀ x, foldedSetIterable iter X.env x = pure x := by intro _; rfl) :
    PE X (.SetComp elt [⟨tg, iter, ifs, 0⟩] scope pos) (tSa O0 Ad wi g tt te (own.map (·.2))) := ⟨fun pins s σ H Q I h => by
  rw [PpSet.eval_SetComp]
  refine sa_run ad calm ndp I walk ok tgt tst elm plain h fun D C s' m H' J q ns f => ⟨m, ns, fun h'' sb => ?_⟩
  obtain ⟨f0, f1, f2, f3, f4, f5⟩ := f
  exact ⟨.ref D, H', J.turned (t' := s'.toks) (fun b o hb e => (sb.2 b hb).trans e) f0 f1 f3 f4 f5, rfl, q⟩⟩
end
end Ns
/-! sorted of anything that can be gathered, its items alike data -/
namespace Ns
open PySem PySem.Spec PyProof.Rows L2
/-- a rearrangement of an image is the image of a rearrangement -/
theorem perm_lift {α β : Type} (f : α → β) {l : List β} : ∀ {M : List α}, l.Perm (M.map f) → ∃ M' : List α, M'.Perm M ∧ l = M'.map f := by
  intro M h
  generalize hm : M.map f = r at h
  induction h generalizing M with
  | nil =>
    cases M with
    | nil => exact ⟨[], .nil, rfl⟩
    | cons x M => cases hm
  | @cons x l r h ih =>
    cases M with
    | nil => cases hm
    | cons y M =>
      obtain ⟨rfl, rfl⟩ := List.cons.inj hm
      obtain ⟨M', p, rfl⟩ := ih rfl
      exact ⟨y :: M', p.cons y, rfl⟩
  | swap x y l =>
    match M, hm with
    | a :: b :: M, hm =>
      obtain ⟨rfl, h2⟩ := List.cons.inj hm
      obtain ⟨rfl, rfl⟩ := List.cons.inj h2
      exact ⟨b :: a :: M, .swap a b M, rfl⟩
  | trans _ _ ih1 ih2 =>
    obtain ⟨M2, p2, rfl⟩ := ih2 hm
    obtain ⟨M1, p1, rfl⟩ := ih1 rfl
    exact ⟨M1, p1.trans p2, rfl⟩
abbrev toks (x : PyData) : List (Int ⊕ List Nat) := PySem.W.keyToks x
theorem dlt_swo {α : Type} (f : α → PyData) : SrtO.Swo fun x y => PySem.W.dataLt (f x) (f y) where
  asym x y h := by
    rcases SrtO.bcase (PySem.W.dataLt (f y) (f x)) with e | e
    · have := PyProof.Rows.lex_trans (O := PyProof.Rows.itemOrd) _ _ _ h e
      rw [PyProof.Rows.lex_irrefl] at this
      cases this
    · exact e
  tr x y z h1 h2 := by
    rcases SrtO.bcase (PySem.W.dataLt (f z) (f x)) with e | e
    · rcases PyProof.Rows.lex_negTrans (O := PyProof.Rows.itemOrd) _ (toks (f y)) _ e with q | q
      · exact absurd q (by rw [show PyProof.Rows.lexLt PyProof.Rows.itemOrd (PySem.W.keyToks (f z)) (toks (f y)) = PySem.W.dataLt (f z) (f y) from rfl, h2]; decide)
      · exact absurd q (by rw [show PyProof.Rows.lexLt PyProof.Rows.itemOrd (toks (f y)) (PySem.W.keyToks (f x)) = PySem.W.dataLt (f y) (f x) from rfl, h1]; decide)
    · exact e
/-- what a gathering of us leaves -/
structure Gath (s : Shared) (us vs : List Value) (s1 : Shared) : Prop where
  perm : vs.Perm us
  keep : ∀ b o, s.heap.get? b = some o → s1.heap.get? b = some o
  gens : s1.gens = s.gens
  os : s1.os = s.os
open Classical in
/-- the datum of a value -/
noncomputable def datumOf (h : Heap) (ds : List PyData) (v : Value) : PyData := if q : ∃ d, d ∈ ds ∧ ∃ as, Reads h v d as then q.choose else .none
theorem datumOf_eq {h : Heap} {ds : List PyData} (al : PySem.W.AllAlike ds) {v : Value} {d : PyData} {as : List Addr} (hd : d ∈ ds) (r : Reads h v d as) : datumOf h ds v = d := by
  have q : ∃ d, d ∈ ds ∧ ∃ as, Reads h v d as := ⟨d, hd, as, r⟩
  unfold datumOf
  rw [dif_pos q]
  obtain ⟨h1, as', h2⟩ := q.choose_spec
  exact PySem.W.alike_unique _ _ _ _ _ (al _ h1 _ hd) h2 r
theorem each_of {R : Value → PyData → Prop} : ∀ {M : List (Value × PyData)}, (∀ m ∈ M, R m.1 m.2) → PySem.W.EachIs R (M.map (·.1)) (M.map (·.2))
  | [], _ => .nil
  | m :: M, h => .cons (h m List.mem_cons_self) (each_of fun x hx => h x (List.mem_cons_of_mem _ hx))
section
variable {P : Program} {w : World} {A : Around} {E : Value → Shared → Prop} {s : Shared}
theorem able_data {h : Heap} {M : List (Value × PyData)} (rd : ∀ m ∈ M, ∃ as, Reads h m.1 m.2 as) (al : PySem.W.AllAlike (M.map (·.2))) (so : PySem.W.Sortable (M.map (·.2))) (room : ∀ m ∈ M, A.units + m.2.depth < cLine) {a : Addr} {vs : List Value} (pv : vs.Perm (M.map (·.1))) (h2 : 2 ≤ vs.length)
    (old : ∀ b o, h.get? b = some o → b ≠ a ∧ s.heap.get? b = some o) : SrtO.SortableO P w A s a vs fun v u => PySem.W.dataLt (datumOf h (M.map (·.2)) v) (datumOf h (M.map (·.2)) u) := by
  obtain ⟨M1, pm, rfl⟩ := perm_lift (fun m : Value × PyData => m.1) pv
  have md : ∀ m ∈ M1, m.2 ∈ M.map (·.2) := fun m hm => List.mem_map_of_mem (pm.mem_iff.mp hm)
  have back : ∀ d ∈ M1.map (·.2), d ∈ M.map (·.2) := fun d hd => by
    obtain ⟨m, hm, rfl⟩ := List.mem_map.mp hd
    exact md m hm
  intro h' keep
  have rd' : ∀ m ∈ M1, ∃ as, Reads h' m.1 m.2 as := fun m hm => by
    obtain ⟨as, r⟩ := rd m (pm.mem_iff.mp hm)
    exact ⟨as, PyProof.Rows.Reads.keeps (hk := fun b o e => keep b o (old b o e).1 (old b o e).2) r⟩
  have S := PySem.W.SortsAt.data (prog := P) (w := w) (A := A) (s := { s with heap := h' }) (each_of rd') (fun d hd d' hd' => al d (back d hd) d' (back d' hd')) (so.imp (fun f d hd => f d (back d hd)) (fun f d hd => f d (back d hd))) fun d hd => by
    obtain ⟨m, hm, rfl⟩ := List.mem_map.mp hd
    exact room m (pm.mem_iff.mp hm)
  obtain ⟨kd, lt, kind⟩ := S.kind
  refine ⟨kd, fun Q E q => kind h2 E q, fun p q hp hq => ?_⟩
  obtain ⟨m, hm, e1⟩ := List.mem_map.mp hp
  obtain ⟨n, hn, e2⟩ := List.mem_map.mp hq
  obtain ⟨as, r1⟩ := rd' m hm
  obtain ⟨bs, r2⟩ := rd' n hn
  have al1 : PySem.W.AllAlike (M1.map (·.2)) := fun d hd d' hd' => al d (back d hd) d' (back d' hd')
  have k1 := PySem.W.dataKind_some al1 (List.mem_map_of_mem hm) r1
  have k2 := PySem.W.dataKind_some al1 (List.mem_map_of_mem hn) r2
  rw [← e1, ← e2]
  refine lt _ _ _ _ _ k1 k2 ⟨rfl, ?_⟩
  obtain ⟨as0, r10⟩ := rd m (pm.mem_iff.mp hm)
  obtain ⟨bs0, r20⟩ := rd n (pm.mem_iff.mp hn)
  show _ = PySem.W.dataLt (datumOf h (M.map (·.2)) p.1) (datumOf h (M.map (·.2)) q.1)
  rw [← e1, ← e2, datumOf_eq al (md m hm) r10, datumOf_eq al (md n hn) r20]
  rfl
theorem sorted_data {v : Value} {M : List (Value × PyData)} {Q : Value → Shared → Prop} (gather : ∀ (E' : Value → Shared → Prop) (R : List Value → Shared → Prop), (∀ vs s1, Gath s (M.map (·.1)) vs s1 → R vs s1) → wpAny (model P w) A.in1 (collect v) R E' s)
    (rd : ∀ m ∈ M, ∃ as, Reads s.heap m.1 m.2 as) (al : PySem.W.AllAlike (M.map (·.2))) (so : PySem.W.Sortable (M.map (·.2))) (room : ∀ m ∈ M, A.in1.in1.units + m.2.depth < cLine) (few : M.length ≤ sizeLine)
    (fin : ∀ (M' : List (Value × PyData)) (p : Addr) (s2 : Shared) (c : Nat), M'.Perm M → M'.Pairwise (fun x y => PySem.W.dataLt y.2 x.2 = false) → (∀ b o, s.heap.get? b = some o → s2.heap.get? b = some o) → s2.gens = s.gens → s2.os = s.os → s.heap.get? p = none → s2.heap.get? p = some (seqObj "list" (M'.map (·.1)).toArray c) → Q (.ref p) s2) :
    wpAny (model P w) A (call (.builtin "sorted") [v]) Q E s := by
  refine SrtT.sorted_any (dlt_swo (datumOf s.heap (M.map (·.2)))) (Gath s (M.map (·.1))) gather (fun vs s1 g => ?_) (fun vs s1 g h2 h3 a old => ?_) fun vs s1 g out s2 sd st af => ?_
  · rw [g.perm.length_eq, List.length_map]; exact few
  · exact able_data rd al so room g.perm h2 fun b o e => old b o (g.keep b o e)
  · obtain ⟨M', pm, rfl⟩ := perm_lift (fun m : Value × PyData => m.1) (st.perm.trans g.perm)
    obtain ⟨h4, rfl, keep4, c, hc⟩ := af
    have md : ∀ m ∈ M', m.2 ∈ M.map (·.2) := fun m hm => List.mem_map_of_mem (pm.mem_iff.mp hm)
    refine fin M' _ _ c pm ?_ (fun b o e => keep4 b o (g.keep b o e)) g.gens g.os ?_ hc
    · refine (List.pairwise_map.mp sd).imp_of_mem fun {m n} hm hn hlt => ?_
      obtain ⟨as, r1⟩ := rd m (pm.mem_iff.mp hm)
      obtain ⟨bs, r2⟩ := rd n (pm.mem_iff.mp hn)
      dsimp only at hlt
      rw [datumOf_eq al (md m hm) r1, datumOf_eq al (md n hn) r2] at hlt
      exact hlt
    · cases z : s.heap.get? s1.heap.objs.size with
      | none => rfl
      | some o => exact absurd (Heap.lt_size (g.keep _ o z)) (Nat.lt_irrefl _)
end
end Ns
/-! sets of tuples, by plain data -/
namespace Ns
open PySem PySem.Spec PyProof.Rows L2 Dl
mutual
def keyD : D → Key
  | .int i => .num i
  | .tup xs => .tup (keysD xs)
  | .non => .none | .bl _ => .none | .str _ => .none | .lst _ => .none | .ref _ => .none | .ty _ => .none | .obj _ _ _ => .none
def keysD : List D → List Key
  | [] => []
  | x :: xs => keyD x :: keysD xs
end
mutual
/-- None, a whole number, a tuple of such -/
def kok : D → Bool
  | .non => true | .int _ => true | .tup xs => kokA xs
  | .bl _ => false | .str _ => false | .lst _ => false | .ref _ => false | .ty _ => false | .obj _ _ _ => false
def kokA : List D → Bool
  | [] => true
  | x :: xs => kok x && kokA xs
end
mutual
theorem keyD_inj : ∀ x y : D, kok x = true → kok y = true → keyD x = keyD y → x = y
  | .non, y, _, k, e => by cases y <;> first | rfl | (simp [keyD] at e; done) | (simp [kok] at k; done)
  | .int i, y, _, k, e => by cases y <;> first | (simp only [keyD, NestedKey.num.injEq] at e; rw [e]; done) | (simp [keyD] at e; done) | (simp [kok] at k; done)
  | .tup xs, y, h, k, e => by
    cases y with
    | tup ys =>
      simp only [keyD, NestedKey.tup.injEq] at e
      rw [keysD_inj xs ys (by simpa only [kok] using h) (by simpa only [kok] using k) e]
    | _ => first | (simp [keyD] at e; done) | (simp [kok] at k; done)
  | .bl _, _, h, _, _ => by simp [kok] at h
  | .str _, _, h, _, _ => by simp [kok] at h
  | .lst _, _, h, _, _ => by simp [kok] at h
  | .ref _, _, h, _, _ => by simp [kok] at h
  | .ty _, _, h, _, _ => by simp [kok] at h
  | .obj _ _ _, _, h, _, _ => by simp [kok] at h
theorem keysD_inj : ∀ xs ys : List D, kokA xs = true → kokA ys = true → keysD xs = keysD ys → xs = ys
  | [], [], _, _, _ => rfl
  | [], y :: ys, _, _, e => by simp [keysD] at e
  | x :: xs, [], _, _, e => by simp [keysD] at e
  | x :: xs, y :: ys, h, k, e => by
    simp only [kokA, Bool.and_eq_true] at h k
    simp only [keysD, List.cons.injEq] at e
    rw [keyD_inj x y h.1 k.1 e.1, keysD_inj xs ys h.2 k.2 e.2]
end
mutual
theorem keyD_dry : ∀ x : D, kok x = true → dry (keyD x) = true ∧ (keyD x).depth = x.dep
  | .non, _ => ⟨rfl, rfl⟩
  | .int i, _ => ⟨rfl, rfl⟩
  | .tup xs, h => by
    obtain ⟨a, b⟩ := keysD_dry xs (by simpa only [kok] using h)
    exact ⟨by simpa only [keyD, dry] using a, by simp only [keyD, NestedKey.depth, D.dep, b]⟩
  | .bl _, h => by simp [kok] at h
  | .str _, h => by simp [kok] at h
  | .lst _, h => by simp [kok] at h
  | .ref _, h => by simp [kok] at h
  | .ty _, h => by simp [kok] at h
  | .obj _ _ _, h => by simp [kok] at h
theorem keysD_dry : ∀ xs : List D, kokA xs = true → dryA (keysD xs) = true ∧ NestedKey.depthAll (keysD xs) = depA xs
  | [], _ => ⟨rfl, rfl⟩
  | x :: xs, h => by
    simp only [kokA, Bool.and_eq_true] at h
    obtain ⟨a, b⟩ := keyD_dry x h.1
    obtain ⟨c, d⟩ := keysD_dry xs h.2
    exact ⟨by simp only [keysD, dryA, a, c, Bool.and_self], by simp only [keysD, NestedKey.depthAll, depA, b, d]⟩
end
mutual
theorem kok_good : ∀ x : D, kok x = true → x.good = true ∧ x.noLst = true
  | .non, _ => ⟨rfl, rfl⟩
  | .int i, _ => ⟨rfl, rfl⟩
  | .tup xs, h => by
    obtain ⟨a, b⟩ := kokA_good xs (by simpa only [kok] using h)
    exact ⟨by simpa only [D.good] using a, by simpa only [D.noLst] using b⟩
  | .bl _, h => by simp [kok] at h
  | .str _, h => by simp [kok] at h
  | .lst _, h => by simp [kok] at h
  | .ref _, h => by simp [kok] at h
  | .ty _, h => by simp [kok] at h
  | .obj _ _ _, h => by simp [kok] at h
theorem kokA_good : ∀ xs : List D, kokA xs = true → goodA xs = true ∧ noLstA xs = true
  | [], _ => ⟨rfl, rfl⟩
  | x :: xs, h => by
    simp only [kokA, Bool.and_eq_true] at h
    obtain ⟨a, b⟩ := kok_good x h.1
    obtain ⟨c, d⟩ := kokA_good xs h.2
    exact ⟨by simp only [goodA, a, c, Bool.and_self], by simp only [noLstA, b, d, Bool.and_self]⟩
end
section
variable {X : Cx} {pins : List (Addr × Obj)} {σ : L2.St} {H : Hp} {s : Shared} {Av : Addr → Prop}
mutual
theorem den_key (I : Inv X pins σ H s) : ∀ (d : D) (v : V) (u : Value), kok d = true → Den X.K Av H v d → RelV v u → NestedIs s.heap (keyD d) u
  | .non, v, u, _, h, r => by
    simp only [Den] at h
    subst h
    cases r
    exact .none
  | .int i, v, u, _, h, r => by
    simp only [Den] at h
    subst h
    obtain ⟨t, rfl⟩ := r
    exact .int i t
  | .tup xs, v, u, k, h, r => by
    simp only [Den] at h
    obtain ⟨a, vs, rfl, sq, _, dn⟩ := h
    cases r
    obtain ⟨its, rv, ⟨o, ho, hc, n, hd⟩, _⟩ := I.tuple sq
    exact .tup ho hc hd (by simpa using denA_key I xs vs its (by simpa only [kok] using k) dn rv)
  | .bl _, _, _, h, _, _ => by simp [kok] at h
  | .str _, _, _, h, _, _ => by simp [kok] at h
  | .lst _, _, _, h, _, _ => by simp [kok] at h
  | .ref _, _, _, h, _, _ => by simp [kok] at h
  | .ty _, _, _, h, _, _ => by simp [kok] at h
  | .obj _ _ _, _, _, h, _, _ => by simp [kok] at h
theorem denA_key (I : Inv X pins σ H s) : ∀ (ds : List D) (vs : List V) (us : List Value), kokA ds = true → DenA X.K Av H vs ds → Vals vs us → NestedAll s.heap (keysD ds) us
  | [], vs, us, _, h, r => by
    simp only [DenA] at h
    subst h
    cases r
    exact .nil
  | d :: ds, vs, us, k, h, r => by
    simp only [kokA, Bool.and_eq_true] at k
    simp only [DenA] at h
    obtain ⟨v, w, rfl, h1, h2⟩ := h
    cases r with
    | cons r1 r2 => exact .cons (den_key I d v _ k.1 h1 r1) (denA_key I ds w _ k.2 h2 r2)
end
end
/-- a member: where it stands, what it is -/
structure Mem (K : PySem.W.Frag) (Av : Addr → Prop) (H : Hp) (m : Addr × D) : Prop where
  den : Den K Av H (.ref m.1) m.2
  ok : kok m.2 = true
  low : m.2.dep ≤ 8
theorem Mem.weak {K : PySem.W.Frag} {Av Bv : Addr → Prop} {H : Hp} {m : Addr × D} (x : Mem K Av H m) (s : ∀ a, Bv a → Av a) : Mem K Bv H m := ⟨Den.weak s _ _ x.den, x.ok, x.low⟩
theorem Mem.keep {K : PySem.W.Frag} {Av : Addr → Prop} {H H' : Hp} {m : Addr × D} (x : Mem K Av H m) (k : Kp Av H H') : Mem K Av H' m := ⟨Den.keep k _ _ x.den, x.ok, x.low⟩
theorem Mem.at {X : Cx} {pins : List (Addr × Obj)} {σ : L2.St} {H : Hp} {s : Shared} {Av : Addr → Prop} {m : Addr × D} (x : Mem X.K Av H m) (I : Inv X pins σ H s) : At s.heap (keyD m.2) m.1 :=
  ⟨den_key I _ _ _ x.ok x.den rfl, by rw [(keyD_dry _ x.ok).2]; exact x.low, (keyD_dry _ x.ok).1⟩
abbrev kp (m : Addr × D) : Addr × Key := (m.1, keyD m.2)
/-- the set at a, its members aside -/
structure NS0 (P : Program) (w : World) (h : Heap) (a : Addr) (L : List (Addr × Key)) : Prop where
  ex : ∃ (es : Array (Int × Value)) (ep : Nat) (t : SetTable), (∃ o, h.get? a = some o ∧ o.ExactSet ∧ o.data = .set es ep t) ∧ es.toList = L.map (rowOf w) ∧ TabOk t (L.map fun p => p.2.hash w) ∧ (L.map (·.2)).Nodup ∧ t.plain = true ∧
    (w.params.followText "set-order" = true ∨ t.led = true) ∧ L.length * 5 < t.mask * 3 ∧ L.length < 64
def SetNO (P : Program) (w : World) (a : Addr) (L : List (Addr × Key)) : HO := .ext fun h => NS0 P w h a L
theorem NSet.bare {P : Program} {w : World} {h : Heap} {a : Addr} {L : List (Addr × Key)} {es : Array (Int × Value)} {ep : Nat} {t : SetTable} (R : NSet P w h a L es ep t) : NS0 P w h a L := ⟨es, ep, t, R.obj, R.lay, R.tab, R.uni, R.hbv, R.led, R.gap, R.few⟩
theorem NS0.full {P : Program} {w : World} {h : Heap} {a : Addr} {L : List (Addr × Key)} (R : NS0 P w h a L) (m : ∀ p ∈ L, At h p.2 p.1) : ∃ es ep t, NSet P w h a L es ep t := by
  obtain ⟨es, ep, t, h1, h2, h3, h4, h5, h6, h7, h8⟩ := R.ex
  exact ⟨es, ep, t, h1, h2, h3, h4, m, h5, h6, h7, h8⟩
theorem setNO_ok {P : Program} {w : World} {H : Hp} {h : Heap} {a : Addr} {L : List (Addr × Key)} (R : NS0 P w h a L) : ObjOk P w H h a (SetNO P w a L) := by
  obtain ⟨es, ep, t, ⟨o, ho, _⟩, _⟩ := id R.ex
  refine ⟨R, ⟨o, ho⟩, fun h1 h2 p k => ?_⟩
  have p : NS0 P w h1 a L := p
  obtain ⟨es', ep', t', ⟨o', ho', r⟩, q⟩ := p.ex
  exact ⟨es', ep', t', ⟨o', k o' ho', r⟩, q⟩
section
variable {X : Cx}
/-- adding a tuple -/
def AdN (X : Cx) (S : Addr) (y : V) (H : Hp) (Nx : Hp → Prop) : Prop := ∃ (m : Addr × D) (M : List (Addr × D)), y = .ref m.1 ∧ H S = some (SetNO X.prog X.w S (M.map kp)) ∧ Mem X.K (fun _ => False) H m ∧ (∀ x ∈ M, Mem X.K (fun _ => False) H x) ∧ M.length + 1 < 64 ∧
  (m.2 ∈ M.map (·.2) → Nx H) ∧ (m.2 ∉ M.map (·.2) → ∀ M' : List (Addr × D), M'.Perm (m :: M) → Nx (upd H S (SetNO X.prog X.w S (M'.map kp))))
theorem key_mem {K : PySem.W.Frag} {Av : Addr → Prop} {H : Hp} {m : Addr × D} {M : List (Addr × D)} (hm : Mem K Av H m) (hM : ∀ x ∈ M, Mem K Av H x) : keyD m.2 ∈ (M.map kp).map (·.2) ↔ m.2 ∈ M.map (·.2) := by
  rw [List.map_map, List.mem_map, List.mem_map]
  constructor
  · rintro ⟨x, hx, e⟩
    exact ⟨x, hx, keyD_inj _ _ (hM x hx).ok hm.ok e⟩
  · rintro ⟨x, hx, e⟩
    exact ⟨x, hx, congrArg keyD e⟩
theorem upd_self {H : Hp} {D : Addr} {o : HO} (h : H D = some o) : upd H D o = H := by
  funext a
  by_cases e : a = D
  · rw [e, upd_same, h]
  · rw [upd_ne e]
theorem adds_N (hu : X.A.units + 12 < cLine) : Adds X (fun D => SetNO X.prog X.w D []) (AdN X) where
  new H h D e := setNO_ok ⟨#[], 0, _, ⟨_, e, ⟨rfl, rfl, rfl⟩, rfl⟩, rfl, (setTR_fresh (P := X.prog) e).tab, List.nodup_nil, rfl, (setTR_fresh (P := X.prog) e).led, (setTR_fresh (P := X.prog) e).room, by decide⟩
  add s0 H0 sc ce fp pins σ H s D y u Nx E Q I r hh k := by
    obtain ⟨m, M, rfl, hD, hm, hM, few, n1, n2⟩ := hh
    cases r
    have R0 : NS0 X.prog X.w s.heap D (M.map kp) := (I.hok D _ hD).1
    obtain ⟨es, ep, t, R⟩ := R0.full fun p hp => by
      obtain ⟨x, hx, rfl⟩ := List.mem_map.mp hp
      exact Mem.at (X := X.blk s0 H0 sc ce fp) (hM x hx) I
    refine call_add R (Mem.at (X := X.blk s0 H0 sc ce fp) hm I) hu (by rw [List.length_map]; exact few) fun h' tk L' es' ep' t' sb R' w' => ?_
    have he : ∃ u, h'.get? D = some u := let ⟨o, ho, _⟩ := R'.obj; ⟨o, ho⟩
    have J := I.write (e := D) (t' := tk) (by rw [hD]; trivial) (.inl rfl) (fun b u hb hu => (sb.2 b hb).trans hu) he (setNO_ok R'.bare)
    rw [key_mem hm hM] at w'
    rcases w' with ⟨w1, rfl⟩ | ⟨w1, w2⟩
    · rw [upd_self hD] at J
      exact k _ _ J (n1 w1)
    · obtain ⟨M', pm, rfl⟩ := perm_lift kp (M := m :: M) w2
      exact k _ _ J (n2 w1 M' pm)
end
end Ns
namespace Ns
open PySem PySem.Spec PyProof.Rows L2 Dl
/-- a set that can be gathered, its members' places in the order of its rows -/
def SetV (w : World) (h : Heap) (a : Addr) (bs : List Addr) : Prop := ∃ (es : Array (Int × Value)) (ep : Nat) (t : SetTable), SetAt h a es ep t ∧ es.toList.map (·.2) = bs.map Value.ref ∧ t.fits es.size = true ∧ es.size < scanBound ∧ Ris t.place.toList ∧ (w.params.followText "set-order" = true ∨ t.led = true)
/-- at a stands a set whose members are the data ds -/
structure SetA (X : Cx) (I : HI) (H : Hp) (a : Addr) (ds : List D) : Prop where
  ex : ∃ (ho : HO) (M : List (Addr × D)), H a = some ho ∧ (∀ h H', ObjOk X.prog X.w H' h a ho → SetV X.w h a (M.map (·.1)) ∧ (M.map (·.2)).Nodup ∧ M.length < 64) ∧ M.map (·.2) = ds ∧ ∀ m ∈ M, Mem X.K I.own H m
abbrev TZD := DEnv → (List D → Prop) → Prop
def SZ (X : Cx) (g : Gx) (te : TE) (tz : TZD) : Prop :=
  ∀ (b : B0) (σ : L2.St) (H : Hp) (env : DEnv) (Qd : List D → Prop) (Q : VK), DenE X.K g.I b σ H env → XL X.K g b → tz env Qd → (∀ a ds H', Ext g.I H H' → SetA X g.I H' a ds → Qd ds → Q (.ref a) H') → te σ H Q
def PZD (X : Cx) (g : Gx) (e : Expr) (tz : TZD) : Prop := SZ X g (wE X e) tz
theorem pzd_of {X : Cx} {g : Gx} {e : Expr} {te : TE} {tz : TZD} (p : PE X e te) (h : SZ X g te tz) : PZD X g e tz := fun b σ H env Qd Q hd xl ht k pins s J => p.run pins s σ H Q J (h b σ H env Qd Q hd xl ht k)
theorem lay_vals {w : World} {es : Array (Int × Value)} {M : List (Addr × D)} (h : es.toList = (M.map kp).map (rowOf w)) : es.toList.map (·.2) = (M.map (·.1)).map Value.ref := by
  rw [h, List.map_map, List.map_map, List.map_map]
  rfl
theorem setNO_V {P : Program} {w : World} {h : Heap} {a : Addr} {M : List (Addr × D)} (R : NS0 P w h a (M.map kp)) : SetV w h a (M.map (·.1)) := by
  obtain ⟨es, ep, t, ⟨o, ho, hx, hd⟩, lay, tab, uni, _, led, gap, few⟩ := R.ex
  have n := lay_len lay
  have sz := tab.sz
  rw [List.length_map] at sz
  exact ⟨es, ep, t, ⟨o, ho, hx.1, hd⟩, lay_vals lay, by rw [n]; exact fits_by sz tab.dm (by omega), by rw [n]; exact Nat.lt_of_lt_of_le few (by decide), tab.ris, led⟩
mutual
/-- what holds a tuple is no set -/
theorem den_off {K : PySem.W.Frag} {Av : Addr → Prop} {H : Hp} {S : Addr} {o : HO} (hS : H S = some o) (no : ∀ xs, o ≠ .tup xs) : ∀ (d : D) (v : V), kok d = true → Den K Av H v d → Den K (fun a => Av a ∨ a = S) H v d
  | .non, v, _, h => by simpa only [Den] using h
  | .int i, v, _, h => by simpa only [Den] using h
  | .tup xs, v, k, h => by
    simp only [Den] at h ⊢
    obtain ⟨a, vs, e, sq, tp, dn⟩ := h
    refine ⟨a, vs, e, sq, tp.imp (fun x => ⟨fun z => z.elim x.1 fun e => ?_, x.2⟩) id, denA_off hS no xs vs (by simpa only [kok] using k) dn⟩
    have x2 := x.2
    rw [e, hS] at x2
    exact no vs (Option.some.inj x2)
  | .bl _, _, h, _ => by simp [kok] at h
  | .str _, _, h, _ => by simp [kok] at h
  | .lst _, _, h, _ => by simp [kok] at h
  | .ref _, _, h, _ => by simp [kok] at h
  | .ty _, _, h, _ => by simp [kok] at h
  | .obj _ _ _, _, h, _ => by simp [kok] at h
theorem denA_off {K : PySem.W.Frag} {Av : Addr → Prop} {H : Hp} {S : Addr} {o : HO} (hS : H S = some o) (no : ∀ xs, o ≠ .tup xs) : ∀ (ds : List D) (vs : List V), kokA ds = true → DenA K Av H vs ds → DenA K (fun a => Av a ∨ a = S) H vs ds
  | [], vs, _, h => by simpa only [DenA] using h
  | d :: ds, vs, k, h => by
    simp only [kokA, Bool.and_eq_true] at k
    simp only [DenA] at h ⊢
    obtain ⟨v, r, e, h1, h2⟩ := h
    exact ⟨v, r, e, den_off hS no d v k.1 h1, denA_off hS no ds r k.2 h2⟩
end
/-! ### {.. for ..} -/
def zcD (gd : TGD) (tt : TTD) (te : TED) (env : DEnv) : List D → List D → (List D → Prop) → Prop
  | [], acc, Q => ∀ out : List D, (∀ d, d ∈ out ↔ d ∈ acc) → Q out
  | x :: xs, acc, Q => gd x env fun env2 => tt env2 fun b => if b = true then te env2 fun y => (kok y = true ∧ y.dep ≤ 8 ∧ ∃ ys, y = .tup ys) ∧ zcD gd tt te env xs (acc ++ [y]) Q else zcD gd tt te env xs acc Q
def zSc (tid : TID) (gd : TGD) (tt : TTD) (te : TED) (vs : List Nat) : TZD := fun env Q => tid (frz env) fun ds => ds.length < 64 ∧ zcD gd tt te (wipeD (frz env) vs) ds [] Q
section
variable {X : Cx} {g : Gx} {wi : TI} {gt : TG} {tt : TT} {te : TE} {vs : List Nat} {tid : TID} {gd : TGD} {td : TTD} {ed : TED}
/-- how far the set has come -/
structure Sofar (X : Cx) (I : HI) (S : Addr) (n : Nat) (H1 H : Hp) (acc : List D) : Prop where
  ex : ∃ M : List (Addr × D), H S = some (SetNO X.prog X.w S (M.map kp)) ∧ M.length ≤ n ∧ (∀ m ∈ M, Mem X.K (fun a => I.own a ∨ a = S) H m) ∧ (∀ d, d ∈ M.map (·.2) ↔ d ∈ acc)
  kp : Kp I.own H1 H
  ok : I.ok H
theorem sz_sc (hi : SI X.K g wi tid) (hg : SG X.K g.nox gt gd) (hw : GW gt vs) (ht : ST X.K g.nox tt td) (he : SE X.K g.nox te ed) :
    SZ X g (tSa (fun S => SetNO X.prog X.w S []) (AdN X) wi gt tt te vs) (zSc tid gd td ed vs) := fun b σ H env Qd Q hd xl hq k => by
  refine hi b σ H (frz env) _ _ hd.frz xl hq fun J H1 hws ds hd1 e1 it0 ⟨hlen, q⟩ => ?_
  intro S hS
  have hE : DenE X.K g.I ⟨H1, hws⟩ (wipe σ vs) H1 (wipeD (frz env) vs) := (hd1.rebase (noOwn_frz env)).wiped vs
  have hno := noOwn_wipe (noOwn_frz env) vs
  have nS : ¬ g.I.own S := HI.nown e1.2 hS
  have offS : ∀ {L : List (Addr × Key)} xs, SetNO X.prog X.w S L ≠ .tup xs := fun xs z => by unfold SetNO at z; cases z
  refine ⟨fun i m H' => m = ds.length - i ∧ i ≤ ds.length ∧ ∃ acc, Sofar X g.I S i H1 H' acc ∧ zcD gd td ed (wipeD (frz env) vs) (ds.drop i) acc Qd,
    ⟨ds.length, by simp, Nat.zero_le _, [], ⟨⟨[], upd_same, Nat.le_refl _, fun m hm => (by cases hm), fun d => Iff.rfl⟩, Kp.new hS, (Ext.new e1.2 hS).2⟩, by simpa using q⟩, ?_⟩
  rintro i m H' ⟨rfl, hi', acc, ⟨⟨M, hM, hMl, hMm, hMa⟩, kp', ok⟩, q'⟩
  have eH : Ext g.I H1 H' := ⟨kp', ok⟩
  have hE' := hE.mono eH
  obtain ⟨oa, h1, h2, h3, h4⟩ := id hE'.slots
  have IT := it0 g.I.own H' (fun p hp => Den.weak (fun a z => .inl z) _ _ (h4 p hp)) (fun a z => g.I.dom H' a ok (g.I.sub a z))
  by_cases hlt : i < ds.length
  · refine .inr ⟨(IT.1 i hlt).1, fun H2 => ∃ acc, Sofar X g.I S (i + 1) H1 H2 acc ∧ zcD gd td ed (wipeD (frz env) vs) (ds.drop (i + 1)) acc Qd, fun H2 h => ⟨ds.length - (i + 1), by omega, rfl, hlt, h⟩, fun x H2 y => ?_⟩
    obtain ⟨kn, d, hd2, dn⟩ := (IT.1 i hlt).2 x H2 y
    have e2 : Ext g.I H' H2 := .ofNew ok kn
    have q2 : zcD gd td ed (wipeD (frz env) vs) (d :: ds.drop (i + 1)) acc Qd := by
      rw [List.drop_eq_getElem_cons hlt] at q'
      have : d = ds[i] := by
        rw [List.getElem?_eq_getElem hlt] at hd2
        exact (Option.some.inj hd2).symm
      rw [this]; exact q'
    have held := (hE'.mono e2).hold dn (.inl hno)
    have step := hw x (wipe σ vs) H2 _ (hg ⟨H1, hws⟩ (wipe σ vs) H2 _ x d _ (fun σ2 H3 => tt σ2 H3 fun b H4 => if b = true then te σ2 H4 fun y H5 => AdN X S y H5 fun H6 => ∃ acc, Sofar X g.I S (i + 1) H1 H6 acc ∧ zcD gd td ed (wipeD (frz env) vs) (ds.drop (i + 1)) acc Qd
        else ∃ acc, Sofar X g.I S (i + 1) H1 H4 acc ∧ zcD gd td ed (wipeD (frz env) vs) (ds.drop (i + 1)) acc Qd) held q2 fun σ3 H3 env3 hd3 e3 q3 => ?_)
    · rw [wipe_idem vs] at step
      exact step
    · refine ht ⟨H1, hws⟩ σ3 H3 env3 _ _ hd3 XL.nox q3 fun c H4 e4 q4 => ?_
      have x4 : Ext g.I H' H4 := e2.trans (e3.trans e4)
      have S4 : H4 S = some (SetNO X.prog X.w S (M.map kp)) := x4.1 S _ nS hM
      have M4 : ∀ m ∈ M, Mem X.K (fun a => g.I.own a ∨ a = S) H4 m := fun m hm => (hMm m hm).keep (x4.1.weak fun a z => .inl z)
      cases c with
      | false =>
        rw [if_neg Bool.false_ne_true] at q4 ⊢
        exact ⟨acc, ⟨⟨M, S4, by omega, M4, hMa⟩, kp'.trans x4.1, x4.2⟩, q4⟩
      | true =>
        rw [if_pos rfl] at q4 ⊢
        refine he ⟨H1, hws⟩ σ3 H4 env3 _ _ (hd3.mono e4) XL.nox q4 fun yv yd H5 e5 dn5 ⟨⟨ky, lo, ys, ey⟩, q5⟩ => ?_
        have S5 : H5 S = some (SetNO X.prog X.w S (M.map kp)) := e5.1 S _ nS S4
        have M5 : ∀ m ∈ M, Mem X.K (fun a => g.I.own a ∨ a = S) H5 m := fun m hm => (M4 m hm).keep (e5.1.weak fun a z => .inl z)
        have k5 : Kp g.I.own H1 H5 := kp'.trans (x4.1.trans e5.1)
        obtain ⟨p, rfl⟩ : ∃ p, yv = .ref p := by
          rw [ey] at dn5
          simp only [Den] at dn5
          obtain ⟨p, _, e, _⟩ := dn5
          exact ⟨p, e⟩
        have my : Mem X.K (fun a => g.I.own a ∨ a = S) H5 (p, yd) := ⟨den_off S5 offS yd _ ky dn5, ky, lo⟩
        refine ⟨(p, yd), M, rfl, S5, my.weak fun _ z => z.elim, fun x hx => (M5 x hx).weak fun _ z => z.elim, by omega, fun hin => ?_, fun hout M' pm => ?_⟩
        · exact ⟨acc ++ [yd], ⟨⟨M, S5, by omega, M5, fun d => by
            rw [List.mem_append, List.mem_singleton, ← hMa]
            exact ⟨.inl, fun z => z.elim id fun e => by rw [e]; exact hin⟩⟩, k5, e5.2⟩, q5⟩
        · have mu : Kp (fun a => g.I.own a ∨ a = S) H5 (upd H5 S (SetNO X.prog X.w S (M'.map kp))) := Kp.mut (.inr rfl)
          refine ⟨acc ++ [yd], ⟨⟨M', upd_same, by rw [pm.length_eq, List.length_cons]; omega, fun m hm => ?_, fun d => ?_⟩, fun a o n e => ?_, ?_⟩, q5⟩
          · rcases List.mem_cons.mp (pm.mem_iff.mp hm) with e | hm
            · rw [e]; exact my.keep mu
            · exact (M5 m hm).keep mu
          · rw [(pm.map (·.2)).mem_iff, List.map_cons, List.mem_cons, List.mem_append, List.mem_singleton, hMa]
            exact Or.comm
          · rw [upd_ne (ne_of_none e hS)]
            exact k5 a o n e
          · refine g.I.loc H5 _ (fun a f => upd_ne (fun z => ?_)) e5.2
            rw [z] at f
            exact g.I.dom H1 S e1.2 f hS
  · have ei : i = ds.length := by omega
    subst ei
    rw [List.drop_length] at q'
    refine .inl ⟨IT.2, k S _ H' (e1.trans eH) ⟨_, M, hM, fun h G o => ?_, rfl, fun m hm => (hMm m hm).weak fun a z => .inl z⟩ (q' _ hMa)⟩
    have R : NS0 X.prog X.w h S (M.map kp) := o.1
    obtain ⟨es, ep, t, _, _, _, uni, _, _, _, few⟩ := R.ex
    refine ⟨setNO_V R, ?_, by rw [List.length_map] at few; exact few⟩
    · 
      rw [List.map_map] at uni
      have e : ((fun p : Addr × Key => p.2) ∘ kp) = keyD ∘ (fun m : Addr × D => m.2) := rfl
      rw [e, ← List.map_map] at uni
      exact nodup_of_map uni
end
section
variable {X : Cx} {g : Gx} {elt tg iter : Expr} {ifs : List Expr} {scope : Scope} {own : List (Str × Nat)} {pos : Pos} {gt : TG} {tid : TID} {gd : TGD} {td : TTD} {ed : TED}
theorem z_sc (hu : X.A.units + 64 < cLine) (hc : X.calm = true) (hN : X.N.Nodup) (hi : PID X g tg iter tid) (ok : BlkOk X.N X.env.scope scope own)
    (hg : ∀ (s : Shared) (H : Hp) (C : Addr) (cl : List (Str × Addr)) (fp : List Addr), PG (X.blk s H scope (compEnvC scope cl C X.env) fp) tg gt) (sg : SG X.K g.nox gt gd) (gw : GW gt (own.map (·.2)))
    (ht : ST X.K g.nox (wBT X scope ifs) td) (he : SE X.K g.nox (wBE X scope elt) ed) (hs : ∀ x, foldedSetIterable iter X.env x = pure x := by intro _; rfl) :
    PZD X g (.SetComp elt [⟨tg, iter, ifs, 0⟩] scope pos) (zSc tid gd td ed (own.map (·.2))) :=
  pzd_of (pe_sa (adds_N (by omega)) hc hN pi_w ok hg (fun _ _ _ _ _ => pt_blk) (fun _ _ _ _ _ => pe_blk) hs) (sz_sc hi sg gw ht he)
end
end Ns
namespace Ns
open PySem PySem.Spec PyProof.Rows L2 Dl
/-! ### set(..) of a list of tuples of whole numbers -/
abbrev tupI (ns : List Int) : D := .tup (ns.map D.int)
theorem refs_ints {K : PySem.W.Frag} {Av : Addr → Prop} {H : Hp} : ∀ {nss : List (List Int)} {vs : List V}, DenA K Av H vs (nss.map tupI) →
    ∃ ks : List (Addr × List Int), vs = ks.map (fun p => V.ref p.1) ∧ ks.map (·.2) = nss ∧ ∀ p ∈ ks, Den K Av H (.ref p.1) (tupI p.2) ∧ SqT K H p.1 (p.2.map V.int)
  | [], vs, h => ⟨[], by simpa [DenA] using h, rfl, fun p hp => by cases hp⟩
  | ns :: nss, vs, h => by
    obtain ⟨v, r, rfl, h1, h2⟩ := DenA.cons (show DenA K Av H vs (tupI ns :: nss.map tupI) from h)
    obtain ⟨ks, rfl, e, hk⟩ := refs_ints h2
    have h1' := h1
    simp only [Den] at h1
    obtain ⟨a, us, rfl, sq, _, dn⟩ := h1
    have e2 := dn.ofInts
    subst e2
    refine ⟨(a, ns) :: ks, rfl, by rw [List.map_cons, e], fun p hp => ?_⟩
    rcases List.mem_cons.mp hp with z | hp
    · rw [z]; exact ⟨h1', sq⟩
    · exact hk p hp
theorem ints_kok : ∀ ns : List Int, kokA (ns.map D.int) = true ∧ depA (ns.map D.int) = 0
  | [] => ⟨rfl, rfl⟩
  | n :: ns => by
    obtain ⟨a, b⟩ := ints_kok ns
    exact ⟨by simp only [List.map_cons, kokA, kok, a, Bool.and_self], by simp only [List.map_cons, depA, D.dep, b, Nat.max_self]⟩
theorem ints_inj : ∀ {a b : List Int}, a.map D.int = b.map D.int → a = b
  | [], [], _ => rfl
  | [], _ :: _, h => by cases h
  | _ :: _, [], h => by cases h
  | x :: a, y :: b, h => by
    obtain ⟨h1, h2⟩ := List.cons.inj h
    rw [D.int.inj h1, ints_inj h2]
theorem tupI_inj {a b : List Int} (h : tupI a = tupI b) : a = b := ints_inj (D.tup.inj h)
theorem setTO_V {P : Program} {w : World} {h : Heap} {a : Addr} {L : List (Addr × List Int)} (R : SetT0 P w h a L) : SetV w h a (L.map (·.1)) ∧ (L.map fun p => tupI p.2).Nodup ∧ L.length < 64 := by
  obtain ⟨es, ep, t, ⟨o, ho, hx, hd⟩, lay, tab, uni, _, led, gap, few⟩ := R.ex
  have n : es.size = L.length := by
    have := congrArg List.length lay
    simpa [rowsOf] using this
  have sz := tab.sz
  rw [List.length_map] at sz
  refine ⟨⟨es, ep, t, ⟨o, ho, hx.1, hd⟩, by rw [lay]; simp [rowsOf, Function.comp_def], by rw [n]; exact fits_by sz tab.dm (by omega), by rw [n]; exact Nat.lt_of_lt_of_le few (by decide), tab.ris, led⟩, ?_, few⟩
  have e : (L.map fun p => tupI p.2) = (L.map (·.2)).map tupI := by rw [List.map_map]; rfl
  rw [e]
  exact List.Pairwise.map _ (fun x y ne z => ne (tupI_inj z)) uni
def zSet (ta : TAD) : TZD := fun env Q => ta env fun xs => ∃ nss : List (List Int), xs = [.lst (nss.map tupI)] ∧ nss.length < 64 ∧ ∀ out : List D, (∀ d, d ∈ out ↔ d ∈ nss.map tupI) → Q out
section
variable {X : Cx} {g : Gx} {e : Expr} {tas : TAD} {p pos : Pos}
theorem z_set (hu : X.A.units + 64 < cLine) (hc : X.calm = true) (hg : Gl X "set") (hm : X.mg "set" = none) (ha : PAD X g [e] tas)
    (he : starEach [e] X.env = (false, eval e X.env) :: starEach [] X.env := by rfl) (hpl : (backTo pos (starEach [] X.env)).any (·.1) = false := by rfl) : PZD X g (.Call (.Name "set" p) [e] [] pos) (zSet tas) :=
  pzd_of (pe_callTy (cr_setOfT hc hu) hg hm boot_set pa_w (by decide) (by decide) he hpl) fun b σ H env Qd Q hd xl ht k => ha b σ H env _ _ hd xl ht fun vs ds H1 e1 dn ⟨nss, e, few, q⟩ => by
    subst e
    obtain ⟨v, rfl, d1⟩ := dn.one1
    simp only [Den] at d1
    obtain ⟨a, us, rfl, hl, na, r⟩ := d1
    obtain ⟨ks, rfl, e2, hk⟩ := refs_ints r
    have len : ks.length = nss.length := by rw [← e2, List.length_map]
    refine ⟨a, ks, rfl, SqL.of hl, fun p hp => (hk p hp).2, by omega, fun S L hS sub all => ?_⟩
    refine k S _ _ (e1.trans (.new e1.2 hS)) ⟨SetTO X.prog X.w S L, L.map (fun p => (p.1, tupI p.2)), upd_same, fun h G o => ?_, rfl, fun m hm => ?_⟩ (q _ fun d => ?_)
    · have R : SetT0 X.prog X.w h S L := o.1
      obtain ⟨r1, r2, r3⟩ := setTO_V R
      refine ⟨?_, ?_, ?_⟩
      · rw [List.map_map]; exact r1
      · rw [List.map_map]; exact r2
      · rw [List.length_map]; exact r3
    · obtain ⟨p, hp, rfl⟩ := List.mem_map.mp hm
      obtain ⟨c1, c2⟩ := ints_kok p.2
      exact ⟨Den.keep (Kp.new hS) _ _ (hk p (sub p hp)).1, by simpa only [kok] using c1, by simp only [D.dep, c2]; decide⟩
    · rw [List.map_map]
      have e3 : nss.map tupI = (ks.map (·.2)).map tupI := by rw [e2]
      rw [e3, List.map_map]
      constructor
      · intro z
        obtain ⟨p, hp, rfl⟩ := List.mem_map.mp z
        exact List.mem_map.mpr ⟨p, sub p hp, rfl⟩
      · intro z
        obtain ⟨p, hp, rfl⟩ := List.mem_map.mp z
        obtain ⟨p', hp', e4⟩ := List.mem_map.mp (all p hp)
        exact List.mem_map.mpr ⟨p', hp', congrArg tupI e4⟩
end
/-! ### sorted -/
structure sortable (ds : List D) : Prop where
  al : PySem.W.AllAlike (ds.map D.py)
  so : PySem.W.Sortable (ds.map D.py)
  good : goodA ds = true
  low : ∀ d ∈ ds, d.dep ≤ 8
abbrev ascD (out : List D) : Prop := out.Pairwise fun x y => PySem.W.dataLt y.py x.py = false
theorem goodA_mem : ∀ {ds : List D}, goodA ds = true → ∀ d ∈ ds, d.good = true
  | d :: ds, h, x, hx => by
    simp only [goodA, Bool.and_eq_true] at h
    rcases List.mem_cons.mp hx with e | hx
    · rw [e]; exact h.1
    · exact goodA_mem h.2 x hx
theorem vals_each : ∀ {T : List (V × Value × D)}, (∀ t ∈ T, RelV t.1 t.2.1) → Vals (T.map (·.1)) (T.map fun t => t.2.1)
  | [], _ => .nil
  | t :: T, h => .cons (h t List.mem_cons_self) (vals_each fun x hx => h x (List.mem_cons_of_mem _ hx))
section
variable {X : Cx} {Av : Addr → Prop}
theorem sort_core (hu : X.A.units + 64 < cLine) {pins : List (Addr × Obj)} {σ : L2.St} {H : Hp} {s : Shared} (I : Inv X pins σ H s) {T : List (V × Value × D)} (rel : ∀ t ∈ T, RelV t.1 t.2.1) (den : ∀ t ∈ T, Den X.K Av H t.1 t.2.2) (so : sortable (T.map fun t => t.2.2)) (few : T.length ≤ sizeLine) {arg : Value} {Q : VK}
    (gather : ∀ (E' : Value → Shared → Prop) (R : List Value → Shared → Prop), (∀ vs s1, Gath s (T.map fun t => t.2.1) vs s1 → R vs s1) → wpAny (model X.prog X.w) X.A.in1 (collect arg) R E' s)
    (fin : ∀ (T' : List (V × Value × D)) (p : Addr), T'.Perm T → ascD (T'.map fun t => t.2.2) → H p = none → Q (.ref p) (upd H p (.lst (T'.map (·.1))))) : wpAny (model X.prog X.w) X.A (call (.builtin "sorted") [arg]) (EP X pins σ Q) X.xe s := by
  have e1 : (T.map fun t => (t.2.1, t.2.2.py)).map (·.1) = T.map fun t => t.2.1 := by rw [List.map_map]; rfl
  have e2 : (T.map fun t => (t.2.1, t.2.2.py)).map (·.2) = (T.map fun t => t.2.2).map D.py := by rw [List.map_map, List.map_map]; rfl
  refine sorted_data (M := T.map fun t => (t.2.1, t.2.2.py)) (by rw [e1]; exact gather) (fun m hm => ?_) (by rw [e2]; exact so.al) (by rw [e2]; exact so.so) (fun m hm => ?_) (by rw [List.length_map]; exact few) fun M' p s2 c pm asc keep g o hp hget => ?_
  · obtain ⟨t, ht, rfl⟩ := List.mem_map.mp hm
    exact Dp.reads I _ _ _ (Den.dp _ _ (goodA_mem so.good _ (List.mem_map_of_mem ht)) (den t ht)) (rel t ht)
  · obtain ⟨t, ht, rfl⟩ := List.mem_map.mp hm
    show _ + t.2.2.py.depth < _
    rw [py_dep]
    have := so.low _ (List.mem_map_of_mem ht)
    have e : X.A.in1.in1.units ≤ X.A.units + 8 := by simp [Around.in1]
    omega
  · obtain ⟨T', pt, rfl⟩ := perm_lift (fun t : V × Value × D => (t.2.1, t.2.2.py)) pm
    have hn : H p = none := I.hok.gone hp
    have rel' : ∀ t ∈ T', RelV t.1 t.2.1 := fun t ht => rel t (pt.mem_iff.mp ht)
    have nl : (T'.map (·.1)).length ≤ sizeLine := by rw [List.length_map, pt.length_eq]; exact few
    rw [List.map_map] at hget
    have J : Inv X pins σ (upd H p (.lst (T'.map (·.1)))) s2 := I.call' (ch := []) o (Un.laidN keep hp hn) (I.hok.laidN keep hn ⟨nl, T'.map fun t => t.2.1, c, vals_each rel', hget⟩) (by rw [g]; exact I.bare) (fun _ z => nomatch z)
    exact ⟨.ref p, _, J, rfl, fin T' p pt (List.pairwise_map.mpr (List.pairwise_map.mp asc)) hn⟩
/-- sorted of a set that has just been made -/
def rSortZ (X : Cx) (I : HI) : List V → Hp → VK → Prop := fun vs H Q => ∃ (a : Addr) (ds : List D), vs = [.ref a] ∧ SetA X I H a ds ∧ (ds.Nodup → ds.length < 64 → sortable ds ∧
  ∀ (M : List (Addr × D)) (p : Addr), (M.map (·.2)).Perm ds → ascD (M.map (·.2)) → (∀ m ∈ M, Mem X.K I.own H m) → H p = none → Q (.ref p) (upd H p (.lst (M.map fun m => V.ref m.1))))
theorem cr_sortZ {I : HI} (hu : X.A.units + 64 < cLine) (hc : X.calm = true) : CallR X (.builtin "sorted") (rSortZ X I) := fun pins s σ H vs us Q J r h => by
  obtain ⟨a, ds, rfl, ⟨ho, M, hS, imp, rfl, mem⟩, h⟩ := h
  obtain ⟨⟨es, ep, t, sat, vals, fit, small, ris, led⟩, nd, few⟩ := imp _ _ (J.hok a _ hS)
  obtain ⟨so, fin⟩ := h nd (by rw [List.length_map]; exact few)
  rw [Vals.ref1 r]
  have e1 : (M.map fun m => (V.ref m.1, Value.ref m.1, m.2)).map (fun t => t.2.2) = M.map (·.2) := by rw [List.map_map]; rfl
  have e2 : (M.map fun m => (V.ref m.1, Value.ref m.1, m.2)).map (fun t => t.2.1) = (M.map (·.1)).map Value.ref := by rw [List.map_map, List.map_map]; rfl
  refine sort_core (T := M.map fun m => (V.ref m.1, Value.ref m.1, m.2)) (Av := I.own) hu J (fun t ht => ?_) (fun t ht => ?_) (by rw [e1]; exact so) (by rw [List.length_map]; exact Nat.le_trans (Nat.le_of_lt few) (by rw [sizeLine_eq]; omega)) (fun E' R k => ?_) fun T' p pm asc hn => ?_
  · obtain ⟨m, hm, rfl⟩ := List.mem_map.mp ht
    exact rfl
  · obtain ⟨m, hm, rfl⟩ := List.mem_map.mp ht
    exact (mem m hm).den
  · refine collect_set (A := X.A.in1) (J.ok.hd hc) sat fit small ris led fun s1 out k1 _ g1 o1 pm => k out s1 ⟨?_, k1, g1, o1⟩
    rw [e2, ← vals]
    exact pm
  · obtain ⟨M', pm', rfl⟩ := perm_lift (fun m : Addr × D => (V.ref m.1, Value.ref m.1, m.2)) pm
    have e3 : (M'.map fun m => (V.ref m.1, Value.ref m.1, m.2)).map (fun t => t.2.2) = M'.map (·.2) := by rw [List.map_map]; rfl
    rw [e3] at asc
    have := fin M' p (pm'.map (·.2)) asc (fun m hm => mem m (pm'.mem_iff.mp hm)) hn
    rw [List.map_map]
    exact this
end
section
variable {X : Cx} {g : Gx} {e : Expr} {tz : TZD} {p pos : Pos}
theorem mems_den {K : PySem.W.Frag} {Av : Addr → Prop} {H : Hp} : ∀ {M : List (Addr × D)}, (∀ m ∈ M, Mem K Av H m) → DenA K Av H (M.map fun m => V.ref m.1) (M.map (·.2))
  | [], _ => by simp [DenA]
  | m :: M, h => by
    show DenA K Av H (V.ref m.1 :: M.map fun m => V.ref m.1) (m.2 :: M.map (·.2))
    simp only [DenA]
    exact ⟨_, _, rfl, (h m List.mem_cons_self).den, mems_den fun x hx => h x (List.mem_cons_of_mem _ hx)⟩
def dSortZ (tz : TZD) : TED := fun env Q => tz env fun ds => ds.Nodup → ds.length < 64 → sortable ds ∧ ∀ out : List D, out.Perm ds → ascD out → Q (.lst out)
theorem d_sortZ (hu : X.A.units + 64 < cLine) (hc : X.calm = true) (hg : Gl X "sorted") (hm : X.mg "sorted" = none) (ha : PZD X g e tz)
    (he : starEach [e] X.env = (false, eval e X.env) :: starEach [] X.env := by rfl) (hpl : (backTo pos (starEach [] X.env)).any (·.1) = false := by rfl) : PED X g (.Call (.Name "sorted" p) [e] [] pos) (dSortZ tz) :=
  ped_of (pe_callB (cr_sortZ (I := g.I) hu hc) hg hm boot_sorted (pa_cons pe_w pa_nil he) (by decide) (by decide) he hpl) fun b σ H env Qd Q hd xl ht k =>
    ha b σ H env _ (fun v H' => rSortZ X g.I [v] H' Q) hd xl ht fun a ds H1 e1 sa q => ⟨a, ds, rfl, sa, fun nd few => by
      obtain ⟨so, fin⟩ := q nd few
      refine ⟨so, fun M p pm asc mem hn => k _ _ _ (e1.trans (.new e1.2 hn)) (new_lst e1.2 hn (mems_den mem)) (fin _ pm asc)⟩⟩
/-- sorted of a list, a tuple -/
def bSortD : FC := fun xs Q => ∃ ds, (xs = [.lst ds] ∨ xs = [.tup ds]) ∧ ds.length ≤ sizeLine ∧ sortable ds ∧ ∀ out : List D, out.Perm ds → ascD out → Q (.lst out)
theorem seq_triples {K : PySem.W.Frag} {Av : Addr → Prop} {H : Hp} : ∀ {ds : List D} {vs : List V} {us : List Value}, DenA K Av H vs ds → Vals vs us →
    ∃ T : List (V × Value × D), T.map (·.1) = vs ∧ T.map (fun t => t.2.1) = us ∧ T.map (fun t => t.2.2) = ds ∧ (∀ t ∈ T, RelV t.1 t.2.1) ∧ ∀ t ∈ T, Den K Av H t.1 t.2.2
  | [], vs, us, h, r => by
    have e : vs = [] := by simpa [DenA] using h
    subst e
    cases r
    exact ⟨[], rfl, rfl, rfl, fun t ht => (by cases ht), fun t ht => (by cases ht)⟩
  | d :: ds, vs, us, h, r => by
    obtain ⟨v, w, rfl, h1, h2⟩ := h.cons
    cases r with
    | @cons _ u _ us' r1 r2 =>
      obtain ⟨T, e1, e2, e3, h3, h4⟩ := seq_triples h2 r2
      refine ⟨(v, u, d) :: T, by rw [List.map_cons, e1], by rw [List.map_cons, e2], by rw [List.map_cons, e3], fun t ht => ?_, fun t ht => ?_⟩
      · rcases List.mem_cons.mp ht with e | ht
        · rw [e]; exact r1
        · exact h3 t ht
      · rcases List.mem_cons.mp ht with e | ht
        · rw [e]; exact h1
        · exact h4 t ht
theorem triples_den {K : PySem.W.Frag} {Av : Addr → Prop} {H : Hp} : ∀ {T : List (V × Value × D)}, (∀ t ∈ T, Den K Av H t.1 t.2.2) → DenA K Av H (T.map (·.1)) (T.map fun t => t.2.2)
  | [], _ => by simp [DenA]
  | t :: T, h => by
    show DenA K Av H (t.1 :: T.map (·.1)) (t.2.2 :: T.map fun t => t.2.2)
    simp only [DenA]
    exact ⟨_, _, rfl, h t List.mem_cons_self, triples_den fun x hx => h x (List.mem_cons_of_mem _ hx)⟩
theorem c_sortD {I : HI} (hu : X.A.units + 64 < cLine) : RC X I (.builtin "sorted") bSortD := fun H xs ds Qd Q ok dn ⟨es, e, few, so, fin⟩ k => by
  intro pins s σ us J r
  have go : ∀ (a : Addr) (vs : List V) (its : List Value) (arg : Value), us = [arg] → arg = .ref a → DenA X.K I.own H vs es → Vals vs its → (∀ (E' : Value → Shared → Prop) (R : List Value → Shared → Prop), (∀ vs s1, Gath s its vs s1 → R vs s1) → wpAny (model X.prog X.w) X.A.in1 (collect arg) R E' s) →
      wpAny (model X.prog X.w) X.A (call (.builtin "sorted") us) (EP X pins σ Q) X.xe s := fun a vs its arg e1 e2 dv rv gather => by
    subst e1
    obtain ⟨T, t1, t2, t3, h3, h4⟩ := seq_triples dv rv
    refine sort_core (Av := I.own) hu J h3 h4 (by rw [t3]; exact so) (by rw [← List.length_map (f := fun t : V × Value × D => t.2.2), t3]; exact few) (by rw [t2]; exact gather) fun T' p pm asc hn => ?_
    refine k _ _ _ (.new ok hn) (new_lst ok hn (triples_den fun t ht => h4 t (pm.mem_iff.mp ht))) (fin _ ?_ asc)
    rw [← t3]
    exact pm.map _
  have gs : ∀ {a : Addr} {its : List Value} {T : String}, (T = "list" ∨ T = "tuple") → ∀ {o : Obj} {n : Nat}, s.heap.get? a = some o → o.cls = .type T → o.data = .seq its.toArray n → its.length ≤ sizeLine →
      ∀ (E' : Value → Shared → Prop) (R : List Value → Shared → Prop), (∀ vs s1, Gath s its vs s1 → R vs s1) → wpAny (model X.prog X.w) X.A.in1 (collect (.ref a)) R E' s := fun {a its T} hT {o n} ho hc hd hz E' R kk =>
    SrtT.gather_seq hT ho hc hd hz E' R fun vs s1 ⟨e, h', e2, keep⟩ => by
      subst e2
      exact kk vs _ ⟨by rw [e], keep, rfl, rfl⟩
  rcases e with e | e
  · subst e
    obtain ⟨v, rfl, d1⟩ := dn.one1
    simp only [Den] at d1
    obtain ⟨a, vs, rfl, hl, na, r1⟩ := d1
    obtain ⟨its, rv, ⟨o, n, ho, hc, _, hd⟩, hz⟩ := J.list (SqL.of hl)
    cases r with
    | cons ra rb =>
      cases rb
      cases ra
      exact go a vs its _ rfl rfl r1 rv (gs (.inl rfl) ho hc hd (by rw [← rv.length]; exact hz))
  · subst e
    obtain ⟨v, rfl, d1⟩ := dn.one1
    simp only [Den] at d1
    obtain ⟨a, vs, rfl, sq, tp, r1⟩ := d1
    obtain ⟨its, rv, ⟨o, ho, hc, n, hd⟩, hz⟩ := J.tuple sq
    cases r with
    | cons ra rb =>
      cases rb
      cases ra
      exact go a vs its _ rfl rfl r1 rv (gs (.inr rfl) ho hc hd (by rw [← rv.length]; exact hz))
end
end Ns
namespace Ns
open PySem PySem.Spec PyProof.Rows L2 Dl HT
/-! ### t[::1], t[::-1] of a tuple -/
section
variable {prog : Program} {w : World} {A : Around} {E : Value → Shared → Prop} {s : Shared}
theorem back_places (n : Nat) : Builtin.Slice.slicePlaces ((n : Int) - 1) (-1) (-1) = n := by
  unfold Builtin.Slice.slicePlaces
  have h0 : ¬ ((-1 : Int) > 0) := by decide
  simp only [h0, if_false]
  have e : (- -1 : Int) = 1 := by decide
  rw [e, Int.ediv_one]
  split <;> omega
theorem step_applied {sl : Addr} {vl vu vs : Value} {n : Nat} {i : Int} {Q : Int × Int × Nat → Shared → Prop} (hs : s.heap.IsSliceOf sl vl vu vs) (pl : IsPart vl none) (pu : IsPart vu none) (ps : IsPart vs (some i)) (hi : i = 1 ∨ i = -1)
    (h : Q (if i = 1 then (0, 1, n) else ((n : Int) - 1, -1, n)) s) : wpAny (model prog w) A (Builtin.Slice.sliceApplied (.ref sl) (pure (n : Int))) Q E s := by
  obtain ⟨os, hos, hcs, hds⟩ := id hs
  cases pl
  cases pu
  unfold Builtin.Slice.sliceApplied Builtin.Slice.sliceFields
  refine wpAny_bind (wpAny_bind (wpAny_field hos hds (x := .none) rfl (wpAny_bind (wpAny_field hos hds (x := .none) rfl (wpAny_bind (wpAny_field hos hds (x := vs) rfl (wpAny_pure ?_)))))))
  refine wpAny_bind (slicePart_ ps ?_)
  have hz : ¬ ((i == 0) = true) := by rcases hi with e | e <;> subst e <;> decide
  show wpAny _ _ (if (i == 0) = true then _ else _) _ _ s
  rw [if_neg hz]
  refine wpAny_bind (slicePart_none (wpAny_bind (slicePart_none (wpAny_bind (wpAny_pure ?_)))))
  show wpAny _ _ (match Builtin.Slice.sliceAdjust none none i (n : Int) with | (lo, hi) => pure (lo, i, Builtin.Slice.slicePlaces lo hi i)) _ _ s
  rcases hi with e | e
  · subst e
    rw [if_pos rfl] at h
    have e1 : Builtin.Slice.sliceAdjust none none 1 (n : Int) = (((0 : Nat) : Int), ((n : Nat) : Int)) := rfl
    rw [e1]
    show wpAny _ _ (pure (((0 : Nat) : Int), (1 : Int), Builtin.Slice.slicePlaces ((0 : Nat) : Int) ((n : Nat) : Int) 1)) _ _ s
    rw [places_gen]
    exact wpAny_pure h
  · subst e
    rw [if_neg (by decide)] at h
    have e1 : Builtin.Slice.sliceAdjust none none (-1) (n : Int) = ((n : Int) - 1, (-1 : Int)) := rfl
    rw [e1]
    show wpAny _ _ (pure ((n : Int) - 1, (-1 : Int), Builtin.Slice.slicePlaces ((n : Int) - 1) (-1) (-1))) _ _ s
    rw [back_places]
    exact wpAny_pure h
theorem pick_back (xs : Array Value) : ((List.range xs.size).filterMap fun (k : Nat) => xs[((xs.size : Int) - 1 + (k : Int) * (-1)).toNat]?).toArray = xs.toList.reverse.toArray := by
  congr 1
  have e : ∀ k ∈ List.range xs.size, xs[((xs.size : Int) - 1 + (k : Int) * (-1)).toNat]? = some ((xs.toList.reverse)[k]?.getD .none) := by
    intro k hk
    have hk := List.mem_range.mp hk
    have e1 : ((xs.size : Int) - 1 + (k : Int) * (-1)).toNat = xs.size - 1 - k := by omega
    have l : k < xs.toList.reverse.length := by rw [List.length_reverse, Array.length_toList]; exact hk
    rw [e1, List.getElem?_eq_getElem l, List.getElem_reverse, Option.getD_some]
    have h2 : xs.size - 1 - k < xs.size := by omega
    rw [Array.getElem?_eq_getElem h2]
    simp
  have e3 : (List.range xs.size).filterMap (fun (k : Nat) => xs[((xs.size : Int) - 1 + (k : Int) * (-1)).toNat]?) = (List.range xs.size).map fun k => (xs.toList.reverse)[k]?.getD .none := by
    rw [← List.filterMap_eq_map]
    exact fm_same fun k hk => (e k hk).trans rfl
  rw [e3]
  refine List.ext_getElem (by simp) fun i h1 h2 => ?_
  rw [List.getElem_map, List.getElem_range, List.getElem?_eq_getElem h2, Option.getD_some]
theorem getItem_tuple_step {t sl : Addr} {items : Array Value} {vl vu vs : Value} {i : Int} {Q : Value → Shared → Prop} (ht : IsTup s.heap t items) (hs : s.heap.IsSliceOf sl vl vu vs) (pl : IsPart vl none) (pu : IsPart vu none) (ps : IsPart vs (some i)) (hi : i = 1 ∨ i = -1)
    (h1 : i = 1 → Q (.ref t) s) (h2 : i = -1 → Q (.ref s.heap.objs.size) { s with heap := s.heap.push { cls := .type "tuple", data := .seq items.toList.reverse.toArray } }) (hsz : items.size ≤ sizeLine) :
    wpAny (model prog w) A (getItem (.ref t) (.ref sl)) Q E s := by
  have htake : sizeOk (.seq items.toList.reverse.toArray) := by
    show items.toList.reverse.toArray.size ≤ sizeLine
    rw [List.size_toArray, List.length_reverse, Array.length_toList]
    exact hsz
  obtain ⟨os, hos, hcs, hds⟩ := id hs
  have hTs : s.TypeIs (.ref sl) "slice" := ⟨os, hos, hcs⟩
  unfold getItem
  try with_reducible refine wpAny_holding ?_
  first | refine wpAny_bind (wpAny_pure ?_) | skip
  refine wpAny_bind (wpAny_sequenceKey ht.typeIs (by decide) ?_)
  refine wpAny_bind (wpAny_callSpecial?_slot (name := Str.ofString "__getitem__") ht.typeIs PyProof.Rows.slot_tuple_getitem
    (wpAny_call_entry PyProof.Rows.slot_tuple_getitem ht.typeIs entry_tuple_getitem ?_ (args_tuple_getitem _ _)))
  show wpAny _ _ (Builtin.Tuple.tupleItemsOf (.ref t) >>= _) _ _ s
  refine wpAny_bind (tupleItemsOf_ ht ?_)
  refine wpAny_bind (wpAny_typeOf hTs ?_)
  rw [if_pos (by decide)]
  refine wpAny_bind (step_applied hs pl pu ps hi ?_)
  rcases hi with e | e
  · subst e
    rw [if_pos rfl]
    show wpAny _ _ (if ((0 : Int) == 0 && (1 : Int) == 1 && items.size == items.size) = true then _ else _) _ _ s
    rw [if_pos (by simp)]
    refine wpAny_bind ?_
    show wpAny _ _ (typeOf (.ref t) >>= fun T => pure (T == .type "tuple")) _ _ s
    refine wpAny_bind (wpAny_typeOf ht.typeIs (wpAny_pure ?_))
    first
      | rw [if_pos (by decide)]
      | simp only [beq_self_eq_true, if_true]
    first
      | exact wpAny_bind (wpAny_rule (wpAny_pure ⟨_, rfl, wpAny_pure (h1 rfl)⟩))
      | exact wpAny_bind (wpAny_rule (wpAny_bind (wpAny_pure (wpAny_pure ⟨_, rfl, wpAny_pure (h1 rfl)⟩))))
  · subst e
    rw [if_neg (by decide)]
    show wpAny _ _ (if (((items.size : Int) - 1) == 0 && (-1 : Int) == 1 && items.size == items.size) = true then _ else _) _ _ s
    have hno : ¬ ((((items.size : Int) - 1) == 0 && (-1 : Int) == 1 && items.size == items.size) = true) := by
      have e1 : ((-1 : Int) == 1) = false := by decide
      rw [e1, Bool.and_false, Bool.false_and]
      decide
    rw [if_neg hno]
    show wpAny _ _ (Builtin.Tuple.tupleExact ((List.range items.size).filterMap fun (k : Nat) => items[((items.size : Int) - 1 + (k : Int) * (-1)).toNat]?).toArray >>= _) _ _ s
    rw [pick_back]
    first
      | exact wpAny_bind (m := Builtin.Tuple.tupleExact _) (wpAny_newObj_type (wpAny_pure ⟨_, rfl, wpAny_pure (h2 rfl)⟩) htake)
      | exact wpAny_bind (m := Builtin.Tuple.tupleExact _) (wpAny_newObj_type (wpAny_bind (wpAny_pure (wpAny_pure ⟨_, rfl, wpAny_pure (h2 rfl)⟩))) htake)
      | exact wpAny_bind (wpAny_bind (m := Builtin.Tuple.tupleExact _) (wpAny_newObj_type (wpAny_pure (wpAny_pure ⟨_, rfl, wpAny_pure (h2 rfl)⟩)) htake))
      | exact wpAny_bind (wpAny_bind (m := Builtin.Tuple.tupleExact _) (wpAny_newObj_type (wpAny_pure ⟨_, rfl, wpAny_pure (h2 rfl)⟩) htake))
end
section
variable {X : Cx} {e st : Expr} {te ts : TE} {p2 pos : Pos}
def tStepT (K : PySem.W.Frag) (te ts : TE) : TE := fun σ H Q => te σ H fun x H1 => ts σ H1 fun y H2 => ∃ a xs, x = .ref a ∧ SqT K H2 a xs ∧ ((y = .int 1 ∧ Q (.ref a) H2) ∨ (y = .int (-1) ∧ ∀ p, H2 p = none → Q (.ref p) (upd H2 p (.tup xs.reverse))))
theorem pe_stepT (he : PE X e te) (hs : PE X st ts) : PE X (.Subscript e (.Slice none none (some st) p2) pos) (tStepT X.K te ts) := by
  refine ⟨fun pins s σ H Q I h => ?_⟩
  refine Subscript_ (thn (he.run pins s σ H _ I h) fun v s1 ⟨x, H1, I1, r1, q1⟩ => ?_)
  refine wpAny_Slice (thn (po_none.run pins s1 σ H1 (fun o H2 => o = none ∧ H2 = H1) I1 ⟨rfl, rfl⟩) fun vl s2 ⟨l, H2, I2, pl, el, e2⟩ => ?_)
  subst el e2
  refine thn (po_none.run pins s2 σ H2 (fun o H3 => o = none ∧ H3 = H2) I2 ⟨rfl, rfl⟩) fun vu s3 ⟨u, H3, I3, pu, eu, e3⟩ => ?_
  subst eu e3
  rw [evalPart_some]
  refine thn (hs.run pins s3 σ H3 _ I3 q1) fun vs s4 ⟨y, H4, I4, ry, a, xs, ex, hx, q⟩ => ?_
  subst ex
  cases r1
  have I5 : Inv X pins σ H4 { s4 with heap := s4.heap.push { cls := .type "slice", data := .fields #[vl, vu, vs] } } := I4.kept (t' := s4.toks) fun b ob q => Heap.get?_push_of_some _ q
  obtain ⟨its, r, ht, hz⟩ := I5.tuple hx
  have hlen : its.toArray.size = xs.length := by rw [List.size_toArray]; exact r.length.symm
  obtain ⟨i, hi, ps, g1, g2⟩ : ∃ i : Int, (i = 1 ∨ i = -1) ∧ IsPart vs (some i) ∧ (i = 1 → Q (.ref a) H4) ∧ (i = -1 → ∀ p, H4 p = none → Q (.ref p) (upd H4 p (.tup xs.reverse))) := by
    rcases q with ⟨ey, q⟩ | ⟨ey, q⟩ <;> subst ey <;> obtain ⟨t, et⟩ := ry <;> subst et
    · exact ⟨1, .inl rfl, .int 1 t, fun _ => q, fun z => absurd z (by decide)⟩
    · exact ⟨-1, .inr rfl, .int (-1) t, fun z => absurd z (by decide), fun _ => q⟩
  show wpAny (model X.prog X.w) X.A (subscriptTail e (.Slice none none (some st) p2) (.ref a) (.ref s4.heap.objs.size)) (EP X pins σ Q) X.xe { s4 with heap := s4.heap.push { cls := .type "slice", data := .fields #[vl, vu, vs] } }
  refine tail_any (ops := [.ref a, .ref s4.heap.objs.size]) ht.typeIs (PyProof.Rows.slot_tuple_getitem.lookup) ?_ (by with_unfolding_all rfl)
  refine getItem_tuple_step ht (Heap.IsSliceOf.new _ vl vu vs) pl pu ps hi (fun e1 => ⟨.ref a, _, I5, rfl, g1 e1⟩) (fun e1 => ?_) (by rw [hlen]; exact hz)
  refine ⟨.ref _, _, I5.laid (t' := s4.toks) (o := .tup xs.reverse) (fun b ob q => Heap.get?_push_of_some _ q) (Nat.le_refl _) ?_, rfl, g2 e1 _ (I5.hok.fresh (Nat.le_refl _))⟩
  exact ⟨by rw [List.length_reverse]; exact hz, _, by simpa using r.reverse, IsTup.new _ _⟩
/-- by data -/
def dStepT (td us : TED) : TED := fun env Q => td env fun x => us env fun y => ∃ xs, x = .tup xs ∧ ((y = .int 1 ∧ Q (.tup xs)) ∨ (y = .int (-1) ∧ Q (.tup xs.reverse)))
theorem denA_rev {K : PySem.W.Frag} {Av : Addr → Prop} {H : Hp} : ∀ {ds : List D} {vs : List V}, DenA K Av H vs ds → DenA K Av H vs.reverse ds.reverse
  | [], vs, h => by
    cases h.nil
    exact h
  | d :: ds, vs, h => by
    obtain ⟨v, r, rfl, h1, h2⟩ := h.cons
    rw [List.reverse_cons, List.reverse_cons]
    exact (denA_rev h2).app (.one h1)
theorem d_stepT {g : Gx} {td us : TED} (he : PED X g e td) (hs : PED X g st us) : PED X g (.Subscript e (.Slice none none (some st) p2) pos) (dStepT td us) :=
  ped_of (pe_stepT pe_w pe_w) fun b σ H env Qd Q hd xl h k => he b σ H env _ _ hd xl h fun v d H1 e1 dn h1 => hs b σ H1 env _ _ (hd.mono e1) xl h1 fun u d2 H2 e2 dn2 ⟨xs, ex, h2⟩ => by
    subst ex
    replace dn := Den.keep e2.1 _ _ dn
    have dn' := dn
    simp only [Den] at dn
    obtain ⟨a, vs, rfl, s1, n1, r1⟩ := dn
    refine ⟨a, vs, rfl, s1, ?_⟩
    rcases h2 with ⟨ey, q⟩ | ⟨ey, q⟩ <;> subst ey <;> simp only [Den] at dn2
    · exact .inl ⟨dn2, k _ _ _ (e1.trans e2) dn' q⟩
    · exact .inr ⟨dn2, fun p hp => k _ _ _ ((e1.trans e2).trans (.new e2.2 hp)) (new_tup e2.2 hp (denA_rev r1)) q⟩
end
end Ns
namespace Ns
open PySem PySem.Spec PyProof.Rows L2 Dl
/-! ### what is new or holds no list: apart from every list that stood before -/
def SX (K : PySem.W.Frag) (g : Gx) (te : TE) (td : TED) : Prop :=
  ∀ (b : B0) (σ : L2.St) (H : Hp) (env : DEnv) (Qd : D → Prop) (Q : VK), DenE K g.I b σ H env → XL K g b → td env Qd →
    (∀ v d H', Ext g.I H H' → (∀ P : Addr → Prop, (∀ a, P a → ¬ g.I.own a ∧ ∃ xs, H a = some (.lst xs)) → Den K (fun a => g.I.own a ∨ P a) H' v d) → Qd d → Q v H') → te σ H Q
def PXD (X : Cx) (g : Gx) (e : Expr) (td : TED) : Prop := SX X.K g (wE X e) td
def dNl (td : TED) : TED := fun env Q => td env fun d => d.noLst = true ∧ Q d
def dFx (tf : TFD) : TED := fun env Q => tf env fun ds => noLstA ds = true ∧ Q (.lst ds)
section
variable {X : Cx} {g : Gx} {e c a b : Expr} {td ta tb : TED} {tf : TFD} {t : TTD} {pos : Pos} {sc : Scope}
theorem x_e (h : PED X g e td) : PXD X g e (dNl td) := fun b0 σ H env Qd Q hd xl ht k => h b0 σ H env _ _ hd xl ht fun v d H1 e1 dn ⟨nl, q⟩ => k v d H1 e1 (fun P hP => Den.apart (fun a pa => let ⟨n, xs, q⟩ := hP a pa; ⟨xs, e1.1 _ _ n q⟩) _ _ nl dn) q
theorem x_f (h : PFD X g e tf) : PXD X g e (dFx tf) := fun b0 σ H env Qd Q hd xl ht k => h b0 σ H env _ _ hd xl ht fun p vs ds H1 hp e1 hl dn ⟨nl, q⟩ => k _ _ H1 e1 (fun P hP => by
  simp only [Den]
  refine ⟨p, vs, rfl, hl, fun z => ?_, DenA.apart (fun a pa => let ⟨n, xs, q⟩ := hP a pa; ⟨xs, e1.1 _ _ n q⟩) _ _ nl (DenA.weak (fun a z => .inl z) _ _ dn)⟩
  rcases z with z | z
  · exact HI.nown hd.ok hp z
  · obtain ⟨_, xs, e⟩ := hP p z
    rw [hp] at e
    cases e) q
theorem x_if (hc : PTD X g c t) (ha : PXD X g a ta) (hb : PXD X g b tb) : PXD X g (.IfExp c a b pos) (dIf t ta tb) := fun b0 σ H env Qd Q hd xl h k pins s J =>
  (pe_ifExp pt_w pe_w pe_w).run pins s σ H Q J (hc b0 σ H env _ _ hd xl h fun c H1 e1 h1 => by
    have lift : ∀ (P : Addr → Prop), (∀ a, P a → ¬ g.I.own a ∧ ∃ xs, H a = some (.lst xs)) → ∀ a, P a → ¬ g.I.own a ∧ ∃ xs, H1 a = some (.lst xs) := fun P hP a pa => let ⟨n, xs, q⟩ := hP a pa; ⟨n, xs, e1.1 _ _ n q⟩
    cases c with
    | true =>
      rw [if_pos rfl] at h1 ⊢
      exact ha b0 σ H1 env _ _ (hd.mono e1) xl h1 fun v d H2 e2 dn q => k v d H2 (e1.trans e2) (fun P hP => dn P (lift P hP)) q
    | false =>
      rw [if_neg Bool.false_ne_true] at h1 ⊢
      exact hb b0 σ H1 env _ _ (hd.mono e1) xl h1 fun v d H2 e2 dn q => k v d H2 (e1.trans e2) (fun P hP => dn P (lift P hP)) q)
theorem bx_of (h : ∀ (s : Shared) (H : Hp) (C : Addr) (cl : List (Str × Addr)) (fp : List Addr), PXD (X.blk s H sc (compEnvC sc cl C X.env) fp) g.nox e td) : SX X.K g.nox (wBE X sc e) td :=
  fun b σ H env Qd Q hd xl ht k s0 H0 C cl fp pins s J => h s0 H0 C cl fp b σ H env Qd Q hd xl ht k pins s J
end
/-! ### [..] whose items may be new lists -/
def lxD (gd : TGD) (tt : TTD) (te : TED) (env : DEnv) : List D → List D → (List D → Prop) → Prop
  | [], acc, Q => Q acc
  | x :: xs, acc, Q => gd x env fun env2 => tt env2 fun b => if b = true then te env2 fun y => lxD gd tt te env xs (acc ++ [y]) Q else lxD gd tt te env xs acc Q
def fLx (tid : TID) (gd : TGD) (tt : TTD) (te : TED) (vs : List Nat) : TFD := fun env Q => tid (frz env) fun ds => ds.length ≤ 1000000 ∧ lxD gd tt te (wipeD (frz env) vs) ds [] Q
theorem sf_lcX {K : PySem.W.Frag} {g : Gx} {wi : TI} {gt : TG} {tt : TT} {te : TE} {vs : List Nat} {tid : TID} {gd : TGD} {td : TTD} {ed : TED} (hi : SI K g wi tid) (hg : SG K g.nox gt gd) (hw : GW gt vs) (ht : ST K g.nox tt td) (he : SX K g.nox te ed) :
    SF K g (tLc wi gt tt te vs) (fLx tid gd td ed vs) := fun b σ H env Qd Q hd xl hq k => by
  refine hi b σ H (frz env) _ _ hd.frz xl hq fun J H1 hws ds hd1 e1 it0 ⟨hlen, q⟩ => ?_
  intro D hD
  have hH : H D = none := e1.back hD
  have hE : DenE K g.I ⟨H1, hws⟩ (wipe σ vs) H1 (wipeD (frz env) vs) := (hd1.rebase (noOwn_frz env)).wiped vs
  have hno := noOwn_wipe (noOwn_frz env) vs
  have nD : ¬ g.I.own D := HI.nown e1.2 hD
  refine ⟨fun i m H' => m = ds.length - i ∧ i ≤ ds.length ∧ ∃ acc avs, H' D = some (.lst avs) ∧ avs.length ≤ i ∧ DenA K (fun a => g.I.own a ∨ a = D) H' avs acc ∧ Kp g.I.own H1 H' ∧ g.I.ok H' ∧ lxD gd td ed (wipeD (frz env) vs) (ds.drop i) acc Qd,
    ⟨ds.length, by simp, Nat.zero_le _, [], [], upd_same, Nat.zero_le _, by simp only [DenA], Kp.new hD, (Ext.new e1.2 hD).2, by simpa using q⟩, ?_⟩
  rintro i m H' ⟨rfl, hi', acc, avs, hl, hal, da, kp, ok, q'⟩
  have eH : Ext g.I H1 H' := ⟨kp, ok⟩
  have hE' := hE.mono eH
  obtain ⟨oa, h1, h2, h3, h4⟩ := id hE'.slots
  have IT := it0 g.I.own H' (fun p hp => Den.weak (fun a z => .inl z) _ _ (h4 p hp)) (fun a z => g.I.dom H' a ok (g.I.sub a z))
  by_cases hlt : i < ds.length
  · refine .inr ⟨(IT.1 i hlt).1, fun H2 => ∃ acc avs, H2 D = some (.lst avs) ∧ avs.length ≤ i + 1 ∧ DenA K (fun a => g.I.own a ∨ a = D) H2 avs acc ∧ Kp g.I.own H1 H2 ∧ g.I.ok H2 ∧ lxD gd td ed (wipeD (frz env) vs) (ds.drop (i + 1)) acc Qd,
      fun H2 h => ⟨ds.length - (i + 1), by omega, rfl, hlt, h⟩, fun x H2 y => ?_⟩
    obtain ⟨kn, d, hd2, dn⟩ := (IT.1 i hlt).2 x H2 y
    have e2 : Ext g.I H' H2 := .ofNew ok kn
    have q2 : lxD gd td ed (wipeD (frz env) vs) (d :: ds.drop (i + 1)) acc Qd := by
      rw [List.drop_eq_getElem_cons hlt] at q'
      have : d = ds[i] := by
        rw [List.getElem?_eq_getElem hlt] at hd2
        exact (Option.some.inj hd2).symm
      rw [this]; exact q'
    have held := (hE'.mono e2).hold dn (.inl hno)
    have wi2 : wipe (wipe σ vs) vs = wipe σ vs := wipe_idem vs
    refine (show gt x (wipe σ vs) H2 _ from ?_)
    have step := hw x (wipe σ vs) H2 _ (hg ⟨H1, hws⟩ (wipe σ vs) H2 _ x d _ (fun σ2 H3 => tt σ2 H3 fun b H4 => if b = true then te σ2 H4 fun y H5 => ∃ acc, H5 D = some (.lst acc) ∧ acc.length < sizeLine ∧
        (∃ acc' avs, (upd H5 D (.lst (acc ++ [y]))) D = some (.lst avs) ∧ avs.length ≤ i + 1 ∧ DenA K (fun a => g.I.own a ∨ a = D) (upd H5 D (.lst (acc ++ [y]))) avs acc' ∧ Kp g.I.own H1 (upd H5 D (.lst (acc ++ [y]))) ∧ g.I.ok (upd H5 D (.lst (acc ++ [y]))) ∧ lxD gd td ed (wipeD (frz env) vs) (ds.drop (i + 1)) acc' Qd)
        else ∃ acc avs, H4 D = some (.lst avs) ∧ avs.length ≤ i + 1 ∧ DenA K (fun a => g.I.own a ∨ a = D) H4 avs acc ∧ Kp g.I.own H1 H4 ∧ g.I.ok H4 ∧ lxD gd td ed (wipeD (frz env) vs) (ds.drop (i + 1)) acc Qd) held q2 fun σ3 H3 env3 hd3 e3 q3 => ?_)
    · rw [wi2] at step
      exact step
    · refine ht ⟨H1, hws⟩ σ3 H3 env3 _ _ hd3 XL.nox q3 fun c H4 e4 q4 => ?_
      have x4 : Ext g.I H' H4 := e2.trans (e3.trans e4)
      have l4 : H4 D = some (.lst avs) := x4.1 D _ nD hl
      have d4 : DenA K (fun a => g.I.own a ∨ a = D) H4 avs acc := DenA.keep (x4.1.weak fun a z => .inl z) _ _ da
      cases c with
      | false =>
        rw [if_neg Bool.false_ne_true] at q4 ⊢
        exact ⟨acc, avs, l4, by omega, d4, kp.trans x4.1, x4.2, q4⟩
      | true =>
        rw [if_pos rfl] at q4 ⊢
        refine he ⟨H1, hws⟩ σ3 H4 env3 _ _ (hd3.mono e4) XL.nox q4 fun yv yd H5 e5 dn5 q5 => ?_
        have l5 : H5 D = some (.lst avs) := e5.1 D _ nD l4
        have d5 : DenA K (fun a => g.I.own a ∨ a = D) H5 avs acc := DenA.keep (e5.1.weak fun a z => .inl z) _ _ d4
        have y5 : Den K (fun a => g.I.own a ∨ a = D) H5 yv yd := dn5 (fun a => a = D) fun a z => by rw [z]; exact ⟨nD, avs, l4⟩
        have mu : Kp (fun a => g.I.own a ∨ a = D) H5 (upd H5 D (.lst (avs ++ [yv]))) := Kp.mut (.inr rfl)
        have k5 : Kp g.I.own H1 H5 := kp.trans (x4.1.trans e5.1)
        refine ⟨avs, l5, Nat.lt_of_le_of_lt hal (Nat.lt_of_lt_of_le hlt (Nat.le_trans hlen (by decide))), acc ++ [yd], avs ++ [yv], upd_same, by rw [List.length_append]; simpa using hal, DenA.keep mu _ _ (d5.app (.one y5)), fun a o n e => ?_, ?_, q5⟩
        · rw [upd_ne (ne_of_none e hD)]
          exact k5 a o n e
        · refine g.I.loc H5 _ (fun a f => upd_ne (fun z => ?_)) e5.2
          rw [z] at f
          exact g.I.dom H1 D e1.2 f hD
  · have ei : i = ds.length := by omega
    subst ei
    rw [List.drop_length] at q'
    exact .inl ⟨IT.2, k D avs acc H' hH (e1.trans eH) hl da q'⟩
section
variable {X : Cx} {g : Gx} {elt tg iter : Expr} {ifs : List Expr} {scope : Scope} {own : List (Str × Nat)} {pos : Pos} {gt : TG} {tid : TID} {gd : TGD} {td : TTD} {ed : TED}
theorem f_lcX (hc : X.calm = true) (hN : X.N.Nodup) (hi : PID X g tg iter tid) (ok : BlkOk X.N X.env.scope scope own)
    (hg : ∀ (s : Shared) (H : Hp) (C : Addr) (cl : List (Str × Addr)) (fp : List Addr), PG (X.blk s H scope (compEnvC scope cl C X.env) fp) tg gt) (sg : SG X.K g.nox gt gd) (gw : GW gt (own.map (·.2)))
    (ht : ST X.K g.nox (wBT X scope ifs) td) (he : SX X.K g.nox (wBE X scope elt) ed) (hs : ∀ x, foldedSetIterable iter X.env x = pure x := by intro _; rfl) :
    PFD X g (.ListComp elt [⟨tg, iter, ifs, 0⟩] scope pos) (fLx tid gd td ed (own.map (·.2))) := fun b σ H env Qd Q hd xl hq k pins s J =>
  (pe_lc hc hN pi_w ok hg (fun _ _ _ _ _ => pt_blk) (fun _ _ _ _ _ => pe_blk) hs).run pins s σ H Q J (sf_lcX hi sg gw ht he b σ H env Qd Q hd xl hq k)
end
end Ns
namespace Dl
open PySem PySem.Spec PyProof.Rows L2
abbrev tI (ns : List Int) : D := .tup (ns.map D.int)
/-- a comes ahead of b in the order of lots -/
def lotLt (a b : List Int) : Prop := a.length < b.length ∨ (a.length = b.length ∧ HT.lexLt a b = true)
def C_sorted_lots (K : PySem.W.Frag) : Ct := fun ds Q _ => ∃ (x : D) (xs : List D) (nss : List (List Int)), ds = [x] ∧ seqOf x = some xs ∧ xs.map seqOf = nss.map (fun ns => some (ns.map D.int)) ∧ nss.length < 64 ∧
  ∀ out : List (List Int), (∀ n, n ∈ out ↔ n ∈ nss) → out.Pairwise lotLt → Q (.tup (out.map tI))
theorem ar_sorted_lots (K : PySem.W.Frag) : Ar 1 (C_sorted_lots K) := fun _ _ _ ⟨_, _, _, e, _⟩ => by rw [e]; rfl
end Dl
namespace K02
open PySem PySem.Spec PyProof.Rows L2 Dl Ns
def top (i : Nat) : Stmt := PySem.Challenge.pw_earliestlots_k02_whole_dates_and_lots_ch.main.body.getD i (.Pass ⟨0, 0, 0, 0⟩)
structure Tf (K : PySem.W.Frag) (mg : Str → Option Value) : Prop where
  n_abs : mg "abs" = none
  n_bool : mg "bool" = none
  n_enumerate : mg "enumerate" = none
  n_int : mg "int" = none
  n_isinstance : mg "isinstance" = none
  n_len : mg "len" = none
  n_list : mg "list" = none
  n_range : mg "range" = none
  n_set : mg "set" = none
  n_sorted : mg "sorted" = none
  n_tuple : mg "tuple" = none
  g_BadDates : mg "BadDates" = some (.ref (He.ga K "BadDates"))
  g_BadLot : mg "BadLot" = some (.ref (He.ga K "BadLot"))
  g_DateError : mg "DateError" = some (.ref (He.ga K "DateError"))
def C__law_dates_right (K : PySem.W.Frag) (hd : Addr) : Ct := fun ds Q _ => ds = [.ref hd] ∧ Q (.bl true)
def C__law_lot_right (K : PySem.W.Frag) (hd : Addr) : Ct := fun ds Q _ => ds = [.ref hd] ∧ Q (.bl true)
def C__law_order_right (K : PySem.W.Frag) (hd : Addr) : Ct := fun ds Q _ => ds = [.ref hd] ∧ Q (.bl true)
theorem ar__law_dates_right {K : PySem.W.Frag} (hd : Addr) : Ar 1 (C__law_dates_right K hd) := fun _ _ _ ⟨e, _⟩ => by rw [e]; rfl
theorem ar__law_lot_right {K : PySem.W.Frag} (hd : Addr) : Ar 1 (C__law_lot_right K hd) := fun _ _ _ ⟨e, _⟩ => by rw [e]; rfl
theorem ar__law_order_right {K : PySem.W.Frag} (hd : Addr) : Ar 1 (C__law_order_right K hd) := fun _ _ _ ⟨e, _⟩ => by rw [e]; rfl
abbrev s_is_whole : Stmt := top 5
abbrev N_is_whole : List Str := ["thing", "low", "high"]
theorem sc_is_whole : FnScope N_is_whole ["thing", "low", "high"] (defScope s_is_whole) := ⟨rfl, rfl, rfl, by decide +kernel, rfl, by decide +kernel, by decide +kernel⟩
def d_is_whole (K : PySem.W.Frag) (Ed : DEnv → Exc → Prop) : TSD := sSeq (sIf (dOr (dB (dCB bIsi (dCons (dVar 0) (dCons (dC (.ty "bool")) (dNil))))) (dNot (dB (dCB bIsi (dCons (dVar 0) (dCons (dC (.ty "int")) (dNil))))))) (sRet (dC (.bl false))) (sNext)) (sRet (dAndV (dOrV (dOp (fIs false) (dVar 1) (dC .non)) (dOp fGe (dVar 0) (dVar 1))) (dOrV (dOp (fIs false) (dVar 2) (dC .non)) (dOp fLe (dVar 0) (dVar 2)))))
theorem pd_is_whole {P : Program} {w : World} {K : PySem.W.Frag} {mg : Str → Option Value} {base : Heap} {I : HI} {fa : Addr} {cdv : Value} {A : Around} {outer : List Env} {s : Shared} {H : Hp} {E : XK} {Ed : Exc → Prop} (T : Tf K mg) 
    (hr : Room 1 (A.deeper (envOfC "is_whole" (defScope s_is_whole) s.heap.objs.size fa cdv))) (tk : Takes (cxD P w K mg base N_is_whole "is_whole" (defScope s_is_whole) fa cdv A outer s H E) (gOf I Ed E).W) :
    PSsD (cxD P w K mg base N_is_whole "is_whole" (defScope s_is_whole) fa cdv A outer s H E) (gOf I Ed E) (defBody s_is_whole) (d_is_whole K (gOf I Ed E).Ed) :=
  have nd := sc_is_whole.nd; ds_cons (ds_if (PWD.pt (dt_or (dt_val (d_callB c_isi rfl T.n_isinstance boot_isinstance (da_cons (dv 0) (da_cons (d_ty rfl T.n_bool boot_bool) (da_nil))))) (dt_or1 (dt_not (dt_val (d_callB c_isi rfl T.n_isinstance boot_isinstance (da_cons (dv 0) (da_cons (d_ty rfl T.n_int boot_int) (da_nil))))))))) (ds_one (ds_ret (d_bl))) (ds_nil)) (ds_one (ds_ret (d_and (d_or (d_cmp r_is (dv 1) (d_non) (nomark _)) (d_one (d_cmp r_ge (dv 0) (dv 1) (nomark _)))) (d_one (d_or (d_cmp r_is (dv 2) (d_non) (nomark _)) (d_one (d_cmp r_le (dv 0) (dv 2) (nomark _))))))))
abbrev s_check_dates : Stmt := top 7
abbrev N_check_dates : List Str := ["dates", "size", "most", "index", "date"]
theorem sc_check_dates : FnScope N_check_dates ["dates", "size", "most"] (defScope s_check_dates) := ⟨rfl, rfl, rfl, by decide +kernel, rfl, by decide +kernel, by decide +kernel⟩
def d_check_dates (K : PySem.W.Frag) (Ed : DEnv → Exc → Prop) : TSD := sSeq (sIf (dOr (dNot (dB (dCB bIsi (dCons (dVar 0) (dCons (dTup (dCons (dC (.ty "list")) (dCons (dC (.ty "tuple")) (dNil)))) (dNil)))))) (dTest (dOp fGt (dCB bLen (dCons (dVar 0) (dNil))) (dVar 2)))) (sRaise (He.ga K "BadDates") "index" Ed (dUn (fUn fun i => -i) (dC (.int 1)))) (sNext)) (sSeq (sFor (idEnumV 0) (gdTup [3, 4]) (sIf (dNot (dB (dCall ((C_is_whole K)) [] Ed (dCons (dVar 4) (dCons (dC (.int 0)) (dCons (dOp fSub (dVar 1) (dC (.int 1))) (dNil))))))) (sRaise (He.ga K "BadDates") "index" Ed (dVar 3)) (sNext))) (sRet (dCB bTup (dCons (dVar 0) (dNil)))))
theorem pd_check_dates {P : Program} {w : World} {K : PySem.W.Frag} {mg : Str → Option Value} {base : Heap} {I : HI} {fa : Addr} {cdv : Value} {A : Around} {outer : List Env} {s : Shared} {H : Hp} {E : XK} {Ed : Exc → Prop} (T : Tf K mg) (c_is_whole : Cl P w K mg base I 2 "is_whole" 3 (C_is_whole K) []) (er_BadDates : Er P w K mg base "BadDates" "index")
    (hr : Room 2 (A.deeper (envOfC "check_dates" (defScope s_check_dates) s.heap.objs.size fa cdv))) (tk : Takes (cxD P w K mg base N_check_dates "check_dates" (defScope s_check_dates) fa cdv A outer s H E) (gOf I Ed E).W) :
    PSsD (cxD P w K mg base N_check_dates "check_dates" (defScope s_check_dates) fa cdv A outer s H E) (gOf I Ed E) (defBody s_check_dates) (d_check_dates K (gOf I Ed E).Ed) :=
  have nd := sc_check_dates.nd; ds_cons (ds_if (PWD.pt (dt_or (dt_not (dt_val (d_callB c_isi rfl T.n_isinstance boot_isinstance (da_cons (dv 0) (da_cons (d_tup (da_cons (d_ty rfl T.n_list boot_list) (da_cons (d_ty rfl T.n_tuple boot_tuple) (da_nil)))) (da_nil)))))) (dt_or1 (dt_cmp r_gt (d_callB c_len rfl T.n_len PySem.boot_len (da_cons (dv 0) (da_nil))) (dv 2) (nomark _))))) (ds_one (ds_raiseC er_BadDates rfl hr (by decide) rfl tk (d_neg (d_int)))) (ds_nil)) (ds_cons (ds_for (passes_of rfl) rfl (di_enumV 0 rfl T.n_enumerate) (dg_tup (is := [3, 4]) rfl (pgs_cons (pg_name (i := 3) nd rfl (by first | exact Or.inl rfl | exact Or.inr rfl)) (pgs_cons (pg_name (i := 4) nd rfl (by first | exact Or.inl rfl | exact Or.inr rfl)) (pgs_nil)))) (ds_one (ds_if (dt_not (dt_val (d_callC c_is_whole (ar_is_whole _) hr (by decide) rfl tk (da_cons (dv 4) (da_cons (d_int) (da_cons (d_op r_sub (dv 1) (d_int)) (da_nil))))))) (ds_one (ds_raiseC er_BadDates rfl hr (by decide) rfl tk (dv 3))) (ds_nil)))) (ds_one (ds_ret (d_callTy c_tup rfl T.n_tuple boot_tuple (da_cons (dv 0) (da_nil))))))
abbrev s_unlike_dates : Stmt := top 8
abbrev N_unlike_dates : List Str := ["dates", "index", "date"]
theorem sc_unlike_dates : FnScope N_unlike_dates ["dates"] (defScope s_unlike_dates) := ⟨rfl, rfl, rfl, by decide +kernel, rfl, by decide +kernel, by decide +kernel⟩
def d_unlike_dates (K : PySem.W.Frag) (Ed : DEnv → Exc → Prop) : TSD := sRet (dCB bTup (dCons (dF (fLc (idEnumV 0) (gdTup [1, 2]) (dTest (dOp (fIn true) (dVar 2) (dSl (dVar 0) (dNoP) (dPart (dVar 1))))) (dVar 2) (([("index", 1), ("date", 2)] : List (Str × Nat)).map (·.2)))) (dNil)))
theorem pd_unlike_dates {P : Program} {w : World} {K : PySem.W.Frag} {mg : Str → Option Value} {base : Heap} {I : HI} {fa : Addr} {cdv : Value} {A : Around} {outer : List Env} {s : Shared} {H : Hp} {E : XK} {Ed : Exc → Prop} (T : Tf K mg) 
    (hr : Room 1 (A.deeper (envOfC "unlike_dates" (defScope s_unlike_dates) s.heap.objs.size fa cdv))) (tk : Takes (cxD P w K mg base N_unlike_dates "unlike_dates" (defScope s_unlike_dates) fa cdv A outer s H E) (gOf I Ed E).W) :
    PSsD (cxD P w K mg base N_unlike_dates "unlike_dates" (defScope s_unlike_dates) fa cdv A outer s H E) (gOf I Ed E) (defBody s_unlike_dates) (d_unlike_dates K (gOf I Ed E).Ed) :=
  have nd := sc_unlike_dates.nd; ds_one (ds_ret (d_callTy c_tup rfl T.n_tuple boot_tuple (da_cons (pf_e (f_lc rfl nd (di_enumV 0 rfl T.n_enumerate) (blkOk_by (own := [("index", 1), ("date", 2)]) (N := N_unlike_dates) (sc := defScope s_unlike_dates) (by decide +kernel)) (fun _ _ _ _ _ => pg_tup (t := gNames [1, 2]) (n := 2) rfl (pgs_cons (pg_name (i := 1) nd rfl (by first | exact Or.inl rfl | exact Or.inr rfl)) (pgs_cons (pg_name (i := 2) nd rfl (by first | exact Or.inl rfl | exact Or.inr rfl)) (pgs_nil)))) (sg_tup (is := [1, 2])) (gw_tup (is := [1, 2]) (by decide)) (bt_one (fun _ _ _ _ _ => dt_cmp (r_nin (h65 hr)) (dv 2) (d_slice (dv 0) (do_none) (do_some (dv 1))) (by with_unfolding_all rfl))) (be_of (fun _ _ _ _ _ => dv 2)))) (da_nil))))
abbrev s_check_lot : Stmt := top 9
abbrev N_check_lot : List Str := ["lot", "among", "index", "entry"]
theorem sc_check_lot : FnScope N_check_lot ["lot", "among"] (defScope s_check_lot) := ⟨rfl, rfl, rfl, by decide +kernel, rfl, by decide +kernel, by decide +kernel⟩
def d_check_lot (K : PySem.W.Frag) (Ed : DEnv → Exc → Prop) : TSD := sSeq (sIf (dOr (dNot (dB (dCB bIsi (dCons (dVar 0) (dCons (dTup (dCons (dC (.ty "list")) (dCons (dC (.ty "tuple")) (dNil)))) (dNil)))))) (dTest (dOp (fEq false) (dCB bLen (dCons (dVar 0) (dNil))) (dC (.int 0))))) (sRaise (He.ga K "BadLot") "index" Ed (dUn (fUn fun i => -i) (dC (.int 1)))) (sNext)) (sSeq (sFor (idEnumV 0) (gdTup [2, 3]) (sIf (dOr (dNot (dB (dCall ((C_is_whole K)) [.non, .non] Ed (dCons (dVar 3) (dNil))))) (dOr (dTest (dOp (fIn true) (dVar 3) (dVar 1))) (dTest (dOp (fIn false) (dVar 3) (dSl (dVar 0) (dNoP) (dPart (dVar 2))))))) (sRaise (He.ga K "BadLot") "index" Ed (dVar 2)) (sNext))) (sRet (dCB bTup (dCons (dCB bSort (dCons (dVar 0) (dNil))) (dNil)))))
theorem pd_check_lot {P : Program} {w : World} {K : PySem.W.Frag} {mg : Str → Option Value} {base : Heap} {I : HI} {fa : Addr} {cdv : Value} {A : Around} {outer : List Env} {s : Shared} {H : Hp} {E : XK} {Ed : Exc → Prop} (T : Tf K mg) (c_is_whole_1 : Cl P w K mg base I 2 "is_whole" 3 (C_is_whole K) [.non, .non]) (er_BadLot : Er P w K mg base "BadLot" "index")
    (hr : Room 2 (A.deeper (envOfC "check_lot" (defScope s_check_lot) s.heap.objs.size fa cdv))) (tk : Takes (cxD P w K mg base N_check_lot "check_lot" (defScope s_check_lot) fa cdv A outer s H E) (gOf I Ed E).W) :
    PSsD (cxD P w K mg base N_check_lot "check_lot" (defScope s_check_lot) fa cdv A outer s H E) (gOf I Ed E) (defBody s_check_lot) (d_check_lot K (gOf I Ed E).Ed) :=
  have nd := sc_check_lot.nd; ds_cons (ds_if (PWD.pt (dt_or (dt_not (dt_val (d_callB c_isi rfl T.n_isinstance boot_isinstance (da_cons (dv 0) (da_cons (d_tup (da_cons (d_ty rfl T.n_list boot_list) (da_cons (d_ty rfl T.n_tuple boot_tuple) (da_nil)))) (da_nil)))))) (dt_or1 (dt_cmp (r_eq (h64 hr)) (d_callB c_len rfl T.n_len PySem.boot_len (da_cons (dv 0) (da_nil))) (d_int) (nomark _))))) (ds_one (ds_raiseC er_BadLot rfl hr (by decide) rfl tk (d_neg (d_int)))) (ds_nil)) (ds_cons (ds_for (passes_of rfl) rfl (di_enumV 0 rfl T.n_enumerate) (dg_tup (is := [2, 3]) rfl (pgs_cons (pg_name (i := 2) nd rfl (by first | exact Or.inl rfl | exact Or.inr rfl)) (pgs_cons (pg_name (i := 3) nd rfl (by first | exact Or.inl rfl | exact Or.inr rfl)) (pgs_nil)))) (ds_one (ds_if (PWD.pt (dt_or (dt_not (dt_val (d_callC c_is_whole_1 (ar_is_whole _) hr (by decide) rfl tk (da_cons (dv 3) (da_nil))))) (dt_or (dt_cmp (r_nin (h65 hr)) (dv 3) (dv 1) (by with_unfolding_all rfl)) (dt_or1 (dt_cmp (r_in (h65 hr)) (dv 3) (d_slice (dv 0) (do_none) (do_some (dv 2))) (by with_unfolding_all rfl)))))) (ds_one (ds_raiseC er_BadLot rfl hr (by decide) rfl tk (dv 2))) (ds_nil)))) (ds_one (ds_ret (d_callTy c_tup rfl T.n_tuple boot_tuple (da_cons (d_callB c_sort rfl T.n_sorted boot_sorted (da_cons (dv 0) (da_nil))) (da_nil))))))
abbrev s_lot_key : Stmt := top 10
abbrev N_lot_key : List Str := ["lot"]
theorem sc_lot_key : FnScope N_lot_key ["lot"] (defScope s_lot_key) := ⟨rfl, rfl, rfl, by decide +kernel, rfl, by decide +kernel, by decide +kernel⟩
def d_lot_key (K : PySem.W.Frag) (Ed : DEnv → Exc → Prop) : TSD := sRet (dTup (dCons (dCB bLen (dCons (dVar 0) (dNil))) (dCons (dCB bTup (dCons (dVar 0) (dNil))) (dNil))))
theorem pd_lot_key {P : Program} {w : World} {K : PySem.W.Frag} {mg : Str → Option Value} {base : Heap} {I : HI} {fa : Addr} {cdv : Value} {A : Around} {outer : List Env} {s : Shared} {H : Hp} {E : XK} {Ed : Exc → Prop} (T : Tf K mg) 
    (hr : Room 1 (A.deeper (envOfC "lot_key" (defScope s_lot_key) s.heap.objs.size fa cdv))) (tk : Takes (cxD P w K mg base N_lot_key "lot_key" (defScope s_lot_key) fa cdv A outer s H E) (gOf I Ed E).W) :
    PSsD (cxD P w K mg base N_lot_key "lot_key" (defScope s_lot_key) fa cdv A outer s H E) (gOf I Ed E) (defBody s_lot_key) (d_lot_key K (gOf I Ed E).Ed) :=
  have nd := sc_lot_key.nd; ds_one (ds_ret (d_tup (da_cons (d_callB c_len rfl T.n_len PySem.boot_len (da_cons (dv 0) (da_nil))) (da_cons (d_callTy c_tup rfl T.n_tuple boot_tuple (da_cons (dv 0) (da_nil))) (da_nil)))))
abbrev s_sorted_lots : Stmt := top 11
abbrev N_sorted_lots : List Str := ["lots", "_", "row", "lot"]
theorem sc_sorted_lots : FnScope N_sorted_lots ["lots"] (defScope s_sorted_lots) := ⟨rfl, rfl, rfl, by decide +kernel, rfl, by decide +kernel, by decide +kernel⟩
def d_sorted_lots (K : PySem.W.Frag) (Ed : DEnv → Exc → Prop) : TSD := sRet (dCB bTup (dCons (dF (fLc (idSeq (dSortZ (zSc (idVar 0) (gdName 3) (dYes) (dCall ((C_lot_key K)) [] (fun _ _ => False) (dCons (dVar 3) (dNil))) (([("lot", 3)] : List (Str × Nat)).map (·.2))))) (gdTup [1, 2]) (dYes) (dVar 2) (([("_", 1), ("row", 2)] : List (Str × Nat)).map (·.2)))) (dNil)))
theorem pd_sorted_lots {P : Program} {w : World} {K : PySem.W.Frag} {mg : Str → Option Value} {base : Heap} {I : HI} {fa : Addr} {cdv : Value} {A : Around} {outer : List Env} {s : Shared} {H : Hp} {E : XK} {Ed : Exc → Prop} (T : Tf K mg) (c_lot_key : Cl P w K mg base I 2 "lot_key" 1 (C_lot_key K) [])
    (hr : Room 2 (A.deeper (envOfC "sorted_lots" (defScope s_sorted_lots) s.heap.objs.size fa cdv))) (tk : Takes (cxD P w K mg base N_sorted_lots "sorted_lots" (defScope s_sorted_lots) fa cdv A outer s H E) (gOf I Ed E).W) :
    PSsD (cxD P w K mg base N_sorted_lots "sorted_lots" (defScope s_sorted_lots) fa cdv A outer s H E) (gOf I Ed E) (defBody s_sorted_lots) (d_sorted_lots K (gOf I Ed E).Ed) :=
  have nd := sc_sorted_lots.nd; ds_one (ds_ret (d_callTy c_tup rfl T.n_tuple boot_tuple (da_cons (pf_e (f_lc rfl nd (di_seq (d_sortZ (h64 hr) rfl rfl T.n_sorted (z_sc (h64 hr) rfl nd (di_var 0) (blkOk_by (own := [("lot", 3)]) (N := N_sorted_lots) (sc := defScope s_sorted_lots) (by decide +kernel)) (fun _ _ _ _ _ => pg_name (i := 3) nd rfl (by first | exact Or.inl rfl | exact Or.inr rfl)) sg_name (gw_name (by decide)) bt_nil (be_of (fun _ _ _ _ _ => d_callC c_lot_key (ar_lot_key _) hr (by decide) rfl takes0 (da_cons (dv 3) (da_nil))))))) (blkOk_by (own := [("_", 1), ("row", 2)]) (N := N_sorted_lots) (sc := defScope s_sorted_lots) (by decide +kernel)) (fun _ _ _ _ _ => pg_tup (t := gNames [1, 2]) (n := 2) rfl (pgs_cons (pg_name (i := 1) nd rfl (by first | exact Or.inl rfl | exact Or.inr rfl)) (pgs_cons (pg_name (i := 2) nd rfl (by first | exact Or.inl rfl | exact Or.inr rfl)) (pgs_nil)))) (sg_tup (is := [1, 2])) (gw_tup (is := [1, 2]) (by decide)) bt_nil (be_of (fun _ _ _ _ _ => dv 2)))) (da_nil))))
abbrev s__law_mixed : Stmt := top 14
abbrev N__law_mixed : List Str := ["_law_number", "_law_turn", "_law_once", "_law_twice"]
theorem sc__law_mixed : FnScope N__law_mixed ["_law_number", "_law_turn"] (defScope s__law_mixed) := ⟨rfl, rfl, rfl, by decide +kernel, rfl, by decide +kernel, by decide +kernel⟩
def d__law_mixed (K : PySem.W.Frag) (Ed : DEnv → Exc → Prop) : TSD := sSeq (sAsg 2 (dOp fMod (dCB bInt (dCons (dOp fAdd (dOp fAdd (dOp fMul (dVar 0) (dC (.int 39373))) (dOp fMul (dVar 1) (dC (.int 6151)))) (dC (.int 50021))) (dNil))) (dC (.int 2147483399)))) (sSeq (sAsg 3 (dOp fMod (dCB bInt (dCons (dOp fAdd (dOp fAdd (dOp fMul (dVar 2) (dVar 2)) (dOp fMul (dVar 1) (dC (.int 81071)))) (dOp fDiv (dVar 2) (dC (.int 137)))) (dNil))) (dC (.int 2147483629)))) (sRet (dOp fDiv (dCB bInt (dCons (dOp fMod (dCB bInt (dCons (dOp fAdd (dOp fMul (dVar 3) (dC (.int 62089))) (dOp fDiv (dVar 2) (dC (.int 11)))) (dNil))) (dC (.int 2147483587))) (dNil))) (dC (.int 64)))))
theorem pd__law_mixed {P : Program} {w : World} {K : PySem.W.Frag} {mg : Str → Option Value} {base : Heap} {I : HI} {fa : Addr} {cdv : Value} {A : Around} {outer : List Env} {s : Shared} {H : Hp} {E : XK} {Ed : Exc → Prop} (T : Tf K mg) 
    (hr : Room 1 (A.deeper (envOfC "_law_mixed" (defScope s__law_mixed) s.heap.objs.size fa cdv))) (tk : Takes (cxD P w K mg base N__law_mixed "_law_mixed" (defScope s__law_mixed) fa cdv A outer s H E) (gOf I Ed E).W) :
    PSsD (cxD P w K mg base N__law_mixed "_law_mixed" (defScope s__law_mixed) fa cdv A outer s H E) (gOf I Ed E) (defBody s__law_mixed) (d__law_mixed K (gOf I Ed E).Ed) :=
  have nd := sc__law_mixed.nd; ds_cons (ds_set (i := 2) nd rfl (by first | exact Or.inl rfl | exact Or.inr rfl) (d_op r_mod (d_callTy c_int rfl T.n_int boot_int (da_cons (d_op r_add (d_op r_add (d_op r_mul (dv 0) (d_int)) (d_op r_mul (dv 1) (d_int))) (d_int)) (da_nil))) (d_int))) (ds_cons (ds_set (i := 3) nd rfl (by first | exact Or.inl rfl | exact Or.inr rfl) (d_op r_mod (d_callTy c_int rfl T.n_int boot_int (da_cons (d_op r_add (d_op r_add (d_op r_mul (dv 2) (dv 2)) (d_op r_mul (dv 1) (d_int))) (d_op r_div (dv 2) (d_int))) (da_nil))) (d_int))) (ds_one (ds_ret (d_op r_div (d_callTy c_int rfl T.n_int boot_int (da_cons (d_op r_mod (d_callTy c_int rfl T.n_int boot_int (da_cons (d_op r_add (d_op r_mul (dv 3) (d_int)) (d_op r_div (dv 2) (d_int))) (da_nil))) (d_int)) (da_nil))) (d_int)))))
abbrev s__law_whole : Stmt := top 16
abbrev N__law_whole : List Str := ["_law_thing"]
theorem sc__law_whole : FnScope N__law_whole ["_law_thing"] (defScope s__law_whole) := ⟨rfl, rfl, rfl, by decide +kernel, rfl, by decide +kernel, by decide +kernel⟩
def d__law_whole (K : PySem.W.Frag) (Ed : DEnv → Exc → Prop) : TSD := sRet (dAndV (dCB bIsi (dCons (dVar 0) (dCons (dC (.ty "int")) (dNil)))) (dNotV (dCB bIsi (dCons (dVar 0) (dCons (dC (.ty "bool")) (dNil))))))
theorem pd__law_whole {P : Program} {w : World} {K : PySem.W.Frag} {mg : Str → Option Value} {base : Heap} {I : HI} {fa : Addr} {cdv : Value} {A : Around} {outer : List Env} {s : Shared} {H : Hp} {E : XK} {Ed : Exc → Prop} (T : Tf K mg) 
    (hr : Room 1 (A.deeper (envOfC "_law_whole" (defScope s__law_whole) s.heap.objs.size fa cdv))) (tk : Takes (cxD P w K mg base N__law_whole "_law_whole" (defScope s__law_whole) fa cdv A outer s H E) (gOf I Ed E).W) :
    PSsD (cxD P w K mg base N__law_whole "_law_whole" (defScope s__law_whole) fa cdv A outer s H E) (gOf I Ed E) (defBody s__law_whole) (d__law_whole K (gOf I Ed E).Ed) :=
  have nd := sc__law_whole.nd; ds_one (ds_ret (d_and (d_callB c_isi rfl T.n_isinstance boot_isinstance (da_cons (dv 0) (da_cons (d_ty rfl T.n_int boot_int) (da_nil)))) (d_one (d_not (d_callB c_isi rfl T.n_isinstance boot_isinstance (da_cons (dv 0) (da_cons (d_ty rfl T.n_bool boot_bool) (da_nil))))))))
abbrev s__law_hand : Stmt := top 13
abbrev N__law_hand : List Str := ["_law_script", "_law_total", "_law_cells", "_law_cell"]
theorem sc__law_hand : FnScope N__law_hand ["_law_script"] (defScope s__law_hand) := ⟨rfl, rfl, rfl, by decide +kernel, rfl, by decide +kernel, by decide +kernel⟩
def d__law_hand (K : PySem.W.Frag) (Ed : DEnv → Exc → Prop) : TSD := sSeq (sAsg 1 (dOp fAdd (dCB bLenS (dCons (dVar 0) (dNil))) (dC (.int 43)))) (sSeq (sNew 2 (fLst (dNil))) (sSeq (sFor (idVarS 0) (gdName 3) (sSeq (sAsg 1 (dOp fMod (dCB bInt (dCons (dOp fAdd (dOp fMul (dVar 1) (dC (.int 2003))) (dCB bInt (dCons (dVar 3) (dNil)))) (dNil))) (dC (.int 2147483563)))) (sApp 2 (dCB bAbs (dCons (dCB bInt (dCons (dVar 3) (dNil))) (dNil)))))) (sRet (dLst (dCons (dVar 2) (dCons (dC (.int 0)) (dCons (dC (.int 0)) (dCons (dVar 1) (dNil)))))))))
theorem pd__law_hand {P : Program} {w : World} {K : PySem.W.Frag} {mg : Str → Option Value} {base : Heap} {I : HI} {fa : Addr} {cdv : Value} {A : Around} {outer : List Env} {s : Shared} {H : Hp} {E : XK} {Ed : Exc → Prop} (T : Tf K mg) 
    (hr : Room 1 (A.deeper (envOfC "_law_hand" (defScope s__law_hand) s.heap.objs.size fa cdv))) (tk : Takes (cxD P w K mg base N__law_hand "_law_hand" (defScope s__law_hand) fa cdv A outer s H E) (gOf I Ed E).W) :
    PSsD (cxD P w K mg base N__law_hand "_law_hand" (defScope s__law_hand) fa cdv A outer s H E) (gOf I Ed E) (defBody s__law_hand) (d__law_hand K (gOf I Ed E).Ed) :=
  have nd := sc__law_hand.nd; ds_cons (ds_set (i := 1) nd rfl (by first | exact Or.inl rfl | exact Or.inr rfl) (d_op r_add (d_callB c_lenS rfl T.n_len PySem.boot_len (da_cons (dv 0) (da_nil))) (d_int))) (ds_cons (ds_new (i := 2) nd rfl (by first | exact Or.inl rfl | exact Or.inr rfl) (f_lst (da_nil))) (ds_cons (ds_for (passes_of rfl) rfl (di_varS 0) (dg_name (i := 3) nd rfl (by first | exact Or.inl rfl | exact Or.inr rfl)) (ds_cons (ds_set (i := 1) nd rfl (by first | exact Or.inl rfl | exact Or.inr rfl) (d_op r_mod (d_callTy c_int rfl T.n_int boot_int (da_cons (d_op r_add (d_op r_mul (dv 1) (d_int)) (d_callTy c_int rfl T.n_int boot_int (da_cons (dv 3) (da_nil)))) (da_nil))) (d_int))) (ds_one (ds_app (i := 2) rfl (by first | exact Or.inl rfl | exact Or.inr (Or.inl rfl)) (d_callB c_abs rfl T.n_abs boot_abs (da_cons (d_callTy c_int rfl T.n_int boot_int (da_cons (dv 3) (da_nil))) (da_nil))))))) (ds_one (ds_ret (d_lst (da_cons (dv 2) (da_cons (d_int) (da_cons (d_int) (da_cons (dv 1) (da_nil))))))))))
abbrev s__law_dates_asked : Stmt := top 17
abbrev N__law_dates_asked : List Str := ["_law_dates", "_law_size", "_law_most", "e", "_law_told"]
theorem sc__law_dates_asked : FnScope N__law_dates_asked ["_law_dates", "_law_size", "_law_most"] (defScope s__law_dates_asked) := ⟨rfl, rfl, rfl, by decide +kernel, rfl, by decide +kernel, by decide +kernel⟩
def d__law_dates_asked (K : PySem.W.Frag) (Ed : DEnv → Exc → Prop) : TSD := sSeq (sTry K (.ref (He.ga K "DateError")) 3 (fun Ed => sAsg 4 (dIf (dTest (dOp (fEq false) (dVar 2) (dC (.int 7)))) (dCall ((C_check_dates K)) [.int 7] Ed (dCons (dVar 0) (dCons (dVar 1) (dNil)))) (dCallK ((C_check_dates K)) 2 (["most"] : List Str).length (fun xs ys => xs ++ ((ys.drop 0).take 1)) Ed (dCons (dVar 0) (dCons (dVar 1) (dNil))) (dCons (dVar 2) (dNil))))) (fun a d x => sSeq (sIf (dAnd (dB (dCB (bIsX K a d x) (dCons (dVar 3) (dCons (dC (.ref (He.ga K "BadDates"))) (dNil))))) (dNot (dB (dCB (bIsX K a d x) (dCons (dVar 3) (dCons (dC (.ref (He.ga K "BadLot"))) (dNil))))))) (sRet (dLst (dCons (dC (.int 1)) (dCons (dXf K a d x "index" (dVar 3)) (dNil))))) (sNext)) (sRet (dLst (dCons (dC (.int 2)) (dNil))))) Ed) (sRet (dLst (dCons (dC (.int 0)) (dCons (dVar 4) (dNil)))))
theorem pd__law_dates_asked {P : Program} {w : World} {K : PySem.W.Frag} {mg : Str → Option Value} {base : Heap} {I : HI} {fa : Addr} {cdv : Value} {A : Around} {outer : List Env} {s : Shared} {H : Hp} {E : XK} {Ed : Exc → Prop} (T : Tf K mg) (c_check_dates_2 : Cl P w K mg base I 3 "check_dates" 3 (C_check_dates K) [.int 7]) (ck_check_dates_2_most : ClK P w K mg base I 3 "check_dates" 2 ["most"] 3 (C_check_dates K) (fun xs ys => xs ++ ((ys.drop 0).take 1))) (hnx : I.noXd)
    (hr : Room 3 (A.deeper (envOfC "_law_dates_asked" (defScope s__law_dates_asked) s.heap.objs.size fa cdv))) (tk : Takes (cxD P w K mg base N__law_dates_asked "_law_dates_asked" (defScope s__law_dates_asked) fa cdv A outer s H E) (gOf I Ed E).W) :
    PSsD (cxD P w K mg base N__law_dates_asked "_law_dates_asked" (defScope s__law_dates_asked) fa cdv A outer s H E) (gOf I Ed E) (defBody s__law_dates_asked) (d__law_dates_asked K (gOf I Ed E).Ed) :=
  have nd := sc__law_dates_asked.nd; ds_cons (ds_try (i := 3) rfl rfl nd rfl rfl ⟨rfl, by decide, Or.inl T.g_DateError⟩ tk hnx (fun Ed W pn xe tk po => ds_one (ds_set (i := 4) nd rfl (by first | exact Or.inl rfl | exact Or.inr rfl) (d_ifExp (dt_cmp (r_eq (h64 hr)) (dv 2) (d_int) (nomark _)) (d_callC c_check_dates_2 (ar_check_dates _) hr (by decide) rfl tk (da_cons (dv 0) (da_cons (dv 1) (da_nil)))) (d_callK ck_check_dates_2_most (ar_check_dates _) hr (by decide) rfl tk (da_cons (dv 0) (da_cons (dv 1) (da_nil))) (dk_cons (dv 2) (dk_nil)))))) (fun a oe x d pn hz hv => ds_cons (ds_if (PWD.pt (dt_and (dt_val (d_callB (c_isX hz hv) rfl T.n_isinstance boot_isinstance (da_cons (dv 3) (da_cons (d_glo rfl T.g_BadDates) (da_nil))))) (dt_and1 (dt_not (dt_val (d_callB (c_isX hz hv) rfl T.n_isinstance boot_isinstance (da_cons (dv 3) (da_cons (d_glo rfl T.g_BadLot) (da_nil))))))))) (ds_one (ds_ret (d_lst (da_cons (d_int) (da_cons (d_xf hz hv (dv 3)) (da_nil)))))) (ds_nil)) (ds_one (ds_ret (d_lst (da_cons (d_int) (da_nil))))))) (ds_one (ds_ret (d_lst (da_cons (d_int) (da_cons (dv 4) (da_nil))))))
abbrev s__law_lot_asked : Stmt := top 18
abbrev N__law_lot_asked : List Str := ["_law_lot", "_law_among", "e", "_law_told"]
theorem sc__law_lot_asked : FnScope N__law_lot_asked ["_law_lot", "_law_among"] (defScope s__law_lot_asked) := ⟨rfl, rfl, rfl, by decide +kernel, rfl, by decide +kernel, by decide +kernel⟩
def d__law_lot_asked (K : PySem.W.Frag) (Ed : DEnv → Exc → Prop) : TSD := sSeq (sTry K (.ref (He.ga K "DateError")) 2 (fun Ed => sAsg 3 (dCall ((C_check_lot K)) [] Ed (dCons (dVar 0) (dCons (dVar 1) (dNil))))) (fun a d x => sSeq (sIf (dAnd (dB (dCB (bIsX K a d x) (dCons (dVar 2) (dCons (dC (.ref (He.ga K "BadLot"))) (dNil))))) (dNot (dB (dCB (bIsX K a d x) (dCons (dVar 2) (dCons (dC (.ref (He.ga K "BadDates"))) (dNil))))))) (sRet (dLst (dCons (dC (.int 1)) (dCons (dXf K a d x "index" (dVar 2)) (dNil))))) (sNext)) (sRet (dLst (dCons (dC (.int 2)) (dNil))))) Ed) (sRet (dLst (dCons (dC (.int 0)) (dCons (dVar 3) (dNil)))))
theorem pd__law_lot_asked {P : Program} {w : World} {K : PySem.W.Frag} {mg : Str → Option Value} {base : Heap} {I : HI} {fa : Addr} {cdv : Value} {A : Around} {outer : List Env} {s : Shared} {H : Hp} {E : XK} {Ed : Exc → Prop} (T : Tf K mg) (c_check_lot : Cl P w K mg base I 3 "check_lot" 2 (C_check_lot K) []) (hnx : I.noXd)
    (hr : Room 3 (A.deeper (envOfC "_law_lot_asked" (defScope s__law_lot_asked) s.heap.objs.size fa cdv))) (tk : Takes (cxD P w K mg base N__law_lot_asked "_law_lot_asked" (defScope s__law_lot_asked) fa cdv A outer s H E) (gOf I Ed E).W) :
    PSsD (cxD P w K mg base N__law_lot_asked "_law_lot_asked" (defScope s__law_lot_asked) fa cdv A outer s H E) (gOf I Ed E) (defBody s__law_lot_asked) (d__law_lot_asked K (gOf I Ed E).Ed) :=
  have nd := sc__law_lot_asked.nd; ds_cons (ds_try (i := 2) rfl rfl nd rfl rfl ⟨rfl, by decide, Or.inl T.g_DateError⟩ tk hnx (fun Ed W pn xe tk po => ds_one (ds_set (i := 3) nd rfl (by first | exact Or.inl rfl | exact Or.inr rfl) (d_callC c_check_lot (ar_check_lot _) hr (by decide) rfl tk (da_cons (dv 0) (da_cons (dv 1) (da_nil)))))) (fun a oe x d pn hz hv => ds_cons (ds_if (PWD.pt (dt_and (dt_val (d_callB (c_isX hz hv) rfl T.n_isinstance boot_isinstance (da_cons (dv 2) (da_cons (d_glo rfl T.g_BadLot) (da_nil))))) (dt_and1 (dt_not (dt_val (d_callB (c_isX hz hv) rfl T.n_isinstance boot_isinstance (da_cons (dv 2) (da_cons (d_glo rfl T.g_BadDates) (da_nil))))))))) (ds_one (ds_ret (d_lst (da_cons (d_int) (da_cons (d_xf hz hv (dv 2)) (da_nil)))))) (ds_nil)) (ds_one (ds_ret (d_lst (da_cons (d_int) (da_nil))))))) (ds_one (ds_ret (d_lst (da_cons (d_int) (da_cons (dv 3) (da_nil))))))
abbrev s__law_dates_right : Stmt := top 19
abbrev N__law_dates_right : List Str := ["_law_hand_here", "_law_size", "_law_most", "_law_low", "_law_dates", "_law_kept", "_law_wrong", "_law_numbers", "_law_once", "_law_odd", "_law_due", "_law_k", "_law_at"]
theorem sc__law_dates_right : FnScope N__law_dates_right ["_law_hand_here"] (defScope s__law_dates_right) := ⟨rfl, rfl, rfl, by decide +kernel, rfl, by decide +kernel, by decide +kernel⟩
def d__law_dates_right (K : PySem.W.Frag) (hd : Addr) (Ed : DEnv → Exc → Prop) : TSD := sSeq (sAsg 1 (dCall ((C__law_take hd)) [] Ed (dCons (dVar 0) (dCons (dC (.int 10)) (dNil))))) (sSeq (sAsg 2 (dOp fIx (dLst (dCons (dC (.int 7)) (dCons (dC (.int 7)) (dCons (dC (.int 3)) (dCons (dC (.int 4)) (dCons (dC (.int 9)) (dNil))))))) (dCall ((C__law_take hd)) [] Ed (dCons (dVar 0) (dCons (dC (.int 5)) (dNil)))))) (sSeq (sAsg 3 (dOp fDiv (dCall ((C__law_take hd)) [] Ed (dCons (dVar 0) (dCons (dC (.int 4)) (dNil)))) (dC (.int 3)))) (sSeq (sNew 4 (fLc (idRng1 (dCons (dIf (dTest (dOp fGt (dVar 1) (dC (.int 0)))) (dCall ((C__law_take hd)) [] Ed (dCons (dVar 0) (dCons (dC (.int 10)) (dNil)))) (dVar 3)) (dNil))) (gdName 11) (dYes) (dCall ((C__law_take hd)) [] (fun _ _ => False) (dCons (dVar 0) (dCons (dOp fAdd (dVar 1) (dVar 3)) (dNil)))) (([("_law_k", 11)] : List (Str × Nat)).map (·.2)))) (sSeq (sIf (dAnd (dTest (dOp fGt (dCB bLen (dCons (dVar 4) (dNil))) (dC (.int 0)))) (dTest (dOp (fEq false) (dCall ((C__law_take hd)) [] Ed (dCons (dVar 0) (dCons (dC (.int 4)) (dNil)))) (dC (.int 0))))) (sSeq (sNew 9 (fLst (dCons (dUn (fUn fun i => -i) (dC (.int 1))) (dCons (dVar 1) (dCons (dC (.bl true)) (dCons (dC .non) (dCons (dC (.str "0")) (dCons (dOp fPow (dC (.int 10)) (dC (.int 20))) (dNil))))))))) (sSetIx 4 (dOp fIx (dVar 9) (dCall ((C__law_take hd)) [] Ed (dCons (dVar 0) (dCons (dCB bLen (dCons (dVar 9) (dNil))) (dNil))))) (dCall ((C__law_take hd)) [] Ed (dCons (dVar 0) (dCons (dCB bLen (dCons (dVar 4) (dNil))) (dNil)))))) (sNext)) (sSeq (sNew 5 (fListOf (dVar 4))) (sSeq (sNew 6 (fLc (idRng1 (dCons (dCB bLen (dCons (dVar 4) (dNil))) (dNil))) (gdName 12) (dOr (dNot (dB (dCall ((C__law_whole K)) [] (fun _ _ => False) (dCons (dOp fIx (dVar 4) (dVar 12)) (dNil))))) (dOr (dTest (dOp fLt (dOp fIx (dVar 4) (dVar 12)) (dC (.int 0)))) (dTest (dOp fGe (dOp fIx (dVar 4) (dVar 12)) (dVar 1))))) (dVar 12) (([("_law_at", 12)] : List (Str × Nat)).map (·.2)))) (sSeq (sIf (dTest (dOp fGt (dCB bLen (dCons (dVar 4) (dNil))) (dVar 2))) (sNew 10 (fLst (dCons (dC (.int 1)) (dCons (dUn (fUn fun i => -i) (dC (.int 1))) (dNil))))) (sIf (dTest (dOp fGt (dCB bLen (dCons (dVar 6) (dNil))) (dC (.int 0)))) (sNew 10 (fLst (dCons (dC (.int 1)) (dCons (dOp fIx (dVar 6) (dC (.int 0))) (dNil))))) (sNew 10 (fLst (dCons (dC (.int 0)) (dCons (dCB bTup (dCons (dVar 4) (dNil))) (dNil))))))) (sSeq (sIf (dOr (dTest (dOp (fEq true) (dCall ((C__law_dates_asked K)) [] Ed (dCons (dVar 4) (dCons (dVar 1) (dCons (dVar 2) (dNil))))) (dVar 10))) (dOr (dTest (dOp (fEq true) (dCall ((C__law_dates_asked K)) [] Ed (dCons (dCB bTup (dCons (dVar 4) (dNil))) (dCons (dVar 1) (dCons (dVar 2) (dNil))))) (dVar 10))) (dTest (dOp (fEq true) (dVar 4) (dVar 5))))) (sRet (dC (.bl false))) (sNext)) (sSeq (sNew 7 (fLc (idRng1 (dCons (dCall ((C__law_take hd)) [] Ed (dCons (dVar 0) (dCons (dC (.int 10)) (dNil)))) (dNil))) (gdName 11) (dYes) (dCall ((C__law_take hd)) [] (fun _ _ => False) (dCons (dVar 0) (dCons (dC (.int 5)) (dNil)))) (([("_law_k", 11)] : List (Str × Nat)).map (·.2)))) (sSeq (sNew 8 (fLc (idRng1 (dCons (dCB bLen (dCons (dVar 7) (dNil))) (dNil))) (gdName 12) (dTest (dOp (fIn true) (dOp fIx (dVar 7) (dVar 12)) (dSl (dVar 7) (dNoP) (dPart (dVar 12))))) (dOp fIx (dVar 7) (dVar 12)) (([("_law_at", 12)] : List (Str × Nat)).map (·.2)))) (sRet (dAndV (dOp (fEq false) (dCall ((C_unlike_dates K)) [] Ed (dCons (dCB bLst (dCons (dVar 7) (dNil))) (dNil))) (dCB bTup (dCons (dVar 8) (dNil)))) (dOp (fEq false) (dCall ((C__law_dates_asked K)) [] Ed (dCons (dC .non) (dCons (dVar 1) (dCons (dVar 2) (dNil))))) (dLst (dCons (dC (.int 1)) (dCons (dUn (fUn fun i => -i) (dC (.int 1))) (dNil)))))))))))))))))
theorem pd__law_dates_right {P : Program} {w : World} {K : PySem.W.Frag} {mg : Str → Option Value} {base : Heap} {I : HI} {fa : Addr} {hd : Addr} {cdv : Value} {A : Around} {outer : List Env} {s : Shared} {H : Hp} {E : XK} {Ed : Exc → Prop} (T : Tf K mg) (c__law_dates_asked : Cl P w K mg base I 4 "_law_dates_asked" 3 (C__law_dates_asked K) []) (c__law_take : Cl P w K mg base I 3 "_law_take" 2 (C__law_take hd) []) (c__law_whole : Cl P w K mg base I 2 "_law_whole" 1 (C__law_whole K) []) (c_unlike_dates : Cl P w K mg base I 2 "unlike_dates" 1 (C_unlike_dates K) [])
    (hr : Room 4 (A.deeper (envOfC "_law_dates_right" (defScope s__law_dates_right) s.heap.objs.size fa cdv))) (tk : Takes (cxD P w K mg base N__law_dates_right "_law_dates_right" (defScope s__law_dates_right) fa cdv A outer s H E) (gOf I Ed E).W) :
    PSsD (cxD P w K mg base N__law_dates_right "_law_dates_right" (defScope s__law_dates_right) fa cdv A outer s H E) (gOf I Ed E) (defBody s__law_dates_right) (d__law_dates_right K hd (gOf I Ed E).Ed) :=
  have nd := sc__law_dates_right.nd; ds_cons (ds_set (i := 1) nd rfl (by first | exact Or.inl rfl | exact Or.inr rfl) (d_callC c__law_take (ar__law_take _) hr (by decide) rfl tk (da_cons (dv 0) (da_cons (d_int) (da_nil))))) (ds_cons (ds_set (i := 2) nd rfl (by first | exact Or.inl rfl | exact Or.inr rfl) (d_ix (d_lst (da_cons (d_int) (da_cons (d_int) (da_cons (d_int) (da_cons (d_int) (da_cons (d_int) (da_nil))))))) (d_callC c__law_take (ar__law_take _) hr (by decide) rfl tk (da_cons (dv 0) (da_cons (d_int) (da_nil)))))) (ds_cons (ds_set (i := 3) nd rfl (by first | exact Or.inl rfl | exact Or.inr rfl) (d_op r_div (d_callC c__law_take (ar__law_take _) hr (by decide) rfl tk (da_cons (dv 0) (da_cons (d_int) (da_nil)))) (d_int))) (ds_cons (ds_new (i := 4) nd rfl (by first | exact Or.inl rfl | exact Or.inr rfl) (f_lc rfl nd (di_range1 rfl T.n_range (da_cons (d_ifExp (dt_cmp r_gt (dv 1) (d_int) (nomark _)) (d_callC c__law_take (ar__law_take _) hr (by decide) rfl tk (da_cons (dv 0) (da_cons (d_int) (da_nil)))) (dv 3)) (da_nil))) (blkOk_by (own := [("_law_k", 11)]) (N := N__law_dates_right) (sc := defScope s__law_dates_right) (by decide +kernel)) (fun _ _ _ _ _ => pg_name (i := 11) nd rfl (by first | exact Or.inl rfl | exact Or.inr rfl)) sg_name (gw_name (by decide)) bt_nil (be_of (fun _ _ _ _ _ => d_callC c__law_take (ar__law_take _) hr (by decide) rfl takes0 (da_cons (dv 0) (da_cons (d_op r_add (dv 1) (dv 3)) (da_nil))))))) (ds_cons (ds_if (PWD.pt (dt_and (dt_cmp r_gt (d_callB c_len rfl T.n_len PySem.boot_len (da_cons (dv 4) (da_nil))) (d_int) (nomark _)) (dt_and1 (dt_cmp (r_eq (h64 hr)) (d_callC c__law_take (ar__law_take _) hr (by decide) rfl tk (da_cons (dv 0) (da_cons (d_int) (da_nil)))) (d_int) (nomark _))))) (ds_cons (ds_new (i := 9) nd rfl (by first | exact Or.inl rfl | exact Or.inr rfl) (f_lst (da_cons (d_neg (d_int)) (da_cons (dv 1) (da_cons (d_bl) (da_cons (d_non) (da_cons (d_str) (da_cons (d_op r_pow (d_int) (d_int)) (da_nil))))))))) (ds_one (ds_setIx (i := 4) rfl (by first | exact Or.inl rfl | exact Or.inr (Or.inl rfl)) (by decide) (by decide) (d_ix (dv 9) (d_callC c__law_take (ar__law_take _) hr (by decide) rfl tk (da_cons (dv 0) (da_cons (d_callB c_len rfl T.n_len PySem.boot_len (da_cons (dv 9) (da_nil))) (da_nil))))) (d_callC c__law_take (ar__law_take _) hr (by decide) rfl tk (da_cons (dv 0) (da_cons (d_callB c_len rfl T.n_len PySem.boot_len (da_cons (dv 4) (da_nil))) (da_nil)))) (hsub := pg_sub (pv 4) pe_w set_list)))) (ds_nil)) (ds_cons (ds_new (i := 5) nd rfl (by first | exact Or.inl rfl | exact Or.inr rfl) (f_listOf rfl T.n_list boot_list (dv 4))) (ds_cons (ds_lcN (i := 6) rfl nd rfl rfl (sw_true rfl rfl rfl (by decide +kernel)) (di_range1 rfl T.n_range (da_cons (d_callB c_len rfl T.n_len PySem.boot_len (da_cons (dv 4) (da_nil))) (da_nil))) (blkOk_by (own := [("_law_at", 12)]) (N := N__law_dates_right) (sc := defScope s__law_dates_right) (by decide +kernel)) (fun _ _ _ _ _ => pg_name (i := 12) nd rfl (by first | exact Or.inl rfl | exact Or.inr rfl)) sg_name (gw_name (by decide)) (bt_one (fun _ _ _ _ _ => PWD.pt (dt_or (dt_not (dt_val (d_callC c__law_whole (ar__law_whole _) hr (by decide) rfl takes0 (da_cons (d_ix (dv 4) (dv 12)) (da_nil))))) (dt_or (dt_cmp (r_lt hr.units0) (d_ix (dv 4) (dv 12)) (d_int) (nomark _)) (dt_or1 (dt_cmp r_ge (d_ix (dv 4) (dv 12)) (dv 1) (nomark _))))))) (be_of (fun _ _ _ _ _ => dv 12))) (ds_cons (ds_if (dt_cmp r_gt (d_callB c_len rfl T.n_len PySem.boot_len (da_cons (dv 4) (da_nil))) (dv 2) (nomark _)) (ds_one (ds_new (i := 10) nd rfl (by first | exact Or.inl rfl | exact Or.inr rfl) (f_lst (da_cons (d_int) (da_cons (d_neg (d_int)) (da_nil)))))) (ds_one (ds_if (dt_cmp r_gt (d_callB c_len rfl T.n_len PySem.boot_len (da_cons (dv 6) (da_nil))) (d_int) (nomark _)) (ds_one (ds_new (i := 10) nd rfl (by first | exact Or.inl rfl | exact Or.inr rfl) (f_lst (da_cons (d_int) (da_cons (d_ix (dv 6) (d_int)) (da_nil)))))) (ds_one (ds_new (i := 10) nd rfl (by first | exact Or.inl rfl | exact Or.inr rfl) (f_lst (da_cons (d_int) (da_cons (d_callTy c_tup rfl T.n_tuple boot_tuple (da_cons (dv 4) (da_nil))) (da_nil))))))))) (ds_cons (ds_if (PWD.pt (dt_or (dt_cmp (r_ne (h64 hr)) (d_callC c__law_dates_asked (ar__law_dates_asked _) hr (by decide) rfl tk (da_cons (dv 4) (da_cons (dv 1) (da_cons (dv 2) (da_nil))))) (dv 10) (nomark _)) (dt_or (dt_cmp (r_ne (h64 hr)) (d_callC c__law_dates_asked (ar__law_dates_asked _) hr (by decide) rfl tk (da_cons (d_callTy c_tup rfl T.n_tuple boot_tuple (da_cons (dv 4) (da_nil))) (da_cons (dv 1) (da_cons (dv 2) (da_nil))))) (dv 10) (nomark _)) (dt_or1 (dt_cmp (r_ne (h64 hr)) (dv 4) (dv 5) (nomark _)))))) (ds_one (ds_ret (d_bl))) (ds_nil)) (ds_cons (ds_new (i := 7) nd rfl (by first | exact Or.inl rfl | exact Or.inr rfl) (f_lc rfl nd (di_range1 rfl T.n_range (da_cons (d_callC c__law_take (ar__law_take _) hr (by decide) rfl tk (da_cons (dv 0) (da_cons (d_int) (da_nil)))) (da_nil))) (blkOk_by (own := [("_law_k", 11)]) (N := N__law_dates_right) (sc := defScope s__law_dates_right) (by decide +kernel)) (fun _ _ _ _ _ => pg_name (i := 11) nd rfl (by first | exact Or.inl rfl | exact Or.inr rfl)) sg_name (gw_name (by decide)) bt_nil (be_of (fun _ _ _ _ _ => d_callC c__law_take (ar__law_take _) hr (by decide) rfl takes0 (da_cons (dv 0) (da_cons (d_int) (da_nil))))))) (ds_cons (ds_lcN (i := 8) rfl nd rfl rfl (sw_true rfl rfl rfl (by decide +kernel)) (di_range1 rfl T.n_range (da_cons (d_callB c_len rfl T.n_len PySem.boot_len (da_cons (dv 7) (da_nil))) (da_nil))) (blkOk_by (own := [("_law_at", 12)]) (N := N__law_dates_right) (sc := defScope s__law_dates_right) (by decide +kernel)) (fun _ _ _ _ _ => pg_name (i := 12) nd rfl (by first | exact Or.inl rfl | exact Or.inr rfl)) sg_name (gw_name (by decide)) (bt_one (fun _ _ _ _ _ => dt_cmp (r_nin (h65 hr)) (d_ix (dv 7) (dv 12)) (d_slice (dv 7) (do_none) (do_some (dv 12))) (by with_unfolding_all rfl))) (be_of (fun _ _ _ _ _ => d_ix (dv 7) (dv 12)))) (ds_one (ds_ret (d_and (d_cmp (r_eq (h64 hr)) (d_callC c_unlike_dates (ar_unlike_dates _) hr (by decide) rfl tk (da_cons (d_callTy c_lst rfl T.n_list boot_list (da_cons (dv 7) (da_nil))) (da_nil))) (d_callTy c_tup rfl T.n_tuple boot_tuple (da_cons (dv 8) (da_nil))) (nomark _)) (d_one (d_cmp (r_eq (h64 hr)) (d_callC c__law_dates_asked (ar__law_dates_asked _) hr (by decide) rfl tk (da_cons (d_non) (da_cons (dv 1) (da_cons (dv 2) (da_nil))))) (d_lst (da_cons (d_int) (da_cons (d_neg (d_int)) (da_nil)))) (nomark _))))))))))))))))
abbrev s__law_lot_right : Stmt := top 20
abbrev N__law_lot_right : List Str := ["_law_hand_here", "_law_among", "_law_lot", "_law_k", "_law_kept", "_law_due", "_law_odd", "_law_wrong", "_law_at", "_law_entry", "_law_strange", "_law_one"]
theorem sc__law_lot_right : FnScope N__law_lot_right ["_law_hand_here"] (defScope s__law_lot_right) := ⟨rfl, rfl, rfl, by decide +kernel, rfl, by decide +kernel, by decide +kernel⟩
def d__law_lot_right (K : PySem.W.Frag) (hd : Addr) (Ed : DEnv → Exc → Prop) : TSD := sSeq (sNew 1 (fLc (idRng1 (dCons (dCall ((C__law_take hd)) [] Ed (dCons (dVar 0) (dCons (dC (.int 8)) (dNil)))) (dNil))) (gdName 3) (dTest (dOp fGt (dCall ((C__law_take hd)) [] (fun _ _ => False) (dCons (dVar 0) (dCons (dC (.int 3)) (dNil)))) (dC (.int 0)))) (dVar 3) (([("_law_k", 3)] : List (Str × Nat)).map (·.2)))) (sSeq (sNew 2 (fLst (dNil))) (sSeq (sFor (idRng1 (dCons (dCall ((C__law_take hd)) [] Ed (dCons (dVar 0) (dCons (dC (.int 7)) (dNil)))) (dNil))) (gdName 3) (sIf (dTest (dOp fGt (dCB bLen (dCons (dVar 1) (dNil))) (dC (.int 0)))) (sSeq (sAsg 9 (dOp fIx (dVar 1) (dCall ((C__law_take hd)) [] Ed (dCons (dVar 0) (dCons (dCB bLen (dCons (dVar 1) (dNil))) (dNil)))))) (sIf (dOr (dTest (dOp (fIn true) (dVar 9) (dVar 2))) (dTest (dOp (fEq false) (dCall ((C__law_take hd)) [] Ed (dCons (dVar 0) (dCons (dC (.int 8)) (dNil)))) (dC (.int 0))))) (sApp 2 (dVar 9)) (sNext))) (sNext))) (sSeq (sIf (dTest (dOp (fEq false) (dCall ((C__law_take hd)) [] Ed (dCons (dVar 0) (dCons (dC (.int 4)) (dNil)))) (dC (.int 0)))) (sSeq (sNew 6 (fLst (dCons (dUn (fUn fun i => -i) (dC (.int 1))) (dCons (dC (.int 8)) (dCons (dC (.bl true)) (dCons (dC .non) (dCons (dC (.str "0")) (dCons (dC (.int 3)) (dNil))))))))) (sIns 2 (dCall ((C__law_take hd)) [] Ed (dCons (dVar 0) (dCons (dOp fAdd (dCB bLen (dCons (dVar 2) (dNil))) (dC (.int 1))) (dNil)))) (dOp fIx (dVar 6) (dCall ((C__law_take hd)) [] Ed (dCons (dVar 0) (dCons (dCB bLen (dCons (dVar 6) (dNil))) (dNil))))))) (sNext)) (sSeq (sNew 4 (fListOf (dVar 2))) (sSeq (sNew 5 (fLst (dCons (dC (.int 1)) (dCons (dUn (fUn fun i => -i) (dC (.int 1))) (dNil))))) (sSeq (sIf (dTest (dOp fGt (dCB bLen (dCons (dVar 2) (dNil))) (dC (.int 0)))) (sSeq (sNew 7 (fLst (dNil))) (sSeq (sFor (idRng1 (dCons (dCB bLen (dCons (dVar 2) (dNil))) (dNil))) (gdName 8) (sSeq (sAsg 10 (dOrV (dNotV (dCall ((C__law_whole K)) [] Ed (dCons (dOp fIx (dVar 2) (dVar 8)) (dNil)))) (dOp (fIn true) (dOp fIx (dVar 2) (dVar 8)) (dVar 1)))) (sIf (dOr (dTru (dVar 10)) (dTest (dOp fGt (dCB bLen (dCons (dF (fLc (idSeq (dSl (dVar 2) (dNoP) (dPart (dVar 8)))) (gdName 11) (dAnd (dB (dCall ((C__law_whole K)) [] (fun _ _ => False) (dCons (dVar 11) (dNil)))) (dTest (dOp (fEq false) (dVar 11) (dOp fIx (dVar 2) (dVar 8))))) (dVar 11) (([("_law_one", 11)] : List (Str × Nat)).map (·.2)))) (dNil))) (dC (.int 0))))) (sApp 7 (dVar 8)) (sNext)))) (sNew 5 (dIfF (dTest (dOp (fEq false) (dCB bLen (dCons (dVar 7) (dNil))) (dC (.int 0)))) (fLst (dCons (dC (.int 0)) (dCons (dCB bTup (dCons (dCB bSort (dCons (dVar 2) (dNil))) (dNil))) (dNil)))) (fLst (dCons (dC (.int 1)) (dCons (dOp fIx (dVar 7) (dC (.int 0))) (dNil)))))))) (sNext)) (sSeq (sIf (dOr (dTest (dOp (fEq true) (dCall ((C__law_lot_asked K)) [] Ed (dCons (dVar 2) (dCons (dCB bLst (dCons (dVar 1) (dNil))) (dNil)))) (dVar 5))) (dOr (dTest (dOp (fEq true) (dCall ((C__law_lot_asked K)) [] Ed (dCons (dCB bTup (dCons (dVar 2) (dNil))) (dCons (dCB bTup (dCons (dVar 1) (dNil))) (dNil)))) (dVar 5))) (dTest (dOp (fEq true) (dVar 2) (dVar 4))))) (sRet (dC (.bl false))) (sNext)) (sRet (dAndV (dOp (fEq false) (dCall ((C__law_lot_asked K)) [] Ed (dCons (dC (.int 5)) (dCons (dVar 1) (dNil)))) (dLst (dCons (dC (.int 1)) (dCons (dUn (fUn fun i => -i) (dC (.int 1))) (dNil))))) (dOp (fEq false) (dCall ((C__law_lot_asked K)) [] Ed (dCons (dTup (dNil)) (dCons (dVar 1) (dNil)))) (dLst (dCons (dC (.int 1)) (dCons (dUn (fUn fun i => -i) (dC (.int 1))) (dNil))))))))))))))
theorem pd__law_lot_right {P : Program} {w : World} {K : PySem.W.Frag} {mg : Str → Option Value} {base : Heap} {I : HI} {fa : Addr} {hd : Addr} {cdv : Value} {A : Around} {outer : List Env} {s : Shared} {H : Hp} {E : XK} {Ed : Exc → Prop} (T : Tf K mg) (c__law_lot_asked : Cl P w K mg base I 4 "_law_lot_asked" 2 (C__law_lot_asked K) []) (c__law_take : Cl P w K mg base I 3 "_law_take" 2 (C__law_take hd) []) (c__law_whole : Cl P w K mg base I 2 "_law_whole" 1 (C__law_whole K) [])
    (hr : Room 4 (A.deeper (envOfC "_law_lot_right" (defScope s__law_lot_right) s.heap.objs.size fa cdv))) (tk : Takes (cxD P w K mg base N__law_lot_right "_law_lot_right" (defScope s__law_lot_right) fa cdv A outer s H E) (gOf I Ed E).W) :
    PSsD (cxD P w K mg base N__law_lot_right "_law_lot_right" (defScope s__law_lot_right) fa cdv A outer s H E) (gOf I Ed E) (defBody s__law_lot_right) (d__law_lot_right K hd (gOf I Ed E).Ed) :=
  have nd := sc__law_lot_right.nd; ds_cons (ds_lcN (i := 1) rfl nd rfl rfl (sw_true rfl rfl rfl (by decide +kernel)) (di_range1 rfl T.n_range (da_cons (d_callC c__law_take (ar__law_take _) hr (by decide) rfl tk (da_cons (dv 0) (da_cons (d_int) (da_nil)))) (da_nil))) (blkOk_by (own := [("_law_k", 3)]) (N := N__law_lot_right) (sc := defScope s__law_lot_right) (by decide +kernel)) (fun _ _ _ _ _ => pg_name (i := 3) nd rfl (by first | exact Or.inl rfl | exact Or.inr rfl)) sg_name (gw_name (by decide)) (bt_one (fun _ _ _ _ _ => dt_cmp r_gt (d_callC c__law_take (ar__law_take _) hr (by decide) rfl takes0 (da_cons (dv 0) (da_cons (d_int) (da_nil)))) (d_int) (nomark _))) (be_of (fun _ _ _ _ _ => dv 3))) (ds_cons (ds_new (i := 2) nd rfl (by first | exact Or.inl rfl | exact Or.inr rfl) (f_lst (da_nil))) (ds_cons (ds_for (passes_of rfl) rfl (di_range1 rfl T.n_range (da_cons (d_callC c__law_take (ar__law_take _) hr (by decide) rfl tk (da_cons (dv 0) (da_cons (d_int) (da_nil)))) (da_nil))) (dg_name (i := 3) nd rfl (by first | exact Or.inl rfl | exact Or.inr rfl)) (ds_one (ds_if (dt_cmp r_gt (d_callB c_len rfl T.n_len PySem.boot_len (da_cons (dv 1) (da_nil))) (d_int) (nomark _)) (ds_cons (ds_set (i := 9) nd rfl (by first | exact Or.inl rfl | exact Or.inr rfl) (d_ix (dv 1) (d_callC c__law_take (ar__law_take _) hr (by decide) rfl tk (da_cons (dv 0) (da_cons (d_callB c_len rfl T.n_len PySem.boot_len (da_cons (dv 1) (da_nil))) (da_nil)))))) (ds_one (ds_if (PWD.pt (dt_or (dt_cmp (r_nin (h65 hr)) (dv 9) (dv 2) (by with_unfolding_all rfl)) (dt_or1 (dt_cmp (r_eq (h64 hr)) (d_callC c__law_take (ar__law_take _) hr (by decide) rfl tk (da_cons (dv 0) (da_cons (d_int) (da_nil)))) (d_int) (nomark _))))) (ds_one (ds_app (i := 2) rfl (by first | exact Or.inl rfl | exact Or.inr (Or.inl rfl)) (dv 9))) (ds_nil)))) (ds_nil)))) (ds_cons (ds_if (dt_cmp (r_eq (h64 hr)) (d_callC c__law_take (ar__law_take _) hr (by decide) rfl tk (da_cons (dv 0) (da_cons (d_int) (da_nil)))) (d_int) (nomark _)) (ds_cons (ds_new (i := 6) nd rfl (by first | exact Or.inl rfl | exact Or.inr rfl) (f_lst (da_cons (d_neg (d_int)) (da_cons (d_int) (da_cons (d_bl) (da_cons (d_non) (da_cons (d_str) (da_cons (d_int) (da_nil))))))))) (ds_one (ds_ins (i := 2) rfl (by first | exact Or.inl rfl | exact Or.inr (Or.inl rfl)) (d_callC c__law_take (ar__law_take _) hr (by decide) rfl tk (da_cons (dv 0) (da_cons (d_op r_add (d_callB c_len rfl T.n_len PySem.boot_len (da_cons (dv 2) (da_nil))) (d_int)) (da_nil)))) (d_ix (dv 6) (d_callC c__law_take (ar__law_take _) hr (by decide) rfl tk (da_cons (dv 0) (da_cons (d_callB c_len rfl T.n_len PySem.boot_len (da_cons (dv 6) (da_nil))) (da_nil)))))))) (ds_nil)) (ds_cons (ds_new (i := 4) nd rfl (by first | exact Or.inl rfl | exact Or.inr rfl) (f_listOf rfl T.n_list boot_list (dv 2))) (ds_cons (ds_new (i := 5) nd rfl (by first | exact Or.inl rfl | exact Or.inr rfl) (f_lst (da_cons (d_int) (da_cons (d_neg (d_int)) (da_nil))))) (ds_cons (ds_if (dt_cmp r_gt (d_callB c_len rfl T.n_len PySem.boot_len (da_cons (dv 2) (da_nil))) (d_int) (nomark _)) (ds_cons (ds_new (i := 7) nd rfl (by first | exact Or.inl rfl | exact Or.inr rfl) (f_lst (da_nil))) (ds_cons (ds_for (passes_of rfl) rfl (di_range1 rfl T.n_range (da_cons (d_callB c_len rfl T.n_len PySem.boot_len (da_cons (dv 2) (da_nil))) (da_nil))) (dg_name (i := 8) nd rfl (by first | exact Or.inl rfl | exact Or.inr rfl)) (ds_cons (ds_set (i := 10) nd rfl (by first | exact Or.inl rfl | exact Or.inr rfl) (d_or (d_not (d_callC c__law_whole (ar__law_whole _) hr (by decide) rfl tk (da_cons (d_ix (dv 2) (dv 8)) (da_nil)))) (d_one (d_cmp (r_nin (h65 hr)) (d_ix (dv 2) (dv 8)) (dv 1) (by with_unfolding_all rfl))))) (ds_one (ds_if (PWD.pt (dt_or (dt_tru (dv 10)) (dt_or1 (dt_cmp r_gt (d_callB c_len rfl T.n_len PySem.boot_len (da_cons (pf_e (f_lc rfl nd (di_seq (d_slice (dv 2) (do_none) (do_some (dv 8)))) (blkOk_by (own := [("_law_one", 11)]) (N := N__law_lot_right) (sc := defScope s__law_lot_right) (by decide +kernel)) (fun _ _ _ _ _ => pg_name (i := 11) nd rfl (by first | exact Or.inl rfl | exact Or.inr rfl)) sg_name (gw_name (by decide)) (bt_one (fun _ _ _ _ _ => PWD.pt (dt_and (dt_val (d_callC c__law_whole (ar__law_whole _) hr (by decide) rfl takes0 (da_cons (dv 11) (da_nil)))) (dt_and1 (dt_cmp (r_eq (h64 hr)) (dv 11) (d_ix (dv 2) (dv 8)) (nomark _)))))) (be_of (fun _ _ _ _ _ => dv 11)))) (da_nil))) (d_int) (nomark _))))) (ds_one (ds_app (i := 7) rfl (by first | exact Or.inl rfl | exact Or.inr (Or.inl rfl)) (dv 8))) (ds_nil))))) (ds_one (ds_new (i := 5) nd rfl (by first | exact Or.inl rfl | exact Or.inr rfl) (f_if (dt_cmp (r_eq (h64 hr)) (d_callB c_len rfl T.n_len PySem.boot_len (da_cons (dv 7) (da_nil))) (d_int) (nomark _)) (f_lst (da_cons (d_int) (da_cons (d_callTy c_tup rfl T.n_tuple boot_tuple (da_cons (d_callB c_sort rfl T.n_sorted boot_sorted (da_cons (dv 2) (da_nil))) (da_nil))) (da_nil)))) (f_lst (da_cons (d_int) (da_cons (d_ix (dv 7) (d_int)) (da_nil))))))))) (ds_nil)) (ds_cons (ds_if (PWD.pt (dt_or (dt_cmp (r_ne (h64 hr)) (d_callC c__law_lot_asked (ar__law_lot_asked _) hr (by decide) rfl tk (da_cons (dv 2) (da_cons (d_callTy c_lst rfl T.n_list boot_list (da_cons (dv 1) (da_nil))) (da_nil)))) (dv 5) (nomark _)) (dt_or (dt_cmp (r_ne (h64 hr)) (d_callC c__law_lot_asked (ar__law_lot_asked _) hr (by decide) rfl tk (da_cons (d_callTy c_tup rfl T.n_tuple boot_tuple (da_cons (dv 2) (da_nil))) (da_cons (d_callTy c_tup rfl T.n_tuple boot_tuple (da_cons (dv 1) (da_nil))) (da_nil)))) (dv 5) (nomark _)) (dt_or1 (dt_cmp (r_ne (h64 hr)) (dv 2) (dv 4) (nomark _)))))) (ds_one (ds_ret (d_bl))) (ds_nil)) (ds_one (ds_ret (d_and (d_cmp (r_eq (h64 hr)) (d_callC c__law_lot_asked (ar__law_lot_asked _) hr (by decide) rfl tk (da_cons (d_int) (da_cons (dv 1) (da_nil)))) (d_lst (da_cons (d_int) (da_cons (d_neg (d_int)) (da_nil)))) (nomark _)) (d_one (d_cmp (r_eq (h64 hr)) (d_callC c__law_lot_asked (ar__law_lot_asked _) hr (by decide) rfl tk (da_cons (d_tup (da_nil)) (da_cons (dv 1) (da_nil)))) (d_lst (da_cons (d_int) (da_cons (d_neg (d_int)) (da_nil)))) (nomark _)))))))))))))
abbrev s__law_order_right : Stmt := top 21
abbrev N__law_order_right : List Str := ["_law_hand_here", "_law_lots", "_law_k", "_law_told", "_law_at", "_law_lot", "_law_one", "_law_other", "_law_n"]
theorem sc__law_order_right : FnScope N__law_order_right ["_law_hand_here"] (defScope s__law_order_right) := ⟨rfl, rfl, rfl, by decide +kernel, rfl, by decide +kernel, by decide +kernel⟩
def d__law_order_right (K : PySem.W.Frag) (hd : Addr) (Ed : DEnv → Exc → Prop) : TSD := sSeq (sNew 1 (fLst (dNil))) (sSeq (sFor (idRng1 (dCons (dCall ((C__law_take hd)) [] Ed (dCons (dVar 0) (dCons (dC (.int 13)) (dNil)))) (dNil))) (gdName 2) (sApp 1 (dStepT (dCB bTup (dCons (dOp fAdd (dF (fLc (idRng1 (dCons (dC (.int 6)) (dNil))) (gdName 8) (dTest (dOp (fEq false) (dCall ((C__law_take hd)) [] (fun _ _ => False) (dCons (dVar 0) (dCons (dC (.int 2)) (dNil)))) (dC (.int 0)))) (dVar 8) (([("_law_n", 8)] : List (Str × Nat)).map (·.2)))) (dLst (dCons (dOp fAdd (dC (.int 6)) (dCall ((C__law_take hd)) [] Ed (dCons (dVar 0) (dCons (dC (.int 2)) (dNil))))) (dNil)))) (dNil))) (dOp fSub (dC (.int 1)) (dOp fMul (dC (.int 2)) (dOp fDiv (dCall ((C__law_take hd)) [] Ed (dCons (dVar 0) (dCons (dC (.int 4)) (dNil)))) (dC (.int 3)))))))) (sSeq (sIf (dTest (dOp fGt (dCB bLen (dCons (dVar 1) (dNil))) (dC (.int 1)))) (sApp 1 (dOp fIx (dVar 1) (dCall ((C__law_take hd)) [] Ed (dCons (dVar 0) (dCons (dCB bLen (dCons (dVar 1) (dNil))) (dNil)))))) (sNext)) (sSeq (sAsg 3 (dCall ((C_sorted_lots K)) [] Ed (dCons (dF (fLx (idVar 1) (gdName 5) (dYes) (dIf (dTest (dOp (fEq false) (dCall ((C__law_take hd)) [] (fun _ _ => False) (dCons (dVar 0) (dCons (dC (.int 2)) (dNil)))) (dC (.int 0)))) (dFx (fListOf (dVar 5))) (dNl (dVar 5))) (([("_law_lot", 5)] : List (Str × Nat)).map (·.2)))) (dNil)))) (sSeq (sIf (dOr (dNot (dB (dCB bIsi (dCons (dVar 3) (dCons (dC (.ty "tuple")) (dNil)))))) (dTest (dOp (fEq true) (dCB bSortD (dCons (dVar 3) (dNil))) (dSortZ (zSet (dCons (dVar 1) (dNil))))))) (sRet (dC (.bl false))) (sNext)) (sSeq (sFor (idRng2 (dCons (dC (.int 1)) (dCons (dCB bLen (dCons (dVar 3) (dNil))) (dNil)))) (gdName 4) (sSeq (sAsg 6 (dOp fIx (dVar 3) (dOp fSub (dVar 4) (dC (.int 1))))) (sSeq (sAsg 7 (dOp fIx (dVar 3) (dVar 4))) (sIf (dOr (dTest (dOp fGt (dCB bLen (dCons (dVar 6) (dNil))) (dCB bLen (dCons (dVar 7) (dNil))))) (dAnd (dTest (dOp (fEq false) (dCB bLen (dCons (dVar 6) (dNil))) (dCB bLen (dCons (dVar 7) (dNil))))) (dNot (dTest (dOp fLt (dVar 6) (dVar 7)))))) (sRet (dC (.bl false))) (sNext))))) (sSeq (sFrz 1 (sFor (idVar 1) (gdName 5) (sIf (dTest (dOp (fEq true) (dCall ((C_lot_key K)) [] Ed (dCons (dCB bLst (dCons (dVar 5) (dNil))) (dNil))) (dTup (dCons (dCB bLen (dCons (dVar 5) (dNil))) (dCons (dVar 5) (dNil)))))) (sRet (dC (.bl false))) (sNext)))) (sRet (dC (.bl true)))))))))
theorem pd__law_order_right {P : Program} {w : World} {K : PySem.W.Frag} {mg : Str → Option Value} {base : Heap} {I : HI} {fa : Addr} {hd : Addr} {cdv : Value} {A : Around} {outer : List Env} {s : Shared} {H : Hp} {E : XK} {Ed : Exc → Prop} (T : Tf K mg) (c__law_take : Cl P w K mg base I 3 "_law_take" 2 (C__law_take hd) []) (c_lot_key : Cl P w K mg base I 2 "lot_key" 1 (C_lot_key K) []) (c_sorted_lots : Cl P w K mg base I 3 "sorted_lots" 1 (C_sorted_lots K) [])
    (hr : Room 3 (A.deeper (envOfC "_law_order_right" (defScope s__law_order_right) s.heap.objs.size fa cdv))) (tk : Takes (cxD P w K mg base N__law_order_right "_law_order_right" (defScope s__law_order_right) fa cdv A outer s H E) (gOf I Ed E).W) :
    PSsD (cxD P w K mg base N__law_order_right "_law_order_right" (defScope s__law_order_right) fa cdv A outer s H E) (gOf I Ed E) (defBody s__law_order_right) (d__law_order_right K hd (gOf I Ed E).Ed) :=
  have nd := sc__law_order_right.nd; ds_cons (ds_new (i := 1) nd rfl (by first | exact Or.inl rfl | exact Or.inr rfl) (f_lst (da_nil))) (ds_cons (ds_for (passes_of rfl) rfl (di_range1 rfl T.n_range (da_cons (d_callC c__law_take (ar__law_take _) hr (by decide) rfl tk (da_cons (dv 0) (da_cons (d_int) (da_nil)))) (da_nil))) (dg_name (i := 2) nd rfl (by first | exact Or.inl rfl | exact Or.inr rfl)) (ds_one (ds_app (i := 1) rfl (by first | exact Or.inl rfl | exact Or.inr (Or.inl rfl)) (d_stepT (d_callTy c_tup rfl T.n_tuple boot_tuple (da_cons (d_op r_add (pf_e (f_lc rfl nd (di_range1 rfl T.n_range (da_cons (d_int) (da_nil))) (blkOk_by (own := [("_law_n", 8)]) (N := N__law_order_right) (sc := defScope s__law_order_right) (by decide +kernel)) (fun _ _ _ _ _ => pg_name (i := 8) nd rfl (by first | exact Or.inl rfl | exact Or.inr rfl)) sg_name (gw_name (by decide)) (bt_one (fun _ _ _ _ _ => dt_cmp (r_eq (h64 hr)) (d_callC c__law_take (ar__law_take _) hr (by decide) rfl takes0 (da_cons (dv 0) (da_cons (d_int) (da_nil)))) (d_int) (nomark _))) (be_of (fun _ _ _ _ _ => dv 8)))) (d_lst (da_cons (d_op r_add (d_int) (d_callC c__law_take (ar__law_take _) hr (by decide) rfl tk (da_cons (dv 0) (da_cons (d_int) (da_nil))))) (da_nil)))) (da_nil))) (d_op r_sub (d_int) (d_op r_mul (d_int) (d_op r_div (d_callC c__law_take (ar__law_take _) hr (by decide) rfl tk (da_cons (dv 0) (da_cons (d_int) (da_nil)))) (d_int)))))))) (ds_cons (ds_if (dt_cmp r_gt (d_callB c_len rfl T.n_len PySem.boot_len (da_cons (dv 1) (da_nil))) (d_int) (nomark _)) (ds_one (ds_app (i := 1) rfl (by first | exact Or.inl rfl | exact Or.inr (Or.inl rfl)) (d_ix (dv 1) (d_callC c__law_take (ar__law_take _) hr (by decide) rfl tk (da_cons (dv 0) (da_cons (d_callB c_len rfl T.n_len PySem.boot_len (da_cons (dv 1) (da_nil))) (da_nil))))))) (ds_nil)) (ds_cons (ds_set (i := 3) nd rfl (by first | exact Or.inl rfl | exact Or.inr rfl) (d_callC c_sorted_lots (ar_sorted_lots _) hr (by decide) rfl tk (da_cons (pf_e (f_lcX rfl nd (di_var 1) (blkOk_by (own := [("_law_lot", 5)]) (N := N__law_order_right) (sc := defScope s__law_order_right) (by decide +kernel)) (fun _ _ _ _ _ => pg_name (i := 5) nd rfl (by first | exact Or.inl rfl | exact Or.inr rfl)) sg_name (gw_name (by decide)) bt_nil (bx_of (fun _ _ _ _ _ => x_if (dt_cmp (r_eq (h64 hr)) (d_callC c__law_take (ar__law_take _) hr (by decide) rfl takes0 (da_cons (dv 0) (da_cons (d_int) (da_nil)))) (d_int) (nomark _)) (x_f (f_listOf rfl T.n_list boot_list (dv 5))) (x_e (dv 5)))))) (da_nil)))) (ds_cons (ds_if (PWD.pt (dt_or (dt_not (dt_val (d_callB c_isi rfl T.n_isinstance boot_isinstance (da_cons (dv 3) (da_cons (d_ty rfl T.n_tuple boot_tuple) (da_nil)))))) (dt_or1 (dt_cmp (r_ne (h64 hr)) (d_callB (c_sortD (h64 hr)) rfl T.n_sorted boot_sorted (da_cons (dv 3) (da_nil))) (d_sortZ (h64 hr) rfl rfl T.n_sorted (z_set (h64 hr) rfl rfl T.n_set (da_cons (dv 1) (da_nil)))) (nomark _))))) (ds_one (ds_ret (d_bl))) (ds_nil)) (ds_cons (ds_for (passes_of rfl) rfl (di_range2 rfl T.n_range (da_cons (d_int) (da_cons (d_callB c_len rfl T.n_len PySem.boot_len (da_cons (dv 3) (da_nil))) (da_nil)))) (dg_name (i := 4) nd rfl (by first | exact Or.inl rfl | exact Or.inr rfl)) (ds_cons (ds_set (i := 6) nd rfl (by first | exact Or.inl rfl | exact Or.inr rfl) (d_ix (dv 3) (d_op r_sub (dv 4) (d_int)))) (ds_cons (ds_set (i := 7) nd rfl (by first | exact Or.inl rfl | exact Or.inr rfl) (d_ix (dv 3) (dv 4))) (ds_one (ds_if (PWD.pt (dt_or (dt_cmp r_gt (d_callB c_len rfl T.n_len PySem.boot_len (da_cons (dv 6) (da_nil))) (d_callB c_len rfl T.n_len PySem.boot_len (da_cons (dv 7) (da_nil))) (nomark _)) (dt_or1 (PWD.pt (dt_and (dt_cmp (r_eq (h64 hr)) (d_callB c_len rfl T.n_len PySem.boot_len (da_cons (dv 6) (da_nil))) (d_callB c_len rfl T.n_len PySem.boot_len (da_cons (dv 7) (da_nil))) (nomark _)) (dt_and1 (dt_not (dt_cmp (r_lt hr.units0) (dv 6) (dv 7) (nomark _))))))))) (ds_one (ds_ret (d_bl))) (ds_nil)))))) (ds_cons (ds_frz 1 (ds_for (passes_of rfl) rfl (di_var 1) (dg_name (i := 5) nd rfl (by first | exact Or.inl rfl | exact Or.inr rfl)) (ds_one (ds_if (dt_cmp (r_ne (h64 hr)) (d_callC c_lot_key (ar_lot_key _) hr (by decide) rfl tk (da_cons (d_callTy c_lst rfl T.n_list boot_list (da_cons (dv 5) (da_nil))) (da_nil))) (d_tup (da_cons (d_callB c_len rfl T.n_len PySem.boot_len (da_cons (dv 5) (da_nil))) (da_cons (dv 5) (da_nil)))) (nomark _)) (ds_one (ds_ret (d_bl))) (ds_nil))))) (ds_one (ds_ret (d_bl)))))))))
abbrev s_law : Stmt := top 22
abbrev N_law : List Str := ["_law_script", "_law_hand_here", "_law_turn"]
theorem sc_law : FnScope N_law ["_law_script"] (defScope s_law) := ⟨rfl, rfl, rfl, by decide +kernel, rfl, by decide +kernel, by decide +kernel⟩
def d_law (K : PySem.W.Frag) (hd : Addr) (Ed : DEnv → Exc → Prop) : TSD := sSeq (sFor (idRng1 (dCons (dC (.int 4)) (dNil))) (gdName 2) (sIf (dOr (dNot (dB (dCall ((C__law_dates_right K hd)) [] Ed (dCons (dVar 1) (dNil))))) (dNot (dB (dCall ((C__law_lot_right K hd)) [] Ed (dCons (dVar 1) (dNil)))))) (sRet (dC (.bl false))) (sNext))) (sRet (dCall ((C__law_order_right K hd)) [] Ed (dCons (dVar 1) (dNil))))
theorem pd_law {P : Program} {w : World} {K : PySem.W.Frag} {mg : Str → Option Value} {base : Heap} {I : HI} {fa : Addr} {hd : Addr} {cdv : Value} {A : Around} {outer : List Env} {s : Shared} {H : Hp} {E : XK} {Ed : Exc → Prop} (T : Tf K mg) (c__law_dates_right : Cl P w K mg base I 5 "_law_dates_right" 1 (C__law_dates_right K hd) []) (c__law_lot_right : Cl P w K mg base I 5 "_law_lot_right" 1 (C__law_lot_right K hd) []) (c__law_order_right : Cl P w K mg base I 4 "_law_order_right" 1 (C__law_order_right K hd) [])
    (hr : Room 5 (A.deeper (envOfC "law" (defScope s_law) s.heap.objs.size fa cdv))) (tk : Takes (cxD P w K mg base N_law "law" (defScope s_law) fa cdv A outer s H E) (gOf I Ed E).W) :
    PSsD (cxD P w K mg base N_law "law" (defScope s_law) fa cdv A outer s H E) (gOf I Ed E) (defBody s_law).tail (d_law K hd (gOf I Ed E).Ed) :=
  have nd := sc_law.nd; ds_cons (ds_for (passes_of rfl) rfl (di_range1 rfl T.n_range (da_cons (d_int) (da_nil))) (dg_name (i := 2) nd rfl (by first | exact Or.inl rfl | exact Or.inr rfl)) (ds_one (ds_if (PWD.pt (dt_or (dt_not (dt_val (d_callC c__law_dates_right (ar__law_dates_right _) hr (by decide) rfl tk (da_cons (dv 1) (da_nil))))) (dt_or1 (dt_not (dt_val (d_callC c__law_lot_right (ar__law_lot_right _) hr (by decide) rfl tk (da_cons (dv 1) (da_nil)))))))) (ds_one (ds_ret (d_bl))) (ds_nil)))) (ds_one (ds_ret (d_callC c__law_order_right (ar__law_order_right _) hr (by decide) rfl tk (da_cons (dv 1) (da_nil)))))
end K02
namespace K02
open PySem PySem.Spec PyProof.Rows L2 Dl
theorem m40 {i j : Int} (h1 : 0 ≤ i) (h2 : i < 2 ^ 40) (h3 : 0 ≤ j) (h4 : j < 2 ^ 40) : CMulW i j := mulW (big_abs h1 (Int.lt_of_lt_of_le h2 (by decide))) (big_abs h3 (Int.lt_of_lt_of_le h4 (by decide)))
theorem d40 {i j : Int} (h : 0 < j) (h2 : j < 2 ^ 40) : CDivW i j := ⟨h, by
  have h1 : j.natAbs < 2 ^ 40 := by omega
  have h3 : j.natAbs ≠ 0 := by omega
  have := (Nat.log2_lt h3).mpr h1
  omega⟩
theorem kpI {env : DEnv} {i : Nat} {x : Int} : keepable env i (.int x) := .inr (by simp only [D.noLst])
theorem ct__law_mixed {K : PySem.W.Frag} {ds : List D} {Qd : D → Prop} {Ed : Exc → Prop} (h : C__law_mixed K ds Qd Ed) : d__law_mixed K (fun _ x => Ed x) ⟨fun _ => Qd .non, Qd, fun _ => False, fun _ => False⟩ (startD N__law_mixed ds) := by
  obtain ⟨a, b, rfl, a0, a1, b0, b1, q⟩ := h
  refine ⟨_, _, rfl, rfl, a, _, rfl, rfl, m40 a0 (by omega) (by decide) (by decide), _, _, rfl, rfl, b, _, rfl, rfl, m40 b0 (by omega) (by decide) (by decide), ⟨_, rfl, ⟨_, _, rfl, rfl, (show (0 : Int) < 2147483399 by decide), kpI, ?_⟩⟩⟩
  dsimp only
  generalize hx : (a * 39373 + b * 6151 + 50021) % 2147483399 = x
  have x0 : 0 ≤ x := by rw [← hx]; exact Int.emod_nonneg _ (by decide)
  have x1 : x < 2147483399 := by rw [← hx]; exact Int.emod_lt_of_pos _ (by decide)
  refine ⟨_, _, rfl, rfl, _, _, rfl, rfl, x, x, rfl, rfl, m40 x0 (by omega) x0 (by omega), _, _, rfl, rfl, b, _, rfl, rfl, m40 b0 (by omega) (by decide) (by decide), ?_⟩
  refine ⟨_, _, rfl, rfl, x, _, rfl, rfl, d40 (by decide) (by decide), ⟨_, rfl, ⟨_, _, rfl, rfl, (show (0 : Int) < 2147483629 by decide), kpI, ?_⟩⟩⟩
  dsimp only
  generalize hy : (x * x + b * 81071 + x / 137) % 2147483629 = y
  have y0 : 0 ≤ y := by rw [← hy]; exact Int.emod_nonneg _ (by decide)
  have y1 : y < 2147483629 := by rw [← hy]; exact Int.emod_lt_of_pos _ (by decide)
  refine ⟨_, _, rfl, rfl, y, _, rfl, rfl, m40 y0 (by omega) (by decide) (by decide), _, _, rfl, rfl, x, _, rfl, rfl, d40 (by decide) (by decide), ⟨_, rfl, ⟨_, _, rfl, rfl, (show (0 : Int) < 2147483587 by decide), ⟨_, rfl, ⟨_, _, rfl, rfl, d40 (by decide) (by decide), ?_⟩⟩⟩⟩⟩
  dsimp only
  generalize hz : (y * 62089 + x / 11) % 2147483587 = z
  have z0 : 0 ≤ z := by rw [← hz]; exact Int.emod_nonneg _ (by decide)
  have z1 : z < 2147483587 := by rw [← hz]; exact Int.emod_lt_of_pos _ (by decide)
  exact q (z / 64) (Int.ediv_nonneg z0 (by decide)) (by omega)
theorem ct__law_whole {K : PySem.W.Frag} {ds : List D} {Qd : D → Prop} {Ed : Exc → Prop} (h : C__law_whole K ds Qd Ed) : d__law_whole K (fun _ x => Ed x) ⟨fun _ => Qd .non, Qd, fun _ => False, fun _ => False⟩ (startD N__law_whole ds) := by
  obtain ⟨x, rfl, hx, q⟩ := h
  obtain ⟨t, ht⟩ := Option.isSome_iff_exists.mp hx
  refine ⟨_, _, rfl, rfl, _, _, rfl, t, ht, ⟨by simp [tyNames], ⟨_, rfl, ?_⟩⟩⟩
  cases x <;> simp only [D.tyn, Option.some.injEq, reduceCtorEq] at ht
  all_goals subst ht
  all_goals first
    | exact it_f rfl q
    | refine it_t rfl ⟨_, _, rfl, rfl, _, _, rfl, _, rfl, ⟨by simp [tyNames], ⟨_, rfl, q⟩⟩⟩
theorem ct_lot_key {K : PySem.W.Frag} {ds : List D} {Qd : D → Prop} {Ed : Exc → Prop} (h : C_lot_key K ds Qd Ed) : d_lot_key K (fun _ x => Ed x) ⟨fun _ => Qd .non, Qd, fun _ => False, fun _ => False⟩ (startD N_lot_key ds) := by
  obtain ⟨x, xs, rfl, hx, q⟩ := h
  rcases seq_cases hx with rfl | rfl
  · exact ⟨_, _, rfl, rfl, _, rfl, ⟨_, _, rfl, rfl, _, rfl, (show 2 ≤ sizeLine by decide), q⟩⟩
  · exact ⟨_, _, rfl, rfl, _, rfl, ⟨_, _, rfl, rfl, _, rfl, (show 2 ≤ sizeLine by decide), q⟩⟩
theorem unl_sel : ∀ (xs pre : List D), sel (fun pre d => !anyD pre d) (fun _ d => d) pre xs = unl pre xs
  | [], _ => rfl
  | d :: xs, pre => by
    unfold sel unl
    cases anyD pre d <;> simp [unl_sel xs]
theorem ct_unlike_dates {K : PySem.W.Frag} {ds : List D} {Qd : D → Prop} {Ed : Exc → Prop} (h : C_unlike_dates K ds Qd Ed) : d_unlike_dates K (fun _ x => Ed x) ⟨fun _ => Qd .non, Qd, fun _ => False, fun _ => False⟩ (startD N_unlike_dates ds) := by
  obtain ⟨x, xs, rfl, hx, ok, nl, hl, q⟩ := h
  refine ⟨x, xs, rfl, hx, by rw [enumD_len]; omega, ?_⟩
  refine enum_lc (xs := xs) (fun pre d => !anyD pre d) (fun _ d => d) (fun pre d suf R e hR => ?_) xs [] [] rfl ?_
  · have hd : d ∈ xs := by rw [e]; simp
    have okp : okD (.lst pre) := okD_sub ok fun y m => by rw [e]; simp [m]
    refine ⟨_, _, rfl, rfl, _, _, rfl, rfl, _, _, rfl, rfl, _, rfl, ?_⟩
    have fin : (if (!anyD pre d) = true then dVar 2 [.val x, .val (.int pre.length), .val d] (fun y => y.noLst = true ∧ R (some y)) else R none) := by
      cases ha : anyD pre d with
      | true =>
        rw [ha] at hR
        exact it_f rfl hR
      | false =>
        rw [ha] at hR
        exact it_t rfl ⟨_, _, rfl, rfl, noLst_mem nl hd, hR⟩
    rcases seq_cases hx with rfl | rfl
    · have ec : cutL xs none (some (pre.length : Int)) = pre := by
        have := cutL_pre (pre := pre) (suf := d :: suf)
        rw [← e] at this; exact this
      refine sl_tup ?_
      rw [ec]
      exact in_tup (okD_mem ok hd) (okD_tl okp) ⟨_, rfl, fin⟩
    · have ec : cutL xs none (some (pre.length : Int)) = pre := by
        have := cutL_pre (pre := pre) (suf := d :: suf)
        rw [← e] at this; exact this
      refine sl_lst ?_
      rw [ec]
      exact in_lst (okD_mem ok hd) okp ⟨_, rfl, fin⟩
  · refine ⟨_, rfl, ?_⟩
    rw [List.nil_append, unl_sel]
    exact q
end K02
namespace K02
open PySem PySem.Spec PyProof.Rows L2 Dl
theorem ct__law_hand {K : PySem.W.Frag} {ds : List D} {Qd : D → Prop} {Ed : Exc → Prop} (h : C_hand K ds Qd Ed) : d__law_hand K (fun _ x => Ed x) ⟨fun _ => Qd .non, Qd, fun _ => False, fun _ => False⟩ (startD N__law_hand ds) := by
  obtain ⟨nm, ns, rfl, hl, q⟩ := h
  refine ⟨_, _, rfl, rfl, _, _, rfl, kpI, (show 0 ≤ sizeLine by decide), (show 2 < 4 by decide), .inl rfl, ⟨_, _, rfl, ?_⟩⟩
  refine forD_of (fun done rest env => ∃ (t : Int) (cs ms : List Int) (lc : Slot), env = [.val (.obj .scr nm (ns.map D.int)), .val (.int t), .own (cs.map D.int), lc] ∧ 0 ≤ t ∧ t < 2 ^ 32 ∧ (∀ c ∈ cs, 0 ≤ c) ∧ cs.length = done.length ∧ rest = ms.map D.int ∧ done.length + ms.length ≤ 63) ?_ ?_ _ [] _ ⟨_, [], ns, _, rfl, ?_, ?_, (fun c m => by cases m), rfl, rfl, by simpa using hl⟩
  · intro done env hh
    obtain ⟨t, cs, ms, lc, rfl, t0, t1, hc, hlen, hr, hb⟩ := hh
    refine ⟨_, _, rfl, rfl, ⟨_, _, rfl, rfl, (show 4 ≤ sizeLine by decide), ?_⟩⟩
    exact q cs t (by omega) hc t0 t1
  · intro done x rest env hh k
    obtain ⟨t, cs, ms, lc, rfl, t0, t1, hc, hlen, hr, hb⟩ := hh
    cases ms with
    | nil => cases hr
    | cons m ms =>
      obtain ⟨rfl, rfl⟩ := List.cons.inj hr
      refine ⟨_, _, rfl, rfl, t, _, rfl, rfl, m40 t0 (by omega) (by decide) (by decide), _, _, rfl, rfl, ⟨m, rfl, ⟨_, rfl, ⟨_, _, rfl, rfl, (show (0 : Int) < 2147483563 by decide), kpI, ?_⟩⟩⟩⟩
      refine ⟨_, rfl, _, _, rfl, rfl, m, rfl, m, rfl, by simp only [D.noLst], ?_, ?_⟩
      · rw [List.length_map, hlen]
        have : (100 : Nat) ≤ sizeLine := by decide
        omega
      · dsimp only
        refine k _ ⟨(t * 2003 + m) % 2147483563, cs ++ [if m < 0 then -m else m], ms, .val (.int m), ?_, Int.emod_nonneg _ (by decide), Int.lt_of_lt_of_le (Int.emod_lt_of_pos _ (by decide)) (by decide), fun c hcm => ?_, ?_, rfl, ?_⟩
        · rw [List.map_append]; rfl
        · rcases List.mem_append.mp hcm with z | z
          · exact hc c z
          · rw [List.mem_singleton.mp z]; split <;> omega
        · rw [List.length_append, List.length_append, hlen]; rfl
        · rw [List.length_append]
          rw [List.length_cons] at hb
          simp only [List.length_cons, List.length_nil]
          omega
  · show (0 : Int) ≤ ((ns.map D.int).length : Int) + 43
    omega
  · show ((ns.map D.int).length : Int) + 43 < 2 ^ 32
    rw [List.length_map]
    omega
theorem ct_check_lot {K : PySem.W.Frag} {ds : List D} {Qd : D → Prop} {Ed : Exc → Prop} (h : C_check_lot K ds Qd Ed) : d_check_lot K (fun _ x => Ed x) ⟨fun _ => Qd .non, Qd, fun _ => False, fun _ => False⟩ (startD N_check_lot ds) := by
  obtain ⟨x, am, rfl, hx, q⟩ := h
  obtain ⟨t, ht⟩ := Option.isSome_iff_exists.mp hx
  refine ⟨_, _, rfl, rfl, one_sz, _, _, rfl, t, ht, ⟨_, rfl, mem_lt, ⟨_, rfl, ?_⟩⟩⟩
  rw [isSeq_iff ht]
  cases hs : seqOf x with
  | none =>
    rw [hs] at q
    exact ⟨_, rfl, q⟩
  | some xs =>
    rw [hs] at q
    dsimp only at q
    refine it_f rfl ⟨_, _, rfl, rfl, ?_⟩
    have rest : (¬ xs.length = 0 → sFor (idEnumV 0) (gdTup [2, 3]) (sIf (dOr (dNot (dB (dCall ((C_is_whole K)) [.non, .non] (fun _ x => Ed x) (dCons (dVar 3) (dNil))))) (dOr (dTest (dOp (fIn true) (dVar 3) (dVar 1))) (dTest (dOp (fIn false) (dVar 3) (dSl (dVar 0) (dNoP) (dPart (dVar 2))))))) (sRaise (He.ga K "BadLot") "index" (fun _ x => Ed x) (dVar 2)) (sNext))
        { nx := sRet (dCB bTup (dCons (dCB bSort (dCons (dVar 0) (dNil))) (dNil))) { nx := fun x => Qd D.non, rt := Qd }, rt := Qd } [.val x, .val am, .no, .no]) := fun hm => by
      rw [if_neg hm] at q
      obtain ⟨ams, ha, oka, okx, hty, q⟩ := q
      refine ⟨x, xs, rfl, hs, ?_⟩
      have cond : ∀ pre d suf (R : Bool → Prop), xs = pre ++ d :: suf → R (!isWh d .non .non || (!anyD ams d || anyD pre d)) → dOr (dNot (dB (dCall ((C_is_whole K)) [.non, .non] (fun _ x => Ed x) (dCons (dVar 3) (dNil))))) (dOr (dTest (dOp (fIn true) (dVar 3) (dVar 1))) (dTest (dOp (fIn false) (dVar 3) (dSl (dVar 0) (dNoP) (dPart (dVar 2)))))) [.val x, .val am, .val (.int (pre.length : Nat)), .val d] R := fun pre d suf R e hR => by
        have hd : d ∈ xs := by rw [e]; simp
        have okp : okD (.lst pre) := okD_sub okx fun y m => by rw [e]; simp [m]
        refine ⟨_, _, rfl, rfl, ⟨_, _, _, rfl, hty d hd, trivial, trivial, _, rfl, ?_⟩⟩
        cases hw : isWh d .non .non with
        | false => rw [hw] at hR; exact it_t rfl hR
        | true =>
          rw [hw] at hR
          refine it_f rfl ⟨_, _, rfl, rfl, _, _, rfl, rfl, ?_⟩
          have two : R (anyD pre d) → dTest (dOp (fIn false) (dVar 3) (dSl (dVar 0) (dNoP) (dPart (dVar 2)))) [.val x, .val am, .val (.int (pre.length : Nat)), .val d] R := fun hR2 => by
            refine ⟨_, _, rfl, rfl, _, _, rfl, rfl, _, _, rfl, rfl, _, rfl, ?_⟩
            have ec : cutL xs none (some (pre.length : Int)) = pre := by
              have := cutL_pre (pre := pre) (suf := d :: suf)
              rw [← e] at this; exact this
            rcases seq_cases hs with rfl | rfl
            · refine sl_tup ?_
              rw [ec]
              exact in_tup (okD_mem okx hd) (okD_tl okp) ⟨_, rfl, hR2⟩
            · refine sl_lst ?_
              rw [ec]
              exact in_lst (okD_mem okx hd) okp ⟨_, rfl, hR2⟩
          have one : dIfB (xr true (anyD ams d)) (R true) (dTest (dOp (fIn false) (dVar 3) (dSl (dVar 0) (dNoP) (dPart (dVar 2)))) [.val x, .val am, .val (.int (pre.length : Nat)), .val d] R) := by
            cases hy : anyD ams d with
            | false => rw [hy] at hR; exact it_t rfl hR
            | true => rw [hy] at hR; exact it_f rfl (two hR)
          rcases seq_cases ha with rfl | rfl
          · exact in_tup (okD_mem okx hd) (okD_tl oka) ⟨_, rfl, one⟩
          · exact in_lst (okD_mem okx hd) oka ⟨_, rfl, one⟩
      refine enum_loop (xs := xs) (fun pre d => !isWh d .non .non || (!anyD ams d || anyD pre d)) (fun env => ∃ a b, env = [Slot.val x, Slot.val am, a, b]) (fun pre d suf env nx e p hf hb => ?_) (fun pre d suf env nx e p hb k => ?_) (fun env hf p => ?_) xs [] _ rfl rfl ⟨_, _, rfl⟩
      · obtain ⟨a, b, rfl⟩ := p
        rw [hf] at q
        refine cond pre d suf _ e ?_
        rw [hb]
        exact it_t rfl ⟨_, _, rfl, rfl, q⟩
      · obtain ⟨a, b, rfl⟩ := p
        refine cond pre d suf _ e ?_
        rw [hb]
        exact it_f rfl (k _ ⟨_, _, rfl⟩)
      · obtain ⟨a, b, rfl⟩ := p
        rw [hf] at q
        obtain ⟨ns, rfl, q⟩ := q
        refine ⟨_, _, rfl, rfl, ns, ?_, fun ns' pm so => ⟨_, rfl, q ns' pm so⟩⟩
        rcases seq_cases hs with rfl | rfl
        · exact .inr rfl
        · exact .inl rfl
    dsimp only [dNil, dC]
    refine len_seq hs ?_
    refine eq_d okI_int.ok okI_int.ok ?_
    refine ⟨_, rfl, ?_⟩
    rw [show xr false (eqD (D.int ↑xs.length) (D.int 0)) = decide ((xs.length : Int) = 0) from eqD_int]
    by_cases hm : xs.length = 0
    · rw [if_pos hm] at q
      exact it_t (decide_eq_true (by omega)) ⟨1, rfl, q⟩
    · exact it_f (decide_eq_false (by omega)) (rest hm)
end K02
namespace K02
open PySem PySem.Spec PyProof.Rows L2 Dl
theorem ct_is_whole {K : PySem.W.Frag} {ds : List D} {Qd : D → Prop} {Ed : Exc → Prop} (h : C_is_whole K ds Qd Ed) : d_is_whole K (fun _ x => Ed x) ⟨fun _ => Qd .non, Qd, fun _ => False, fun _ => False⟩ (startD N_is_whole ds) := by
  obtain ⟨x, lo, hi, rfl, hx, h1, h2, q⟩ := h
  obtain ⟨t, ht⟩ := Option.isSome_iff_exists.mp hx
  simp only [d_is_whole, sSeq, sIf, dOr, dNot, dB, dCB, dCons, dNil, dVar, dC, sRet, sNext, dAndV, dOrV, dOp, startD, List.map, List.length, List.replicate, List.nil_append, List.cons_append, List.append_nil, List.getElem?_cons_zero, List.getElem?_cons_succ, Option.some.injEq, exists_eq_left', exists_eq_left, rdSlot, exists_and_left, bIsi, List.cons.injEq, and_true, and_assoc, D.bl.injEq, ht, tm_bool, tm_int, true_and, if_true]
  cases x <;> simp only [D.tyn, Option.some.injEq, reduceCtorEq] at ht
  all_goals subst ht
  all_goals simp [isiB]
  all_goals first
    | simpa [isWh] using q
    | skip
  rename_i n
  cases lo <;> cases hi <;> simp only [isOpt] at h1 h2 <;> simp [fIs, isN, xr, fGe, fLe, fI0] <;> simp [isWh] at q ⊢
  · exact q
  · exact q
  · rename_i l
    by_cases h : l ≤ n
    · rw [decide_eq_true h] at q; exact .inr ⟨h, q⟩
    · rw [decide_eq_false h] at q; exact .inl ⟨by omega, q⟩
  · rename_i l u
    by_cases h : l ≤ n
    · rw [decide_eq_true h, Bool.true_and] at q; exact .inr ⟨h, q⟩
    · rw [decide_eq_false h, Bool.false_and] at q; exact .inl ⟨by omega, q⟩
theorem ct_check_dates {K : PySem.W.Frag} {ds : List D} {Qd : D → Prop} {Ed : Exc → Prop} (h : C_check_dates K ds Qd Ed) : d_check_dates K (fun _ x => Ed x) ⟨fun _ => Qd .non, Qd, fun _ => False, fun _ => False⟩ (startD N_check_dates ds) := by
  obtain ⟨x, size, most, rfl, hx, q⟩ := h
  obtain ⟨t, ht⟩ := Option.isSome_iff_exists.mp hx
  simp only [d_check_dates, sSeq, sIf, dOr, dNot, dB, dCB, dCons, dNil, dVar, dC, sRet, sNext, dAndV, dOrV, dOp, dTup, dTest, sRaise, dUn, fUn, startD, List.map, List.length, List.replicate, List.nil_append, List.cons_append, List.append_nil, List.getElem?_cons_zero, List.getElem?_cons_succ, Option.some.injEq, exists_eq_left', exists_eq_left, rdSlot, exists_and_left, bIsi, List.cons.injEq, and_true, and_assoc, D.bl.injEq, D.int.injEq, ht, true_and, if_true, tysOf, Option.map_some, bLen, fGt, fI0]
  refine ⟨one_sz, mem_lt, ?_⟩
  rw [isSeq_iff ht]
  cases hs : seqOf x with
  | none =>
    rw [hs] at q
    simp only [Option.isSome_none, Bool.not_false, if_true]
    exact q
  | some xs =>
    rw [hs] at q
    obtain ⟨hty, q⟩ := q
    simp only [Option.isSome_some, Bool.not_true, if_neg Bool.false_ne_true]
    have loop : ¬ most < xs.length → sFor (idEnumV 0) (gdTup [3, 4])
              (sIf
                (dNot
                  (dB
                    (dCall (C_is_whole K) [] (fun x x_1 => Ed x_1)
                      (dCons (dVar 4) (dCons (dC (D.int 0)) (dCons (dOp fSub (dVar 1) (dC (D.int 1))) dNil))))))
                (sRaise (He.ga K "BadDates") "index" (fun x x_1 => Ed x_1) (dVar 3))
                sNext)
              { nx := sRet (dCB bTup (dCons (dVar 0) dNil)) { nx := fun x => Qd D.non, rt := Qd }, rt := Qd }
              [Slot.val x, Slot.val (D.int size), Slot.val (D.int most), Slot.no, Slot.no] := fun hm => by
      rw [if_neg hm] at q
      refine ⟨x, xs, rfl, hs, ?_⟩
      refine enum_loop (xs := xs) (fun _ d => !isWh d (.int 0) (.int (size - 1))) (fun env => ∃ a b, env = [Slot.val x, Slot.val (D.int size), Slot.val (D.int most), a, b]) (fun pre d suf env nx e p hf hb => ?_) (fun pre d suf env nx e p hb k => ?_) (fun env hf p => ?_) xs [] _ rfl rfl ⟨_, _, rfl⟩
      · obtain ⟨a, b, rfl⟩ := p
        rw [hf] at q
        have hd := hty d (by rw [e]; simp)
        refine ⟨_, _, rfl, rfl, _, _, rfl, rfl, ⟨size, 1, rfl, rfl, ⟨_, _, _, rfl, hd, trivial, trivial, _, rfl, ?_⟩⟩⟩
        refine it_t hb ?_
        exact ⟨_, _, rfl, rfl, q⟩
      · obtain ⟨a, b, rfl⟩ := p
        have hd := hty d (by rw [e]; simp)
        refine ⟨_, _, rfl, rfl, _, _, rfl, rfl, ⟨size, 1, rfl, rfl, ⟨_, _, _, rfl, hd, trivial, trivial, _, rfl, ?_⟩⟩⟩
        refine it_f hb ?_
        exact k _ ⟨_, _, rfl⟩
      · obtain ⟨a, b, rfl⟩ := p
        rw [hf] at q
        refine ⟨_, _, rfl, rfl, x, rfl, ?_⟩
        rcases seq_cases hs with rfl | rfl
        · exact q
        · exact q
    by_cases hm : most < (xs.length : Int)
    · rw [if_pos hm] at q
      rcases seq_cases hs with rfl | rfl
      · exact it_t (decide_eq_true hm) q
      · exact it_t (decide_eq_true hm) q
    · rcases seq_cases hs with rfl | rfl
      · exact it_f (decide_eq_false hm) (loop hm)
      · exact it_f (decide_eq_false hm) (loop hm)
end K02
namespace K02
open PySem PySem.Spec PyProof.Rows L2 Dl
/-- what is known of an error class: caught by DateError, of its own class, not of the other, its field -/
structure ErX (K : PySem.W.Frag) (c o : Str) : Prop where
  m : PySem.W.exmOne K (.ref (He.ga K c)) (.ref (He.ga K "DateError")) = some true
  k : PySem.W.kitOne K (.ref (He.ga K c)) (.ref (He.ga K c)) = some true
  n : PySem.W.kitOne K (.ref (He.ga K c)) (.ref (He.ga K o)) = some false
  e : ExcC K (He.ga K c)
  x : XfC K (He.ga K c)
  f : PySem.W.findIn K (.ref (He.ga K c)) "index" = some none
theorem ct__law_dates_asked {K : PySem.W.Frag} {ds : List D} {Qd : D → Prop} {Ed : Exc → Prop} (X : ErX K "BadDates" "BadLot") (h : C__law_dates_asked K ds Qd Ed) : d__law_dates_asked K (fun _ x => Ed x) ⟨fun _ => Qd .non, Qd, fun _ => False, fun _ => False⟩ (startD N__law_dates_asked ds) := by
  obtain ⟨x, size, most, rfl, hx, q⟩ := h
  -- an error
  have bad : ∀ i : Int, Qd (.lst [.int 1, .int i]) → ∃ t, PySem.W.exmOne K (.ref (excI K "BadDates" i).cls) (.ref (He.ga K "DateError")) = some t ∧ (t = true → (noOwn ((startD N__law_dates_asked [x, .int size, .int most]).set 3 .no) = true ∨ (excI K "BadDates" i).noLst = true) ∧ ∀ a d, (excI K "BadDates" i).fs.isSome = d.isSome →
      (sSeq (sIf (dAnd (dB (dCB (bIsX K a d (excI K "BadDates" i)) (dCons (dVar 3) (dCons (dC (.ref (He.ga K "BadDates"))) (dNil))))) (dNot (dB (dCB (bIsX K a d (excI K "BadDates" i)) (dCons (dVar 3) (dCons (dC (.ref (He.ga K "BadLot"))) (dNil))))))) (sRet (dLst (dCons (dC (.int 1)) (dCons (dXf K a d (excI K "BadDates" i) "index" (dVar 3)) (dNil))))) (sNext)) (sRet (dLst (dCons (dC (.int 2)) (dNil)))))
        ⟨fun e2 => (sRet (dLst (dCons (dC (.int 0)) (dCons (dVar 4) (dNil)))) ⟨fun _ => Qd .non, Qd, fun _ => False, fun _ => False⟩) (e2.set 3 .no), Qd, fun _ => False, fun _ => False⟩ ((startD N__law_dates_asked [x, .int size, .int most]).set 3 (.val (excD a d (excI K "BadDates" i))))) ∧ (t = false → Ed (excI K "BadDates" i)) := fun i hq => by
    refine ⟨true, X.m, fun _ => ⟨.inr rfl, fun a d hd => ?_⟩, fun z => by cases z⟩
    refine ⟨_, _, rfl, rfl, ⟨_, _, true, rfl, hd, rfl, X.e, X.k, ⟨_, rfl, ?_⟩⟩⟩
    refine it_t rfl ⟨_, _, rfl, rfl, ⟨_, _, false, rfl, hd, rfl, X.e, X.n, ⟨_, rfl, ?_⟩⟩⟩
    exact it_t rfl ⟨_, _, rfl, rfl, ⟨rfl, X.x, X.f, _, _, rfl, by rw [← hd]; rfl, rfl, (show 2 ≤ sizeLine by decide), hq⟩⟩
  have main : C_check_dates K [x, .int size, .int most] (fun d => keepable (startD N__law_dates_asked [x, .int size, .int most]) 4 d ∧ (sRet (dLst (dCons (dC (.int 0)) (dCons (dVar 4) (dNil)))) ⟨fun _ => Qd .non, Qd, fun _ => False, fun _ => False⟩) ((startD N__law_dates_asked [x, .int size, .int most]).set 4 (.val d)))
      (fun e => ∃ t, PySem.W.exmOne K (.ref e.cls) (.ref (He.ga K "DateError")) = some t ∧ (t = true → (noOwn ((startD N__law_dates_asked [x, .int size, .int most]).set 3 .no) = true ∨ e.noLst = true) ∧ ∀ a d, e.fs.isSome = d.isSome →
      (sSeq (sIf (dAnd (dB (dCB (bIsX K a d e) (dCons (dVar 3) (dCons (dC (.ref (He.ga K "BadDates"))) (dNil))))) (dNot (dB (dCB (bIsX K a d e) (dCons (dVar 3) (dCons (dC (.ref (He.ga K "BadLot"))) (dNil))))))) (sRet (dLst (dCons (dC (.int 1)) (dCons (dXf K a d e "index" (dVar 3)) (dNil))))) (sNext)) (sRet (dLst (dCons (dC (.int 2)) (dNil)))))
        ⟨fun e2 => (sRet (dLst (dCons (dC (.int 0)) (dCons (dVar 4) (dNil)))) ⟨fun _ => Qd .non, Qd, fun _ => False, fun _ => False⟩) (e2.set 3 .no), Qd, fun _ => False, fun _ => False⟩ ((startD N__law_dates_asked [x, .int size, .int most]).set 3 (.val (excD a d e)))) ∧ (t = false → Ed e)) := by
    refine ⟨x, size, most, rfl, hx, ?_⟩
    cases hs : seqOf x with
    | none =>
      rw [hs] at q
      exact bad (-1) q
    | some xs =>
      rw [hs] at q
      obtain ⟨hty, nl, q⟩ := q
      refine ⟨hty, ?_⟩
      unfold bDates at q
      by_cases hm : most < (xs.length : Int)
      · rw [if_pos hm] at q
        rw [if_pos hm]
        exact bad (-1) q
      · rw [if_neg hm] at q
        rw [if_neg hm]
        cases hf : fstBad (fun _ d => !isWh d (.int 0) (.int (size - 1))) [] xs with
        | some i =>
          rw [hf] at q
          exact bad i q
        | none =>
          rw [hf] at q
          exact ⟨.inr (by simpa only [D.noLst] using nl), ⟨_, _, rfl, rfl, (show 2 ≤ sizeLine by decide), q⟩⟩
  refine ⟨_, _, rfl, rfl, ?_⟩
  dsimp only [dC]
  refine eq_d okI_int.ok okI_int.ok ?_
  refine ⟨_, rfl, ?_⟩
  rw [show xr false (eqD (D.int most) (D.int 7)) = decide (most = 7) from eqD_int]
  by_cases h7 : most = 7
  · subst h7
    exact it_t (decide_eq_true rfl) ⟨_, _, rfl, rfl, _, _, rfl, rfl, main⟩
  · exact it_f (decide_eq_false h7) ⟨_, _, rfl, rfl, _, _, rfl, rfl, _, _, rfl, rfl, rfl, rfl, main⟩
theorem ct__law_lot_asked {K : PySem.W.Frag} {ds : List D} {Qd : D → Prop} {Ed : Exc → Prop} (X : ErX K "BadLot" "BadDates") (h : C__law_lot_asked K ds Qd Ed) : d__law_lot_asked K (fun _ x => Ed x) ⟨fun _ => Qd .non, Qd, fun _ => False, fun _ => False⟩ (startD N__law_lot_asked ds) := by
  obtain ⟨x, am, rfl, hx, q⟩ := h
  unfold askL at q
  have bad : ∀ i : Int, Qd (.lst [.int 1, .int i]) → ∃ t, PySem.W.exmOne K (.ref (excI K "BadLot" i).cls) (.ref (He.ga K "DateError")) = some t ∧ (t = true → (noOwn ((startD N__law_lot_asked [x, am]).set 2 .no) = true ∨ (excI K "BadLot" i).noLst = true) ∧ ∀ a d, (excI K "BadLot" i).fs.isSome = d.isSome → (sSeq (sIf (dAnd (dB (dCB (bIsX K a d (excI K "BadLot" i)) (dCons (dVar 2) (dCons (dC (.ref (He.ga K "BadLot"))) (dNil))))) (dNot (dB (dCB (bIsX K a d (excI K "BadLot" i)) (dCons (dVar 2) (dCons (dC (.ref (He.ga K "BadDates"))) (dNil))))))) (sRet (dLst (dCons (dC (.int 1)) (dCons (dXf K a d (excI K "BadLot" i) "index" (dVar 2)) (dNil))))) (sNext)) (sRet (dLst (dCons (dC (.int 2)) (dNil))))) ⟨fun e2 => (sRet (dLst (dCons (dC (.int 0)) (dCons (dVar 3) (dNil)))) ⟨fun _ => Qd .non, Qd, fun _ => False, fun _ => False⟩) (e2.set 2 .no), Qd, fun _ => False, fun _ => False⟩ ((startD N__law_lot_asked [x, am]).set 2 (.val (excD a d (excI K "BadLot" i))))) ∧ (t = false → Ed (excI K "BadLot" i)) := fun i hq => by
    refine ⟨true, X.m, fun _ => ⟨.inr rfl, fun a d hd => ?_⟩, fun z => by cases z⟩
    refine ⟨_, _, rfl, rfl, ⟨_, _, true, rfl, hd, rfl, X.e, X.k, ⟨_, rfl, ?_⟩⟩⟩
    refine it_t rfl ⟨_, _, rfl, rfl, ⟨_, _, false, rfl, hd, rfl, X.e, X.n, ⟨_, rfl, ?_⟩⟩⟩
    exact it_t rfl ⟨_, _, rfl, rfl, ⟨rfl, X.x, X.f, _, _, rfl, by rw [← hd]; rfl, rfl, (show 2 ≤ sizeLine by decide), hq⟩⟩
  have main : C_check_lot K [x, am] (fun d => keepable (startD N__law_lot_asked [x, am]) 3 d ∧ (sRet (dLst (dCons (dC (.int 0)) (dCons (dVar 3) (dNil)))) ⟨fun _ => Qd .non, Qd, fun _ => False, fun _ => False⟩) ((startD N__law_lot_asked [x, am]).set 3 (.val d))) (fun e => ∃ t, PySem.W.exmOne K (.ref (e).cls) (.ref (He.ga K "DateError")) = some t ∧ (t = true → (noOwn ((startD N__law_lot_asked [x, am]).set 2 .no) = true ∨ (e).noLst = true) ∧ ∀ a d, (e).fs.isSome = d.isSome → (sSeq (sIf (dAnd (dB (dCB (bIsX K a d (e)) (dCons (dVar 2) (dCons (dC (.ref (He.ga K "BadLot"))) (dNil))))) (dNot (dB (dCB (bIsX K a d (e)) (dCons (dVar 2) (dCons (dC (.ref (He.ga K "BadDates"))) (dNil))))))) (sRet (dLst (dCons (dC (.int 1)) (dCons (dXf K a d (e) "index" (dVar 2)) (dNil))))) (sNext)) (sRet (dLst (dCons (dC (.int 2)) (dNil))))) ⟨fun e2 => (sRet (dLst (dCons (dC (.int 0)) (dCons (dVar 3) (dNil)))) ⟨fun _ => Qd .non, Qd, fun _ => False, fun _ => False⟩) (e2.set 2 .no), Qd, fun _ => False, fun _ => False⟩ ((startD N__law_lot_asked [x, am]).set 2 (.val (excD a d (e))))) ∧ (t = false → Ed (e))) := by
    refine ⟨x, am, rfl, hx, ?_⟩
    cases hs : seqOf x with
    | none =>
      rw [hs] at q
      exact bad (-1) q
    | some xs =>
      rw [hs] at q
      dsimp only at q ⊢
      by_cases hm : xs.length = 0
      · rw [if_pos hm] at q
        rw [if_pos hm]
        exact bad (-1) q
      · rw [if_neg hm] at q
        rw [if_neg hm]
        obtain ⟨ams, ha, oka, okx, hty, q⟩ := q
        refine ⟨ams, ha, oka, okx, hty, ?_⟩
        cases hf : fstBad (fun pre d => !isWh d .non .non || (!anyD ams d || anyD pre d)) [] xs with
        | some i =>
          rw [hf] at q
          exact bad i q
        | none =>
          rw [hf] at q
          obtain ⟨ns, e, q⟩ := q
          refine ⟨ns, e, fun ns' pm so => ⟨.inr (by simp only [D.noLst]; exact noLst_of fun z m => by obtain ⟨k, _, rfl⟩ := List.mem_map.mp m; rfl), ⟨_, _, rfl, rfl, (show 2 ≤ sizeLine by decide), q ns' pm so⟩⟩⟩
  exact ⟨_, _, rfl, rfl, _, _, rfl, rfl, main⟩
end K02
namespace K02
open PySem PySem.Spec PyProof.Rows L2 Dl
def badW (size : Int) (d : D) : Bool := !isWh d (.int 0) (.int (size - 1))
def tl_dates (K : PySem.W.Frag) (hd : Addr) (Ed : DEnv → Exc → Prop) : TSD := sSeq (sNew 5 (fListOf (dVar 4))) (sSeq (sNew 6 (fLc (idRng1 (dCons (dCB bLen (dCons (dVar 4) (dNil))) (dNil))) (gdName 12) (dOr (dNot (dB (dCall ((C__law_whole K)) [] (fun _ _ => False) (dCons (dOp fIx (dVar 4) (dVar 12)) (dNil))))) (dOr (dTest (dOp fLt (dOp fIx (dVar 4) (dVar 12)) (dC (.int 0)))) (dTest (dOp fGe (dOp fIx (dVar 4) (dVar 12)) (dVar 1))))) (dVar 12) (([("_law_at", 12)] : List (Str × Nat)).map (·.2)))) (sSeq (sIf (dTest (dOp fGt (dCB bLen (dCons (dVar 4) (dNil))) (dVar 2))) (sNew 10 (fLst (dCons (dC (.int 1)) (dCons (dUn (fUn fun i => -i) (dC (.int 1))) (dNil))))) (sIf (dTest (dOp fGt (dCB bLen (dCons (dVar 6) (dNil))) (dC (.int 0)))) (sNew 10 (fLst (dCons (dC (.int 1)) (dCons (dOp fIx (dVar 6) (dC (.int 0))) (dNil))))) (sNew 10 (fLst (dCons (dC (.int 0)) (dCons (dCB bTup (dCons (dVar 4) (dNil))) (dNil))))))) (sSeq (sIf (dOr (dTest (dOp (fEq true) (dCall ((C__law_dates_asked K)) [] Ed (dCons (dVar 4) (dCons (dVar 1) (dCons (dVar 2) (dNil))))) (dVar 10))) (dOr (dTest (dOp (fEq true) (dCall ((C__law_dates_asked K)) [] Ed (dCons (dCB bTup (dCons (dVar 4) (dNil))) (dCons (dVar 1) (dCons (dVar 2) (dNil))))) (dVar 10))) (dTest (dOp (fEq true) (dVar 4) (dVar 5))))) (sRet (dC (.bl false))) (sNext)) (sSeq (sNew 7 (fLc (idRng1 (dCons (dCall ((C__law_take hd)) [] Ed (dCons (dVar 0) (dCons (dC (.int 10)) (dNil)))) (dNil))) (gdName 11) (dYes) (dCall ((C__law_take hd)) [] (fun _ _ => False) (dCons (dVar 0) (dCons (dC (.int 5)) (dNil)))) (([("_law_k", 11)] : List (Str × Nat)).map (·.2)))) (sSeq (sNew 8 (fLc (idRng1 (dCons (dCB bLen (dCons (dVar 7) (dNil))) (dNil))) (gdName 12) (dTest (dOp (fIn true) (dOp fIx (dVar 7) (dVar 12)) (dSl (dVar 7) (dNoP) (dPart (dVar 12))))) (dOp fIx (dVar 7) (dVar 12)) (([("_law_at", 12)] : List (Str × Nat)).map (·.2)))) (sRet (dAndV (dOp (fEq false) (dCall ((C_unlike_dates K)) [] Ed (dCons (dCB bLst (dCons (dVar 7) (dNil))) (dNil))) (dCB bTup (dCons (dVar 8) (dNil)))) (dOp (fEq false) (dCall ((C__law_dates_asked K)) [] Ed (dCons (dC .non) (dCons (dVar 1) (dCons (dVar 2) (dNil))))) (dLst (dCons (dC (.int 1)) (dCons (dUn (fUn fun i => -i) (dC (.int 1))) (dNil))))))))))))
theorem dates_tail {K : PySem.W.Frag} {hd : Addr} {Qd : D → Prop} {Ed : Exc → Prop} {size most low : Int} {xs : List D} {o : Slot} (hg : ∀ x ∈ xs, gI x) (hl : xs.length ≤ 9) (ho : o = .no ∨ ∃ l, o = .own l) (q : Qd (.bl true)) :
    tl_dates K hd (fun _ x => Ed x) ⟨fun _ => Qd .non, Qd, fun _ => False, fun _ => False⟩ [.val (.ref hd), .val (.int size), .val (.int most), .val (.int low), .own xs, .no, .no, .no, .no, o, .no, .no, .no] := by
  have hty : allTy xs := fun x m => (hg x m).2.1
  have nl : noLstA xs = true := noLst_of fun x m => (hg x m).2.2
  have okx : okD (.lst xs) := okD_lst fun x m => (hg x m).1
  refine ⟨_, _, rfl, rfl, xs, rfl, (show 5 < 13 by decide), .inr nl, ?_⟩
  refine ⟨_, _, rfl, rfl, _, rfl, ⟨(xs.length : Int), rfl, ⟨by omega, by omega⟩, ?_, ?_⟩⟩
  · show (rngD 0 xs.length).length ≤ 1000000
    unfold rngD
    rw [List.length_map, List.length_range]
    omega
  refine rng_lc (xs := xs) (fun _ d => badW size d) (fun pre _ => .int pre.length) (fun pre d suf R e hR => ?_) xs [] [] rfl ?_
  · have hat : atI xs (pre.length : Int) = some d := by rw [e]; exact atI_mid
    have hd := hg d (by rw [e]; simp)
    refine ⟨_, _, rfl, rfl, _, _, rfl, rfl, ⟨_, rfl, d, hat, ⟨d, rfl, hd.2.1, _, rfl, ?_⟩⟩⟩
    cases hw : isWh d .non .non with
    | false =>
      have hb : badW size d = true := by
        unfold badW
        cases d <;> first | rfl | (simp [isWh] at hw)
      rw [hb] at hR
      exact it_t rfl (it_t rfl ⟨_, _, rfl, rfl, rfl, hR⟩)
    | true =>
      have hi : ∃ n, d = .int n := by
        cases d <;> first | exact ⟨_, rfl⟩ | (simp [isWh] at hw)
      obtain ⟨n, rfl⟩ := hi
      refine it_f rfl ⟨_, _, rfl, rfl, _, _, rfl, rfl, ⟨_, rfl, _, hat, Or.inl ⟨n, 0, rfl, rfl, _, rfl, ?_⟩⟩⟩
      by_cases h0 : n < 0
      · have hb : badW size (.int n) = true := by
          unfold badW isWh
          simp; omega
        rw [hb] at hR
        exact it_t (decide_eq_true h0) (it_t rfl ⟨_, _, rfl, rfl, rfl, hR⟩)
      · refine it_f (decide_eq_false h0) ⟨_, _, rfl, rfl, _, _, rfl, rfl, ⟨_, rfl, _, hat, ⟨_, _, rfl, rfl, ⟨n, size, rfl, rfl, _, rfl, ?_⟩⟩⟩⟩
        by_cases h1 : size ≤ n
        · have hb : badW size (.int n) = true := by
            unfold badW isWh
            simp; omega
          rw [hb] at hR
          exact it_t (decide_eq_true h1) ⟨_, _, rfl, rfl, rfl, hR⟩
        · have hb : badW size (.int n) = false := by
            unfold badW isWh
            simp; omega
          rw [hb] at hR
          exact it_f (decide_eq_false h1) hR
  have nlw : ∀ (xs pre : List D), noLstA (ixs (fun _ d => badW size d) pre xs) = true := by
    intro xs
    induction xs with
    | nil => intro pre; rfl
    | cons d xs ih =>
      intro pre
      unfold ixs sel
      cases badW size d with
      | true => exact ih (pre ++ [d])
      | false => exact ih (pre ++ [d])
  refine ⟨(show 6 < 13 by decide), .inr (nlw xs []), ?_⟩
  dsimp only
  refine seqD (P := fun env => ∃ due wr : List D, bDates size most xs = .lst due ∧ noLstA due = true ∧ okD (.lst due) ∧ env = [.val (.ref hd), .val (.int size), .val (.int most), .val (.int low), .own xs, .own xs, .own wr, .no, .no, o, .own due, .no, .no]) ?_ ?_
  · intro env hh
    obtain ⟨due, wr, hdue, nld, okd, rfl⟩ := hh
    have asked : ∀ (x : D) (Q : D → Prop) (E : Exc → Prop), seqOf x = some xs → x.tyn.isSome = true → Q (.lst due) → C__law_dates_asked K [x, .int size, .int most] Q E := fun x Q E hs ht hQ => by
      refine ⟨x, size, most, rfl, ht, ?_⟩
      rw [hs]
      refine ⟨hty, nl, ?_⟩
      rw [hdue]
      exact hQ
    have ne1 : ∀ (Q : D → Prop), Q (.bl false) → fEq true (.lst due) (.lst due) Q := fun Q hQ => ⟨okd, okd, by rw [eqD_refl okd.1]; exact hQ⟩
    have ne2 : ∀ (Q : D → Prop), Q (.bl false) → fEq true (.lst xs) (.lst xs) Q := fun Q hQ => ⟨okx, okx, by rw [eqD_refl okx.1]; exact hQ⟩
    refine ⟨_, _, rfl, rfl, _, _, rfl, rfl, _, _, rfl, rfl, _, size, most, rfl, rfl, hty, nl, ?_⟩
    rw [hdue]
    refine ⟨_, _, rfl, rfl, okd, okd, ?_⟩
    rw [eqD_refl okd.1]
    refine ⟨_, rfl, it_f rfl ?_⟩
    refine ⟨_, _, rfl, rfl, _, rfl, _, _, rfl, rfl, _, _, rfl, rfl, _, size, most, rfl, rfl, hty, nl, ?_⟩
    rw [hdue]
    refine ⟨_, _, rfl, rfl, okd, okd, ?_⟩
    rw [eqD_refl okd.1]
    refine ⟨_, rfl, it_f rfl ?_⟩
    refine ⟨_, _, rfl, rfl, _, _, rfl, rfl, okx, okx, ?_⟩
    rw [eqD_refl okx.1]
    refine ⟨_, rfl, it_f rfl ?_⟩
    refine ⟨_, _, rfl, rfl, _, rfl, by decide, by decide, fun j j0 j1 => ⟨j, rfl, ⟨by omega, by omega⟩, ?_, ?_⟩⟩
    · unfold rngD
      rw [List.length_map, List.length_range]
      omega
    refine lcD_draw (fun d => gI d) (fun y h => h.2.2) _ [] (fun x hx R hR => ?_) fun ys hy hys => ?_
    · exact ⟨_, _, rfl, rfl, _, rfl, by decide, by decide, fun r _ _ => hR _ gI_int⟩
    rw [List.nil_append]
    have nly : noLstA ys = true := noLst_of fun x m => (hys x m).2.2
    have oky : okD (.lst ys) := okD_lst fun x m => (hys x m).1
    have hyl : ys.length ≤ 9 := by
      rw [hy]
      unfold rngD
      rw [List.length_map, List.length_range]
      omega
    refine ⟨(show 7 < 13 by decide), .inr nly, ?_⟩
    refine ⟨_, _, rfl, rfl, _, rfl, ⟨(ys.length : Int), rfl, ⟨by omega, by omega⟩, ?_, ?_⟩⟩
    · show (rngD 0 ys.length).length ≤ 1000000
      unfold rngD
      rw [List.length_map, List.length_range]
      omega
    refine rng_lc (xs := ys) (fun pre d => !anyD pre d) (fun _ d => d) (fun pre d suf R e hR => ?_) ys [] [] rfl ?_
    · have hat : atI ys (pre.length : Int) = some d := by rw [e]; exact atI_mid
      have hd := hys d (by rw [e]; simp)
      have okp : okD (.lst pre) := okD_sub oky fun y m => by rw [e]; simp [m]
      have ec : cutL ys none (some (pre.length : Int)) = pre := by
        have := cutL_pre (pre := pre) (suf := d :: suf)
        rw [← e] at this; exact this
      refine ⟨_, _, rfl, rfl, _, _, rfl, rfl, ⟨_, rfl, d, hat, ⟨_, _, rfl, rfl, _, _, rfl, rfl, _, rfl, ?_⟩⟩⟩
      refine sl_lst ?_
      rw [ec]
      refine in_lst hd.1.ok okp ⟨_, rfl, ?_⟩
      cases ha : anyD pre d with
      | true =>
        rw [ha] at hR
        exact it_f rfl hR
      | false =>
        rw [ha] at hR
        exact it_t rfl ⟨_, _, rfl, rfl, _, _, rfl, rfl, ⟨_, rfl, d, hat, hd.2.2, hR⟩⟩
    rw [List.nil_append, unl_sel]
    have usub : ∀ (zs pre : List D), ∀ z ∈ unl pre zs, z ∈ zs := by
      intro zs
      induction zs with
      | nil => intro pre z m; cases m
      | cons d zs ih =>
        intro pre z m
        unfold unl at m
        cases ha : anyD pre d with
        | true =>
          rw [ha, if_pos rfl] at m
          exact List.mem_cons_of_mem _ (ih _ z m)
        | false =>
          rw [ha, if_neg (by decide)] at m
          rcases List.mem_cons.mp m with rfl | m
          · exact List.mem_cons_self
          · exact List.mem_cons_of_mem _ (ih _ z m)
    have nlu : noLstA (unl [] ys) = true := noLst_of fun x m => (hys x (usub ys [] x m)).2.2
    have oku : okD (.tup (unl [] ys)) := okD_tup fun x m => (hys x (usub ys [] x m)).1
    refine ⟨(show 8 < 13 by decide), .inr nlu, ?_⟩
    refine ⟨_, _, rfl, rfl, _, rfl, _, _, rfl, rfl, oky, nly, by omega, _, _, rfl, rfl, _, rfl, oku, oku, _, rfl, it_t (eqD_refl oku.1) ?_⟩
    have ok1 : okD (.lst [.int 1, .int (-1)]) := okD_lst fun x m => by
      simp only [List.mem_cons, List.not_mem_nil, or_false] at m
      rcases m with rfl | rfl <;> exact okI_int
    refine ⟨_, _, rfl, rfl, _, _, rfl, rfl, .non, size, most, rfl, rfl, ⟨1, rfl, (show 2 ≤ sizeLine by decide), ok1, ok1, ?_⟩⟩
    rw [eqD_refl ok1.1]
    exact q
  · intro k
    have ok2 : ∀ a b : Int, okD (.lst [.int a, .int b]) := fun a b => okD_lst fun x m => by
      simp only [List.mem_cons, List.not_mem_nil, or_false] at m
      rcases m with rfl | rfl <;> exact okI_int
    refine ⟨_, _, rfl, rfl, _, rfl, ⟨_, _, rfl, rfl, ⟨_, most, rfl, rfl, _, rfl, ?_⟩⟩⟩
    by_cases hm : most < (xs.length : Int)
    · refine it_t (decide_eq_true hm) ⟨1, rfl, (show 2 ≤ sizeLine by decide), (show 10 < 13 by decide), .inr rfl, k _ ⟨_, _, ?_, rfl, ok2 _ _, rfl⟩⟩
      unfold bDates
      rw [if_pos hm]
    · refine it_f (decide_eq_false hm) ?_
      rcases fst_ixs (bad := fun _ d => badW size d) xs [] with ⟨hf, hi⟩ | ⟨i, r, hf, hi⟩
      · have hi' : [] ++ sel (fun _ d => badW size d) (fun pre _ => .int pre.length) [] xs = [] := hi
        have hf' : fstBad (fun _ d => !isWh d (.int 0) (.int (size - 1))) [] xs = none := hf
        rw [hi']
        refine ⟨_, _, rfl, rfl, _, rfl, ⟨_, _, rfl, rfl, _, rfl, it_f rfl ?_⟩⟩
        refine ⟨_, _, rfl, rfl, _, rfl, (show 2 ≤ sizeLine by decide), (show 10 < 13 by decide), .inr ?_, k _ ⟨_, _, ?_, ?_, ?_, rfl⟩⟩
        · simpa only [noLstA, D.noLst, Bool.true_and, Bool.and_true] using nl
        · unfold bDates
          rw [if_neg hm, hf']
        · simpa only [noLstA, D.noLst, Bool.true_and, Bool.and_true] using nl
        · refine ⟨?_, ?_⟩
          · have := okx.1
            simp only [D.good] at this
            simp only [D.good, goodA, this, Bool.true_and, Bool.and_true]
          · have := depA_of fun x m => (hg x m).1.2
            simp only [D.dep, depA]
            omega
      · have hi' : [] ++ sel (fun _ d => badW size d) (fun pre _ => .int pre.length) [] xs = .int i :: r := hi
        have hf' : fstBad (fun _ d => !isWh d (.int 0) (.int (size - 1))) [] xs = some i := hf
        rw [hi']
        refine ⟨_, _, rfl, rfl, _, rfl, ⟨_, _, rfl, rfl, _, rfl, it_t (decide_eq_true ?_) ?_⟩⟩
        · rw [List.length_cons]; omega
        refine ⟨_, _, rfl, rfl, ⟨0, rfl, .int i, ?_, (show 2 ≤ sizeLine by decide), (show 10 < 13 by decide), .inr rfl, k _ ⟨_, _, ?_, rfl, ok2 _ _, rfl⟩⟩⟩
        · unfold atI ixN
          rw [if_pos (by decide), if_pos (by rw [List.length_cons]; omega)]
          rfl
        · unfold bDates
          rw [if_neg hm, hf']
def P0d (hd : Addr) (size most low : Int) : DEnv → Prop := fun env => ∃ xs : List D, (∀ x ∈ xs, gI x) ∧ xs.length ≤ 9 ∧ env = [.val (.ref hd), .val (.int size), .val (.int most), .val (.int low), .own xs, .no, .no, .no, .no, .no, .no, .no, .no]
def env0d (hd : Addr) (size most low : Int) : DEnv := [.val (.ref hd), .val (.int size), .val (.int most), .val (.int low), .no, .no, .no, .no, .no, .no, .no, .no, .no]
theorem ct__law_dates_right {K : PySem.W.Frag} {hd : Addr} {ds : List D} {Qd : D → Prop} {Ed : Exc → Prop} (h : C__law_dates_right K hd ds Qd Ed) : d__law_dates_right K hd (fun _ x => Ed x) ⟨fun _ => Qd .non, Qd, fun _ => False, fun _ => False⟩ (startD N__law_dates_right ds) := by
  obtain ⟨rfl, q⟩ := h
  show dCall (C__law_take hd) [] (fun _ x => Ed x) (dCons (dVar 0) (dCons (dC (.int 10)) dNil)) (startD N__law_dates_right [.ref hd]) _
  refine tkC rfl (by decide) (by decide) fun size s0 s1 => ⟨kpI, ?_⟩
  refine ⟨(show 5 ≤ sizeLine by decide), tkC rfl (by decide) (by decide) fun r r0 r1 => ?_⟩
  obtain ⟨m, em, hm⟩ := atI_ok (xs := [D.int 7, .int 7, .int 3, .int 4, .int 9]) r0 r1
  refine ⟨r, rfl, m, em, ?_⟩
  have hmi : ∃ most : Int, m = .int most := by
    simp only [List.mem_cons, List.not_mem_nil, or_false] at hm
    rcases hm with rfl | rfl | rfl | rfl | rfl <;> exact ⟨_, rfl⟩
  obtain ⟨most, rfl⟩ := hmi
  refine ⟨kpI, ?_⟩
  refine ⟨_, _, rfl, rfl, _, rfl, by decide, by decide, fun l l0 l1 => ⟨_, _, rfl, rfl, d40 (by decide) (by decide), kpI, ?_⟩⟩
  have lo0 : 0 ≤ l / 3 := by omega
  have lo1 : l / 3 ≤ 1 := by omega
  dsimp only
  generalize l / 3 = low at lo0 lo1
  refine seqD (P := P0d hd size most low) ?_ ?_
  · intro env hh
    obtain ⟨xs, hg, hl, rfl⟩ := hh
    refine seqD (P := fun env => ∃ xs : List D, ∃ o : Slot, (∀ x ∈ xs, gI x) ∧ xs.length ≤ 9 ∧ (o = .no ∨ ∃ l, o = .own l) ∧ env = [.val (.ref hd), .val (.int size), .val (.int most), .val (.int low), .own xs, .no, .no, .no, .no, o, .no, .no, .no]) ?_ ?_
    · intro env hh
      obtain ⟨xs, o, hg, hl, ho, rfl⟩ := hh
      exact dates_tail hg hl ho q
    · intro k
      refine ⟨_, _, rfl, rfl, _, rfl, ⟨_, _, rfl, rfl, _, rfl, ?_⟩⟩
      by_cases h0 : (0 : Int) < (xs.length : Int)
      · refine it_t (decide_eq_true h0) ⟨_, _, rfl, rfl, _, rfl, by decide, by decide, fun r r0 r1 => ?_⟩
        dsimp only [dC]
        refine eq_d okI_int.ok okI_int.ok ⟨_, rfl, ?_⟩
        rw [show xr false (eqD (D.int r) (D.int 0)) = decide (r = 0) from eqD_int]
        by_cases hr : r = 0
        · refine it_t (decide_eq_true hr) ?_
          refine ⟨1, rfl, _, _, rfl, rfl, 10, 20, rfl, rfl, ⟨by decide, by decide, by decide⟩, (show 6 ≤ sizeLine by decide), (show 9 < 13 by decide), .inr rfl, ?_⟩
          refine ⟨_, _, rfl, rfl, _, _, rfl, rfl, ⟨_, _, rfl, rfl, _, rfl, _, rfl, (show (0 : Int) < 6 by decide), (show (6 : Int) < 2 ^ 200 by decide), fun i i0 i1 => ?_⟩⟩
          obtain ⟨d, ed, hd⟩ := atI_ok (xs := [D.int (-1), .int size, .bl true, .non, .str "0", .int (10 ^ 20)]) i0 i1
          have gd : gI d := by
            simp only [List.mem_cons, List.not_mem_nil, or_false] at hd
            rcases hd with rfl | rfl | rfl | rfl | rfl | rfl
            · exact gI_int
            · exact gI_int
            · exact gI_bl
            · exact gI_non
            · exact ⟨⟨by decide +kernel, by simp only [D.dep]; omega⟩, rfl, rfl⟩
            · exact gI_int
          refine ⟨i, rfl, d, ed, xs, rfl, ⟨_, _, rfl, rfl, _, _, rfl, rfl, _, rfl, _, rfl, h0, by omega, fun j j0 j1 => ?_⟩⟩
          refine ⟨j, j.toNat, rfl, ?_, gd.2.2, k _ ⟨xs.set j.toNat d, _, ?_, by rw [List.length_set]; exact hl, .inr ⟨_, rfl⟩, rfl⟩⟩
          · unfold ixN
            rw [if_pos j0, if_pos j1]
          · intro x hx
            rcases List.mem_or_eq_of_mem_set hx with h | h
            · exact hg x h
            · rw [h]; exact gd
        · exact it_f (decide_eq_false hr) (k _ ⟨xs, _, hg, hl, .inl rfl, rfl⟩)
      · exact it_f (decide_eq_false h0) (it_f rfl (k _ ⟨xs, _, hg, hl, .inl rfl, rfl⟩))
  · intro k
    have fin : ∀ (N : DEnv → Prop), (∀ env', P0d hd size most low env' → N env') → ∀ j : Int, 0 ≤ j → j < 10 → (0 < j → 0 < size + low) → (rngD 0 j.toNat).length ≤ 1000000 ∧ lcD (gdName 11) dYes (dCall ((C__law_take hd)) [] (fun _ _ => False) (dCons (dVar 0) (dCons (dOp fAdd (dVar 1) (dVar 3)) (dNil)))) (env0d hd size most low) (rngD 0 j.toNat) []
        fun ds => 4 < 13 ∧ (noOwn ((env0d hd size most low).set 4 .no) = true ∨ noLstA ds = true) ∧ N ((env0d hd size most low).set 4 (.own ds)) := fun N k j j0 j1 hj => by
      have hlen : (rngD 0 j.toNat).length = j.toNat := by unfold rngD; rw [List.length_map, List.length_range]
      refine ⟨by rw [hlen]; omega, ?_⟩
      refine lcD_draw (fun d => gI d) (fun y h => h.2.2) _ [] (fun x hx R hR => ?_) fun ys hy hys => ⟨by decide, .inl rfl, k _ ⟨ys, hys, by rw [hy, hlen]; omega, rfl⟩⟩
      have jp : 0 < j := by
        have : 0 < (rngD 0 j.toNat).length := List.length_pos_of_mem hx
        omega
      have sp := hj jp
      exact ⟨_, _, rfl, rfl, _, _, rfl, rfl, _, _, rfl, rfl, _, rfl, sp, by omega, fun r _ _ => hR _ gI_int⟩
    refine ⟨_, _, rfl, rfl, size, 0, rfl, rfl, _, rfl, ?_⟩
    by_cases hs : 0 < size
    · refine it_t (decide_eq_true hs) ⟨_, _, rfl, rfl, _, rfl, by decide, by decide, fun j j0 j1 => ⟨j, rfl, ⟨by omega, by omega⟩, ?_⟩⟩
      exact fin _ k j j0 j1 fun _ => by omega
    · refine it_f (decide_eq_false hs) ⟨_, _, rfl, rfl, low, rfl, ⟨by omega, by omega⟩, ?_⟩
      exact fin _ k low lo0 (by omega) fun _ => by omega
end K02
namespace K02
open PySem PySem.Spec PyProof.Rows L2 Dl
def isI (d : D) : Prop := ∃ i, d = .int i
theorem isI.g {d : D} (h : isI d) : gI d := by obtain ⟨i, rfl⟩ := h; exact gI_int
def badP (am : List D) (pre : List D) (d : D) : Bool := !isWh d .non .non || (!anyD am d || anyD pre d)
def badL (am : List D) (pre : List D) (d : D) : Bool := (!isWh d .non .non || !anyD am d) || decide (0 < ((pre.filter fun o => isWh o .non .non && eqD o d).length : Int))
theorem bad_same (am xs : List D) : fstBad (badL am) [] xs = fstBad (badP am) [] xs := by
  refine fstBad_same (fun pre => ∀ o ∈ pre, isWh o .non .non = true) (fun pre d hI => ?_) (fun pre d hI h => ?_) xs [] (fun o m => by cases m)
  · unfold badL badP
    have e : decide (0 < ((pre.filter fun o => isWh o .non .non && eqD o d).length : Int)) = anyD pre d := by
      have e1 : (pre.filter fun o => isWh o .non .non && eqD o d) = pre.filter fun o => eqD o d := List.filter_congr fun o m => by rw [hI o m, Bool.true_and]
      rw [e1]
      unfold anyD
      cases h : pre.any fun z => eqD z d with
      | true =>
        obtain ⟨z, hz, hez⟩ := List.any_eq_true.mp h
        have : 0 < (pre.filter fun o => eqD o d).length := List.length_pos_of_mem (List.mem_filter.mpr ⟨hz, hez⟩)
        exact decide_eq_true (by omega)
      | false =>
        have : pre.filter (fun o => eqD o d) = [] := List.filter_eq_nil_iff.mpr fun z hz => by
          have := List.any_eq_false.mp h z hz
          simpa using this
        rw [this]
        rfl
    rw [e, Bool.or_assoc]
  · intro o m
    rcases List.mem_append.mp m with m | m
    · exact hI o m
    · rw [List.mem_singleton.mp m]
      unfold badL at h
      cases hw : isWh d .non .non with
      | true => rfl
      | false => rw [hw] at h; simp at h
def envL (hd : Addr) (am lot : List D) (s3 s6 s9 : Slot) : DEnv := [.val (.ref hd), .own am, .own lot, s3, .no, .no, s6, .no, .no, s9, .no, .no]
def tl_lot (K : PySem.W.Frag) (hd : Addr) (Ed : DEnv → Exc → Prop) : TSD := sSeq (sNew 4 (fListOf (dVar 2))) (sSeq (sNew 5 (fLst (dCons (dC (.int 1)) (dCons (dUn (fUn fun i => -i) (dC (.int 1))) (dNil))))) (sSeq (sIf (dTest (dOp fGt (dCB bLen (dCons (dVar 2) (dNil))) (dC (.int 0)))) (sSeq (sNew 7 (fLst (dNil))) (sSeq (sFor (idRng1 (dCons (dCB bLen (dCons (dVar 2) (dNil))) (dNil))) (gdName 8) (sSeq (sAsg 10 (dOrV (dNotV (dCall ((C__law_whole K)) [] Ed (dCons (dOp fIx (dVar 2) (dVar 8)) (dNil)))) (dOp (fIn true) (dOp fIx (dVar 2) (dVar 8)) (dVar 1)))) (sIf (dOr (dTru (dVar 10)) (dTest (dOp fGt (dCB bLen (dCons (dF (fLc (idSeq (dSl (dVar 2) (dNoP) (dPart (dVar 8)))) (gdName 11) (dAnd (dB (dCall ((C__law_whole K)) [] (fun _ _ => False) (dCons (dVar 11) (dNil)))) (dTest (dOp (fEq false) (dVar 11) (dOp fIx (dVar 2) (dVar 8))))) (dVar 11) (([("_law_one", 11)] : List (Str × Nat)).map (·.2)))) (dNil))) (dC (.int 0))))) (sApp 7 (dVar 8)) (sNext)))) (sNew 5 (dIfF (dTest (dOp (fEq false) (dCB bLen (dCons (dVar 7) (dNil))) (dC (.int 0)))) (fLst (dCons (dC (.int 0)) (dCons (dCB bTup (dCons (dCB bSort (dCons (dVar 2) (dNil))) (dNil))) (dNil)))) (fLst (dCons (dC (.int 1)) (dCons (dOp fIx (dVar 7) (dC (.int 0))) (dNil)))))))) (sNext)) (sSeq (sIf (dOr (dTest (dOp (fEq true) (dCall ((C__law_lot_asked K)) [] Ed (dCons (dVar 2) (dCons (dCB bLst (dCons (dVar 1) (dNil))) (dNil)))) (dVar 5))) (dOr (dTest (dOp (fEq true) (dCall ((C__law_lot_asked K)) [] Ed (dCons (dCB bTup (dCons (dVar 2) (dNil))) (dCons (dCB bTup (dCons (dVar 1) (dNil))) (dNil)))) (dVar 5))) (dTest (dOp (fEq true) (dVar 2) (dVar 4))))) (sRet (dC (.bl false))) (sNext)) (sRet (dAndV (dOp (fEq false) (dCall ((C__law_lot_asked K)) [] Ed (dCons (dC (.int 5)) (dCons (dVar 1) (dNil)))) (dLst (dCons (dC (.int 1)) (dCons (dUn (fUn fun i => -i) (dC (.int 1))) (dNil))))) (dOp (fEq false) (dCall ((C__law_lot_asked K)) [] Ed (dCons (dTup (dNil)) (dCons (dVar 1) (dNil)))) (dLst (dCons (dC (.int 1)) (dCons (dUn (fUn fun i => -i) (dC (.int 1))) (dNil))))))))))
def Rdue (am lot due : List D) : Prop := if lot.length = 0 then due = [.int 1, .int (-1)] else match fstBad (badP am) [] lot with
  | some i => due = [.int 1, .int i]
  | none => ∃ ns ns' : List Int, lot = ns.map D.int ∧ ns'.Perm ns ∧ ns'.Pairwise (· ≤ ·) ∧ due = [.int 0, .tup (ns'.map D.int)]
theorem askL_of {x a : D} {am lot due : List D} {Q : D → Prop} (hs : seqOf x = some lot) (ha : seqOf a = some am) (R : Rdue am lot due) (oka : okD (.lst am)) (okl : okD (.lst lot)) (hty : allTy lot) (hQ : Q (.lst due)) : askL x a Q := by
  unfold askL
  unfold Rdue at R
  rw [hs]
  dsimp only
  by_cases h0 : lot.length = 0
  · rw [if_pos h0] at R ⊢
    rw [← R]
    exact hQ
  · rw [if_neg h0] at R ⊢
    refine ⟨am, ha, oka, okl, hty, ?_⟩
    cases hf : fstBad (badP am) [] lot with
    | some i =>
      rw [hf] at R
      have hf' : fstBad (fun pre d => !isWh d .non .non || (!anyD am d || anyD pre d)) [] lot = some i := hf
      rw [hf']
      dsimp only at R ⊢
      rw [← R]
      exact hQ
    | none =>
      rw [hf] at R
      have hf' : fstBad (fun pre d => !isWh d .non .non || (!anyD am d || anyD pre d)) [] lot = none := hf
      rw [hf']
      obtain ⟨ns, ns', e1, pm, so, ed⟩ := R
      refine ⟨ns, e1, fun ns2 pm2 so2 => ?_⟩
      have : ns2 = ns' := List.Perm.eq_of_pairwise (fun _ _ _ _ a b => Int.le_antisymm a b) so2 so (pm2.trans pm.symm)
      rw [this, ← ed]
      exact hQ
theorem whole_all (am : List D) : ∀ (xs pre : List D), fstBad (badP am) pre xs = none → ∃ ns : List Int, xs = ns.map D.int
  | [], _, _ => ⟨[], rfl⟩
  | d :: xs, pre, h => by
    rw [fstBad_cons] at h
    cases hb : badP am pre d with
    | true => rw [hb] at h; cases h
    | false =>
      rw [hb, if_neg (by decide)] at h
      obtain ⟨ns, rfl⟩ := whole_all am xs (pre ++ [d]) h
      unfold badP at hb
      cases d <;> first | exact ⟨_ :: ns, rfl⟩ | (simp [isWh] at hb)
theorem strange_ev {K : PySem.W.Frag} {Ed : DEnv → Exc → Prop} {env : DEnv} {am lot pre : List D} {d : D} {R : D → Prop} (e1 : env[1]? = some (.own am)) (e2 : env[2]? = some (.own lot)) (e8 : env[8]? = some (.val (.int (pre.length : Int)))) (hat : atI lot (pre.length : Int) = some d) (hd : gI d) (oka : okD (.lst am)) (hR : R (.bl (!isWh d .non .non || !anyD am d))) :
    dOrV (dNotV (dCall (C__law_whole K) [] Ed (dCons (dOp fIx (dVar 2) (dVar 8)) dNil))) (dOp (fIn true) (dOp fIx (dVar 2) (dVar 8)) (dVar 1)) env R := by
  refine ⟨_, _, e2, rfl, _, _, e8, rfl, ⟨_, rfl, d, hat, ⟨d, rfl, hd.2.1, ⟨_, rfl, _, rfl, ?_⟩⟩⟩⟩
  cases hw : isWh d .non .non with
  | false =>
    rw [hw] at hR
    exact it_t rfl hR
  | true =>
    rw [hw] at hR
    exact it_f rfl ⟨_, _, e2, rfl, _, _, e8, rfl, ⟨_, rfl, d, hat, ⟨_, _, e1, rfl, hd.1.ok, oka, hR⟩⟩⟩
theorem lot_tail {K : PySem.W.Frag} {hd : Addr} {Qd : D → Prop} {Ed : Exc → Prop} {am lot : List D} {s3 s6 s9 : Slot} (ha : ∀ x ∈ am, isI x) (hg : ∀ x ∈ lot, gI x) (hl : lot.length ≤ 7) (q : Qd (.bl true)) :
    tl_lot K hd (fun _ x => Ed x) ⟨fun _ => Qd .non, Qd, fun _ => False, fun _ => False⟩ (envL hd am lot s3 s6 s9) := by
  have hty : allTy lot := fun x m => (hg x m).2.1
  have nll : noLstA lot = true := noLst_of fun x m => (hg x m).2.2
  have okl : okD (.lst lot) := okD_lst fun x m => (hg x m).1
  have oka : okD (.lst am) := okD_lst fun x m => (ha x m).g.1
  refine ⟨_, _, rfl, rfl, lot, rfl, (show 4 < 12 by decide), .inr nll, ?_⟩
  refine ⟨1, rfl, (show 2 ≤ sizeLine by decide), (show 5 < 12 by decide), .inr rfl, ?_⟩
  dsimp only
  refine seqD (P := fun env => ∃ due s7 s8 s10, Rdue am lot due ∧ okD (.lst due) ∧ env = [.val (.ref hd), .own am, .own lot, s3, .own lot, .own due, s6, s7, s8, s9, s10, .no]) ?_ ?_
  · intro env hh
    obtain ⟨due, s7, s8, s10, R, okd, rfl⟩ := hh
    refine ⟨_, _, rfl, rfl, _, _, rfl, rfl, _, rfl, _, _, rfl, rfl, askL_of rfl rfl R oka okl hty ?_⟩
    refine ⟨_, _, rfl, rfl, okd, okd, ?_⟩
    rw [eqD_refl okd.1]
    refine ⟨_, rfl, it_f rfl ?_⟩
    refine ⟨_, _, rfl, rfl, _, rfl, _, _, rfl, rfl, _, rfl, _, _, rfl, rfl, askL_of rfl rfl R oka okl hty ?_⟩
    refine ⟨_, _, rfl, rfl, okd, okd, ?_⟩
    rw [eqD_refl okd.1]
    refine ⟨_, rfl, it_f rfl ?_⟩
    refine ⟨_, _, rfl, rfl, _, _, rfl, rfl, okl, okl, ?_⟩
    rw [eqD_refl okl.1]
    refine ⟨_, rfl, it_f rfl ?_⟩
    refine ⟨_, _, rfl, rfl, _, _, rfl, rfl, ⟨1, rfl, (show 2 ≤ sizeLine by decide), okD2 1 (-1), okD2 1 (-1), ?_⟩⟩
    rw [eqD_refl (okD2 1 (-1)).1]
    refine ⟨_, rfl, it_t rfl ?_⟩
    refine ⟨(show 0 ≤ sizeLine by decide), _, _, rfl, rfl, _, _, rfl, rfl, ⟨1, rfl, (show 2 ≤ sizeLine by decide), okD2 1 (-1), okD2 1 (-1), ?_⟩⟩
    rw [eqD_refl (okD2 1 (-1)).1]
    exact q
  · intro k
    refine ⟨_, _, rfl, rfl, _, rfl, ⟨_, 0, rfl, rfl, _, rfl, ?_⟩⟩
    by_cases h0 : (0 : Int) < (lot.length : Int)
    · refine it_t (decide_eq_true h0) ⟨(show 0 ≤ sizeLine by decide), (show 7 < 12 by decide), .inr rfl, ?_⟩
      refine ⟨_, _, rfl, rfl, _, rfl, ⟨(lot.length : Int), rfl, ⟨by omega, by omega⟩, ?_⟩⟩
      refine rng_loop (xs := lot) (fun pre env => ∃ s8 s10, env = [.val (.ref hd), .own am, .own lot, s3, .own lot, .own [.int 1, .int (-1)], s6, .own (ixs (badL am) [] pre), s8, s9, s10, .no]) (fun pre d suf env nx e hh k2 => ?_) (fun env hh => ?_) lot [] _ rfl ⟨_, _, rfl⟩
      · obtain ⟨s8, s10, rfl⟩ := hh
        have hat : atI lot (pre.length : Int) = some d := by rw [e]; exact atI_mid
        have hdl : d ∈ lot := by rw [e]; simp
        have hd' := hg d hdl
        have hpl : pre.length ≤ 7 := by
          have := congrArg List.length e
          rw [List.length_append, List.length_cons] at this
          omega
        show dOrV (dNotV (dCall (C__law_whole K) [] (fun _ x => Ed x) (dCons (dOp fIx (dVar 2) (dVar 8)) dNil))) (dOp (fIn true) (dOp fIx (dVar 2) (dVar 8)) (dVar 1)) [.val (.ref hd), .own am, .own lot, s3, .own lot, .own [.int 1, .int (-1)], s6, .own (ixs (badL am) [] pre), .val (.int (pre.length : Int)), s9, s10, .no] _
        refine strange_ev rfl rfl rfl hat hd' oka ⟨.inr rfl, ?_⟩
        have snoc : ixs (badL am) [] (pre ++ [d]) = ixs (badL am) [] pre ++ (if badL am pre d = true then [.int pre.length] else []) := sel_snoc pre []
        have wl : ∀ (xs pre : List D), (ixs (badL am) pre xs).length ≤ xs.length := by
          intro xs
          induction xs with
          | nil => intro pre; exact Nat.le_refl _
          | cons x xs ih =>
            intro pre
            unfold ixs sel
            cases badL am pre x with
            | true => exact Nat.succ_le_succ (ih (pre ++ [x]))
            | false => exact Nat.le_succ_of_le (ih (pre ++ [x]))
        have yes : ∀ (st : Bool) (Dd : DEnds), badL am pre d = true → (∀ env', (∃ s8 s10, env' = [.val (.ref hd), .own am, .own lot, s3, .own lot, .own [.int 1, .int (-1)], s6, .own (ixs (badL am) [] (pre ++ [d])), s8, s9, s10, .no]) → Dd.nx env') →
            sApp 7 (dVar 8) Dd [.val (.ref hd), .own am, .own lot, s3, .own lot, .own [.int 1, .int (-1)], s6, .own (ixs (badL am) [] pre), .val (.int (pre.length : Int)), s9, .val (.bl st), .no] := fun st Dd hb kk => by
          refine ⟨_, rfl, ⟨_, _, rfl, rfl, rfl, len_sz (by have := wl pre []; omega), kk _ ⟨.val (.int (pre.length : Int)), .val (.bl st), ?_⟩⟩⟩
          rw [snoc, hb, if_pos rfl]
          rfl
        refine ⟨_, _, rfl, rfl, _, rfl, ?_⟩
        cases hst : (!isWh d .non .non || !anyD am d) with
        | true =>
          have hb : badL am pre d = true := by
            unfold badL
            rw [hst]; rfl
          exact it_t rfl (it_t rfl (yes true _ hb k2))
        | false =>
          refine it_f rfl ⟨_, _, rfl, rfl, _, _, rfl, rfl, _, rfl, ?_⟩
          have ec : cutL lot none (some (pre.length : Int)) = pre := by
            have := cutL_pre (pre := pre) (suf := d :: suf)
            rw [← e] at this; exact this
          refine sl_lst ?_
          rw [ec]
          refine ⟨.inl (noOwn_frz _), pre, rfl, by omega, ?_⟩
          refine lcD_map (fun o => o) (fun o => isWh o .non .non && eqD o d) pre [] (fun o ho R hR => ?_) ?_
          · have hog := hg o (by rw [e]; simp [ho])
            refine ⟨_, _, rfl, rfl, ⟨o, rfl, hog.2.1, _, rfl, ?_⟩⟩
            cases hw : isWh o .non .non with
            | false =>
              rw [hw] at hR
              exact it_f rfl (it_f rfl hR)
            | true =>
              rw [hw] at hR
              refine it_t rfl ⟨_, _, rfl, rfl, _, _, rfl, rfl, _, _, rfl, rfl, ⟨_, rfl, d, hat, hog.1.ok, hd'.1.ok, _, rfl, ?_⟩⟩
              rw [Bool.true_and] at hR
              show if eqD o d = true then _ else _
              cases hq : eqD o d with
              | true =>
                rw [hq] at hR
                exact it_t rfl ⟨_, _, rfl, rfl, hog.2.2, hR⟩
              | false =>
                rw [hq] at hR
                exact it_f rfl hR
          · rw [List.nil_append, List.map_id']
            refine ⟨_, rfl, ⟨_, 0, rfl, rfl, _, rfl, ?_⟩⟩
            have hbe : badL am pre d = decide ((0 : Int) < ((pre.filter fun o => isWh o .non .non && eqD o d).length : Int)) := by
              unfold badL
              rw [hst]; rfl
            by_cases hp : (0 : Int) < ((pre.filter fun o => isWh o .non .non && eqD o d).length : Int)
            · exact it_t (decide_eq_true hp) (yes false _ (by rw [hbe]; exact decide_eq_true hp) k2)
            · refine it_f (decide_eq_false hp) (k2 _ ⟨.val (.int (pre.length : Int)), .val (.bl false), ?_⟩)
              rw [snoc, hbe, if_neg (by rw [decide_eq_false hp]; decide), List.append_nil]
              rfl
      · obtain ⟨s8, s10, rfl⟩ := hh
        have hn0 : ¬ lot.length = 0 := by omega
        refine ⟨_, _, rfl, rfl, _, rfl, okI_int.ok, okI_int.ok, _, rfl, ?_⟩
        rcases fst_ixs (bad := badL am) lot [] with ⟨hf, hi⟩ | ⟨i, r, hf, hi⟩
        · rw [hi]
          rw [bad_same] at hf
          obtain ⟨ns, hns⟩ := whole_all am lot [] hf
          refine it_t rfl ⟨_, _, rfl, rfl, ns, .inl (by rw [hns]), fun ns' pm so => ⟨_, rfl, (show 2 ≤ sizeLine by decide), (show 5 < 12 by decide), .inr ?_, k _ ⟨_, _, _, _, ?_, ?_, rfl⟩⟩⟩
          · simp only [noLstA, D.noLst, Bool.true_and, Bool.and_true]
            exact noLst_of fun z m => by obtain ⟨_, _, rfl⟩ := List.mem_map.mp m; rfl
          · unfold Rdue
            rw [if_neg hn0, hf]
            exact ⟨ns, ns', hns, pm, so, rfl⟩
          · have okt : okI (.tup (ns'.map D.int)) := ⟨by
              simp only [D.good]
              exact goodA_of fun z m => by obtain ⟨_, _, rfl⟩ := List.mem_map.mp m; rfl, by
              simp only [D.dep]
              have := depA_of (n := 0) (xs := ns'.map D.int) fun z m => by obtain ⟨_, _, rfl⟩ := List.mem_map.mp m; exact Nat.le_refl _
              omega⟩
            refine okD_lst fun x m => ?_
            simp only [List.mem_cons, List.not_mem_nil, or_false] at m
            rcases m with rfl | rfl
            · exact okI_int
            · exact okt
        · rw [hi]
          rw [bad_same] at hf
          have e0 : xr false (eqD (D.int ((D.int i :: r).length : Int)) (D.int 0)) = false := by
            rw [show xr false (eqD (D.int ((D.int i :: r).length : Int)) (D.int 0)) = decide (((D.int i :: r).length : Int) = 0) from eqD_int]
            rw [List.length_cons]
            exact decide_eq_false (by omega)
          refine it_f e0 ⟨_, _, rfl, rfl, ⟨0, rfl, .int i, ?_, (show 2 ≤ sizeLine by decide), (show 5 < 12 by decide), .inr rfl, k _ ⟨_, _, _, _, ?_, okD2 _ _, rfl⟩⟩⟩
          · unfold atI ixN
            rw [if_pos (by decide), if_pos (by rw [List.length_cons]; omega)]
            rfl
          · unfold Rdue
            rw [if_neg hn0, hf]
    · have h1 : lot.length = 0 := by omega
      refine it_f (decide_eq_false h0) (k _ ⟨_, _, _, _, ?_, okD2 _ _, rfl⟩)
      unfold Rdue
      rw [if_pos h1]
theorem ct__law_lot_right {K : PySem.W.Frag} {hd : Addr} {ds : List D} {Qd : D → Prop} {Ed : Exc → Prop} (h : C__law_lot_right K hd ds Qd Ed) : d__law_lot_right K hd (fun _ x => Ed x) ⟨fun _ => Qd .non, Qd, fun _ => False, fun _ => False⟩ (startD N__law_lot_right ds) := by
  obtain ⟨rfl, q⟩ := h
  refine ⟨_, _, rfl, rfl, _, rfl, by decide, by decide, fun j j0 j1 => ⟨j, rfl, ⟨by omega, by omega⟩, by rw [rngD_len]; omega, ?_⟩⟩
  refine lcD_some isI _ [] (fun x hx R hn hs => ?_) fun am hal ham => ?_
  · refine ⟨_, _, rfl, rfl, _, rfl, by decide, by decide, fun r _ _ => ⟨r, 0, rfl, rfl, _, rfl, ?_⟩⟩
    by_cases h : 0 < r
    · have hi : isI x := rngD_int hx
      exact it_t (decide_eq_true h) ⟨_, _, rfl, rfl, hi.g.2.2, hs _ hi⟩
    · exact it_f (decide_eq_false h) hn
  rw [List.nil_append]
  have am7 : am.length ≤ 7 := by
    rw [rngD_len] at hal
    omega
  refine ⟨(show 1 < 12 by decide), .inl rfl, ?_⟩
  refine ⟨(show 0 ≤ sizeLine by decide), (show 2 < 12 by decide), .inr rfl, ?_⟩
  dsimp only
  refine seqD (P := fun env => ∃ lot s3 s9, (∀ x ∈ lot, isI x) ∧ lot.length ≤ 6 ∧ env = envL hd am lot s3 .no s9) ?_ ?_
  · intro env hh
    obtain ⟨lot, s3, s9, hlt, hll, rfl⟩ := hh
    refine seqD (P := fun env => ∃ lot s6, (∀ x ∈ lot, gI x) ∧ lot.length ≤ 7 ∧ env = envL hd am lot s3 s6 s9) ?_ ?_
    · intro env hh
      obtain ⟨lot, s6, hg, hl, rfl⟩ := hh
      exact lot_tail ham hg hl q
    · intro k
      refine ⟨_, _, rfl, rfl, _, rfl, by decide, by decide, fun r r0 r1 => ⟨okI_int.ok, okI_int.ok, _, rfl, ?_⟩⟩
      generalize xr false (eqD (D.int r) (D.int 0)) = b
      cases b with
      | false => exact it_f rfl (k _ ⟨lot, .no, fun x m => (hlt x m).g, by omega, rfl⟩)
      | true =>
        refine it_t rfl ⟨1, rfl, (show 6 ≤ sizeLine by decide), (show 6 < 12 by decide), .inr rfl, ?_⟩
        refine ⟨lot, rfl, ⟨_, _, rfl, rfl, ?_⟩⟩
        refine ⟨_, _, rfl, rfl, _, rfl, _, rfl, (show (0 : Int) < (lot.length : Int) + 1 by omega), (show (lot.length : Int) + 1 < 2 ^ 200 by omega), fun i i0 i1 => ⟨i, rfl, i0, by omega, ?_⟩⟩
        refine ⟨_, _, rfl, rfl, _, _, rfl, rfl, ⟨_, _, rfl, rfl, _, rfl, _, rfl, (show (0 : Int) < 6 by decide), (show (6 : Int) < 2 ^ 200 by decide), fun i' i0' i1' => ?_⟩⟩
        obtain ⟨d, ed, hd'⟩ := atI_ok (xs := [D.int (-1), .int 8, .bl true, .non, .str "0", .int 3]) i0' i1'
        have gd : gI d := by
          simp only [List.mem_cons, List.not_mem_nil, or_false] at hd'
          rcases hd' with rfl | rfl | rfl | rfl | rfl | rfl
          · exact gI_int
          · exact gI_int
          · exact gI_bl
          · exact gI_non
          · exact ⟨⟨by decide +kernel, by simp only [D.dep]; omega⟩, rfl, rfl⟩
          · exact gI_int
        refine ⟨i', rfl, d, ed, gd.2.2, len_sz (by omega), k _ ⟨lot.take i.toNat ++ [d] ++ lot.drop i.toNat, _, fun x m => ?_, ?_, rfl⟩⟩
        · simp only [List.mem_append, List.mem_singleton] at m
          rcases m with (m | rfl) | m
          · exact (hlt x (List.mem_of_mem_take m)).g
          · exact gd
          · exact (hlt x (List.mem_of_mem_drop m)).g
        · simp only [List.length_append, List.length_take, List.length_drop, List.length_cons, List.length_nil]
          omega
  · intro k
    refine ⟨_, _, rfl, rfl, _, rfl, by decide, by decide, fun j j0 j1 => ⟨j, rfl, ⟨by omega, by omega⟩, ?_⟩⟩
    refine forD_of (fun done rest env => ∃ lot s3 s9, (∀ x ∈ lot, isI x) ∧ lot.length ≤ done.length ∧ done.length + rest.length ≤ 6 ∧ env = envL hd am lot s3 .no s9) (fun done env hh => ?_) (fun done x rest env hh k2 => ?_) _ [] _ ⟨[], .no, .no, (fun x m => by cases m), Nat.le_refl _, by rw [rngD_len]; simp; omega, rfl⟩
    · obtain ⟨lot, s3, s9, hlt, hll, hb, rfl⟩ := hh
      exact k _ ⟨lot, s3, s9, hlt, by simp at hb; omega, rfl⟩
    · obtain ⟨lot, s3, s9, hlt, hll, hb, rfl⟩ := hh
      rw [List.length_cons] at hb
      have skip : ∀ s9, _ := fun s9 => k2 (envL hd am lot (.val x) .no s9) ⟨lot, _, s9, hlt, by rw [List.length_append]; omega, by rw [List.length_append, List.length_singleton]; omega, rfl⟩
      refine ⟨_, _, rfl, rfl, _, rfl, ⟨_, 0, rfl, rfl, _, rfl, ?_⟩⟩
      by_cases h0 : (0 : Int) < (am.length : Int)
      · refine it_t (decide_eq_true h0) ⟨_, _, rfl, rfl, ⟨_, _, rfl, rfl, _, _, rfl, rfl, _, rfl, _, rfl, h0, by omega, fun i i0 i1 => ?_⟩⟩
        obtain ⟨e, ee, he⟩ := atI_ok i0 i1
        have hie := ham e he
        refine ⟨i, rfl, e, ee, .inr hie.g.2.2, ?_⟩
        have okl : okD (.lst lot) := okD_lst fun x m => (hlt x m).g.1
        have app : ∀ Dd : DEnds, (∀ env', (∃ lot s3 s9, (∀ x ∈ lot, isI x) ∧ lot.length ≤ (done ++ [x]).length ∧ (done ++ [x]).length + rest.length ≤ 6 ∧ env' = envL hd am lot s3 .no s9) → Dd.nx env') → sApp 2 (dVar 9) Dd (envL hd am lot (.val x) .no (.val e)) := fun Dd k2 => ⟨lot, rfl, ⟨_, _, rfl, rfl, hie.g.2.2, len_sz (by omega), k2 _ ⟨lot ++ [e], .val x, .val e, fun y m => by
          rcases List.mem_append.mp m with m | m
          · exact hlt y m
          · rw [List.mem_singleton.mp m]; exact hie, by rw [List.length_append, List.length_append, List.length_singleton, List.length_singleton]; omega, by rw [List.length_append, List.length_singleton]; omega, rfl⟩⟩⟩
        refine ⟨_, _, rfl, rfl, _, _, rfl, rfl, hie.g.1.ok, okl, _, rfl, ?_⟩
        generalize xr true (anyD lot e) = b
        cases b with
        | true => exact it_t rfl (it_t rfl (app _ k2))
        | false =>
          refine it_f rfl ⟨_, _, rfl, rfl, _, rfl, by decide, by decide, fun r r0 r1 => ⟨okI_int.ok, okI_int.ok, _, rfl, ?_⟩⟩
          generalize xr false (eqD (D.int r) (D.int 0)) = b
          cases b with
          | true => exact it_t rfl (app _ k2)
          | false => exact it_f rfl (skip (.val e))
      · exact it_f (decide_eq_false h0) (skip s9)
end K02
namespace Dl
open PySem PySem.Spec PyProof.Rows L2 Ns
/-! tuples of whole numbers: alike, sortable, their order -/
theorem pyA_map (ns : List Int) : pyA (ns.map D.int) = ns.map PyData.int := by
  induction ns with
  | nil => rfl
  | cons n ns ih => simp only [List.map_cons, pyA, D.py, ih]
theorem tI_py (ns : List Int) : (tI ns).py = .tuple (ns.map PyData.int) := by simp only [D.py, pyA_map]
theorem alike_ints : ∀ a b : List Int, PySem.W.alikeAll (a.map PyData.int) (b.map PyData.int) = true
  | [], b => by cases b <;> simp [PySem.W.alikeAll]
  | x :: a, [] => by simp [PySem.W.alikeAll]
  | x :: a, y :: b => by simp [PySem.W.alikeAll, PySem.W.alike, alike_ints a b]
theorem alike_tI (a b : List Int) : PySem.W.alike (tI a).py (tI b).py = true := by
  rw [tI_py, tI_py]
  simpa [PySem.W.alike] using alike_ints a b
theorem good_ints : ∀ ns : List Int, goodA (ns.map D.int) = true ∧ depA (ns.map D.int) = 0 ∧ noLstA (ns.map D.int) = true
  | [] => ⟨rfl, rfl, rfl⟩
  | n :: ns => by
    obtain ⟨a, b, c⟩ := good_ints ns
    exact ⟨by simp only [List.map_cons, goodA, D.good, a, Bool.and_self], by simp only [List.map_cons, depA, D.dep, b, Nat.max_self], by simp only [List.map_cons, noLstA, D.noLst, c, Bool.and_self]⟩
theorem tI_good (ns : List Int) : (tI ns).good = true ∧ (tI ns).dep = 1 ∧ (tI ns).noLst = true := by
  obtain ⟨a, b, c⟩ := good_ints ns
  exact ⟨by simpa only [D.good] using a, by simp only [D.dep, b], by simpa only [D.noLst] using c⟩
theorem eqv_ints : ∀ a b : List Int, PyData.eqvAll (a.map PyData.int) (b.map PyData.int) = decide (a = b)
  | [], [] => by simp [PyData.eqvAll]
  | [], y :: b => by simp [PyData.eqvAll]
  | x :: a, [] => by simp [PyData.eqvAll]
  | x :: a, y :: b => by
    simp only [List.map_cons, PyData.eqvAll, PyData.eqv, eqv_ints a b]
    by_cases h : x = y <;> by_cases h2 : a = b <;> simp [h, h2]
theorem lexLt_ints : ∀ a b : List Int, PyProof.Rows.lexLt itemOrd (PySem.W.keyToksAll (a.map PyData.int)) (PySem.W.keyToksAll (b.map PyData.int)) = HT.lexLt a b
  | [], [] => by rw [PyProof.Rows.lex_irrefl]; rfl
  | [], y :: b => by
    rw [List.map_cons, PySem.W.toks_all_cons]
    simp only [List.map_nil, PySem.W.keyToksAll]
    rw [PyProof.Rows.lex_diff (O := itemOrd) (by simp)]
    rfl
  | x :: a, [] => by
    rw [List.map_cons, PySem.W.toks_all_cons]
    simp only [List.map_nil, PySem.W.keyToksAll]
    rw [PyProof.Rows.lex_diff (O := itemOrd) (by simp)]
    rfl
  | x :: a, y :: b => by
    rw [List.map_cons, List.map_cons]
    by_cases h : x = y
    · subst h
      rw [PySem.W.dataLt_all_yes (by simp [PySem.W.alike]) (by simp [PyData.eqv]), lexLt_ints a b, HT.lexLt_cons, if_pos rfl]
    · rw [PySem.W.dataLt_all_no (by simp [PySem.W.alike]) (by simp [PyData.eqv, h]), HT.lexLt_cons, if_neg h]
      unfold PySem.W.dataLt
      simp only [PySem.W.keyToks]
      rw [PyProof.Rows.lex_diff (O := itemOrd) (by simp [h])]
      rfl
theorem dataLt_tI (a b : List Int) : PySem.W.dataLt (tI a).py (tI b).py = HT.lexLt a b := by
  rw [tI_py, tI_py]
  unfold PySem.W.dataLt
  simp only [PySem.W.keyToks]
  exact lexLt_ints a b
/-- (its size, the lot) -/
abbrev keyL (ns : List Int) : D := .tup [.int ns.length, tI ns]
theorem keyL_py (ns : List Int) : (keyL ns).py = .tuple [.int ns.length, (tI ns).py] := by simp only [D.py, pyA]
theorem alike_keyL (a b : List Int) : PySem.W.alike (keyL a).py (keyL b).py = true := by
  rw [keyL_py, keyL_py]
  have := alike_tI a b
  simp [PySem.W.alike, PySem.W.alikeAll, this]
theorem dataLt_keyL (a b : List Int) : PySem.W.dataLt (keyL a).py (keyL b).py = true ↔ lotLt a b := by
  rw [keyL_py, keyL_py]
  unfold PySem.W.dataLt
  simp only [PySem.W.keyToks]
  by_cases h : a.length = b.length
  · rw [PySem.W.dataLt_all_yes (by simp [PySem.W.alike]) (by simp [PyData.eqv, h])]
    have step : PyProof.Rows.lexLt itemOrd (PySem.W.keyToksAll [(tI a).py]) (PySem.W.keyToksAll [(tI b).py]) = HT.lexLt a b := by
      by_cases e : a = b
      · subst e
        rw [PyProof.Rows.lex_irrefl, ← dataLt_tI]
        unfold PySem.W.dataLt
        rw [PyProof.Rows.lex_irrefl]
      · rw [PySem.W.dataLt_all_no (alike_tI a b) (by rw [tI_py, tI_py]; simp only [PyData.eqv, eqv_ints, decide_eq_false e]), dataLt_tI]
    rw [step]
    unfold lotLt
    constructor
    · exact fun q => .inr ⟨h, q⟩
    · rintro (q | ⟨_, q⟩)
      · omega
      · exact q
  · rw [PySem.W.dataLt_all_no (by simp [PySem.W.alike]) (by simp [PyData.eqv]; omega)]
    unfold PySem.W.dataLt
    simp only [PySem.W.keyToks]
    rw [PyProof.Rows.lex_diff (O := itemOrd) (by simp; omega)]
    unfold lotLt
    constructor
    · intro q
      have : (a.length : Int) < b.length := by simpa [itemOrd, itemLt] using q
      exact .inl (by omega)
    · rintro (q | ⟨q, _⟩)
      · have : (a.length : Int) < b.length := by omega
        simpa [itemOrd, itemLt] using this
      · exact absurd q h
end Dl
namespace Dl
open PySem PySem.Spec PyProof.Rows L2 Ns
theorem tI_inj {a b : List Int} (h : tI a = tI b) : a = b := tupI_inj h
theorem keyL_inj {a b : List Int} (h : keyL a = keyL b) : a = b := by
  have h := D.tup.inj h
  obtain ⟨_, h⟩ := List.cons.inj h
  exact tI_inj (List.cons.inj h).1
theorem lexLt_irr (a : List Int) : HT.lexLt a a = false := by rw [← lexLt_ints, PyProof.Rows.lex_irrefl]
theorem lexLt_tr {a b c : List Int} (h1 : HT.lexLt a b = true) (h2 : HT.lexLt b c = true) : HT.lexLt a c = true := by
  rw [← lexLt_ints] at *
  exact PyProof.Rows.lex_trans _ _ _ h1 h2
theorem lexLt_tri : ∀ a b : List Int, HT.lexLt a b = false → HT.lexLt b a = false → a = b
  | [], [], _, _ => rfl
  | [], y :: b, h, _ => by cases h
  | x :: a, [], _, h => by cases h
  | x :: a, y :: b, h1, h2 => by
    rw [HT.lexLt_cons] at h1 h2
    by_cases e : x = y
    · subst e
      rw [if_pos rfl] at h1 h2
      rw [lexLt_tri a b h1 h2]
    · rw [if_neg e] at h1
      rw [if_neg (Ne.symm e)] at h2
      have := of_decide_eq_false h1
      have := of_decide_eq_false h2
      exact absurd (by omega) e
theorem lotLt_irr (a : List Int) : ¬ lotLt a a := by
  rintro (h | ⟨_, h⟩)
  · omega
  · rw [lexLt_irr] at h; cases h
theorem lotLt_tr {a b c : List Int} (h1 : lotLt a b) (h2 : lotLt b c) : lotLt a c := by
  rcases h1 with h1 | ⟨e1, h1⟩ <;> rcases h2 with h2 | ⟨e2, h2⟩
  · exact .inl (by omega)
  · exact .inl (by omega)
  · exact .inl (by omega)
  · exact .inr ⟨by omega, lexLt_tr h1 h2⟩
theorem lotLt_tri {a b : List Int} (h1 : ¬ lotLt b a) (h2 : a ≠ b) : lotLt a b := by
  by_cases l : a.length < b.length
  · exact .inl l
  · by_cases l2 : b.length < a.length
    · exact absurd (.inl l2) h1
    · refine .inr ⟨by omega, ?_⟩
      cases e : HT.lexLt a b with
      | true => rfl
      | false =>
        refine absurd (lexLt_tri a b e ?_) h2
        cases e2 : HT.lexLt b a with
        | false => rfl
        | true => exact absurd (.inr ⟨by omega, e2⟩) h1
/-- what is ordered and has the same members is the same -/
theorem sorted_eq {α : Type} {lt : α → α → Prop} (irr : ∀ a, ¬ lt a a) (tr : ∀ {a b c}, lt a b → lt b c → lt a c) : ∀ {l m : List α}, l.Pairwise lt → m.Pairwise lt → (∀ x, x ∈ l ↔ x ∈ m) → l = m
  | [], [], _, _, _ => rfl
  | [], y :: m, _, _, h => by have := (h y).mpr List.mem_cons_self; cases this
  | x :: l, [], _, _, h => by have := (h x).mp List.mem_cons_self; cases this
  | x :: l, y :: m, h1, h2, h => by
    obtain ⟨a1, b1⟩ := List.pairwise_cons.mp h1
    obtain ⟨a2, b2⟩ := List.pairwise_cons.mp h2
    have e : x = y := by
      rcases List.mem_cons.mp ((h x).mp List.mem_cons_self) with e | hx
      · exact e
      · rcases List.mem_cons.mp ((h y).mpr List.mem_cons_self) with e | hy
        · exact e.symm
        · exact absurd (tr (a1 y hy) (a2 x hx)) (irr x)
    subst e
    rw [sorted_eq irr tr b1 b2 fun z => ?_]
    constructor
    · intro hz
      rcases List.mem_cons.mp ((h z).mp (List.mem_cons_of_mem _ hz)) with e | q
      · subst e; exact absurd (a1 z hz) (irr z)
      · exact q
    · intro hz
      rcases List.mem_cons.mp ((h z).mpr (List.mem_cons_of_mem _ hz)) with e | q
      · subst e; exact absurd (a2 z hz) (irr z)
      · exact q
theorem lift_map {α β : Type} (f : α → β) {M : List α} : ∀ {l : List β}, (∀ d ∈ l, d ∈ M.map f) → ∃ ms : List α, l = ms.map f ∧ ∀ m ∈ ms, m ∈ M
  | [], _ => ⟨[], rfl, fun m h => by cases h⟩
  | d :: l, h => by
    obtain ⟨ms, rfl, hm⟩ := lift_map f (l := l) fun x hx => h x (List.mem_cons_of_mem _ hx)
    obtain ⟨m, h1, rfl⟩ := List.mem_map.mp (h d List.mem_cons_self)
    refine ⟨m :: ms, rfl, fun x hx => ?_⟩
    rcases List.mem_cons.mp hx with rfl | hx
    · exact h1
    · exact hm x hx
theorem sortable_of {α : Type} (f : α → D) (al : ∀ a b, PySem.W.alike (f a).py (f b).py = true) {ms : List α} (go : ∀ a ∈ ms, (f a).good = true ∧ (f a).dep ≤ 8 ∧ ∃ x r, (f a).py = .tuple (x :: r)) : sortable (ms.map f) where
  al d hd d' hd' := by
    rw [List.map_map] at hd hd'
    obtain ⟨a, _, rfl⟩ := List.mem_map.mp hd
    obtain ⟨b, _, rfl⟩ := List.mem_map.mp hd'
    exact al a b
  so := .inl fun d hd => by
    rw [List.map_map] at hd
    obtain ⟨a, ha, rfl⟩ := List.mem_map.mp hd
    exact (go a ha).2.2
  good := goodA_of fun x hx => by
    obtain ⟨a, ha, rfl⟩ := List.mem_map.mp hx
    exact (go a ha).1
  low d hd := by
    obtain ⟨a, ha, rfl⟩ := List.mem_map.mp hd
    exact (go a ha).2.1
theorem keyL_go (ns : List Int) : (keyL ns).good = true ∧ (keyL ns).dep ≤ 8 ∧ ∃ x r, (keyL ns).py = .tuple (x :: r) := by
  obtain ⟨a, b, c⟩ := tI_good ns
  refine ⟨by simp only [D.good, goodA, Bool.and_self, Bool.and_true, Bool.true_and]; simpa only [D.good] using a, ?_, _, _, keyL_py ns⟩
  simp only [D.dep, depA] at b ⊢
  omega
theorem tI_go {ns : List Int} (h : ns ≠ []) : (tI ns).good = true ∧ (tI ns).dep ≤ 8 ∧ ∃ x r, (tI ns).py = .tuple (x :: r) := by
  obtain ⟨a, b, c⟩ := tI_good ns
  refine ⟨a, by omega, ?_⟩
  cases ns with
  | nil => exact absurd rfl h
  | cons n ns => exact ⟨_, _, tI_py _⟩
/-- {.. for x in xs} -/
theorem zcD_map {gd : TGD} {tt : TTD} {te : TED} {env : DEnv} {Q : List D → Prop} (f : D → D) : ∀ (xs acc : List D),
    (∀ x ∈ xs, (kok (f x) = true ∧ (f x).dep ≤ 8 ∧ ∃ ys, f x = .tup ys) ∧ ∀ (R : D → Prop) (S : Prop), R (f x) → gd x env fun env2 => tt env2 fun b => if b = true then te env2 R else S) →
    (∀ out : List D, (∀ d, d ∈ out ↔ d ∈ acc ++ xs.map f) → Q out) → zcD gd tt te env xs acc Q
  | [], acc, _, q => fun out h => q out (by simpa using h)
  | x :: xs, acc, h, q => by
    obtain ⟨h1, h2⟩ := h x List.mem_cons_self
    show gd x env fun env2 => tt env2 fun b => if b = true then te env2 (fun y => (kok y = true ∧ y.dep ≤ 8 ∧ ∃ ys, y = .tup ys) ∧ zcD gd tt te env xs (acc ++ [y]) Q) else zcD gd tt te env xs acc Q
    refine h2 _ _ ⟨h1, zcD_map f xs (acc ++ [f x]) (fun y hy => h y (List.mem_cons_of_mem _ hy)) fun out ho => q out fun d => ?_⟩
    rw [ho d]
    simp
theorem kok_tI (ns : List Int) : kok (tI ns) = true := by
  show kok (.tup (ns.map D.int)) = true
  simpa only [kok] using (ints_kok ns).1
theorem kok_keyL (ns : List Int) : kok (keyL ns) = true := by
  have := kok_tI ns
  simp only [kok, kokA, Bool.and_true, Bool.true_and] at this ⊢
  exact this
/-- item by item -/
inductive Two {α β : Type} (R : α → β → Prop) : List α → List β → Prop where
  | nil : Two R [] []
  | cons {x y xs ys} : R x y → Two R xs ys → Two R (x :: xs) (y :: ys)
theorem lxD_rel {i : Nat} {te : TED} {env : DEnv} {Q : List D → Prop} (R : D → D → Prop) : ∀ (xs acc : List D), (∀ x ∈ xs, ∀ S : D → Prop, (∀ y, R x y → S y) → te (env.set i (.val x)) S) →
    (∀ ys : List D, Two R xs ys → Q (acc ++ ys)) → lxD (gdName i) dYes te env xs acc Q
  | [], acc, _, q => by
    have := q [] .nil
    rw [List.append_nil] at this
    exact this
  | x :: xs, acc, h, q => by
    show if true = true then te (env.set i (.val x)) (fun y => lxD (gdName i) dYes te env xs (acc ++ [y]) Q) else lxD (gdName i) dYes te env xs acc Q
    rw [if_pos rfl]
    refine h x List.mem_cons_self _ fun y hy => lxD_rel R xs (acc ++ [y]) (fun z m => h z (List.mem_cons_of_mem _ m)) fun ys hys => ?_
    rw [List.append_assoc]
    exact q (y :: ys) (.cons hy hys)
/-- for i in range(lo, ..) -/
theorem rng_from {i : Nat} {tb : TSD} {Dd : DEnds} (P : DEnv → Prop) {lo : Int} {n : Nat}
    (step : ∀ (k : Nat) env nx, k < n → P env → (∀ env', P env' → nx env') → tb { Dd with nx := nx, ct := nx, bk := Dd.nx } (env.set i (.val (.int (lo + (k : Int)))))) (end_ : ∀ env, P env → Dd.nx env) :
    ∀ env, P env → forD (gdName i) tb Dd (rngD lo n) env := by
  have key : ∀ (l : List Nat), (∀ k ∈ l, k < n) → ∀ env, P env → forD (gdName i) tb Dd (l.map fun (k : Nat) => D.int (lo + (k : Int))) env := by
    intro l
    induction l with
    | nil => intro _ env p; exact end_ env p
    | cons k l ih => intro h env p; exact step k env _ (h k List.mem_cons_self) p fun env' p' => ih (fun j hj => h j (List.mem_cons_of_mem _ hj)) env' p'
  exact key (List.range n) fun k hk => List.mem_range.mp hk
theorem atI_nat {α : Type} {xs : List α} {k : Nat} (h : k < xs.length) : atI xs (k : Int) = some (xs[k]) := by
  unfold atI ixN
  have h0 : ¬ ((k : Int) < 0) := by omega
  simp [h0, h]
end Dl
namespace K02
open PySem PySem.Spec PyProof.Rows L2 Dl Ns
def keyD1 (d : D) : D := match seqOf d with
  | some l => .tup [.int l.length, .tup l]
  | none => .non
def sndD (d : D) : D := match d with
  | .tup [_, t] => t
  | _ => .non
theorem keys_of : ∀ {xs : List D} {nss : List (List Int)}, xs.map seqOf = nss.map (fun ns => some (ns.map D.int)) → xs.map keyD1 = nss.map keyL ∧ ∀ x ∈ xs, ∃ ns : List Int, seqOf x = some (ns.map D.int)
  | [], [], _ => ⟨rfl, fun x h => by cases h⟩
  | [], _ :: _, h => by cases h
  | _ :: _, [], h => by cases h
  | x :: xs, ns :: nss, h => by
    obtain ⟨h1, h2⟩ := List.cons.inj h
    obtain ⟨a, b⟩ := keys_of h2
    refine ⟨?_, fun y hy => ?_⟩
    · rw [List.map_cons, List.map_cons, a]
      congr 1
      unfold keyD1
      rw [h1]
      simp
    · rcases List.mem_cons.mp hy with rfl | hy
      · exact ⟨ns, h1⟩
      · exact b y hy
theorem ct_sorted_lots {K : PySem.W.Frag} {ds : List D} {Qd : D → Prop} {Ed : Exc → Prop} (h : C_sorted_lots K ds Qd Ed) : d_sorted_lots K (fun _ x => Ed x) ⟨fun _ => Qd .non, Qd, fun _ => False, fun _ => False⟩ (startD N_sorted_lots ds) := by
  obtain ⟨x, xs, nss, rfl, hx, hm, few, q⟩ := h
  obtain ⟨km, kx⟩ := keys_of hm
  have lx : xs.length = nss.length := by simpa using congrArg List.length hm
  refine ⟨x, xs, rfl, hx, by omega, ?_⟩
  refine zcD_map keyD1 xs [] (fun d hd => ?_) fun out ho => ?_
  · obtain ⟨ns, hs⟩ := kx d hd
    have ek : keyD1 d = keyL ns := by
      unfold keyD1
      rw [hs]
      simp
    refine ⟨by rw [ek]; exact ⟨kok_keyL ns, (keyL_go ns).2.1, _, rfl⟩, fun R S hR => ?_⟩
    show if true = true then dCall (C_lot_key K) [] (fun _ _ => False) (dCons (dVar 3) dNil) _ R else S
    rw [if_pos rfl]
    refine ⟨_, _, rfl, rfl, _, _, rfl, hs, ?_⟩
    have e : keyD1 d = .tup [.int (ns.map D.int).length, .tup (ns.map D.int)] := by
      unfold keyD1
      rw [hs]
    rw [e] at hR
    exact hR
  · rw [List.nil_append, km] at ho
    intro nd fw
    obtain ⟨ms, rfl, hms⟩ := lift_map keyL (fun d hd => (ho d).mp hd)
    refine ⟨sortable_of keyL alike_keyL fun a _ => keyL_go a, fun out2 pm asc => ?_⟩
    obtain ⟨ms2, rfl, hms2⟩ := lift_map keyL (M := ms) fun d hd => pm.mem_iff.mp hd
    have nd2 : (ms2.map keyL).Nodup := pm.nodup_iff.mpr nd
    have len2 : ms2.length = ms.length := by simpa using pm.length_eq
    rw [List.length_map] at fw
    refine ⟨.inl (noOwn_frz _), _, rfl, by rw [List.length_map]; omega, ?_⟩
    refine lcD_map sndD (fun _ => true) _ [] (fun d hd R hR => ?_) ?_
    · obtain ⟨n, _, rfl⟩ := List.mem_map.mp hd
      rw [if_pos rfl] at hR
      refine ⟨_, rfl, rfl, ?_⟩
      show if true = true then dVar 2 _ (fun y => y.noLst = true ∧ R (some y)) else R none
      rw [if_pos rfl]
      exact ⟨_, _, rfl, rfl, (tI_good n).2.2, hR⟩
    · have e : List.map sndD (List.filter (fun _ => true) (ms2.map keyL)) = ms2.map tI := by
        rw [List.filter_eq_self.mpr (fun _ _ => rfl), List.map_map]
        rfl
      rw [List.nil_append, e]
      refine ⟨_, rfl, q ms2 (fun n => ?_) ?_⟩
      · constructor
        · intro hn
          exact hms n (hms2 n hn)
        · intro hn
          have h1 : keyL n ∈ ms2.map keyL := pm.mem_iff.mpr ((ho _).mpr (List.mem_map_of_mem hn))
          obtain ⟨m, hm, e⟩ := List.mem_map.mp h1
          rw [← keyL_inj e]; exact hm
      · have p1 : ms2.Pairwise fun a b => a ≠ b := (List.pairwise_map.mp nd2).imp fun {a b} ne e => ne (by rw [e])
        have p2 : ms2.Pairwise fun a b => PySem.W.dataLt (keyL b).py (keyL a).py = false := List.pairwise_map.mp asc
        refine (p1.and p2).imp fun {a b} ⟨ne, lt⟩ => lotLt_tri (fun z => ?_) ne
        rw [(dataLt_keyL b a).mpr z] at lt
        cases lt
end K02
namespace K02
open PySem PySem.Spec PyProof.Rows L2 Dl Ns
theorem okI_tI (ns : List Int) : okI (tI ns) := by
  obtain ⟨a, b, _⟩ := tI_good ns
  exact ⟨a, by omega⟩
theorem nlA_tI (nss : List (List Int)) : noLstA (nss.map tI) = true := noLst_of fun x hx => by
  obtain ⟨ns, _, rfl⟩ := List.mem_map.mp hx
  exact (tI_good ns).2.2
abbrev eO (hd : Addr) (nss : List (List Int)) (k : Slot) : DEnv := [.val (.ref hd), .own (nss.map tI), k, .no, .no, .no, .no, .no, .no]
theorem ints_ex : ∀ {ys : List D}, (∀ y ∈ ys, ∃ i : Int, y = .int i) → ∃ ms : List Int, ys = ms.map D.int
  | [], _ => ⟨[], rfl⟩
  | y :: ys, h => by
    obtain ⟨i, rfl⟩ := h y List.mem_cons_self
    obtain ⟨ms, rfl⟩ := ints_ex (ys := ys) fun z hz => h z (List.mem_cons_of_mem _ hz)
    exact ⟨i :: ms, rfl⟩
theorem two_seq : ∀ {nss : List (List Int)} {ys : List D}, Two (fun x y => seqOf y = seqOf x) (nss.map tI) ys → ys.map seqOf = nss.map (fun ns => some (ns.map D.int))
  | [], _, h => by cases h; rfl
  | ns :: nss, ys, h => by
    cases h with
    | cons h1 h2 => rw [List.map_cons, List.map_cons, two_seq h2, h1]; rfl
theorem ndLen {α : Type} : ∀ {l m : List α}, l.Nodup → (∀ x ∈ l, x ∈ m) → l.length ≤ m.length
  | [], _, _, _ => Nat.zero_le _
  | x :: l, m, nd, h => by
    obtain ⟨n1, n2⟩ := List.nodup_cons.mp nd
    obtain ⟨a, b, rfl⟩ := List.append_of_mem (h x List.mem_cons_self)
    have := ndLen (m := a ++ b) n2 fun y hy => by
      have := h y (List.mem_cons_of_mem _ hy)
      rcases List.mem_append.mp this with z | z
      · exact List.mem_append_left _ z
      · rcases List.mem_cons.mp z with e | z
        · subst e; exact absurd hy n1
        · exact List.mem_append_right _ z
    simp only [List.length_append, List.length_cons] at this ⊢
    omega
theorem ct__law_order_right {K : PySem.W.Frag} {hd : Addr} {ds : List D} {Qd : D → Prop} {Ed : Exc → Prop} (h : C__law_order_right K hd ds Qd Ed) : d__law_order_right K hd (fun _ x => Ed x) ⟨fun _ => Qd .non, Qd, fun _ => False, fun _ => False⟩ (startD N__law_order_right ds) := by
  obtain ⟨rfl, q⟩ := h
  refine ⟨(show 0 ≤ sizeLine by decide), (show 1 < 9 by decide), .inr rfl, ?_⟩
  dsimp only
  refine seqD (P := fun env => ∃ (nss : List (List Int)) (k : Slot), env = eO hd nss k ∧ nss.length ≤ 13 ∧ ∀ n ∈ nss, n ≠ []) ?_ ?_
  · rintro env ⟨nss, k, rfl, few, ne⟩
    refine seqD (P := fun env => ∃ (nss : List (List Int)) (k : Slot), env = eO hd nss k ∧ nss.length ≤ 14 ∧ ∀ n ∈ nss, n ≠ []) ?_ ?_
    · clear few ne
      rintro env ⟨nss, k, rfl, few, ne⟩
      -- the lots are sorted
      have lenm : (nss.map tI).length ≤ 1000000 := by rw [List.length_map]; omega
      refine ⟨_, _, rfl, rfl, lenm, ?_⟩
      refine lxD_rel (fun x y => seqOf y = seqOf x) (nss.map tI) [] (fun x hx S hS => ?_) fun ys hys => ?_
      · obtain ⟨ns, _, rfl⟩ := List.mem_map.mp hx
        refine ⟨_, _, rfl, rfl, _, rfl, by decide, by decide, fun r r0 r1 => ?_⟩
        dsimp only [dC, dNil]
        refine eq_d okI_int.ok okI_int.ok ?_
        refine ⟨_, rfl, ?_⟩
        rw [show xr false (eqD (D.int r) (D.int 0)) = decide (r = 0) from eqD_int]
        by_cases h : r = 0
        · exact it_t (decide_eq_true h) ⟨_, _, rfl, rfl, _, rfl, (good_ints ns).2.2, hS _ rfl⟩
        · exact it_f (decide_eq_false h) ⟨_, _, rfl, rfl, (tI_good ns).2.2, hS _ rfl⟩
      rw [List.nil_append]
      refine ⟨_, ys, nss, rfl, rfl, two_seq hys, by omega, fun out mem pw => ?_⟩
      have nlo : (D.tup (out.map tI)).noLst = true := by simpa only [D.noLst] using nlA_tI out
      refine ⟨.inr nlo, ?_⟩
      dsimp only
      have nout : ∀ n ∈ out, n ≠ [] := fun n hn => ne n ((mem n).mp hn)
      have ndo : out.Nodup := pw.imp fun {a b} l e => by rw [e] at l; exact lotLt_irr _ l
      have lout : out.length ≤ 14 := by
        have : out.length ≤ nss.length := ndLen ndo fun x hx => (mem x).mp hx
        omega
      -- the answer is a tuple of just the lots
      refine ⟨_, _, rfl, rfl, _, _, rfl, "tuple", rfl, by simp [tyNames], ⟨_, rfl, it_f rfl ?_⟩⟩
      have so : sortable (out.map tI) := sortable_of tI alike_tI fun a ha => tI_go (nout a ha)
      refine ⟨_, _, rfl, rfl, _, .inr rfl, by rw [List.length_map]; exact Nat.le_of_lt (len_sz (by omega)), so, fun o1 p1 a1 => ?_⟩
      refine ⟨_, _, rfl, rfl, nss, rfl, by omega, fun os hos nds lts => ?_⟩
      obtain ⟨ms, rfl, hms⟩ := lift_map tI (M := nss) (fun d hd => (hos d).mp hd)
      refine ⟨sortable_of tI alike_tI fun a ha => tI_go (ne a (hms a ha)), fun o2 p2 a2 => ?_⟩
      obtain ⟨m1, rfl, hm1⟩ := lift_map tI (M := out) fun d hd => p1.mem_iff.mp hd
      obtain ⟨m2, rfl, hm2⟩ := lift_map tI (M := ms) fun d hd => p2.mem_iff.mp hd
      have strict : ∀ {m : List (List Int)}, (m.map tI).Nodup → ascD (m.map tI) → m.Pairwise fun a b => HT.lexLt a b = true := fun {m} nd asc => by
        have q1 : m.Pairwise fun a b => a ≠ b := (List.pairwise_map.mp nd).imp fun {a b} ne e => ne (by rw [e])
        have q2 : m.Pairwise fun a b => PySem.W.dataLt (tI b).py (tI a).py = false := List.pairwise_map.mp asc
        refine (q1.and q2).imp fun {a b} ⟨ne, lt⟩ => ?_
        rw [dataLt_tI] at lt
        cases e : HT.lexLt a b with
        | true => rfl
        | false => exact absurd (lexLt_tri a b e lt) ne
      have mem_tI : ∀ {m : List (List Int)} {n : List Int}, tI n ∈ m.map tI ↔ n ∈ m := fun {m n} => by
        constructor
        · intro h
          obtain ⟨k, hk, e⟩ := List.mem_map.mp h
          rw [← tI_inj e]; exact hk
        · exact fun h => List.mem_map_of_mem h
      have ndt : (out.map tI).Nodup := List.pairwise_map.mpr (ndo.imp fun {a b} ne e => ne (tI_inj e))
      have e12 : m1 = m2 := by
        refine sorted_eq (lt := fun a b => HT.lexLt a b = true) (fun a z => by rw [lexLt_irr] at z; cases z) (fun h1 h2 => lexLt_tr h1 h2) (strict (p1.nodup_iff.mpr ndt) a1) (strict (p2.nodup_iff.mpr nds) a2) fun n => ?_
        rw [← mem_tI (m := m1), p1.mem_iff, mem_tI, mem n, ← mem_tI (m := m2), p2.mem_iff, hos, mem_tI]
      subst e12
      have okm : okD (.lst (m1.map tI)) := okD_lst fun x hx => by
        obtain ⟨n, _, rfl⟩ := List.mem_map.mp hx
        exact okI_tI n
      refine eq_d okm okm ?_
      refine ⟨_, rfl, ?_⟩
      rw [eqD_refl okm.1]
      refine it_f rfl ?_
      dsimp only [sNext]
      clear a2 p2 a1 p1 hm1 hm2
      -- they stand in their order
      refine seqD (P := fun env => ∃ a b c : Slot, env = [.val (.ref hd), .own (nss.map tI), k, .val (.tup (out.map tI)), a, .no, b, c, .no]) ?_ ?_
      · rintro env ⟨a, b, c, rfl⟩
        -- each key is as it should be
        refine ⟨_, _, rfl, rfl, ?_⟩
        refine forD_of (fun done rest env => ∃ z, env = [.val (.ref hd), .val (.lst (nss.map tI)), k, .val (.tup (out.map tI)), a, z, b, c, .no] ∧ ∀ x ∈ rest, x ∈ nss.map tI) (fun done env hh => ?_) (fun done x rest env hh kk => ?_) _ [] _ ⟨_, rfl, fun x hx => hx⟩
        · obtain ⟨z, rfl, _⟩ := hh
          exact q
        · obtain ⟨z, rfl, hx⟩ := hh
          obtain ⟨n, _, rfl⟩ := List.mem_map.mp (hx x List.mem_cons_self)
          have okk : okD (D.tup [.int (n.map D.int).length, .tup (n.map D.int)]) := okD_tup fun x hx => by
            simp only [List.mem_cons, List.not_mem_nil, or_false] at hx
            rcases hx with rfl | rfl
            · exact okI_int
            · exact okI_tI n
          refine ⟨_, _, rfl, rfl, _, rfl, _, _, rfl, rfl, _, _, rfl, rfl, _, rfl, _, _, rfl, rfl, (show 2 ≤ sizeLine by decide), okk, okk, ?_⟩
          rw [eqD_refl okk.1]
          refine ⟨_, rfl, it_f rfl ?_⟩
          exact kk _ ⟨_, rfl, fun x hx' => hx x (List.mem_cons_of_mem _ hx')⟩
      · intro hk
        refine ⟨_, _, rfl, rfl, _, rfl, 1, _, rfl, ⟨by omega, by omega, ?_, ?_⟩, ?_⟩
        · omega
        · rw [List.length_map]; omega
        refine rng_from (fun env => ∃ a b c : Slot, env = [.val (.ref hd), .own (nss.map tI), k, .val (.tup (out.map tI)), a, .no, b, c, .no]) (fun i env nx hi hp kk => ?_) (fun env hp => hk env hp) _ ⟨_, _, _, rfl⟩
        obtain ⟨a, b, c, rfl⟩ := hp
        rw [List.length_map] at hi
        have h1 : i < out.length := by omega
        have h2 : i + 1 < out.length := by omega
        have g1 : atI (out.map tI) ((1 : Int) + (i : Int) - 1) = some (tI out[i]) := by
          rw [show (1 : Int) + (i : Int) - 1 = (i : Int) by omega, atI_nat (by rw [List.length_map]; exact h1), List.getElem_map]
        have g2 : atI (out.map tI) ((1 : Int) + (i : Int)) = some (tI out[i + 1]) := by
          rw [show (1 : Int) + (i : Int) = ((i + 1 : Nat) : Int) by omega, atI_nat (by rw [List.length_map]; exact h2), List.getElem_map]
        have lt : lotLt out[i] out[i + 1] := List.pairwise_iff_getElem.mp pw i (i + 1) h1 h2 (by omega)
        generalize out[i] = x at g1 lt
        generalize out[i + 1] = y at g2 lt
        refine ⟨_, _, rfl, rfl, _, _, rfl, rfl, _, _, rfl, rfl, _, rfl, _, g1, .inr (tI_good x).2.2, ?_⟩
        refine ⟨_, _, rfl, rfl, _, _, rfl, rfl, _, rfl, _, g2, .inr (tI_good y).2.2, ?_⟩
        refine ⟨_, _, rfl, rfl, _, rfl, _, _, rfl, rfl, _, rfl, _, _, rfl, rfl, _, rfl, ?_⟩
        have lx : (x.map D.int).length = x.length := List.length_map _
        have ly : (y.map D.int).length = y.length := List.length_map _
        rw [lx, ly]
        have le : ¬ ((y.length : Int) < x.length) := by
          rcases lt with l | ⟨l, _⟩ <;> omega
        refine it_f (decide_eq_false le) ?_
        refine ⟨_, _, rfl, rfl, ?_⟩
        dsimp only [dNil]
        refine len_tup ?_
        refine ⟨_, _, rfl, rfl, ?_⟩
        dsimp only [dNil]
        refine len_tup ?_
        rw [lx, ly]
        refine eq_d okI_int.ok okI_int.ok ?_
        refine ⟨_, rfl, ?_⟩
        rw [show xr false (eqD (D.int (x.length : Int)) (D.int (y.length : Int))) = decide ((x.length : Int) = y.length) from eqD_int]
        by_cases e : x.length = y.length
        · have l : HT.lexLt x y = true := by
            rcases lt with l | ⟨_, l⟩
            · omega
            · exact l
          refine it_t (decide_eq_true (by omega)) ?_
          refine ⟨_, _, rfl, rfl, _, _, rfl, rfl, .inr ⟨x, y, rfl, rfl, _, rfl, ?_⟩⟩
          rw [l]
          exact it_f rfl (kk _ ⟨_, _, _, rfl⟩)
        · refine it_f (decide_eq_false (by omega)) ?_
          exact it_f rfl (kk _ ⟨_, _, _, rfl⟩)
    · intro hk
      refine ⟨_, _, rfl, rfl, _, rfl, _, _, rfl, rfl, _, rfl, ?_⟩
      rw [List.length_map]
      by_cases h : 1 < nss.length
      · refine it_t (decide_eq_true (by omega)) ?_
        refine ⟨_, rfl, _, _, rfl, rfl, _, _, rfl, rfl, _, _, rfl, rfl, _, rfl, _, rfl, by rw [List.length_map]; omega, by rw [List.length_map]; omega, fun r r0 r1 => ?_⟩
        rw [List.length_map] at r1
        obtain ⟨i, rfl⟩ : ∃ i : Nat, r = i := ⟨r.toNat, by omega⟩
        have hi : i < nss.length := by omega
        have g1 : atI (nss.map tI) (i : Int) = some (tI nss[i]) := by
          rw [atI_nat (by rw [List.length_map]; exact hi), List.getElem_map]
        refine ⟨_, rfl, _, g1, (tI_good _).2.2, by rw [List.length_map]; exact len_sz (by omega), ?_⟩
        dsimp only
        refine hk _ ⟨nss ++ [nss[i]], k, by unfold eO; rw [List.map_append]; rfl, by rw [List.length_append, List.length_singleton]; omega, fun n hn => ?_⟩
        rcases List.mem_append.mp hn with hn | hn
        · exact ne n hn
        · rw [List.mem_singleton.mp hn]; exact ne _ (List.getElem_mem hi)
      · refine it_f (decide_eq_false (by omega)) ?_
        exact hk _ ⟨nss, k, rfl, by omega, ne⟩
  · intro hk
    refine ⟨_, _, rfl, rfl, _, rfl, by decide, by decide, fun r r0 r1 => ⟨r, rfl, ⟨by omega, by omega⟩, ?_⟩⟩
    refine forD_of (fun done rest env => ∃ (nss : List (List Int)) (k : Slot), env = eO hd nss k ∧ nss.length = done.length ∧ done.length + rest.length ≤ 13 ∧ ∀ n ∈ nss, n ≠ []) (fun done env hh => ?_) (fun done x rest env hh kk => ?_) _ [] _ ⟨[], .no, rfl, rfl, by rw [rngD_len]; simp only [List.length_nil]; omega, fun n hn => by cases hn⟩
    · obtain ⟨nss, k, rfl, l1, l2, ne⟩ := hh
      exact hk _ ⟨nss, k, rfl, by rw [List.length_nil] at l2; omega, ne⟩
    · obtain ⟨nss, k, rfl, l1, l2, ne⟩ := hh
      rw [List.length_cons] at l2
      refine ⟨_, rfl, ?_⟩
      refine ⟨6, rfl, ⟨by decide, by decide⟩, by rw [rngD_len]; decide, ?_⟩
      refine lcD_some (fun y => ∃ i : Int, y = .int i) _ [] (fun z hz R h0 h1 => ?_) fun ys hl hys => ?_
      · obtain ⟨i, rfl⟩ := rngD_int hz
        refine ⟨_, _, rfl, rfl, _, rfl, by decide, by decide, fun r r0 r1 => ?_⟩
        dsimp only [dC, dNil]
        refine eq_d okI_int.ok okI_int.ok ?_
        refine ⟨_, rfl, ?_⟩
        rw [show xr false (eqD (D.int r) (D.int 0)) = decide (r = 0) from eqD_int]
        by_cases h : r = 0
        · refine it_t (decide_eq_true h) ?_
          exact ⟨_, _, rfl, rfl, by simp only [D.noLst], h1 _ ⟨i, rfl⟩⟩
        · exact it_f (decide_eq_false h) h0
      rw [List.nil_append]
      rw [rngD_len] at hl
      obtain ⟨ms, rfl⟩ := ints_ex hys
      rw [List.length_map] at hl
      have hl : ms.length ≤ 6 := hl
      refine ⟨_, _, rfl, rfl, _, rfl, by decide, by decide, fun r r0 r1 => ?_⟩
      refine ⟨(show 1 ≤ sizeLine by decide), Nat.le_of_lt (len_sz (by rw [List.length_map]; simp only [List.length_singleton]; omega)), _, rfl, ?_⟩
      refine ⟨_, _, rfl, rfl, _, rfl, by decide, by decide, fun t t0 t1 => ?_⟩
      refine ⟨t, 3, rfl, rfl, d40 (by decide) (by decide), 2, t / 3, rfl, rfl, m40 (by decide) (by decide) (Int.ediv_nonneg t0 (by decide)) (by omega), 1, _, rfl, rfl, ms.map D.int ++ [.int (6 + r)], rfl, ?_⟩
      have ea : ms.map D.int ++ [.int (6 + r)] = (ms ++ [6 + r]).map D.int := by rw [List.map_append]; rfl
      rw [ea]
      have fin : ∀ ns : List Int, ns ≠ [] → (tI ns).noLst = true ∧ (nss.map tI).length < sizeLine ∧ forD (gdName 2) (sApp 1 (dStepT (dCB bTup (dCons (dOp fAdd (dF (fLc (idRng1 (dCons (dC (.int 6)) (dNil))) (gdName 8) (dTest (dOp (fEq false) (dCall ((C__law_take hd)) [] (fun _ _ => False) (dCons (dVar 0) (dCons (dC (.int 2)) (dNil)))) (dC (.int 0)))) (dVar 8) (([("_law_n", 8)] : List (Str × Nat)).map (·.2)))) (dLst (dCons (dOp fAdd (dC (.int 6)) (dCall ((C__law_take hd)) [] (fun _ x => Ed x) (dCons (dVar 0) (dCons (dC (.int 2)) (dNil))))) (dNil)))) (dNil))) (dOp fSub (dC (.int 1)) (dOp fMul (dC (.int 2)) (dOp fDiv (dCall ((C__law_take hd)) [] (fun _ x => Ed x) (dCons (dVar 0) (dCons (dC (.int 4)) (dNil)))) (dC (.int 3))))))) _ rest (eO hd (nss ++ [ns]) (.val x)) := fun ns hn => ⟨(tI_good ns).2.2, by rw [List.length_map]; exact len_sz (by omega), kk _ ⟨nss ++ [ns], .val x, rfl, by rw [List.length_append, List.length_append, l1]; rfl, by rw [List.length_append, List.length_singleton]; omega, fun n hm => by
          rcases List.mem_append.mp hm with hm | hm
          · exact ne n hm
          · rw [List.mem_singleton.mp hm]; exact hn⟩⟩
      have env_eq : ∀ ns : List Int, ([.val (.ref hd), .own (nss.map tI ++ [tI ns]), .val x, .no, .no, .no, .no, .no, .no] : DEnv) = eO hd (nss ++ [ns]) (.val x) := fun ns => by
        unfold eO
        rw [List.map_append]
        rfl
      by_cases h0 : t / 3 = 0
      · rw [h0]
        refine .inl ⟨rfl, ?_⟩
        obtain ⟨f1, f2, f3⟩ := fin (ms ++ [6 + r]) (by simp)
        refine ⟨f1, f2, ?_⟩
        rw [← env_eq] at f3
        exact f3
      · have h1 : t / 3 = 1 := by omega
        rw [h1]
        refine .inr ⟨rfl, ?_⟩
        rw [← List.map_reverse]
        obtain ⟨f1, f2, f3⟩ := fin (ms ++ [6 + r]).reverse (by simp)
        refine ⟨f1, f2, ?_⟩
        rw [← env_eq] at f3
        exact f3
end K02
namespace K02
open PySem PySem.Spec PyProof.Rows L2 Dl
abbrev s__law_take : Stmt := top 15
abbrev N__law_take : List Str := ["_law_hand_here", "_law_many", "_law_cell", "_law_rest"]
theorem sc__law_take : FnScope N__law_take ["_law_hand_here", "_law_many"] (defScope s__law_take) := ⟨rfl, rfl, rfl, by decide +kernel, rfl, by decide +kernel, by decide +kernel⟩
theorem fn__law_take {P : Program} {w : World} {K : PySem.W.Frag} {mg : Str → Option Value} {base : Heap} {fa hd c : Addr} {fd : FuncData} (hne : hd ≠ c) (F : FunD K "_law_take" "_law_take" (defArgs s__law_take) (defBody s__law_take) (defScope s__law_take) [] [] fa fd) (T : Tf K mg)
    (c__law_mixed : Cl P w K mg base (handI hd c) 2 "_law_mixed" 2 (C__law_mixed K) []) : FnOk P w K mg base (L2.CX P w) 3 fa fd ["_law_hand_here", "_law_many"] (spOf K (handI hd c) 2 (C__law_take hd)) := by
  obtain ⟨fm, fdm, psm, dsm, dvsm, F__law_mixed, g__law_mixed, k__law_mixed, b__law_mixed, vm, dm⟩ := c__law_mixed
  have e1 : dvsm = [] := (dm (fun _ => none)).nil
  subst e1
  cases vm
  refine F.ok sc__law_take (fun vs H Q E ⟨ds, Qd, Ed, hl, dn, _⟩ => by rw [dn.len, hl]; rfl) (fun cdv A outer s H vs Q E hr h => ?_)
  have nd := sc__law_take.nd
  refine ⟨_, pss_cons (ps_if (PW.pt (pw_and (pt_cmpR op_eq (pe_ix ix_list (pv 0) (pe_int) (by intro _ _; rfl)) (pe_int) (nomark _)) (pw_and1 (pt_cmpR op_lt (pe_ix ix_list (pv 0) (pe_int) (by intro _ _; rfl)) (pe_callB call_len rfl T.n_len PySem.boot_len (pa_cons (pe_ix ix_list (pv 0) (pe_int) (by intro _ _; rfl)) (pa_nil))) (nomark _))))) (pss_cons (ps_set (i := 2) nd rfl (Or.inl rfl) (pe_ix ix_list (pe_ix ix_list (pv 0) (pe_int) (by intro _ _; rfl)) (pe_ix ix_list (pv 0) (pe_int) (by intro _ _; rfl)) (by intro _ _; rfl))) (pss_cons (ps_asg (pe_op op_add (pe_ix ix_list (pv 0) (pe_int) (by intro _ _; rfl)) (pe_int)) (pg_sub (pv 0) (pe_int) set_list)) (pss_cons (ps_if (pt_cmpR op_lt (pv 2) (pe_op op_pow (pe_int) (pe_int)) (nomark _)) (pss_one (ps_ret (pe_op op_mod (pe_callTy call_int1 rfl T.n_int boot_int (pa_cons (pe_call F__law_mixed (hr.mono (by decide)) rfl g__law_mixed k__law_mixed b__law_mixed .nil passL (pa_cons (pe_op op_mod (pe_callTy call_int1 rfl T.n_int boot_int (pa_cons (pv 2) (pa_nil))) (pe_int)) (pa_cons (pe_ix ix_list (pv 0) (pe_int) (by intro _ _; rfl)) (pa_nil)))) (pa_nil))) (pv 1)))) (pss_nil)) (pss_one (ps_asg (pv 2) (pg_sub (pv 0) (pe_int) set_list)))))) (pss_nil)) (pss_cons (ps_if (pt_cmpR op_gt (pe_ix ix_list (pv 0) (pe_int) (by intro _ _; rfl)) (pe_int) (nomark _)) (pss_cons (ps_set (i := 3) nd rfl (Or.inl rfl) (pe_ix ix_list (pv 0) (pe_int) (by intro _ _; rfl))) (pss_cons (ps_asg (pe_op op_fdivW (pe_callTy call_int1 rfl T.n_int boot_int (pa_cons (pv 3) (pa_nil))) (pv 1)) (pg_sub (pv 0) (pe_int) set_list)) (pss_one (ps_ret (pe_op op_mod (pe_callTy call_int1 rfl T.n_int boot_int (pa_cons (pv 3) (pa_nil))) (pv 1)))))) (pss_nil)) (pss_cons (ps_asg (pe_op op_mod (pe_callTy call_int1 rfl T.n_int boot_int (pa_cons (pe_op op_add (pe_ix ix_list (pv 0) (pe_int) (by intro _ _; rfl)) (pe_int)) (pa_nil))) (pe_int)) (pg_sub (pv 0) (pe_int) set_list)) (pss_one (ps_ret (pe_op op_mod (pe_callTy call_int1 rfl T.n_int boot_int (pa_cons (pe_call F__law_mixed (hr.mono (by decide)) rfl g__law_mixed k__law_mixed b__law_mixed .nil passL (pa_cons (pe_ix ix_list (pv 0) (pe_int) (by intro _ _; rfl)) (pa_cons (pe_ix ix_list (pv 0) (pe_int) (by intro _ _; rfl)) (pa_nil)))) (pa_nil))) (pv 1)))))), ?_⟩
  obtain ⟨ds, Qd, Ed, hl, dn, ok, ⟨m, rfl, m0, m1, q⟩, kq, ke⟩ := h
  obtain ⟨v1, r1, rfl, d1, dn⟩ := dn.cons
  obtain ⟨v2, rfl, d2⟩ := dn.one1
  simp only [Den] at d1 d2
  subst d1 d2
  obtain ⟨cs, at_, held, tot, Z⟩ := ok
  have hm : CDivW held m := ⟨m0, by
    have h1 : m.natAbs < 2 ^ 200 := by omega
    have h2 : m.natAbs ≠ 0 := by omega
    have := (Nat.log2_lt h2).mpr h1
    omega⟩
  have fin : ∀ (x : Int) (H' : Hp), Kp (handI hd c).own H H' → (handI hd c).ok H' → Q (.int (x % m)) H' := fun x H' e o =>
    kq (.int (x % m)) (.int (x % m)) H' ⟨e, o⟩ (by simp only [Den]) (q _ (Int.emod_nonneg _ (by omega)) (Int.emod_lt_of_pos _ m0))
  refine seq_of (P := fun σ' H' => ∃ a b, σ' = [some (.ref hd), some (.int m), a, b] ∧ Kp (handI hd c).own H H' ∧ ∃ cs at_ held tot, HandAt hd c cs at_ held tot H') ?_ ?_
  · intro σ' H' hh
    obtain ⟨a, b, rfl, kp, cs, at_, held, tot, Z⟩ := hh
    refine seq_of (P := fun σ' H' => ∃ a b, σ' = [some (.ref hd), some (.int m), a, b] ∧ Kp (handI hd c).own H H' ∧ ∃ cs at_ held tot, HandAt hd c cs at_ held tot H') ?_ ?_
    · intro σ' H' hh
      obtain ⟨a, b, rfl, kp, cs, at_, held, tot, Z⟩ := hh
      refine v_ix rfl Z.h rfl ⟨tot, 1, rfl, rfl, Or.inl ⟨tot + 1, rfl, ⟨tot + 1, _, rfl, rfl, (show (0 : Int) < 2147483549 by decide), ?_⟩⟩⟩
      refine v_set rfl Z.h rfl ?_
      have t0 : 0 ≤ (tot + 1) % 2147483549 := Int.emod_nonneg _ (by decide)
      have t1 : (tot + 1) % 2147483549 < 2147483549 := Int.emod_lt_of_pos _ (by decide)
      have Z' := Z.set hne Z.a0 Z.a1 Z.h0 t0 (by omega)
      refine v_ix rfl Z'.h rfl (v_ix rfl Z'.h rfl ?_)
      refine ⟨[.int _, .int at_], fun d => ∃ r : Int, d = .int r ∧ 0 ≤ r, fun _ => False, rfl, DenA.ints (ns := [_, at_]), ⟨_, _, _, _, Z'⟩, ⟨_, _, rfl, t0, by omega, Z.a0, by have := Z.a1; omega, fun r r0 _ => ⟨r, rfl, r0⟩⟩, fun v d H2 e2 dn ⟨r, er, r0⟩ => ?_, fun _ _ _ _ _ z => z.elim⟩
      subst er
      simp only [Den] at dn
      subst dn
      refine Or.inl ⟨r, rfl, ⟨_, rfl, ⟨r, m, rfl, rfl, m0, ?_⟩⟩⟩
      exact fin r H2 ((kp.trans kp_mut).trans e2.1) e2.2
    · intro nx
      by_cases hh : 0 < held
      · refine v_ix rfl Z.h rfl ⟨held, 0, rfl, rfl, _, rfl, ?_⟩
        refine it_t (decide_eq_true hh) ?_
        refine v_ix rfl Z.h rfl ?_
        refine ⟨_, rfl, Or.inl ⟨held, rfl, ⟨_, rfl, ⟨held, m, rfl, rfl, ⟨hm.1, hm.2⟩, ?_⟩⟩⟩⟩
        refine v_set rfl Z.h rfl ?_
        have Z' := Z.set hne Z.a0 Z.a1 (h' := held / m) (Int.ediv_nonneg Z.h0 (Int.le_of_lt m0)) Z.t0 Z.t1
        refine ⟨_, rfl, Or.inl ⟨held, rfl, ⟨_, rfl, ⟨held, m, rfl, rfl, m0, ?_⟩⟩⟩⟩
        exact fin held _ (kp.trans kp_mut) ⟨_, _, _, _, Z'⟩
      · refine v_ix rfl Z.h rfl ⟨held, 0, rfl, rfl, _, rfl, ?_⟩
        refine it_f (decide_eq_false hh) ?_
        exact nx _ _ ⟨a, b, rfl, kp, _, _, _, _, Z⟩
  · intro nx
    refine v_ix rfl Z.h rfl ⟨rfl, _, rfl, ?_⟩
    by_cases hh : held = 0
    · subst hh
      refine it_t (decide_eq_true rfl) ?_
      refine v_ix rfl Z.h rfl (v_ix rfl Z.h rfl ?_)
      refine ⟨_, (cs.map V.int).length, rfl, Or.inl ⟨_, SqL.of Z.c, rfl⟩, ⟨at_, _, rfl, rfl, _, rfl, ?_⟩⟩
      by_cases hl : at_ < ((cs.map V.int).length : Int)
      · refine it_t (decide_eq_true hl) ?_
        rw [List.length_map] at hl
        obtain ⟨x, ex, mx⟩ := take_cell Z.a0 hl
        have x0 := Z.pos x mx
        refine v_ix rfl Z.h rfl ?_
        refine v_ix rfl Z.h rfl ⟨c, _, at_, _, rfl, rfl, SqL.of Z.c, ex, ?_⟩
        refine v_ix rfl Z.h rfl ⟨at_, 1, rfl, rfl, ?_⟩
        refine v_set rfl Z.h rfl ?_
        have Z' := Z.set hne (a' := at_ + 1) (by have := Z.a0; omega) (by have := Z.len; omega) Z.h0 Z.t0 Z.t1
        refine ⟨_, rfl, ⟨10, 18, rfl, rfl, (by unfold CPow; decide), ⟨x, _, rfl, rfl, _, rfl, ?_⟩⟩⟩
        by_cases hx : x < (10 : Int) ^ (18 : Int).toNat
        · refine it_t (decide_eq_true hx) ?_
          refine ⟨_, rfl, Or.inl ⟨x, rfl, ⟨x, _, rfl, rfl, (show (0 : Int) < 2147483399 by decide), ?_⟩⟩⟩
          have c0 : 0 ≤ x % 2147483399 := Int.emod_nonneg _ (by decide)
          have c1 : x % 2147483399 < 2147483399 := Int.emod_lt_of_pos _ (by decide)
          refine v_ix rfl Z'.h rfl ?_
          refine ⟨[.int (x % 2147483399), .int (at_ + 1)], fun d => ∃ r : Int, d = .int r ∧ 0 ≤ r, fun _ => False, rfl, DenA.ints (ns := [x % 2147483399, at_ + 1]), ⟨_, _, _, _, Z'⟩, ⟨_, _, rfl, c0, by omega, Z'.a0, by have := Z'.a1; omega, fun r r0 _ => ⟨r, rfl, r0⟩⟩, fun v d H2 e2 dn ⟨r, er, r0⟩ => ?_, fun _ _ _ _ _ z => z.elim⟩
          subst er
          simp only [Den] at dn
          subst dn
          refine Or.inl ⟨r, rfl, ⟨_, rfl, ⟨r, m, rfl, rfl, m0, ?_⟩⟩⟩
          exact fin r H2 (kp_mut.trans e2.1) e2.2
        · refine it_f (decide_eq_false hx) ?_
          refine ⟨_, rfl, v_set rfl Z'.h rfl ?_⟩
          have Z2 := Z'.set hne Z'.a0 Z'.a1 (h' := x) x0 Z.t0 Z.t1
          refine nx _ _ ⟨_, _, rfl, kp_mut.trans kp_mut, _, _, _, _, Z2⟩
      · refine it_f (decide_eq_false hl) ?_
        exact nx _ _ ⟨_, _, rfl, Kp.refl, _, _, _, _, Z⟩
    · refine it_f (decide_eq_false fun z => hh (by injection z)) ?_
      refine it_f rfl ?_
      exact nx _ _ ⟨_, _, rfl, Kp.refl, _, _, _, _, Z⟩
end K02
namespace K02
open PySem PySem.Spec PyProof.Rows L2 Dl
theorem fn_is_whole {P : Program} {w : World} {K : PySem.W.Frag} {mg : Str → Option Value} {base : Heap} {I : HI} {fa : Addr} {fd : FuncData} (F : FunD K "is_whole" "is_whole" (defArgs s_is_whole) (defBody s_is_whole) (defScope s_is_whole) [.non, .non] [] fa fd) (T : Tf K mg)  :
    FnOk P w K mg base (L2.CX P w) 2 fa fd ["thing", "low", "high"] (spOf K I 3 (C_is_whole K)) :=
  fn_D F sc_is_whole (fun cdv A outer s H E Ed hr tk => pd_is_whole T  hr tk) fun ds Qd Ed h _ => ct_is_whole h
theorem mk_c_is_whole_1 {P : Program} {w : World} {K : PySem.W.Frag} {mg : Str → Option Value} {base : Heap} {I : HI} {fa : Addr} {fd : FuncData} (F : FunD K "is_whole" "is_whole" (defArgs s_is_whole) (defBody s_is_whole) (defScope s_is_whole) [.non, .non] [] fa fd) (T : Tf K mg) (gm : mg "is_whole" = some (.ref fa))  : Cl P w K mg base I 2 "is_whole" 3 (C_is_whole K) [.non, .non] := by
  obtain ⟨ds, V, B⟩ := F.binds1 (ps := ["thing", "low", "high"]) 1 0 (by simp) rfl fun T2 kV doc pm an cdv ct us its l1 l2 => match us, its, l1, l2 with | [_], [_, _], _, _ => ⟨_, rfl, rfl⟩
  exact ⟨fa, fd, _, _, _, fn_is_whole F T , gm, F.kp, B, V, fun H => by simp [DenA, Den]⟩
theorem mk_c_is_whole {P : Program} {w : World} {K : PySem.W.Frag} {mg : Str → Option Value} {base : Heap} {I : HI} {fa : Addr} {fd : FuncData} (F : FunD K "is_whole" "is_whole" (defArgs s_is_whole) (defBody s_is_whole) (defScope s_is_whole) [.non, .non] [] fa fd) (T : Tf K mg) (gm : mg "is_whole" = some (.ref fa))  : Cl P w K mg base I 2 "is_whole" 3 (C_is_whole K) [] := by
  obtain ⟨ds, V, B⟩ := F.binds1 (ps := ["thing", "low", "high"]) 3 2 (by simp) rfl fun T2 kV doc pm an cdv ct us its l1 l2 => match us, its, l1, l2 with | [_, _, _], [_, _], _, _ => ⟨_, rfl, rfl⟩
  exact ⟨fa, fd, _, _, _, fn_is_whole F T , gm, F.kp, B, V, fun H => by simp [DenA, Den]⟩
theorem fn_check_dates {P : Program} {w : World} {K : PySem.W.Frag} {mg : Str → Option Value} {base : Heap} {I : HI} {fa : Addr} {fd : FuncData} (F : FunD K "check_dates" "check_dates" (defArgs s_check_dates) (defBody s_check_dates) (defScope s_check_dates) [.int 7] [] fa fd) (T : Tf K mg) (c_is_whole : Cl P w K mg base I 2 "is_whole" 3 (C_is_whole K) []) (er_BadDates : Er P w K mg base "BadDates" "index") :
    FnOk P w K mg base (L2.CX P w) 3 fa fd ["dates", "size", "most"] (spOf K I 3 (C_check_dates K)) :=
  fn_D F sc_check_dates (fun cdv A outer s H E Ed hr tk => pd_check_dates T c_is_whole er_BadDates hr tk) fun ds Qd Ed h _ => ct_check_dates h
theorem mk_c_check_dates_2 {P : Program} {w : World} {K : PySem.W.Frag} {mg : Str → Option Value} {base : Heap} {I : HI} {fa : Addr} {fd : FuncData} (F : FunD K "check_dates" "check_dates" (defArgs s_check_dates) (defBody s_check_dates) (defScope s_check_dates) [.int 7] [] fa fd) (T : Tf K mg) (gm : mg "check_dates" = some (.ref fa)) (c_is_whole : Cl P w K mg base I 2 "is_whole" 3 (C_is_whole K) []) (er_BadDates : Er P w K mg base "BadDates" "index") : Cl P w K mg base I 3 "check_dates" 3 (C_check_dates K) [.int 7] := by
  obtain ⟨ds, V, B⟩ := F.binds1 (ps := ["dates", "size", "most"]) 2 0 (by simp) rfl fun T2 kV doc pm an cdv ct us its l1 l2 => match us, its, l1, l2 with | [_, _], [_], _, _ => ⟨_, rfl, rfl⟩
  exact ⟨fa, fd, _, _, _, fn_check_dates F T c_is_whole er_BadDates, gm, F.kp, B, V, fun H => by simp [DenA, Den]⟩
theorem mk_ck_check_dates_2_most {P : Program} {w : World} {K : PySem.W.Frag} {mg : Str → Option Value} {base : Heap} {I : HI} {fa : Addr} {fd : FuncData} (F : FunD K "check_dates" "check_dates" (defArgs s_check_dates) (defBody s_check_dates) (defScope s_check_dates) [.int 7] [] fa fd) (T : Tf K mg) (gm : mg "check_dates" = some (.ref fa)) (c_is_whole : Cl P w K mg base I 2 "is_whole" 3 (C_is_whole K) []) (er_BadDates : Er P w K mg base "BadDates" "index") : ClK P w K mg base I 3 "check_dates" 2 ["most"] 3 (C_check_dates K) (fun xs ys => xs ++ ((ys.drop 0).take 1)) := by
  obtain ⟨its, B⟩ := kb1 (ps := ["dates", "size", "most"]) F 2 ["most"] (fun us its ws => us ++ ((ws.drop 0).take 1)) (by simp) (fun {vs ds zs us its ws} r1 r2 r3 => r1.append ((r3.drop 0).take 1))
    fun T2 kV doc pm an cdv ct us its ws l1 l2 l3 => match us, its, ws, l1, l2, l3 with | [_, _], [_], [_], _, _, _ => ⟨_, rfl, rfl⟩
  refine ⟨fa, fd, _, _, _, fn_check_dates F T c_is_whole er_BadDates, gm, F.kp, B, fun H vs xs zs ys lx ly dx dy => ?_⟩
  exact dx.app ((dy.drop 0).take 1)
theorem fn_unlike_dates {P : Program} {w : World} {K : PySem.W.Frag} {mg : Str → Option Value} {base : Heap} {I : HI} {fa : Addr} {fd : FuncData} (F : FunD K "unlike_dates" "unlike_dates" (defArgs s_unlike_dates) (defBody s_unlike_dates) (defScope s_unlike_dates) [] [] fa fd) (T : Tf K mg)  :
    FnOk P w K mg base (L2.CX P w) 2 fa fd ["dates"] (spOf K I 1 (C_unlike_dates K)) :=
  fn_D F sc_unlike_dates (fun cdv A outer s H E Ed hr tk => pd_unlike_dates T  hr tk) fun ds Qd Ed h _ => ct_unlike_dates h
theorem mk_c_unlike_dates {P : Program} {w : World} {K : PySem.W.Frag} {mg : Str → Option Value} {base : Heap} {I : HI} {fa : Addr} {fd : FuncData} (F : FunD K "unlike_dates" "unlike_dates" (defArgs s_unlike_dates) (defBody s_unlike_dates) (defScope s_unlike_dates) [] [] fa fd) (T : Tf K mg) (gm : mg "unlike_dates" = some (.ref fa))  : Cl P w K mg base I 2 "unlike_dates" 1 (C_unlike_dates K) [] := by
  have B : L2.Binds K fd ["dates"] [] := F.bindsN fun _ _ _ _ _ _ us hl => match us, hl with | [_], _ => rfl
  exact ⟨fa, fd, _, _, [], fn_unlike_dates F T , gm, F.kp, B, .nil, fun H => by simp only [DenA]⟩
theorem fn_check_lot {P : Program} {w : World} {K : PySem.W.Frag} {mg : Str → Option Value} {base : Heap} {I : HI} {fa : Addr} {fd : FuncData} (F : FunD K "check_lot" "check_lot" (defArgs s_check_lot) (defBody s_check_lot) (defScope s_check_lot) [] [] fa fd) (T : Tf K mg) (c_is_whole_1 : Cl P w K mg base I 2 "is_whole" 3 (C_is_whole K) [.non, .non]) (er_BadLot : Er P w K mg base "BadLot" "index") :
    FnOk P w K mg base (L2.CX P w) 3 fa fd ["lot", "among"] (spOf K I 2 (C_check_lot K)) :=
  fn_D F sc_check_lot (fun cdv A outer s H E Ed hr tk => pd_check_lot T c_is_whole_1 er_BadLot hr tk) fun ds Qd Ed h _ => ct_check_lot h
theorem mk_c_check_lot {P : Program} {w : World} {K : PySem.W.Frag} {mg : Str → Option Value} {base : Heap} {I : HI} {fa : Addr} {fd : FuncData} (F : FunD K "check_lot" "check_lot" (defArgs s_check_lot) (defBody s_check_lot) (defScope s_check_lot) [] [] fa fd) (T : Tf K mg) (gm : mg "check_lot" = some (.ref fa)) (c_is_whole_1 : Cl P w K mg base I 2 "is_whole" 3 (C_is_whole K) [.non, .non]) (er_BadLot : Er P w K mg base "BadLot" "index") : Cl P w K mg base I 3 "check_lot" 2 (C_check_lot K) [] := by
  have B : L2.Binds K fd ["lot", "among"] [] := F.bindsN fun _ _ _ _ _ _ us hl => match us, hl with | [_, _], _ => rfl
  exact ⟨fa, fd, _, _, [], fn_check_lot F T c_is_whole_1 er_BadLot, gm, F.kp, B, .nil, fun H => by simp only [DenA]⟩
theorem fn_lot_key {P : Program} {w : World} {K : PySem.W.Frag} {mg : Str → Option Value} {base : Heap} {I : HI} {fa : Addr} {fd : FuncData} (F : FunD K "lot_key" "lot_key" (defArgs s_lot_key) (defBody s_lot_key) (defScope s_lot_key) [] [] fa fd) (T : Tf K mg)  :
    FnOk P w K mg base (L2.CX P w) 2 fa fd ["lot"] (spOf K I 1 (C_lot_key K)) :=
  fn_D F sc_lot_key (fun cdv A outer s H E Ed hr tk => pd_lot_key T  hr tk) fun ds Qd Ed h _ => ct_lot_key h
theorem mk_c_lot_key {P : Program} {w : World} {K : PySem.W.Frag} {mg : Str → Option Value} {base : Heap} {I : HI} {fa : Addr} {fd : FuncData} (F : FunD K "lot_key" "lot_key" (defArgs s_lot_key) (defBody s_lot_key) (defScope s_lot_key) [] [] fa fd) (T : Tf K mg) (gm : mg "lot_key" = some (.ref fa))  : Cl P w K mg base I 2 "lot_key" 1 (C_lot_key K) [] := by
  have B : L2.Binds K fd ["lot"] [] := F.bindsN fun _ _ _ _ _ _ us hl => match us, hl with | [_], _ => rfl
  exact ⟨fa, fd, _, _, [], fn_lot_key F T , gm, F.kp, B, .nil, fun H => by simp only [DenA]⟩
theorem fn_sorted_lots {P : Program} {w : World} {K : PySem.W.Frag} {mg : Str → Option Value} {base : Heap} {I : HI} {fa : Addr} {fd : FuncData} (F : FunD K "sorted_lots" "sorted_lots" (defArgs s_sorted_lots) (defBody s_sorted_lots) (defScope s_sorted_lots) [] [] fa fd) (T : Tf K mg) (c_lot_key : Cl P w K mg base I 2 "lot_key" 1 (C_lot_key K) []) :
    FnOk P w K mg base (L2.CX P w) 3 fa fd ["lots"] (spOf K I 1 (C_sorted_lots K)) :=
  fn_D F sc_sorted_lots (fun cdv A outer s H E Ed hr tk => pd_sorted_lots T c_lot_key hr tk) fun ds Qd Ed h _ => ct_sorted_lots h
theorem mk_c_sorted_lots {P : Program} {w : World} {K : PySem.W.Frag} {mg : Str → Option Value} {base : Heap} {I : HI} {fa : Addr} {fd : FuncData} (F : FunD K "sorted_lots" "sorted_lots" (defArgs s_sorted_lots) (defBody s_sorted_lots) (defScope s_sorted_lots) [] [] fa fd) (T : Tf K mg) (gm : mg "sorted_lots" = some (.ref fa)) (c_lot_key : Cl P w K mg base I 2 "lot_key" 1 (C_lot_key K) []) : Cl P w K mg base I 3 "sorted_lots" 1 (C_sorted_lots K) [] := by
  have B : L2.Binds K fd ["lots"] [] := F.bindsN fun _ _ _ _ _ _ us hl => match us, hl with | [_], _ => rfl
  exact ⟨fa, fd, _, _, [], fn_sorted_lots F T c_lot_key, gm, F.kp, B, .nil, fun H => by simp only [DenA]⟩
theorem fn__law_mixed {P : Program} {w : World} {K : PySem.W.Frag} {mg : Str → Option Value} {base : Heap} {I : HI} {fa : Addr} {fd : FuncData} (F : FunD K "_law_mixed" "_law_mixed" (defArgs s__law_mixed) (defBody s__law_mixed) (defScope s__law_mixed) [] [] fa fd) (T : Tf K mg)  :
    FnOk P w K mg base (L2.CX P w) 2 fa fd ["_law_number", "_law_turn"] (spOf K I 2 (C__law_mixed K)) :=
  fn_D F sc__law_mixed (fun cdv A outer s H E Ed hr tk => pd__law_mixed T  hr tk) fun ds Qd Ed h _ => ct__law_mixed h
theorem mk_c__law_mixed {P : Program} {w : World} {K : PySem.W.Frag} {mg : Str → Option Value} {base : Heap} {I : HI} {fa : Addr} {fd : FuncData} (F : FunD K "_law_mixed" "_law_mixed" (defArgs s__law_mixed) (defBody s__law_mixed) (defScope s__law_mixed) [] [] fa fd) (T : Tf K mg) (gm : mg "_law_mixed" = some (.ref fa))  : Cl P w K mg base I 2 "_law_mixed" 2 (C__law_mixed K) [] := by
  have B : L2.Binds K fd ["_law_number", "_law_turn"] [] := F.bindsN fun _ _ _ _ _ _ us hl => match us, hl with | [_, _], _ => rfl
  exact ⟨fa, fd, _, _, [], fn__law_mixed F T , gm, F.kp, B, .nil, fun H => by simp only [DenA]⟩
theorem fn__law_whole {P : Program} {w : World} {K : PySem.W.Frag} {mg : Str → Option Value} {base : Heap} {I : HI} {fa : Addr} {fd : FuncData} (F : FunD K "_law_whole" "_law_whole" (defArgs s__law_whole) (defBody s__law_whole) (defScope s__law_whole) [] [] fa fd) (T : Tf K mg)  :
    FnOk P w K mg base (L2.CX P w) 2 fa fd ["_law_thing"] (spOf K I 1 (C__law_whole K)) :=
  fn_D F sc__law_whole (fun cdv A outer s H E Ed hr tk => pd__law_whole T  hr tk) fun ds Qd Ed h _ => ct__law_whole h
theorem mk_c__law_whole {P : Program} {w : World} {K : PySem.W.Frag} {mg : Str → Option Value} {base : Heap} {I : HI} {fa : Addr} {fd : FuncData} (F : FunD K "_law_whole" "_law_whole" (defArgs s__law_whole) (defBody s__law_whole) (defScope s__law_whole) [] [] fa fd) (T : Tf K mg) (gm : mg "_law_whole" = some (.ref fa))  : Cl P w K mg base I 2 "_law_whole" 1 (C__law_whole K) [] := by
  have B : L2.Binds K fd ["_law_thing"] [] := F.bindsN fun _ _ _ _ _ _ us hl => match us, hl with | [_], _ => rfl
  exact ⟨fa, fd, _, _, [], fn__law_whole F T , gm, F.kp, B, .nil, fun H => by simp only [DenA]⟩
theorem fn__law_hand {P : Program} {w : World} {K : PySem.W.Frag} {mg : Str → Option Value} {base : Heap} {I : HI} {fa : Addr} {fd : FuncData} (F : FunD K "_law_hand" "_law_hand" (defArgs s__law_hand) (defBody s__law_hand) (defScope s__law_hand) [] [] fa fd) (T : Tf K mg)  :
    FnOk P w K mg base (L2.CX P w) 2 fa fd ["_law_script"] (spOf K I 1 (C_hand K)) :=
  fn_D F sc__law_hand (fun cdv A outer s H E Ed hr tk => pd__law_hand T  hr tk) fun ds Qd Ed h _ => ct__law_hand h
theorem fn__law_dates_asked {P : Program} {w : World} {K : PySem.W.Frag} {mg : Str → Option Value} {base : Heap} {I : HI} {fa : Addr} {fd : FuncData} (F : FunD K "_law_dates_asked" "_law_dates_asked" (defArgs s__law_dates_asked) (defBody s__law_dates_asked) (defScope s__law_dates_asked) [] [] fa fd) (T : Tf K mg) (c_check_dates_2 : Cl P w K mg base I 3 "check_dates" 3 (C_check_dates K) [.int 7]) (ck_check_dates_2_most : ClK P w K mg base I 3 "check_dates" 2 ["most"] 3 (C_check_dates K) (fun xs ys => xs ++ ((ys.drop 0).take 1))) (hnx : I.noXd) (X1 : ErX K "BadDates" "BadLot") :
    FnOk P w K mg base (L2.CX P w) 4 fa fd ["_law_dates", "_law_size", "_law_most"] (spOf K I 3 (C__law_dates_asked K)) :=
  fn_D F sc__law_dates_asked (fun cdv A outer s H E Ed hr tk => pd__law_dates_asked T c_check_dates_2 ck_check_dates_2_most hnx hr tk) fun ds Qd Ed h _ => ct__law_dates_asked X1 h
theorem mk_c__law_dates_asked {P : Program} {w : World} {K : PySem.W.Frag} {mg : Str → Option Value} {base : Heap} {I : HI} {fa : Addr} {fd : FuncData} (F : FunD K "_law_dates_asked" "_law_dates_asked" (defArgs s__law_dates_asked) (defBody s__law_dates_asked) (defScope s__law_dates_asked) [] [] fa fd) (T : Tf K mg) (gm : mg "_law_dates_asked" = some (.ref fa)) (c_check_dates_2 : Cl P w K mg base I 3 "check_dates" 3 (C_check_dates K) [.int 7]) (ck_check_dates_2_most : ClK P w K mg base I 3 "check_dates" 2 ["most"] 3 (C_check_dates K) (fun xs ys => xs ++ ((ys.drop 0).take 1))) (hnx : I.noXd) (X1 : ErX K "BadDates" "BadLot") : Cl P w K mg base I 4 "_law_dates_asked" 3 (C__law_dates_asked K) [] := by
  have B : L2.Binds K fd ["_law_dates", "_law_size", "_law_most"] [] := F.bindsN fun _ _ _ _ _ _ us hl => match us, hl with | [_, _, _], _ => rfl
  exact ⟨fa, fd, _, _, [], fn__law_dates_asked F T c_check_dates_2 ck_check_dates_2_most hnx X1, gm, F.kp, B, .nil, fun H => by simp only [DenA]⟩
theorem fn__law_lot_asked {P : Program} {w : World} {K : PySem.W.Frag} {mg : Str → Option Value} {base : Heap} {I : HI} {fa : Addr} {fd : FuncData} (F : FunD K "_law_lot_asked" "_law_lot_asked" (defArgs s__law_lot_asked) (defBody s__law_lot_asked) (defScope s__law_lot_asked) [] [] fa fd) (T : Tf K mg) (c_check_lot : Cl P w K mg base I 3 "check_lot" 2 (C_check_lot K) []) (hnx : I.noXd) (X2 : ErX K "BadLot" "BadDates") :
    FnOk P w K mg base (L2.CX P w) 4 fa fd ["_law_lot", "_law_among"] (spOf K I 2 (C__law_lot_asked K)) :=
  fn_D F sc__law_lot_asked (fun cdv A outer s H E Ed hr tk => pd__law_lot_asked T c_check_lot hnx hr tk) fun ds Qd Ed h _ => ct__law_lot_asked X2 h
theorem mk_c__law_lot_asked {P : Program} {w : World} {K : PySem.W.Frag} {mg : Str → Option Value} {base : Heap} {I : HI} {fa : Addr} {fd : FuncData} (F : FunD K "_law_lot_asked" "_law_lot_asked" (defArgs s__law_lot_asked) (defBody s__law_lot_asked) (defScope s__law_lot_asked) [] [] fa fd) (T : Tf K mg) (gm : mg "_law_lot_asked" = some (.ref fa)) (c_check_lot : Cl P w K mg base I 3 "check_lot" 2 (C_check_lot K) []) (hnx : I.noXd) (X2 : ErX K "BadLot" "BadDates") : Cl P w K mg base I 4 "_law_lot_asked" 2 (C__law_lot_asked K) [] := by
  have B : L2.Binds K fd ["_law_lot", "_law_among"] [] := F.bindsN fun _ _ _ _ _ _ us hl => match us, hl with | [_, _], _ => rfl
  exact ⟨fa, fd, _, _, [], fn__law_lot_asked F T c_check_lot hnx X2, gm, F.kp, B, .nil, fun H => by simp only [DenA]⟩
theorem fn__law_dates_right {P : Program} {w : World} {K : PySem.W.Frag} {mg : Str → Option Value} {base : Heap} {I : HI} {fa : Addr} {hd : Addr} {fd : FuncData} (F : FunD K "_law_dates_right" "_law_dates_right" (defArgs s__law_dates_right) (defBody s__law_dates_right) (defScope s__law_dates_right) [] [] fa fd) (T : Tf K mg) (c__law_dates_asked : Cl P w K mg base I 4 "_law_dates_asked" 3 (C__law_dates_asked K) []) (c__law_take : Cl P w K mg base I 3 "_law_take" 2 (C__law_take hd) []) (c__law_whole : Cl P w K mg base I 2 "_law_whole" 1 (C__law_whole K) []) (c_unlike_dates : Cl P w K mg base I 2 "unlike_dates" 1 (C_unlike_dates K) []) :
    FnOk P w K mg base (L2.CX P w) 5 fa fd ["_law_hand_here"] (spOf K I 1 (C__law_dates_right K hd)) :=
  fn_D F sc__law_dates_right (fun cdv A outer s H E Ed hr tk => pd__law_dates_right T c__law_dates_asked c__law_take c__law_whole c_unlike_dates hr tk) fun ds Qd Ed h _ => ct__law_dates_right h
theorem mk_c__law_dates_right {P : Program} {w : World} {K : PySem.W.Frag} {mg : Str → Option Value} {base : Heap} {I : HI} {fa : Addr} {hd : Addr} {fd : FuncData} (F : FunD K "_law_dates_right" "_law_dates_right" (defArgs s__law_dates_right) (defBody s__law_dates_right) (defScope s__law_dates_right) [] [] fa fd) (T : Tf K mg) (gm : mg "_law_dates_right" = some (.ref fa)) (c__law_dates_asked : Cl P w K mg base I 4 "_law_dates_asked" 3 (C__law_dates_asked K) []) (c__law_take : Cl P w K mg base I 3 "_law_take" 2 (C__law_take hd) []) (c__law_whole : Cl P w K mg base I 2 "_law_whole" 1 (C__law_whole K) []) (c_unlike_dates : Cl P w K mg base I 2 "unlike_dates" 1 (C_unlike_dates K) []) : Cl P w K mg base I 5 "_law_dates_right" 1 (C__law_dates_right K hd) [] := by
  have B : L2.Binds K fd ["_law_hand_here"] [] := F.bindsN fun _ _ _ _ _ _ us hl => match us, hl with | [_], _ => rfl
  exact ⟨fa, fd, _, _, [], fn__law_dates_right F T c__law_dates_asked c__law_take c__law_whole c_unlike_dates, gm, F.kp, B, .nil, fun H => by simp only [DenA]⟩
theorem fn__law_lot_right {P : Program} {w : World} {K : PySem.W.Frag} {mg : Str → Option Value} {base : Heap} {I : HI} {fa : Addr} {hd : Addr} {fd : FuncData} (F : FunD K "_law_lot_right" "_law_lot_right" (defArgs s__law_lot_right) (defBody s__law_lot_right) (defScope s__law_lot_right) [] [] fa fd) (T : Tf K mg) (c__law_lot_asked : Cl P w K mg base I 4 "_law_lot_asked" 2 (C__law_lot_asked K) []) (c__law_take : Cl P w K mg base I 3 "_law_take" 2 (C__law_take hd) []) (c__law_whole : Cl P w K mg base I 2 "_law_whole" 1 (C__law_whole K) []) :
    FnOk P w K mg base (L2.CX P w) 5 fa fd ["_law_hand_here"] (spOf K I 1 (C__law_lot_right K hd)) :=
  fn_D F sc__law_lot_right (fun cdv A outer s H E Ed hr tk => pd__law_lot_right T c__law_lot_asked c__law_take c__law_whole hr tk) fun ds Qd Ed h _ => ct__law_lot_right h
theorem mk_c__law_lot_right {P : Program} {w : World} {K : PySem.W.Frag} {mg : Str → Option Value} {base : Heap} {I : HI} {fa : Addr} {hd : Addr} {fd : FuncData} (F : FunD K "_law_lot_right" "_law_lot_right" (defArgs s__law_lot_right) (defBody s__law_lot_right) (defScope s__law_lot_right) [] [] fa fd) (T : Tf K mg) (gm : mg "_law_lot_right" = some (.ref fa)) (c__law_lot_asked : Cl P w K mg base I 4 "_law_lot_asked" 2 (C__law_lot_asked K) []) (c__law_take : Cl P w K mg base I 3 "_law_take" 2 (C__law_take hd) []) (c__law_whole : Cl P w K mg base I 2 "_law_whole" 1 (C__law_whole K) []) : Cl P w K mg base I 5 "_law_lot_right" 1 (C__law_lot_right K hd) [] := by
  have B : L2.Binds K fd ["_law_hand_here"] [] := F.bindsN fun _ _ _ _ _ _ us hl => match us, hl with | [_], _ => rfl
  exact ⟨fa, fd, _, _, [], fn__law_lot_right F T c__law_lot_asked c__law_take c__law_whole, gm, F.kp, B, .nil, fun H => by simp only [DenA]⟩
theorem fn__law_order_right {P : Program} {w : World} {K : PySem.W.Frag} {mg : Str → Option Value} {base : Heap} {I : HI} {fa : Addr} {hd : Addr} {fd : FuncData} (F : FunD K "_law_order_right" "_law_order_right" (defArgs s__law_order_right) (defBody s__law_order_right) (defScope s__law_order_right) [] [] fa fd) (T : Tf K mg) (c__law_take : Cl P w K mg base I 3 "_law_take" 2 (C__law_take hd) []) (c_lot_key : Cl P w K mg base I 2 "lot_key" 1 (C_lot_key K) []) (c_sorted_lots : Cl P w K mg base I 3 "sorted_lots" 1 (C_sorted_lots K) []) :
    FnOk P w K mg base (L2.CX P w) 4 fa fd ["_law_hand_here"] (spOf K I 1 (C__law_order_right K hd)) :=
  fn_D F sc__law_order_right (fun cdv A outer s H E Ed hr tk => pd__law_order_right T c__law_take c_lot_key c_sorted_lots hr tk) fun ds Qd Ed h _ => ct__law_order_right h
theorem mk_c__law_order_right {P : Program} {w : World} {K : PySem.W.Frag} {mg : Str → Option Value} {base : Heap} {I : HI} {fa : Addr} {hd : Addr} {fd : FuncData} (F : FunD K "_law_order_right" "_law_order_right" (defArgs s__law_order_right) (defBody s__law_order_right) (defScope s__law_order_right) [] [] fa fd) (T : Tf K mg) (gm : mg "_law_order_right" = some (.ref fa)) (c__law_take : Cl P w K mg base I 3 "_law_take" 2 (C__law_take hd) []) (c_lot_key : Cl P w K mg base I 2 "lot_key" 1 (C_lot_key K) []) (c_sorted_lots : Cl P w K mg base I 3 "sorted_lots" 1 (C_sorted_lots K) []) : Cl P w K mg base I 4 "_law_order_right" 1 (C__law_order_right K hd) [] := by
  have B : L2.Binds K fd ["_law_hand_here"] [] := F.bindsN fun _ _ _ _ _ _ us hl => match us, hl with | [_], _ => rfl
  exact ⟨fa, fd, _, _, [], fn__law_order_right F T c__law_take c_lot_key c_sorted_lots, gm, F.kp, B, .nil, fun H => by simp only [DenA]⟩
theorem mk_c__law_take {P : Program} {w : World} {K : PySem.W.Frag} {mg : Str → Option Value} {base : Heap} {fa hd c : Addr} {fd : FuncData} (F : FunD K "_law_take" "_law_take" (defArgs s__law_take) (defBody s__law_take) (defScope s__law_take) [] [] fa fd) (hne : hd ≠ c) (T : Tf K mg) (gm : mg "_law_take" = some (.ref fa)) (c__law_mixed : Cl P w K mg base (handI hd c) 2 "_law_mixed" 2 (C__law_mixed K) []) : Cl P w K mg base (handI hd c) 3 "_law_take" 2 (C__law_take hd) [] := by
  have B : L2.Binds K fd ["_law_hand_here", "_law_many"] [] := F.bindsN fun _ _ _ _ _ _ us hl => match us, hl with | [_, _], _ => rfl
  exact ⟨fa, fd, _, _, [], fn__law_take hne F T c__law_mixed, gm, F.kp, B, .nil, fun H => by simp only [DenA]⟩
theorem mk_c__law_hand {P : Program} {w : World} {K : PySem.W.Frag} {mg : Str → Option Value} {base : Heap} {I : HI} {fa : Addr} {fd : FuncData} (F : FunD K "_law_hand" "_law_hand" (defArgs s__law_hand) (defBody s__law_hand) (defScope s__law_hand) [] [] fa fd) (T : Tf K mg) (gm : mg "_law_hand" = some (.ref fa))  : Cl P w K mg base I 2 "_law_hand" 1 (C_hand K) [] := by
  have B : L2.Binds K fd ["_law_script"] [] := F.bindsN fun _ _ _ _ _ _ us hl => match us, hl with | [_], _ => rfl
  exact ⟨fa, fd, _, _, [], fn__law_hand F T , gm, F.kp, B, .nil, fun H => by simp only [DenA]⟩
end K02
namespace K02
open PySem PySem.Spec PyProof.Rows L2 Dl
def clsBody : Stmt → List Stmt
  | .ClassDef (body := b) .. => b
  | _ => []
abbrev m_BadDates : Stmt := (clsBody (top 2)).getD 0 (.Pass ⟨0, 0, 0, 0⟩)
abbrev m_BadLot : Stmt := (clsBody (top 3)).getD 0 (.Pass ⟨0, 0, 0, 0⟩)
def fns : List He.DefD := [defD s_is_whole none "is_whole" [.non, .non], defD s_check_dates none "check_dates" [.int 7], defD s_unlike_dates none "unlike_dates" [], defD s_check_lot none "check_lot" [], defD s_lot_key none "lot_key" [], defD s_sorted_lots none "sorted_lots" [], defD s__law_hand none "_law_hand" [], defD s__law_mixed none "_law_mixed" [], defD s__law_take none "_law_take" [], defD s__law_whole none "_law_whole" [], defD s__law_dates_asked none "_law_dates_asked" [], defD s__law_lot_asked none "_law_lot_asked" [], defD s__law_dates_right none "_law_dates_right" [], defD s__law_lot_right none "_law_lot_right" [], defD s__law_order_right none "_law_order_right" [], defD s_law none "law" [], defD m_BadDates (some "BadDates") "__init__" [], defD m_BadLot (some "BadLot") "__init__" []]
def fa : List He.Fa := [.glo "is_whole", .glo "check_dates", .glo "unlike_dates", .glo "check_lot", .glo "lot_key", .glo "sorted_lots", .glo "_law_hand", .glo "_law_mixed", .glo "_law_take", .glo "_law_whole", .glo "_law_dates_asked", .glo "_law_lot_asked", .glo "_law_dates_right", .glo "_law_lot_right", .glo "_law_order_right", .glo "law", .glo "DateError", .glo "BadDates", .glo "BadLot", .free "abs", .free "bool", .free "enumerate", .free "int", .free "isinstance", .free "len", .free "list", .free "range", .free "set", .free "sorted", .free "tuple"]
def excB (K : PySem.W.Frag) (D : Addr) : Bool := decide (PySem.W.findIn K (.ref D) "__getattribute__" = some (some (.builtin "BaseException.__getattribute__"))) && (decide (PySem.W.findIn K (.ref D) "__getattr__" = some none) && (decide (PySem.W.subIn K (.ref D) (.type "BaseException") = some true) && (PySem.W.hasDictIn K D &&
  (decide (PySem.W.findIn K (.ref D) "__class__" = some (some (.builtin "object.__class__"))) && (decide (PySem.W.specialIn K (.builtin "object.__class__") "__get__" = some (some (.builtin "getset_descriptor.__get__"))) && (decide (PySem.W.takesIn K (.builtin "object.__class__") = some true) && decide (PySem.W.mroIn K D (.type "object") = some true)))))))
theorem excB_ok {K : PySem.W.Frag} {D : Addr} (h : excB K D = true) : ExcC K D := by
  obtain ⟨h1, h⟩ := He.ba h
  obtain ⟨h2, h⟩ := He.ba h
  obtain ⟨h3, h⟩ := He.ba h
  obtain ⟨h4, h⟩ := He.ba h
  obtain ⟨h5, h⟩ := He.ba h
  obtain ⟨h6, h⟩ := He.ba h
  obtain ⟨h7, h8⟩ := He.ba h
  exact ⟨of_decide_eq_true h1, of_decide_eq_true h2, of_decide_eq_true h3, h4, of_decide_eq_true h5, of_decide_eq_true h6, of_decide_eq_true h7, of_decide_eq_true h8⟩
def erxB (K : PySem.W.Frag) (c o : Str) : Bool := decide (PySem.W.exmOne K (.ref (He.ga K c)) (.ref (He.ga K "DateError")) = some true) && (decide (PySem.W.kitOne K (.ref (He.ga K c)) (.ref (He.ga K c)) = some true) && (decide (PySem.W.kitOne K (.ref (He.ga K c)) (.ref (He.ga K o)) = some false) && (excB K (He.ga K c) && (xfB K (He.ga K c) && decide (PySem.W.findIn K (.ref (He.ga K c)) "index" = some none)))))
theorem erxB_ok {K : PySem.W.Frag} {c o : Str} (h : erxB K c o = true) : ErX K c o := by
  obtain ⟨h1, h⟩ := He.ba h
  obtain ⟨h2, h⟩ := He.ba h
  obtain ⟨h3, h⟩ := He.ba h
  obtain ⟨h4, h⟩ := He.ba h
  obtain ⟨h5, h6⟩ := He.ba h
  exact ⟨of_decide_eq_true h1, of_decide_eq_true h2, of_decide_eq_true h3, excB_ok h4, xfB_ok h5, of_decide_eq_true h6⟩
def exF (K : PySem.W.Frag) : Bool := errB K "BadDates" "index" && (errB K "BadLot" "index" && (erxB K "BadDates" "BadLot" && erxB K "BadLot" "BadDates"))
abbrev R : PySem.W.OpenRow := PySem.W.OpenLaw.row PySem.Challenge.rw_earliestlots_k02_whole_dates_and_lots_ch
abbrev qv : Program := PySem.W.view R.prog [22]
abbrev hk : PySem.W.Hook := hookZ 5 fa fns exF
def ob (s : PySem.W.SharedT) : AlZ := obsZ 5 fa fns exF (HandSHeadRun.getT s)
theorem ob_eq (s : PySem.W.SharedT) : ob s = hk.obs s.abs := obsZ_eq (HandSHeadRun.getT_eq s)
def names : List Str := ["DateError", "BadDates", "BadLot", "is_whole", "check_dates", "unlike_dates", "check_lot", "lot_key", "sorted_lots", "_law_hand", "_law_mixed", "_law_take", "_law_whole", "_law_dates_asked", "_law_lot_asked", "_law_dates_right", "_law_lot_right", "_law_order_right"]
theorem run (w : World) : HandSHeadRun.RunEq R qv hk ob 3000 names w := by
  intro os
  kernel_rfl
end K02
namespace K02
open PySem PySem.Spec PyProof.Rows L2 Dl
theorem ct_law {K : PySem.W.Frag} {hd : Addr} {ds : List D} : d_law K hd (fun _ _ => False) ⟨fun _ => False, fun d => d = .bl true, fun _ => False, fun _ => False⟩ (.val (scrD ds) :: .val (.ref hd) :: List.replicate 1 .no) := by
  refine ⟨4, rfl, ⟨by decide, by decide⟩, ?_⟩
  refine forD_of (fun done rest env => ∃ s, env = [.val (scrD ds), .val (.ref hd), s]) (fun done env hh => ?_) (fun done x rest env hh k => ?_) _ [] _ ⟨_, rfl⟩
  · obtain ⟨s, rfl⟩ := hh
    exact ⟨_, _, rfl, rfl, rfl, rfl⟩
  · obtain ⟨s, rfl⟩ := hh
    exact ⟨_, _, rfl, rfl, rfl, _, rfl, it_f rfl ⟨_, _, rfl, rfl, rfl, _, rfl, it_f rfl (k _ ⟨_, rfl⟩)⟩⟩
theorem fn_law {P : Program} {w : World} {K : PySem.W.Frag} {mg : Str → Option Value} {base : Heap} {fa : Addr} {fd : FuncData} (F : FunD K "law" "law" (defArgs s_law) (defBody s_law) (defScope s_law) [] [] fa fd) (T : Tf K mg)
    (c__law_hand : Cl P w K mg base HI.plain 2 "_law_hand" 1 (C_hand K) []) (hs : ∀ hd c, hd ≠ c → Cl P w K mg base (handI hd c) 5 "_law_dates_right" 1 (C__law_dates_right K hd) [] ∧ Cl P w K mg base (handI hd c) 5 "_law_lot_right" 1 (C__law_lot_right K hd) [] ∧ Cl P w K mg base (handI hd c) 4 "_law_order_right" 1 (C__law_order_right K hd) []) :
    FnOk P w K mg base (L2.CX P w) 6 fa fd ["_law_script"] (spLaw K) := by
  obtain ⟨fh, fdh, psh, dsh, dvsh, Fh, gh, kh, bh, vh, dh⟩ := c__law_hand
  have e1 : dvsh = [] := (dh (fun _ => none)).nil
  subst e1
  cases vh
  refine F.ok sc_law (fun vs H Q E ⟨a, ns, e, _⟩ => by rw [e]; rfl) (fun cdv A outer s H vs Q E hr h => ?_)
  obtain ⟨a, ns, rfl, hl, o, sq, hQ⟩ := h
  have nd := sc_law.nd
  have tk : Takes (cxD P w K mg base N_law "law" (defScope s_law) fa cdv A outer s H E) (gOf HI.plain (fun _ => False) E).W := takes_of rfl rfl rfl rfl
  refine ⟨_, pss_cons (ps_set (i := 1) nd rfl (Or.inl rfl) (pe_call Fh (hr.mono (by decide)) rfl gh kh bh .nil passL (pa_cons (pv 0) pa_nil))) pss_w, ?_⟩
  exact law_run (X := cxD P w K mg base N_law "law" (defScope s_law) fa cdv A outer s H E) (rest := (defBody s_law).tail) (td := fun hd => d_law K hd (fun _ _ => False)) (n := 1) (W := (gOf HI.plain (fun _ => False) E).W) rfl (fun hd c hne => pd_law (Ed := fun _ => False) T (hs hd c hne).1 (hs hd c hne).2.1 (hs hd c hne).2.2 hr tk) (fun hd => ct_law) hl o sq hQ
theorem facts {P : Program} {w : World} {K : PySem.W.Frag} {h : Heap} {mg : Str → Option Value} {f : Addr} (X : K.In h) (G : h.Ns mainGlobals mg) (hfa : mg ("law" : Str) = some (.ref f)) (c : He.SaysD fa fns K) (x : exF K = true) :
    ∃ fd : FuncData, (∀ (s : Shared) (v : Value), BindsTo s fd ⟨[v], []⟩ [("_law_script", v)]) ∧ ∀ base : Heap, K.In base → base.Ns mainGlobals mg → FnOk P w K mg base (L2.CX P w) 6 f fd ["_law_script"] (spLaw K) := by
  obtain ⟨fd_is_whole, F_is_whole⟩ := c.def_ 0 (d := defD s_is_whole none "is_whole" [.non, .non]) rfl
  have g_is_whole := He.glo_ok X G (c.fact 0 (f := .glo "is_whole") rfl)
  obtain ⟨fd_check_dates, F_check_dates⟩ := c.def_ 1 (d := defD s_check_dates none "check_dates" [.int 7]) rfl
  have g_check_dates := He.glo_ok X G (c.fact 1 (f := .glo "check_dates") rfl)
  obtain ⟨fd_unlike_dates, F_unlike_dates⟩ := c.def_ 2 (d := defD s_unlike_dates none "unlike_dates" []) rfl
  have g_unlike_dates := He.glo_ok X G (c.fact 2 (f := .glo "unlike_dates") rfl)
  obtain ⟨fd_check_lot, F_check_lot⟩ := c.def_ 3 (d := defD s_check_lot none "check_lot" []) rfl
  have g_check_lot := He.glo_ok X G (c.fact 3 (f := .glo "check_lot") rfl)
  obtain ⟨fd_lot_key, F_lot_key⟩ := c.def_ 4 (d := defD s_lot_key none "lot_key" []) rfl
  have g_lot_key := He.glo_ok X G (c.fact 4 (f := .glo "lot_key") rfl)
  obtain ⟨fd_sorted_lots, F_sorted_lots⟩ := c.def_ 5 (d := defD s_sorted_lots none "sorted_lots" []) rfl
  have g_sorted_lots := He.glo_ok X G (c.fact 5 (f := .glo "sorted_lots") rfl)
  obtain ⟨fd__law_hand, F__law_hand⟩ := c.def_ 6 (d := defD s__law_hand none "_law_hand" []) rfl
  have g__law_hand := He.glo_ok X G (c.fact 6 (f := .glo "_law_hand") rfl)
  obtain ⟨fd__law_mixed, F__law_mixed⟩ := c.def_ 7 (d := defD s__law_mixed none "_law_mixed" []) rfl
  have g__law_mixed := He.glo_ok X G (c.fact 7 (f := .glo "_law_mixed") rfl)
  obtain ⟨fd__law_take, F__law_take⟩ := c.def_ 8 (d := defD s__law_take none "_law_take" []) rfl
  have g__law_take := He.glo_ok X G (c.fact 8 (f := .glo "_law_take") rfl)
  obtain ⟨fd__law_whole, F__law_whole⟩ := c.def_ 9 (d := defD s__law_whole none "_law_whole" []) rfl
  have g__law_whole := He.glo_ok X G (c.fact 9 (f := .glo "_law_whole") rfl)
  obtain ⟨fd__law_dates_asked, F__law_dates_asked⟩ := c.def_ 10 (d := defD s__law_dates_asked none "_law_dates_asked" []) rfl
  have g__law_dates_asked := He.glo_ok X G (c.fact 10 (f := .glo "_law_dates_asked") rfl)
  obtain ⟨fd__law_lot_asked, F__law_lot_asked⟩ := c.def_ 11 (d := defD s__law_lot_asked none "_law_lot_asked" []) rfl
  have g__law_lot_asked := He.glo_ok X G (c.fact 11 (f := .glo "_law_lot_asked") rfl)
  obtain ⟨fd__law_dates_right, F__law_dates_right⟩ := c.def_ 12 (d := defD s__law_dates_right none "_law_dates_right" []) rfl
  have g__law_dates_right := He.glo_ok X G (c.fact 12 (f := .glo "_law_dates_right") rfl)
  obtain ⟨fd__law_lot_right, F__law_lot_right⟩ := c.def_ 13 (d := defD s__law_lot_right none "_law_lot_right" []) rfl
  have g__law_lot_right := He.glo_ok X G (c.fact 13 (f := .glo "_law_lot_right") rfl)
  obtain ⟨fd__law_order_right, F__law_order_right⟩ := c.def_ 14 (d := defD s__law_order_right none "_law_order_right" []) rfl
  have g__law_order_right := He.glo_ok X G (c.fact 14 (f := .glo "_law_order_right") rfl)
  obtain ⟨fd_law, F_law⟩ := c.def_ 15 (d := defD s_law none "law" []) rfl
  have g_law := He.glo_ok X G (c.fact 15 (f := .glo "law") rfl)
  obtain ⟨fd_BadDates, F_BadDates⟩ := c.def_ 16 (d := defD m_BadDates (some "BadDates") "__init__" []) rfl
  obtain ⟨fd_BadLot, F_BadLot⟩ := c.def_ 17 (d := defD m_BadLot (some "BadLot") "__init__" []) rfl
  have g_DateError := He.glo_ok X G (c.fact 16 (f := .glo "DateError") rfl)
  have g_BadDates := He.glo_ok X G (c.fact 17 (f := .glo "BadDates") rfl)
  have g_BadLot := He.glo_ok X G (c.fact 18 (f := .glo "BadLot") rfl)
  have T : Tf K mg := ⟨He.free_ok X G (c.fact 19 (f := .free "abs") rfl), He.free_ok X G (c.fact 20 (f := .free "bool") rfl), He.free_ok X G (c.fact 21 (f := .free "enumerate") rfl), He.free_ok X G (c.fact 22 (f := .free "int") rfl), He.free_ok X G (c.fact 23 (f := .free "isinstance") rfl), He.free_ok X G (c.fact 24 (f := .free "len") rfl), He.free_ok X G (c.fact 25 (f := .free "list") rfl), He.free_ok X G (c.fact 26 (f := .free "range") rfl), He.free_ok X G (c.fact 27 (f := .free "set") rfl), He.free_ok X G (c.fact 28 (f := .free "sorted") rfl), He.free_ok X G (c.fact 29 (f := .free "tuple") rfl), g_BadDates, g_BadLot, g_DateError⟩
  obtain ⟨x1, x⟩ := He.ba x
  obtain ⟨x2, x⟩ := He.ba x
  obtain ⟨x3, x4⟩ := He.ba x
  have er_BadDates : ∀ base : Heap, Er P w K mg base "BadDates" "index" := fun base => ⟨errB_ok x1, g_BadDates, fd_BadDates, init_ok (errB_ok x1).e (by decide) (by decide) (by decide) (Or.inl rfl) (Or.inl rfl) F_BadDates ⟨rfl, rfl, rfl, by decide +kernel, rfl, by decide +kernel, by decide +kernel⟩ (fun _ => rfl), F_BadDates.bindsN fun _ _ _ _ _ _ us hl => match us, hl with | [_, _], _ => rfl⟩
  have er_BadLot : ∀ base : Heap, Er P w K mg base "BadLot" "index" := fun base => ⟨errB_ok x2, g_BadLot, fd_BadLot, init_ok (errB_ok x2).e (by decide) (by decide) (by decide) (Or.inl rfl) (Or.inl rfl) F_BadLot ⟨rfl, rfl, rfl, by decide +kernel, rfl, by decide +kernel, by decide +kernel⟩ (fun _ => rfl), F_BadLot.bindsN fun _ _ _ _ _ _ us hl => match us, hl with | [_, _], _ => rfl⟩
  have X1 := erxB_ok x3
  have X2 := erxB_ok x4
  have e := hfa.symm.trans g_law
  cases e
  have b := FunD.bindsA (ps := ["_law_script"]) F_law fun _ _ _ _ _ _ us hl => match us, hl with | [_], _ => rfl
  refine ⟨fd_law, fun s v => b s [v] rfl, fun base _ _ => ?_⟩
  refine fn_law F_law T (mk_c__law_hand F__law_hand T g__law_hand) fun hd c hne => ?_
  have c__law_mixed := mk_c__law_mixed (P := P) (w := w) (base := base) (I := handI hd c) F__law_mixed T g__law_mixed 
  have c__law_take := mk_c__law_take (P := P) (w := w) (base := base) F__law_take hne T g__law_take c__law_mixed
  have c_is_whole_1 := mk_c_is_whole_1 (P := P) (w := w) (base := base) (I := handI hd c) F_is_whole T g_is_whole 
  have c_is_whole := mk_c_is_whole (P := P) (w := w) (base := base) (I := handI hd c) F_is_whole T g_is_whole 
  have c_check_dates_2 := mk_c_check_dates_2 (P := P) (w := w) (base := base) (I := handI hd c) F_check_dates T g_check_dates c_is_whole (er_BadDates base)
  have ck_check_dates_2_most := mk_ck_check_dates_2_most (P := P) (w := w) (base := base) (I := handI hd c) F_check_dates T g_check_dates c_is_whole (er_BadDates base)
  have c_unlike_dates := mk_c_unlike_dates (P := P) (w := w) (base := base) (I := handI hd c) F_unlike_dates T g_unlike_dates 
  have c_check_lot := mk_c_check_lot (P := P) (w := w) (base := base) (I := handI hd c) F_check_lot T g_check_lot c_is_whole_1 (er_BadLot base)
  have c_lot_key := mk_c_lot_key (P := P) (w := w) (base := base) (I := handI hd c) F_lot_key T g_lot_key 
  have c_sorted_lots := mk_c_sorted_lots (P := P) (w := w) (base := base) (I := handI hd c) F_sorted_lots T g_sorted_lots c_lot_key
  have c__law_whole := mk_c__law_whole (P := P) (w := w) (base := base) (I := handI hd c) F__law_whole T g__law_whole 
  have c__law_dates_asked := mk_c__law_dates_asked (P := P) (w := w) (base := base) (I := handI hd c) F__law_dates_asked T g__law_dates_asked c_check_dates_2 ck_check_dates_2_most (handI_noXd hd c) X1
  have c__law_lot_asked := mk_c__law_lot_asked (P := P) (w := w) (base := base) (I := handI hd c) F__law_lot_asked T g__law_lot_asked c_check_lot (handI_noXd hd c) X2
  have c__law_dates_right := mk_c__law_dates_right (P := P) (w := w) (base := base) (I := handI hd c) (hd := hd) F__law_dates_right T g__law_dates_right c__law_dates_asked c__law_take c__law_whole c_unlike_dates
  have c__law_lot_right := mk_c__law_lot_right (P := P) (w := w) (base := base) (I := handI hd c) (hd := hd) F__law_lot_right T g__law_lot_right c__law_lot_asked c__law_take c__law_whole
  have c__law_order_right := mk_c__law_order_right (P := P) (w := w) (base := base) (I := handI hd c) (hd := hd) F__law_order_right T g__law_order_right c__law_take c_lot_key c_sorted_lots
  exact ⟨c__law_dates_right, c__law_lot_right, c__law_order_right⟩
end K02
open PySem PySem.W PySem.Calls PyProof.Rows
theorem PySem.Challenge.cw_earliestlots_k02_whole_dates_and_lots_ch_holds : PySem.Challenge.rw_earliestlots_k02_whole_dates_and_lots_ch.Holds := by
  w_on; o_law
  refine HandSHeadRun.head_any (r := OpenLaw.row PySem.Challenge.rw_earliestlots_k02_whole_dates_and_lots_ch) (q := view (OpenLaw.row PySem.Challenge.rw_earliestlots_k02_whole_dates_and_lots_ch).prog [22]) (H := K02.hk) (ob := K02.ob) (M := 3000) (loose := K02.names) (d := HandSHeadRun.topDef (OpenLaw.row PySem.Challenge.rw_earliestlots_k02_whole_dates_and_lots_ch).prog 22) (kwd := []) K02.ob_eq
    (by kernel_rfl) (fun s => by kernel_rfl) K02.run (by kernel_rfl) (by kernel_rfl) (by kernel_rfl) (by rfl) (by first | assumption | decide +kernel) (by decide +kernel) ⟨rfl, rfl, rfl, rfl, rfl, by decide +kernel⟩ ?hw ?hc
  case hw => w_witness2
  case hc =>
    refine L2.walk_ofE (l := PySem.Challenge.rw_earliestlots_k02_whole_dates_and_lots_ch) (n := 63) (k := 6) (x := "_law_script") (CX := L2.CX0) rfl (by decide) (by kernel_rfl) ⟨rfl, by decide, by decide⟩ ?F (fun _ _ _ _ z => z)
    intro w mg fa h Y G hmg0
    obtain ⟨K, KX, c, x⟩ := Y
    have hmg : mg ("law" : PySem.Str) = some (.ref fa) := by
      have e : (HandSHeadRun.topDef (OpenLaw.row PySem.Challenge.rw_earliestlots_k02_whole_dates_and_lots_ch).prog 22).name = ("law" : PySem.Str) := by kernel_rfl
      rw [← e]
      exact hmg0
    obtain ⟨fd, hb, hF⟩ := K02.facts (P := PySem.Challenge.rw_earliestlots_k02_whole_dates_and_lots_ch.prog) (w := w) KX G hmg c x
    exact ⟨K, fd, Dl.spLaw K, KX, hb, fun H a ns hl ho hS => ⟨a, ns, rfl, hl, ho, hS, fun _ => rfl⟩, fun base h1 h2 => Dl.law_cx0 (hF base h1 h2)⟩
