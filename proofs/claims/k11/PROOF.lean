import PyProof.Rows.All
import Wide.All
import OpenK.AllK
import Wide.FinOn
import HandS.ForMost
import HandS.Wide
import HandS.IsInst
import HandS.TupAny
import HandS.Style
import HandS.FStr
import HandS.StrMore
import HandS.WordsExc
import HandS.ExcInit
import HandS.ExcField
import HandS.CallSlots
import HandS.Defaults
import KE.KExcIs
import HandS.ExcIs
import KE.GoesMore
import KE.GoesEnum
import HandS.Iter
import HandS.Walk
import HandS.DictComp
import KE.KSortTupUse
import KE.KDictSum
import KE.KDictCopyH
import HandS.SortRule
import HandS.Conv
import HandS.Set
import HandS.Keys
import HandS.DictTup
import KE.KDictPairs
import HandS.WideBits
import HandS.TupLe
import HandS.TupLen
import HandS.Conv
import HandS.DictEq
import HandS.Deep
import KE.DataEq
import KE.KeyNested
import HandS.Star
import HandS.TupSets
import PySem.Challenge.RW_streetpapers_k11_whole_rings
set_option Elab.async false
set_option linter.all false
set_option maxRecDepth 100000
set_option maxHeartbeats 4000000
namespace Sb
open PySem PySem.Spec PyProof.Rows L2 TL
/-! ### defs of the text, and what they promise -/
structure DefAt (K : PySem.W.Frag) (mg : Str → Option Value) (x : Str) (st : Stmt) (ps : List Str) : Prop where
  ex : ∃ (f : Addr) (fd : FuncData), Fun K x x st f fd ∧ mg x = some (.ref f) ∧ Binds K fd ps []
structure Cal (P : Program) (w : World) (K : PySem.W.Frag) (mg : Str → Option Value) (base : Heap) (CX : CXT) (x : Str) (k : Nat) (ps : List Str) (sp : Sp) : Prop where
  ex : ∃ (f : Addr) (fd : FuncData), FnOk P w K mg base CX k f fd ps sp ∧ mg x = some (.ref f) ∧ PySem.W.keepIn K (.ref f) = true ∧ Binds K fd ps []
section
variable {P : Program} {w : World} {K : PySem.W.Frag} {mg : Str → Option Value} {base : Heap}
theorem Cal.mono {CX : CXT} {x : Str} {j k : Nat} {ps : List Str} {sp : Sp} (C : Cal P w K mg base CX x j ps sp) (h : j ≤ k) : Cal P w K mg base CX x k ps sp := by
  obtain ⟨f, fd, F, m, kp, b⟩ := C.ex
  exact ⟨f, fd, F.mono h, m, kp, b⟩
theorem Cal.imp {CX : CXT} {x : Str} {k : Nat} {ps : List Str} {sp sp' : Sp} (C : Cal P w K mg base CX x k ps sp) (h : ∀ vs H Q E, sp' vs H Q E → sp vs H Q E) : Cal P w K mg base CX x k ps sp' := by
  obtain ⟨f, fd, F, m, kp, b⟩ := C.ex
  exact ⟨f, fd, F.imp h, m, kp, b⟩
theorem DefAt.cal {x : Str} {st : Stmt} {N ps : List Str} {k : Nat} {sp : Sp} (D : DefAt K mg x st ps) (S : FnScope N ps (defScope st)) (len : ∀ vs H Q E, sp vs H Q E → vs.length = ps.length)
    (hbody : ∀ (f : Addr) (cdv : Value) (A : Around) (outer : List Env) (s : Shared) (H : Hp) (vs : List V) (Q : VK) (E : XK), Room k (A.deeper (envOfC x (defScope st) s.heap.objs.size f cdv)) → sp vs H Q E →
      ∃ t, PSs (cxOf CX0 P w K mg base N x (defScope st) f cdv A outer s H E).nox (defBody st) t ∧ t { nx := fun _ H' => Q .non H', rt := Q } (start N vs) H) : Cal P w K mg base CX0 x (k + 1) ps sp := by
  obtain ⟨f, fd, F, m, b⟩ := D.ex
  exact ⟨f, fd, F.ok S len (hbody f), m, F.kp, b⟩
end
section
variable {X : Cx} {CX : CXT} {k j : Nat} {ps : List Str} {sp : Sp} {x : Str} {p pos : Pos} {e : Expr} {es : List Expr} {t : TA}
theorem pe_own (C : Cal X.prog X.w X.K X.mg X.base CX0 x k ps sp) (hr : Room j X.A) (hk : k ≤ j) (ha : PA X (e :: es) t) (hg : Gl X x := by rfl) (hdb : (x == ("__debug__" : Str)) = false := by decide)
    (he : starEach (e :: es) X.env = (false, eval e X.env) :: starEach es X.env := by rfl) (hpl : (backTo pos (starEach es X.env)).any (·.1) = false := by rfl) : PE X (.Call (.Name x p) (e :: es) [] pos) (tCall sp [] E0 t) := by
  obtain ⟨f, fd, F, m, kp, b⟩ := C.ex
  exact pe_call F (hr.mono hk) hg m kp b .nil pass0 ha hdb he hpl
theorem pe_own0 (C : Cal X.prog X.w X.K X.mg X.base CX0 x k ps sp) (hr : Room j X.A) (hk : k ≤ j) (hg : Gl X x := by rfl) (hdb : (x == ("__debug__" : Str)) = false := by decide) : PE X (.Call (.Name x p) [] [] pos) (tCall sp [] E0 tNil) := by
  obtain ⟨f, fd, F, m, kp, b⟩ := C.ex
  exact pe_call0 F (hr.mono hk) hg m kp b .nil pass0 hdb
end
/-- a word that the steps do not enter -/
structure Ok (p : Prop) : Prop where
  o : p
/-! ### heaps -/
def KeepB (r : Addr) (H H' : Hp) : Prop := ∀ b o, b ≠ r → H b = some o → H' b = some o
theorem KeepB.refl (r : Addr) (H : Hp) : KeepB r H H := fun _ _ _ h => h
theorem KeepB.trans {r : Addr} {H H1 H2 : Hp} (a : KeepB r H H1) (b : KeepB r H1 H2) : KeepB r H H2 := fun c o n h => b c o n (a c o n h)
theorem KeepB.put {r : Addr} {H : Hp} {o : HO} : KeepB r H (upd H r o) := fun b u n h => by
  rw [upd_ne n]
  exact h
theorem Same.keepB {r : Addr} {H H' : Hp} (s : Same H H') : KeepB r H H' := fun b o _ h => s b o h
theorem Same.new {H : Hp} {p : Addr} {o : HO} (h : H p = none) : Same H (upd H p o) := fun b u e => by
  rw [upd_ne (ne_of_none e h)]
  exact e
/-- tuples and what is frozen stay -/
structure TK (H H' : Hp) : Prop where
  tup : ∀ b xs, H b = some (.tup xs) → H' b = some (.tup xs)
  frz : ∀ b o u, H b = some (.frz o u) → H' b = some (.frz o u)
theorem TK.refl (H : Hp) : TK H H := ⟨fun _ _ h => h, fun _ _ _ h => h⟩
theorem TK.trans {H H1 H2 : Hp} (a : TK H H1) (b : TK H1 H2) : TK H H2 := ⟨fun c x h => b.tup c x (a.tup c x h), fun c o u h => b.frz c o u (a.frz c o u h)⟩
theorem Same.tk {H H' : Hp} (s : Same H H') : TK H H' := ⟨fun b xs h => s b _ h, fun b o u h => s b _ h⟩
theorem KeepB.tk {r : Addr} {H H' : Hp} {xs : List V} (s : KeepB r H H') (h : H r = some (.lst xs)) : TK H H' :=
  ⟨fun b ys e => s b _ (ne_of e h (by intro z; cases z)) e, fun b o u e => s b _ (ne_of e h (by intro z; cases z)) e⟩
theorem TK.seqT {K : PySem.W.Frag} {H H' : Hp} {a : Addr} {xs : List V} (t : TK H H') (h : SqT K H a xs) : SqT K H' a xs := by
  rcases h with (h | ⟨o, h⟩) | h
  · exact .inl (.inl (t.tup _ _ h))
  · exact .inl (.inr ⟨o, t.frz _ _ _ h⟩)
  · exact .inr h
theorem TK.new {H : Hp} {p : Addr} {o : HO} (h : H p = none) : TK H (upd H p o) := Same.tk (Same.new h)
theorem TK.lst {H : Hp} {p : Addr} {xs : List V} {o : HO} (h : H p = some (.lst xs)) : TK H (upd H p o) := (KeepB.put (r := p)).tk h
theorem KeepB.new {r : Addr} {H : Hp} {p : Addr} {o : HO} (h : H p = none) : KeepB r H (upd H p o) := Same.keepB (Same.new h)
/-- a change at an object that the first heap does not know -/
theorem KeepB.fresh {r : Addr} {H H' : Hp} {p : Addr} {o : HO} (k : KeepB r H H') (h : H p = none) : KeepB r H (upd H' p o) := fun b u n e => by
  rw [upd_ne (ne_of_none e h)]
  exact k b u n e
/-- what the later heap does not know the earlier did not -/
theorem KeepB.back {r : Addr} {H H' : Hp} {p : Addr} (k : KeepB r H H') (h : H' p = none) (n : p ≠ r) : H p = none := by
  cases e : H p with
  | none => rfl
  | some o =>
    rw [k p o n e] at h
    cases h
theorem Same.fresh {H H' : Hp} {p : Addr} {o : HO} (k : Same H H') (h : H p = none) : Same H (upd H' p o) := fun b u e => by
  rw [upd_ne (ne_of_none e h)]
  exact k b u e
/-! ### immutable data -/
mutual
inductive Tp (K : PySem.W.Frag) (H : Hp) : V → PyData → Prop
  | non : Tp K H .non .none
  | bl (b : Bool) : Tp K H (.bl b) (.bool b)
  | int (i : Int) : Tp K H (.int i) (.int i)
  | str (x : Str) : Tp K H (.str x) (.str x)
  | tup {a : Addr} {xs : List V} {ds : List PyData} : SqT K H a xs → TpAll K H xs ds → Tp K H (.ref a) (.tuple ds)
inductive TpAll (K : PySem.W.Frag) (H : Hp) : List V → List PyData → Prop
  | nil : TpAll K H [] []
  | cons {v : V} {vs : List V} {d : PyData} {ds : List PyData} : Tp K H v d → TpAll K H vs ds → TpAll K H (v :: vs) (d :: ds)
end
section
variable {K : PySem.W.Frag} {H H' : Hp}
mutual
theorem Tp.mono (t : TK H H') : ∀ (d : PyData) (v : V), Tp K H v d → Tp K H' v d
  | .none, _, h => by cases h; exact .non
  | .bool b, _, h => by cases h; exact .bl b
  | .int i, _, h => by cases h; exact .int i
  | .str x, _, h => by cases h; exact .str x
  | .list ds, _, h => by cases h
  | .dict _, _, h => by cases h
  | .tuple ds, _, h => by
    cases h with
    | tup hs ha => exact .tup (t.seqT hs) (TpAll.mono t ds _ ha)
theorem TpAll.mono (t : TK H H') : ∀ (ds : List PyData) (vs : List V), TpAll K H vs ds → TpAll K H' vs ds
  | [], _, h => by cases h; exact .nil
  | d :: ds, _, h => by
    cases h with
    | cons h1 h2 => exact .cons (Tp.mono t d _ h1) (TpAll.mono t ds _ h2)
end
mutual
theorem Tp.dp : ∀ (d : PyData) (v : V), Tp K H v d → Dp K H v d
  | .none, _, h => by cases h; exact .non
  | .bool b, _, h => by cases h; exact .bl b
  | .int i, _, h => by cases h; exact .int i
  | .str x, _, h => by cases h; exact .str x
  | .list ds, _, h => by cases h
  | .dict _, _, h => by cases h
  | .tuple ds, _, h => by
    cases h with
    | tup hs ha => exact .tup hs (TpAll.dp ds _ ha)
theorem TpAll.dp : ∀ (ds : List PyData) (vs : List V), TpAll K H vs ds → DpAll K H vs ds
  | [], _, h => by cases h; exact .nil
  | d :: ds, _, h => by
    cases h with
    | cons h1 h2 => exact .cons (Tp.dp d _ h1) (TpAll.dp ds _ h2)
end
mutual
theorem Dp.mono (s : Same H H') : ∀ (d : PyData) (v : V), Dp K H v d → Dp K H' v d
  | .none, _, h => by cases h; exact .non
  | .bool b, _, h => by cases h; exact .bl b
  | .int i, _, h => by cases h; exact .int i
  | .str x, _, h => by cases h; exact .str x
  | .dict _, _, h => by cases h
  | .list ds, _, h => by
    cases h with
    | lst hs ha => exact .lst (s.seq hs) (DpAll.mono s ds _ ha)
  | .tuple ds, _, h => by
    cases h with
    | tup hs ha => exact .tup ((Same.tk s).seqT hs) (DpAll.mono s ds _ ha)
theorem DpAll.mono (s : Same H H') : ∀ (ds : List PyData) (vs : List V), DpAll K H vs ds → DpAll K H' vs ds
  | [], _, h => by cases h; exact .nil
  | d :: ds, _, h => by
    cases h with
    | cons h1 h2 => exact .cons (Dp.mono s d _ h1) (DpAll.mono s ds _ h2)
end
theorem TpAll.length : ∀ {vs : List V} {ds : List PyData}, TpAll K H vs ds → vs.length = ds.length
  | [], [], _ => rfl
  | _ :: _, [], h => by cases h
  | [], _ :: _, h => by cases h
  | v :: vs, d :: ds, h => by
    cases h with
    | cons h1 h2 =>
      show vs.length + 1 = ds.length + 1
      rw [TpAll.length h2]
theorem TpAll.get : ∀ {vs : List V} {ds : List PyData} {i : Nat} {d : PyData}, TpAll K H vs ds → ds[i]? = some d → ∃ v, vs[i]? = some v ∧ Tp K H v d
  | [], [], _, _, _, e => by simp at e
  | _ :: _, [], _, _, h, _ => by cases h
  | [], _ :: _, _, _, h, _ => by cases h
  | v :: vs, d :: ds, 0, _, h, e => by
    cases h with
    | cons h1 h2 =>
      have e : d = _ := Option.some.inj e
      subst e
      exact ⟨v, rfl, h1⟩
  | v :: vs, d :: ds, i + 1, _, h, e => by
    cases h with
    | cons h1 h2 => exact TpAll.get (i := i) h2 e
theorem TpAll.append : ∀ {vs ws : List V} {ds es : List PyData}, TpAll K H vs ds → TpAll K H ws es → TpAll K H (vs ++ ws) (ds ++ es)
  | [], _, [], _, _, h => h
  | _ :: _, _, [], _, h, _ => by cases h
  | [], _, _ :: _, _, h, _ => by cases h
  | v :: vs, _, d :: ds, _, h, h' => by
    cases h with
    | cons h1 h2 => exact .cons h1 (TpAll.append h2 h')
end
/-! ### the draws -/
/-- the script: frozen, or an object of the written part -/
def Scr (K : PySem.W.Frag) (H : Hp) (s : Addr) (ns : List Int) : Prop := (∃ o, H s = some (.frz o (.lst (ns.map V.int)))) ∨ ∃ (o : Obj) (its : Array Value) (n : Nat), K.lookup s = some o ∧ o.cls = .type "list" ∧ o.dict = none ∧ o.data = .seq its n ∧ its.size ≤ sizeLine ∧ Vals (ns.map V.int) its.toList
theorem Scr.sq {K : PySem.W.Frag} {H : Hp} {s : Addr} {ns : List Int} (h : Scr K H s ns) : SqL K H s (ns.map V.int) := by
  rcases h with ⟨o, h⟩ | h
  · exact .inl (.inr ⟨o, h⟩)
  · exact .inr h
theorem Scr.mono {K : PySem.W.Frag} {H H' : Hp} {s : Addr} {ns : List Int} (t : TK H H') (h : Scr K H s ns) : Scr K H' s ns := by
  rcases h with ⟨o, h⟩ | h
  · exact .inl ⟨o, t.frz _ _ _ h⟩
  · exact .inr h
theorem Scr.of {K : PySem.W.Frag} {H : Hp} {s : Addr} {ns : List Int} (o : Only H) (h : SqL K H s (ns.map V.int)) : Scr K H s ns := by
  rcases h with (h | ⟨u, h⟩) | h
  · rcases o s with z | ⟨u, xs, z⟩ <;> (rw [h] at z; cases z)
  · exact .inl ⟨u, h⟩
  · exact .inr h
/-- row: the script, the place in it, the mixed number, the rest of a great cell -/
def Row (K : PySem.W.Frag) (H : Hp) (r : Addr) : Prop := ∃ (s : Addr) (ns : List Int) (i m c : Int), H r = some (.lst [.ref s, .int i, .int m, .int c]) ∧ Scr K H s ns ∧ 0 ≤ i ∧ 0 ≤ m ∧ m < 2147483647 ∧ 0 ≤ c
theorem Row.lst {K : PySem.W.Frag} {H : Hp} {r : Addr} (h : Row K H r) : ∃ xs, H r = some (.lst xs) := by
  obtain ⟨s, ns, i, m, c, e, _⟩ := h
  exact ⟨_, e⟩
theorem Row.keep {K : PySem.W.Frag} {H H' : Hp} {r : Addr} (h : Row K H r) (t : TK H H') (e : H' r = H r) : Row K H' r := by
  obtain ⟨s, ns, i, m, c, e0, hs, q⟩ := h
  exact ⟨s, ns, i, m, c, e.trans e0, hs.mono t, q⟩
theorem Row.same {K : PySem.W.Frag} {H H' : Hp} {r : Addr} (h : Row K H r) (s : Same H H') : Row K H' r := by
  obtain ⟨xs, e⟩ := h.lst
  exact h.keep (Same.tk s) ((s _ _ e).trans e.symm)
theorem Row.new {K : PySem.W.Frag} {H : Hp} {r p : Addr} {o : HO} (h : Row K H r) (n : H p = none) : Row K (upd H p o) r := h.same (Same.new n)
theorem Row.ne {K : PySem.W.Frag} {H : Hp} {r p : Addr} (h : Row K H r) (n : H p = none) : p ≠ r := by
  obtain ⟨xs, e⟩ := h.lst
  exact (ne_of_none e n).symm
/-- another list changes -/
theorem Row.put {K : PySem.W.Frag} {H : Hp} {r p : Addr} {xs : List V} {o : HO} (h : Row K H r) (e : H p = some (.lst xs)) (n : p ≠ r) : Row K (upd H p o) r := h.keep (TK.lst e) (upd_ne n.symm)
theorem KeepB.row {K : PySem.W.Frag} {H H' : Hp} {r : Addr} (k : KeepB r H H') (h : Row K H r) : TK H H' := by
  obtain ⟨xs, e⟩ := h.lst
  exact k.tk e
def spTaken (K : PySem.W.Frag) : Sp := fun vs H Q _ => ∃ (r : Addr) (many : Int), vs = [.ref r, .int many] ∧ Row K H r ∧ 0 < many ∧ many < 2 ^ 250 ∧ ∀ (v : Int) (H' : Hp), 0 ≤ v → v < many → Row K H' r → KeepB r H H' → Q (.int v) H'
section
variable {X : Cx}
theorem CallR.imp {f : Value} {r r' : List V → Hp → VK → Prop} (h : CallR X f r) (i : ∀ xs H Q, r' xs H Q → r xs H Q) : CallR X f r' := fun pins s σ H xs us Q I rv q => h pins s σ H xs us Q I rv (i _ _ _ q)
theorem call_int_i : CallR X (.type "int") (fun xs H Q => ∃ i, xs = [.int i] ∧ Q (.int i) H) := CallR.imp call_int1 fun _ _ _ h => .inl h
theorem call_len_l : CallR X (.builtin "len") (fun xs H Q => ∃ p ys, xs = [.ref p] ∧ SqL X.K H p ys ∧ Q (.int ys.length) H) := CallR.imp call_len_seq fun _ _ _ ⟨p, ys, e, h, q⟩ => ⟨p, ys, e, .inl h, q⟩
theorem call_len_t : CallR X (.builtin "len") (fun xs H Q => ∃ p ys, xs = [.ref p] ∧ SqT X.K H p ys ∧ Q (.int ys.length) H) := CallR.imp call_len_seq fun _ _ _ ⟨p, ys, e, h, q⟩ => ⟨p, ys, e, .inr h, q⟩
theorem call_tuple_l : CallR X (.type "tuple") (fun xs H Q => ∃ p ys, xs = [.ref p] ∧ SqL X.K H p ys ∧ ∀ l, H l = none → Q (.ref l) (upd H l (.tup ys))) := CallR.imp call_tuple_of fun _ _ _ ⟨p, ys, e, h, q⟩ => ⟨p, ys, e, .inl ⟨h, q⟩⟩
theorem call_tuple_t : CallR X (.type "tuple") (fun xs H Q => ∃ p ys, xs = [.ref p] ∧ SqT X.K H p ys ∧ Q (.ref p) H) := CallR.imp call_tuple_of fun _ _ _ ⟨p, ys, e, h, q⟩ => ⟨p, ys, e, .inr ⟨h, q⟩⟩
end
section
variable {X : Cx} {x : Str} {pos : Pos}
theorem pe_gint {i : Int} (hg : Gl X x) (hm : ∃ t, X.mg x = some (.int i t)) (hd : (x == ("__debug__" : Str)) = false := by decide) : PE X (.Name x pos) (tC (.int i)) := by
  obtain ⟨t, h⟩ := hm
  exact pe_glob hg h ⟨t, rfl⟩ hd
theorem pe_gstr {y : Str} (hg : Gl X x) (hm : ∃ t, X.mg x = some (.str y t)) (hd : (x == ("__debug__" : Str)) = false := by decide) : PE X (.Name x pos) (tC (.str y)) := by
  obtain ⟨t, h⟩ := hm
  exact pe_glob hg h ⟨t, rfl⟩ hd
theorem pe_ty (n : String) (hg : Gl X x) (hm : X.mg x = none) (hv : bootBuiltins x = some (.type n)) (hn : x ≠ "__name__" := by decide) (hd : (x == ("__debug__" : Str)) = false := by decide) : PE X (.Name x pos) (tC (.ty n)) := pe_bltn hg hm hv rfl hn hd
/-- isinstance against a built-in class -/
def rIsN (K : PySem.W.Frag) : List V → Hp → VK → Prop := fun xs H Q => ∃ (y : V) (n : String) (t : String) (b : Bool), xs = [y, .ty n] ∧ TyX K H y (.type t) ∧ kitB t n = some b ∧ Q (.bl b) H
theorem call_isN : CallR X (.builtin "isinstance") (rIsN X.K) := CallR.imp call_isi fun _ _ _ ⟨y, n, t, b, e, h, k, q⟩ => ⟨y, .ty n, .type t, .type n, b, e, .ty n, h, kit_ty k, q⟩
/-- against two of them -/
def kitB2 (t m n : String) : Option Bool := match kitB t m with
  | some true => some true
  | some false => kitB t n
  | none => none
def rIsT2 (K : PySem.W.Frag) : List V → Hp → VK → Prop := fun xs H Q => ∃ (y : V) (p : Addr) (m n : String) (t : String) (b : Bool), xs = [y, .ref p] ∧ H p = some (.tup [.ty m, .ty n]) ∧ TyX K H y (.type t) ∧ kitB2 t m n = some b ∧ Q (.bl b) H
theorem kit2 {K : PySem.W.Frag} {t m n : String} {b : Bool} (h : kitB2 t m n = some b) : PySem.W.kitAny K (.type t) [.type m, .type n] = some b := by
  unfold kitB2 at h
  split at h
  · rename_i e
    cases h
    exact kitAny_cons (kit_ty e) (fun z => by cases z) (fun _ => rfl)
  · rename_i e
    refine kitAny_cons (kit_ty e) (fun _ => ?_) (fun z => by cases z)
    exact kitAny_cons (b := b) (kit_ty h) (fun z => by rw [z]; exact kitAny_nil) (fun z => z)
  · cases h
theorem call_isT2 : CallR X (.builtin "isinstance") (rIsT2 X.K) := CallR.imp call_isiT fun _ _ _ ⟨y, p, m, n, t, b, e, hp, h, k, q⟩ => ⟨y, p, [.ty m, .ty n], .type t, [.type m, .type n], b, e, hp, .cons (.ty m) (.cons (.ty n) .nil), h, kit2 k, q⟩
/-- s.index(c), where it is found -/
def rIndexIn : L2.St → V → List V → Hp → VK → Prop := fun _ x xs H Q => ∃ (a b : Str) (k : Nat), x = .str a ∧ xs = [.str b] ∧ Txt.index0 a b = some k ∧ Q (.int (k : Nat)) H
theorem mt_indexIn (hc : X.calm = true) : MtS X "str.index" rIndexIn := fun pins s σ H x xs v us Q I rx rs ⟨a, b, k, e1, e2, e3, q⟩ =>
  mt_indexX hc takes0 pins s σ H x xs v us Q I rx rs ⟨a, b, e1, e2, fun k' h => by rw [e3] at h; cases h; exact q, fun h => by rw [e3] at h; cases h⟩
end
section
variable {K : PySem.W.Frag} {H : Hp}
theorem tyx_tup {a : Addr} {xs : List V} (h : SqT K H a xs) : TyX K H (.ref a) (.type "tuple") := by
  rcases h with (h | ⟨o, h⟩) | ⟨o, its, n, e, c, _⟩
  · exact .base (.tup h)
  · exact .fTuple h
  · exact .kTuple e c
theorem tyx_lst {a : Addr} {xs : List V} (h : SqL K H a xs) : TyX K H (.ref a) (.type "list") := by
  rcases h with (h | ⟨o, h⟩) | ⟨o, its, n, e, c, _⟩
  · exact .base (.lst h)
  · exact .base (.frz h)
  · exact .kList e c
theorem Tp.tupI {v : V} {ds : List PyData} (h : Tp K H v (.tuple ds)) : ∃ (a : Addr) (xs : List V), v = .ref a ∧ SqT K H a xs ∧ TpAll K H xs ds := by
  cases h with
  | tup hs ha => exact ⟨_, _, rfl, hs, ha⟩
theorem Tp.intI {v : V} {i : Int} (h : Tp K H v (.int i)) : v = .int i := by cases h; rfl
theorem Tp.nonI {v : V} (h : Tp K H v .none) : v = .non := by cases h; rfl
theorem Tp.strI {v : V} {x : Str} (h : Tp K H v (.str x)) : v = .str x := by cases h; rfl
theorem Tp.blI {v : V} {b : Bool} (h : Tp K H v (.bool b)) : v = .bl b := by cases h; rfl
theorem TpAll.consI {vs : List V} {d : PyData} {ds : List PyData} (h : TpAll K H vs (d :: ds)) : ∃ v ws, vs = v :: ws ∧ Tp K H v d ∧ TpAll K H ws ds := by
  cases h with
  | cons h1 h2 => exact ⟨_, _, rfl, h1, h2⟩
theorem TpAll.nilI {vs : List V} (h : TpAll K H vs []) : vs = [] := by cases h; rfl
/-- three numbers -/
theorem Tp.int3 {v : V} {i j k : Int} (h : Tp K H v (.tuple [.int i, .int j, .int k])) : ∃ a, v = .ref a ∧ SqT K H a [.int i, .int j, .int k] := by
  obtain ⟨a, xs, rfl, hs, h⟩ := h.tupI
  obtain ⟨x, _, rfl, h1, h⟩ := h.consI
  obtain ⟨y, _, rfl, h2, h⟩ := h.consI
  obtain ⟨z, _, rfl, h3, h⟩ := h.consI
  rw [h1.intI, h2.intI, h3.intI, h.nilI] at hs
  exact ⟨a, rfl, hs⟩
end
theorem at0 {α : Type} {v : α} {r : List α} : atI (v :: r) (0 : Int) = some v := atI_nat (j := 0) rfl
theorem at1 {α : Type} {u v : α} {r : List α} : atI (u :: v :: r) (1 : Int) = some v := atI_nat (j := 1) rfl
theorem at2 {α : Type} {t u v : α} {r : List α} : atI (t :: u :: v :: r) (2 : Int) = some v := atI_nat (j := 2) rfl
theorem at3 {α : Type} {s t u v : α} {r : List α} : atI (s :: t :: u :: v :: r) (3 : Int) = some v := atI_nat (j := 3) rfl
theorem small_le {n : Nat} (h : n ≤ 1000) : n ≤ sizeLine := Nat.le_of_lt (small1000 h)
/-! ### answers read -/
theorem ne_tr {a b : Int} (h : (!decide (V.int a = V.int b)) = true) : a ≠ b := fun e => by
  rw [e, decide_eq_true rfl] at h
  cases h
theorem ne_fl {a b : Int} (h : ¬ (!decide (V.int a = V.int b)) = true) : a = b := by
  by_cases e : a = b
  · exact e
  · exact absurd (by rw [decide_eq_false (fun z => e (V.int.inj z))]; rfl) h
theorem eq_tr {a b : Int} (h : decide (V.int a = V.int b) = true) : a = b := V.int.inj (of_decide_eq_true h)
theorem eq_fl {a b : Int} (h : ¬ decide (V.int a = V.int b) = true) : a ≠ b := fun e => h (decide_eq_true (by rw [e]))
theorem d_fl {p : Prop} [Decidable p] (h : ¬ decide p = true) : ¬ p := fun q => h (decide_eq_true q)
theorem nd_tr {p : Prop} [Decidable p] (h : (!decide p) = true) : ¬ p := fun q => by
  rw [decide_eq_true q] at h
  cases h
theorem nd_fl {p : Prop} [Decidable p] (h : ¬ (!decide p) = true) : p := by
  by_cases e : p
  · exact e
  · exact absurd (by rw [decide_eq_false e]; rfl) h
theorem nb_tr {b : Bool} (h : (!b) = true) : b = false := by cases b <;> simp_all
theorem nb_fl {b : Bool} (h : ¬ (!b) = true) : b = true := by cases b <;> simp_all
theorem take_more {α : Type} {l : List α} {i : Nat} {x : α} (h : l[i]? = some x) : l.take (i + 1) = l.take i ++ [x] := by
  rw [List.take_add_one, h]
  rfl
/-! ### the rules that speak of the written part, with its letter -/
section
variable {X : Cx} {K : PySem.W.Frag}
theorem k_len_l (hK : X.K = K := by rfl) : CallR X (.builtin "len") (fun xs H Q => ∃ p ys, xs = [.ref p] ∧ SqL K H p ys ∧ Q (.int ys.length) H) := hK ▸ call_len_l
theorem k_len_t (hK : X.K = K := by rfl) : CallR X (.builtin "len") (fun xs H Q => ∃ p ys, xs = [.ref p] ∧ SqT K H p ys ∧ Q (.int ys.length) H) := hK ▸ call_len_t
theorem k_tuple_l (hK : X.K = K := by rfl) : CallR X (.type "tuple") (fun xs H Q => ∃ p ys, xs = [.ref p] ∧ SqL K H p ys ∧ ∀ l, H l = none → Q (.ref l) (upd H l (.tup ys))) := hK ▸ call_tuple_l
theorem k_tuple_t (hK : X.K = K := by rfl) : CallR X (.type "tuple") (fun xs H Q => ∃ p ys, xs = [.ref p] ∧ SqT K H p ys ∧ Q (.ref p) H) := hK ▸ call_tuple_t
theorem k_isN (hK : X.K = K := by rfl) : CallR X (.builtin "isinstance") (rIsN K) := hK ▸ call_isN
theorem k_isT2 (hK : X.K = K := by rfl) : CallR X (.builtin "isinstance") (rIsT2 K) := hK ▸ call_isT2
theorem k_all (hc : X.calm = true) (hK : X.K = K := by rfl) : CallR X (.builtin "all") (rAll K) := hK ▸ cr_all hc
theorem k_any (hc : X.calm = true) (hK : X.K = K := by rfl) : CallR X (.builtin "any") (rAny K) := hK ▸ cr_any hc
theorem k_sum (hc : X.calm = true) (hK : X.K = K := by rfl) : CallR X (.builtin "sum") (rSum K) := hK ▸ cr_sum hc
theorem k_max (hc : X.calm = true) (hK : X.K = K := by rfl) : CallR X (.builtin "max") (rMax K) := hK ▸ cr_max hc
theorem k_min (hc : X.calm = true) (hK : X.K = K := by rfl) : CallR X (.builtin "min") (rMin K) := hK ▸ cr_min hc
theorem k_ix_list (hK : X.K = K := by rfl) : IxR X (rIxL K) := hK ▸ ix_list
theorem k_ix_tup (hK : X.K = K := by rfl) : IxR X (rIxT K) := hK ▸ ix_tup
theorem k_len_seq (hK : X.K = K := by rfl) : CallR X (.builtin "len") (fun xs H Q => ∃ p ys, xs = [.ref p] ∧ (SqL K H p ys ∨ SqT K H p ys) ∧ Q (.int ys.length) H) := hK ▸ call_len_seq
theorem IxR.imp {r r' : R2} (h : IxR X r) (i : ∀ x y H Q, r' x y H Q → r x y H Q) : IxR X r' := fun a b pins s σ H x y v u Q I rx ry q e => h a b pins s σ H x y v u Q I rx ry (i _ _ _ _ q) e
/-- an item of a list or of a tuple -/
def rIxA (K : PySem.W.Frag) : R2 := fun x y H Q => ∃ p xs i v, x = .ref p ∧ y = .int i ∧ (SqL K H p xs ∨ SqT K H p xs) ∧ atI xs i = some v ∧ Q v H
theorem k_ix_seq (hK : X.K = K := by rfl) : IxR X (rIxA K) := hK ▸ IxR.imp ix_seq fun x y H Q ⟨p, xs, i, v, e1, e2, h, a, q⟩ => by
  rcases h with h | h
  · exact .inl ⟨p, xs, i, v, e1, e2, h, a, q⟩
  · exact .inr (.inl ⟨p, xs, i, v, e1, e2, h, a, q⟩)
theorem k_sl_list (hK : X.K = K := by rfl) : SlR X (rSlL K) := hK ▸ sl_list
theorem k_sl_tup (hK : X.K = K := by rfl) : SlR X (rSlT K) := hK ▸ sl_tup
theorem k_catA (hK : X.K = K := by rfl) : OpR X (binaryOp .Add) (rCatA K) := hK ▸ op_catA
theorem k_eqD (hu : X.A.units + 64 < cLine) (hK : X.K = K := by rfl) : OpR X (compareOp .Eq) (rEqD K) := hK ▸ op_eqD hu
theorem k_neD (hu : X.A.units + 64 < cLine) (hK : X.K = K := by rfl) : OpR X (compareOp .NotEq) (rNeD K) := hK ▸ op_neD hu
theorem k_pi_list {tg l : Expr} {tl : TE} (hl : PE X l tl) (hK : X.K = K := by rfl) : PI X tg l (iList K tl) := hK ▸ pi_list hl
theorem k_pi_tup {tg l : Expr} {tl : TE} (hl : PE X l tl) (hK : X.K = K := by rfl) : PI X tg l (iTup K tl) := hK ▸ pi_tup hl
theorem k_mt_join (hK : X.K = K := by rfl) : MtR X "str.join" (fun x xs H Q => ∃ a p, ∃ ys : List Str, x = .str a ∧ xs = [.ref p] ∧ (SqL K H p (ys.map V.str) ∨ SqT K H p (ys.map V.str)) ∧ (ys.map (·.length)).sum + ys.length * a.length ≤ 16777216 ∧ Q (.str (Txt.join a ys)) H) := hK ▸ mt_join
end
/-! ### own errors -/
/-- what the written part says of an error's class -/
structure ExcCls (K : PySem.W.Frag) (mg : Str → Option Value) (x : Str) (C : Addr) : Prop where
  gC : mg x = some (.ref C)
  oex : OexC K C
  xf : XfC K C
  ha : PySem.W.findIn K (.ref C) "__class__" = some (some (.builtin "object.__class__"))
  hn : PySem.W.specialIn K (.builtin "object.__class__") "__get__" = some (some (.builtin "getset_descriptor.__get__"))
  ht : PySem.W.takesIn K (.builtin "object.__class__") = some true
  hm : PySem.W.mroIn K C (.type "object") = some true
/-- the error's own dict -/
def DOk (d : Option Addr) (H : Hp) : Prop := d = none ∨ ∃ dd fs, d = some dd ∧ H dd = some (.xd fs)
section
variable {X : Cx} {a : Addr} {oe : Obj} {cls : Value} {d : Option Addr} {pn : List (Addr × Obj)}
def rIsEd (K : PySem.W.Frag) (mg : Str → Option Value) (a : Addr) (cls : Value) (d : Option Addr) : List V → Hp → VK → Prop := fun xs H Q => ∃ (C D : Addr) (x : Str) (b : Bool), xs = [.ref a, .ref D] ∧ cls = .ref C ∧ ExcCls K mg x C ∧ DOk d H ∧ PySem.W.kitOne K (.ref C) (.ref D) = some b ∧ Q (.bl b) H
theorem oex_cls {K : PySem.W.Frag} {C : Addr} (T : OexC K C) : (PySem.W.clsIn K C).isSome = true := by
  obtain ⟨nm, q, N, bs, bm, sn, sub, ab, col, dd, k0, k1, k2, k3, k5, hC, hbm⟩ := T.cls
  unfold PySem.W.clsIn
  rw [hC] <;> rfl
theorem inst_exc {pins : List (Addr × Obj)} {σ : L2.St} {H : Hp} {s : Shared} {C : Addr} (I : Inv (X.suite a ((a, oe) :: pn)) pins σ H s) (hz : Zc (.ref C) d oe) (hf : ∃ vs, oe.data = .fields vs) (hd : DOk d H) : ∃ od, PySem.W.InstAt s.heap a oe C od := by
  obtain ⟨hget, _⟩ := I.pin (a, oe) (List.mem_append_left _ List.mem_cons_self)
  obtain ⟨vs, hv⟩ := hf
  rcases hd with rfl | ⟨dd, fs, rfl, ea⟩
  · exact ⟨none, hget, hz.1, by unfold PySem.W.notCls; rw [hv] <;> rfl, by rw [hz.2]; trivial⟩
  · have hx : ObjOk X.prog X.w H s.heap dd (.xd fs) := I.hok dd _ ea
    obtain ⟨mA, hns, hr⟩ := hx
    obtain ⟨od, ho, hl⟩ := lookIn_ns hns
    exact ⟨some od, hget, hz.1, by unfold PySem.W.notCls; rw [hv] <;> rfl, by rw [hz.2]; exact ho⟩
theorem call_isEd (hz : Zc cls d oe) (hf : ∃ vs, oe.data = .fields vs) : CallR (X.suite a ((a, oe) :: pn)) (.builtin "isinstance") (rIsEd X.K X.mg a cls d) := by
  intro pins s σ H xs us Q I r h
  obtain ⟨C, D, x, b, rfl, rfl, T, hd, e, q⟩ := h
  obtain ⟨od, J⟩ := inst_exc I hz hf hd
  cases r with
  | cons rx rr =>
    cases rr with
    | cons rt rr =>
      cases rr
      cases rx
      cases rt
      exact PySem.W.kia_one (PySem.W.kitx_exc (oex_cls T.oex) T.xf.ga T.xf.gg T.xf.exC T.ha T.hn T.ht T.hm) I.kIn J e (fun z => nomatch z) fun tk => ⟨.bl b, H, I.tok tk, rfl, q⟩
end
/-! ### an error with one field, made by its __init__ -/
def spInit1 (K : PySem.W.Frag) (C : Addr) (f : Str) : Sp := fun vs H Q _ => ∃ (a : Addr) (y : V), vs = [.ref a, y] ∧ H a = some (exo a C none) ∧ ∀ dx, H dx = none → dx ≠ a → Q .non (upd (upd H dx (exd dx [(f, y)])) a (exo a C (some dx)))
/-- the __init__ of the class at C stands -/
structure ExcInit1 (P : Program) (w : World) (K : PySem.W.Frag) (mg : Str → Option Value) (base : Heap) (C : Addr) (f : Str) : Prop where
  no : PySem.W.findIn K (.ref C) f = some none
  init : ∃ (fI : Addr) (fd : FuncData) (ps : List Str), PySem.W.findIn K (.ref C) "__init__" = some (some (.ref fI)) ∧ PySem.W.typeIn K (.ref fI) = some (.type "function") ∧ FnOk P w K mg base CX0 1 fI fd ps (spInit1 K C f) ∧ Binds K fd ps []
theorem raise1 {K : PySem.W.Frag} {C : Addr} {f : Str} {H1 : Hp} {y : V} {Q : XK} (q : ∀ d H', H1 d = none → Same H1 H' → H' d = some (.xd [(f, y)]) → Q (.ref C) (some d) H') :
    ∀ a, H1 a = none → spInit1 K C f (.ref a :: ([y] ++ [])) (upd H1 a (exo a C none)) (fun v H2 => v = .non ∧ ∃ (d : Addr) (fs : List (Str × V)), H2 a = some (exo a C (some d)) ∧ H2 d = some (exd d fs) ∧ H1 d = none ∧ Q (.ref C) (some d) (upd (del H2 a) d (.xd fs))) (fun _ _ _ => False) := fun a na => by
  refine ⟨a, y, rfl, upd_same, fun dx nx ne => ⟨rfl, dx, [(f, y)], upd_same, ?_, ?_, ?_⟩⟩
  · rw [upd_ne ne, upd_same]
  · rw [upd_ne ne] at nx
    exact nx
  · have nx1 : H1 dx = none := by
      rw [upd_ne ne] at nx
      exact nx
    refine q dx _ nx1 (fun b o hb => ?_) upd_same
    have h1 : b ≠ dx := ne_of_none hb nx1
    have h2 : b ≠ a := ne_of_none hb na
    rw [upd_ne h1, del_ne h2, upd_ne h2, upd_ne h1, upd_ne h2]
    exact hb
section
variable {X : Cx} {C : Addr} {f x : Str} {W : WX} {ta : TA} {e : Expr} {p pos pos2 : Pos} {k : Nat}
theorem ps_raise1 (hc : X.calm = true) (tk : Takes X W) (T : ExcCls X.K X.mg x C) (F : ExcInit1 X.prog X.w X.K X.mg X.base C f) (hr : Room k X.A) (hk : 2 ≤ k) (ha : PA X [e] ta) (hg : Gl X x := by rfl) (hdb : (x == ("__debug__" : Str)) = false := by decide)
    (he : starEach (e :: []) X.env = (false, eval e X.env) :: starEach [] X.env := by rfl) (hpl : (backTo pos (starEach [] X.env)).any (·.1) = false := by rfl) :
    PS X (.Raise (some (.Call (.Name x p) [e] [] pos)) none pos2) (fun _ σ H => tMkO C (spInit1 X.K C f) [] ta σ H fun cls d H' => W cls d σ H') := by
  obtain ⟨fI, fd, ps, iC, tI, F1, hb⟩ := F.init
  exact ps_raise hc tk (pmk_oex (dvs := []) T.oex iC tI F1 (hr.mono hk) hb .nil pass0 hg T.gC ha hdb he hpl)
end
/-! ### defs that may raise -/
section
variable {P : Program} {w : World} {K : PySem.W.Frag} {mg : Str → Option Value} {base : Heap}
theorem DefAt.calX {x : Str} {st : Stmt} {N ps : List Str} {k : Nat} {sp : Sp} (D : DefAt K mg x st ps) (S : FnScope N ps (defScope st)) (len : ∀ vs H Q E, sp vs H Q E → vs.length = ps.length)
    (hbody : ∀ (f : Addr) (cdv : Value) (A : Around) (outer : List Env) (s : Shared) (H : Hp) (vs : List V) (Q : VK) (E : XK), Room k (A.deeper (envOfC x (defScope st) s.heap.objs.size f cdv)) → sp vs H Q E →
      ∃ t, PSs (cxOf (L2.CX P w) P w K mg base N x (defScope st) f cdv A outer s H E) (defBody st) t ∧ t { nx := fun _ H' => Q .non H', rt := Q } (start N vs) H) : Cal P w K mg base (L2.CX P w) x (k + 1) ps sp := by
  obtain ⟨f, fd, F, m, b⟩ := D.ex
  exact ⟨f, fd, F.okX S len (hbody f), m, F.kp, b⟩
end
section
variable {X : Cx} {k j : Nat} {ps : List Str} {sp : Sp} {x : Str} {p pos : Pos} {e : Expr} {es : List Expr} {t : TA} {W : WX}
/-- a call of a def that may raise: what it lets out is wished for here -/
theorem pe_ownS (C : Cal X.prog X.w X.K X.mg X.base (L2.CX X.prog X.w) x k ps sp) (tk : Takes X W) (hr : Room j X.A) (hk : k ≤ j) (ha : PA X (e :: es) t) (hg : Gl X x := by rfl) (hdb : (x == ("__debug__" : Str)) = false := by decide)
    (he : starEach (e :: es) X.env = (false, eval e X.env) :: starEach es X.env := by rfl) (hpl : (backTo pos (starEach es X.env)).any (·.1) = false := by rfl) : PE X (.Call (.Name x p) (e :: es) [] pos) (tCallS sp (WE W) t) := by
  obtain ⟨f, fd, F, m, kp, b⟩ := C.ex
  exact pe_callS F (hr.mono hk) hg m kp b (fun σ => passAt tk σ) ha hdb he hpl
end
section
variable {X : Cx} {k j : Nat} {ps : List Str} {sp : Sp} {x : Str} {p pos : Pos} {e : Expr} {es : List Expr} {t : TA}
/-- a call of such a def where it raises nothing -/
theorem pe_ownL (C : Cal X.prog X.w X.K X.mg X.base (L2.CX X.prog X.w) x k ps sp) (hr : Room j X.A) (hk : k ≤ j) (ha : PA X (e :: es) t) (hg : Gl X x := by rfl) (hdb : (x == ("__debug__" : Str)) = false := by decide)
    (he : starEach (e :: es) X.env = (false, eval e X.env) :: starEach es X.env := by rfl) (hpl : (backTo pos (starEach es X.env)).any (·.1) = false := by rfl) : PE X (.Call (.Name x p) (e :: es) [] pos) (tCall sp [] E0 t) := by
  obtain ⟨f, fd, F, m, kp, b⟩ := C.ex
  exact pe_call F (hr.mono hk) hg m kp b .nil passL ha hdb he hpl
end
/-! ### one step at a time -/
theorem asg_lst {t : TA} {g : TG} {D : Ends} {σ : L2.St} {H : Hp} (h : t σ H (fun xs H1 => xs.length ≤ sizeLine ∧ ∀ p, H1 p = none → g (.ref p) σ (upd H1 p (.lst xs)) D.nx)) : tAsg (tLst t) g D σ H := h
theorem asg_op {r : R2} {i : Nat} {v : V} {t : TA} {g : TG} {D : Ends} {σ : L2.St} {H : Hp} (e : σ[i]? = some (some v)) (h : t σ H (fun xs H1 => xs.length ≤ sizeLine ∧ ∀ p, H1 p = none → r v (.ref p) (upd H1 p (.lst xs)) fun z H3 => g z σ H3 D.nx)) : tAsg (tOp r (tVar i) (tLst t)) g D σ H := ⟨v, e, h⟩
theorem seq_of {t u : TS} {D : Ends} {σ : L2.St} {H : Hp} (h : t { D with nx := u D } σ H) : tSeq t u D σ H := h
theorem next_of {D : Ends} {σ : L2.St} {H : Hp} (h : D.nx σ H) : tNext D σ H := h
theorem if_not {A B : Prop} (h : B) : if (!true) = true then A else B := h
/-! ### lists of pairs, a text and a number -/
/-- an expression that gives the text s, laying things at most -/
def Evs (ta : TE) (s : Str) : Prop := ∀ σ H (Q : VK), (∀ H', Same H H' → Q (.str s) H') → ta σ H Q
theorem evs_c {s : Str} : Evs (tC (.str s)) s := fun σ H Q q => q H (Same.refl H)
def tPairs : List (TE × V) → TA
  | [] => tNil
  | p :: r => tCons (tTup (tCons p.1 (tCons (tC p.2) tNil))) (tPairs r)
abbrev PairsAt (H : Hp) : List Addr → List (Str × V) → Prop := Paired fun a q => H a = some (.tup [.str q.1, q.2])
theorem PairsAt.same {H H' : Hp} (s : Same H H') : ∀ {as : List Addr} {qs : List (Str × V)}, PairsAt H as qs → PairsAt H' as qs
  | _, _, .nil => .nil
  | _, _, .cons h r => .cons (s _ _ h) (PairsAt.same s r)
theorem PairsAt.app {H : Hp} : ∀ {as bs : List Addr} {qs rs : List (Str × V)}, PairsAt H as qs → PairsAt H bs rs → PairsAt H (as ++ bs) (qs ++ rs)
  | _, _, _, _, .nil, h => h
  | _, _, _, _, .cons h r, h' => .cons h (PairsAt.app r h')
theorem PairsAt.get {H : Hp} : ∀ {as : List Addr} {qs : List (Str × V)} {i : Nat} {a : Addr}, PairsAt H as qs → as[i]? = some a → ∃ q, qs[i]? = some q ∧ H a = some (.tup [.str q.1, q.2])
  | _, _, _, _, .nil, e => by simp at e
  | _, _, 0, _, .cons h r, e => by
    have e := Option.some.inj e
    subst e
    exact ⟨_, rfl, h⟩
  | _, _, i + 1, _, .cons h r, e => PairsAt.get (i := i) r e
theorem pairs_run : ∀ {ps : List (TE × V)} {qs : List (Str × V)}, Paired (fun p q => Evs p.1 q.1 ∧ p.2 = q.2) ps qs → ∀ (σ : L2.St) (H : Hp) (Q : List V → Hp → Prop), (∀ as H', Same H H' → PairsAt H' as qs → Q (as.map V.ref) H') → tPairs ps σ H Q
  | _, _, .nil, σ, H, Q, q => q [] H (Same.refl H) .nil
  | _, _, @Paired.cons _ _ _ p w ps qs h r, σ, H, Q, q => by
    obtain ⟨h1, h2⟩ := h
    refine h1 σ H _ fun H1 s1 => ?_
    refine ⟨Nat.le_of_ble_eq_true rfl, fun a na => ?_⟩
    refine pairs_run r σ _ _ fun as H2 s2 hp => ?_
    refine q (a :: as) H2 (Same.trans (Same.trans s1 (Same.new na)) s2) (.cons ?_ hp)
    rw [← h2]
    exact s2 _ _ upd_same
theorem rows_first {ps : List (TE × V)} {qs : List (Str × V)} {i : Nat} {D : Ends} {σ : L2.St} {H : Hp} (hp : Paired (fun p q => Evs p.1 q.1 ∧ p.2 = q.2) ps qs) (hl : qs.length ≤ 1000)
    (k : ∀ (as : List Addr) (R : Addr) (H' : Hp), Same H H' → PairsAt H' as qs → H' R = some (.lst (as.map V.ref)) → as.length = qs.length → D.nx (σ.set i (some (.ref R))) H') : tAsg (tLst (tPairs ps)) (gName i) D σ H := by
  refine pairs_run hp σ H _ fun as H1 s1 pa => ?_
  have la : as.length = qs.length := Paired.length pa
  refine ⟨small_le (by rw [List.length_map]; omega), fun R nR => ?_⟩
  exact k as R _ (Same.trans s1 (Same.new nR)) (PairsAt.same (Same.new nR) pa) upd_same la
theorem rows_step {ps : List (TE × V)} {qs qs' : List (Str × V)} {i : Nat} {D : Ends} {σ : L2.St} {H : Hp} {R : Addr} {as : List Addr} (hp : Paired (fun p q => Evs p.1 q.1 ∧ p.2 = q.2) ps qs') (hR : H R = some (.lst (as.map V.ref))) (pa : PairsAt H as qs)
    (hs : σ[i]? = some (some (.ref R))) (hl : as.length + qs'.length ≤ 1000)
    (k : ∀ (as' : List Addr) (R' : Addr) (H' : Hp), Same H H' → PairsAt H' as' (qs ++ qs') → H' R' = some (.lst (as'.map V.ref)) → as'.length = as.length + qs'.length → D.nx (σ.set i (some (.ref R'))) H') : tAsg (tOp rCat (tVar i) (tLst (tPairs ps))) (gName i) D σ H := by
  refine ⟨_, hs, pairs_run hp σ H _ fun bs H1 s1 pb => ?_⟩
  have lb : bs.length = qs'.length := Paired.length pb
  refine ⟨small_le (by rw [List.length_map]; omega), fun B nB => ?_⟩
  refine ⟨R, B, as.map V.ref, bs.map V.ref, rfl, rfl, Same.new nB _ _ (s1 _ _ hR), upd_same, small_le (by rw [List.length_map, List.length_map]; omega), fun R' nR' => ?_⟩
  have s2 : Same H1 (upd (upd H1 B (.lst (bs.map V.ref))) R' (.lst (as.map V.ref ++ bs.map V.ref))) := Same.trans (Same.new nB) (Same.new nR')
  refine k (as ++ bs) R' _ (Same.trans s1 s2) (PairsAt.app (PairsAt.same (Same.trans s1 s2) pa) (PairsAt.same s2 pb)) (by rw [upd_same, List.map_append]) (by rw [List.length_append, lb])
/-! ### __init__: self.f = f -/
/-- the class's __init__, as it stands -/
structure MetAt (K : PySem.W.Frag) (C : Addr) (m qual : Str) (st : Stmt) (ps : List Str) : Prop where
  ex : ∃ (f : Addr) (fd : FuncData), PySem.W.findIn K (.ref C) m = some (some (.ref f)) ∧ PySem.W.typeIn K (.ref f) = some (.type "function") ∧ Fun K m qual st f fd ∧ Binds K fd ps []
/-! ### enumerate over a tuple -/
theorem enNewB {v : Value} {ob : Obj} {Hh : Heap → Prop} (B : Begins v ob Hh) :
    Meets (Builtin.«enumerate.__new__» ⟨[.type "enumerate", v], []⟩) (fun _ R z => Hh z.heap ∧
      R (.ok (.ret (.ref (z.heap.push ob).objs.size))) { z with heap := (z.heap.push ob).push { cls := .type "enumerate", data := .fields #[.none, .bool false, .ref z.heap.objs.size, rawInt 0, .none, .none] } }) :=
  .of_wp fun prog w A R z hz => by
    obtain ⟨hp, gs, dr, tk, os⟩ := z
    obtain ⟨hB, fin⟩ := hz
    have hsub := sub_enumerate
    have begin1 : ∀ {A' : Around} {E : Value → Shared → Prop} {Q : Value → Shared → Prop}, Q (.ref hp.objs.size) ⟨hp.push ob, gs, dr, tk, os⟩ → wpAny (model prog w) A' (pyIter v) Q E ⟨hp, gs, dr, tk, os⟩ :=
      fun q => B.iter prog w _ _ ⟨hp, gs, dr, tk, os⟩ _ hB q
    wp_walk using begin1
    refine wpAny_stack_any fun _ => wpAny_pure ?_
    split
    · rename_i c _ _ _ _ _
      cases (c == Value.type "enumerate") <;> (wp_walk using begin1; exact ⟨_, rfl, fin⟩)
    · wp_walk using begin1
      exact ⟨_, rfl, fin⟩
theorem enCallB {prog : Program} {w : World} {A : Around} {E : Value → Shared → Prop} {z : Shared} {v : Value} {ob : Obj} {Hh : Heap → Prop} {Q : Value → Shared → Prop} (B : Begins v ob Hh) (hB : Hh z.heap)
    (fin : ∀ h', IsEnum h' (z.heap.objs.size + 1) z.heap.objs.size 0 .none → h'.get? z.heap.objs.size = some ob →
      (∀ b o, z.heap.get? b = some o → h'.get? b = some o) → Q (.ref (z.heap.objs.size + 1)) { z with heap := h' }) :
    wpAny (model prog w) A (call (.type "enumerate") [v]) Q E z := by
  refine callType_new F.called_enumerate (by decide) (F.typeCall_enumerate_1 _) (F.newCall_enumerate_1 _) (fun obj => F.args_object_init_2 obj _) F.entry_enumerate_new (enNewB B) ⟨hB, ?_⟩
  have sz : (z.heap.push ob).objs.size = z.heap.objs.size + 1 := Heap.size_push ..
  have top := Heap.get?_push_size (z.heap.push ob) (o := { cls := .type "enumerate", data := .fields #[.none, .bool false, .ref z.heap.objs.size, rawInt 0, .none, .none] }) rfl
  rw [sz] at top
  show _ ∧ _
  rw [sz]
  exact ⟨⟨_, top, rfl⟩, fin _ top (Heap.get?_push_of_some _ (Heap.get?_push_size _ B.free)) fun b o x => Heap.get?_push_of_some _ (Heap.get?_push_of_some _ x)⟩

/-- the tuple at a, each item with its count in a pair of its own -/
def ItEn (K : PySem.W.Frag) (a : Addr) : It where
  go i H := ∃ (xs : List V) (x : V), SqT K H a xs ∧ xs[i]? = some x
  yld i H v H' := ∃ T x, v = .ref T ∧ H T = none ∧ H' = upd H T (.tup [.int (i : Nat), x]) ∧ ∀ xs, SqT K H a xs → xs[i]? = some x
  stop i H := ∃ xs : List V, SqT K H a xs ∧ xs.length ≤ i
theorem turnEn {P : Program} {w : World} {K : PySem.W.Frag} {elts : List Expr} {kk : Nat} {tpos : Pos} (a e it : Addr) :
    Turn P w K (.Tuple elts kk tpos) (ItEn K a) [e, it] e (fun i h => (∃ old, IsEnum h e it ((i : Nat) : Int) old) ∧ h.IsTupleIter it a i ∧ e ≠ it) where
  mem := List.mem_cons_self
  obj i h st b hb := by
    obtain ⟨⟨old, he⟩, ⟨o, ho, hc, hd⟩, _⟩ := st
    rcases List.mem_cons.mp hb with rfl | hb
    · exact ⟨_, he, fun v q => nomatch q⟩
    · cases List.mem_singleton.mp hb
      exact ⟨o, ho, fun v q => by rw [hd] at q; cases q⟩
  keep i h h' st k := by
    obtain ⟨⟨old, he⟩, hi, hne⟩ := st
    exact ⟨⟨old, k e List.mem_cons_self _ he⟩, hi.at fun o q => k it (List.mem_cons_of_mem _ List.mem_cons_self) o q, hne⟩
  item := by
    intro X hP hw hK hc i pins s σ H E I hf st hg
    subst hP hw hK
    obtain ⟨⟨old, he⟩, hit, hne⟩ := st
    obtain ⟨xs, x, hq, hx⟩ := hg
    obtain ⟨its, rv, p, hz⟩ := I.tuple hq
    obtain ⟨u, hu, ru⟩ := rv.get hx
    have ht : s.heap.IsTuple a its.toArray := p
    have tof : it ∈ [e, it] := List.mem_cons_of_mem _ List.mem_cons_self
    have le : e < s.heap.objs.size := Heap.lt_size he
    have li : it < s.heap.objs.size := by obtain ⟨_, q, _⟩ := hit; exact Heap.lt_size q
    have ane : a ≠ it := fun z => by
      obtain ⟨o1, g1, c1, _⟩ := hit
      obtain ⟨o2, g2, c2, _⟩ := ht
      rw [z, g1] at g2
      cases g2
      rw [c1] at c2
      exact absurd c2 (by decide)
    have ane2 : a ≠ e := fun z => by
      obtain ⟨o2, g2, c2, _⟩ := ht
      rw [z, he] at g2
      cases g2
      exact absurd (show Value.type "enumerate" = Value.type "tuple" from c2) (by decide)
    have D := Draws.tuple (prog := X.prog) (w := X.w) (A := X.A.in1) (I.ok.hd hc) it a ane its.toArray
    have hlt : i < its.toArray.size := by
      rw [List.size_toArray]
      exact (List.getElem?_eq_some_iff.mp hu).1
    refine wpAny_pyNext_enum_itemD D he ⟨hit, ht⟩ hlt hne (fun z => ?_) fun u2 h' tk hP ho st' hT hsz hk => ?_
    · rcases List.mem_cons.mp z with z | z
      · exact hne z
      · exact ane2 (List.mem_singleton.mp z).symm
    have eu : u2 = u := by
      have q : its.toArray[i]? = some u2 := hP
      rw [List.getElem?_toArray, hu] at q
      exact (Option.some.inj q).symm
    subst eu
    refine ⟨_, rfl, wpAny_letOwnedTupleGo_enum (s := { s with heap := h', toks := tk + 1 }) ho fun h2 he2 sb => ?_⟩
    have gT : h2.get? s.heap.objs.size = some { cls := .type "tuple", data := .seq #[.int i tk, u2] } := (sb.2 _ (Nat.ne_of_gt le)).trans hT
    have okT : ObjOk X.prog X.w (upd H s.heap.objs.size (.tup [.int (i : Nat), x])) h2 s.heap.objs.size (.tup [.int (i : Nat), x]) :=
      ⟨by show 2 ≤ sizeLine; decide, [.int i tk, u2], .cons ⟨_, rfl⟩ (.cons ru .nil), ⟨_, gT, rfl, _, rfl⟩⟩
    have J : Inv X pins σ (upd H s.heap.objs.size (.tup [.int (i : Nat), x])) { s with heap := h2, toks := tk + 1 } := by
      refine I.turnedNew (ch := [e, it]) (fun b ob hb q => ?_) hf (Nat.le_refl _) okT
      have b1 : b ≠ e := fun z => hb (z ▸ List.mem_cons_self)
      have b2 : b ≠ it := fun z => hb (z ▸ tof)
      exact (sb.2 b b1).trans (hk b ob b1 b2 q)
    refine ⟨.ref s.heap.objs.size, _, J, rfl, ⟨_, x, rfl, I.hok.fresh (Nat.le_refl _), rfl, fun ys hy => ?_⟩, ⟨⟨u2, ?_⟩, st'.1.at fun o q => (sb.2 it (Ne.symm hne)).trans q, hne⟩, fun b hb => ?_⟩
    · rw [I.tuple_inj hy hq]
      exact hx
    · have e1 : ((i + 1 : Nat) : Int) = (i : Int) + 1 := Int.natCast_succ i
      rw [e1]
      exact he2
    · have lb : b < s.heap.objs.size := by
        rcases List.mem_cons.mp hb with z | z
        · exact z ▸ le
        · exact List.mem_singleton.mp z ▸ li
      rw [upd_ne (Nat.ne_of_lt lb)]
      exact (hf b hb).1
  done := by
    intro X hP hw hK hc i pins s σ H E I hf st hg
    subst hP hw hK
    obtain ⟨⟨old, he⟩, hit, hne⟩ := st
    obtain ⟨xs, hq, hx⟩ := hg
    obtain ⟨its, rv, p, hz⟩ := I.tuple hq
    have ht : s.heap.IsTuple a its.toArray := p
    have fit := hf it (List.mem_cons_of_mem _ List.mem_cons_self)
    have hT : s.TypeIs (.ref e) "enumerate" := ⟨_, he, rfl⟩
    have none1 : its.toArray[i]? = none := by
      have := rv.length
      rw [List.getElem?_toArray]
      exact List.getElem?_eq_none (by omega)
    unfold pyNext
    refine wpAny_bind (wpAny_attempt (wpAny_callSpecial?_slot (name := Str.ofString "__next__") hT F.slot_enumerate_next (wpAny_call_entry F.slot_enumerate_next hT F.entry_enumerate_next ?_ (F.args_enumerate_next_1 _))))
    show wpAny _ _ (field (.ref e) 2 >>= _) _ _ _
    refine wpAny_bind (wpAny_field he rfl (x := .ref it) rfl ?_)
    refine wpAny_bind (wpAny_nextOf_tuple_end (I.ok.hd hc) hit ht none1 fun h2 x2 eb ⟨ox, hox, hcx⟩ => ?_)
    refine wpAny_bind (wpAny_isInstance (T := "StopIteration") (b := true) ⟨ox, hox, hcx⟩ isSubtype_stop ?_)
    exact wpAny_pure ⟨rfl, I.turned (t' := s.toks) (fun b o hb q => eb b o hb q) fit.1 fit.2.1 fit.2.2.2.1 fit.2.2.2.2.1 fit.2.2.2.2.2⟩
  self A i s Q E st h := let ⟨⟨_, he⟩, _⟩ := st; wpAny_pyIter_enum he h
def iEnT (K : PySem.W.Frag) (ta : TA) : TI := fun σ H R => ta σ H fun vs H1 => ∃ a xs, vs = [.ref a] ∧ SqT K H1 a xs ∧ R (ItEn K a) H1
theorem pi_enT {X : Cx} {e : Expr} {ta : TA} {p pos tpos : Pos} {elts : List Expr} {kk : Nat} (hg : Gl X "enumerate") (hm : X.mg "enumerate" = none) (ha : PA X [e] ta) (hs : starEach [e] X.env = [(false, eval e X.env)] := by rfl) :
    PI X (.Tuple elts kk tpos) (.Call (.Name "enumerate" p) [e] [] pos) (iEnT X.K ta) := by
  refine ⟨fun pins s σ H R I h => ?_⟩
  refine Call_ (ld_blt I hg hm boot_enumerate (PyProof.Rows.callWith_type1 (thn (ha.run pos pins s σ H _ I h) fun us s1 ⟨vs, H1, I1, r1, q1⟩ => ?_) hs rfl))
  obtain ⟨a, xs, rfl, hq, q⟩ := q1
  obtain ⟨u, rfl, ru⟩ := vals1 r1
  obtain rfl : u = Value.ref a := ru
  obtain ⟨its, rv, p', hz⟩ := I1.tuple hq
  refine enCallB (begins_tuple a its.toArray) p' fun h' he hit hk => wpAny_pyIter_enum he ?_
  have I2 : Inv X pins σ H1 { s1 with heap := h' } := I1.kept (t' := s1.toks) hk
  refine ⟨s1.heap.objs.size + 1, [s1.heap.objs.size + 1, s1.heap.objs.size], _, _, H1, rfl, I2, turnEn a (s1.heap.objs.size + 1) s1.heap.objs.size, ⟨⟨.none, he⟩, ⟨_, hit, rfl, rfl⟩, Nat.succ_ne_self _⟩, fun b hb => ?_, q⟩
  have up : s1.heap.objs.size ≤ b := by
    rcases List.mem_cons.mp hb with z | z
    · rw [z]
      exact Nat.le_succ _
    · rw [List.mem_singleton.mp z]
      exact Nat.le_refl _
  exact I1.fpOk up (I1.hok.fresh up)
theorem walkEn {K : PySem.W.Frag} {a : Addr} {xs : List V} : Walk (ItEn K a) xs.length (fun H => SqT K H a xs) (YPair (fun i => some (.int (i : Nat))) (fun i => xs[i]?)) where
  goes i _ hi q := ⟨xs, xs[i], q, List.getElem?_eq_getElem hi⟩
  stops _ q := ⟨xs, q, Nat.le_refl _⟩
  yields i H v H' _ q y := by
    obtain ⟨T, x, h1, h2, h3, h4⟩ := y
    exact ⟨T, .int (i : Nat), x, h1, h2, h3, rfl, h4 xs q⟩
/-! ### a dict whose keys are tuples, made by a comprehension -/
theorem dsetT {X : Cx} {pins : List (Addr × Obj)} {σ : L2.St} {H : Hp} {z : Shared} {E : Value → Shared → Prop} {D b : Addr} {kvs : List (List Key × V)} {k : List Key} {v : V} {r : Value} {Q : Unit → Shared → Prop}
    (room : X.A.units < cLine) (I : Inv X pins σ H z) (hD : H D = some (.dT kvs)) (hb : H b = some (.tup (k.map kV))) (lt : kvs.length < sizeLine) (rv : RelV v r)
    (fin : ∀ z', Inv X pins σ (upd H D (.dT (putK kvs k v))) z' → Q () z') : wpAny (model X.prog X.w) X.A (dictSet D (.ref b) r) Q E z := by
  obtain ⟨_, hs, xs, kt, dd⟩ := dt_of I.hok hD
  have small : xs.length ≤ sizeLine := by
    rw [← Paired.length kt]
    omega
  have grown : (putK kvs k v).length ≤ sizeLine := by
    have := length_putK kvs k v
    omega
  refine wpAny_dictSet_heap (hsz := small) room (key_of I.hok hb) dd fun h2 d2 sb => fin _ ?_
  obtain ⟨o2, es, ep, g2, c2, t2, e2, _, n2⟩ := d2
  refine d_write I (by rw [hD]; trivial) sb ⟨o2, g2⟩ ⟨grown, hs, _, (kt.put k hb rv).keeps fun c ys ec => ?_, o2, es, ep, g2, c2, t2, e2, n2⟩
  exact (upd_ne (ne_of ec hD (fun z => nomatch z))).trans ec
def tDcT (wi : TI) (g : TG) (tk tv : TE) (own : List Nat) : TE := fun σ H Q => wi σ H fun J H1 => ∀ D, H1 D = none → ∃ W : Nat → Nat → Hp → Prop, (∃ m, W 0 m (upd H1 D (.dT []))) ∧ ∀ i m H, W i m H →
  (J.stop i H ∧ Q (.ref D) H) ∨ (J.go i H ∧ ∃ Nx : Hp → Prop, (∀ H', Nx H' → ∃ m', m' < m ∧ W (i + 1) m' H') ∧ ∀ x H', J.yld i H x H' → g x (wipe σ own) H' fun σ2 H2 => wipe σ2 own = wipe σ own ∧
    tk σ2 H2 fun y H3 => tv σ2 H3 fun c H4 => ∃ kvs k b, y = .ref b ∧ H4 b = some (.tup (k.map kV)) ∧ H4 D = some (.dT kvs) ∧ kvs.length < sizeLine ∧ Nx (upd H4 D (.dT (putK kvs k c))))
theorem pe_dcT {X : Cx} {kx vx tg iter : Expr} {scope : Scope} {own : List (Str × Nat)} {pos : Pos} {wi : TI} {g : TG} {tk tv : TE} (calm : X.calm = true) (room : X.A.units < cLine) (nd : X.N.Nodup) (src : PI X tg iter wi) (blk : BlkOk X.N X.env.scope scope own)
    (aim : ∀ (z : Shared) (Hz : Hp) (cl : List (Str × Addr)) (C : Addr) (fp : List Addr), PG (X.blk z Hz scope (compEnvC scope cl C X.env) fp) tg g)
    (key : ∀ (z : Shared) (Hz : Hp) (cl : List (Str × Addr)) (C : Addr) (fp : List Addr), PE (X.blk z Hz scope (compEnvC scope cl C X.env) fp) kx tk)
    (val : ∀ (z : Shared) (Hz : Hp) (cl : List (Str × Addr)) (C : Addr) (fp : List Addr), PE (X.blk z Hz scope (compEnvC scope cl C X.env) fp) vx tv) (plain : ∀ x, foldedSetIterable iter X.env x = pure x := by intro _; rfl) :
    PE X (.DictComp kx vx [⟨tg, iter, [], 0⟩] scope pos) (tDcT wi g tk tv (own.map (·.2))) := by
  refine ⟨fun pins s σ H Q I want => ?_⟩
  rw [arm_eval_DictComp]
  have outer : ∀ y ∈ scope.names, y.2 = .free → ∃ c, X.env.cells.lookup y.1 = some c := fun y hy e => (blk.free y hy e).elim (fun k => I.ok.has _ (.inl k)) fun k => I.ok.has _ (.inr k)
  refine wpAny_comprehension_free (use := none) rfl plain (closure_ok outer) blk.kind (fun y hy e => by rw [blk.uniq y hy, e]) (thn (src.run pins s σ H _ I want) fun _ _ begun => thn begun fun itv s2 ready => ?_)
  obtain ⟨it, fp, tn, J, H2, rfl, I2, T, at0, out2, rest⟩ := ready
  refine wpAny_newObj_type (newEnv_comp ?_)
  have fresh : H2 s2.heap.objs.size = none := I2.hok.fresh (Nat.le_refl _)
  obtain ⟨W, ⟨m0, w0⟩, turn⟩ := rest _ fresh
  have laid := I2.laid (a := s2.heap.objs.size) (o := .dT []) (t' := s2.toks) (fun b o e => Heap.get?_push_of_some _ e) (Nat.le_refl _) (dt_empty s2.heap I2.big)
  have below : ∀ b ∈ fp, b < s2.heap.objs.size := fun b hb => let ⟨_, e, _⟩ := T.obj _ _ at0 b hb; Heap.lt_size e
  have fp3 : ∀ b ∈ fp, FpOk X pins (upd H2 s2.heap.objs.size (.dT [])) b ∧ b < (s2.heap.push { cls := .type "dict", data := .dict #[] }).objs.size := fun b hb => by
    refine ⟨⟨(upd_ne (Nat.ne_of_lt (below b hb))).trans (out2 b hb).1, (out2 b hb).2⟩, ?_⟩
    rw [Heap.size_push]
    exact Nat.lt_succ_of_lt (below b hb)
  have at3 : tn 0 (s2.heap.push { cls := .type "dict", data := .dict #[] }) := T.keep _ _ _ at0 fun b _ o e => Heap.get?_push_of_some _ e
  generalize hz : ({ s2 with heap := s2.heap.push { cls := .type "dict", data := .dict #[] } } : Shared) = z at laid
  have hzh : z.heap = s2.heap.push { cls := .type "dict", data := .dict #[] } := by rw [← hz]
  rw [← hzh] at fp3 at3
  have inner := block_start laid blk nd fp3
  have aim' := aim z (upd H2 s2.heap.objs.size (.dT [])) (cellsFrom (z.heap.objs.size + 1) scope.names (cloFrom X.env.cells scope.names [])) z.heap.objs.size fp
  have key' := key z (upd H2 s2.heap.objs.size (.dT [])) (cellsFrom (z.heap.objs.size + 1) scope.names (cloFrom X.env.cells scope.names [])) z.heap.objs.size fp
  have val' := val z (upd H2 s2.heap.objs.size (.dT [])) (cellsFrom (z.heap.objs.size + 1) scope.names (cloFrom X.env.cells scope.names [])) z.heap.objs.size fp
  have noFp : ∀ b ∈ fp, upd H2 s2.heap.objs.size (.dT []) b = none := fun b hb => (fp3 b hb).1.1
  have goal2 : codeAny (model X.prog X.w) X.A (.compStart (.DictComp kx vx [⟨tg, iter, [], 0⟩] scope pos) 0 (.ref it) (.ref s2.heap.objs.size) (compEnvC scope (cellsFrom (z.heap.objs.size + 1) scope.names (cloFrom X.env.cells scope.names [])) z.heap.objs.size X.env))
      (compPost (model X.prog X.w) X.A X.xe none (EP X pins σ Q) (.ref s2.heap.objs.size) z.heap.objs.size) { z with heap := pushCells (z.heap.push { cls := .type "dict", data := .dict #[] }) scope.names } := ?_
  · exact goal2
  generalize hce : compEnvC scope (cellsFrom (z.heap.objs.size + 1) scope.names (cloFrom X.env.cells scope.names [])) z.heap.objs.size X.env = ce at inner aim' key' val' ⊢
  have loc : ce.locals = z.heap.objs.size := by rw [← hce]; rfl
  generalize hB : upd H2 s2.heap.objs.size (.dT []) = Hb at laid inner aim' key' val' w0 noFp fp3
  generalize hs4 : ({ z with heap := pushCells (z.heap.push { cls := .type "dict", data := .dict #[] }) scope.names } : Shared) = s4 at inner ⊢
  have at4 : tn 0 s4.heap := T.keep _ _ _ at3 fun b _ o e => by
    rw [← hs4]
    exact pushCells_keeps _ _ _ _ (Heap.get?_push_of_some _ e)
  have apart : ∀ {σ1 : L2.St} {H1 : Hp} {z1 : Shared}, Inv (X.blk z Hb scope ce fp) [] σ1 H1 z1 → (∀ b ∈ fp, H1 b = none) → ∀ b ∈ fp, FpOk (X.blk z Hb scope ce fp) [] H1 b := fun I1 n1 b hb =>
    ⟨n1 b hb, (I1.ok.exf b hb).1, I1.ok.exfs b hb, .inl hb, fun x c e => (I1.ok.exf b hb).2 x c e, fun p hp => nomatch hp⟩
  have loop : codeAny (model X.prog X.w) X.A (.compLoop (.DictComp kx vx [⟨tg, iter, [], 0⟩] scope pos) 0 (.ref it) (.ref s2.heap.objs.size) ce) (compPost (model X.prog X.w) X.A X.xe none (EP X pins σ Q) (.ref s2.heap.objs.size) z.heap.objs.size) s4 := by
    refine compLoop_anyD (fun n z1 => ∃ i H1, Inv (X.blk z Hb scope ce fp) [] (wipe σ (own.map (·.2))) H1 z1 ∧ tn i z1.heap ∧ (∀ b ∈ fp, H1 b = none) ∧ W i n H1) ?_ m0 ⟨0, Hb, inner, at4, noFp, w0⟩
    rintro n z5 ⟨i, H5, I5, at5, n5, w5⟩
    cases turn i n H5 w5 with
    | inl over =>
      obtain ⟨stop, told⟩ := over
      refine thnF (T.done (X.blk z Hb scope ce fp) rfl rfl rfl calm i [] z5 _ H5 (fun _ _ => False) I5 (apart I5 n5) at5 stop) fun r z6 ⟨hr, I6⟩ => ?_
      subst hr
      have back : Inv X pins σ H5 z6 := laid.call' (ch := fp) I6.os I6.base I6.hok I6.bare fun b hb => let f := (fp3 b hb).1; ⟨f.2.2.2.1, f.2.1, f.2.2.2.2.1, f.2.2.2.2.2⟩
      have nL : H5 z.heap.objs.size = none := by rw [← loc]; exact I6.free
      obtain ⟨m, ns, _⟩ := I6.loc
      have ns' : z6.heap.Ns ce.locals m := ns
      rw [loc] at ns'
      refine ⟨m, ns', fun h7 sb => ?_⟩
      have f := laid.fpOk (Nat.le_refl z.heap.objs.size) nL
      exact ⟨.ref s2.heap.objs.size, H5, back.turned (t' := z6.toks) (fun b o hb e => (sb.2 b hb).trans e) f.1 f.2.1 f.2.2.2.1 f.2.2.2.2.1 f.2.2.2.2.2, rfl, told⟩
    | inr more =>
      obtain ⟨go, Nx, after, step⟩ := more
      refine thnF (T.item (X.blk z Hb scope ce fp) rfl rfl rfl calm i [] z5 _ H5 (fun _ _ => False) I5 (apart I5 n5) at5 go) fun r z6 ⟨u, hr, h6⟩ => ?_
      subst hr
      refine thnF h6 fun _ z7 ⟨x, H7, I7, r7, y7, at7, n7⟩ => ?_
      refine thnF (aim'.run _ z7 _ H7 x u _ (I7.pinned (apart I7 n7) (T.obj _ _ at7)) r7 (step x H7 y7)) fun _ z8 ⟨σ8, H8, I8, same8, q8⟩ => ?_
      refine wpAny_pure ?_
      show if true = true then _ else _
      rw [if_pos rfl]
      refine thnF (key'.run _ z8 σ8 H8 _ I8 q8) fun ky z9 ⟨yk, H9, I9, r9, q9⟩ => ?_
      refine thnF (val'.run _ z9 σ8 H9 _ I9 q9) fun vy z10 ⟨yv, H10, I10, r10, kvs, k, b, eb, hb10, hD10, lt10, nx⟩ => ?_
      subst eb
      obtain rfl : ky = Value.ref b := r9
      refine dsetT (X := X.blk z Hb scope ce fp) room I10 hD10 hb10 lt10 r10 fun z11 I11 => ?_
      obtain ⟨m', less, w'⟩ := after _ nx
      have pin : ∀ c ∈ fp, ∀ o, z7.heap.get? c = some o → z11.heap.get? c = some o ∧ upd H10 s2.heap.objs.size (.dT (putK kvs k yv)) c = none := fun c hc o e => by
        have p := I11.pin (c, o) (List.mem_append_right _ (List.mem_append_right _ (mem_pinsAt hc e)))
        exact ⟨p.1, p.2.1⟩
      refine ⟨m', less, i + 1, _, (I11.unpinned (pins := [])).weak ?_ (fun j v e => ?_), T.keep _ _ _ at7 fun c hc o e => (pin c hc o e).1, fun c hc => ?_, w'⟩
      · rw [← same8, wipe_length]
      · rw [← same8] at e
        exact (wipe_some e).1
      · obtain ⟨o, e, _⟩ := T.obj _ _ at7 c hc
        exact (pin c hc o e).2
  exact codeAny_compStart_dict loop (T.self X.A 0 _ _ _ at4 loop)
/-! ### sorting tuples of ints -/
/-- the order of tuples of ints -/
def ltZ : List Int → List Int → Bool
  | [], [] => false
  | [], _ :: _ => true
  | _ :: _, [] => false
  | x :: r, y :: t => decide (x < y) || (!decide (y < x) && ltZ r t)
theorem ltZ_lex : ∀ a b : List Int, lexLt itemOrd (a.map Sum.inl) (b.map Sum.inl) = ltZ a b
  | [], [] => rfl
  | [], _ :: _ => rfl
  | _ :: _, [] => rfl
  | x :: r, y :: t => by
    show lexLt itemOrd (Sum.inl x :: r.map Sum.inl) (Sum.inl y :: t.map Sum.inl) = _
    rw [lex_cons, ltZ_lex r t]
    rfl
def TupI (h : Heap) (u : Value) (ks : List Int) : Prop := ∃ a o its n, u = Value.ref a ∧ h.get? a = some o ∧ o.cls = .type "tuple" ∧ o.data = .seq its n ∧ Vals (ks.map V.int) its.toList
theorem TupI.keep {h h' : Heap} {u : Value} {ks : List Int} (t : TupI h u ks) (k : ∀ b o, h.get? b = some o → h'.get? b = some o) : TupI h' u ks := by
  obtain ⟨a, o, its, n, e, g, r⟩ := t
  exact ⟨a, o, its, n, e, k _ _ g, r⟩
theorem tupItems_ints : ∀ (ks : List Int) (us : List Value) (i : Nat), Vals (ks.map V.int) us → tupItems (fun _ => false) i us = some (ks.map Sum.inl)
  | [], us, i, r => by
    cases r
    rfl
  | k :: ks, us, i, r => by
    cases r with
    | cons r1 r2 =>
      obtain ⟨t, rfl⟩ := r1
      show (if (fun _ : Nat => false) i = true then none else (tupItems (fun _ => false) (i + 1) _).map (Sum.inl k :: ·)) = _
      rw [if_neg (fun z => nomatch z), tupItems_ints ks _ (i + 1) r2]
      rfl
theorem TupI.key {h : Heap} {u : Value} {ks : List Int} (t : TupI h u ks) : G.tupKeyC h (fun _ => false) u = some (ks.map Sum.inl) := by
  obtain ⟨a, o, its, n, rfl, g, c, d, r⟩ := t
  exact G.tupKeyC_of g c d (tupItems_ints ks _ 0 r)
theorem tupsOf_ints {h : Heap} {k : Value → List Int} : ∀ {vs : List Value}, (∀ u ∈ vs, TupI h u (k u) ∧ k u ≠ []) → ∃ fs, TupsOf h (fun _ => false) vs fs
  | [], _ => ⟨[], .nil⟩
  | u :: vs, e => by
    obtain ⟨fs, r⟩ := tupsOf_ints (vs := vs) fun y hy => e y (List.mem_cons_of_mem _ hy)
    obtain ⟨t, ne⟩ := e u List.mem_cons_self
    obtain ⟨a, o, its, n, rfl, g, c, d, rv⟩ := t
    revert ne rv
    generalize k (Value.ref a) = ks
    intro ne rv
    cases ks with
    | nil => exact absurd rfl ne
    | cons k0 kr =>
      generalize hl : its.toList = l at rv
      cases rv with
      | cons r1 r2 =>
        obtain ⟨t, rfl⟩ := r1
        have h0 : its[0]? = some (Value.int k0 t) := by rw [← Array.getElem?_toList, hl]; rfl
        exact ⟨_, .cons ⟨a, o, its, n, rfl, g, c, d, h0, fun _ => ⟨_, _, rfl⟩, fun z => nomatch z⟩ r⟩
/-- what a sort of keyed pairs leaves, told of the values -/
theorem sorted_told {h : Heap} {k : Value → List Int} {vs : List Value} {arr : Array Keyed} (each : ∀ u ∈ vs, TupI h u (k u)) (hp : arr.Perm (PyProof.Rows.pairsOf vs)) (hs : SortedToK (G.tupKindC h fun _ => false) arr (PyProof.Rows.pairsOf vs).size) :
    (arr.map (·.2)).toList.Perm vs ∧ (arr.map (·.2)).toList.Pairwise fun x y => ltZ (k y) (k x) = false := by
  have pl := Array.perm_iff_toList_perm.mp hp
  rw [pairsOf_toList] at pl
  have two : ∀ p ∈ arr.toList, p.1 = p.2 ∧ p.1 ∈ vs := fun p m => mem_zip_self (pl.mem_iff.mp m)
  have e : (arr.map (·.2)).toList = arr.toList.map (·.2) := by simp
  rw [e]
  constructor
  · have z := pl.map (·.2)
    rw [List.map_snd_zip (Nat.le_refl _)] at z
    exact z
  · rw [List.pairwise_map, List.pairwise_iff_getElem]
    intro i j hi hj lt
    have sz : arr.size = (PyProof.Rows.pairsOf vs).size := hp.size_eq
    have q := hs i j (Nat.le_of_lt lt) (by rw [← sz]; simpa using hj)
    have at_ : ∀ (n : Nat) (hn : n < arr.toList.length), KK (G.tupKindC h fun _ => false) arr n = (k (arr.toList[n]).2).map Sum.inl := fun n hn => by
      obtain ⟨e1, m1⟩ := two _ (List.getElem_mem hn)
      have g : arr[n]? = some arr.toList[n] := by rw [← Array.getElem?_toList]; exact List.getElem?_eq_getElem hn
      unfold KK
      rw [g]
      show (G.tupKeyC h (fun _ => false) (arr.toList[n]).1).getD [] = _
      rw [(each _ m1).key, ← e1]
      rfl
    have q2 : lexLt itemOrd (KK (G.tupKindC h fun _ => false) arr j) (KK (G.tupKindC h fun _ => false) arr i) = false := q
    rw [at_ i hi, at_ j hj, ltZ_lex] at q2
    exact q2
section
variable {prog : Program} {w : World} {A : Around} {E : Value → Shared → Prop} {z : Shared}
/-- sorted(v), v's items tuples of ints -/
theorem sort_ints_of {v : Value} {vs : List Value} {k : Value → List Int} {Q : Value → Shared → Prop} (each : ∀ u ∈ vs, TupI z.heap u (k u) ∧ k u ≠ []) (small : vs.length ≤ sizeLine)
    (col : ∀ (A' : Around) (R : List Value → Shared → Prop) (E' : Value → Shared → Prop), A'.handled = A.handled → (∀ h' tk, (∀ b o, z.heap.get? b = some o → h'.get? b = some o) → z.heap.objs.size ≤ h'.objs.size → R vs { z with heap := h', toks := tk }) → wpAny (model prog w) A' (collect v) R E' z)
    (fin : ∀ h' tk p (out : Array Value) n, (∀ b o, z.heap.get? b = some o → h'.get? b = some o) → z.heap.objs.size ≤ p → h'.get? p = some (seqObj "list" out n) → out.toList.Perm vs → (out.toList.Pairwise fun x y => ltZ (k y) (k x) = false) → Q (.ref p) { z with heap := h', toks := tk }) :
    wpAny (model prog w) A (call (.builtin "sorted") [v]) Q E z := by
  refine Calls.call_function_entry kind_sorted plain_sorted entry_sorted (args_sorted1 _) ?_
  unfold Builtin.«sorted»
  refine wpAny_bind (m := checkCount "sorted" 1 1 _) (wpAny_pure ?_)
  refine wpAny_bind (col _ _ _ rfl fun h1 tk kp le => ?_)
  refine wpAny_bind (wpAny_newList ?_)
  have gL : (h1.push (seqObj "list" vs.toArray 0)).get? h1.objs.size = some (seqObj "list" vs.toArray 0) := Heap.get?_push_size _ rfl
  have kp2 : ∀ b o, z.heap.get? b = some o → (h1.push (seqObj "list" vs.toArray 0)).get? b = some o := fun b o e => Heap.get?_push_of_some _ (kp b o e)
  have each2 : ∀ u ∈ vs, TupI (h1.push (seqObj "list" vs.toArray 0)) u (k u) ∧ k u ≠ [] := fun u hu => ⟨(each u hu).1.keep kp2, (each u hu).2⟩
  obtain ⟨fs, tf⟩ := tupsOf_ints each2
  refine wpAny_bind (wpAny_holding (wpAny_call_entry slot_list_sort ⟨_, gL, rfl⟩ entry_list_sort
    (G.list_sort_tups (s := { z with heap := h1.push (seqObj "list" vs.toArray 0), toks := tk }) gL tf (fun u hu => ⟨_, (each2 u hu).1.key⟩) small fun st' a1 a2 a3 => ⟨_, rfl, ?_⟩) (args_list_sort _)))
  obtain ⟨t1, t2⟩ := sorted_told (fun u hu => (each2 u hu).1) a1 a2
  obtain ⟨n, gn⟩ := sortedHeap_at (vs := vs) (out := (arrOf st').map (·.2)) gL
  exact wpAny_pure ⟨_, rfl, fin _ _ _ _ n (fun b o e => (sortedHeap_old (Nat.ne_of_lt (Nat.lt_of_lt_of_le (Heap.lt_size e) le)) (Heap.lt_size (kp2 b o e))).trans (kp2 b o e)) le gn t1 t2⟩
theorem ints_inj : ∀ {ks ls : List Int}, ks.map V.int = ls.map V.int → ks = ls
  | [], [], _ => rfl
  | [], _ :: _, e => nomatch e
  | _ :: _, [], e => nomatch e
  | k :: ks, l :: ls, e => by
    obtain ⟨e1, e2⟩ := List.cons.inj e
    rw [V.int.inj e1, ints_inj e2]
theorem TupI.uniq {h : Heap} {u : Value} {ks ls : List Int} (a : TupI h u ks) (b : TupI h u ls) : ks = ls := by
  obtain ⟨p, o, its, n, e, g, _, d, r⟩ := a
  obtain ⟨p2, o2, its2, n2, e2, g2, _, d2, r2⟩ := b
  obtain rfl : p = p2 := Value.ref.inj (e.symm.trans e2)
  rw [g] at g2
  obtain rfl := Option.some.inj g2
  rw [d] at d2
  obtain ⟨rfl, rfl⟩ := Data.seq.inj d2
  exact ints_inj (r.inj r2)
open Classical in
/-- the ints of a tuple in the heap -/
noncomputable def kOf (h : Heap) (u : Value) : List Int := if e : ∃ ks, TupI h u ks then e.choose else []
theorem kOf_at {h : Heap} {u : Value} {ks : List Int} (t : TupI h u ks) : kOf h u = ks := by
  unfold kOf
  rw [dif_pos ⟨ks, t⟩]
  exact (Exists.choose_spec (⟨ks, t⟩ : ∃ ks, TupI h u ks)).uniq t
end
theorem vals_fun : ∀ (as : List Addr) {us : List Value}, Vals (as.map V.ref) us → us = as.map Value.ref
  | [], _, r => by cases r; rfl
  | a :: as, us, r => by
    cases r with
    | cons r1 r2 =>
      cases r1
      rw [vals_fun as r2]
      rfl
section
variable {X : Cx} {pins : List (Addr × Obj)} {σ : L2.St} {H : Hp} {z : Shared}
theorem tupI_of (I : Inv X pins σ H z) {a : Addr} {ks : List Int} (e : SqT X.K H a (ks.map V.int)) : TupI z.heap (.ref a) ks := by
  obtain ⟨its, r, p, _⟩ := I.tuple e
  obtain ⟨o, g, c, n, d⟩ := p
  exact ⟨a, o, _, n, rfl, g, c, d, r⟩
theorem sort_core {A : Around} {E : Value → Shared → Prop} {v : Value} {bs0 : List (Addr × List Int)} {Q : VK} (I : Inv X pins σ H z) (tups : ∀ b ∈ bs0, SqT X.K H b.1 (b.2.map V.int) ∧ b.2 ≠ []) (small : bs0.length ≤ sizeLine)
    (col : ∀ (A' : Around) (R : List Value → Shared → Prop) (E' : Value → Shared → Prop), A'.handled = A.handled → (∀ h' tk, (∀ b o, z.heap.get? b = some o → h'.get? b = some o) → z.heap.objs.size ≤ h'.objs.size → R (bs0.map fun b => .ref b.1) { z with heap := h', toks := tk }) → wpAny (model X.prog X.w) A' (collect v) R E' z)
    (q : ∀ p (bs : List (Addr × List Int)), H p = none → bs.Perm bs0 → (bs.Pairwise fun x y => ltZ y.2 x.2 = false) → Q (.ref p) (upd H p (.lst (bs.map fun b => .ref b.1)))) :
    wpAny (model X.prog X.w) A (call (.builtin "sorted") [v]) (EP X pins σ Q) E z := by
  have at_ : ∀ b ∈ bs0, kOf z.heap (.ref b.1) = b.2 := fun b hb => kOf_at (tupI_of I (tups b hb).1)
  refine sort_ints_of (k := kOf z.heap) (vs := bs0.map fun b => .ref b.1) (fun u hu => ?_) (by rw [List.length_map]; exact small) col fun h' tk p out n kp le gp pm pw => ?_
  · obtain ⟨b, hb, rfl⟩ := List.mem_map.mp hu
    rw [at_ b hb]
    exact ⟨tupI_of I (tups b hb).1, (tups b hb).2⟩
  · obtain ⟨bs, pb, eb⟩ := L2.perm_lift (fun b : Addr × List Int => Value.ref b.1) pm bs0 rfl
    have none1 : H p = none := I.hok.fresh le
    have rv : Vals (bs.map fun b => V.ref b.1) out.toList := by
      rw [← eb]
      exact vals_maps (fun b : Addr × List Int => V.ref b.1) (fun b => Value.ref b.1) bs fun _ _ => rfl
    have pw2 : bs.Pairwise fun x y => ltZ y.2 x.2 = false := by
      rw [← eb, List.pairwise_map] at pw
      refine List.Pairwise.imp_of_mem (fun {x y} hx hy h => ?_) pw
      rw [at_ x (pb.mem_iff.mp hx), at_ y (pb.mem_iff.mp hy)] at h
      exact h
    refine ⟨.ref p, upd H p (.lst (bs.map fun b => .ref b.1)), I.laid (t' := tk) kp le ⟨?_, out.toList, n, rv, ?_⟩, rfl, q p bs none1 pb pw2⟩
    · rw [List.length_map, pb.length_eq]
      exact small
    · rw [Array.toArray_toList]
      exact gp
/-- sorted(xs), xs a list of tuples of ints -/
def rSortT (K : PySem.W.Frag) : List V → Hp → VK → Prop := fun vs H Q => ∃ (a : Addr) (bs0 : List (Addr × List Int)), vs = [.ref a] ∧ SqL K H a (bs0.map fun b => .ref b.1) ∧ (∀ b ∈ bs0, SqT K H b.1 (b.2.map V.int) ∧ b.2 ≠ []) ∧
  ∀ p (bs : List (Addr × List Int)), H p = none → bs.Perm bs0 → (bs.Pairwise fun x y => ltZ y.2 x.2 = false) → Q (.ref p) (upd H p (.lst (bs.map fun b => .ref b.1)))
theorem cr_sortT : CallR X (.builtin "sorted") (rSortT X.K) := by
  intro pins s σ H vs us Q I r h
  obtain ⟨a, bs0, rfl, hs, tups, q⟩ := h
  obtain ⟨its, rv, pl, hz⟩ := I.list hs
  obtain ⟨u, rfl, ru⟩ := vals1 r
  obtain rfl : u = Value.ref a := ru
  have ei : its = bs0.map fun b => .ref b.1 := by
    have e := vals_fun (bs0.map (·.1)) (by rw [List.map_map]; exact rv)
    rw [e, List.map_map]
    rfl
  rw [List.length_map] at hz
  subst ei
  refine sort_core I tups hz (fun A' R E' _ fin => collect_list pl.isList (fin _ s.toks (fun b o e => ?_) ?_) (by rw [List.length_map]; exact hz)) q
  · rw [Heap.get?_update_ne _ _ _ _ (Nat.ne_of_lt (Heap.lt_size e))]
    exact Heap.get?_push_of_some _ e
  · rw [Heap.size_update, Heap.size_push]
    exact Nat.le_succ _
end
/-! ### sorted(d.keys()), the keys tuples of ints -/
theorem keys_paired {H : Hp} : ∀ {kvs : List (List Key × V)} {xs : List (List Key × Addr × Value)} {ks : List (List Int)}, KT H kvs xs → kvs.map (·.1) = ks.map (fun k => k.map Sum.inl) → xs.length = ks.length ∧ ∀ b ∈ (xs.map (fun x => x.2.1)).zip ks, H b.1 = some (.tup (b.2.map V.int))
  | _, _, ks, .nil, e => by
    cases ks with
    | nil => exact ⟨rfl, fun b hb => nomatch hb⟩
    | cons k kr => exact nomatch (show ([] : List (List Key)) = _ :: _ from e)
  | _, _, ks, .cons (a := p) (b := x) h t, e => by
    cases ks with
    | nil => exact nomatch (show _ :: _ = ([] : List (List Key)) from e)
    | cons k kr =>
      obtain ⟨e1, e2⟩ := List.cons.inj (show p.1 :: _ = k.map Sum.inl :: _ from e)
      obtain ⟨l, r⟩ := keys_paired t e2
      refine ⟨congrArg (· + 1) l, fun b hb => ?_⟩
      rcases List.mem_cons.mp (show b ∈ (x.2.1, k) :: _ from hb) with rfl | hb
      · have q := h.2.1
        rw [e1, List.map_map] at q
        exact q
      · exact r b hb
def tSKT (td : TE) : TE := fun σ H Q => td σ H fun v H1 => ∃ (d : Addr) (kvs : List (List Key × V)) (ks : List (List Int)), v = .ref d ∧ H1 d = some (.dT kvs) ∧ kvs.map (·.1) = ks.map (fun k => k.map Sum.inl) ∧ (∀ k ∈ ks, k ≠ []) ∧
  ∀ p (bs : List (Addr × List Int)), H1 p = none → (bs.map (·.2)).Perm ks → (bs.Pairwise fun x y => ltZ y.2 x.2 = false) → (∀ b ∈ bs, H1 b.1 = some (.tup (b.2.map V.int))) → Q (.ref p) (upd H1 p (.lst (bs.map fun b => .ref b.1)))
theorem pe_sKT {X : Cx} {e : Expr} {td : TE} {p pos apos cpos : Pos} (calm : X.calm = true) (hg : Gl X "sorted") (hm : X.mg "sorted" = none) (hv : bootBuiltins "sorted" = some (.builtin "sorted")) (he : PE X e td) (hbase : attributeBase e "keys" X.env (eval e X.env) = eval e X.env := by rfl)
    (hline : (apos.endLine == cpos.line) = true := by rfl)
    (hs : starEach [.Call (.Attribute e "keys" apos) [] [] cpos] X.env = [(false, eval (.Call (.Attribute e "keys" apos) [] [] cpos) X.env)] := by rfl) (hpl : (backTo pos (starEach [.Call (.Attribute e "keys" apos) [] [] cpos] X.env)) = [(false, eval (.Call (.Attribute e "keys" apos) [] [] cpos) X.env)] := by rfl)
    (hn : ("sorted" : Str) ≠ "__name__" := by decide) (hdb : (("sorted" : Str) == ("__debug__" : Str)) = false := by decide) :
    PE X (.Call (.Name "sorted" p) [.Call (.Attribute e "keys" apos) [] [] cpos] [] pos) (tSKT td) := by
  refine ⟨fun pins s σ H Q I want => ?_⟩
  refine wpAny_Call_Name_kw (ld_blt I hg hm hv ?_ hn hdb)
  rw [hpl]
  refine PySem.callWith_builtin1 ?_
  refine wpAny_Call_method (T := "dict") (id := "dict.keys") hbase rfl hline F.plainAttrs_dict F.slot_dict_keys F.type_dict_keys (thn (he.run pins s σ H _ I want) fun u s1 told => ?_)
  obtain ⟨x, H1, I1, rx, d, kvs, ks, rfl, hd, eks, ne, q⟩ := told
  obtain rfl : u = Value.ref d := rx
  obtain ⟨hz, ns, xs, kt, dd⟩ := dt_of I1.hok hd
  obtain ⟨es, ep, raw, esz, enth⟩ := dd.raw
  refine ⟨raw.typeIs, dictOfH_noDict dd, ?_⟩
  show wpAny _ _ (callWith cpos (.builtin "dict.keys") [.ref d] [] []) _ X.xe s1
  refine method_meetsIn F.slot_dict_keys F.entry_dict_keys rfl (PySem.evalArgs_none ⟨rfl, raw.typeIs, F.args_dict_keys_1 _, _, meets_dict_keys_raw d ns, ⟨es, ep, raw⟩, ?_⟩)
  have I2 : Inv X pins σ H1 { s1 with heap := s1.heap.push { cls := .type "dict_keys", data := .fields #[.ref d] } } := I1.kept (t' := s1.toks) fun b o e => Heap.get?_push_of_some _ e
  obtain ⟨lx, tups⟩ := keys_paired kt eks
  have lk : (xs.map fun x => x.2.1).length = ks.length := by rw [List.length_map]; exact lx
  have n2 : ((xs.map fun x => x.2.1).zip ks).length = es.size := by rw [List.length_zip, lk, Nat.min_self, ← lx, esz]
  have top : (s1.heap.push { cls := .type "dict_keys", data := .fields #[.ref d] }).get? s1.heap.objs.size = some { cls := .type "dict_keys", data := .fields #[.ref d] } := Heap.get?_push_size _ rfl
  refine sort_core (bs0 := (xs.map fun x => x.2.1).zip ks) I2 (fun b hb => ⟨SqT.of (tups b hb), ne b.2 (List.of_mem_zip hb).2⟩) ?_ (fun A' R E' hA fin => ?_) fun p bs hp pm pw => ?_
  · rw [n2, esz, ← Paired.length kt]
    exact hz
  · refine PySem.W.kdu_collect (KdlSrc.rawKeys (r := s1.heap.objs.size) (d := d) (es := es) (ep := ep)) (hA.trans (I1.ok.hd calm)) ⟨⟨_, top, rfl, rfl⟩, raw.at fun o e => Heap.get?_push_of_some _ e⟩ ?_ fun h' tk acc kp it => ?_
    · rw [esz, ← Paired.length kt]
      exact hz
    · have eacc : acc.toList = ((xs.map fun x => x.2.1).zip ks).map fun b => .ref b.1 := by
        have la : acc.toList.length = es.size := by rw [Array.length_toList]; exact it.1
        apply List.ext_getElem (by rw [List.length_map, n2, la])
        intro i h1 h2
        have hi : i < es.size := by omega
        obtain ⟨hi', ev⟩ := it.2 i acc.toList[i] (by rw [← Array.getElem?_toList]; exact List.getElem?_eq_getElem h1)
        obtain ⟨y, hy, ek, _⟩ := enth i hi
        obtain ⟨hx, exy⟩ := List.getElem?_eq_some_iff.mp hy
        rw [ev, ek, List.getElem_map, List.getElem_zip, List.getElem_map, exy]
      rw [eacc]
      refine fin h' tk kp ?_
      have lt : s1.heap.objs.size < h'.objs.size := Heap.lt_size (kp _ _ top)
      show (s1.heap.push _).objs.size ≤ _
      rw [Heap.size_push]
      exact lt
  · refine q p bs hp ?_ pw fun b hb => tups b (pm.mem_iff.mp hb)
    have z := pm.map (·.2)
    rw [List.map_snd_zip (Nat.le_of_eq lk.symm)] at z
    exact z
/-! ### dict(xs), xs a list of pairs (tuple, value) -/
/-- a pair's place, its key's place, the key, the value -/
abbrev PKV := Addr × Addr × List Key × V
def putAllK (acc : List (List Key × V)) (ps : List PKV) : List (List Key × V) := ps.foldl (fun acc x => putK acc x.2.2.1 x.2.2.2) acc
theorem putAllK_len : ∀ (ps : List PKV) (acc : List (List Key × V)), (putAllK acc ps).length ≤ acc.length + ps.length
  | [], _ => Nat.le_refl _
  | x :: ps, acc => by
    have h1 := putAllK_len ps (putK acc x.2.2.1 x.2.2.2)
    have h2 := length_putK acc x.2.2.1 x.2.2.2
    show (putAllK (putK acc x.2.2.1 x.2.2.2) ps).length ≤ _
    rw [List.length_cons]
    omega
def PkOk (H : Hp) (x : PKV) : Prop := H x.1 = some (.tup [.ref x.2.1, x.2.2.2]) ∧ H x.2.1 = some (.tup (x.2.2.1.map kV))
/-- the pairs as they lie in the heap -/
def PkAt (H : Hp) (h : Heap) (x : PKV) (r : List Key × Addr × Value) : Prop := x.2.2.1 = r.1 ∧ x.2.1 = r.2.1 ∧ RelV x.2.2.2 r.2.2 ∧ H r.2.1 = some (.tup (r.1.map kV)) ∧ PairAt h x.1 (.ref r.2.1) r.2.2
section
variable {X : Cx} {pins : List (Addr × Obj)} {σ : L2.St} {H : Hp} {z : Shared}
theorem pk_at (I : Inv X pins σ H z) : ∀ ps : List PKV, (∀ x ∈ ps, PkOk H x) → ∃ rs, Paired (PkAt H z.heap) ps rs
  | [], _ => ⟨[], .nil⟩
  | x :: ps, e => by
    obtain ⟨rs, r⟩ := pk_at I ps fun y hy => e y (List.mem_cons_of_mem _ hy)
    obtain ⟨e1, e2⟩ := e x List.mem_cons_self
    obtain ⟨_, its, rv, o, g, c, n, d⟩ := (show ObjOk X.prog X.w H z.heap x.1 (.tup [.ref x.2.1, x.2.2.2]) from I.hok _ _ e1)
    obtain ⟨u1, u2, rfl, r1, r2⟩ := vals2 rv
    obtain rfl : u1 = Value.ref x.2.1 := r1
    exact ⟨(x.2.2.1, x.2.1, u2) :: rs, .cons ⟨rfl, rfl, r2, e2, .inl ⟨o, g, c, n, d⟩⟩ r⟩
end
theorem pk_kt {H H2 : Hp} {h : Heap} (tk : ∀ b ys, H b = some (.tup ys) → H2 b = some (.tup ys)) : ∀ {ps : List PKV} {rs : List (List Key × Addr × Value)} {kvs : List (List Key × V)} {xs : List (List Key × Addr × Value)}, Paired (PkAt H h) ps rs → KT H2 kvs xs → KT H2 (putAllK kvs ps) (storedAllH xs rs)
  | _, _, _, _, .nil, t => t
  | _, _, _, _, .cons (a := x) (b := r) e p, t => by
    obtain ⟨e1, e2, e3, e4, _⟩ := e
    have t2 := t.put x.2.2.1 (b := r.2.1) (y := x.2.2.2) (u := r.2.2) (by rw [e1]; exact tk _ _ e4) e3
    have q := pk_kt tk p t2
    rw [e1] at q
    have show1 : x.2.2.1 = r.1 := e1
    show KT H2 (putAllK (putK _ x.2.2.1 x.2.2.2) _) _
    rw [show1]
    exact q
theorem pk_get {H : Hp} {h : Heap} : ∀ {ps : List PKV} {rs : List (List Key × Addr × Value)}, Paired (PkAt H h) ps rs → ∀ (j : Nat) (r : List Key × Addr × Value), rs[j]? = some r → ∃ x, ps[j]? = some x ∧ PkAt H h x r
  | _, _, .nil, j, r, e => nomatch (show (none : Option (List Key × Addr × Value)) = some r from e)
  | _, _, .cons (a := x) e p, 0, r, hj => by
    cases hj
    exact ⟨x, rfl, e⟩
  | _, _, .cons e p, j + 1, r, hj => pk_get p j r hj
def rDictP (K : PySem.W.Frag) : List V → Hp → VK → Prop := fun vs H Q => ∃ (a : Addr) (ps : List PKV), vs = [.ref a] ∧ SqL K H a (ps.map fun x => .ref x.1) ∧ (∀ x ∈ ps, PkOk H x) ∧ ∀ p, H p = none → Q (.ref p) (upd H p (.dT (putAllK [] ps)))
theorem cr_dictP {X : Cx} (calm : X.calm = true) (room : X.A.units + 2 < cLine) : CallR X (.type "dict") (rDictP X.K) := by
  intro pins s σ H vs us Q I r h
  obtain ⟨a, ps, rfl, hs, oks, q⟩ := h
  obtain ⟨its, rv, pl, hz⟩ := I.list hs
  obtain ⟨u, rfl, ru⟩ := vals1 r
  obtain rfl : u = Value.ref a := ru
  rw [List.length_map] at hz
  have ei : its = ps.map fun x => Value.ref x.1 := by
    have e := vals_fun (ps.map (·.1)) (by rw [List.map_map]; exact rv)
    rw [e, List.map_map]
    rfl
  obtain ⟨rs, pr⟩ := pk_at I ps oks
  have len : ps.length = rs.length := Paired.length pr
  have ok : PlainSeq "list" s.heap a its.toArray ∧ PairItems s.heap its.toArray (fun j => ((ps[j]?).map (·.1)).getD 0) (rs.map fun r => (Value.ref r.2.1, r.2.2)) := by
    refine ⟨pl, ?_, fun j k v hj => ?_⟩
    · rw [ei, List.length_map, List.size_toArray, List.length_map, len]
    · rw [List.getElem?_map] at hj
      obtain ⟨r, hr, er⟩ := Option.map_eq_some_iff.mp hj
      cases er
      obtain ⟨x, hx, at_⟩ := pk_get pr j r hr
      refine ⟨?_, ?_⟩
      · rw [ei, List.getElem?_toArray, List.getElem?_map, hx]
        show some (Value.ref x.1) = some (Value.ref (((ps[j]?).map (·.1)).getD 0))
        rw [hx]
        rfl
      · show PairAt s.heap (((ps[j]?).map (·.1)).getD 0) _ _
        rw [hx]
        exact at_.2.2.2.2
  have P := PairArg.list (prog := X.prog) (w := X.w) a its.toArray (fun j => ((ps[j]?).map (·.1)).getD 0) (rs.map fun r => (Value.ref r.2.1, r.2.2))
  refine call_dict_pairsH (knd := tupleKind (mixKind X.prog X.w)) (ps := rs) P (I.ok.hd calm) (show X.A.in1.in1.units < cLine from room) ok ⟨by rw [List.length_map], fun j key v hj => ?_⟩ (fun h2 kp x hx => ?_) ?_ fun h2 tk dd kp => ?_
  · have hj' : (rs.map fun r => (Value.ref r.2.1, r.2.2))[j]? = some (key, v) := hj
    rw [List.getElem?_map] at hj'
    obtain ⟨r, hr, er⟩ := Option.map_eq_some_iff.mp hj'
    cases er
    exact ⟨r.1, r.2.1, hr, rfl⟩
  · obtain ⟨j, hj⟩ := List.mem_iff_getElem?.mp hx
    obtain ⟨y, _, at_⟩ := pk_get pr j x hj
    obtain ⟨o, it, n, g, c⟩ := key_of I.hok at_.2.2.2.1
    exact ⟨o, it, n, kp _ o (Nat.ne_of_lt (Heap.lt_size g)) (fun z => nomatch z) g, c⟩
  · rw [List.length_map, ← len]
    exact hz
  · have fresh : H s.heap.objs.size = none := I.hok.fresh (Nat.le_refl _)
    have k2 : ∀ b o, s.heap.get? b = some o → h2.get? b = some o := fun b o e => kp b o (fun z => nomatch z) e
    obtain ⟨o, es, ep, g, c, d, e, _, n⟩ := dd
    have kt : KT (upd H s.heap.objs.size (.dT (putAllK [] ps))) (putAllK [] ps) (storedAllH [] rs) := pk_kt (fun b ys e => by rw [upd_ne (ne_of_none e fresh)]; exact e) pr .nil
    have big : (s.heap.objs.size == sysModules) = false := by
      have := I.big
      exact beq_false_of_ne (Nat.ne_of_gt this)
    have small : (putAllK [] ps).length ≤ sizeLine := by
      have := putAllK_len ps []
      rw [List.length_nil] at this
      omega
    exact ⟨.ref s.heap.objs.size, _, I.laid (t' := tk) (o := .dT (putAllK [] ps)) k2 (Nat.le_refl _) ⟨small, big, _, kt, o, es, ep, g, c, d, e, n⟩, rfl, q _ fresh⟩
theorem hu2_of {A : Around} {k : Nat} (hr : Room k A) : A.units + 2 < cLine := by
  have := hr.units
  omega
section
variable {X : Cx} {K : PySem.W.Frag}
theorem k_sortT (hK : X.K = K := by rfl) : CallR X (.builtin "sorted") (rSortT K) := hK ▸ cr_sortT
theorem k_dictP (calm : X.calm = true) (room : X.A.units + 2 < cLine) (hK : X.K = K := by rfl) : CallR X (.type "dict") (rDictP K) := hK ▸ cr_dictP calm room
theorem k_leT (hu : X.A.units < cLine) (hK : X.K = K := by rfl) : OpR X (compareOp .LtE) (rLeT K) := hK ▸ op_leT hu
theorem k_enT {e : Expr} {ta : TA} {p pos tpos : Pos} {elts : List Expr} {kk : Nat} (hg : Gl X "enumerate") (hm : X.mg "enumerate" = none) (ha : PA X [e] ta) (hs : starEach [e] X.env = [(false, eval e X.env)] := by rfl) (hK : X.K = K := by rfl) :
    PI X (.Tuple elts kk tpos) (.Call (.Name "enumerate" p) [e] [] pos) (iEnT K ta) := hK ▸ pi_enT hg hm ha hs
theorem k_list_of (hK : X.K = K := by rfl) : CallR X (.type "list") (fun xs H Q => ∃ p ys, xs = [.ref p] ∧ (SqL K H p ys ∨ SqT K H p ys) ∧ ∀ l, H l = none → Q (.ref l) (upd H l (.lst ys))) := hK ▸ call_list_of
theorem k_fld {e : Expr} {f : Str} {pos : Pos} {ta : TE} (he : PE X e ta) (hb : attributeBase e f X.env (eval e X.env) = eval e X.env) (hK : X.K = K := by rfl) : PE X (.Attribute e f pos) (tFld K ta f) := hK ▸ pe_fld he hb
theorem k_sfld {o value : Expr} {f : Str} {pos pos' : Pos} {ta tv : TE} (ha : PE X o ta) (hv : PE X value tv) (hs : swapsWith value (some (.Attribute o f pos')) pos.line X.env = pure false) (hK : X.K = K := by rfl) : PS X (.Assign [.Attribute o f pos'] value pos) (sFld K ta tv f) := hK ▸ ps_fld ha hv hs
end
theorem k_pgT {X : Cx} {K : PySem.W.Frag} (n : Nat) {es : List Expr} {k : Nat} {pos : Pos} {t : TGs} (hc : X.calm = true) (h : PGs X es t) (hn : (assignEach es X.env).length = n := by rfl) (hst : (assignEach es X.env).findIdx? (·.1) = none := by rfl) (hK : X.K = K := by rfl) : PG X (.Tuple es k pos) (gTup K n t) := hK ▸ pg_tup hc h hn hst
/-! ### a tuple of the written part -/
def KTu (K : PySem.W.Frag) (a : Addr) (xs : List V) : Prop := ∀ H, SqT K H a xs
def AheadAt (K : PySem.W.Frag) (mg : Str → Option Value) : Prop := ∃ A b0 b1 b2 b3 : Addr, mg "AHEAD" = some (.ref A) ∧ KTu K A [.ref b0, .ref b1, .ref b2, .ref b3] ∧ KTu K b0 [.int 0, .int (-1)] ∧ KTu K b1 [.int 1, .int 0] ∧ KTu K b2 [.int 0, .int 1] ∧ KTu K b3 [.int (-1), .int 0]
theorem ktu_of {K : PySem.W.Frag} {a : Addr} {xs : List V} {its : Array Value} {n : Nat} (e : K.lookup a = some { cls := .type "tuple", data := .seq its n }) (z : its.size ≤ 1000) (r : Vals xs its.toList) : KTu K a xs := fun H => .inr ⟨_, its, n, e, rfl, rfl, small_le z, r⟩
/-! ### objects that may change -/
/-- all stays but what stands at these places -/
def KeepE (E : List Addr) (H H' : Hp) : Prop := ∀ b o, b ∉ E → H b = some o → H' b = some o
theorem KeepE.refl (E : List Addr) (H : Hp) : KeepE E H H := fun _ _ _ h => h
theorem KeepE.trans {E : List Addr} {H H1 H2 : Hp} (a : KeepE E H H1) (b : KeepE E H1 H2) : KeepE E H H2 := fun c o n h => b c o n (a c o n h)
theorem KeepE.new {E : List Addr} {H : Hp} {p : Addr} {o : HO} (h : H p = none) : KeepE E H (upd H p o) := fun b u _ e => by
  rw [upd_ne (ne_of_none e h)]
  exact e
theorem KeepE.put {E : List Addr} {H : Hp} {p : Addr} {o : HO} (h : p ∈ E) : KeepE E H (upd H p o) := fun b u n e => by
  rw [upd_ne (fun z => n (by rw [z]; exact h))]
  exact e
theorem KeepE.fresh {E : List Addr} {H H' : Hp} {p : Addr} {o : HO} (k : KeepE E H H') (h : H p = none) : KeepE E H (upd H' p o) := fun b u n e => by
  rw [upd_ne (ne_of_none e h)]
  exact k b u n e
theorem KeepE.putR {E : List Addr} {H H' : Hp} {p : Addr} {o : HO} (k : KeepE E H H') (h : p ∈ E) : KeepE E H (upd H' p o) := k.trans (KeepE.put h)
theorem Same.keepE {E : List Addr} {H H' : Hp} (s : Same H H') : KeepE E H H' := fun b o _ h => s b o h
theorem KeepE.mono {E F : List Addr} {H H' : Hp} (k : KeepE E H H') (h : ∀ a ∈ E, a ∈ F) : KeepE F H H' := fun b o n e => k b o (fun z => n (h b z)) e
/-- what the first heap did not know may change -/
theorem KeepE.same {E : List Addr} {H H' : Hp} (k : KeepE E H H') (h : ∀ a ∈ E, H a = none) : Same H H' := fun b o e => k b o (fun z => by rw [h b z] at e; cases e) e
/-- no tuple, nothing frozen -/
def Soft (H : Hp) (a : Addr) : Prop := (∀ xs, H a ≠ some (.tup xs)) ∧ ∀ o u, H a ≠ some (.frz o u)
theorem KeepE.tk {E : List Addr} {H H' : Hp} (k : KeepE E H H') (s : ∀ a ∈ E, Soft H a) : TK H H' :=
  ⟨fun b xs e => k b _ (fun z => (s b z).1 xs e) e, fun b o u e => k b _ (fun z => (s b z).2 o u e) e⟩
theorem Soft.none {H : Hp} {a : Addr} (h : H a = none) : Soft H a := ⟨fun xs e => (by rw [h] at e; cases e), fun o u e => (by rw [h] at e; cases e)⟩
theorem Soft.dT {H : Hp} {a : Addr} {kvs : List (List Key × V)} (h : H a = some (.dT kvs)) : Soft H a := ⟨fun xs e => (by rw [h] at e; cases e), fun o u e => (by rw [h] at e; cases e)⟩
theorem Soft.ins {H : Hp} {a C dx : Addr} {fs : List (Str × V)} (h : H a = some (.ins C dx fs)) : Soft H a := ⟨fun xs e => (by rw [h] at e; cases e), fun o u e => (by rw [h] at e; cases e)⟩
theorem Soft.lst {H : Hp} {a : Addr} {xs : List V} (h : H a = some (.lst xs)) : Soft H a := ⟨fun xs e => (by rw [h] at e; cases e), fun o u e => (by rw [h] at e; cases e)⟩
theorem KeepE.back {E : List Addr} {H H' : Hp} {p : Addr} (k : KeepE E H H') (h : H' p = none) (n : p ∉ E) : H p = none := by
  cases e : H p with
  | none => rfl
  | some o =>
    rw [k p o n e] at h
    cases h
theorem Same.back {H H' : Hp} {p : Addr} (k : Same H H') (h : H' p = none) : H p = none := by
  cases e : H p with
  | none => rfl
  | some o =>
    rw [k p o e] at h
    cases h
/-! ### slices -/
theorem sl32 {a b c : V} : ¬ (HT.sIx ([a, b, c] : List V).length 0 none = 0 ∧ HT.sIx ([a, b, c] : List V).length ([a, b, c] : List V).length (some 2) = ([a, b, c] : List V).length) := by
  show ¬ (HT.sIx 3 0 none = 0 ∧ HT.sIx 3 3 (some 2) = 3)
  decide
theorem sl42 {a b c d : V} : ¬ (HT.sIx ([a, b, c, d] : List V).length 0 none = 0 ∧ HT.sIx ([a, b, c, d] : List V).length ([a, b, c, d] : List V).length (some 2) = ([a, b, c, d] : List V).length) := by
  show ¬ (HT.sIx 4 0 none = 0 ∧ HT.sIx 4 4 (some 2) = 4)
  decide
/-! ### readings of tuples -/
section
variable {K : PySem.W.Frag} {H : Hp}
theorem Tp.int4 {v : V} {i j k l : Int} (h : Tp K H v (.tuple [.int i, .int j, .int k, .int l])) : ∃ a, v = .ref a ∧ SqT K H a [.int i, .int j, .int k, .int l] := by
  obtain ⟨a, xs, rfl, hs, h⟩ := h.tupI
  obtain ⟨x, _, rfl, h1, h⟩ := h.consI
  obtain ⟨y, _, rfl, h2, h⟩ := h.consI
  obtain ⟨z, _, rfl, h3, h⟩ := h.consI
  obtain ⟨u, _, rfl, h4, h⟩ := h.consI
  rw [h1.intI, h2.intI, h3.intI, h4.intI, h.nilI] at hs
  exact ⟨a, rfl, hs⟩
theorem Tp.int2 {v : V} {i j : Int} (h : Tp K H v (.tuple [.int i, .int j])) : ∃ a, v = .ref a ∧ SqT K H a [.int i, .int j] := by
  obtain ⟨a, xs, rfl, hs, h⟩ := h.tupI
  obtain ⟨x, _, rfl, h1, h⟩ := h.consI
  obtain ⟨y, _, rfl, h2, h⟩ := h.consI
  rw [h1.intI, h2.intI, h.nilI] at hs
  exact ⟨a, rfl, hs⟩
theorem Tp.of_ints {a : Addr} : ∀ {ks : List Int}, SqT K H a (ks.map V.int) → Tp K H (.ref a) (.tuple (ks.map PyData.int)) := fun {ks} h => by
  refine .tup h ?_
  clear h
  induction ks with
  | nil => exact .nil
  | cons k ks ih => exact .cons (.int k) ih
end
/-! ### cells: places and their colours, as a dict keeps them -/
abbrev Pt := Int × Int
abbrev CM := List (Pt × Int)
def ptK (p : Pt) : List Key := [Sum.inl p.1, Sum.inl p.2]
theorem ptK_inj {p q : Pt} (h : ptK p = ptK q) : p = q := by
  obtain ⟨a, b⟩ := p
  obtain ⟨c, d⟩ := q
  have e1 := List.cons.inj h
  have e2 := List.cons.inj e1.2
  have q1 : a = c := Sum.inl.inj e1.1
  have q2 : b = d := Sum.inl.inj e2.1
  rw [q1, q2]
theorem ptK_v (p : Pt) : (ptK p).map kV = [V.int p.1, V.int p.2] := rfl
def look : CM → Pt → Option Int
  | [], _ => none
  | e :: r, p => if e.1 = p then some e.2 else look r p
def putM : CM → Pt → Int → CM
  | [], p, c => [(p, c)]
  | e :: r, p, c => if e.1 = p then (e.1, c) :: r else e :: putM r p c
def dropM : CM → Pt → CM
  | [], _ => []
  | e :: r, p => if e.1 = p then r else e :: dropM r p
def cellK (m : CM) : List (List Key × V) := m.map fun e => (ptK e.1, V.int e.2)
def col (m : CM) (p : Pt) : Int := (look m p).getD 0
theorem look_none : ∀ {m : CM} {p : Pt}, look m p = none ↔ p ∉ m.map (·.1)
  | [], p => by simp [look]
  | e :: r, p => by
    rw [List.map_cons, List.mem_cons]
    unfold look
    by_cases h : e.1 = p
    · rw [if_pos h]
      simp [h]
    · rw [if_neg h, look_none]
      exact ⟨fun x y => y.elim (fun z => h z.symm) x, fun x y => x (.inr y)⟩
theorem look_mem : ∀ {m : CM} {p : Pt} {c : Int}, look m p = some c → (p, c) ∈ m
  | [], p, c, h => nomatch h
  | e :: r, p, c, h => by
    unfold look at h
    by_cases q : e.1 = p
    · rw [if_pos q] at h
      rw [← q, ← Option.some.inj h]
      exact List.mem_cons_self
    · rw [if_neg q] at h
      exact List.mem_cons_of_mem _ (look_mem h)
theorem mem_look : ∀ {m : CM} {p : Pt} {c : Int}, (m.map (·.1)).Nodup → (p, c) ∈ m → look m p = some c
  | [], p, c, _, h => nomatch h
  | e :: r, p, c, nd, h => by
    rw [List.map_cons, List.nodup_cons] at nd
    unfold look
    rcases List.mem_cons.mp h with rfl | h
    · exact if_pos rfl
    · have q : e.1 ≠ p := fun z => nd.1 (z ▸ List.mem_map.mpr ⟨_, h, rfl⟩)
      rw [if_neg q]
      exact mem_look nd.2 h
theorem look_put : ∀ (m : CM) (p q : Pt) (c : Int), look (putM m p c) q = if q = p then some c else look m q
  | [], p, q, c => by
    show (if p = q then some c else none) = _
    by_cases h : q = p
    · rw [if_pos h, if_pos h.symm]
    · rw [if_neg h, if_neg (fun z => h z.symm)]
      rfl
  | e :: r, p, q, c => by
    unfold putM
    by_cases h : e.1 = p
    · rw [if_pos h]
      unfold look
      by_cases hq : q = p
      · rw [if_pos hq, if_pos (h.trans hq.symm)]
      · rw [if_neg hq, if_neg (fun z => hq (z.symm.trans h)), if_neg (fun z => hq (z.symm.trans h))]
    · rw [if_neg h]
      unfold look
      by_cases he : e.1 = q
      · rw [if_pos he, if_pos he, if_neg (fun z => h (he.trans z))]
      · rw [if_neg he, if_neg he, look_put r p q c]
theorem keys_put : ∀ {m : CM} {p q : Pt} {c : Int}, q ∈ (putM m p c).map (·.1) → q = p ∨ q ∈ m.map (·.1)
  | m, p, q, c, h => by
    by_cases e : q = p
    · exact .inl e
    · refine .inr (Classical.byContradiction fun n => ?_)
      have z := look_put m p q c
      rw [if_neg e, look_none.mpr n] at z
      exact look_none.mp z h
theorem nd_put : ∀ {m : CM} (p : Pt) (c : Int), (m.map (·.1)).Nodup → ((putM m p c).map (·.1)).Nodup
  | [], p, c, _ => List.nodup_cons.mpr ⟨List.not_mem_nil, List.nodup_nil⟩
  | e :: r, p, c, nd => by
    rw [List.map_cons, List.nodup_cons] at nd
    unfold putM
    by_cases h : e.1 = p
    · rw [if_pos h, List.map_cons, List.nodup_cons]
      exact nd
    · rw [if_neg h, List.map_cons, List.nodup_cons]
      exact ⟨fun z => (keys_put z).elim h nd.1, nd_put p c nd.2⟩
theorem len_put : ∀ (m : CM) (p : Pt) (c : Int), (putM m p c).length ≤ m.length + 1
  | [], _, _ => Nat.le_refl _
  | e :: r, p, c => by
    unfold putM
    have := len_put r p c
    split <;> simp only [List.length_cons] <;> omega
theorem look_drop : ∀ {m : CM} (p q : Pt), (m.map (·.1)).Nodup → look (dropM m p) q = if q = p then none else look m q
  | [], p, q, _ => by
    show (none : Option Int) = if q = p then none else none
    split <;> rfl
  | e :: r, p, q, nd => by
    rw [List.map_cons, List.nodup_cons] at nd
    unfold dropM
    by_cases h : e.1 = p
    · rw [if_pos h]
      by_cases hq : q = p
      · rw [if_pos hq, hq]
        exact look_none.mpr (h ▸ nd.1)
      · rw [if_neg hq]
        conv => rhs; unfold look
        rw [if_neg (fun z => hq (z.symm.trans h))]
    · rw [if_neg h]
      unfold look
      by_cases he : e.1 = q
      · rw [if_pos he, if_pos he, if_neg (fun z => h (he.trans z))]
      · rw [if_neg he, if_neg he, look_drop p q nd.2]
theorem keys_drop : ∀ {m : CM} {p q : Pt}, q ∈ (dropM m p).map (·.1) → q ∈ m.map (·.1)
  | e :: r, p, q, h => by
    unfold dropM at h
    by_cases z : e.1 = p
    · rw [if_pos z] at h
      exact List.mem_cons_of_mem _ h
    · rw [if_neg z] at h
      rcases List.mem_cons.mp h with e2 | h
      · exact List.mem_cons.mpr (.inl e2)
      · exact List.mem_cons_of_mem _ (keys_drop h)
theorem nd_drop : ∀ {m : CM} (p : Pt), (m.map (·.1)).Nodup → ((dropM m p).map (·.1)).Nodup
  | [], p, _ => List.nodup_nil
  | e :: r, p, nd => by
    rw [List.map_cons, List.nodup_cons] at nd
    unfold dropM
    by_cases h : e.1 = p
    · rw [if_pos h]
      exact nd.2
    · rw [if_neg h, List.map_cons, List.nodup_cons]
      exact ⟨fun z => nd.1 (keys_drop z), nd_drop p nd.2⟩
theorem len_drop : ∀ (m : CM) (p : Pt), (dropM m p).length ≤ m.length
  | [], _ => Nat.le_refl _
  | e :: r, p => by
    unfold dropM
    have := len_drop r p
    split <;> simp only [List.length_cons] <;> omega
theorem cell_len (m : CM) : (cellK m).length = m.length := List.length_map _
theorem cell_val : ∀ (m : CM) (p : Pt), valV (cellK m) (ptK p) = (look m p).map V.int
  | [], _ => rfl
  | e :: r, p => by
    unfold look
    by_cases h : e.1 = p
    · rw [if_pos h]
      exact valV_pos (p := (ptK e.1, V.int e.2)) (congrArg ptK h)
    · rw [if_neg h]
      exact (valV_neg (p := (ptK e.1, V.int e.2)) (fun z => h (ptK_inj z))).trans (cell_val r p)
theorem cell_map (p : Pt) (c : Int) : ∀ (m : CM), (m.map (·.1)).Nodup → p ∈ m.map (·.1) → (cellK m).map (fun kv => if kv.1 = ptK p then (kv.1, V.int c) else kv) = cellK (putM m p c)
  | [], _, h => nomatch h
  | e :: r, nd, h => by
    rw [List.map_cons, List.nodup_cons] at nd
    show (if ptK e.1 = ptK p then (ptK e.1, V.int c) else (ptK e.1, V.int e.2)) :: (cellK r).map _ = _
    unfold putM
    by_cases q : e.1 = p
    · rw [if_pos q, if_pos (congrArg ptK q)]
      have nin : p ∉ r.map (·.1) := q ▸ nd.1
      have same : (cellK r).map (fun kv => if kv.1 = ptK p then (kv.1, V.int c) else kv) = cellK r := by
        unfold cellK
        rw [List.map_map]
        refine List.map_congr_left fun y hy => ?_
        show (if ptK y.1 = ptK p then _ else _) = _
        rw [if_neg (fun z => nin (by rw [← ptK_inj z]; exact List.mem_map.mpr ⟨y, hy, rfl⟩))]
      rw [same]
      rfl
    · rw [if_neg q, if_neg (fun z => q (ptK_inj z))]
      rcases List.mem_cons.mp (show p ∈ e.1 :: r.map (·.1) from h) with z | z
      · exact absurd z.symm q
      · rw [cell_map p c r nd.2 z]
        rfl
theorem cell_new (p : Pt) (c : Int) : ∀ (m : CM), p ∉ m.map (·.1) → cellK m ++ [(ptK p, V.int c)] = cellK (putM m p c)
  | [], _ => rfl
  | e :: r, h => by
    unfold putM
    rw [if_neg (fun z => h (List.mem_cons.mpr (.inl z.symm)))]
    show (ptK e.1, V.int e.2) :: (cellK r ++ _) = (ptK e.1, V.int e.2) :: cellK (putM r p c)
    rw [cell_new p c r fun z => h (List.mem_cons_of_mem _ z)]
theorem cell_put {m : CM} (p : Pt) (c : Int) (nd : (m.map (·.1)).Nodup) : putK (cellK m) (ptK p) (.int c) = cellK (putM m p c) := by
  unfold putK
  rw [valV_any, cell_val]
  cases e : look m p with
  | none => exact cell_new p c m (look_none.mp e)
  | some x =>
    refine cell_map p c m nd (Classical.byContradiction fun n => ?_)
    rw [look_none.mpr n] at e
    cases e
theorem cell_drop (p : Pt) : ∀ (m : CM), (m.map (·.1)).Nodup → dropK (cellK m) (ptK p) = cellK (dropM m p)
  | [], _ => rfl
  | e :: r, nd => by
    rw [List.map_cons, List.nodup_cons] at nd
    unfold dropM
    show dropK ((ptK e.1, V.int e.2) :: cellK r) (ptK p) = _
    by_cases h : e.1 = p
    · rw [if_pos h, dropK_pos (congrArg ptK h)]
      refine dropK_no fun z => ?_
      obtain ⟨y, hy, ey⟩ := List.mem_map.mp z
      obtain ⟨w, hw, rfl⟩ := List.mem_map.mp hy
      have nin : p ∉ r.map (·.1) := h ▸ nd.1
      have ew : w.1 = p := ptK_inj ey
      exact nin (by rw [← ew]; exact List.mem_map.mpr ⟨w, hw, rfl⟩)
    · rw [if_neg h, dropK_neg (fun z => h (ptK_inj z)), cell_drop p r nd.2]
      rfl
/-! ### floors -/
abbrev Sq := Int × Int × Int
def Sq.pt (s : Sq) : Pt := (s.1, s.2.1)
def sqD (s : Sq) : PyData := .tuple [.int s.1, .int s.2.1, .int s.2.2]
def floorD (F : List Sq) : PyData := .tuple (F.map sqD)
def ltP (p q : Pt) : Prop := p.1 < q.1 ∨ (p.1 = q.1 ∧ p.2 < q.2)
theorem ltP_irr (p : Pt) : ¬ ltP p p := fun h => by
  rcases h with h | h <;> omega
theorem ltP_tr {p q r : Pt} (a : ltP p q) (b : ltP q r) : ltP p r := by
  unfold ltP at *
  omega
theorem ltP_tot {p q : Pt} (h : p ≠ q) : ltP p q ∨ ltP q p := by
  by_cases e1 : p.1 = q.1
  · have e2 : p.2 ≠ q.2 := fun e2 => h (Prod.ext e1 e2)
    unfold ltP
    omega
  · unfold ltP
    omega
/-- the floor that is painted so, its squares in their order -/
structure FloorOf (f : Pt → Int) (F : List Sq) : Prop where
  asc : F.Pairwise fun a b => ltP a.pt b.pt
  mem : ∀ s : Sq, s ∈ F ↔ s.2.2 = f s.pt ∧ s.2.2 ≠ 0
theorem asc_eq : ∀ {F G : List Sq}, (F.Pairwise fun a b => ltP a.pt b.pt) → (G.Pairwise fun a b => ltP a.pt b.pt) → (∀ s, s ∈ F ↔ s ∈ G) → F = G
  | [], [], _, _, _ => rfl
  | [], b :: G, _, _, h => nomatch (h b).mpr List.mem_cons_self
  | a :: F, [], _, _, h => nomatch (h a).mp List.mem_cons_self
  | a :: F, b :: G, hF, hG, h => by
    obtain ⟨a1, a2⟩ := List.pairwise_cons.mp hF
    obtain ⟨b1, b2⟩ := List.pairwise_cons.mp hG
    have e : a = b := by
      rcases List.mem_cons.mp ((h a).mp List.mem_cons_self) with e | ha
      · exact e
      · rcases List.mem_cons.mp ((h b).mpr List.mem_cons_self) with e | hb
        · exact e.symm
        · exact absurd (ltP_tr (b1 a ha) (a1 b hb)) (ltP_irr _)
    subst e
    refine congrArg (a :: ·) (asc_eq a2 b2 fun s => ⟨fun hs => ?_, fun hs => ?_⟩)
    · rcases List.mem_cons.mp ((h s).mp (List.mem_cons_of_mem _ hs)) with e | k
      · exact absurd (e ▸ a1 s hs) (ltP_irr _)
      · exact k
    · rcases List.mem_cons.mp ((h s).mpr (List.mem_cons_of_mem _ hs)) with e | k
      · exact absurd (e ▸ b1 s hs) (ltP_irr _)
      · exact k
theorem FloorOf.uniq {f : Pt → Int} {F G : List Sq} (a : FloorOf f F) (b : FloorOf f G) : F = G := asc_eq a.asc b.asc fun s => (a.mem s).trans (b.mem s).symm
/-- the cells of a floor -/
def cellsOf (F : List Sq) : CM := F.map fun s => (s.pt, s.2.2)
theorem asc_nd {F : List Sq} (h : F.Pairwise fun a b => ltP a.pt b.pt) : ((cellsOf F).map (·.1)).Nodup := by
  unfold cellsOf
  rw [List.map_map, List.Nodup, List.pairwise_map]
  refine h.imp fun {a b} l => ?_
  intro (e : a.pt = b.pt)
  rw [← e] at l
  exact ltP_irr _ l
def colF (F : List Sq) (p : Pt) : Int := col (cellsOf F) p
theorem colF_of {F : List Sq} (asc : F.Pairwise fun a b => ltP a.pt b.pt) (nz : ∀ s ∈ F, s.2.2 ≠ 0) : FloorOf (colF F) F := by
  refine ⟨asc, fun s => ⟨fun h => ⟨?_, nz s h⟩, fun h => ?_⟩⟩
  · have e := mem_look (asc_nd asc) (show (s.pt, s.2.2) ∈ cellsOf F from List.mem_map.mpr ⟨s, h, rfl⟩)
    unfold colF col
    rw [e]
    rfl
  · obtain ⟨h1, h2⟩ := h
    unfold colF col at h1
    cases e : look (cellsOf F) s.pt with
    | none =>
      rw [e] at h1
      exact absurd h1 h2
    | some c =>
      rw [e] at h1
      obtain ⟨t, ht, et⟩ := List.mem_map.mp (look_mem e)
      have e1 : t.pt = s.pt := congrArg Prod.fst et
      have e2 : t.2.2 = c := congrArg Prod.snd et
      have e3 : t = s := by
        obtain ⟨x, y, z⟩ := t
        obtain ⟨x', y', z'⟩ := s
        have q1 : x = x' := congrArg Prod.fst e1
        have q2 : y = y' := congrArg Prod.snd e1
        have q3 : z = c := e2
        have q4 : z' = c := h1
        rw [q1, q2, q3, q4]
      exact e3 ▸ ht
theorem FloorOf.col {f : Pt → Int} {F : List Sq} (h : FloorOf f F) : colF F = f := by
  funext p
  have g := colF_of h.asc fun s hs => ((h.mem s).mp hs).2
  by_cases z : f p = 0
  · by_cases y : colF F p = 0
    · rw [y, z]
    · have m := (g.mem (p.1, p.2, colF F p)).mpr ⟨rfl, y⟩
      have q := ((h.mem _).mp m).1
      exact q
  · have m := (h.mem (p.1, p.2, f p)).mpr ⟨rfl, z⟩
    exact (((g.mem _).mp m).1).symm
local macro_rules | `(tactic| walk_at "cl") => `(tactic| first | assumption | omega | exact rfl | exact SqL.of (by assumption) | exact SqT.of (by assumption) | exact SqL.of upd_same | exact SqT.of upd_same | exact upd_same | exact tyx_tup (by assumption) | exact TyX.base (.int _) | exact TyX.base (.str _) | exact TyX.base .non | exact TyX.base (.bl _) | exact tyx_lst (by first | assumption | exact SqL.of (by assumption)) | exact at0 | exact at1 | exact at2 | exact at3 | exact ⟨_, by assumption⟩ | exact ⟨_, rfl⟩ | exact ⟨_, SqL.of (by assumption)⟩ | exact ⟨_, SqL.of upd_same⟩ | exact ⟨_, SqT.of (by assumption)⟩ | exact Nat.le_of_ble_eq_true rfl | exact Or.inl ⟨rfl, _, SqL.of (by assumption)⟩ | exact Or.inl ⟨rfl, _, SqL.of upd_same⟩ | exact Dp.non | exact Dp.int _ | exact Dp.bl _ | exact Dp.str _ | exact True.intro | solve_by_elim | decide)
local macro_rules | `(tactic| walk_at "lp") => `(tactic| (fail_if_success refine Exists.intro (w := (fun (_ : Nat) (_ : Nat) (_ : L2.St) (_ : Hp) => True)) ?_); (fail_if_success refine Exists.intro (w := (fun (_ : Nat) (_ : L2.St) (_ : Hp) => True)) ?_); (fail_if_success refine Exists.intro (w := (fun (_ : Nat) (_ : Nat) (_ : Hp) => True)) ?_))
local macro_rules | `(tactic| walk_at "st") => `(tactic| repeat (first | (apply And.intro; (· walk_at "cl")) | (walk_at "lp"; apply Exists.intro)))
local macro_rules | `(tactic| walk_at "cl") => `(tactic| first | exact sl32 | exact sl42)
def topS (i : Nat) : Stmt := PySem.Challenge.pw_streetpapers_k11_whole_rings.main.body.getD i (.Pass ⟨0, 0, 0, 0⟩)
abbrev s_is_whole : Stmt := topS 9
theorem sc_is_whole : FnScope ["value", "least", "greatest"] ["value", "least", "greatest"] (defScope s_is_whole) := ⟨rfl, rfl, rfl, by decide +kernel, rfl, by decide +kernel, by decide +kernel⟩
abbrev s_is_place : Stmt := topS 10
theorem sc_is_place : FnScope ["value"] ["value"] (defScope s_is_place) := ⟨rfl, rfl, rfl, by decide +kernel, rfl, by decide +kernel, by decide +kernel⟩
abbrev s_check_number : Stmt := topS 11
theorem sc_check_number : FnScope ["value", "least", "greatest"] ["value", "least", "greatest"] (defScope s_check_number) := ⟨rfl, rfl, rfl, by decide +kernel, rfl, by decide +kernel, by decide +kernel⟩
abbrev s_check_table : Stmt := topS 16
theorem sc_check_table : FnScope ["value"] ["value"] (defScope s_check_table) := ⟨rfl, rfl, rfl, by decide +kernel, rfl, by decide +kernel, by decide +kernel⟩
abbrev s_is_table : Stmt := topS 17
theorem sc_is_table : FnScope ["value", "state", "entry"] ["value"] (defScope s_is_table) := ⟨rfl, rfl, rfl, by decide +kernel, rfl, by decide +kernel, by decide +kernel⟩
abbrev s_u_is_entry : Stmt := topS 18
theorem sc_u_is_entry : FnScope ["value", "colours", "states", "paint", "turn", "state"] ["value", "colours", "states"] (defScope s_u_is_entry) := ⟨rfl, rfl, rfl, by decide +kernel, rfl, by decide +kernel, by decide +kernel⟩
abbrev s_check_floor : Stmt := topS 22
theorem sc_check_floor : FnScope ["value", "colours", "index", "square"] ["value", "colours"] (defScope s_check_floor) := ⟨rfl, rfl, rfl, by decide +kernel, rfl, by decide +kernel, by decide +kernel⟩
abbrev s_painted_places : Stmt := topS 23
theorem sc_painted_places : FnScope ["floor", "x", "y", "colour"] ["floor"] (defScope s_painted_places) := ⟨rfl, rfl, rfl, by decide +kernel, rfl, by decide +kernel, by decide +kernel⟩
abbrev s_floor_of : Stmt := topS 24
theorem sc_floor_of : FnScope ["painted", "x", "y"] ["painted"] (defScope s_floor_of) := ⟨rfl, rfl, rfl, by decide +kernel, rfl, by decide +kernel, by decide +kernel⟩
abbrev s_paint_square : Stmt := topS 25
theorem sc_paint_square : FnScope ["painted", "place", "colour"] ["painted", "place", "colour"] (defScope s_paint_square) := ⟨rfl, rfl, rfl, by decide +kernel, rfl, by decide +kernel, by decide +kernel⟩
abbrev s_u_is_square : Stmt := topS 26
theorem sc_u_is_square : FnScope ["value", "colours"] ["value", "colours"] (defScope s_u_is_square) := ⟨rfl, rfl, rfl, by decide +kernel, rfl, by decide +kernel, by decide +kernel⟩
abbrev s_check_stand : Stmt := topS 30
theorem sc_check_stand : FnScope ["table", "floor", "walker"] ["table", "floor", "walker"] (defScope s_check_stand) := ⟨rfl, rfl, rfl, by decide +kernel, rfl, by decide +kernel, by decide +kernel⟩
abbrev s_check_walker : Stmt := topS 31
theorem sc_check_walker : FnScope ["value", "states"] ["value", "states"] (defScope s_check_walker) := ⟨rfl, rfl, rfl, by decide +kernel, rfl, by decide +kernel, by decide +kernel⟩
abbrev s_is_walker : Stmt := topS 32
theorem sc_is_walker : FnScope ["value", "states"] ["value", "states"] (defScope s_is_walker) := ⟨rfl, rfl, rfl, by decide +kernel, rfl, by decide +kernel, by decide +kernel⟩
abbrev s_u_walker_behind : Stmt := topS 34
theorem sc_u_walker_behind : FnScope ["walker", "entry", "x", "y", "heading", "_", "turn", "state", "dx", "dy"] ["walker", "entry"] (defScope s_u_walker_behind) := ⟨rfl, rfl, rfl, by decide +kernel, rfl, by decide +kernel, by decide +kernel⟩
abbrev s_ring_walk : Stmt := topS 39
theorem sc_ring_walk : FnScope ["table", "floor", "walker", "wide", "high", "many", "stroll", "done"] ["table", "floor", "walker", "wide", "high", "many"] (defScope s_ring_walk) := ⟨rfl, rfl, rfl, by decide +kernel, rfl, by decide +kernel, by decide +kernel⟩
abbrev s_ring_life : Stmt := topS 40
theorem sc_ring_life : FnScope ["table", "floor", "walker", "wide", "high", "stroll", "code", "seen", "done", "stand", "place", "colour", "paint", "x", "y"] ["table", "floor", "walker", "wide", "high"] (defScope s_ring_life) := ⟨rfl, rfl, rfl, by decide +kernel, rfl, by decide +kernel, by decide +kernel⟩
abbrev s_u_check_ring : Stmt := topS 41
theorem sc_u_check_ring : FnScope ["table", "floor", "walker", "wide", "high", "index", "x", "y", "_"] ["table", "floor", "walker", "wide", "high"] (defScope s_u_check_ring) := ⟨rfl, rfl, rfl, by decide +kernel, rfl, by decide +kernel, by decide +kernel⟩
abbrev s_u_lies_on : Stmt := topS 42
theorem sc_u_lies_on : FnScope ["x", "y", "wide", "high"] ["x", "y", "wide", "high"] (defScope s_u_lies_on) := ⟨rfl, rfl, rfl, by decide +kernel, rfl, by decide +kernel, by decide +kernel⟩
abbrev s_u_step_round : Stmt := topS 43
theorem sc_u_step_round : FnScope ["stroll", "wide", "high", "ahead", "colour", "paint", "x", "y", "heading", "state"] ["stroll", "wide", "high"] (defScope s_u_step_round) := ⟨rfl, rfl, rfl, by decide +kernel, rfl, by decide +kernel, by decide +kernel⟩
abbrev s_u_coded : Stmt := topS 44
theorem sc_u_coded : FnScope ["place", "colour", "wide"] ["place", "colour", "wide"] (defScope s_u_coded) := ⟨rfl, rfl, rfl, by decide +kernel, rfl, by decide +kernel, by decide +kernel⟩
abbrev s_can_be_undone : Stmt := topS 46
theorem sc_can_be_undone : FnScope ["table"] ["table"] (defScope s_can_be_undone) := ⟨rfl, rfl, rfl, by decide +kernel, rfl, by decide +kernel, by decide +kernel⟩
abbrev s_u_entries : Stmt := topS 47
theorem sc_u_entries : FnScope ["table", "found", "state", "row", "colour", "entry"] ["table"] (defScope s_u_entries) := ⟨rfl, rfl, rfl, by decide +kernel, rfl, by decide +kernel, by decide +kernel⟩
abbrev s_u_loses_nothing : Stmt := topS 48
theorem sc_u_loses_nothing : FnScope ["table", "ends", "_", "paint", "state"] ["table"] (defScope s_u_loses_nothing) := ⟨rfl, rfl, rfl, by decide +kernel, rfl, by decide +kernel, by decide +kernel⟩
abbrev s_law_taken : Stmt := topS 50
theorem sc_law_taken : FnScope ["row", "many", "found", "cell"] ["row", "many"] (defScope s_law_taken) := ⟨rfl, rfl, rfl, by decide +kernel, rfl, by decide +kernel, by decide +kernel⟩
abbrev s_law_pick : Stmt := topS 51
theorem sc_law_pick : FnScope ["row", "things"] ["row", "things"] (defScope s_law_pick) := ⟨rfl, rfl, rfl, by decide +kernel, rfl, by decide +kernel, by decide +kernel⟩
abbrev s_law_table : Stmt := topS 52
theorem sc_law_table : FnScope ["row", "states", "colours", "stop", "found", "state", "line", "colour", "entry"] ["row"] (defScope s_law_table) := ⟨rfl, rfl, rfl, by decide +kernel, rfl, by decide +kernel, by decide +kernel⟩
abbrev s_law_undone_table : Stmt := topS 53
theorem sc_law_undone_table : FnScope ["row", "states", "colours", "pairs", "found", "state", "line", "colour", "pair", "k"] ["row"] (defScope s_law_undone_table) := ⟨rfl, rfl, rfl, by decide +kernel, rfl, by decide +kernel, by decide +kernel⟩
abbrev s_law_floor : Stmt := topS 54
theorem sc_law_floor : FnScope ["cells", "place"] ["cells"] (defScope s_law_floor) := ⟨rfl, rfl, rfl, by decide +kernel, rfl, by decide +kernel, by decide +kernel⟩
abbrev s_law_ahead : Stmt := topS 55
theorem sc_law_ahead : FnScope ["place", "heading"] ["place", "heading"] (defScope s_law_ahead) := ⟨rfl, rfl, rfl, by decide +kernel, rfl, by decide +kernel, by decide +kernel⟩
abbrev s_law_step : Stmt := topS 56
theorem sc_law_step : FnScope ["table", "cells", "walker", "place", "entry", "heading"] ["table", "cells", "walker"] (defScope s_law_step) := ⟨rfl, rfl, rfl, by decide +kernel, rfl, by decide +kernel, by decide +kernel⟩
abbrev s_law_alike : Stmt := topS 57
theorem sc_law_alike : FnScope ["found", "due", "k"] ["found", "due"] (defScope s_law_alike) := ⟨rfl, rfl, rfl, by decide +kernel, rfl, by decide +kernel, by decide +kernel⟩
abbrev s_law : Stmt := topS 58
theorem sc_law : FnScope ["script", "row", "table", "wide", "high", "cells", "turn", "walker", "many", "floor", "stands", "seen", "here", "stop", "after", "due", "told", "last", "error"] ["script"] (defScope s_law) := ⟨rfl, rfl, rfl, by decide +kernel, rfl, by decide +kernel, by decide +kernel⟩
abbrev s_BadFloor_init : Stmt := inClass (topS 3) 0
theorem sc_BadFloor_init : FnScope ["self", "index"] ["self", "index"] (defScope s_BadFloor_init) := ⟨rfl, rfl, rfl, by decide +kernel, rfl, by decide +kernel, by decide +kernel⟩
abbrev s_TooMany_init : Stmt := inClass (topS 6) 0
theorem sc_TooMany_init : FnScope ["self", "most"] ["self", "most"] (defScope s_TooMany_init) := ⟨rfl, rfl, rfl, by decide +kernel, rfl, by decide +kernel, by decide +kernel⟩
abbrev s_Stroll_init : Stmt := inClass (topS 33) 0
theorem sc_Stroll_init : FnScope ["self", "table", "floor", "walker", "ground"] ["self", "table", "floor", "walker", "ground"] (defScope s_Stroll_init) := ⟨rfl, rfl, rfl, by decide +kernel, rfl, by decide +kernel, by decide +kernel⟩
abbrev s_Stroll_colour_of : Stmt := inClass (topS 33) 1
theorem sc_Stroll_colour_of : FnScope ["self", "place"] ["self", "place"] (defScope s_Stroll_colour_of) := ⟨rfl, rfl, rfl, by decide +kernel, rfl, by decide +kernel, by decide +kernel⟩
abbrev s_Stroll_paint : Stmt := inClass (topS 33) 2
theorem sc_Stroll_paint : FnScope ["self", "place", "colour"] ["self", "place", "colour"] (defScope s_Stroll_paint) := ⟨rfl, rfl, rfl, by decide +kernel, rfl, by decide +kernel, by decide +kernel⟩
abbrev s_Stroll_reading : Stmt := inClass (topS 33) 3
theorem sc_Stroll_reading : FnScope ["self"] ["self"] (defScope s_Stroll_reading) := ⟨rfl, rfl, rfl, by decide +kernel, rfl, by decide +kernel, by decide +kernel⟩
abbrev s_Stroll_has_stopped : Stmt := inClass (topS 33) 4
theorem sc_Stroll_has_stopped : FnScope ["self", "state", "colour"] ["self"] (defScope s_Stroll_has_stopped) := ⟨rfl, rfl, rfl, by decide +kernel, rfl, by decide +kernel, by decide +kernel⟩
abbrev s_Stroll_go : Stmt := inClass (topS 33) 5
theorem sc_Stroll_go : FnScope ["self", "many", "told", "_", "place", "colour", "entry"] ["self", "many"] (defScope s_Stroll_go) := ⟨rfl, rfl, rfl, by decide +kernel, rfl, by decide +kernel, by decide +kernel⟩
/-- what the top has left of built-in names and constants -/
structure Txt (K : PySem.W.Frag) (mg : Str → Option Value) : Prop where
  m_ValueError : mg "ValueError" = none
  m_all : mg "all" = none
  m_bool : mg "bool" = none
  m_enumerate : mg "enumerate" = none
  m_int : mg "int" = none
  m_isinstance : mg "isinstance" = none
  m_len : mg "len" = none
  m_list : mg "list" = none
  m_min : mg "min" = none
  m_range : mg "range" = none
  m_set : mg "set" = none
  m_sorted : mg "sorted" = none
  m_str : mg "str" = none
  m_sum : mg "sum" = none
  m_tuple : mg "tuple" = none
  far : ∃ t, mg "FAR" = some (.int 1000000000000000000000000000000000000000000000000000000000000 t)
  most_states : ∃ t, mg "MOST_STATES" = some (.int 10 t)
  fewest_colours : ∃ t, mg "FEWEST_COLOURS" = some (.int 2 t)
  most_colours : ∃ t, mg "MOST_COLOURS" = some (.int 6 t)
  most_squares : ∃ t, mg "MOST_SQUARES" = some (.int 4000 t)
  most_steps : ∃ t, mg "MOST_STEPS" = some (.int 100000 t)
  ahead : AheadAt K mg
  longest_side : ∃ t, mg "LONGEST_SIDE" = some (.int 40 t)
  most_lived : ∃ t, mg "MOST_LIVED" = some (.int 20000 t)
  bits_of_colour : ∃ t, mg "BITS_OF_COLOUR" = some (.int 3 t)
section
variable {P : Program} {w : World} {K : PySem.W.Frag} {mg : Str → Option Value} {base : Heap}
theorem ok_law_taken (T : Txt K mg) (D : DefAt K mg "_law_taken" s_law_taken ["row", "many"]) : Cal P w K mg base CX0 "_law_taken" 1 ["row", "many"] (spTaken K) := by
  refine D.cal sc_law_taken (fun vs H Q E h => ?_) (fun f cdv A outer s H vs Q E hr h => ?_)
  · obtain ⟨r, many, rfl, _⟩ := h
    rfl
  · obtain ⟨r, many, rfl, ⟨t, ns, i, m, c, hrow, hS, hi, hm0, hm1, hc⟩, hp, hb, q⟩ := h
    refine ⟨_, (pss_cons (ps_if (pt_cmpR op_gt (pe_ix (k_ix_list (K := K)) (pv 0) pe_int (fun _ _ => rfl)) pe_int (nomark _)) (pss_cons (ps_set (i := 2) sc_law_taken.nd rfl (Or.inl rfl) (pe_op op_mod (pe_callTy call_int_i (by rfl) T.m_int (by decide +kernel) (pa_cons (pe_ix (k_ix_list (K := K)) (pv 0) pe_int (fun _ _ => rfl)) pa_nil)) (pv 1)))
      (pss_cons (ps_asg (pe_op op_fdivW (pe_ix (k_ix_list (K := K)) (pv 0) pe_int (fun _ _ => rfl)) (pv 1)) (pg_sub (pv 0) pe_int set_list))
      (pss_one (ps_ret (pv 2))))) pss_nil)
      (pss_cons (ps_asg (pe_op op_add (pe_ix (k_ix_list (K := K)) (pv 0) pe_int (fun _ _ => rfl)) pe_int) (pg_sub (pv 0) pe_int set_list))
      (pss_cons (ps_if (pt_cmpR op_gt (pe_ix (k_ix_list (K := K)) (pv 0) pe_int (fun _ _ => rfl)) (pe_callB (k_len_l (K := K)) (by rfl) T.m_len (by decide +kernel) (pa_cons (pe_ix (k_ix_list (K := K)) (pv 0) pe_int (fun _ _ => rfl)) pa_nil)) (nomark _)) (pss_cons (ps_asg (pe_op op_mod (pe_callTy call_int_i (by rfl) T.m_int (by decide +kernel) (pa_cons (pe_op op_add (pe_op op_mul (pe_ix (k_ix_list (K := K)) (pv 0) pe_int (fun _ _ => rfl)) pe_int) pe_int) pa_nil)) pe_int) (pg_sub (pv 0) pe_int set_list))
      (pss_one (ps_ret (pe_op op_mod (pe_callTy call_int_i (by rfl) T.m_int (by decide +kernel) (pa_cons (pe_op op_fdivW (pe_ix (k_ix_list (K := K)) (pv 0) pe_int (fun _ _ => rfl)) pe_int) pa_nil)) (pv 1))))) pss_nil)
      (pss_cons (ps_set (i := 3) sc_law_taken.nd rfl (Or.inl rfl) (pe_ix (k_ix_list (K := K)) (pe_ix (k_ix_list (K := K)) (pv 0) pe_int (fun _ _ => rfl)) (pe_op op_sub (pe_ix (k_ix_list (K := K)) (pv 0) pe_int (fun _ _ => rfl)) pe_int) (fun _ _ => rfl)))
      (pss_cons (ps_asg (pe_op op_mod (pe_callTy call_int_i (by rfl) T.m_int (by decide +kernel) (pa_cons (pe_op op_add (pe_op op_add (pe_op op_mul (pe_ix (k_ix_list (K := K)) (pv 0) pe_int (fun _ _ => rfl)) pe_int) (pv 3)) pe_int) pa_nil)) pe_int) (pg_sub (pv 0) pe_int set_list))
      (pss_cons (ps_if (pt_cmpR op_ge (pv 3) (pe_op op_pow pe_int pe_int) (nomark _)) (pss_one (ps_asg (pe_op op_fdivW (pv 3) (pv 1)) (pg_sub (pv 0) pe_int set_list))) pss_nil)
      (pss_one (ps_ret (pe_op op_mod (pe_callTy call_int_i (by rfl) T.m_int (by decide +kernel) (pa_cons (pv 3) pa_nil)) (pv 1)))))))))), ?_⟩
    have hdiv : ∀ c, CDivW c many := fun c => wide_div hp (show many.natAbs < 2 ^ 250 by omega) (by decide) (by decide)
    have hdiv7 : ∀ c, CDivW c 7 := fun c => ⟨by decide, by decide⟩
    have hmul : ∀ c, CMul c 48271 := fun c => .inr ⟨by decide, by decide⟩
    have hpow : CPow 10 18 := ⟨by decide, by decide, by decide⟩
    have hk : ∀ o, KeepB r H (upd H r o) := fun o => KeepB.put
    have hs := hS.sq
    have hS1 : ∀ o, Scr K (upd H r o) t ns := fun o => hS.mono (TK.lst hrow)
    have hs1 : ∀ o, SqL K (upd H r o) t (ns.map V.int) := fun o => (hS1 o).sq
    have hs2 : ∀ o o', SqL K (upd (upd H r o) r o') t (ns.map V.int) := fun o o' => by rw [upd_upd]; exact hs1 _
    have hmod : ∀ x : Int, 0 ≤ x % 2147483647 ∧ x % 2147483647 < 2147483647 := fun x => ⟨Int.emod_nonneg _ (by decide), Int.emod_lt_of_pos _ (by decide)⟩
    have fin : ∀ (x i' m' c' : Int), 0 ≤ i' → 0 ≤ m' → m' < 2147483647 → 0 ≤ c' → Q (.int (x % many)) (upd H r (.lst [.ref t, .int i', .int m', .int c'])) := fun x i' m' c' h1 h2 h3 h4 =>
      q _ _ (Int.emod_nonneg _ (by omega)) (Int.emod_lt_of_pos _ hp) ⟨t, ns, i', m', c', upd_same, hS1 _, h1, h2, h3, h4⟩ (hk _)
    walk_at "st"
    refine ite2 (fun e => ?_) (fun e => ?_)
    · have e := of_decide_eq_true e
      walk_at "st"
      exact fin c i m (c / many) hi hm0 hm1 (Int.ediv_nonneg hc (by omega))
    · walk_at "st"
      refine ite2 (fun e => ?_) (fun e => ?_)
      · walk_at "st"
        simp only [upd_upd]
        exact fin _ (i + 1) _ c (by omega) (hmod _).1 (hmod _).2 hc
      · have e2 : ¬ ((i + 1 : Int) > ((ns.map V.int).length : Int)) := fun z => e (decide_eq_true z)
        rw [List.length_map] at e2
        have hat : ∃ z, atI (ns.map V.int) (i + 1 - 1) = some (.int z) := by
          obtain ⟨j, rfl⟩ : ∃ j : Nat, i = (j : Int) := ⟨i.toNat, by omega⟩
          have hj : j < ns.length := by omega
          refine ⟨ns[j], ?_⟩
          rw [show ((j : Int) + 1 - 1) = (j : Int) by omega]
          exact atI_nat (by rw [List.getElem?_map, List.getElem?_eq_getElem hj]; rfl)
        obtain ⟨z, hat⟩ := hat
        walk_at "st"
        refine ite2 (fun e => ?_) (fun e => ?_)
        · have e := of_decide_eq_true e
          walk_at "st"
          simp only [upd_upd]
          have hz : (0 : Int) ≤ z := Int.le_trans (by decide) e
          exact fin _ (i + 1) _ _ (by omega) (hmod _).1 (hmod _).2 (Int.ediv_nonneg hz (by omega))
        · walk_at "st"
          simp only [upd_upd]
          exact fin _ (i + 1) _ c (by omega) (hmod _).1 (hmod _).2 hc
end

/-! ### tables -/
abbrev Ent := Option (Int × Int × Int)
def entD : Ent → PyData
  | none => .none
  | some e => .tuple [.int e.1, .int e.2.1, .int e.2.2]
def rowD (r : List Ent) : PyData := .tuple (r.map entD)
def tabD (T : List (List Ent)) : PyData := .tuple (T.map rowD)
def EntOk (c n : Int) : Ent → Prop
  | none => True
  | some e => (0 ≤ e.1 ∧ e.1 < c) ∧ (0 ≤ e.2.1 ∧ e.2.1 < 4) ∧ (0 ≤ e.2.2 ∧ e.2.2 < n)
def TabOk (c n : Nat) (T : List (List Ent)) : Prop := T.length = n ∧ ∀ r ∈ T, r.length = c ∧ ∀ e ∈ r, EntOk c n e
def spTable (K : PySem.W.Frag) : Sp := fun vs H Q _ => ∃ r : Addr, vs = [.ref r] ∧ Row K H r ∧
  ∀ (v : V) (H' : Hp) (c n : Nat) (T : List (List Ent)), 1 ≤ n → n ≤ 2 → 2 ≤ c → c ≤ 3 → TabOk c n T → Tp K H' v (tabD T) → Row K H' r → KeepB r H H' → Q v H'
section
variable {P : Program} {w : World} {K : PySem.W.Frag} {mg : Str → Option Value} {base : Heap}
theorem ok_law_table (T : Txt K mg) (D : DefAt K mg "_law_table" s_law_table ["row"]) (C_law_taken : Cal P w K mg base CX0 "_law_taken" 1 ["row", "many"] (spTaken K)) : Cal P w K mg base CX0 "_law_table" 2 ["row"] (spTable K) := by
  refine D.cal sc_law_table (fun vs H Q E h => ?_) (fun f cdv A outer s H vs Q E hr h => ?_)
  · obtain ⟨r, rfl, _⟩ := h
    rfl
  · obtain ⟨r, rfl, hrow, q⟩ := h
    refine ⟨_, (pss_cons (ps_par3 (i := 1) (j := 2) (l := 3) (by rfl) sc_law_table.nd rfl rfl rfl (by decide) (by decide) (by decide) rfl rfl rfl (pa_cons (pe_op op_add pe_int (pe_own C_law_taken hr (by first | decide | omega) (pa_cons (pv 0) (pa_cons pe_int pa_nil)))) (pa_cons (pe_op op_add pe_int (pe_own C_law_taken hr (by first | decide | omega) (pa_cons (pv 0) (pa_cons pe_int pa_nil)))) (pa_cons (pe_own C_law_taken hr (by first | decide | omega) (pa_cons (pv 0) (pa_cons pe_int pa_nil))) pa_nil))) (by rfl))
      (pss_cons (ps_set (i := 4) sc_law_table.nd rfl (Or.inl rfl) (pe_lst pa_nil))
      (pss_cons (ps_for PassesOwn.never rfl (pi_range1 (by rfl) T.m_range (pa_cons (pv 1) pa_nil)) (pg_name (i := 5) sc_law_table.nd rfl (Or.inl rfl))
      (pss_cons (ps_set (i := 6) sc_law_table.nd rfl (Or.inl rfl) (pe_lst pa_nil))
      (pss_cons (ps_for PassesOwn.never rfl (pi_range1 (by rfl) T.m_range (pa_cons (pv 2) pa_nil)) (pg_name (i := 7) sc_law_table.nd rfl (Or.inl rfl))
      (pss_cons (ps_set (i := 8) sc_law_table.nd rfl (Or.inl rfl) (pe_tup (pa_cons (pe_own C_law_taken hr (by first | decide | omega) (pa_cons (pv 0) (pa_cons (pv 2) pa_nil))) (pa_cons (pe_own C_law_taken hr (by first | decide | omega) (pa_cons (pv 0) (pa_cons pe_int pa_nil))) (pa_cons (pe_own C_law_taken hr (by first | decide | omega) (pa_cons (pv 0) (pa_cons (pv 1) pa_nil))) pa_nil)))))
      (pss_one (ps_expr (pe_bm PySem.F.plainAttrs_list PySem.F.slot_list_append PySem.F.type_list_append mt_append (pv 6) (pa_cons (pe_ifExp (PW.pt (pw_and (pt_cmpR op_eq (pv 3) pe_int (nomark _)) (pw_and1 (pt_cmpR op_eq (pe_own C_law_taken hr (by first | decide | omega) (pa_cons (pv 0) (pa_cons pe_int pa_nil))) pe_int (nomark _))))) pe_non (pv 8)) pa_nil))))))
      (pss_one (ps_expr (pe_bm PySem.F.plainAttrs_list PySem.F.slot_list_append PySem.F.type_list_append mt_append (pv 4) (pa_cons (pe_callTy (k_tuple_l (K := K)) (by rfl) T.m_tuple (by decide +kernel) (pa_cons (pv 6) pa_nil)) pa_nil)))))))
      (pss_one (ps_ret (pe_callTy (k_tuple_l (K := K)) (by rfl) T.m_tuple (by decide +kernel) (pa_cons (pv 4) pa_nil))))))), ?_⟩
    walk_at "st"
    intro n' H1 hn0 hn2 R1 k1
    walk_at "st"
    intro c' H2 hc0 hc2 R2 k2
    walk_at "st"
    intro stop H3 hs0 hs4 R3 k3
    walk_at "st"
    intro p np
    have k03 : KeepB r H H3 := (k1.trans k2).trans k3
    have npr : p ≠ r := R3.ne np
    walk_at "st"
    refine for_range (lo := 0) (n := (1 + n').toNat) (fun i σ H' => Ok (∃ (y5 y6 y7 y8 : Option V) (vs : List V) (rows : List (List Ent)), σ = [some (.ref r), some (.int (1 + n')), some (.int (2 + c')), some (.int stop), some (.ref p), y5, y6, y7, y8] ∧
      rows.length = i ∧ (∀ row ∈ rows, row.length = (2 + c').toNat ∧ ∀ e ∈ row, EntOk (2 + c') (1 + n') e) ∧ H' p = some (.lst vs) ∧ TpAll K H' vs (rows.map rowD) ∧ Row K H' r ∧ KeepB r H3 H')) ?_ ?_ ?_
    · exact ⟨_, _, _, _, [], [], rfl, rfl, fun _ h => absurd h List.not_mem_nil, upd_same, .nil, R3.new np, KeepB.new np⟩
    · rintro i σ H4 hi ⟨y5, y6, y7, y8, vs, rows, rfl, hl, hok, hp, hvs, R4, k4⟩
      walk_at "st"
      intro l nl
      have nlp : l ≠ p := (ne_of_none hp nl).symm
      have nlr : l ≠ r := R4.ne nl
      walk_at "st"
      refine for_range (lo := 0) (n := (2 + c').toNat) (fun j σ H' => Ok (∃ (y7 y8 : Option V) (ws : List V) (row : List Ent), σ = [some (.ref r), some (.int (1 + n')), some (.int (2 + c')), some (.int stop), some (.ref p), some (.int (0 + (i : Int))), some (.ref l), y7, y8] ∧
        row.length = j ∧ (∀ e ∈ row, EntOk (2 + c') (1 + n') e) ∧ H' l = some (.lst ws) ∧ TpAll K H' ws (row.map entD) ∧ H' p = some (.lst vs) ∧ TpAll K H' vs (rows.map rowD) ∧ Row K H' r ∧ KeepB r H3 H')) ?_ ?_ ?_
      · exact ⟨_, _, [], [], rfl, rfl, fun _ h => absurd h List.not_mem_nil, upd_same, .nil, by rw [upd_ne nlp.symm]; exact hp, TpAll.mono (TK.new nl) _ _ hvs, R4.new nl, k4.trans (KeepB.new nl)⟩
      · rintro j σ H5 hj ⟨y7, y8, ws, row, rfl, hrl, hrok, hl5, hws, hp5, hvs5, R5, k5⟩
        walk_at "st"
        intro a1 H6 a10 a11 R6 k6
        walk_at "st"
        intro a2 H7 a20 a21 R7 k7
        walk_at "st"
        intro a3 H8 a30 a31 R8 k8
        walk_at "st"
        intro e ne
        have k58 : KeepB r H5 H8 := (k6.trans k7).trans k8
        have hl8 : H8 l = some (.lst ws) := k58 _ _ nlr hl5
        have hp8 : H8 p = some (.lst vs) := k58 _ _ npr hp5
        have t58 : TK H5 H8 := k58.row R5
        have hsz : ws.length < sizeLine := by
          have z := TpAll.length hws
          rw [List.length_map] at z
          exact small1000 (by omega)
        have hE : EntOk (2 + c') (1 + n') (some (a1, a2, a3)) := ⟨⟨a10, a11⟩, ⟨a20, a21⟩, ⟨a30, a31⟩⟩
        have fin : ∀ (x : V) (en : Ent) (Hx : Hp), EntOk (2 + c') (1 + n') en → Tp K Hx x (entD en) → TK H5 Hx → Hx l = some (.lst ws) → Hx p = some (.lst vs) → Row K Hx r → KeepB r H3 Hx →
            Ok (∃ (y7 y8 : Option V) (ws2 : List V) (row : List Ent), ([some (.ref r), some (.int (1 + n')), some (.int (2 + c')), some (.int stop), some (.ref p), some (.int (0 + (i : Int))), some (.ref l), some (.int (0 + (j : Int))), some (.ref e)] : L2.St) = [some (.ref r), some (.int (1 + n')), some (.int (2 + c')), some (.int stop), some (.ref p), some (.int (0 + (i : Int))), some (.ref l), y7, y8] ∧
            row.length = j + 1 ∧ (∀ e ∈ row, EntOk (2 + c') (1 + n') e) ∧ (upd Hx l (.lst (ws ++ [x]))) l = some (.lst ws2) ∧ TpAll K (upd Hx l (.lst (ws ++ [x]))) ws2 (row.map entD) ∧ (upd Hx l (.lst (ws ++ [x]))) p = some (.lst vs) ∧ TpAll K (upd Hx l (.lst (ws ++ [x]))) vs (rows.map rowD) ∧ Row K (upd Hx l (.lst (ws ++ [x]))) r ∧ KeepB r H3 (upd Hx l (.lst (ws ++ [x])))) := fun x en Hx he hx t5 hlx hpx Rx kx => by
          have tu : TK Hx (upd Hx l (.lst (ws ++ [x]))) := TK.lst hlx
          refine ⟨_, _, ws ++ [x], row ++ [en], rfl, ?_, ?_, upd_same, ?_, ?_, TpAll.mono (t5.trans tu) _ _ hvs5, Rx.put hlx nlr, kx.fresh (k4.back nl nlr)⟩
          · rw [List.length_append, hrl]; rfl
          · intro y hy
            rcases List.mem_append.mp hy with h | h
            · exact hrok y h
            · rw [List.mem_singleton.mp h]; exact he
          · rw [List.map_append]
            exact TpAll.append (TpAll.mono (t5.trans tu) _ _ hws) (.cons (Tp.mono tu _ _ hx) .nil)
          · rw [upd_ne nlp.symm]; exact hpx
        have te : TK H8 (upd H8 e (.tup [.int a1, .int a2, .int a3])) := TK.new ne
        have hl9 : (upd H8 e (.tup [.int a1, .int a2, .int a3])) l = some (.lst ws) := by rw [upd_ne (ne_of_none hl8 ne)]; exact hl8
        have hp9 : (upd H8 e (.tup [.int a1, .int a2, .int a3])) p = some (.lst vs) := by rw [upd_ne (ne_of_none hp8 ne)]; exact hp8
        have R9 : Row K (upd H8 e (.tup [.int a1, .int a2, .int a3])) r := R8.new ne
        have hx9 : Tp K (upd H8 e (.tup [.int a1, .int a2, .int a3])) (.ref e) (entD (some (a1, a2, a3))) := .tup (SqT.of upd_same) (.cons (.int _) (.cons (.int _) (.cons (.int _) .nil)))
        have k39 : KeepB r H3 (upd H8 e (.tup [.int a1, .int a2, .int a3])) := (k5.trans k58).trans (KeepB.new ne)
        walk_at "st"
        refine ite2 (fun e0 => ?_) (fun e0 => ?_)
        · walk_at "st"
          intro b H10 b0 b1 R10 k10
          walk_at "st"
          have hl10 : H10 l = some (.lst ws) := k10 _ _ nlr hl9
          have hp10 : H10 p = some (.lst vs) := k10 _ _ npr hp9
          have t10 : TK (upd H8 e (.tup [.int a1, .int a2, .int a3])) H10 := k10.row R9
          refine ite2 (fun e1 => ?_) (fun e1 => ?_)
          · walk_at "st"
            exact fin _ none _ trivial .non ((t58.trans te).trans t10) hl10 hp10 R10 (k39.trans k10)
          · walk_at "st"
            exact fin _ (some (a1, a2, a3)) _ hE (Tp.mono t10 _ _ hx9) ((t58.trans te).trans t10) hl10 hp10 R10 (k39.trans k10)
        · walk_at "st"
          exact fin _ (some (a1, a2, a3)) _ hE hx9 (t58.trans te) hl9 hp9 R9 k39
      · rintro σ H5 ⟨y7, y8, ws, row, rfl, hrl, hrok, hl5, hws, hp5, hvs5, R5, k5⟩
        have hsz : vs.length < sizeLine := by
          have z := TpAll.length hvs5
          rw [List.length_map] at z
          exact small1000 (by omega)
        walk_at "st"
        intro u nu
        have hp6 : (upd H5 u (.tup ws)) p = some (.lst vs) := by rw [upd_ne (ne_of_none hp5 nu)]; exact hp5
        have R6 : Row K (upd H5 u (.tup ws)) r := R5.new nu
        walk_at "st"
        have tu : TK H5 (upd H5 u (.tup ws)) := TK.new nu
        have tv : TK (upd H5 u (.tup ws)) (upd (upd H5 u (.tup ws)) p (.lst (vs ++ [.ref u]))) := TK.lst hp6
        have hx : Tp K (upd H5 u (.tup ws)) (.ref u) (rowD row) := .tup (SqT.of upd_same) (TpAll.mono tu _ _ hws)
        refine ⟨_, _, _, _, vs ++ [.ref u], rows ++ [row], rfl, ?_, ?_, upd_same, ?_, R6.put hp6 npr, (k5.trans (KeepB.new nu)).fresh np⟩
        · rw [List.length_append, hl]; rfl
        · intro y hy
          rcases List.mem_append.mp hy with h | h
          · exact hok y h
          · rw [List.mem_singleton.mp h]; exact ⟨hrl, hrok⟩
        · rw [List.map_append]
          exact TpAll.append (TpAll.mono (tu.trans tv) _ _ hvs5) (.cons (Tp.mono tv _ _ hx) .nil)
    · rintro σ H4 ⟨y5, y6, y7, y8, vs, rows, rfl, hl, hok, hp, hvs, R4, k4⟩
      walk_at "st"
      intro u nu
      refine q _ _ (2 + c').toNat (1 + n').toNat rows (by omega) (by omega) (by omega) (by omega) ⟨hl, fun row hrow => ?_⟩ (.tup (SqT.of upd_same) (TpAll.mono (TK.new nu) _ _ hvs)) (R4.new nu) ((k03.trans k4).trans (KeepB.new nu))
      obtain ⟨h1, h2⟩ := hok row hrow
      refine ⟨h1, fun e he => ?_⟩
      rw [show (((2 + c').toNat : Nat) : Int) = 2 + c' by omega, show (((1 + n').toNat : Nat) : Int) = 1 + n' by omega]
      exact h2 e he
end

/-! ### walks -/
/-- x, y, heading, state -/
abbrev Wk := Int × Int × Int × Int
def wkD (w : Wk) : PyData := .tuple [.int w.1, .int w.2.1, .int w.2.2.1, .int w.2.2.2]
def wPt (w : Wk) : Pt := (w.1, w.2.1)
def dxI (h : Int) : Int := if h = 1 then 1 else if h = 3 then -1 else 0
def dyI (h : Int) : Int := if h = 0 then -1 else if h = 2 then 1 else 0
def entAt (T : List (List Ent)) (s c : Int) : Ent := ((T[s.toNat]?).bind fun r => r[c.toNat]?).getD none
def dab (f : Pt → Int) (p : Pt) (c : Int) : Pt → Int := fun q => if q = p then c else f q
abbrev WSt := (Pt → Int) × Wk
def turnI (w : Wk) (t : Int) : Int := (w.2.2.1 + t) % 4
def behind (w : Wk) (e : Int × Int × Int) : Wk := (w.1 + dxI (turnI w e.2.1), w.2.1 + dyI (turnI w e.2.1), turnI w e.2.1, e.2.2)
def stepW (T : List (List Ent)) (z : WSt) : Option WSt := (entAt T z.2.2.2.2 (z.1 (wPt z.2))).map fun e => (dab z.1 (wPt z.2) e.1, behind z.2 e)
def runW (T : List (List Ent)) : Nat → WSt → Option WSt
  | 0, z => some z
  | n + 1, z => (runW T n z).bind (stepW T)
structure Ends (T : List (List Ent)) (z : WSt) (many i : Nat) (z' : WSt) : Prop where
  run : runW T i z = some z'
  le : i ≤ many
  stop : i = many ∨ stepW T z' = none
section
variable {T : List (List Ent)}
theorem runW_none {z : WSt} {i : Nat} (h : runW T i z = none) : ∀ k, runW T (i + k) z = none
  | 0 => h
  | k + 1 => by
    show (runW T (i + k) z).bind (stepW T) = none
    rw [runW_none h k]
    rfl
theorem runW_add (z : WSt) (i : Nat) : ∀ j, runW T (i + j) z = (runW T i z).bind (runW T j)
  | 0 => by
    show runW T i z = (runW T i z).bind some
    cases runW T i z <;> rfl
  | j + 1 => by
    show (runW T (i + j) z).bind (stepW T) = _
    rw [runW_add z i j]
    cases runW T i z <;> rfl
theorem Ends.stuck {z z' : WSt} {many i j : Nat} (h : Ends T z many i z') (l : i < j) (m : j ≤ many) : runW T j z = none := by
  have st : stepW T z' = none := h.stop.resolve_left (by omega)
  have n : runW T (i + 1) z = none := by
    show (runW T i z).bind (stepW T) = none
    rw [h.run]
    exact st
  have q := runW_none n (j - (i + 1))
  rw [show i + 1 + (j - (i + 1)) = j by omega] at q
  exact q
theorem Ends.uniq {z z1 z2 : WSt} {many i j : Nat} (a : Ends T z many i z1) (b : Ends T z many j z2) : i = j ∧ z1 = z2 := by
  have e : i = j := by
    rcases Nat.lt_trichotomy i j with l | l | l
    · have q := a.stuck l b.le
      rw [b.run] at q
      cases q
    · exact l
    · have q := b.stuck l a.le
      rw [a.run] at q
      cases q
  subst e
  have q := a.run
  rw [b.run] at q
  exact ⟨rfl, (Option.some.inj q).symm⟩
theorem Ends.two {z z1 z2 : WSt} {many more i j : Nat} (a : Ends T z many i z1) (b : Ends T z1 more j z2) : Ends T z (many + more) (i + j) z2 := by
  refine ⟨?_, Nat.add_le_add a.le b.le, ?_⟩
  · rw [runW_add, a.run]
    exact b.run
  · rcases a.stop with e | st
    · exact b.stop.imp (fun e2 => by rw [e, e2]) id
    · have ej : j = 0 := by
        rcases Nat.eq_zero_or_pos j with q | q
        · exact q
        · have n : runW T (0 + 1) z1 = none := st
          have r := runW_none n (j - 1)
          rw [show 0 + 1 + (j - 1) = j by omega, b.run] at r
          cases r
      subst ej
      have e2 : z1 = z2 := Option.some.inj b.run
      exact .inr (e2 ▸ st)
/-- what goes with every step goes with the walk -/
theorem runW_map {φ : WSt → WSt} (h : ∀ z, stepW T (φ z) = (stepW T z).map φ) (z : WSt) : ∀ i, runW T i (φ z) = (runW T i z).map φ
  | 0 => rfl
  | i + 1 => by
    show (runW T i (φ z)).bind (stepW T) = ((runW T i z).bind (stepW T)).map φ
    rw [runW_map h z i]
    cases runW T i z with
    | none => rfl
    | some y => exact h y
theorem Ends.map {φ : WSt → WSt} (h : ∀ z, stepW T (φ z) = (stepW T z).map φ) {z z' : WSt} {many i : Nat} (a : Ends T z many i z') : Ends T (φ z) many i (φ z') := by
  refine ⟨?_, a.le, a.stop.imp id fun st => ?_⟩
  · rw [runW_map h, a.run]
    rfl
  · rw [h, st]
    rfl
/-! ### a quarter turn, a move -/
def rotP (p : Pt) : Pt := (-p.2, p.1)
def unrotP (p : Pt) : Pt := (p.2, -p.1)
theorem rot_iff {p q : Pt} : q = rotP p ↔ unrotP q = p := by
  obtain ⟨a, b⟩ := p
  obtain ⟨c, d⟩ := q
  unfold rotP unrotP
  constructor
  · intro h
    have h1 : c = -b := congrArg Prod.fst h
    have h2 : d = a := congrArg Prod.snd h
    rw [h1, h2, Int.neg_neg]
  · intro h
    have h1 : d = a := congrArg Prod.fst h
    have h2 : -c = b := congrArg Prod.snd h
    rw [← h1, ← h2, Int.neg_neg]
def rotZ (z : WSt) : WSt := (fun q => z.1 (unrotP q), (-z.2.2.1, z.2.1, (z.2.2.2.1 + 1) % 4, z.2.2.2.2))
theorem dab_rot (f : Pt → Int) (p : Pt) (c : Int) : dab (fun q => f (unrotP q)) (rotP p) c = fun q => dab f p c (unrotP q) := by
  funext q
  unfold dab
  by_cases h : q = rotP p
  · rw [if_pos h, if_pos (rot_iff.mp h)]
  · rw [if_neg h, if_neg (fun z => h (rot_iff.mpr z))]
theorem turn_ax {g : Int} (h0 : 0 ≤ g) (h1 : g < 4) : dxI ((g + 1) % 4) = -dyI g ∧ dyI ((g + 1) % 4) = dxI g := by
  obtain ⟨n, rfl⟩ := Int.eq_ofNat_of_zero_le h0
  have h : n = 0 ∨ n = 1 ∨ n = 2 ∨ n = 3 := by omega
  rcases h with rfl | rfl | rfl | rfl <;> decide
theorem behind_rot (f : Pt → Int) (w : Wk) (e : Int × Int × Int) : behind (rotZ (f, w)).2 e = (rotZ (f, behind w e)).2 := by
  have g0 : 0 ≤ turnI w e.2.1 := Int.emod_nonneg _ (by decide)
  have g1 : turnI w e.2.1 < 4 := Int.emod_lt_of_pos _ (by decide)
  have e1 : turnI (rotZ (f, w)).2 e.2.1 = (turnI w e.2.1 + 1) % 4 := by
    show ((w.2.2.1 + 1) % 4 + e.2.1) % 4 = ((w.2.2.1 + e.2.1) % 4 + 1) % 4
    omega
  obtain ⟨a1, a2⟩ := turn_ax g0 g1
  unfold behind
  rw [e1, a1, a2]
  show (-w.2.1 + -dyI (turnI w e.2.1), w.1 + dxI (turnI w e.2.1), _, _) = (-(w.2.1 + dyI (turnI w e.2.1)), w.1 + dxI (turnI w e.2.1), _, _)
  rw [Int.neg_add]
theorem step_rot (z : WSt) : stepW T (rotZ z) = (stepW T z).map rotZ := by
  obtain ⟨f, w⟩ := z
  have e : (rotZ (f, w)).1 (wPt (rotZ (f, w)).2) = f (wPt w) := by
    show f (unrotP (rotP (wPt w))) = f (wPt w)
    rw [rot_iff.mp rfl]
  show ((entAt T w.2.2.2 ((rotZ (f, w)).1 (wPt (rotZ (f, w)).2))).map _) = ((entAt T w.2.2.2 (f (wPt w))).map _).map rotZ
  rw [e]
  cases entAt T w.2.2.2 (f (wPt w)) with
  | none => rfl
  | some en =>
    show some (dab (fun q => f (unrotP q)) (rotP (wPt w)) en.1, behind (rotZ (f, w)).2 en) = some (rotZ (dab f (wPt w) en.1, behind w en))
    rw [dab_rot, behind_rot f w en]
    rfl
def shiftZ (m : Int) (z : WSt) : WSt := (fun q => z.1 (q.1 - m, q.2), (z.2.1 + m, z.2.2.1, z.2.2.2.1, z.2.2.2.2))
theorem step_shift (m : Int) (z : WSt) : stepW T (shiftZ m z) = (stepW T z).map (shiftZ m) := by
  obtain ⟨f, w⟩ := z
  have e : (shiftZ m (f, w)).1 (wPt (shiftZ m (f, w)).2) = f (wPt w) := by
    show f (w.1 + m - m, w.2.1) = f (wPt w)
    rw [show w.1 + m - m = w.1 by omega]
    rfl
  show ((entAt T w.2.2.2 ((shiftZ m (f, w)).1 (wPt (shiftZ m (f, w)).2))).map _) = ((entAt T w.2.2.2 (f (wPt w))).map _).map (shiftZ m)
  rw [e]
  cases entAt T w.2.2.2 (f (wPt w)) with
  | none => rfl
  | some en =>
    have e1 : dab (fun q : Pt => f (q.1 - m, q.2)) (w.1 + m, w.2.1) en.1 = fun q => dab f (wPt w) en.1 (q.1 - m, q.2) := by
      funext q
      obtain ⟨a, b⟩ := q
      unfold dab wPt
      by_cases h : (a, b) = (w.1 + m, w.2.1)
      · have h1 : a = w.1 + m := congrArg Prod.fst h
        have h2 : b = w.2.1 := congrArg Prod.snd h
        rw [if_pos h, if_pos (by rw [h1, h2, show w.1 + m - m = w.1 by omega])]
      · rw [if_neg h, if_neg (fun z => h ?_)]
        have h1 : a - m = w.1 := congrArg Prod.fst z
        have h2 : b = w.2.1 := congrArg Prod.snd z
        rw [← h1, ← h2, show a - m + m = a by omega]
    have e2 : behind (w.1 + m, w.2.1, w.2.2.1, w.2.2.2) en = ((behind w en).1 + m, (behind w en).2.1, (behind w en).2.2.1, (behind w en).2.2.2) := by
      show (w.1 + m + dxI (turnI w en.2.1), _, _, _) = (w.1 + dxI (turnI w en.2.1) + m, _, _, _)
      rw [Int.add_right_comm]
      rfl
    show some (dab (fun q : Pt => f (q.1 - m, q.2)) (w.1 + m, w.2.1) en.1, behind (w.1 + m, w.2.1, w.2.2.1, w.2.2.2) en) = some (shiftZ m (dab f (wPt w) en.1, behind w en))
    rw [e1, e2]
    rfl
/-! ### how far a walk comes -/
def InB (B : Int) (p : Pt) : Prop := (-B ≤ p.1 ∧ p.1 ≤ B) ∧ (-B ≤ p.2 ∧ p.2 ≤ B)
structure Fit (c n : Nat) (B : Int) (z : WSt) : Prop where
  cols : ∀ p, 0 ≤ z.1 p ∧ z.1 p < c
  near : ∀ p, z.1 p ≠ 0 → InB B p
  wk : InB B (wPt z.2)
  hd : 0 ≤ z.2.2.2.1 ∧ z.2.2.2.1 < 4
  st : 0 ≤ z.2.2.2.2 ∧ z.2.2.2.2 < n
theorem entAt_ok {c n : Nat} (ok : TabOk c n T) {s k : Int} (hs : 0 ≤ s ∧ s < n) (hk : 0 ≤ k ∧ k < c) : ∃ r, T[s.toNat]? = some r ∧ r.length = c ∧ r[k.toNat]? = some (entAt T s k) ∧ EntOk c n (entAt T s k) := by
  have l1 : s.toNat < T.length := by rw [ok.1]; omega
  have m1 : T[s.toNat] ∈ T := List.getElem_mem l1
  obtain ⟨r1, r2⟩ := ok.2 _ m1
  have l2 : k.toNat < (T[s.toNat]).length := by rw [r1]; omega
  have e : entAt T s k = (T[s.toNat])[k.toNat] := by
    unfold entAt
    rw [List.getElem?_eq_getElem l1]
    show (((T[s.toNat])[k.toNat]?).getD none) = _
    rw [List.getElem?_eq_getElem l2]
    rfl
  refine ⟨_, List.getElem?_eq_getElem l1, r1, ?_, ?_⟩
  · rw [e]
    exact List.getElem?_eq_getElem l2
  · rw [e]
    exact r2 _ (List.getElem_mem l2)
theorem InB.mono {B C : Int} {p : Pt} (h : InB B p) (l : B ≤ C) : InB C p := by
  unfold InB at *
  omega
theorem ahead1 (h : Int) : (-1 ≤ dxI h ∧ dxI h ≤ 1) ∧ (-1 ≤ dyI h ∧ dyI h ≤ 1) := by
  unfold dxI dyI
  constructor
  · split
    · omega
    · split <;> omega
  · split
    · omega
    · split <;> omega
theorem Fit.step {c n : Nat} {B : Int} {z z' : WSt} (ok : TabOk c n T) (g : Fit c n B z) (h : stepW T z = some z') : Fit c n (B + 1) z' := by
  obtain ⟨r, _, _, _, eo⟩ := entAt_ok ok g.st (g.cols (wPt z.2))
  unfold stepW at h
  generalize he : entAt T z.2.2.2.2 (z.1 (wPt z.2)) = en at h eo
  cases en with
  | none => cases h
  | some e =>
    obtain rfl := (Option.some.inj h).symm
    obtain ⟨o1, o2, o3⟩ := eo
    have w1 := g.wk
    obtain ⟨a1, a2⟩ := ahead1 (turnI z.2 e.2.1)
    refine ⟨fun p => ?_, fun p hp => ?_, ?_, ⟨Int.emod_nonneg _ (by decide), Int.emod_lt_of_pos _ (by decide)⟩, o3⟩
    · show 0 ≤ (if p = wPt z.2 then e.1 else z.1 p) ∧ (if p = wPt z.2 then e.1 else z.1 p) < c
      split
      · exact o1
      · exact g.cols p
    · have hp : (if p = wPt z.2 then e.1 else z.1 p) ≠ 0 := hp
      split at hp
      · rename_i q
        rw [q]
        exact w1.mono (by omega)
      · exact (g.near p hp).mono (by omega)
    · show InB (B + 1) (z.2.1 + dxI (turnI z.2 e.2.1), z.2.2.1 + dyI (turnI z.2 e.2.1))
      unfold InB wPt at *
      omega
theorem Fit.run {c n : Nat} {B : Int} {z : WSt} (ok : TabOk c n T) (g : Fit c n B z) : ∀ {i : Nat} {z' : WSt}, runW T i z = some z' → Fit c n (B + i) z'
  | 0, z', h => by
    obtain rfl := Option.some.inj h
    rw [show B + ((0 : Nat) : Int) = B by omega]
    exact g
  | i + 1, z', h => by
    have h : (runW T i z).bind (stepW T) = some z' := h
    cases e : runW T i z with
    | none =>
      rw [e] at h
      cases h
    | some y =>
      rw [e] at h
      have q := (g.run ok e).step ok h
      rw [show B + ((i + 1 : Nat) : Int) = B + (i : Int) + 1 by omega]
      exact q
end
/-! ### floors that may be handed in -/
structure FlOk (c : Nat) (B : Int) (F : List Sq) : Prop where
  asc : F.Pairwise fun a b => ltP a.pt b.pt
  sq : ∀ s ∈ F, InB B s.pt ∧ 1 ≤ s.2.2 ∧ s.2.2 < c
theorem FlOk.of {c n : Nat} {B : Int} {z : WSt} {F : List Sq} (g : Fit c n B z) (h : FloorOf z.1 F) : FlOk c B F := by
  refine ⟨h.asc, fun s hs => ?_⟩
  obtain ⟨e, nz⟩ := (h.mem s).mp hs
  have c1 := g.cols s.pt
  rw [e] at nz
  refine ⟨g.near _ nz, ?_, ?_⟩ <;> rw [e] <;> omega
theorem FlOk.fl {c : Nat} {B : Int} {F : List Sq} (h : FlOk c B F) : FloorOf (colF F) F := colF_of h.asc fun s hs => by
  have := (h.sq s hs).2
  omega
theorem FlOk.fit {c n : Nat} {B : Int} {F : List Sq} {w : Wk} (h : FlOk c B F) (hc : 1 ≤ c) (hw : InB B (wPt w)) (hh : 0 ≤ w.2.2.1 ∧ w.2.2.1 < 4) (hs : 0 ≤ w.2.2.2 ∧ w.2.2.2 < n) : Fit c n B (colF F, w) := by
  have f := h.fl
  have at_ : ∀ p, colF F p = 0 ∨ (p.1, p.2, colF F p) ∈ F := fun p => by
    by_cases z : colF F p = 0
    · exact .inl z
    · exact .inr ((f.mem (p.1, p.2, colF F p)).mpr ⟨rfl, z⟩)
  refine ⟨fun p => ?_, fun p hp => ?_, hw, hh, hs⟩
  · show 0 ≤ colF F p ∧ colF F p < c
    rcases at_ p with z | z
    · rw [z]
      omega
    · have q := (h.sq _ z).2
      have q1 : 1 ≤ colF F p ∧ colF F p < c := q
      omega
  · rcases at_ p with z | z
    · exact absurd z hp
    · exact (h.sq _ z).1

/-! ### lists -/
theorem nodup_at {α : Type} {l : List α} (nd : l.Nodup) {i j : Nat} {a : α} (h1 : l[i]? = some a) (h2 : l[j]? = some a) : i = j := by
  obtain ⟨l1, q1⟩ := List.getElem?_eq_some_iff.mp h1
  obtain ⟨l2, q2⟩ := List.getElem?_eq_some_iff.mp h2
  have p := List.pairwise_iff_getElem.mp nd
  rcases Nat.lt_trichotomy i j with z | z | z
  · exact absurd (q1.trans q2.symm) (p i j l1 l2 z)
  · exact z
  · exact absurd (q2.trans q1.symm) (p j i l2 l1 z)
theorem TpAll.set {K : PySem.W.Frag} {H : Hp} : ∀ {vs : List V} {ds : List PyData} {k : Nat} {v : V} {d : PyData}, TpAll K H vs ds → Tp K H v d → TpAll K H (vs.set k v) (ds.set k d)
  | [], [], _, _, _, h, _ => .nil
  | [], _ :: _, _, _, _, h, _ => nomatch h
  | _ :: _, [], _, _, _, h, _ => nomatch h
  | u :: us, e :: es, 0, v, d, h, g => by
    cases h with
    | cons h1 h2 => exact .cons g h2
  | u :: us, e :: es, k + 1, v, d, h, g => by
    cases h with
    | cons h1 h2 => exact .cons h1 (TpAll.set h2 g)
theorem ixN_of {n k : Nat} (h : k < n) : ixN n (0 + ((k : Nat) : Int)) = some k := by
  unfold ixN
  rw [if_pos (by omega), if_pos (by omega)]
  congr 1
  omega
theorem le_only {a b : Int} (h : a ≤ b) : a ≤ b := h
theorem lt_only {a b : Int} (h : a < b) : a < b := h
theorem getD_at {T : List (List Ent)} {s : Nat} {r : List Ent} (h : T[s]? = some r) : T.getD s [] = r := by
  rw [List.getD_eq_getElem?_getD, h]
  rfl
theorem entAt_at {T : List (List Ent)} {s k : Nat} {r : List Ent} {e : Ent} (h : T[s]? = some r) (h2 : r[k]? = some e) : entAt T s k = e := by
  unfold entAt
  rw [Int.toNat_natCast, Int.toNat_natCast, h]
  show (r[k]?).getD none = e
  rw [h2]
  rfl

theorem nodup_sub {α : Type} [DecidableEq α] : ∀ {A B : List α}, A.Nodup → (∀ x ∈ A, x ∈ B) → A.length ≤ B.length
  | [], B, _, _ => Nat.zero_le _
  | a :: r, B, nd, h => by
    have nd := List.nodup_cons.mp nd
    have hb : a ∈ B := h a List.mem_cons_self
    have q := nodup_sub (A := r) (B := B.erase a) nd.2 fun x hx => (List.mem_erase_of_ne fun z => nd.1 (by rw [← z]; exact hx)).mpr (h x (List.mem_cons_of_mem _ hx))
    have l := List.length_erase_of_mem hb
    have p : 0 < B.length := List.length_pos_of_mem hb
    show r.length + 1 ≤ _
    omega

/-! ### two dictionaries by tuples, of ints, are equal -/
section
open PySem.SeqAt
variable {prog : Program} {w : World} {K : Type} [DecidableEq K] {knd : HeapKind prog w K} {A : Around} {E : Value → Shared → Prop} {s : Shared}
inductive HitsH (prog : Program) (w : World) (A : Around) (s : Shared) (kb : List (K × Addr × Value)) : List (K × Addr × Value) → Bool → Prop
  | nil : HitsH prog w A s kb [] true
  | miss {k : K} {a : Addr} {v : Value} {r : List (K × Addr × Value)} : (∀ (j : Nat) (p : Addr × Value), kb[j]? ≠ some (k, p)) → HitsH prog w A s kb ((k, a, v) :: r) false
  | hit {k : K} {a : Addr} {v : Value} {r : List (K × Addr × Value)} {e b : Bool} : (∀ (j : Nat) (p : Addr × Value), kb[j]? = some (k, p) → SeqAt.EqP prog w A s v p.2 e) → (∃ (j : Nat) (p : Addr × Value), kb[j]? = some (k, p)) → HitsH prog w A s kb r b → HitsH prog w A s kb ((k, a, v) :: r) (e && b)
theorem HitsH.inv {kb : List (K × Addr × Value)} {k : K} {a : Addr} {v : Value} {r : List (K × Addr × Value)} {b : Bool} (h : HitsH prog w A s kb ((k, a, v) :: r) b) :
    ((∀ (j : Nat) (p : Addr × Value), kb[j]? ≠ some (k, p)) ∧ b = false) ∨ ∃ e b', (∀ (j : Nat) (p : Addr × Value), kb[j]? = some (k, p) → SeqAt.EqP prog w A s v p.2 e) ∧ (∃ (j : Nat) (p : Addr × Value), kb[j]? = some (k, p)) ∧ HitsH prog w A s kb r b' ∧ b = (e && b') := by
  cases h with
  | miss hn => exact .inl ⟨hn, rfl⟩
  | hit hy he hr => exact .inr ⟨_, _, hy, he, hr, rfl⟩
theorem samePairsH {nm : String} {a b : Addr} {ka kb : List (K × Addr × Value)} {r : Bool} {Q : Bool → Shared → Prop} (ha : (a == sysModules) = false) (hb : (b == sysModules) = false)
    (da : s.heap.DictOfH knd a ka) (db : s.heap.DictOfH knd b kb) (hu : knd.room A) (hits : ka.length = kb.length → HitsH prog w A s kb ka r) (h : Q (ka.length == kb.length && r) s) :
    wpAny (model prog w) A (Builtin.Dict.samePairs nm a b) Q E s := by
  obtain ⟨oa, es, ep, hoa, _, hda, hea, hka, hna⟩ := da
  obtain ⟨ob, es', ep', hob, _, hdb, heb, hkb, hnb⟩ := db
  have hla : ka.length = es.size := (size_of_entries hea).symm
  have hlb : kb.length = es'.size := (size_of_entries heb).symm
  rw [hla, hlb] at h
  unfold Builtin.Dict.samePairs Builtin.Dict.showsAll
  rw [if_neg (show ¬ (a == sysModules) = true by rw [ha]; exact Bool.false_ne_true), if_neg (show ¬ (b == sysModules) = true by rw [hb]; exact Bool.false_ne_true)]
  refine wpAny_bind (wpAny_pure (wpAny_bind (wpAny_pure ?_)))
  refine wpAny_bind (wpAny_dictEntries hoa hda ?_)
  dsimp only
  refine wpAny_bind (wpAny_dictEntries hob hdb ?_)
  by_cases hsz : es.size = es'.size
  case neg =>
    rw [if_pos (by simpa using hsz)]
    have hbf : (es.size == es'.size) = false := by simpa using hsz
    rw [hbf, Bool.false_and] at h
    exact wpAny_bind (wpAny_rule (wpAny_pure h))
  case pos =>
    have h' : Q r s := by simpa [hsz] using h
    have hits' := hits (by rw [hla, hlb]; exact hsz)
    rw [if_neg (by rw [hsz]; simp)]
    refine wpAny_bind (wpAny_dictEpoch hoa hda ?_)
    refine wpAny_bind ?_
    rw [Std.Legacy.Range.forIn_eq_forIn_range']
    simp only [Std.Legacy.Range.size, Nat.sub_zero, Nat.add_sub_cancel, Nat.div_one]
    refine wpAny_forIn_list _
      (fun rest q s' => s' = s ∧ q = (none, ()) ∧ ∃ i, rest = List.range' i (es.size - i) ∧ i ≤ es.size ∧ HitsH prog w A s kb (ka.drop i) r)
      _ ?_ ?_ _ _ ⟨rfl, rfl, 0, by simp, Nat.zero_le _, hits'⟩
    · rintro x rest q s' ⟨rfl, rfl, i, hr, hi, hpre⟩
      have hlt : i < es.size := by
        rcases Nat.lt_or_ge i es.size with h | h
        · exact h
        · rw [Nat.sub_eq_zero_of_le h] at hr; simp at hr
      obtain ⟨rfl, hrest⟩ : x = i ∧ rest = List.range' (i + 1) (es.size - (i + 1)) := by
        have e : es.size - i = (es.size - (i + 1)) + 1 := by omega
        rw [e, List.range'_succ] at hr
        injection hr with h1 h2
        exact ⟨h1, h2⟩
      refine wpAny_bind (wpAny_dictEntries hoa hda ?_)
      have hlt' : x < ka.length := by rw [hla]; exact hlt
      obtain ⟨⟨k, ad, v⟩, hkv⟩ : ∃ y, ka[x] = y := ⟨_, rfl⟩
      have hkv' : ka[x]? = some (k, ad, v) := by rw [List.getElem?_eq_getElem hlt', hkv]
      have hdrop : ka.drop x = (k, ad, v) :: ka.drop (x + 1) := by rw [← hkv]; exact List.drop_eq_getElem_cons hlt'
      have hex : es[x]? = some ⟨knd.hash k, .ref ad, v⟩ := by rw [entry_at hea x, hkv']; rfl
      rw [hex]
      have hkey : knd.is s'.heap k ad := hka _ (List.mem_of_getElem? hkv')
      rw [hdrop] at hpre
      refine wpAny_bind (wpAny_holding (wpAny_bind (wpAny_dictFind_heap hu hkey hob hdb heb hkb hnb (fun hno => ?_) (fun j p hj => ?_))))
      · rcases hpre.inv with ⟨_, er⟩ | ⟨_, _, _, ⟨j, p, hj⟩, _⟩
        · rw [er] at h'
          refine wpAny_pure ?_
          show wpAny _ _ (if (!false) = true then _ else _) _ _ _
          rw [if_pos (by decide)]
          exact wpAny_pure (wpAny_pure h')
        · exact absurd hj (hno j p)
      · have hex2 : es'[j]? = some ⟨knd.hash k, .ref p.1, p.2⟩ := by rw [entry_at heb j, hj]; rfl
        refine wpAny_bind (wpAny_dictEntries hob hdb ?_)
        rw [hex2]
        rcases hpre.inv with ⟨hn, _⟩ | ⟨e, b', he, _, hrr, er⟩
        · exact absurd hj (hn j p)
        · refine wpAny_holding (he j p hj _ _ ?_)
          cases e with
          | false =>
            rw [er, Bool.false_and] at h'
            show wpAny _ _ (if (!false) = true then _ else _) _ _ _
            rw [if_pos (by decide)]
            exact wpAny_pure (wpAny_pure h')
          | true =>
            rw [Bool.true_and] at er
            rw [← er] at hrr
            show wpAny _ _ (if (!true) = true then _ else _) _ _ _
            rw [if_neg (by decide)]
            refine wpAny_bind (wpAny_dictEpoch hoa hda ?_)
            rw [if_neg (by simp)]
            exact wpAny_pure ⟨rfl, rfl, x + 1, hrest, hlt, hrr⟩
    · rintro q s' ⟨rfl, rfl, i, hr, hi, hpre⟩
      have hin : i = es.size := by
        rcases Nat.lt_or_ge i es.size with h | h
        · have e : es.size - i = (es.size - (i + 1)) + 1 := by omega
          rw [e, List.range'_succ] at hr; exact nomatch hr
        · exact Nat.le_antisymm hi h
      refine wpAny_pure ?_
      rw [hin, ← hla, List.drop_length] at hpre
      cases hpre
      exact h'
theorem rcP_dictsH {a b : Addr} {ka kb : List (K × Addr × Value)} {r : Bool} (ha : (a == sysModules) = false) (hb : (b == sysModules) = false)
    (da : s.heap.DictOfH knd a ka) (db : s.heap.DictOfH knd b kb) (hu : A.units < cLine) (hu1 : knd.room A.in1) (hits : ka.length = kb.length → HitsH prog w A.in1 s kb ka r) (E Q : Value → Shared → Prop) (h : Q (.bool (ka.length == kb.length && r)) s) : wpAny (model prog w) A (richCompare .Eq (.ref a) (.ref b)) Q E s := by
  refine wpAny_richCompare_same_room (op := .Eq) da.typeIs db.typeIs PySem.F.slot_dict_eq (wpAny_call_entry PySem.F.slot_dict_eq da.typeIs PySem.F.entry_dict_eq ?_ (PySem.F.args_dict_eq_2 _ _)) hu
  show wpAny _ _ (Builtin.Dict.dictSlotArgs "__eq__" ⟨[.ref a, .ref b], []⟩ >>= _) _ _ s
  refine wpAny_bind ?_
  unfold Builtin.Dict.dictSlotArgs
  refine wpAny_bind (wpAny_notOrdered_dict da.typeIs ?_)
  show wpAny _ _ (pure (Value.ref a, Value.ref b)) _ _ s
  refine wpAny_pure ?_
  refine wpAny_bind (wpAny_isInstance (T := "dict") db.typeIs PySem.F.sub_dict_dict ?_)
  simp only [Bool.not_true, Bool.false_eq_true, if_false]
  refine wpAny_bind (wpAny_pure (wpAny_bind (wpAny_pure ?_)))
  refine wpAny_bind (samePairsH ha hb da db hu1 hits ?_)
  refine wpAny_pure ⟨_, rfl, ?_, ?_⟩
  · exact fun x => nomatch x
  · simpa using h
end
theorem atKey_at {xs : List (List Key × Addr × Value)} {k : List Key} : (∀ (j : Nat) (p : Addr × Value), xs[j]? ≠ some (k, p)) ∨ ∃ p, atKey xs k = some p ∧ ∃ j : Nat, xs[j]? = some (k, p) := by
  cases e : xs.find? (fun x => decide (x.1 = k)) with
  | none =>
    refine .inl fun j p h => ?_
    have z := List.find?_eq_none.mp e _ (List.mem_of_getElem? h)
    exact z (decide_eq_true rfl)
  | some x =>
    have h1 : x.1 = k := by
      have z := List.find?_some e
      exact of_decide_eq_true z
    have h2 := List.mem_of_find?_eq_some e
    obtain ⟨j, hj⟩ := List.getElem?_of_mem h2
    refine .inr ⟨x.2, ?_, j, ?_⟩
    · unfold atKey
      rw [e]
      rfl
    · rw [hj, ← h1]
/-- the rows of the first, looked for in the second -/
theorem hitsH_run {P : Program} {w : World} {A : Around} {s : Shared} {H : Hp} {ls : List (List Key × V)} {vb : List (List Key × Addr × Value)} (rb : KT H ls vb) (nb : (vb.map (·.1)).Nodup) (ib : ∀ p ∈ ls, ∃ i, p.2 = V.int i) :
    ∀ {ks : List (List Key × V)} {va : List (List Key × Addr × Value)}, KT H ks va → (∀ p ∈ ks, ∃ i, p.2 = V.int i) → ∃ r, HitsH P w A s vb va r ∧ (r = true ↔ ∀ p ∈ ks, valV ls p.1 = some p.2) := by
  intro ks va ra
  unfold KT at ra
  induction ra with
  | nil => exact fun _ => ⟨true, .nil, ⟨fun _ p hp => (nomatch hp), fun _ => rfl⟩⟩
  | @cons p q ps qs h t ih =>
    intro hi
    obtain ⟨h1, h0, h2⟩ := h
    obtain ⟨k, v⟩ := p
    obtain ⟨k', ad, u⟩ := q
    obtain rfl : k = k' := h1
    obtain ⟨i, rfl⟩ : ∃ i, v = V.int i := hi _ List.mem_cons_self
    obtain ⟨tk, rfl⟩ : ∃ t, u = .int i t := h2
    obtain ⟨r, hr, er⟩ := ih fun p hp => hi p (List.mem_cons_of_mem _ hp)
    rcases atKey_at (xs := vb) (k := k) with no | ⟨p, ep, j, hj⟩
    · refine ⟨false, .miss no, (⟨(fun z => absurd z Bool.false_ne_true), (fun z => ?_)⟩ : _ ↔ _)⟩
      have z := z _ List.mem_cons_self
      have c := rb.val k
      rw [show valV ls k = some (V.int i) from z] at c
      obtain ⟨y, hy, _⟩ := c.some_of
      cases e : atKey vb k with
      | none =>
        rw [e] at hy
        cases hy
      | some p =>
        rcases atKey_at (xs := vb) (k := k) with no2 | ⟨p2, _, j2, hj2⟩
        · unfold atKey at e
          cases e2 : vb.find? (fun x => decide (x.1 = k)) with
          | none =>
            rw [e2] at e
            cases e
          | some x =>
            obtain ⟨j3, hj3⟩ := List.getElem?_of_mem (List.mem_of_find?_eq_some e2)
            have h5 : x.1 = k := by
              have z := List.find?_some e2
              exact of_decide_eq_true z
            exact absurd (by rw [hj3, ← h5]) (no j3 x.2)
        · exact absurd hj2 (no j2 p2)
    · have c := rb.val k
      rw [ep] at c
      cases ev : valV ls k with
      | none =>
        rw [ev] at c
        exact False.elim c
      | some y =>
        rw [ev] at c
        obtain ⟨m, rfl⟩ : ∃ m, y = V.int m := by
          obtain ⟨j4, h4⟩ : ∃ q ∈ ls, q.2 = y := by
            have z := ev
            unfold valV at z
            cases e2 : ls.find? (fun kv => decide (kv.1 = k)) with
            | none =>
              rw [e2] at z
              cases z
            | some q =>
              rw [e2] at z
              exact ⟨q, List.mem_of_find?_eq_some e2, Option.some.inj z⟩
          obtain ⟨m, hm⟩ := ib j4 h4.1
          exact ⟨m, by rw [← h4.2, hm]⟩
        obtain ⟨tm, em⟩ : ∃ t, p.2 = .int m t := c
        have eqp : SeqAt.EqP P w A s (.int i tk) p.2 (PyData.eqv (.int i) (.int m)) := by
          rw [em]
          exact (PySem.W.keq_flat (fun _ => .int _ _) (fun _ => .int _ _)).eqP
        have uniq : ∀ (j' : Nat) (p' : Addr × Value), vb[j']? = some (k, p') → p' = p := fun j' p' hj' => by
          have q1 : (vb.map (·.1))[j]? = some k := by rw [List.getElem?_map, hj]; rfl
          have q2 : (vb.map (·.1))[j']? = some k := by rw [List.getElem?_map, hj']; rfl
          have ee := nodup_at nb q1 q2
          rw [← ee, hj] at hj'
          exact (Prod.mk.inj (Option.some.inj hj')).2.symm
        refine ⟨_, .hit (e := PyData.eqv (.int i) (.int m)) (fun j' p' hj' => by rw [uniq j' p' hj']; exact eqp) ⟨j, p, hj⟩ hr, ?_⟩
        have e1 : PyData.eqv (.int i) (.int m) = decide (i = m) := by
          rw [show PyData.eqv (.int i) (.int m) = (i == m) from by simp [PyData.eqv]]
          exact Bool.eq_iff_iff.mpr (by simp)
        rw [Bool.and_eq_true, er, e1, decide_eq_true_eq]
        constructor
        · rintro ⟨rfl, z⟩ p hp
          rcases List.mem_cons.mp hp with rfl | hp
          · exact ev
          · exact z p hp
        · intro z
          have z0 := z _ List.mem_cons_self
          rw [show valV ls k = some (V.int m) from ev] at z0
          cases z0
          exact ⟨rfl, fun p hp => z p (List.mem_cons_of_mem _ hp)⟩
/-- d == e, two dictionaries by tuples -/
def rEqT : R2 := fun x y H Q => ∃ a b ka kb, x = .ref a ∧ y = .ref b ∧ H a = some (.dT ka) ∧ H b = some (.dT kb) ∧ (∀ p ∈ ka, ∃ i, p.2 = V.int i) ∧ (∀ p ∈ kb, ∃ i, p.2 = V.int i) ∧ ∀ r : Bool, (r = true ↔ ka.length = kb.length ∧ ∀ p ∈ ka, valV kb p.1 = some p.2) → Q (.bl r) H
theorem op_eqT {X : Cx} (hu : X.A.units + 64 < cLine) : OpR X (compareOp .Eq) rEqT := by
  intro pins s σ H x y v u Q I rx ry h
  obtain ⟨a, b, ka, kb, rfl, rfl, ha, hb, ia, ib, q⟩ := h
  cases (show v = Value.ref a from rx)
  cases (show u = Value.ref b from ry)
  obtain ⟨_, ya, va, ra, da⟩ := dt_of I.hok ha
  obtain ⟨_, yb, vb, rb, db⟩ := dt_of I.hok hb
  have nb : (vb.map (·.1)).Nodup := by
    obtain ⟨_, _, _, _, _, _, _, _, n⟩ := db
    exact n
  obtain ⟨r, hr, er⟩ := hitsH_run (P := X.prog) (w := X.w) (A := X.A.in1) (s := s) rb nb ib ra ia
  refine rcP_dictsH (r := r) ya yb da db (by omega) (by show X.A.units + 1 < cLine; omega) (fun _ => hr) _ _ ⟨.bl _, H, I, rfl, q _ ?_⟩
  rw [Bool.and_eq_true, er, beq_iff_eq, ← ra.length, ← rb.length]

-- imports KE.DataEq
/-! ### data of tuples and ints is equal to itself -/
def flatT : Nat → PyData → Prop
  | n + 1, .tuple ds => ∀ d ∈ ds, flatT n d
  | _ + 1, .int _ => True
  | _, _ => False
theorem layAll : ∀ {ds : List PyData}, (∀ d ∈ ds, d.canLay0 = true) → PyData.canLayAll0 ds = true
  | [], _ => by simp only [PyData.canLayAll0]
  | d :: ds, h => by
    simp only [PyData.canLayAll0, h d List.mem_cons_self, layAll fun y hy => h y (List.mem_cons_of_mem _ hy), Bool.and_self]
theorem depAll {n : Nat} : ∀ {ds : List PyData}, (∀ d ∈ ds, d.depth ≤ n) → PyData.depthAll ds ≤ n
  | [], _ => by simp [PyData.depthAll]
  | d :: ds, h => by
    have h1 := h d List.mem_cons_self
    have h2 := depAll fun y hy => h y (List.mem_cons_of_mem _ hy)
    simp only [PyData.depthAll]
    omega
theorem flatT.lay : ∀ {n : Nat} {d : PyData}, flatT n d → d.canLay0 = true ∧ d.depth ≤ n
  | 0, _, h => absurd h (by unfold flatT; simp)
  | n + 1, .tuple ds, h => by
    have h : ∀ d ∈ ds, flatT n d := h
    refine ⟨?_, ?_⟩
    · simp only [PyData.canLay0]
      exact layAll fun d hd => (flatT.lay (h d hd)).1
    · have := depAll fun d hd => (flatT.lay (h d hd)).2
      simp only [PyData.depth]
      omega
  | n + 1, .int _, _ => by simp [PyData.canLay0, PyData.depth]
  | _ + 1, .none, h => nomatch h
  | _ + 1, .bool _, h => nomatch h
  | _ + 1, .str _, h => nomatch h
  | _ + 1, .list _, h => nomatch h
  | _ + 1, .dict _, h => nomatch h
theorem flatT.shp {n : Nat} {d : PyData} (h : flatT n d) (l : n ≤ 64) : SeqAt.shaped d = true ∧ PyData.eqv d d = true := by
  obtain ⟨h1, h2⟩ := h.lay
  refine ⟨?_, SeqAt.eqv_refl_plain d (PyData.plain_of_canLay0 d h1)⟩
  unfold SeqAt.shaped
  rw [h1, decide_eq_true (Nat.le_trans h2 l)]
  rfl

/-! ### nested tuples as keys -/
mutual
def nkOf : PyData → NestedKey
  | .int i => .num i
  | .bool b => .num (if b = true then 1 else 0)
  | .str x => .text x
  | .tuple ds => .tup (nkAll ds)
  | _ => .none
def nkAll : List PyData → List NestedKey
  | [] => []
  | d :: ds => nkOf d :: nkAll ds
end
section
variable {X : Cx} {pins : List (Addr × Obj)} {σ : L2.St} {H : Hp} {s : Shared}
mutual
theorem nk_is (I : Inv X pins σ H s) : ∀ (d : PyData) (v : V) (u : Value), Tp X.K H v d → RelV v u → NestedIs s.heap (nkOf d) u
  | .none, _, u, h, r => by
    cases h
    obtain rfl : u = Value.none := r
    exact .none
  | .bool b, _, u, h, r => by
    cases h
    obtain rfl : u = Value.bool b := r
    exact .bool rfl
  | .int i, _, u, h, r => by
    cases h
    obtain ⟨t, rfl⟩ : ∃ t, u = Value.int i t := r
    exact .int i t
  | .str x, _, u, h, r => by
    cases h
    obtain ⟨t, rfl⟩ : ∃ t, u = Value.str x t := r
    exact .text x t
  | .list ds, _, _, h, _ => by cases h
  | .dict _, _, _, h, _ => by cases h
  | .tuple ds, _, u, h, r => by
    cases h with
    | tup hs ha =>
      obtain rfl : u = Value.ref _ := r
      obtain ⟨its, rv, ⟨o, ho, hc, n, hd⟩, _⟩ := I.tuple hs
      exact .tup ho hc hd (nk_all I ds _ its ha rv)
theorem nk_all (I : Inv X pins σ H s) : ∀ (ds : List PyData) (vs : List V) (us : List Value), TpAll X.K H vs ds → Vals vs us → NestedAll s.heap (nkAll ds) us
  | [], _, us, h, r => by
    cases h
    cases r
    exact .nil
  | d :: ds, _, us, h, r => by
    cases h with
    | cons h1 h2 =>
      cases r with
      | cons r1 r2 => exact .cons (nk_is I d _ _ h1 r1) (nk_all I ds _ _ h2 r2)
end
end

/-! ### dicts by nested tuples -/
def DnRaw (P : Program) (w : World) (h : Heap) (a : Addr) (L : List (NestedKey × Addr × V)) : Prop := (a == sysModules) = false ∧ ∃ xs : List (NestedKey × Addr × Value), Paired (fun p q => p.1 = q.1 ∧ p.2.1 = q.2.1 ∧ RelV p.2.2 q.2.2) L xs ∧
  ∃ o es ep, h.get? a = some o ∧ o.ExactDict ∧ o.data = .dict es ep ∧ es.toList = xs.map (entryOfKey (nestedKind P w)) ∧ (xs.map (·.1)).Nodup
def DnO (P : Program) (w : World) (a : Addr) (L : List (NestedKey × Addr × V)) : HO := .ext fun h => DnRaw P w h a L
theorem dn_ok {P : Program} {w : World} {H : Hp} {h : Heap} {a : Addr} {L : List (NestedKey × Addr × V)} (r : DnRaw P w h a L) : ObjOk P w H h a (DnO P w a L) := by
  obtain ⟨r0, xs, r1, o, es, ep, e, r2⟩ := id r
  refine ⟨r, ⟨o, e⟩, fun h1 h2 q st => ?_⟩
  obtain ⟨q0, xs, q1, o, es, ep, e, q2⟩ := q
  exact ⟨q0, xs, q1, o, es, ep, st _ e, q2⟩
structure DnAt (K : PySem.W.Frag) (P : Program) (w : World) (H : Hp) (a : Addr) (L : List (NestedKey × Addr × V)) : Prop where
  ob : H a = some (DnO P w a L)
  keys : ∀ p ∈ L, ∃ d, Tp K H (.ref p.2.1) d ∧ nkOf d = p.1 ∧ p.1.depth ≤ 8
def dnGet (L : List (NestedKey × Addr × V)) (k : NestedKey) : Option V := (L.find? fun p => decide (p.1 = k)).map (·.2.2)
theorem dn_find {L : List (NestedKey × Addr × V)} {xs : List (NestedKey × Addr × Value)} (r : Paired (fun p q => p.1 = q.1 ∧ p.2.1 = q.2.1 ∧ RelV p.2.2 q.2.2) L xs) (k : NestedKey) : (dnGet L k = none ∧ atKey xs k = none) ∨ ∃ v ad u, dnGet L k = some v ∧ atKey xs k = some (ad, u) ∧ RelV v u := by
  induction r with
  | nil => exact .inl ⟨rfl, rfl⟩
  | @cons p q L xs h _ ih =>
    obtain ⟨h1, h2, h3⟩ := h
    unfold dnGet atKey at ih ⊢
    by_cases e : p.1 = k
    · refine .inr ⟨p.2.2, q.2.1, q.2.2, ?_, ?_, h3⟩
      · rw [List.find?_cons_of_pos (by simp [e])]
        rfl
      · rw [List.find?_cons_of_pos (by simp [← h1, e])]
        rfl
    · rw [List.find?_cons_of_neg (by simp [e]), List.find?_cons_of_neg (by simp [← h1, e])]
      exact ih
section
variable {X : Cx} {pins : List (Addr × Obj)} {σ : L2.St} {H : Hp} {s : Shared} {A : Around} {E : Value → Shared → Prop}
theorem dn_of (I : Inv X pins σ H s) {a : Addr} {L : List (NestedKey × Addr × V)} (h : DnAt X.K X.prog X.w H a L) : (a == sysModules) = false ∧ ∃ xs, Paired (fun p q => p.1 = q.1 ∧ p.2.1 = q.2.1 ∧ RelV p.2.2 q.2.2) L xs ∧ s.heap.DictOfH (nestedKind X.prog X.w) a xs := by
  obtain ⟨r, _, _⟩ := (show ObjOk X.prog X.w H s.heap a (DnO X.prog X.w a L) from I.hok a _ h.ob)
  obtain ⟨q0, xs, q1, o, es, ep, e, q2, q3, q4, q5⟩ := r
  refine ⟨q0, xs, q1, o, es, ep, e, q2, q3, q4, ?_, q5⟩
  have key : ∀ {L : List (NestedKey × Addr × V)} {xs : List (NestedKey × Addr × Value)}, Paired (fun p q => p.1 = q.1 ∧ p.2.1 = q.2.1 ∧ RelV p.2.2 q.2.2) L xs → (∀ p ∈ L, ∃ d, Tp X.K H (.ref p.2.1) d ∧ nkOf d = p.1 ∧ p.1.depth ≤ 8) → ∀ x ∈ xs, (nestedKind X.prog X.w).is s.heap x.1 x.2.1 := fun {L xs} r => by
    induction r with
    | nil => exact fun _ x hx => absurd hx List.not_mem_nil
    | @cons p q L xs h _ ih =>
      intro hk x hx
      rcases List.mem_cons.mp hx with z | z
      · obtain ⟨h1, h2, _⟩ := h
        obtain ⟨d, t, e, l⟩ := hk p List.mem_cons_self
        rw [z, ← h1, ← h2]
        have n := nk_is I d (.ref p.2.1) (.ref p.2.1) t rfl
        rw [e] at n
        exact ⟨n, l⟩
      · exact ih (fun p hp => hk p (List.mem_cons_of_mem _ hp)) x z
  exact key q1 h.keys
theorem dn_key (I : Inv X pins σ H s) {b : Addr} {d : PyData} (t : Tp X.K H (.ref b) d) (l : (nkOf d).depth ≤ 8) : (nestedKind X.prog X.w).is s.heap (nkOf d) b := ⟨nk_is I d (.ref b) (.ref b) t rfl, l⟩
end
section
variable {X : Cx} {o i e value : Expr} {td ty tv : TE} {pos pos' p1 : Pos}
/-- {} , to be filled with nested tuples -/
def tDNewN (P : Program) (w : World) : TE := fun _ H Q => ∀ p, H p = none → Q (.ref p) (upd H p (DnO P w p []))
theorem pe_dnewN : PE X (.Dict [] [] pos) (tDNewN X.prog X.w) := ⟨fun pins s σ H Q I h => by
  refine wpAny_Dict_empty ⟨.ref s.heap.objs.size, _, I.laid (a := s.heap.objs.size) (o := DnO X.prog X.w s.heap.objs.size []) (t' := s.toks) (fun _ _ q => Heap.get?_push_of_some _ q) (Nat.le_refl _) (dn_ok ?_), rfl, h _ (I.hok.fresh (Nat.le_refl _))⟩
  have z : ObjOk X.prog X.w H _ s.heap.objs.size (.dT []) := dt_empty s.heap I.big
  obtain ⟨_, z1, xs, z2, o, es, ep, z3, z4, z5, z6, z7⟩ := z
  cases z2
  exact ⟨z1, [], .nil, o, es, ep, z3, z4, z5, by simpa using z6, List.nodup_nil⟩⟩
/-- key in d, key not in d -/
def rInN (K : PySem.W.Frag) (P : Program) (w : World) (f : Bool → Bool) : R2 := fun x y H Q => ∃ (a b : Addr) (L : List (NestedKey × Addr × V)) (d : PyData), x = .ref b ∧ y = .ref a ∧ DnAt K P w H a L ∧ Tp K H (.ref b) d ∧ (nkOf d).depth ≤ 8 ∧ Q (.bl (f (dnGet L (nkOf d)).isSome)) H
theorem op_inN (hu : X.A.units + 64 < cLine) : OpR X (compareOp .In) (rInN X.K X.prog X.w id) := by
  intro pins s σ H x y v u Q I rx ry h
  obtain ⟨a, b, L, d, rfl, rfl, hd, ht, l, q⟩ := h
  obtain rfl : v = Value.ref b := rx
  obtain rfl : u = Value.ref a := ry
  obtain ⟨z, xs, r, dd⟩ := dn_of I hd
  refine wpAny_in_heap (knd := nestedKind X.prog X.w) (by show X.A.in1.units + 8 < cLine; simp only [Around.in1_units]; omega) (dn_key I ht l) z dd ?_
  refine ⟨_, H, I.tok _, ?_, q⟩
  rcases dn_find r (nkOf d) with ⟨e1, e2⟩ | ⟨v, ad, u, e1, e2, _⟩
  · rw [e1, e2]
    rfl
  · rw [e1, e2]
    rfl
theorem op_notInN (hu : X.A.units + 64 < cLine) : OpR X (compareOp .NotIn) (rInN X.K X.prog X.w not) := by
  intro pins s σ H x y v u Q I rx ry h
  obtain ⟨a, b, L, d, rfl, rfl, hd, ht, l, q⟩ := h
  obtain rfl : v = Value.ref b := rx
  obtain rfl : u = Value.ref a := ry
  obtain ⟨z, xs, r, dd⟩ := dn_of I hd
  refine wpAny_notIn_heap (knd := nestedKind X.prog X.w) (by show X.A.in1.units + 8 < cLine; simp only [Around.in1_units]; omega) (dn_key I ht l) z dd ?_
  refine ⟨_, H, I.tok _, ?_, q⟩
  rcases dn_find r (nkOf d) with ⟨e1, e2⟩ | ⟨v, ad, u, e1, e2, _⟩
  · rw [e1, e2]
    rfl
  · rw [e1, e2]
    rfl
/-- d[key] -/
def tDGetN (K : PySem.W.Frag) (P : Program) (w : World) (td ty : TE) : TE := fun σ H Q => td σ H fun x H1 => ty σ H1 fun y H2 => ∃ (a b : Addr) (L : List (NestedKey × Addr × V)) (d : PyData) (v : V), x = .ref a ∧ y = .ref b ∧ DnAt K P w H2 a L ∧ Tp K H2 (.ref b) d ∧ (nkOf d).depth ≤ 8 ∧ dnGet L (nkOf d) = some v ∧ Q v H2
theorem pe_dgetN (hu : X.A.units + 64 < cLine) (ho : PE X o td) (hi : PE X i ty) (hs : NoSl i) : PE X (.Subscript o i pos) (tDGetN X.K X.prog X.w td ty) := by
  refine ⟨fun pins s σ H Q I h => ?_⟩
  refine subD_of PySem.F.slot_dict_getitem.lookup hs (thn (ho.run pins s σ H _ I h) fun u s1 ⟨x, H1, I1, rx, q1⟩ => thn (hi.run pins s1 σ H1 _ I1 q1) fun iv s2 ⟨y, H2, I2, ry, a, b, L, d, v, ex, ey, hd, ht, l, g, q2⟩ => ?_)
  subst ex ey
  obtain rfl : u = Value.ref a := rx
  obtain rfl : iv = Value.ref b := ry
  obtain ⟨z, xs, r, dd⟩ := dn_of I2 hd
  refine ⟨dd.typeIs, ?_⟩
  rcases dn_find r (nkOf d) with ⟨e1, _⟩ | ⟨v', ad, u, e1, e2, rv⟩
  · rw [e1] at g
    cases g
  · rw [e1] at g
    obtain rfl := Option.some.inj g
    refine wpAny_getItem_heap (knd := nestedKind X.prog X.w) (by show X.A.in1.units + 8 < cLine; simp only [Around.in1_units]; omega) (dn_key I2 ht l) dd e2 ?_
    exact ⟨_, H2, I2.tok _, rv, q2⟩
/-- d[key] = v, the key being new -/
def sDPutN (K : PySem.W.Frag) (P : Program) (w : World) (td ty tv : TE) : TS := fun D σ H => tv σ H fun v H1 => td σ H1 fun x H2 => ty σ H2 fun y H3 => ∃ (a b : Addr) (L : List (NestedKey × Addr × V)) (d : PyData), x = .ref a ∧ y = .ref b ∧ DnAt K P w H3 a L ∧ Tp K H3 (.ref b) d ∧ (nkOf d).depth ≤ 8 ∧ dnGet L (nkOf d) = none ∧ L.length < sizeLine ∧ D.nx σ (upd H3 a (DnO P w a (L ++ [(nkOf d, b, v)])))
theorem ps_dputN (hu : X.A.units + 64 < cLine) (ho : PE X o td) (hi : PE X i ty) (hv : PE X value tv) (hs : swapsWith value (some (.Subscript o i pos')) pos.line X.env = pure false) : PS X (.Assign [.Subscript o i pos'] value pos) (sDPutN X.K X.prog X.w td ty tv) := by
  refine ⟨fun pins s σ H D I h => ?_⟩
  refine wpAny_Assign_Subscript (thn (hv.run pins s σ H _ I h) fun r s1 ⟨v, H1, I1, rv, q1⟩ => thn (ho.run pins s1 σ H1 _ I1 q1) fun u s2 ⟨x, H2, I2, rx, q2⟩ => thn (hi.run pins s2 σ H2 _ I2 q2) fun iv s3 ⟨y, H3, I3, ry, a, b, L, d, ex, ey, hd, ht, l, g, lz, q3⟩ => ?_) hs
  subst ex ey
  obtain rfl : u = Value.ref a := rx
  obtain rfl : iv = Value.ref b := ry
  obtain ⟨z, xs, rp, dd⟩ := dn_of I3 hd
  have e2 : atKey xs (nkOf d) = none := by
    rcases dn_find rp (nkOf d) with ⟨_, e⟩ | ⟨v', ad, u, e1, _⟩
    · exact e
    · rw [e1] at g
      cases g
  have lx : xs.length = L.length := (Paired.length rp).symm
  refine wpAny_setItem_heap (knd := nestedKind X.prog X.w) (hsz := by omega) (by show X.A.in1.units + 8 < cLine; simp only [Around.in1_units]; omega) (dn_key I3 ht l) dd fun h' dd' hs => ?_
  rw [storedH_new e2] at dd'
  obtain ⟨q, es, ep, hq, h2, h3, h4, hkk, h5⟩ := dd'
  have rp2 : Paired (fun p q => p.1 = q.1 ∧ p.2.1 = q.2.1 ∧ RelV p.2.2 q.2.2) (L ++ [(nkOf d, b, v)]) (xs ++ [(nkOf d, b, r)]) := by
    clear hd dd e2 g lz lx h4 h5 q3 z hkk
    induction rp with
    | nil => exact .cons ⟨rfl, rfl, rv⟩ .nil
    | cons h _ ih => exact .cons h ih
  exact ⟨σ, _, d_write I3 (by rw [hd.ob]; exact True.intro) hs ⟨q, hq⟩ (dn_ok ⟨z, _, rp2, q, es, ep, hq, h2, h3, h4, h5⟩), q3⟩
end
section
variable {X : Cx} {K : PySem.W.Frag} {P : Program} {w : World} {o i e value : Expr} {td ty tv : TE} {pos pos' p1 : Pos}
theorem k_dnewN (hP : X.prog = P := by rfl) (hw : X.w = w := by rfl) : PE X (.Dict [] [] pos) (tDNewN P w) := by
  subst hP hw
  exact pe_dnewN
theorem k_inN (hu : X.A.units + 64 < cLine) (hK : X.K = K := by rfl) (hP : X.prog = P := by rfl) (hw : X.w = w := by rfl) : OpR X (compareOp .In) (rInN K P w id) := by
  subst hP hw hK
  exact op_inN hu
theorem k_notInN (hu : X.A.units + 64 < cLine) (hK : X.K = K := by rfl) (hP : X.prog = P := by rfl) (hw : X.w = w := by rfl) : OpR X (compareOp .NotIn) (rInN K P w not) := by
  subst hP hw hK
  exact op_notInN hu
theorem k_dgetN (hu : X.A.units + 64 < cLine) (ho : PE X o td) (hi : PE X i ty) (hs : NoSl i) (hK : X.K = K := by rfl) (hP : X.prog = P := by rfl) (hw : X.w = w := by rfl) : PE X (.Subscript o i pos) (tDGetN K P w td ty) := by
  subst hP hw hK
  exact pe_dgetN hu ho hi hs
theorem k_dputN (hu : X.A.units + 64 < cLine) (ho : PE X o td) (hi : PE X i ty) (hv : PE X value tv) (hs : swapsWith value (some (.Subscript o i pos')) pos.line X.env = pure false) (hK : X.K = K := by rfl) (hP : X.prog = P := by rfl) (hw : X.w = w := by rfl) : PS X (.Assign [.Subscript o i pos'] value pos) (sDPutN K P w td ty tv) := by
  subst hP hw hK
  exact ps_dputN hu ho hi hv hs
end

/-! ### is it a table? -/
def entB (c n : Int) : Ent → Bool
  | none => true
  | some e => (decide (0 ≤ e.1) && decide (e.1 ≤ c - 1)) && ((decide (0 ≤ e.2.1) && decide (e.2.1 ≤ 3)) && (decide (0 ≤ e.2.2) && decide (e.2.2 ≤ n - 1)))
def tabB : List (List Ent) → Bool
  | [] => false
  | r0 :: rs => decide ((r0 :: rs).length ≤ 10) && (((r0 :: rs).all fun r => decide (r.length = r0.length) && r.all (entB r.length (r0 :: rs).length)) && (decide (2 ≤ r0.length) && decide (r0.length ≤ 6)))
def spWhole : Sp := fun vs H Q _ => ∃ v lo hi : Int, vs = [.int v, .int lo, .int hi] ∧ Q (.bl (decide (lo ≤ v) && decide (v ≤ hi))) H
def spEntry (K : PySem.W.Frag) : Sp := fun vs H Q _ => ∃ (v : V) (c n : Int) (e : Ent), vs = [v, .int c, .int n] ∧ Tp K H v (entD e) ∧ Q (.bl (entB c n e)) H
def spIsTable (K : PySem.W.Frag) : Sp := fun vs H Q _ => ∃ (v : V) (T : List (List Ent)), vs = [v] ∧ Tp K H v (tabD T) ∧ T.length ≤ 1000 ∧ (∀ r ∈ T, r.length ≤ 1000) ∧ ∀ H', Same H H' → Q (.bl (tabB T)) H'
section
variable {P : Program} {w : World} {K : PySem.W.Frag} {mg : Str → Option Value} {base : Heap}
theorem ok_is_whole (T : Txt K mg) (D : DefAt K mg "is_whole" s_is_whole ["value", "least", "greatest"]) : Cal P w K mg base CX0 "is_whole" 1 ["value", "least", "greatest"] spWhole := by
  refine D.cal sc_is_whole (fun vs H Q E h => ?_) (fun f cdv A outer s H vs Q E hr h => ?_)
  · obtain ⟨v, lo, hi, rfl, _⟩ := h
    rfl
  · obtain ⟨v, lo, hi, rfl, q⟩ := h
    refine ⟨_, (pss_cons (ps_if (PW.pt (pw_or (pt_not (pt_val (pe_callB (k_isN (K := K)) (by rfl) T.m_isinstance (by decide +kernel) (pa_cons (pv 0) (pa_cons (pe_ty "int" (by rfl) T.m_int (by decide +kernel)) pa_nil))))) (pw_or1 (pt_val (pe_callB (k_isN (K := K)) (by rfl) T.m_isinstance (by decide +kernel) (pa_cons (pv 0) (pa_cons (pe_ty "bool" (by rfl) T.m_bool (by decide +kernel)) pa_nil))))))) (pss_one (ps_ret pe_bl)) pss_nil)
      (pss_one (ps_ret (pe_chain op_le op_le (pv 1) (pv 0) (pv 2))))), ?_⟩
    walk_at "st"
    refine ite2 (fun e => ?_) (fun e => ?_)
    · walk_at "st"
      rw [e, Bool.true_and] at q
      exact q
    · rw [Bool.eq_false_iff.mpr e, Bool.false_and] at q
      exact q
theorem ok_u_is_entry (T : Txt K mg) (D : DefAt K mg "_is_entry" s_u_is_entry ["value", "colours", "states"]) (C_is_whole : Cal P w K mg base CX0 "is_whole" 1 ["value", "least", "greatest"] spWhole) : Cal P w K mg base CX0 "_is_entry" 2 ["value", "colours", "states"] (spEntry K) := by
  refine D.cal sc_u_is_entry (fun vs H Q E h => ?_) (fun f cdv A outer s H vs Q E hr h => ?_)
  · obtain ⟨v, c, n, e, rfl, _⟩ := h
    rfl
  · obtain ⟨v, c, n, e, rfl, hv, q⟩ := h
    refine ⟨_, (pss_cons (ps_if (pt_cmpR op_isN (pv 0) pe_non (nomark _)) (pss_one (ps_ret pe_bl)) pss_nil)
      (pss_cons (ps_if (PW.pt (pw_or (pt_not (pt_val (pe_callB (k_isN (K := K)) (by rfl) T.m_isinstance (by decide +kernel) (pa_cons (pv 0) (pa_cons (pe_ty "tuple" (by rfl) T.m_tuple (by decide +kernel)) pa_nil))))) (pw_or1 (pt_cmpR op_ne (pe_callB (k_len_t (K := K)) (by rfl) T.m_len (by decide +kernel) (pa_cons (pv 0) pa_nil)) pe_int (nomark _))))) (pss_one (ps_ret pe_bl)) pss_nil)
      (pss_cons (ps_asg (pv 0) (pg_tup (by rfl) (pgs_cons (pg_name (i := 3) sc_u_is_entry.nd rfl (Or.inl rfl)) (pgs_cons (pg_name (i := 4) sc_u_is_entry.nd rfl (Or.inl rfl)) (pgs_cons (pg_name (i := 5) sc_u_is_entry.nd rfl (Or.inl rfl)) pgs_nil)))))
      (pss_one (ps_ret (pe_and (pe_own C_is_whole hr (by first | decide | omega) (pa_cons (pv 3) (pa_cons pe_int (pa_cons (pe_op op_sub (pv 1) pe_int) pa_nil)))) (pe_and (pe_own C_is_whole hr (by first | decide | omega) (pa_cons (pv 4) (pa_cons pe_int (pa_cons pe_int pa_nil)))) (pe_one (pe_own C_is_whole hr (by first | decide | omega) (pa_cons (pv 5) (pa_cons pe_int (pa_cons (pe_op op_sub (pv 2) pe_int) pa_nil)))))))))))), ?_⟩
    cases e with
    | none =>
      obtain rfl := hv.nonI
      walk_at "st"
      exact q
    | some e =>
      obtain ⟨a, rfl, hs⟩ := hv.int3
      walk_at "st"
      have q : Q (.bl ((decide (0 ≤ e.1) && decide (e.1 ≤ c - 1)) && ((decide (0 ≤ e.2.1) && decide (e.2.1 ≤ 3)) && (decide (0 ≤ e.2.2) && decide (e.2.2 ≤ n - 1))))) H := q
      refine ite2 (fun e1 => ?_) (fun e1 => ?_)
      · walk_at "st"
        rw [e1, Bool.true_and] at q
        refine ite2 (fun e2 => ?_) (fun e2 => ?_)
        · walk_at "st"
          rw [e2, Bool.true_and] at q
          exact q
        · rw [Bool.eq_false_iff.mpr e2, Bool.false_and] at q
          exact q
      · rw [Bool.eq_false_iff.mpr e1, Bool.false_and] at q
        exact q
theorem ok_is_table (T : Txt K mg) (D : DefAt K mg "is_table" s_is_table ["value"]) (C_is_entry : Cal P w K mg base CX0 "_is_entry" 2 ["value", "colours", "states"] (spEntry K)) : Cal P w K mg base CX0 "is_table" 3 ["value"] (spIsTable K) := by
  refine D.cal sc_is_table (fun vs H Q E h => ?_) (fun f cdv A outer s H vs Q E hr h => ?_)
  · obtain ⟨v, T, rfl, _⟩ := h
    rfl
  · obtain ⟨v, Tb, rfl, hv, hl, hr1, q⟩ := h
    refine ⟨_, (pss_cons (ps_if (PW.pt (pw_or (pt_not (pt_val (pe_callB (k_isN (K := K)) (by rfl) T.m_isinstance (by decide +kernel) (pa_cons (pv 0) (pa_cons (pe_ty "tuple" (by rfl) T.m_tuple (by decide +kernel)) pa_nil))))) (pw_or1 (pt_not (pt_chain op_le op_le pe_int (pe_callB (k_len_t (K := K)) (by rfl) T.m_len (by decide +kernel) (pa_cons (pv 0) pa_nil)) (pe_gint (by rfl) T.most_states)))))) (pss_one (ps_ret pe_bl)) pss_nil)
      (pss_cons (ps_for PassesOwn.never rfl (k_pi_tup (K := K) (pv 0)) (pg_name (i := 1) sc_is_table.nd rfl (Or.inr rfl))
      (pss_cons (ps_if (PW.pt (pw_or (pt_not (pt_val (pe_callB (k_isN (K := K)) (by rfl) T.m_isinstance (by decide +kernel) (pa_cons (pv 1) (pa_cons (pe_ty "tuple" (by rfl) T.m_tuple (by decide +kernel)) pa_nil))))) (pw_or1 (pt_cmpR op_ne (pe_callB (k_len_t (K := K)) (by rfl) T.m_len (by decide +kernel) (pa_cons (pv 1) pa_nil)) (pe_callB (k_len_t (K := K)) (by rfl) T.m_len (by decide +kernel) (pa_cons (pe_ix (k_ix_tup (K := K)) (pv 0) pe_int (fun _ _ => rfl)) pa_nil)) (nomark _))))) (pss_one (ps_ret pe_bl)) pss_nil)
      (pss_one (ps_if (pt_not (pt_val (pe_callB (k_all (K := K) rfl) (by rfl) T.m_all (by decide +kernel) (pa_cons (pe_lc (own := [("entry", 2)]) (g := gName 2) rfl sc_is_table.nd (k_pi_tup (K := K) (pv 1)) (blkOk_by (by rfl)) (fun _ _ _ _ _ => (pg_name (i := 2) sc_is_table.nd rfl (Or.inl rfl))) (fun _ _ _ _ _ => pts_nil) (fun _ _ _ _ _ => (pe_own C_is_entry hr (by first | decide | omega) (pa_cons (pv 2) (pa_cons (pe_callB (k_len_t (K := K)) (by rfl) T.m_len (by decide +kernel) (pa_cons (pv 1) pa_nil)) (pa_cons (pe_callB (k_len_t (K := K)) (by rfl) T.m_len (by decide +kernel) (pa_cons (pv 0) pa_nil)) pa_nil)))))) pa_nil)))) (pss_one (ps_ret pe_bl)) pss_nil))))
      (pss_one (ps_ret (pe_chain op_le op_le (pe_gint (by rfl) T.fewest_colours) (pe_callB (k_len_t (K := K)) (by rfl) T.m_len (by decide +kernel) (pa_cons (pe_ix (k_ix_tup (K := K)) (pv 0) pe_int (fun _ _ => rfl)) pa_nil)) (pe_gint (by rfl) T.most_colours)))))), ?_⟩
    obtain ⟨a, vs, rfl, hs, hvs⟩ := hv.tupI
    have hlen : vs.length = Tb.length := by rw [TpAll.length hvs, List.length_map]
    cases Tb with
    | nil =>
      obtain rfl := hvs.nilI
      walk_at "st"
      exact q H (Same.refl H)
    | cons r0 rs =>
      obtain ⟨v0, vr, rfl, h0, hvr⟩ := hvs.consI
      obtain ⟨a0, w0, rfl, hs0, hw0⟩ := h0.tupI
      have hl0 : w0.length = r0.length := by rw [TpAll.length hw0, List.length_map]
      have q : ∀ H', Same H H' → Q (.bl (decide ((r0 :: rs).length ≤ 10) && (((r0 :: rs).all fun r => decide (r.length = r0.length) && r.all (entB r.length (r0 :: rs).length)) && (decide (2 ≤ r0.length) && decide (r0.length ≤ 6))))) H' := q
      have hT : TpAll K H (V.ref a0 :: vr) ((r0 :: rs).map rowD) := hvs
      generalize hTb : (r0 :: rs) = Tb at *
      generalize hVs : (V.ref a0 :: vr) = vs at *
      have hat : atI vs (0 : Int) = some (.ref a0) := by rw [← hVs]; exact at0
      have hpos : 0 < vs.length := by rw [← hVs]; exact Nat.succ_pos _
      walk_at "st"
      refine ite2 (fun e1 => ?_) (fun e1 => ?_)
      · walk_at "st"
        refine ite2 (fun e2 => ?_) (fun e2 => ?_)
        · have e2 : ¬ ((vs.length : Int) ≤ 10) := nd_tr e2
          walk_at "st"
          rw [decide_eq_false (by omega), Bool.false_and] at q
          exact q H (Same.refl H)
        · have e2 : (vs.length : Int) ≤ 10 := nd_fl e2
          rw [decide_eq_true (by omega), Bool.true_and] at q
          walk_at "st"
          refine for_tup (K := K) (a := a) (xs := vs) (fun i σ H' => Ok (∃ y1 y2, σ = [some (.ref a), y1, y2] ∧ Same H H' ∧ ∀ r ∈ Tb.take i, (decide (r.length = r0.length) && r.all (entB r.length Tb.length)) = true))
            ⟨_, _, rfl, Same.refl H, fun r h => absurd h List.not_mem_nil⟩ (fun i σ H' _ ⟨y1, y2, _, sm, _⟩ => TK.seqT (Same.tk sm) hs) ?_ ?_
          · rintro i x σ H' hx ⟨y1, y2, rfl, sm, hall⟩
            have hi : i < Tb.length := by
              have z : i < vs.length := (List.getElem?_eq_some_iff.mp hx).1
              omega
            have hxr : Tp K H x (rowD Tb[i]) := by
              obtain ⟨z, e, hz⟩ := hT.get (i := i) (d := rowD Tb[i]) (by rw [List.getElem?_map, List.getElem?_eq_getElem hi]; rfl)
              rw [hx] at e
              cases e
              exact hz
            have hmem : Tb[i] ∈ Tb := List.getElem_mem hi
            have htk := take_more (List.getElem?_eq_getElem hi)
            generalize hrw : Tb[i] = rw at *
            obtain ⟨b, ws, rfl, hsb, hws⟩ := hxr.tupI
            have hlw : ws.length = rw.length := by rw [TpAll.length hws, List.length_map]
            have hs' := TK.seqT (Same.tk sm) hs
            have hs0' := TK.seqT (Same.tk sm) hs0
            have hsb' := TK.seqT (Same.tk sm) hsb
            have bad : (decide (rw.length = r0.length) && rw.all (entB rw.length Tb.length)) = false → Q (.bl false) H' := fun z => by
              have z2 : (Tb.all fun r => decide (r.length = r0.length) && r.all (entB r.length Tb.length)) = false := List.all_eq_false.mpr ⟨rw, hmem, by rw [z]; exact Bool.false_ne_true⟩
              have q' := q H' sm
              rw [z2, Bool.false_and] at q'
              exact q'
            have badS : (decide (rw.length = r0.length) && rw.all (entB rw.length Tb.length)) = false → ∀ H2, Same H' H2 → Q (.bl false) H2 := fun z H2 s2 => by
              have z2 : (Tb.all fun r => decide (r.length = r0.length) && r.all (entB r.length Tb.length)) = false := List.all_eq_false.mpr ⟨rw, hmem, by rw [z]; exact Bool.false_ne_true⟩
              have q' := q H2 (Same.trans sm s2)
              rw [z2, Bool.false_and] at q'
              exact q'
            walk_at "st"
            refine ite2 (fun e3 => ?_) (fun e3 => ?_)
            · have e3 := ne_tr e3
              walk_at "st"
              exact bad (by rw [decide_eq_false (by omega), Bool.false_and])
            · have e3 := ne_fl e3
              walk_at "st"
              intro L nL
              refine lc_tup (K := K) (a := b) (xs := ws) (fun j H2 => Ok (Same H' H2 ∧ H2 L = some (.lst (((rw.take j).map (entB rw.length Tb.length)).map V.bl)))) ⟨Same.new nL, upd_same⟩ (fun j H2 _ ⟨s2, _⟩ => TK.seqT (Same.tk s2) hsb') ?_ ?_
              · rintro j y H2 hy ⟨s2, hL⟩
                have hj : j < rw.length := by
                  have z : j < ws.length := (List.getElem?_eq_some_iff.mp hy).1
                  omega
                have hye : Tp K H y (entD rw[j]) := by
                  obtain ⟨z, e, hz⟩ := hws.get (i := j) (d := entD rw[j]) (by rw [List.getElem?_map, List.getElem?_eq_getElem hj]; rfl)
                  rw [hy] at e
                  cases e
                  exact hz
                have hye2 : Tp K H2 y (entD rw[j]) := Tp.mono (Same.tk (Same.trans sm s2)) _ _ hye
                have hs2 := TK.seqT (Same.tk s2) hs'
                have hsb2 := TK.seqT (Same.tk s2) hsb'
                have hsz : (((rw.take j).map (entB rw.length Tb.length)).map V.bl).length < sizeLine := by
                  rw [List.length_map, List.length_map, List.length_take]
                  have := hr1 rw hmem
                  exact small1000 (by omega)
                walk_at "st"
                refine ⟨Same.fresh s2 nL, ?_⟩
                rw [upd_same, take_more (List.getElem?_eq_getElem hj), List.map_append, List.map_append, hlw, hlen]
                rfl
              · rintro H2 ⟨s2, hL⟩
                rw [hlw, List.take_length] at hL
                walk_at "st"
                rw [List.all_map, show (id ∘ entB rw.length Tb.length) = entB rw.length Tb.length from rfl]
                refine ite2 (fun e4 => ?_) (fun e4 => ?_)
                · have e4 := nb_tr e4
                  walk_at "st"
                  exact badS (by rw [e4, Bool.and_false]) H2 s2
                · have e4 := nb_fl e4
                  refine ⟨_, _, rfl, Same.trans sm s2, fun r hr => ?_⟩
                  rw [htk] at hr
                  rcases List.mem_append.mp hr with h | h
                  · exact hall r h
                  · rw [List.mem_singleton.mp h, e4, decide_eq_true (by omega)]
                    rfl
          · rintro σ H' ⟨y1, y2, rfl, sm, hall⟩
            rw [hlen, List.take_length] at hall
            have hs' := TK.seqT (Same.tk sm) hs
            have hs0' := TK.seqT (Same.tk sm) hs0
            have q := q H' sm
            rw [List.all_eq_true.mpr hall, Bool.true_and] at q
            walk_at "st"
            refine ite2 (fun e3 => ?_) (fun e3 => ?_)
            · have e3 : (2 : Int) ≤ w0.length := of_decide_eq_true e3
              rw [decide_eq_true (by omega), Bool.true_and] at q
              walk_at "st"
              rw [show decide (r0.length ≤ 6) = decide ((w0.length : Int) ≤ 6) from decide_eq_decide.mpr (by omega)] at q
              exact q
            · have e3 : ¬ (2 : Int) ≤ w0.length := d_fl e3
              rw [decide_eq_false (by omega), Bool.false_and] at q
              exact q
      · exact absurd (decide_eq_true (show (1 : Int) ≤ vs.length by omega)) e1
end

/-! ### tables that are right -/
structure TabGood (T : List (List Ent)) : Prop where
  len : T.length ≤ 10
  rows : ∀ r ∈ T, r.length ≤ 6
  ents : ∀ r ∈ T, ∀ e ∈ r, EntOk 10 10 e
  ne : T ≠ []
  rne : ∀ r ∈ T, r ≠ []
theorem entB_ok {c n : Int} {e : Ent} (h : entB c n e = true) : EntOk c n e := by
  cases e with
  | none => trivial
  | some e =>
    simp only [entB, Bool.and_eq_true, decide_eq_true_eq] at h
    obtain ⟨⟨a, b⟩, ⟨c, d⟩, e, f⟩ := h
    exact ⟨⟨a, by omega⟩, ⟨c, by omega⟩, ⟨e, by omega⟩⟩
theorem EntOk.mono {c n c' n' : Int} {e : Ent} (h : EntOk c n e) (hc : c ≤ c') (hn : n ≤ n') : EntOk c' n' e := by
  cases e with
  | none => trivial
  | some e =>
    obtain ⟨⟨a, b⟩, ⟨c, d⟩, e, f⟩ := h
    exact ⟨⟨a, by omega⟩, ⟨c, d⟩, ⟨e, by omega⟩⟩
theorem tabB_all {r0 : List Ent} {rs : List (List Ent)} (h : tabB (r0 :: rs) = true) : (r0 :: rs).length ≤ 10 ∧ (∀ r ∈ r0 :: rs, r.length = r0.length ∧ ∀ e ∈ r, EntOk r.length (r0 :: rs).length e) ∧ 2 ≤ r0.length ∧ r0.length ≤ 6 := by
  have h : (decide ((r0 :: rs).length ≤ 10) && (((r0 :: rs).all fun r => decide (r.length = r0.length) && r.all (entB r.length (r0 :: rs).length)) && (decide (2 ≤ r0.length) && decide (r0.length ≤ 6)))) = true := h
  generalize hT : (r0 :: rs) = T at *
  simp only [Bool.and_eq_true, decide_eq_true_eq, List.all_eq_true] at h
  obtain ⟨a, b, c, d⟩ := h
  exact ⟨a, fun r hr => ⟨(b r hr).1, fun e he => entB_ok ((b r hr).2 e he)⟩, c, d⟩
theorem tabB_good {T : List (List Ent)} (h : tabB T = true) : TabGood T := by
  cases T with
  | nil => cases h
  | cons r0 rs =>
    obtain ⟨a, b, c, d⟩ := tabB_all h
    refine ⟨a, fun r hr => ?_, fun r hr e he => ?_, by simp, fun r hr z => ?_⟩
    · rw [(b r hr).1]; exact d
    · have := (b r hr).1
      exact ((b r hr).2 e he).mono (by omega) (by omega)
    · have := (b r hr).1
      rw [z] at this
      simp at this
      omega
theorem TabOk.good {c n : Nat} {T : List (List Ent)} (h : TabOk c n T) (h1 : 1 ≤ n) (h2 : n ≤ 2) (h3 : 2 ≤ c) (h4 : c ≤ 3) : tabB T = true := by
  obtain ⟨hl, hr⟩ := h
  cases T with
  | nil => simp at hl; omega
  | cons r0 rs =>
    have h0 := (hr r0 List.mem_cons_self).1
    show (decide ((r0 :: rs).length ≤ 10) && (((r0 :: rs).all fun r => decide (r.length = r0.length) && r.all (entB r.length (r0 :: rs).length)) && (decide (2 ≤ r0.length) && decide (r0.length ≤ 6)))) = true
    generalize hT : (r0 :: rs) = T at *
    simp only [Bool.and_eq_true, decide_eq_true_eq, List.all_eq_true]
    refine ⟨by omega, fun r hr' => ⟨by rw [(hr r hr').1, h0], fun e he => ?_⟩, by omega, by omega⟩
    have z := (hr r hr').2 e he
    rw [(hr r hr').1, hl]
    cases e with
    | none => rfl
    | some e =>
      obtain ⟨⟨a, b⟩, ⟨c, d⟩, e, f⟩ := z
      simp only [entB, Bool.and_eq_true, decide_eq_true_eq]
      exact ⟨⟨a, by omega⟩, ⟨c, by omega⟩, e, by omega⟩
def spCheckT (K : PySem.W.Frag) : Sp := fun vs H Q _ => ∃ (v : V) (T : List (List Ent)), vs = [v] ∧ Tp K H v (tabD T) ∧ tabB T = true ∧ ∀ H', Same H H' → Q .non H'
section
variable {P : Program} {w : World} {K : PySem.W.Frag} {mg : Str → Option Value} {base : Heap}
theorem ok_check_table (T : Txt K mg) (D : DefAt K mg "check_table" s_check_table ["value"]) (C_is_table : Cal P w K mg base CX0 "is_table" 3 ["value"] (spIsTable K)) : Cal P w K mg base CX0 "check_table" 4 ["value"] (spCheckT K) := by
  refine D.cal sc_check_table (fun vs H Q E h => ?_) (fun f cdv A outer s H vs Q E hr h => ?_)
  · obtain ⟨v, Tb, rfl, _⟩ := h
    rfl
  · obtain ⟨v, Tb, rfl, hv, hg, q⟩ := h
    refine ⟨_, (pss_one (ps_if (pt_not (pt_val (pe_own C_is_table hr (by first | decide | omega) (pa_cons (pv 0) pa_nil)))) (pss_one ps_never) pss_nil)), ?_⟩
    have g := tabB_good hg
    have h1 : Tb.length ≤ 1000 := by have := g.len; omega
    have h2 : ∀ r ∈ Tb, r.length ≤ 1000 := fun r hr => by have := g.rows r hr; omega
    walk_at "st"
    intro H' s'
    rw [hg]
    walk_at "st"
    exact q H' s'
end

/-! ### places, squares, floors: are they right? -/
abbrev FarI : Int := 1000000000000000000000000000000000000000000000000000000000000
def spPlaceOk (K : PySem.W.Frag) : Sp := fun vs H Q _ => ∃ (v : V) (p : Pt), vs = [v] ∧ Tp K H v (.tuple [.int p.1, .int p.2]) ∧ InB FarI p ∧ Q (.bl true) H
def spSquareOk (K : PySem.W.Frag) : Sp := fun vs H Q _ => ∃ (v : V) (c : Int) (s : Sq), vs = [v, .int c] ∧ Tp K H v (sqD s) ∧ InB FarI s.pt ∧ 1 ≤ s.2.2 ∧ s.2.2 < c ∧ ∀ H', Same H H' → Q (.bl true) H'
def spFloorOk (K : PySem.W.Frag) : Sp := fun vs H Q _ => ∃ (v : V) (c : Nat) (F : List Sq), vs = [v, .int c] ∧ Tp K H v (floorD F) ∧ FlOk c FarI F ∧ F.length ≤ 1000 ∧ ∀ H', Same H H' → Q .non H'
def spNumberOk : Sp := fun vs H Q _ => ∃ v lo hi : Int, vs = [.int v, .int lo, .int hi] ∧ lo ≤ v ∧ v ≤ hi ∧ Q .non H
def spWalkerOk (K : PySem.W.Frag) : Sp := fun vs H Q _ => ∃ (v : V) (n : Nat) (w : Wk), vs = [v, .int n] ∧ Tp K H v (wkD w) ∧ InB FarI (wPt w) ∧ (0 ≤ w.2.2.1 ∧ w.2.2.1 < 4) ∧ (0 ≤ w.2.2.2 ∧ w.2.2.2 < n) ∧ ∀ H', Same H H' → Q (.bl true) H'
def spCheckW (K : PySem.W.Frag) : Sp := fun vs H Q _ => ∃ (v : V) (n : Nat) (w : Wk), vs = [v, .int n] ∧ Tp K H v (wkD w) ∧ InB FarI (wPt w) ∧ (0 ≤ w.2.2.1 ∧ w.2.2.1 < 4) ∧ (0 ≤ w.2.2.2 ∧ w.2.2.2 < n) ∧ ∀ H', Same H H' → Q .non H'
theorem in_dec {a b v : Int} (h1 : a ≤ v) (h2 : v ≤ b) : (decide (a ≤ v) && decide (v ≤ b)) = true := by
  rw [decide_eq_true h1, decide_eq_true h2]
  rfl
theorem leT_false {a b c d : Int} (h : c < a ∨ (c = a ∧ d < b)) : Ob.lexAt (fun j => decide (([a, b] : List Int).getD j 0 = ([c, d] : List Int).getD j 0)) (fun j => decide (([a, b] : List Int).getD j 0 ≤ ([c, d] : List Int).getD j 0)) (decide (([a, b] : List Int).length ≤ ([c, d] : List Int).length)) 0 (min ([a, b] : List Int).length ([c, d] : List Int).length) = false := by
  show (if decide (a = c) = true then (if decide (b = d) = true then true else decide (b ≤ d)) else decide (a ≤ c)) = false
  by_cases e1 : a = c
  · rw [if_pos (decide_eq_true e1), if_neg (fun z => by have := of_decide_eq_true z; omega)]
    exact decide_eq_false (by omega)
  · rw [if_neg (fun z => e1 (of_decide_eq_true z))]
    exact decide_eq_false (by omega)
section
variable {P : Program} {w : World} {K : PySem.W.Frag} {mg : Str → Option Value} {base : Heap}
theorem ok_is_place (T : Txt K mg) (D : DefAt K mg "is_place" s_is_place ["value"]) (C_is_whole : Cal P w K mg base CX0 "is_whole" 1 ["value", "least", "greatest"] spWhole) : Cal P w K mg base CX0 "is_place" 2 ["value"] (spPlaceOk K) := by
  refine D.cal sc_is_place (fun vs H Q E h => ?_) (fun f cdv A outer s H vs Q E hr h => ?_)
  · obtain ⟨v, p, rfl, _⟩ := h
    rfl
  · obtain ⟨v, p, rfl, hv, hb, q⟩ := h
    refine ⟨_, (pss_cons (ps_if (PW.pt (pw_or (pt_not (pt_val (pe_callB (k_isN (K := K)) (by rfl) T.m_isinstance (by decide +kernel) (pa_cons (pv 0) (pa_cons (pe_ty "tuple" (by rfl) T.m_tuple (by decide +kernel)) pa_nil))))) (pw_or1 (pt_cmpR op_ne (pe_callB (k_len_t (K := K)) (by rfl) T.m_len (by decide +kernel) (pa_cons (pv 0) pa_nil)) pe_int (nomark _))))) (pss_one (ps_ret pe_bl)) pss_nil)
      (pss_one (ps_ret (pe_and (pe_own C_is_whole hr (by first | decide | omega) (pa_cons (pe_ix (k_ix_tup (K := K)) (pv 0) pe_int (fun _ _ => rfl)) (pa_cons (pe_un un_neg (pe_gint (by rfl) T.far)) (pa_cons (pe_gint (by rfl) T.far) pa_nil)))) (pe_one (pe_own C_is_whole hr (by first | decide | omega) (pa_cons (pe_ix (k_ix_tup (K := K)) (pv 0) pe_int (fun _ _ => rfl)) (pa_cons (pe_un un_neg (pe_gint (by rfl) T.far)) (pa_cons (pe_gint (by rfl) T.far) pa_nil))))))))), ?_⟩
    obtain ⟨a, rfl, hs⟩ := hv.int2
    obtain ⟨⟨b1, b2⟩, b3, b4⟩ := hb
    walk_at "st"
    rw [in_dec b1 b2]
    refine iteT ?_
    walk_at "st"
    rw [in_dec b3 b4]
    exact q
theorem ok_check_number (T : Txt K mg) (D : DefAt K mg "check_number" s_check_number ["value", "least", "greatest"]) (C_is_whole : Cal P w K mg base CX0 "is_whole" 1 ["value", "least", "greatest"] spWhole) : Cal P w K mg base CX0 "check_number" 2 ["value", "least", "greatest"] spNumberOk := by
  refine D.cal sc_check_number (fun vs H Q E h => ?_) (fun f cdv A outer s H vs Q E hr h => ?_)
  · obtain ⟨v, lo, hi, rfl, _⟩ := h
    rfl
  · obtain ⟨v, lo, hi, rfl, b1, b2, q⟩ := h
    refine ⟨_, (pss_one (ps_if (pt_not (pt_val (pe_own C_is_whole hr (by first | decide | omega) (pa_cons (pv 0) (pa_cons (pv 1) (pa_cons (pv 2) pa_nil)))))) (pss_one ps_never) pss_nil)), ?_⟩
    walk_at "st"
    rw [in_dec b1 b2]
    refine if_not ?_
    exact q
theorem ok_u_is_square (T : Txt K mg) (D : DefAt K mg "_is_square" s_u_is_square ["value", "colours"]) (C_is_whole : Cal P w K mg base CX0 "is_whole" 1 ["value", "least", "greatest"] spWhole) (C_is_place : Cal P w K mg base CX0 "is_place" 2 ["value"] (spPlaceOk K)) : Cal P w K mg base CX0 "_is_square" 3 ["value", "colours"] (spSquareOk K) := by
  refine D.cal sc_u_is_square (fun vs H Q E h => ?_) (fun f cdv A outer s H vs Q E hr h => ?_)
  · obtain ⟨v, c, s, rfl, _⟩ := h
    rfl
  · obtain ⟨v, c, s, rfl, hv, hb, c1, c2, q⟩ := h
    refine ⟨_, (pss_cons (ps_if (PW.pt (pw_or (pt_not (pt_val (pe_callB (k_isN (K := K)) (by rfl) T.m_isinstance (by decide +kernel) (pa_cons (pv 0) (pa_cons (pe_ty "tuple" (by rfl) T.m_tuple (by decide +kernel)) pa_nil))))) (pw_or1 (pt_cmpR op_ne (pe_callB (k_len_t (K := K)) (by rfl) T.m_len (by decide +kernel) (pa_cons (pv 0) pa_nil)) pe_int (nomark _))))) (pss_one (ps_ret pe_bl)) pss_nil)
      (pss_one (ps_ret (pe_and (pe_own C_is_place hr (by first | decide | omega) (pa_cons (pe_slice (k_sl_tup (K := K)) (pv 0) po_none (po_some pe_int)) pa_nil)) (pe_one (pe_own C_is_whole hr (by first | decide | omega) (pa_cons (pe_ix (k_ix_tup (K := K)) (pv 0) pe_int (fun _ _ => rfl)) (pa_cons pe_int (pa_cons (pe_op op_sub (pv 1) pe_int) pa_nil))))))))), ?_⟩
    obtain ⟨a, rfl, hs⟩ := hv.int3
    walk_at "st"
    intro p np
    have s1 : Same H (upd H p (.tup [.int s.1, .int s.2.1])) := Same.new np
    have hs1 := TK.seqT (Same.tk s1) hs
    refine ⟨.ref p, s.pt, rfl, Tp.of_ints (ks := [s.1, s.2.1]) (SqT.of upd_same), hb, ?_⟩
    refine ⟨_, rfl, iteT ?_⟩
    walk_at "st"
    rw [in_dec (by omega) (by omega)]
    exact q _ s1
theorem ok_is_walker (T : Txt K mg) (D : DefAt K mg "is_walker" s_is_walker ["value", "states"]) (C_is_whole : Cal P w K mg base CX0 "is_whole" 1 ["value", "least", "greatest"] spWhole) (C_is_place : Cal P w K mg base CX0 "is_place" 2 ["value"] (spPlaceOk K)) : Cal P w K mg base CX0 "is_walker" 3 ["value", "states"] (spWalkerOk K) := by
  refine D.cal sc_is_walker (fun vs H Q E h => ?_) (fun f cdv A outer s H vs Q E hr h => ?_)
  · obtain ⟨v, c, s, rfl, _⟩ := h
    rfl
  · obtain ⟨v, n, wk, rfl, hv, hb, ⟨c1, c2⟩, ⟨c3, c4⟩, q⟩ := h
    refine ⟨_, (pss_cons (ps_if (PW.pt (pw_or (pt_not (pt_val (pe_callB (k_isN (K := K)) (by rfl) T.m_isinstance (by decide +kernel) (pa_cons (pv 0) (pa_cons (pe_ty "tuple" (by rfl) T.m_tuple (by decide +kernel)) pa_nil))))) (pw_or1 (pt_cmpR op_ne (pe_callB (k_len_t (K := K)) (by rfl) T.m_len (by decide +kernel) (pa_cons (pv 0) pa_nil)) pe_int (nomark _))))) (pss_one (ps_ret pe_bl)) pss_nil)
      (pss_one (ps_ret (pe_and (pe_own C_is_place hr (by first | decide | omega) (pa_cons (pe_slice (k_sl_tup (K := K)) (pv 0) po_none (po_some pe_int)) pa_nil)) (pe_and (pe_own C_is_whole hr (by first | decide | omega) (pa_cons (pe_ix (k_ix_tup (K := K)) (pv 0) pe_int (fun _ _ => rfl)) (pa_cons pe_int (pa_cons pe_int pa_nil)))) (pe_one (pe_own C_is_whole hr (by first | decide | omega) (pa_cons (pe_ix (k_ix_tup (K := K)) (pv 0) pe_int (fun _ _ => rfl)) (pa_cons pe_int (pa_cons (pe_op op_sub (pv 1) pe_int) pa_nil)))))))))), ?_⟩
    obtain ⟨a, rfl, hs⟩ := hv.int4
    walk_at "st"
    intro p np
    have s1 : Same H (upd H p (.tup [.int wk.1, .int wk.2.1])) := Same.new np
    have hs1 := TK.seqT (Same.tk s1) hs
    refine ⟨.ref p, wPt wk, rfl, Tp.of_ints (ks := [wk.1, wk.2.1]) (SqT.of upd_same), hb, ?_⟩
    refine ⟨_, rfl, iteT ?_⟩
    walk_at "st"
    rw [in_dec (by omega) (by omega)]
    refine iteT ?_
    walk_at "st"
    rw [in_dec (by omega) (by omega)]
    exact q _ s1
theorem ok_check_walker (T : Txt K mg) (D : DefAt K mg "check_walker" s_check_walker ["value", "states"]) (C_is_walker : Cal P w K mg base CX0 "is_walker" 3 ["value", "states"] (spWalkerOk K)) : Cal P w K mg base CX0 "check_walker" 4 ["value", "states"] (spCheckW K) := by
  refine D.cal sc_check_walker (fun vs H Q E h => ?_) (fun f cdv A outer s H vs Q E hr h => ?_)
  · obtain ⟨v, c, s, rfl, _⟩ := h
    rfl
  · obtain ⟨v, n, wk, rfl, hv, hb, c1, c2, q⟩ := h
    refine ⟨_, (pss_one (ps_if (pt_not (pt_val (pe_own C_is_walker hr (by first | decide | omega) (pa_cons (pv 0) (pa_cons (pv 1) pa_nil))))) (pss_one ps_never) pss_nil)), ?_⟩
    walk_at "st"
    intro H1 s1
    walk_at "st"
    exact q _ s1
end

section
variable {P : Program} {w : World} {K : PySem.W.Frag} {mg : Str → Option Value} {base : Heap}
theorem SqV.get {H : Hp} {vs : List V} {F : List Sq} (h : TpAll K H vs (F.map sqD)) {i : Nat} {v : V} (e : vs[i]? = some v) : ∃ s, F[i]? = some s ∧ Tp K H v (sqD s) := by
  have hl : vs.length = F.length := by rw [TpAll.length h, List.length_map]
  have hi : i < F.length := by
    have z : i < vs.length := (List.getElem?_eq_some_iff.mp e).1
    omega
  obtain ⟨z, e2, hz⟩ := h.get (i := i) (d := sqD F[i]) (by rw [List.getElem?_map, List.getElem?_eq_getElem hi]; rfl)
  rw [e] at e2
  cases e2
  exact ⟨_, List.getElem?_eq_getElem hi, hz⟩
theorem ok_check_floor (T : Txt K mg) (D : DefAt K mg "check_floor" s_check_floor ["value", "colours"]) (C_is_square : Cal P w K mg base CX0 "_is_square" 3 ["value", "colours"] (spSquareOk K)) : Cal P w K mg base CX0 "check_floor" 4 ["value", "colours"] (spFloorOk K) := by
  refine D.cal sc_check_floor (fun vs H Q E h => ?_) (fun f cdv A outer s H vs Q E hr h => ?_)
  · obtain ⟨v, c, F, rfl, _⟩ := h
    rfl
  · obtain ⟨v, c, F, rfl, hv, hF, hl, q⟩ := h
    refine ⟨_, (pss_cons (ps_if (PW.pt (pw_or (pt_not (pt_val (pe_callB (k_isN (K := K)) (by rfl) T.m_isinstance (by decide +kernel) (pa_cons (pv 0) (pa_cons (pe_ty "tuple" (by rfl) T.m_tuple (by decide +kernel)) pa_nil))))) (pw_or1 (pt_cmpR op_gt (pe_callB (k_len_t (K := K)) (by rfl) T.m_len (by decide +kernel) (pa_cons (pv 0) pa_nil)) (pe_gint (by rfl) T.most_squares) (nomark _))))) (pss_one ps_never) pss_nil)
      (pss_one (ps_for PassesOwn.never rfl (k_enT (K := K) (by rfl) T.m_enumerate (pa_cons (pv 0) pa_nil)) (pg_tup (by rfl) (pgs_cons (pg_name (i := 2) sc_check_floor.nd rfl (Or.inl rfl)) (pgs_cons (pg_name (i := 3) sc_check_floor.nd rfl (Or.inl rfl)) pgs_nil)))
      (pss_cons (ps_if (pt_not (pt_val (pe_own C_is_square hr (by first | decide | omega) (pa_cons (pv 3) (pa_cons (pv 1) pa_nil))))) (pss_one ps_never) pss_nil)
      (pss_one (ps_if (PW.pt (pw_and (pt_cmpR op_gt (pv 2) pe_int (nomark _)) (pw_and1 (pt_cmpR (k_leT (K := K) hr.units0) (pe_slice (k_sl_tup (K := K)) (pv 3) po_none (po_some pe_int)) (pe_slice (k_sl_tup (K := K)) (pe_ix (k_ix_tup (K := K)) (pv 0) (pe_op op_sub (pv 2) pe_int) (fun _ _ => rfl)) po_none (po_some pe_int)) (nomark _))))) (pss_one ps_never) pss_nil)))))), ?_⟩
    obtain ⟨a, vs, rfl, hs, hvs⟩ := hv.tupI
    have hlen : vs.length = F.length := by rw [TpAll.length hvs, List.length_map]
    walk_at "st"
    refine ite2 (fun e => absurd (of_decide_eq_true e) (by omega)) (fun _ => ?_)
    walk_at "st"
    refine for_it (walkEn (K := K) (a := a) (xs := vs)) (fun i σ H' => Ok (∃ y1 y2, σ = [some (.ref a), some (.int c), y1, y2] ∧ Same H H')) ⟨_, _, rfl, Same.refl H⟩ (fun i σ H' _ ⟨y1, y2, _, sm⟩ => TK.seqT (Same.tk sm) hs) ?_ ?_
    · rintro i x σ H' H2 hi ⟨y1, y2, rfl, sm⟩ ⟨t, z, y, rfl, nt, rfl, e1, e2⟩
      cases e1
      obtain ⟨s, hsF, hz⟩ := SqV.get hvs e2
      have s2 : Same H (upd H' t (.tup [.int (i : Nat), y])) := Same.trans sm (Same.new nt)
      have hsq := Tp.mono (Same.tk s2) _ _ hz
      obtain ⟨b, rfl, hsb⟩ := hsq.int3
      have hs2 := TK.seqT (Same.tk s2) hs
      obtain ⟨k1, k2, k3⟩ := hF.sq s (List.mem_of_getElem? hsF)
      walk_at "st"
      intro H3 s3
      have s03 := Same.trans s2 s3
      have hs3 := TK.seqT (Same.tk s03) hs
      have hsb3 := TK.seqT (Same.tk s3) hsb
      walk_at "st"
      refine ite2 (fun e => ?_) (fun e => ?_)
      · have hi0 : 0 < i := by
          have := of_decide_eq_true e
          omega
        have l1 : i - 1 < vs.length := by omega
        have hat : atI vs ((i : Int) - 1) = some vs[i - 1] := by
          rw [show ((i : Int) - 1) = ((i - 1 : Nat) : Int) by omega]
          exact atI_nat (List.getElem?_eq_getElem l1)
        obtain ⟨s0, hs0F, hz0⟩ := SqV.get hvs (List.getElem?_eq_getElem l1)
        have hz0 := Tp.mono (Same.tk s03) _ _ hz0
        have lt : ltP s0.pt s.pt := by
          obtain ⟨l2, e3⟩ := List.getElem?_eq_some_iff.mp hs0F
          obtain ⟨l3, e4⟩ := List.getElem?_eq_some_iff.mp hsF
          have z := List.pairwise_iff_getElem.mp hF.asc (i - 1) i l2 l3 (by omega)
          rw [e3, e4] at z
          exact z
        obtain ⟨b0, e5, hs0⟩ := hz0.int3
        rw [e5] at hat
        walk_at "st"
        intro p np
        have s4 : Same H3 (upd H3 p (.tup [.int s.1, .int s.2.1])) := Same.new np
        have hs4 := TK.seqT (Same.tk s4) hs3
        have hs04 := TK.seqT (Same.tk s4) hs0
        have hp : (upd H3 p (.tup [.int s.1, .int s.2.1])) p = some (.tup (([s.1, s.2.1] : List Int).map V.int)) := upd_same
        walk_at "st"
        intro p2 np2
        have s5 : Same (upd H3 p (.tup [.int s.1, .int s.2.1])) (upd (upd H3 p (.tup [.int s.1, .int s.2.1])) p2 (.tup [.int s0.1, .int s0.2.1])) := Same.new np2
        refine ⟨p, p2, [s.1, s.2.1], [s0.1, s0.2.1], rfl, rfl, SqT.of (s5 _ _ hp), SqT.of upd_same, ?_⟩
        rw [leT_false (a := s.1) (b := s.2.1) (c := s0.1) (d := s0.2.1) lt]
        walk_at "st"
        exact ⟨_, _, rfl, Same.trans s03 (Same.trans s4 s5)⟩
      · walk_at "st"
        exact ⟨_, _, rfl, s03⟩
    · rintro σ H' ⟨y1, y2, rfl, sm⟩
      exact q H' sm
end

/-! ### floors and cells -/
def spPlaces (K : PySem.W.Frag) : Sp := fun vs H Q _ => ∃ (v : V) (F : List Sq), vs = [v] ∧ Tp K H v (floorD F) ∧ (F.Pairwise fun a b => ltP a.pt b.pt) ∧ F.length ≤ 1000 ∧ ∀ D H', H D = none → H' D = some (.dT (cellK (cellsOf F))) → Same H H' → Q (.ref D) H'
def spFloorOf (K : PySem.W.Frag) : Sp := fun vs H Q _ => ∃ (D : Addr) (m : CM), vs = [.ref D] ∧ H D = some (.dT (cellK m)) ∧ (m.map (·.1)).Nodup ∧ (∀ e ∈ m, e.2 ≠ 0) ∧ m.length ≤ 3000 ∧
  ∀ v H' F, FloorOf (col m) F → F.length = m.length → Tp K H' v (floorD F) → Same H H' → Q v H'
/-- painted so -/
def paintM (m : CM) (p : Pt) (c : Int) : CM := if c = 0 then dropM m p else putM m p c
theorem paint_nd {m : CM} (p : Pt) (c : Int) (h : (m.map (·.1)).Nodup) : ((paintM m p c).map (·.1)).Nodup := by
  unfold paintM
  split
  · exact nd_drop p h
  · exact nd_put p c h
theorem paint_len (m : CM) (p : Pt) (c : Int) : (paintM m p c).length ≤ m.length + 1 := by
  unfold paintM
  have := len_put m p c
  have := len_drop m p
  split <;> omega
theorem put_mem : ∀ {m : CM} {p : Pt} {c : Int} {e : Pt × Int}, e ∈ putM m p c → e ∈ m ∨ e.2 = c
  | [], p, c, e, h => .inr (by rw [List.mem_singleton.mp h])
  | a :: r, p, c, e, h => by
    unfold putM at h
    by_cases q : a.1 = p
    · rw [if_pos q] at h
      rcases List.mem_cons.mp h with z | z
      · exact .inr (by rw [z])
      · exact .inl (List.mem_cons_of_mem _ z)
    · rw [if_neg q] at h
      rcases List.mem_cons.mp h with z | z
      · exact .inl (z ▸ List.mem_cons_self)
      · exact (put_mem z).imp (List.mem_cons_of_mem _) id
theorem drop_mem : ∀ {m : CM} {p : Pt} {e : Pt × Int}, e ∈ dropM m p → e ∈ m
  | a :: r, p, e, h => by
    unfold dropM at h
    by_cases q : a.1 = p
    · rw [if_pos q] at h
      exact List.mem_cons_of_mem _ h
    · rw [if_neg q] at h
      rcases List.mem_cons.mp h with z | z
      · exact z ▸ List.mem_cons_self
      · exact List.mem_cons_of_mem _ (drop_mem z)
theorem paint_nz {m : CM} {p : Pt} {c : Int} (h : ∀ e ∈ m, e.2 ≠ 0) : ∀ e ∈ paintM m p c, e.2 ≠ 0 := by
  intro e he
  unfold paintM at he
  by_cases z : c = 0
  · rw [if_pos z] at he
    exact h e (drop_mem he)
  · rw [if_neg z] at he
    rcases put_mem he with q | q
    · exact h e q
    · rw [q]
      exact z
theorem paint_col {m : CM} (p : Pt) (c : Int) (h : (m.map (·.1)).Nodup) : col (paintM m p c) = dab (col m) p c := by
  funext q
  unfold paintM col dab
  by_cases z : c = 0
  · rw [if_pos z, look_drop p q h]
    split
    · exact z.symm
    · rfl
  · rw [if_neg z, look_put]
    split <;> rfl
def spPaint : Sp := fun vs H Q _ => ∃ (D b : Addr) (m : CM) (x y c : Int), vs = [.ref D, .ref b, .int c] ∧ H D = some (.dT (cellK m)) ∧ H b = some (.tup [.int x, .int y]) ∧ (m.map (·.1)).Nodup ∧ m.length ≤ 3000 ∧
  ∀ H', H' D = some (.dT (cellK (paintM m (x, y) c))) → KeepE [D] H H' → Q .non H'
/-- the cells, sorted, are the floor -/
theorem sorted_floor {m : CM} {bs : List (Addr × List Int)} (nd : (m.map (·.1)).Nodup) (nz : ∀ e ∈ m, e.2 ≠ 0) (pm : (bs.map (·.2)).Perm (m.map fun e => [e.1.1, e.1.2, e.2])) (pw : bs.Pairwise fun x y => ltZ y.2 x.2 = false) :
    ∃ F : List Sq, bs.map (·.2) = F.map (fun s => [s.1, s.2.1, s.2.2]) ∧ FloorOf (col m) F ∧ F.length = m.length := by
  have pm2 : (bs.map (·.2)).Perm ((m.map fun e => ((e.1.1, e.1.2, e.2) : Sq)).map fun s => [s.1, s.2.1, s.2.2]) := by
    rw [List.map_map]
    exact pm
  obtain ⟨F, pF, eF⟩ := perm_lift (fun s : Sq => [s.1, s.2.1, s.2.2]) pm2 _ rfl
  have pwF : F.Pairwise fun a b => ltZ [b.1, b.2.1, b.2.2] [a.1, a.2.1, a.2.2] = false := by
    have z : (bs.map (·.2)).Pairwise fun x y => ltZ y x = false := List.pairwise_map.mpr pw
    rw [← eF] at z
    exact List.pairwise_map.mp z
  have ndF : F.Pairwise fun a b => a.pt ≠ b.pt := by
    have z : ((m.map fun e => ((e.1.1, e.1.2, e.2) : Sq)).map Sq.pt).Nodup := by
      rw [List.map_map]
      exact nd
    have y : (F.map Sq.pt).Nodup := (pF.map Sq.pt).nodup_iff.mpr z
    exact List.pairwise_map.mp y
  have asc : F.Pairwise fun a b => ltP a.pt b.pt := by
    refine List.Pairwise.imp₂ (fun a b h1 h2 => ?_) pwF ndF
    have h3 : ¬ (b.1 < a.1 ∨ (¬ a.1 < b.1 ∧ b.2.1 < a.2.1)) := fun z => by
      have e : ltZ [b.1, b.2.1, b.2.2] [a.1, a.2.1, a.2.2] = true := by
        show (decide (b.1 < a.1) || (!decide (a.1 < b.1) && (decide (b.2.1 < a.2.1) || (!decide (a.2.1 < b.2.1) && ltZ [b.2.2] [a.2.2])))) = true
        rcases z with z | ⟨z1, z2⟩
        · rw [decide_eq_true z]
          rfl
        · rw [decide_eq_false z1, decide_eq_true z2, Bool.or_eq_true]
          exact .inr rfl
      rw [e] at h1
      cases h1
    have h4 : ¬ (a.1 = b.1 ∧ a.2.1 = b.2.1) := fun z => h2 (Prod.ext z.1 z.2)
    show a.1 < b.1 ∨ (a.1 = b.1 ∧ a.2.1 < b.2.1)
    omega
  refine ⟨F, eF.symm, ⟨asc, fun s => ?_⟩, by rw [pF.length_eq, List.length_map]⟩
  rw [pF.mem_iff, List.mem_map]
  constructor
  · rintro ⟨e, he, rfl⟩
    have q := mem_look nd (show (e.1, e.2) ∈ m from he)
    refine ⟨?_, nz e he⟩
    show e.2 = (look m (e.1.1, e.1.2)).getD 0
    rw [show ((e.1.1, e.1.2) : Pt) = e.1 from rfl, q]
    rfl
  · rintro ⟨h1, h2⟩
    cases q : look m s.pt with
    | none =>
      unfold col at h1
      rw [q] at h1
      exact absurd h1 h2
    | some c =>
      unfold col at h1
      rw [q] at h1
      refine ⟨(s.pt, c), look_mem q, ?_⟩
      obtain ⟨x, y, k⟩ := s
      show (x, y, c) = (x, y, k)
      rw [show k = c from h1]

theorem dcT_it {J : It} {n : Nat} {G : Hp → Prop} {Y : Nat → Hp → V → Hp → Prop} (w : Walk J n G Y) {g : TG} {tk tv : TE} {vs : List Nat} {σ : L2.St} {H1 : Hp} {D : Addr} {Qd : Hp → Prop} (Pv : Nat → Hp → Prop) (h0 : Pv 0 (upd H1 D (.dT []))) (hG : ∀ i H, i ≤ n → Pv i H → G H)
    (hs : ∀ i x H H', i < n → Pv i H → Y i H x H' → g x (wipe σ vs) H' fun σ2 H2 => wipe σ2 vs = wipe σ vs ∧ tk σ2 H2 fun y H3 => tv σ2 H3 fun c H4 => ∃ kvs k b, y = .ref b ∧ H4 b = some (.tup (k.map kV)) ∧ H4 D = some (.dT kvs) ∧ kvs.length < sizeLine ∧ Pv (i + 1) (upd H4 D (.dT (putK kvs k c)))) (hd : ∀ H, Pv n H → Qd H) :
    ∃ W : Nat → Nat → Hp → Prop, (∃ m, W 0 m (upd H1 D (.dT []))) ∧ ∀ i m H, W i m H →
      (J.stop i H ∧ Qd H) ∨ (J.go i H ∧ ∃ Nx : Hp → Prop, (∀ H', Nx H' → ∃ m', m' < m ∧ W (i + 1) m' H') ∧ ∀ x H', J.yld i H x H' → g x (wipe σ vs) H' fun σ2 H2 => wipe σ2 vs = wipe σ vs ∧
        tk σ2 H2 fun y H3 => tv σ2 H3 fun c H4 => ∃ kvs k b, y = .ref b ∧ H4 b = some (.tup (k.map kV)) ∧ H4 D = some (.dT kvs) ∧ kvs.length < sizeLine ∧ Nx (upd H4 D (.dT (putK kvs k c)))) := by
  refine ⟨fun i m H => m = n - i ∧ i ≤ n ∧ Pv i H, ⟨n, rfl, Nat.zero_le _, h0⟩, fun i m H wi => ?_⟩
  obtain ⟨rfl, hi, p⟩ := wi
  have q := hG i H hi p
  rcases Nat.lt_or_ge i n with lt | ge
  · exact .inr ⟨w.goes i H lt q, Pv (i + 1), fun H' p' => ⟨n - (i + 1), by omega, rfl, lt, p'⟩, fun x H' y => hs i x H H' lt p (w.yields i H x H' lt q y)⟩
  · obtain rfl : i = n := Nat.le_antisymm hi ge
    exact .inl ⟨w.stops H q, hd H p⟩
theorem put_fresh {m : CM} {p : Pt} (c : Int) (h : p ∉ m.map (·.1)) : putM m p c = m ++ [(p, c)] := by
  induction m with
  | nil => rfl
  | cons e r ih =>
    unfold putM
    rw [if_neg (fun z => h (by rw [List.map_cons, z]; exact List.mem_cons_self)), ih fun z => h (List.mem_cons_of_mem _ z)]
    rfl
theorem cellK_snoc {m : CM} {p : Pt} {c : Int} (nd : (m.map (·.1)).Nodup) (h : p ∉ m.map (·.1)) : putK (cellK m) (ptK p) (.int c) = cellK (m ++ [(p, c)]) := by
  rw [cell_put p c nd, put_fresh c h]
theorem sqs_tp {K : PySem.W.Frag} {H : Hp} : ∀ {bs : List (Addr × List Int)} {F : List Sq}, (∀ b ∈ bs, SqT K H b.1 (b.2.map V.int)) → bs.map (·.2) = F.map (fun s => [s.1, s.2.1, s.2.2]) → TpAll K H (bs.map fun b => .ref b.1) (F.map sqD)
  | [], [], _, _ => .nil
  | [], _ :: _, _, e => nomatch e
  | _ :: _, [], _, e => nomatch e
  | b :: bs, s :: F, h, e => by
    obtain ⟨e1, e2⟩ := List.cons.inj e
    have h1 := h b List.mem_cons_self
    rw [show b.2 = [s.1, s.2.1, s.2.2] from e1] at h1
    exact .cons (Tp.of_ints (ks := [s.1, s.2.1, s.2.2]) h1) (sqs_tp (fun y hy => h y (List.mem_cons_of_mem _ hy)) e2)
theorem ty_dT {K : PySem.W.Frag} {H : Hp} {a : Addr} {kvs : List (List Key × V)} (h : H a = some (.dT kvs)) : tyV K "dict" (.ref a) H := by
  unfold tyV
  simp [h]
section
variable {P : Program} {w : World} {K : PySem.W.Frag} {mg : Str → Option Value} {base : Heap}
theorem ok_painted_places (T : Txt K mg) (D : DefAt K mg "painted_places" s_painted_places ["floor"]) : Cal P w K mg base CX0 "painted_places" 1 ["floor"] (spPlaces K) := by
  refine D.cal sc_painted_places (fun vs H Q E h => ?_) (fun f cdv A outer s H vs Q E hr h => ?_)
  · obtain ⟨v, F, rfl, _⟩ := h
    rfl
  · obtain ⟨v, F, rfl, hv, asc, hl, q⟩ := h
    refine ⟨_, (pss_one (ps_ret (pe_dcT (own := [("x", 1), ("y", 2), ("colour", 3)]) (g := gTup K 3 (gCons (gName 1) (gCons (gName 2) (gCons (gName 3) gNil)))) rfl hr.units0 sc_painted_places.nd (k_pi_tup (K := K) (pv 0)) (blkOk_by (by rfl)) (fun _ _ _ _ _ => (k_pgT (K := K) 3 (by rfl) (pgs_cons (pg_name (i := 1) sc_painted_places.nd rfl (Or.inl rfl)) (pgs_cons (pg_name (i := 2) sc_painted_places.nd rfl (Or.inl rfl)) (pgs_cons (pg_name (i := 3) sc_painted_places.nd rfl (Or.inl rfl)) pgs_nil))))) (fun _ _ _ _ _ => (pe_tup (pa_cons (pv 1) (pa_cons (pv 2) pa_nil)))) (fun _ _ _ _ _ => (pv 3))))), ?_⟩
    obtain ⟨a, vs, rfl, hs, hvs⟩ := hv.tupI
    have hlen : vs.length = F.length := by rw [TpAll.length hvs, List.length_map]
    walk_at "st"
    intro D nD
    refine dcT_it (walk_tup (K := K) (a := a) (xs := vs)) (fun i H' => Ok (Same H H' ∧ H' D = some (.dT (cellK (cellsOf (F.take i)))))) ⟨Same.new nD, upd_same⟩ (fun i H' _ ⟨sm, _⟩ => TK.seqT (Same.tk sm) hs) ?_ ?_
    · rintro i x H' H2 hi ⟨sm, hD⟩ ⟨rfl, hx⟩
      obtain ⟨s, hsF, hz⟩ := SqV.get hvs hx
      have hz := Tp.mono (Same.tk sm) _ _ hz
      obtain ⟨b, rfl, hsb⟩ := hz.int3
      walk_at "st"
      intro p np
      have hD2 : (upd H2 p (.tup [.int s.1, .int s.2.1])) D = some (.dT (cellK (cellsOf (F.take i)))) := by rw [upd_ne (ne_of_none hD np)]; exact hD
      have nd : ((cellsOf (F.take i)).map (·.1)).Nodup := asc_nd (asc.sublist (List.take_sublist _ _))
      have nin : s.pt ∉ (cellsOf (F.take i)).map (·.1) := fun z => by
        have nd2 : ((cellsOf (F.take (i + 1))).map (·.1)).Nodup := asc_nd (asc.sublist (List.take_sublist _ _))
        rw [take_more hsF] at nd2
        unfold cellsOf at nd2 z
        rw [List.map_append, List.map_append, List.nodup_append] at nd2
        exact nd2.2.2 _ z s.pt List.mem_cons_self rfl
      have hsz : (cellK (cellsOf (F.take i))).length < sizeLine := by
        rw [cell_len]
        unfold cellsOf
        rw [List.length_map, List.length_take]
        exact small1000 (by omega)
      refine ⟨_, rfl, _, ptK s.pt, p, rfl, upd_same, hD2, hsz, Same.fresh (Same.trans sm (Same.new np)) nD, ?_⟩
      rw [upd_same, cellK_snoc nd nin, take_more hsF]
      unfold cellsOf
      rw [List.map_append]
      rfl
    · rintro H' ⟨sm, hD⟩
      rw [hlen, List.take_length] at hD
      exact q D H' nD hD sm
theorem ok_floor_of (T : Txt K mg) (D : DefAt K mg "floor_of" s_floor_of ["painted"]) : Cal P w K mg base CX0 "floor_of" 1 ["painted"] (spFloorOf K) := by
  refine D.cal sc_floor_of (fun vs H Q E h => ?_) (fun f cdv A outer s H vs Q E hr h => ?_)
  · obtain ⟨D, m, rfl, _⟩ := h
    rfl
  · obtain ⟨D, m, rfl, hD, nd, nz, hl, q⟩ := h
    refine ⟨_, (pss_one (ps_ret (pe_callTy (k_tuple_l (K := K)) (by rfl) T.m_tuple (by decide +kernel) (pa_cons (pe_callB (k_sortT (K := K)) (by rfl) T.m_sorted (by decide +kernel) (pa_cons (pe_lock (pe_lc (own := [("x", 1), ("y", 2)]) (g := gTup K 2 (gCons (gName 1) (gCons (gName 2) gNil))) rfl sc_floor_of.nd (pi_keys (pv 0)) (blkOk_by (by rfl)) (fun _ _ _ _ _ => (k_pgT (K := K) 2 (by rfl) (pgs_cons (pg_name (i := 1) sc_floor_of.nd rfl (Or.inl rfl)) (pgs_cons (pg_name (i := 2) sc_floor_of.nd rfl (Or.inl rfl)) pgs_nil)))) (fun _ _ _ _ _ => pts_nil) (fun _ _ _ _ _ => (pe_tup (pa_cons (pv 1) (pa_cons (pv 2) (pa_cons (pe_dget (hu_of hr) (pv 0) (pe_tup (pa_cons (pv 1) (pa_cons (pv 2) pa_nil))) (fun _ _ => rfl)) pa_nil))))))) pa_nil)) pa_nil)))), ?_⟩
    walk_at "st"
    intro od
    have fD : (upd H D (.frz od (.dT (cellK m)))) D = some (.frz od (.dT (cellK m))) := upd_same
    generalize hHf : upd H D (.frz od (.dT (cellK m))) = Hf at fD
    refine ⟨_, rfl, D, od, rfl, .inr ⟨cellK m, fD, ?_⟩⟩
    intro L nL
    have nLD : L ≠ D := fun z => by
      rw [z, fD] at nL
      cases nL
    refine lc_it (walk_keysT (d := D) (o := od) (kvs := cellK m)) (fun i H' => Ok (Same Hf H' ∧ ∃ bs : List (Addr × List Int), H' L = some (.lst (bs.map fun b => .ref b.1)) ∧ bs.map (·.2) = (m.take i).map (fun e => [e.1.1, e.1.2, e.2]) ∧ ∀ b ∈ bs, H' b.1 = some (.tup (b.2.map V.int))))
      ⟨Same.new nL, [], upd_same, rfl, fun b hb => nomatch hb⟩ (fun i H' _ ⟨sm, _⟩ => sm _ _ fD) ?_ ?_
    · rintro i x H' H2 hi ⟨sm, bs, hL, eb, tb⟩ ⟨rfl, k, v, qa, hk, rfl, hq⟩
      have hi : i < m.length := by rw [cell_len] at hi; exact hi
      have e0 : (cellK m)[i]? = some (ptK m[i].1, V.int m[i].2) := by
        unfold cellK
        rw [List.getElem?_map, List.getElem?_eq_getElem hi]
        rfl
      rw [e0] at hk
      obtain ⟨rfl, rfl⟩ := Prod.mk.inj (Option.some.inj hk)
      have hq : H2 qa = some (.tup [.int m[i].1.1, .int m[i].1.2]) := hq
      have hD2 := sm _ _ fD
      have lk : look m m[i].1 = some m[i].2 := mem_look nd (List.getElem_mem hi)
      have hlen : bs.length = i := by
        have z := congrArg List.length eb
        rw [List.length_map, List.length_map, List.length_take] at z
        omega
      have tk1 := take_more (List.getElem?_eq_getElem hi)
      generalize he : m[i] = e at *
      walk_at "st"
      intro p np
      have s1 : Same H2 (upd H2 p (.tup [.int e.1.1, .int e.1.2])) := Same.new np
      have hg : DGet (upd H2 p (.tup [.int e.1.1, .int e.1.2])) D (.ref p) (some (.int e.2)) := .inr ⟨cellK m, ptK e.1, p, .inr ⟨od, s1 _ _ hD2⟩, rfl, upd_same, by rw [cell_val, lk]; rfl⟩
      walk_at "st"
      intro p2 np2
      have s2 : Same (upd H2 p (.tup [.int e.1.1, .int e.1.2])) (upd (upd H2 p (.tup [.int e.1.1, .int e.1.2])) p2 (.tup [.int e.1.1, .int e.1.2, .int e.2])) := Same.new np2
      have s3 := Same.trans s1 s2
      have hL3 := s3 _ _ hL
      have hsz : (bs.map fun b => V.ref b.1).length < sizeLine := by
        rw [List.length_map]
        exact Nat.lt_of_lt_of_le (show bs.length < 3001 by omega) (by decide)
      have nLp : ∀ b o, H2 b = some o → b ≠ L → (upd (upd (upd H2 p (.tup [.int e.1.1, .int e.1.2])) p2 (.tup [.int e.1.1, .int e.1.2, .int e.2])) L (.lst ((bs.map fun b => V.ref b.1) ++ [.ref p2]))) b = some o := fun b o hb n => by
        rw [upd_ne n]
        exact s3 _ _ hb
      have np2L : p2 ≠ L := (ne_of_none (s1 _ _ hL) np2).symm
      refine ⟨_, hL3, hsz, Same.fresh (Same.trans sm s3) nL, bs ++ [(p2, [e.1.1, e.1.2, e.2])], ?_, ?_, fun b hb => ?_⟩
      · rw [upd_same, List.map_append]
        rfl
      · rw [tk1, List.map_append, List.map_append, eb]
        rfl
      · rcases List.mem_append.mp hb with h | h
        · exact nLp _ _ (tb b h) (ne_of (tb b h) hL (by intro z; cases z))
        · rw [List.mem_singleton.mp h, upd_ne np2L]
          exact upd_same
    · rintro H' ⟨sm, bs, hL, eb, tb⟩
      rw [cell_len, List.take_length] at eb
      have hD2 := sm _ _ fD
      refine ⟨hD2, ?_⟩
      have neD : ∀ b o, H' b = some o → (∀ od u, o ≠ .frz od u) → b ≠ D := fun b o hb n z => by
        rw [z, hD2] at hb
        cases hb
        exact n _ _ rfl
      have sB : Same H (upd H' D (.dT (cellK m))) := fun b o hb => by
        by_cases z : b = D
        · rw [z, hD] at hb
          rw [z, upd_same, hb]
        · rw [upd_ne z]
          refine sm _ _ ?_
          rw [← hHf, upd_ne z]
          exact hb
      have hL2 : (upd H' D (.dT (cellK m))) L = some (.lst (bs.map fun b => .ref b.1)) := by rw [upd_ne nLD]; exact hL
      have tb2 : ∀ b ∈ bs, SqT K (upd H' D (.dT (cellK m))) b.1 (b.2.map V.int) ∧ b.2 ≠ [] := fun b hb => by
        refine ⟨?_, fun z => ?_⟩
        · exact SqT.of (by
            rw [upd_ne (neD _ _ (tb b hb) (by intro _ _ z; cases z))]
            exact tb b hb)
        · have mm : b.2 ∈ bs.map (·.2) := List.mem_map.mpr ⟨b, hb, rfl⟩
          rw [eb, z] at mm
          obtain ⟨y, _, ey⟩ := List.mem_map.mp mm
          cases ey
      refine ⟨L, bs, rfl, SqL.of hL2, tb2, fun p bs2 np pm pw => ?_⟩
      have pm2 : (bs2.map (·.2)).Perm (m.map fun e => [e.1.1, e.1.2, e.2]) := by
        rw [← eb]
        exact pm.map _
      obtain ⟨F, eF, fo, lF⟩ := sorted_floor nd nz pm2 pw
      refine ⟨p, _, rfl, SqL.of upd_same, fun l nl => ?_⟩
      have sP : Same (upd H' D (.dT (cellK m))) (upd (upd (upd H' D (.dT (cellK m))) p (.lst (bs2.map fun b => .ref b.1))) l (.tup (bs2.map fun b => .ref b.1))) := Same.trans (Same.new np) (Same.new nl)
      refine q _ _ F fo lF (.tup (SqT.of upd_same) ?_) (Same.trans sB sP)
      exact sqs_tp (fun b hb => TK.seqT (Same.tk sP) (tb2 b (pm.mem_iff.mp hb)).1) eF
theorem ok_paint_square (T : Txt K mg) (D : DefAt K mg "paint_square" s_paint_square ["painted", "place", "colour"]) : Cal P w K mg base CX0 "paint_square" 1 ["painted", "place", "colour"] spPaint := by
  refine D.cal sc_paint_square (fun vs H Q E h => ?_) (fun f cdv A outer s H vs Q E hr h => ?_)
  · obtain ⟨D, b, m, x, y, c, rfl, _⟩ := h
    rfl
  · obtain ⟨D, b, m, x, y, c, rfl, hD, hb, nd, hl, q⟩ := h
    refine ⟨_, (pss_one (ps_if (pt_cmpR op_eq (pv 2) pe_int (nomark _)) (pss_one (ps_expr (pe_bm PySem.F.plainAttrs_dict PySem.F.slot_dict_pop PySem.F.type_dict_pop (DX.mt_popT (hu_of hr)) (pv 0) (pa_cons (pv 1) (pa_cons pe_non pa_nil))))) (pss_one (ps_if (PW.pt (pw_or (pt_cmp (pc_din (hu_of hr) (pv 1) (pv 0))) (pw_or1 (pt_cmpR op_lt (pe_callB call_len_dT (by rfl) T.m_len (by decide +kernel) (pa_cons (pv 0) pa_nil)) (pe_gint (by rfl) T.most_squares) (nomark _))))) (pss_one (ps_dput (hu_of hr) (pv 0) (pv 1) (pv 2) (by rfl))) (pss_one ps_never))))), ?_⟩
    have hbk : H b = some (.tup ((ptK (x, y)).map kV)) := hb
    have nbD : b ≠ D := ne_of hb hD (by intro z; cases z)
    have hsz : (cellK m).length < sizeLine := by
      rw [cell_len]
      exact Nat.lt_of_le_of_lt hl (by decide)
    have hg : DGet H D (.ref b) (valV (cellK m) (ptK (x, y))) := DGet.t hD hbk
    have hw : DPut H D (.ref b) (.int c) (upd H D (.dT (putK (cellK m) (ptK (x, y)) (.int c)))) := DPut.t hD hbk hsz
    walk_at "st"
    refine ite2 (fun e => ?_) (fun e => ?_)
    · have e := eq_tr e
      subst e
      have fin : ∀ H', H' D = some (.dT (cellK (dropM m (x, y)))) → KeepE [D] H H' → Q .non H' := q
      walk_at "st"
      refine ⟨ty_dT hD, _, rfl, ?_⟩
      walk_at "st"
      refine ⟨fun v hv => ?_, fun hv => ?_⟩
      · refine fin _ ?_ (KeepE.put List.mem_cons_self)
        rw [upd_same, cell_drop (x, y) m nd]
      · refine fin _ ?_ (KeepE.refl _ _)
        have e2 : dropK (cellK m) (ptK (x, y)) = cellK m := dropK_no (valV_not hv)
        rw [← cell_drop (x, y) m nd, e2]
        exact hD
    · have e := eq_fl e
      have fin : Q .non (upd H D (.dT (putK (cellK m) (ptK (x, y)) (.int c)))) := by
        refine q _ ?_ (KeepE.put List.mem_cons_self)
        rw [upd_same, cell_put (x, y) c nd]
        unfold paintM
        rw [if_neg e]
      walk_at "st"
      refine ite2 (fun e1 => ?_) (fun e1 => ?_)
      · walk_at "st"
        exact fin
      · walk_at "st"
        refine ite2 (fun e2 => ?_) (fun e2 => absurd (decide_eq_true (by rw [cell_len]; omega)) e2)
        walk_at "st"
        exact fin
end

/-! ### the stroll -/
/-- the fields of a stroll, as __init__ stores them -/
abbrev strF (tv gv : V) (D : Addr) (wv : V) : List (Str × V) := [("table", tv), ("ground", gv), ("painted", .ref D), ("walker", wv)]
/-- the ground of a walk on blank squares -/
def blankD : PyData := .tuple [.tuple [.int 0]]
structure StrAt (K : PySem.W.Frag) (C : Addr) (H : Hp) (a D : Addr) (T : List (List Ent)) (m : CM) (w : Wk) : Prop where
  ob : ∃ dx tv gv wv, H a = some (.ins C dx (strF tv gv D wv)) ∧ Tp K H tv (tabD T) ∧ Tp K H wv (wkD w) ∧ Tp K H gv blankD
  dc : H D = some (.dT (cellK m))
  nd : (m.map (·.1)).Nodup
  nz : ∀ e ∈ m, e.2 ≠ 0
/-- what the text says of the class -/
structure ClsS (K : PySem.W.Frag) (mg : Str → Option Value) (C : Addr) : Prop where
  cl : Cls K C
  nT : NoAttr K C "table"
  nG : NoAttr K C "ground"
  nP : NoAttr K C "painted"
  nW : NoAttr K C "walker"
  mgC : mg "Stroll" = some (.ref C)
def spBehind (K : PySem.W.Frag) : Sp := fun vs H Q _ => ∃ (wv ev : V) (w : Wk) (e : Int × Int × Int), vs = [wv, ev] ∧ Tp K H wv (wkD w) ∧ Tp K H ev (entD (some e)) ∧ ∀ v H', Tp K H' v (wkD (behind w e)) → Same H H' → Q v H'
def spInit (K : PySem.W.Frag) (C : Addr) : Sp := fun vs H Q _ => ∃ (a dx : Addr) (tv fv wv gv : V) (T : List (List Ent)) (F : List Sq) (w : Wk), vs = [.ref a, tv, fv, wv, gv] ∧ H a = some (.ins C dx []) ∧ Tp K H gv blankD ∧ Tp K H tv (tabD T) ∧ Tp K H fv (floorD F) ∧ Tp K H wv (wkD w) ∧
  (F.Pairwise fun a b => ltP a.pt b.pt) ∧ (∀ s ∈ F, s.2.2 ≠ 0) ∧ F.length ≤ 1000 ∧ ∀ D H', H D = none → StrAt K C H' a D T (cellsOf F) w → KeepE [a] H H' → Q .non H'
/-- __init__ with the default ground behind -/
def spInit3 (K : PySem.W.Frag) (C : Addr) : Sp := fun vs H Q _ => ∃ (a dx : Addr) (tv fv wv : V) (T : List (List Ent)) (F : List Sq) (w : Wk), vs = [.ref a, tv, fv, wv] ∧ H a = some (.ins C dx []) ∧ Tp K H tv (tabD T) ∧ Tp K H fv (floorD F) ∧ Tp K H wv (wkD w) ∧
  (F.Pairwise fun a b => ltP a.pt b.pt) ∧ (∀ s ∈ F, s.2.2 ≠ 0) ∧ F.length ≤ 1000 ∧ ∀ D H', H D = none → StrAt K C H' a D T (cellsOf F) w → KeepE [a] H H' → Q .non H'
def spColOf (K : PySem.W.Frag) (C : Addr) : Sp := fun vs H Q _ => ∃ (a D p : Addr) (T : List (List Ent)) (m : CM) (w : Wk) (x y : Int), vs = [.ref a, .ref p] ∧ StrAt K C H a D T m w ∧ H p = some (.tup [.int x, .int y]) ∧ Q (.int (col m (x, y))) H
def spPaintO (K : PySem.W.Frag) (C : Addr) : Sp := fun vs H Q _ => ∃ (a D p : Addr) (T : List (List Ent)) (m : CM) (w : Wk) (x y c : Int), vs = [.ref a, .ref p, .int c] ∧ StrAt K C H a D T m w ∧ H p = some (.tup [.int x, .int y]) ∧ m.length ≤ 3000 ∧
  ∀ H', H' D = some (.dT (cellK (paintM m (x, y) c))) → KeepE [D] H H' → Q .non H'
def spReading (K : PySem.W.Frag) (C : Addr) : Sp := fun vs H Q _ => ∃ (a D : Addr) (T : List (List Ent)) (m : CM) (w : Wk), vs = [.ref a] ∧ StrAt K C H a D T m w ∧ ∀ v H', Tp K H' v (.tuple [.int w.2.2.2, .int (col m (wPt w))]) → Same H H' → Q v H'
def spStopped (K : PySem.W.Frag) (C : Addr) : Sp := fun vs H Q _ => ∃ (a D : Addr) (T : List (List Ent)) (m : CM) (w : Wk) (c n : Nat) (B : Int), vs = [.ref a] ∧ StrAt K C H a D T m w ∧ TabOk c n T ∧ Fit c n B (col m, w) ∧ ∀ b H', (b = true ↔ stepW T (col m, w) = none) → Same H H' → Q (.bl b) H'
def spGo (K : PySem.W.Frag) (C : Addr) : Sp := fun vs H Q _ => ∃ (a D : Addr) (T : List (List Ent)) (m : CM) (w : Wk) (c n : Nat) (B many : Int), vs = [.ref a, .int many] ∧ StrAt K C H a D T m w ∧ TabOk c n T ∧ Fit c n B (col m, w) ∧ (m.length : Int) + many ≤ 3000 ∧ 0 ≤ many ∧
  ∀ (L : Addr) (vs' : List V) (i : Nat) (m' : CM) (w' : Wk) H', H L = none → Ends T (col m, w) many.toNat i (col m', w') → StrAt K C H' a D T m' w' → m'.length ≤ m.length + i → H' L = some (.lst vs') → vs'.length = i → KeepE [a, D] H H' → Q (.ref L) H'
theorem StrAt.ne {K : PySem.W.Frag} {C : Addr} {H : Hp} {a D : Addr} {T : List (List Ent)} {m : CM} {w : Wk} (h : StrAt K C H a D T m w) : a ≠ D := by
  obtain ⟨dx, tv, gv, wv, e, _⟩ := h.ob
  exact ne_of e h.dc (by intro z; cases z)
theorem StrAt.soft {K : PySem.W.Frag} {C : Addr} {H : Hp} {a D : Addr} {T : List (List Ent)} {m : CM} {w : Wk} (h : StrAt K C H a D T m w) : ∀ b ∈ [a, D], Soft H b := by
  obtain ⟨dx, tv, gv, wv, e, _⟩ := h.ob
  intro b hb
  rcases List.mem_cons.mp hb with rfl | hb
  · exact Soft.ins e
  · rw [List.mem_singleton.mp hb]
    exact Soft.dT h.dc
theorem ahead_at {h : Int} (h0 : 0 ≤ h) (h1 : h < 4) {K : PySem.W.Frag} {b0 b1 b2 b3 : Addr} (k0 : KTu K b0 [.int 0, .int (-1)]) (k1 : KTu K b1 [.int 1, .int 0]) (k2 : KTu K b2 [.int 0, .int 1]) (k3 : KTu K b3 [.int (-1), .int 0]) :
    ∃ b, atI ([.ref b0, .ref b1, .ref b2, .ref b3] : List V) h = some (.ref b) ∧ KTu K b [.int (dxI h), .int (dyI h)] := by
  obtain ⟨n, rfl⟩ := Int.eq_ofNat_of_zero_le h0
  have c : n = 0 ∨ n = 1 ∨ n = 2 ∨ n = 3 := by omega
  rcases c with rfl | rfl | rfl | rfl
  · exact ⟨b0, at0, k0⟩
  · exact ⟨b1, at1, k1⟩
  · exact ⟨b2, at2, k2⟩
  · exact ⟨b3, at3, k3⟩
section
variable {P : Program} {w : World} {K : PySem.W.Frag} {mg : Str → Option Value} {base : Heap}
theorem ok_u_walker_behind (T : Txt K mg) (D : DefAt K mg "_walker_behind" s_u_walker_behind ["walker", "entry"]) : Cal P w K mg base CX0 "_walker_behind" 1 ["walker", "entry"] (spBehind K) := by
  refine D.cal sc_u_walker_behind (fun vs H Q E h => ?_) (fun f cdv A outer s H vs Q E hr h => ?_)
  · obtain ⟨wv, ev, wk, e, rfl, _⟩ := h
    rfl
  · obtain ⟨wv, ev, wk, e, rfl, hw, he, q⟩ := h
    obtain ⟨AA, b0, b1, b2, b3, hA, kA, k0, k1, k2, k3⟩ := T.ahead
    refine ⟨_, (pss_cons (ps_asg (pv 0) (pg_tup (by rfl) (pgs_cons (pg_name (i := 2) sc_u_walker_behind.nd rfl (Or.inl rfl)) (pgs_cons (pg_name (i := 3) sc_u_walker_behind.nd rfl (Or.inl rfl)) (pgs_cons (pg_name (i := 4) sc_u_walker_behind.nd rfl (Or.inl rfl)) (pgs_cons (pg_name (i := 5) sc_u_walker_behind.nd rfl (Or.inl rfl)) pgs_nil))))))
      (pss_cons (ps_asg (pv 1) (pg_tup (by rfl) (pgs_cons (pg_name (i := 5) sc_u_walker_behind.nd rfl (Or.inl rfl)) (pgs_cons (pg_name (i := 6) sc_u_walker_behind.nd rfl (Or.inl rfl)) (pgs_cons (pg_name (i := 7) sc_u_walker_behind.nd rfl (Or.inl rfl)) pgs_nil)))))
      (pss_cons (ps_set (i := 4) sc_u_walker_behind.nd rfl (Or.inl rfl) (pe_op op_mod (pe_op op_add (pv 4) (pv 6)) pe_int))
      (pss_cons (ps_asg (pe_ix (k_ix_tup (K := K)) (pe_glob (v := .ref AA) (by rfl) hA rfl) (pv 4) (fun _ _ => rfl)) (pg_tup (by rfl) (pgs_cons (pg_name (i := 8) sc_u_walker_behind.nd rfl (Or.inl rfl)) (pgs_cons (pg_name (i := 9) sc_u_walker_behind.nd rfl (Or.inl rfl)) pgs_nil))))
      (pss_one (ps_ret (pe_tup (pa_cons (pe_op op_add (pv 2) (pv 8)) (pa_cons (pe_op op_add (pv 3) (pv 9)) (pa_cons (pv 4) (pa_cons (pv 7) pa_nil))))))))))), ?_⟩
    obtain ⟨a, rfl, hsw⟩ := hw.int4
    obtain ⟨b, rfl, hse⟩ := (show Tp K H ev (.tuple [.int e.1, .int e.2.1, .int e.2.2]) from he).int3
    obtain ⟨bb, hat, kb⟩ := ahead_at (h := turnI wk e.2.1) (Int.emod_nonneg _ (by decide)) (Int.emod_lt_of_pos _ (by decide)) k0 k1 k2 k3
    have hat : atI ([.ref b0, .ref b1, .ref b2, .ref b3] : List V) ((wk.2.2.1 + e.2.1) % 4) = some (.ref bb) := hat
    have kAH := kA H
    have kbH := kb H
    walk_at "st"
    intro p np
    exact q _ _ (Tp.of_ints (ks := [_, _, _, _]) (SqT.of upd_same)) (Same.new np)
end

/-! ### methods of a class -/
structure MCal (P : Program) (w : World) (K : PySem.W.Frag) (mg : Str → Option Value) (base : Heap) (C : Addr) (m : Str) (k : Nat) (ps : List Str) (sp : Sp) : Prop where
  ex : ∃ (f : Addr) (fd : FuncData), Meth K C m f ∧ FnOk P w K mg base CX0 k f fd ps sp ∧ Binds K fd ps []
theorem MetAt.meth {K : PySem.W.Frag} {C : Addr} {m qual : Str} {st : Stmt} {ps : List Str} (M : MetAt K C m qual st ps) : ∃ (f : Addr) (fd : FuncData), Meth K C m f ∧ Fun K m qual st f fd ∧ Binds K fd ps [] := by
  obtain ⟨f, fd, iC, tI, F, b⟩ := M.ex
  exact ⟨f, fd, ⟨iC, by unfold PySem.W.isFn; rw [tI]; exact beq_self_eq_true _, F.kp⟩, F, b⟩
/-- a method some of whose last parameters have defaults: sp speaks of what is written -/
structure MCalD (P : Program) (w : World) (K : PySem.W.Frag) (mg : Str → Option Value) (base : Heap) (C : Addr) (m : Str) (k : Nat) (ps : List Str) (sp : Sp) : Prop where
  ex : ∃ (f : Addr) (fd : FuncData) (sp' : Sp) (dvs : List V) (ds : List Value), Meth K C m f ∧ FnOk P w K mg base CX0 k f fd ps sp' ∧ Vals dvs ds ∧ Binds K fd ps ds ∧ ∀ vs H Q E, sp vs H Q E → sp' (vs ++ dvs) H Q E
/-- a method as it stands, with a tuple of defaults -/
structure MetAtD (K : PySem.W.Frag) (C : Addr) (m qual : Str) (st : Stmt) (ps : List Str) (dvs : List V) : Prop where
  ex : ∃ (f : Addr) (fd : FuncData) (ds : List Value), PySem.W.findIn K (.ref C) m = some (some (.ref f)) ∧ PySem.W.typeIn K (.ref f) = some (.type "function") ∧ FunD K m qual (defArgs st) (defBody st) (defScope st) dvs [] f fd ∧ Vals dvs ds ∧ Binds K fd ps ds
theorem MetAtD.meth {K : PySem.W.Frag} {C : Addr} {m qual : Str} {st : Stmt} {ps : List Str} {dvs : List V} (M : MetAtD K C m qual st ps dvs) : ∃ (f : Addr) (fd : FuncData) (ds : List Value), Meth K C m f ∧ FunD K m qual (defArgs st) (defBody st) (defScope st) dvs [] f fd ∧ Vals dvs ds ∧ Binds K fd ps ds := by
  obtain ⟨f, fd, ds, iC, tI, F, v, b⟩ := M.ex
  exact ⟨f, fd, ds, ⟨iC, by unfold PySem.W.isFn; rw [tI]; exact beq_self_eq_true _, F.kp⟩, F, v, b⟩
section
variable {X : Cx} {k j : Nat} {C : Addr} {x m : Str} {ps : List Str} {sp : Sp} {p pos apos : Pos} {e o : Expr} {es : List Expr} {ta : TE} {t : TA} {pl : Sem Bool}
theorem pe_ownM (M : MCal X.prog X.w X.K X.mg X.base C m k ps sp) (c : Cls X.K C) (hr : Room j X.A) (hk : k ≤ j) (ho : PE X o ta) (ha : PA X (e :: es) t)
    (hst : starEach (e :: es) X.env = (false, eval e X.env) :: starEach es X.env := by rfl) (hpl : (backTo pos (starEach es X.env)).any (·.1) = false := by rfl)
    (ht : eval (.Call (.Attribute o m apos) (e :: es) [] pos) X.env = (do
      let ov ← eval o X.env
      standAt apos.atName
      let (f, first) ← holding [ov] (getMethod ov m pl)
      callWith pos f first (backTo pos (starEach (e :: es) X.env)) (backToKw pos (keywordEach [] X.env))) := by rfl) : PE X (.Call (.Attribute o m apos) (e :: es) [] pos) (tMeth C m sp [] E0 ta t) := by
  obtain ⟨f, fd, me, F, b⟩ := M.ex
  exact pe_meth (pl := pl) ho c me F (hr.mono hk) b .nil pass0 ha hst hpl ht
theorem pe_ownM0 (M : MCal X.prog X.w X.K X.mg X.base C m k ps sp) (c : Cls X.K C) (hr : Room j X.A) (hk : k ≤ j) (ho : PE X o ta)
    (ht : eval (.Call (.Attribute o m apos) [] [] pos) X.env = (do
      let ov ← eval o X.env
      standAt apos.atName
      let (f, first) ← holding [ov] (getMethod ov m pl)
      callWith pos f first (backTo pos (starEach [] X.env)) (backToKw pos (keywordEach [] X.env))) := by rfl) : PE X (.Call (.Attribute o m apos) [] [] pos) (tMeth C m sp [] E0 ta tNil) := by
  obtain ⟨f, fd, me, F, b⟩ := M.ex
  exact pe_meth0 (pl := pl) ho c me F (hr.mono hk) b .nil pass0 ht
/-- C(..) by its own __init__ -/
theorem pe_ownMk (M : MCal X.prog X.w X.K X.mg X.base C "__init__" k ps sp) (mk : PySem.W.makesIn X.K C = true) (kp : PySem.W.keepIn X.K (.ref C) = true) (hr : Room j X.A) (hk : k + 1 ≤ j) (hm : X.mg x = some (.ref C)) (ha : PA X (e :: es) t) (hg : Gl X x := by rfl)
    (hdb : (x == ("__debug__" : Str)) = false := by decide) (he : starEach (e :: es) X.env = (false, eval e X.env) :: starEach es X.env := by rfl) (hpl : (backTo pos (starEach es X.env)).any (·.1) = false := by rfl) :
    PE X (.Call (.Name x p) (e :: es) [] pos) (tMake C sp [] E0 t) := by
  obtain ⟨f, fd, me, F, b⟩ := M.ex
  exact pe_make ⟨mk, me.at_, me.fn, kp⟩ F (hr.mono hk) hg hm b .nil pass0 ha hdb he hpl
/-- C(..) by its own __init__, the defaults left out -/
theorem pe_ownMkD (M : MCalD X.prog X.w X.K X.mg X.base C "__init__" k ps sp) (mk : PySem.W.makesIn X.K C = true) (kp : PySem.W.keepIn X.K (.ref C) = true) (hr : Room j X.A) (hk : k + 1 ≤ j) (hm : X.mg x = some (.ref C)) (ha : PA X (e :: es) t) (hg : Gl X x := by rfl)
    (hdb : (x == ("__debug__" : Str)) = false := by decide) (he : starEach (e :: es) X.env = (false, eval e X.env) :: starEach es X.env := by rfl) (hpl : (backTo pos (starEach es X.env)).any (·.1) = false := by rfl) :
    PE X (.Call (.Name x p) (e :: es) [] pos) (tMake C sp [] E0 t) := by
  obtain ⟨f, fd, sp', dvs, ds, me, F, v, b, im⟩ := M.ex
  refine ⟨fun pins s σ H Q I h => ?_⟩
  refine wpAny_Call_Name_kw (ld_glob I hg hm ?_ hdb)
  refine PySem.W.callWith_K (h₀ := X.base) I.ok.mod.kin kp (thn (ha.run pos pins s σ H _ I h) fun us s1 ⟨vs, H1, I1, r, q⟩ => ⟨I1.kIn, ?_⟩) he hpl
  refine run_make ⟨mk, me.at_, me.fn, kp⟩ F (hr.mono hk) b v pass0 I1 r fun x dx h1 h2 h3 => ?_
  have q := q x dx h1 h2 h3
  rw [List.append_nil] at q
  exact im (.ref x :: vs) _ _ _ q
end
theorem putF_end {f : Str} {v : V} : ∀ {fs : List (Str × V)}, (∀ p ∈ fs, p.1 ≠ f) → putF f v fs = fs ++ [(f, v)]
  | [], _ => rfl
  | p :: r, h => by
    show (if p.1 = f then _ else _) = _
    rw [if_neg (h p List.mem_cons_self), putF_end fun q hq => h q (List.mem_cons_of_mem _ hq)]
    rfl
theorem sTP : ("table" : Str) ≠ "painted" := by decide +kernel
theorem sTW : ("table" : Str) ≠ "walker" := by decide +kernel
theorem sPW : ("painted" : Str) ≠ "walker" := by decide +kernel
theorem sTG : ("table" : Str) ≠ "ground" := by decide +kernel
theorem sGP : ("ground" : Str) ≠ "painted" := by decide +kernel
theorem sGW : ("ground" : Str) ≠ "walker" := by decide +kernel
theorem strF0 (tv gv : V) : putF "ground" gv [("table", tv)] = ([("table", tv), ("ground", gv)] : List (Str × V)) := putF_end fun p hp => by
  rw [List.mem_singleton.mp hp]
  exact sTG
theorem strF1 (tv gv : V) (D : Addr) : putF "painted" (.ref D) [("table", tv), ("ground", gv)] = ([("table", tv), ("ground", gv), ("painted", .ref D)] : List (Str × V)) := putF_end fun p hp => by
  rcases List.mem_cons.mp hp with rfl | hp
  · exact sTP
  · rw [List.mem_singleton.mp hp]
    exact sGP
theorem strF2 (tv gv : V) (D : Addr) (wv : V) : putF "walker" wv [("table", tv), ("ground", gv), ("painted", .ref D)] = strF tv gv D wv := putF_end fun p hp => by
  rcases List.mem_cons.mp hp with rfl | hp
  · exact sTW
  · rcases List.mem_cons.mp hp with rfl | hp
    · exact sGW
    · rw [List.mem_singleton.mp hp]
      exact sPW
theorem strF3 (tv gv : V) (D : Addr) (wv wv' : V) : putF "walker" wv' (strF tv gv D wv) = strF tv gv D wv' := by
  show (if ("table" : Str) = "walker" then _ else (("table" : Str), tv) :: (if ("ground" : Str) = "walker" then _ else (("ground" : Str), gv) :: (if ("painted" : Str) = "walker" then _ else (("painted" : Str), V.ref D) :: (if ("walker" : Str) = "walker" then _ else _)))) = _
  rw [if_neg sTW, if_neg sGW, if_neg sPW, if_pos rfl]
theorem lkT (tv gv : V) (D : Addr) (wv : V) : (strF tv gv D wv).lookup ("table" : Str) = some tv := by
  simp only [List.lookup_cons, beq_self_eq_true]
theorem lkG (tv gv : V) (D : Addr) (wv : V) : (strF tv gv D wv).lookup ("ground" : Str) = some gv := by
  simp only [List.lookup_cons, beq_self_eq_true, show (("ground" : Str) == "table") = false from beq_false_of_ne (Ne.symm sTG)]
theorem lkP (tv gv : V) (D : Addr) (wv : V) : (strF tv gv D wv).lookup ("painted" : Str) = some (.ref D) := by
  simp only [List.lookup_cons, beq_self_eq_true, show (("painted" : Str) == "table") = false from beq_false_of_ne (Ne.symm sTP), show (("painted" : Str) == "ground") = false from beq_false_of_ne (Ne.symm sGP)]
theorem lkW (tv gv : V) (D : Addr) (wv : V) : (strF tv gv D wv).lookup ("walker" : Str) = some wv := by
  simp only [List.lookup_cons, beq_self_eq_true, show (("walker" : Str) == "table") = false from beq_false_of_ne (Ne.symm sTW), show (("walker" : Str) == "ground") = false from beq_false_of_ne (Ne.symm sGW), show (("walker" : Str) == "painted") = false from beq_false_of_ne (Ne.symm sPW)]
/-- a name that is no field -/
theorem lkNo {n : Str} (tv gv : V) (D : Addr) (wv : V) (h : ((n == "table") || ((n == "ground") || ((n == "painted") || (n == "walker")))) = false) : (strF tv gv D wv).lookup n = none := by
  rw [Bool.or_eq_false_iff, Bool.or_eq_false_iff, Bool.or_eq_false_iff] at h
  simp only [List.lookup_cons, List.lookup_nil, h.1, h.2.1, h.2.2.1, h.2.2.2]
theorem small3k {n : Nat} (h : n ≤ 3000) : n < sizeLine := Nat.lt_of_le_of_lt h (by decide)
theorem tab_get {K : PySem.W.Frag} {H : Hp} {T : List (List Ent)} {c n : Nat} (ok : TabOk c n T) {s k : Int} (hs : 0 ≤ s ∧ s < n) (hk : 0 ≤ k ∧ k < c) {tv : V} (hv : Tp K H tv (tabD T)) :
    ∃ a vs b ws ev, tv = .ref a ∧ SqT K H a vs ∧ atI vs s = some (.ref b) ∧ SqT K H b ws ∧ atI ws k = some ev ∧ Tp K H ev (entD (entAt T s k)) := by
  obtain ⟨a, vs, rfl, h1, h2⟩ := hv.tupI
  obtain ⟨r, e1, lr, e2, _⟩ := entAt_ok ok hs hk
  obtain ⟨rv, e3, h3⟩ := h2.get (i := s.toNat) (d := rowD r) (by rw [List.getElem?_map, e1]; rfl)
  obtain ⟨b, ws, rfl, h4, h5⟩ := h3.tupI
  obtain ⟨ev, e4, h6⟩ := h5.get (i := k.toNat) (d := entD (entAt T s k)) (by rw [List.getElem?_map, e2]; rfl)
  refine ⟨a, vs, b, ws, ev, rfl, h1, ?_, h4, ?_, h6⟩
  · rw [show s = (s.toNat : Int) by omega]
    exact atI_nat e3
  · rw [show k = (k.toNat : Int) by omega]
    exact atI_nat e4
theorem col_get (m : CM) (p : Pt) : ((look m p).map V.int).getD (.int 0) = .int (col m p) := by
  unfold col
  cases look m p <;> rfl
theorem isD_dT {H : Hp} {a : Addr} {kvs : List (List Key × V)} (h : H a = some (.dT kvs)) : IsD H a := .inr ⟨kvs, .inl h⟩
section
variable {P : Program} {w : World} {K : PySem.W.Frag} {mg : Str → Option Value} {base : Heap}
theorem ok_Stroll_init {C BA : Addr} (S : ClsS K mg C) (hB : ∀ H, Tp K H (.ref BA) blankD) (M : MetAtD K C "__init__" "Stroll.__init__" s_Stroll_init ["self", "table", "floor", "walker", "ground"] [.ref BA]) (C_painted_places : Cal P w K mg base CX0 "painted_places" 1 ["floor"] (spPlaces K)) : MCalD P w K mg base C "__init__" 2 ["self", "table", "floor", "walker", "ground"] (spInit3 K C) := by
  obtain ⟨f, fd, ds, me, F, v, b⟩ := M.meth
  refine ⟨f, fd, spInit K C, _, ds, me, F.ok sc_Stroll_init (fun vs H Q E h => ?_) (fun cdv A outer s H vs Q E hr h => ?_), v, b, fun vs H Q E h => ?_⟩
  · obtain ⟨a, dx, tv, fv, wv, gv, T, F, wk, rfl, _⟩ := h
    rfl
  · obtain ⟨a, dx, tv, fv, wv, gv, T, Fl, wk, rfl, ha, hgr, ht, hf, hw, asc, nz, hl, q⟩ := h
    refine ⟨_, (pss_cons (k_sfld (K := K) (pv 0) (pv 1) (by rfl))
      (pss_cons (k_sfld (K := K) (pv 0) (pv 4) (by rfl))
      (pss_cons (k_sfld (K := K) (pv 0) (pe_own C_painted_places hr (by first | decide | omega) (pa_cons (pv 2) pa_nil)) (by rfl))
      (pss_one (k_sfld (K := K) (pv 0) (pv 3) (by rfl)))))), ?_⟩
    have cl := S.cl
    have nT := S.nT
    have nG := S.nG
    have nP := S.nP
    have nW := S.nW
    have l0 : ([] : List (Str × V)).length < 1000 := by decide
    have k1 : KeepE [a] H (upd (upd H a (.ins C dx (putF "table" tv []))) a (.ins C dx (putF "ground" gv (putF "table" tv [])))) := (KeepE.put List.mem_cons_self).trans (KeepE.put List.mem_cons_self)
    have t1 : TK H (upd (upd H a (.ins C dx (putF "table" tv []))) a (.ins C dx (putF "ground" gv (putF "table" tv [])))) := KeepE.tk (E := [a]) k1 fun b hb => by
      rw [List.mem_singleton.mp hb]
      exact Soft.ins ha
    have ha1 : (upd (upd H a (.ins C dx (putF "table" tv []))) a (.ins C dx (putF "ground" gv (putF "table" tv [])))) a = some (.ins C dx [("table", tv), ("ground", gv)]) := by
      rw [upd_same]
      show some (HO.ins C dx (putF "ground" gv [("table", tv)])) = _
      rw [strF0]
    have hf1 := Tp.mono t1 _ _ hf
    have l1 : (putF "table" tv ([] : List (Str × V))).length < 1000 := by show 1 < 1000; decide
    walk_at "st"
    generalize hH1 : upd (upd H a (.ins C dx (putF "table" tv []))) a (.ins C dx (putF "ground" gv (putF "table" tv []))) = H1 at *
    intro D H2 nD hD s1
    have ha2 : H2 a = some (.ins C dx [("table", tv), ("ground", gv)]) := s1 _ _ ha1
    have neD : D ≠ a := fun z => by
      rw [z, ha1] at nD
      cases nD
    have nD0 : H D = none := by
      cases e : H D with
      | none => rfl
      | some o =>
        rw [k1 D o (fun z => neD (List.mem_singleton.mp z)) e] at nD
        cases nD
    have l2 : ([("table", tv), ("ground", gv)] : List (Str × V)).length < 1000 := by show 2 < 1000; decide
    walk_at "st"
    have ha3 : (upd H2 a (.ins C dx (putF "painted" (.ref D) [("table", tv), ("ground", gv)]))) a = some (.ins C dx [("table", tv), ("ground", gv), ("painted", .ref D)]) := by rw [upd_same, strF1]
    have l3 : ([("table", tv), ("ground", gv), ("painted", .ref D)] : List (Str × V)).length < 1000 := by show 3 < 1000; decide
    walk_at "st"
    have k2 : KeepE [a] H2 (upd (upd H2 a (.ins C dx (putF "painted" (.ref D) [("table", tv), ("ground", gv)]))) a (.ins C dx (putF "walker" wv [("table", tv), ("ground", gv), ("painted", .ref D)]))) := (KeepE.put List.mem_cons_self).trans (KeepE.put List.mem_cons_self)
    have t2 : TK H (upd (upd H2 a (.ins C dx (putF "painted" (.ref D) [("table", tv), ("ground", gv)]))) a (.ins C dx (putF "walker" wv [("table", tv), ("ground", gv), ("painted", .ref D)]))) := by
      refine (t1.trans (Same.tk s1)).trans (k2.tk fun b hb => ?_)
      rw [List.mem_singleton.mp hb]
      exact Soft.ins ha2
    refine q D _ nD0 ⟨⟨dx, tv, gv, wv, by rw [upd_same, strF1, strF2], Tp.mono t2 _ _ ht, Tp.mono t2 _ _ hw, Tp.mono t2 _ _ hgr⟩, by rw [upd_ne neD, upd_ne neD]; exact hD, asc_nd asc, fun e he => ?_⟩ ?_
    · obtain ⟨s', hs', rfl⟩ := List.mem_map.mp he
      exact nz s' hs'
    · exact (k1.trans (Same.keepE s1)).trans k2
  · obtain ⟨a, dx, tv, fv, wv, T, Fl, wk, rfl, ha, rest⟩ := h
    exact ⟨a, dx, tv, fv, wv, .ref BA, T, Fl, wk, rfl, ha, hB H, rest⟩
theorem ok_Stroll_col {C : Addr} (S : ClsS K mg C) (M : MetAt K C "colour_of" "Stroll.colour_of" s_Stroll_colour_of ["self", "place"]) : MCal P w K mg base C "colour_of" 1 ["self", "place"] (spColOf K C) := by
  obtain ⟨f, fd, me, F, b⟩ := M.meth
  refine ⟨f, fd, me, F.ok sc_Stroll_colour_of (fun vs H Q E h => ?_) (fun cdv A outer s H vs Q E hr h => ?_), b⟩
  · obtain ⟨a, D, p, T, m, wk, x, y, rfl, _⟩ := h
    rfl
  · obtain ⟨a, D, p, T, m, wk, x, y, rfl, hS, hp, q⟩ := h
    refine ⟨_, (pss_one (ps_ret (pe_dget2 (hu_of hr) (k_fld (K := K) (pv 0) (by rfl)) (pv 1) pe_int (by exact ⟨rfl, rfl, rfl, rfl⟩)))), ?_⟩
    have cl := S.cl
    have nP := S.nP
    obtain ⟨⟨dx, tv, gv, wv, ha, ht, hw, hgr⟩, hD, nd, nz⟩ := hS
    have fP := lkP tv gv D wv
    have dD := isD_dT hD
    have cg := col_get m (x, y)
    have hg : DGet H D (.ref p) (valV (cellK m) (ptK (x, y))) := DGet.t hD hp
    rw [cell_val] at hg
    walk_at "st"
    rw [cg]
    exact q
theorem ok_Stroll_paint {C : Addr} (S : ClsS K mg C) (M : MetAt K C "paint" "Stroll.paint" s_Stroll_paint ["self", "place", "colour"]) (C_paint_square : Cal P w K mg base CX0 "paint_square" 1 ["painted", "place", "colour"] spPaint) : MCal P w K mg base C "paint" 2 ["self", "place", "colour"] (spPaintO K C) := by
  obtain ⟨f, fd, me, F, b⟩ := M.meth
  refine ⟨f, fd, me, F.ok sc_Stroll_paint (fun vs H Q E h => ?_) (fun cdv A outer s H vs Q E hr h => ?_), b⟩
  · obtain ⟨a, D, p, T, m, wk, x, y, c, rfl, _⟩ := h
    rfl
  · obtain ⟨a, D, p, T, m, wk, x, y, c, rfl, hS, hp, hl, q⟩ := h
    refine ⟨_, (pss_one (ps_expr (pe_own C_paint_square hr (by first | decide | omega) (pa_cons (k_fld (K := K) (pv 0) (by rfl)) (pa_cons (pv 1) (pa_cons (pv 2) pa_nil)))))), ?_⟩
    have cl := S.cl
    have nP := S.nP
    obtain ⟨⟨dx, tv, gv, wv, ha, ht, hw, hgr⟩, hD, nd, nz⟩ := hS
    have fP := lkP tv gv D wv
    walk_at "st"
    intro H' hD' k'
    walk_at "st"
    exact q H' hD' k'
end

theorem step_none {T : List (List Ent)} {z : WSt} (h : entAt T z.2.2.2.2 (z.1 (wPt z.2)) = none) : stepW T z = none := by
  unfold stepW
  rw [h]
  rfl
theorem step_some {T : List (List Ent)} {z : WSt} {e : Int × Int × Int} (h : entAt T z.2.2.2.2 (z.1 (wPt z.2)) = some e) : stepW T z = some (dab z.1 (wPt z.2) e.1, behind z.2 e) := by
  unfold stepW
  rw [h]
  rfl
theorem StrAt.mv {K : PySem.W.Frag} {C : Addr} {H H' : Hp} {a D : Addr} {T : List (List Ent)} {m : CM} {w : Wk} (h : StrAt K C H a D T m w) (t : TK H H') (ea : H' a = H a) (ed : H' D = H D) : StrAt K C H' a D T m w := by
  obtain ⟨⟨dx, tv, gv, wv, e, h1, h2, h3⟩, hD, nd, nz⟩ := h
  exact ⟨⟨dx, tv, gv, wv, ea.trans e, Tp.mono t _ _ h1, Tp.mono t _ _ h2, Tp.mono t _ _ h3⟩, ed.trans hD, nd, nz⟩
theorem StrAt.same {K : PySem.W.Frag} {C : Addr} {H H' : Hp} {a D : Addr} {T : List (List Ent)} {m : CM} {w : Wk} (h : StrAt K C H a D T m w) (s : Same H H') : StrAt K C H' a D T m w := by
  obtain ⟨dx, tv, gv, wv, e, _⟩ := h.ob
  exact h.mv (Same.tk s) ((s _ _ e).trans e.symm) ((s _ _ h.dc).trans h.dc.symm)

/-! ### what a stroll tells of its steps -/
def toldD (T : List (List Ent)) (y : WSt) : PyData := .tuple [wkD y.2, .int (y.1 (wPt y.2)), .int (((entAt T y.2.2.2.2 (y.1 (wPt y.2))).map (·.1)).getD 0)]
def toldL (T : List (List Ent)) (z : WSt) : Nat → List PyData
  | 0 => []
  | k + 1 => toldL T z k ++ (match runW T k z with | some y => [toldD T y] | none => [])
theorem toldL_some {T : List (List Ent)} {z y : WSt} {k : Nat} {e : Int × Int × Int} (h : runW T k z = some y) (he : entAt T y.2.2.2.2 (y.1 (wPt y.2)) = some e) : toldL T z (k + 1) = toldL T z k ++ [.tuple [wkD y.2, .int (y.1 (wPt y.2)), .int e.1]] := by
  show toldL T z k ++ (match runW T k z with | some y => [toldD T y] | none => []) = _
  rw [h]
  show toldL T z k ++ [toldD T y] = _
  unfold toldD
  rw [he]
  rfl
abbrev wkV (w : Wk) : List V := [.int w.1, .int w.2.1, .int w.2.2.1, .int w.2.2.2]
/-- a walker whose tuple is known -/
def Trk (H : Hp) (v : V) (w : Wk) : Prop := ∃ b, v = .ref b ∧ H b = some (.tup (wkV w))
theorem Trk.mono {H H' : Hp} {v : V} {w : Wk} (h : Trk H v w) (t : TK H H') : Trk H' v w := by
  obtain ⟨b, e1, e2⟩ := h
  exact ⟨b, e1, t.tup _ _ e2⟩
def TrkS (C : Addr) (H : Hp) (a D : Addr) (w : Wk) : Prop := ∃ dx tv gv v, H a = some (.ins C dx (strF tv gv D v)) ∧ Trk H v w
theorem TrkS.same {C a D : Addr} {H H' : Hp} {w : Wk} (h : TrkS C H a D w) (s : Same H H') : TrkS C H' a D w := by
  obtain ⟨dx, tv, gv, v, e1, e2⟩ := h
  exact ⟨dx, tv, gv, v, s _ _ e1, e2.mono (Same.tk s)⟩
def spBehindT (K : PySem.W.Frag) : Sp := fun vs H Q _ => ∃ (wv ev : V) (w : Wk) (e : Int × Int × Int), vs = [wv, ev] ∧ Tp K H wv (wkD w) ∧ Tp K H ev (entD (some e)) ∧ ∀ p H', H' p = some (.tup (wkV (behind w e))) → Same H H' → Q (.ref p) H'
def spGo2 (K : PySem.W.Frag) (C : Addr) : Sp := fun vs H Q _ => ∃ (a D : Addr) (T : List (List Ent)) (m : CM) (w : Wk) (c n : Nat) (B many : Int), vs = [.ref a, .int many] ∧ StrAt K C H a D T m w ∧ TabOk c n T ∧ Fit c n B (col m, w) ∧ (m.length : Int) + many ≤ 3000 ∧ 0 ≤ many ∧
  ∀ (L : Addr) (vs' : List V) (i : Nat) (m' : CM) (w' : Wk) H', H L = none → Ends T (col m, w) many.toNat i (col m', w') → StrAt K C H' a D T m' w' → m'.length ≤ m.length + i → H' L = some (.lst vs') → vs'.length = i → KeepE [a, D] H H' → TpAll K H' vs' (toldL T (col m, w) i) → (0 < i → TrkS C H' a D w') → Q (.ref L) H'
section
variable {P : Program} {w : World} {K : PySem.W.Frag} {mg : Str → Option Value} {base : Heap}
theorem ok_u_walker_behindT (T : Txt K mg) (D : DefAt K mg "_walker_behind" s_u_walker_behind ["walker", "entry"]) : Cal P w K mg base CX0 "_walker_behind" 1 ["walker", "entry"] (spBehindT K) := by
  refine D.cal sc_u_walker_behind (fun vs H Q E h => ?_) (fun f cdv A outer s H vs Q E hr h => ?_)
  · obtain ⟨wv, ev, wk, e, rfl, _⟩ := h
    rfl
  · obtain ⟨wv, ev, wk, e, rfl, hw, he, q⟩ := h
    obtain ⟨AA, b0, b1, b2, b3, hA, kA, k0, k1, k2, k3⟩ := T.ahead
    refine ⟨_, (pss_cons (ps_asg (pv 0) (pg_tup (by rfl) (pgs_cons (pg_name (i := 2) sc_u_walker_behind.nd rfl (Or.inl rfl)) (pgs_cons (pg_name (i := 3) sc_u_walker_behind.nd rfl (Or.inl rfl)) (pgs_cons (pg_name (i := 4) sc_u_walker_behind.nd rfl (Or.inl rfl)) (pgs_cons (pg_name (i := 5) sc_u_walker_behind.nd rfl (Or.inl rfl)) pgs_nil))))))
      (pss_cons (ps_asg (pv 1) (pg_tup (by rfl) (pgs_cons (pg_name (i := 5) sc_u_walker_behind.nd rfl (Or.inl rfl)) (pgs_cons (pg_name (i := 6) sc_u_walker_behind.nd rfl (Or.inl rfl)) (pgs_cons (pg_name (i := 7) sc_u_walker_behind.nd rfl (Or.inl rfl)) pgs_nil)))))
      (pss_cons (ps_set (i := 4) sc_u_walker_behind.nd rfl (Or.inl rfl) (pe_op op_mod (pe_op op_add (pv 4) (pv 6)) pe_int))
      (pss_cons (ps_asg (pe_ix (k_ix_tup (K := K)) (pe_glob (v := .ref AA) (by rfl) hA rfl) (pv 4) (fun _ _ => rfl)) (pg_tup (by rfl) (pgs_cons (pg_name (i := 8) sc_u_walker_behind.nd rfl (Or.inl rfl)) (pgs_cons (pg_name (i := 9) sc_u_walker_behind.nd rfl (Or.inl rfl)) pgs_nil))))
      (pss_one (ps_ret (pe_tup (pa_cons (pe_op op_add (pv 2) (pv 8)) (pa_cons (pe_op op_add (pv 3) (pv 9)) (pa_cons (pv 4) (pa_cons (pv 7) pa_nil))))))))))), ?_⟩
    obtain ⟨a, rfl, hsw⟩ := hw.int4
    obtain ⟨b, rfl, hse⟩ := (show Tp K H ev (.tuple [.int e.1, .int e.2.1, .int e.2.2]) from he).int3
    obtain ⟨bb, hat, kb⟩ := ahead_at (h := turnI wk e.2.1) (Int.emod_nonneg _ (by decide)) (Int.emod_lt_of_pos _ (by decide)) k0 k1 k2 k3
    have hat : atI ([.ref b0, .ref b1, .ref b2, .ref b3] : List V) ((wk.2.2.1 + e.2.1) % 4) = some (.ref bb) := hat
    have kAH := kA H
    have kbH := kb H
    walk_at "st"
    intro p np
    exact q _ _ upd_same (Same.new np)
theorem ok_Stroll_go2 (T : Txt K mg) {C : Addr} (S : ClsS K mg C) (MCl : MCal P w K mg base C "colour_of" 1 ["self", "place"] (spColOf K C)) (MPa : MCal P w K mg base C "paint" 2 ["self", "place", "colour"] (spPaintO K C)) (M : MetAt K C "go" "Stroll.go" s_Stroll_go ["self", "many"]) (C_walker_behind : Cal P w K mg base CX0 "_walker_behind" 1 ["walker", "entry"] (spBehindT K)) : MCal P w K mg base C "go" 3 ["self", "many"] (spGo2 K C) := by
  obtain ⟨f, fd, me, F, b⟩ := M.meth
  refine ⟨f, fd, me, F.ok sc_Stroll_go (fun vs H Q E h => ?_) (fun cdv A outer s H vs Q E hr h => ?_), b⟩
  · obtain ⟨a, D, Tb, m, wk, c, n, B, many, rfl, _⟩ := h
    rfl
  · obtain ⟨a, D, Tb, m, wk, c, n, B, many, rfl, hS, ok, fit, hm2, h0, q⟩ := h
    refine ⟨_, (pss_cons (ps_set (i := 2) sc_Stroll_go.nd rfl (Or.inl rfl) (pe_lst pa_nil))
      (pss_cons (ps_for PassesOwn.never rfl (pi_range1 (by rfl) T.m_range (pa_cons (pv 1) pa_nil)) (pg_name (i := 3) sc_Stroll_go.nd rfl (Or.inl rfl))
      (pss_cons (ps_set (i := 4) sc_Stroll_go.nd rfl (Or.inl rfl) (pe_slice (k_sl_tup (K := K)) (k_fld (K := K) (pv 0) (by rfl)) po_none (po_some pe_int)))
      (pss_cons (ps_set (i := 5) sc_Stroll_go.nd rfl (Or.inl rfl) (pe_ownM MCl S.cl hr (by decide) (pv 0) (pa_cons (pv 4) pa_nil)))
      (pss_cons (ps_set (i := 6) sc_Stroll_go.nd rfl (Or.inl rfl) (pe_ix (k_ix_tup (K := K)) (pe_ix (k_ix_tup (K := K)) (k_fld (K := K) (pv 0) (by rfl)) (pe_ix (k_ix_tup (K := K)) (k_fld (K := K) (pv 0) (by rfl)) pe_int (fun _ _ => rfl)) (fun _ _ => rfl)) (pv 5) (fun _ _ => rfl)))
      (pss_cons (ps_if (pt_cmpR op_isN (pv 6) pe_non (nomark _)) (pss_one ps_break) pss_nil)
      (pss_cons (ps_expr (pe_ownM MPa S.cl hr (by decide) (pv 0) (pa_cons (pv 4) (pa_cons (pe_ix (k_ix_tup (K := K)) (pv 6) pe_int (fun _ _ => rfl)) pa_nil))))
      (pss_cons (ps_expr (pe_bm PySem.F.plainAttrs_list PySem.F.slot_list_append PySem.F.type_list_append mt_append (pv 2) (pa_cons (pe_tup (pa_cons (k_fld (K := K) (pv 0) (by rfl)) (pa_cons (pv 5) (pa_cons (pe_ix (k_ix_tup (K := K)) (pv 6) pe_int (fun _ _ => rfl)) pa_nil)))) pa_nil)))
      (pss_one (k_sfld (K := K) (pv 0) (pe_own C_walker_behind hr (by first | decide | omega) (pa_cons (k_fld (K := K) (pv 0) (by rfl)) (pa_cons (pv 6) pa_nil))) (by rfl))))))))))
      (pss_one (ps_ret (pv 2))))), ?_⟩
    have cl := S.cl
    have nT := S.nT
    have nP := S.nP
    have nW := S.nW
    walk_at "st"
    intro L nL
    have soft := hS.soft
    have nLa : L ∉ [a, D] := fun z => by
      obtain ⟨dx, tv, gv, wv, e, _⟩ := hS.ob
      rcases List.mem_cons.mp z with z | z
      · rw [z, e] at nL
        cases nL
      · rw [List.mem_singleton.mp z, hS.dc] at nL
        cases nL
    walk_at "st"
    refine for_range (lo := 0) (n := many.toNat) (fun i σ H' => Ok (∃ (y3 y4 y5 y6 : Option V) (vs' : List V) (m' : CM) (w' : Wk), σ = [some (.ref a), some (.int many), some (.ref L), y3, y4, y5, y6] ∧
      runW Tb i (col m, wk) = some (col m', w') ∧ StrAt K C H' a D Tb m' w' ∧ m'.length ≤ m.length + i ∧ H' L = some (.lst vs') ∧ vs'.length = i ∧ KeepE [a, D] H H' ∧ TpAll K H' vs' (toldL Tb (col m, wk) i) ∧ (0 < i → TrkS C H' a D w'))) ?_ ?_ ?_
    · exact ⟨_, _, _, _, [], m, wk, rfl, rfl, hS.same (Same.new nL), Nat.le_refl _, upd_same, rfl, KeepE.new nL, .nil, fun z => absurd z (Nat.lt_irrefl 0)⟩
    · rintro i σ H' hi ⟨y3, y4, y5, y6, vs', m', w', rfl, hrun, hS', hml, hL, hvl, kp, htl, trk⟩
      have fit' := fit.run ok hrun
      have softS := hS'.soft
      have neaD := hS'.ne
      obtain ⟨⟨dx, tv, gv, wv, ha, ht, hw, hgr⟩, hD, nd, nz⟩ := id hS'
      have fT := lkT tv gv D wv
      have noC := lkNo (n := "colour_of") tv gv D wv (by decide +kernel)
      have fW := lkW tv gv D wv
      obtain ⟨wa, rfl, hsw⟩ := hw.int4
      have cb := fit'.cols (wPt w')
      have stb := fit'.st
      have neLD : L ≠ D := fun z => nLa (z ▸ List.mem_cons_of_mem _ List.mem_cons_self)
      have neLa : L ≠ a := fun z => nLa (z ▸ List.mem_cons_self)
      walk_at "st"
      intro p np
      have s1 : Same H' (upd H' p (.tup [.int w'.1, .int w'.2.1])) := Same.new np
      have hp1 : (upd H' p (.tup [.int w'.1, .int w'.2.1])) p = some (.tup [.int w'.1, .int w'.2.1]) := upd_same
      generalize hH1 : upd H' p (.tup [.int w'.1, .int w'.2.1]) = H1 at s1 hp1
      have ha1 := s1 _ _ ha
      have hD1 := s1 _ _ hD
      have hL1 := s1 _ _ hL
      have hsw1 := TK.seqT (Same.tk s1) hsw
      have hw1 := Tp.mono (Same.tk s1) _ _ hw
      obtain ⟨ta, tvs, rb, rws, ev, rfl, h1, h2, h3, h4, h5⟩ := tab_get ok stb cb (Tp.mono (Same.tk s1) _ _ ht)
      have kp1 : KeepE [a, D] H H1 := kp.trans (Same.keepE s1)
      have hS1 := hS'.same s1
      rw [show (upd H' p (.tup (cutV [.int w'.1, .int w'.2.1, .int w'.2.2.1, .int w'.2.2.2] none (some 2)))) = H1 from hH1]
      cases he : entAt Tb w'.2.2.2 (col m' (wPt w')) with
      | none =>
        have h5 : Tp K H1 ev (entD none) := he ▸ h5
        obtain rfl := h5.nonI
        walk_at "st"
        exact q L vs' i m' w' H1 nL ⟨hrun, Nat.le_of_lt hi, .inr (step_none he)⟩ hS1 hml hL1 hvl kp1 (TpAll.mono (Same.tk s1) _ _ htl) (fun z => (trk z).same s1)
      | some e =>
        have h5 : Tp K H1 ev (entD (some e)) := he ▸ h5
        obtain ⟨u, rfl, hse⟩ := h5.int3
        have hm3 : m'.length ≤ 3000 := by omega
        have noP := lkNo (n := "paint") (.ref ta) gv D (.ref wa) (by decide +kernel)
        walk_at "st"
        intro H2 hD2 k2
        have softD : ∀ b ∈ [D], Soft H1 b := fun b hb => by
          rw [List.mem_singleton.mp hb]
          exact Soft.dT hD1
        have t2 : TK H1 H2 := k2.tk softD
        have ha2 : H2 a = some (.ins C dx (strF (.ref ta) gv D (.ref wa))) := k2 _ _ (fun z => neaD (List.mem_singleton.mp z)) ha1
        have hL2 : H2 L = some (.lst vs') := k2 _ _ (fun z => neLD (List.mem_singleton.mp z)) hL1
        have hse2 := t2.seqT hse
        have hw2 := Tp.mono t2 _ _ hw1
        have h52 := Tp.mono t2 _ _ h5
        have ht1 := Tp.mono (Same.tk s1) _ _ ht
        have kp2 : KeepE [a, D] H H2 := kp1.trans (k2.mono fun b hb => List.mem_cons_of_mem _ hb)
        walk_at "st"
        intro t nt
        rw [show col m' (w'.1, w'.2.1) = col m' (wPt w') from rfl]
        have hsz : vs'.length < sizeLine := small3k (by omega)
        have hL3 : (upd H2 t (.tup [.ref wa, .int (col m' (wPt w')), .int e.1])) L = some (.lst vs') := by rw [upd_ne (ne_of_none hL2 nt)]; exact hL2
        have s3 : Same H2 (upd H2 t (.tup [.ref wa, .int (col m' (wPt w')), .int e.1])) := Same.new nt
        walk_at "st"
        have t4 : TK H2 (upd (upd H2 t (.tup [.ref wa, .int (col m' (wPt w')), .int e.1])) L (.lst (vs' ++ [.ref t]))) := (Same.tk s3).trans (TK.lst hL3)
        have ha4 : (upd (upd H2 t (.tup [.ref wa, .int (col m' (wPt w')), .int e.1])) L (.lst (vs' ++ [.ref t]))) a = some (.ins C dx (strF (.ref ta) gv D (.ref wa))) := by
          rw [upd_ne neLa.symm]
          exact s3 _ _ ha2
        have hD4 : (upd (upd H2 t (.tup [.ref wa, .int (col m' (wPt w')), .int e.1])) L (.lst (vs' ++ [.ref t]))) D = some (.dT (cellK (paintM m' (w'.1, w'.2.1) e.1))) := by
          rw [upd_ne neLD.symm]
          exact s3 _ _ hD2
        have hL4 : (upd (upd H2 t (.tup [.ref wa, .int (col m' (wPt w')), .int e.1])) L (.lst (vs' ++ [.ref t]))) L = some (.lst (vs' ++ [.ref t])) := upd_same
        have kp4 : KeepE [a, D] H (upd (upd H2 t (.tup [.ref wa, .int (col m' (wPt w')), .int e.1])) L (.lst (vs' ++ [.ref t]))) := (kp2.trans (Same.keepE s3)).fresh nL
        have hw4 := Tp.mono t4 _ _ hw2
        have hT4 : Tp K (upd (upd H2 t (.tup [.ref wa, .int (col m' (wPt w')), .int e.1])) L (.lst (vs' ++ [.ref t]))) (.ref t) (.tuple [wkD w', .int (col m' (wPt w')), .int e.1]) := .tup ((TK.lst hL3).seqT (SqT.of upd_same)) (.cons hw4 (.cons (.int _) (.cons (.int _) .nil)))
        have he4 := Tp.mono t4 _ _ h52
        have ht4 := Tp.mono ((t2).trans t4) _ _ ht1
        generalize hH4 : upd (upd H2 t (.tup [.ref wa, .int (col m' (wPt w')), .int e.1])) L (.lst (vs' ++ [.ref t])) = H4 at *
        walk_at "st"
        intro p5 H5 hp5 s5
        have hv5 : Tp K H5 (.ref p5) (wkD (behind w' e)) := Tp.of_ints (ks := [_, _, _, _]) (SqT.of hp5)
        have ha5 := s5 _ _ ha4
        have l3 : (strF (.ref ta) gv D (.ref wa)).length < 1000 := by show 4 < 1000; decide
        walk_at "st"
        have soft5 : ∀ b ∈ [a], Soft H5 b := fun b hb => by
          rw [List.mem_singleton.mp hb]
          exact Soft.ins ha5
        have k6 : KeepE [a] H5 (upd H5 a (.ins C dx (putF "walker" (.ref p5) (strF (.ref ta) gv D (.ref wa))))) := KeepE.put List.mem_cons_self
        have t6 := k6.tk soft5
        have t06 := (Same.tk s1).trans (t2.trans (t4.trans ((Same.tk s5).trans t6)))
        have ec : col (paintM m' (w'.1, w'.2.1) e.1) = dab (col m') (wPt w') e.1 := paint_col _ _ nd
        refine ⟨_, _, _, _, vs' ++ [.ref t], paintM m' (w'.1, w'.2.1) e.1, behind w' e, rfl, ?_, ⟨⟨dx, .ref ta, gv, .ref p5, by rw [upd_same, strF3], Tp.mono ((Same.tk s5).trans t6) _ _ ht4, Tp.mono t6 _ _ hv5, Tp.mono ((Same.tk s1).trans (t2.trans (t4.trans ((Same.tk s5).trans t6)))) _ _ hgr⟩, ?_, paint_nd _ _ nd, paint_nz nz⟩, ?_, ?_, ?_, ?_, ?_, fun _ => ⟨dx, .ref ta, gv, .ref p5, by rw [upd_same, strF3], p5, rfl, t6.tup _ _ hp5⟩⟩
        · show (runW Tb i (col m, wk)).bind (stepW Tb) = _
          rw [hrun, ec]
          exact step_some he
        · rw [upd_ne (Ne.symm neaD)]
          exact s5 _ _ hD4
        · have := paint_len m' (w'.1, w'.2.1) e.1
          omega
        · rw [upd_ne neLa]
          exact s5 _ _ hL4
        · rw [List.length_append, hvl]
          rfl
        · exact (kp4.trans (Same.keepE s5)).trans (k6.mono fun b hb => by rw [List.mem_singleton.mp hb]; exact List.mem_cons_self)
        · rw [toldL_some hrun he]
          exact TpAll.append (TpAll.mono t06 _ _ htl) (.cons (Tp.mono ((Same.tk s5).trans t6) _ _ hT4) .nil)
    · rintro σ H' ⟨y3, y4, y5, y6, vs', m', w', rfl, hrun, hS', hml, hL, hvl, kp, htl, trk⟩
      walk_at "st"
      exact q L vs' many.toNat m' w' H' nL ⟨hrun, Nat.le_refl _, .inl rfl⟩ hS' hml hL hvl kp htl trk
end
theorem go_of2 {P : Program} {w : World} {K : PySem.W.Frag} {mg : Str → Option Value} {base : Heap} {C : Addr} (M : MCal P w K mg base C "go" 3 ["self", "many"] (spGo2 K C)) : MCal P w K mg base C "go" 3 ["self", "many"] (spGo K C) := by
  obtain ⟨f, fd, me, F, b⟩ := M.ex
  refine ⟨f, fd, me, F.imp fun vs H Q E h => ?_, b⟩
  obtain ⟨a, D, T, m, w, c, n, B, many, rfl, h1, h2, h3, h4, h5, q⟩ := h
  exact ⟨a, D, T, m, w, c, n, B, many, rfl, h1, h2, h3, h4, h5, fun L vs' i m' w' H' g1 g2 g3 g4 g5 g6 g7 _ _ => q L vs' i m' w' H' g1 g2 g3 g4 g5 g6 g7⟩

section
variable {P : Program} {w : World} {K : PySem.W.Frag} {mg : Str → Option Value} {base : Heap}
theorem ok_Stroll_reading {C : Addr} (S : ClsS K mg C) (MCl : MCal P w K mg base C "colour_of" 1 ["self", "place"] (spColOf K C)) (M : MetAt K C "reading" "Stroll.reading" s_Stroll_reading ["self"]) : MCal P w K mg base C "reading" 2 ["self"] (spReading K C) := by
  obtain ⟨f, fd, me, F, b⟩ := M.meth
  refine ⟨f, fd, me, F.ok sc_Stroll_reading (fun vs H Q E h => ?_) (fun cdv A outer s H vs Q E hr h => ?_), b⟩
  · obtain ⟨a, D, T, m, wk, rfl, _⟩ := h
    rfl
  · obtain ⟨a, D, T, m, wk, rfl, hS, q⟩ := h
    refine ⟨_, (pss_one (ps_ret (pe_tup (pa_cons (pe_ix (k_ix_tup (K := K)) (k_fld (K := K) (pv 0) (by rfl)) pe_int (fun _ _ => rfl)) (pa_cons (pe_ownM MCl S.cl hr (by decide) (pv 0) (pa_cons (pe_slice (k_sl_tup (K := K)) (k_fld (K := K) (pv 0) (by rfl)) po_none (po_some pe_int)) pa_nil)) pa_nil))))), ?_⟩
    have cl := S.cl
    have nP := S.nP
    have nW := S.nW
    obtain ⟨⟨dx, tv, gv, wv, ha, ht, hw, hgr⟩, hD, nd, nz⟩ := id hS
    have fW := lkW tv gv D wv
    have noC := lkNo (n := "colour_of") tv gv D wv (by decide +kernel)
    obtain ⟨wa, rfl, hsw⟩ := hw.int4
    walk_at "st"
    intro p np
    have s1 : Same H (upd H p (.tup [.int wk.1, .int wk.2.1])) := Same.new np
    refine ⟨a, D, p, T, m, wk, wk.1, wk.2.1, rfl, hS.same s1, upd_same, ?_⟩
    walk_at "st"
    intro p2 np2
    exact q _ _ (Tp.of_ints (ks := [_, _]) (SqT.of upd_same)) (Same.trans s1 (Same.new np2))
end

section
variable {P : Program} {w : World} {K : PySem.W.Frag} {mg : Str → Option Value} {base : Heap}
theorem ok_Stroll_stopped {C : Addr} (S : ClsS K mg C) (MR : MCal P w K mg base C "reading" 2 ["self"] (spReading K C)) (M : MetAt K C "has_stopped" "Stroll.has_stopped" s_Stroll_has_stopped ["self"]) : MCal P w K mg base C "has_stopped" 3 ["self"] (spStopped K C) := by
  obtain ⟨f, fd, me, F, b⟩ := M.meth
  refine ⟨f, fd, me, F.ok sc_Stroll_has_stopped (fun vs H Q E h => ?_) (fun cdv A outer s H vs Q E hr h => ?_), b⟩
  · obtain ⟨a, D, T, m, wk, c, n, B, rfl, _⟩ := h
    rfl
  · obtain ⟨a, D, T, m, wk, c, n, B, rfl, hS, ok, fit, q⟩ := h
    refine ⟨_, (pss_cons (ps_asg (pe_ownM0 MR S.cl hr (by decide) (pv 0)) (pg_tup (by rfl) (pgs_cons (pg_name (i := 1) sc_Stroll_has_stopped.nd rfl (Or.inl rfl)) (pgs_cons (pg_name (i := 2) sc_Stroll_has_stopped.nd rfl (Or.inl rfl)) pgs_nil))))
      (pss_one (ps_ret (pe_cmpR op_isN (pe_ix (k_ix_tup (K := K)) (pe_ix (k_ix_tup (K := K)) (k_fld (K := K) (pv 0) (by rfl)) (pv 1) (fun _ _ => rfl)) (pv 2) (fun _ _ => rfl)) pe_non (nomark _))))), ?_⟩
    have cl := S.cl
    have nT := S.nT
    obtain ⟨dx, tv, gv, wv, ha, ht, hw, hgr⟩ := id hS.ob
    have fT := lkT tv gv D wv
    have noR := lkNo (n := "reading") tv gv D wv (by decide +kernel)
    have cb := fit.cols (wPt wk)
    walk_at "st"
    intro v H1 hv s1
    obtain ⟨ra, rfl, hsr⟩ := hv.int2
    have ha1 := s1 _ _ ha
    obtain ⟨ta, tvs, rb, rws, ev, rfl, h1, h2, h3, h4, h5⟩ := tab_get ok fit.st cb (Tp.mono (Same.tk s1) _ _ ht)
    walk_at "st"
    refine q _ _ ?_ s1
    cases he : entAt T wk.2.2.2 (col m (wPt wk)) with
    | none =>
      have h5 : Tp K _ ev (entD none) := he ▸ h5
      rw [h5.nonI]
      exact ⟨fun _ => step_none he, fun _ => rfl⟩
    | some e =>
      have h5 : Tp K _ ev (entD (some e)) := he ▸ h5
      obtain ⟨u, rfl, _⟩ := h5.int3
      refine ⟨fun z => ?_, fun z => ?_⟩
      · exact absurd (of_decide_eq_true z) (by intro z; cases z)
      · rw [step_some he] at z
        cases z
end

/-! ### walk -/
/-- table, floor and walker that may be handed in -/
structure StandOk (c n : Nat) (B : Int) (T : List (List Ent)) (F : List Sq) (w : Wk) : Prop where
  tab : TabOk c n T
  good : tabB T = true
  n1 : 1 ≤ n
  c1 : 1 ≤ c
  fl : FlOk c B F
  wk : InB B (wPt w)
  hd : 0 ≤ w.2.2.1 ∧ w.2.2.1 < 4
  st : 0 ≤ w.2.2.2 ∧ w.2.2.2 < n
theorem StandOk.fit {c n : Nat} {B : Int} {T : List (List Ent)} {F : List Sq} {w : Wk} (h : StandOk c n B T F w) : Fit c n B (colF F, w) := h.fl.fit h.c1 h.wk h.hd h.st
theorem FlOk.mono {c : Nat} {B B' : Int} {F : List Sq} (h : FlOk c B F) (l : B ≤ B') : FlOk c B' F := ⟨h.asc, fun s hs => ⟨(h.sq s hs).1.mono l, (h.sq s hs).2⟩⟩
theorem StandOk.mono {c n : Nat} {B B' : Int} {T : List (List Ent)} {F : List Sq} {w : Wk} (h : StandOk c n B T F w) (l : B ≤ B') : StandOk c n B' T F w := ⟨h.tab, h.good, h.n1, h.c1, h.fl.mono l, h.wk.mono l, h.hd, h.st⟩
def spStand (K : PySem.W.Frag) : Sp := fun vs H Q _ => ∃ (tv fv wv : V) (c n : Nat) (T : List (List Ent)) (F : List Sq) (w : Wk), vs = [tv, fv, wv] ∧ Tp K H tv (tabD T) ∧ Tp K H fv (floorD F) ∧ Tp K H wv (wkD w) ∧ StandOk c n FarI T F w ∧ F.length ≤ 1000 ∧ ∀ H', Same H H' → Q .non H'
def stepD (F : List Sq) (w : Wk) : PyData := .tuple [floorD F, wkD w]
def walkD (F : List Sq) (w : Wk) (i : Nat) : PyData := .tuple [floorD F, wkD w, .int i]
def spWalk (K : PySem.W.Frag) : Sp := fun vs H Q _ => ∃ (tv fv wv : V) (many : Int) (c n : Nat) (T : List (List Ent)) (F : List Sq) (w : Wk), vs = [tv, fv, wv, .int many] ∧ Tp K H tv (tabD T) ∧ Tp K H fv (floorD F) ∧ Tp K H wv (wkD w) ∧ StandOk c n FarI T F w ∧ F.length ≤ 1000 ∧ 0 ≤ many ∧ many ≤ 1000 ∧
  ∀ v H' i F' z, Ends T (colF F, w) many.toNat i z → FloorOf z.1 F' → F'.length ≤ F.length + i → Tp K H' v (walkD F' z.2 i) → Same H H' → Q v H'
section
variable {P : Program} {w : World} {K : PySem.W.Frag} {mg : Str → Option Value} {base : Heap}
theorem ok_check_stand (T : Txt K mg) (D : DefAt K mg "check_stand" s_check_stand ["table", "floor", "walker"]) (C_check_table : Cal P w K mg base CX0 "check_table" 4 ["value"] (spCheckT K)) (C_check_floor : Cal P w K mg base CX0 "check_floor" 4 ["value", "colours"] (spFloorOk K)) (C_check_walker : Cal P w K mg base CX0 "check_walker" 4 ["value", "states"] (spCheckW K)) : Cal P w K mg base CX0 "check_stand" 5 ["table", "floor", "walker"] (spStand K) := by
  refine D.cal sc_check_stand (fun vs H Q E h => ?_) (fun f cdv A outer s H vs Q E hr h => ?_)
  · obtain ⟨tv, fv, wv, c, n, T, F, wk, rfl, _⟩ := h
    rfl
  · obtain ⟨tv, fv, wv, c, n, Tb, F, wk, rfl, ht, hf, hw, hs, hl, q⟩ := h
    refine ⟨_, (pss_cons (ps_expr (pe_own C_check_table hr (by first | decide | omega) (pa_cons (pv 0) pa_nil)))
      (pss_cons (ps_expr (pe_own C_check_floor hr (by first | decide | omega) (pa_cons (pv 1) (pa_cons (pe_callB (k_len_t (K := K)) (by rfl) T.m_len (by decide +kernel) (pa_cons (pe_ix (k_ix_tup (K := K)) (pv 0) pe_int (fun _ _ => rfl)) pa_nil)) pa_nil))))
      (pss_one (ps_expr (pe_own C_check_walker hr (by first | decide | omega) (pa_cons (pv 2) (pa_cons (pe_callB (k_len_t (K := K)) (by rfl) T.m_len (by decide +kernel) (pa_cons (pv 0) pa_nil)) pa_nil))))))), ?_⟩
    have hg := hs.good
    walk_at "st"
    intro H1 s1
    have ht1 := Tp.mono (Same.tk s1) _ _ ht
    have hf1 := Tp.mono (Same.tk s1) _ _ hf
    have hw1 := Tp.mono (Same.tk s1) _ _ hw
    obtain ⟨a, vs, rfl, h1, h2⟩ := ht1.tupI
    have hlen : vs.length = n := by rw [TpAll.length h2, List.length_map, hs.tab.1]
    have l0 : 0 < Tb.length := by rw [hs.tab.1]; exact hs.n1
    obtain ⟨rv, e3, h3⟩ := h2.get (i := 0) (d := rowD Tb[0]) (by rw [List.getElem?_map, List.getElem?_eq_getElem l0]; rfl)
    obtain ⟨b, ws, rfl, h4, h5⟩ := h3.tupI
    have hlen2 : ws.length = c := by
      rw [TpAll.length h5, List.length_map]
      exact (hs.tab.2 _ (List.getElem_mem l0)).1
    have hat : atI vs (0 : Int) = some (.ref b) := atI_nat (j := 0) e3
    have hfl := hs.fl
    walk_at "st"
    rw [hlen2]
    refine ⟨hfl, hl, fun H2 s2 => ?_⟩
    have h12 := TK.seqT (Same.tk s2) h1
    have hw2 := Tp.mono (Same.tk s2) _ _ hw1
    walk_at "st"
    have st := hs.st
    refine ⟨hs.wk, hs.hd, ⟨st.1, by omega⟩, fun H3 s3 => ?_⟩
    walk_at "st"
    exact q H3 (Same.trans s1 (Same.trans s2 s3))
end

/-! ### the entries of a table, and the way back -/
/-- state, colour, paint, turn, next state -/
abbrev E5 := Int × Int × Int × Int × Int
def e5D (e : E5) : PyData := .tuple [.int e.1, .int e.2.1, .int e.2.2.1, .int e.2.2.2.1, .int e.2.2.2.2]
def endOf (e : E5) : Pt := (e.2.2.2.2, e.2.2.1)
def enR (s : Nat) (r : List Ent) : Nat → List E5
  | 0 => []
  | j + 1 => enR s r j ++ (match (r[j]?).getD none with | some e => [((s : Int), (j : Int), e.1, e.2.1, e.2.2)] | none => [])
def enT (T : List (List Ent)) : Nat → List E5
  | 0 => []
  | i + 1 => enT T i ++ enR i (T.getD i []) (T.getD i []).length
def endsL (T : List (List Ent)) : List Pt := (enT T T.length).map endOf
def lastE (l : List E5) (p : Pt) : Option E5 := l.reverse.find? fun e => decide (endOf e = p)
theorem lastE_snoc (l : List E5) (e : E5) (p : Pt) : lastE (l ++ [e]) p = if endOf e = p then some e else lastE l p := by
  unfold lastE
  rw [List.reverse_append]
  show ([e] ++ l.reverse).find? _ = _
  rw [List.singleton_append, List.find?_cons]
  by_cases h : endOf e = p
  · rw [decide_eq_true h, if_pos h]
  · rw [decide_eq_false h, if_neg h]
theorem lastE_some {l : List E5} {p : Pt} {e : E5} (h : lastE l p = some e) : e ∈ l ∧ endOf e = p := by
  unfold lastE at h
  have h1 := List.find?_some h
  have h2 := List.mem_of_find?_eq_some h
  exact ⟨List.mem_reverse.mp h2, of_decide_eq_true h1⟩
theorem lastE_none {l : List E5} {p : Pt} (h : lastE l p = none) : ∀ e ∈ l, endOf e ≠ p := fun e he z => by
  unfold lastE at h
  have := List.find?_eq_none.mp h e (List.mem_reverse.mpr he)
  exact this (decide_eq_true z)
theorem nodup_inj {α β : Type} {f : α → β} : ∀ {l : List α}, (l.map f).Nodup → ∀ {x y : α}, x ∈ l → y ∈ l → f x = f y → x = y
  | [], _, _, _, hx, _, _ => absurd hx List.not_mem_nil
  | a :: r, h, x, y, hx, hy, e => by
    have h := List.nodup_cons.mp h
    rcases List.mem_cons.mp hx with ex | hx
    · rcases List.mem_cons.mp hy with ey | hy
      · rw [ex, ey]
      · exact absurd (List.mem_map.mpr ⟨y, hy, by rw [← e, ex]⟩) h.1
    · rcases List.mem_cons.mp hy with ey | hy
      · exact absurd (List.mem_map.mpr ⟨x, hx, by rw [e, ey]⟩) h.1
      · exact nodup_inj h.2 hx hy e
theorem lastE_at {l : List E5} (nd : (l.map endOf).Nodup) {e : E5} (h : e ∈ l) : lastE l (endOf e) = some e := by
  cases q : lastE l (endOf e) with
  | none => exact absurd rfl (lastE_none q e h)
  | some x =>
    obtain ⟨h1, h2⟩ := lastE_some q
    rw [nodup_inj nd h1 h h2]
theorem enR_mem (s : Nat) (r : List Ent) : ∀ (j : Nat) (e : E5), e ∈ enR s r j ↔ ∃ k, k < j ∧ e.1 = s ∧ e.2.1 = k ∧ (r[k]?).getD none = some (e.2.2.1, e.2.2.2.1, e.2.2.2.2)
  | 0, e => ⟨fun h => absurd h List.not_mem_nil, fun ⟨k, h, _⟩ => absurd h (Nat.not_lt_zero _)⟩
  | j + 1, e => by
    show e ∈ enR s r j ++ _ ↔ _
    rw [List.mem_append, enR_mem s r j e]
    constructor
    · rintro (⟨k, h1, h2⟩ | h)
      · exact ⟨k, by omega, h2⟩
      · refine ⟨j, by omega, ?_⟩
        cases q : (r[j]?).getD none with
        | none =>
          rw [q] at h
          exact absurd h List.not_mem_nil
        | some x =>
          rw [q] at h
          rw [List.mem_singleton.mp h]
          exact ⟨rfl, rfl, rfl⟩
    · rintro ⟨k, h1, h2, h3, h4⟩
      rcases Nat.lt_or_ge k j with l | l
      · exact .inl ⟨k, l, h2, h3, h4⟩
      · obtain rfl : k = j := by omega
        refine .inr ?_
        rw [h4]
        refine List.mem_singleton.mpr ?_
        rw [← h2, ← h3]
theorem enT_mem (T : List (List Ent)) : ∀ (i : Nat) (e : E5), e ∈ enT T i ↔ ∃ s, s < i ∧ e ∈ enR s (T.getD s []) (T.getD s []).length
  | 0, e => ⟨fun h => absurd h List.not_mem_nil, fun ⟨k, h, _⟩ => absurd h (Nat.not_lt_zero _)⟩
  | i + 1, e => by
    show e ∈ enT T i ++ _ ↔ _
    rw [List.mem_append, enT_mem T i e]
    constructor
    · rintro (⟨k, h1, h2⟩ | h)
      · exact ⟨k, by omega, h2⟩
      · exact ⟨i, by omega, h⟩
    · rintro ⟨s, h1, h2⟩
      rcases Nat.lt_or_ge s i with l | l
      · exact .inl ⟨s, l, h2⟩
      · obtain rfl : s = i := by omega
        exact .inr h2
theorem ent_mem {c n : Nat} {T : List (List Ent)} (ok : TabOk c n T) (e : E5) : e ∈ enT T T.length ↔ (0 ≤ e.1 ∧ e.1 < n) ∧ (0 ≤ e.2.1 ∧ e.2.1 < c) ∧ entAt T e.1 e.2.1 = some (e.2.2.1, e.2.2.2.1, e.2.2.2.2) := by
  rw [enT_mem]
  constructor
  · rintro ⟨s, hs, h⟩
    have hn : s < n := by rw [← ok.1]; exact hs
    rw [getD_at (List.getElem?_eq_getElem hs)] at h
    obtain ⟨k, h1, h2, h3, h4⟩ := (enR_mem _ _ _ _).mp h
    have lr : (T[s]).length = c := (ok.2 _ (List.getElem_mem hs)).1
    refine ⟨by omega, by omega, ?_⟩
    rw [h2, h3]
    rw [List.getElem?_eq_getElem h1] at h4
    exact (entAt_at (List.getElem?_eq_getElem hs) (List.getElem?_eq_getElem h1)).trans h4
  · rintro ⟨⟨a1, a2⟩, ⟨b1, b2⟩, h⟩
    obtain ⟨s, es⟩ := Int.eq_ofNat_of_zero_le a1
    obtain ⟨k, ek⟩ := Int.eq_ofNat_of_zero_le b1
    have hs : s < T.length := by rw [ok.1]; omega
    have lr : (T[s]).length = c := (ok.2 _ (List.getElem_mem hs)).1
    have hk : k < (T[s]).length := by omega
    refine ⟨s, hs, ?_⟩
    rw [getD_at (List.getElem?_eq_getElem hs)]
    refine (enR_mem _ _ _ _).mpr ⟨k, hk, es, ek, ?_⟩
    rw [es, ek] at h
    rw [List.getElem?_eq_getElem hk]
    exact (entAt_at (List.getElem?_eq_getElem hs) (List.getElem?_eq_getElem hk)).symm.trans h
theorem enR_len (s : Nat) (r : List Ent) : ∀ j, (enR s r j).length ≤ j
  | 0 => Nat.le_refl _
  | j + 1 => by
    have := enR_len s r j
    show (enR s r j ++ _).length ≤ _
    rw [List.length_append]
    cases (r[j]?).getD none with
    | none => show _ + 0 ≤ _; omega
    | some x => show _ + 1 ≤ _; omega
theorem enT_len {c n : Nat} {T : List (List Ent)} (ok : TabOk c n T) : ∀ i, i ≤ n → (enT T i).length ≤ i * c
  | 0, _ => Nat.zero_le _
  | i + 1, l => by
    have h := enT_len ok i (by omega)
    have hs : i < T.length := by rw [ok.1]; omega
    have lr : (T[i]).length = c := (ok.2 _ (List.getElem_mem hs)).1
    show (enT T i ++ _).length ≤ _
    rw [List.length_append, getD_at (List.getElem?_eq_getElem hs), Nat.succ_mul]
    have := enR_len i T[i] (T[i]).length
    omega
/-- the stand before a stand -/
def wayOf (T : List (List Ent)) (st pa : Int) : Option E5 := lastE (enT T T.length) (st, pa)
def prevP (w : Wk) : Pt := (w.1 - dxI w.2.2.1, w.2.1 - dyI w.2.2.1)
def backS (T : List (List Ent)) (z : WSt) : Option WSt := (wayOf T z.2.2.2.2 (z.1 (prevP z.2))).map fun e => (dab z.1 (prevP z.2) e.2.1, ((prevP z.2).1, (prevP z.2).2, (z.2.2.2.1 - e.2.2.2.1) % 4, e.1))
def backN (T : List (List Ent)) : Nat → WSt → Option WSt
  | 0, z => some z
  | n + 1, z => (backN T n z).bind (backS T)
section
variable {T : List (List Ent)}
theorem backN_first (z : WSt) : ∀ n, backN T (n + 1) z = (backS T z).bind (backN T n)
  | 0 => by
    show backS T z = (backS T z).bind some
    cases backS T z <;> rfl
  | n + 1 => by
    show (backN T (n + 1) z).bind (backS T) = _
    rw [backN_first z n]
    cases backS T z with
    | none => rfl
    | some y => rfl
theorem backN_none {z : WSt} {n : Nat} (h : backN T n z = none) : ∀ k, backN T (n + k) z = none
  | 0 => h
  | k + 1 => by
    show (backN T (n + k) z).bind (backS T) = none
    rw [backN_none h k]
    rfl
theorem back_step {c n : Nat} {B : Int} (ok : TabOk c n T) (nd : (endsL T).Nodup) {z z' : WSt} (fit : Fit c n B z) (h : stepW T z = some z') : backS T z' = some z := by
  obtain ⟨f, x, y, hd, st⟩ := z
  unfold stepW at h
  generalize he : entAt T st (f (x, y)) = en at h
  cases en with
  | none =>
    have h : (entAt T st (f (x, y))).map _ = some z' := h
    rw [he] at h
    cases h
  | some e =>
    have h : (entAt T st (f (x, y))).map (fun e => (dab f (x, y) e.1, behind (x, y, hd, st) e)) = some z' := h
    rw [he] at h
    obtain rfl := (Option.some.inj h).symm
    obtain ⟨pa, tu, nx⟩ := e
    have h0 : 0 ≤ hd ∧ hd < 4 := fit.hd
    have cb := fit.cols (x, y)
    have m : (st, f (x, y), pa, tu, nx) ∈ enT T T.length := (ent_mem ok _).mpr ⟨fit.st, cb, he⟩
    have ep : prevP (behind (x, y, hd, st) (pa, tu, nx)) = (x, y) := by
      unfold prevP behind
      show (x + dxI ((hd + tu) % 4) - dxI ((hd + tu) % 4), y + dyI ((hd + tu) % 4) - dyI ((hd + tu) % 4)) = (x, y)
      rw [Int.add_sub_cancel, Int.add_sub_cancel]
    unfold backS
    show (wayOf T nx (dab f (x, y) pa (prevP (behind (x, y, hd, st) (pa, tu, nx))))).map _ = _
    rw [ep]
    have e1 : dab f (x, y) pa (x, y) = pa := if_pos rfl
    rw [e1]
    have e2 : wayOf T nx pa = some (st, f (x, y), pa, tu, nx) := lastE_at nd m
    rw [e2]
    show some (dab (dab f (x, y) pa) (x, y) (f (x, y)), (x, y, ((hd + tu) % 4 - tu) % 4, st)) = some (f, x, y, hd, st)
    have e3 : dab (dab f (x, y) pa) (x, y) (f (x, y)) = f := by
      funext q
      unfold dab
      by_cases hq : q = (x, y)
      · rw [if_pos hq, hq]
      · rw [if_neg hq, if_neg hq]
    have e4 : ((hd + tu) % 4 - tu) % 4 = hd := by omega
    rw [e3, e4]
theorem back_run {c n : Nat} {B : Int} (ok : TabOk c n T) (nd : (endsL T).Nodup) {z : WSt} (fit : Fit c n B z) : ∀ {i : Nat} {z' : WSt}, runW T i z = some z' → backN T i z' = some z
  | 0, z', h => by rw [Option.some.inj h]; rfl
  | i + 1, z', h => by
    have h : (runW T i z).bind (stepW T) = some z' := h
    cases e : runW T i z with
    | none =>
      rw [e] at h
      cases h
    | some y =>
      rw [e] at h
      rw [backN_first, back_step ok nd (fit.run ok e) h]
      exact back_run ok nd fit e
theorem Fit.back {c n : Nat} {B : Int} (ok : TabOk c n T) {z z' : WSt} (g : Fit c n B z) (h : backS T z = some z') : Fit c n (B + 1) z' := by
  unfold backS at h
  cases q : wayOf T z.2.2.2.2 (z.1 (prevP z.2)) with
  | none =>
    rw [q] at h
    cases h
  | some e =>
    rw [q] at h
    obtain rfl := (Option.some.inj h).symm
    obtain ⟨m1, m2⟩ := lastE_some q
    obtain ⟨b1, b2, b3⟩ := (ent_mem ok e).mp m1
    have w1 := g.wk
    have ip : InB (B + 1) (prevP z.2) := by
      obtain ⟨a1, a2⟩ := ahead1 z.2.2.2.1
      show InB (B + 1) (z.2.1 - dxI z.2.2.2.1, z.2.2.1 - dyI z.2.2.2.1)
      unfold InB wPt at *
      omega
    refine ⟨fun p => ?_, fun p hp => ?_, ip, ⟨Int.emod_nonneg _ (by decide), Int.emod_lt_of_pos _ (by decide)⟩, b1⟩
    · show 0 ≤ (if p = prevP z.2 then e.2.1 else z.1 p) ∧ (if p = prevP z.2 then e.2.1 else z.1 p) < c
      split
      · exact b2
      · exact g.cols p
    · have hp : (if p = prevP z.2 then e.2.1 else z.1 p) ≠ 0 := hp
      split at hp
      · rename_i q2
        rw [q2]
        exact ip
      · exact (g.near p hp).mono (by omega)
theorem Fit.backN {c n : Nat} {B : Int} (ok : TabOk c n T) {z : WSt} (g : Fit c n B z) : ∀ {i : Nat} {z' : WSt}, Sb.backN T i z = some z' → Fit c n (B + i) z'
  | 0, z', h => by
    obtain rfl := Option.some.inj h
    rw [show B + ((0 : Nat) : Int) = B by omega]
    exact g
  | i + 1, z', h => by
    have h : (Sb.backN T i z).bind (backS T) = some z' := h
    cases e : Sb.backN T i z with
    | none =>
      rw [e] at h
      cases h
    | some y =>
      rw [e] at h
      have q := (g.backN ok e).back ok h
      rw [show B + ((i + 1 : Nat) : Int) = B + (i : Int) + 1 by omega]
      exact q
end

/-! ### walks on a ring -/
def wrapW (wd hg : Int) (u : Wk) : Wk := (u.1 % wd, u.2.1 % hg, u.2.2)
def stepR (T : List (List Ent)) (wd hg : Int) (z : WSt) : Option WSt := (stepW T z).map fun y => (y.1, wrapW wd hg y.2)
def runR (T : List (List Ent)) (wd hg : Int) : Nat → WSt → Option WSt
  | 0, z => some z
  | k + 1, z => (runR T wd hg k z).bind (stepR T wd hg)
def onRing (wd hg : Int) (p : Pt) : Prop := (0 ≤ p.1 ∧ p.1 < wd) ∧ (0 ≤ p.2 ∧ p.2 < hg)
structure InRing (c n : Nat) (wd hg : Int) (z : WSt) : Prop where
  cols : ∀ p, 0 ≤ z.1 p ∧ z.1 p < c
  near : ∀ p, z.1 p ≠ 0 → onRing wd hg p
  wk : onRing wd hg (wPt z.2)
  hd : 0 ≤ z.2.2.2.1 ∧ z.2.2.2.1 < 4
  st : 0 ≤ z.2.2.2.2 ∧ z.2.2.2.2 < n
theorem onRing.inB {wd hg B : Int} {p : Pt} (h : onRing wd hg p) (l1 : wd ≤ B) (l2 : hg ≤ B) : InB B p := by
  obtain ⟨⟨a1, a2⟩, a3, a4⟩ := h
  exact ⟨⟨by omega, by omega⟩, by omega, by omega⟩
theorem InRing.fit {c n : Nat} {wd hg B : Int} {z : WSt} (h : InRing c n wd hg z) (l1 : wd ≤ B) (l2 : hg ≤ B) : Fit c n B z := ⟨h.cols, fun p hp => (h.near p hp).inB l1 l2, h.wk.inB l1 l2, h.hd, h.st⟩
section
variable {T : List (List Ent)} {c n : Nat} {wd hg : Int}
theorem stepR_some {z y : WSt} (h : stepR T wd hg z = some y) : ∃ e, entAt T z.2.2.2.2 (z.1 (wPt z.2)) = some e ∧ y = (dab z.1 (wPt z.2) e.1, wrapW wd hg (behind z.2 e)) := by
  unfold stepR at h
  obtain ⟨x, hx, e⟩ := Option.map_eq_some_iff.mp h
  cases q : entAt T z.2.2.2.2 (z.1 (wPt z.2)) with
  | none =>
    rw [step_none q] at hx
    cases hx
  | some a =>
    rw [step_some q] at hx
    have hx := Option.some.inj hx
    subst hx
    exact ⟨a, rfl, e.symm⟩
theorem InRing.step (ok : TabOk c n T) (w1 : 1 ≤ wd) (h1 : 1 ≤ hg) {z y : WSt} (h : InRing c n wd hg z) (hs : stepR T wd hg z = some y) : InRing c n wd hg y := by
  obtain ⟨a, ha, rfl⟩ := stepR_some hs
  have f : Fit c n (wd + hg) z := h.fit (by omega) (by omega)
  have g := f.step ok (step_some ha)
  refine ⟨g.cols, fun p hp => ?_, ⟨⟨Int.emod_nonneg _ (by omega), Int.emod_lt_of_pos _ (by omega)⟩, Int.emod_nonneg _ (by omega), Int.emod_lt_of_pos _ (by omega)⟩, g.hd, g.st⟩
  have hp : dab z.1 (wPt z.2) a.1 p ≠ 0 := hp
  unfold dab at hp
  by_cases e : wPt z.2 = p
  · rw [← e]
    exact h.wk
  · refine h.near p fun q => hp ?_
    first | exact (if_neg e).trans q | exact (if_neg fun y => e y.symm).trans q
/-- a step that loses nothing can be undone on a ring -/
theorem stepR_inj (nd : (endsL T).Nodup) (ok : TabOk c n T) {z z' y : WSt} (h : InRing c n wd hg z) (h' : InRing c n wd hg z') (s : stepR T wd hg z = some y) (s' : stepR T wd hg z' = some y) : z = z' := by
  obtain ⟨a, ha, e⟩ := stepR_some s
  obtain ⟨b, hb, e'⟩ := stepR_some s'
  have e0 := e.symm.trans e'
  have ef : dab z.1 (wPt z.2) a.1 = dab z'.1 (wPt z'.2) b.1 := congrArg Prod.fst e0
  have ew : wrapW wd hg (behind z.2 a) = wrapW wd hg (behind z'.2 b) := congrArg Prod.snd e0
  have eh : turnI z.2 a.2.1 = turnI z'.2 b.2.1 := congrArg (fun u : Wk => u.2.2.1) ew
  have es : a.2.2 = b.2.2 := congrArg (fun u : Wk => u.2.2.2) ew
  have ex : (z.2.1 + dxI (turnI z.2 a.2.1)) % wd = (z'.2.1 + dxI (turnI z'.2 b.2.1)) % wd := congrArg (fun u : Wk => u.1) ew
  have ey : (z.2.2.1 + dyI (turnI z.2 a.2.1)) % hg = (z'.2.2.1 + dyI (turnI z'.2 b.2.1)) % hg := congrArg (fun u : Wk => u.2.1) ew
  rw [← eh] at ex ey
  have same : ∀ {m x x' d : Int}, 0 ≤ x → x < m → 0 ≤ x' → x' < m → (x + d) % m = (x' + d) % m → x = x' := fun {m x x' d} a1 a2 a3 a4 q => by
    have q2 : (x + d - (x' + d)) % m = 0 := Int.emod_eq_emod_iff_emod_sub_eq_zero.mp q
    rw [show x + d - (x' + d) = x - x' by omega] at q2
    have dv := Int.dvd_of_emod_eq_zero q2
    obtain ⟨k, hk⟩ := dv
    rcases Int.lt_trichotomy k 0 with g | g | g
    · have : m * k ≤ m * (-1) := Int.mul_le_mul_of_nonneg_left (by omega) (by omega)
      omega
    · rw [g, Int.mul_zero] at hk
      omega
    · have : m * 1 ≤ m * k := Int.mul_le_mul_of_nonneg_left (by omega) (by omega)
      omega
  have px := same h.wk.1.1 h.wk.1.2 h'.wk.1.1 h'.wk.1.2 ex
  have py := same h.wk.2.1 h.wk.2.2 h'.wk.2.1 h'.wk.2.2 ey
  have pp : wPt z.2 = wPt z'.2 := Prod.ext px py
  have ep : a.1 = b.1 := by
    have q := congrFun ef (wPt z.2)
    unfold dab at q
    rw [pp, if_pos rfl, if_pos rfl] at q
    exact q
  have m1 : ((z.2.2.2.2, z.1 (wPt z.2), a.1, a.2.1, a.2.2) : E5) ∈ enT T T.length := (ent_mem ok _).mpr ⟨h.st, h.cols _, ha⟩
  have m2 : ((z'.2.2.2.2, z'.1 (wPt z'.2), b.1, b.2.1, b.2.2) : E5) ∈ enT T T.length := (ent_mem ok _).mpr ⟨h'.st, h'.cols _, hb⟩
  have e5 := nodup_inj (f := endOf) nd m1 m2 (Prod.ext es ep)
  have t1 : z.2.2.2.2 = z'.2.2.2.2 := congrArg (fun e : E5 => e.1) e5
  have t2 : z.1 (wPt z.2) = z'.1 (wPt z'.2) := congrArg (fun e : E5 => e.2.1) e5
  have t3 : a.2.1 = b.2.1 := congrArg (fun e : E5 => e.2.2.2.1) e5
  have hh : z.2.2.2.1 = z'.2.2.2.1 := by
    unfold turnI at eh
    rw [t3] at eh
    have q1 := h.hd
    have q2 := h'.hd
    omega
  refine Prod.ext ?_ (Prod.ext px (Prod.ext py (Prod.ext hh t1)))
  funext q
  by_cases c : wPt z.2 = q
  · rw [← c, t2, pp]
  · have k := congrFun ef q
    unfold dab at k
    rw [pp] at c
    rw [pp] at k
    first
      | rw [if_neg c, if_neg c] at k; exact k
      | rw [if_neg (fun y => c y.symm), if_neg (fun y => c y.symm)] at k; exact k
/-- no tail -/
theorem no_tail (nd : (endsL T).Nodup) (ok : TabOk c n T) {Y : Nat → WSt} {i j : Nat} (ij : i < j) (hr : ∀ k, k ≤ j → InRing c n wd hg (Y k)) (hs : ∀ k, k < j → stepR T wd hg (Y k) = some (Y (k + 1))) (e : Y i = Y j) (un : ∀ a b, a < b → b < j → Y a ≠ Y b) : i = 0 := by
  cases i with
  | zero => rfl
  | succ i =>
    exfalso
    obtain ⟨j, rfl⟩ : ∃ j', j = j' + 1 := ⟨j - 1, by omega⟩
    have s1 := hs i (by omega)
    have s2 := hs j (by omega)
    rw [e] at s1
    exact un i j (by omega) (by omega) (stepR_inj nd ok (hr i (by omega)) (hr j (by omega)) s1 s2)
end
/-! the number that stands for a floor -/
def idxR (wd : Nat) (p : Pt) : Nat := p.2.toNat * wd + p.1.toNat
def ptR (wd : Nat) (k : Nat) : Pt := (((k % wd : Nat) : Int), ((k / wd : Nat) : Int))
def codeR (f : Pt → Int) (wd : Nat) : Nat → Int
  | 0 => 0
  | k + 1 => codeR f wd k + f (ptR wd k) * 8 ^ k
theorem ptR_idx {wd hg : Nat} {p : Pt} (h : onRing wd hg p) : ptR wd (idxR wd p) = p ∧ idxR wd p < wd * hg := by
  obtain ⟨⟨a1, a2⟩, a3, a4⟩ := h
  have w0 : 0 < wd := by omega
  have xl : p.1.toNat < wd := by omega
  unfold ptR idxR
  rw [Nat.add_comm, Nat.add_mul_mod_self_right, Nat.mod_eq_of_lt xl, Nat.add_mul_div_right _ _ w0, Nat.div_eq_of_lt xl]
  refine ⟨Prod.ext (by show ((p.1.toNat : Nat) : Int) = p.1; omega) (by show ((0 + p.2.toNat : Nat) : Int) = p.2; omega), ?_⟩
  have yl : p.2.toNat + 1 ≤ hg := by omega
  have := Nat.mul_le_mul_right wd yl
  rw [Nat.succ_mul] at this
  rw [Nat.mul_comm wd hg]
  omega
theorem ptR_inj {wd : Nat} (w0 : 0 < wd) {k j : Nat} (h : ptR wd k = ptR wd j) : k = j := by
  have h1 : ((k % wd : Nat) : Int) = ((j % wd : Nat) : Int) := congrArg Prod.fst h
  have h2 : ((k / wd : Nat) : Int) = ((j / wd : Nat) : Int) := congrArg Prod.snd h
  have a := Nat.div_add_mod k wd
  have b := Nat.div_add_mod j wd
  rw [Int.ofNat.inj h1, Int.ofNat.inj h2] at a
  omega
theorem codeR_put {f : Pt → Int} {wd : Nat} (w0 : 0 < wd) {j : Nat} {v : Int} : ∀ n, codeR (dab f (ptR wd j) v) wd n = codeR f wd n + (if j < n then (v - f (ptR wd j)) * 8 ^ j else 0)
  | 0 => by
    rw [if_neg (Nat.not_lt_zero _)]
    rfl
  | n + 1 => by
    show codeR (dab f (ptR wd j) v) wd n + dab f (ptR wd j) v (ptR wd n) * 8 ^ n = codeR f wd n + f (ptR wd n) * 8 ^ n + _
    rw [codeR_put w0 n]
    by_cases e : j = n
    · subst e
      rw [if_neg (Nat.lt_irrefl _), if_pos (Nat.lt_succ_self _)]
      have : dab f (ptR wd j) v (ptR wd j) = v := if_pos rfl
      rw [this, Int.sub_mul]
      omega
    · have ne : ptR wd j ≠ ptR wd n := fun q => e (ptR_inj w0 q)
      have : dab f (ptR wd j) v (ptR wd n) = f (ptR wd n) := by
        unfold dab
        first | exact if_neg ne | exact if_neg fun y => ne y.symm
      rw [this]
      by_cases l : j < n
      · rw [if_pos l, if_pos (by omega)]
        omega
      · rw [if_neg l, if_neg (by omega)]
        omega
theorem codeR_bd {f : Pt → Int} {wd : Nat} (hf : ∀ p, 0 ≤ f p ∧ f p < 8) : ∀ n, 0 ≤ codeR f wd n ∧ codeR f wd n < 8 ^ n
  | 0 => by
    show (0 : Int) ≤ 0 ∧ (0 : Int) < 8 ^ 0
    decide
  | n + 1 => by
    obtain ⟨a, b⟩ := codeR_bd (wd := wd) hf n
    have c := hf (ptR wd n)
    have p0 : (0 : Int) < 8 ^ n := Int.pow_pos (by decide)
    have m1 : 0 ≤ f (ptR wd n) * 8 ^ n := Int.mul_nonneg c.1 (Int.le_of_lt p0)
    have m2 : f (ptR wd n) * 8 ^ n ≤ 7 * 8 ^ n := Int.mul_le_mul_of_nonneg_right (by omega) (Int.le_of_lt p0)
    show 0 ≤ codeR f wd n + f (ptR wd n) * 8 ^ n ∧ codeR f wd n + f (ptR wd n) * 8 ^ n < 8 ^ (n + 1)
    rw [Int.pow_succ]
    omega
theorem codeR_inj {f g : Pt → Int} {wd : Nat} (hf : ∀ p, 0 ≤ f p ∧ f p < 8) (hg : ∀ p, 0 ≤ g p ∧ g p < 8) : ∀ n, codeR f wd n = codeR g wd n → ∀ k, k < n → f (ptR wd k) = g (ptR wd k)
  | 0, _, k, l => absurd l (Nat.not_lt_zero _)
  | n + 1, e, k, l => by
    have e : codeR f wd n + f (ptR wd n) * 8 ^ n = codeR g wd n + g (ptR wd n) * 8 ^ n := e
    obtain ⟨a, b⟩ := codeR_bd (wd := wd) hf n
    obtain ⟨a', b'⟩ := codeR_bd (wd := wd) hg n
    have p0 : (0 : Int) < 8 ^ n := Int.pow_pos (by decide)
    have top : f (ptR wd n) = g (ptR wd n) := by
      have d : (f (ptR wd n) - g (ptR wd n)) * 8 ^ n = codeR g wd n - codeR f wd n := by
        rw [Int.sub_mul]
        omega
      refine Classical.byContradiction fun ne => ?_
      obtain ⟨t, ht⟩ : ∃ t, f (ptR wd n) - g (ptR wd n) = t := ⟨_, rfl⟩
      have tn : t ≠ 0 := fun z => ne (by omega)
      rw [ht] at d
      rcases Int.lt_trichotomy t 0 with q | q | q
      · have : t * 8 ^ n ≤ (-1) * 8 ^ n := Int.mul_le_mul_of_nonneg_right (by omega) (Int.le_of_lt p0)
        omega
      · exact tn q
      · have : 1 * 8 ^ n ≤ t * 8 ^ n := Int.mul_le_mul_of_nonneg_right (by omega) (Int.le_of_lt p0)
        omega
    rcases Nat.lt_or_ge k n with g' | g'
    · refine codeR_inj hf hg n ?_ k g'
      rw [top] at e
      omega
    · obtain rfl : k = n := by omega
      exact top

/-! ### walks on a ring, further -/
section
variable {T : List (List Ent)} {c n : Nat} {wd hg : Nat}
theorem InRing.start {B : Int} {F : List Sq} {w : Wk} (h : StandOk c n B T F w) (onF : ∀ s ∈ F, onRing wd hg s.pt) (onW : onRing wd hg (wPt w)) : InRing c n wd hg (colF F, w) := by
  refine ⟨h.fit.cols, fun p hp => ?_, onW, h.hd, h.st⟩
  have m : ((p.1, p.2, colF F p) : Sq) ∈ F := (h.fl.fl.mem _).mpr ⟨rfl, hp⟩
  exact onF _ m
theorem InRing.run (ok : TabOk c n T) (w1 : 1 ≤ wd) (h1 : 1 ≤ hg) {z : WSt} (h : InRing c n wd hg z) : ∀ {k : Nat} {y : WSt}, runR T wd hg k z = some y → InRing c n wd hg y
  | 0, y, e => by
    have e : some z = some y := e
    cases e
    exact h
  | k + 1, y, e => by
    have e : (runR T wd hg k z).bind (stepR T wd hg) = some y := e
    obtain ⟨x, e1, e2⟩ := Option.bind_eq_some_iff.mp e
    exact (InRing.run ok w1 h1 h e1).step ok (by omega) (by omega) e2
theorem ring_small {m : CM} (nd : (m.map (·.1)).Nodup) (nz : ∀ e ∈ m, e.2 ≠ 0) (near : ∀ p, col m p ≠ 0 → onRing wd hg p) : m.length ≤ wd * hg := by
  have on : ∀ p ∈ m.map (·.1), onRing wd hg p := fun p hp => by
    obtain ⟨e, he, rfl⟩ := List.mem_map.mp hp
    refine near _ ?_
    have q : look m e.1 = some e.2 := mem_look nd (show (e.1, e.2) ∈ m from he)
    unfold col
    rw [q]
    exact nz e he
  have nd2 : ((m.map (·.1)).map (idxR wd)).Nodup := List.pairwise_map.mpr (List.Pairwise.imp_of_mem (fun {a b} ha hb ne e => ne (by rw [← (ptR_idx (on a ha)).1, ← (ptR_idx (on b hb)).1, e])) nd)
  have q := nodup_sub (B := List.range (wd * hg)) nd2 fun k hk => by
    obtain ⟨p, hp, rfl⟩ := List.mem_map.mp hk
    exact List.mem_range.mpr (ptR_idx (on p hp)).2
  rw [List.length_map, List.length_map, List.length_range] at q
  exact q
theorem stepR_ent {z : WSt} {e : Int × Int × Int} (h : entAt T z.2.2.2.2 (z.1 (wPt z.2)) = some e) : stepR T wd hg z = some (dab z.1 (wPt z.2) e.1, wrapW wd hg (behind z.2 e)) := by
  unfold stepR
  rw [step_some h]
  rfl
theorem stepR_no {z : WSt} : stepW T z = none ↔ stepR T wd hg z = none := by
  unfold stepR
  cases stepW T z with
  | none => exact ⟨fun _ => rfl, fun _ => rfl⟩
  | some y => exact ⟨fun h => (by cases h), fun h => (by cases h)⟩
theorem ent_of {z : WSt} (h : stepW T z ≠ none) : ∃ e, entAt T z.2.2.2.2 (z.1 (wPt z.2)) = some e := by
  cases q : entAt T z.2.2.2.2 (z.1 (wPt z.2)) with
  | none => exact absurd (step_none q) h
  | some e => exact ⟨e, rfl⟩
theorem runR_next {z y x : WSt} {k : Nat} (h : runR T wd hg k z = some y) (s : stepR T wd hg y = some x) : runR T wd hg (k + 1) z = some x := by
  show (runR T wd hg k z).bind _ = _
  rw [h]
  exact s
end

/-! ### the number of a floor -/
def sumR (wd : Nat) : List Sq → Int
  | [] => 0
  | s :: F => s.2.2 * 8 ^ idxR wd s.pt + sumR wd F
theorem codeR_zero (wd : Nat) : ∀ k, codeR (fun _ => 0) wd k = 0
  | 0 => rfl
  | k + 1 => by
    show codeR (fun _ => 0) wd k + 0 * 8 ^ k = 0
    rw [codeR_zero wd k, Int.zero_mul]
    rfl
theorem codeR_dab {wd hg : Nat} {f : Pt → Int} {p : Pt} {v : Int} (h : onRing wd hg p) : codeR (dab f p v) wd (wd * hg) = codeR f wd (wd * hg) + (v * 8 ^ idxR wd p - f p * 8 ^ idxR wd p) := by
  obtain ⟨e, l⟩ := ptR_idx h
  have w0 : 0 < wd := Nat.pos_of_ne_zero fun z => by
    rw [z, Nat.zero_mul] at l
    omega
  have q := codeR_put (f := f) (v := v) w0 (j := idxR wd p) (wd * hg)
  rw [e, if_pos l, Int.sub_mul] at q
  exact q
theorem sum_code {wd hg : Nat} : ∀ {F : List Sq}, (∀ s ∈ F, onRing wd hg s.pt) → (F.map Sq.pt).Nodup → sumR wd F = codeR (colF F) wd (wd * hg)
  | [], _, _ => (codeR_zero wd _).symm
  | s :: F, on, nd => by
    have nd := List.nodup_cons.mp nd
    have z : colF F s.pt = 0 := by
      unfold colF col
      cases q : look (cellsOf F) s.pt with
      | none => rfl
      | some v =>
        obtain ⟨t, ht, e⟩ := List.mem_map.mp (look_mem q)
        exact absurd (List.mem_map.mpr ⟨t, ht, (Prod.mk.inj e).1⟩) nd.1
    have e : colF (s :: F) = dab (colF F) s.pt s.2.2 := by
      funext p
      show ((if s.pt = p then some s.2.2 else look (cellsOf F) p).getD 0) = if p = s.pt then s.2.2 else _
      by_cases c : s.pt = p
      · rw [if_pos c, if_pos c.symm]
        rfl
      · rw [if_neg c, if_neg fun y => c y.symm]
        rfl
    rw [e, codeR_dab (on s List.mem_cons_self), z, ← sum_code (fun t ht => on t (List.mem_cons_of_mem _ ht)) nd.2, Int.zero_mul, Int.sub_zero, Int.add_comm]
    rfl
def cR (wd : Nat) (s : Sq) : Int := s.2.2 * 8 ^ idxR wd s.pt
theorem sum_R (wd : Nat) : ∀ F : List Sq, (F.map (cR wd)).sum = sumR wd F
  | [] => rfl
  | s :: F => by
    rw [List.map_cons, List.sum_cons, sum_R wd F]
    rfl

/-! ### a stand on a ring is told by its number and its walker -/
theorem stand_inj {c n wd hg : Nat} {z z' : WSt} (c8 : c ≤ 8) (h : InRing c n wd hg z) (h' : InRing c n wd hg z') (ec : codeR z.1 wd (wd * hg) = codeR z'.1 wd (wd * hg)) (ew : z.2 = z'.2) : z = z' := by
  refine Prod.ext ?_ ew
  funext p
  by_cases on : onRing wd hg p
  · obtain ⟨e, l⟩ := ptR_idx on
    have q := codeR_inj (fun k => ⟨(h.cols k).1, by have := (h.cols k).2; omega⟩) (fun k => ⟨(h'.cols k).1, by have := (h'.cols k).2; omega⟩) _ ec _ l
    rw [e] at q
    exact q
  · have a : z.1 p = 0 := Classical.byContradiction fun y => on (h.near p y)
    have b : z'.1 p = 0 := Classical.byContradiction fun y => on (h'.near p y)
    rw [a, b]

/-! ### stands as keys -/
theorem dnGet_cases {L : List (NestedKey × Addr × V)} (k : NestedKey) : (dnGet L k = none ∧ ∀ p ∈ L, p.1 ≠ k) ∨ ∃ (j : Nat) (p : NestedKey × Addr × V), L[j]? = some p ∧ p.1 = k ∧ dnGet L k = some p.2.2 := by
  cases q : L.find? fun p => decide (p.1 = k) with
  | none =>
    refine .inl ⟨by unfold dnGet; rw [q]; rfl, fun p hp e => ?_⟩
    have := List.find?_eq_none.mp q p hp
    exact this (by simp [e])
  | some p =>
    have m := List.mem_of_find?_eq_some q
    have e := List.find?_some q
    obtain ⟨j, hj, ej⟩ := List.mem_iff_getElem.mp m
    refine .inr ⟨j, p, ?_, by simpa using e, by unfold dnGet; rw [q]; rfl⟩
    rw [List.getElem?_eq_getElem hj, ej]
def stD (wd hg : Nat) (z : WSt) : PyData := .tuple [.int (codeR z.1 wd (wd * hg)), wkD z.2]
theorem nk_wk (u : Wk) : nkOf (wkD u) = .tup [.num u.1, .num u.2.1, .num u.2.2.1, .num u.2.2.2] := by
  unfold wkD
  simp only [nkOf, nkAll]
theorem nk_wk_inj {u v : Wk} (h : nkOf (wkD u) = nkOf (wkD v)) : u = v := by
  rw [nk_wk, nk_wk] at h
  injection h with h
  injection h with a1 h
  injection h with a2 h
  injection h with a3 h
  injection h with a4 _
  injection a1 with a1
  injection a2 with a2
  injection a3 with a3
  injection a4 with a4
  exact Prod.ext a1 (Prod.ext a2 (Prod.ext a3 a4))
theorem nk_stD (wd hg : Nat) (z : WSt) : nkOf (stD wd hg z) = .tup [.num (codeR z.1 wd (wd * hg)), nkOf (wkD z.2)] := by
  unfold stD
  simp only [nkOf, nkAll]
theorem nk_st_inj {wd hg : Nat} {z z' : WSt} (h : nkOf (stD wd hg z) = nkOf (stD wd hg z')) : codeR z.1 wd (wd * hg) = codeR z'.1 wd (wd * hg) ∧ z.2 = z'.2 := by
  rw [nk_stD, nk_stD] at h
  injection h with h
  injection h with a1 h
  injection h with a2 _
  injection a1 with a1
  exact ⟨a1, nk_wk_inj a2⟩
theorem nk_st_depth (wd hg : Nat) (z : WSt) : (nkOf (stD wd hg z)).depth ≤ 8 := by
  rw [nk_stD, nk_wk]
  simp [NestedKey.depth, NestedKey.depthAll]
structure SeenG (kf : WSt → NestedKey) (f : Nat → Option WSt) (i : Nat) (kvs : List (NestedKey × Addr × V)) : Prop where
  len : kvs.length = i
  at_ : ∀ k p, kvs[k]? = some p → ∃ z, f k = some z ∧ p.1 = kf z ∧ p.2.2 = .int k
section
variable {kf : WSt → NestedKey} {f : Nat → Option WSt}
theorem SeenG.nil : SeenG kf f 0 [] := ⟨rfl, fun k p h => by simp at h⟩
theorem SeenG.look {i : Nat} {kvs : List (NestedKey × Addr × V)} {z : WSt} (h : SeenG kf f i kvs) (inj : ∀ k z', k < i → f k = some z' → kf z' = kf z → z' = z) :
    (dnGet kvs (kf z) = none ∧ ∀ k, k < i → f k ≠ some z) ∨ ∃ k, k < i ∧ f k = some z ∧ dnGet kvs (kf z) = some (.int k) := by
  rcases dnGet_cases (L := kvs) (kf z) with ⟨a, b⟩ | ⟨j, p, hj, e, g⟩
  · refine .inl ⟨a, fun k hk rk => ?_⟩
    have hk' : k < kvs.length := by rw [h.len]; exact hk
    obtain ⟨y, ry, ey, _⟩ := h.at_ k kvs[k] (List.getElem?_eq_getElem hk')
    rw [rk] at ry
    cases ry
    exact b _ (List.getElem_mem hk') ey
  · obtain ⟨y, ry, ey, ev⟩ := h.at_ j p hj
    have hjl : j < i := by
      rw [← h.len]
      exact (List.getElem?_eq_some_iff.mp hj).1
    have ryz : y = z := inj j y hjl ry (ey.symm.trans e)
    rw [ryz] at ry
    exact .inr ⟨j, hjl, ry, by rw [g, ev]⟩
theorem SeenG.put {i : Nat} {kvs : List (NestedKey × Addr × V)} {z : WSt} (h : SeenG kf f i kvs) (run : f i = some z) (p : Addr) {k0 : NestedKey} (ek : k0 = kf z) : SeenG kf f (i + 1) (kvs ++ [(k0, p, .int i)]) := by
  subst ek
  refine ⟨by rw [List.length_append, h.len]; rfl, fun k q hq => ?_⟩
  rcases Nat.lt_or_ge k kvs.length with g | g
  · rw [List.getElem?_append_left g] at hq
    exact h.at_ k q hq
  · rw [List.getElem?_append_right g, List.getElem?_singleton] at hq
    split at hq
    · have hq := Option.some.inj hq
      subst hq
      have ek : k = i := by
        have := h.len
        omega
      subst ek
      exact ⟨z, run, rfl, rfl⟩
    · cases hq
end
theorem inj_stR {T : List (List Ent)} {c n wd hg : Nat} {z0 z : WSt} {i : Nat} (ok : TabOk c n T) (c8 : c ≤ 8) (w1 : 1 ≤ wd) (h1 : 1 ≤ hg) (r0 : InRing c n wd hg z0) (run : runR T wd hg i z0 = some z) :
    ∀ k z', k < i → runR T wd hg k z0 = some z' → nkOf (stD wd hg z') = nkOf (stD wd hg z) → z' = z := fun k z' _ rk e => by
  obtain ⟨q1, q2⟩ := nk_st_inj e
  exact stand_inj c8 (r0.run ok w1 h1 rk) (r0.run ok w1 h1 run) q1 q2
/-! walks that stop or come round -/
def RunsTo (f : Nat → Option WSt) (i : Nat) : Prop := ∀ a b, a < b → b < i → f a ≠ f b
section
variable {T : List (List Ent)} {wd hg : Int} {z0 : WSt}
theorem runR_add (a : Nat) : ∀ k, runR T wd hg (a + k) z0 = (runR T wd hg a z0).bind (runR T wd hg k)
  | 0 => by
    show runR T wd hg a z0 = (runR T wd hg a z0).bind some
    cases runR T wd hg a z0 <;> rfl
  | k + 1 => by
    show (runR T wd hg (a + k) z0).bind (stepR T wd hg) = _
    rw [runR_add a k]
    cases runR T wd hg a z0 with
    | none => rfl
    | some z => rfl
theorem runR_none {a : Nat} (h : runR T wd hg a z0 = none) {b : Nat} (l : a ≤ b) : runR T wd hg b z0 = none := by
  obtain ⟨k, rfl⟩ := Nat.exists_eq_add_of_le l
  rw [runR_add, h]
  rfl
theorem runR_some {a b : Nat} {z : WSt} (h : runR T wd hg b z0 = some z) (l : a ≤ b) : ∃ y, runR T wd hg a z0 = some y := by
  cases e : runR T wd hg a z0 with
  | some y => exact ⟨y, rfl⟩
  | none =>
    rw [runR_none e l] at h
    cases h
theorem runR_round {a b : Nat} (lt : a < b) {z : WSt} (ha : runR T wd hg a z0 = some z) (hb : runR T wd hg b z0 = some z) : ∀ k, runR T wd hg k z0 ≠ none := fun k => by
  have step : ∀ m, runR T wd hg (a + m) z0 = runR T wd hg (b + m) z0 := fun m => by rw [runR_add, runR_add, ha, hb]
  have far : ∀ r m, runR T wd hg (a + m) z0 = runR T wd hg (a + m + r * (b - a)) z0 := fun r => by
    induction r with
    | zero => intro m; rw [Nat.zero_mul, Nat.add_zero]
    | succ r ih =>
      intro m
      rw [ih m, show a + m + r * (b - a) = a + (m + r * (b - a)) by omega, step, Nat.succ_mul]
      congr 1
      omega
  intro hk
  have q := far (k + 1) 0
  rw [Nat.add_zero, ha] at q
  have l : k ≤ a + (k + 1) * (b - a) := by
    have : (k + 1) * 1 ≤ (k + 1) * (b - a) := Nat.mul_le_mul_left _ (by omega)
    omega
  rw [runR_none hk l] at q
  cases q
end
theorem DnAt.mono {K : PySem.W.Frag} {P : Program} {w : World} {H H' : Hp} {a : Addr} {L : List (NestedKey × Addr × V)} (h : DnAt K P w H a L) (e : H' a = H a) (t : TK H H') : DnAt K P w H' a L := ⟨e.trans h.ob, fun p hp => by
  obtain ⟨d, td, e1, e2⟩ := h.keys p hp
  exact ⟨d, Tp.mono t _ _ td, e1, e2⟩⟩
theorem DnAt.same {K : PySem.W.Frag} {P : Program} {w : World} {H H' : Hp} {a : Addr} {L : List (NestedKey × Addr × V)} (h : DnAt K P w H a L) (s : Same H H') : DnAt K P w H' a L := h.mono ((s _ _ h.ob).trans h.ob.symm) (Same.tk s)
theorem DnAt.tk {K : PySem.W.Frag} {P : Program} {w : World} {H : Hp} {a : Addr} {L : List (NestedKey × Addr × V)} {o : HO} (h : DnAt K P w H a L) : TK H (upd H a o) := ⟨fun b xs e => by
  rw [upd_ne (ne_of e h.ob (fun z => by cases z))]
  exact e, fun b u v e => by
  rw [upd_ne (ne_of e h.ob (fun z => by cases z))]
  exact e⟩
theorem DnAt.put {K : PySem.W.Frag} {P : Program} {w : World} {H : Hp} {a : Addr} {L : List (NestedKey × Addr × V)} (h : DnAt K P w H a L) {b : Addr} {d : PyData} {v : V} (t : Tp K H (.ref b) d) (l : (nkOf d).depth ≤ 8) : DnAt K P w (upd H a (DnO P w a (L ++ [(nkOf d, b, v)]))) a (L ++ [(nkOf d, b, v)]) := by
  refine ⟨upd_same, fun p hp => ?_⟩
  rcases List.mem_append.mp hp with g | g
  · obtain ⟨d', td, e1, e2⟩ := h.keys p g
    exact ⟨d', Tp.mono h.tk _ _ td, e1, e2⟩
  · rw [List.mem_singleton.mp g]
    exact ⟨d, Tp.mono h.tk _ _ t, rfl, l⟩
theorem StrAt.upd {K : PySem.W.Frag} {C a D b : Addr} {H : Hp} {o : HO} {T : List (List Ent)} {m : CM} {w : Wk} (h : StrAt K C H a D T m w) (na : a ≠ b) (nD : D ≠ b) (t : TK H (upd H b o)) : StrAt K C (upd H b o) a D T m w := by
  obtain ⟨⟨dx, tv, gv, wv, e, h1, h2, h3⟩, hd, nd, nz⟩ := h
  exact ⟨⟨dx, tv, gv, wv, by rw [upd_ne na]; exact e, Tp.mono t _ _ h1, Tp.mono t _ _ h2, Tp.mono t _ _ h3⟩, by rw [upd_ne nD]; exact hd, nd, nz⟩

/-! ### the program's rings -/
def spLies : Sp := fun vs H Q _ => ∃ x y wd hg : Int, vs = [.int x, .int y, .int wd, .int hg] ∧ onRing wd hg (x, y) ∧ Q (.bl true) H
def spCoded (K : PySem.W.Frag) : Sp := fun vs H Q _ => ∃ (a : Addr) (x y cl : Int) (wd hg : Nat), vs = [.ref a, .int cl, .int wd] ∧ SqT K H a [.int x, .int y] ∧ onRing wd hg (x, y) ∧ wd ≤ 3 ∧ hg ≤ 2 ∧ 0 ≤ cl ∧ cl < 10 ∧ Q (.int (cl * 8 ^ idxR wd (x, y))) H
section
variable {P : Program} {w : World} {K : PySem.W.Frag} {mg : Str → Option Value} {base : Heap}
theorem ok_u_lies_on (T : Txt K mg) (D : DefAt K mg "_lies_on" s_u_lies_on ["x", "y", "wide", "high"]) : Cal P w K mg base CX0 "_lies_on" 1 ["x", "y", "wide", "high"] spLies := by
  refine D.cal sc_u_lies_on (fun vs H Q E h => ?_) (fun f cdv A outer s H vs Q E hr h => ?_)
  · obtain ⟨x, y, wd, hg, rfl, _⟩ := h
    rfl
  · obtain ⟨x, y, wd, hg, rfl, hr2, q⟩ := h
    refine ⟨_, (pss_one (ps_ret (pe_and (pe_chain op_le op_lt pe_int (pv 0) (pv 2)) (pe_one (pe_chain op_le op_lt pe_int (pv 1) (pv 3)))))), ?_⟩
    obtain ⟨⟨a1, a2⟩, a3, a4⟩ := hr2
    have a1 : 0 ≤ x := a1
    have a2 : x < wd := a2
    have a3 : 0 ≤ y := a3
    have a4 : y < hg := a4
    have d1 : decide (0 ≤ x) = true := decide_eq_true a1
    have d2 : decide (x < wd) = true := decide_eq_true a2
    have d3 : decide (0 ≤ y) = true := decide_eq_true a3
    have d4 : decide (y < hg) = true := decide_eq_true a4
    walk_at "st"
    rw [if_pos d1]
    walk_at "st"
    rw [d2]
    refine iteT ?_
    walk_at "st"
    rw [if_pos d3]
    walk_at "st"
    show Q (.bl (decide (y < hg))) H
    rw [d4]
    exact q
theorem ok_u_coded (T : Txt K mg) (D : DefAt K mg "_coded" s_u_coded ["place", "colour", "wide"]) : Cal P w K mg base CX0 "_coded" 1 ["place", "colour", "wide"] (spCoded K) := by
  refine D.cal sc_u_coded (fun vs H Q E h => ?_) (fun f cdv A outer s H vs Q E hr h => ?_)
  · obtain ⟨a, x, y, cl, wd, hg, rfl, _⟩ := h
    rfl
  · obtain ⟨a, x, y, cl, wd, hg, rfl, hs, hr2, l1, l2, c0, c1, q⟩ := h
    refine ⟨_, (pss_one (ps_ret (pe_op op_shl (pv 1) (pe_op op_mul (pe_gint (by rfl) T.bits_of_colour) (pe_op op_add (pe_op op_mul (pe_ix (k_ix_tup (K := K)) (pv 0) pe_int (fun _ _ => rfl)) (pv 2)) (pe_ix (k_ix_tup (K := K)) (pv 0) pe_int (fun _ _ => rfl))))))), ?_⟩
    have hi := (ptR_idx hr2).2
    have h6 : wd * hg ≤ 3 * 2 := Nat.mul_le_mul l1 l2
    obtain ⟨⟨a1, a2⟩, a3, a4⟩ := hr2
    have a1 : 0 ≤ x := a1
    have a2 : x < (wd : Int) := a2
    have a3 : 0 ≤ y := a3
    have a4 : y < (hg : Int) := a4
    have ei : y * (wd : Int) + x = (idxR wd (x, y) : Int) := by
      show _ = ((y.toNat * wd + x.toNat : Nat) : Int)
      rw [Int.natCast_add, Int.natCast_mul, Int.toNat_of_nonneg a3, Int.toNat_of_nonneg a1]
    have cm1 : CMul y (wd : Int) := .inl ⟨by omega, by omega⟩
    have cm2 : CMul 3 (y * (wd : Int) + x) := .inl ⟨by decide, by decide⟩
    have pw : CPow cl (3 * (y * (wd : Int) + x)) := by
      rw [ei]
      exact ⟨by omega, by omega, by omega⟩
    have q2 : Q (.int (cl * 2 ^ (3 * (y * (wd : Int) + x)).toNat)) H := by
      have e : cl * 2 ^ (3 * (y * (wd : Int) + x)).toNat = cl * 8 ^ idxR wd (x, y) := by
        rw [ei, show (3 * (idxR wd (x, y) : Int)).toNat = 3 * idxR wd (x, y) by omega, Int.pow_mul]
        rfl
      rw [e]
      exact q
    walk_at "st"
    exact q2
end

/-! ### a step on a ring -/
def spRound (K : PySem.W.Frag) (C : Addr) : Sp := fun vs H Q _ => ∃ (a D : Addr) (T : List (List Ent)) (m : CM) (wk : Wk) (c n : Nat) (wd hg : Nat) (e : Int × Int × Int), vs = [.ref a, .int wd, .int hg] ∧ StrAt K C H a D T m wk ∧ TabOk c n T ∧ InRing c n wd hg (col m, wk) ∧ m.length ≤ 2000 ∧ wd ≤ 3 ∧ hg ≤ 2 ∧ 1 ≤ wd ∧ 1 ≤ hg ∧ entAt T wk.2.2.2 (col m (wPt wk)) = some e ∧
  ∀ (r p : Addr) (m' : CM) H', H r = none → StrAt K C H' a D T m' (wrapW wd hg (behind wk e)) → TrkS C H' a D (wrapW wd hg (behind wk e)) → col m' = dab (col m) (wPt wk) e.1 → m'.length ≤ m.length + 1 → KeepE [a, D] H H' → H' r = some (.tup [.ref p, .int (col m (wPt wk)), .int e.1]) → H' p = some (.tup [.int wk.1, .int wk.2.1]) → Q (.ref r) H'
section
variable {P : Program} {w : World} {K : PySem.W.Frag} {mg : Str → Option Value} {base : Heap}
theorem ok_u_step_round (T : Txt K mg) {C : Addr} (S : ClsS K mg C) (MG : MCal P w K mg base C "go" 3 ["self", "many"] (spGo2 K C)) (D : DefAt K mg "_step_round" s_u_step_round ["stroll", "wide", "high"]) : Cal P w K mg base CX0 "_step_round" 4 ["stroll", "wide", "high"] (spRound K C) := by
  refine D.cal sc_u_step_round (fun vs H Q E h => ?_) (fun f cdv A outer s H vs Q E hr h => ?_)
  · obtain ⟨a, D, Tb, m, wk, c, n, wd, hg, e, rfl, _⟩ := h
    rfl
  · obtain ⟨a, D, Tb, m, wk, c, n, wd, hg, e, rfl, hS, tab, ring, ml, l1, l2, w1, h1, he, q⟩ := h
    refine ⟨_, (pss_cons (ps_asg (pe_ix (k_ix_list (K := K)) (pe_ownM MG S.cl hr (by decide) (pv 0) (pa_cons pe_int pa_nil)) pe_int (fun _ _ => rfl)) (pg_tup (by rfl) (pgs_cons (pg_name (i := 3) sc_u_step_round.nd rfl (Or.inl rfl)) (pgs_cons (pg_name (i := 4) sc_u_step_round.nd rfl (Or.inl rfl)) (pgs_cons (pg_name (i := 5) sc_u_step_round.nd rfl (Or.inl rfl)) pgs_nil)))))
      (pss_cons (ps_asg (k_fld (K := K) (pv 0) (by rfl)) (pg_tup (by rfl) (pgs_cons (pg_name (i := 6) sc_u_step_round.nd rfl (Or.inl rfl)) (pgs_cons (pg_name (i := 7) sc_u_step_round.nd rfl (Or.inl rfl)) (pgs_cons (pg_name (i := 8) sc_u_step_round.nd rfl (Or.inl rfl)) (pgs_cons (pg_name (i := 9) sc_u_step_round.nd rfl (Or.inl rfl)) pgs_nil))))))
      (pss_cons (k_sfld (K := K) (pv 0) (pe_tup (pa_cons (pe_op op_mod (pv 6) (pv 1)) (pa_cons (pe_op op_mod (pv 7) (pv 2)) (pa_cons (pv 8) (pa_cons (pv 9) pa_nil))))) (by rfl))
      (pss_one (ps_ret (pe_tup (pa_cons (pe_slice (k_sl_tup (K := K)) (pv 3) po_none (po_some pe_int)) (pa_cons (pv 4) (pa_cons (pv 5) pa_nil))))))))), ?_⟩
    have cl := S.cl
    have nW := S.nW
    have fit : Fit c n (wd + hg) (col m, wk) := ring.fit (by omega) (by omega)
    have lm : (m.length : Int) + 1 ≤ 3000 := by omega
    obtain ⟨⟨dxs, tv, gv, wv, hxa, htv, hwv, hgv⟩, hD1, nd1, nz1⟩ := id hS
    have noG : (strF tv gv D wv).lookup ("go" : Str) = none := lkNo _ _ _ _ (by decide +kernel)
    walk_at "st"
    intro L vs' i m1 w1' H1 nL hE hS1 hml hL hvl k1 htl trk
    have i1 := hE.le
    have i1 : i ≤ 1 := i1
    rcases Nat.eq_zero_or_pos i with z | z
    · exfalso
      subst z
      have e0 : (col m, wk) = (col m1, w1') := Option.some.inj hE.run
      rcases hE.stop with g | g
      · have g : (0 : Nat) = 1 := g
        cases g
      · rw [← e0, step_some he] at g
        cases g
    obtain rfl : i = 1 := by omega
    have e1 : some (dab (col m) (wPt wk) e.1, behind wk e) = some (col m1, w1') := by
      have := hE.run
      have this : (some (col m, wk)).bind (stepW Tb) = some (col m1, w1') := this
      exact (step_some he).symm.trans this
    have e2 := Option.some.inj e1
    have ec : col m1 = dab (col m) (wPt wk) e.1 := (congrArg Prod.fst e2).symm
    obtain rfl : behind wk e = w1' := congrArg Prod.snd e2
    rw [toldL_some (T := Tb) (z := (col m, wk)) (y := (col m, wk)) (k := 0) rfl he] at htl
    have htl : TpAll K H1 vs' [.tuple [wkD wk, .int (col m (wPt wk)), .int e.1]] := htl
    obtain ⟨v0, rfl, hv0⟩ : ∃ v, vs' = [v] ∧ Tp K H1 v (.tuple [wkD wk, .int (col m (wPt wk)), .int e.1]) := by
      cases htl with
      | cons h t => cases t; exact ⟨_, rfl, h⟩
    have hSL := SqL.of (K := K) hL
    obtain ⟨t, us, rfl, hst, hus⟩ := hv0.tupI
    have hat : atI ([.ref t] : List V) 0 = some (.ref t) := at0
    obtain ⟨v1, us, rfl, hv1, hus⟩ := hus.consI
    obtain ⟨v2, us, rfl, hv2, hus⟩ := hus.consI
    obtain ⟨v3, us, rfl, hv3, hus⟩ := hus.consI
    obtain rfl := hus.nilI
    obtain rfl := hv2.intI
    obtain rfl := hv3.intI
    obtain ⟨ah, rfl, hsa⟩ := hv1.int4
    obtain ⟨⟨dx1, tv1, gv1, wv1, hxa1, htv1, hwv1, hgv1⟩, hD1, nd1, nz1⟩ := id hS1
    obtain ⟨wb, rfl, hsw⟩ := hwv1.int4
    have fW := lkW tv1 gv1 D (.ref wb)
    have dv1 : CDivW (behind wk e).1 (wd : Int) := wide_div (show (0 : Int) < wd by omega) (show (wd : Int).natAbs < 2 ^ 250 by omega) (by decide) (by decide)
    have dv2 : CDivW (behind wk e).2.1 (hg : Int) := wide_div (show (0 : Int) < hg by omega) (show (hg : Int).natAbs < 2 ^ 250 by omega) (by decide) (by decide)
    have lf : ∀ p, (strF tv1 gv1 D p).length < 1000 := fun p => by show 4 < 1000; decide
    walk_at "st"
    intro p np
    have s2 : Same H1 (upd H1 p (.tup (wkV (wrapW wd hg (behind wk e))))) := Same.new np
    have hxa2 := s2 _ _ hxa1
    have hp2 : (upd H1 p (.tup (wkV (wrapW wd hg (behind wk e))))) p = some (.tup (wkV (wrapW wd hg (behind wk e)))) := upd_same
    have hS2 := hS1.same s2
    have k2 : KeepE [a, D] H (upd H1 p (.tup (wkV (wrapW wd hg (behind wk e))))) := k1.trans (KeepE.new np)
    have hsa2 : SqT K _ ah _ := TK.seqT (Same.tk s2) hsa
    have t3 : ∀ fs, TK (upd H1 p (.tup (wkV (wrapW wd hg (behind wk e))))) (upd (upd H1 p (.tup (wkV (wrapW wd hg (behind wk e))))) a (.ins C dx1 fs)) := fun fs => KeepE.tk (E := [a]) (KeepE.put List.mem_cons_self) fun b hb => by
      rw [List.mem_singleton.mp hb]
      exact Soft.ins hxa2
    have hsa3 : SqT K (upd (upd H1 p (.tup (wkV (wrapW wd hg (behind wk e))))) a (.ins C dx1 (putF "walker" (.ref p) (strF tv1 gv1 D (.ref wb))))) ah _ := TK.seqT (t3 _) hsa2
    walk_at "st"
    intro p2 np2
    walk_at "st"
    intro r nr
    have np2 : upd (upd H1 p (.tup (wkV (wrapW wd hg (behind wk e))))) a (.ins C dx1 (putF "walker" (.ref p) (strF tv1 gv1 D (.ref wb)))) p2 = none := np2
    have nr : upd (upd (upd H1 p (.tup (wkV (wrapW wd hg (behind wk e))))) a (.ins C dx1 (putF "walker" (.ref p) (strF tv1 gv1 D (.ref wb))))) p2 (.tup [.int wk.1, .int wk.2.1]) r = none := nr
    show Q (.ref r) (upd (upd (upd (upd H1 p (.tup (wkV (wrapW wd hg (behind wk e))))) a (.ins C dx1 (putF "walker" (.ref p) (strF tv1 gv1 D (.ref wb))))) p2 (.tup [.int wk.1, .int wk.2.1])) r (.tup [.ref p2, .int (col m (wPt wk)), .int e.1]))
    clear hsa3
    rw [strF3] at np2 nr ⊢
    generalize hH2 : upd H1 p (.tup (wkV (wrapW wd hg (behind wk e)))) = H2 at *
    have ne := hS2.ne
    have tk3 := t3 (strF tv1 gv1 D (.ref p))
    have S3 : StrAt K C (upd H2 a (.ins C dx1 (strF tv1 gv1 D (.ref p)))) a D Tb m1 (wrapW wd hg (behind wk e)) := by
      refine ⟨⟨dx1, tv1, gv1, .ref p, upd_same, Tp.mono ((Same.tk s2).trans tk3) _ _ htv1, Tp.of_ints (ks := [_, _, _, _]) (TK.seqT tk3 (SqT.of hp2)), Tp.mono ((Same.tk s2).trans tk3) _ _ hgv1⟩, ?_, nd1, nz1⟩
      rw [upd_ne ne.symm]
      exact hS2.dc
    have T3 : TrkS C (upd H2 a (.ins C dx1 (strF tv1 gv1 D (.ref p)))) a D (wrapW wd hg (behind wk e)) := ⟨dx1, tv1, gv1, .ref p, upd_same, p, rfl, tk3.tup _ _ hp2⟩
    have k3 : KeepE [a, D] H (upd H2 a (.ins C dx1 (strF tv1 gv1 D (.ref p)))) := k2.trans (KeepE.put List.mem_cons_self)
    generalize hH3 : upd H2 a (.ins C dx1 (strF tv1 gv1 D (.ref p))) = H3 at *
    have s4 : Same H3 (upd H3 p2 (.tup [.int wk.1, .int wk.2.1])) := Same.new np2
    have s5 : Same (upd H3 p2 (.tup [.int wk.1, .int wk.2.1])) (upd (upd H3 p2 (.tup [.int wk.1, .int wk.2.1])) r (.tup [.ref p2, .int (col m (wPt wk)), .int e.1])) := Same.new nr
    have k4 : KeepE [a, D] H (upd H3 p2 (.tup [.int wk.1, .int wk.2.1])) := k3.trans (KeepE.new np2)
    have na : r ∉ [a, D] := fun z => by
      rcases List.mem_cons.mp z with z | z
      · obtain ⟨_, _, _, _, g, _⟩ := S3.ob
        rw [z, s4 _ _ g] at nr
        cases nr
      · rw [List.mem_singleton.mp z, s4 _ _ S3.dc] at nr
        cases nr
    exact q r p2 m1 _ (k4.back nr na) ((S3.same s4).same s5) ((T3.same s4).same s5) ec hml (k4.trans (KeepE.new nr)) upd_same (s5 _ _ upd_same)
end

/-! ### Stroll.__init__ that tells its walker -/
def spInitT (K : PySem.W.Frag) (C : Addr) : Sp := fun vs H Q _ => ∃ (a dx : Addr) (tv fv wv gv : V) (T : List (List Ent)) (F : List Sq) (w : Wk), vs = [.ref a, tv, fv, wv, gv] ∧ H a = some (.ins C dx []) ∧ Tp K H gv blankD ∧ Tp K H tv (tabD T) ∧ Tp K H fv (floorD F) ∧ Tp K H wv (wkD w) ∧ Trk H wv w ∧
  (F.Pairwise fun a b => ltP a.pt b.pt) ∧ (∀ s ∈ F, s.2.2 ≠ 0) ∧ F.length ≤ 1000 ∧ ∀ D H', H D = none → StrAt K C H' a D T (cellsOf F) w → TrkS C H' a D w → KeepE [a] H H' → Q .non H'
def spInitT3 (K : PySem.W.Frag) (C : Addr) : Sp := fun vs H Q _ => ∃ (a dx : Addr) (tv fv wv : V) (T : List (List Ent)) (F : List Sq) (w : Wk), vs = [.ref a, tv, fv, wv] ∧ H a = some (.ins C dx []) ∧ Tp K H tv (tabD T) ∧ Tp K H fv (floorD F) ∧ Tp K H wv (wkD w) ∧ Trk H wv w ∧
  (F.Pairwise fun a b => ltP a.pt b.pt) ∧ (∀ s ∈ F, s.2.2 ≠ 0) ∧ F.length ≤ 1000 ∧ ∀ D H', H D = none → StrAt K C H' a D T (cellsOf F) w → TrkS C H' a D w → KeepE [a] H H' → Q .non H'
section
variable {P : Program} {w : World} {K : PySem.W.Frag} {mg : Str → Option Value} {base : Heap}
theorem ok_Stroll_initT {C BA : Addr} (S : ClsS K mg C) (hB : ∀ H, Tp K H (.ref BA) blankD) (M : MetAtD K C "__init__" "Stroll.__init__" s_Stroll_init ["self", "table", "floor", "walker", "ground"] [.ref BA]) (C_painted_places : Cal P w K mg base CX0 "painted_places" 1 ["floor"] (spPlaces K)) : MCalD P w K mg base C "__init__" 2 ["self", "table", "floor", "walker", "ground"] (spInitT3 K C) := by
  obtain ⟨f, fd, ds, me, F, v, b⟩ := M.meth
  refine ⟨f, fd, spInitT K C, _, ds, me, F.ok sc_Stroll_init (fun vs H Q E h => ?_) (fun cdv A outer s H vs Q E hr h => ?_), v, b, fun vs H Q E h => ?_⟩
  · obtain ⟨a, dx, tv, fv, wv, gv, T, F, wk, rfl, _⟩ := h
    rfl
  · obtain ⟨a, dx, tv, fv, wv, gv, T, Fl, wk, rfl, ha, hgr, ht, hf, hw, hk, asc, nz, hl, q⟩ := h
    refine ⟨_, (pss_cons (k_sfld (K := K) (pv 0) (pv 1) (by rfl))
      (pss_cons (k_sfld (K := K) (pv 0) (pv 4) (by rfl))
      (pss_cons (k_sfld (K := K) (pv 0) (pe_own C_painted_places hr (by first | decide | omega) (pa_cons (pv 2) pa_nil)) (by rfl))
      (pss_one (k_sfld (K := K) (pv 0) (pv 3) (by rfl)))))), ?_⟩
    have cl := S.cl
    have nT := S.nT
    have nG := S.nG
    have nP := S.nP
    have nW := S.nW
    have l0 : ([] : List (Str × V)).length < 1000 := by decide
    have k1 : KeepE [a] H (upd (upd H a (.ins C dx (putF "table" tv []))) a (.ins C dx (putF "ground" gv (putF "table" tv [])))) := (KeepE.put List.mem_cons_self).trans (KeepE.put List.mem_cons_self)
    have t1 : TK H (upd (upd H a (.ins C dx (putF "table" tv []))) a (.ins C dx (putF "ground" gv (putF "table" tv [])))) := KeepE.tk (E := [a]) k1 fun b hb => by
      rw [List.mem_singleton.mp hb]
      exact Soft.ins ha
    have ha1 : (upd (upd H a (.ins C dx (putF "table" tv []))) a (.ins C dx (putF "ground" gv (putF "table" tv [])))) a = some (.ins C dx [("table", tv), ("ground", gv)]) := by
      rw [upd_same]
      show some (HO.ins C dx (putF "ground" gv [("table", tv)])) = _
      rw [strF0]
    have hf1 := Tp.mono t1 _ _ hf
    have l1 : (putF "table" tv ([] : List (Str × V))).length < 1000 := by show 1 < 1000; decide
    walk_at "st"
    generalize hH1 : upd (upd H a (.ins C dx (putF "table" tv []))) a (.ins C dx (putF "ground" gv (putF "table" tv []))) = H1 at *
    intro D H2 nD hD s1
    have ha2 : H2 a = some (.ins C dx [("table", tv), ("ground", gv)]) := s1 _ _ ha1
    have neD : D ≠ a := fun z => by
      rw [z, ha1] at nD
      cases nD
    have nD0 : H D = none := by
      cases e : H D with
      | none => rfl
      | some o =>
        rw [k1 D o (fun z => neD (List.mem_singleton.mp z)) e] at nD
        cases nD
    have l2 : ([("table", tv), ("ground", gv)] : List (Str × V)).length < 1000 := by show 2 < 1000; decide
    walk_at "st"
    have ha3 : (upd H2 a (.ins C dx (putF "painted" (.ref D) [("table", tv), ("ground", gv)]))) a = some (.ins C dx [("table", tv), ("ground", gv), ("painted", .ref D)]) := by rw [upd_same, strF1]
    have l3 : ([("table", tv), ("ground", gv), ("painted", .ref D)] : List (Str × V)).length < 1000 := by show 3 < 1000; decide
    walk_at "st"
    have k2 : KeepE [a] H2 (upd (upd H2 a (.ins C dx (putF "painted" (.ref D) [("table", tv), ("ground", gv)]))) a (.ins C dx (putF "walker" wv [("table", tv), ("ground", gv), ("painted", .ref D)]))) := (KeepE.put List.mem_cons_self).trans (KeepE.put List.mem_cons_self)
    have t2 : TK H (upd (upd H2 a (.ins C dx (putF "painted" (.ref D) [("table", tv), ("ground", gv)]))) a (.ins C dx (putF "walker" wv [("table", tv), ("ground", gv), ("painted", .ref D)]))) := by
      refine (t1.trans (Same.tk s1)).trans (k2.tk fun b hb => ?_)
      rw [List.mem_singleton.mp hb]
      exact Soft.ins ha2
    refine q D _ nD0 ⟨⟨dx, tv, gv, wv, by rw [upd_same, strF1, strF2], Tp.mono t2 _ _ ht, Tp.mono t2 _ _ hw, Tp.mono t2 _ _ hgr⟩, by rw [upd_ne neD, upd_ne neD]; exact hD, asc_nd asc, fun e he => ?_⟩ ⟨dx, tv, gv, wv, by rw [upd_same, strF1, strF2], hk.mono t2⟩ ?_
    · obtain ⟨s', hs', rfl⟩ := List.mem_map.mp he
      exact nz s' hs'
    · exact (k1.trans (Same.keepE s1)).trans k2
  · obtain ⟨a, dx, tv, fv, wv, T, Fl, wk, rfl, ha, rest⟩ := h
    exact ⟨a, dx, tv, fv, wv, .ref BA, T, Fl, wk, rfl, ha, hB H, rest⟩
end

/-! ### what a ring takes -/
def spCheckR (K : PySem.W.Frag) : Sp := fun vs H Q _ => ∃ (tv fv wv : V) (wd hg : Nat) (c n : Nat) (T : List (List Ent)) (F : List Sq) (w : Wk), vs = [tv, fv, wv, .int wd, .int hg] ∧ Tp K H tv (tabD T) ∧ Tp K H fv (floorD F) ∧ Tp K H wv (wkD w) ∧ StandOk c n FarI T F w ∧ F.length ≤ 1000 ∧ wd ≤ 3 ∧ hg ≤ 2 ∧ 1 ≤ wd ∧ 1 ≤ hg ∧ (∀ s ∈ F, onRing wd hg s.pt) ∧ onRing wd hg (wPt w) ∧ ∀ H', Same H H' → Q .non H'
section
variable {P : Program} {w : World} {K : PySem.W.Frag} {mg : Str → Option Value} {base : Heap}
theorem ok_u_check_ring (T : Txt K mg) (D : DefAt K mg "_check_ring" s_u_check_ring ["table", "floor", "walker", "wide", "high"]) (C_check_stand : Cal P w K mg base CX0 "check_stand" 5 ["table", "floor", "walker"] (spStand K)) (C_check_number : Cal P w K mg base CX0 "check_number" 2 ["value", "least", "greatest"] spNumberOk) (C_lies_on : Cal P w K mg base CX0 "_lies_on" 1 ["x", "y", "wide", "high"] spLies) : Cal P w K mg base CX0 "_check_ring" 6 ["table", "floor", "walker", "wide", "high"] (spCheckR K) := by
  refine D.cal sc_u_check_ring (fun vs H Q E h => ?_) (fun f cdv A outer s H vs Q E hr h => ?_)
  · obtain ⟨tv, fv, wv, wd, hg, c, n, Tb, F, wk, rfl, _⟩ := h
    rfl
  · obtain ⟨tv, fv, wv, wd, hg, c, n, Tb, F, wk, rfl, ht, hf, hw, hs, hl, l1, l2, w1, h1, onF, onW, q⟩ := h
    refine ⟨_, (pss_cons (ps_expr (pe_own C_check_stand hr (by first | decide | omega) (pa_cons (pv 0) (pa_cons (pv 1) (pa_cons (pv 2) pa_nil)))))
      (pss_cons (ps_expr (pe_own C_check_number hr (by first | decide | omega) (pa_cons (pv 3) (pa_cons pe_int (pa_cons (pe_gint (by rfl) T.longest_side) pa_nil)))))
      (pss_cons (ps_expr (pe_own C_check_number hr (by first | decide | omega) (pa_cons (pv 4) (pa_cons pe_int (pa_cons (pe_gint (by rfl) T.longest_side) pa_nil)))))
      (pss_cons (ps_for PassesOwn.never rfl (k_enT (K := K) (by rfl) T.m_enumerate (pa_cons (pv 1) pa_nil)) (pg_tup (by rfl) (pgs_cons (pg_name (i := 5) sc_u_check_ring.nd rfl (Or.inl rfl)) (pgs_cons (pg_tup (by rfl) (pgs_cons (pg_name (i := 6) sc_u_check_ring.nd rfl (Or.inl rfl)) (pgs_cons (pg_name (i := 7) sc_u_check_ring.nd rfl (Or.inl rfl)) (pgs_cons (pg_name (i := 8) sc_u_check_ring.nd rfl (Or.inl rfl)) pgs_nil)))) pgs_nil)))
      (pss_one (ps_if (pt_not (pt_val (pe_own C_lies_on hr (by first | decide | omega) (pa_cons (pv 6) (pa_cons (pv 7) (pa_cons (pv 3) (pa_cons (pv 4) pa_nil))))))) (pss_one ps_never) pss_nil)))
      (pss_one (ps_if (pt_not (pt_val (pe_own C_lies_on hr (by first | decide | omega) (pa_cons (pe_ix (k_ix_tup (K := K)) (pv 2) pe_int (fun _ _ => rfl)) (pa_cons (pe_ix (k_ix_tup (K := K)) (pv 2) pe_int (fun _ _ => rfl)) (pa_cons (pv 3) (pa_cons (pv 4) pa_nil))))))) (pss_one ps_never) pss_nil)))))), ?_⟩
    walk_at "st"
    intro H1 s1
    have wd40 : (wd : Int) ≤ 40 := by omega
    have hg40 : (hg : Int) ≤ 40 := by omega
    have wd1 : (1 : Int) ≤ wd := by omega
    have hg1 : (1 : Int) ≤ hg := by omega
    obtain ⟨a, vs, rfl, hsf, hvs⟩ := (Tp.mono (Same.tk s1) _ _ hf).tupI
    have hlen : vs.length = F.length := by rw [TpAll.length hvs, List.length_map]
    obtain ⟨b, rfl, hsw⟩ := (Tp.mono (Same.tk s1) _ _ hw).int4
    walk_at "st"
    refine for_it (walkEn (K := K) (a := a) (xs := vs)) (fun i σ H' => Ok (∃ y5 y6 y7 y8 : Option V, σ = [some tv, some (.ref a), some (.ref b), some (.int wd), some (.int hg), y5, y6, y7, y8] ∧ Same H1 H'))
      ⟨_, _, _, _, rfl, Same.refl _⟩ (fun i σ H' _ ⟨y5, y6, y7, y8, _, sm⟩ => TK.seqT (Same.tk sm) hsf) ?_ ?_
    · rintro i x σ H2 H3 hi ⟨y5, y6, y7, y8, rfl, sm⟩ ⟨t, z, y, rfl, nt, rfl, e1, e2⟩
      cases e1
      have hiF : i < F.length := by omega
      have eF := List.getElem?_eq_getElem hiF
      obtain ⟨u, eu, hu⟩ := hvs.get (i := i) (d := sqD F[i]) (by rw [List.getElem?_map, eF]; rfl)
      rw [show vs[i]? = some y from e2] at eu
      cases eu
      have hon := onF _ (List.getElem_mem hiF)
      generalize F[i] = sq at *
      have s3 : Same H2 (upd H2 t (.tup [.int (i : Nat), y])) := Same.new nt
      have sm2 := Same.trans sm s3
      obtain ⟨c1, rfl, hc1⟩ := (Tp.mono (Same.tk sm2) _ _ hu).int3
      have hon : onRing wd hg (sq.1, sq.2.1) := hon
      walk_at "st"
      exact ⟨_, _, _, _, rfl, sm2⟩
    · rintro σ H2 ⟨y5, y6, y7, y8, rfl, sm⟩
      have hsw2 : SqT K H2 b _ := TK.seqT (Same.tk sm) hsw
      have onW : onRing wd hg (wk.1, wk.2.1) := onW
      walk_at "st"
      exact q _ (Same.trans s1 sm)
end

/-! ### ring_walk -/
def spRWalk (K : PySem.W.Frag) : Sp := fun vs H Q _ => ∃ (tv fv wv : V) (wd hg : Nat) (many : Int) (c n : Nat) (T : List (List Ent)) (F : List Sq) (w : Wk), vs = [tv, fv, wv, .int wd, .int hg, .int many] ∧ Tp K H tv (tabD T) ∧ Tp K H fv (floorD F) ∧ Tp K H wv (wkD w) ∧ Trk H wv w ∧ StandOk c n FarI T F w ∧ F.length ≤ 1000 ∧ wd ≤ 3 ∧ hg ≤ 2 ∧ 1 ≤ wd ∧ 1 ≤ hg ∧ (∀ s ∈ F, onRing wd hg s.pt) ∧ onRing wd hg (wPt w) ∧ 0 ≤ many ∧ many ≤ 1000 ∧
  ∀ v H' (i : Nat) F' z, runR T wd hg i (colF F, w) = some z → (i : Int) ≤ many → ((i : Int) = many ∨ stepR T wd hg z = none) → FloorOf z.1 F' → Tp K H' v (walkD F' z.2 i) → Same H H' → Q v H'
section
variable {P : Program} {w : World} {K : PySem.W.Frag} {mg : Str → Option Value} {base : Heap}
theorem ok_ring_walk (T : Txt K mg) {C : Addr} (S : ClsS K mg C) (mkS : PySem.W.makesIn K C = true) (kpS : PySem.W.keepIn K (.ref C) = true) (MI : MCalD P w K mg base C "__init__" 2 ["self", "table", "floor", "walker", "ground"] (spInitT3 K C)) (MH : MCal P w K mg base C "has_stopped" 3 ["self"] (spStopped K C))
    (D : DefAt K mg "ring_walk" s_ring_walk ["table", "floor", "walker", "wide", "high", "many"]) (C_check_ring : Cal P w K mg base CX0 "_check_ring" 6 ["table", "floor", "walker", "wide", "high"] (spCheckR K)) (C_check_number : Cal P w K mg base CX0 "check_number" 2 ["value", "least", "greatest"] spNumberOk) (C_step_round : Cal P w K mg base CX0 "_step_round" 4 ["stroll", "wide", "high"] (spRound K C)) (C_floor_of : Cal P w K mg base CX0 "floor_of" 1 ["painted"] (spFloorOf K)) : Cal P w K mg base CX0 "ring_walk" 7 ["table", "floor", "walker", "wide", "high", "many"] (spRWalk K) := by
  refine D.cal sc_ring_walk (fun vs H Q E h => ?_) (fun f cdv A outer s H vs Q E hr h => ?_)
  · obtain ⟨tv, fv, wv, wd, hg, many, c, n, T, F, wk, rfl, _⟩ := h
    rfl
  · obtain ⟨tv, fv, wv, wd, hg, many, c, n, Tb, Fl, wk, rfl, ht, hf, hw, hk, hs, hl, l1, l2, w1, h1, onF, onW, h0, h1000, q⟩ := h
    refine ⟨_, (pss_cons (ps_expr (pe_own C_check_ring hr (by first | decide | omega) (pa_cons (pv 0) (pa_cons (pv 1) (pa_cons (pv 2) (pa_cons (pv 3) (pa_cons (pv 4) pa_nil)))))))
      (pss_cons (ps_expr (pe_own C_check_number hr (by first | decide | omega) (pa_cons (pv 5) (pa_cons pe_int (pa_cons (pe_gint (by rfl) T.most_steps) pa_nil)))))
      (pss_cons (ps_set (i := 6) sc_ring_walk.nd rfl (Or.inl rfl) (pe_ownMkD MI mkS kpS hr (by decide) S.mgC (pa_cons (pv 0) (pa_cons (pv 1) (pa_cons (pv 2) pa_nil)))))
      (pss_cons (ps_set (i := 7) sc_ring_walk.nd rfl (Or.inl rfl) pe_int)
      (pss_cons (ps_while PassesOwn.never (PW.pt (pw_and (pt_cmpR op_lt (pv 7) (pv 5) (nomark _)) (pw_and1 (pt_not (pt_val (pe_ownM0 MH S.cl hr (by decide) (pv 6))))))) (pss_cons (ps_expr (pe_own C_step_round hr (by first | decide | omega) (pa_cons (pv 6) (pa_cons (pv 3) (pa_cons (pv 4) pa_nil)))))
      (pss_one (ps_aug (i := 7) sc_ring_walk.nd rfl (Or.inl rfl) pe_int ip_add))))
      (pss_one (ps_ret (pe_tup (pa_cons (pe_own C_floor_of hr (by first | decide | omega) (pa_cons (k_fld (K := K) (pv 6) (by rfl)) pa_nil)) (pa_cons (k_fld (K := K) (pv 6) (by rfl)) (pa_cons (pv 7) pa_nil))))))))))), ?_⟩
    have cl := S.cl
    have nP := S.nP
    have nW := S.nW
    walk_at "st"
    intro H1 s1
    have hm5 : many ≤ 100000 := by omega
    walk_at "st"
    intro x dx nx ndx nex
    have s2 : Same H1 (upd (upd H1 dx (.own x)) x (.ins C dx [])) := fun b o e => by
      rw [upd_ne (ne_of_none e nx), upd_ne (ne_of_none e ndx)]
      exact e
    have hx : (upd (upd H1 dx (.own x)) x (.ins C dx [])) x = some (.ins C dx []) := upd_same
    generalize hH2 : upd (upd H1 dx (.own x)) x (.ins C dx []) = H2 at s2 hx
    have s12 := Same.trans s1 s2
    have asc := hs.fl.asc
    have nz : ∀ s ∈ Fl, s.2.2 ≠ 0 := fun s h => by
      have := (hs.fl.sq s h).2
      omega
    refine ⟨x, dx, tv, fv, wv, Tb, Fl, wk, rfl, hx, Tp.mono (Same.tk s12) _ _ ht, Tp.mono (Same.tk s12) _ _ hf, Tp.mono (Same.tk s12) _ _ hw, hk.mono (Same.tk s12), asc, nz, hl, fun D H3 nD hS hT k3 => ⟨rfl, ?_⟩⟩
    have nx0 : H x = none := Same.back s1 nx
    have s3 : Same H H3 := (KeepE.trans (Same.keepE s12) k3).same fun b hb => by
      rw [List.mem_singleton.mp hb]
      exact nx0
    have nD0 : H D = none := Same.back s12 nD
    have r0 : InRing c n wd hg (colF Fl, wk) := InRing.start hs onF onW
    have tab := hs.tab
    have h6 : wd * hg ≤ 3 * 2 := Nat.mul_le_mul l1 l2
    rw [show L2.start ["table", "floor", "walker", "wide", "high", "many", "stroll", "done"] [tv, fv, wv, .int wd, .int hg, .int many] = [some tv, some fv, some wv, some (.int wd), some (.int hg), some (.int many), none, none] from rfl]
    walk_at "st"
    refine while_by (fun σ H' => ∃ (i : Nat) (m : CM) (w' : Wk), σ = [some tv, some fv, some wv, some (.int wd), some (.int hg), some (.int many), some (.ref x), some (.int i)] ∧ StrAt K C H' x D Tb m w' ∧ runR Tb wd hg i (colF Fl, wk) = some (col m, w') ∧ (i : Int) ≤ many ∧ Same H H')
      (fun σ _ => match σ with | [_, _, _, _, _, some (.int mn), _, some (.int d)] => (mn - d).toNat | _ => 0) ?_ ?_ ?_
    · exact ⟨0, cellsOf Fl, wk, rfl, hS, rfl, h0, s3⟩
    · rintro σ H4 ⟨i, m, w', rfl, hS4, run, li, s4⟩
      have r4 := r0.run tab w1 h1 run
      have fit : Fit c n (wd + hg) (col m, w') := r4.fit (by omega) (by omega)
      have m6 : m.length ≤ wd * hg := ring_small hS4.nd hS4.nz r4.near
      obtain ⟨⟨dx4, tv4, gv4, wv4, hx4, ht4, hw4, hgr4⟩, hD4, nd4, nz4⟩ := id hS4
      have noS : (strF tv4 gv4 D wv4).lookup ("has_stopped" : Str) = none := lkNo _ _ _ _ (by decide +kernel)
      have fW := lkW tv4 gv4 D wv4
      have ans : ∀ (H5 H6 : Hp) (v : V) (F' : List Sq) (p : Addr), Same H4 H5 → FloorOf (col m) F' → Tp K H6 v (floorD F') → Same H5 H6 → H6 p = none → ((i : Int) = many ∨ stepR Tb wd hg (col m, w') = none) → Q (.ref p) (upd H6 p (.tup [v, wv4, .int i])) := fun H5 H6 v F' p s5 fo hv s6 np stop => by
        have s7 : Same H6 (upd H6 p (.tup [v, wv4, .int i])) := Same.new np
        exact q _ _ i F' (col m, w') run li stop fo (.tup (SqT.of upd_same) (.cons (Tp.mono (Same.tk s7) _ _ hv) (.cons (Tp.mono (Same.tk (Same.trans s5 (Same.trans s6 s7))) _ _ hw4) (.cons (.int _) .nil)))) (Same.trans s4 (Same.trans s5 (Same.trans s6 s7)))
      walk_at "st"
      refine ite2 (fun e => ?_) (fun e => ?_)
      · have e : (i : Int) < many := of_decide_eq_true e
        walk_at "st"
        intro b H5 hb s5
        cases b with
        | true =>
          have stop : (i : Int) = many ∨ stepR Tb wd hg (col m, w') = none := .inr (stepR_no.mp (hb.mp rfl))
          have hx5 := s5 _ _ hx4
          walk_at "st"
          intro v H6 F' fo lF hv s6
          have hx6 := s6 _ _ hx5
          walk_at "st"
          intro p np
          exact ans H5 H6 v F' p s5 fo hv s6 np stop
        | false =>
          have hW : stepW Tb (col m, w') ≠ none := fun z => by cases hb.mpr z
          obtain ⟨en, hen⟩ := ent_of hW
          have hS5 := hS4.same s5
          walk_at "st"
          intro r p m2 H6 nr hS6 tr6 ec ml6 k6 hr6 hp6
          have s6 : Same H H6 := fun b o z => by
            have e5 := s5 _ _ (s4 _ _ z)
            refine k6 _ _ (fun y => ?_) e5
            rcases List.mem_cons.mp y with y | y
            · rw [y, nx0] at z
              cases z
            · rw [List.mem_singleton.mp y, nD0] at z
              cases z
          have run2 : runR Tb wd hg (i + 1) (colF Fl, wk) = some (col m2, wrapW wd hg (behind w' en)) := by
            rw [ec]
            exact runR_next run (stepR_ent hen)
          walk_at "st"
          refine ⟨⟨i + 1, m2, _, rfl, hS6, run2, by omega, s6⟩, ?_⟩
          show (many - ((i : Int) + 1)).toNat < (many - (i : Int)).toNat
          omega
      · have e : ¬ (i : Int) < many := by simpa using e
        have stop : (i : Int) = many ∨ stepR Tb wd hg (col m, w') = none := .inl (by omega)
        walk_at "st"
        intro v H6 F' fo lF hv s6
        have hx6 := s6 _ _ hx4
        walk_at "st"
        intro p np
        exact ans H4 H6 v F' p (Same.refl _) fo hv s6 np stop
    · intro σ H Q Q' hq h
      obtain ⟨x7, e1, x5, e2, a1, a2, e3, e4, k, e5, h⟩ := h
      refine ⟨x7, e1, x5, e2, a1, a2, e3, e4, k, e5, ?_⟩
      cases k with
      | false => exact hq _ _ h
      | true =>
        rw [if_pos rfl] at h
        obtain ⟨x6, e6, b1, b2, b3, e7, e8, e9, a3, D3, T3, m3, w3, c3, n3, B3, g1, g2, g3, g4, h⟩ := h
        rw [if_pos rfl]
        refine ⟨x6, e6, b1, b2, b3, e7, e8, e9, a3, D3, T3, m3, w3, c3, n3, B3, g1, g2, g3, g4, fun b H' hb hs' => ?_⟩
        obtain ⟨c4, e10, h⟩ := h b H' hb hs'
        exact ⟨c4, e10, hq _ _ h⟩
end

section
variable {P : Program} {w : World} {K : PySem.W.Frag} {mg : Str → Option Value} {base : Heap}
theorem exi_TooMany {C : Addr} (M : MetAt K C "__init__" "TooMany.__init__" s_TooMany_init ["self", "most"]) (T : OexC K C) (no : PySem.W.findIn K (.ref C) "most" = some none) : ExcInit1 P w K mg base C "most" := by
  obtain ⟨f, fd, iC, tI, F, b⟩ := M.ex
  refine ⟨no, f, fd, _, iC, tI, F.ok sc_TooMany_init (fun vs H Q E h => ?_) (fun cdv A outer s H vs Q E hr h => ?_), b⟩
  · obtain ⟨a, y, rfl, _⟩ := h
    rfl
  · obtain ⟨a, y, rfl, ha, q⟩ := h
    refine ⟨_, (pss_one (ps_ost (pv 0) (pv 1))), ?_⟩
    walk_at "st"
    exact Or.inl ⟨ha, fun dx nd ne => q dx nd ne⟩
end

/-! ### ring_life -/
def spRLife (K : PySem.W.Frag) (CT : Addr) : Sp := fun vs H Q E => ∃ (tv fv wv : V) (wd hg : Nat) (c n : Nat) (T : List (List Ent)) (F : List Sq) (w : Wk), vs = [tv, fv, wv, .int wd, .int hg] ∧ Tp K H tv (tabD T) ∧ Tp K H fv (floorD F) ∧ Tp K H wv (wkD w) ∧ Trk H wv w ∧ StandOk c n FarI T F w ∧ F.length ≤ 1000 ∧ c ≤ 8 ∧ wd ≤ 3 ∧ hg ≤ 2 ∧ 1 ≤ wd ∧ 1 ≤ hg ∧ (∀ s ∈ F, onRing wd hg s.pt) ∧ onRing wd hg (wPt w) ∧
  (∀ (i : Nat) z, i ≤ 20000 → runR T wd hg i (colF F, w) = some z → stepR T wd hg z = none → ∀ v H', Tp K H' v (.tuple [.int i, .int 0]) → Same H H' → Q v H') ∧
  (∀ (i j : Nat) z, i < j → j ≤ 20000 → runR T wd hg i (colF F, w) = some z → runR T wd hg j (colF F, w) = some z → (∀ a b, a < b → b < j → runR T wd hg a (colF F, w) ≠ runR T wd hg b (colF F, w)) → ∀ v H', Tp K H' v (.tuple [.int i, .int ((j : Int) - i)]) → Same H H' → Q v H') ∧
  ((∀ a b, a < b → b ≤ 20000 → runR T wd hg a (colF F, w) ≠ runR T wd hg b (colF F, w)) → runR T wd hg 20001 (colF F, w) ≠ none → ∀ d H', H' d = some (.xd [("most", .int 20000)]) → Same H H' → E (.ref CT) (some d) H')
section
variable {P : Program} {w : World} {K : PySem.W.Frag} {mg : Str → Option Value} {base : Heap}
theorem ok_ring_life (T : Txt K mg) {C CT : Addr} (S : ClsS K mg C) (TI : ExcCls K mg "TooMany" CT) (FI : ExcInit1 P w K mg base CT "most") (mkS : PySem.W.makesIn K C = true) (kpS : PySem.W.keepIn K (.ref C) = true) (MI : MCalD P w K mg base C "__init__" 2 ["self", "table", "floor", "walker", "ground"] (spInitT3 K C)) (MH : MCal P w K mg base C "has_stopped" 3 ["self"] (spStopped K C))
    (D : DefAt K mg "ring_life" s_ring_life ["table", "floor", "walker", "wide", "high"]) (C_check_ring : Cal P w K mg base CX0 "_check_ring" 6 ["table", "floor", "walker", "wide", "high"] (spCheckR K)) (C_step_round : Cal P w K mg base CX0 "_step_round" 4 ["stroll", "wide", "high"] (spRound K C)) (C_coded : Cal P w K mg base CX0 "_coded" 1 ["place", "colour", "wide"] (spCoded K)) : Cal P w K mg base (L2.CX P w) "ring_life" 7 ["table", "floor", "walker", "wide", "high"] (spRLife K CT) := by
  refine D.calX sc_ring_life (fun vs H Q E h => ?_) (fun f cdv A outer s H vs Q E hr h => ?_)
  · obtain ⟨tv, fv, wv, wd, hg, c, n, T, F, wk, rfl, _⟩ := h
    rfl
  · obtain ⟨tv, fv, wv, wd, hg, c, n, Tb, Fl, wk, rfl, ht, hf, hw, hk, hs, hl, c8, l1, l2, w1, h1, onF, onW, q1, q2, q3⟩ := h
    refine ⟨_, (pss_cons (ps_expr (pe_own C_check_ring hr (by first | decide | omega) (pa_cons (pv 0) (pa_cons (pv 1) (pa_cons (pv 2) (pa_cons (pv 3) (pa_cons (pv 4) pa_nil)))))))
      (pss_cons (ps_set (i := 5) sc_ring_life.nd rfl (Or.inl rfl) (pe_ownMkD MI mkS kpS hr (by decide) S.mgC (pa_cons (pv 0) (pa_cons (pv 1) (pa_cons (pv 2) pa_nil)))))
      (pss_cons (ps_set (i := 6) sc_ring_life.nd rfl (Or.inl rfl) (pe_callB (k_sum (K := K) rfl) (by rfl) T.m_sum (by decide +kernel) (pa_cons (pe_lc (own := [("x", 13), ("y", 14), ("colour", 11)]) (g := gTup K 3 (gCons (gName 13) (gCons (gName 14) (gCons (gName 11) gNil)))) rfl sc_ring_life.nd (k_pi_tup (K := K) (pv 1)) (blkOk_by (by rfl)) (fun _ _ _ _ _ => (k_pgT (K := K) 3 (by rfl) (pgs_cons (pg_name (i := 13) sc_ring_life.nd rfl (Or.inl rfl)) (pgs_cons (pg_name (i := 14) sc_ring_life.nd rfl (Or.inl rfl)) (pgs_cons (pg_name (i := 11) sc_ring_life.nd rfl (Or.inl rfl)) pgs_nil))))) (fun _ _ _ _ _ => pts_nil) (fun _ _ _ _ _ => (pe_own C_coded hr (by first | decide | omega) (pa_cons (pe_tup (pa_cons (pv 13) (pa_cons (pv 14) pa_nil))) (pa_cons (pv 11) (pa_cons (pv 3) pa_nil)))))) pa_nil)))
      (pss_cons (ps_set (i := 7) sc_ring_life.nd rfl (Or.inl rfl) (k_dnewN (P := P) (w := w)))
      (pss_cons (ps_for (passes_of rfl) rfl (pi_range1 (by rfl) T.m_range (pa_cons (pe_op op_add (pe_gint (by rfl) T.most_lived) pe_int) pa_nil)) (pg_name (i := 8) sc_ring_life.nd rfl (Or.inl rfl))
      (pss_cons (ps_if (pt_val (pe_ownM0 MH S.cl hr (by decide) (pv 5))) (pss_one (ps_ret (pe_tup (pa_cons (pv 8) (pa_cons pe_int pa_nil))))) pss_nil)
      (pss_cons (ps_set (i := 9) sc_ring_life.nd rfl (Or.inl rfl) (pe_tup (pa_cons (pv 6) (pa_cons (k_fld (K := K) (pv 5) (by rfl)) pa_nil))))
      (pss_cons (ps_if (pt_cmpR (k_inN (K := K) (P := P) (w := w) hr.units) (pv 9) (pv 7) (by rfl)) (pss_one (ps_ret (pe_tup (pa_cons (k_dgetN (K := K) (P := P) (w := w) hr.units (pv 7) (pv 9) (by exact fun _ _ => rfl)) (pa_cons (pe_op op_sub (pv 8) (k_dgetN (K := K) (P := P) (w := w) hr.units (pv 7) (pv 9) (by exact fun _ _ => rfl))) pa_nil))))) pss_nil)
      (pss_cons (k_dputN (K := K) (P := P) (w := w) hr.units (pv 7) (pv 9) (pv 8) (by rfl))
      (pss_cons (ps_asg (pe_own C_step_round hr (by first | decide | omega) (pa_cons (pv 5) (pa_cons (pv 3) (pa_cons (pv 4) pa_nil)))) (pg_tup (by rfl) (pgs_cons (pg_name (i := 10) sc_ring_life.nd rfl (Or.inl rfl)) (pgs_cons (pg_name (i := 11) sc_ring_life.nd rfl (Or.inl rfl)) (pgs_cons (pg_name (i := 12) sc_ring_life.nd rfl (Or.inl rfl)) pgs_nil)))))
      (pss_one (ps_aug (i := 6) sc_ring_life.nd rfl (Or.inl rfl) (pe_op op_sub (pe_own C_coded hr (by first | decide | omega) (pa_cons (pv 10) (pa_cons (pv 12) (pa_cons (pv 3) pa_nil)))) (pe_own C_coded hr (by first | decide | omega) (pa_cons (pv 10) (pa_cons (pv 11) (pa_cons (pv 3) pa_nil))))) ip_add))))))))
      (pss_one (ps_raise1 rfl (takes_of rfl rfl rfl rfl) TI FI hr (by decide) (by exact (pa_cons (pe_gint (by rfl) T.most_lived) pa_nil))))))))), ?_⟩
    have cl := S.cl
    have nP := S.nP
    have nW := S.nW
    walk_at "st"
    intro H1 s1
    walk_at "st"
    intro x dx nx ndx nex
    have s2 : Same H1 (upd (upd H1 dx (.own x)) x (.ins C dx [])) := fun b o e => by
      rw [upd_ne (ne_of_none e nx), upd_ne (ne_of_none e ndx)]
      exact e
    have hx : (upd (upd H1 dx (.own x)) x (.ins C dx [])) x = some (.ins C dx []) := upd_same
    generalize hH2 : upd (upd H1 dx (.own x)) x (.ins C dx []) = H2 at s2 hx
    have s12 := Same.trans s1 s2
    have asc := hs.fl.asc
    have nz : ∀ s ∈ Fl, s.2.2 ≠ 0 := fun s h => by
      have := (hs.fl.sq s h).2
      omega
    refine ⟨x, dx, tv, fv, wv, Tb, Fl, wk, rfl, hx, Tp.mono (Same.tk s12) _ _ ht, Tp.mono (Same.tk s12) _ _ hf, Tp.mono (Same.tk s12) _ _ hw, hk.mono (Same.tk s12), asc, nz, hl, fun D H3 nD hS hT k3 => ⟨rfl, ?_⟩⟩
    have nx0 : H x = none := Same.back s1 nx
    have s3 : Same H H3 := (KeepE.trans (Same.keepE s12) k3).same fun b hb => by
      rw [List.mem_singleton.mp hb]
      exact nx0
    have nD0 : H D = none := Same.back s12 nD
    have r0 : InRing c n wd hg (colF Fl, wk) := InRing.start hs onF onW
    have tab := hs.tab
    have h6 : wd * hg ≤ 3 * 2 := Nat.mul_le_mul l1 l2
    obtain ⟨fa, vs, rfl, hsf, hvs⟩ := (Tp.mono (Same.tk s3) _ _ hf).tupI
    have hlen : vs.length = Fl.length := by rw [TpAll.length hvs, List.length_map]
    rw [show L2.start ["table", "floor", "walker", "wide", "high", "stroll", "code", "seen", "done", "stand", "place", "colour", "paint", "x", "y"] [tv, .ref fa, wv, .int wd, .int hg] = [some tv, some (.ref fa), some wv, some (.int wd), some (.int hg), none, none, none, none, none, none, none, none, none, none] from rfl]
    walk_at "st"
    intro L nL
    refine lc_it (walk_tup (K := K) (a := fa) (xs := vs)) (fun j H4 => Ok (Same H3 H4 ∧ H4 L = some (.lst (((Fl.take j).map (cR wd)).map V.int)))) ⟨Same.new nL, upd_same⟩ (fun j H4 _ ⟨sm, _⟩ => TK.seqT (Same.tk sm) hsf) ?_ ?_
    · rintro j y H4 H5 hj ⟨sm, hL⟩ ⟨rfl, hy⟩
      have hjF : j < Fl.length := by omega
      have eF := List.getElem?_eq_getElem hjF
      obtain ⟨u, eu, hu⟩ := hvs.get (i := j) (d := sqD Fl[j]) (by rw [List.getElem?_map, eF]; rfl)
      rw [show vs[j]? = some y from hy] at eu
      cases eu
      have hon := onF _ (List.getElem_mem hjF)
      have hcl := (hs.fl.sq _ (List.getElem_mem hjF)).2
      have etk : (Fl.take (j + 1)).map (cR wd) = (Fl.take j).map (cR wd) ++ [cR wd Fl[j]] := by
        rw [List.take_succ, eF, List.map_append]
        rfl
      generalize Fl[j] = sq at *
      obtain ⟨b, rfl, hb⟩ := (Tp.mono (Same.tk sm) _ _ hu).int3
      have hcl0 : 1 ≤ sq.2.2 := hcl.1
      have hcl1 : sq.2.2 < (c : Int) := hcl.2
      clear hcl
      have ln : (((Fl.take j).map (cR wd)).map V.int).length < sizeLine := small1000 (by rw [List.length_map, List.length_map, List.length_take]; omega)
      walk_at "st"
      intro p np
      have s5 : Same H5 (upd H5 p (.tup [.int sq.1, .int sq.2.1])) := Same.new np
      have hL5 := s5 _ _ hL
      have hon : onRing wd hg (sq.1, sq.2.1) := hon
      walk_at "st"
      exact ⟨Same.fresh (Same.trans sm s5) nL, by rw [upd_same, etk, List.map_append]; rfl⟩
    · rintro H4 ⟨sm, hL⟩
      rw [hlen, List.take_length] at hL
      have hSL := SqL.of (K := K) hL
      have ndF : (Fl.map Sq.pt).Nodup := by
        have z := asc_nd asc
        rw [show (cellsOf Fl).map (·.1) = Fl.map Sq.pt from List.map_map ..] at z
        exact z
      have esum : (Fl.map (cR wd)).sum = codeR (colF Fl) wd (wd * hg) := by rw [sum_R, sum_code onF ndF]
      have s4 := Same.trans s3 sm
      have hS4 := hS.same sm
      have hT4 := hT.same sm
      clear hSL
      have hSL : SqL K H4 L ((Fl.map (cR wd)).map V.int) := SqL.of hL
      walk_at "st"
      intro sd nsd
      rw [esum]
      have s5 : Same H4 (upd H4 sd (DnO P w sd [])) := Same.new nsd
      have hd5 : DnAt K P w (upd H4 sd (DnO P w sd [])) sd [] := ⟨upd_same, fun p h => absurd h List.not_mem_nil⟩
      have nsd0 : H sd = none := Same.back s4 nsd
      have nex : sd ≠ x := fun z => by
        obtain ⟨_, _, _, _, e, _⟩ := hS4.ob
        rw [z, e] at nsd
        cases nsd
      have neD : sd ≠ D := fun z => by
        rw [z, hS4.dc] at nsd
        cases nsd
      have hS5 := hS4.same s5
      have hT5 := hT4.same s5
      have s05 := Same.trans s4 s5
      generalize hH5 : upd H4 sd (DnO P w sd []) = H5 at *
      clear hSL hL esum ndF hS4 hT4 s5
      walk_at "st"
      refine for_range (lo := 0) (n := 20001) (fun i σ H' => Ok (∃ (m : CM) (w' : Wk) (kvs : List (NestedKey × Addr × V)) (y8 y9 y10 y11 y12 y13 y14 : Option V), σ = [some tv, some (.ref fa), some wv, some (.int wd), some (.int hg), some (.ref x), some (.int (codeR (col m) wd (wd * hg))), some (.ref sd), y8, y9, y10, y11, y12, y13, y14] ∧ StrAt K C H' x D Tb m w' ∧ TrkS C H' x D w' ∧ DnAt K P w H' sd kvs ∧ SeenG (fun z => nkOf (stD wd hg z)) (fun k => runR Tb wd hg k (colF Fl, wk)) i kvs ∧ runR Tb wd hg i (colF Fl, wk) = some (col m, w') ∧ RunsTo (fun k => runR Tb wd hg k (colF Fl, wk)) i ∧ Same H H')) ?_ ?_ ?_
      · exact ⟨cellsOf Fl, wk, [], _, _, _, _, _, _, _, rfl, hS5, hT5, hd5, SeenG.nil, rfl, fun a b _ l => absurd l (Nat.not_lt_zero _), s05⟩
      · rintro i σ H6 hi ⟨m, w', kvs, y8, y9, y10, y11, y12, y13, y14, rfl, hS6, hT6, hd6, seen6, run, dis, s06⟩
        have r6 := r0.run tab w1 h1 run
        have fit : Fit c n (wd + hg) (col m, w') := r6.fit (by omega) (by omega)
        have m6 : m.length ≤ wd * hg := ring_small hS6.nd hS6.nz r6.near
        obtain ⟨dx6, tv6, gv6, wv6, hx6, ht6, hw6, hgr6⟩ := id hS6.ob
        have noS : (strF tv6 gv6 D wv6).lookup ("has_stopped" : Str) = none := lkNo _ _ _ _ (by decide +kernel)
        have fW := lkW tv6 gv6 D wv6
        rw [show ((0 : Int) + (i : Int)) = (i : Int) from Int.zero_add _]
        walk_at "st"
        intro b H7 hb s7
        have hS7 := hS6.same s7
        have hT7 := hT6.same s7
        have hd7 := hd6.same s7
        have hx7 := s7 _ _ hx6
        have s07 := Same.trans s06 s7
        cases b with
        | true =>
          have stop : stepR Tb wd hg (col m, w') = none := stepR_no.mp (hb.mp rfl)
          walk_at "st"
          intro p np
          have s8 : Same H7 (upd H7 p (.tup [.int i, .int 0])) := Same.new np
          exact q1 i (col m, w') (by omega) run stop _ _ (.tup (SqT.of upd_same) (.cons (.int _) (.cons (.int _) .nil))) (Same.trans s07 s8)
        | false =>
          have hW : stepW Tb (col m, w') ≠ none := fun z => by cases hb.mpr z
          obtain ⟨en, hen⟩ := ent_of hW
          obtain ⟨wb6, rfl, hsw6⟩ := hw6.int4
          walk_at "st"
          intro p np
          have s8 : Same H7 (upd H7 p (.tup [.int (codeR (col m) wd (wd * hg)), .ref wb6])) := Same.new np
          have hp8 : (upd H7 p (.tup [.int (codeR (col m) wd (wd * hg)), .ref wb6])) p = some (.tup [.int (codeR (col m) wd (wd * hg)), .ref wb6]) := upd_same
          generalize hH8 : upd H7 p (.tup [.int (codeR (col m) wd (wd * hg)), .ref wb6]) = H8 at *
          have hS8 := hS7.same s8
          have hd8 := hd7.same s8
          have tkey : Tp K H8 (.ref p) (stD wd hg (col m, w')) := .tup (SqT.of hp8) (.cons (.int _) (.cons (Tp.mono (Same.tk (Same.trans s7 s8)) _ _ hw6) .nil))
          have dep := nk_st_depth wd hg (col m, w')
          have inj := inj_stR tab c8 w1 h1 r0 run
          rcases seen6.look (z := (col m, w')) inj with ⟨gn, new⟩ | ⟨j, hj, rj, gs⟩
          · have gn : dnGet kvs (nkOf (stD wd hg (col m, w'))) = none := gn
            have lk : kvs.length < sizeLine := by
              rw [seen6.len]
              exact Nat.lt_of_lt_of_le (show i < 20001 by omega) (by decide)
            have t9 : TK H8 (upd H8 sd (DnO P w sd (kvs ++ [(nkOf (stD wd hg (col m, w')), p, .int (i : Int))]))) := hd8.tk
            have hS9 := hS8.upd nex.symm neD.symm t9
            have hd9 := hd8.put (v := .int (i : Int)) tkey dep
            have k9 : KeepE [sd] H8 (upd H8 sd (DnO P w sd (kvs ++ [(nkOf (stD wd hg (col m, w')), p, .int (i : Int))]))) := KeepE.put List.mem_cons_self
            have m2000 : m.length ≤ 2000 := by omega
            have cb := r6.cols (wPt w')
            have cb : 0 ≤ col m (wPt w') ∧ col m (wPt w') < (c : Int) := cb
            have eo : 0 ≤ en.1 ∧ en.1 < (c : Int) := by
              obtain ⟨_, _, _, _, q⟩ := entAt_ok tab r6.st (r6.cols (wPt w'))
              have q : EntOk c n (entAt Tb w'.2.2.2 (col m (wPt w'))) := q
              rw [hen] at q
              exact q.1
            walk_at "st"
            rw [gn]
            refine iteF ?_
            walk_at "st"
            generalize hH9 : upd H8 sd (DnO P w sd (kvs ++ [(nkOf (stD wd hg (col m, w')), p, .int (i : Int))])) = H9 at *
            intro r p2 m2 H10 nr hS10 hT10 ec ml10 k10 hr10 hp10
            have s08 := Same.trans s07 s8
            have s010 : Same H H10 := fun b o z => by
              have e8 := s08 _ _ z
              have e9 := k9 _ _ (fun y => by
                rw [List.mem_singleton.mp y, nsd0] at z
                cases z) e8
              refine k10 _ _ (fun y => ?_) e9
              rcases List.mem_cons.mp y with y | y
              · rw [y, nx0] at z
                cases z
              · rw [List.mem_singleton.mp y, nD0] at z
                cases z
            have t10 : TK H9 H10 := k10.tk hS9.soft
            have hd10 : DnAt K P w H10 sd (kvs ++ [(nkOf (stD wd hg (col m, w')), p, .int (i : Int))]) := hd9.mono ((k10 _ _ (fun y => by
              rcases List.mem_cons.mp y with y | y
              · exact nex y
              · exact neD (List.mem_singleton.mp y)) hd9.ob).trans hd9.ob.symm) t10
            have run2 : runR Tb wd hg (i + 1) (colF Fl, wk) = some (col m2, wrapW wd hg (behind w' en)) := by
              rw [ec]
              exact runR_next run (stepR_ent hen)
            have onw : onRing wd hg (wPt w') := r6.wk
            have onw2 : onRing (wd : Int) (hg : Int) (w'.1, w'.2.1) := onw
            have ecode : codeR (col m2) wd (wd * hg) = codeR (col m) wd (wd * hg) + (en.1 * 8 ^ idxR wd (w'.1, w'.2.1) - col m (wPt w') * 8 ^ idxR wd (w'.1, w'.2.1)) := by
              rw [ec]
              exact codeR_dab onw
            have hrT : SqT K H10 r [.ref p2, .int (col m (wPt w')), .int en.1] := SqT.of hr10
            have hpT : SqT K H10 p2 [.int w'.1, .int w'.2.1] := SqT.of hp10
            walk_at "st"
            refine ⟨m2, _, _, _, _, _, _, _, _, _, by rw [ecode]; rfl, hS10, hT10, hd10, seen6.put run p rfl, run2, fun a b l1 l2 => ?_, s010⟩
            rcases Nat.lt_or_ge b i with g | g
            · exact dis a b l1 g
            · obtain rfl : b = i := by omega
              intro e
              have e : runR Tb wd hg a (colF Fl, wk) = runR Tb wd hg b (colF Fl, wk) := e
              rw [run] at e
              exact new a l1 e
          · have gs : dnGet kvs (nkOf (stD wd hg (col m, w'))) = some (.int j) := gs
            walk_at "st"
            rw [gs]
            refine iteT ?_
            walk_at "st"
            intro p2 np2
            have s9 : Same H8 (upd H8 p2 (.tup [.int j, .int ((i : Int) - j)])) := Same.new np2
            exact q2 j i (col m, w') hj (by omega) rj run dis _ _ (.tup (SqT.of upd_same) (.cons (.int _) (.cons (.int _) .nil))) (Same.trans s07 (Same.trans s8 s9))
      · rintro σ H6 ⟨m, w', kvs, y8, y9, y10, y11, y12, y13, y14, rfl, hS6, hT6, hd6, seen6, run, dis, s06⟩
        walk_at "st"
        refine raise1 (fun d H7 nd s7 hd => ?_)
        exact q3 (fun a b l1 l2 => dis a b l1 (by omega)) (by rw [run]; intro z; cases z) _ _ hd (Same.trans s06 s7)
end

/-! ### sets of tuples -/
theorem k_setT {K : PySem.W.Frag} {P : Program} {w : World} {X : Cx} (calm : X.calm = true) (room : X.A.units + 64 < cLine) (hK : X.K = K := by rfl) (hP : X.prog = P := by rfl) (hw : X.w = w := by rfl) : CallR X (.type "set") (rSetOfT K P w) := by
  subst hK hP hw
  exact cr_setOfT calm room

theorem k_star {K : PySem.W.Frag} {X : Cx} {e : Expr} {es : List Expr} {te : TE} {t : TA} {p : Pos} (he : PE X e te) (hr : PA X es t) (hs : starEach (.Starred e p :: es) X.env = (true, eval e X.env) :: starEach es X.env := by rfl) (hK : X.K = K := by rfl) : PA X (.Starred e p :: es) (StX.tStar K te t) := hK ▸ StX.pa_star he hr hs

/-! ### len(set(..)) of tuples -/
def rLenSetT (K : PySem.W.Frag) (P : Program) (w : World) : List V → Hp → VK → Prop := fun vs H Q => ∃ (a : Addr) (L : List (Addr × List Int)), vs = [V.ref a] ∧ H a = some (SetTO P w a L) ∧ (∀ p ∈ L, SqT K H p.1 (p.2.map V.int)) ∧ ((L.map (·.2)).Nodup → Q (.int L.length) H)
theorem k_lenSetT {K : PySem.W.Frag} {P : Program} {w : World} {X : Cx} (hK : X.K = K := by rfl) (hP : X.prog = P := by rfl) (hw : X.w = w := by rfl) : CallR X (.builtin "len") (rLenSetT K P w) := by
  subst hK hP hw
  intro pins s σ H vs us Q I r h
  obtain ⟨a, L, rfl, ha, hk, q⟩ := h
  have R0 : SetT0 X.prog X.w s.heap a L := (I.hok a _ ha).1
  obtain ⟨es, ep, t, R⟩ := R0.full fun p hp => I.isT (hk p hp)
  rw [Vals.ref1 r]
  obtain ⟨o, ho, hex, hd⟩ := R.ob
  have hn := R.size
  have h64 := R.few
  exact call_len_set ho hex hd R.fits (by rw [hn]; omega) ⟨.int L.length, H, I.tok _, ⟨_, by rw [hn]⟩, q R.nd⟩
theorem nodup_len {α : Type} [DecidableEq α] : ∀ {A B : List α}, A.Nodup → (∀ x ∈ A, x ∈ B) → (∀ x ∈ B, x ∈ A) → (A.length = B.length ↔ B.Nodup) := by
  intro A B nd h1 h2
  constructor
  · intro e
    refine Classical.byContradiction fun n => ?_
    have key : ∀ (B : List α), ¬ B.Nodup → ∃ C : List α, C.length < B.length ∧ ∀ x ∈ B, x ∈ C := by
      intro B
      induction B with
      | nil => exact fun n => absurd List.nodup_nil n
      | cons b r ih =>
        intro n
        by_cases hb : b ∈ r
        · exact ⟨r, Nat.lt_succ_self _, fun x hx => by
            rcases List.mem_cons.mp hx with rfl | hx
            · exact hb
            · exact hx⟩
        · obtain ⟨C, l, m⟩ := ih fun z => n (List.nodup_cons.mpr ⟨hb, z⟩)
          exact ⟨b :: C, by show C.length + 1 < r.length + 1; omega, fun x hx => by
            rcases List.mem_cons.mp hx with rfl | hx
            · exact List.mem_cons_self
            · exact List.mem_cons_of_mem _ (m x hx)⟩
    obtain ⟨C, l, m⟩ := key B n
    have := nodup_sub nd fun x hx => m x (h1 x hx)
    omega
  · intro nb
    exact Nat.le_antisymm (nodup_sub nd h1) (nodup_sub nb h2)
theorem enR_some {s : Nat} {r : List Ent} {j : Nat} {e : Int × Int × Int} (h : r[j]? = some (some e)) : enR s r (j + 1) = enR s r j ++ [((s : Int), (j : Int), e.1, e.2.1, e.2.2)] := by
  have q : enR s r (j + 1) = enR s r j ++ (match (r[j]?).getD none with | some e => [((s : Int), (j : Int), e.1, e.2.1, e.2.2)] | none => []) := rfl
  rw [q, h]
  rfl
theorem enR_none {s : Nat} {r : List Ent} {j : Nat} (h : r[j]? = some none) : enR s r (j + 1) = enR s r j := by
  have e : enR s r (j + 1) = enR s r j ++ (match (r[j]?).getD none with | some e => [((s : Int), (j : Int), e.1, e.2.1, e.2.2)] | none => []) := rfl
  rw [e, h]
  exact List.append_nil _
theorem nodup_pairs {l : List Pt} : (l.map fun p : Pt => [p.1, p.2]).Nodup ↔ l.Nodup := by
  constructor
  · intro h
    exact (List.pairwise_map.mp h).imp fun {a b} n e => n (by rw [e])
  · intro h
    exact List.pairwise_map.mpr (h.imp fun {a b} n e => n (by
      have e1 := (List.cons.inj e).1
      have e2 := (List.cons.inj (List.cons.inj e).2).1
      exact Prod.ext e1 e2))
def spEntries (K : PySem.W.Frag) : Sp := fun vs H Q _ => ∃ (tv : V) (c n : Nat) (T : List (List Ent)), vs = [tv] ∧ Tp K H tv (tabD T) ∧ TabOk c n T ∧ n ≤ 10 ∧ c ≤ 6 ∧ ∀ (L : Addr) (us : List V) (H' : Hp), H L = none → H' L = some (.lst us) → TpAll K H' us ((enT T T.length).map e5D) → Same H H' → Q (.ref L) H'
def spLoses (K : PySem.W.Frag) : Sp := fun vs H Q _ => ∃ (tv : V) (c n : Nat) (T : List (List Ent)), vs = [tv] ∧ Tp K H tv (tabD T) ∧ TabOk c n T ∧ n ≤ 10 ∧ c ≤ 6 ∧ ∀ b H', (b = true ↔ (endsL T).Nodup) → Same H H' → Q (.bl b) H'
def spUndone (K : PySem.W.Frag) : Sp := fun vs H Q _ => ∃ (tv : V) (c n : Nat) (T : List (List Ent)), vs = [tv] ∧ Tp K H tv (tabD T) ∧ TabOk c n T ∧ tabB T = true ∧ n ≤ 10 ∧ c ≤ 6 ∧ ∀ b H', (b = true ↔ (endsL T).Nodup) → Same H H' → Q (.bl b) H'
section
variable {P : Program} {w : World} {K : PySem.W.Frag} {mg : Str → Option Value} {base : Heap}
local macro_rules | `(tactic| walk_at "cl") => `(tactic| first | (refine le_only ?_; omega) | (refine lt_only ?_; omega))
theorem ok_u_entries (T : Txt K mg) (D : DefAt K mg "_entries" s_u_entries ["table"]) : Cal P w K mg base CX0 "_entries" 1 ["table"] (spEntries K) := by
  refine D.cal sc_u_entries (fun vs H Q E h => ?_) (fun f cdv A outer s H vs Q E hr h => ?_)
  · obtain ⟨tv, c, n, T, rfl, _⟩ := h
    rfl
  · obtain ⟨tv, c, n, Tb, rfl, ht, ok, n10, c6, q⟩ := h
    refine ⟨_, (pss_cons (ps_set (i := 1) sc_u_entries.nd rfl (Or.inl rfl) (pe_lst pa_nil))
      (pss_cons (ps_for PassesOwn.never rfl (k_enT (K := K) (by rfl) T.m_enumerate (pa_cons (pv 0) pa_nil)) (pg_tup (by rfl) (pgs_cons (pg_name (i := 2) sc_u_entries.nd rfl (Or.inl rfl)) (pgs_cons (pg_name (i := 3) sc_u_entries.nd rfl (Or.inl rfl)) pgs_nil)))
      (pss_one (ps_for PassesOwn.never rfl (k_enT (K := K) (by rfl) T.m_enumerate (pa_cons (pv 3) pa_nil)) (pg_tup (by rfl) (pgs_cons (pg_name (i := 4) sc_u_entries.nd rfl (Or.inl rfl)) (pgs_cons (pg_name (i := 5) sc_u_entries.nd rfl (Or.inl rfl)) pgs_nil)))
      (pss_one (ps_if (pt_cmpR op_notN (pv 5) pe_non (nomark _)) (pss_one (ps_expr (pe_bm PySem.F.plainAttrs_list PySem.F.slot_list_append PySem.F.type_list_append mt_append (pv 1) (pa_cons (pe_tup (pa_cons (pv 2) (pa_cons (pv 4) (k_star (K := K) (pv 5) pa_nil)))) pa_nil)))) pss_nil)))))
      (pss_one (ps_ret (pv 1))))), ?_⟩
    obtain ⟨a, vs, rfl, hs, hvs⟩ := ht.tupI
    have hlen : vs.length = n := by rw [TpAll.length hvs, List.length_map, ok.1]
    walk_at "st"
    intro L nL
    have hs1 : SqT K (upd H L (.lst [])) a vs := TK.seqT (TK.new nL) hs
    walk_at "st"
    refine for_it (walkEn (K := K) (a := a) (xs := vs)) (fun i σ H' => Ok (∃ (y2 y3 y4 y5 : Option V) (us : List V), σ = [some (.ref a), some (.ref L), y2, y3, y4, y5] ∧ H' L = some (.lst us) ∧ TpAll K H' us ((enT Tb i).map e5D) ∧ Same H H'))
      ⟨_, _, _, _, [], rfl, upd_same, .nil, Same.new nL⟩ (fun i σ H' _ ⟨y2, y3, y4, y5, us, _, _, _, sm⟩ => TK.seqT (Same.tk sm) hs) ?_ ?_
    · rintro i x σ H' H2 hi ⟨y2, y3, y4, y5, us, rfl, hL, hus, sm⟩ ⟨t, z, y, rfl, nt, rfl, e1, e2⟩
      cases e1
      have hiT : i < Tb.length := by rw [ok.1]; omega
      have eT := List.getElem?_eq_getElem hiT
      obtain ⟨u, eu, hu⟩ := hvs.get (i := i) (d := rowD Tb[i]) (by rw [List.getElem?_map, eT]; rfl)
      rw [show vs[i]? = some y from e2] at eu
      cases eu
      have lr : (Tb[i]).length = c := (ok.2 _ (List.getElem_mem hiT)).1
      have eG := getD_at eT
      generalize hr : Tb[i] = row0 at *
      have s2 : Same H' (upd H' t (.tup [.int (i : Nat), y])) := Same.new nt
      have sm2 := Same.trans sm s2
      obtain ⟨b, ws, rfl, hb, hws⟩ := (Tp.mono (Same.tk sm2) _ _ hu).tupI
      have hL2 := s2 _ _ hL
      have hus2 := TpAll.mono (Same.tk s2) _ _ hus
      have hlw : ws.length = row0.length := by rw [TpAll.length hws, List.length_map]
      have hen := enT_len ok i (by omega)
      have hic : i * c ≤ 10 * 6 := Nat.mul_le_mul (by omega) c6
      have htt : SqT K (upd H' t (.tup [.int (i : Nat), .ref b])) t [.int (i : Nat), .ref b] := SqT.of upd_same
      generalize hH2 : upd H' t (.tup [.int (i : Nat), .ref b]) = H2 at *
      walk_at "st"
      refine for_it (walkEn (K := K) (a := b) (xs := ws)) (fun j σ H3 => Ok (∃ (y4 y5 : Option V) (us : List V), σ = [some (.ref a), some (.ref L), some (.int (i : Nat)), some (.ref b), y4, y5] ∧ H3 L = some (.lst us) ∧ TpAll K H3 us ((enT Tb i ++ enR i row0 j).map e5D) ∧ TK H2 H3 ∧ Same H H3))
        ⟨_, _, us, rfl, hL2, by show TpAll K H2 us ((enT Tb i ++ []).map e5D); rw [List.append_nil]; exact hus2, TK.refl _, sm2⟩ (fun j σ H3 _ ⟨y4, y5, us, _, _, _, sm, _⟩ => sm.seqT hb) ?_ ?_
      · rintro j x σ H3 H4 hj ⟨y4, y5, us3, rfl, hL3, hus3, s3, s03⟩ ⟨t2, z2, yy, rfl, nt2, rfl, f1, f2⟩
        cases f1
        have hjr : j < row0.length := by omega
        have eE := List.getElem?_eq_getElem hjr
        obtain ⟨u2, eu2, hu2⟩ := hws.get (i := j) (d := entD row0[j]) (by rw [List.getElem?_map, eE]; rfl)
        rw [show ws[j]? = some yy from f2] at eu2
        cases eu2
        generalize row0[j] = en at *
        have s4 : Same H3 (upd H3 t2 (.tup [.int (j : Nat), yy])) := Same.new nt2
        have hen4 := Tp.mono (s3.trans (Same.tk s4)) _ _ hu2
        have hL4 := s4 _ _ hL3
        have hus4 := TpAll.mono (Same.tk s4) _ _ hus3
        have lR := enR_len i row0 j
        have lus : us3.length < 999 := by
          have z := TpAll.length hus3
          rw [List.length_map, List.length_append] at z
          omega
        have s34 := s3.trans (Same.tk s4)
        have s034 := Same.trans s03 s4
        have htt4 : SqT K (upd H3 t2 (.tup [.int (j : Nat), yy])) t2 [.int (j : Nat), yy] := SqT.of upd_same
        generalize hH4 : upd H3 t2 (.tup [.int (j : Nat), yy]) = H4 at *
        cases en with
        | none =>
          obtain rfl := (show Tp K H4 yy .none from hen4).nonI
          walk_at "st"
          refine ite2 (fun e => absurd e (by simp)) (fun _ => ?_)
          exact ⟨_, _, us3, rfl, hL4, by rw [enR_none eE]; exact hus4, s34, s034⟩
        | some e =>
          obtain ⟨b2, rfl, hb2⟩ := (show Tp K H4 yy (.tuple [.int e.1, .int e.2.1, .int e.2.2]) from hen4).int3
          have hSS : SqT K H4 b2 [.int e.1, .int e.2.1, .int e.2.2] ∨ SqL K H4 b2 [.int e.1, .int e.2.1, .int e.2.2] := .inl hb2
          walk_at "st"
          intro p np
          have s5 : Same H4 (upd H4 p (.tup [.int (i : Nat), .int (j : Nat), .int e.1, .int e.2.1, .int e.2.2])) := Same.new np
          have hL5 := s5 _ _ hL4
          have t6 : TK (upd H4 p (.tup [.int (i : Nat), .int (j : Nat), .int e.1, .int e.2.1, .int e.2.2])) (upd (upd H4 p (.tup [.int (i : Nat), .int (j : Nat), .int e.1, .int e.2.1, .int e.2.2])) L (.lst (us3 ++ [.ref p]))) := TK.lst hL5
          refine ⟨L, us3, .ref p, rfl, rfl, hL5, small1000 (by omega), ?_⟩
          refine ⟨_, _, us3 ++ [.ref p], rfl, upd_same, ?_, s34.trans ((Same.tk s5).trans t6), Same.fresh (Same.trans s034 s5) nL⟩
          rw [enR_some eE, ← List.append_assoc, List.map_append]
          exact TpAll.append (TpAll.mono ((Same.tk s5).trans t6) _ _ hus4) (.cons (Tp.of_ints (ks := [(i : Int), (j : Int), e.1, e.2.1, e.2.2]) (t6.seqT (SqT.of upd_same))) .nil)
      · rintro σ H3 ⟨y4, y5, us3, rfl, hL3, hus3, s3, s03⟩
        rw [hlw] at hus3
        walk_at "st"
        refine ⟨_, _, _, _, us3, rfl, hL3, ?_, s03⟩
        show TpAll K H3 us3 ((enT Tb i ++ enR i (Tb.getD i []) (Tb.getD i []).length).map e5D)
        rw [eG]
        exact hus3
    · rintro σ H' ⟨y2, y3, y4, y5, us, rfl, hL, hus, sm⟩
      rw [hlen, ← ok.1] at hus
      walk_at "st"
      exact q L us H' nL hL hus sm
theorem ok_u_loses (T : Txt K mg) (D : DefAt K mg "_loses_nothing" s_u_loses_nothing ["table"]) (C_entries : Cal P w K mg base CX0 "_entries" 1 ["table"] (spEntries K)) : Cal P w K mg base CX0 "_loses_nothing" 2 ["table"] (spLoses K) := by
  refine D.cal sc_u_loses_nothing (fun vs H Q E h => ?_) (fun f cdv A outer s H vs Q E hr h => ?_)
  · obtain ⟨tv, c, n, T, rfl, _⟩ := h
    rfl
  · obtain ⟨tv, c, n, Tb, rfl, ht, ok, n10, c6, q⟩ := h
    refine ⟨_, (pss_cons (ps_setLc (i := 1) (own := [("_", 2), ("paint", 3), ("state", 4)]) (g := gTup K 5 (gCons (gName 2) (gCons (gName 2) (gCons (gName 3) (gCons (gName 2) (gCons (gName 4) gNil)))))) rfl sc_u_loses_nothing.nd rfl rfl (sw_true rfl rfl rfl (by decide +kernel)) (k_pi_list (K := K) (pe_own C_entries hr (by first | decide | omega) (pa_cons (pv 0) pa_nil))) (blkOk_by (by rfl)) (fun _ _ _ _ _ => (k_pgT (K := K) 5 (by rfl) (pgs_cons (pg_name (i := 2) sc_u_loses_nothing.nd rfl (Or.inl rfl)) (pgs_cons (pg_name (i := 2) sc_u_loses_nothing.nd rfl (Or.inl rfl)) (pgs_cons (pg_name (i := 3) sc_u_loses_nothing.nd rfl (Or.inl rfl)) (pgs_cons (pg_name (i := 2) sc_u_loses_nothing.nd rfl (Or.inl rfl)) (pgs_cons (pg_name (i := 4) sc_u_loses_nothing.nd rfl (Or.inl rfl)) pgs_nil))))))) (fun _ _ _ _ _ => pts_nil) (fun _ _ _ _ _ => (pe_tup (pa_cons (pv 4) (pa_cons (pv 3) pa_nil)))))
      (pss_one (ps_ret (pe_cmpR op_eq (pe_callB (k_lenSetT (K := K) (P := P) (w := w)) (by rfl) T.m_len (by decide +kernel) (pa_cons (pe_callTy (k_setT (K := K) (P := P) (w := w) rfl hr.units) (by rfl) T.m_set (by decide +kernel) (pa_cons (pv 1) pa_nil)) pa_nil)) (pe_callB (k_len_l (K := K)) (by rfl) T.m_len (by decide +kernel) (pa_cons (pv 1) pa_nil)) (nomark _))))), ?_⟩
    walk_at "st"
    intro L us H1 nL hL hus s1
    have hen := enT_len ok n (Nat.le_refl _)
    have hic : n * c ≤ 10 * 6 := Nat.mul_le_mul n10 c6
    rw [← ok.1] at hen hic
    have lus : us.length = (enT Tb Tb.length).length := by rw [TpAll.length hus, List.length_map]
    generalize hes : enT Tb Tb.length = es at *
    walk_at "st"
    intro M nM
    refine lc_it (walk_list (K := K) (a := L) (xs := us)) (fun j H' => Ok (Same H1 H' ∧ ∃ ks : List (Addr × List Int), H' M = some (.lst (ks.map fun p => V.ref p.1)) ∧ ks.length = j ∧ ks.map (·.2) = ((es.take j).map endOf).map (fun p => [p.1, p.2]) ∧ ∀ p ∈ ks, H' p.1 = some (.tup (p.2.map V.int))))
      ⟨Same.new nM, [], upd_same, rfl, rfl, fun p hp => absurd hp List.not_mem_nil⟩ (fun j H' _ ⟨s2, _⟩ => SqL.of (s2 _ _ hL)) ?_ ?_
    · rintro j u H' H2 hj ⟨s2, ks, hM, lks, eks, tks⟩ ⟨rfl, hu⟩
      have hje : j < es.length := by omega
      have eE := List.getElem?_eq_getElem hje
      obtain ⟨u2, eu, hu2⟩ := hus.get (i := j) (d := e5D es[j]) (by rw [List.getElem?_map, eE]; rfl)
      rw [hu] at eu
      cases eu
      have tk := take_more eE
      generalize es[j] = e at *
      obtain ⟨b, xs, rfl, hb, hxs⟩ := (Tp.mono (Same.tk s2) _ _ hu2).tupI
      obtain ⟨v1, r1, rfl, g1, hxs⟩ := hxs.consI
      obtain ⟨v2, r2, rfl, g2, hxs⟩ := hxs.consI
      obtain ⟨v3, r3, rfl, g3, hxs⟩ := hxs.consI
      obtain ⟨v4, r4, rfl, g4, hxs⟩ := hxs.consI
      obtain ⟨v5, r5, rfl, g5, hxs⟩ := hxs.consI
      obtain rfl := hxs.nilI
      obtain rfl := g1.intI
      obtain rfl := g2.intI
      obtain rfl := g3.intI
      obtain rfl := g4.intI
      obtain rfl := g5.intI
      walk_at "st"
      intro p np
      have s3 : Same H2 (upd H2 p (.tup [.int e.2.2.2.2, .int e.2.2.1])) := Same.new np
      have hM3 := s3 _ _ hM
      have hsz : (ks.map fun p => V.ref p.1).length < sizeLine := by
        rw [List.length_map]
        exact small1000 (by omega)
      have neM : ∀ b xs, (upd H2 p (.tup [.int e.2.2.2.2, .int e.2.2.1])) b = some (.tup xs) → (upd (upd H2 p (.tup [.int e.2.2.2.2, .int e.2.2.1])) M (.lst ((ks.map fun p => V.ref p.1) ++ [.ref p]))) b = some (.tup xs) := fun b xs e => by
        rw [upd_ne (ne_of e hM3 (by intro z; cases z))]
        exact e
      refine ⟨_, hM3, hsz, Same.fresh (Same.trans s2 s3) nM, ks ++ [(p, [e.2.2.2.2, e.2.2.1])], by rw [upd_same, List.map_append]; rfl, by rw [List.length_append, lks]; rfl, ?_, fun q hq => ?_⟩
      · rw [tk, List.map_append, List.map_append, List.map_append, eks]
        rfl
      · rcases List.mem_append.mp hq with h | h
        · exact neM _ _ (s3 _ _ (tks q h))
        · rw [List.mem_singleton.mp h]
          exact neM _ _ upd_same
    · rintro H2 ⟨s2, ks, hM, lks, eks, tks⟩
      rw [lus, List.take_length] at eks
      refine ⟨.ref M, rfl, ?_⟩
      refine ⟨M, ks, rfl, SqL.of hM, fun p hp => SqT.of (tks p hp), by omega, fun a Ls na sub all => ?_⟩
      have s3 : Same H2 (upd H2 a (SetTO P w a Ls)) := Same.new na
      refine ⟨a, Ls, rfl, upd_same, fun p hp => SqT.of (s3 _ _ (tks p (sub p hp))), fun nd => ?_⟩
      have hM3 : SqL K (upd H2 a (SetTO P w a Ls)) M (ks.map fun p => V.ref p.1) := SqL.of (s3 _ _ hM)
      walk_at "st"
      refine q _ _ ?_ (Same.trans s1 (Same.trans s2 s3))
      rw [decide_eq_true_eq, List.length_map]
      have key : (Ls.map (·.2)).length = (ks.map (·.2)).length ↔ (ks.map (·.2)).Nodup := nodup_len nd (fun x hx => by
        obtain ⟨p, hp, e⟩ := List.mem_map.mp hx
        exact List.mem_map.mpr ⟨p, sub p hp, e⟩) (fun x hx => by
        obtain ⟨p, hp, e⟩ := List.mem_map.mp hx
        rw [← e]
        exact all p hp)
      rw [List.length_map, List.length_map] at key
      have k2 : (ks.map (·.2)).Nodup ↔ (endsL Tb).Nodup := by
        unfold endsL
        rw [hes, eks]
        exact nodup_pairs
      have e0 : V.int (Ls.length : Int) = V.int (ks.length : Int) ↔ Ls.length = ks.length := ⟨fun z => by have := V.int.inj z; omega, fun z => by rw [z]⟩
      exact e0.trans (key.trans k2)
theorem ok_can_be_undone (T : Txt K mg) (D : DefAt K mg "can_be_undone" s_can_be_undone ["table"]) (C_check_table : Cal P w K mg base CX0 "check_table" 4 ["value"] (spCheckT K)) (C_loses_nothing : Cal P w K mg base CX0 "_loses_nothing" 2 ["table"] (spLoses K)) : Cal P w K mg base CX0 "can_be_undone" 5 ["table"] (spUndone K) := by
  refine D.cal sc_can_be_undone (fun vs H Q E h => ?_) (fun f cdv A outer s H vs Q E hr h => ?_)
  · obtain ⟨tv, c, n, T, rfl, _⟩ := h
    rfl
  · obtain ⟨tv, c, n, Tb, rfl, ht, ok, good, n10, c6, q⟩ := h
    refine ⟨_, (pss_cons (ps_expr (pe_own C_check_table hr (by first | decide | omega) (pa_cons (pv 0) pa_nil)))
      (pss_one (ps_ret (pe_own C_loses_nothing hr (by first | decide | omega) (pa_cons (pv 0) pa_nil))))), ?_⟩
    walk_at "st"
    intro H1 s1
    have ht1 := Tp.mono (Same.tk s1) _ _ ht
    walk_at "st"
    exact fun b H' hb s2 => q b H' hb (Same.trans s1 s2)
end

/-! ### the pairs that a walk reads -/
def prD (p : Pt) : PyData := .tuple [.int p.1, .int p.2]
def rdP (y : WSt) : Pt := (y.2.2.2.2, y.1 (wPt y.2))
def prL (T : List (List Ent)) (z : WSt) : Nat → List Pt
  | 0 => []
  | k + 1 => prL T z k ++ (match runW T k z with | some y => [rdP y] | none => [])
structure PrsOf (l S : List Pt) : Prop where
  asc : S.Pairwise ltP
  mem : ∀ p, p ∈ S ↔ p ∈ l
theorem asc_head {p q : Pt} {r s : List Pt} (a : (p :: r).Pairwise ltP) (b : (q :: s).Pairwise ltP) (h : ∀ x, x ∈ p :: r ↔ x ∈ q :: s) : p = q := by
  have hp := (h p).mp List.mem_cons_self
  have hq := (h q).mpr List.mem_cons_self
  rcases List.mem_cons.mp hp with e | e
  · exact e
  · rcases List.mem_cons.mp hq with e2 | e2
    · exact e2.symm
    · exact absurd (ltP_tr ((List.pairwise_cons.mp b).1 p e) ((List.pairwise_cons.mp a).1 q e2)) (ltP_irr q)
theorem ascP_eq : ∀ {R S : List Pt}, R.Pairwise ltP → S.Pairwise ltP → (∀ p, p ∈ R ↔ p ∈ S) → R = S
  | [], [], _, _, _ => rfl
  | [], q :: s, _, _, h => absurd ((h q).mpr List.mem_cons_self) List.not_mem_nil
  | p :: r, [], _, _, h => absurd ((h p).mp List.mem_cons_self) List.not_mem_nil
  | p :: r, q :: s, a, b, h => by
    obtain rfl := asc_head a b h
    have a2 := List.pairwise_cons.mp a
    have b2 := List.pairwise_cons.mp b
    rw [ascP_eq a2.2 b2.2 fun x => ⟨fun hx => ?_, fun hx => ?_⟩]
    · rcases List.mem_cons.mp ((h x).mp (List.mem_cons_of_mem _ hx)) with e | e
      · rw [e] at hx
        exact absurd (a2.1 p hx) (ltP_irr p)
      · exact e
    · rcases List.mem_cons.mp ((h x).mpr (List.mem_cons_of_mem _ hx)) with e | e
      · rw [e] at hx
        exact absurd (b2.1 p hx) (ltP_irr p)
      · exact e
theorem PrsOf.uniq {l R S : List Pt} (a : PrsOf l R) (b : PrsOf l S) : R = S := ascP_eq a.asc b.asc fun p => (a.mem p).trans (b.mem p).symm
section
variable {T : List (List Ent)}
theorem prL_some {z y : WSt} {k : Nat} (h : runW T k z = some y) : prL T z (k + 1) = prL T z k ++ [rdP y] := by
  show prL T z k ++ (match runW T k z with | some y => [rdP y] | none => []) = _
  rw [h]
theorem prL_none {z : WSt} {k : Nat} (h : runW T k z = none) : prL T z (k + 1) = prL T z k := by
  show prL T z k ++ (match runW T k z with | some y => [rdP y] | none => []) = _
  rw [h]
  exact List.append_nil _
theorem prL_len (z : WSt) : ∀ k, (prL T z k).length ≤ k
  | 0 => Nat.le_refl _
  | k + 1 => by
    have := prL_len z k
    cases e : runW T k z with
    | none =>
      rw [prL_none e]
      omega
    | some y =>
      rw [prL_some e, List.length_append]
      show _ + 1 ≤ _
      omega
theorem prL_stuck {z : WSt} {i : Nat} (h : runW T i z = none) : ∀ k, prL T z (i + k) = prL T z i
  | 0 => rfl
  | k + 1 => by
    show prL T z (i + k + 1) = _
    rw [prL_none (runW_none h k), prL_stuck h k]
theorem Ends.prs {z z' : WSt} {many i : Nat} (h : Ends T z many i z') : prL T z many = prL T z i ++ (if i < many then [rdP z'] else []) := by
  by_cases l : i < many
  · rw [if_pos l]
    have st : stepW T z' = none := h.stop.resolve_left (by omega)
    have n1 : runW T (i + 1) z = none := by
      show (runW T i z).bind (stepW T) = none
      rw [h.run]
      exact st
    rw [← prL_some h.run, show many = i + 1 + (many - (i + 1)) by omega, prL_stuck n1]
  · rw [if_neg l, List.append_nil, show many = i by have := h.le; omega]
theorem prL_bd {c n : Nat} {B : Int} {z : WSt} (ok : TabOk c n T) (fit : Fit c n B z) : ∀ k, ∀ p ∈ prL T z k, (0 ≤ p.1 ∧ p.1 < n) ∧ (0 ≤ p.2 ∧ p.2 < c)
  | 0, p, h => absurd h List.not_mem_nil
  | k + 1, p, h => by
    cases e : runW T k z with
    | none =>
      rw [prL_none e] at h
      exact prL_bd ok fit k p h
    | some y =>
      rw [prL_some e] at h
      rcases List.mem_append.mp h with q | q
      · exact prL_bd ok fit k p q
      · rw [List.mem_singleton.mp q]
        have f := fit.run ok e
        exact ⟨f.st, f.cols _⟩
theorem prL_mem {z y : WSt} {k : Nat} (h : runW T k z = some y) : ∀ j, k < j → rdP y ∈ prL T z j
  | 0, l => absurd l (Nat.not_lt_zero _)
  | j + 1, l => by
    rcases Nat.lt_or_ge k j with q | q
    · have m := prL_mem h j q
      cases e : runW T j z with
      | none =>
        rw [prL_none e]
        exact m
      | some x =>
        rw [prL_some e]
        exact List.mem_append_left _ m
    · obtain rfl : j = k := by omega
      rw [prL_some h]
      exact List.mem_append_right _ List.mem_cons_self
/-- tables that are the same at all pairs read walk the same -/
theorem run_alike {T' : List (List Ent)} {z : WSt} {k : Nat} (h : ∀ p ∈ prL T z k, entAt T' p.1 p.2 = entAt T p.1 p.2) : ∀ j, j ≤ k → runW T' j z = runW T j z
  | 0, _ => rfl
  | j + 1, l => by
    show (runW T' j z).bind (stepW T') = (runW T j z).bind (stepW T)
    rw [run_alike h j (by omega)]
    cases e : runW T j z with
    | none => rfl
    | some y =>
      show stepW T' y = stepW T y
      have q : entAt T' y.2.2.2.2 (y.1 (wPt y.2)) = entAt T y.2.2.2.2 (y.1 (wPt y.2)) := h (rdP y) (prL_mem e k (by omega))
      unfold stepW
      rw [q]
theorem Ends.alike {T' : List (List Ent)} {z z' : WSt} {many i : Nat} (h : ∀ p ∈ prL T z many, entAt T' p.1 p.2 = entAt T p.1 p.2) (a : Ends T z many i z') : Ends T' z many i z' := by
  refine ⟨by rw [run_alike h i a.le]; exact a.run, a.le, ?_⟩
  rcases Nat.lt_or_ge i many with l | l
  · have st : stepW T z' = none := a.stop.resolve_left (by omega)
    have q : entAt T' z'.2.2.2.2 (z'.1 (wPt z'.2)) = entAt T z'.2.2.2.2 (z'.1 (wPt z'.2)) := h (rdP z') (prL_mem a.run many l)
    refine .inr ?_
    unfold stepW at st ⊢
    rw [q]
    exact st
  · exact .inl (by have := a.le; omega)
end

/-! ### the law's tables that can be undone -/
theorem TpAll.erase {K : PySem.W.Frag} {H : Hp} : ∀ {vs : List V} {ds : List PyData} {k : Nat}, TpAll K H vs ds → TpAll K H (vs.eraseIdx k) (ds.eraseIdx k)
  | [], [], _, _ => .nil
  | [], _ :: _, _, h => nomatch h
  | _ :: _, [], _, h => nomatch h
  | u :: us, e :: es, 0, h => by
    cases h with
    | cons h1 h2 => exact h2
  | u :: us, e :: es, k + 1, h => by
    cases h with
    | cons h1 h2 => exact .cons h1 (TpAll.erase h2)
theorem erase_map {α β : Type} (f : α → β) : ∀ (l : List α) (k : Nat), (l.map f).eraseIdx k = (l.eraseIdx k).map f
  | [], _ => rfl
  | _ :: _, 0 => rfl
  | a :: l, k + 1 => by
    show f a :: (l.map f).eraseIdx k = f a :: (l.eraseIdx k).map f
    rw [erase_map f l k]
theorem erase_mem {α : Type} : ∀ {l : List α} {k : Nat} {x : α}, x ∈ l.eraseIdx k → x ∈ l
  | [], _, _, h => h
  | _ :: _, 0, _, h => List.mem_cons_of_mem _ h
  | a :: l, k + 1, x, h => by
    rcases List.mem_cons.mp h with z | z
    · exact z ▸ List.mem_cons_self
    · exact List.mem_cons_of_mem _ (erase_mem z)
theorem seqIx {n : Nat} {v : Int} (h0 : 0 ≤ v) (h1 : v < n) : seqIndex? v n = some v.toNat := by
  unfold seqIndex?
  simp
  omega
section
variable {P : Program} {w : World} {K : PySem.W.Frag} {mg : Str → Option Value} {base : Heap}
local macro_rules | `(tactic| walk_at "cl") => `(tactic| first | (refine le_only ?_; omega) | (refine lt_only ?_; omega))
theorem ok_law_undone_table (T : Txt K mg) (D : DefAt K mg "_law_undone_table" s_law_undone_table ["row"]) (C_law_taken : Cal P w K mg base CX0 "_law_taken" 1 ["row", "many"] (spTaken K)) : Cal P w K mg base CX0 "_law_undone_table" 2 ["row"] (spTable K) := by
  refine D.cal sc_law_undone_table (fun vs H Q E h => ?_) (fun f cdv A outer s H vs Q E hr h => ?_)
  · obtain ⟨r, rfl, _⟩ := h
    rfl
  · obtain ⟨r, rfl, hrow, q⟩ := h
    refine ⟨_, (pss_cons (ps_asg (pe_tup (pa_cons (pe_op op_add pe_int (pe_own C_law_taken hr (by first | decide | omega) (pa_cons (pv 0) (pa_cons pe_int pa_nil)))) (pa_cons (pe_op op_add pe_int (pe_own C_law_taken hr (by first | decide | omega) (pa_cons (pv 0) (pa_cons pe_int pa_nil)))) pa_nil))) (pg_tup (by rfl) (pgs_cons (pg_name (i := 1) sc_law_undone_table.nd rfl (Or.inl rfl)) (pgs_cons (pg_name (i := 2) sc_law_undone_table.nd rfl (Or.inr rfl)) pgs_nil))))
      (pss_cons (ps_par (i := 3) (j := 4) (by rfl) sc_law_undone_table.nd rfl rfl (by decide) rfl rfl (pa_cons (pe_lc (own := [("k", 9)]) (g := gName 9) rfl sc_law_undone_table.nd (pi_range1 (by rfl) T.m_range (pa_cons (pe_op op_mul (pv 1) (pv 2)) pa_nil)) (blkOk_by (by rfl)) (fun _ _ _ _ _ => (pg_name (i := 9) sc_law_undone_table.nd rfl (Or.inl rfl))) (fun _ _ _ _ _ => pts_nil) (fun _ _ _ _ _ => (pe_tup (pa_cons (pe_op op_fdivW (pe_callTy call_int_i (by rfl) T.m_int (by decide +kernel) (pa_cons (pv 9) pa_nil)) (pv 2)) (pa_cons (pe_op op_mod (pe_callTy call_int_i (by rfl) T.m_int (by decide +kernel) (pa_cons (pv 9) pa_nil)) (pv 2)) pa_nil))))) (pa_cons (pe_lst pa_nil) pa_nil)) (by rfl))
      (pss_cons (ps_for PassesOwn.never rfl (pi_range1 (by rfl) T.m_range (pa_cons (pv 1) pa_nil)) (pg_name (i := 5) sc_law_undone_table.nd rfl (Or.inl rfl))
      (pss_cons (ps_set (i := 6) sc_law_undone_table.nd rfl (Or.inl rfl) (pe_lst pa_nil))
      (pss_cons (ps_for PassesOwn.never rfl (pi_range1 (by rfl) T.m_range (pa_cons (pv 2) pa_nil)) (pg_name (i := 7) sc_law_undone_table.nd rfl (Or.inl rfl))
      (pss_cons (ps_set (i := 8) sc_law_undone_table.nd rfl (Or.inl rfl) (pe_bm PySem.F.plainAttrs_list PySem.F.slot_list_pop PySem.F.type_list_pop mt_popAt (pv 3) (pa_cons (pe_own C_law_taken hr (by first | decide | omega) (pa_cons (pv 0) (pa_cons (pe_callB (k_len_l (K := K)) (by rfl) T.m_len (by decide +kernel) (pa_cons (pv 3) pa_nil)) pa_nil))) pa_nil)))
      (pss_one (ps_expr (pe_bm PySem.F.plainAttrs_list PySem.F.slot_list_append PySem.F.type_list_append mt_append (pv 6) (pa_cons (pe_tup (pa_cons (pe_ix (k_ix_tup (K := K)) (pv 8) pe_int (fun _ _ => rfl)) (pa_cons (pe_own C_law_taken hr (by first | decide | omega) (pa_cons (pv 0) (pa_cons pe_int pa_nil))) (pa_cons (pe_ix (k_ix_tup (K := K)) (pv 8) pe_int (fun _ _ => rfl)) pa_nil)))) pa_nil))))))
      (pss_one (ps_expr (pe_bm PySem.F.plainAttrs_list PySem.F.slot_list_append PySem.F.type_list_append mt_append (pv 4) (pa_cons (pe_callTy (k_tuple_l (K := K)) (by rfl) T.m_tuple (by decide +kernel) (pa_cons (pv 6) pa_nil)) pa_nil)))))))
      (pss_one (ps_ret (pe_callTy (k_tuple_l (K := K)) (by rfl) T.m_tuple (by decide +kernel) (pa_cons (pv 4) pa_nil))))))), ?_⟩
    walk_at "st"
    intro n' H1 hn0 hn2 R1 k1
    walk_at "st"
    intro c' H2 hc0 hc2 R2 k2
    have n1 : 1 ≤ 1 + n' := by omega
    have n2 : 1 + n' ≤ 2 := by omega
    have c2 : 2 ≤ 2 + c' := by omega
    have c3 : 2 + c' ≤ 3 := by omega
    have p0 : 0 ≤ (1 + n') * (2 + c') := Int.mul_nonneg (by omega) (by omega)
    have p1 : (1 + n') * (2 + c') ≤ 2 * 3 := Int.mul_le_mul (by omega) (by omega) (by omega) (by omega)
    have m1 : CMul (1 + n') (2 + c') := .inl ⟨by omega, by omega⟩
    have hdiv : ∀ x, CDivW x (2 + c') := fun x => wide_div (b := 64) (by omega) (by omega) (by decide) (by decide)
    have cpos : 0 < 2 + c' := by omega
    walk_at "st"
    intro pt0 npt0
    have R2b := R2.new (o := .tup [.int (1 + n'), .int (2 + c')]) npt0
    have k2b : KeepB r H (upd H2 pt0 (.tup [.int (1 + n'), .int (2 + c')])) := (k1.trans k2).trans (KeepB.new npt0)
    have hpt0 : SqT K (upd H2 pt0 (.tup [.int (1 + n'), .int (2 + c')])) pt0 [.int (1 + n'), .int (2 + c')] := SqT.of upd_same
    generalize hH2 : upd H2 pt0 (.tup [.int (1 + n'), .int (2 + c')]) = H2b at *
    walk_at "st"
    intro M nM
    have neM : M ≠ r := R2b.ne nM
    refine lc_range (lo := 0) (n := ((1 + n') * (2 + c')).toNat) (fun j H' => Ok (Same H2b H' ∧ ∃ (us : List V) (ps : List Pt), H' M = some (.lst us) ∧ us.length = j ∧ ps.length = j ∧ TpAll K H' us (ps.map prD) ∧ ∀ p ∈ ps, (0 ≤ p.1 ∧ p.1 < 1 + n') ∧ (0 ≤ p.2 ∧ p.2 < 2 + c'))) ⟨Same.new nM, [], [], upd_same, rfl, rfl, .nil, fun p hp => absurd hp List.not_mem_nil⟩ ?_ ?_
    · rintro j H' hj ⟨s3, us, ps, hM, lus, lps, hus, bd⟩
      walk_at "st"
      intro p np
      have s4 : Same H' (upd H' p (.tup [.int ((0 + (j : Int)) / (2 + c')), .int ((0 + (j : Int)) % (2 + c'))])) := Same.new np
      have hM4 := s4 _ _ hM
      have t5 : TK (upd H' p (.tup [.int ((0 + (j : Int)) / (2 + c')), .int ((0 + (j : Int)) % (2 + c'))])) (upd (upd H' p (.tup [.int ((0 + (j : Int)) / (2 + c')), .int ((0 + (j : Int)) % (2 + c'))])) M (.lst (us ++ [.ref p]))) := TK.lst hM4
      refine ⟨us, hM4, small1000 (by omega), Same.fresh (Same.trans s3 s4) nM, us ++ [.ref p], ps ++ [((0 + (j : Int)) / (2 + c'), (0 + (j : Int)) % (2 + c'))], upd_same, by rw [List.length_append, lus]; rfl, by rw [List.length_append, lps]; rfl, ?_, fun q hq => ?_⟩
      · rw [List.map_append]
        exact TpAll.append (TpAll.mono ((Same.tk s4).trans t5) _ _ hus) (.cons (Tp.of_ints (ks := [(0 + (j : Int)) / (2 + c'), (0 + (j : Int)) % (2 + c')]) (t5.seqT (SqT.of upd_same))) .nil)
      · rcases List.mem_append.mp hq with z | z
        · exact bd q z
        · rw [List.mem_singleton.mp z]
          exact ⟨⟨Int.ediv_nonneg (by omega) (by omega), Int.ediv_lt_of_lt_mul cpos (by omega)⟩, Int.emod_nonneg _ (by omega), Int.emod_lt_of_pos _ cpos⟩
    · rintro H3 ⟨s3, us, ps, hM, lus, lps, hus, bd⟩
      have R3 := R2b.same s3
      have k3 : KeepB r H2b H3 := Same.keepB s3
      walk_at "st"
      intro p np
      have npr : p ≠ r := R3.ne np
      have npM : p ≠ M := (ne_of_none hM np).symm
      have np2 : H2b p = none := k3.back np npr
      have hM0 : (upd H3 p (.lst [])) M = some (.lst us) := by rw [upd_ne npM.symm]; exact hM
      have lps0 : (ps.length : Int) + ((0 : Nat) : Int) * (2 + c') = (1 + n') * (2 + c') := by
        rw [show (((0 : Nat) : Int)) = 0 from rfl, Int.zero_mul]
        omega
      walk_at "st"
      refine for_range (lo := 0) (n := (1 + n').toNat) (fun i σ H' => Ok (∃ (y5 y6 y7 y8 : Option V) (vs us' : List V) (rows : List (List Ent)) (ps' : List Pt), σ = [some (.ref r), some (.int (1 + n')), some (.int (2 + c')), some (.ref M), some (.ref p), y5, y6, y7, y8, none] ∧
        rows.length = i ∧ (∀ row ∈ rows, row.length = (2 + c').toNat ∧ ∀ e ∈ row, EntOk (2 + c') (1 + n') e) ∧ H' p = some (.lst vs) ∧ TpAll K H' vs (rows.map rowD) ∧ H' M = some (.lst us') ∧ TpAll K H' us' (ps'.map prD) ∧ (∀ q ∈ ps', (0 ≤ q.1 ∧ q.1 < 1 + n') ∧ (0 ≤ q.2 ∧ q.2 < 2 + c')) ∧ (ps'.length : Int) + (i : Int) * (2 + c') = (1 + n') * (2 + c') ∧ Row K H' r ∧ KeepB r H2b H')) ?_ ?_ ?_
      · exact ⟨_, _, _, _, [], us, [], ps, rfl, rfl, fun _ h => absurd h List.not_mem_nil, upd_same, .nil, hM0, TpAll.mono (TK.new np) _ _ hus, bd, lps0, R3.new np, k3.fresh np2⟩
      · rintro i σ H4 hi ⟨y5, y6, y7, y8, vs, us4, rows, ps4, rfl, hl, hok, hp, hvs, hM4, hus4, bd4, lp4, R4, k4⟩
        have hmul : ((i : Int) + 1) * (2 + c') ≤ (1 + n') * (2 + c') := Int.mul_le_mul_of_nonneg_right (by omega) (by omega)
        rw [Int.add_mul, Int.one_mul] at hmul
        walk_at "st"
        intro l nl
        have nlp : l ≠ p := (ne_of_none hp nl).symm
        have nlM : l ≠ M := (ne_of_none hM4 nl).symm
        have nlr : l ≠ r := R4.ne nl
        have nl2 : H2b l = none := k4.back nl nlr
        have lj0 : (ps4.length : Int) + (i : Int) * (2 + c') + ((0 : Nat) : Int) = (1 + n') * (2 + c') := by omega
        walk_at "st"
        refine for_range (lo := 0) (n := (2 + c').toNat) (fun j σ H' => Ok (∃ (y7 y8 : Option V) (ws us' : List V) (row : List Ent) (ps' : List Pt), σ = [some (.ref r), some (.int (1 + n')), some (.int (2 + c')), some (.ref M), some (.ref p), some (.int (0 + (i : Int))), some (.ref l), y7, y8, none] ∧
          row.length = j ∧ (∀ e ∈ row, EntOk (2 + c') (1 + n') e) ∧ H' l = some (.lst ws) ∧ TpAll K H' ws (row.map entD) ∧ H' p = some (.lst vs) ∧ TpAll K H' vs (rows.map rowD) ∧ H' M = some (.lst us') ∧ TpAll K H' us' (ps'.map prD) ∧ (∀ q ∈ ps', (0 ≤ q.1 ∧ q.1 < 1 + n') ∧ (0 ≤ q.2 ∧ q.2 < 2 + c')) ∧ (ps'.length : Int) + (i : Int) * (2 + c') + (j : Int) = (1 + n') * (2 + c') ∧ Row K H' r ∧ KeepB r H2b H')) ?_ ?_ ?_
        · exact ⟨_, _, [], us4, [], ps4, rfl, rfl, fun _ h => absurd h List.not_mem_nil, upd_same, .nil, by rw [upd_ne nlp.symm]; exact hp, TpAll.mono (TK.new nl) _ _ hvs, by rw [upd_ne nlM.symm]; exact hM4, TpAll.mono (TK.new nl) _ _ hus4, bd4, lj0, R4.new nl, k4.fresh nl2⟩
        · rintro j σ H5 hj ⟨y7, y8, ws, us5, row, ps5, rfl, hrl, hrok, hl5, hws, hp5, hvs5, hM5, hus5, bd5, lp5, R5, k5⟩
          have lus5 : us5.length = ps5.length := by rw [TpAll.length hus5, List.length_map]
          have hi0 : 0 ≤ (i : Int) * (2 + c') := Int.mul_nonneg (by omega) (by omega)
          have hSM5 := SqL.of (K := K) hM5
          have cu0 : (0 : Int) < us5.length := by omega
          have cu1 : (us5.length : Int) < 2 ^ 250 := by omega
          walk_at "st"
          intro v H6 v0 v1 R6 k6
          have hM6 := k6 _ _ neM hM5
          have lv : v.toNat < us5.length := by omega
          have hsq : seqIndex? v us5.length = some v.toNat := seqIx v0 v1
          have eP := List.getElem?_eq_getElem (show v.toNat < ps5.length by omega)
          obtain ⟨y, ey, hy⟩ := hus5.get (i := v.toNat) (d := prD ps5[v.toNat]) (by rw [List.getElem?_map, eP]; rfl)
          have bdp := bd5 _ (List.getElem_mem (show v.toNat < ps5.length by omega))
          have lpe : (ps5.eraseIdx v.toNat).length + 1 = ps5.length := by
            rw [List.length_eraseIdx]
            rw [if_pos (show v.toNat < ps5.length by omega)]
            omega
          generalize ps5[v.toNat] = pr at *
          refine ⟨M, us5, v, v.toNat, y, rfl, rfl, hM6, by omega, by omega, hsq, ey, ?_⟩
          have t56 := k6.row R5
          have t7 : TK H6 (upd H6 M (.lst (us5.eraseIdx v.toNat))) := TK.lst hM6
          have R7 := R6.put (o := .lst (us5.eraseIdx v.toNat)) hM6 neM
          have k7 : KeepB r H2b (upd H6 M (.lst (us5.eraseIdx v.toNat))) := (k5.trans k6).fresh nM
          have t57 := t56.trans t7
          have hM7 : (upd H6 M (.lst (us5.eraseIdx v.toNat))) M = some (.lst (us5.eraseIdx v.toNat)) := upd_same
          have hl7 : (upd H6 M (.lst (us5.eraseIdx v.toNat))) l = some (.lst ws) := by rw [upd_ne nlM]; exact k6 _ _ nlr hl5
          have hp7 : (upd H6 M (.lst (us5.eraseIdx v.toNat))) p = some (.lst vs) := by rw [upd_ne npM]; exact k6 _ _ npr hp5
          generalize hH7 : upd H6 M (.lst (us5.eraseIdx v.toNat)) = H7 at *
          have hus7 := TpAll.mono t57 _ _ (TpAll.erase (k := v.toNat) hus5)
          rw [erase_map] at hus7
          have hws7 := TpAll.mono t57 _ _ hws
          have hvs7 := TpAll.mono t57 _ _ hvs5
          obtain ⟨b, rfl, hb⟩ := (Tp.mono t57 _ _ (show Tp K H5 y (.tuple [.int pr.1, .int pr.2]) from hy)).int2
          have bd7 : ∀ q ∈ ps5.eraseIdx v.toNat, (0 ≤ q.1 ∧ q.1 < 1 + n') ∧ (0 ≤ q.2 ∧ q.2 < 2 + c') := fun q hq => bd5 q (erase_mem hq)
          generalize ps5.eraseIdx v.toNat = ps7 at *
          generalize us5.eraseIdx v.toNat = us7 at *
          walk_at "st"
          intro tt H8 tt0 tt4 R8 k8
          have t8 := k8.row R7
          have hb8 := t8.seqT hb
          have hM8 := k8 _ _ neM hM7
          have hl8 := k8 _ _ nlr hl7
          have hp8 := k8 _ _ npr hp7
          walk_at "st"
          intro e ne
          have s9 : Same H8 (upd H8 e (.tup [.int pr.2, .int tt, .int pr.1])) := Same.new ne
          have hl9 := s9 _ _ hl8
          have hp9 := s9 _ _ hp8
          have hM9 := s9 _ _ hM8
          have R9 := R8.same s9
          have hE : EntOk (2 + c') (1 + n') (some (pr.2, tt, pr.1)) := ⟨bdp.2, ⟨tt0, tt4⟩, bdp.1⟩
          have hx9 : Tp K (upd H8 e (.tup [.int pr.2, .int tt, .int pr.1])) (.ref e) (entD (some (pr.2, tt, pr.1))) := Tp.of_ints (ks := [pr.2, tt, pr.1]) (SqT.of upd_same)
          have k9 : KeepB r H2b (upd H8 e (.tup [.int pr.2, .int tt, .int pr.1])) := (k7.trans k8).trans (Same.keepB s9)
          generalize hH9 : upd H8 e (.tup [.int pr.2, .int tt, .int pr.1]) = H9 at *
          have hsz : ws.length < sizeLine := by
            have z := TpAll.length hws
            rw [List.length_map] at z
            exact small1000 (by omega)
          refine ⟨l, ws, .ref e, rfl, rfl, hl9, hsz, ?_⟩
          have tu : TK H9 (upd H9 l (.lst (ws ++ [.ref e]))) := TK.lst hl9
          have t79 := (t8.trans (Same.tk s9)).trans tu
          refine ⟨_, _, ws ++ [.ref e], us7, row ++ [some (pr.2, tt, pr.1)], ps7, rfl, ?_, ?_, upd_same, ?_, by rw [upd_ne nlp.symm]; exact hp9, TpAll.mono t79 _ _ hvs7, by rw [upd_ne nlM.symm]; exact hM9, TpAll.mono t79 _ _ hus7, bd7, by omega, R9.put hl9 nlr, k9.fresh nl2⟩
          · rw [List.length_append, hrl]; rfl
          · intro z hz
            rcases List.mem_append.mp hz with h | h
            · exact hrok z h
            · rw [List.mem_singleton.mp h]; exact hE
          · rw [List.map_append]
            exact TpAll.append (TpAll.mono t79 _ _ hws7) (.cons (Tp.mono tu _ _ hx9) .nil)
        · rintro σ H5 ⟨y7, y8, ws, us5, row, ps5, rfl, hrl, hrok, hl5, hws, hp5, hvs5, hM5, hus5, bd5, lp5, R5, k5⟩
          have hsz : vs.length < sizeLine := by
            have z := TpAll.length hvs5
            rw [List.length_map] at z
            exact small1000 (by omega)
          have hSl : SqL K H5 l ws := SqL.of hl5
          walk_at "st"
          intro u nu
          have s6 : Same H5 (upd H5 u (.tup ws)) := Same.new nu
          have hp6 := s6 _ _ hp5
          have hM6 := s6 _ _ hM5
          have tv : TK (upd H5 u (.tup ws)) (upd (upd H5 u (.tup ws)) p (.lst (vs ++ [.ref u]))) := TK.lst hp6
          have hx : Tp K (upd H5 u (.tup ws)) (.ref u) (rowD row) := .tup (SqT.of upd_same) (TpAll.mono (Same.tk s6) _ _ hws)
          refine ⟨p, vs, .ref u, rfl, rfl, hp6, hsz, ?_⟩
          refine ⟨_, _, _, _, vs ++ [.ref u], us5, rows ++ [row], ps5, rfl, ?_, ?_, upd_same, ?_, by rw [upd_ne npM.symm]; exact hM6, TpAll.mono ((Same.tk s6).trans tv) _ _ hus5, bd5, ?_, (R5.same s6).put hp6 npr, (k5.trans (Same.keepB s6)).fresh np2⟩
          · rw [List.length_append, hl]; rfl
          · intro y hy
            rcases List.mem_append.mp hy with h | h
            · exact hok y h
            · rw [List.mem_singleton.mp h]; exact ⟨hrl, hrok⟩
          · rw [List.map_append]
            exact TpAll.append (TpAll.mono ((Same.tk s6).trans tv) _ _ hvs5) (.cons (Tp.mono tv _ _ hx) .nil)
          · rw [show (((i + 1 : Nat)) : Int) = (i : Int) + 1 from rfl, Int.add_mul, Int.one_mul]
            omega
      · rintro σ H4 ⟨y5, y6, y7, y8, vs, us4, rows, ps4, rfl, hl, hok, hp, hvs, hM4, hus4, bd4, lp4, R4, k4⟩
        have hSp : SqL K H4 p vs := SqL.of hp
        walk_at "st"
        intro u nu
        refine q _ _ (2 + c').toNat (1 + n').toNat rows (by omega) (by omega) (by omega) (by omega) ⟨hl, fun row hrow => ?_⟩ (.tup (SqT.of upd_same) (TpAll.mono (TK.new nu) _ _ hvs)) (R4.new nu) ((k2b.trans k4).trans (KeepB.new nu))
        obtain ⟨h1, h2⟩ := hok row hrow
        refine ⟨h1, fun e he => ?_⟩
        rw [show (((2 + c').toNat : Nat) : Int) = 2 + c' by omega, show (((1 + n').toNat : Nat) : Int) = 1 + n' by omega]
        exact h2 e he
end

/-! ### one of some things -/
def spPick (K : PySem.W.Frag) : Sp := fun vs H Q _ => ∃ (r L : Addr) (xs : List V), vs = [.ref r, .ref L] ∧ Row K H r ∧ H L = some (.lst xs) ∧ L ≠ r ∧ 1 ≤ xs.length ∧ xs.length ≤ 5000 ∧ ∀ (v : V) (H' : Hp) (k : Nat), xs[k]? = some v → Row K H' r → KeepB r H H' → Q v H'
section
variable {P : Program} {w : World} {K : PySem.W.Frag} {mg : Str → Option Value} {base : Heap}
local macro_rules | `(tactic| walk_at "cl") => `(tactic| first | (refine le_only ?_; omega) | (refine lt_only ?_; omega))
theorem ok_law_pick (T : Txt K mg) (D : DefAt K mg "_law_pick" s_law_pick ["row", "things"]) (C_law_taken : Cal P w K mg base CX0 "_law_taken" 1 ["row", "many"] (spTaken K)) : Cal P w K mg base CX0 "_law_pick" 2 ["row", "things"] (spPick K) := by
  refine D.cal sc_law_pick (fun vs H Q E h => ?_) (fun f cdv A outer s H vs Q E hr h => ?_)
  · obtain ⟨r, L, xs, rfl, _⟩ := h
    rfl
  · obtain ⟨r, L, xs, rfl, R, hL, ne, l1, l100, q⟩ := h
    refine ⟨_, (pss_one (ps_ret (pe_ix (k_ix_list (K := K)) (pv 1) (pe_own C_law_taken hr (by first | decide | omega) (pa_cons (pv 0) (pa_cons (pe_callB (k_len_l (K := K)) (by rfl) T.m_len (by decide +kernel) (pa_cons (pv 1) pa_nil)) pa_nil))) (fun _ _ => rfl)))), ?_⟩
    have hSL := SqL.of (K := K) hL
    have c1 : (0 : Int) < xs.length := by omega
    have c2 : (xs.length : Int) < 2 ^ 250 := by omega
    walk_at "st"
    intro v H1 v0 v1 R1 k1
    have hL1 := k1 _ _ ne hL
    have hSL1 := SqL.of (K := K) hL1
    have lv : v.toNat < xs.length := by omega
    have ev : xs[v.toNat]? = some xs[v.toNat] := List.getElem?_eq_getElem lv
    have hat : atI xs v = some xs[v.toNat] := by
      have z := atI_nat ev
      rw [show ((v.toNat : Nat) : Int) = v by omega] at z
      exact z
    walk_at "st"
    exact q _ _ _ ev R1 k1
end

theorem TK.dT {H : Hp} {p : Addr} {kvs : List (List Key × V)} {o : HO} (h : H p = some (.dT kvs)) : TK H (upd H p o) := KeepE.tk (E := [p]) (KeepE.put List.mem_cons_self) fun b hb => by
  rw [List.mem_singleton.mp hb]
  exact Soft.dT h

theorem put_col (m : CM) (p : Pt) (c : Int) : col (putM m p c) = dab (col m) p c := by
  funext q
  unfold col dab
  rw [look_put]
  split <;> rfl

/-! ### the law's floors and walkers -/
def spSigned (K : PySem.W.Frag) : Sp := fun vs H Q _ => ∃ (r : Addr) (most : Int), vs = [.ref r, .int most] ∧ Row K H r ∧ 0 ≤ most ∧ most < 2 ^ 200 ∧ ∀ (v : Int) (H' : Hp), -most ≤ v → v ≤ most → Row K H' r → KeepB r H H' → Q (.int v) H'
def spLWalker (K : PySem.W.Frag) : Sp := fun vs H Q _ => ∃ (r : Addr) (tv : V) (T : List (List Ent)), vs = [.ref r, tv] ∧ Row K H r ∧ Tp K H tv (tabD T) ∧ 1 ≤ T.length ∧ T.length ≤ 10 ∧ ∀ (v : V) (H' : Hp) (w : Wk), InB 3 (wPt w) → (0 ≤ w.2.2.1 ∧ w.2.2.1 < 4) → (0 ≤ w.2.2.2 ∧ w.2.2.2 < T.length) → Tp K H' v (wkD w) → Row K H' r → KeepB r H H' → Q v H'
def spLAhead (K : PySem.W.Frag) : Sp := fun vs H Q _ => ∃ (b : Addr) (x y h : Int), vs = [.ref b, .int h] ∧ SqT K H b [.int x, .int y] ∧ 0 ≤ h ∧ h < 4 ∧ ∀ p H', H' p = some (.tup [.int (x + dxI h), .int (y + dyI h)]) → Same H H' → Q (.ref p) H'
theorem dx_at {h : Int} (h0 : 0 ≤ h) (h1 : h < 4) : atI ([.int 0, .int 1, .int 0, .int (-1)] : List V) h = some (.int (dxI h)) ∧ atI ([.int (-1), .int 0, .int 1, .int 0] : List V) h = some (.int (dyI h)) := by
  obtain ⟨n, rfl⟩ := Int.eq_ofNat_of_zero_le h0
  have c : n = 0 ∨ n = 1 ∨ n = 2 ∨ n = 3 := by omega
  rcases c with rfl | rfl | rfl | rfl
  · exact ⟨at0, at0⟩
  · exact ⟨at1, at1⟩
  · exact ⟨at2, at2⟩
  · exact ⟨at3, at3⟩
section
variable {P : Program} {w : World} {K : PySem.W.Frag} {mg : Str → Option Value} {base : Heap}
theorem ok_law_ahead (T : Txt K mg) (D : DefAt K mg "_law_ahead" s_law_ahead ["place", "heading"]) : Cal P w K mg base CX0 "_law_ahead" 1 ["place", "heading"] (spLAhead K) := by
  refine D.cal sc_law_ahead (fun vs H Q E h => ?_) (fun f cdv A outer s H vs Q E hr h => ?_)
  · obtain ⟨b, x, y, hd, rfl, _⟩ := h
    rfl
  · obtain ⟨b, x, y, hd, rfl, hs, h0, h4, q⟩ := h
    refine ⟨_, (pss_one (ps_ret (pe_tup (pa_cons (pe_op op_add (pe_ix (k_ix_tup (K := K)) (pv 0) pe_int (fun _ _ => rfl)) (pe_ix (k_ix_list (K := K)) (pe_lst (pa_cons pe_int (pa_cons pe_int (pa_cons pe_int (pa_cons (pe_un un_neg pe_int) pa_nil))))) (pv 1) (fun _ _ => rfl))) (pa_cons (pe_op op_add (pe_ix (k_ix_tup (K := K)) (pv 0) pe_int (fun _ _ => rfl)) (pe_ix (k_ix_list (K := K)) (pe_lst (pa_cons (pe_un un_neg pe_int) (pa_cons pe_int (pa_cons pe_int (pa_cons pe_int pa_nil))))) (pv 1) (fun _ _ => rfl))) pa_nil))))), ?_⟩
    obtain ⟨ax, ay⟩ := dx_at h0 h4
    walk_at "st"
    intro p np
    have hs1 := TK.seqT (TK.new (o := .lst [.int 0, .int 1, .int 0, .int (-1)]) np) hs
    walk_at "st"
    intro p2 np2
    walk_at "st"
    intro p3 np3
    exact q p3 _ upd_same (Same.trans (Same.trans (Same.new np) (Same.new np2)) (Same.new np3))
end

/-! ### the law's own floors -/
theorem sorted_keys {m : CM} {bs : List (Addr × List Int)} (nd : (m.map (·.1)).Nodup) (pm : (bs.map (·.2)).Perm (m.map fun e => [e.1.1, e.1.2])) (pw : bs.Pairwise fun x y => ltZ y.2 x.2 = false) :
    ∃ ps : List Pt, bs.map (·.2) = ps.map (fun p => [p.1, p.2]) ∧ ps.Pairwise ltP ∧ (∀ p, p ∈ ps ↔ p ∈ m.map (·.1)) ∧ ps.length = m.length := by
  have pm2 : (bs.map (·.2)).Perm ((m.map (·.1)).map fun p : Pt => [p.1, p.2]) := by
    rw [List.map_map]
    exact pm
  obtain ⟨ps, pp, ep⟩ := perm_lift (fun p : Pt => [p.1, p.2]) pm2 _ rfl
  have pwp : ps.Pairwise fun a b => ltZ [b.1, b.2] [a.1, a.2] = false := by
    have z : (bs.map (·.2)).Pairwise fun x y => ltZ y x = false := List.pairwise_map.mpr pw
    rw [← ep] at z
    exact List.pairwise_map.mp z
  have ndp : ps.Pairwise fun a b => a ≠ b := pp.nodup_iff.mpr nd
  refine ⟨ps, ep.symm, List.Pairwise.imp₂ (fun a b h1 h2 => ?_) pwp ndp, fun p => pp.mem_iff, by rw [pp.length_eq, List.length_map]⟩
  have h3 : ¬ (b.1 < a.1 ∨ (¬ a.1 < b.1 ∧ b.2 < a.2)) := fun z => by
    have e : ltZ [b.1, b.2] [a.1, a.2] = true := by
      show (decide (b.1 < a.1) || (!decide (a.1 < b.1) && (decide (b.2 < a.2) || (!decide (a.2 < b.2) && ltZ [] [])))) = true
      rcases z with z | ⟨z1, z2⟩
      · rw [decide_eq_true z]
        rfl
      · rw [decide_eq_false z1, decide_eq_true z2, Bool.or_eq_true]
        exact .inr rfl
    rw [e] at h1
    cases h1
  have h4 : ¬ (a.1 = b.1 ∧ a.2 = b.2) := fun z => h2 (Prod.ext z.1 z.2)
  show a.1 < b.1 ∨ (a.1 = b.1 ∧ a.2 < b.2)
  omega
def sqAt (m : CM) (p : Pt) : Sq := (p.1, p.2, col m p)
def fltF (m : CM) (ps : List Pt) : List Sq := (ps.filter fun p => decide (0 < col m p)).map (sqAt m)
theorem flt_floor {m : CM} {ps : List Pt} (asc : ps.Pairwise ltP) (mem : ∀ p, p ∈ ps ↔ p ∈ m.map (·.1)) (nn : ∀ p, 0 ≤ col m p) : FloorOf (col m) (fltF m ps) := by
  refine ⟨List.pairwise_map.mpr (asc.sublist (List.filter_sublist)), fun s => ?_⟩
  unfold fltF
  rw [List.mem_map]
  constructor
  · rintro ⟨p, hp, rfl⟩
    have h1 := of_decide_eq_true (List.mem_filter.mp hp).2
    refine ⟨rfl, ?_⟩
    show col m p ≠ 0
    omega
  · rintro ⟨h1, h2⟩
    refine ⟨s.pt, List.mem_filter.mpr ⟨(mem _).mpr ?_, decide_eq_true ?_⟩, ?_⟩
    · refine Classical.byContradiction fun z => ?_
      have e := look_none.mpr z
      unfold col at h1
      rw [e] at h1
      exact h2 h1
    · have := nn s.pt
      rw [h1] at h2
      omega
    · obtain ⟨x, y, k⟩ := s
      show (x, y, col m (x, y)) = (x, y, k)
      rw [show k = col m (x, y) from h1]
theorem flt_snoc (m : CM) (l : List Pt) (p : Pt) : fltF m (l ++ [p]) = fltF m l ++ (if 0 < col m p then [sqAt m p] else []) := by
  unfold fltF
  rw [List.filter_append, List.map_append]
  by_cases h : 0 < col m p
  · rw [if_pos h, show ([p].filter fun p => decide (0 < col m p)) = [p] from List.filter_cons_of_pos (decide_eq_true h)]
    rfl
  · rw [if_neg h, show ([p].filter fun p => decide (0 < col m p)) = [] from List.filter_cons_of_neg (fun z => h (of_decide_eq_true z))]
    rfl
theorem catA_of {K : PySem.W.Frag} {H : Hp} {a b : Addr} {xs ys : List V} {Q : VK} (ha : SqT K H a xs) (hb : SqT K H b ys) (h1 : xs ≠ []) (h2 : ys ≠ []) (hz : xs.length + ys.length ≤ sizeLine) (q : ∀ p, H p = none → Q (.ref p) (upd H p (.tup (xs ++ ys)))) : rCatA K (.ref a) (.ref b) H Q :=
  ⟨a, b, xs, ys, rfl, rfl, ha, hb, hz, fun z => absurd z h1, fun _ z => absurd z h2, fun _ _ => q⟩
theorem put_mem2 : ∀ {m : CM} {p : Pt} {c : Int} {e : Pt × Int}, e ∈ putM m p c → e ∈ m ∨ e = (p, c)
  | [], p, c, e, h => .inr (List.mem_singleton.mp h)
  | a :: r, p, c, e, h => by
    unfold putM at h
    by_cases q : a.1 = p
    · rw [if_pos q] at h
      rcases List.mem_cons.mp h with z | z
      · exact .inr (by rw [z, q])
      · exact .inl (List.mem_cons_of_mem _ z)
    · rw [if_neg q] at h
      rcases List.mem_cons.mp h with z | z
      · exact .inl (z ▸ List.mem_cons_self)
      · exact (put_mem2 z).imp (List.mem_cons_of_mem _) id
def spLFloor (K : PySem.W.Frag) : Sp := fun vs H Q _ => ∃ (c : Addr) (m : CM), vs = [.ref c] ∧ H c = some (.dT (cellK m)) ∧ (m.map (·.1)).Nodup ∧ (∀ p, 0 ≤ col m p) ∧ m.length ≤ 900 ∧ ∀ v H' F, FloorOf (col m) F → Tp K H' v (floorD F) → Same H H' → Q v H'
def spSomeFloor (K : PySem.W.Frag) : Sp := fun vs H Q _ => ∃ (r : Addr) (c : Nat) (mo : Int), vs = [.ref r, .int c, .int mo] ∧ Row K H r ∧ 2 ≤ c ∧ c ≤ 6 ∧ 0 ≤ mo ∧ mo ≤ 9 ∧ ∀ v H' F, FlOk c 3 F → F.length ≤ mo.toNat → Tp K H' v (floorD F) → Row K H' r → KeepB r H H' → Q v H'
theorem cell_keys (m : CM) : (cellK m).map (·.1) = (m.map fun e => [e.1.1, e.1.2]).map fun k : List Int => k.map Sum.inl := by
  unfold cellK
  rw [List.map_map, List.map_map]
  rfl
theorem look_some {m : CM} {p : Pt} (h : p ∈ m.map (·.1)) : look m p = some (col m p) := by
  unfold col
  cases e : look m p with
  | none => exact absurd h (look_none.mp e)
  | some x => rfl

section
variable {P : Program} {w : World} {K : PySem.W.Frag} {mg : Str → Option Value} {base : Heap}
theorem ok_law_floor (T : Txt K mg) (D : DefAt K mg "_law_floor" s_law_floor ["cells"]) : Cal P w K mg base CX0 "_law_floor" 1 ["cells"] (spLFloor K) := by
  refine D.cal sc_law_floor (fun vs H Q E h => ?_) (fun f cdv A outer s H vs Q E hr h => ?_)
  · obtain ⟨c, m, rfl, _⟩ := h
    rfl
  · obtain ⟨c, m, rfl, hc, nd, nn, hl, q⟩ := h
    refine ⟨_, (pss_one (ps_ret (pe_callTy (k_tuple_l (K := K)) (by rfl) T.m_tuple (by decide +kernel) (pa_cons (pe_lc (own := [("place", 1)]) (g := gName 1) rfl sc_law_floor.nd (k_pi_list (K := K) (pe_sKT rfl (by rfl) T.m_sorted (by decide +kernel) (pv 0))) (blkOk_by (by rfl)) (fun _ _ _ _ _ => (pg_name (i := 1) sc_law_floor.nd rfl (Or.inl rfl))) (fun _ _ _ _ _ => pts_one (pt_cmpR op_gt (pe_dget (hu_of hr) (pv 0) (pv 1) (fun _ _ => rfl)) pe_int (nomark _))) (fun _ _ _ _ _ => (pe_op (k_catA (K := K)) (pv 1) (pe_tup (pa_cons (pe_dget (hu_of hr) (pv 0) (pv 1) (fun _ _ => rfl)) pa_nil))))) pa_nil)))), ?_⟩
    refine ⟨_, rfl, c, cellK m, m.map (fun e => [e.1.1, e.1.2]), rfl, hc, cell_keys m, fun k hk => ?_, fun p bs np pm pw tb => ?_⟩
    · obtain ⟨e, _, rfl⟩ := List.mem_map.mp hk
      intro z
      cases z
    · obtain ⟨ps, ep, asc, mem, lp⟩ := sorted_keys nd pm pw
      have s1 : Same H (upd H p (.lst (bs.map fun b => .ref b.1))) := Same.new np
      have hp1 : (upd H p (.lst (bs.map fun b => .ref b.1))) p = some (.lst (bs.map fun b => .ref b.1)) := upd_same
      generalize hH1 : upd H p (.lst (bs.map fun b => .ref b.1)) = H1 at s1 hp1
      have lb : bs.length = ps.length := by
        have z := congrArg List.length ep
        rw [List.length_map, List.length_map] at z
        exact z
      walk_at "st"
      intro M nM
      refine lc_it (walk_list (K := K) (a := p) (xs := bs.map fun b => .ref b.1)) (fun j H2 => Ok (Same H1 H2 ∧ ∃ us, H2 M = some (.lst us) ∧ us.length ≤ j ∧ TpAll K H2 us ((fltF m (ps.take j)).map sqD))) ⟨Same.new nM, [], upd_same, Nat.le_refl _, .nil⟩ (fun j H2 _ ⟨s2, _⟩ => SqL.of (s2 _ _ hp1)) ?_ ?_
      · rintro j x H2 H3 hj ⟨s2, us, hM, lus, hus⟩ ⟨rfl, hx⟩
        rw [List.length_map] at hj
        have hjp : j < ps.length := by omega
        have hxb : x = .ref bs[j].1 := by
          rw [List.getElem?_map, List.getElem?_eq_getElem hj] at hx
          exact (Option.some.inj hx).symm
        have e2 : bs[j].2 = [ps[j].1, ps[j].2] := by
          have z : (bs.map (·.2))[j]? = (ps.map fun p : Pt => [p.1, p.2])[j]? := by rw [ep]
          rw [List.getElem?_map, List.getElem?_map, List.getElem?_eq_getElem hj, List.getElem?_eq_getElem hjp] at z
          exact Option.some.inj z
        have hb : H bs[j].1 = some (.tup [.int ps[j].1, .int ps[j].2]) := by
          rw [tb _ (List.getElem_mem hj), e2]
          rfl
        have tk := take_more (List.getElem?_eq_getElem hjp)
        have pin : ps[j] ∈ m.map (·.1) := (mem _).mp (List.getElem_mem hjp)
        have lk := look_some pin
        generalize bs[j].1 = b at *
        generalize ps[j] = pt at *
        subst hxb
        have s02 := Same.trans s1 s2
        have hb3 := s02 _ _ hb
        have hc3 := s02 _ _ hc
        have hg : DGet H3 c (.ref b) (some (.int (col m pt))) := .inr ⟨cellK m, ptK pt, b, .inl hc3, rfl, hb3, by rw [cell_val, lk]; rfl⟩
        walk_at "st"
        refine ite2 (fun e => ?_) (fun e => ?_)
        · have e := of_decide_eq_true e
          walk_at "st"
          intro t nt
          have s3 : Same H3 (upd H3 t (.tup [.int (col m pt)])) := Same.new nt
          refine catA_of (SqT.of (s3 _ _ hb3)) (SqT.of upd_same) (by intro z; cases z) (by intro z; cases z) (by show 3 ≤ sizeLine; decide) fun u nu => ?_
          have s4 : Same H3 (upd (upd H3 t (.tup [.int (col m pt)])) u (.tup ([.int pt.1, .int pt.2] ++ [.int (col m pt)]))) := Same.trans s3 (Same.new nu)
          have hM4 := s4 _ _ hM
          have hsz : us.length < sizeLine := small1000 (by omega)
          refine ⟨us, hM4, hsz, Same.fresh (Same.trans s2 s4) nM, us ++ [.ref u], upd_same, by rw [List.length_append]; exact Nat.succ_le_succ lus, ?_⟩
          rw [tk, flt_snoc, if_pos e, List.map_append]
          have t5 : TK (upd (upd H3 t (.tup [.int (col m pt)])) u (.tup ([.int pt.1, .int pt.2] ++ [.int (col m pt)]))) (upd (upd (upd H3 t (.tup [.int (col m pt)])) u (.tup ([.int pt.1, .int pt.2] ++ [.int (col m pt)]))) M (.lst (us ++ [.ref u]))) := TK.lst hM4
          exact TpAll.append (TpAll.mono ((Same.tk s4).trans t5) _ _ hus) (.cons (Tp.mono t5 _ _ (Tp.of_ints (ks := [pt.1, pt.2, col m pt]) (SqT.of upd_same))) .nil)
        · have e : ¬ 0 < col m pt := fun z => e (decide_eq_true z)
          refine ⟨s2, us, hM, Nat.le_succ_of_le lus, ?_⟩
          rw [tk, flt_snoc, if_neg e, List.append_nil]
          exact hus
      · rintro H2 ⟨s2, us, hM, lus, hus⟩
        rw [List.length_map, lb, List.take_length] at hus
        walk_at "st"
        intro l nl
        exact q _ _ (fltF m ps) (flt_floor asc mem nn) (.tup (SqT.of upd_same) (TpAll.mono (TK.new nl) _ _ hus)) (Same.trans (Same.trans s1 s2) (Same.new nl))
end

/-! ### the law's own walk -/
def spLStep (K : PySem.W.Frag) : Sp := fun vs H Q _ => ∃ (tv wv : V) (D : Addr) (T : List (List Ent)) (m : CM) (w : Wk) (c n : Nat) (B : Int), vs = [tv, .ref D, wv] ∧ Tp K H tv (tabD T) ∧ Tp K H wv (wkD w) ∧ H D = some (.dT (cellK m)) ∧ (m.map (·.1)).Nodup ∧ m.length ≤ 900 ∧ TabOk c n T ∧ Fit c n B (col m, w) ∧
  (stepW T (col m, w) = none → ∀ H', Same H H' → Q .non H') ∧ (∀ z, stepW T (col m, w) = some z → ∀ v H' m', col m' = z.1 → (m'.map (·.1)).Nodup → m'.length ≤ m.length + 1 → (∀ p ∈ m'.map (·.1), p = wPt w ∨ p ∈ m.map (·.1)) → H' D = some (.dT (cellK m')) → Tp K H' v (wkD z.2) → KeepE [D] H H' → Q v H')
theorem put_keys2 : ∀ {m : CM} {p : Pt} {c : Int}, ∀ q ∈ (putM m p c).map (·.1), q = p ∨ q ∈ m.map (·.1)
  | [], p, c, q, h => by
    have h : q ∈ [p] := h
    exact .inl (List.mem_singleton.mp h)
  | e :: r, p, c, q, h => by
    unfold putM at h
    by_cases z : e.1 = p
    · rw [if_pos z] at h
      rcases List.mem_cons.mp h with g | g
      · exact .inl (g.trans (by first | exact z | rfl))
      · exact .inr (List.mem_cons_of_mem _ g)
    · rw [if_neg z, List.map_cons] at h
      rcases List.mem_cons.mp h with g | g
      · exact .inr (by rw [g]; exact List.mem_cons_self)
      · rcases put_keys2 q g with y | y
        · exact .inl y
        · exact .inr (List.mem_cons_of_mem _ y)
section
variable {P : Program} {w : World} {K : PySem.W.Frag} {mg : Str → Option Value} {base : Heap}
theorem ok_law_step (T : Txt K mg) (D : DefAt K mg "_law_step" s_law_step ["table", "cells", "walker"]) (C_law_ahead : Cal P w K mg base CX0 "_law_ahead" 1 ["place", "heading"] (spLAhead K)) : Cal P w K mg base CX0 "_law_step" 2 ["table", "cells", "walker"] (spLStep K) := by
  refine D.cal sc_law_step (fun vs H Q E h => ?_) (fun f cdv A outer s H vs Q E hr h => ?_)
  · obtain ⟨tv, wv, D, T, m, wk, c, n, B, rfl, _⟩ := h
    rfl
  · obtain ⟨tv, wv, D, Tb, m, wk, c, n, B, rfl, ht, hw, hD, nd, lm, ok, fit, q0, q1⟩ := h
    refine ⟨_, (pss_cons (ps_set (i := 3) sc_law_step.nd rfl (Or.inl rfl) (pe_slice (k_sl_tup (K := K)) (pv 2) po_none (po_some pe_int)))
      (pss_cons (ps_set (i := 4) sc_law_step.nd rfl (Or.inl rfl) (pe_ix (k_ix_tup (K := K)) (pe_ix (k_ix_tup (K := K)) (pv 0) (pe_ix (k_ix_tup (K := K)) (pv 2) pe_int (fun _ _ => rfl)) (fun _ _ => rfl)) (pe_dget2 (hu_of hr) (pv 1) (pv 3) pe_int (by exact ⟨rfl, rfl, rfl, rfl⟩)) (fun _ _ => rfl)))
      (pss_cons (ps_if (pt_cmpR op_isN (pv 4) pe_non (nomark _)) (pss_one (ps_ret pe_non)) pss_nil)
      (pss_cons (ps_dput (hu_of hr) (pv 1) (pv 3) (pe_ix (k_ix_tup (K := K)) (pv 4) pe_int (fun _ _ => rfl)) (by rfl))
      (pss_cons (ps_set (i := 5) sc_law_step.nd rfl (Or.inl rfl) (pe_op op_mod (pe_callTy call_int_i (by rfl) T.m_int (by decide +kernel) (pa_cons (pe_op op_add (pe_ix (k_ix_tup (K := K)) (pv 2) pe_int (fun _ _ => rfl)) (pe_ix (k_ix_tup (K := K)) (pv 4) pe_int (fun _ _ => rfl))) pa_nil)) pe_int))
      (pss_one (ps_ret (pe_op (k_catA (K := K)) (pe_own C_law_ahead hr (by first | decide | omega) (pa_cons (pv 3) (pa_cons (pv 5) pa_nil))) (pe_tup (pa_cons (pv 5) (pa_cons (pe_ix (k_ix_tup (K := K)) (pv 4) pe_int (fun _ _ => rfl)) pa_nil))))))))))), ?_⟩
    obtain ⟨wa, rfl, hsw⟩ := hw.int4
    have cg := col_get m (wPt wk)
    have cb := fit.cols (wPt wk)
    have stb := fit.st
    have dD := isD_dT hD
    walk_at "st"
    intro p np
    have s1 : Same H (upd H p (.tup [.int wk.1, .int wk.2.1])) := Same.new np
    have hp1 : (upd H p (.tup [.int wk.1, .int wk.2.1])) p = some (.tup [.int wk.1, .int wk.2.1]) := upd_same
    have hg : DGet (upd H p (.tup [.int wk.1, .int wk.2.1])) D (.ref p) (valV (cellK m) (ptK (wPt wk))) := DGet.t (s1 _ _ hD) upd_same
    generalize hH1 : upd H p (.tup [.int wk.1, .int wk.2.1]) = H1 at s1 hp1 hg
    rw [show (upd H p (.tup (cutV [.int wk.1, .int wk.2.1, .int wk.2.2.1, .int wk.2.2.2] none (some 2)))) = H1 from hH1]
    have hD1 := s1 _ _ hD
    have hsw1 := TK.seqT (Same.tk s1) hsw
    have dD1 := isD_dT hD1
    obtain ⟨ta, tvs, rb, rws, ev, rfl, h1, h2, h3, h4, h5⟩ := tab_get ok stb cb (Tp.mono (Same.tk s1) _ _ ht)
    rw [cell_val] at hg
    walk_at "st"
    cases he : entAt Tb wk.2.2.2 (col m (wPt wk)) with
    | none =>
      have h5 : Tp K H1 ev (entD none) := he ▸ h5
      obtain rfl := h5.nonI
      walk_at "st"
      exact q0 (step_none he) _ s1
    | some e =>
      have h5 : Tp K H1 ev (entD (some e)) := he ▸ h5
      obtain ⟨u, rfl, hse⟩ := h5.int3
      have hsz : (cellK m).length < sizeLine := by
        rw [cell_len]
        exact small1000 (by omega)
      have hw2 : DPut H1 D (.ref p) (.int e.1) (upd H1 D (.dT (putK (cellK m) (ptK (wPt wk)) (.int e.1)))) := DPut.t hD1 hp1 hsz
      have t2 : TK H1 (upd H1 D (.dT (putK (cellK m) (ptK (wPt wk)) (.int e.1)))) := TK.dT hD1
      have hsw2 := t2.seqT hsw1
      have hse2 := t2.seqT hse
      have npD : p ≠ D := ne_of hp1 hD1 (by intro z; cases z)
      have hp2 : SqT K (upd H1 D (.dT (putK (cellK m) (ptK (wPt wk)) (.int e.1)))) p [.int wk.1, .int wk.2.1] := SqT.of (by rw [upd_ne npD]; exact hp1)
      have hD2 : (upd H1 D (.dT (putK (cellK m) (ptK (wPt wk)) (.int e.1)))) D = some (.dT (cellK (putM m (wPt wk) e.1))) := by rw [upd_same, cell_put _ _ nd]
      have k2 : KeepE [D] H (upd H1 D (.dT (putK (cellK m) (ptK (wPt wk)) (.int e.1)))) := (Same.keepE s1).trans (KeepE.put List.mem_cons_self)
      have g0 : 0 ≤ (wk.2.2.1 + e.2.1) % 4 := Int.emod_nonneg _ (by decide)
      have g1 : (wk.2.2.1 + e.2.1) % 4 < 4 := Int.emod_lt_of_pos _ (by decide)
      walk_at "st"
      intro pa H3 hpa s3
      have hD3 := s3 _ _ hD2
      have hse3 := TK.seqT (Same.tk s3) hse2
      walk_at "st"
      intro t nt
      have s4 : Same H3 (upd H3 t (.tup [.int ((wk.2.2.1 + e.2.1) % 4), .int e.2.2])) := Same.new nt
      refine catA_of (SqT.of (s4 _ _ hpa)) (SqT.of upd_same) (by intro z; cases z) (by intro z; cases z) (by show 4 ≤ sizeLine; decide) fun u2 nu2 => ?_
      have s5 := Same.trans s4 (Same.new (o := .tup ([.int (wk.1 + dxI ((wk.2.2.1 + e.2.1) % 4)), .int (wk.2.1 + dyI ((wk.2.2.1 + e.2.1) % 4))] ++ [.int ((wk.2.2.1 + e.2.1) % 4), .int e.2.2])) nu2)
      exact q1 _ (step_some he) (.ref u2) _ (putM m (wPt wk) e.1) (put_col _ _ _) (nd_put _ _ nd) (len_put _ _ _) put_keys2 (s5 _ _ hD3) (Tp.of_ints (ks := [_, _, _, _]) (SqT.of upd_same)) (k2.trans (Same.keepE (Same.trans s3 s5)))
end

/-! ### equal, and of the same structure -/
def okD : Nat → PyData → Prop
  | 0, _ => False
  | n + 1, .list ds => ds.length ≤ 5000 ∧ ∀ d ∈ ds, okD n d
  | n + 1, .tuple ds => ds.length ≤ 5000 ∧ ∀ d ∈ ds, okD n d
  | _ + 1, .dict _ => False
  | _ + 1, _ => True
def spAlike (K : PySem.W.Frag) (n : Nat) : Sp := fun vs H Q _ => ∃ (u v : V) (d : PyData), vs = [u, v] ∧ Dp K H u d ∧ Dp K H v d ∧ okD n d ∧ ∀ H', Same H H' → Q (.bl true) H'
section
variable {K : PySem.W.Frag} {H : Hp}
theorem DpAll.length : ∀ {vs : List V} {ds : List PyData}, DpAll K H vs ds → vs.length = ds.length
  | [], [], _ => rfl
  | _ :: _, [], h => by cases h
  | [], _ :: _, h => by cases h
  | v :: vs, d :: ds, h => by
    cases h with
    | cons h1 h2 =>
      show vs.length + 1 = ds.length + 1
      rw [DpAll.length h2]
theorem DpAll.get : ∀ {vs : List V} {ds : List PyData} {i : Nat} {d : PyData}, DpAll K H vs ds → ds[i]? = some d → ∃ v, vs[i]? = some v ∧ Dp K H v d
  | [], [], _, _, _, e => by simp at e
  | _ :: _, [], _, _, h, _ => by cases h
  | [], _ :: _, _, _, h, _ => by cases h
  | v :: vs, d :: ds, 0, _, h, e => by
    cases h with
    | cons h1 h2 =>
      have e : d = _ := Option.some.inj e
      subst e
      exact ⟨v, rfl, h1⟩
  | v :: vs, d :: ds, i + 1, _, h, e => by
    cases h with
    | cons h1 h2 => exact DpAll.get (i := i) h2 e
theorem SqA.same {H' : Hp} {a : Addr} {xs : List V} (s : Same H H') (h : SqL K H a xs ∨ SqT K H a xs) : SqL K H' a xs ∨ SqT K H' a xs := by
  rcases h with h | h
  · exact .inl (s.seq h)
  · exact .inr (TK.seqT (Same.tk s) h)
end
section
variable {P : Program} {w : World} {K : PySem.W.Frag} {mg : Str → Option Value} {base : Heap}
theorem ok_law_alike (T : Txt K mg) (D : DefAt K mg "_law_alike" s_law_alike ["found", "due"]) : ∀ n : Nat, Cal P w K mg base CX0 "_law_alike" (n + 1) ["found", "due"] (spAlike K n)
  | 0 => by
    refine D.cal sc_law_alike (fun vs H Q E h => ?_) (fun f cdv A outer s H vs Q E hr h => ?_)
    · obtain ⟨u, v, d, _, _, _, z, _⟩ := h
      exact z.elim
    · obtain ⟨u, v, d, _, _, _, z, _⟩ := h
      exact z.elim
  | n + 1 => by
    have C_law_alike := ok_law_alike T D n
    refine D.cal sc_law_alike (fun vs H Q E h => ?_) (fun f cdv A outer s H vs Q E hr h => ?_)
    · obtain ⟨u, v, d, rfl, _⟩ := h
      rfl
    · obtain ⟨u, v, d, rfl, hu, hv, hd, q⟩ := h
      refine ⟨_, (pss_cons (ps_if (pt_val (pe_callB (k_isT2 (K := K)) (by rfl) T.m_isinstance (by decide +kernel) (pa_cons (pv 1) (pa_cons (pe_tup (pa_cons (pe_ty "tuple" (by rfl) T.m_tuple (by decide +kernel)) (pa_cons (pe_ty "list" (by rfl) T.m_list (by decide +kernel)) pa_nil))) pa_nil)))) (pss_cons (ps_if (PW.pt (pw_or (pt_not (pt_val (pe_callB (k_isT2 (K := K)) (by rfl) T.m_isinstance (by decide +kernel) (pa_cons (pv 0) (pa_cons (pe_tup (pa_cons (pe_ty "tuple" (by rfl) T.m_tuple (by decide +kernel)) (pa_cons (pe_ty "list" (by rfl) T.m_list (by decide +kernel)) pa_nil))) pa_nil))))) (pw_or1 (pt_cmpR op_ne (pe_callB (k_isN (K := K)) (by rfl) T.m_isinstance (by decide +kernel) (pa_cons (pv 0) (pa_cons (pe_ty "list" (by rfl) T.m_list (by decide +kernel)) pa_nil))) (pe_callB (k_isN (K := K)) (by rfl) T.m_isinstance (by decide +kernel) (pa_cons (pv 1) (pa_cons (pe_ty "list" (by rfl) T.m_list (by decide +kernel)) pa_nil))) (nomark _))))) (pss_one (ps_ret pe_bl)) pss_nil)
        (pss_cons (ps_if (pt_cmpR op_ne (pe_callB (k_len_seq (K := K)) (by rfl) T.m_len (by decide +kernel) (pa_cons (pv 0) pa_nil)) (pe_callB (k_len_seq (K := K)) (by rfl) T.m_len (by decide +kernel) (pa_cons (pv 1) pa_nil)) (nomark _)) (pss_one (ps_ret pe_bl)) pss_nil)
        (pss_one (ps_ret (pe_cmpR (k_eqD (K := K) hr.units) (pe_lc (own := [("k", 2)]) (g := gName 2) rfl sc_law_alike.nd (pi_range1 (by rfl) T.m_range (pa_cons (pe_callB (k_len_seq (K := K)) (by rfl) T.m_len (by decide +kernel) (pa_cons (pv 1) pa_nil)) pa_nil)) (blkOk_by (by rfl)) (fun _ _ _ _ _ => (pg_name (i := 2) sc_law_alike.nd rfl (Or.inl rfl))) (fun _ _ _ _ _ => pts_one (pt_not (pt_val (pe_own C_law_alike hr (by first | decide | omega) (pa_cons (pe_ix (k_ix_seq (K := K)) (pv 0) (pv 2) (fun _ _ => rfl)) (pa_cons (pe_ix (k_ix_seq (K := K)) (pv 1) (pv 2) (fun _ _ => rfl)) pa_nil)))))) (fun _ _ _ _ _ => (pv 2))) (pe_lst pa_nil) (nomark _)))))) pss_nil)
        (pss_cons (ps_if (PW.pt (pw_or (pt_cmpR op_isN (pv 1) pe_non (nomark _)) (pw_or1 (pt_val (pe_callB (k_isN (K := K)) (by rfl) T.m_isinstance (by decide +kernel) (pa_cons (pv 1) (pa_cons (pe_ty "str" (by rfl) T.m_str (by decide +kernel)) pa_nil))))))) (pss_one (ps_ret (pe_and (pe_cmpR op_eq (pv 0) (pv 1) (nomark _)) (pe_one (pe_cmpR op_eq (pe_callB (k_isN (K := K)) (by rfl) T.m_isinstance (by decide +kernel) (pa_cons (pv 0) (pa_cons (pe_ty "str" (by rfl) T.m_str (by decide +kernel)) pa_nil))) (pe_callB (k_isN (K := K)) (by rfl) T.m_isinstance (by decide +kernel) (pa_cons (pv 1) (pa_cons (pe_ty "str" (by rfl) T.m_str (by decide +kernel)) pa_nil))) (nomark _)))))) pss_nil)
        (pss_one (ps_ret (pe_and (pe_callB (k_isN (K := K)) (by rfl) T.m_isinstance (by decide +kernel) (pa_cons (pv 0) (pa_cons (pe_ty "int" (by rfl) T.m_int (by decide +kernel)) pa_nil))) (pe_and (pe_cmpR op_eq (pe_callB (k_isN (K := K)) (by rfl) T.m_isinstance (by decide +kernel) (pa_cons (pv 0) (pa_cons (pe_ty "bool" (by rfl) T.m_bool (by decide +kernel)) pa_nil))) (pe_callB (k_isN (K := K)) (by rfl) T.m_isinstance (by decide +kernel) (pa_cons (pv 1) (pa_cons (pe_ty "bool" (by rfl) T.m_bool (by decide +kernel)) pa_nil))) (nomark _)) (pe_one (pe_cmpR op_eq (pv 0) (pv 1) (nomark _))))))))), ?_⟩
      cases d with
      | dict _ => exact hd.elim
      | none =>
        cases hu
        cases hv
        walk_at "st"
        intro p np
        walk_at "st"
        exact q _ (Same.new np)
      | bool b =>
        cases hu
        cases hv
        walk_at "st"
        intro p np
        cases b
        · walk_at "st"
          exact q _ (Same.new np)
        · walk_at "st"
          exact q _ (Same.new np)
      | int i =>
        cases hu
        cases hv
        walk_at "st"
        intro p np
        walk_at "st"
        have q' := q _ (Same.new (o := .tup [.ty "tuple", .ty "list"]) np)
        rw [show true = decide (V.int i = V.int i) from (decide_eq_true rfl).symm] at q'
        exact q'
      | str x =>
        cases hu
        cases hv
        walk_at "st"
        intro p np
        walk_at "st"
        refine ite2 (fun _ => ?_) (fun e => absurd (decide_eq_true rfl) e)
        walk_at "st"
        exact q _ (Same.new np)
      | list ds =>
        cases hu with
        | @lst a us _ hsu hau =>
          cases hv with
          | @lst b ws _ hsv hav =>
            have hlu := DpAll.length hau
            have hlv := DpAll.length hav
            walk_at "st"
            intro p np
            have s1 : Same H (upd H p (.tup [.ty "tuple", .ty "list"])) := Same.new np
            have hsu1 := SqA.same s1 (Or.inl hsu)
            have hsv1 := SqA.same s1 (Or.inl hsv)
            have tu1 := tyx_lst (s1.seq hsu)
            have tv1 := tyx_lst (s1.seq hsv)
            walk_at "st"
            intro p2 np2
            have s2 : Same H (upd (upd H p (.tup [.ty "tuple", .ty "list"])) p2 (.tup [.ty "tuple", .ty "list"])) := Same.trans s1 (Same.new np2)
            have hsu2 := SqA.same s2 (Or.inl hsu)
            have hsv2 := SqA.same s2 (Or.inl hsv)
            have tu2 := tyx_lst (s2.seq hsu)
            have tv2 := tyx_lst (s2.seq hsv)
            obtain ⟨H2, hH2⟩ : ∃ H2, H2 = (upd (upd H p (.tup [.ty "tuple", .ty "list"])) p2 (.tup [.ty "tuple", .ty "list"])) := ⟨_, rfl⟩
            walk_at "st"
            refine ite2 (fun e => absurd (by rw [hlu, hlv]) (ne_tr e)) (fun _ => ?_)
            have hln := hd.1
            walk_at "st"
            intro L nL
            refine lc_range (lo := 0) (n := (ws.length : Int).toNat) (fun i H' => Ok (Same H H' ∧ H' L = some (.lst []))) ⟨Same.trans s2 (Same.new nL), upd_same⟩ ?_ ?_
            · rintro i H' hi ⟨s3, hL⟩
              have hi' : i < ds.length := by omega
              obtain ⟨x, ex, hx⟩ := DpAll.get hau (List.getElem?_eq_getElem hi')
              obtain ⟨y, ey, hy⟩ := DpAll.get hav (List.getElem?_eq_getElem hi')
              have hsu3 := SqA.same s3 (Or.inl hsu)
              have hsv3 := SqA.same s3 (Or.inl hsv)
              have ax := atI_nat ex
              have ay := atI_nat ey
              rw [← Int.zero_add ((i : Nat) : Int)] at ax ay
              have hx3 := Dp.mono s3 _ _ hx
              have hy3 := Dp.mono s3 _ _ hy
              have hdi := hd.2 _ (List.getElem_mem hi')
              walk_at "st"
              intro H4 s4
              walk_at "st"
              exact ⟨Same.trans s3 s4, s4 _ _ hL⟩
            · rintro H' ⟨s3, hL⟩
              walk_at "st"
              intro M nM
              have z : PyData.eqv (.list []) (.list []) = true := rfl
              have q' := q _ (Same.trans s3 (Same.new (o := .lst []) nM))
              have hL2 : (upd H' M (.lst [])) L = some (.lst []) := Same.new nM _ _ hL
              exact ⟨.list [], .list [], .lst (SqL.of hL2) .nil, .lst (SqL.of upd_same) .nil, rfl, rfl, by rw [z]; exact q'⟩
      | tuple ds =>
        cases hu with
        | @tup a us _ hsu hau =>
          cases hv with
          | @tup b ws _ hsv hav =>
            have hlu := DpAll.length hau
            have hlv := DpAll.length hav
            walk_at "st"
            intro p np
            have s1 : Same H (upd H p (.tup [.ty "tuple", .ty "list"])) := Same.new np
            have hsu1 := SqA.same s1 (Or.inr hsu)
            have hsv1 := SqA.same s1 (Or.inr hsv)
            have tu1 := tyx_tup (TK.seqT (Same.tk s1) hsu)
            have tv1 := tyx_tup (TK.seqT (Same.tk s1) hsv)
            walk_at "st"
            intro p2 np2
            have s2 : Same H (upd (upd H p (.tup [.ty "tuple", .ty "list"])) p2 (.tup [.ty "tuple", .ty "list"])) := Same.trans s1 (Same.new np2)
            have hsu2 := SqA.same s2 (Or.inr hsu)
            have hsv2 := SqA.same s2 (Or.inr hsv)
            have tu2 := tyx_tup (TK.seqT (Same.tk s2) hsu)
            have tv2 := tyx_tup (TK.seqT (Same.tk s2) hsv)
            obtain ⟨H2, hH2⟩ : ∃ H2, H2 = (upd (upd H p (.tup [.ty "tuple", .ty "list"])) p2 (.tup [.ty "tuple", .ty "list"])) := ⟨_, rfl⟩
            walk_at "st"
            refine ite2 (fun e => absurd (by rw [hlu, hlv]) (ne_tr e)) (fun _ => ?_)
            have hln := hd.1
            walk_at "st"
            intro L nL
            refine lc_range (lo := 0) (n := (ws.length : Int).toNat) (fun i H' => Ok (Same H H' ∧ H' L = some (.lst []))) ⟨Same.trans s2 (Same.new nL), upd_same⟩ ?_ ?_
            · rintro i H' hi ⟨s3, hL⟩
              have hi' : i < ds.length := by omega
              obtain ⟨x, ex, hx⟩ := DpAll.get hau (List.getElem?_eq_getElem hi')
              obtain ⟨y, ey, hy⟩ := DpAll.get hav (List.getElem?_eq_getElem hi')
              have hsu3 := SqA.same s3 (Or.inr hsu)
              have hsv3 := SqA.same s3 (Or.inr hsv)
              have ax := atI_nat ex
              have ay := atI_nat ey
              rw [← Int.zero_add ((i : Nat) : Int)] at ax ay
              have hx3 := Dp.mono s3 _ _ hx
              have hy3 := Dp.mono s3 _ _ hy
              have hdi := hd.2 _ (List.getElem_mem hi')
              walk_at "st"
              intro H4 s4
              walk_at "st"
              exact ⟨Same.trans s3 s4, s4 _ _ hL⟩
            · rintro H' ⟨s3, hL⟩
              walk_at "st"
              intro M nM
              have z : PyData.eqv (.list []) (.list []) = true := rfl
              have q' := q _ (Same.trans s3 (Same.new (o := .lst []) nM))
              have hL2 : (upd H' M (.lst [])) L = some (.lst []) := Same.new nM _ _ hL
              exact ⟨.list [], .list [], .lst (SqL.of hL2) .nil, .lst (SqL.of upd_same) .nil, rfl, rfl, by rw [z]; exact q'⟩
end

/-! ### what the law of rings keeps -/
theorem FloorOf.fn {f g : Pt → Int} {F : List Sq} (h : FloorOf f F) (h' : FloorOf g F) : f = g := by
  funext p
  have key : ∀ {f g : Pt → Int}, FloorOf f F → FloorOf g F → f p ≠ 0 → g p = f p := fun {f g} h h' z => by
    have m : (p.1, p.2, f p) ∈ F := (h.mem _).mpr ⟨rfl, z⟩
    exact ((h'.mem _).mp m).1.symm
  by_cases z : f p = 0
  · by_cases y : g p = 0
    · rw [z, y]
    · exact key h' h y
  · exact (key h h' z).symm
theorem nk_sq (s : Sq) : nkOf (sqD s) = .tup [.num s.1, .num s.2.1, .num s.2.2] := by
  unfold sqD
  simp only [nkOf, nkAll]
theorem nk_sqs_inj : ∀ F G : List Sq, nkAll (F.map sqD) = nkAll (G.map sqD) → F = G
  | [], [], _ => rfl
  | [], _ :: _, h => by simp only [List.map_nil, List.map_cons, nkAll] at h; cases h
  | _ :: _, [], h => by simp only [List.map_nil, List.map_cons, nkAll] at h; cases h
  | s :: F, t :: G, h => by
    simp only [List.map_cons, nkAll, nk_sq] at h
    injection h with h1 h2
    injection h1 with h1
    injection h1 with a1 h1
    injection h1 with a2 h1
    injection h1 with a3 _
    injection a1 with a1
    injection a2 with a2
    injection a3 with a3
    rw [nk_sqs_inj F G h2, show s = t from Prod.ext a1 (Prod.ext a2 a3)]
theorem nk_floor_inj {F G : List Sq} (h : nkOf (floorD F) = nkOf (floorD G)) : F = G := by
  unfold floorD at h
  simp only [nkOf] at h
  injection h with h
  exact nk_sqs_inj F G h
theorem nk_sqs_dep : ∀ F : List Sq, NestedKey.depthAll (nkAll (F.map sqD)) ≤ 1
  | [] => by simp [nkAll, NestedKey.depthAll]
  | s :: F => by
    have b := nk_sqs_dep F
    simp only [List.map_cons, nkAll, nk_sq, NestedKey.depthAll, NestedKey.depth]
    omega
theorem nk_step (F : List Sq) (u : Wk) : nkOf (stepD F u) = .tup [nkOf (floorD F), nkOf (wkD u)] := by
  unfold stepD
  simp only [nkOf, nkAll]
theorem nk_step_dep (F : List Sq) (u : Wk) : (nkOf (stepD F u)).depth ≤ 8 := by
  have b := nk_sqs_dep F
  rw [nk_step, nk_wk]
  unfold floorD
  simp only [nkOf, NestedKey.depth, NestedKey.depthAll]
  omega
theorem nk_step_inj {F G : List Sq} {u v : Wk} (h : nkOf (stepD F u) = nkOf (stepD G v)) : F = G ∧ u = v := by
  rw [nk_step, nk_step] at h
  injection h with h
  injection h with a1 h
  injection h with a2 _
  exact ⟨nk_floor_inj a1, nk_wk_inj a2⟩
open Classical in
/-- the one floor of a colouring that has one -/
noncomputable def flr (f : Pt → Int) : List Sq := if h : ∃ F, FloorOf f F then h.choose else []
theorem flr_of {f : Pt → Int} {F : List Sq} (h : FloorOf f F) : flr f = F := by
  have e : ∃ F, FloorOf f F := ⟨F, h⟩
  unfold flr
  rw [dif_pos e]
  exact e.choose_spec.uniq h
noncomputable def kfL (z : WSt) : NestedKey := nkOf (stepD (flr z.1) z.2)
theorem kfL_of {z : WSt} {F : List Sq} (h : FloorOf z.1 F) : kfL z = nkOf (stepD F z.2) := by
  unfold kfL
  rw [flr_of h]
theorem kfL_inj {z z' : WSt} (h : ∃ F, FloorOf z.1 F) (h' : ∃ F, FloorOf z'.1 F) (e : kfL z' = kfL z) : z' = z := by
  obtain ⟨F, hF⟩ := h
  obtain ⟨G, hG⟩ := h'
  rw [kfL_of hF, kfL_of hG] at e
  obtain ⟨rfl, e2⟩ := nk_step_inj e
  exact Prod.ext (hG.fn hF) e2
/-- keys of a dict that lie on the ring are few -/
theorem ring_keys {m : CM} {wd hg : Nat} (nd : (m.map (·.1)).Nodup) (on : ∀ p ∈ m.map (·.1), onRing wd hg p) : m.length ≤ wd * hg := by
  have nd2 : ((m.map (·.1)).map (idxR wd)).Nodup := List.pairwise_map.mpr (List.Pairwise.imp_of_mem (fun {a b} ha hb ne e => ne (by rw [← (ptR_idx (on a ha)).1, ← (ptR_idx (on b hb)).1, e])) nd)
  have q := nodup_sub (B := List.range (wd * hg)) nd2 fun k hk => by
    obtain ⟨p, hp, rfl⟩ := List.mem_map.mp hk
    exact List.mem_range.mpr (ptR_idx (on p hp)).2
  rw [List.length_map, List.length_map, List.length_range] at q
  exact q
theorem len_of_ring {z : WSt} {c n wd hg : Nat} {F : List Sq} (h : FloorOf z.1 F) (r : InRing c n wd hg z) : F.length ≤ wd * hg := by
  have nd := asc_nd h.asc
  have q := ring_keys (m := cellsOf F) (wd := wd) (hg := hg) nd fun p hp => by
    obtain ⟨e, he, rfl⟩ := List.mem_map.mp hp
    obtain ⟨s, hs, rfl⟩ := List.mem_map.mp he
    have := (h.mem s).mp hs
    exact r.near _ (by rw [← this.1]; exact this.2)
  unfold cellsOf at q
  rw [List.length_map] at q
  exact q
/-- the stand that the law of rings draws -/
structure LRing (K : PySem.W.Frag) (H : Hp) (tv wv : V) (T : List (List Ent)) (c n wd hg : Nat) (u : Wk) : Prop where
  tab : TabOk c n T
  n1 : 1 ≤ n
  n2 : n ≤ 2
  c2 : 2 ≤ c
  c3 : c ≤ 3
  w1 : 1 ≤ wd
  w3 : wd ≤ 3
  h1 : 1 ≤ hg
  h2 : hg ≤ 2
  on : onRing wd hg (wPt u)
  hd : 0 ≤ u.2.2.1 ∧ u.2.2.1 < 4
  st : 0 ≤ u.2.2.2 ∧ u.2.2.2 < n
  tT : Tp K H tv (tabD T)
  tW : Tp K H wv (wkD u)
  tr : Trk H wv u
theorem LRing.mono {K : PySem.W.Frag} {H H' : Hp} {tv wv : V} {T : List (List Ent)} {c n wd hg : Nat} {u : Wk} (h : LRing K H tv wv T c n wd hg u) (t : TK H H') : LRing K H' tv wv T c n wd hg u := ⟨h.tab, h.n1, h.n2, h.c2, h.c3, h.w1, h.w3, h.h1, h.h2, h.on, h.hd, h.st, Tp.mono t _ _ h.tT, Tp.mono t _ _ h.tW, h.tr.mono t⟩
/-- squares that are drawn -/
structure DrawnR (m : CM) (c wd hg : Nat) : Prop where
  nd : (m.map (·.1)).Nodup
  on : ∀ p ∈ m.map (·.1), onRing wd hg p
  val : ∀ p, 0 ≤ col m p ∧ col m p < c
theorem col_on {m : CM} {wd hg : Nat} (on : ∀ p ∈ m.map (·.1), onRing wd hg p) : ∀ p, col m p ≠ 0 → onRing wd hg p := fun p h => by
  unfold col at h
  cases q : look m p with
  | none =>
    rw [q] at h
    exact absurd rfl h
  | some v => exact on p (List.mem_map.mpr ⟨(p, v), look_mem q, rfl⟩)
theorem DrawnR.ring {m : CM} {c n wd hg : Nat} {u : Wk} (h : DrawnR m c wd hg) (on : onRing wd hg (wPt u)) (hd : 0 ≤ u.2.2.1 ∧ u.2.2.1 < 4) (st : 0 ≤ u.2.2.2 ∧ u.2.2.2 < n) : InRing c n wd hg (col m, u) := ⟨h.val, col_on h.on, on, hd, st⟩
/-- the stands of the law's list -/
structure StandsR (K : PySem.W.Frag) (H : Hp) (f : Nat → Option WSt) (us : List V) : Prop where
  at_ : ∀ k v, us[k]? = some v → ∃ z F, f k = some z ∧ FloorOf z.1 F ∧ Tp K H v (stepD F z.2)
theorem StandsR.mono {K : PySem.W.Frag} {H H' : Hp} {f : Nat → Option WSt} {us : List V} (h : StandsR K H f us) (t : TK H H') : StandsR K H' f us := ⟨fun k v e => by
  obtain ⟨z, F, a, b, d⟩ := h.at_ k v e
  exact ⟨z, F, a, b, Tp.mono t _ _ d⟩⟩
theorem StandsR.nil {K : PySem.W.Frag} {H : Hp} {f : Nat → Option WSt} : StandsR K H f [] := ⟨fun k v e => by simp at e⟩
theorem StandsR.more {K : PySem.W.Frag} {H : Hp} {f : Nat → Option WSt} {us : List V} (h : StandsR K H f us) {z : WSt} {F : List Sq} {v : V} (e : f us.length = some z) (hF : FloorOf z.1 F) (t : Tp K H v (stepD F z.2)) : StandsR K H f (us ++ [v]) := ⟨fun k u hk => by
  rcases Nat.lt_or_ge k us.length with g | g
  · rw [List.getElem?_append_left g] at hk
    exact h.at_ k u hk
  · rw [List.getElem?_append_right g, List.getElem?_singleton] at hk
    split at hk
    · have hk := Option.some.inj hk
      subst hk
      have ek : k = us.length := by omega
      subst ek
      exact ⟨z, F, e, hF, t⟩
    · cases hk⟩
/-- how the law's loop has ended -/
def EndR (T : List (List Ent)) (wd hg : Nat) (z0 : WSt) (N : Nat) (sv : V) (z : WSt) : Prop :=
  (sv = .non ∧ runR T wd hg N z0 = some z ∧ ((∃ j, j < N ∧ runR T wd hg j z0 = some z) ∨ N = 20100)) ∨ (∃ s, N = s + 1 ∧ sv = .int (s : Int) ∧ runR T wd hg s z0 = some z ∧ stepR T wd hg z = none)
theorem DrawnR.nil (c wd hg : Nat) (c1 : 1 ≤ c) : DrawnR [] c wd hg := ⟨List.nodup_nil, fun p h => absurd h List.not_mem_nil, fun p => ⟨Int.le_refl _, by show (0 : Int) < c; omega⟩⟩
theorem DrawnR.put {m : CM} {c wd hg : Nat} (h : DrawnR m c wd hg) {x y v : Int} (hx : 0 ≤ x ∧ x < wd) (hy : 0 ≤ y ∧ y < hg) (v0 : 0 ≤ v) (v1 : v < c) : DrawnR (putM m (x, y) v) c wd hg := by
  refine ⟨nd_put _ _ h.nd, fun p hp => ?_, fun p => ?_⟩
  · rcases put_keys2 p hp with e | e
    · rw [e]
      exact ⟨hx, hy⟩
    · exact h.on p e
  · rw [put_col]
    unfold dab
    split
    · exact ⟨v0, v1⟩
    · exact h.val p
theorem tab0 {K : PySem.W.Frag} {H : Hp} {tv : V} {T : List (List Ent)} {c n : Nat} (ok : TabOk c n T) (n1 : 1 ≤ n) (ht : Tp K H tv (tabD T)) : ∃ (ta tb : Addr) (vs ws : List V), tv = .ref ta ∧ SqT K H ta (.ref tb :: vs) ∧ SqT K H tb ws ∧ ws.length = c ∧ vs.length + 1 = n := by
  cases T with
  | nil =>
    have := ok.1
    have e : ([] : List (List Ent)).length = 0 := rfl
    omega
  | cons r0 Tr =>
    obtain ⟨ta, vs, rfl, hta, hvs⟩ := ht.tupI
    obtain ⟨v0, vs2, rfl, h0, hv2⟩ := hvs.consI
    obtain ⟨tb, ws, rfl, htb, hws⟩ := h0.tupI
    refine ⟨ta, tb, vs2, ws, rfl, hta, htb, ?_, ?_⟩
    · rw [TpAll.length hws, List.length_map]
      exact (ok.2 r0 List.mem_cons_self).1
    · have l : vs2.length = (Tr.map rowD).length := TpAll.length hv2
      rw [List.length_map] at l
      have e : Tr.length + 1 = n := ok.1
      rw [l]
      exact e

/-! ### what the law of rings compares -/
theorem kit_self {K : PySem.W.Frag} {v : Value} : PySem.W.kitOne K v v = some true := if_pos (beq_self_eq_true v)
theorem okD_ints (n : Nat) (ks : List Int) (h : ks.length ≤ 5000) : okD (n + 2) (.tuple (ks.map PyData.int)) := by
  refine ⟨by rw [List.length_map]; exact h, fun d hd => ?_⟩
  obtain ⟨k, _, rfl⟩ := List.mem_map.mp hd
  trivial
theorem okD_floor (n : Nat) {F : List Sq} (h : F.length ≤ 5000) : okD (n + 3) (floorD F) := by
  refine ⟨by rw [List.length_map]; exact h, fun d hd => ?_⟩
  obtain ⟨s, _, rfl⟩ := List.mem_map.mp hd
  exact okD_ints n [s.1, s.2.1, s.2.2] (by show 3 ≤ 5000; decide)
theorem okD_wk (n : Nat) (w : Wk) : okD (n + 2) (wkD w) := okD_ints n [w.1, w.2.1, w.2.2.1, w.2.2.2] (by show 4 ≤ 5000; decide)
theorem okD_walk {F : List Sq} (w : Wk) (i : Nat) (h : F.length ≤ 5000) : okD 5 (walkD F w i) := by
  refine ⟨by show 3 ≤ 5000; decide, fun d hd => ?_⟩
  rcases List.mem_cons.mp hd with rfl | hd
  · exact okD_floor 1 h
  · rcases List.mem_cons.mp hd with rfl | hd
    · exact okD_wk 2 w
    · rw [List.mem_singleton.mp hd]
      trivial
theorem Tp.stepI {K : PySem.W.Frag} {H : Hp} {v : V} {F : List Sq} {w : Wk} (h : Tp K H v (stepD F w)) : ∃ a x y, v = .ref a ∧ SqT K H a [x, y] ∧ Tp K H x (floorD F) ∧ Tp K H y (wkD w) := by
  obtain ⟨a, xs, rfl, hs, h⟩ := h.tupI
  obtain ⟨x, xs2, rfl, h1, h2⟩ := h.consI
  obtain ⟨y, xs3, rfl, h3, h4⟩ := h2.consI
  obtain rfl := h4.nilI
  exact ⟨a, x, y, rfl, hs, h1, h3⟩
/-- where a walk on a ring is told to end there it ends -/
theorem ring_at {T : List (List Ent)} {wd hg : Int} {z0 zj z : WSt} {i j N : Nat} {many : Int} (hj : runR T wd hg j z0 = some zj) (cj : (many < (N : Int) ∧ (j : Int) = many) ∨ (stepR T wd hg zj = none ∧ (j : Int) ≤ many)) (hi : runR T wd hg i z0 = some z) (li : (i : Int) ≤ many) (ci : (i : Int) = many ∨ stepR T wd hg z = none) : i = j ∧ z = zj := by
  have no : ∀ {k : Nat} {y : WSt}, runR T wd hg k z0 = some y → stepR T wd hg y = none → runR T wd hg (k + 1) z0 = none := fun {k y} a b => by
    show (runR T wd hg k z0).bind _ = none
    rw [a]
    exact b
  have e : i = j := by
    rcases ci with ci | ci
    · rcases cj with ⟨_, cj⟩ | ⟨cj, lj⟩
      · omega
      · rcases Nat.lt_or_ge j i with g | g
        · have := runR_none (no hj cj) (show j + 1 ≤ i by omega)
          rw [hi] at this
          cases this
        · omega
    · have n1 := no hi ci
      rcases Nat.lt_or_ge i j with g | g
      · have := runR_none n1 (show i + 1 ≤ j by omega)
        rw [hj] at this
        cases this
      · rcases cj with ⟨_, cj⟩ | ⟨cj, lj⟩
        · omega
        · rcases Nat.lt_or_ge j i with g2 | g2
          · have := runR_none (no hj cj) (show j + 1 ≤ i by omega)
            rw [hi] at this
            cases this
          · omega
  subst e
  rw [hj] at hi
  exact ⟨rfl, (Option.some.inj hi).symm⟩

/-! ### the law -/
def spLaw (K : PySem.W.Frag) : Sp := fun vs H Q _ => ∃ (a : Addr) (ns : List Int), vs = [.ref a] ∧ Scr K H a ns ∧ ∀ H', Q (.bl true) H'
theorem next_seq {t u : TS} {D : L2.Ends} {rt : VK} {bk ct : L2.St → Hp → Prop} {σ : L2.St} {H : Hp} (h : tSeq t u D σ H) : tNext { nx := tSeq t u D, rt := rt, bk := bk, ct := ct } σ H := h
theorem gname_seq {i : Nat} {v : V} {t u : TS} {D : L2.Ends} {rt : VK} {bk ct : L2.St → Hp → Prop} {σ : L2.St} {H : Hp} (h : tSeq t u D (σ.set i (some v)) H) : gName i v σ H ({ nx := tSeq t u D, rt := rt, bk := bk, ct := ct } : L2.Ends).nx := h
theorem gname_of {i : Nat} {v : V} {σ : L2.St} {H : Hp} {k : L2.St → Hp → Prop} (h : k (σ.set i (some v)) H) : gName i v σ H k := h
theorem nx_seq {t u : TS} {D : L2.Ends} {rt : VK} {bk ct : L2.St → Hp → Prop} {σ : L2.St} {H : Hp} (h : tSeq t u D σ H) : ({ nx := tSeq t u D, rt := rt, bk := bk, ct := ct } : L2.Ends).nx σ H := h
theorem seq_assoc {t u v : TS} {D : L2.Ends} {σ : L2.St} {H : Hp} (h : tSeq (tSeq t u) v D σ H) : tSeq t (tSeq u v) D σ H := h
theorem nx_of {D : L2.Ends} {σ : L2.St} {H : Hp} (h : D.nx σ H) : tNext D σ H := h
theorem seq_cutO {t u : TS} {D : L2.Ends} {σ : L2.St} {H : Hp} (Pm : L2.St → Hp → Prop) (h2 : ∀ σ H, Pm σ H → u D σ H) (h1 : ∀ R : L2.St → Hp → Prop, (∀ σ H, Pm σ H → R σ H) → t { D with nx := R } σ H) : tSeq t u D σ H := h1 _ h2
theorem ifs_cut {t : TT} {a b : TS} {D : L2.Ends} {σ : L2.St} {H : Hp} (x : Bool) (ha : x = true → a D σ H) (hb : x = false → b D σ H) (hx : ∀ Q : Bool → Hp → Prop, Q x H → t σ H Q) : tIfS t a b D σ H := hx _ (by
  cases x with
  | true => exact ha rfl
  | false => exact hb rfl)
theorem sl44 {a b c d : V} : ¬ (HT.sIx ([a, b, c, d] : List V).length 0 (some 2) = 0 ∧ HT.sIx ([a, b, c, d] : List V).length ([a, b, c, d] : List V).length none = ([a, b, c, d] : List V).length) := by
  show ¬ (HT.sIx 4 0 (some 2) = 0 ∧ HT.sIx 4 4 none = 4)
  decide
section
variable {P : Program} {w : World} {K : PySem.W.Frag} {mg : Str → Option Value} {base : Heap}
local macro_rules | `(tactic| walk_at "cl") => `(tactic| first | (refine le_only ?_; omega) | (refine lt_only ?_; omega))
set_option maxHeartbeats 0 in
theorem ok_law {CT CW f : Addr} {fd : FuncData} (T : Txt K mg) (TI : ExcCls K mg "TooMany" CT) (gW : mg "WalkError" = some (.ref CW)) (hex : PySem.W.exmOne K (.ref CT) (.ref CW) = some true) (F : Fun K "law" "law" s_law f fd) (C_law_table : Cal P w K mg base CX0 "_law_table" 2 ["row"] (spTable K)) (C_law_undone_table : Cal P w K mg base CX0 "_law_undone_table" 2 ["row"] (spTable K)) (C_law_pick : Cal P w K mg base CX0 "_law_pick" 2 ["row", "things"] (spPick K)) (C_law_taken : Cal P w K mg base CX0 "_law_taken" 1 ["row", "many"] (spTaken K)) (C_law_floor : Cal P w K mg base CX0 "_law_floor" 1 ["cells"] (spLFloor K)) (C_law_step : Cal P w K mg base CX0 "_law_step" 2 ["table", "cells", "walker"] (spLStep K)) (C_law_alike : Cal P w K mg base CX0 "_law_alike" 6 ["found", "due"] (spAlike K 5)) (C_ring_walk : Cal P w K mg base CX0 "ring_walk" 7 ["table", "floor", "walker", "wide", "high", "many"] (spRWalk K)) (C_can_be_undone : Cal P w K mg base CX0 "can_be_undone" 5 ["table"] (spUndone K))
    (C_ring_life : Cal P w K mg base (L2.CX P w) "ring_life" 7 ["table", "floor", "walker", "wide", "high"] (spRLife K CT)) : FnOk P w K mg base CX0 8 f fd ["script"] (spLaw K) := by
  refine F.ok sc_law (fun vs H Q E h => ?_) (fun cdv A outer s H vs Q E hr h => ?_)
  · obtain ⟨a, ns, rfl, _⟩ := h
    rfl
  · obtain ⟨a, ns, rfl, hS, q⟩ := h
    refine ⟨_, (pss_cons (ps_set (i := 1) sc_law.nd rfl (Or.inl rfl) (pe_lst (pa_cons (pv 0) (pa_cons pe_int (pa_cons pe_int (pa_cons pe_int pa_nil))))))
      (pss_cons (ps_set (i := 2) sc_law.nd rfl (Or.inl rfl) (pe_own C_law_pick hr (by first | decide | omega) (pa_cons (pv 1) (pa_cons (pe_lst (pa_cons (pe_own C_law_table hr (by first | decide | omega) (pa_cons (pv 1) pa_nil)) (pa_cons (pe_own C_law_undone_table hr (by first | decide | omega) (pa_cons (pv 1) pa_nil)) pa_nil))) pa_nil))))
      (pss_cons (ps_par (i := 3) (j := 4) (by rfl) sc_law.nd rfl rfl (by decide) rfl rfl (pa_cons (pe_op op_add pe_int (pe_own C_law_taken hr (by first | decide | omega) (pa_cons (pv 1) (pa_cons pe_int pa_nil)))) (pa_cons (pe_op op_add pe_int (pe_own C_law_taken hr (by first | decide | omega) (pa_cons (pv 1) (pa_cons pe_int pa_nil)))) pa_nil)) (by rfl))
      (pss_cons (ps_set (i := 5) sc_law.nd rfl (Or.inl rfl) pe_dnewT)
      (pss_cons (ps_for PassesOwn.never rfl (pi_range1 (by rfl) T.m_range (pa_cons (pe_own C_law_taken hr (by first | decide | omega) (pa_cons (pv 1) (pa_cons pe_int pa_nil))) pa_nil)) (pg_name (i := 6) sc_law.nd rfl (Or.inl rfl))
      (pss_one (ps_dput (hu_of hr) (pv 5) (pe_tup (pa_cons (pe_own C_law_taken hr (by first | decide | omega) (pa_cons (pv 1) (pa_cons (pv 3) pa_nil))) (pa_cons (pe_own C_law_taken hr (by first | decide | omega) (pa_cons (pv 1) (pa_cons (pv 4) pa_nil))) pa_nil))) (pe_op op_add pe_int (pe_own C_law_taken hr (by first | decide | omega) (pa_cons (pv 1) (pa_cons (pe_op op_sub (pe_callB (k_len_t (K := K)) (by rfl) T.m_len (by decide +kernel) (pa_cons (pe_ix (k_ix_tup (K := K)) (pv 2) pe_int (fun _ _ => rfl)) pa_nil)) pe_int) pa_nil)))) (by rfl))))
      (pss_cons (ps_par (i := 7) (j := 8) (by rfl) sc_law.nd rfl rfl (by decide) rfl rfl (pa_cons (pe_tup (pa_cons (pe_own C_law_taken hr (by first | decide | omega) (pa_cons (pv 1) (pa_cons (pv 3) pa_nil))) (pa_cons (pe_own C_law_taken hr (by first | decide | omega) (pa_cons (pv 1) (pa_cons (pv 4) pa_nil))) (pa_cons (pe_own C_law_taken hr (by first | decide | omega) (pa_cons (pv 1) (pa_cons pe_int pa_nil))) (pa_cons (pe_own C_law_taken hr (by first | decide | omega) (pa_cons (pv 1) (pa_cons (pe_callB (k_len_t (K := K)) (by rfl) T.m_len (by decide +kernel) (pa_cons (pv 2) pa_nil)) pa_nil))) pa_nil))))) (pa_cons (pe_own C_law_taken hr (by first | decide | omega) (pa_cons (pv 1) (pa_cons pe_int pa_nil))) pa_nil)) (by rfl))
      (pss_cons (ps_asg (pe_tup (pa_cons (pe_own C_law_floor hr (by first | decide | omega) (pa_cons (pv 5) pa_nil)) (pa_cons (pe_lst pa_nil) (pa_cons (k_dnewN (P := P) (w := w)) (pa_cons (pv 7) (pa_cons pe_non pa_nil)))))) (pg_tup (by rfl) (pgs_cons (pg_name (i := 9) sc_law.nd rfl (Or.inl rfl)) (pgs_cons (pg_name (i := 10) sc_law.nd rfl (Or.inl rfl)) (pgs_cons (pg_name (i := 11) sc_law.nd rfl (Or.inl rfl)) (pgs_cons (pg_name (i := 12) sc_law.nd rfl (Or.inl rfl)) (pgs_cons (pg_name (i := 13) sc_law.nd rfl (Or.inl rfl)) pgs_nil)))))))
      (pss_cons (ps_while PassesOwn.never (PW.pt (pw_and (pt_cmpR op_isN (pv 13) pe_non (nomark _)) (pw_and (pt_cmpR (k_notInN (K := K) (P := P) (w := w) hr.units) (pe_tup (pa_cons (pe_own C_law_floor hr (by first | decide | omega) (pa_cons (pv 5) pa_nil)) (pa_cons (pv 12) pa_nil))) (pv 11) (by rfl)) (pw_and1 (pt_cmpR op_lt (pe_callB (k_len_l (K := K)) (by rfl) T.m_len (by decide +kernel) (pa_cons (pv 10) pa_nil)) pe_int (nomark _)))))) (pss_cons (k_dputN (K := K) (P := P) (w := w) hr.units (pv 11) (pe_tup (pa_cons (pe_own C_law_floor hr (by first | decide | omega) (pa_cons (pv 5) pa_nil)) (pa_cons (pv 12) pa_nil))) (pe_callB (k_len_l (K := K)) (by rfl) T.m_len (by decide +kernel) (pa_cons (pv 10) pa_nil)) (by rfl))
      (pss_cons (ps_expr (pe_bm PySem.F.plainAttrs_list PySem.F.slot_list_append PySem.F.type_list_append mt_append (pv 10) (pa_cons (pe_tup (pa_cons (pe_own C_law_floor hr (by first | decide | omega) (pa_cons (pv 5) pa_nil)) (pa_cons (pv 12) pa_nil))) pa_nil)))
      (pss_cons (ps_set (i := 14) sc_law.nd rfl (Or.inl rfl) (pe_own C_law_step hr (by first | decide | omega) (pa_cons (pv 2) (pa_cons (pv 5) (pa_cons (pv 12) pa_nil)))))
      (pss_one (ps_if (pt_cmpR op_isN (pv 14) pe_non (nomark _)) (pss_one (ps_set (i := 13) sc_law.nd rfl (Or.inl rfl) (pe_op op_sub (pe_callB (k_len_l (K := K)) (by rfl) T.m_len (by decide +kernel) (pa_cons (pv 10) pa_nil)) pe_int))) (pss_one (ps_set (i := 12) sc_law.nd rfl (Or.inl rfl) (pe_op (k_catA (K := K)) (pe_tup (pa_cons (pe_op op_mod (pe_callTy call_int_i (by rfl) T.m_int (by decide +kernel) (pa_cons (pe_ix (k_ix_tup (K := K)) (pv 14) pe_int (fun _ _ => rfl)) pa_nil)) (pv 3)) (pa_cons (pe_op op_mod (pe_callTy call_int_i (by rfl) T.m_int (by decide +kernel) (pa_cons (pe_ix (k_ix_tup (K := K)) (pv 14) pe_int (fun _ _ => rfl)) pa_nil)) (pv 4)) pa_nil))) (pe_slice (k_sl_tup (K := K)) (pv 14) (po_some pe_int) po_none))))))))))
      (pss_cons (ps_if (PW.pt (pw_or (pt_cmpR op_lt (pv 8) (pe_callB (k_len_l (K := K)) (by rfl) T.m_len (by decide +kernel) (pa_cons (pv 10) pa_nil)) (nomark _)) (pw_or1 (pt_cmpR op_notN (pv 13) pe_non (nomark _))))) (pss_cons (ps_set (i := 15) sc_law.nd rfl (Or.inl rfl) (pe_ix (k_ix_list (K := K)) (pv 10) (pe_callB (call_min2 rfl) (by rfl) T.m_min (by decide +kernel) (pa_cons (pv 8) (pa_cons (pe_op op_sub (pe_callB (k_len_l (K := K)) (by rfl) T.m_len (by decide +kernel) (pa_cons (pv 10) pa_nil)) pe_int) pa_nil))) (fun _ _ => rfl)))
      (pss_one (ps_if (pt_not (pt_val (pe_own C_law_alike hr (by first | decide | omega) (pa_cons (pe_own C_ring_walk hr (by first | decide | omega) (pa_cons (pv 2) (pa_cons (pv 9) (pa_cons (pv 7) (pa_cons (pv 3) (pa_cons (pv 4) (pa_cons (pv 8) pa_nil))))))) (pa_cons (pe_op (k_catA (K := K)) (pv 15) (pe_tup (pa_cons (pe_callB (call_min2 rfl) (by rfl) T.m_min (by decide +kernel) (pa_cons (pv 8) (pa_cons (pe_op op_sub (pe_callB (k_len_l (K := K)) (by rfl) T.m_len (by decide +kernel) (pa_cons (pv 10) pa_nil)) pe_int) pa_nil))) pa_nil))) pa_nil))))) (pss_one (ps_ret pe_bl)) pss_nil))) pss_nil)
      (pss_cons (ps_par (i := 16) (j := 17) (by rfl) sc_law.nd rfl rfl (by decide) rfl rfl (pa_cons pe_non (pa_cons (pe_tup (pa_cons (pe_own C_law_floor hr (by first | decide | omega) (pa_cons (pv 5) pa_nil)) (pa_cons (pv 12) pa_nil))) pa_nil)) (by rfl))
      (pss_cons (ps_try_as (i := 18) (tb := fun W => tAsg (tCallS (spRLife K CT) (WE W) (tCons (tVar 2) (tCons (tVar 9) (tCons (tVar 7) (tCons (tVar 3) (tCons (tVar 4) tNil)))))) (gName 16)) (ts := fun a cls d => tRet (tAndV (tCB (rIsEd K mg a cls d) (tCons (tVar 18) (tCons (tC (.ref CT)) tNil))) ((tOp (rI0 fun i j => V.bl (decide (j < i))) (tCB (fun xs H Q => ∃ p ys, xs = [.ref p] ∧ SqL K H p ys ∧ Q (.int ys.length) H) (tCons (tVar 10) tNil)) (tC (.int 20000)))))) (Wout := fun _ _ _ _ => False) rfl rfl sc_law.nd rfl rfl ⟨rfl, by decide, .inl gW⟩ takes0 (fun W pn xe tk _ => pss_one (ps_set (i := 16) sc_law.nd rfl (.inl rfl) (by exact (pe_ownS C_ring_life tk hr (by decide) (by exact (pa_cons (pv 2) (pa_cons (pv 9) (pa_cons (pv 7) (pa_cons (pv 3) (pa_cons (pv 4) pa_nil)))))))))) (fun a oe cls d pn hz hf => pss_one (ps_ret (by exact (pe_and (pe_callB (call_isEd hz hf) (by rfl) T.m_isinstance (by decide +kernel) (pa_cons (pv 18) (pa_cons (pe_glob (by rfl) TI.gC rfl) pa_nil))) (pe_one (pe_cmpR op_gt (pe_callB (k_len_l (K := K)) (by rfl) T.m_len (by decide +kernel) (pa_cons (pv 10) pa_nil)) pe_int (nomark _))))))))
      (pss_cons (ps_if (pt_cmpR op_notN (pv 13) pe_non (nomark _)) (pss_one (ps_ret (pe_own C_law_alike hr (by first | decide | omega) (pa_cons (pv 16) (pa_cons (pe_tup (pa_cons (pv 13) (pa_cons pe_int pa_nil))) pa_nil))))) pss_nil)
      (pss_cons (ps_if (PW.pt (pw_and (pt_val (pe_own C_can_be_undone hr (by first | decide | omega) (pa_cons (pv 2) pa_nil))) (pw_and1 (pt_cmpR op_ne (pe_ix (k_ix_tup (K := K)) (pv 16) pe_int (fun _ _ => rfl)) pe_int (nomark _))))) (pss_one (ps_ret pe_bl)) pss_nil)
      (pss_one (ps_ret (pe_own C_law_alike hr (by first | decide | omega) (pa_cons (pv 16) (pa_cons (pe_tup (pa_cons (k_dgetN (K := K) (P := P) (w := w) hr.units (pv 11) (pv 17) (by exact fun _ _ => rfl)) (pa_cons (pe_op op_sub (pe_callB (k_len_l (K := K)) (by rfl) T.m_len (by decide +kernel) (pa_cons (pv 10) pa_nil)) (k_dgetN (K := K) (P := P) (w := w) hr.units (pv 11) (pv 17) (by exact fun _ _ => rfl))) pa_nil))) pa_nil)))))))))))))))))), ?_⟩
    walk_at "st"
    intro r nr
    have R0 : Row K (upd H r (.lst [.ref a, .int 0, .int 11111, .int 0])) r := ⟨a, ns, 0, 11111, 0, upd_same, hS.mono (TK.new nr), by decide, by decide, by decide, by decide⟩
    generalize hH0 : upd H r (.lst [.ref a, .int 0, .int 11111, .int 0]) = H0 at *
    refine gname_seq ?_
    refine seq_assoc ?_
    refine seq_assoc ?_
    refine seq_assoc ?_
    refine seq_assoc ?_
    rw [show L2.start ["script", "row", "table", "wide", "high", "cells", "turn", "walker", "many", "floor", "stands", "seen", "here", "stop", "after", "due", "told", "last", "error"] [V.ref a] = [some (V.ref a), none, none, none, none, none, none, none, none, none, none, none, none, none, none, none, none, none, none] from rfl]
    simp only [List.set_cons_zero, List.set_cons_succ]
    refine seq_cutO (fun σ' H' => ∃ (tv wv : V) (wd hg : Nat) (D : Addr) (y6 : Option V) (many : Int) (c n : Nat) (Tb : List (List Ent)) (m : CM) (u : Wk), σ' = [some (.ref a), some (.ref r), some tv, some (.int wd), some (.int hg), some (.ref D), y6, some wv, some (.int many), none, none, none, none, none, none, none, none, none, none] ∧ LRing K H' tv wv Tb c n wd hg u ∧ DrawnR m c wd hg ∧ H' D = some (.dT (cellK m)) ∧ 0 ≤ many ∧ many < 40) ?_ ?_
    rotate_left
    -- <A
    · intro R hR
      clear hH0 hS nr
      walk_at "st"
      intro tv1 H1 ca na Ta a1 a2 a3 a4 oka ht1 R1 k1
      walk_at "st"
      intro tv2 H2 cb nb Tc b1 b2 b3 b4 okb ht2 R2 k2
      walk_at "st"
      intro q3 nq3
      have ne3 : q3 ≠ r := R2.ne nq3
      have ht12 := Tp.mono (k2.row R1) _ _ ht1
      have s3 : Same H2 (upd H2 q3 (.lst [tv1, tv2])) := Same.new nq3
      have hq3 : (upd H2 q3 (.lst [tv1, tv2])) q3 = some (.lst [tv1, tv2]) := upd_same
      have R3 := R2.same s3
      have ht13 := Tp.mono (Same.tk s3) _ _ ht12
      have ht23 := Tp.mono (Same.tk s3) _ _ ht2
      generalize hH3 : upd H2 q3 (.lst [tv1, tv2]) = H3 at *
      walk_at "st"
      intro tv H4 kk hkk R4 k4
      obtain ⟨c, n, Tb, h1, h2, h3, h4', hok, ht⟩ : ∃ (c n : Nat) (Tb : List (List Ent)), 1 ≤ n ∧ n ≤ 2 ∧ 2 ≤ c ∧ c ≤ 3 ∧ TabOk c n Tb ∧ Tp K H4 tv (tabD Tb) := by
        have t34 := k4.row R3
        match kk, hkk with
        | 0, h => exact ⟨ca, na, Ta, a1, a2, a3, a4, oka, by rw [← Option.some.inj h]; exact Tp.mono t34 _ _ ht13⟩
        | 1, h => exact ⟨cb, nb, Tc, b1, b2, b3, b4, okb, by rw [← Option.some.inj h]; exact Tp.mono t34 _ _ ht23⟩
        | k + 2, h => exact absurd h (by simp)
      clear R0 R1 R2 R3 k1 k2 ht1 ht2 ht12 ht13 ht23 hq3 a1 a2 a3 a4 oka b1 b2 b3 b4 okb s3 hkk k4
      walk_at "st"
      intro v5 H5 v50 v51 R5 k5
      walk_at "st"
      intro v6 H6 v60 v61 R6 k6
      obtain ⟨wd, ewd⟩ : ∃ wd : Nat, 1 + v5 = (wd : Int) := ⟨(1 + v5).toNat, by omega⟩
      obtain ⟨hg, ehg⟩ : ∃ hg : Nat, 1 + v6 = (hg : Int) := ⟨(1 + v6).toNat, by omega⟩
      have w1 : 1 ≤ wd := by omega
      have w3 : wd ≤ 3 := by omega
      have g1 : 1 ≤ hg := by omega
      have g2 : hg ≤ 2 := by omega
      have ht6 := Tp.mono ((k5.row R4).trans (k6.row R5)) _ _ ht
      refine ⟨_, _, rfl, rfl, ?_⟩
      refine ⟨_, _, rfl, ?_⟩
      simp only [List.set_cons_zero, List.set_cons_succ]
      rw [ewd, ehg]
      clear ewd ehg ht R4 k5 k6 v50 v51 v60 v61 R5
      walk_at "st"
      intro D nD
      have neD : D ≠ r := R6.ne nD
      have R7 : Row K (upd H6 D (.dT [])) r := R6.new nD
      have hD7 : (upd H6 D (.dT [])) D = some (.dT (cellK [])) := upd_same
      have ht7 := Tp.mono (TK.new (o := .dT []) nD) _ _ ht6
      generalize hH7 : upd H6 D (.dT []) = H7 at *
      walk_at "st"
      intro v8 H8 v80 v81 R8 k8
      have hD8 := k8 _ _ neD hD7
      have ht8 := Tp.mono (k8.row R7) _ _ ht7
      have v82 : -2 ^ 62 ≤ v8 := by omega
      have v83 : v8 < 2 ^ 62 := by omega
      have wdp : (0 : Int) < (wd : Int) := by omega
      have wdq : (wd : Int) < 2 ^ 250 := by omega
      have hgp : (0 : Int) < (hg : Int) := by omega
      have hgq : (hg : Int) < 2 ^ 250 := by omega
      clear hD7 ht7 ht6 R7 R6 nD
      walk_at "st"
      refine for_range (lo := 0) (n := v8.toNat) (fun i σ H' => Ok (∃ (y6 : Option V) (m : CM), σ = [some (.ref a), some (.ref r), some tv, some (.int wd), some (.int hg), some (.ref D), y6, none, none, none, none, none, none, none, none, none, none, none, none] ∧ Row K H' r ∧ H' D = some (.dT (cellK m)) ∧ DrawnR m c wd hg ∧ Tp K H' tv (tabD Tb))) ?_ ?_ ?_
      · exact ⟨_, [], rfl, R8, hD8, DrawnR.nil _ _ _ (by omega), ht8⟩
      · rintro i σ H9 hi ⟨y6, m, rfl, R9, hD9, dr, ht9⟩
        obtain ⟨ta, tb, vs, ws, rfl, hta, htb, lws, lvs⟩ := tab0 hok h1 ht9
        have c1 : (0 : Int) < (ws.length : Int) - 1 := by omega
        have c2 : (ws.length : Int) - 1 < 2 ^ 250 := by omega
        walk_at "st"
        intro v HA v0 v1 RA kA
        walk_at "st"
        intro x HB x0 x1 RB kB
        walk_at "st"
        intro y HC y0 y1 RC kC
        walk_at "st"
        intro p np
        have k3 : KeepB r H9 HC := (kA.trans kB).trans kC
        have hDC := k3 _ _ neD hD9
        have hDD : (upd HC p (.tup [.int x, .int y])) D = some (.dT (cellK m)) := by
          rw [upd_ne (ne_of_none hDC np)]
          exact hDC
        have lm := ring_keys dr.nd dr.on
        have lwh : wd * hg ≤ 3 * 2 := Nat.mul_le_mul w3 g2
        have hsz : (cellK m).length < sizeLine := by
          rw [cell_len]
          exact small1000 (by omega)
        have hw : DPut (upd HC p (.tup [.int x, .int y])) D (.ref p) (.int (1 + v)) (upd (upd HC p (.tup [.int x, .int y])) D (.dT (putK (cellK m) (ptK (x, y)) (.int (1 + v))))) := DPut.t hDD upd_same hsz
        walk_at "st"
        have RD := RC.new (o := .tup [.int x, .int y]) np
        refine ⟨_, putM m (x, y) (1 + v), rfl, RD.keep (TK.dT hDD) (upd_ne neD.symm), ?_, dr.put ⟨x0, x1⟩ ⟨y0, y1⟩ (by omega) (by omega), Tp.mono (((k3.row R9).trans (TK.new np)).trans (TK.dT hDD)) _ _ ht9⟩
        rw [upd_same, cell_put _ _ dr.nd]
      · rintro σ H9 ⟨y6, m, rfl, R9, hD9, dr, ht9⟩
        clear hD8 ht8 R8 k8 hH7
        obtain ⟨ta, tb, vs, ws, rfl, hta, htb, lws, lvs⟩ := tab0 hok h1 ht9
        walk_at "st"
        intro x HA x0 x1 RA kA
        walk_at "st"
        intro y HB y0 y1 RB kB
        walk_at "st"
        intro h HC h0 h4 RC kC
        have k3 : KeepB r H9 HC := (kA.trans kB).trans kC
        have htaC := (k3.row R9).seqT hta
        have ln0 : (0 : Int) < (((V.ref tb :: vs).length : Nat) : Int) := by
          show (0 : Int) < ((vs.length + 1 : Nat) : Int)
          omega
        have ln1 : (((V.ref tb :: vs).length : Nat) : Int) < 2 ^ 250 := by
          show ((vs.length + 1 : Nat) : Int) < 2 ^ 250
          omega
        walk_at "st"
        intro s HD s0 s1 RD kD
        have s1 : s < ((vs.length + 1 : Nat) : Int) := s1
        walk_at "st"
        intro p np
        have RE := RD.new (o := .tup [.int x, .int y, .int h, .int s]) np
        have hp : (upd HD p (.tup [.int x, .int y, .int h, .int s])) p = some (.tup [.int x, .int y, .int h, .int s]) := upd_same
        have kE : KeepB r H9 (upd HD p (.tup [.int x, .int y, .int h, .int s])) := (k3.trans kD).trans (KeepB.new np)
        generalize hHE : upd HD p (.tup [.int x, .int y, .int h, .int s]) = HE at *
        walk_at "st"
        intro mn HF m0 m40 RF kF
        have kEF := kE.trans kF
        have tEF := kF.row RE
        have tF := kEF.row R9
        have hpF := tEF.tup _ _ hp
        refine ⟨_, _, rfl, ?_⟩
        simp only [List.set_cons_zero, List.set_cons_succ]
        exact hR _ _ ⟨.ref ta, .ref p, wd, hg, D, y6, mn, c, n, Tb, m, (x, y, h, s), rfl, ⟨hok, h1, h2, h3, h4', w1, w3, g1, g2, ⟨⟨x0, x1⟩, y0, y1⟩, ⟨h0, h4⟩, ⟨s0, by show s < (n : Int); omega⟩, Tp.mono tF _ _ ht9, Tp.of_ints (ks := [_, _, _, _]) (SqT.of hpF), ⟨p, rfl, hpF⟩⟩, dr, kEF _ _ neD hD9, m0, m40⟩
    -- >A
    · rintro σ' H1 ⟨tv, wv, wd, hg, D, y6, many, c, n, Tb, m, u, rfl, hL, hm, hD, m0, m40⟩
      clear hH0 R0 hS nr
      obtain ⟨f0, ef0⟩ : ∃ f0 : Nat → Option WSt, f0 = fun k => runR Tb wd hg k (col m, u) := ⟨_, rfl⟩
      have r0 : InRing c n wd hg (col m, u) := hm.ring hL.on hL.hd hL.st
      have rk : ∀ k z, f0 k = some z → InRing c n wd hg z := fun k z e => by
        rw [ef0] at e
        exact r0.run hL.tab hL.w1 hL.h1 e
      refine seq_assoc ?_
      refine seq_cutO (fun σ' H' => ∃ (fv : V) (S sd : Addr) (hv sv : V) (y14 : Option V) (N : Nat) (us : List V) (kvs : List (NestedKey × Addr × V)) (m' : CM) (u' : Wk) (F0 : List Sq), σ' = [some (.ref a), some (.ref r), some tv, some (.int wd), some (.int hg), some (.ref D), y6, some wv, some (.int many), some fv, some (.ref S), some (.ref sd), some hv, some sv, y14, none, none, none, none] ∧ FloorOf (col m) F0 ∧ Tp K H' fv (floorD F0) ∧ H' S = some (.lst us) ∧ us.length = N ∧ StandsR K H' f0 us ∧ DnAt K P w H' sd kvs ∧ SeenG kfL f0 N kvs ∧ RunsTo f0 N ∧ EndR Tb wd hg (col m, u) N sv (col m', u') ∧ H' D = some (.dT (cellK m')) ∧ (m'.map (·.1)).Nodup ∧ (∀ p ∈ m'.map (·.1), onRing wd hg p) ∧ Tp K H' hv (wkD u') ∧ TK H1 H') ?_ ?_
      rotate_left
      -- <B
      · intro R hR
        have lm := ring_keys hm.nd hm.on
        have lwh : wd * hg ≤ 3 * 2 := Nat.mul_le_mul hL.w3 hL.h2
        have lm9 : m.length ≤ 900 := by omega
        have cnn : ∀ p, 0 ≤ col m p := fun p => (hm.val p).1
        have mnd := hm.nd
        walk_at "st"
        intro fv H2 F0 fo hf s2
        walk_at "st"
        intro S nS
        walk_at "st"
        intro sd nsd
        have s3 : Same H2 (upd H2 S (.lst [])) := Same.new nS
        have hS3 : (upd H2 S (.lst [])) S = some (.lst []) := upd_same
        generalize hH3 : upd H2 S (.lst []) = H3 at *
        have s4 : Same H3 (upd H3 sd (DnO P w sd [])) := Same.new nsd
        have hd4 : DnAt K P w (upd H3 sd (DnO P w sd [])) sd [] := ⟨upd_same, fun p h => absurd h List.not_mem_nil⟩
        have hS4 := s4 _ _ hS3
        have neS : S ≠ sd := fun z => by
          rw [← z, hS3] at nsd
          cases nsd
        have s24 := Same.trans s3 s4
        generalize hH4 : upd H3 sd (DnO P w sd []) = H4 at *
        clear hH3 hH4 s3 s4 hS3 nS nsd
        walk_at "st"
        intro p np
        have s5 : Same H4 (upd H4 p (.tup [fv, .ref S, .ref sd, wv, .non])) := Same.new np
        have hp5 : SqT K (upd H4 p (.tup [fv, .ref S, .ref sd, wv, .non])) p [fv, .ref S, .ref sd, wv, .non] := SqT.of upd_same
        have hS5 := s5 _ _ hS4
        have hd5 := hd4.same s5
        have s15 := Same.trans s2 (Same.trans s24 s5)
        generalize hH5 : upd H4 p (.tup [fv, .ref S, .ref sd, wv, .non]) = H5 at *
        have hf5 := Tp.mono (Same.tk (Same.trans s24 s5)) _ _ hf
        have hL5 := hL.mono (Same.tk s15)
        have hD5 := s15 _ _ hD
        have neSD : S ≠ D := ne_of hS5 hD5 (by intro z; cases z)
        have nesD : sd ≠ D := fun z => by
          have e := hd5.ob
          rw [z, hD5] at e
          cases e
        have t15 := Same.tk s15
        clear hf s24 s5 hS4 hd4 np hH5 s2 s15 hL hD
        refine ⟨p, _, rfl, hp5, ?_⟩
        walk_at "st"
        refine while_by (fun σ H' => ∃ (hv sv : V) (y14 : Option V) (us : List V) (kvs : List (NestedKey × Addr × V)) (m' : CM) (u' : Wk), σ = [some (.ref a), some (.ref r), some tv, some (.int wd), some (.int hg), some (.ref D), y6, some wv, some (.int many), some fv, some (.ref S), some (.ref sd), some hv, some sv, y14, none, none, none, none] ∧ H' S = some (.lst us) ∧ us.length ≤ 20100 ∧ StandsR K H' f0 us ∧ DnAt K P w H' sd kvs ∧ SeenG kfL f0 us.length kvs ∧ RunsTo f0 us.length ∧ ((sv = .non ∧ f0 us.length = some (col m', u')) ∨ (∃ s, us.length = s + 1 ∧ sv = .int (s : Int) ∧ f0 s = some (col m', u') ∧ stepR Tb wd hg (col m', u') = none)) ∧ H' D = some (.dT (cellK m')) ∧ (m'.map (·.1)).Nodup ∧ (∀ p ∈ m'.map (·.1), onRing wd hg p) ∧ Tp K H' hv (wkD u') ∧ TK H5 H')
          (fun _ H' => match H' S with | some (.lst us) => 20101 - us.length | _ => 0) ?_ ?_ ?_
        · exact ⟨wv, .non, none, [], [], m, u, rfl, hS5, by decide, StandsR.nil, hd5, SeenG.nil, fun a b _ l => absurd l (Nat.not_lt_zero _), .inl ⟨rfl, by rw [ef0]; rfl⟩, hD5, hm.nd, hm.on, hL5.tW, TK.refl _⟩
        · rintro σ H6 ⟨hv, sv, y14, us, kvs, m', u', rfl, hS6, l6, sta, hd6, seen, dis, en, hD6, nd6, on6, hh6, t6⟩
          have lm6 := ring_keys nd6 on6
          have lwh : wd * hg ≤ 3 * 2 := Nat.mul_le_mul hL5.w3 hL5.h2
          have lm69 : m'.length ≤ 900 := by omega
          rcases en with ⟨rfl, run⟩ | ⟨s, es, rfl, run, stop⟩
          · have r6 := rk _ _ run
            have cnn6 : ∀ p, 0 ≤ col m' p := fun p => (r6.cols p).1
            walk_at "st"
            intro v H7 F fo7 hv7 s7
            walk_at "st"
            intro p np
            have s8 : Same H7 (upd H7 p (.tup [v, hv])) := Same.new np
            have s68 := Same.trans s7 s8
            have tkey : Tp K (upd H7 p (.tup [v, hv])) (.ref p) (stepD F u') := .tup (SqT.of upd_same) (.cons (Tp.mono (Same.tk s8) _ _ hv7) (.cons (Tp.mono (Same.tk s68) _ _ hh6) .nil))
            generalize hH8 : upd H7 p (.tup [v, hv]) = H8 at *
            have dep := nk_step_dep F u'
            have hd8 := hd6.same s68
            have hS8 := s68 _ _ hS6
            have hD8 := s68 _ _ hD6
            have hh8 := Tp.mono (Same.tk s68) _ _ hh6
            have sta8 := sta.mono (Same.tk s68)
            have t8 := t6.trans (Same.tk s68)
            have ekey : kfL (col m', u') = nkOf (stepD F u') := kfL_of fo7
            have inj : ∀ k z', k < us.length → f0 k = some z' → kfL z' = kfL (col m', u') → z' = (col m', u') := fun k z' lk e => by
              obtain ⟨z2, G, e2, g2, _⟩ := sta.at_ k us[k] (List.getElem?_eq_getElem lk)
              rw [e] at e2
              cases e2
              exact kfL_inj ⟨F, fo7⟩ ⟨G, g2⟩
            clear hd6 hD6 hh6 sta t6 s7 s8 s68 hv7 hH8 np
            have lookd := seen.look inj
            rw [ekey] at lookd
            rcases lookd with ⟨gn, new⟩ | ⟨j, hj, rj, gs⟩
            · walk_at "st"
              rw [gn]
              refine iteT ?_
              walk_at "st"
              rcases Nat.lt_or_ge us.length 20100 with lt | ge
              · rw [show decide ((us.length : Int) < 20100) = true from decide_eq_true (by omega)]
                refine iteT ?_
                -- <C
                have hSL8 := SqL.of (K := K) hS8
                walk_at "st"
                intro v9 H9 F9 fo9 hv9 s9
                obtain rfl := fo7.uniq fo9
                walk_at "st"
                intro p2 np2
                have s10 : Same H9 (upd H9 p2 (.tup [v9, hv])) := Same.new np2
                have s810 := Same.trans s9 s10
                have tkey2 : Tp K (upd H9 p2 (.tup [v9, hv])) (.ref p2) (stepD F u') := .tup (SqT.of upd_same) (.cons (Tp.mono (Same.tk s10) _ _ hv9) (.cons (Tp.mono (Same.tk s810) _ _ hh8) .nil))
                generalize hH10 : upd H9 p2 (.tup [v9, hv]) = H10 at *
                have hd10 := hd8.same s810
                have hS10 := s810 _ _ hS8
                have hD10 := s810 _ _ hD8
                have lk : kvs.length < sizeLine := by
                  rw [seen.len]
                  exact Nat.lt_of_lt_of_le lt (by decide)
                have t11 := hd10.tk (o := DnO P w sd (kvs ++ [(nkOf (stepD F u'), p2, .int (us.length : Int))]))
                have hd11 := hd10.put (v := .int (us.length : Int)) tkey2 dep
                have hS11 : (upd H10 sd (DnO P w sd (kvs ++ [(nkOf (stepD F u'), p2, .int (us.length : Int))]))) S = some (.lst us) := by rw [upd_ne neS]; exact hS10
                have hD11 : (upd H10 sd (DnO P w sd (kvs ++ [(nkOf (stepD F u'), p2, .int (us.length : Int))]))) D = some (.dT (cellK m')) := by rw [upd_ne nesD.symm]; exact hD10
                have t811 := (Same.tk s810).trans t11
                have hh11 := Tp.mono t811 _ _ hh8
                have sta11 := sta8.mono t811
                have t511 := t8.trans t811
                clear hSL8 hd8 hS8 hD8 hh8 sta8 s810 s9 s10 np2 fo9 hv9 tkey hH10
                walk_at "st"
                generalize hH11 : upd H10 sd (DnO P w sd (kvs ++ [(nkOf (stepD F u'), p2, .int (us.length : Int))])) = H11 at *
                clear hH11 hd10 hS10 hD10 t11 t811 tkey2 t8
                intro v12 H12 F12 fo12 hv12 s12
                obtain rfl := fo7.uniq fo12
                walk_at "st"
                intro p3 np3
                have s13 : Same H12 (upd H12 p3 (.tup [v12, hv])) := Same.new np3
                have s1113 := Same.trans s12 s13
                have tk3 : Tp K (upd H12 p3 (.tup [v12, hv])) (.ref p3) (stepD F u') := .tup (SqT.of upd_same) (.cons (Tp.mono (Same.tk s13) _ _ hv12) (.cons (Tp.mono (Same.tk s1113) _ _ hh11) .nil))
                generalize hH13 : upd H12 p3 (.tup [v12, hv]) = H13 at *
                have hS13 := s1113 _ _ hS11
                have hD13 := s1113 _ _ hD11
                have hd13 := hd11.same s1113
                have hsz : us.length < sizeLine := Nat.lt_of_lt_of_le lt (by decide)
                have t14 : TK H13 (upd H13 S (.lst (us ++ [.ref p3]))) := TK.lst hS13
                have hS14 : (upd H13 S (.lst (us ++ [.ref p3]))) S = some (.lst (us ++ [.ref p3])) := upd_same
                have hD14 : (upd H13 S (.lst (us ++ [.ref p3]))) D = some (.dT (cellK m')) := by rw [upd_ne neSD.symm]; exact hD13
                have hd14 : DnAt K P w (upd H13 S (.lst (us ++ [.ref p3]))) sd _ := hd13.mono (upd_ne neS.symm) t14
                have t1114 := (Same.tk s1113).trans t14
                have hh14 := Tp.mono t1114 _ _ hh11
                have sta14 := (sta11.mono t1114).more (z := (col m', u')) run fo7 (Tp.mono t14 _ _ tk3)
                have t514 := t511.trans t1114
                have ht14 := Tp.mono t514 _ _ hL5.tT
                have seen2 := seen.put run p2 ekey.symm
                have l1 : (us ++ [V.ref p3]).length = us.length + 1 := by rw [List.length_append]; rfl
                have fit : Fit c n (wd + hg) (col m', u') := r6.fit (by omega) (by omega)
                have tab := hL5.tab
                have dis2 : RunsTo f0 (us.length + 1) := fun a b l1 l2 => by
                  rcases Nat.lt_or_ge b us.length with g | g
                  · exact dis a b l1 g
                  · obtain rfl : b = us.length := by omega
                    intro e
                    rw [run] at e
                    exact new a l1 e
                clear hS11 hD11 hd11 hh11 sta11 s12 s13 np3 hv12 fo12 hD13 hd13 t14 tk3 t1114 t511 s1113 hH13
                walk_at "st"
                generalize hH14 : upd H13 S (.lst (us ++ [.ref p3])) = H14 at *
                refine ⟨fun hn H15 s15 => ?_, fun z hz v15 H15 m15 ec nd15 l15 on15 hD15 hv15 k15 => ?_⟩
                · have stop : stepR Tb wd hg (col m', u') = none := stepR_no.mp hn
                  have hS15 := s15 _ _ hS14
                  have hSL15 := SqL.of (K := K) hS15
                  walk_at "st"
                  refine ⟨⟨hv, _, _, us ++ [.ref p3], _, m', u', rfl, hS15, by omega, sta14.mono (Same.tk s15), hd14.same s15, by rw [l1]; exact seen2, by rw [l1]; exact dis2, .inr ⟨us.length, l1, by rw [l1]; show V.int (((us.length + 1 : Nat) : Int) - 1) = _; rw [show (((us.length + 1 : Nat) : Int) - 1) = (us.length : Int) by omega], run, stop⟩, s15 _ _ hD14, nd6, on6, Tp.mono (Same.tk s15) _ _ hh14, t514.trans (Same.tk s15)⟩, ?_⟩
                  show (match H15 S with | some (.lst us) => 20101 - us.length | _ => 0) < (match H6 S with | some (.lst us) => 20101 - us.length | _ => 0)
                  rw [hS15, hS6]
                  show 20101 - (us ++ [V.ref p3]).length < 20101 - us.length
                  omega
                · obtain ⟨wa15, rfl, hsw15⟩ := hv15.int4
                  have wdp : (0 : Int) < (wd : Int) := by have := hL5.w1; omega
                  have hgp : (0 : Int) < (hg : Int) := by have := hL5.h1; omega
                  walk_at "st"
                  intro p4 np4
                  have s16 : Same H15 (upd H15 p4 (.tup [.int (z.2.1 % (wd : Int)), .int (z.2.2.1 % (hg : Int))])) := Same.new np4
                  have hp16 : (upd H15 p4 (.tup [.int (z.2.1 % (wd : Int)), .int (z.2.2.1 % (hg : Int))])) p4 = some (.tup [.int (z.2.1 % (wd : Int)), .int (z.2.2.1 % (hg : Int))]) := upd_same
                  generalize hH16 : upd H15 p4 (.tup [.int (z.2.1 % (wd : Int)), .int (z.2.2.1 % (hg : Int))]) = H16 at *
                  have hsw16 := TK.seqT (Same.tk s16) hsw15
                  have sl := sl44 (a := .int z.2.1) (b := .int z.2.2.1) (c := .int z.2.2.2.1) (d := .int z.2.2.2.2)
                  walk_at "st"
                  intro p5 np5
                  have s17 : Same H16 (upd H16 p5 (.tup [.int z.2.2.2.1, .int z.2.2.2.2])) := Same.new np5
                  have hp17 := s17 _ _ hp16
                  refine catA_of (SqT.of hp17) (SqT.of (xs := [.int z.2.2.2.1, .int z.2.2.2.2]) upd_same) (by intro z; cases z) (by intro z; cases z) (by show 4 ≤ sizeLine; decide) fun p6 np6 => ?_
                  refine gname_of ?_
                  have np6 : (upd H16 p5 (.tup [.int z.2.2.2.1, .int z.2.2.2.2])) p6 = none := np6
                  have s18 : Same (upd H16 p5 (.tup [.int z.2.2.2.1, .int z.2.2.2.2])) (upd (upd H16 p5 (.tup [.int z.2.2.2.1, .int z.2.2.2.2])) p6 (.tup [.int (z.2.1 % (wd : Int)), .int (z.2.2.1 % (hg : Int)), .int z.2.2.2.1, .int z.2.2.2.2])) := Same.new np6
                  have hp18 : (upd (upd H16 p5 (.tup [.int z.2.2.2.1, .int z.2.2.2.2])) p6 (.tup [.int (z.2.1 % (wd : Int)), .int (z.2.2.1 % (hg : Int)), .int z.2.2.2.1, .int z.2.2.2.2])) p6 = some (.tup [.int (z.2.1 % (wd : Int)), .int (z.2.2.1 % (hg : Int)), .int z.2.2.2.1, .int z.2.2.2.2]) := upd_same
                  show (_ ∧ _)
                  have s1518 := Same.trans s16 (Same.trans s17 s18)
                  have hS18 := s1518 _ _ (k15 _ _ (fun e => neSD (List.mem_singleton.mp e)) hS14)
                  have t18 : TK H14 _ := (k15.tk (fun b hb => by rw [List.mem_singleton.mp hb]; exact Soft.dT hD14)).trans (Same.tk s1518)
                  have hd18 := (hd14.mono ((k15 _ _ (fun e => nesD (List.mem_singleton.mp e)) hd14.ob).trans hd14.ob.symm) (k15.tk (fun b hb => by rw [List.mem_singleton.mp hb]; exact Soft.dT hD14))).same s1518
                  have hD18 := s1518 _ _ hD15
                  generalize hH18 : (upd (upd H16 p5 (.tup [.int z.2.2.2.1, .int z.2.2.2.2])) p6 (.tup [.int (z.2.1 % (wd : Int)), .int (z.2.2.1 % (hg : Int)), .int z.2.2.2.1, .int z.2.2.2.2])) = H18 at *
                  rw [show upd (upd H16 p5 (.tup (cutV [.int z.2.1, .int z.2.2.1, .int z.2.2.2.1, .int z.2.2.2.2] (some 2) none))) p6 (.tup ([.int (z.2.1 % (wd : Int)), .int (z.2.2.1 % (hg : Int))] ++ [.int z.2.2.2.1, .int z.2.2.2.2])) = H18 from hH18]
                  have run2 : f0 (us.length + 1) = some (col m15, wrapW wd hg z.2) := by
                    rw [ef0]
                    show runR Tb wd hg (us.length + 1) (col m, u) = _
                    have e : stepR Tb wd hg (col m', u') = some (z.1, wrapW wd hg z.2) := by
                      unfold stepR
                      rw [hz]
                      rfl
                    rw [ec]
                    exact runR_next (by rw [ef0] at run; exact run) e
                  refine ⟨⟨.ref p6, .non, _, us ++ [.ref p3], _, m15, wrapW wd hg z.2, rfl, hS18, by omega, sta14.mono t18, hd18, by rw [l1]; exact seen2, by rw [l1]; exact dis2, .inl ⟨rfl, by rw [l1]; exact run2⟩, hD18, nd15, fun p hp => ?_, Tp.of_ints (ks := [_, _, _, _]) (SqT.of hp18), t514.trans t18⟩, ?_⟩
                  · rcases on15 p hp with e | e
                    · rw [e]
                      exact r6.wk
                    · exact on6 p e
                  · show (match H18 S with | some (.lst us) => 20101 - us.length | _ => 0) < (match H6 S with | some (.lst us) => 20101 - us.length | _ => 0)
                    rw [hS18, hS6]
                    show 20101 - (us ++ [V.ref p3]).length < 20101 - us.length
                    omega
                -- >C
              · rw [show decide ((us.length : Int) < 20100) = false from decide_eq_false (by omega)]
                refine iteF ?_
                exact hR _ _ ⟨fv, S, sd, hv, .non, y14, us.length, us, kvs, m', u', F0, rfl, fo, Tp.mono t8 _ _ hf5, hS8, rfl, sta8, hd8, seen, dis, .inl ⟨rfl, by rw [ef0] at run; exact run, .inr (by omega)⟩, hD8, nd6, on6, hh8, t15.trans t8⟩
            · walk_at "st"
              rw [gs]
              refine iteF ?_
              refine iteF ?_
              exact hR _ _ ⟨fv, S, sd, hv, .non, y14, us.length, us, kvs, m', u', F0, rfl, fo, Tp.mono t8 _ _ hf5, hS8, rfl, sta8, hd8, seen, dis, .inl ⟨rfl, by rw [ef0] at run; exact run, .inl ⟨j, hj, by rw [ef0] at rj; exact rj⟩⟩, hD8, nd6, on6, hh8, t15.trans t8⟩
          · walk_at "st"
            rw [show decide (V.int (s : Int) = V.non) = false from decide_eq_false (by intro z; cases z)]
            refine iteF ?_
            refine iteF ?_
            exact hR _ _ ⟨fv, S, sd, hv, _, y14, us.length, us, kvs, m', u', F0, rfl, fo, Tp.mono t6 _ _ hf5, hS6, rfl, sta, hd6, seen, dis, .inr ⟨s, es, rfl, by rw [ef0] at run; exact run, stop⟩, hD6, nd6, on6, hh6, t15.trans t6⟩
        · intro σ H' Q Q' hq h
          obtain ⟨v13, e13, e1, c1, e2, h⟩ := h
          refine ⟨v13, e13, e1, c1, e2, ?_⟩
          cases c1 with
          | false => exact hq _ _ h
          | true =>
            rw [if_pos rfl] at h ⊢
            obtain ⟨v5, e5, cc, mm, f1, f2, f3, f4, f5, h⟩ := h
            refine ⟨v5, e5, cc, mm, f1, f2, f3, f4, f5, fun v H' F g1 g2 g3 => ?_⟩
            obtain ⟨v12, e12, g4, h⟩ := h v H' F g1 g2 g3
            refine ⟨v12, e12, g4, fun p np => ?_⟩
            obtain ⟨v11, e11, a1, b1, L1, d1, k1, k2, k3, k4, k5, c2, k6, h⟩ := h p np
            refine ⟨v11, e11, a1, b1, L1, d1, k1, k2, k3, k4, k5, c2, k6, ?_⟩
            cases c2 with
            | false => exact hq _ _ h
            | true =>
              rw [if_pos rfl] at h ⊢
              obtain ⟨v10, e10, p1, ys, n1, n2, i1, j1, n3, n4, c3, n5, h⟩ := h
              exact ⟨v10, e10, p1, ys, n1, n2, i1, j1, n3, n4, c3, n5, hq _ _ h⟩
      -- >B
      · rintro σ' H2 ⟨fv, S, sd, hv, sv, y14, N, us, kvs, m', u', F0, rfl, fo, hf, hS, lus, sta, hsd, seen, dis, en, hD2, nd2, on2, hh, t2⟩
        have hL2 := hL.mono t2
        have r00 : InRing c n wd hg (colF F0, u) := by rw [fo.col]; exact r0
        have fit0 : Fit c n (wd + hg) (col m, u) := r0.fit (by omega) (by omega)
        have sok : StandOk c n FarI Tb F0 u := StandOk.mono (B := (wd : Int) + hg) ⟨hL.tab, hL.tab.good hL.n1 hL.n2 hL.c2 hL.c3, hL.n1, by have := hL.c2; omega, FlOk.of fit0 fo, fit0.wk, hL.hd, hL.st⟩ (Int.le_trans (show (wd : Int) + hg ≤ 5 by have := hL.w3; have := hL.h2; omega) (by decide))
        have lF0 : F0.length ≤ 1000 := by
          have q := len_of_ring (z := (col m, u)) fo r0
          have lwh : wd * hg ≤ 3 * 2 := Nat.mul_le_mul hL.w3 hL.h2
          omega
        have onF0 : ∀ s ∈ F0, onRing wd hg s.pt := fun s hs => by
          have g := (fo.mem s).mp hs
          exact r0.near _ (by show col m s.pt ≠ 0; rw [← g.1]; exact g.2)
        clear hL t2 r00 fit0
        refine seq_cutO (fun σ' H' => ∃ y15, σ' = [some (.ref a), some (.ref r), some tv, some (.int wd), some (.int hg), some (.ref D), y6, some wv, some (.int many), some fv, some (.ref S), some (.ref sd), some hv, some sv, y14, y15, none, none, none] ∧ Same H2 H') ?_ ?_
        rotate_left
        -- <E
        · intro R hR
          have hSL2 := SqL.of (K := K) hS
          refine ifs_cut (decide (many < (us.length : Int)) || !decide (sv = .non)) (fun hx => ?_) (fun hx => ?_) (fun Q' q' => ?_)
          · obtain ⟨j, zj, Fj, v, hv_, rj, foj, tj, ej, cj⟩ : ∃ j zj Fj v, us[j]? = some v ∧ runR Tb wd hg j (col m, u) = some zj ∧ FloorOf zj.1 Fj ∧ Tp K H2 v (stepD Fj zj.2) ∧ (j : Int) = (if ((us.length : Int) - 1) < many then ((us.length : Int) - 1) else many) ∧ ((many < (us.length : Int) ∧ (j : Int) = many) ∨ (stepR Tb wd hg zj = none ∧ (j : Int) ≤ many)) := by
              have at2 : ∀ j, j < us.length → ∃ zj Fj v, us[j]? = some v ∧ runR Tb wd hg j (col m, u) = some zj ∧ FloorOf zj.1 Fj ∧ Tp K H2 v (stepD Fj zj.2) := fun j hj => by
                have e := List.getElem?_eq_getElem hj
                obtain ⟨z, F, a1, a2, a3⟩ := sta.at_ j us[j] e
                exact ⟨z, F, us[j], e, by rw [ef0] at a1; exact a1, a2, a3⟩
              by_cases lt : many < (us.length : Int)
              · obtain ⟨zj, Fj, v, b1, b2, b3, b4⟩ := at2 many.toNat (by omega)
                exact ⟨many.toNat, zj, Fj, v, b1, b2, b3, b4, by rw [if_neg (by omega)]; omega, .inl ⟨lt, by omega⟩⟩
              · rw [decide_eq_false lt, Bool.false_or] at hx
                rcases en with ⟨rfl, _⟩ | ⟨s, e1, rfl, e2, e3⟩
                · simp at hx
                · obtain ⟨zj, Fj, v, b1, b2, b3, b4⟩ := at2 s (by omega)
                  rw [e2] at b2
                  cases b2
                  exact ⟨s, _, Fj, v, b1, e2, b3, b4, by rw [if_pos (by omega)]; omega, .inr ⟨e3, by omega⟩⟩
            clear hx en
            have hat : atI us (if ((us.length : Int) - 1) < many then ((us.length : Int) - 1) else many) = some v := by
              rw [← ej]
              exact atI_nat hv_
            obtain ⟨va, x0, x1, rfl, hsv, hx0, hx1⟩ := Tp.stepI tj
            have ht2 := hL2.tT
            have hw2 := hL2.tW
            have htr := hL2.tr
            have w3 := hL2.w3
            have w1 := hL2.w1
            have h2 := hL2.h2
            have h1 := hL2.h1
            have onW := hL2.on
            have mk : many ≤ 1000 := by omega
            walk_at "st"
            intro v5 H5 i F5 z5 ri li ci fo5 hv5 s5
            rw [fo.col] at ri
            obtain ⟨rfl, rfl⟩ := ring_at rj cj ri li ci
            obtain rfl := foj.uniq fo5
            have hS5 := s5 _ _ hS
            have hSL5 := SqL.of (K := K) hS5
            have hsv5 := TK.seqT (Same.tk s5) hsv
            walk_at "st"
            rw [← ej]
            intro p6 np6
            have s6 : Same H5 (upd H5 p6 (.tup [.int (i : Int)])) := Same.new np6
            refine catA_of ((Same.tk s6).seqT hsv5) (SqT.of (xs := [.int (i : Int)]) upd_same) (by intro z; cases z) (by intro z; cases z) (by show 3 ≤ sizeLine; decide) fun p7 np7 => ?_
            have s7 := Same.trans s6 (Same.new (o := .tup ([x0, x1] ++ [.int (i : Int)])) np7)
            have hd7 : Tp K (upd (upd H5 p6 (.tup [.int (i : Int)])) p7 (.tup ([x0, x1] ++ [.int (i : Int)]))) (.ref p7) (walkD Fj z5.2 i) := .tup (SqT.of (xs := [x0, x1, .int (i : Int)]) upd_same) (.cons (Tp.mono (Same.tk (Same.trans s5 s7)) _ _ hx0) (.cons (Tp.mono (Same.tk (Same.trans s5 s7)) _ _ hx1) (.cons (.int _) .nil)))
            have dp1 := Tp.dp _ _ (Tp.mono (Same.tk s7) _ _ hv5)
            have dp2 := Tp.dp _ _ hd7
            have s57 := Same.trans s5 s7
            generalize hH7 : upd (upd H5 p6 (.tup [.int (i : Int)])) p7 (.tup ([x0, x1] ++ [.int (i : Int)])) = H7 at *
            have lFj : Fj.length ≤ 5000 := by
              have q := len_of_ring foj (r0.run hL2.tab hL2.w1 hL2.h1 rj)
              have lwh : wd * hg ≤ 3 * 2 := Nat.mul_le_mul w3 h2
              omega
            have oks := okD_walk z5.2 i lFj
            walk_at "st"
            intro H8 s8
            refine ⟨true, rfl, iteF ?_⟩
            exact hR _ _ ⟨_, rfl, Same.trans s57 s8⟩
          · exact hR _ _ ⟨none, rfl, Same.refl _⟩
          · walk_at "st"
            cases hd : decide (many < (us.length : Int)) with
            | true =>
              rw [hd] at q'
              refine iteT ?_
              exact q'
            | false =>
              rw [hd, Bool.false_or] at q'
              refine iteF ?_
              walk_at "st"
              exact q'
        -- >E
        · rintro σ' H3 ⟨y15, rfl, s23⟩
          have hL3 := hL2.mono (Same.tk s23)
          have hS3 := s23 _ _ hS
          have hd3 := hsd.same s23
          have hD3 := s23 _ _ hD2
          have hf3 := Tp.mono (Same.tk s23) _ _ hf
          have hh3 := Tp.mono (Same.tk s23) _ _ hh
          have flo : ∀ k, k < N → ∀ z', f0 k = some z' → ∃ G, FloorOf z'.1 G := fun k lk z' e => by
            have lk : k < us.length := by omega
            obtain ⟨z2, G, e2, g2, _⟩ := sta.at_ k us[k] (List.getElem?_eq_getElem lk)
            rw [e] at e2
            cases e2
            exact ⟨G, g2⟩
          clear hL2 hS hsd hD2 hf hh s23 sta
          have lm6 := ring_keys nd2 on2
          have w3 := hL3.w3
          have w1 := hL3.w1
          have h2 := hL3.h2
          have h1 := hL3.h1
          have onW := hL3.on
          have lwh : wd * hg ≤ 3 * 2 := Nat.mul_le_mul w3 h2
          have lm69 : m'.length ≤ 900 := by omega
          have rz : ∃ k, f0 k = some (col m', u') := by
            rcases en with ⟨_, e, _⟩ | ⟨s, _, _, e, _⟩
            · exact ⟨N, by rw [ef0]; exact e⟩
            · exact ⟨s, by rw [ef0]; exact e⟩
          have cnn : ∀ p, 0 ≤ col m' p := fun p => by
            obtain ⟨k, e⟩ := rz
            exact ((rk k _ e).cols p).1
          walk_at "st"
          intro v4 H4 F4 fo4 hv4 s4
          walk_at "st"
          intro p5 np5
          have s5 : Same H4 (upd H4 p5 (.tup [v4, hv])) := Same.new np5
          have s35 := Same.trans s4 s5
          have tkey : Tp K (upd H4 p5 (.tup [v4, hv])) (.ref p5) (stepD F4 u') := .tup (SqT.of upd_same) (.cons (Tp.mono (Same.tk s5) _ _ hv4) (.cons (Tp.mono (Same.tk s35) _ _ hh3) .nil))
          generalize hH5 : upd H4 p5 (.tup [v4, hv]) = H5 at *
          have hL5 := hL3.mono (Same.tk s35)
          have hS5 := s35 _ _ hS3
          have hd5 := hd3.same s35
          have hf5 := Tp.mono (Same.tk s35) _ _ hf3
          have ht5 := hL5.tT
          have hw5 := hL5.tW
          have htr5 := hL5.tr
          have c8 : c ≤ 8 := by have := hL5.c3; omega
          clear hL3 hS3 hd3 hD3 hf3 hh3 s4 s5 s35 hv4 np5 hH5
          walk_at "st"
          have never : (∃ j, j < N ∧ runR Tb wd hg j (col m, u) = some (col m', u')) → runR Tb wd hg N (col m, u) = some (col m', u') → ∀ k, runR Tb wd hg k (col m, u) ≠ none := fun ⟨j, hj, rj⟩ rN => runR_round hj rj rN
          have endS : ∀ {i : Nat} {z : WSt}, runR Tb wd hg i (col m, u) = some z → stepR Tb wd hg z = none → runR Tb wd hg (i + 1) (col m, u) = none := fun {i z} a b => by
            show (runR Tb wd hg i (col m, u)).bind _ = none
            rw [a]
            exact b
          have dis : RunsTo (fun k => runR Tb wd hg k (col m, u)) N := by rw [← ef0]; exact dis
          refine ⟨fun i z li ri st v6 H6 hv6 s6 => ?_, fun i j z ij lj ri rj un v6 H6 hv6 s6 => ?_, fun un no d H6 hd s6 => ?_⟩
          · rw [fo.col] at ri
            have n1 := endS ri st
            rcases en with ⟨_, rN, rc⟩ | ⟨s, eN, rfl, rs, ss⟩
            · exfalso
              rcases rc with rc | rc
              · exact never rc rN _ n1
              · rw [rc] at rN
                have := runR_none n1 (show i + 1 ≤ 20100 by omega)
                rw [rN] at this
                cases this
            · have n2 := endS rs ss
              obtain rfl : i = s := by
                rcases Nat.lt_or_ge i s with g | g
                · have := runR_none n1 (show i + 1 ≤ s by omega)
                  rw [rs] at this
                  cases this
                · rcases Nat.lt_or_ge s i with g2 | g2
                  · have := runR_none n2 (show s + 1 ≤ i by omega)
                    rw [ri] at this
                    cases this
                  · omega
              have dp1 := Tp.dp _ _ hv6
              walk_at "st"
              intro p7 np7
              have s7 : Same H6 (upd H6 p7 (.tup [.int (i : Int), .int 0])) := Same.new np7
              have dp2 : Dp K (upd H6 p7 (.tup [.int (i : Int), .int 0])) (.ref p7) (.tuple [.int (i : Int), .int 0]) := Tp.dp _ _ (.tup (SqT.of upd_same) (.cons (.int _) (.cons (.int _) .nil)))
              have dp3 := Tp.dp _ _ (Tp.mono (Same.tk s7) _ _ hv6)
              have oks : okD 5 (.tuple [.int (i : Int), .int 0]) := okD_ints 3 [(i : Int), 0] (by show 2 ≤ 5000; decide)
              walk_at "st"
              intro H8 s8
              exact q _
          · rw [fo.col] at ri rj
            have un : ∀ a b : Nat, a < b → b < j → runR Tb wd hg a (col m, u) ≠ runR Tb wd hg b (col m, u) := fun a b l1 l2 => by
              have := un a b l1 l2
              rw [fo.col] at this
              exact this
            rcases en with ⟨rfl, rN, rc⟩ | ⟨s, eN, rfl, rs, ss⟩
            · obtain ⟨rfl, rs, rfl⟩ : j = N ∧ runR Tb wd hg i (col m, u) = some (col m', u') ∧ z = (col m', u') := by
                rcases rc with ⟨j', hj, rj'⟩ | rc
                · have ej : j = N := by
                    rcases Nat.lt_or_ge j N with g | g
                    · exact absurd (ri.trans rj.symm) (dis i j ij g)
                    · rcases Nat.lt_or_ge N j with g2 | g2
                      · exact absurd (rj'.trans rN.symm) (un j' N hj g2)
                      · omega
                  subst ej
                  rw [rN] at rj
                  have ez := Option.some.inj rj
                  exact ⟨rfl, by rw [ez]; exact ri, ez.symm⟩
                · exact absurd (ri.trans rj.symm) (dis i j ij (by omega))
              have gs : dnGet kvs (nkOf (stepD F4 u')) = some (.int (i : Int)) := by
                have inj : ∀ k z', k < j → f0 k = some z' → kfL z' = kfL (col m', u') → z' = (col m', u') := fun k z' lk e => by
                  obtain ⟨G, g2⟩ := flo k lk z' e
                  exact kfL_inj ⟨F4, fo4⟩ ⟨G, g2⟩
                have lookd := seen.look inj
                rw [kfL_of (z := (col m', u')) fo4] at lookd
                rcases lookd with ⟨_, new⟩ | ⟨k, hk, rk2, g⟩
                · exact absurd (by rw [ef0]; exact rs) (new i ij)
                · rw [ef0] at rk2
                  have rk2 : runR Tb wd hg k (col m, u) = some (col m', u') := rk2
                  rcases Nat.lt_or_ge k i with g1 | g1
                  · exact absurd (rk2.trans rs.symm) (dis k i g1 ij)
                  · rcases Nat.lt_or_ge i k with g2 | g2
                    · exact absurd (rs.trans rk2.symm) (dis i k g2 hk)
                    · obtain rfl : k = i := by omega
                      exact g
              have hd6 := hd5.same s6
              have tk6 := Tp.mono (Same.tk s6) _ _ tkey
              have dep := nk_step_dep F4 u'
              have ht6 := Tp.mono (Same.tk s6) _ _ ht5
              have tab := hL5.tab
              have good := hL5.tab.good hL5.n1 hL5.n2 hL5.c2 hL5.c3
              have n10 : n ≤ 10 := by have := hL5.n2; omega
              have c6 : c ≤ 6 := by have := hL5.c3; omega
              have hS6 := s6 _ _ hS5
              obtain ⟨tu, rfl, hstu⟩ := hv6.int2
              refine gname_seq ?_
              simp only [List.set_cons_zero, List.set_cons_succ]
              refine seq_cutO (fun σ' H' => σ' = [some (.ref a), some (.ref r), some tv, some (.int wd), some (.int hg), some (.ref D), y6, some wv, some (.int many), some fv, some (.ref S), some (.ref sd), some hv, some .non, y14, y15, some (.ref tu), some (.ref p5), none] ∧ H' = H6) ?_ ?_
              rotate_left
              · intro R hR
                walk_at "st"
                exact hR _ _ ⟨rfl, rfl⟩
              · rintro σ' H' ⟨rfl, rfl⟩
                refine seq_cutO (fun σ' H7 => σ' = [some (.ref a), some (.ref r), some tv, some (.int wd), some (.int hg), some (.ref D), y6, some wv, some (.int many), some fv, some (.ref S), some (.ref sd), some hv, some .non, y14, y15, some (.ref tu), some (.ref p5), none] ∧ Same H' H7) ?_ ?_
                rotate_left
                · intro R hR
                  walk_at "st"
                  intro b H7 hb s7
                  have hstu7 := TK.seqT (Same.tk s7) hstu
                  cases b with
                  | false =>
                    walk_at "st"
                    refine iteF ?_
                    exact hR _ _ ⟨rfl, s7⟩
                  | true =>
                    have i0 : i = 0 := no_tail (Y := fun k => (runR Tb wd hg k (col m, u)).getD (col m, u)) (hb.mp rfl) tab ij (fun k hk => by
                        obtain ⟨y, hy⟩ := runR_some rN hk
                        show InRing c n wd hg ((runR Tb wd hg k (col m, u)).getD (col m, u))
                        rw [hy]
                        exact rk k y (by rw [ef0]; exact hy)) (fun k hk => by
                        obtain ⟨y, hy⟩ := runR_some rN (show k ≤ j by omega)
                        obtain ⟨y2, hy2⟩ := runR_some rN (show k + 1 ≤ j by omega)
                        show stepR Tb wd hg ((runR Tb wd hg k (col m, u)).getD (col m, u)) = some ((runR Tb wd hg (k + 1) (col m, u)).getD (col m, u))
                        rw [hy2]
                        have e : (runR Tb wd hg k (col m, u)).bind (stepR Tb wd hg) = some y2 := hy2
                        rw [hy] at e ⊢
                        exact e) (by
                        show (runR Tb wd hg i (col m, u)).getD (col m, u) = (runR Tb wd hg j (col m, u)).getD (col m, u)
                        rw [rs, rN]) (fun a2 b2 l1 l2 e => by
                        obtain ⟨y, hy⟩ := runR_some rN (show a2 ≤ j by omega)
                        obtain ⟨y2, hy2⟩ := runR_some rN (show b2 ≤ j by omega)
                        have e : (runR Tb wd hg a2 (col m, u)).getD (col m, u) = (runR Tb wd hg b2 (col m, u)).getD (col m, u) := e
                        rw [hy, hy2] at e
                        have e : y = y2 := e
                        exact dis a2 b2 l1 l2 (by show runR Tb wd hg a2 (col m, u) = runR Tb wd hg b2 (col m, u); rw [hy, hy2, e]))
                    subst i0
                    walk_at "st"
                    refine iteF ?_
                    exact hR _ _ ⟨rfl, s7⟩
                · rintro σ' H7 ⟨rfl, s7⟩
                  have hd7 := hd6.same s7
                  have tk7 := Tp.mono (Same.tk s7) _ _ tk6
                  have hSL7 : SqL K H7 S us := SqL.of (s7 _ _ hS6)
                  walk_at "st"
                  intro p8 np8
                  have s8 : Same H7 (upd H7 p8 (.tup [.int (i : Int), .int ((us.length : Int) - (i : Int))])) := Same.new np8
                  have dp2 : Dp K (upd H7 p8 (.tup [.int (i : Int), .int ((us.length : Int) - (i : Int))])) (.ref p8) (.tuple [.int (i : Int), .int ((us.length : Int) - (i : Int))]) := Tp.dp _ _ (.tup (SqT.of upd_same) (.cons (.int _) (.cons (.int _) .nil)))
                  have dp1 : Dp K (upd H7 p8 (.tup [.int (i : Int), .int ((us.length : Int) - (i : Int))])) (.ref tu) (.tuple [.int (i : Int), .int ((us.length : Int) - (i : Int))]) := by
                    have z := Tp.dp _ _ (Tp.mono (Same.tk (Same.trans s7 s8)) _ _ hv6)
                    rw [show (PyData.tuple [.int (i : Int), .int ((us.length : Int) - (i : Int))]) = .tuple [.int (i : Int), .int ((j : Int) - (i : Int))] by rw [show (us.length : Int) = (j : Int) by omega]]
                    exact z
                  have oks : okD 5 (.tuple [.int (i : Int), .int ((us.length : Int) - (i : Int))]) := okD_ints 3 [(i : Int), (us.length : Int) - (i : Int)] (by show 2 ≤ 5000; decide)
                  walk_at "st"
                  intro H8 s8
                  exact q _
            · exfalso
              exact runR_round ij ri rj _ (endS rs ss)
          · have un : ∀ a b : Nat, a < b → b ≤ 20000 → runR Tb wd hg a (col m, u) ≠ runR Tb wd hg b (col m, u) := fun a b l1 l2 => by
              have := un a b l1 l2
              rw [fo.col] at this
              exact this
            rw [fo.col] at no
            have big : 20000 < us.length := by
              rcases en with ⟨_, rN, rc⟩ | ⟨s, eN, _, rs, ss⟩
              · rcases rc with ⟨j', hj, rj'⟩ | rc
                · rcases Nat.lt_or_ge 20000 N with g | g
                  · omega
                  · exact absurd (rj'.trans rN.symm) (un j' N hj g)
                · omega
              · rcases Nat.lt_or_ge s 20001 with g | g
                · exact absurd (runR_none (endS rs ss) (show s + 1 ≤ 20001 by omega)) no
                · omega
            refine ⟨true, hex, fun _ ea na => ?_, fun z => by cases z⟩
            have hkit := kit_self (K := K) (v := Value.ref CT)
            have hdok : DOk (some d) H6 := .inr ⟨d, _, rfl, hd⟩
            have hSL6 : SqL K H6 S us := SqL.of (s6 _ _ hS5)
            walk_at "st"
            show Q (.bl (decide ((20000 : Int) < (us.length : Int)))) _
            rw [decide_eq_true (show (20000 : Int) < (us.length : Int) by omega)]
            exact q _
end

theorem defAt_mk {K : PySem.W.Frag} {mg : Str → Option Value} {h : Heap} {x : Str} {st : Stmt} {ps : List Str} {f : Addr} {od an : Option Addr} {sl : Array (Option Value)} {oc kV dc pm cd ct : Value} (X : K.In h) (G : h.Ns mainGlobals mg) (a : PySem.W.nsIn K mainGlobals x = some (some (.ref f))) (l : K.lookup f = some ⟨oc, od, .func (PySem.W.fnOf x x (defArgs st) (defBody st) (defScope st) .none kV dc pm an cd ct), sl⟩) (c : PySem.W.codeIn K cd x = true) (k : PySem.W.keepIn K (.ref f) = true)
    (hb : ∀ (kV doc pm : Value) (an : Option Addr) (cdv ct : Value) (us : List Value), us.length = ps.length → bindArgs (PySem.W.fnOf x x (defArgs st) (defBody st) (defScope st) .none kV doc pm an cdv ct) ⟨us, []⟩ = pure (ps.zip us)) : DefAt K mg x st ps := by
  have F := fun_mk (st := st) l c k
  exact ⟨f, _, F, PySem.W.mg_of X G a, F.binds hb⟩
theorem metAt_mk {K : PySem.W.Frag} {C : Addr} {m qual : Str} {st : Stmt} {ps : List Str} {f : Addr} {od an : Option Addr} {sl : Array (Option Value)} {oc kV dc pm cd ct : Value} (a : PySem.W.findIn K (.ref C) m = some (some (.ref f))) (t : PySem.W.typeIn K (.ref f) = some (.type "function")) (l : K.lookup f = some ⟨oc, od, .func (PySem.W.fnOf m qual (defArgs st) (defBody st) (defScope st) .none kV dc pm an cd ct), sl⟩) (c : PySem.W.codeIn K cd qual = true) (k : PySem.W.keepIn K (.ref f) = true)
    (hb : ∀ (kV doc pm : Value) (an : Option Addr) (cdv ct : Value) (us : List Value), us.length = ps.length → bindArgs (PySem.W.fnOf m qual (defArgs st) (defBody st) (defScope st) .none kV doc pm an cdv ct) ⟨us, []⟩ = pure (ps.zip us)) : MetAt K C m qual st ps := by
  have F := fun_mk (st := st) l c k
  exact ⟨f, _, a, t, F, F.binds hb⟩
theorem metAtD_mk {K : PySem.W.Frag} {C : Addr} {m qual : Str} {st : Stmt} {ps : List Str} {f T : Addr} {its : Array Value} {tn : Nat} {dvs : List V} {od an : Option Addr} {sl : Array (Option Value)} {oc kV dc pm cd ct : Value} (n : Nat) (a : PySem.W.findIn K (.ref C) m = some (some (.ref f))) (t : PySem.W.typeIn K (.ref f) = some (.type "function")) (l : K.lookup f = some ⟨oc, od, .func (PySem.W.fnOf m qual (defArgs st) (defBody st) (defScope st) (.ref T) kV dc pm an cd ct), sl⟩) (c : PySem.W.codeIn K cd qual = true) (k : PySem.W.keepIn K (.ref f) = true)
    (lT : K.lookup T = some { cls := .type "tuple", data := .seq its tn }) (rv : Vals dvs its.toList) (hd : dvs ≠ []) (hn : n + (dvs.length - 0) = ps.length)
    (hb : ∀ (T : Addr) (kV doc pm : Value) (an : Option Addr) (cdv ct : Value) (us its : List Value), us.length = n → its.length = dvs.length → ∃ k, bindArgs (PySem.W.fnOf m qual (defArgs st) (defBody st) (defScope st) (.ref T) kV doc pm an cdv ct) ⟨us, []⟩ = seqItems? (.ref T) >>= k ∧ k (some its.toArray) = pure (ps.zip (us ++ its.drop 0))) : MetAtD K C m qual st ps dvs := by
  have F : FunD K m qual (defArgs st) (defBody st) (defScope st) dvs [] f _ := ⟨⟨oc, od, .ref T, kV, dc, pm, an, cd, ct, sl, rfl, l, c, .inr ⟨hd, T, _, its.toList, tn, rfl, lT, rfl, rv⟩, .inl rfl⟩, k⟩
  obtain ⟨ds, v, b⟩ := F.binds1 n 0 hd hn hb
  exact ⟨f, _, ds, a, t, F, v, b⟩
theorem all_mk {P : Program} {w : World} {K : PySem.W.Frag} {h : Heap} {mg : Str → Option Value} {fa : Addr} {f0 : Addr} {od0 an0 : Option Addr} {sl0 : Array (Option Value)} {oc0 kV0 dc0 pm0 cd0 ct0 : Value} {f1 : Addr} {od1 an1 : Option Addr} {sl1 : Array (Option Value)} {oc1 kV1 dc1 pm1 cd1 ct1 : Value} {f2 : Addr} {od2 an2 : Option Addr} {sl2 : Array (Option Value)} {oc2 kV2 dc2 pm2 cd2 ct2 : Value} {f3 : Addr} {od3 an3 : Option Addr} {sl3 : Array (Option Value)} {oc3 kV3 dc3 pm3 cd3 ct3 : Value} {f4 : Addr} {od4 an4 : Option Addr} {sl4 : Array (Option Value)} {oc4 kV4 dc4 pm4 cd4 ct4 : Value} {f5 : Addr} {od5 an5 : Option Addr} {sl5 : Array (Option Value)} {oc5 kV5 dc5 pm5 cd5 ct5 : Value} {f6 : Addr} {od6 an6 : Option Addr} {sl6 : Array (Option Value)} {oc6 kV6 dc6 pm6 cd6 ct6 : Value} {f7 : Addr} {od7 an7 : Option Addr} {sl7 : Array (Option Value)} {oc7 kV7 dc7 pm7 cd7 ct7 : Value} {f8 : Addr} {od8 an8 : Option Addr} {sl8 : Array (Option Value)} {oc8 kV8 dc8 pm8 cd8 ct8 : Value} {f9 : Addr} {od9 an9 : Option Addr} {sl9 : Array (Option Value)} {oc9 kV9 dc9 pm9 cd9 ct9 : Value} {f10 : Addr} {od10 an10 : Option Addr} {sl10 : Array (Option Value)} {oc10 kV10 dc10 pm10 cd10 ct10 : Value} {f11 : Addr} {od11 an11 : Option Addr} {sl11 : Array (Option Value)} {oc11 kV11 dc11 pm11 cd11 ct11 : Value} {f12 : Addr} {od12 an12 : Option Addr} {sl12 : Array (Option Value)} {oc12 kV12 dc12 pm12 cd12 ct12 : Value} {f13 : Addr} {od13 an13 : Option Addr} {sl13 : Array (Option Value)} {oc13 kV13 dc13 pm13 cd13 ct13 : Value} {f14 : Addr} {od14 an14 : Option Addr} {sl14 : Array (Option Value)} {oc14 kV14 dc14 pm14 cd14 ct14 : Value} {f15 : Addr} {od15 an15 : Option Addr} {sl15 : Array (Option Value)} {oc15 kV15 dc15 pm15 cd15 ct15 : Value} {f16 : Addr} {od16 an16 : Option Addr} {sl16 : Array (Option Value)} {oc16 kV16 dc16 pm16 cd16 ct16 : Value} {f17 : Addr} {od17 an17 : Option Addr} {sl17 : Array (Option Value)} {oc17 kV17 dc17 pm17 cd17 ct17 : Value} {f18 : Addr} {od18 an18 : Option Addr} {sl18 : Array (Option Value)} {oc18 kV18 dc18 pm18 cd18 ct18 : Value} {f19 : Addr} {od19 an19 : Option Addr} {sl19 : Array (Option Value)} {oc19 kV19 dc19 pm19 cd19 ct19 : Value} {f20 : Addr} {od20 an20 : Option Addr} {sl20 : Array (Option Value)} {oc20 kV20 dc20 pm20 cd20 ct20 : Value} {f21 : Addr} {od21 an21 : Option Addr} {sl21 : Array (Option Value)} {oc21 kV21 dc21 pm21 cd21 ct21 : Value} {f22 : Addr} {od22 an22 : Option Addr} {sl22 : Array (Option Value)} {oc22 kV22 dc22 pm22 cd22 ct22 : Value} {f23 : Addr} {od23 an23 : Option Addr} {sl23 : Array (Option Value)} {oc23 kV23 dc23 pm23 cd23 ct23 : Value} {f24 : Addr} {od24 an24 : Option Addr} {sl24 : Array (Option Value)} {oc24 kV24 dc24 pm24 cd24 ct24 : Value} {f25 : Addr} {od25 an25 : Option Addr} {sl25 : Array (Option Value)} {oc25 kV25 dc25 pm25 cd25 ct25 : Value} {f26 : Addr} {od26 an26 : Option Addr} {sl26 : Array (Option Value)} {oc26 kV26 dc26 pm26 cd26 ct26 : Value} {f27 : Addr} {od27 an27 : Option Addr} {sl27 : Array (Option Value)} {oc27 kV27 dc27 pm27 cd27 ct27 : Value} {f28 : Addr} {od28 an28 : Option Addr} {sl28 : Array (Option Value)} {oc28 kV28 dc28 pm28 cd28 ct28 : Value} {f29 : Addr} {od29 an29 : Option Addr} {sl29 : Array (Option Value)} {oc29 kV29 dc29 pm29 cd29 ct29 : Value} {f30 : Addr} {od30 an30 : Option Addr} {sl30 : Array (Option Value)} {oc30 kV30 dc30 pm30 cd30 ct30 : Value} {f31 : Addr} {od31 an31 : Option Addr} {sl31 : Array (Option Value)} {oc31 kV31 dc31 pm31 cd31 ct31 : Value} {f32 : Addr} {od32 an32 : Option Addr} {sl32 : Array (Option Value)} {oc32 kV32 dc32 pm32 cd32 ct32 : Value} {t_FAR : Tok} {t_MOST_STATES : Tok} {t_FEWEST_COLOURS : Tok} {t_MOST_COLOURS : Tok} {t_MOST_SQUARES : Tok} {t_MOST_STEPS : Tok} {hA hB0 hB1 hB2 hB3 : Addr} {hn hn0 hn1 hn2 hn3 : Nat} {ht1 ht2 ht3 ht4 ht5 ht6 ht7 ht8 : Tok} {t_LONGEST_SIDE : Tok} {t_MOST_LIVED : Tok} {t_BITS_OF_COLOUR : Tok} {C_TooMany : Addr} {nm_TooMany q_TooMany : Str} {N_TooMany : Addr} {bs_TooMany bm_TooMany : List Value} {sn_TooMany : List Str} {sub_TooMany : List Value} {ab_TooMany : Bool} {col_TooMany : Option Bool} {dd_TooMany : Option Addr} {m0_TooMany m1_TooMany m2_TooMany m3_TooMany m5_TooMany : Option Value} {fI_TooMany : Addr} {odI_TooMany anI_TooMany : Option Addr} {slI_TooMany : Array (Option Value)} {ocI_TooMany kVI_TooMany dcI_TooMany pmI_TooMany cdI_TooMany ctI_TooMany : Value} {C_Stroll : Addr} {f_Stroll_init : Addr} {od_Stroll_init an_Stroll_init : Option Addr} {sl_Stroll_init : Array (Option Value)} {oc_Stroll_init kV_Stroll_init dc_Stroll_init pm_Stroll_init cd_Stroll_init ct_Stroll_init : Value} {dT_Stroll_init : Addr} {dn_Stroll_init : Nat} {hBL hBL0 : Addr} {nBL nBL0 : Nat} {tBL : Tok} {f_Stroll_colour_of : Addr} {od_Stroll_colour_of an_Stroll_colour_of : Option Addr} {sl_Stroll_colour_of : Array (Option Value)} {oc_Stroll_colour_of kV_Stroll_colour_of dc_Stroll_colour_of pm_Stroll_colour_of cd_Stroll_colour_of ct_Stroll_colour_of : Value} {f_Stroll_paint : Addr} {od_Stroll_paint an_Stroll_paint : Option Addr} {sl_Stroll_paint : Array (Option Value)} {oc_Stroll_paint kV_Stroll_paint dc_Stroll_paint pm_Stroll_paint cd_Stroll_paint ct_Stroll_paint : Value} {f_Stroll_go : Addr} {od_Stroll_go an_Stroll_go : Option Addr} {sl_Stroll_go : Array (Option Value)} {oc_Stroll_go kV_Stroll_go dc_Stroll_go pm_Stroll_go cd_Stroll_go ct_Stroll_go : Value} {f_Stroll_reading : Addr} {od_Stroll_reading an_Stroll_reading : Option Addr} {sl_Stroll_reading : Array (Option Value)} {oc_Stroll_reading kV_Stroll_reading dc_Stroll_reading pm_Stroll_reading cd_Stroll_reading ct_Stroll_reading : Value} {f_Stroll_has_stopped : Addr} {od_Stroll_has_stopped an_Stroll_has_stopped : Option Addr} {sl_Stroll_has_stopped : Array (Option Value)} {oc_Stroll_has_stopped kV_Stroll_has_stopped dc_Stroll_has_stopped pm_Stroll_has_stopped cd_Stroll_has_stopped ct_Stroll_has_stopped : Value} {CW : Addr} (X : K.In h) (G : h.Ns mainGlobals mg) (hfa : mg "law" = some (.ref fa))
    (a0 : PySem.W.nsIn K mainGlobals "is_whole" = some (some (.ref f0)))
    (l0 : K.lookup f0 = some ⟨oc0, od0, .func (PySem.W.fnOf "is_whole" "is_whole" (defArgs s_is_whole) (defBody s_is_whole) (defScope s_is_whole) .none kV0 dc0 pm0 an0 cd0 ct0), sl0⟩)
    (c0 : PySem.W.codeIn K cd0 "is_whole" = true)
    (k0 : PySem.W.keepIn K (.ref f0) = true)
    (a1 : PySem.W.nsIn K mainGlobals "is_place" = some (some (.ref f1)))
    (l1 : K.lookup f1 = some ⟨oc1, od1, .func (PySem.W.fnOf "is_place" "is_place" (defArgs s_is_place) (defBody s_is_place) (defScope s_is_place) .none kV1 dc1 pm1 an1 cd1 ct1), sl1⟩)
    (c1 : PySem.W.codeIn K cd1 "is_place" = true)
    (k1 : PySem.W.keepIn K (.ref f1) = true)
    (a2 : PySem.W.nsIn K mainGlobals "check_number" = some (some (.ref f2)))
    (l2 : K.lookup f2 = some ⟨oc2, od2, .func (PySem.W.fnOf "check_number" "check_number" (defArgs s_check_number) (defBody s_check_number) (defScope s_check_number) .none kV2 dc2 pm2 an2 cd2 ct2), sl2⟩)
    (c2 : PySem.W.codeIn K cd2 "check_number" = true)
    (k2 : PySem.W.keepIn K (.ref f2) = true)
    (a3 : PySem.W.nsIn K mainGlobals "check_table" = some (some (.ref f3)))
    (l3 : K.lookup f3 = some ⟨oc3, od3, .func (PySem.W.fnOf "check_table" "check_table" (defArgs s_check_table) (defBody s_check_table) (defScope s_check_table) .none kV3 dc3 pm3 an3 cd3 ct3), sl3⟩)
    (c3 : PySem.W.codeIn K cd3 "check_table" = true)
    (k3 : PySem.W.keepIn K (.ref f3) = true)
    (a4 : PySem.W.nsIn K mainGlobals "is_table" = some (some (.ref f4)))
    (l4 : K.lookup f4 = some ⟨oc4, od4, .func (PySem.W.fnOf "is_table" "is_table" (defArgs s_is_table) (defBody s_is_table) (defScope s_is_table) .none kV4 dc4 pm4 an4 cd4 ct4), sl4⟩)
    (c4 : PySem.W.codeIn K cd4 "is_table" = true)
    (k4 : PySem.W.keepIn K (.ref f4) = true)
    (a5 : PySem.W.nsIn K mainGlobals "_is_entry" = some (some (.ref f5)))
    (l5 : K.lookup f5 = some ⟨oc5, od5, .func (PySem.W.fnOf "_is_entry" "_is_entry" (defArgs s_u_is_entry) (defBody s_u_is_entry) (defScope s_u_is_entry) .none kV5 dc5 pm5 an5 cd5 ct5), sl5⟩)
    (c5 : PySem.W.codeIn K cd5 "_is_entry" = true)
    (k5 : PySem.W.keepIn K (.ref f5) = true)
    (a6 : PySem.W.nsIn K mainGlobals "check_floor" = some (some (.ref f6)))
    (l6 : K.lookup f6 = some ⟨oc6, od6, .func (PySem.W.fnOf "check_floor" "check_floor" (defArgs s_check_floor) (defBody s_check_floor) (defScope s_check_floor) .none kV6 dc6 pm6 an6 cd6 ct6), sl6⟩)
    (c6 : PySem.W.codeIn K cd6 "check_floor" = true)
    (k6 : PySem.W.keepIn K (.ref f6) = true)
    (a7 : PySem.W.nsIn K mainGlobals "painted_places" = some (some (.ref f7)))
    (l7 : K.lookup f7 = some ⟨oc7, od7, .func (PySem.W.fnOf "painted_places" "painted_places" (defArgs s_painted_places) (defBody s_painted_places) (defScope s_painted_places) .none kV7 dc7 pm7 an7 cd7 ct7), sl7⟩)
    (c7 : PySem.W.codeIn K cd7 "painted_places" = true)
    (k7 : PySem.W.keepIn K (.ref f7) = true)
    (a8 : PySem.W.nsIn K mainGlobals "floor_of" = some (some (.ref f8)))
    (l8 : K.lookup f8 = some ⟨oc8, od8, .func (PySem.W.fnOf "floor_of" "floor_of" (defArgs s_floor_of) (defBody s_floor_of) (defScope s_floor_of) .none kV8 dc8 pm8 an8 cd8 ct8), sl8⟩)
    (c8 : PySem.W.codeIn K cd8 "floor_of" = true)
    (k8 : PySem.W.keepIn K (.ref f8) = true)
    (a9 : PySem.W.nsIn K mainGlobals "paint_square" = some (some (.ref f9)))
    (l9 : K.lookup f9 = some ⟨oc9, od9, .func (PySem.W.fnOf "paint_square" "paint_square" (defArgs s_paint_square) (defBody s_paint_square) (defScope s_paint_square) .none kV9 dc9 pm9 an9 cd9 ct9), sl9⟩)
    (c9 : PySem.W.codeIn K cd9 "paint_square" = true)
    (k9 : PySem.W.keepIn K (.ref f9) = true)
    (a10 : PySem.W.nsIn K mainGlobals "_is_square" = some (some (.ref f10)))
    (l10 : K.lookup f10 = some ⟨oc10, od10, .func (PySem.W.fnOf "_is_square" "_is_square" (defArgs s_u_is_square) (defBody s_u_is_square) (defScope s_u_is_square) .none kV10 dc10 pm10 an10 cd10 ct10), sl10⟩)
    (c10 : PySem.W.codeIn K cd10 "_is_square" = true)
    (k10 : PySem.W.keepIn K (.ref f10) = true)
    (a11 : PySem.W.nsIn K mainGlobals "check_stand" = some (some (.ref f11)))
    (l11 : K.lookup f11 = some ⟨oc11, od11, .func (PySem.W.fnOf "check_stand" "check_stand" (defArgs s_check_stand) (defBody s_check_stand) (defScope s_check_stand) .none kV11 dc11 pm11 an11 cd11 ct11), sl11⟩)
    (c11 : PySem.W.codeIn K cd11 "check_stand" = true)
    (k11 : PySem.W.keepIn K (.ref f11) = true)
    (a12 : PySem.W.nsIn K mainGlobals "check_walker" = some (some (.ref f12)))
    (l12 : K.lookup f12 = some ⟨oc12, od12, .func (PySem.W.fnOf "check_walker" "check_walker" (defArgs s_check_walker) (defBody s_check_walker) (defScope s_check_walker) .none kV12 dc12 pm12 an12 cd12 ct12), sl12⟩)
    (c12 : PySem.W.codeIn K cd12 "check_walker" = true)
    (k12 : PySem.W.keepIn K (.ref f12) = true)
    (a13 : PySem.W.nsIn K mainGlobals "is_walker" = some (some (.ref f13)))
    (l13 : K.lookup f13 = some ⟨oc13, od13, .func (PySem.W.fnOf "is_walker" "is_walker" (defArgs s_is_walker) (defBody s_is_walker) (defScope s_is_walker) .none kV13 dc13 pm13 an13 cd13 ct13), sl13⟩)
    (c13 : PySem.W.codeIn K cd13 "is_walker" = true)
    (k13 : PySem.W.keepIn K (.ref f13) = true)
    (a14 : PySem.W.nsIn K mainGlobals "_walker_behind" = some (some (.ref f14)))
    (l14 : K.lookup f14 = some ⟨oc14, od14, .func (PySem.W.fnOf "_walker_behind" "_walker_behind" (defArgs s_u_walker_behind) (defBody s_u_walker_behind) (defScope s_u_walker_behind) .none kV14 dc14 pm14 an14 cd14 ct14), sl14⟩)
    (c14 : PySem.W.codeIn K cd14 "_walker_behind" = true)
    (k14 : PySem.W.keepIn K (.ref f14) = true)
    (a15 : PySem.W.nsIn K mainGlobals "ring_walk" = some (some (.ref f15)))
    (l15 : K.lookup f15 = some ⟨oc15, od15, .func (PySem.W.fnOf "ring_walk" "ring_walk" (defArgs s_ring_walk) (defBody s_ring_walk) (defScope s_ring_walk) .none kV15 dc15 pm15 an15 cd15 ct15), sl15⟩)
    (c15 : PySem.W.codeIn K cd15 "ring_walk" = true)
    (k15 : PySem.W.keepIn K (.ref f15) = true)
    (a16 : PySem.W.nsIn K mainGlobals "ring_life" = some (some (.ref f16)))
    (l16 : K.lookup f16 = some ⟨oc16, od16, .func (PySem.W.fnOf "ring_life" "ring_life" (defArgs s_ring_life) (defBody s_ring_life) (defScope s_ring_life) .none kV16 dc16 pm16 an16 cd16 ct16), sl16⟩)
    (c16 : PySem.W.codeIn K cd16 "ring_life" = true)
    (k16 : PySem.W.keepIn K (.ref f16) = true)
    (a17 : PySem.W.nsIn K mainGlobals "_check_ring" = some (some (.ref f17)))
    (l17 : K.lookup f17 = some ⟨oc17, od17, .func (PySem.W.fnOf "_check_ring" "_check_ring" (defArgs s_u_check_ring) (defBody s_u_check_ring) (defScope s_u_check_ring) .none kV17 dc17 pm17 an17 cd17 ct17), sl17⟩)
    (c17 : PySem.W.codeIn K cd17 "_check_ring" = true)
    (k17 : PySem.W.keepIn K (.ref f17) = true)
    (a18 : PySem.W.nsIn K mainGlobals "_lies_on" = some (some (.ref f18)))
    (l18 : K.lookup f18 = some ⟨oc18, od18, .func (PySem.W.fnOf "_lies_on" "_lies_on" (defArgs s_u_lies_on) (defBody s_u_lies_on) (defScope s_u_lies_on) .none kV18 dc18 pm18 an18 cd18 ct18), sl18⟩)
    (c18 : PySem.W.codeIn K cd18 "_lies_on" = true)
    (k18 : PySem.W.keepIn K (.ref f18) = true)
    (a19 : PySem.W.nsIn K mainGlobals "_step_round" = some (some (.ref f19)))
    (l19 : K.lookup f19 = some ⟨oc19, od19, .func (PySem.W.fnOf "_step_round" "_step_round" (defArgs s_u_step_round) (defBody s_u_step_round) (defScope s_u_step_round) .none kV19 dc19 pm19 an19 cd19 ct19), sl19⟩)
    (c19 : PySem.W.codeIn K cd19 "_step_round" = true)
    (k19 : PySem.W.keepIn K (.ref f19) = true)
    (a20 : PySem.W.nsIn K mainGlobals "_coded" = some (some (.ref f20)))
    (l20 : K.lookup f20 = some ⟨oc20, od20, .func (PySem.W.fnOf "_coded" "_coded" (defArgs s_u_coded) (defBody s_u_coded) (defScope s_u_coded) .none kV20 dc20 pm20 an20 cd20 ct20), sl20⟩)
    (c20 : PySem.W.codeIn K cd20 "_coded" = true)
    (k20 : PySem.W.keepIn K (.ref f20) = true)
    (a21 : PySem.W.nsIn K mainGlobals "can_be_undone" = some (some (.ref f21)))
    (l21 : K.lookup f21 = some ⟨oc21, od21, .func (PySem.W.fnOf "can_be_undone" "can_be_undone" (defArgs s_can_be_undone) (defBody s_can_be_undone) (defScope s_can_be_undone) .none kV21 dc21 pm21 an21 cd21 ct21), sl21⟩)
    (c21 : PySem.W.codeIn K cd21 "can_be_undone" = true)
    (k21 : PySem.W.keepIn K (.ref f21) = true)
    (a22 : PySem.W.nsIn K mainGlobals "_entries" = some (some (.ref f22)))
    (l22 : K.lookup f22 = some ⟨oc22, od22, .func (PySem.W.fnOf "_entries" "_entries" (defArgs s_u_entries) (defBody s_u_entries) (defScope s_u_entries) .none kV22 dc22 pm22 an22 cd22 ct22), sl22⟩)
    (c22 : PySem.W.codeIn K cd22 "_entries" = true)
    (k22 : PySem.W.keepIn K (.ref f22) = true)
    (a23 : PySem.W.nsIn K mainGlobals "_loses_nothing" = some (some (.ref f23)))
    (l23 : K.lookup f23 = some ⟨oc23, od23, .func (PySem.W.fnOf "_loses_nothing" "_loses_nothing" (defArgs s_u_loses_nothing) (defBody s_u_loses_nothing) (defScope s_u_loses_nothing) .none kV23 dc23 pm23 an23 cd23 ct23), sl23⟩)
    (c23 : PySem.W.codeIn K cd23 "_loses_nothing" = true)
    (k23 : PySem.W.keepIn K (.ref f23) = true)
    (a24 : PySem.W.nsIn K mainGlobals "_law_taken" = some (some (.ref f24)))
    (l24 : K.lookup f24 = some ⟨oc24, od24, .func (PySem.W.fnOf "_law_taken" "_law_taken" (defArgs s_law_taken) (defBody s_law_taken) (defScope s_law_taken) .none kV24 dc24 pm24 an24 cd24 ct24), sl24⟩)
    (c24 : PySem.W.codeIn K cd24 "_law_taken" = true)
    (k24 : PySem.W.keepIn K (.ref f24) = true)
    (a25 : PySem.W.nsIn K mainGlobals "_law_pick" = some (some (.ref f25)))
    (l25 : K.lookup f25 = some ⟨oc25, od25, .func (PySem.W.fnOf "_law_pick" "_law_pick" (defArgs s_law_pick) (defBody s_law_pick) (defScope s_law_pick) .none kV25 dc25 pm25 an25 cd25 ct25), sl25⟩)
    (c25 : PySem.W.codeIn K cd25 "_law_pick" = true)
    (k25 : PySem.W.keepIn K (.ref f25) = true)
    (a26 : PySem.W.nsIn K mainGlobals "_law_table" = some (some (.ref f26)))
    (l26 : K.lookup f26 = some ⟨oc26, od26, .func (PySem.W.fnOf "_law_table" "_law_table" (defArgs s_law_table) (defBody s_law_table) (defScope s_law_table) .none kV26 dc26 pm26 an26 cd26 ct26), sl26⟩)
    (c26 : PySem.W.codeIn K cd26 "_law_table" = true)
    (k26 : PySem.W.keepIn K (.ref f26) = true)
    (a27 : PySem.W.nsIn K mainGlobals "_law_undone_table" = some (some (.ref f27)))
    (l27 : K.lookup f27 = some ⟨oc27, od27, .func (PySem.W.fnOf "_law_undone_table" "_law_undone_table" (defArgs s_law_undone_table) (defBody s_law_undone_table) (defScope s_law_undone_table) .none kV27 dc27 pm27 an27 cd27 ct27), sl27⟩)
    (c27 : PySem.W.codeIn K cd27 "_law_undone_table" = true)
    (k27 : PySem.W.keepIn K (.ref f27) = true)
    (a28 : PySem.W.nsIn K mainGlobals "_law_floor" = some (some (.ref f28)))
    (l28 : K.lookup f28 = some ⟨oc28, od28, .func (PySem.W.fnOf "_law_floor" "_law_floor" (defArgs s_law_floor) (defBody s_law_floor) (defScope s_law_floor) .none kV28 dc28 pm28 an28 cd28 ct28), sl28⟩)
    (c28 : PySem.W.codeIn K cd28 "_law_floor" = true)
    (k28 : PySem.W.keepIn K (.ref f28) = true)
    (a29 : PySem.W.nsIn K mainGlobals "_law_ahead" = some (some (.ref f29)))
    (l29 : K.lookup f29 = some ⟨oc29, od29, .func (PySem.W.fnOf "_law_ahead" "_law_ahead" (defArgs s_law_ahead) (defBody s_law_ahead) (defScope s_law_ahead) .none kV29 dc29 pm29 an29 cd29 ct29), sl29⟩)
    (c29 : PySem.W.codeIn K cd29 "_law_ahead" = true)
    (k29 : PySem.W.keepIn K (.ref f29) = true)
    (a30 : PySem.W.nsIn K mainGlobals "_law_step" = some (some (.ref f30)))
    (l30 : K.lookup f30 = some ⟨oc30, od30, .func (PySem.W.fnOf "_law_step" "_law_step" (defArgs s_law_step) (defBody s_law_step) (defScope s_law_step) .none kV30 dc30 pm30 an30 cd30 ct30), sl30⟩)
    (c30 : PySem.W.codeIn K cd30 "_law_step" = true)
    (k30 : PySem.W.keepIn K (.ref f30) = true)
    (a31 : PySem.W.nsIn K mainGlobals "_law_alike" = some (some (.ref f31)))
    (l31 : K.lookup f31 = some ⟨oc31, od31, .func (PySem.W.fnOf "_law_alike" "_law_alike" (defArgs s_law_alike) (defBody s_law_alike) (defScope s_law_alike) .none kV31 dc31 pm31 an31 cd31 ct31), sl31⟩)
    (c31 : PySem.W.codeIn K cd31 "_law_alike" = true)
    (k31 : PySem.W.keepIn K (.ref f31) = true)
    (a32 : PySem.W.nsIn K mainGlobals "law" = some (some (.ref f32)))
    (l32 : K.lookup f32 = some ⟨oc32, od32, .func (PySem.W.fnOf "law" "law" (defArgs s_law) (defBody s_law) (defScope s_law) .none kV32 dc32 pm32 an32 cd32 ct32), sl32⟩)
    (c32 : PySem.W.codeIn K cd32 "law" = true)
    (k32 : PySem.W.keepIn K (.ref f32) = true)
    (z_ValueError : PySem.W.nsIn K mainGlobals "ValueError" = some none)
    (z_all : PySem.W.nsIn K mainGlobals "all" = some none)
    (z_bool : PySem.W.nsIn K mainGlobals "bool" = some none)
    (z_enumerate : PySem.W.nsIn K mainGlobals "enumerate" = some none)
    (z_int : PySem.W.nsIn K mainGlobals "int" = some none)
    (z_isinstance : PySem.W.nsIn K mainGlobals "isinstance" = some none)
    (z_len : PySem.W.nsIn K mainGlobals "len" = some none)
    (z_list : PySem.W.nsIn K mainGlobals "list" = some none)
    (z_min : PySem.W.nsIn K mainGlobals "min" = some none)
    (z_range : PySem.W.nsIn K mainGlobals "range" = some none)
    (z_set : PySem.W.nsIn K mainGlobals "set" = some none)
    (z_sorted : PySem.W.nsIn K mainGlobals "sorted" = some none)
    (z_str : PySem.W.nsIn K mainGlobals "str" = some none)
    (z_sum : PySem.W.nsIn K mainGlobals "sum" = some none)
    (z_tuple : PySem.W.nsIn K mainGlobals "tuple" = some none)
    (g_FAR : PySem.W.nsIn K mainGlobals "FAR" = some (some (.int 1000000000000000000000000000000000000000000000000000000000000 t_FAR)))
    (g_MOST_STATES : PySem.W.nsIn K mainGlobals "MOST_STATES" = some (some (.int 10 t_MOST_STATES)))
    (g_FEWEST_COLOURS : PySem.W.nsIn K mainGlobals "FEWEST_COLOURS" = some (some (.int 2 t_FEWEST_COLOURS)))
    (g_MOST_COLOURS : PySem.W.nsIn K mainGlobals "MOST_COLOURS" = some (some (.int 6 t_MOST_COLOURS)))
    (g_MOST_SQUARES : PySem.W.nsIn K mainGlobals "MOST_SQUARES" = some (some (.int 4000 t_MOST_SQUARES)))
    (g_MOST_STEPS : PySem.W.nsIn K mainGlobals "MOST_STEPS" = some (some (.int 100000 t_MOST_STEPS)))
    (g_AHEAD : PySem.W.nsIn K mainGlobals "AHEAD" = some (some (.ref hA)))
    (lA : K.lookup hA = some { cls := .type "tuple", data := .seq #[.ref hB0, .ref hB1, .ref hB2, .ref hB3] hn })
    (lB0 : K.lookup hB0 = some { cls := .type "tuple", data := .seq #[.int 0 ht1, .int (-1) ht2] hn0 })
    (lB1 : K.lookup hB1 = some { cls := .type "tuple", data := .seq #[.int 1 ht3, .int 0 ht4] hn1 })
    (lB2 : K.lookup hB2 = some { cls := .type "tuple", data := .seq #[.int 0 ht5, .int 1 ht6] hn2 })
    (lB3 : K.lookup hB3 = some { cls := .type "tuple", data := .seq #[.int (-1) ht7, .int 0 ht8] hn3 })
    (g_LONGEST_SIDE : PySem.W.nsIn K mainGlobals "LONGEST_SIDE" = some (some (.int 40 t_LONGEST_SIDE)))
    (g_MOST_LIVED : PySem.W.nsIn K mainGlobals "MOST_LIVED" = some (some (.int 20000 t_MOST_LIVED)))
    (g_BITS_OF_COLOUR : PySem.W.nsIn K mainGlobals "BITS_OF_COLOUR" = some (some (.int 3 t_BITS_OF_COLOUR)))
    (a_TooMany : PySem.W.nsIn K mainGlobals "TooMany" = some (some (.ref C_TooMany)))
    (xL_TooMany : K.lookup C_TooMany = some (PySem.excClassObj nm_TooMany q_TooMany C_TooMany N_TooMany bs_TooMany bm_TooMany true sn_TooMany sub_TooMany ab_TooMany col_TooMany dd_TooMany m0_TooMany m1_TooMany m2_TooMany m3_TooMany m5_TooMany "ValueError.__new__"))
    (rv_TooMany : PySem.HandSPX.refsVE bm_TooMany = true)
    (sa_TooMany : PySem.W.findIn K (.ref C_TooMany) "__setattr__" = some (some (.builtin "object.__setattr__")))
    (ga_TooMany : PySem.W.findIn K (.ref C_TooMany) "__getattribute__" = some (some (.builtin "BaseException.__getattribute__")))
    (gg_TooMany : PySem.W.findIn K (.ref C_TooMany) "__getattr__" = some none)
    (ha_TooMany : PySem.W.findIn K (.ref C_TooMany) "__class__" = some (some (.builtin "object.__class__")))
    (eC_TooMany : PySem.W.subIn K (.ref C_TooMany) (.type "BaseException") = some true)
    (tC_TooMany : PySem.W.typeIn K (.ref C_TooMany) = some (.type "type"))
    (kC_TooMany : PySem.W.keepIn K (.ref C_TooMany) = true)
    (hC_TooMany : PySem.W.hasDictIn K C_TooMany = true)
    (hm_TooMany : PySem.W.mroIn K C_TooMany (.type "object") = some true)
    (iA_TooMany : PySem.W.findIn K (.ref C_TooMany) "__init__" = some (some (.ref fI_TooMany)))
    (iT_TooMany : PySem.W.typeIn K (.ref fI_TooMany) = some (.type "function"))
    (iL_TooMany : K.lookup fI_TooMany = some ⟨ocI_TooMany, odI_TooMany, .func (PySem.W.fnOf "__init__" "TooMany.__init__" (defArgs s_TooMany_init) (defBody s_TooMany_init) (defScope s_TooMany_init) .none kVI_TooMany dcI_TooMany pmI_TooMany anI_TooMany cdI_TooMany ctI_TooMany), slI_TooMany⟩)
    (iC_TooMany : PySem.W.codeIn K cdI_TooMany "TooMany.__init__" = true)
    (iK_TooMany : PySem.W.keepIn K (.ref fI_TooMany) = true)
    (no_TooMany : PySem.W.findIn K (.ref C_TooMany) "most" = some none)
    (a_Stroll : PySem.W.nsIn K mainGlobals "Stroll" = some (some (.ref C_Stroll)))
    (pg_Stroll : PySem.W.plainGet K C_Stroll Str.empty = true)
    (hd_Stroll : PySem.W.hasDictIn K C_Stroll = true)
    (po_Stroll : PySem.W.plainOver K C_Stroll = true)
    (sa_Stroll : PySem.W.findIn K (.ref C_Stroll) "__setattr__" = some (some (.builtin "object.__setattr__")))
    (mk_Stroll : PySem.W.makesIn K C_Stroll = true)
    (kc_Stroll : PySem.W.keepIn K (.ref C_Stroll) = true)
    (n_Stroll_table : PySem.W.findIn K (.ref C_Stroll) "table" = some none)
    (n_Stroll_ground : PySem.W.findIn K (.ref C_Stroll) "ground" = some none)
    (n_Stroll_painted : PySem.W.findIn K (.ref C_Stroll) "painted" = some none)
    (n_Stroll_walker : PySem.W.findIn K (.ref C_Stroll) "walker" = some none)
    (iA_Stroll_init : PySem.W.findIn K (.ref C_Stroll) "__init__" = some (some (.ref f_Stroll_init)))
    (iT_Stroll_init : PySem.W.typeIn K (.ref f_Stroll_init) = some (.type "function"))
    (iL_Stroll_init : K.lookup f_Stroll_init = some ⟨oc_Stroll_init, od_Stroll_init, .func (PySem.W.fnOf "__init__" "Stroll.__init__" (defArgs s_Stroll_init) (defBody s_Stroll_init) (defScope s_Stroll_init) (.ref dT_Stroll_init) kV_Stroll_init dc_Stroll_init pm_Stroll_init an_Stroll_init cd_Stroll_init ct_Stroll_init), sl_Stroll_init⟩)
    (dL_Stroll_init : K.lookup dT_Stroll_init = some { cls := .type "tuple", data := .seq #[.ref hBL] dn_Stroll_init })
    (lBL : K.lookup hBL = some { cls := .type "tuple", data := .seq #[.ref hBL0] nBL })
    (lBL0 : K.lookup hBL0 = some { cls := .type "tuple", data := .seq #[.int 0 tBL] nBL0 })
    (iC_Stroll_init : PySem.W.codeIn K cd_Stroll_init "Stroll.__init__" = true)
    (iK_Stroll_init : PySem.W.keepIn K (.ref f_Stroll_init) = true)
    (iA_Stroll_colour_of : PySem.W.findIn K (.ref C_Stroll) "colour_of" = some (some (.ref f_Stroll_colour_of)))
    (iT_Stroll_colour_of : PySem.W.typeIn K (.ref f_Stroll_colour_of) = some (.type "function"))
    (iL_Stroll_colour_of : K.lookup f_Stroll_colour_of = some ⟨oc_Stroll_colour_of, od_Stroll_colour_of, .func (PySem.W.fnOf "colour_of" "Stroll.colour_of" (defArgs s_Stroll_colour_of) (defBody s_Stroll_colour_of) (defScope s_Stroll_colour_of) .none kV_Stroll_colour_of dc_Stroll_colour_of pm_Stroll_colour_of an_Stroll_colour_of cd_Stroll_colour_of ct_Stroll_colour_of), sl_Stroll_colour_of⟩)
    (iC_Stroll_colour_of : PySem.W.codeIn K cd_Stroll_colour_of "Stroll.colour_of" = true)
    (iK_Stroll_colour_of : PySem.W.keepIn K (.ref f_Stroll_colour_of) = true)
    (iA_Stroll_paint : PySem.W.findIn K (.ref C_Stroll) "paint" = some (some (.ref f_Stroll_paint)))
    (iT_Stroll_paint : PySem.W.typeIn K (.ref f_Stroll_paint) = some (.type "function"))
    (iL_Stroll_paint : K.lookup f_Stroll_paint = some ⟨oc_Stroll_paint, od_Stroll_paint, .func (PySem.W.fnOf "paint" "Stroll.paint" (defArgs s_Stroll_paint) (defBody s_Stroll_paint) (defScope s_Stroll_paint) .none kV_Stroll_paint dc_Stroll_paint pm_Stroll_paint an_Stroll_paint cd_Stroll_paint ct_Stroll_paint), sl_Stroll_paint⟩)
    (iC_Stroll_paint : PySem.W.codeIn K cd_Stroll_paint "Stroll.paint" = true)
    (iK_Stroll_paint : PySem.W.keepIn K (.ref f_Stroll_paint) = true)
    (iA_Stroll_go : PySem.W.findIn K (.ref C_Stroll) "go" = some (some (.ref f_Stroll_go)))
    (iT_Stroll_go : PySem.W.typeIn K (.ref f_Stroll_go) = some (.type "function"))
    (iL_Stroll_go : K.lookup f_Stroll_go = some ⟨oc_Stroll_go, od_Stroll_go, .func (PySem.W.fnOf "go" "Stroll.go" (defArgs s_Stroll_go) (defBody s_Stroll_go) (defScope s_Stroll_go) .none kV_Stroll_go dc_Stroll_go pm_Stroll_go an_Stroll_go cd_Stroll_go ct_Stroll_go), sl_Stroll_go⟩)
    (iC_Stroll_go : PySem.W.codeIn K cd_Stroll_go "Stroll.go" = true)
    (iK_Stroll_go : PySem.W.keepIn K (.ref f_Stroll_go) = true)
    (iA_Stroll_reading : PySem.W.findIn K (.ref C_Stroll) "reading" = some (some (.ref f_Stroll_reading)))
    (iT_Stroll_reading : PySem.W.typeIn K (.ref f_Stroll_reading) = some (.type "function"))
    (iL_Stroll_reading : K.lookup f_Stroll_reading = some ⟨oc_Stroll_reading, od_Stroll_reading, .func (PySem.W.fnOf "reading" "Stroll.reading" (defArgs s_Stroll_reading) (defBody s_Stroll_reading) (defScope s_Stroll_reading) .none kV_Stroll_reading dc_Stroll_reading pm_Stroll_reading an_Stroll_reading cd_Stroll_reading ct_Stroll_reading), sl_Stroll_reading⟩)
    (iC_Stroll_reading : PySem.W.codeIn K cd_Stroll_reading "Stroll.reading" = true)
    (iK_Stroll_reading : PySem.W.keepIn K (.ref f_Stroll_reading) = true)
    (iA_Stroll_has_stopped : PySem.W.findIn K (.ref C_Stroll) "has_stopped" = some (some (.ref f_Stroll_has_stopped)))
    (iT_Stroll_has_stopped : PySem.W.typeIn K (.ref f_Stroll_has_stopped) = some (.type "function"))
    (iL_Stroll_has_stopped : K.lookup f_Stroll_has_stopped = some ⟨oc_Stroll_has_stopped, od_Stroll_has_stopped, .func (PySem.W.fnOf "has_stopped" "Stroll.has_stopped" (defArgs s_Stroll_has_stopped) (defBody s_Stroll_has_stopped) (defScope s_Stroll_has_stopped) .none kV_Stroll_has_stopped dc_Stroll_has_stopped pm_Stroll_has_stopped an_Stroll_has_stopped cd_Stroll_has_stopped ct_Stroll_has_stopped), sl_Stroll_has_stopped⟩)
    (iC_Stroll_has_stopped : PySem.W.codeIn K cd_Stroll_has_stopped "Stroll.has_stopped" = true)
    (iK_Stroll_has_stopped : PySem.W.keepIn K (.ref f_Stroll_has_stopped) = true)
    (xhn : PySem.W.specialIn K (.builtin "object.__class__") "__get__" = some (some (.builtin "getset_descriptor.__get__")))
    (xht : PySem.W.takesIn K (.builtin "object.__class__") = some true)
    (wA : PySem.W.nsIn K mainGlobals "WalkError" = some (some (.ref CW)))
    (wE : PySem.W.subIn K (.ref CW) (.type "BaseException") = some true)
    (wD : PySem.W.hasDictIn K CW = true)
    (wT : PySem.W.typeIn K (.ref CW) = some (.type "type"))
    (wS_TooMany : PySem.W.subIn K (.ref C_TooMany) (.ref CW) = some true)
    : ∃ fd : FuncData, (∀ (s : Shared) (v : Value), BindsTo s fd ⟨[v], []⟩ [("script", v)]) ∧ ∀ base : Heap, K.In base → base.Ns mainGlobals mg → FnOk P w K mg base CX0 8 fa fd ["script"] (spLaw K) := by
  have e := hfa.symm.trans (PySem.W.mg_of X G a32)
  cases e
  have D_is_whole : DefAt K mg "is_whole" s_is_whole ["value", "least", "greatest"] := defAt_mk X G a0 l0 c0 k0 (fun _ _ _ _ _ _ us hl => match us, hl with | [_, _, _], _ => rfl)
  have D_is_place : DefAt K mg "is_place" s_is_place ["value"] := defAt_mk X G a1 l1 c1 k1 (fun _ _ _ _ _ _ us hl => match us, hl with | [_], _ => rfl)
  have D_check_number : DefAt K mg "check_number" s_check_number ["value", "least", "greatest"] := defAt_mk X G a2 l2 c2 k2 (fun _ _ _ _ _ _ us hl => match us, hl with | [_, _, _], _ => rfl)
  have D_check_table : DefAt K mg "check_table" s_check_table ["value"] := defAt_mk X G a3 l3 c3 k3 (fun _ _ _ _ _ _ us hl => match us, hl with | [_], _ => rfl)
  have D_is_table : DefAt K mg "is_table" s_is_table ["value"] := defAt_mk X G a4 l4 c4 k4 (fun _ _ _ _ _ _ us hl => match us, hl with | [_], _ => rfl)
  have D_is_entry : DefAt K mg "_is_entry" s_u_is_entry ["value", "colours", "states"] := defAt_mk X G a5 l5 c5 k5 (fun _ _ _ _ _ _ us hl => match us, hl with | [_, _, _], _ => rfl)
  have D_check_floor : DefAt K mg "check_floor" s_check_floor ["value", "colours"] := defAt_mk X G a6 l6 c6 k6 (fun _ _ _ _ _ _ us hl => match us, hl with | [_, _], _ => rfl)
  have D_painted_places : DefAt K mg "painted_places" s_painted_places ["floor"] := defAt_mk X G a7 l7 c7 k7 (fun _ _ _ _ _ _ us hl => match us, hl with | [_], _ => rfl)
  have D_floor_of : DefAt K mg "floor_of" s_floor_of ["painted"] := defAt_mk X G a8 l8 c8 k8 (fun _ _ _ _ _ _ us hl => match us, hl with | [_], _ => rfl)
  have D_paint_square : DefAt K mg "paint_square" s_paint_square ["painted", "place", "colour"] := defAt_mk X G a9 l9 c9 k9 (fun _ _ _ _ _ _ us hl => match us, hl with | [_, _, _], _ => rfl)
  have D_is_square : DefAt K mg "_is_square" s_u_is_square ["value", "colours"] := defAt_mk X G a10 l10 c10 k10 (fun _ _ _ _ _ _ us hl => match us, hl with | [_, _], _ => rfl)
  have D_check_stand : DefAt K mg "check_stand" s_check_stand ["table", "floor", "walker"] := defAt_mk X G a11 l11 c11 k11 (fun _ _ _ _ _ _ us hl => match us, hl with | [_, _, _], _ => rfl)
  have D_check_walker : DefAt K mg "check_walker" s_check_walker ["value", "states"] := defAt_mk X G a12 l12 c12 k12 (fun _ _ _ _ _ _ us hl => match us, hl with | [_, _], _ => rfl)
  have D_is_walker : DefAt K mg "is_walker" s_is_walker ["value", "states"] := defAt_mk X G a13 l13 c13 k13 (fun _ _ _ _ _ _ us hl => match us, hl with | [_, _], _ => rfl)
  have D_walker_behind : DefAt K mg "_walker_behind" s_u_walker_behind ["walker", "entry"] := defAt_mk X G a14 l14 c14 k14 (fun _ _ _ _ _ _ us hl => match us, hl with | [_, _], _ => rfl)
  have D_ring_walk : DefAt K mg "ring_walk" s_ring_walk ["table", "floor", "walker", "wide", "high", "many"] := defAt_mk X G a15 l15 c15 k15 (fun _ _ _ _ _ _ us hl => match us, hl with | [_, _, _, _, _, _], _ => rfl)
  have D_ring_life : DefAt K mg "ring_life" s_ring_life ["table", "floor", "walker", "wide", "high"] := defAt_mk X G a16 l16 c16 k16 (fun _ _ _ _ _ _ us hl => match us, hl with | [_, _, _, _, _], _ => rfl)
  have D_check_ring : DefAt K mg "_check_ring" s_u_check_ring ["table", "floor", "walker", "wide", "high"] := defAt_mk X G a17 l17 c17 k17 (fun _ _ _ _ _ _ us hl => match us, hl with | [_, _, _, _, _], _ => rfl)
  have D_lies_on : DefAt K mg "_lies_on" s_u_lies_on ["x", "y", "wide", "high"] := defAt_mk X G a18 l18 c18 k18 (fun _ _ _ _ _ _ us hl => match us, hl with | [_, _, _, _], _ => rfl)
  have D_step_round : DefAt K mg "_step_round" s_u_step_round ["stroll", "wide", "high"] := defAt_mk X G a19 l19 c19 k19 (fun _ _ _ _ _ _ us hl => match us, hl with | [_, _, _], _ => rfl)
  have D_coded : DefAt K mg "_coded" s_u_coded ["place", "colour", "wide"] := defAt_mk X G a20 l20 c20 k20 (fun _ _ _ _ _ _ us hl => match us, hl with | [_, _, _], _ => rfl)
  have D_can_be_undone : DefAt K mg "can_be_undone" s_can_be_undone ["table"] := defAt_mk X G a21 l21 c21 k21 (fun _ _ _ _ _ _ us hl => match us, hl with | [_], _ => rfl)
  have D_entries : DefAt K mg "_entries" s_u_entries ["table"] := defAt_mk X G a22 l22 c22 k22 (fun _ _ _ _ _ _ us hl => match us, hl with | [_], _ => rfl)
  have D_loses_nothing : DefAt K mg "_loses_nothing" s_u_loses_nothing ["table"] := defAt_mk X G a23 l23 c23 k23 (fun _ _ _ _ _ _ us hl => match us, hl with | [_], _ => rfl)
  have D_law_taken : DefAt K mg "_law_taken" s_law_taken ["row", "many"] := defAt_mk X G a24 l24 c24 k24 (fun _ _ _ _ _ _ us hl => match us, hl with | [_, _], _ => rfl)
  have D_law_pick : DefAt K mg "_law_pick" s_law_pick ["row", "things"] := defAt_mk X G a25 l25 c25 k25 (fun _ _ _ _ _ _ us hl => match us, hl with | [_, _], _ => rfl)
  have D_law_table : DefAt K mg "_law_table" s_law_table ["row"] := defAt_mk X G a26 l26 c26 k26 (fun _ _ _ _ _ _ us hl => match us, hl with | [_], _ => rfl)
  have D_law_undone_table : DefAt K mg "_law_undone_table" s_law_undone_table ["row"] := defAt_mk X G a27 l27 c27 k27 (fun _ _ _ _ _ _ us hl => match us, hl with | [_], _ => rfl)
  have D_law_floor : DefAt K mg "_law_floor" s_law_floor ["cells"] := defAt_mk X G a28 l28 c28 k28 (fun _ _ _ _ _ _ us hl => match us, hl with | [_], _ => rfl)
  have D_law_ahead : DefAt K mg "_law_ahead" s_law_ahead ["place", "heading"] := defAt_mk X G a29 l29 c29 k29 (fun _ _ _ _ _ _ us hl => match us, hl with | [_, _], _ => rfl)
  have D_law_step : DefAt K mg "_law_step" s_law_step ["table", "cells", "walker"] := defAt_mk X G a30 l30 c30 k30 (fun _ _ _ _ _ _ us hl => match us, hl with | [_, _, _], _ => rfl)
  have D_law_alike : DefAt K mg "_law_alike" s_law_alike ["found", "due"] := defAt_mk X G a31 l31 c31 k31 (fun _ _ _ _ _ _ us hl => match us, hl with | [_, _], _ => rfl)
  have F_law : Fun K "law" "law" s_law _ _ := fun_mk (st := s_law) l32 c32 k32
  have T : Txt K mg := ⟨PySem.W.mg_none_of X G z_ValueError, PySem.W.mg_none_of X G z_all, PySem.W.mg_none_of X G z_bool, PySem.W.mg_none_of X G z_enumerate, PySem.W.mg_none_of X G z_int, PySem.W.mg_none_of X G z_isinstance, PySem.W.mg_none_of X G z_len, PySem.W.mg_none_of X G z_list, PySem.W.mg_none_of X G z_min, PySem.W.mg_none_of X G z_range, PySem.W.mg_none_of X G z_set, PySem.W.mg_none_of X G z_sorted, PySem.W.mg_none_of X G z_str, PySem.W.mg_none_of X G z_sum, PySem.W.mg_none_of X G z_tuple, ⟨_, PySem.W.mg_of X G g_FAR⟩, ⟨_, PySem.W.mg_of X G g_MOST_STATES⟩, ⟨_, PySem.W.mg_of X G g_FEWEST_COLOURS⟩, ⟨_, PySem.W.mg_of X G g_MOST_COLOURS⟩, ⟨_, PySem.W.mg_of X G g_MOST_SQUARES⟩, ⟨_, PySem.W.mg_of X G g_MOST_STEPS⟩, ⟨hA, hB0, hB1, hB2, hB3, PySem.W.mg_of X G g_AHEAD, ktu_of lA (Nat.le_of_ble_eq_true rfl) (.cons rfl (.cons rfl (.cons rfl (.cons rfl .nil)))), (ktu_of lB0 (Nat.le_of_ble_eq_true rfl) (.cons ⟨_, rfl⟩ (.cons ⟨_, rfl⟩ .nil))), (ktu_of lB1 (Nat.le_of_ble_eq_true rfl) (.cons ⟨_, rfl⟩ (.cons ⟨_, rfl⟩ .nil))), (ktu_of lB2 (Nat.le_of_ble_eq_true rfl) (.cons ⟨_, rfl⟩ (.cons ⟨_, rfl⟩ .nil))), (ktu_of lB3 (Nat.le_of_ble_eq_true rfl) (.cons ⟨_, rfl⟩ (.cons ⟨_, rfl⟩ .nil)))⟩, ⟨_, PySem.W.mg_of X G g_LONGEST_SIDE⟩, ⟨_, PySem.W.mg_of X G g_MOST_LIVED⟩, ⟨_, PySem.W.mg_of X G g_BITS_OF_COLOUR⟩⟩
  have T_TooMany : ExcCls K mg "TooMany" C_TooMany := ⟨PySem.W.mg_of X G a_TooMany, ⟨⟨nm_TooMany, q_TooMany, N_TooMany, bs_TooMany, bm_TooMany, sn_TooMany, sub_TooMany, ab_TooMany, col_TooMany, dd_TooMany, m0_TooMany, m1_TooMany, m2_TooMany, m3_TooMany, m5_TooMany, xL_TooMany, rv_TooMany⟩, sa_TooMany, eC_TooMany, tC_TooMany, kC_TooMany⟩, ⟨ga_TooMany, gg_TooMany, eC_TooMany, hC_TooMany⟩, ha_TooMany, xhn, xht, hm_TooMany⟩
  have M_TooMany : MetAt K C_TooMany "__init__" "TooMany.__init__" s_TooMany_init ["self", "most"] := metAt_mk iA_TooMany iT_TooMany iL_TooMany iC_TooMany iK_TooMany (fun _ _ _ _ _ _ us hl => match us, hl with | [_, _], _ => rfl)
  have S_Stroll : ClsS K mg C_Stroll := ⟨⟨pg_Stroll, hd_Stroll, po_Stroll, sa_Stroll⟩, n_Stroll_table, n_Stroll_ground, n_Stroll_painted, n_Stroll_walker, PySem.W.mg_of X G a_Stroll⟩
  have hBlank : ∀ H, Tp K H (.ref hBL) blankD := fun H => .tup (ktu_of (xs := [.ref hBL0]) lBL (Nat.le_of_ble_eq_true rfl) (.cons rfl .nil) H) (.cons (.tup (ktu_of (xs := [.int 0]) lBL0 (Nat.le_of_ble_eq_true rfl) (.cons ⟨_, rfl⟩ .nil) H) (.cons (.int 0) .nil)) .nil)
  have M_Stroll_init : MetAtD K C_Stroll "__init__" "Stroll.__init__" s_Stroll_init ["self", "table", "floor", "walker", "ground"] [.ref hBL] := metAtD_mk 4 iA_Stroll_init iT_Stroll_init iL_Stroll_init iC_Stroll_init iK_Stroll_init dL_Stroll_init (.cons rfl .nil) (by simp) rfl (fun _ _ _ _ _ _ _ us its hl hi => match us, its, hl, hi with | [_, _, _, _], [_], _, _ => ⟨_, rfl, rfl⟩)
  have M_Stroll_colour_of : MetAt K C_Stroll "colour_of" "Stroll.colour_of" s_Stroll_colour_of ["self", "place"] := metAt_mk iA_Stroll_colour_of iT_Stroll_colour_of iL_Stroll_colour_of iC_Stroll_colour_of iK_Stroll_colour_of (fun _ _ _ _ _ _ us hl => match us, hl with | [_, _], _ => rfl)
  have M_Stroll_paint : MetAt K C_Stroll "paint" "Stroll.paint" s_Stroll_paint ["self", "place", "colour"] := metAt_mk iA_Stroll_paint iT_Stroll_paint iL_Stroll_paint iC_Stroll_paint iK_Stroll_paint (fun _ _ _ _ _ _ us hl => match us, hl with | [_, _, _], _ => rfl)
  have M_Stroll_go : MetAt K C_Stroll "go" "Stroll.go" s_Stroll_go ["self", "many"] := metAt_mk iA_Stroll_go iT_Stroll_go iL_Stroll_go iC_Stroll_go iK_Stroll_go (fun _ _ _ _ _ _ us hl => match us, hl with | [_, _], _ => rfl)
  have M_Stroll_reading : MetAt K C_Stroll "reading" "Stroll.reading" s_Stroll_reading ["self"] := metAt_mk iA_Stroll_reading iT_Stroll_reading iL_Stroll_reading iC_Stroll_reading iK_Stroll_reading (fun _ _ _ _ _ _ us hl => match us, hl with | [_], _ => rfl)
  have M_Stroll_has_stopped : MetAt K C_Stroll "has_stopped" "Stroll.has_stopped" s_Stroll_has_stopped ["self"] := metAt_mk iA_Stroll_has_stopped iT_Stroll_has_stopped iL_Stroll_has_stopped iC_Stroll_has_stopped iK_Stroll_has_stopped (fun _ _ _ _ _ _ us hl => match us, hl with | [_], _ => rfl)
  have hex_TooMany := PySem.W.exm_ref wE wD wT wS_TooMany
  have gW := PySem.W.mg_of X G wA
  refine ⟨PySem.W.fnOf "law" "law" (defArgs s_law) (defBody s_law) (defScope s_law) .none kV32 dc32 pm32 an32 cd32 ct32, fun s v => .of_eq rfl, fun base hb hg => ?_⟩
  have FI_TooMany := exi_TooMany (P := P) (w := w) (mg := mg) (base := base) M_TooMany T_TooMany.oex no_TooMany
  have C_law_taken := ok_law_taken (P := P) (w := w) (base := base) T D_law_taken
  have C_law_table := ok_law_table (P := P) (w := w) (base := base) T D_law_table C_law_taken
  have C_is_whole := ok_is_whole (P := P) (w := w) (base := base) T D_is_whole
  have C_is_entry := ok_u_is_entry (P := P) (w := w) (base := base) T D_is_entry C_is_whole
  have C_is_table := ok_is_table (P := P) (w := w) (base := base) T D_is_table C_is_entry
  have C_check_table := ok_check_table (P := P) (w := w) (base := base) T D_check_table C_is_table
  have C_is_place := ok_is_place (P := P) (w := w) (base := base) T D_is_place C_is_whole
  have C_check_number := ok_check_number (P := P) (w := w) (base := base) T D_check_number C_is_whole
  have C_is_square := ok_u_is_square (P := P) (w := w) (base := base) T D_is_square C_is_whole C_is_place
  have C_is_walker := ok_is_walker (P := P) (w := w) (base := base) T D_is_walker C_is_whole C_is_place
  have C_check_walker := ok_check_walker (P := P) (w := w) (base := base) T D_check_walker C_is_walker
  have C_check_floor := ok_check_floor (P := P) (w := w) (base := base) T D_check_floor C_is_square
  have C_painted_places := ok_painted_places (P := P) (w := w) (base := base) T D_painted_places
  have C_floor_of := ok_floor_of (P := P) (w := w) (base := base) T D_floor_of
  have C_paint_square := ok_paint_square (P := P) (w := w) (base := base) T D_paint_square
  have C_walker_behind := ok_u_walker_behind (P := P) (w := w) (base := base) T D_walker_behind
  have MC_Stroll_init := ok_Stroll_init (P := P) (w := w) (base := base) S_Stroll hBlank M_Stroll_init C_painted_places
  have MC_Stroll_colour_of := ok_Stroll_col (P := P) (w := w) (base := base) S_Stroll M_Stroll_colour_of
  have MC_Stroll_paint := ok_Stroll_paint (P := P) (w := w) (base := base) S_Stroll M_Stroll_paint C_paint_square
  have C_walker_behind := ok_u_walker_behindT (P := P) (w := w) (base := base) T D_walker_behind
  have MC_Stroll_go := ok_Stroll_go2 (P := P) (w := w) (base := base) T S_Stroll MC_Stroll_colour_of MC_Stroll_paint M_Stroll_go C_walker_behind
  have MC_Stroll_reading := ok_Stroll_reading (P := P) (w := w) (base := base) S_Stroll MC_Stroll_colour_of M_Stroll_reading
  have MC_Stroll_has_stopped := ok_Stroll_stopped (P := P) (w := w) (base := base) S_Stroll MC_Stroll_reading M_Stroll_has_stopped
  have C_check_stand := ok_check_stand (P := P) (w := w) (base := base) T D_check_stand C_check_table C_check_floor C_check_walker
  have C_lies_on := ok_u_lies_on (P := P) (w := w) (base := base) T D_lies_on
  have C_coded := ok_u_coded (P := P) (w := w) (base := base) T D_coded
  have C_step_round := ok_u_step_round (P := P) (w := w) (base := base) T S_Stroll MC_Stroll_go D_step_round
  have MC_Stroll_init := ok_Stroll_initT (P := P) (w := w) (base := base) S_Stroll hBlank M_Stroll_init C_painted_places
  have C_check_ring := ok_u_check_ring (P := P) (w := w) (base := base) T D_check_ring C_check_stand C_check_number C_lies_on
  have C_ring_walk := ok_ring_walk (P := P) (w := w) (base := base) T S_Stroll mk_Stroll kc_Stroll MC_Stroll_init MC_Stroll_has_stopped D_ring_walk C_check_ring C_check_number C_step_round C_floor_of
  have C_ring_life := ok_ring_life (P := P) (w := w) (base := base) T S_Stroll T_TooMany FI_TooMany mk_Stroll kc_Stroll MC_Stroll_init MC_Stroll_has_stopped D_ring_life C_check_ring C_step_round C_coded
  have C_entries := ok_u_entries (P := P) (w := w) (base := base) T D_entries
  have C_loses_nothing := ok_u_loses (P := P) (w := w) (base := base) T D_loses_nothing C_entries
  have C_can_be_undone := ok_can_be_undone (P := P) (w := w) (base := base) T D_can_be_undone C_check_table C_loses_nothing
  have C_law_undone_table := ok_law_undone_table (P := P) (w := w) (base := base) T D_law_undone_table C_law_taken
  have C_law_pick := ok_law_pick (P := P) (w := w) (base := base) T D_law_pick C_law_taken
  have C_law_ahead := ok_law_ahead (P := P) (w := w) (base := base) T D_law_ahead
  have C_law_floor := ok_law_floor (P := P) (w := w) (base := base) T D_law_floor
  have C_law_step := ok_law_step (P := P) (w := w) (base := base) T D_law_step C_law_ahead
  have C_law_alike := ok_law_alike (P := P) (w := w) (base := base) T D_law_alike 5
  exact ok_law T T_TooMany gW hex_TooMany F_law C_law_table C_law_undone_table C_law_pick C_law_taken C_law_floor C_law_step C_law_alike C_ring_walk C_can_be_undone C_ring_life
end Sb
open PySem PySem.W PyProof.Rows
set_option maxHeartbeats 0 in
theorem PySem.Challenge.cw_streetpapers_k11_whole_rings_holds : PySem.Challenge.rw_streetpapers_k11_whole_rings.Holds := by
  w_on; o_law; k_head; (case hw => w_witness2)
  k_fill
  refine L2.walk_of (l := PySem.Challenge.rw_streetpapers_k11_whole_rings) (n := 63) (k := 8) (x := "script") (CX := fun _ => L2.CX0) (sp := fun w => Sb.spLaw _) rfl (by decide) rfl ⟨rfl, by decide, by decide⟩ (fun w h Y => PySem.W.kIn_of Y) ?F (fun _ _ a ns hl o hS => ⟨a, ns, rfl, Sb.Scr.of o hS, fun _ => rfl⟩) (fun _ _ _ _ _ h => h)
  case F =>
    intro w mg fa h KX G hmg
    refine' Sb.all_mk KX G hmg ?a0 ?l0 ?c0 ?k0 ?a1 ?l1 ?c1 ?k1 ?a2 ?l2 ?c2 ?k2 ?a3 ?l3 ?c3 ?k3 ?a4 ?l4 ?c4 ?k4 ?a5 ?l5 ?c5 ?k5 ?a6 ?l6 ?c6 ?k6 ?a7 ?l7 ?c7 ?k7 ?a8 ?l8 ?c8 ?k8 ?a9 ?l9 ?c9 ?k9 ?a10 ?l10 ?c10 ?k10 ?a11 ?l11 ?c11 ?k11 ?a12 ?l12 ?c12 ?k12 ?a13 ?l13 ?c13 ?k13 ?a14 ?l14 ?c14 ?k14 ?a15 ?l15 ?c15 ?k15 ?a16 ?l16 ?c16 ?k16 ?a17 ?l17 ?c17 ?k17 ?a18 ?l18 ?c18 ?k18 ?a19 ?l19 ?c19 ?k19 ?a20 ?l20 ?c20 ?k20 ?a21 ?l21 ?c21 ?k21 ?a22 ?l22 ?c22 ?k22 ?a23 ?l23 ?c23 ?k23 ?a24 ?l24 ?c24 ?k24 ?a25 ?l25 ?c25 ?k25 ?a26 ?l26 ?c26 ?k26 ?a27 ?l27 ?c27 ?k27 ?a28 ?l28 ?c28 ?k28 ?a29 ?l29 ?c29 ?k29 ?a30 ?l30 ?c30 ?k30 ?a31 ?l31 ?c31 ?k31 ?a32 ?l32 ?c32 ?k32 ?z_ValueError ?z_all ?z_bool ?z_enumerate ?z_int ?z_isinstance ?z_len ?z_list ?z_min ?z_range ?z_set ?z_sorted ?z_str ?z_sum ?z_tuple ?g_FAR ?g_MOST_STATES ?g_FEWEST_COLOURS ?g_MOST_COLOURS ?g_MOST_SQUARES ?g_MOST_STEPS ?g_AHEAD ?lA ?lB0 ?lB1 ?lB2 ?lB3 ?g_LONGEST_SIDE ?g_MOST_LIVED ?g_BITS_OF_COLOUR ?a_TooMany ?xL_TooMany ?rv_TooMany ?sa_TooMany ?ga_TooMany ?gg_TooMany ?ha_TooMany ?eC_TooMany ?tC_TooMany ?kC_TooMany ?hC_TooMany ?hm_TooMany ?iA_TooMany ?iT_TooMany ?iL_TooMany ?iC_TooMany ?iK_TooMany ?no_TooMany ?a_Stroll ?pg_Stroll ?hd_Stroll ?po_Stroll ?sa_Stroll ?mk_Stroll ?kc_Stroll ?n_Stroll_table ?n_Stroll_ground ?n_Stroll_painted ?n_Stroll_walker ?iA_Stroll_init ?iT_Stroll_init ?iL_Stroll_init ?dL_Stroll_init ?lBL ?lBL0 ?iC_Stroll_init ?iK_Stroll_init ?iA_Stroll_colour_of ?iT_Stroll_colour_of ?iL_Stroll_colour_of ?iC_Stroll_colour_of ?iK_Stroll_colour_of ?iA_Stroll_paint ?iT_Stroll_paint ?iL_Stroll_paint ?iC_Stroll_paint ?iK_Stroll_paint ?iA_Stroll_go ?iT_Stroll_go ?iL_Stroll_go ?iC_Stroll_go ?iK_Stroll_go ?iA_Stroll_reading ?iT_Stroll_reading ?iL_Stroll_reading ?iC_Stroll_reading ?iK_Stroll_reading ?iA_Stroll_has_stopped ?iT_Stroll_has_stopped ?iL_Stroll_has_stopped ?iC_Stroll_has_stopped ?iK_Stroll_has_stopped ?xhn ?xht ?wA ?wE ?wD ?wT ?wS_TooMany
    (case a0 => k_is)
    (case l0 => k_is)
    (case c0 => k_is)
    (case k0 => k_is)
    (case a1 => k_is)
    (case l1 => k_is)
    (case c1 => k_is)
    (case k1 => k_is)
    (case a2 => k_is)
    (case l2 => k_is)
    (case c2 => k_is)
    (case k2 => k_is)
    (case a3 => k_is)
    (case l3 => k_is)
    (case c3 => k_is)
    (case k3 => k_is)
    (case a4 => k_is)
    (case l4 => k_is)
    (case c4 => k_is)
    (case k4 => k_is)
    (case a5 => k_is)
    (case l5 => k_is)
    (case c5 => k_is)
    (case k5 => k_is)
    (case a6 => k_is)
    (case l6 => k_is)
    (case c6 => k_is)
    (case k6 => k_is)
    (case a7 => k_is)
    (case l7 => k_is)
    (case c7 => k_is)
    (case k7 => k_is)
    (case a8 => k_is)
    (case l8 => k_is)
    (case c8 => k_is)
    (case k8 => k_is)
    (case a9 => k_is)
    (case l9 => k_is)
    (case c9 => k_is)
    (case k9 => k_is)
    (case a10 => k_is)
    (case l10 => k_is)
    (case c10 => k_is)
    (case k10 => k_is)
    (case a11 => k_is)
    (case l11 => k_is)
    (case c11 => k_is)
    (case k11 => k_is)
    (case a12 => k_is)
    (case l12 => k_is)
    (case c12 => k_is)
    (case k12 => k_is)
    (case a13 => k_is)
    (case l13 => k_is)
    (case c13 => k_is)
    (case k13 => k_is)
    (case a14 => k_is)
    (case l14 => k_is)
    (case c14 => k_is)
    (case k14 => k_is)
    (case a15 => k_is)
    (case l15 => k_is)
    (case c15 => k_is)
    (case k15 => k_is)
    (case a16 => k_is)
    (case l16 => k_is)
    (case c16 => k_is)
    (case k16 => k_is)
    (case a17 => k_is)
    (case l17 => k_is)
    (case c17 => k_is)
    (case k17 => k_is)
    (case a18 => k_is)
    (case l18 => k_is)
    (case c18 => k_is)
    (case k18 => k_is)
    (case a19 => k_is)
    (case l19 => k_is)
    (case c19 => k_is)
    (case k19 => k_is)
    (case a20 => k_is)
    (case l20 => k_is)
    (case c20 => k_is)
    (case k20 => k_is)
    (case a21 => k_is)
    (case l21 => k_is)
    (case c21 => k_is)
    (case k21 => k_is)
    (case a22 => k_is)
    (case l22 => k_is)
    (case c22 => k_is)
    (case k22 => k_is)
    (case a23 => k_is)
    (case l23 => k_is)
    (case c23 => k_is)
    (case k23 => k_is)
    (case a24 => k_is)
    (case l24 => k_is)
    (case c24 => k_is)
    (case k24 => k_is)
    (case a25 => k_is)
    (case l25 => k_is)
    (case c25 => k_is)
    (case k25 => k_is)
    (case a26 => k_is)
    (case l26 => k_is)
    (case c26 => k_is)
    (case k26 => k_is)
    (case a27 => k_is)
    (case l27 => k_is)
    (case c27 => k_is)
    (case k27 => k_is)
    (case a28 => k_is)
    (case l28 => k_is)
    (case c28 => k_is)
    (case k28 => k_is)
    (case a29 => k_is)
    (case l29 => k_is)
    (case c29 => k_is)
    (case k29 => k_is)
    (case a30 => k_is)
    (case l30 => k_is)
    (case c30 => k_is)
    (case k30 => k_is)
    (case a31 => k_is)
    (case l31 => k_is)
    (case c31 => k_is)
    (case k31 => k_is)
    (case a32 => k_is)
    (case l32 => k_is)
    (case c32 => k_is)
    (case k32 => k_is)
    (case z_ValueError => k_is)
    (case z_all => k_is)
    (case z_bool => k_is)
    (case z_enumerate => k_is)
    (case z_int => k_is)
    (case z_isinstance => k_is)
    (case z_len => k_is)
    (case z_list => k_is)
    (case z_min => k_is)
    (case z_range => k_is)
    (case z_set => k_is)
    (case z_sorted => k_is)
    (case z_str => k_is)
    (case z_sum => k_is)
    (case z_tuple => k_is)
    (case g_FAR => k_is)
    (case g_MOST_STATES => k_is)
    (case g_FEWEST_COLOURS => k_is)
    (case g_MOST_COLOURS => k_is)
    (case g_MOST_SQUARES => k_is)
    (case g_MOST_STEPS => k_is)
    (case g_AHEAD => k_is)
    (case lA => k_is)
    (case lB0 => k_is)
    (case lB1 => k_is)
    (case lB2 => k_is)
    (case lB3 => k_is)
    (case g_LONGEST_SIDE => k_is)
    (case g_MOST_LIVED => k_is)
    (case g_BITS_OF_COLOUR => k_is)
    (case a_TooMany => k_is)
    (case xL_TooMany => k_is)
    (case rv_TooMany => decide +kernel)
    (case sa_TooMany => k_is)
    (case ga_TooMany => k_is)
    (case gg_TooMany => k_is)
    (case ha_TooMany => k_is)
    (case eC_TooMany => k_is)
    (case tC_TooMany => k_is)
    (case kC_TooMany => k_is)
    (case hC_TooMany => k_is)
    (case hm_TooMany => k_is)
    (case iA_TooMany => k_is)
    (case iT_TooMany => k_is)
    (case iL_TooMany => k_is)
    (case iC_TooMany => k_is)
    (case iK_TooMany => k_is)
    (case no_TooMany => k_is)
    (case a_Stroll => k_is)
    (case pg_Stroll => k_is)
    (case hd_Stroll => k_is)
    (case po_Stroll => k_is)
    (case sa_Stroll => k_is)
    (case mk_Stroll => k_is)
    (case kc_Stroll => k_is)
    (case n_Stroll_table => k_is)
    (case n_Stroll_ground => k_is)
    (case n_Stroll_painted => k_is)
    (case n_Stroll_walker => k_is)
    (case iA_Stroll_init => k_is)
    (case iT_Stroll_init => k_is)
    (case iL_Stroll_init => k_is)
    (case dL_Stroll_init => k_is)
    (case lBL => k_is)
    (case lBL0 => k_is)
    (case iC_Stroll_init => k_is)
    (case iK_Stroll_init => k_is)
    (case iA_Stroll_colour_of => k_is)
    (case iT_Stroll_colour_of => k_is)
    (case iL_Stroll_colour_of => k_is)
    (case iC_Stroll_colour_of => k_is)
    (case iK_Stroll_colour_of => k_is)
    (case iA_Stroll_paint => k_is)
    (case iT_Stroll_paint => k_is)
    (case iL_Stroll_paint => k_is)
    (case iC_Stroll_paint => k_is)
    (case iK_Stroll_paint => k_is)
    (case iA_Stroll_go => k_is)
    (case iT_Stroll_go => k_is)
    (case iL_Stroll_go => k_is)
    (case iC_Stroll_go => k_is)
    (case iK_Stroll_go => k_is)
    (case iA_Stroll_reading => k_is)
    (case iT_Stroll_reading => k_is)
    (case iL_Stroll_reading => k_is)
    (case iC_Stroll_reading => k_is)
    (case iK_Stroll_reading => k_is)
    (case iA_Stroll_has_stopped => k_is)
    (case iT_Stroll_has_stopped => k_is)
    (case iL_Stroll_has_stopped => k_is)
    (case iC_Stroll_has_stopped => k_is)
    (case iK_Stroll_has_stopped => k_is)
    (case xhn => k_is)
    (case xht => k_is)
    (case wA => k_is)
    (case wE => k_is)
    (case wD => k_is)
    (case wT => k_is)
    (case wS_TooMany => k_is)
