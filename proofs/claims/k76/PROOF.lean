import PyProof.Rows.All
import Wide.All
import OpenK.AllK
import Wide.FinOn
import HandS.ForSpec
import HandS.Comp
import HandS.Dict
import HandS.Iter
import HandS.Text
import HandS.IsInst
import HandS.ExcIs
import HandS.Flow
import HandS.Wide
import HandS.WideBits
import HandS.EndBits
import HandS.WordsExc
import HandS.Walk
import HandS.TupAny
import HandS.Style
import HandS.RaiseMore
import KE.KeyNested
import HandS.Small
import HandS.WordsDict
import HandS.SortInts
import PyProof.ReprRoads
import PyProof.Rows.FloatCmp
import PyProof.Rows.IntBool
import KE.KRevSl
import HandS.Star
import HandS.SetFor
import HandS.Strs
import HandS.More
import HandS.Keys
import HandS.ExcValue
import HandS.FStr
import HandS.Exc
import KE.RegKIsAll
import PySem.Challenge.RW_coinlanes_k76_letters_written_and_read
set_option Elab.async false
set_option linter.all false
set_option maxRecDepth 100000
set_option maxHeartbeats 8000000
namespace DL
open PySem PySem.Spec PyProof.Rows L2
/-! ### calls where no object is being shown (repr wants to know that) -/
structure RoomG (k : Nat) (A : Around) : Prop where
  r : Room k A
  g : A.guards = some []
theorem RoomG.mono {j k : Nat} {A : Around} (h : RoomG k A) (l : j ≤ k) : RoomG j A := ⟨h.r.mono l, h.g⟩
theorem RoomG.deeper {k : Nat} {A : Around} (h : RoomG (k + 1) A) (env : Env) : RoomG k (A.deeper env) := ⟨h.r.deeper env, h.g⟩
theorem RoomG.units {k : Nat} {A : Around} (h : RoomG k A) : A.units + 64 < cLine := h.r.units
theorem make_guards {A : Around} {C : Addr} {us : List Value} : (A.under (.builtin "type.__call__" ⟨.ref C :: us, []⟩)).guards = A.guards := by
  cases h : A.guards <;> simp [Around.under, Code.guards, Code.isGuard, guardIds, pushGuards, h]
theorem RoomG.make {k : Nat} {A : Around} (h : RoomG (k + 1) A) (C : Addr) (us : List Value) : RoomG k (A.under (.builtin "type.__call__" ⟨.ref C :: us, []⟩)) := ⟨h.r.make C us [], by rw [make_guards]; exact h.g⟩
structure FnG (P : Program) (w : World) (K : PySem.W.Frag) (mg : Str → Option Value) (base : Heap) (k : Nat) (f : Addr) (fd : FuncData) (ps : List Str) (sp : Sp) : Prop where
  len : ∀ vs H Q E, sp vs H Q E → vs.length = ps.length
  run : ∀ (A : Around) (outer : List Env) (s : Shared) (H : Hp) (args : Args) (us : List Value) (vs : List V) (Q : VK) (E : XK), RoomG k A → Env0 P w K mg base A outer s H → BindsTo s fd args (ps.zip us) → Vals vs us → sp vs H Q E →
    codeAny (model P w) A (.call (.ref f) args) (CR (L2.CX P w) outer P w H s Q E) s
section
variable {P : Program} {w : World} {K : PySem.W.Frag} {mg : Str → Option Value} {base : Heap}
theorem FnG.of {k : Nat} {f : Addr} {fd : FuncData} {ps : List Str} {sp : Sp} (h : FnOk P w K mg base (L2.CX P w) k f fd ps sp) : FnG P w K mg base k f fd ps sp := ⟨h.len, fun A o s H a us vs Q E hr => h.run A o s H a us vs Q E hr.r⟩
theorem FnG.mono {j k : Nat} {f : Addr} {fd : FuncData} {ps : List Str} {sp : Sp} (h : FnG P w K mg base j f fd ps sp) (l : j ≤ k) : FnG P w K mg base k f fd ps sp := ⟨h.len, fun A o s H a us vs Q E hr => h.run A o s H a us vs Q E (hr.mono l)⟩
/-- the rule for a def -/
theorem fn_g {x qual : Str} {st : Stmt} {f : Addr} {fd : FuncData} {N ps : List Str} {k : Nat} {sp : Sp} (Fu : Fun K x qual st f fd) (S : FnScope N ps (defScope st)) (len : ∀ vs H Q E, sp vs H Q E → vs.length = ps.length)
    (body : ∀ (cdv : Value) (A : Around) (outer : List Env) (s : Shared) (H : Hp) (vs : List V) (Q : VK) (E : XK), RoomG k (A.deeper (envOfC qual (defScope st) s.heap.objs.size f cdv)) → sp vs H Q E →
      ∃ t, PSs (cxOf (L2.CX P w) P w K mg base N qual (defScope st) f cdv A outer s H E) (defBody st) t ∧ t { nx := fun _ H' => Q .non H', rt := Q } (start N vs) H) : FnG P w K mg base (k + 1) f fd ps sp := by
  obtain ⟨oc, od, kV, doc, pm, an, cdv, ct, osl, rfl, lk, hcd⟩ := Fu.ex
  refine ⟨len, fun A outer s H args us vs Q E hr e0 hb rv q => ?_⟩
  have kIn : K.In s.heap := e0.mod.kin.keeps fun b o e => (e0.bs b o e).1
  have nl : s.heap.NoLimit := e0.mod.nolimit.keeps fun b o e => (e0.bs b o e).1
  have kinds : ∀ y ∈ ps.zip us, (defScope st).names.lookup y.1 = some .local ∨ ((defScope st).names.lookup y.1 = some .cell ∧ ((cellsFrom (s.heap.objs.size + 1) (defScope st).names []).lookup y.1).isSome = true) := by
    rintro ⟨n, v⟩ hy
    rcases S.par n (List.of_mem_zip hy).1 with z | z
    · exact .inl z
    · exact .inr ⟨z, PySem.W.cellsFrom_some _ _ _ (.inl z)⟩
  refine codeAny_call_function hr.r.depth (kIn _ _ lk) rfl S.co S.gen rfl (PySem.W.codeRec_of kIn hcd) (hb _ _ _ _ ?_)
  refine wpAny_newFunctionEnv_cells S.kind kinds fun env he s1 x1 => ?_
  cases he
  refine ⟨nl.keeps x1.toInCall.keep, codeAny_func ?_⟩
  obtain ⟨t, ht, hq⟩ := body cdv A outer s H vs Q E (hr.deeper _) q
  have J : Inv (cxOf (L2.CX P w) P w K mg base N qual (defScope st) f cdv A outer s H E) [] (start N vs) H s1 := inv_start S hr.r.hd e0 (len _ _ _ _ q) rv x1
  have last : ∀ {σ' : L2.St} {H' : Hp} {s' : Shared} {v : V} {u : Value}, Inv (cxOf (L2.CX P w) P w K mg base N qual (defScope st) f cdv A outer s H E) [] σ' H' s' → RelV v u → Q v H' → CE outer P w H s Q u s' := fun J r q => ⟨_, _, J.os, J.bare, J.base, J.hok, r, q⟩
  refine wpAny_mono (ht.run [] s1 (start N vs) H _ J hq) (fun fl s' hs => ?_) fun _ _ h => h
  cases fl with
  | ret u => obtain ⟨v, σ', H', J', r, q'⟩ := hs; exact last J' r q'
  | next => obtain ⟨σ', H', J', q'⟩ := hs; exact last (v := .non) (u := .none) J' rfl q'
  | brk => obtain ⟨_, _, _, q'⟩ := hs; exact q'.elim
  | cont => obtain ⟨_, _, _, q'⟩ := hs; exact q'.elim
end
section
variable {X : Cx} {k : Nat} {f C : Addr} {fd : FuncData} {ps : List Str} {sp : Sp} {E : L2.St → XK} {x m : Str} {p pos apos : Pos} {e o : Expr} {es : List Expr} {t : TA}
theorem run_g {pins : List (Addr × Obj)} {σ : L2.St} {H : Hp} {s : Shared} {Q : VK} {us : List Value} {vs : List V} (G : FnG X.prog X.w X.K X.mg X.base k f fd ps sp) (hr : RoomG k X.A) (hb : Binds X.K fd ps []) (hx : PassesAt (L2.CX X.prog X.w) X σ (E σ))
    (J : Inv X pins σ H s) (r : Vals vs us) (h : sp vs H Q (E σ)) : wpAny (model X.prog X.w) X.A (call (.ref f) us) (EP X pins σ Q) X.xe s := by
  have b := hb s us J.kIn (by rw [List.append_nil, ← r.length]; exact G.len _ _ _ _ h)
  rw [List.append_nil] at b
  refine wpAny_call (codeAny_mono (G.run X.A X.stack s H ⟨us, []⟩ us vs Q (E σ) hr J.env0 b r h) fun z s' hz => ?_)
  rcases z with _ | fl
  · exact hx _ _ _ _ _ J hz
  · cases fl with
    | ret u => exact J.after hz
    | next => exact hz.elim
    | brk => exact hz.elim
    | cont => exact hz.elim
theorem pe_g (G : FnG X.prog X.w X.K X.mg X.base k f fd ps sp) (hr : RoomG k X.A) (hg : Gl X x) (hm : X.mg x = some (.ref f)) (hk : PySem.W.keepIn X.K (.ref f) = true) (hb : Binds X.K fd ps []) (hx : ∀ σ, PassesAt (L2.CX X.prog X.w) X σ (E σ))
    (ha : PA X (e :: es) t) (hdb : (x == ("__debug__" : Str)) = false := by decide) (h1 : starEach (e :: es) X.env = (false, eval e X.env) :: starEach es X.env := by rfl) (h2 : (backTo pos (starEach es X.env)).any (·.1) = false := by rfl) : PE X (.Call (.Name x p) (e :: es) [] pos) (tCallS sp E t) where
  run := fun pins s σ H Q J q => wpAny_Call_Name_kw (ld_glob J hg hm (PySem.W.callWith_K (h₀ := X.base) J.ok.mod.kin hk (thn (ha.run pos pins s σ H _ J q) fun us s1 ⟨vs, H1, J1, r, q1⟩ => ⟨J1.kIn, run_g G hr hb (hx σ) J1 r q1⟩) h1 h2) hdb)
end
/-! ### the law's own call -/
section
variable {P : Program} {w : World} {K : PySem.W.Frag} {mg mb : Str → Option Value} {k : Nat} {fa a : Addr} {fd : FuncData} {x : Str} {sp : Sp} {s₁ : Shared} {vs : List Value} {ns : List Int}
/-- the law's call ends with True, and leaves all as it was -/
abbrev TrueEnd (t : Shared) : Result → Shared → Prop := fun r t' => r = .ok (.ret (.bool true)) ∧ OldK t.heap t'.heap ∧ t'.os = t.os ∧ AllBare t'.gens
/-- what the heap behind the top is, and the script in it -/
structure LawAt (K : PySem.W.Frag) (mg mb : Str → Option Value) (s₁ : Shared) (a : Addr) (vs : List Value) (ns : List Int) : Prop where
  kx : K.In s₁.heap
  nm : s₁.heap.Ns mainGlobals mg
  nb : s₁.heap.Ns builtinsNs mb
  bb : ∀ x : Str, x ≠ "__name__" → mb x = bootBuiltins x
  nl : s₁.heap.NoLimit
  gn : s₁.gens = #[]
  at_ : s₁.heap.get? a = some { cls := .type "list", data := .seq vs.toArray }
  isInt : IntsAre vs ns
  len : ns.length ≤ sizeLine
/-- .. when all that is tracked is, at most, the script -/
theorem LawAt.core (L : LawAt K mg mb s₁ a vs ns) (hr : RoomG k callerA) (F : ∀ base : Heap, K.In base → base.Ns mainGlobals mg → FnG P w K mg base k fa fd [x] sp) (bd : ∀ (s : Shared) (u : Value), BindsTo s fd ⟨[u], []⟩ [(x, u)])
    (H : Hp) (hO : Only H) (q : sp [.ref a] H (fun v _ => v = .bl true) fun _ _ _ => False) (ok : HOk P w H s₁.heap) (one : ∀ b, H b ≠ none → b = a) (hK : H a ≠ none → K.lookup a = none) :
    codeAny (model P w) callerA (.call (.ref fa) ⟨[.ref a], []⟩) (TrueEnd s₁) s₁ := by
  have free : ∀ {b : Addr}, b ≠ a → H b = none := fun {b} n => Classical.byContradiction fun z => n (one b z)
  have dict : ∀ {b : Addr} {o : Obj} {es : Array DictEntry} {ep : Nat}, s₁.heap.get? b = some o → o.data = .dict es ep → (hidT s₁.heap H).get? b = some o := fun {b o es ep} e d => hidT_get e (free fun z => by
    subst z
    rw [L.at_] at e
    cases e
    cases (show Data.seq vs.toArray _ = Data.dict es ep from d))
  have names : ∀ {b : Addr} {m : Str → Option Value}, s₁.heap.Ns b m → (hidT s₁.heap H).Ns b m := fun ⟨o, es, ep, e, d, r⟩ => ⟨o, es, ep, dict e d, d, r⟩
  have kb : K.In (hidT s₁.heap H) := fun b o e => hidT_get (L.kx b o e) (Classical.byContradiction fun z => by
    have z2 := one b z
    subst z2
    rw [hK z] at e; cases e)
  obtain ⟨mc, c1, c2⟩ := L.nl
  have md : Mod K mg (hidT s₁.heap H) := ⟨kb, names L.nm, ⟨mb, names L.nb, L.bb⟩, mc, names c1, c2⟩
  have e0 : Env0 P w K mg (hidT s₁.heap H) callerA [] s₁ H := ⟨rfl, md, fun b o e => of_hidT e, Nat.le_of_eq (hidT_size _ _), trivial, (fun b hb => by cases hb), ok, .of_eq L.gn⟩
  refine codeAny_mono ((F _ kb (names L.nm)).run callerA [] s₁ H ⟨[.ref a], []⟩ [.ref a] [.ref a] _ _ hr e0 (bd s₁ (.ref a)) (.cons rfl .nil) q) fun z s' h => ?_
  rcases z with _ | fl
  · obtain ⟨_, _, _, _, _, _, _, _, _, _, _, _, f⟩ := h
    exact f.elim
  · cases fl with
    | next => exact h.elim
    | brk => exact h.elim
    | cont => exact h.elim
    | ret u =>
      obtain ⟨v, H', os, bare, un, ok', rv, e⟩ := h
      subst e
      cases (show u = Value.bool true from rv)
      refine ⟨rfl, OldK.of_keep fun b o e => ?_, os, bare⟩
      cases z : H b with
      | none => exact un.keep b o e z (by intro c; cases c) (by intro c; cases c)
      | some y =>
        rcases hO b with n | ⟨ob, xs, n⟩
        · rw [z] at n; cases n
        · obtain ⟨e1, _⟩ := ok b _ n
          obtain ⟨e2, _⟩ := ok' b _ (un.frzs b ob _ n)
          rw [e] at e1; cases e1
          exact e2
theorem law_g (L : LawAt K mg mb s₁ a vs ns) (hr : RoomG k callerA) (F : ∀ base : Heap, K.In base → base.Ns mainGlobals mg → FnG P w K mg base k fa fd [x] sp) (bd : ∀ (s : Shared) (u : Value), BindsTo s fd ⟨[u], []⟩ [(x, u)])
    (hsp : ∀ H : Hp, Only H → SqL K H a (ns.map V.int) → sp [.ref a] H (fun v _ => v = .bl true) fun _ _ _ => False) :
    codeAny (model P w) callerA (.call (.ref fa) ⟨[.ref a], []⟩) (TrueEnd s₁) s₁ := by
  have rv := vals_ints L.isInt
  have lv := L.isInt.length
  cases q : K.lookup a with
  | some o =>
    have e := L.kx a o q
    rw [L.at_] at e
    cases e
    have O : Only fun _ => none := fun _ => .inl rfl
    exact L.core hr F bd _ O (hsp _ O (.inr ⟨_, vs.toArray, _, q, rfl, rfl, rfl, by rw [List.size_toArray, lv]; exact L.len, by simpa using rv⟩)) (fun b u z => by cases (show (none : Option HO) = some u from z)) (fun b z => absurd rfl z) fun z => absurd rfl z
  | none =>
    let H1 : Hp := fun b => if b = a then some (.frz { cls := .type "list", data := .seq vs.toArray } (.lst (ns.map V.int))) else none
    have same : H1 a = some (.frz { cls := .type "list", data := .seq vs.toArray } (.lst (ns.map V.int))) := if_pos rfl
    have other : ∀ {b : Addr}, b ≠ a → H1 b = none := fun n => if_neg n
    have O : Only H1 := fun b => by
      by_cases z : b = a
      · subst z; exact .inr ⟨_, _, same⟩
      · exact .inl (other z)
    refine L.core hr F bd H1 O (hsp _ O (.inl (.inr ⟨_, same⟩))) (fun b u z => ?_) (fun b z => Classical.byContradiction fun n => z (other n)) fun _ => q
    by_cases n : b = a
    · subst n
      rw [same] at z
      cases z
      exact ⟨L.at_, by rw [List.length_map]; exact L.len, vs, _, rv, L.at_⟩
    · rw [other n] at z; cases z
end
theorem walk_g {l : PySem.W.OpenLaw} {n k : Nat} {q : Program} {loose : List Str} {XP : (Str → Option Value) → Heap → Prop} {YP : World → Heap → Prop} {d : DefRec} {K : Params → PySem.W.Frag} {sp : World → Sp} {x : Str}
    (hn : l.most = some n) (hn2 : n ≤ sizeLine) (hdf : d.params.defaults = []) (hr : RoomG k callerA) (hY : ∀ (w : World) (h : Heap), YP w h → (K w.params).In h)
    (F : ∀ (w : World) (names : Str → Option Value) (law : Addr) (h : Heap), (K w.params).In h → h.Ns mainGlobals names → names d.name = some (.ref law) →
      ∃ fd : FuncData, (∀ (s : Shared) (u : Value), BindsTo s fd ⟨[u], []⟩ [(x, u)]) ∧ ∀ base : Heap, (K w.params).In base → base.Ns mainGlobals names → FnG l.prog w (K w.params) names base k law fd [x] (sp w))
    (hsp : ∀ (w : World) (H : Hp) (a : Addr) (ns : List Int), ns.length ≤ n → (∀ z ∈ ns, Builtin.Int.intBits z ≤ 1048576) → Only H → SqL (K w.params) H a (ns.map V.int) → sp w [.ref a] H (fun v _ => v = .bl true) fun _ _ _ => False) :
    PySem.W.WalkO q loose XP YP l.row.toRowW d [] (fun f vs => PySem.call f vs) := by
  refine Att.attach_callB hn hdf fun w _ t names built law _ _ _ _ a vs ns G Y _ _ _ named at_ whole few small gens => ?_
  obtain ⟨fd, bd, hF⟩ := F w names law _ (hY w _ Y) G.T.g named
  exact law_g ⟨hY w _ Y, G.T.g, G.T.b, G.T.builtins, G.T.nolimit, gens, at_, whole, Nat.le_trans few hn2⟩ hr hF bd fun H hO hS => hsp w H a ns few small hO hS
end DL

namespace DL
open PySem PySem.Spec PyProof.Rows L2

/-- data, without the heap -/
inductive D where
  | non | bl (b : Bool) | int (i : Int) | str (x : Str) | hnd (a : Addr) | ty (n : String)
  | lst (xs : List D) | tup (xs : List D) | dct (kvs : List (Key × D))

abbrev St := L2.St
abbrev LB : Nat := 100000
def SOk (x : Str) : Prop := x.length ≤ LB ∧ PyData.strOk x = true
abbrev Foot := Addr → Prop

mutual
inductive Rep (F : Foot) (H : Hp) : V → D → Prop
  | non : Rep F H .non .non
  | bl (b : Bool) : Rep F H (.bl b) (.bl b)
  | int (i : Int) : Rep F H (.int i) (.int i)
  | str (x : Str) (h : SOk x) : Rep F H (.str x) (.str x)
  | hnd (a : Addr) : Rep F H (.ref a) (.hnd a)
  | ty (n : String) : Rep F H (.ty n) (.ty n)
  | lst {a : Addr} {xs : List V} {ds : List D} (h : H a = some (.lst xs)) (n : ¬ F a) (l : xs.length ≤ LB) (r : RepL F H xs ds) : Rep F H (.ref a) (.lst ds)
  | tup {a : Addr} {xs : List V} {ds : List D} (h : H a = some (.tup xs)) (n : ¬ F a) (l : xs.length ≤ LB) (r : RepL F H xs ds) : Rep F H (.ref a) (.tup ds)
  | dct {a : Addr} {xs : List (Key × V)} {ds : List (Key × D)} (h : H a = some (.dK xs)) (n : ¬ F a) (l : xs.length ≤ LB) (r : RepK F H xs ds) : Rep F H (.ref a) (.dct ds)
inductive RepL (F : Foot) (H : Hp) : List V → List D → Prop
  | nil : RepL F H [] []
  | cons {v : V} {d : D} {vs : List V} {ds : List D} (h : Rep F H v d) (r : RepL F H vs ds) : RepL F H (v :: vs) (d :: ds)
inductive RepK (F : Foot) (H : Hp) : List (Key × V) → List (Key × D) → Prop
  | nil : RepK F H [] []
  | cons {k : Key} {v : V} {d : D} {vs : List (Key × V)} {ds : List (Key × D)} (h : Rep F H v d) (r : RepK F H vs ds) : RepK F H ((k, v) :: vs) ((k, d) :: ds)
end

/-- what stands outside F stands, outside F' -/
def Keeps (F : Foot) (H : Hp) (F' : Foot) (H' : Hp) : Prop := ∀ a o, H a = some o → ¬ F a → H' a = some o ∧ ¬ F' a
section
variable {F F' : Foot} {H H' : Hp}
mutual
theorem Rep.mono (k : Keeps F H F' H') : ∀ {v : V} {d : D}, Rep F H v d → Rep F' H' v d
  | _, _, .non => .non
  | _, _, .bl b => .bl b
  | _, _, .int i => .int i
  | _, _, .str x h => .str x h
  | _, _, .hnd a => .hnd a
  | _, _, .ty n => .ty n
  | _, _, .lst h n l r => .lst (k _ _ h n).1 (k _ _ h n).2 l (RepL.mono k r)
  | _, _, .tup h n l r => .tup (k _ _ h n).1 (k _ _ h n).2 l (RepL.mono k r)
  | _, _, .dct h n l r => .dct (k _ _ h n).1 (k _ _ h n).2 l (RepK.mono k r)
theorem RepL.mono (k : Keeps F H F' H') : ∀ {v : List V} {d : List D}, RepL F H v d → RepL F' H' v d
  | _, _, .nil => .nil
  | _, _, .cons h r => .cons (Rep.mono k h) (RepL.mono k r)
theorem RepK.mono (k : Keeps F H F' H') : ∀ {v : List (Key × V)} {d : List (Key × D)}, RepK F H v d → RepK F' H' v d
  | _, _, .nil => .nil
  | _, _, .cons h r => .cons (Rep.mono k h) (RepK.mono k r)
end
theorem RepL.length : ∀ {vs : List V} {ds : List D}, RepL F H vs ds → vs.length = ds.length
  | _, _, .nil => rfl
  | _, _, .cons _ r => congrArg (· + 1) (RepL.length r)
theorem RepL.get : ∀ {vs : List V} {ds : List D} {i : Nat} {d : D}, RepL F H vs ds → ds[i]? = some d → ∃ v, vs[i]? = some v ∧ Rep F H v d
  | _, _, _, _, .nil, e => by simp at e
  | _, _, 0, _, .cons h _, e => by simp at e; subst e; exact ⟨_, rfl, h⟩
  | _, _, i + 1, d, .cons _ t, e => by
    obtain ⟨u, h1, h2⟩ := RepL.get (i := i) (d := d) t (by simpa using e)
    exact ⟨u, by simpa using h1, h2⟩
theorem RepL.append : ∀ {vs ws : List V} {ds es : List D}, RepL F H vs ds → RepL F H ws es → RepL F H (vs ++ ws) (ds ++ es)
  | _, _, _, _, .nil, s => s
  | _, _, _, _, .cons h t, s => .cons h (RepL.append t s)
theorem RepL.take : ∀ {vs : List V} {ds : List D} (n : Nat), RepL F H vs ds → RepL F H (vs.take n) (ds.take n)
  | _, _, 0, _ => .nil
  | _, _, _ + 1, .nil => .nil
  | _, _, n + 1, .cons h t => .cons h (RepL.take n t)
theorem RepL.drop : ∀ {vs : List V} {ds : List D} (n : Nat), RepL F H vs ds → RepL F H (vs.drop n) (ds.drop n)
  | _, _, 0, h => h
  | _, _, _ + 1, .nil => .nil
  | _, _, n + 1, .cons _ t => RepL.drop n t
theorem RepL.reverse : ∀ {vs : List V} {ds : List D}, RepL F H vs ds → RepL F H vs.reverse ds.reverse
  | _, _, .nil => .nil
  | _, _, .cons h t => by rw [List.reverse_cons, List.reverse_cons]; exact (RepL.reverse t).append (.cons h .nil)
theorem RepL.ints : ∀ {vs : List V} {ns : List Int}, RepL F H vs (ns.map D.int) → vs = ns.map V.int
  | _, [], .nil => rfl
  | _, n :: ns, .cons (.int _) t => congrArg (V.int n :: ·) (RepL.ints t)
theorem RepL.of_ints : ∀ (ns : List Int), RepL F H (ns.map V.int) (ns.map D.int)
  | [] => .nil
  | n :: ns => .cons (.int n) (RepL.of_ints ns)
theorem RepL.strs : ∀ {vs : List V} {ns : List Str}, RepL F H vs (ns.map D.str) → vs = ns.map V.str ∧ ∀ x ∈ ns, SOk x
  | _, [], .nil => ⟨rfl, fun _ h => nomatch h⟩
  | _, n :: ns, .cons (.str _ h) t => ⟨congrArg (V.str n :: ·) (RepL.strs t).1, fun x hx => (List.mem_cons.mp hx).elim (fun e => e ▸ h) ((RepL.strs t).2 x)⟩
theorem RepL.bls : ∀ {vs : List V} {ns : List Bool}, RepL F H vs (ns.map D.bl) → vs = ns.map V.bl
  | _, [], .nil => rfl
  | _, n :: ns, .cons (.bl _) t => congrArg (V.bl n :: ·) (RepL.bls t)
end

/-! ### steps -/
structure Stp (A F : Foot) (H : Hp) (A' F' : Foot) (H' : Hp) : Prop where
  keep : ∀ a o, H a = some o → ¬ A a → H' a = some o
  there : ∀ a, H' a = none → H a = none
  fa : ∀ a, A' a → A a ∨ H a = none
  ff : ∀ a, F' a → F a ∨ H a = none
  am : ∀ a, A a → A' a
  fm : ∀ a, F a → F' a
section
variable {A F A1 F1 A2 F2 : Foot} {H H1 H2 : Hp}
theorem Stp.refl : Stp A F H A F H := ⟨fun _ _ h _ => h, fun _ h => h, fun _ h => .inl h, fun _ h => .inl h, fun _ h => h, fun _ h => h⟩
theorem Stp.trans (x : Stp A F H A1 F1 H1) (y : Stp A1 F1 H1 A2 F2 H2) : Stp A F H A2 F2 H2 where
  keep := fun a o h n => y.keep a o (x.keep a o h n) fun z => (x.fa a z).elim n fun q => by rw [h] at q; cases q
  there := fun a h => x.there a (y.there a h)
  fa := fun a h => (y.fa a h).elim (x.fa a) fun q => .inr (x.there a q)
  ff := fun a h => (y.ff a h).elim (x.ff a) fun q => .inr (x.there a q)
  am := fun a h => y.am a (x.am a h)
  fm := fun a h => y.fm a (x.fm a h)
theorem Stp.keeps (x : Stp A F H A1 F1 H1) (af : ∀ a, A a → F a) : Keeps F H F1 H1 := fun a o h n =>
  ⟨x.keep a o h fun z => n (af a z), fun z => (x.ff a z).elim n fun q => by rw [h] at q; cases q⟩
theorem Stp.new {p : Addr} {o : HO} (hp : H p = none) : Stp A F H A F (upd H p o) where
  keep := fun a u h _ => by rw [upd_ne (ne_of_none h hp)]; exact h
  there := fun a h => by
    by_cases e : a = p
    · subst e; exact hp
    · rw [upd_ne e] at h; exact h
  fa := fun _ h => .inl h
  ff := fun _ h => .inl h
  am := fun _ h => h
  fm := fun _ h => h
end

/-- a world: its state, how it stands in the heap (A: what is its own to change; F: what no data touches) -/
structure Wd where
  W : Type
  WI : W → Hp → Foot → Foot → Prop
  frame : ∀ {w : W} {H H' : Hp} {A F F' : Foot}, WI w H A F → (∀ a o, H a = some o → (A a ∨ ¬ F a) → H' a = some o) → (∀ a, F' a → F a ∨ H a = none) → WI w H' A F'
structure Wd.Ok (G : Wd) (w : G.W) (H : Hp) (A F : Foot) : Prop where
  wi : G.WI w H A F
  af : ∀ a, A a → F a
  dom : ∀ a, F a → H a ≠ none
theorem Wd.Ok.new {G : Wd} {w : G.W} {H : Hp} {A F : Foot} {p : Addr} {o : HO} (k : G.Ok w H A F) (hp : H p = none) : G.Ok w (upd H p o) A F where
  wi := G.frame k.wi (fun a u h _ => by rw [upd_ne (ne_of_none h hp)]; exact h) (fun _ h => .inl h)
  af := k.af
  dom := fun a h => by
    by_cases e : a = p
    · subst e; rw [upd_same]; exact fun z => nomatch z
    · rw [upd_ne e]; exact k.dom a h
theorem Wd.Ok.out {G : Wd} {w : G.W} {H : Hp} {A F : Foot} {p : Addr} (k : G.Ok w H A F) (hp : H p = none) : ¬ F p := fun z => k.dom p z hp

/-- a value that may be an owned list -/
def RepO (A F : Foot) (H : Hp) (v : V) (d : D) : Prop :=
  Rep F H v d ∨ ∃ a xs ds, v = .ref a ∧ d = .lst ds ∧ H a = some (.lst xs) ∧ F a ∧ ¬ A a ∧ xs.length ≤ LB ∧ RepL F H xs ds
section
variable {A F : Foot} {H : Hp} {v : V}
/-- .. at this very moment: an own list, or one that the world has -/
def RepW (F : Foot) (H : Hp) (v : V) (d : D) : Prop :=
  Rep F H v d ∨ (∃ a xs ds, v = .ref a ∧ d = .lst ds ∧ H a = some (.lst xs) ∧ xs.length ≤ LB ∧ RepL F H xs ds) ∨ ∃ a xs ds, v = .ref a ∧ d = .dct ds ∧ H a = some (.dK xs) ∧ xs.length ≤ LB ∧ RepK F H xs ds
theorem RepO.w {d : D} (h : RepO A F H v d) : RepW F H v d := h.elim .inl fun ⟨a, xs, ds, e1, e2, e3, _, _, e4, e5⟩ => .inr (.inl ⟨a, xs, ds, e1, e2, e3, e4, e5⟩)
theorem RepW.rep {d : D} (h : RepW F H v d) (n1 : ∀ ds, d ≠ .lst ds) (n2 : ∀ ds, d ≠ .dct ds) : Rep F H v d := by
  rcases h with h | ⟨_, _, ds, _, e, _⟩ | ⟨_, _, ds, _, e, _⟩
  · exact h
  · exact absurd e (n1 ds)
  · exact absurd e (n2 ds)
theorem RepW.int {i : Int} (h : RepW F H v (.int i)) : v = .int i := by
  cases h.rep (fun _ e => nomatch e) (fun _ e => nomatch e); rfl
theorem RepW.bl {i : Bool} (h : RepW F H v (.bl i)) : v = .bl i := by
  cases h.rep (fun _ e => nomatch e) (fun _ e => nomatch e); rfl
theorem RepW.non (h : RepW F H v .non) : v = .non := by
  cases h.rep (fun _ e => nomatch e) (fun _ e => nomatch e); rfl
theorem RepW.str {x : Str} (h : RepW F H v (.str x)) : v = .str x ∧ SOk x := by
  cases h.rep (fun _ e => nomatch e) (fun _ e => nomatch e); exact ⟨rfl, by assumption⟩
theorem RepW.ty {n : String} (h : RepW F H v (.ty n)) : v = .ty n := by
  cases h.rep (fun _ e => nomatch e) (fun _ e => nomatch e); rfl
theorem RepW.hnd {a : Addr} (h : RepW F H v (.hnd a)) : v = .ref a := by
  cases h.rep (fun _ e => nomatch e) (fun _ e => nomatch e); rfl
theorem RepW.lst {ds : List D} (h : RepW F H v (.lst ds)) : ∃ a xs, v = .ref a ∧ H a = some (.lst xs) ∧ xs.length ≤ LB ∧ RepL F H xs ds := by
  rcases h with h | ⟨a, xs, es, e1, e2, e3, e4, e5⟩ | ⟨a, xs, es, e1, e2, _⟩
  · cases h with | lst h n l r => exact ⟨_, _, rfl, h, l, r⟩
  · cases e2; exact ⟨a, xs, e1, e3, e4, e5⟩
  · cases e2
theorem RepW.tup {ds : List D} (h : RepW F H v (.tup ds)) : ∃ a xs, v = .ref a ∧ H a = some (.tup xs) ∧ ¬ F a ∧ xs.length ≤ LB ∧ RepL F H xs ds := by
  cases h.rep (fun _ e => nomatch e) (fun _ e => nomatch e) with | tup g n l r => exact ⟨_, _, rfl, g, n, l, r⟩
theorem RepW.dct {ds : List (Key × D)} (h : RepW F H v (.dct ds)) : ∃ a xs, v = .ref a ∧ H a = some (.dK xs) ∧ xs.length ≤ LB ∧ RepK F H xs ds := by
  rcases h with h | ⟨a, xs, es, e1, e2, _⟩ | ⟨a, xs, es, e1, e2, e3, e4, e5⟩
  · cases h with | dct h n l r => exact ⟨_, _, rfl, h, l, r⟩
  · cases e2
  · cases e2; exact ⟨a, xs, e1, e3, e4, e5⟩
theorem RepO.step {A' F' : Foot} {H' : Hp} {d : D} (h : RepO A F H v d) (s : Stp A F H A' F' H') (af : ∀ a, A a → F a) : RepO A' F' H' v d := by
  rcases h with h | ⟨a, xs, es, e1, e2, e3, e6, e7, e4, e5⟩
  · exact .inl (h.mono (s.keeps af))
  · refine .inr ⟨a, xs, es, e1, e2, s.keep a _ e3 e7, s.fm a e6, fun z => (s.fa a z).elim e7 fun q => ?_, e4, e5.mono (s.keeps af)⟩
    rw [e3] at q; cases q
end

/-! ### the names' values -/
inductive Ent where
  | val (d : D) | own (ds : List D)
abbrev DEnv := List (Option Ent)
structure EnvRep (A F : Foot) (H : Hp) (σ : St) (ρ : DEnv) : Prop where
  len : σ.length = ρ.length
  val : ∀ (i : Nat) (d : D), ρ[i]? = some (some (.val d)) → ∃ v, σ[i]? = some (some v) ∧ Rep F H v d
  own : ∀ (i : Nat) (ds : List D), ρ[i]? = some (some (.own ds)) → ∃ a xs, σ[i]? = some (some (.ref a)) ∧ H a = some (.lst xs) ∧ F a ∧ ¬ A a ∧ xs.length ≤ LB ∧ RepL F H xs ds
  inj : ∀ (i j : Nat) (ds es : List D) (a : Addr), ρ[i]? = some (some (.own ds)) → ρ[j]? = some (some (.own es)) → σ[i]? = some (some (.ref a)) → σ[j]? = some (some (.ref a)) → i = j
theorem EnvRep.step {A F A' F' : Foot} {H H' : Hp} {σ : St} {ρ : DEnv} (h : EnvRep A F H σ ρ) (s : Stp A F H A' F' H') (af : ∀ a, A a → F a) : EnvRep A' F' H' σ ρ where
  len := h.len
  val := fun i d e => let ⟨v, e1, r⟩ := h.val i d e; ⟨v, e1, r.mono (s.keeps af)⟩
  own := fun i ds e => by
    obtain ⟨a, xs, e1, e3, e6, e7, e4, e5⟩ := h.own i ds e
    refine ⟨a, xs, e1, s.keep a _ e3 e7, s.fm a e6, fun z => (s.fa a z).elim e7 fun q => ?_, e4, e5.mono (s.keeps af)⟩
    rw [e3] at q; cases q
  inj := h.inj

/-! ### what a program means, over data -/
abbrev Ex := Addr
abbrev M (W α : Type) := W → (α → W → Prop) → (Ex → W → Prop) → Prop
def Mono {W α : Type} (m : M W α) : Prop := ∀ (w : W) (Q Q' : α → W → Prop) (E E' : Ex → W → Prop), (∀ a w, Q a w → Q' a w) → (∀ e w, E e w → E' e w) → m w Q E → m w Q' E'
section
variable (G : Wd)
/-- behind a step: any state that the step may have led to -/
def post (A F : Foot) (H : Hp) (Q : VK) : D → G.W → Prop := fun d w' => ∀ (v : V) (H' : Hp) (A' F' : Foot), Stp A F H A' F' H' → G.Ok w' H' A' F' → Rep F' H' v d → Q v H'
def postO (A F : Foot) (H : Hp) (Q : VK) : D → G.W → Prop := fun d w' => ∀ (v : V) (H' : Hp) (A' F' : Foot), Stp A F H A' F' H' → G.Ok w' H' A' F' → RepO A' F' H' v d → Q v H'
def postT (A F : Foot) (H : Hp) (Q : Bool → Hp → Prop) : Bool → G.W → Prop := fun b w' => ∀ (H' : Hp) (A' F' : Foot), Stp A F H A' F' H' → G.Ok w' H' A' F' → Q b H'
def postA (A F : Foot) (H : Hp) (Q : List V → Hp → Prop) : List D → G.W → Prop := fun ds w' => ∀ (vs : List V) (H' : Hp) (A' F' : Foot), Stp A F H A' F' H' → G.Ok w' H' A' F' → RepL F' H' vs ds → Q vs H'
def exOk (A F : Foot) (H : Hp) (σ : St) (Wx : WX) (E : Ex → G.W → Prop) : Prop := ∀ (e : Ex) (w' : G.W) (H' : Hp) (A' F' : Foot), Stp A F H A' F' H' → G.Ok w' H' A' F' → E e w' → Wx (.ref e) none σ H'
def liftE (Wx : WX) (m : DEnv → M G.W D) : TE := fun σ H Q => ∃ A F ρ w E, G.Ok w H A F ∧ EnvRep A F H σ ρ ∧ exOk G A F H σ Wx E ∧ m ρ w (post G A F H Q) E
def liftU (Wx : WX) (m : DEnv → M G.W D) : TE := fun σ H Q => ∃ A F ρ w E, G.Ok w H A F ∧ EnvRep A F H σ ρ ∧ exOk G A F H σ Wx E ∧ m ρ w (postO G A F H Q) E
def liftT (Wx : WX) (m : DEnv → M G.W Bool) : TT := fun σ H Q => ∃ A F ρ w E, G.Ok w H A F ∧ EnvRep A F H σ ρ ∧ exOk G A F H σ Wx E ∧ m ρ w (postT G A F H Q) E
def liftA (Wx : WX) (m : DEnv → M G.W (List D)) : TA := fun σ H Q => ∃ A F ρ w E, G.Ok w H A F ∧ EnvRep A F H σ ρ ∧ exOk G A F H σ Wx E ∧ m ρ w (postA G A F H Q) E
structure DE (X : Cx) (Wx : WX) (e : Expr) (m : DEnv → M G.W D) : Prop where
  pe : PE X e (liftE G Wx m)
  mono : ∀ ρ, Mono (m ρ)
structure DU (X : Cx) (Wx : WX) (e : Expr) (m : DEnv → M G.W D) : Prop where
  pe : PE X e (liftU G Wx m)
  mono : ∀ ρ, Mono (m ρ)
structure DT (X : Cx) (Wx : WX) (e : Expr) (m : DEnv → M G.W Bool) : Prop where
  pe : PT X e (liftT G Wx m)
  mono : ∀ ρ, Mono (m ρ)
structure DW (X : Cx) (Wx : WX) (e : Expr) (m : DEnv → M G.W Bool) : Prop where
  pe : PW X e (liftT G Wx m)
  mono : ∀ ρ, Mono (m ρ)
structure DA (X : Cx) (Wx : WX) (es : List Expr) (m : DEnv → M G.W (List D)) : Prop where
  pe : PA X es (liftA G Wx m)
  mono : ∀ ρ, Mono (m ρ)
end
theorem exOk.step {G : Wd} {A F A' F' : Foot} {H H' : Hp} {σ : St} {Wx : WX} {E : Ex → G.W → Prop} (x : exOk G A F H σ Wx E) (s : Stp A F H A' F' H') : exOk G A' F' H' σ Wx E := fun e w' H2 A2 F2 s2 k q => x e w' H2 A2 F2 (s.trans s2) k q
theorem PE.imp {X : Cx} {e : Expr} {t t' : TE} (h : PE X e t) (i : ∀ σ H Q, t' σ H Q → t σ H Q) : PE X e t' := ⟨fun pins s σ H Q I hw => h.run pins s σ H Q I (i σ H Q hw)⟩
theorem PT.imp {X : Cx} {e : Expr} {t t' : TT} (h : PT X e t) (i : ∀ σ H Q, t' σ H Q → t σ H Q) : PT X e t' := ⟨fun pins s σ H Q I hw => h.run pins s σ H Q I (i σ H Q hw)⟩
theorem PW.imp {X : Cx} {e : Expr} {t t' : TT} (h : PW X e t) (i : ∀ σ H Q, t' σ H Q → t σ H Q) : PW X e t' := ⟨fun wh pins s σ H Q I hw => h.run wh pins s σ H Q I (i σ H Q hw)⟩
theorem PA.imp {X : Cx} {e : List Expr} {t t' : TA} (h : PA X e t) (i : ∀ σ H Q, t' σ H Q → t σ H Q) : PA X e t' := ⟨fun pos pins s σ H Q I hw => h.run pos pins s σ H Q I (i σ H Q hw)⟩
theorem PS.imp {X : Cx} {e : Stmt} {t t' : TS} (h : PS X e t) (i : ∀ D σ H, t' D σ H → t D σ H) : PS X e t' := ⟨fun pins s σ H D I hw => h.run pins s σ H D I (i D σ H hw)⟩
theorem PSs.imp {X : Cx} {e : List Stmt} {t t' : TS} (h : PSs X e t) (i : ∀ D σ H, t' D σ H → t D σ H) : PSs X e t' := ⟨fun pins s σ H D I hw => h.run pins s σ H D I (i D σ H hw)⟩

section
variable {G : Wd} {X : Cx} {Wx : WX} {e : Expr} {m : DEnv → M G.W D}
theorem DE.u (h : DE G X Wx e m) : DU G X Wx e m := ⟨PE.imp h.pe fun σ H Q ⟨A, F, ρ, w, E, k, r, x, q⟩ => ⟨A, F, ρ, w, E, k, r, x,
  h.mono ρ w _ _ _ _ (fun d w' z v H' A' F' s k' rp => z v H' A' F' s k' (.inl rp)) (fun _ _ z => z) q⟩, h.mono⟩

/-! ### one, two values in a row -/
/-- the state behind a value -/
def Aft (G : Wd) (Wx : WX) (σ : St) (H : Hp) (k : G.W → DEnv → (Ex → G.W → Prop) → Foot → Foot → Prop) : Prop :=
  ∃ A F ρ w E, G.Ok w H A F ∧ EnvRep A F H σ ρ ∧ exOk G A F H σ Wx E ∧ k w ρ E A F
theorem post_trans {A F A1 F1 : Foot} {H H1 : Hp} {Q : VK} (s : Stp A F H A1 F1 H1) : ∀ d w, post G A F H Q d w → post G A1 F1 H1 Q d w := fun d w h v H' A' F' s' k r => h v H' A' F' (s.trans s') k r
theorem postO_trans {A F A1 F1 : Foot} {H H1 : Hp} {Q : VK} (s : Stp A F H A1 F1 H1) : ∀ d w, postO G A F H Q d w → postO G A1 F1 H1 Q d w := fun d w h v H' A' F' s' k r => h v H' A' F' (s.trans s') k r
theorem postT_trans {A F A1 F1 : Foot} {H H1 : Hp} {Q : Bool → Hp → Prop} (s : Stp A F H A1 F1 H1) : ∀ d w, postT G A F H Q d w → postT G A1 F1 H1 Q d w := fun d w h H' A' F' s' k => h H' A' F' (s.trans s') k
theorem postA_trans {A F A1 F1 : Foot} {H H1 : Hp} {Q : List V → Hp → Prop} (s : Stp A F H A1 F1 H1) : ∀ d w, postA G A F H Q d w → postA G A1 F1 H1 Q d w := fun d w h v H' A' F' s' k r => h v H' A' F' (s.trans s') k r
end
end DL

namespace DL
open PySem PySem.Spec PyProof.Rows L2
section
variable {G : Wd} {X : Cx} {Wx : WX} {W : Type}

theorem Mono.pure {α : Type} (a : α) : Mono (fun (w : W) Q _ => Q a w) := fun _ _ _ _ _ h _ q => h _ _ q
theorem Mono.bind {α β : Type} {m : M W α} {f : α → M W β} (h : Mono m) (hf : ∀ a, Mono (f a)) : Mono (fun w Q E => m w (fun a w1 => f a w1 Q E) E) :=
  fun w Q Q' E E' hq he q => h w _ _ _ _ (fun a w1 z => hf a w1 _ _ _ _ hq he z) he q

/-! ### running a part, then going on -/
/-- a family of ends that may be looked at from any later state -/
structure EndF (G : Wd) (β : Type) where
  P : Foot → Foot → Hp → β → G.W → Prop
  tr : ∀ {A F A1 F1 : Foot} {H H1 : Hp}, Stp A F H A1 F1 H1 → ∀ d w, P A F H d w → P A1 F1 H1 d w
def EndF.e (G : Wd) (Q : VK) : EndF G D := ⟨fun A F H => post G A F H Q, post_trans⟩
def EndF.o (G : Wd) (Q : VK) : EndF G D := ⟨fun A F H => postO G A F H Q, postO_trans⟩
def EndF.t (G : Wd) (Q : Bool → Hp → Prop) : EndF G Bool := ⟨fun A F H => postT G A F H Q, postT_trans⟩
def EndF.a (G : Wd) (Q : List V → Hp → Prop) : EndF G (List D) := ⟨fun A F H => postA G A F H Q, postA_trans⟩

/-- the state behind: what may be run from it -/
def At (G : Wd) (Wx : WX) {β : Type} (P : EndF G β) (σ : St) (H : Hp) (k : Foot → Foot → DEnv → M G.W β) : Prop :=
  ∃ A F ρ w E, G.Ok w H A F ∧ EnvRep A F H σ ρ ∧ exOk G A F H σ Wx E ∧ k A F ρ w (P.P A F H) E

theorem runE {β : Type} {m : DEnv → M G.W D} (hm : ∀ ρ, Mono (m ρ)) {P : EndF G β} {σ : St} {H : Hp} {k : D → DEnv → M G.W β} (km : ∀ d ρ, Mono (k d ρ)) {R : V → Hp → Prop}
    (h : At G Wx P σ H fun A F ρ w Q E => m ρ w (fun d w1 => k d ρ w1 Q E) E)
    (go : ∀ v d H1, (∃ A F ρ w E, G.Ok w H1 A F ∧ EnvRep A F H1 σ ρ ∧ exOk G A F H1 σ Wx E ∧ Rep F H1 v d ∧ k d ρ w (P.P A F H1) E) → R v H1) : liftE G Wx m σ H R := by
  obtain ⟨A, F, ρ, w, E, k1, r, x, q⟩ := h
  refine ⟨A, F, ρ, w, E, k1, r, x, hm ρ w _ _ _ _ (fun d w1 z v H1 A1 F1 s k2 rp => ?_) (fun _ _ z => z) q⟩
  exact go v d H1 ⟨A1, F1, ρ, w1, E, k2, r.step s k1.af, x.step s, rp, km d ρ w1 _ _ _ _ (P.tr s) (fun _ _ z => z) z⟩
theorem runU {β : Type} {m : DEnv → M G.W D} (hm : ∀ ρ, Mono (m ρ)) {P : EndF G β} {σ : St} {H : Hp} {k : D → DEnv → M G.W β} (km : ∀ d ρ, Mono (k d ρ)) {R : V → Hp → Prop}
    (h : At G Wx P σ H fun A F ρ w Q E => m ρ w (fun d w1 => k d ρ w1 Q E) E)
    (go : ∀ v d H1, (∃ A F ρ w E, G.Ok w H1 A F ∧ EnvRep A F H1 σ ρ ∧ exOk G A F H1 σ Wx E ∧ RepO A F H1 v d ∧ k d ρ w (P.P A F H1) E) → R v H1) : liftU G Wx m σ H R := by
  obtain ⟨A, F, ρ, w, E, k1, r, x, q⟩ := h
  refine ⟨A, F, ρ, w, E, k1, r, x, hm ρ w _ _ _ _ (fun d w1 z v H1 A1 F1 s k2 rp => ?_) (fun _ _ z => z) q⟩
  exact go v d H1 ⟨A1, F1, ρ, w1, E, k2, r.step s k1.af, x.step s, rp, km d ρ w1 _ _ _ _ (P.tr s) (fun _ _ z => z) z⟩
theorem runT {β : Type} {m : DEnv → M G.W Bool} (hm : ∀ ρ, Mono (m ρ)) {P : EndF G β} {σ : St} {H : Hp} {k : Bool → DEnv → M G.W β} (km : ∀ d ρ, Mono (k d ρ)) {R : Bool → Hp → Prop}
    (h : At G Wx P σ H fun A F ρ w Q E => m ρ w (fun d w1 => k d ρ w1 Q E) E)
    (go : ∀ b H1, At G Wx P σ H1 (fun A F ρ => k b ρ) → R b H1) : liftT G Wx m σ H R := by
  obtain ⟨A, F, ρ, w, E, k1, r, x, q⟩ := h
  refine ⟨A, F, ρ, w, E, k1, r, x, hm ρ w _ _ _ _ (fun d w1 z H1 A1 F1 s k2 => ?_) (fun _ _ z => z) q⟩
  exact go d H1 ⟨A1, F1, ρ, w1, E, k2, r.step s k1.af, x.step s, km d ρ w1 _ _ _ _ (P.tr s) (fun _ _ z => z) z⟩
theorem runA {β : Type} {m : DEnv → M G.W (List D)} (hm : ∀ ρ, Mono (m ρ)) {P : EndF G β} {σ : St} {H : Hp} {k : List D → DEnv → M G.W β} (km : ∀ d ρ, Mono (k d ρ)) {R : List V → Hp → Prop}
    (h : At G Wx P σ H fun A F ρ w Q E => m ρ w (fun d w1 => k d ρ w1 Q E) E)
    (go : ∀ vs ds H1, (∃ A F ρ w E, G.Ok w H1 A F ∧ EnvRep A F H1 σ ρ ∧ exOk G A F H1 σ Wx E ∧ RepL F H1 vs ds ∧ k ds ρ w (P.P A F H1) E) → R vs H1) : liftA G Wx m σ H R := by
  obtain ⟨A, F, ρ, w, E, k1, r, x, q⟩ := h
  refine ⟨A, F, ρ, w, E, k1, r, x, hm ρ w _ _ _ _ (fun d w1 z v H1 A1 F1 s k2 rp => ?_) (fun _ _ z => z) q⟩
  exact go v d H1 ⟨A1, F1, ρ, w1, E, k2, r.step s k1.af, x.step s, rp, km d ρ w1 _ _ _ _ (P.tr s) (fun _ _ z => z) z⟩

/-! ### names, constants -/
def mVar (i : Nat) : DEnv → M W D := fun ρ w Q _ => ∃ d, ρ[i]? = some (some (.val d)) ∧ Q d w
def mOwn (i : Nat) : DEnv → M W D := fun ρ w Q _ => ∃ ds, ρ[i]? = some (some (.own ds)) ∧ Q (.lst ds) w
def mC (d : D) : DEnv → M W D := fun _ w Q _ => Q d w
theorem dvar (i : Nat) {x : Str} {pos : Pos} (hN : X.N[i]? = some x := by rfl) (hv : Vis X.env.scope x := by first | exact Or.inl rfl | exact Or.inr (Or.inl rfl) | exact Or.inr (Or.inr rfl)) (hd : (x == ("__debug__" : Str)) = false := by decide)
    (hcd : (x == ("__classdict__" : Str)) = false := by decide) : DE G X Wx (.Name x pos) (mVar i) where
  pe := PE.imp (pv i hN hv hd hcd) fun σ H Q ⟨A, F, ρ, w, E, k, r, _, d, e, q⟩ => by
    obtain ⟨v, e1, rp⟩ := r.val i d e
    exact ⟨v, e1, q v H A F .refl k rp⟩
  mono := fun ρ w Q Q' E E' hq _ ⟨d, e, q⟩ => ⟨d, e, hq _ _ q⟩
theorem down (i : Nat) {x : Str} {pos : Pos} (hN : X.N[i]? = some x := by rfl) (hv : Vis X.env.scope x := by first | exact Or.inl rfl | exact Or.inr (Or.inl rfl) | exact Or.inr (Or.inr rfl)) (hd : (x == ("__debug__" : Str)) = false := by decide)
    (hcd : (x == ("__classdict__" : Str)) = false := by decide) : DU G X Wx (.Name x pos) (mOwn i) where
  pe := PE.imp (pv i hN hv hd hcd) fun σ H Q ⟨A, F, ρ, w, E, k, r, _, d, e, q⟩ => by
    obtain ⟨a, xs, e1, e2, e3, e4, e5, e6⟩ := r.own i d e
    exact ⟨_, e1, q _ H A F .refl k (.inr ⟨a, xs, d, rfl, rfl, e2, e3, e4, e5, e6⟩)⟩
  mono := fun ρ w Q Q' E E' hq _ ⟨d, e, q⟩ => ⟨d, e, hq _ _ q⟩
theorem dconst {e : Expr} {v : V} {d : D} (h : PE X e (tC v)) (r : ∀ F H, Rep F H v d) : DE G X Wx e (mC d) where
  pe := PE.imp h fun σ H Q ⟨A, F, ρ, w, E, k, _, _, q⟩ => q v H A F .refl k (r F H)
  mono := fun ρ => Mono.pure d
theorem dint {i j pos} : DE G X Wx (.Constant (.int i) j pos) (mC (.int i)) := dconst pe_int fun _ _ => .int i
theorem dbl {b j pos} : DE G X Wx (.Constant (.bool b) j pos) (mC (.bl b)) := dconst pe_bl fun _ _ => .bl b
theorem dnon {j pos} : DE G X Wx (.Constant .none j pos) (mC .non) := dconst pe_non fun _ _ => .non
theorem dstr {x j pos} (h : SOk x := by exact ⟨by decide +kernel, by decide +kernel⟩) : DE G X Wx (.Constant (.str x) j pos) (mC (.str x)) := dconst pe_str fun _ _ => .str x h
/-- a module's own class, def: a handle -/
theorem dglob {x : Str} {a : Addr} {pos : Pos} (hg : Gl X x) (hm : X.mg x = some (.ref a)) (hd : (x == ("__debug__" : Str)) = false := by decide) : DE G X Wx (.Name x pos) (mC (.hnd a)) := dconst (v := .ref a) (pe_glob hg hm rfl hd) fun _ _ => .hnd a
theorem dty {x : Str} {n : String} {pos : Pos} (hg : Gl X x) (hm : X.mg x = none) (hv : bootBuiltins x = some (.type n)) (hn : x ≠ "__name__" := by decide) (hd : (x == ("__debug__" : Str)) = false := by decide) : DE G X Wx (.Name x pos) (mC (.ty n)) :=
  dconst (v := .ty n) (pe_bltn hg hm hv rfl hn hd) fun _ _ => .ty n

/-! ### operators -/
abbrev F2 (W : Type) := D → D → M W D
def S2 (G : Wd) (r : R2) (f : F2 G.W) : Prop := ∀ x y v u w H A F Q E, G.Ok w H A F → RepW F H v x → RepW F H u y → f x y w (post G A F H Q) E → r v u H Q
/-- a rule with its meaning over data -/
structure Op2 (G : Wd) (X : Cx) (g : Value → Value → Sem Value) (f : F2 G.W) : Prop where
  ex : ∃ r, OpR X g r ∧ S2 G r f
  mono : ∀ x y, Mono (f x y)
def mOp (f : F2 W) (ma mb : DEnv → M W D) : DEnv → M W D := fun ρ w Q E => ma ρ w (fun x w1 => mb ρ w1 (fun y w2 => f x y w2 Q E) E) E
theorem mOp_mono {f : F2 W} {ma mb : DEnv → M W D} (ha : ∀ ρ, Mono (ma ρ)) (hb : ∀ ρ, Mono (mb ρ)) (hf : ∀ x y, Mono (f x y)) : ∀ ρ, Mono (mOp f ma mb ρ) := fun ρ => (ha ρ).bind fun x => (hb ρ).bind fun y => hf x y
theorem two {a b : Expr} {ma mb : DEnv → M G.W D} (ha : DU G X Wx a ma) (hb : DU G X Wx b mb) {β : Type} {f : D → D → M G.W β} (hf : ∀ x y, Mono (f x y)) {P : EndF G β} {σ : St} {H : Hp} {R : V → V → Hp → Prop}
    (h : At G Wx P σ H fun A F ρ w Q E => ma ρ w (fun x w1 => mb ρ w1 (fun y w2 => f x y w2 Q E) E) E)
    (go : ∀ x y v u w H A F E, G.Ok w H A F → exOk G A F H σ Wx E → RepW F H v x → RepW F H u y → f x y w (P.P A F H) E → R v u H) :
    liftU G Wx ma σ H fun v H1 => liftU G Wx mb σ H1 fun u H2 => R v u H2 := by
  refine runU ha.mono (fun d ρ => (hb.mono ρ).bind fun y => hf d y) h fun v d H1 ⟨A, F, ρ, w, E, k, r, x, rp, q⟩ => ?_
  refine ⟨A, F, ρ, w, E, k, r, x, hb.mono ρ w _ _ _ _ (fun y w2 z u H2 A2 F2 s k2 rp2 => ?_) (fun _ _ z => z) q⟩
  exact go d y v u w2 H2 A2 F2 E k2 (x.step s) (rp.step s k.af).w rp2.w (hf d y w2 _ _ _ _ (P.tr s) (fun _ _ z => z) z)
theorem dop {op : Operator} {a b : Expr} {ma mb : DEnv → M G.W D} {f : F2 G.W} {pos : Pos} (o : Op2 G X (binaryOp op) f) (ha : DU G X Wx a ma) (hb : DU G X Wx b mb) : DE G X Wx (.BinOp a op b pos) (mOp f ma mb) := by
  obtain ⟨⟨r, ho, hs⟩, hm⟩ := o
  refine ⟨PE.imp (pe_op ho ha.pe hb.pe) fun σ H Q h => ?_, mOp_mono ha.mono hb.mono hm⟩
  exact two ha hb hm (P := .e G Q) h fun x y v u w H A F E k _ r1 r2 q => hs x y v u w H A F Q E k r1 r2 q
/-- a comparison as a value -/
theorem dcmp {op : CmpOp} {a b : Expr} {ma mb : DEnv → M G.W D} {f : F2 G.W} {pos : Pos} (o : Op2 G X (compareOp op) f) (ha : DU G X Wx a ma) (hb : DU G X Wx b mb) (hm : behindInMarks op b = false) : DE G X Wx (.Compare a [op] [b] pos) (mOp f ma mb) := by
  obtain ⟨⟨r, ho, hs⟩, hm2⟩ := o
  refine ⟨PE.imp (pe_cmpR ho ha.pe hb.pe hm) fun σ H Q h => ?_, mOp_mono ha.mono hb.mono hm2⟩
  exact two ha hb hm2 (P := .e G Q) h fun x y v u w H A F E k _ r1 r2 q => hs x y v u w H A F Q E k r1 r2 q
/-- a value that is a truth, as a test -/
def mTst (m : DEnv → M W D) : DEnv → M W Bool := fun ρ w Q E => m ρ w (fun d w' => ∃ b, d = .bl b ∧ Q b w') E
theorem mTst_mono {m : DEnv → M W D} (h : ∀ ρ, Mono (m ρ)) : ∀ ρ, Mono (mTst m ρ) := fun ρ => (h ρ).bind (f := fun d w Q _ => ∃ b, d = D.bl b ∧ Q b w) fun d w Q Q' E E' hq _ ⟨b, e, q⟩ => ⟨b, e, hq _ _ q⟩
theorem dtcmp {op : CmpOp} {a b : Expr} {ma mb : DEnv → M G.W D} {f : F2 G.W} {pos : Pos} (o : Op2 G X (compareOp op) f) (ha : DU G X Wx a ma) (hb : DU G X Wx b mb) (hm : behindInMarks op b = false) : DT G X Wx (.Compare a [op] [b] pos) (mTst (mOp f ma mb)) := by
  obtain ⟨⟨r, ho, hs⟩, hm2⟩ := o
  refine ⟨PT.imp (pt_cmpR ho ha.pe hb.pe hm) fun σ H Q h => ?_, mTst_mono (mOp_mono ha.mono hb.mono hm2)⟩
  refine two ha hb (f := fun x y w Q E => f x y w (fun d w' => ∃ b, d = .bl b ∧ Q b w') E) (fun x y w Q Q' E E' hq he q => hm2 x y w _ _ _ _ (fun d w' ⟨b, e, z⟩ => ⟨b, e, hq _ _ z⟩) he q) (P := .t G Q) h fun x y v u w H A F E k _ r1 r2 q => ?_
  refine hs x y v u w H A F _ E k r1 r2 (hm2 x y w _ _ _ _ (fun d w' ⟨b, e, z⟩ v' H' A' F' s' k' rp => ?_) (fun _ _ z => z) q)
  subst e
  cases rp
  exact ⟨b, rfl, z H' A' F' s' k'⟩
theorem dtval {e : Expr} {m : DEnv → M G.W D} (h : DE G X Wx e m) (he : ∀ whole, isTrue e X.env whole = (do let v ← whole; standAt e.pos; holding [v] (truthy v)) := by intro _; rfl) : DT G X Wx e (mTst m) := by
  refine ⟨PT.imp (pt_val h.pe he) fun σ H Q h1 => ?_, mTst_mono h.mono⟩
  refine runE h.mono (k := fun d ρ w Q E => ∃ b, d = .bl b ∧ Q b w) (fun d ρ w Q Q' E E' hq _ ⟨b, e, q⟩ => ⟨b, e, hq _ _ q⟩) (P := .t G Q) h1 fun v d H1 ⟨A, F, ρ, w, E, k, r, x, rp, b, e, q⟩ => ?_
  subst e
  cases rp
  exact ⟨b, rfl, q H1 A F .refl k⟩
def mUn (f : D → M W D) (ma : DEnv → M W D) : DEnv → M W D := fun ρ w Q E => ma ρ w (fun x w1 => f x w1 Q E) E
structure Op1 (G : Wd) (X : Cx) (g : Value → Sem Value) (f : D → M G.W D) : Prop where
  ex : ∃ r, UnR X g r ∧ ∀ x v w H A F Q E, G.Ok w H A F → RepW F H v x → f x w (post G A F H Q) E → r v H Q
  mono : ∀ x, Mono (f x)
theorem dun {op : UnaryOp} {a : Expr} {ma : DEnv → M G.W D} {f : D → M G.W D} {pos : Pos} (o : Op1 G X (unaryOp op) f) (ha : DU G X Wx a ma) : DE G X Wx (.UnaryOp op a pos) (mUn f ma) := by
  obtain ⟨⟨r, ho, hs⟩, hm⟩ := o
  refine ⟨PE.imp (pe_un ho ha.pe) fun σ H Q h => ?_, fun ρ => (ha.mono ρ).bind hm⟩
  exact runU ha.mono (fun d _ => hm d) (P := .e G Q) h fun v d H1 ⟨A, F, ρ, w, E, k, r, x, rp, q⟩ => hs d v w H1 A F Q E k rp.w q

/-! ### not, and, or, if -/
def mNotT (m : DEnv → M W Bool) : DEnv → M W Bool := fun ρ w Q E => m ρ w (fun b w1 => Q (!b) w1) E
def mAndT (m m' : DEnv → M W Bool) : DEnv → M W Bool := fun ρ w Q E => m ρ w (fun b w1 => if b = true then m' ρ w1 Q E else Q false w1) E
def mOrT (m m' : DEnv → M W Bool) : DEnv → M W Bool := fun ρ w Q E => m ρ w (fun b w1 => if b = true then Q true w1 else m' ρ w1 Q E) E
theorem Mono.ite {α : Type} {c : Prop} [Decidable c] {m m' : M W α} (h : Mono m) (h' : Mono m') : Mono (fun w Q E => if c then m w Q E else m' w Q E) := by
  by_cases hc : c
  · simp only [if_pos hc]; exact h
  · simp only [if_neg hc]; exact h'
theorem mNotT_mono {m : DEnv → M W Bool} (h : ∀ ρ, Mono (m ρ)) : ∀ ρ, Mono (mNotT m ρ) := fun ρ => (h ρ).bind fun b => Mono.pure (!b)
theorem mAndT_mono {m m' : DEnv → M W Bool} (h : ∀ ρ, Mono (m ρ)) (h' : ∀ ρ, Mono (m' ρ)) : ∀ ρ, Mono (mAndT m m' ρ) := fun ρ => (h ρ).bind fun b => Mono.ite (c := b = true) (h' ρ) (Mono.pure false)
theorem mOrT_mono {m m' : DEnv → M W Bool} (h : ∀ ρ, Mono (m ρ)) (h' : ∀ ρ, Mono (m' ρ)) : ∀ ρ, Mono (mOrT m m' ρ) := fun ρ => (h ρ).bind fun b => Mono.ite (c := b = true) (Mono.pure true) (h' ρ)
theorem dtnot {a : Expr} {m : DEnv → M G.W Bool} {pos : Pos} (h : DT G X Wx a m) : DT G X Wx (.UnaryOp .Not a pos) (mNotT m) :=
  ⟨PT.imp (pt_not h.pe) fun σ H Q h1 => runT h.mono (k := fun b _ w Q _ => Q (!b) w) (fun b _ => Mono.pure (!b)) (P := .t G Q) h1 fun b H1 ⟨A, F, ρ, w, E, k, r, x, q⟩ => q H1 A F .refl k, mNotT_mono h.mono⟩
theorem dwone {op} {a : Expr} {m : DEnv → M G.W Bool} {pos : Pos} (h : DT G X Wx a m) (ho : op = .And ∨ op = .Or) : DW G X Wx (.BoolOp op [a] pos) m := by
  rcases ho with rfl | rfl
  · exact ⟨pw_and1 h.pe, h.mono⟩
  · exact ⟨pw_or1 h.pe, h.mono⟩
theorem dwand1 {a : Expr} {m : DEnv → M G.W Bool} {pos : Pos} (h : DT G X Wx a m) : DW G X Wx (.BoolOp .And [a] pos) m := ⟨pw_and1 h.pe, h.mono⟩
theorem dwor1 {a : Expr} {m : DEnv → M G.W Bool} {pos : Pos} (h : DT G X Wx a m) : DW G X Wx (.BoolOp .Or [a] pos) m := ⟨pw_or1 h.pe, h.mono⟩
theorem dwand {a b : Expr} {rest : List Expr} {m m' : DEnv → M G.W Bool} {pos : Pos} (h : DT G X Wx a m) (h' : DW G X Wx (.BoolOp .And (b :: rest) pos) m') : DW G X Wx (.BoolOp .And (a :: b :: rest) pos) (mAndT m m') := by
  refine ⟨PW.imp (pw_and h.pe h'.pe) fun σ H Q h1 => ?_, mAndT_mono h.mono h'.mono⟩
  refine runT h.mono (k := fun b ρ w Q E => if b = true then m' ρ w Q E else Q false w) (fun b ρ => Mono.ite (h'.mono ρ) (Mono.pure false)) (P := .t G Q) h1 fun b H1 ⟨A, F, ρ, w, E, k, r, x, q⟩ => ?_
  cases b with
  | true => exact ⟨A, F, ρ, w, E, k, r, x, q⟩
  | false => exact q H1 A F .refl k
theorem dwor {a b : Expr} {rest : List Expr} {m m' : DEnv → M G.W Bool} {pos : Pos} (h : DT G X Wx a m) (h' : DW G X Wx (.BoolOp .Or (b :: rest) pos) m') : DW G X Wx (.BoolOp .Or (a :: b :: rest) pos) (mOrT m m') := by
  refine ⟨PW.imp (pw_or h.pe h'.pe) fun σ H Q h1 => ?_, mOrT_mono h.mono h'.mono⟩
  refine runT h.mono (k := fun b ρ w Q E => if b = true then Q true w else m' ρ w Q E) (fun b ρ => Mono.ite (Mono.pure true) (h'.mono ρ)) (P := .t G Q) h1 fun b H1 ⟨A, F, ρ, w, E, k, r, x, q⟩ => ?_
  cases b with
  | false => exact ⟨A, F, ρ, w, E, k, r, x, q⟩
  | true => exact q H1 A F .refl k
theorem DW.t {e : Expr} {m : DEnv → M G.W Bool} (h : DW G X Wx e m) : DT G X Wx e m := ⟨h.pe.pt, h.mono⟩
/-- .. as values -/
def mNotV (m : DEnv → M W D) : DEnv → M W D := fun ρ w Q E => m ρ w (fun d w1 => ∃ b, d = .bl b ∧ Q (.bl (!b)) w1) E
def mAndV (m m' : DEnv → M W D) : DEnv → M W D := fun ρ w Q E => m ρ w (fun d w1 => ∃ b, d = .bl b ∧ if b = true then m' ρ w1 Q E else Q (.bl false) w1) E
def mOrV (m m' : DEnv → M W D) : DEnv → M W D := fun ρ w Q E => m ρ w (fun d w1 => ∃ b, d = .bl b ∧ if b = true then Q (.bl true) w1 else m' ρ w1 Q E) E
theorem Mono.exb {α : Type} {d : D} {m : Bool → M W α} (h : ∀ b, Mono (m b)) : Mono (fun w Q E => ∃ b, d = D.bl b ∧ m b w Q E) := fun w Q Q' E E' hq he ⟨b, e, q⟩ => ⟨b, e, h b w _ _ _ _ hq he q⟩
theorem dnot {a : Expr} {m : DEnv → M G.W D} {pos : Pos} (h : DE G X Wx a m) : DE G X Wx (.UnaryOp .Not a pos) (mNotV m) := by
  have hk : ∀ d : D, Mono (fun (w : G.W) (Q : D → G.W → Prop) (_ : Ex → G.W → Prop) => ∃ b, d = .bl b ∧ Q (.bl (!b)) w) := fun d => Mono.exb fun b => Mono.pure (D.bl (!b))
  refine ⟨PE.imp (pe_not h.pe) fun σ H Q h1 => ?_, fun ρ => (h.mono ρ).bind hk⟩
  refine runE h.mono (fun d _ => hk d) (P := .e G Q) h1 fun v d H1 ⟨A, F, ρ, w, E, k, r, x, rp, b, e, q⟩ => ?_
  subst e
  cases rp
  exact ⟨b, rfl, q _ H1 A F .refl k (.bl _)⟩
theorem done' {op} {a : Expr} {m : DEnv → M G.W D} {pos : Pos} (h : DE G X Wx a m) : DE G X Wx (.BoolOp op [a] pos) m := ⟨pe_one h.pe, h.mono⟩
theorem dand {a b : Expr} {rest : List Expr} {m m' : DEnv → M G.W D} {pos : Pos} (h : DE G X Wx a m) (h' : DE G X Wx (.BoolOp .And (b :: rest) pos) m') : DE G X Wx (.BoolOp .And (a :: b :: rest) pos) (mAndV m m') := by
  have hk : ∀ (d : D) (ρ : DEnv), Mono (fun (w : G.W) (Q : D → G.W → Prop) (E : Ex → G.W → Prop) => ∃ b, d = .bl b ∧ if b = true then m' ρ w Q E else Q (.bl false) w) := fun d ρ => Mono.exb fun b => Mono.ite (h'.mono ρ) (Mono.pure (D.bl false))
  refine ⟨PE.imp (pe_and h.pe h'.pe) fun σ H Q h1 => ?_, fun ρ => (h.mono ρ).bind fun d => hk d ρ⟩
  refine runE h.mono hk (P := .e G Q) h1 fun v d H1 ⟨A, F, ρ, w, E, k, r, x, rp, b, e, q⟩ => ?_
  subst e
  cases rp
  refine ⟨b, rfl, ?_⟩
  cases b with
  | true => exact ⟨A, F, ρ, w, E, k, r, x, q⟩
  | false => exact q _ H1 A F .refl k (.bl _)
theorem dor {a b : Expr} {rest : List Expr} {m m' : DEnv → M G.W D} {pos : Pos} (h : DE G X Wx a m) (h' : DE G X Wx (.BoolOp .Or (b :: rest) pos) m') : DE G X Wx (.BoolOp .Or (a :: b :: rest) pos) (mOrV m m') := by
  have hk : ∀ (d : D) (ρ : DEnv), Mono (fun (w : G.W) (Q : D → G.W → Prop) (E : Ex → G.W → Prop) => ∃ b, d = .bl b ∧ if b = true then Q (.bl true) w else m' ρ w Q E) := fun d ρ => Mono.exb fun b => Mono.ite (Mono.pure (D.bl true)) (h'.mono ρ)
  refine ⟨PE.imp (pe_or h.pe h'.pe) fun σ H Q h1 => ?_, fun ρ => (h.mono ρ).bind fun d => hk d ρ⟩
  refine runE h.mono hk (P := .e G Q) h1 fun v d H1 ⟨A, F, ρ, w, E, k, r, x, rp, b, e, q⟩ => ?_
  subst e
  cases rp
  refine ⟨b, rfl, ?_⟩
  cases b with
  | false => exact ⟨A, F, ρ, w, E, k, r, x, q⟩
  | true => exact q _ H1 A F .refl k (.bl _)
def mIf (m : DEnv → M W Bool) (a b : DEnv → M W D) : DEnv → M W D := fun ρ w Q E => m ρ w (fun c w1 => if c = true then a ρ w1 Q E else b ρ w1 Q E) E
theorem dif {c a b : Expr} {m : DEnv → M G.W Bool} {ma mb : DEnv → M G.W D} {pos : Pos} (h : DT G X Wx c m) (ha : DE G X Wx a ma) (hb : DE G X Wx b mb) : DE G X Wx (.IfExp c a b pos) (mIf m ma mb) := by
  refine ⟨PE.imp (pe_ifExp h.pe ha.pe hb.pe) fun σ H Q h1 => ?_, fun ρ => (h.mono ρ).bind fun b => Mono.ite (c := b = true) (ha.mono ρ) (hb.mono ρ)⟩
  refine runT h.mono (k := fun b ρ w Q E => if b = true then ma ρ w Q E else mb ρ w Q E) (fun b ρ => Mono.ite (c := b = true) (ha.mono ρ) (hb.mono ρ)) (P := .e G Q) h1 fun b H1 ⟨A, F, ρ, w, E, k, r, x, q⟩ => ?_
  cases b with
  | true => exact ⟨A, F, ρ, w, E, k, r, x, q⟩
  | false => exact ⟨A, F, ρ, w, E, k, r, x, q⟩

/-! ### argument lists, displays -/
def mNil : DEnv → M W (List D) := fun _ w Q _ => Q [] w
def mCons (m : DEnv → M W D) (r : DEnv → M W (List D)) : DEnv → M W (List D) := fun ρ w Q E => m ρ w (fun d w1 => r ρ w1 (fun ds w2 => Q (d :: ds) w2) E) E
theorem danil : DA G X Wx [] mNil := ⟨PA.imp pa_nil fun σ H Q ⟨A, F, ρ, w, E, k, r, x, q⟩ => q [] H A F .refl k .nil, fun _ => Mono.pure []⟩
theorem dacons {e : Expr} {es : List Expr} {m : DEnv → M G.W D} {mr : DEnv → M G.W (List D)} (ha : DE G X Wx e m) (hr : DA G X Wx es mr) (hs : starEach (e :: es) X.env = (false, eval e X.env) :: starEach es X.env := by rfl) : DA G X Wx (e :: es) (mCons m mr) := by
  have hk : ∀ (d : D) (ρ : DEnv), Mono (fun (w : G.W) (Q : List D → G.W → Prop) (E : Ex → G.W → Prop) => mr ρ w (fun ds w2 => Q (d :: ds) w2) E) := fun d ρ => (hr.mono ρ).bind fun ds => Mono.pure (d :: ds)
  refine ⟨PA.imp (pa_cons ha.pe hr.pe hs) fun σ H Q h1 => ?_, fun ρ => (ha.mono ρ).bind fun d => hk d ρ⟩
  refine runE ha.mono hk (P := .a G Q) h1 fun v d H1 ⟨A, F, ρ, w, E, k, r, x, rp, q⟩ => ?_
  refine ⟨A, F, ρ, w, E, k, r, x, hr.mono ρ w _ _ _ _ (fun ds w2 z vs H2 A2 F2 s k2 rp2 => ?_) (fun _ _ z => z) q⟩
  exact z (v :: vs) H2 A2 F2 s k2 (.cons (rp.mono (s.keeps k.af)) rp2)
/-- args that may be owned lists (for what only reads them) -/
structure DAu (G : Wd) (X : Cx) (Wx : WX) (es : List Expr) (m : DEnv → M G.W (List D)) : Prop where
  pe : PA X es (fun σ H Q => ∃ A F ρ w E, G.Ok w H A F ∧ EnvRep A F H σ ρ ∧ exOk G A F H σ Wx E ∧ m ρ w (fun ds w' => ∀ vs H' A' F', Stp A F H A' F' H' → G.Ok w' H' A' F' → Paired (RepO A' F' H') vs ds → Q vs H') E)
  mono : ∀ ρ, Mono (m ρ)
theorem daunil : DAu G X Wx [] mNil := ⟨PA.imp pa_nil fun σ H Q ⟨A, F, ρ, w, E, k, r, x, q⟩ => q [] H A F .refl k .nil, fun _ => Mono.pure []⟩
theorem Paired.mapR {α β : Type} {R S : α → β → Prop} (h : ∀ a b, R a b → S a b) : ∀ {l : List α} {m : List β}, Paired R l m → Paired S l m
  | _, _, .nil => .nil
  | _, _, .cons r t => .cons (h _ _ r) (Paired.mapR h t)
theorem daucons {e : Expr} {es : List Expr} {m : DEnv → M G.W D} {mr : DEnv → M G.W (List D)} (ha : DU G X Wx e m) (hr : DAu G X Wx es mr) (hs : starEach (e :: es) X.env = (false, eval e X.env) :: starEach es X.env := by rfl) : DAu G X Wx (e :: es) (mCons m mr) := by
  have hk : ∀ (d : D) (ρ : DEnv), Mono (fun (w : G.W) (Q : List D → G.W → Prop) (E : Ex → G.W → Prop) => mr ρ w (fun ds w2 => Q (d :: ds) w2) E) := fun d ρ => (hr.mono ρ).bind fun ds => Mono.pure (d :: ds)
  refine ⟨PA.imp (pa_cons ha.pe hr.pe hs) fun σ H Q h1 => ?_, fun ρ => (ha.mono ρ).bind fun d => hk d ρ⟩
  have P : EndF G (List D) := ⟨fun A F H ds w' => ∀ vs H' A' F', Stp A F H A' F' H' → G.Ok w' H' A' F' → Paired (RepO A' F' H') vs ds → Q vs H', fun s d w h vs H' A' F' s' k r => h vs H' A' F' (s.trans s') k r⟩
  refine runU ha.mono hk (P := ⟨fun A F H ds w' => ∀ vs H' A' F', Stp A F H A' F' H' → G.Ok w' H' A' F' → Paired (RepO A' F' H') vs ds → Q vs H', fun s d w h vs H' A' F' s' k r => h vs H' A' F' (s.trans s') k r⟩) h1 fun v d H1 ⟨A, F, ρ, w, E, k, r, x, rp, q⟩ => ?_
  refine ⟨A, F, ρ, w, E, k, r, x, hr.mono ρ w _ _ _ _ (fun ds w2 z vs H2 A2 F2 s k2 rp2 => ?_) (fun _ _ z => z) q⟩
  exact z (v :: vs) H2 A2 F2 s k2 (.cons (rp.step s k.af) rp2)
theorem line (n : Nat) (h : n ≤ LB) : n ≤ sizeLine := Nat.le_trans h (by rw [sizeLine_eq]; decide)
theorem lineLt (n : Nat) (h : n ≤ LB) : n < sizeLine := Nat.lt_of_le_of_lt h (by rw [sizeLine_eq]; decide)
theorem RepL.new {F : Foot} {H : Hp} {p : Addr} {o : HO} {vs : List V} {ds : List D} (h : RepL F H vs ds) (hp : H p = none) : RepL F (upd H p o) vs ds := h.mono fun a u e n => ⟨by rw [upd_ne (ne_of_none e hp)]; exact e, n⟩
theorem Rep.new {F : Foot} {H : Hp} {p : Addr} {o : HO} {v : V} {d : D} (h : Rep F H v d) (hp : H p = none) : Rep F (upd H p o) v d := h.mono fun a u e n => ⟨by rw [upd_ne (ne_of_none e hp)]; exact e, n⟩
def mTup (m : DEnv → M W (List D)) : DEnv → M W D := fun ρ w Q E => m ρ w (fun ds w1 => ds.length ≤ LB ∧ Q (.tup ds) w1) E
def mLst (m : DEnv → M W (List D)) : DEnv → M W D := fun ρ w Q E => m ρ w (fun ds w1 => ds.length ≤ LB ∧ Q (.lst ds) w1) E
theorem Mono.and {α : Type} {c : Prop} {m : M W α} (h : Mono m) : Mono (fun w Q E => c ∧ m w Q E) := fun w Q Q' E E' hq he ⟨c, q⟩ => ⟨c, h w _ _ _ _ hq he q⟩
theorem dtup {es : List Expr} {x1} {m : DEnv → M G.W (List D)} {pos : Pos} (h : DA G X Wx es m) : DE G X Wx (.Tuple es x1 pos) (mTup m) := by
  have hk : ∀ (ds : List D), Mono (fun (w : G.W) (Q : D → G.W → Prop) (E : Ex → G.W → Prop) => ds.length ≤ LB ∧ Q (.tup ds) w) := fun ds => Mono.and (Mono.pure _)
  refine ⟨PE.imp (pe_tup h.pe) fun σ H Q h1 => ?_, fun ρ => (h.mono ρ).bind hk⟩
  refine runA h.mono (fun d _ => hk d) (P := .e G Q) h1 fun vs ds H1 ⟨A, F, ρ, w, E, k, r, x, rp, hl, q⟩ => ⟨line _ (by rw [rp.length]; exact hl), fun p hp => ?_⟩
  exact q _ _ A F (.new hp) (k.new hp) (.tup upd_same (k.out hp) (by rw [rp.length]; exact hl) (rp.new hp))
theorem dlst {es : List Expr} {m : DEnv → M G.W (List D)} {pos : Pos} (h : DA G X Wx es m) : DE G X Wx (.List es pos) (mLst m) := by
  have hk : ∀ (ds : List D), Mono (fun (w : G.W) (Q : D → G.W → Prop) (E : Ex → G.W → Prop) => ds.length ≤ LB ∧ Q (.lst ds) w) := fun ds => Mono.and (Mono.pure _)
  refine ⟨PE.imp (pe_lst h.pe) fun σ H Q h1 => ?_, fun ρ => (h.mono ρ).bind hk⟩
  refine runA h.mono (fun d _ => hk d) (P := .e G Q) h1 fun vs ds H1 ⟨A, F, ρ, w, E, k, r, x, rp, hl, q⟩ => ⟨line _ (by rw [rp.length]; exact hl), fun p hp => ?_⟩
  exact q _ _ A F (.new hp) (k.new hp) (.lst upd_same (k.out hp) (by rw [rp.length]; exact hl) (rp.new hp))

/-! ### calls of defs -/
abbrev SF (W : Type) := List D → M W D
/-- the promise of a def over data -/
def liftSp (G : Wd) (sf : SF G.W) : Sp := fun vs H Q E => ∃ A F ds w Ed, G.Ok w H A F ∧ RepL F H vs ds ∧ (∀ e w' H' A' F', Stp A F H A' F' H' → G.Ok w' H' A' F' → Ed e w' → E (.ref e) none H') ∧ sf ds w (post G A F H Q) Ed
structure FnD (G : Wd) (P : Program) (wd : World) (K : PySem.W.Frag) (mg : Str → Option Value) (base : Heap) (k : Nat) (f : Addr) (fd : FuncData) (ps : List Str) (sf : SF G.W) : Prop where
  ok : FnG P wd K mg base k f fd ps (liftSp G sf)
  mono : ∀ ds, Mono (sf ds)
  kp : PySem.W.keepIn K (.ref f) = true
  bd : Binds K fd ps []
def mCall (sf : SF W) (m : DEnv → M W (List D)) : DEnv → M W D := fun ρ w Q E => m ρ w (fun ds w1 => sf ds w1 Q E) E
theorem dcall {k : Nat} {f : Addr} {fd : FuncData} {ps : List Str} {sf : SF G.W} {x : Str} {e : Expr} {es : List Expr} {m : DEnv → M G.W (List D)} {p pos : Pos} (T : FnD G X.prog X.w X.K X.mg X.base k f fd ps sf) (hr : RoomG k X.A) (tk : Takes X Wx) (hm : X.mg x = some (.ref f)) (hg : Gl X x)
    (ha : DA G X Wx (e :: es) m) (hdb : (x == ("__debug__" : Str)) = false := by decide) (he : starEach (e :: es) X.env = (false, eval e X.env) :: starEach es X.env := by rfl) (hpl : (backTo pos (starEach es X.env)).any (·.1) = false := by rfl) :
    DE G X Wx (.Call (.Name x p) (e :: es) [] pos) (mCall sf m) := by
  refine ⟨PE.imp (pe_g T.ok hr hg hm T.kp T.bd (fun σ => passAt tk σ) ha.pe hdb he hpl) fun σ H Q h1 => ?_, fun ρ => (ha.mono ρ).bind T.mono⟩
  exact runA ha.mono (fun d _ => T.mono d) (P := .e G Q) h1 fun vs ds H1 ⟨A, F, ρ, w, E, k, r, x, rp, q⟩ => ⟨A, F, ds, w, E, k, rp, x, q⟩
end
end DL

namespace DL
open PySem PySem.Spec PyProof.Rows L2
section
variable {G : Wd} {X : Cx} {Wx : WX} {W : Type}
/-! ### built-ins, methods, subscripts, slices: a rule with its meaning -/
abbrev FA (W : Type) := List D → M W D
structure OpC (G : Wd) (X : Cx) (f : Value) (m : FA G.W) : Prop where
  ex : ∃ r, CallR X f r ∧ ∀ xs vs w H A F Q E, G.Ok w H A F → Paired (RepW F H) vs xs → m xs w (post G A F H Q) E → r vs H Q
  mono : ∀ x, Mono (m x)
def mCB (f : FA W) (m : DEnv → M W (List D)) : DEnv → M W D := fun ρ w Q E => m ρ w (fun ds w1 => f ds w1 Q E) E
theorem runAu {m : DEnv → M G.W (List D)} {es : List Expr} (ha : DAu G X Wx es m) {f : FA G.W} (hf : ∀ d, Mono (f d)) {σ : St} {H : Hp} {Q : VK} {R : List V → Hp → Prop}
    (h : liftE G Wx (mCB f m) σ H Q) (go : ∀ vs ds H1 A F w E, G.Ok w H1 A F → Paired (RepO A F H1) vs ds → f ds w (post G A F H1 Q) E → R vs H1) :
    (fun (σ : St) (H : Hp) (Q : List V → Hp → Prop) => ∃ A F ρ w E, G.Ok w H A F ∧ EnvRep A F H σ ρ ∧ exOk G A F H σ Wx E ∧ m ρ w (fun ds w' => ∀ vs H' A' F', Stp A F H A' F' H' → G.Ok w' H' A' F' → Paired (RepO A' F' H') vs ds → Q vs H') E) σ H R := by
  obtain ⟨A, F, ρ, w, E, k1, r, x, q⟩ := h
  refine ⟨A, F, ρ, w, E, k1, r, x, ha.mono ρ w _ _ _ _ (fun d w1 z v H1 A1 F1 s k2 rp => ?_) (fun _ _ z => z) q⟩
  exact go v d H1 A1 F1 w1 E k2 rp (hf d w1 _ _ _ _ (post_trans s) (fun _ _ z => z) z)
theorem dcallB {id : String} {f : FA G.W} {x : Str} {e : Expr} {es : List Expr} {m : DEnv → M G.W (List D)} {p pos : Pos} (o : OpC G X (.builtin id) f) (hm : X.mg x = none) (hv : bootBuiltins x = some (.builtin id)) (hg : Gl X x) (ha : DAu G X Wx (e :: es) m)
    (hn : x ≠ "__name__" := by decide) (hdb : (x == ("__debug__" : Str)) = false := by decide) (he : starEach (e :: es) X.env = (false, eval e X.env) :: starEach es X.env := by rfl) (hpl : (backTo pos (starEach es X.env)).any (·.1) = false := by rfl) :
    DE G X Wx (.Call (.Name x p) (e :: es) [] pos) (mCB f m) := by
  obtain ⟨⟨r, ho, hs⟩, hm2⟩ := o
  exact ⟨PE.imp (pe_callB ho hg hm hv ha.pe hn hdb he hpl) fun σ H Q h1 => runAu ha hm2 h1 fun vs ds H1 A F w E k rp q => hs ds vs w H1 A F Q E k (Paired.mapR (fun _ _ => RepO.w) rp) q, fun ρ => (ha.mono ρ).bind hm2⟩
theorem dcallTy {id : String} {f : FA G.W} {x : Str} {e : Expr} {es : List Expr} {m : DEnv → M G.W (List D)} {p pos : Pos} (o : OpC G X (.type id) f) (hm : X.mg x = none) (hv : bootBuiltins x = some (.type id)) (hg : Gl X x) (ha : DAu G X Wx (e :: es) m)
    (hn : x ≠ "__name__" := by decide) (hdb : (x == ("__debug__" : Str)) = false := by decide) (he : starEach (e :: es) X.env = (false, eval e X.env) :: starEach es X.env := by rfl) (hpl : (backTo pos (starEach es X.env)).any (·.1) = false := by rfl) :
    DE G X Wx (.Call (.Name x p) (e :: es) [] pos) (mCB f m) := by
  obtain ⟨⟨r, ho, hs⟩, hm2⟩ := o
  exact ⟨PE.imp (pe_callTy ho hg hm hv ha.pe hn hdb he hpl) fun σ H Q h1 => runAu ha hm2 h1 fun vs ds H1 A F w E k rp q => hs ds vs w H1 A F Q E k (Paired.mapR (fun _ _ => RepO.w) rp) q, fun ρ => (ha.mono ρ).bind hm2⟩
/-- a method of a built-in type -/
structure OpM (G : Wd) (X : Cx) (T id : String) (f : D → FA G.W) : Prop where
  ex : ∃ r, MtR X id r ∧ ∀ x v xs vs w H A F Q E, G.Ok w H A F → RepW F H v x → Paired (RepW F H) vs xs → f x xs w (post G A F H Q) E → r v vs H Q
  ty : ∀ x v xs w H A F Q E, G.Ok w H A F → RepW F H v x → f x xs w Q E → tyV X.K T v H
  mono : ∀ x xs, Mono (f x xs)
/-- the receiver's kind is asked ahead of the arguments -/
def mBM (g : D → Bool) (f : D → FA W) (mo : DEnv → M W D) (m : DEnv → M W (List D)) : DEnv → M W D := fun ρ w Q E => mo ρ w (fun x w1 => g x = true ∧ m ρ w1 (fun ds w2 => f x ds w2 Q E) E) E
def isStrD : D → Bool | .str _ => true | _ => false
def isLstD : D → Bool | .lst _ => true | _ => false
theorem ty_str {K : PySem.W.Frag} {F : Foot} {H : Hp} {v : V} {x : D} (r : RepW F H v x) (g : isStrD x = true) : tyV K "str" v H := by
  cases x <;> simp [isStrD] at g
  rw [r.str.1]; exact rfl
theorem ty_lst {K : PySem.W.Frag} {F : Foot} {H : Hp} {v : V} {x : D} (r : RepW F H v x) (g : isLstD x = true) : tyV K "list" v H := by
  cases x <;> simp [isLstD] at g
  obtain ⟨a, xs, rfl, h, _⟩ := r.lst
  exact Or.inl ⟨rfl, _, SqL.of h⟩
structure OpMt (G : Wd) (X : Cx) (id : String) (f : D → FA G.W) : Prop where
  ex : ∃ r, MtR X id r ∧ ∀ x v xs vs w H A F Q E, G.Ok w H A F → RepW F H v x → Paired (RepW F H) vs xs → f x xs w (post G A F H Q) E → r v vs H Q
  mono : ∀ x xs, Mono (f x xs)
theorem dbm {T id : String} {name : Str} {g : D → Bool} {f : D → FA G.W} {o e : Expr} {es : List Expr} {mo : DEnv → M G.W D} {m : DEnv → M G.W (List D)} {apos cpos : Pos} (pa : PlainAttrs T) (slot : Slot T name id) (hty : typeOf (.builtin id) = pure (.type "method_descriptor"))
    (op : OpMt G X id f) (hT : ∀ {F : Foot} {H : Hp} {v : V} {x : D}, RepW F H v x → g x = true → tyV X.K T v H) (ho : DU G X Wx o mo) (ha : DAu G X Wx (e :: es) m)
    (hbase : attributeBase o name X.env (eval o X.env) = eval o X.env := by rfl)
    (hfew : ((backTo cpos (starEach (e :: es) X.env)).all (fun x => !x.1) && (backToKw cpos (keywordEach [] X.env)).all (fun x => x.1.isSome)
      && decide ((e :: es).length + ([] : List Keyword).length + (if ([] : List Keyword).isEmpty then 0 else 1) < 30)) = true := by rfl)
    (hline : (apos.endLine == cpos.line) = true := by rfl) (hs : starEach (e :: es) X.env = (false, eval e X.env) :: starEach es X.env := by rfl) (hplain : (backTo cpos (starEach es X.env)).any (·.1) = false := by rfl) :
    DE G X Wx (.Call (.Attribute o name apos) (e :: es) [] cpos) (mBM g f mo m) := by
  obtain ⟨⟨r, hr, hsd⟩, hm2⟩ := op
  have hk : ∀ (d : D) (ρ : DEnv), Mono (fun (w : G.W) (Q : D → G.W → Prop) (E : Ex → G.W → Prop) => g d = true ∧ m ρ w (fun ds w2 => f d ds w2 Q E) E) := fun d ρ => Mono.and ((ha.mono ρ).bind (hm2 d))
  refine ⟨PE.imp (pe_bm pa slot hty hr ho.pe ha.pe hbase hfew hline hs hplain) fun σ H Q h1 => ?_, fun ρ => (ho.mono ρ).bind fun d => hk d ρ⟩
  refine runU ho.mono hk (P := .e G Q) h1 fun v d H1 ⟨A, F, ρ, w, E, k, re, x, rp, hg, q⟩ => ⟨hT rp.w hg, ?_⟩
  refine ⟨A, F, ρ, w, E, k, re, x, ha.mono ρ w _ _ _ _ (fun ds w2 z vs H2 A2 F2 s k2 rp2 => ?_) (fun _ _ z => z) q⟩
  exact hsd d v ds vs w2 H2 A2 F2 Q E k2 (rp.step s k.af).w (Paired.mapR (fun _ _ => RepO.w) rp2) (hm2 d ds w2 _ _ _ _ (post_trans s) (fun _ _ z => z) z)
theorem dbm0 {T id : String} {name : Str} {g : D → Bool} {f : D → FA G.W} {o : Expr} {mo : DEnv → M G.W D} {apos cpos : Pos} (pa : PlainAttrs T) (slot : Slot T name id) (hty : typeOf (.builtin id) = pure (.type "method_descriptor"))
    (op : OpMt G X id f) (hT : ∀ {F : Foot} {H : Hp} {v : V} {x : D}, RepW F H v x → g x = true → tyV X.K T v H) (ho : DU G X Wx o mo)
    (hbase : attributeBase o name X.env (eval o X.env) = eval o X.env := by rfl) (hline : (apos.endLine == cpos.line) = true := by rfl) :
    DE G X Wx (.Call (.Attribute o name apos) [] [] cpos) (mBM g f mo mNil) := by
  obtain ⟨⟨r, hr, hsd⟩, hm2⟩ := op
  have hk : ∀ (d : D) (ρ : DEnv), Mono (fun (w : G.W) (Q : D → G.W → Prop) (E : Ex → G.W → Prop) => g d = true ∧ mNil ρ w (fun ds w2 => f d ds w2 Q E) E) := fun d ρ => Mono.and ((Mono.pure []).bind (hm2 d))
  refine ⟨PE.imp (pe_bm0 pa slot hty hr ho.pe hbase hline) fun σ H Q h1 => ?_, fun ρ => (ho.mono ρ).bind fun d => hk d ρ⟩
  exact runU ho.mono hk (P := .e G Q) h1 fun v d H1 ⟨A, F, ρ, w, E, k, re, x, rp, hg, q⟩ => ⟨hT rp.w hg, hsd d v [] [] w H1 A F Q E k rp.w .nil q⟩
/-- a[b] -/
structure OpIx (G : Wd) (X : Cx) (f : F2 G.W) : Prop where
  ex : ∃ r, IxR X r ∧ S2 G r f
  mono : ∀ x y, Mono (f x y)
theorem dix {a b : Expr} {ma mb : DEnv → M G.W D} {f : F2 G.W} {pos : Pos} (o : OpIx G X f) (ha : DU G X Wx a ma) (hb : DU G X Wx b mb) (hs : PlainIx b := by exact fun _ _ => rfl) : DE G X Wx (.Subscript a b pos) (mOp f ma mb) := by
  obtain ⟨⟨r, ho, hsd⟩, hm2⟩ := o
  refine ⟨PE.imp (pe_ix ho ha.pe hb.pe hs) fun σ H Q h => ?_, mOp_mono ha.mono hb.mono hm2⟩
  exact two ha hb hm2 (P := .e G Q) h fun x y v u w H A F E k _ r1 r2 q => hsd x y v u w H A F Q E k r1 r2 q
/-- a[lo:hi] -/
structure DO (G : Wd) (X : Cx) (Wx : WX) (e : Option Expr) (m : DEnv → M G.W (Option Int)) : Prop where
  pe : PO X e (fun σ H Q => ∃ A F ρ w E, G.Ok w H A F ∧ EnvRep A F H σ ρ ∧ exOk G A F H σ Wx E ∧ m ρ w (fun o w' => ∀ H' A' F', Stp A F H A' F' H' → G.Ok w' H' A' F' → Q o H') E)
  mono : ∀ ρ, Mono (m ρ)
theorem PO.imp {X : Cx} {e : Option Expr} {t t' : TO} (h : PO X e t) (i : ∀ σ H Q, t' σ H Q → t σ H Q) : PO X e t' := ⟨fun pins s σ H Q I hw => h.run pins s σ H Q I (i σ H Q hw)⟩
def mNoP : DEnv → M W (Option Int) := fun _ w Q _ => Q none w
def mPart (m : DEnv → M W D) : DEnv → M W (Option Int) := fun ρ w Q E => m ρ w (fun d w1 => ∃ i, d = .int i ∧ Q (some i) w1) E
theorem donone : DO G X Wx none mNoP := ⟨PO.imp po_none fun σ H Q ⟨A, F, ρ, w, E, k, r, x, q⟩ => q H A F .refl k, fun _ => Mono.pure none⟩
theorem dosome {e : Expr} {m : DEnv → M G.W D} (h : DE G X Wx e m) : DO G X Wx (some e) (mPart m) := by
  have hk : ∀ (d : D), Mono (fun (w : G.W) (Q : Option Int → G.W → Prop) (E : Ex → G.W → Prop) => ∃ i, d = .int i ∧ Q (some i) w) := fun d w Q Q' E E' hq he ⟨i, e, q⟩ => ⟨i, e, hq _ _ q⟩
  refine ⟨PO.imp (po_some h.pe) fun σ H Q h1 => ?_, fun ρ => (h.mono ρ).bind hk⟩
  refine runE h.mono (fun d _ => hk d) (P := ⟨fun A F H o w' => ∀ H' A' F', Stp A F H A' F' H' → G.Ok w' H' A' F' → Q o H', fun s d w h H' A' F' s' k => h H' A' F' (s.trans s') k⟩) h1 fun v d H1 ⟨A, F, ρ, w, E, k, re, x, rp, i, e, q⟩ => ?_
  subst e
  cases rp
  exact ⟨i, rfl, q H1 A F .refl k⟩
structure OpSl (G : Wd) (X : Cx) (f : D → Option Int → Option Int → M G.W D) : Prop where
  ex : ∃ r, SlR X r ∧ ∀ x v l u w H A F Q E, G.Ok w H A F → RepW F H v x → f x l u w (post G A F H Q) E → r v l u H Q
  mono : ∀ x l u, Mono (f x l u)
def mSl (f : D → Option Int → Option Int → M W D) (m : DEnv → M W D) (ml mu : DEnv → M W (Option Int)) : DEnv → M W D := fun ρ w Q E => m ρ w (fun x w1 => ml ρ w1 (fun l w2 => mu ρ w2 (fun u w3 => f x l u w3 Q E) E) E) E
theorem dsl {e : Expr} {lo hi : Option Expr} {pos p2 : Pos} {m : DEnv → M G.W D} {ml mu : DEnv → M G.W (Option Int)} {f : D → Option Int → Option Int → M G.W D} (o : OpSl G X f) (he : DU G X Wx e m) (hl : DO G X Wx lo ml) (hu : DO G X Wx hi mu) : DE G X Wx (.Subscript e (.Slice lo hi none p2) pos) (mSl f m ml mu) := by
  obtain ⟨⟨r, ho, hsd⟩, hm2⟩ := o
  refine ⟨PE.imp (pe_slice ho he.pe hl.pe hu.pe) fun σ H Q h => ?_, fun ρ => (he.mono ρ).bind fun x => (hl.mono ρ).bind fun l => (hu.mono ρ).bind fun u => hm2 x l u⟩
  refine runU he.mono (fun d ρ => (hl.mono ρ).bind fun l => (hu.mono ρ).bind fun u => hm2 d l u) (P := .e G Q) h fun v d H1 ⟨A, F, ρ, w, E, k, re, x, rp, q⟩ => ?_
  refine ⟨A, F, ρ, w, E, k, re, x, hl.mono ρ w _ _ _ _ (fun l w2 z H2 A2 F2 s k2 => ?_) (fun _ _ z => z) q⟩
  refine ⟨A2, F2, ρ, w2, E, k2, re.step s k.af, x.step s, hu.mono ρ w2 _ _ _ _ (fun u w3 z3 H3 A3 F3 s3 k3 => ?_) (fun _ _ z => z) z⟩
  exact hsd d v l u w3 H3 A3 F3 Q E k3 (rp.step (s.trans s3) k.af).w (hm2 d l u w3 _ _ _ _ (post_trans (s.trans s3)) (fun _ _ z => z) z3)

/-! ### statements -/
structure EndsM (W : Type) where
  nx : DEnv → W → Prop
  rt : D → W → Prop
  bk : DEnv → W → Prop := fun _ _ => False
  ct : DEnv → W → Prop := fun _ _ => False
  ex : Ex → DEnv → W → Prop := fun _ _ _ => False
structure EndsM.le (E E' : EndsM W) : Prop where
  nx : ∀ ρ w, E.nx ρ w → E'.nx ρ w
  rt : ∀ d w, E.rt d w → E'.rt d w
  bk : ∀ ρ w, E.bk ρ w → E'.bk ρ w
  ct : ∀ ρ w, E.ct ρ w → E'.ct ρ w
  ex : ∀ e ρ w, E.ex e ρ w → E'.ex e ρ w
abbrev MS (W : Type) := DEnv → W → EndsM W → Prop
def MonoS (m : MS W) : Prop := ∀ ρ w E E', EndsM.le E E' → m ρ w E → m ρ w E'
/-- the entry of the def -/
structure En where
  A : Foot
  F : Foot
  H : Hp
/-- what is kept in mind of shared data -/
structure Pin where
  P : Foot → Hp → Prop
  st : ∀ (F : Foot) (H : Hp) (F' : Foot) (H' : Hp), Keeps F H F' H' → P F H → P F' H'
def Pin.and (p q : Pin) : Pin := ⟨fun F H => p.P F H ∧ q.P F H, fun F H F' H' k h => ⟨p.st F H F' H' k h.1, q.st F H F' H' k h.2⟩⟩
def Pin.none : Pin := ⟨fun _ _ => True, fun _ _ _ _ _ _ => trivial⟩
/-- a state of the body, from its entry on -/
structure SC (G : Wd) (en : En) (ps : Pin) (σ : St) (ρ : DEnv) (w : G.W) (H : Hp) (A F : Foot) : Prop where
  ok : G.Ok w H A F
  env : EnvRep A F H σ ρ
  keep : ∀ a o, en.H a = some o → ¬ en.A a → H a = some o
  there : ∀ a, H a = none → en.H a = none
  fa : ∀ a, A a → en.A a ∨ en.H a = none
  ff : ∀ a, F a → en.F a ∨ en.H a = none
  am : ∀ a, en.A a → A a
  fm : ∀ a, en.F a → F a
  own : ∀ (i : Nat) (ds : List D) (a : Addr), ρ[i]? = some (some (.own ds)) → σ[i]? = some (some (.ref a)) → en.H a = none
  F0 : ∀ a, en.F a → en.H a ≠ none
  pin : ps.P F H
theorem SC.step {en : En} {ps : Pin} {σ : St} {ρ : DEnv} {w w' : G.W} {H H' : Hp} {A F A' F' : Foot} (c : SC G en ps σ ρ w H A F) (s : Stp A F H A' F' H') (k : G.Ok w' H' A' F') : SC G en ps σ ρ w' H' A' F' where
  ok := k
  env := c.env.step s c.ok.af
  keep := fun a o h n => s.keep a o (c.keep a o h n) fun z => (c.fa a z).elim n fun q => by rw [h] at q; cases q
  there := fun a h => c.there a (s.there a h)
  fa := fun a h => (s.fa a h).elim (c.fa a) fun q => .inr (c.there a q)
  ff := fun a h => (s.ff a h).elim (c.ff a) fun q => .inr (c.there a q)
  am := fun a h => s.am a (c.am a h)
  fm := fun a h => s.fm a (c.fm a h)
  own := c.own
  F0 := c.F0
  pin := ps.st _ _ _ _ (s.keeps c.ok.af) c.pin
structure Conn (G : Wd) (en : En) (ps : Pin) (Wx : WX) (E : EndsM G.W) (D : Ends) : Prop where
  nx : ∀ σ ρ w H A F, SC G en ps σ ρ w H A F → E.nx ρ w → D.nx σ H
  rt : ∀ d v w H A F σ ρ, SC G en ps σ ρ w H A F → Rep (fun a => en.F a ∨ A a) H v d → E.rt d w → D.rt v H
  bk : ∀ σ ρ w H A F, SC G en ps σ ρ w H A F → E.bk ρ w → D.bk σ H
  ct : ∀ σ ρ w H A F, SC G en ps σ ρ w H A F → E.ct ρ w → D.ct σ H
  ex : ∀ e σ ρ w H A F, SC G en ps σ ρ w H A F → E.ex e ρ w → Wx (.ref e) none σ H
def liftS (G : Wd) (en : En) (Wx : WX) (m : MS G.W) : TS := fun D σ H => ∃ ps A F ρ w E, SC G en ps σ ρ w H A F ∧ Conn G en ps Wx E D ∧ m ρ w E
structure DS (G : Wd) (en : En) (X : Cx) (Wx : WX) (st : Stmt) (m : MS G.W) : Prop where
  ps : PS X st (liftS G en Wx m)
  mono : MonoS m
structure DSs (G : Wd) (en : En) (X : Cx) (Wx : WX) (st : List Stmt) (m : MS G.W) : Prop where
  ps : PSs X st (liftS G en Wx m)
  mono : MonoS m
variable {en : En} {ps : Pin}
def sNext : MS W := fun ρ w E => E.nx ρ w
def sSeq (m m' : MS W) : MS W := fun ρ w E => m ρ w { E with nx := fun ρ' w' => m' ρ' w' E }
theorem EndsM.le_refl {E : EndsM W} : EndsM.le E E := ⟨fun _ _ h => h, fun _ _ h => h, fun _ _ h => h, fun _ _ h => h, fun _ _ _ h => h⟩
theorem sSeq_mono {m m' : MS W} (h : MonoS m) (h' : MonoS m') : MonoS (sSeq m m') := fun ρ w E E' l q => h ρ w { E with nx := fun ρ' w' => m' ρ' w' E } { E' with nx := fun ρ' w' => m' ρ' w' E' } ⟨fun ρ' w' z => h' ρ' w' E E' l z, l.rt, l.bk, l.ct, l.ex⟩ q
theorem dsnil : DSs G en X Wx [] sNext := ⟨PSs.imp pss_nil fun D σ H ⟨ps, A, F, ρ, w, E, c, l, q⟩ => l.nx _ _ _ _ _ _ c q, fun ρ w E E' l q => l.nx _ _ q⟩
theorem dscons {st : Stmt} {rest : List Stmt} {m m' : MS G.W} (h : DS G en X Wx st m) (h' : DSs G en X Wx rest m') : DSs G en X Wx (st :: rest) (sSeq m m') := by
  refine ⟨PSs.imp (pss_cons h.ps h'.ps) fun D σ H ⟨ps, A, F, ρ, w, E, c, l, q⟩ => ?_, sSeq_mono h.mono h'.mono⟩
  exact ⟨ps, A, F, ρ, w, { E with nx := fun ρ' w' => m' ρ' w' E }, c, ⟨fun σ' ρ' w' H' A' F' c' z => ⟨ps, A', F', ρ', w', E, c', l, z⟩, l.rt, l.bk, l.ct, l.ex⟩, q⟩
theorem dsone {st : Stmt} {m : MS G.W} (h : DS G en X Wx st m) : DSs G en X Wx [st] m := ⟨pss_one h.ps, h.mono⟩
theorem dspass {pos} : DS G en X Wx (.Pass pos) sNext := ⟨PS.imp ps_pass fun D σ H ⟨ps, A, F, ρ, w, E, c, l, q⟩ => l.nx _ _ _ _ _ _ c q, fun ρ w E E' l q => l.nx _ _ q⟩
def sBreak : MS W := fun ρ w E => E.bk ρ w
def sCont : MS W := fun ρ w E => E.ct ρ w
theorem dsbreak {pos} : DS G en X Wx (.Break pos) sBreak := ⟨PS.imp ps_break fun D σ H ⟨ps, A, F, ρ, w, E, c, l, q⟩ => l.bk _ _ _ _ _ _ c q, fun ρ w E E' l q => l.bk _ _ q⟩
theorem dscont {pos} : DS G en X Wx (.Continue pos) sCont := ⟨PS.imp ps_continue fun D σ H ⟨ps, A, F, ρ, w, E, c, l, q⟩ => l.ct _ _ _ _ _ _ c q, fun ρ w E E' l q => l.ct _ _ q⟩
theorem Conn.exo {E : EndsM G.W} {D : Ends} {σ : St} {ρ : DEnv} {w : G.W} {H : Hp} {A F : Foot} (l : Conn G en ps Wx E D) (c : SC G en ps σ ρ w H A F) : exOk G A F H σ Wx (fun e w' => E.ex e ρ w') := fun e w' H' A' F' s k q => l.ex e σ ρ w' H' A' F' (c.step s k) q
/-- running an expression at a state of the body -/
theorem atE {m : DEnv → M G.W D} (hm : ∀ ρ, Mono (m ρ)) {E : EndsM G.W} {De : Ends} {σ : St} {ρ : DEnv} {w : G.W} {H : Hp} {A F : Foot} {k : D → G.W → Prop} {R : V → Hp → Prop} (c : SC G en ps σ ρ w H A F) (l : Conn G en ps Wx E De)
    (q : m ρ w k (fun e w' => E.ex e ρ w')) (go : ∀ d v w' H' A' F', SC G en ps σ ρ w' H' A' F' → Rep F' H' v d → k d w' → R v H') : liftE G Wx m σ H R :=
  ⟨A, F, ρ, w, _, c.ok, c.env, l.exo c, hm ρ w _ _ _ _ (fun d w' z v H' A' F' s k' rp => go d v w' H' A' F' (c.step s k') rp z) (fun _ _ z => z) q⟩
theorem atU {m : DEnv → M G.W D} (hm : ∀ ρ, Mono (m ρ)) {E : EndsM G.W} {De : Ends} {σ : St} {ρ : DEnv} {w : G.W} {H : Hp} {A F : Foot} {k : D → G.W → Prop} {R : V → Hp → Prop} (c : SC G en ps σ ρ w H A F) (l : Conn G en ps Wx E De)
    (q : m ρ w k (fun e w' => E.ex e ρ w')) (go : ∀ d v w' H' A' F', SC G en ps σ ρ w' H' A' F' → RepO A' F' H' v d → k d w' → R v H') : liftU G Wx m σ H R :=
  ⟨A, F, ρ, w, _, c.ok, c.env, l.exo c, hm ρ w _ _ _ _ (fun d w' z v H' A' F' s k' rp => go d v w' H' A' F' (c.step s k') rp z) (fun _ _ z => z) q⟩
theorem atT {m : DEnv → M G.W Bool} (hm : ∀ ρ, Mono (m ρ)) {E : EndsM G.W} {De : Ends} {σ : St} {ρ : DEnv} {w : G.W} {H : Hp} {A F : Foot} {k : Bool → G.W → Prop} {R : Bool → Hp → Prop} (c : SC G en ps σ ρ w H A F) (l : Conn G en ps Wx E De)
    (q : m ρ w k (fun e w' => E.ex e ρ w')) (go : ∀ b w' H' A' F', SC G en ps σ ρ w' H' A' F' → k b w' → R b H') : liftT G Wx m σ H R :=
  ⟨A, F, ρ, w, _, c.ok, c.env, l.exo c, hm ρ w _ _ _ _ (fun d w' z H' A' F' s k' => go d w' H' A' F' (c.step s k') z) (fun _ _ z => z) q⟩
/-- e; -/
def sExpr (m : DEnv → M W D) : MS W := fun ρ w E => m ρ w (fun _ w' => E.nx ρ w') (fun e w' => E.ex e ρ w')
theorem dsexpr {e : Expr} {m : DEnv → M G.W D} {pos : Pos} (he : DE G X Wx e m) (hs : swapsWith e none pos.line X.env = pure false := by rfl) : DS G en X Wx (.Expr e pos) (sExpr m) :=
  ⟨PS.imp (ps_expr he.pe hs) fun D σ H ⟨ps, A, F, ρ, w, E, c, l, q⟩ => atE he.mono c l q fun d v w' H' A' F' c' rp z => l.nx _ _ _ _ _ _ c' z,
    fun ρ w E E' l q => he.mono ρ w _ _ _ _ (fun _ w' z => l.nx _ _ z) (fun _ _ z => l.ex _ _ _ z) q⟩
def sRet (m : DEnv → M W D) : MS W := fun ρ w E => m ρ w (fun d w' => E.rt d w') (fun e w' => E.ex e ρ w')
theorem Rep.out {en : En} {ps : Pin} {σ : St} {ρ : DEnv} {w : G.W} {H : Hp} {A F : Foot} {v : V} {d : D} (c : SC G en ps σ ρ w H A F) (r : Rep F H v d) : Rep (fun a => en.F a ∨ A a) H v d := r.mono fun a o h n => ⟨h, fun z => z.elim (fun z => n (c.fm a z)) fun z => n (c.ok.af a z)⟩
theorem dsret {e : Expr} {m : DEnv → M G.W D} {pos : Pos} (he : DE G X Wx e m) : DS G en X Wx (.Return (some e) pos) (sRet m) :=
  ⟨PS.imp (ps_ret he.pe) fun D σ H ⟨ps, A, F, ρ, w, E, c, l, q⟩ => atE he.mono c l q fun d v w' H' A' F' c' rp z => l.rt d v w' H' A' F' σ ρ c' (Rep.out c' rp) z,
    fun ρ w E E' l q => he.mono ρ w _ _ _ _ (fun _ w' z => l.rt _ _ z) (fun _ _ z => l.ex _ _ _ z) q⟩
/-- return of an owned list -/
def sRetO (i : Nat) : MS W := fun ρ w E => ∃ ds, ρ[i]? = some (some (.own ds)) ∧ E.rt (.lst ds) w
theorem dsreto (i : Nat) {x : Str} {p pos : Pos} (hN : X.N[i]? = some x := by rfl) (hv : Vis X.env.scope x := by first | exact Or.inl rfl | exact Or.inr (Or.inl rfl) | exact Or.inr (Or.inr rfl)) (hd : (x == ("__debug__" : Str)) = false := by decide)
    (hcd : (x == ("__classdict__" : Str)) = false := by decide) : DS G en X Wx (.Return (some (.Name x p)) pos) (sRetO i) := by
  refine ⟨PS.imp (ps_ret (pv i hN hv hd hcd)) fun D σ H ⟨ps, A, F, ρ, w, E, c, l, ds, e, q⟩ => ?_, fun ρ w E E' l ⟨ds, e, q⟩ => ⟨ds, e, l.rt _ _ q⟩⟩
  obtain ⟨a, xs, e1, e2, e3, e4, e5, e6⟩ := c.env.own i ds e
  have ho := c.own i ds a e e1
  refine ⟨_, e1, l.rt (.lst ds) _ w H A F σ ρ c (.lst e2 ?_ e5 (e6.mono fun a o h n => ⟨h, fun z => z.elim (fun z => n (c.fm a z)) fun z => n (c.ok.af a z)⟩)) q⟩
  intro z
  rcases z with z | z
  · exact c.F0 a z ho
  · exact e4 z
end
end DL

namespace DL
open PySem PySem.Spec PyProof.Rows L2
section
variable {G : Wd} {X : Cx} {Wx : WX} {W : Type} {en : En} {ps : Pin}
theorem getset {α : Type} {l : List α} {i j : Nat} {a b : α} (h : (l.set i a)[j]? = some b) : (i = j ∧ a = b) ∨ (i ≠ j ∧ l[j]? = some b) := by
  by_cases e : i = j
  · subst e
    have hl : i < (l.set i a).length := (List.getElem?_eq_some_iff.mp h).1
    rw [List.length_set] at hl
    rw [List.getElem?_set_self hl] at h
    exact .inl ⟨rfl, Option.some.inj h⟩
  · rw [List.getElem?_set_ne e] at h
    exact .inr ⟨e, h⟩
theorem EnvRep.set_val {A F : Foot} {H : Hp} {σ : St} {ρ : DEnv} {v : V} {d : D} (r : EnvRep A F H σ ρ) (h : Rep F H v d) (i : Nat) : EnvRep A F H (σ.set i (some v)) (ρ.set i (some (.val d))) where
  len := by rw [List.length_set, List.length_set]; exact r.len
  val := fun j d' e => by
    rcases getset e with ⟨rfl, e1⟩ | ⟨hne, e1⟩
    · cases e1
      refine ⟨v, List.getElem?_set_self ?_, h⟩
      have := (List.getElem?_eq_some_iff.mp e).1
      rw [List.length_set] at this
      rw [r.len]; exact this
    · rw [List.getElem?_set_ne hne]; exact r.val j d' e1
  own := fun j ds e => by
    rcases getset e with ⟨rfl, e1⟩ | ⟨hne, e1⟩
    · cases e1
    · rw [List.getElem?_set_ne hne]; exact r.own j ds e1
  inj := fun j k ds es a e1 e2 e3 e4 => by
    rcases getset e1 with ⟨rfl, z⟩ | ⟨n1, z1⟩
    · cases z
    rcases getset e2 with ⟨rfl, z⟩ | ⟨n2, z2⟩
    · cases z
    rw [List.getElem?_set_ne n1] at e3
    rw [List.getElem?_set_ne n2] at e4
    exact r.inj j k ds es a z1 z2 e3 e4
/-- the owned lists are those that were -/
def OwnSub (σ : St) (ρ : DEnv) (σ' : St) (ρ' : DEnv) : Prop := ∀ (i : Nat) (ds : List D) (a : Addr), ρ'[i]? = some (some (.own ds)) → σ'[i]? = some (some (.ref a)) → ρ[i]? = some (some (.own ds)) ∧ σ[i]? = some (some (.ref a))
theorem OwnSub.set (σ : St) (ρ : DEnv) (i : Nat) (v : V) (d : D) : OwnSub σ ρ (σ.set i (some v)) (ρ.set i (some (.val d))) := fun j ds a e1 e2 => by
  rcases getset e1 with ⟨rfl, z⟩ | ⟨n1, z1⟩
  · cases z
  rw [List.getElem?_set_ne n1] at e2
  exact ⟨z1, e2⟩
theorem OwnSub.trans {σ σ1 σ2 : St} {ρ ρ1 ρ2 : DEnv} (a : OwnSub σ ρ σ1 ρ1) (b : OwnSub σ1 ρ1 σ2 ρ2) : OwnSub σ ρ σ2 ρ2 := fun i ds x e1 e2 => let ⟨h1, h2⟩ := b i ds x e1 e2; a i ds x h1 h2
theorem OwnSub.refl {σ : St} {ρ : DEnv} : OwnSub σ ρ σ ρ := fun _ _ _ a b => ⟨a, b⟩
theorem SC.env' {σ σ' : St} {ρ ρ' : DEnv} {w : G.W} {H : Hp} {A F : Foot} (c : SC G en ps σ ρ w H A F) (r : EnvRep A F H σ' ρ') (o : OwnSub σ ρ σ' ρ') : SC G en ps σ' ρ' w H A F :=
  ⟨c.ok, r, c.keep, c.there, c.fa, c.ff, c.am, c.fm, fun i ds a e1 e2 => let ⟨h1, h2⟩ := o i ds a e1 e2; c.own i ds a h1 h2, c.F0, c.pin⟩
theorem SC.set_val {σ : St} {ρ : DEnv} {w : G.W} {H : Hp} {A F : Foot} {v : V} {d : D} (c : SC G en ps σ ρ w H A F) (h : Rep F H v d) (i : Nat) : SC G en ps (σ.set i (some v)) (ρ.set i (some (.val d))) w H A F := c.env' (c.env.set_val h i) (.set σ ρ i v d)

/-! ### x = e -/
def sSet (i : Nat) (m : DEnv → M W D) : MS W := fun ρ w E => m ρ w (fun d w' => E.nx (ρ.set i (some (.val d))) w') (fun e w' => E.ex e ρ w')
theorem sSet_mono {i : Nat} {m : DEnv → M W D} (h : ∀ ρ, Mono (m ρ)) : MonoS (sSet i m) := fun ρ w E E' l q => h ρ w _ _ _ _ (fun _ _ z => l.nx _ _ z) (fun _ _ z => l.ex _ _ _ z) q
theorem dsset (i : Nat) {x : Str} {e : Expr} {m : DEnv → M G.W D} {pos pos' : Pos} (nd : X.N.Nodup) (he : DE G X Wx e m) (hi : X.N[i]? = some x := by rfl) (hx : Loc X.env.scope x := by first | exact Or.inl rfl | exact Or.inr rfl)
    (hs : swapsWith e (some (.Name x pos')) pos.line X.env = pure false := by rfl) (hf : X.fn x = true ∨ X.env.scope.names.lookup x = some .local := by first | exact .inl rfl | exact .inr rfl) : DS G en X Wx (.Assign [.Name x pos'] e pos) (sSet i m) :=
  ⟨PS.imp (ps_set nd hi hx he.pe hs hf) fun D σ H ⟨ps, A, F, ρ, w, E, c, l, q⟩ => atE he.mono c l q fun d v w' H' A' F' c' rp z => l.nx _ _ _ _ _ _ (c'.set_val rp i) z, sSet_mono he.mono⟩

/-! ### targets -/
abbrev BG := D → DEnv → (DEnv → Prop) → Prop
structure GRel (g : TG) (b : BG) : Prop where
  go : ∀ (A F : Foot) (H : Hp) (σ : St) (ρ : DEnv) (v : V) (d : D) (R : DEnv → Prop), EnvRep A F H σ ρ → Rep F H v d → b d ρ R → ∀ Q : St → Hp → Prop, (∀ σ' ρ', EnvRep A F H σ' ρ' → OwnSub σ ρ σ' ρ' → R ρ' → Q σ' H) → g v σ H Q
  mono : ∀ d ρ R R', (∀ ρ, R ρ → R' ρ) → b d ρ R → b d ρ R'
def bName (i : Nat) : BG := fun d ρ R => R (ρ.set i (some (.val d)))
theorem grel_name (i : Nat) : GRel (gName i) (bName i) := ⟨fun A F H σ ρ v d R r rp q Q k => k _ _ (r.set_val rp i) (.set σ ρ i v d) q, fun d ρ R R' h q => h _ q⟩
abbrev BGs := List D → DEnv → (DEnv → Prop) → Prop
structure GsRel (g : TGs) (b : BGs) : Prop where
  go : ∀ (A F : Foot) (H : Hp) (σ : St) (ρ : DEnv) (vs : List V) (ds : List D) (R : DEnv → Prop), EnvRep A F H σ ρ → RepL F H vs ds → b ds ρ R → ∀ Q : St → Hp → Prop, (∀ σ' ρ', EnvRep A F H σ' ρ' → OwnSub σ ρ σ' ρ' → R ρ' → Q σ' H) → g vs σ H Q
  mono : ∀ d ρ R R', (∀ ρ, R ρ → R' ρ) → b d ρ R → b d ρ R'
def bNil : BGs := fun ds ρ R => ds = [] ∧ R ρ
def bCons (b : BG) (bs : BGs) : BGs := fun ds ρ R => ∃ d r, ds = d :: r ∧ b d ρ fun ρ' => bs r ρ' R
theorem gsrel_nil : GsRel gNil bNil := ⟨fun A F H σ ρ vs ds R r rp ⟨e, q⟩ Q k => by subst e; cases rp; exact ⟨rfl, k _ _ r .refl q⟩, fun d ρ R R' h ⟨e, q⟩ => ⟨e, h _ q⟩⟩
theorem gsrel_cons {g : TG} {b : BG} {gs : TGs} {bs : BGs} (h : GRel g b) (h' : GsRel gs bs) : GsRel (gCons g gs) (bCons b bs) := ⟨fun A F H σ ρ vs ds R r rp ⟨d, dr, e, q⟩ Q k => by
    subst e
    cases rp with
    | cons rp rr => exact ⟨_, _, rfl, h.go A F H σ ρ _ d _ r rp q _ fun σ' ρ' r' o q' => h'.go A F H σ' ρ' _ dr R r' rr q' Q fun σ2 ρ2 r2 o2 q2 => k σ2 ρ2 r2 (o.trans o2) q2⟩,
  fun d ρ R R' hi ⟨x, y, e, q⟩ => ⟨x, y, e, h.mono _ _ _ _ (fun ρ' z => h'.mono _ _ _ _ hi z) q⟩⟩
def bTup (n : Nat) (bs : BGs) : BG := fun d ρ R => ∃ ds, d = .tup ds ∧ ds.length = n ∧ bs ds ρ R
theorem grel_tup {K : PySem.W.Frag} {n : Nat} {gs : TGs} {bs : BGs} (h : GsRel gs bs) : GRel (gTup K n gs) (bTup n bs) := ⟨fun A F H σ ρ v d R r rp ⟨ds, e, hl, q⟩ Q k => by
    subst e
    cases rp with
    | tup h1 _ _ rr => exact ⟨_, _, rfl, SqT.of h1, by rw [rr.length]; exact hl, h.go A F H σ ρ _ ds R r rr q Q k⟩,
  fun d ρ R R' hi ⟨x, e, hl, q⟩ => ⟨x, e, hl, h.mono _ _ _ _ hi q⟩⟩
/-- a, b = e -/
def sAsg (b : BG) (m : DEnv → M W D) : MS W := fun ρ w E => m ρ w (fun d w' => b d ρ fun ρ' => E.nx ρ' w') (fun e w' => E.ex e ρ w')
theorem dsasg {tg e : Expr} {g : TG} {b : BG} {m : DEnv → M G.W D} {pos : Pos} (he : DE G X Wx e m) (hg : PG X tg g) (r : GRel g b) (hs : swapsWithSole [tg] e pos.line X.env = pure false := by rfl) (hw : swappedStores [tg] e X.env = pure none := by rfl)
    (h1 : (assignEach [tg] X.env).map (·.2) = [assign tg X.env] := by rfl) : DS G en X Wx (.Assign [tg] e pos) (sAsg b m) :=
  ⟨PS.imp (ps_asg he.pe hg hs hw h1) fun D σ H ⟨ps, A, F, ρ, w, E, c, l, q⟩ => atE he.mono c l q fun d v w' H' A' F' c' rp z => r.go A' F' H' σ ρ v d _ c'.env rp z _ fun σ2 ρ2 r2 o2 q2 => l.nx _ _ _ _ _ _ (c'.env' r2 o2) q2,
    fun ρ w E E' l q => he.mono ρ w _ _ _ _ (fun d w' z => r.mono d ρ _ _ (fun ρ' z => l.nx _ _ z) z) (fun _ _ z => l.ex _ _ _ z) q⟩

/-! ### if -/
def sIf (m : DEnv → M W Bool) (a b : MS W) : MS W := fun ρ w E => m ρ w (fun c w' => if c = true then a ρ w' E else b ρ w' E) (fun e w' => E.ex e ρ w')
theorem dsif {c : Expr} {p q : List Stmt} {m : DEnv → M G.W Bool} {a b : MS G.W} {pos : Pos} (hc : DT G X Wx c m) (ha : DSs G en X Wx p a) (hb : DSs G en X Wx q b) : DS G en X Wx (.If c p q pos) (sIf m a b) := by
  refine ⟨PS.imp (ps_if hc.pe ha.ps hb.ps) fun D σ H ⟨ps, A, F, ρ, w, E, c, l, q⟩ => atT hc.mono c l q fun b w' H' A' F' c' z => ?_, fun ρ w E E' l q => hc.mono ρ w _ _ _ _ (fun b w' z => ?_) (fun _ _ z => l.ex _ _ _ z) q⟩
  · cases b with
    | true => exact ⟨ps, A', F', ρ, w', E, c', l, z⟩
    | false => exact ⟨ps, A', F', ρ, w', E, c', l, z⟩
  · cases b with
    | true => exact ha.mono _ _ _ _ l z
    | false => exact hb.mono _ _ _ _ l z

/-! ### for -/
def turnE (E : EndsM W) (n : DEnv → W → Prop) : EndsM W := { nx := n, ct := n, bk := E.nx, rt := E.rt, ex := E.ex }
theorem turnE_le {E E' : EndsM W} (l : EndsM.le E E') {n n' : DEnv → W → Prop} (h : ∀ ρ w, n ρ w → n' ρ w) : EndsM.le (turnE E n) (turnE E' n') := ⟨h, l.rt, l.nx, h, l.ex⟩
/-- the turns over a list -/
def loopS (b : BG) (mb : MS W) : List D → DEnv → W → EndsM W → Prop
  | [], ρ, w, E => E.nx ρ w
  | d :: ds, ρ, w, E => b d ρ fun ρ' => mb ρ' w (turnE E fun ρ2 w2 => loopS b mb ds ρ2 w2 E)
theorem loopS_mono {b : BG} {g : TG} {mb : MS W} (r : GRel g b) (h : MonoS mb) : ∀ (ds : List D) ρ w E E', EndsM.le E E' → loopS b mb ds ρ w E → loopS b mb ds ρ w E'
  | [], ρ, w, E, E', l, q => l.nx _ _ q
  | d :: ds, ρ, w, E, E', l, q => r.mono d ρ _ _ (fun ρ' z => h ρ' w _ _ (turnE_le l fun ρ2 w2 => loopS_mono r h ds ρ2 w2 E E' l) z) q
theorem SC.pins {ps' : Pin} {σ : St} {ρ : DEnv} {w : G.W} {H : Hp} {A F : Foot} (c : SC G en ps σ ρ w H A F) (h : ps.P F H → ps'.P F H) : SC G en ps' σ ρ w H A F :=
  ⟨c.ok, c.env, c.keep, c.there, c.fa, c.ff, c.am, c.fm, c.own, c.F0, h c.pin⟩
theorem Conn.turn {ps' : Pin} {E : EndsM G.W} {De : Ends} (l : Conn G en ps Wx E De) (hp : ∀ F H, ps'.P F H → ps.P F H) (n : DEnv → G.W → Prop) (N : St → Hp → Prop) (h : ∀ σ ρ w H A F, SC G en ps' σ ρ w H A F → n ρ w → N σ H) :
    Conn G en ps' Wx (turnE E n) { De with nx := N, ct := N, bk := De.nx } :=
  ⟨h, fun d v w H A F σ ρ c => l.rt d v w H A F σ ρ (c.pins (hp F H)), fun σ ρ w H A F c => l.nx σ ρ w H A F (c.pins (hp F H)), h, fun e σ ρ w H A F c => l.ex e σ ρ w H A F (c.pins (hp F H))⟩
def pinL (a : Addr) (xs : List V) (ds : List D) : Pin := ⟨fun F H => H a = some (.lst xs) ∧ ¬ F a ∧ RepL F H xs ds, fun F H F' H' k h => ⟨(k a _ h.1 h.2.1).1, (k a _ h.1 h.2.1).2, h.2.2.mono k⟩⟩
def pinT (a : Addr) (xs : List V) (ds : List D) : Pin := ⟨fun F H => H a = some (.tup xs) ∧ ¬ F a ∧ RepL F H xs ds, fun F H F' H' k h => ⟨(k a _ h.1 h.2.1).1, (k a _ h.1 h.2.1).2, h.2.2.mono k⟩⟩
def sForL (b : BG) (m : DEnv → M W D) (mb : MS W) : MS W := fun ρ w E => m ρ w (fun d w' => ∃ ds, d = .lst ds ∧ loopS b mb ds ρ w' E) (fun e w' => E.ex e ρ w')
def sForT (b : BG) (m : DEnv → M W D) (mb : MS W) : MS W := fun ρ w E => m ρ w (fun d w' => ∃ ds, d = .tup ds ∧ loopS b mb ds ρ w' E) (fun e w' => E.ex e ρ w')
theorem RepL.at {F : Foot} {H : Hp} : ∀ {vs : List V} {ds : List D} {i : Nat} {v : V}, RepL F H vs ds → vs[i]? = some v → ∃ d, ds[i]? = some d ∧ Rep F H v d
  | _, _, _, _, .nil, e => by simp at e
  | _, _, 0, _, .cons h _, e => by simp at e; subst e; exact ⟨_, rfl, h⟩
  | _, _, i + 1, v, .cons _ t, e => by
    obtain ⟨u, h1, h2⟩ := RepL.at (i := i) (v := v) t (by simpa using e)
    exact ⟨u, by simpa using h1, h2⟩
theorem drop_cons {α : Type} {l : List α} {i : Nat} {a : α} (h : l[i]? = some a) : l.drop i = a :: l.drop (i + 1) := by
  obtain ⟨hl, e⟩ := List.getElem?_eq_some_iff.mp h
  rw [List.drop_eq_getElem_cons hl, e]
theorem dsforT {tg l : Expr} {body : List Stmt} {g : TG} {b : BG} {m : DEnv → M G.W D} {mb : MS G.W} {pos : Pos} (hp : PassesOwn (model X.prog X.w) X.A X.env X.xe) (hl : DE G X Wx l m) (hg : PG X tg g) (r : GRel g b) (hb : DSs G en X Wx body mb) (hc : X.calm = true := by rfl)
    (hs : ∀ x, foldedSetIterable l X.env x = pure x := by intro _; rfl) : DS G en X Wx (.For tg l body [] pos) (sForT b m mb) := by
  refine ⟨PS.imp (ps_for hp hc (pi_tup hl.pe) hg hb.ps hs) fun De σ H ⟨ps, A, F, ρ, w, E, c, lk, q⟩ => atE hl.mono c lk q fun d v w' H' A' F' c' rp ⟨ds, e, z⟩ => ?_,
    fun ρ w E E' l q => hl.mono ρ w _ _ _ _ (fun d w' ⟨ds, e, z⟩ => ⟨ds, e, loopS_mono r hb.mono ds _ _ _ _ l z⟩) (fun _ _ z => l.ex _ _ _ z) q⟩
  subst e
  cases rp with
  | @tup a xs _ h1 n1 l1 rr =>
    refine ⟨a, rfl, ⟨xs, SqT.of h1⟩, for_tup (K := X.K) (a := a) (xs := xs) (fun i σ2 H2 => ∃ A2 F2 ρ2 w2, SC G en ((pinT a xs ds).and ps) σ2 ρ2 w2 H2 A2 F2 ∧ loopS b mb (ds.drop i) ρ2 w2 E) ?_ ?_ ?_ ?_⟩
    · exact ⟨A', F', ρ, w', c'.pins fun z => ⟨⟨h1, n1, rr⟩, z⟩, z⟩
    · rintro i σ2 H2 _ ⟨A2, F2, ρ2, w2, c2, _⟩; exact SqT.of c2.pin.1.1
    · rintro i x σ2 H2 hx ⟨A2, F2, ρ2, w2, c2, z2⟩
      obtain ⟨d, hd, rd⟩ := c2.pin.1.2.2.at hx
      rw [drop_cons hd] at z2
      refine r.go A2 F2 H2 σ2 ρ2 x d _ c2.env rd z2 _ fun σ3 ρ3 r3 o3 q3 => ?_
      exact ⟨_, A2, F2, ρ3, w2, _, c2.env' r3 o3, lk.turn (ps' := (pinT a xs ds).and ps) (fun _ _ z => z.2) _ _ fun σ4 ρ4 w4 H4 A4 F4 c4 z4 => ⟨A4, F4, ρ4, w4, c4, z4⟩, q3⟩
    · rintro σ2 H2 ⟨A2, F2, ρ2, w2, c2, z2⟩
      rw [List.drop_eq_nil_of_le (by rw [rr.length]; exact Nat.le_refl _)] at z2
      exact lk.nx _ _ _ _ _ _ (c2.pins fun z => z.2) z2
theorem dsforL {tg l : Expr} {body : List Stmt} {g : TG} {b : BG} {m : DEnv → M G.W D} {mb : MS G.W} {pos : Pos} (hp : PassesOwn (model X.prog X.w) X.A X.env X.xe) (hl : DE G X Wx l m) (hg : PG X tg g) (r : GRel g b) (hb : DSs G en X Wx body mb) (hc : X.calm = true := by rfl)
    (hs : ∀ x, foldedSetIterable l X.env x = pure x := by intro _; rfl) : DS G en X Wx (.For tg l body [] pos) (sForL b m mb) := by
  refine ⟨PS.imp (ps_for hp hc (pi_list hl.pe) hg hb.ps hs) fun De σ H ⟨ps, A, F, ρ, w, E, c, lk, q⟩ => atE hl.mono c lk q fun d v w' H' A' F' c' rp ⟨ds, e, z⟩ => ?_,
    fun ρ w E E' l q => hl.mono ρ w _ _ _ _ (fun d w' ⟨ds, e, z⟩ => ⟨ds, e, loopS_mono r hb.mono ds _ _ _ _ l z⟩) (fun _ _ z => l.ex _ _ _ z) q⟩
  subst e
  cases rp with
  | @lst a xs _ h1 n1 l1 rr =>
    refine ⟨a, rfl, ⟨xs, SqL.of h1⟩, for_list (K := X.K) (a := a) (xs := xs) (fun i σ2 H2 => ∃ A2 F2 ρ2 w2, SC G en ((pinL a xs ds).and ps) σ2 ρ2 w2 H2 A2 F2 ∧ loopS b mb (ds.drop i) ρ2 w2 E) ?_ ?_ ?_ ?_⟩
    · exact ⟨A', F', ρ, w', c'.pins fun z => ⟨⟨h1, n1, rr⟩, z⟩, z⟩
    · rintro i σ2 H2 _ ⟨A2, F2, ρ2, w2, c2, _⟩; exact SqL.of c2.pin.1.1
    · rintro i x σ2 H2 hx ⟨A2, F2, ρ2, w2, c2, z2⟩
      obtain ⟨d, hd, rd⟩ := c2.pin.1.2.2.at hx
      rw [drop_cons hd] at z2
      refine r.go A2 F2 H2 σ2 ρ2 x d _ c2.env rd z2 _ fun σ3 ρ3 r3 o3 q3 => ?_
      exact ⟨_, A2, F2, ρ3, w2, _, c2.env' r3 o3, lk.turn (ps' := (pinL a xs ds).and ps) (fun _ _ z => z.2) _ _ fun σ4 ρ4 w4 H4 A4 F4 c4 z4 => ⟨A4, F4, ρ4, w4, c4, z4⟩, q3⟩
    · rintro σ2 H2 ⟨A2, F2, ρ2, w2, c2, z2⟩
      rw [List.drop_eq_nil_of_le (by rw [rr.length]; exact Nat.le_refl _)] at z2
      exact lk.nx _ _ _ _ _ _ (c2.pins fun z => z.2) z2
/-- for .. in range(..): n turns from lo -/
def loopR (b : BG) (mb : MS W) (lo : Int) : Nat → Nat → DEnv → W → EndsM W → Prop
  | 0, _, ρ, w, E => E.nx ρ w
  | n + 1, i, ρ, w, E => b (.int (lo + i)) ρ fun ρ' => mb ρ' w (turnE E fun ρ2 w2 => loopR b mb lo n (i + 1) ρ2 w2 E)
theorem loopR_mono {b : BG} {g : TG} {mb : MS W} {lo : Int} (r : GRel g b) (h : MonoS mb) : ∀ (n i : Nat) ρ w E E', EndsM.le E E' → loopR b mb lo n i ρ w E → loopR b mb lo n i ρ w E'
  | 0, i, ρ, w, E, E', l, q => l.nx _ _ q
  | n + 1, i, ρ, w, E, E', l, q => r.mono _ ρ _ _ (fun ρ' z => h ρ' w _ _ (turnE_le l fun ρ2 w2 => loopR_mono r h n (i + 1) ρ2 w2 E E' l) z) q
def sForR (b : BG) (m : DEnv → M W (List D)) (mb : MS W) : MS W := fun ρ w E => m ρ w (fun ds w' => ∃ j : Int, ds = [.int j] ∧ -(2 ^ 62) ≤ j ∧ j < 2 ^ 62 ∧ loopR b mb 0 j.toNat 0 ρ w' E) (fun e w' => E.ex e ρ w')
def sForR2 (b : BG) (m : DEnv → M W (List D)) (mb : MS W) : MS W := fun ρ w E => m ρ w (fun ds w' => ∃ i j : Int, ds = [.int i, .int j] ∧ (-(2 ^ 62) ≤ i ∧ i < 2 ^ 62 ∧ -(2 ^ 62) ≤ j ∧ j < 2 ^ 62) ∧ loopR b mb i (j - i).toNat 0 ρ w' E) (fun e w' => E.ex e ρ w')
theorem atA {m : DEnv → M G.W (List D)} (hm : ∀ ρ, Mono (m ρ)) {E : EndsM G.W} {De : Ends} {σ : St} {ρ : DEnv} {w : G.W} {H : Hp} {A F : Foot} {k : List D → G.W → Prop} {R : List V → Hp → Prop} (c : SC G en ps σ ρ w H A F) (l : Conn G en ps Wx E De)
    (q : m ρ w k (fun e w' => E.ex e ρ w')) (go : ∀ d v w' H' A' F', SC G en ps σ ρ w' H' A' F' → RepL F' H' v d → k d w' → R v H') : liftA G Wx m σ H R :=
  ⟨A, F, ρ, w, _, c.ok, c.env, l.exo c, hm ρ w _ _ _ _ (fun d w' z v H' A' F' s k' rp => go d v w' H' A' F' (c.step s k') rp z) (fun _ _ z => z) q⟩
theorem range_go {tg : Expr} {body : List Stmt} {g : TG} {b : BG} {mb : MS G.W} (r : GRel g b) (hb : DSs G en X Wx body mb) {lo : Int} {n : Nat} {De : Ends} {E : EndsM G.W} (lk : Conn G en ps Wx E De) {σ : St} {ρ : DEnv} {w : G.W} {H : Hp} {A F : Foot} (c : SC G en ps σ ρ w H A F) (z : loopR b mb lo n 0 ρ w E) :
    ∃ Wv : Nat → Nat → St → Hp → Prop, (∃ m, Wv 0 m σ H) ∧ ∀ i m σ H, Wv i m σ H →
      ((Itr lo n).stop i H ∧ De.nx σ H) ∨ ((Itr lo n).go i H ∧ ∃ N : St → Hp → Prop, (∀ σ' H', N σ' H' → ∃ m', m' < m ∧ Wv (i + 1) m' σ' H') ∧ ∀ x H', (Itr lo n).yld i H x H' → g x σ H' fun σ2 H2 => liftS G en Wx mb { De with nx := N, ct := N, bk := De.nx } σ2 H2) := by
  refine for_range (lo := lo) (n := n) (fun i σ2 H2 => ∃ A2 F2 ρ2 w2, SC G en ps σ2 ρ2 w2 H2 A2 F2 ∧ loopR b mb lo (n - i) i ρ2 w2 E) ⟨A, F, ρ, w, c, z⟩ ?_ ?_
  · rintro i σ2 H2 hi ⟨A2, F2, ρ2, w2, c2, z2⟩
    obtain ⟨m, hm⟩ : ∃ m, n - i = m + 1 := ⟨n - i - 1, by omega⟩
    have hm2 : n - (i + 1) = m := by omega
    rw [hm] at z2
    refine r.go A2 F2 H2 σ2 ρ2 _ (.int (lo + i)) _ c2.env (.int _) z2 _ fun σ3 ρ3 r3 o3 q3 => ?_
    refine ⟨_, A2, F2, ρ3, w2, _, c2.env' r3 o3, lk.turn (fun _ _ z => z) _ _ fun σ4 ρ4 w4 H4 A4 F4 c4 z4 => ⟨A4, F4, ρ4, w4, c4, ?_⟩, q3⟩
    rw [hm2]; exact z4
  · rintro σ2 H2 ⟨A2, F2, ρ2, w2, c2, z2⟩
    rw [Nat.sub_self] at z2
    exact lk.nx _ _ _ _ _ _ c2 z2
theorem dsforR {tg a : Expr} {body : List Stmt} {g : TG} {b : BG} {m : DEnv → M G.W (List D)} {mb : MS G.W} {p pos pos2 : Pos} (hp : PassesOwn (model X.prog X.w) X.A X.env X.xe) (hm : X.mg "range" = none) (hg0 : Gl X "range") (hl : DA G X Wx [a] m) (hg : PG X tg g) (r : GRel g b) (hb : DSs G en X Wx body mb) (hc : X.calm = true := by rfl)
    (hse : starEach [a] X.env = [(false, eval a X.env)] := by rfl) (hs : ∀ x, foldedSetIterable (.Call (.Name "range" p) [a] [] pos2) X.env x = pure x := by intro _; rfl) : DS G en X Wx (.For tg (.Call (.Name "range" p) [a] [] pos2) body [] pos) (sForR b m mb) := by
  refine ⟨PS.imp (ps_for hp hc (pi_range1 hg0 hm hl.pe hse) hg hb.ps hs) fun De σ H ⟨ps, A, F, ρ, w, E, c, lk, q⟩ => atA hl.mono c lk q fun ds vs w' H' A' F' c' rp ⟨j, e, h1, h2, z⟩ => ?_,
    fun ρ w E E' l q => hl.mono ρ w _ _ _ _ (fun d w' ⟨j, e, h1, h2, z⟩ => ⟨j, e, h1, h2, loopR_mono r hb.mono _ _ _ _ _ _ l z⟩) (fun _ _ z => l.ex _ _ _ z) q⟩
  subst e
  cases rp with
  | cons rp r2 =>
    cases r2
    cases rp
    exact ⟨j, rfl, h1, h2, range_go (tg := tg) r hb lk c' z⟩
theorem dsforR2 {tg a a' : Expr} {body : List Stmt} {g : TG} {b : BG} {m : DEnv → M G.W (List D)} {mb : MS G.W} {p pos pos2 : Pos} (hp : PassesOwn (model X.prog X.w) X.A X.env X.xe) (hm : X.mg "range" = none) (hg0 : Gl X "range") (hl : DA G X Wx [a, a'] m) (hg : PG X tg g) (r : GRel g b) (hb : DSs G en X Wx body mb) (hc : X.calm = true := by rfl)
    (hse : starEach [a, a'] X.env = [(false, eval a X.env), (false, eval a' X.env)] := by rfl) (hs2 : starEach [a'] X.env = [(false, eval a' X.env)] := by rfl) (hs : ∀ x, foldedSetIterable (.Call (.Name "range" p) [a, a'] [] pos2) X.env x = pure x := by intro _; rfl) : DS G en X Wx (.For tg (.Call (.Name "range" p) [a, a'] [] pos2) body [] pos) (sForR2 b m mb) := by
  refine ⟨PS.imp (ps_for hp hc (pi_range2 hg0 hm hl.pe hse hs2) hg hb.ps hs) fun De σ H ⟨ps, A, F, ρ, w, E, c, lk, q⟩ => atA hl.mono c lk q fun ds vs w' H' A' F' c' rp ⟨i, j, e, h1, z⟩ => ?_,
    fun ρ w E E' l q => hl.mono ρ w _ _ _ _ (fun d w' ⟨i, j, e, h1, z⟩ => ⟨i, j, e, h1, loopR_mono r hb.mono _ _ _ _ _ _ l z⟩) (fun _ _ z => l.ex _ _ _ z) q⟩
  subst e
  cases rp with
  | cons rp r2 =>
    cases r2 with
    | cons rp2 r3 =>
      cases r3
      cases rp
      cases rp2
      exact ⟨i, j, rfl, h1, range_go (tg := tg) r hb lk c' z⟩
/-! ### while -/
def whileN (mc : DEnv → M W Bool) (mb : MS W) : Nat → DEnv → W → EndsM W → Prop
  | 0, _, _, _ => False
  | n + 1, ρ, w, E => mc ρ w (fun b w' => if b = true then mb ρ w' (turnE E fun ρ2 w2 => whileN mc mb n ρ2 w2 E) else E.nx ρ w') (fun e w' => E.ex e ρ w')
def sWhile (mc : DEnv → M W Bool) (mb : MS W) : MS W := fun ρ w E => ∃ n, whileN mc mb n ρ w E
theorem whileN_mono {mc : DEnv → M W Bool} {mb : MS W} (hc : ∀ ρ, Mono (mc ρ)) (hb : MonoS mb) : ∀ n ρ w E E', EndsM.le E E' → whileN mc mb n ρ w E → whileN mc mb n ρ w E'
  | 0, _, _, _, _, _, q => q
  | n + 1, ρ, w, E, E', l, q => hc ρ w _ _ _ _ (fun b w' z => by
      cases b with
      | true => exact hb ρ w' _ _ (turnE_le l fun ρ2 w2 => whileN_mono hc hb n ρ2 w2 E E' l) z
      | false => exact l.nx _ _ z) (fun _ _ z => l.ex _ _ _ z) q
theorem dswhile {c : Expr} {body : List Stmt} {mc : DEnv → M G.W Bool} {mb : MS G.W} {pos : Pos} (hp : PassesOwn (model X.prog X.w) X.A X.env X.xe) (hc : DT G X Wx c mc) (hb : DSs G en X Wx body mb) : DS G en X Wx (.While c body [] pos) (sWhile mc mb) := by
  refine ⟨PS.imp (ps_while hp hc.pe hb.ps) fun De σ H ⟨ps, A, F, ρ, w, E, c, lk, n, q⟩ => ?_, fun ρ w E E' l ⟨n, q⟩ => ⟨n, whileN_mono hc.mono hb.mono n _ _ _ _ l q⟩⟩
  refine ⟨fun n σ2 H2 => ∃ A2 F2 ρ2 w2, SC G en ps σ2 ρ2 w2 H2 A2 F2 ∧ whileN mc mb n ρ2 w2 E, ⟨n, A, F, ρ, w, c, q⟩, ?_⟩
  rintro n σ2 H2 ⟨A2, F2, ρ2, w2, c2, z2⟩
  cases n with
  | zero => exact z2.elim
  | succ n =>
    refine atT hc.mono c2 lk z2 fun b w3 H3 A3 F3 c3 z3 => ?_
    cases b with
    | true =>
      refine ⟨fun σ4 H4 => ∃ A4 F4 ρ4 w4, SC G en ps σ4 ρ4 w4 H4 A4 F4 ∧ whileN mc mb n ρ4 w4 E, fun σ4 H4 h4 => ⟨n, Nat.lt_succ_self _, h4⟩, ?_⟩
      exact ⟨ps, A3, F3, ρ2, w3, _, c3, lk.turn (fun _ _ z => z) _ _ fun σ4 ρ4 w4 H4 A4 F4 c4 z4 => ⟨A4, F4, ρ4, w4, c4, z4⟩, z3⟩
    | false => exact lk.nx _ _ _ _ _ _ c3 z3
end
end DL

namespace DL
open PySem PySem.Spec PyProof.Rows L2
section
variable {G : Wd} {X : Cx} {Wx : WX} {W : Type} {en : En} {ps : Pin}
/-! ### owned lists -/
/-- the owned list of slot i is another one now -/
theorem SC.write_own {σ : St} {ρ : DEnv} {w : G.W} {H : Hp} {A F : Foot} {i : Nat} {ds es : List D} {l : Addr} {ys : List V} (c : SC G en ps σ ρ w H A F) (e1 : ρ[i]? = some (some (.own ds))) (e2 : σ[i]? = some (some (.ref l)))
    (h : RepL F H ys es) (hz : ys.length ≤ LB) : SC G en ps σ (ρ.set i (some (.own es))) w (upd H l (.lst ys)) A F := by
  obtain ⟨l', xs, f1, f2, f3, f4, f5, f6⟩ := c.env.own i ds e1
  rw [e2] at f1; cases f1
  have kp : Keeps F H F (upd H l (.lst ys)) := fun a o ha hn => ⟨by rw [upd_ne (by intro z; subst z; exact hn f3)]; exact ha, hn⟩
  refine ⟨⟨G.frame c.ok.wi (fun a o ha hn => by rw [upd_ne (by intro z; subst z; exact hn.elim f4 fun q => q f3)]; exact ha) fun a h => .inl h, c.ok.af, fun a ha => ?_⟩, ⟨by rw [List.length_set]; exact c.env.len, ?_, ?_, ?_⟩, ?_, ?_, c.fa, c.ff, c.am, c.fm, ?_, c.F0, ps.st _ _ _ _ kp c.pin⟩
  · by_cases z : a = l
    · subst z; rw [upd_same]; exact fun q => nomatch q
    · rw [upd_ne z]; exact c.ok.dom a ha
  · intro j d e
    rcases getset e with ⟨rfl, z⟩ | ⟨n1, z1⟩
    · cases z
    obtain ⟨v, g1, g2⟩ := c.env.val j d z1
    exact ⟨v, g1, g2.mono kp⟩
  · intro j d e
    rcases getset e with ⟨rfl, z⟩ | ⟨n1, z1⟩
    · cases z
      exact ⟨l, ys, e2, upd_same, f3, f4, hz, h.mono kp⟩
    obtain ⟨a, zs, g1, g2, g3, g4, g5, g6⟩ := c.env.own j d z1
    have ne : a ≠ l := fun z => n1 (c.env.inj i j ds d a e1 z1 (z ▸ e2) g1)
    exact ⟨a, zs, g1, by rw [upd_ne ne]; exact g2, g3, g4, g5, g6.mono kp⟩
  · intro j k d1 d2 a h1 h2 h3 h4
    have w1 : ∃ d', ρ[j]? = some (some (.own d')) := by
      rcases getset h1 with ⟨rfl, z⟩ | ⟨n1, z1⟩
      · exact ⟨_, e1⟩
      · exact ⟨_, z1⟩
    have w2 : ∃ d', ρ[k]? = some (some (.own d')) := by
      rcases getset h2 with ⟨rfl, z⟩ | ⟨n1, z1⟩
      · exact ⟨_, e1⟩
      · exact ⟨_, z1⟩
    obtain ⟨d', w1⟩ := w1
    obtain ⟨d'', w2⟩ := w2
    exact c.env.inj j k d' d'' a w1 w2 h3 h4
  · intro a o ha hn
    have ne : a ≠ l := fun z => by subst z; rw [c.own i ds a e1 e2] at ha; cases ha
    rw [upd_ne ne]; exact c.keep a o ha hn
  · intro a ha
    by_cases z : a = l
    · subst z; rw [upd_same] at ha; cases ha
    · rw [upd_ne z] at ha; exact c.there a ha
  · intro j d a h1 h2
    rcases getset h1 with ⟨rfl, z⟩ | ⟨n1, z1⟩
    · exact c.own i ds a e1 h2
    · exact c.own j d a z1 h2
/-- a new list becomes slot i's own -/
theorem SC.own_new {σ : St} {ρ : DEnv} {w w' : G.W} {H H' : Hp} {A F A' F' : Foot} {i : Nat} {es : List D} {p : Addr} {ys : List V} (c : SC G en ps σ ρ w H A F) (s : Stp A F H A' F' H') (k : G.Ok w' H' A' F') (hp : H p = none)
    (h1 : H' p = some (.lst ys)) (h2 : F' p) (h3 : ¬ A' p) (hz : ys.length ≤ LB) (h : RepL F' H' ys es) : SC G en ps (σ.set i (some (.ref p))) (ρ.set i (some (.own es))) w' H' A' F' := by
  have c2 := c.step s k
  have neo : ∀ (j : Nat) (d : List D) (a : Addr), ρ[j]? = some (some (.own d)) → σ[j]? = some (some (.ref a)) → a ≠ p := fun j d a g1 g2 z => by
    obtain ⟨a', xs, f1, f2, _⟩ := c.env.own j d g1
    rw [g2] at f1; cases f1
    rw [z, hp] at f2; cases f2
  refine ⟨k, ⟨by rw [List.length_set, List.length_set]; exact c.env.len, ?_, ?_, ?_⟩, c2.keep, c2.there, c2.fa, c2.ff, c2.am, c2.fm, ?_, c2.F0, c2.pin⟩
  · intro j d e
    rcases getset e with ⟨rfl, z⟩ | ⟨n1, z1⟩
    · cases z
    rw [List.getElem?_set_ne n1]; exact c2.env.val j d z1
  · intro j d e
    rcases getset e with ⟨rfl, z⟩ | ⟨n1, z1⟩
    · cases z
      have hl := (List.getElem?_eq_some_iff.mp e).1
      rw [List.length_set] at hl
      exact ⟨p, ys, List.getElem?_set_self (by rw [c.env.len]; exact hl), h1, h2, h3, hz, h⟩
    rw [List.getElem?_set_ne n1]; exact c2.env.own j d z1
  · intro j k2 d1 d2 a g1 g2 g3 g4
    rcases getset g1 with ⟨rfl, z⟩ | ⟨n1, z1⟩
    · rcases getset g2 with ⟨rfl, z'⟩ | ⟨n2, z2⟩
      · rfl
      · have hl := (List.getElem?_eq_some_iff.mp g1).1
        rw [List.length_set] at hl
        rw [List.getElem?_set_self (by rw [c.env.len]; exact hl)] at g3
        cases g3
        rw [List.getElem?_set_ne n2] at g4
        exact absurd rfl (neo _ _ _ z2 g4)
    · rw [List.getElem?_set_ne n1] at g3
      rcases getset g2 with ⟨rfl, z'⟩ | ⟨n2, z2⟩
      · have hl := (List.getElem?_eq_some_iff.mp g2).1
        rw [List.length_set] at hl
        rw [List.getElem?_set_self (by rw [c.env.len]; exact hl)] at g4
        cases g4
        exact absurd rfl (neo _ _ _ z1 g3)
      · rw [List.getElem?_set_ne n2] at g4
        exact c.env.inj j k2 d1 d2 a z1 z2 g3 g4
  · intro j d a g1 g2
    rcases getset g1 with ⟨rfl, z⟩ | ⟨n1, z1⟩
    · have hl := (List.getElem?_eq_some_iff.mp g1).1
      rw [List.length_set] at hl
      rw [List.getElem?_set_self (by rw [c.env.len]; exact hl)] at g2
      cases g2
      exact c.there _ hp
    · rw [List.getElem?_set_ne n1] at g2
      exact c.own j d a z1 g2
def postN (G : Wd) (A F : Foot) (H : Hp) (Q : VK) : D → G.W → Prop := fun d w' => ∃ ds, d = .lst ds ∧ ∀ (p : Addr) (xs : List V) (H' : Hp) (A' F' : Foot), Stp A F H A' F' H' → G.Ok w' H' A' F' → H p = none → H' p = some (.lst xs) → F' p → ¬ A' p → xs.length ≤ LB → RepL F' H' xs ds → Q (.ref p) H'
/-- an expression that makes a new list -/
structure DN (G : Wd) (X : Cx) (Wx : WX) (e : Expr) (m : DEnv → M G.W D) : Prop where
  pe : PE X e (fun σ H Q => ∃ A F ρ w E, G.Ok w H A F ∧ EnvRep A F H σ ρ ∧ exOk G A F H σ Wx E ∧ m ρ w (postN G A F H Q) E)
  mono : ∀ ρ, Mono (m ρ)
theorem newF {w : G.W} {H : Hp} {A F : Foot} {p : Addr} {o : HO} (k : G.Ok w H A F) (hp : H p = none) : G.Ok w (upd H p o) A (fun a => F a ∨ a = p) ∧ Stp A F H A (fun a => F a ∨ a = p) (upd H p o) := by
  have s : Stp A F H A F (upd H p o) := .new hp
  refine ⟨⟨G.frame k.wi (fun a u h _ => by rw [upd_ne (ne_of_none h hp)]; exact h) fun a h => h.elim .inl fun e => .inr (e ▸ hp), fun a h => .inl (k.af a h), fun a h => ?_⟩, ⟨s.keep, s.there, s.fa, fun a h => h.elim .inl fun e => .inr (e ▸ hp), s.am, fun a h => .inl h⟩⟩
  rcases h with h | h
  · exact (k.new (o := o) hp).dom a h
  · subst h; rw [upd_same]; exact fun z => nomatch z
theorem dnlst {es : List Expr} {m : DEnv → M G.W (List D)} {pos : Pos} (h : DA G X Wx es m) : DN G X Wx (.List es pos) (mLst m) := by
  have hk : ∀ (ds : List D), Mono (fun (w : G.W) (Q : D → G.W → Prop) (E : Ex → G.W → Prop) => ds.length ≤ LB ∧ Q (.lst ds) w) := fun ds => Mono.and (Mono.pure _)
  refine ⟨PE.imp (pe_lst h.pe) fun σ H Q h1 => ?_, fun ρ => (h.mono ρ).bind hk⟩
  have Pt : ∀ {A F A1 F1 : Foot} {H H1 : Hp}, Stp A F H A1 F1 H1 → ∀ d w, postN G A F H Q d w → postN G A1 F1 H1 Q d w := fun s d w ⟨ds, e, z⟩ => ⟨ds, e, fun p xs H' A' F' s' k hp => z p xs H' A' F' (s.trans s') k (s.there _ hp)⟩
  refine runA h.mono (fun d _ => hk d) (P := ⟨fun A F H => postN G A F H Q, Pt⟩) h1 fun vs ds H1 ⟨A, F, ρ, w, E, k, r, x, rp, hl, ds', e, q⟩ => ⟨line _ (by rw [rp.length]; exact hl), fun p hp => ?_⟩
  cases e
  obtain ⟨k2, s2⟩ := newF (o := .lst vs) k hp
  refine q p vs _ A _ s2 k2 hp upd_same (.inr rfl) (fun z => k.out hp (k.af p z)) (by rw [rp.length]; exact hl) (rp.mono (s2.keeps k.af))
def sSetN (i : Nat) (m : DEnv → M W D) : MS W := fun ρ w E => m ρ w (fun d w' => ∃ ds, d = .lst ds ∧ E.nx (ρ.set i (some (.own ds))) w') (fun e w' => E.ex e ρ w')
theorem dssetn (i : Nat) {x : Str} {e : Expr} {m : DEnv → M G.W D} {pos pos' : Pos} (nd : X.N.Nodup) (he : DN G X Wx e m) (hi : X.N[i]? = some x := by rfl) (hx : Loc X.env.scope x := by first | exact Or.inl rfl | exact Or.inr rfl)
    (hs : swapsWith e (some (.Name x pos')) pos.line X.env = pure false := by rfl) (hf : X.fn x = true ∨ X.env.scope.names.lookup x = some .local := by first | exact .inl rfl | exact .inr rfl) : DS G en X Wx (.Assign [.Name x pos'] e pos) (sSetN i m) := by
  refine ⟨PS.imp (ps_set nd hi hx he.pe hs hf) fun De σ H ⟨ps, A, F, ρ, w, E, c, l, q⟩ => ⟨A, F, ρ, w, _, c.ok, c.env, l.exo c, he.mono ρ w _ _ _ _ (fun d w' ⟨ds, e, z⟩ => ⟨ds, e, fun p xs H' A' F' s k hp h1 h2 h3 h4 h5 => ?_⟩) (fun _ _ z => z) q⟩,
    fun ρ w E E' l q => he.mono ρ w _ _ _ _ (fun d w' ⟨ds, e, z⟩ => ⟨ds, e, l.nx _ _ z⟩) (fun _ _ z => l.ex _ _ _ z) q⟩
  exact l.nx _ _ _ _ _ _ (c.own_new s k hp h1 h2 h3 h4 h5) z
/-- x.append(e), x owned -/
def sApp (i : Nat) (m : DEnv → M W D) : MS W := fun ρ w E => ∃ ds, ρ[i]? = some (some (.own ds)) ∧ m ρ w (fun d w' => ds.length < LB ∧ E.nx (ρ.set i (some (.own (ds ++ [d])))) w') (fun e w' => E.ex e ρ w')
theorem dsapp (i : Nat) {x : Str} {e : Expr} {m : DEnv → M G.W D} {p apos cpos pos : Pos} (he : DE G X Wx e m) (hN : X.N[i]? = some x := by rfl) (hv : Vis X.env.scope x := by first | exact Or.inl rfl | exact Or.inr (Or.inl rfl) | exact Or.inr (Or.inr rfl))
    (hd : (x == ("__debug__" : Str)) = false := by decide) (hcd : (x == ("__classdict__" : Str)) = false := by decide)
    (hbase : attributeBase (.Name x p) "append" X.env (eval (.Name x p) X.env) = eval (.Name x p) X.env := by rfl)
    (hfew : ((backTo cpos (starEach (e :: []) X.env)).all (fun x => !x.1) && (backToKw cpos (keywordEach [] X.env)).all (fun x => x.1.isSome) && decide ((e :: []).length + ([] : List Keyword).length + (if ([] : List Keyword).isEmpty then 0 else 1) < 30)) = true := by rfl)
    (hline : (apos.endLine == cpos.line) = true := by rfl) (hst : starEach (e :: []) X.env = (false, eval e X.env) :: starEach [] X.env := by rfl) (hplain : (backTo cpos (starEach [] X.env)).any (·.1) = false := by rfl)
    (hs : swapsWith (.Call (.Attribute (.Name x p) "append" apos) [e] [] cpos) none pos.line X.env = pure false := by rfl) :
    DS G en X Wx (.Expr (.Call (.Attribute (.Name x p) "append" apos) [e] [] cpos) pos) (sApp i m) := by
  refine ⟨PS.imp (ps_expr (pe_bm PySem.F.plainAttrs_list PySem.F.slot_list_append PySem.F.type_list_append mt_append (pv i hN hv hd hcd) (pa_cons he.pe pa_nil hst) hbase hfew hline hst hplain) hs) fun De σ H ⟨ps, A, F, ρ, w, E, c, l, ds, e1, q⟩ => ?_,
    fun ρ w E E' l ⟨ds, e1, q⟩ => ⟨ds, e1, he.mono ρ w _ _ _ _ (fun d w' ⟨h, z⟩ => ⟨h, l.nx _ _ z⟩) (fun _ _ z => l.ex _ _ _ z) q⟩⟩
  obtain ⟨a, xs, f1, f2, f3, f4, f5, f6⟩ := c.env.own i ds e1
  refine ⟨_, f1, .inl ⟨rfl, xs, SqL.of f2⟩, atE he.mono c l q fun d v w' H' A' F' c' rp ⟨hl, z⟩ => ?_⟩
  obtain ⟨a', xs', g1, g2, g3, g4, g5, g6⟩ := c'.env.own i ds e1
  rw [f1] at g1; cases g1
  have hl' : xs'.length < LB := by rw [g6.length]; exact hl
  refine ⟨a, xs', v, rfl, rfl, g2, lineLt _ (Nat.le_of_lt hl'), l.nx _ _ _ _ _ _ (c'.write_own e1 f1 (g6.append (.cons rp .nil)) ?_) z⟩
  rw [List.length_append]; exact hl'
/-- the owned list of slot i is shared from here on -/
def sFrz (i : Nat) (m : MS W) : MS W := fun ρ w E => ∃ ds, ρ[i]? = some (some (.own ds)) ∧ m (ρ.set i (some (.val (.lst ds)))) w E
theorem SC.freeze {σ : St} {ρ : DEnv} {w : G.W} {H : Hp} {A F : Foot} {i : Nat} {ds : List D} (c : SC G en ps σ ρ w H A F) (e1 : ρ[i]? = some (some (.own ds))) : ∃ F', SC G en ps σ (ρ.set i (some (.val (.lst ds)))) w H A F' := by
  obtain ⟨l, xs, f1, f2, f3, f4, f5, f6⟩ := c.env.own i ds e1
  have ho := c.own i ds l e1 f1
  have kp : Keeps F H (fun a => F a ∧ a ≠ l) H := fun a o ha hn => ⟨ha, fun z => hn z.1⟩
  refine ⟨fun a => F a ∧ a ≠ l, ⟨G.frame c.ok.wi (fun a o h _ => h) fun a h => .inl h.1, fun a h => ⟨c.ok.af a h, fun z => f4 (z ▸ h)⟩, fun a h => c.ok.dom a h.1⟩, ⟨by rw [List.length_set]; exact c.env.len, ?_, ?_, ?_⟩, c.keep, c.there, c.fa, fun a h => c.ff a h.1, c.am, fun a h => ⟨c.fm a h, fun z => c.F0 a h (z ▸ ho)⟩, ?_, c.F0, ps.st _ _ _ _ kp c.pin⟩
  · intro j d e
    rcases getset e with ⟨rfl, z⟩ | ⟨n1, z1⟩
    · cases z
      exact ⟨_, f1, .lst f2 (fun z => z.2 rfl) f5 (f6.mono kp)⟩
    obtain ⟨v, g1, g2⟩ := c.env.val j d z1
    exact ⟨v, g1, g2.mono kp⟩
  · intro j d e
    rcases getset e with ⟨rfl, z⟩ | ⟨n1, z1⟩
    · cases z
    obtain ⟨a, zs, g1, g2, g3, g4, g5, g6⟩ := c.env.own j d z1
    exact ⟨a, zs, g1, g2, ⟨g3, fun z => n1 (c.env.inj i j ds d a e1 z1 (z ▸ f1) g1)⟩, g4, g5, g6.mono kp⟩
  · intro j k d1 d2 a h1 h2 h3 h4
    rcases getset h1 with ⟨rfl, z⟩ | ⟨n1, z1⟩
    · cases z
    rcases getset h2 with ⟨rfl, z⟩ | ⟨n2, z2⟩
    · cases z
    exact c.env.inj j k d1 d2 a z1 z2 h3 h4
  · intro j d a h1 h2
    rcases getset h1 with ⟨rfl, z⟩ | ⟨n1, z1⟩
    · cases z
    exact c.own j d a z1 h2
theorem dsfrz (i : Nat) {st : List Stmt} {m : MS G.W} (h : DSs G en X Wx st m) : DSs G en X Wx st (sFrz i m) :=
  ⟨PSs.imp h.ps fun De σ H ⟨ps, A, F, ρ, w, E, c, l, ds, e1, q⟩ => let ⟨F', c'⟩ := c.freeze e1; ⟨ps, A, F', _, w, E, c', l, q⟩, fun ρ w E E' l ⟨ds, e1, q⟩ => ⟨ds, e1, h.mono _ _ _ _ l q⟩⟩

/-! ### raise -/
def sRaise (C : Addr) : MS W := fun ρ w E => E.ex C ρ w
theorem dsraise {e : Expr} {C : Addr} {pos : Pos} (hc : X.calm = true) (tk : Takes X Wx) (he : PMk X e (fun _ H Q => Q (.ref C) none H)) : DS G en X Wx (.Raise (some e) none pos) (sRaise C) :=
  ⟨PS.imp (ps_raise hc tk he) fun De σ H ⟨ps, A, F, ρ, w, E, c, l, q⟩ => l.ex C σ ρ w H A F c q, fun ρ w E E' l q => l.ex _ _ _ q⟩

/-! ### a def's body -/
def envOf (N : List Str) (ds : List D) : DEnv := ds.map (fun d => some (.val d)) ++ List.replicate (N.length - ds.length) none
theorem envOf_key {N : List Str} {ds : List D} {i : Nat} {e : Ent} (h : (envOf N ds)[i]? = some (some e)) : ∃ d, ds[i]? = some d ∧ e = .val d := by
  unfold envOf at h
  by_cases hi : i < ds.length
  · rw [List.getElem?_append_left (by rw [List.length_map]; exact hi), List.getElem?_map] at h
    cases q : ds[i]? with
    | none => rw [q] at h; cases h
    | some d => rw [q] at h; cases h; exact ⟨d, rfl, rfl⟩
  · rw [List.getElem?_append_right (by rw [List.length_map]; omega)] at h
    have := List.mem_of_getElem? h
    rw [List.mem_replicate] at this
    exact absurd this.2 (fun z => nomatch z)
theorem env_start {A F : Foot} {H : Hp} (N : List Str) {vs : List V} {ds : List D} (r : RepL F H vs ds) : EnvRep A F H (L2.start N vs) (envOf N ds) := by
  have hl := r.length
  have key := fun i e => envOf_key (N := N) (ds := ds) (i := i) (e := e)
  refine ⟨by unfold L2.start envOf; simp [hl], fun i d h => ?_, fun i es h => ?_, fun i j es fs a h _ _ _ => ?_⟩
  · obtain ⟨d', h1, h2⟩ := key i _ h
    cases h2
    obtain ⟨v, g1, g2⟩ := r.get h1
    refine ⟨v, ?_, g2⟩
    unfold L2.start
    rw [List.getElem?_append_left (by rw [List.length_map]; exact (List.getElem?_eq_some_iff.mp g1).1), List.getElem?_map, g1]
    rfl
  · obtain ⟨d', h1, h2⟩ := key i _ h; cases h2
  · obtain ⟨d', h1, h2⟩ := key i _ h; cases h2
/-- what a body's end is to the caller -/
def endsOf (Q : D → W → Prop) (E : Ex → W → Prop) : EndsM W := { nx := fun _ w => Q .non w, rt := Q, ex := fun e _ w => E e w }
theorem conn_of {A F : Foot} {H : Hp} {w : G.W} {Q : VK} {E : XK} {Ed : Ex → G.W → Prop} (k : G.Ok w H A F) (hE : ∀ e w' H' A' F', Stp A F H A' F' H' → G.Ok w' H' A' F' → Ed e w' → E (.ref e) none H') :
    Conn G ⟨A, F, H⟩ Pin.none (fun cls d _ H => E cls d H) (endsOf (post G A F H Q) Ed) { nx := fun _ H' => Q .non H', rt := Q } := by
  have st : ∀ {σ ρ w' H' A' F'}, SC G ⟨A, F, H⟩ Pin.none σ ρ w' H' A' F' → Stp A F H A' (fun a => F a ∨ A' a) H' ∧ G.Ok w' H' A' (fun a => F a ∨ A' a) := fun c => by
    refine ⟨⟨c.keep, c.there, c.fa, fun a h => h.elim .inl fun z => (c.fa a z : A a ∨ H a = none).elim (fun z => .inl (k.af a z)) .inr, c.am, fun a h => .inl h⟩, ⟨G.frame c.ok.wi (fun a o h _ => h) (fun a h => .inl (h.elim (c.fm a) (c.ok.af a))), fun a h => .inr h, fun a h => c.ok.dom a (h.elim (c.fm a) (c.ok.af a))⟩⟩
  refine ⟨fun σ ρ w' H' A' F' c z => ?_, fun d v w' H' A' F' σ ρ c r z => ?_, fun _ _ _ _ _ _ _ z => z.elim, fun _ _ _ _ _ _ _ z => z.elim, fun e σ ρ w' H' A' F' c z => ?_⟩
  · obtain ⟨s, k'⟩ := st c; exact z .non H' A' _ s k' .non
  · obtain ⟨s, k'⟩ := st c; exact z v H' A' _ s k' r
  · obtain ⟨s, k'⟩ := st c; exact hE e w' H' A' _ s k' z
variable {P : Program} {wd : World} {K : PySem.W.Frag} {mg : Str → Option Value} {base : Heap}
/-- THE RULE for a def over data -/
theorem fn_data {x qual : Str} {st : Stmt} {f : Addr} {fd : FuncData} {N prs : List Str} {k : Nat} {sf : SF G.W} (Fu : Fun K x qual st f fd) (S : FnScope N prs (defScope st)) (bd : Binds K fd prs []) (len : ∀ ds w Q E, sf ds w Q E → ds.length = prs.length) (mono : ∀ ds, Mono (sf ds))
    (body : ∀ (cdv : Value) (A : Around) (outer : List Env) (s : Shared) (H : Hp) (E : XK) (en : En), RoomG k (A.deeper (envOfC qual (defScope st) s.heap.objs.size f cdv)) →
      ∃ m, DSs G en (cxOf (L2.CX P wd) P wd K mg base N qual (defScope st) f cdv A outer s H E) (fun cls d _ H => E cls d H) (defBody st) m ∧ ∀ ds w Q Ed, sf ds w Q Ed → m (envOf N ds) w (endsOf Q Ed)) :
    FnD G P wd K mg base (k + 1) f fd prs sf where
  ok := fn_g Fu S (fun vs H Q E ⟨A, F, ds, w, Ed, k, r, _, q⟩ => r.length.trans (len ds w _ _ q)) fun cdv A outer s H vs Q E hr ⟨A', F', ds, w, Ed, k, r, x, q⟩ => by
    obtain ⟨m, hm, hq⟩ := body cdv A outer s H E ⟨A', F', H⟩ hr
    exact ⟨_, hm.ps, Pin.none, A', F', _, w, _, ⟨k, env_start N r, fun _ _ h _ => h, fun _ h => h, fun _ h => .inl h, fun _ h => .inl h, fun _ h => h, fun _ h => h, fun i es a h => (by
      obtain ⟨_, _, q2⟩ := envOf_key h
      exact absurd q2 (fun z => nomatch z)), k.dom, trivial⟩, conn_of k x, hq ds w _ _ q⟩
  mono := mono
  kp := Fu.kp
  bd := bd
end
end DL

namespace DL
open PySem PySem.Spec PyProof.Rows L2
section
variable {G : Wd} {X : Cx} {Wx : WX} {W : Type}
abbrev W0 : WX := fun _ _ _ _ => False
/-! ### what is walked -/
/-- the walk J gives the data ds while S stands; H0: the heap at its start -/
structure Src (G : Wd) (K : PySem.W.Frag) (J : It) (ds : List D) (H0 : Hp) (S : Foot → Foot → Hp → Prop) : Prop where
  wk : ∃ n Gd Y, n = ds.length ∧ L2.Walk J n Gd Y ∧ (∀ A F H, S A F H → Gd H) ∧
    ∀ i H x H' A F, i < n → S A F H → Y i H x H' → ∃ d, ds[i]? = some d ∧ Rep F H' x d ∧ (∀ w, G.Ok w H A F → G.Ok w H' A F) ∧ Stp A F H A F H' ∧ S A F H'
  stp : ∀ A F H A' F' H', Stp A F H A' F' H' → (∀ a, A a → F a) → S A F H → S A' F' H'
  upd : ∀ A F H p o, F p → H0 p = none → S A F H → S A F (L2.upd H p o)
/-- an iterable: its items' data -/
structure DI (G : Wd) (X : Cx) (Wx : WX) (tg iter : Expr) (m : DEnv → M G.W (List D)) : Prop where
  pe : ∃ wi, PI X tg iter wi ∧ ∀ (σ : St) (H : Hp) (R : It → Hp → Prop), (∃ A F ρ w E, G.Ok w H A F ∧ EnvRep A F H σ ρ ∧ exOk G A F H σ Wx E ∧
    m ρ w (fun ds w' => ∀ J H' A' F' S, Stp A F H A' F' H' → G.Ok w' H' A' F' → Src G X.K J ds H' S → S A' F' H' → R J H') E) → wi σ H R
  mono : ∀ ρ, Mono (m ρ)
theorem Src.list {K : PySem.W.Frag} {H : Hp} {F A : Foot} {a : Addr} {xs : List V} {ds : List D} (h : H a = some (.lst xs)) (hn : ¬ F a) (r : RepL F H xs ds) :
    Src G K (Itl K a) ds H (fun _ F H => H a = some (.lst xs) ∧ ¬ F a ∧ RepL F H xs ds) where
  wk := ⟨xs.length, _, _, r.length, walk_list (K := K) (a := a) (xs := xs), fun A F H s => SqL.of s.1, fun i H x H' A F hi s ⟨e, hx⟩ => by
    subst e
    have : ∃ d, ds[i]? = some d := by
      rw [s.2.2.length] at hi
      exact ⟨ds[i], List.getElem?_eq_getElem hi⟩
    obtain ⟨d, hd⟩ := this
    obtain ⟨v, g1, g2⟩ := s.2.2.get hd
    rw [hx] at g1; cases g1
    exact ⟨d, hd, g2, fun _ k => k, .refl, s⟩⟩
  stp := fun A F H A' F' H' s af z => ⟨(s.keeps af a _ z.1 z.2.1).1, (s.keeps af a _ z.1 z.2.1).2, z.2.2.mono (s.keeps af)⟩
  upd := fun A F H p o hp _ z => by
    have kp : Keeps F H F (L2.upd H p o) := fun b u hb hn => ⟨by rw [upd_ne (by intro e; subst e; exact hn hp)]; exact hb, hn⟩
    exact ⟨(kp a _ z.1 z.2.1).1, z.2.1, z.2.2.mono kp⟩
theorem Src.tup {K : PySem.W.Frag} {H : Hp} {F A : Foot} {a : Addr} {xs : List V} {ds : List D} (h : H a = some (.tup xs)) (hn : ¬ F a) (r : RepL F H xs ds) :
    Src G K (Itt K a) ds H (fun _ F H => H a = some (.tup xs) ∧ ¬ F a ∧ RepL F H xs ds) where
  wk := ⟨xs.length, _, _, r.length, walk_tup (K := K) (a := a) (xs := xs), fun A F H s => SqT.of s.1, fun i H x H' A F hi s ⟨e, hx⟩ => by
    subst e
    have : ∃ d, ds[i]? = some d := by
      rw [s.2.2.length] at hi
      exact ⟨ds[i], List.getElem?_eq_getElem hi⟩
    obtain ⟨d, hd⟩ := this
    obtain ⟨v, g1, g2⟩ := s.2.2.get hd
    rw [hx] at g1; cases g1
    exact ⟨d, hd, g2, fun _ k => k, .refl, s⟩⟩
  stp := fun A F H A' F' H' s af z => ⟨(s.keeps af a _ z.1 z.2.1).1, (s.keeps af a _ z.1 z.2.1).2, z.2.2.mono (s.keeps af)⟩
  upd := fun A F H p o hp _ z => by
    have kp : Keeps F H F (L2.upd H p o) := fun b u hb hn => ⟨by rw [upd_ne (by intro e; subst e; exact hn hp)]; exact hb, hn⟩
    exact ⟨(kp a _ z.1 z.2.1).1, z.2.1, z.2.2.mono kp⟩
/-- an owned list, walked by a comprehension -/
theorem Src.own {K : PySem.W.Frag} {H : Hp} {F A : Foot} {a : Addr} {xs : List V} {ds : List D} (h : H a = some (.lst xs)) (hf : F a) (ha : ¬ A a) (r : RepL F H xs ds) :
    Src G K (Itl K a) ds H (fun A F H => H a = some (.lst xs) ∧ F a ∧ ¬ A a ∧ RepL F H xs ds) where
  wk := ⟨xs.length, _, _, r.length, walk_list (K := K) (a := a) (xs := xs), fun A F H s => SqL.of s.1, fun i H x H' A F hi s ⟨e, hx⟩ => by
    subst e
    have : ∃ d, ds[i]? = some d := by
      rw [s.2.2.2.length] at hi
      exact ⟨ds[i], List.getElem?_eq_getElem hi⟩
    obtain ⟨d, hd⟩ := this
    obtain ⟨v, g1, g2⟩ := s.2.2.2.get hd
    rw [hx] at g1; cases g1
    exact ⟨d, hd, g2, fun _ k => k, .refl, s⟩⟩
  stp := fun A F H A' F' H' s af z => ⟨s.keep a _ z.1 z.2.2.1, s.fm a z.2.1, fun q => (s.fa a q).elim z.2.2.1 fun e => (by rw [z.1] at e; cases e), z.2.2.2.mono (s.keeps af)⟩
  upd := fun A F H' p o hp hn z => by
    have kp : Keeps F H' F (L2.upd H' p o) := fun b u hb hn2 => ⟨by rw [upd_ne (by intro e; subst e; exact hn2 hp)]; exact hb, hn2⟩
    refine ⟨?_, z.2.1, z.2.2.1, z.2.2.2.mono kp⟩
    rw [upd_ne (by intro e; subst e; rw [h] at hn; cases hn)]; exact z.1
theorem Src.pure {K : PySem.W.Frag} {J : It} {ds : List D} {H : Hp} (f : Nat → V) (hw : L2.Walk J ds.length (fun _ => True) (fun i H x H' => H' = H ∧ x = f i)) (hf : ∀ i d F H, ds[i]? = some d → Rep F H (f i) d) : Src G K J ds H (fun _ _ _ => True) where
  wk := ⟨ds.length, _, _, rfl, hw, fun _ _ _ _ => trivial, fun i H x H' A F hi _ ⟨e, hx⟩ => by
    subst e; subst hx
    exact ⟨ds[i], List.getElem?_eq_getElem hi, hf i _ F _ (List.getElem?_eq_getElem hi), fun _ k => k, .refl, trivial⟩⟩
  stp := fun _ _ _ _ _ _ _ _ _ => trivial
  upd := fun _ _ _ _ _ _ _ _ => trivial
def mIL (m : DEnv → M W D) : DEnv → M W (List D) := fun ρ w Q E => m ρ w (fun d w' => ∃ ds, d = .lst ds ∧ Q ds w') E
def mIT (m : DEnv → M W D) : DEnv → M W (List D) := fun ρ w Q E => m ρ w (fun d w' => ∃ ds, d = .tup ds ∧ Q ds w') E
theorem mIL_mono {m : DEnv → M W D} (h : ∀ ρ, Mono (m ρ)) : ∀ ρ, Mono (mIL m ρ) := fun ρ w Q Q' E E' hq he q => h ρ w _ _ _ _ (fun d w' ⟨ds, e, z⟩ => ⟨ds, e, hq _ _ z⟩) he q
theorem mIT_mono {m : DEnv → M W D} (h : ∀ ρ, Mono (m ρ)) : ∀ ρ, Mono (mIT m ρ) := fun ρ w Q Q' E E' hq he q => h ρ w _ _ _ _ (fun d w' ⟨ds, e, z⟩ => ⟨ds, e, hq _ _ z⟩) he q
theorem dilist {tg l : Expr} {m : DEnv → M G.W D} (h : DU G X Wx l m) : DI G X Wx tg l (mIL m) := by
  refine ⟨⟨_, pi_list h.pe, fun σ H R ⟨A, F, ρ, w, E, k, r, x, q⟩ => ⟨A, F, ρ, w, E, k, r, x, h.mono ρ w _ _ _ _ (fun d w' ⟨ds, e, z⟩ v H' A' F' s k' rp => ?_) (fun _ _ z => z) q⟩⟩, mIL_mono h.mono⟩
  subst e
  rcases rp with rp | ⟨a, xs, es, e1, e2, e3, e6, e7, e4, e5⟩
  · cases rp with
    | lst h1 n1 l1 rr => exact ⟨_, rfl, ⟨_, SqL.of h1⟩, z _ H' A' F' _ s k' (Src.list (A := A') h1 n1 rr) ⟨h1, n1, rr⟩⟩
  · cases e2
    exact ⟨_, e1, ⟨_, SqL.of e3⟩, z _ H' A' F' _ s k' (Src.own e3 e6 e7 e5) ⟨e3, e6, e7, e5⟩⟩
theorem ditup {tg l : Expr} {m : DEnv → M G.W D} (h : DE G X Wx l m) : DI G X Wx tg l (mIT m) := by
  refine ⟨⟨_, pi_tup h.pe, fun σ H R ⟨A, F, ρ, w, E, k, r, x, q⟩ => ⟨A, F, ρ, w, E, k, r, x, h.mono ρ w _ _ _ _ (fun d w' ⟨ds, e, z⟩ v H' A' F' s k' rp => ?_) (fun _ _ z => z) q⟩⟩, mIT_mono h.mono⟩
  subst e
  cases rp with
  | tup h1 n1 l1 rr => exact ⟨_, rfl, ⟨_, SqT.of h1⟩, z _ H' A' F' _ s k' (Src.tup (A := A') h1 n1 rr) ⟨h1, n1, rr⟩⟩
/-- a list or a tuple -/
def rangeD (lo : Int) (n : Nat) : List D := (List.range n).map fun (i : Nat) => D.int (lo + (i : Int))
def mIR (m : DEnv → M W (List D)) : DEnv → M W (List D) := fun ρ w Q E => m ρ w (fun ds w' => ∃ j : Int, ds = [.int j] ∧ -(2 ^ 62) ≤ j ∧ j < 2 ^ 62 ∧ Q (rangeD 0 j.toNat) w') E
def mIR2 (m : DEnv → M W (List D)) : DEnv → M W (List D) := fun ρ w Q E => m ρ w (fun ds w' => ∃ i j : Int, ds = [.int i, .int j] ∧ (-(2 ^ 62) ≤ i ∧ i < 2 ^ 62 ∧ -(2 ^ 62) ≤ j ∧ j < 2 ^ 62) ∧ Q (rangeD i (j - i).toNat) w') E
theorem Src.range {K : PySem.W.Frag} {lo : Int} {n : Nat} {H : Hp} : Src G K (Itr lo n) (rangeD lo n) H (fun _ _ _ => True) := by
  refine Src.pure (fun i => .int (lo + i)) ?_ fun i d F H h => ?_
  · have : (rangeD lo n).length = n := by unfold rangeD; simp
    rw [this]; exact walk_range
  · unfold rangeD at h
    rw [List.getElem?_map] at h
    cases q : (List.range n)[i]? with
    | none => rw [q] at h; cases h
    | some j =>
      rw [q] at h
      have : j = i := by
        obtain ⟨h1, h2⟩ := List.getElem?_eq_some_iff.mp q
        rw [List.getElem_range] at h2; exact h2.symm
      subst this
      cases h; exact .int _
theorem dirange {tg a : Expr} {p pos : Pos} {m : DEnv → M G.W (List D)} (hm : X.mg "range" = none) (hg : Gl X "range") (h : DA G X Wx [a] m) (hs : starEach [a] X.env = [(false, eval a X.env)] := by rfl) : DI G X Wx tg (.Call (.Name "range" p) [a] [] pos) (mIR m) := by
  refine ⟨⟨_, pi_range1 hg hm h.pe hs, fun σ H R ⟨A, F, ρ, w, E, k, r, x, q⟩ => ⟨A, F, ρ, w, E, k, r, x, h.mono ρ w _ _ _ _ (fun ds w' ⟨j, e, h1, h2, z⟩ vs H' A' F' s k' rp => ?_) (fun _ _ z => z) q⟩⟩,
    fun ρ w Q Q' E E' hq he q => h.mono ρ w _ _ _ _ (fun d w' ⟨j, e, h1, h2, z⟩ => ⟨j, e, h1, h2, hq _ _ z⟩) he q⟩
  subst e
  cases rp with
  | cons rp r2 =>
    cases r2
    cases rp
    exact ⟨j, rfl, h1, h2, z _ H' A' F' _ s k' Src.range trivial⟩
theorem dirange2 {tg a a' : Expr} {p pos : Pos} {m : DEnv → M G.W (List D)} (hm : X.mg "range" = none) (hg : Gl X "range") (h : DA G X Wx [a, a'] m) (hs : starEach [a, a'] X.env = [(false, eval a X.env), (false, eval a' X.env)] := by rfl) (hs2 : starEach [a'] X.env = [(false, eval a' X.env)] := by rfl) : DI G X Wx tg (.Call (.Name "range" p) [a, a'] [] pos) (mIR2 m) := by
  refine ⟨⟨_, pi_range2 hg hm h.pe hs hs2, fun σ H R ⟨A, F, ρ, w, E, k, r, x, q⟩ => ⟨A, F, ρ, w, E, k, r, x, h.mono ρ w _ _ _ _ (fun ds w' ⟨i, j, e, h1, z⟩ vs H' A' F' s k' rp => ?_) (fun _ _ z => z) q⟩⟩,
    fun ρ w Q Q' E E' hq he q => h.mono ρ w _ _ _ _ (fun d w' ⟨i, j, e, h1, z⟩ => ⟨i, j, e, h1, hq _ _ z⟩) he q⟩
  subst e
  cases rp with
  | cons rp r2 =>
    cases r2 with
    | cons rp2 r3 =>
      cases r3
      cases rp
      cases rp2
      exact ⟨i, j, rfl, h1, z _ H' A' F' _ s k' Src.range trivial⟩
def signsD (z : Str) : List D := z.cps.toList.map fun c => D.str ⟨#[c]⟩
def mIS (m : DEnv → M W D) : DEnv → M W (List D) := fun ρ w Q E => m ρ w (fun d w' => ∃ z, d = .str z ∧ Q (signsD z) w') E
theorem strOk_mem {z : Str} (h : PyData.strOk z = true) {c : Nat} (hc : c ∈ z.cps.toList) : c < 0x110000 := by
  unfold PyData.strOk at h
  rw [Array.all_eq_true'] at h
  have := h c (Array.mem_def.mpr hc)
  simpa using this
theorem strOk_of {z : Str} (h : ∀ c ∈ z.cps.toList, c < 0x110000) : PyData.strOk z = true := by
  unfold PyData.strOk
  rw [Array.all_eq_true']
  intro c hc
  simpa using h c (Array.mem_def.mp hc)
theorem distr {tg l : Expr} {m : DEnv → M G.W D} (h : DE G X Wx l m) : DI G X Wx tg l (mIS m) := by
  refine ⟨⟨_, pi_str h.pe, fun σ H R ⟨A, F, ρ, w, E, k, r, x, q⟩ => ⟨A, F, ρ, w, E, k, r, x, h.mono ρ w _ _ _ _ (fun d w' ⟨y, e, z⟩ v H' A' F' s k' rp => ?_) (fun _ _ z => z) q⟩⟩,
    fun ρ w Q Q' E E' hq he q => h.mono ρ w _ _ _ _ (fun d w' ⟨y, e, z⟩ => ⟨y, e, hq _ _ z⟩) he q⟩
  subst e
  cases rp with
  | str _ hok =>
    refine ⟨y, rfl, z _ H' A' F' (fun _ _ _ => True) s k' ?_ trivial⟩
    have hl : (signsD y).length = y.cps.size := by unfold signsD; simp
    refine ⟨⟨(signsD y).length, _, _, rfl, hl ▸ walk_str (z := y), fun _ _ _ _ => trivial, fun i H x H' A F hi _ ⟨e, c, hc, hx⟩ => ?_⟩, fun _ _ _ _ _ _ _ _ _ => trivial, fun _ _ _ _ _ _ _ _ => trivial⟩
    subst e; subst hx
    have hc' : y.cps.toList[i]? = some c := by simpa using hc
    refine ⟨.str ⟨#[c]⟩, by unfold signsD; rw [List.getElem?_map, hc']; rfl, .str _ ⟨by show 1 ≤ LB; decide, strOk_of fun b hb => ?_⟩, fun _ k => k, .refl, trivial⟩
    have : b = c := by simpa using hb
    subst this
    exact strOk_mem hok.2 (List.mem_of_getElem? hc')
/-! ### comprehensions -/
def wipeR (ρ : DEnv) : List Nat → DEnv
  | [] => ρ
  | v :: vs => (wipeR ρ vs).set v none
theorem EnvRep.set_none {A F : Foot} {H : Hp} {σ : St} {ρ : DEnv} (r : EnvRep A F H σ ρ) (i : Nat) : EnvRep A F H (σ.set i none) (ρ.set i none) where
  len := by rw [List.length_set, List.length_set]; exact r.len
  val := fun j d' e => by
    rcases getset e with ⟨rfl, e1⟩ | ⟨hne, e1⟩
    · cases e1
    · rw [List.getElem?_set_ne hne]; exact r.val j d' e1
  own := fun j ds e => by
    rcases getset e with ⟨rfl, e1⟩ | ⟨hne, e1⟩
    · cases e1
    · rw [List.getElem?_set_ne hne]; exact r.own j ds e1
  inj := fun j k ds es a e1 e2 e3 e4 => by
    rcases getset e1 with ⟨rfl, z⟩ | ⟨n1, z1⟩
    · cases z
    rcases getset e2 with ⟨rfl, z⟩ | ⟨n2, z2⟩
    · cases z
    rw [List.getElem?_set_ne n1] at e3
    rw [List.getElem?_set_ne n2] at e4
    exact r.inj j k ds es a z1 z2 e3 e4
theorem EnvRep.wipe {A F : Foot} {H : Hp} {σ : St} {ρ : DEnv} (r : EnvRep A F H σ ρ) : ∀ vs : List Nat, EnvRep A F H (L2.wipe σ vs) (wipeR ρ vs)
  | [] => r
  | v :: vs => (EnvRep.wipe r vs).set_none v
/-- the target's names are the block's own -/
def GWipe (g : TG) (vs : List Nat) : Prop := ∀ v σ H (Q : St → Hp → Prop), g v (L2.wipe σ vs) H Q → g v (L2.wipe σ vs) H (fun σ2 H2 => L2.wipe σ2 vs = L2.wipe σ vs ∧ Q σ2 H2)
theorem gwipe_name (i : Nat) : GWipe (gName i) [i] := fun v σ H Q q => ⟨by show ((σ.set i none).set i (some v)).set i none = σ.set i none; rw [List.set_set, List.set_set], q⟩
theorem gwipe_pair {K : PySem.W.Frag} {i j : Nat} : GWipe (gTup K 2 (gCons (gName i) (gCons (gName j) gNil))) [i, j] := fun v σ H Q ⟨a, xs, e1, e2, e3, v1, r1, f1, v2, r2, f2, f3, q⟩ => by
  refine ⟨a, xs, e1, e2, e3, v1, r1, f1, v2, r2, f2, f3, ?_, q⟩
  show (((((σ.set j none).set i none).set i (some v1)).set j (some v2)).set j none).set i none = (σ.set j none).set i none
  by_cases h : i = j
  · subst h; simp [List.set_set]
  · simp only [List.set_set]
    rw [List.set_comm (some v1) none h]
    simp only [List.set_set]
structure DTs (G : Wd) (X : Cx) (Wx : WX) (es : List Expr) (m : DEnv → M G.W Bool) : Prop where
  pe : PTs X es (liftT G Wx m)
  mono : ∀ ρ, Mono (m ρ)
theorem PTs.imp {X : Cx} {e : List Expr} {t t' : TT} (h : PTs X e t) (i : ∀ σ H Q, t' σ H Q → t σ H Q) : PTs X e t' := ⟨fun pins s σ H Q I hw => h.run pins s σ H Q I (i σ H Q hw)⟩
def mYes : DEnv → M W Bool := fun _ w Q _ => Q true w
theorem dtsnil : DTs G X Wx [] mYes := ⟨PTs.imp pts_nil fun σ H Q ⟨A, F, ρ, w, E, k, r, x, q⟩ => q H A F .refl k, fun _ => Mono.pure true⟩
theorem dtsone {c : Expr} {m : DEnv → M G.W Bool} (h : DT G X Wx c m) : DTs G X Wx [c] m := ⟨pts_one h.pe, h.mono⟩
def compL (b : BG) (vs : List Nat) (mt : DEnv → M W Bool) (me : DEnv → M W D) : List D → List D → DEnv → W → (List D → W → Prop) → Prop
  | [], acc, _, w, Q => Q acc w
  | d :: ds, acc, ρ, w, Q => b d (wipeR ρ vs) fun ρ' => mt ρ' w (fun t w1 => if t = true then me ρ' w1 (fun x w2 => compL b vs mt me ds (acc ++ [x]) ρ w2 Q) (fun _ _ => False) else compL b vs mt me ds acc ρ w1 Q) (fun _ _ => False)
theorem compL_mono {b : BG} {g : TG} {vs : List Nat} {mt : DEnv → M W Bool} {me : DEnv → M W D} (r : GRel g b) (ht : ∀ ρ, Mono (mt ρ)) (he : ∀ ρ, Mono (me ρ)) : ∀ (ds acc : List D) (ρ : DEnv) (w : W) (Q Q' : List D → W → Prop), (∀ a w, Q a w → Q' a w) → compL b vs mt me ds acc ρ w Q → compL b vs mt me ds acc ρ w Q'
  | [], acc, ρ, w, Q, Q', h, q => h _ _ q
  | d :: ds, acc, ρ, w, Q, Q', h, q => r.mono d _ _ _ (fun ρ' z => ht ρ' w _ _ _ _ (fun t w1 z1 => by
      cases t with
      | true => exact he ρ' w1 _ _ _ _ (fun x w2 z2 => compL_mono r ht he ds (acc ++ [x]) ρ w2 Q Q' h z2) (fun _ _ z => z) z1
      | false => exact compL_mono r ht he ds acc ρ w1 Q Q' h z1) (fun _ _ z => z) z) q
def mComp (b : BG) (vs : List Nat) (mt : DEnv → M W Bool) (me : DEnv → M W D) (mi : DEnv → M W (List D)) : DEnv → M W D := fun ρ w Q E => mi ρ w (fun ds w1 => ds.length ≤ LB ∧ compL b vs mt me ds [] ρ w1 (fun out w2 => Q (.lst out) w2)) E
theorem mComp_mono {b : BG} {g : TG} {vs : List Nat} {mt : DEnv → M W Bool} {me : DEnv → M W D} {mi : DEnv → M W (List D)} (r : GRel g b) (ht : ∀ ρ, Mono (mt ρ)) (he : ∀ ρ, Mono (me ρ)) (hi : ∀ ρ, Mono (mi ρ)) : ∀ ρ, Mono (mComp b vs mt me mi ρ) :=
  fun ρ w Q Q' E E' hq hE q => hi ρ w _ _ _ _ (fun ds w1 ⟨hl, z⟩ => ⟨hl, compL_mono r ht he ds [] ρ w1 _ _ (fun a w z => hq _ _ z) z⟩) hE q
/-- the turns of a comprehension -/
theorem comp_go {K : PySem.W.Frag} {J : It} {ds : List D} {S : Foot → Foot → Hp → Prop} {H1 : Hp} {A F : Foot} {g : TG} {b : BG} {vs : List Nat} {mt : DEnv → M G.W Bool} {me : DEnv → M G.W D} {σ : St} {ρ : DEnv} {w : G.W} {Q : List D → G.W → Prop} {R : V → Hp → Prop}
    (sr : Src G K J ds H1 S) (s0 : S A F H1) (k : G.Ok w H1 A F) (er : EnvRep A F H1 σ ρ) (r : GRel g b) (gw : GWipe g vs) (ht : ∀ ρ, Mono (mt ρ)) (he : ∀ ρ, Mono (me ρ)) (hl : ds.length ≤ LB) (z : compL b vs mt me ds [] ρ w Q)
    (go : ∀ p xs out w' H' A' F', Stp A F H1 A' F' H' → G.Ok w' H' A' F' → H1 p = none → H' p = some (.lst xs) → F' p → ¬ A' p → xs.length ≤ LB → RepL F' H' xs out → Q out w' → R (.ref p) H') :
    ∀ Dp, H1 Dp = none → ∃ Wv : Nat → Nat → Hp → Prop, (∃ m, Wv 0 m (L2.upd H1 Dp (.lst []))) ∧ ∀ i m H, Wv i m H →
      (J.stop i H ∧ R (.ref Dp) H) ∨ (J.go i H ∧ ∃ Nx : Hp → Prop, (∀ H', Nx H' → ∃ m', m' < m ∧ Wv (i + 1) m' H') ∧ ∀ x H', J.yld i H x H' → g x (L2.wipe σ vs) H' fun σ2 H2 => L2.wipe σ2 vs = L2.wipe σ vs ∧ liftT G W0 mt σ2 H2 fun bb H3 =>
        if bb = true then liftE G W0 me σ2 H3 fun y H4 => ∃ acc, H4 Dp = some (.lst acc) ∧ acc.length < sizeLine ∧ Nx (L2.upd H4 Dp (.lst (acc ++ [y]))) else Nx H3) := by
  intro Dp hD
  obtain ⟨n, Gd, Y, hn, wk, hS, hY⟩ := sr.wk
  obtain ⟨k1, st1⟩ := newF (o := .lst []) k hD
  refine lc_it wk (fun i H2 => ∃ A2 F2 w2 xs out, Stp A F H1 A2 F2 H2 ∧ G.Ok w2 H2 A2 F2 ∧ S A2 F2 H2 ∧ H2 Dp = some (.lst xs) ∧ F2 Dp ∧ ¬ A2 Dp ∧ xs.length ≤ i ∧ RepL F2 H2 xs out ∧ compL b vs mt me (ds.drop i) out ρ w2 Q) ?_ ?_ ?_ ?_
  · exact ⟨A, _, w, [], [], st1, k1, sr.upd _ _ _ _ _ (.inr rfl) hD (sr.stp _ _ _ _ _ _ ⟨fun _ _ h _ => h, fun _ h => h, fun _ h => .inl h, fun a h => h.elim .inl fun e => .inr (e ▸ hD), fun _ h => h, fun _ h => .inl h⟩ k.af s0), upd_same, .inr rfl, fun q => k.out hD (k.af _ q), Nat.le_refl _, .nil, z⟩
  · rintro i H2 _ ⟨A2, F2, w2, xs, out, _, _, s, _⟩; exact hS _ _ _ s
  · rintro i x H2 H3 hi ⟨A2, F2, w2, xs, out, st2, k2, s2, hd, hf, ha, hle, rl, z2⟩ y
    obtain ⟨d, hdd, rd, kk, st3, s3⟩ := hY i H2 x H3 A2 F2 hi s2 y
    rw [drop_cons hdd] at z2
    have er3 : EnvRep A2 F2 H3 (L2.wipe σ vs) (wipeR ρ vs) := (er.step (st2.trans st3) k.af).wipe vs
    have hd3 : H3 Dp = some (.lst xs) := st3.keep _ _ hd ha
    refine gw x σ H3 _ (r.go A2 F2 H3 _ _ x d _ er3 rd z2 _ fun σ' ρ' r' o' z3 => ?_)
    refine ⟨A2, F2, ρ', w2, _, kk _ k2, r', fun e w' H' A' F' _ _ q => q, ht ρ' w2 _ _ _ _ (fun t w4 z4 H4 A4 F4 st4 k4 => ?_) (fun _ _ z => z) z3⟩
    have s4 := sr.stp _ _ _ _ _ _ st4 k2.af s3
    have hd4 : H4 Dp = some (.lst xs) := st4.keep _ _ hd3 ha
    have rl4 : RepL F4 H4 xs out := (rl.mono (st3.keeps k2.af)).mono (st4.keeps k2.af)
    have ha4 : ¬ A4 Dp := fun q => (st4.fa _ q).elim ha fun e => by rw [hd3] at e; cases e
    cases t with
    | false =>
      show (if false = true then _ else _)
      rw [if_neg Bool.false_ne_true]
      exact ⟨A4, F4, w4, xs, out, (st2.trans st3).trans st4, k4, s4, hd4, st4.fm _ hf, ha4, Nat.le_succ_of_le hle, rl4, z4⟩
    | true =>
      show (if true = true then _ else _)
      rw [if_pos rfl]
      rw [if_pos rfl] at z4
      refine ⟨A4, F4, ρ', w4, _, k4, r'.step st4 k2.af, fun e w' H' A' F' _ _ q => q, he ρ' w4 _ _ _ _ (fun v w5 z5 u H5 A5 F5 st5 k5 ru => ?_) (fun _ _ z => z) z4⟩
      have hd5 : H5 Dp = some (.lst xs) := st5.keep _ _ hd4 ha4
      have ha5 : ¬ A5 Dp := fun q => (st5.fa _ q).elim ha4 fun e => by rw [hd4] at e; cases e
      have hf5 : F5 Dp := st5.fm _ (st4.fm _ hf)
      have hil : i < ds.length := by rw [← hn]; exact hi
      refine ⟨xs, hd5, lineLt _ (by omega), ?_⟩
      have kp : Keeps F5 H5 F5 (L2.upd H5 Dp (.lst (xs ++ [u]))) := fun a o h hn2 => ⟨by rw [upd_ne (by intro e; subst e; exact hn2 hf5)]; exact h, hn2⟩
      have st6 : Stp A F H1 A5 F5 H5 := ((st2.trans st3).trans st4).trans st5
      refine ⟨A5, F5, w5, xs ++ [u], out ++ [v], ⟨fun a o h hn2 => ?_, fun a h => ?_, st6.fa, st6.ff, st6.am, st6.fm⟩, ⟨G.frame k5.wi (fun a o h hn2 => ?_) fun a h => .inl h, k5.af, fun a h => ?_⟩, ?_, upd_same, hf5, ha5, ?_, ?_, z5⟩
      · rw [upd_ne (by intro e; subst e; rw [hD] at h; cases h)]; exact st6.keep a o h hn2
      · by_cases e : a = Dp
        · subst e; exact hD
        · rw [upd_ne e] at h; exact st6.there a h
      · rw [upd_ne (by intro e; subst e; exact hn2.elim ha5 fun q => q hf5)]; exact h
      · by_cases e : a = Dp
        · subst e; rw [upd_same]; exact fun q => nomatch q
        · rw [upd_ne e]; exact k5.dom a h
      · exact sr.upd _ _ _ _ _ hf5 hD (sr.stp _ _ _ _ _ _ st5 k4.af s4)
      · rw [List.length_append]; exact Nat.succ_le_succ hle
      · exact ((rl4.mono (st5.keeps k4.af)).append (.cons ru .nil)).mono kp
  · rintro H2 ⟨A2, F2, w2, xs, out, st2, k2, s2, hd, hf, ha, hle, rl, z2⟩
    rw [List.drop_eq_nil_of_le (by omega)] at z2
    exact go Dp xs out w2 H2 A2 F2 st2 k2 hD hd hf ha (by omega) rl z2
section
variable {elt tg iter : Expr} {ifs : List Expr} {scope : Scope} {own : List (Str × Nat)} {pos : Pos} {g : TG} {b : BG} {mi : DEnv → M G.W (List D)} {mt : DEnv → M G.W Bool} {me : DEnv → M G.W D}
theorem dcompN (hc : X.calm = true) (nd : X.N.Nodup) (hi : DI G X Wx tg iter mi) (ok : BlkOk X.N X.env.scope scope own) (r : GRel g b) (gw : GWipe g (own.map (·.2)))
    (hg : ∀ (s : Shared) (H : Hp) (C : Addr) (cl : List (Str × Addr)) (fp : List Addr), PG (X.blk s H scope (compEnvC scope cl C X.env) fp) tg g)
    (ht : ∀ (s : Shared) (H : Hp) (C : Addr) (cl : List (Str × Addr)) (fp : List Addr), DTs G (X.blk s H scope (compEnvC scope cl C X.env) fp) W0 ifs mt)
    (he : ∀ (s : Shared) (H : Hp) (C : Addr) (cl : List (Str × Addr)) (fp : List Addr), DE G (X.blk s H scope (compEnvC scope cl C X.env) fp) W0 elt me) (mtm : ∀ ρ, Mono (mt ρ)) (mem : ∀ ρ, Mono (me ρ))
    (hs : ∀ x, foldedSetIterable iter X.env x = pure x := by intro _; rfl) : DN G X Wx (.ListComp elt [⟨tg, iter, ifs, 0⟩] scope pos) (mComp b (own.map (·.2)) mt me mi) := by
  obtain ⟨⟨wi, hpi, hw⟩, mim⟩ := hi
  refine ⟨PE.imp (pe_lc hc nd hpi ok hg (fun s H C cl fp => (ht s H C cl fp).pe) (fun s H C cl fp => (he s H C cl fp).pe) hs) fun σ H Q ⟨A, F, ρ, w, E, k, er, x, q⟩ => ?_, mComp_mono r mtm mem mim⟩
  refine hw σ H _ ⟨A, F, ρ, w, E, k, er, x, mim ρ w _ _ _ _ (fun ds w' ⟨hl, z⟩ J H' A' F' S s k' sr s0 => ?_) (fun _ _ z => z) q⟩
  exact comp_go sr s0 k' (er.step s k.af) r gw mtm mem hl z fun p xs out w2 H2 A2 F2 st k2 hp h1 h2 h3 h4 h5 ⟨ds', e, z'⟩ => by
    cases e
    exact z' p xs H2 A2 F2 (s.trans st) k2 (s.there _ hp) h1 h2 h3 h4 h5
theorem DN.e {e : Expr} {m : DEnv → M G.W D} (h : DN G X Wx e m) (hl : ∀ ρ w Q E, m ρ w Q E → m ρ w (fun d w' => (∃ ds, d = .lst ds) ∧ Q d w') E) : DE G X Wx e m := by
  refine ⟨PE.imp h.pe fun σ H Q ⟨A, F, ρ, w, E, k, r, x, q⟩ => ⟨A, F, ρ, w, E, k, r, x, h.mono ρ w _ _ _ _ (fun d w' ⟨⟨ds, e⟩, z⟩ => ?_) (fun _ _ z => z) (hl _ _ _ _ q)⟩, h.mono⟩
  refine ⟨ds, e, fun p xs H' A' F' s k' hp h1 h2 h3 h4 h5 => ?_⟩
  subst e
  have kp : Keeps F' H' (fun a => F' a ∧ a ≠ p) H' := fun a o ha hn => ⟨ha, fun z => hn z.1⟩
  refine z (.ref p) H' A' (fun a => F' a ∧ a ≠ p) ⟨s.keep, s.there, s.fa, fun a h => s.ff a h.1, s.am, fun a h => ⟨s.fm a h, fun e => ?_⟩⟩ ⟨G.frame k'.wi (fun a o h _ => h) fun a h => .inl h.1, fun a h => ⟨k'.af a h, fun e => h3 (e ▸ h)⟩, fun a h => k'.dom a h.1⟩ (.lst h1 (fun z => z.2 rfl) h4 (h5.mono kp))
  subst e
  exact k.dom _ h hp
theorem compL_some {vs : List Nat} (r : GRel g b) (ht : ∀ ρ, Mono (mt ρ)) (he : ∀ ρ, Mono (me ρ)) : True := trivial
theorem dcomp (hc : X.calm = true) (nd : X.N.Nodup) (hi : DI G X Wx tg iter mi) (ok : BlkOk X.N X.env.scope scope own) (r : GRel g b) (gw : GWipe g (own.map (·.2)))
    (hg : ∀ (s : Shared) (H : Hp) (C : Addr) (cl : List (Str × Addr)) (fp : List Addr), PG (X.blk s H scope (compEnvC scope cl C X.env) fp) tg g)
    (ht : ∀ (s : Shared) (H : Hp) (C : Addr) (cl : List (Str × Addr)) (fp : List Addr), DTs G (X.blk s H scope (compEnvC scope cl C X.env) fp) W0 ifs mt)
    (he : ∀ (s : Shared) (H : Hp) (C : Addr) (cl : List (Str × Addr)) (fp : List Addr), DE G (X.blk s H scope (compEnvC scope cl C X.env) fp) W0 elt me) (mtm : ∀ ρ, Mono (mt ρ)) (mem : ∀ ρ, Mono (me ρ))
    (hs : ∀ x, foldedSetIterable iter X.env x = pure x := by intro _; rfl) : DE G X Wx (.ListComp elt [⟨tg, iter, ifs, 0⟩] scope pos) (mComp b (own.map (·.2)) mt me mi) :=
  (dcompN hc nd hi ok r gw hg ht he mtm mem hs).e fun ρ w Q E q => hi.mono ρ w _ _ _ _ (fun ds w1 ⟨hl, z⟩ => ⟨hl, compL_mono r mtm mem ds [] ρ w1 _ _ (fun a w z => ⟨⟨a, rfl⟩, z⟩) z⟩) (fun _ _ z => z) q
end
end
end DL

namespace DL
open PySem PySem.Spec PyProof.Rows L2
section
variable {G : Wd} {X : Cx} {Wx : WX} {W : Type}
/-! ### texts -/
theorem SOk.append {x y : Str} (hx : SOk x) (hy : SOk y) (h : x.length + y.length ≤ LB) : SOk (x ++ y) := by
  refine ⟨?_, strOk_of fun c hc => ?_⟩
  · show (x.cps ++ y.cps).size ≤ LB
    rw [Array.size_append]; exact h
  · have : c ∈ x.cps.toList ++ y.cps.toList := by
      have e : (x ++ y).cps = x.cps ++ y.cps := rfl
      rw [e, Array.toList_append] at hc; exact hc
    rcases List.mem_append.mp this with h1 | h1
    · exact strOk_mem hx.2 h1
    · exact strOk_mem hy.2 h1
theorem SOk.sign {x : Str} (hx : SOk x) {c : Nat} (h : c ∈ x.cps.toList) : SOk ⟨#[c]⟩ := ⟨by show 1 ≤ LB; decide, strOk_of fun b hb => by
  have : b = c := by simpa using hb
  subst this; exact strOk_mem hx.2 h⟩
theorem SOk.cut {x : Str} (hx : SOk x) (lo hi : Option Int) : SOk (cutS x lo hi) := by
  refine ⟨?_, strOk_of fun c hc => ?_⟩
  · refine Nat.le_trans ?_ hx.1
    show (((x.cps.toList.drop (HT.sIx x.length 0 lo)).take _).toArray).size ≤ x.cps.size
    rw [List.size_toArray, List.length_take, List.length_drop, Array.length_toList]
    omega
  · unfold cutS at hc
    simp only at hc
    exact strOk_mem hx.2 (List.mem_of_mem_drop (List.mem_of_mem_take hc))

/-! ### + -/
def fAdd : F2 W := fun x y w Q _ => match x, y with
  | .int i, .int j => Q (.int (i + j)) w
  | .str a, .str b => a.length + b.length ≤ LB ∧ Q (.str (a ++ b)) w
  | .lst a, .lst b => a.length + b.length ≤ LB ∧ Q (.lst (a ++ b)) w
  | .tup a, .tup b => a.length + b.length ≤ LB ∧ Q (.tup (a ++ b)) w
  | _, _ => False
theorem fAdd_mono (x y : D) : Mono (fAdd (W := W) x y) := fun w Q Q' E E' hq he q => by
  cases x <;> cases y <;> simp only [fAdd] at q ⊢ <;> first | exact hq _ _ q | exact ⟨q.1, hq _ _ q.2⟩ | exact q
theorem o_add : Op2 G X (binaryOp .Add) fAdd where
  ex := ⟨_, op_add.or (op_add_str.or (op_cat.or op_catA)), fun x y v u w H A F Q E k r1 r2 q => by
    cases x <;> cases y <;> simp only [fAdd] at q
    case int.int i j => exact .inl ⟨i, j, r1.int, r2.int, q _ H A F .refl k (.int _)⟩
    case str.str a b =>
      refine .inr (.inl ⟨a, b, r1.str.1, r2.str.1, line _ q.1, q.2 _ H A F .refl k (.str _ (r1.str.2.append r2.str.2 q.1))⟩)
    case lst.lst a b =>
      obtain ⟨p1, xs, e1, h1, l1, rr1⟩ := r1.lst
      obtain ⟨p2, ys, e2, h2, l2, rr2⟩ := r2.lst
      have hl : xs.length + ys.length ≤ LB := by rw [rr1.length, rr2.length]; exact q.1
      refine .inr (.inr (.inl ⟨p1, p2, xs, ys, e1, e2, h1, h2, line _ hl, fun p hp => q.2 _ _ A F (.new hp) (k.new hp) (.lst upd_same (k.out hp) (by rw [List.length_append]; exact hl) ((rr1.append rr2).new hp))⟩))
    case tup.tup a b =>
      obtain ⟨p1, xs, e1, h1, n1, l1, rr1⟩ := r1.tup
      obtain ⟨p2, ys, e2, h2, n2, l2, rr2⟩ := r2.tup
      have hl : xs.length + ys.length ≤ LB := by rw [rr1.length, rr2.length]; exact q.1
      refine .inr (.inr (.inr ⟨p1, p2, xs, ys, e1, e2, SqT.of h1, SqT.of h2, line _ hl, fun z => ?_, fun z1 z2 => ?_, fun _ _ p hp => q.2 _ _ A F (.new hp) (k.new hp) (.tup upd_same (k.out hp) (by rw [List.length_append]; exact hl) ((rr1.append rr2).new hp))⟩))
      · subst z; cases rr1
        exact q.2 _ H A F .refl k (.tup h2 n2 l2 rr2)
      · subst z2; cases rr2
        exact q.2 _ H A F .refl k (.tup h1 n1 l1 (by simpa using rr1))⟩
  mono := fAdd_mono
/-! ### - * // % ** ^ >> over ints -/
def fI (C : Int → Int → Prop) (g : Int → Int → Int) : F2 W := fun x y w Q _ => ∃ i j, x = .int i ∧ y = .int j ∧ C i j ∧ Q (.int (g i j)) w
theorem o_int {op : Value → Value → Sem Value} {C : Int → Int → Prop} {g : Int → Int → Int} (h : OpR X op (rI C fun i j => .int (g i j))) : Op2 G X op (fI C g) where
  ex := ⟨_, h, fun x y v u w H A F Q E k r1 r2 ⟨i, j, e1, e2, c, q⟩ => by subst e1; subst e2; exact ⟨i, j, r1.int, r2.int, c, q _ H A F .refl k (.int _)⟩⟩
  mono := fun x y w Q Q' E E' hq he ⟨i, j, e1, e2, c, q⟩ => ⟨i, j, e1, e2, c, hq _ _ q⟩
def fI0 (g : Int → Int → D) : F2 W := fun x y w Q _ => ∃ i j, x = .int i ∧ y = .int j ∧ Q (g i j) w
theorem o_int0 {op : Value → Value → Sem Value} {g : Int → Int → Int} (h : OpR X op (rI0 fun i j => .int (g i j))) : Op2 G X op (fI0 fun i j => .int (g i j)) where
  ex := ⟨_, h, fun x y v u w H A F Q E k r1 r2 ⟨i, j, e1, e2, q⟩ => by subst e1; subst e2; exact ⟨i, j, r1.int, r2.int, q _ H A F .refl k (.int _)⟩⟩
  mono := fun x y w Q Q' E E' hq he ⟨i, j, e1, e2, q⟩ => ⟨i, j, e1, e2, hq _ _ q⟩
abbrev fSub : F2 W := fI0 fun i j => .int (i - j)
theorem o_sub : Op2 G X (binaryOp .Sub) fSub := o_int0 op_sub
abbrev fMod : F2 W := fI (fun _ j => 0 < j) fun i j => i % j
theorem o_mod : Op2 G X (binaryOp .Mod) fMod := o_int op_mod
abbrev fDiv : F2 W := fI CDivW fun i j => i / j
theorem o_div : Op2 G X (binaryOp .FloorDiv) fDiv := o_int op_fdivW
def CPowW (i j : Int) : Prop := 0 ≤ j ∧ (Builtin.Int.intBits i : Int) * j ≤ 134217728
abbrev fPow : F2 W := fI CPowW fun i j => i ^ j.toNat
theorem op_powW : OpR X (binaryOp .Pow) (rI CPowW fun i j => .int (i ^ j.toNat)) := opI fun i j _ _ _ _ _ hc q => pow_int hc.1 (by have := hc.2; omega) q
theorem o_pow : Op2 G X (binaryOp .Pow) fPow := o_int op_powW
abbrev fXor : F2 W := fI0 fun i j => .int (Builtin.bitXor i j)
theorem o_xor : Op2 G X (binaryOp .BitXor) fXor := o_int0 op_xor
abbrev fShr : F2 W := fI (fun _ j => 0 ≤ j) fun i j => i / 2 ^ j.toNat
theorem o_shr : Op2 G X (binaryOp .RShift) fShr := o_int op_shr
/-- * : two ints, a text and an int -/
def repS (x : Str) (n : Int) : Str := if n < 1 then Str.empty else if (n == 1 || x.length == 0) = true then x else ⟨(List.replicate n.toNat x.cps).foldl (· ++ ·) #[]⟩
def fMul : F2 W := fun x y w Q _ => match x, y with
  | .int i, .int j => CMulX i j ∧ Q (.int (i * j)) w
  | .str a, .int n => 0 ≤ n ∧ n ≤ LB ∧ a.length * n.toNat ≤ LB ∧ Q (.str (repS a n)) w
  | _, _ => False
theorem fMul_mono (x y : D) : Mono (fMul (W := W) x y) := fun w Q Q' E E' hq he q => by
  cases x <;> cases y <;> simp only [fMul] at q ⊢ <;> first | exact ⟨q.1, hq _ _ q.2⟩ | exact ⟨q.1, q.2.1, q.2.2.1, hq _ _ q.2.2.2⟩ | exact q
theorem foldl_app (a : Array Nat) : ∀ (n : Nat) (acc : Array Nat), ((List.replicate n a).foldl (· ++ ·) acc).toList = acc.toList ++ (List.replicate n a.toList).flatten
  | 0, acc => by simp
  | n + 1, acc => by
    rw [List.replicate_succ, List.foldl_cons, foldl_app a n (acc ++ a), List.replicate_succ, List.flatten_cons, Array.toList_append, List.append_assoc]
theorem repS_list (x : Str) {n : Int} (h : 0 ≤ n) : (repS x n).cps.toList = (List.replicate n.toNat x.cps.toList).flatten := by
  unfold repS
  split
  · have : n = 0 := by omega
    subst this; rfl
  · split
    · rename_i h1 h2
      rw [Bool.or_eq_true] at h2
      rcases h2 with h2 | h2
      · have : n = 1 := by simpa using h2
        subst this; simp
      · have : x.cps.toList = [] := by
          have h3 : x.cps.size = 0 := beq_iff_eq.mp h2
          exact List.eq_nil_of_length_eq_zero (by rw [Array.length_toList]; exact h3)
        rw [this]; simp
    · show ((List.replicate n.toNat x.cps).foldl (· ++ ·) #[]).toList = _
      rw [foldl_app]; simp
theorem SOk.rep {x : Str} (hx : SOk x) {n : Int} (h : 0 ≤ n) (hl : x.length * n.toNat ≤ LB) : SOk (repS x n) := by
  have e := repS_list x h
  refine ⟨?_, strOk_of fun c hc => ?_⟩
  · show (repS x n).cps.size ≤ LB
    rw [← Array.length_toList, e]
    have : ∀ k, ((List.replicate k x.cps.toList).flatten).length = x.cps.size * k := fun k => by
      induction k with
      | zero => simp
      | succ k ih => rw [List.replicate_succ, List.flatten_cons, List.length_append, ih, Array.length_toList, Nat.mul_succ, Nat.add_comm]
    rw [this]; exact hl
  · rw [e] at hc
    obtain ⟨l, h1, h2⟩ := List.mem_flatten.mp hc
    have := (List.mem_replicate.mp h1).2
    subst this; exact strOk_mem hx.2 h2
theorem op_repStr : OpR X (binaryOp .Mult) (fun x y H Q => ∃ a n, x = .str a ∧ y = .int n ∧ SOk a ∧ 0 ≤ n ∧ n ≤ LB ∧ a.length * n.toNat ≤ LB ∧ Q (.str (repS a n)) H) := by
  intro pins s σ H x y v u Q I rx ry ⟨a, n, e1, e2, ha, h0, h1, hl, q⟩
  subst e1; subst e2
  obtain ⟨t, rfl⟩ := rx
  obtain ⟨t', rfl⟩ := ry
  have hL : (LB : Int) = 100000 := rfl
  have hal : a.length ≤ 100000 := ha.1
  refine PySem.P.mul_str (by rw [decide_eq_false (by omega), decide_eq_false (by omega)]; rfl) (fun h2 _ h3 => ?_) (fun _ _ => ?_) ?_
  · have hn : n ≠ 0 := by omega
    have h4 : (100000 : Int) ≤ (2 ^ 63 - 1) / n := (Int.le_ediv_iff_mul_le (by omega)).mpr (by omega)
    omega
  · show decide _ = false
    refine decide_eq_false ?_
    have : a.length * n.toNat ≤ 100000 := hl
    have e : sizeLine = 16777216 := sizeLine_eq
    omega
  · have fin : ∀ (b : Str) (s' : Shared) (t : Tok), Inv X pins σ H s' → b = repS a n → EP X pins σ Q (.str b t) s' := fun b s' t I' e => ⟨.str b, H, I', ⟨t, rfl⟩, e ▸ q⟩
    by_cases c1 : n < 1
    · rw [if_pos c1]
      exact ⟨by decide, fin _ _ _ (I.tok _) (by unfold repS; rw [if_pos c1])⟩
    · rw [if_neg c1]
      by_cases c2 : (n == 1 || a.length == 0) = true
      · rw [if_pos c2]
        exact fin _ _ _ I (by unfold repS; rw [if_neg c1, if_pos c2])
      · rw [if_neg c2]
        refine ⟨?_, fin _ _ _ (I.tok _) (by unfold repS; rw [if_neg c1, if_neg c2])⟩
        have := (ha.rep h0 hl).1
        unfold repS at this
        rw [if_neg c1, if_neg c2] at this
        exact line _ this
theorem o_mul : Op2 G X (binaryOp .Mult) fMul where
  ex := ⟨_, op_mulX.or op_repStr, fun x y v u w H A F Q E k r1 r2 q => by
    cases x <;> cases y <;> simp only [fMul] at q
    case int.int i j => exact .inl ⟨i, j, r1.int, r2.int, q.1, q.2 _ H A F .refl k (.int _)⟩
    case str.int a n => exact .inr ⟨a, n, r1.str.1, r2.int, r1.str.2, q.1, q.2.1, q.2.2.1, q.2.2.2 _ H A F .refl k (.str _ (r1.str.2.rep q.1 q.2.2.1))⟩⟩
  mono := fMul_mono
/-! ### < <= > >= -/
def fOrd (gi : Int → Int → Bool) (gs : Str → Str → Bool) : F2 W := fun x y w Q _ => match x, y with
  | .int i, .int j => Q (.bl (gi i j)) w
  | .str a, .str b => Q (.bl (gs a b)) w
  | _, _ => False
theorem o_ord {op : Value → Value → Sem Value} {gi : Int → Int → Bool} {gs : Str → Str → Bool} (h1 : OpR X op (rI0 fun i j => .bl (gi i j))) (h2 : OpR X op (fun x y H Q => ∃ i j, x = .str i ∧ y = .str j ∧ Q (.bl (gs i j)) H)) : Op2 G X op (fOrd gi gs) where
  ex := ⟨_, h1.or h2, fun x y v u w H A F Q E k r1 r2 q => by
    cases x <;> cases y <;> simp only [fOrd] at q
    case int.int i j => exact .inl ⟨i, j, r1.int, r2.int, q _ H A F .refl k (.bl _)⟩
    case str.str i j => exact .inr ⟨i, j, r1.str.1, r2.str.1, q _ H A F .refl k (.bl _)⟩⟩
  mono := fun x y w Q Q' E E' hq he q => by
    cases x <;> cases y <;> simp only [fOrd] at q ⊢ <;> exact hq _ _ q
abbrev strLt (a b : Str) : Bool := decide (a.cps.toList < b.cps.toList)
abbrev fLt : F2 W := fOrd (fun i j => decide (i < j)) strLt
abbrev fLe : F2 W := fOrd (fun i j => decide (i ≤ j)) (fun a b => !strLt b a)
abbrev fGt : F2 W := fOrd (fun i j => decide (j < i)) (fun a b => strLt b a)
abbrev fGe : F2 W := fOrd (fun i j => decide (j ≤ i)) (fun a b => !strLt a b)
theorem o_lt : Op2 G X (compareOp .Lt) fLt := o_ord op_lt op_lt_str
theorem o_ge : Op2 G X (compareOp .GtE) fGe := o_ord op_ge op_ge_str
/-! ### == != over data -/
mutual
def py : D → PyData
  | .non => .none
  | .bl b => .bool b
  | .int i => .int i
  | .str x => .str x
  | .lst xs => .list (pyL xs)
  | .tup xs => .tuple (pyL xs)
  | .hnd _ => .none
  | .ty _ => .none
  | .dct _ => .none
def pyL : List D → List PyData
  | [] => []
  | x :: xs => py x :: pyL xs
end
/-- plain data of at most that depth -/
def okD : Nat → D → Bool
  | _, .non => true
  | _, .bl _ => true
  | _, .int _ => true
  | _, .str _ => true
  | n + 1, .lst xs => xs.all (okD n)
  | n + 1, .tup xs => xs.all (okD n)
  | _, _ => false
theorem okD_rep {K : PySem.W.Frag} {F : Foot} {H : Hp} : ∀ (n : Nat),
    (∀ (d : D) (v : V), Rep F H v d → okD n d = true → Dp K H v (py d) ∧ PyData.canLay0 (py d) = true ∧ PyData.depth (py d) ≤ n) ∧
    (∀ (ds : List D) (vs : List V), RepL F H vs ds → ds.all (okD n) = true → DpAll K H vs (pyL ds) ∧ PyData.canLayAll0 (pyL ds) = true ∧ PyData.depthAll (pyL ds) ≤ n) := by
  have all_of : ∀ n, (∀ (d : D) (v : V), Rep F H v d → okD n d = true → Dp K H v (py d) ∧ PyData.canLay0 (py d) = true ∧ PyData.depth (py d) ≤ n) →
      (∀ (ds : List D) (vs : List V), RepL F H vs ds → ds.all (okD n) = true → DpAll K H vs (pyL ds) ∧ PyData.canLayAll0 (pyL ds) = true ∧ PyData.depthAll (pyL ds) ≤ n) := by
    intro n h ds
    induction ds with
    | nil => intro vs r _; cases r; exact ⟨.nil, rfl, Nat.zero_le _⟩
    | cons d ds ih =>
      intro vs r ho
      cases r with
      | cons r1 r2 =>
        rw [List.all_cons, Bool.and_eq_true] at ho
        obtain ⟨a1, a2, a3⟩ := h d _ r1 ho.1
        obtain ⟨b1, b2, b3⟩ := ih _ r2 ho.2
        refine ⟨.cons a1 b1, ?_, ?_⟩
        · simp only [pyL, PyData.canLayAll0, a2, b2, Bool.and_self]
        · simp only [pyL, PyData.depthAll]; exact Nat.max_le.mpr ⟨a3, b3⟩
  intro n
  induction n with
  | zero =>
    have base : ∀ (d : D) (v : V), Rep F H v d → okD 0 d = true → Dp K H v (py d) ∧ PyData.canLay0 (py d) = true ∧ PyData.depth (py d) ≤ 0 := by
      intro d v r ho
      cases r <;> simp only [okD, Bool.false_eq_true] at ho
      · exact ⟨.non, rfl, Nat.le_refl _⟩
      · exact ⟨.bl _, rfl, Nat.le_refl _⟩
      · exact ⟨.int _, rfl, Nat.le_refl _⟩
      · rename_i x hx
        exact ⟨.str _, by simp only [py, PyData.canLay0]; exact hx.2, Nat.le_refl _⟩
    exact ⟨base, all_of 0 base⟩
  | succ n ih =>
    have base : ∀ (d : D) (v : V), Rep F H v d → okD (n + 1) d = true → Dp K H v (py d) ∧ PyData.canLay0 (py d) = true ∧ PyData.depth (py d) ≤ n + 1 := by
      intro d v r ho
      cases r <;> simp only [okD, Bool.false_eq_true] at ho
      · exact ⟨.non, rfl, Nat.zero_le _⟩
      · exact ⟨.bl _, rfl, Nat.zero_le _⟩
      · exact ⟨.int _, rfl, Nat.zero_le _⟩
      · rename_i x hx
        exact ⟨.str _, by simp only [py, PyData.canLay0]; exact hx.2, Nat.zero_le _⟩
      · rename_i a xs ds h1 n1 l1 rr
        obtain ⟨b1, b2, b3⟩ := ih.2 ds xs rr ho
        exact ⟨.lst (SqL.of h1) b1, by simp only [py, PyData.canLay0]; exact b2, by simp only [py, PyData.depth]; exact Nat.succ_le_succ b3⟩
      · rename_i a xs ds h1 n1 l1 rr
        obtain ⟨b1, b2, b3⟩ := ih.2 ds xs rr ho
        exact ⟨.tup (SqT.of h1) b1, by simp only [py, PyData.canLay0]; exact b2, by simp only [py, PyData.depth]; exact Nat.succ_le_succ b3⟩
    exact ⟨base, all_of (n + 1) base⟩
theorem okD_repO {K : PySem.W.Frag} {F : Foot} {H : Hp} {v : V} {d : D} (r : RepW F H v d) (h : okD 64 d = true) : Dp K H v (py d) ∧ SeqAt.shaped (py d) = true := by
  have fin : Dp K H v (py d) ∧ PyData.canLay0 (py d) = true ∧ PyData.depth (py d) ≤ 64 := by
    rcases r with r | ⟨a, xs, es, e1, e2, e3, e4, e5⟩ | ⟨a, xs, es, e1, e2, _⟩
    · exact (okD_rep 64).1 d v r h
    · subst e1; subst e2
      have ho : es.all (okD 63) = true := by simpa only [okD] using h
      obtain ⟨b1, b2, b3⟩ := (okD_rep (K := K) 63).2 es xs e5 ho
      exact ⟨.lst (SqL.of e3) b1, by simp only [py, PyData.canLay0]; exact b2, by simp only [py, PyData.depth]; exact Nat.succ_le_succ b3⟩
    · subst e2; cases h
  refine ⟨fin.1, ?_⟩
  unfold SeqAt.shaped
  rw [fin.2.1, Bool.true_and]
  exact decide_eq_true fin.2.2
def eqD (x y : D) : Bool := PyData.eqv (py x) (py y)
def fEq : F2 W := fun x y w Q _ => okD 64 x = true ∧ okD 64 y = true ∧ Q (.bl (eqD x y)) w
def fNe : F2 W := fun x y w Q _ => okD 64 x = true ∧ okD 64 y = true ∧ Q (.bl (!eqD x y)) w
theorem o_eq {k : Nat} (hr : RoomG k X.A) : Op2 G X (compareOp .Eq) fEq where
  ex := ⟨_, op_eqD hr.units, fun x y v u w H A F Q E k r1 r2 ⟨h1, h2, q⟩ => by
    obtain ⟨a1, a2⟩ := okD_repO (K := X.K) r1 h1
    obtain ⟨b1, b2⟩ := okD_repO (K := X.K) r2 h2
    exact ⟨py x, py y, a1, b1, a2, b2, q _ H A F .refl k (.bl _)⟩⟩
  mono := fun x y w Q Q' E E' hq he ⟨h1, h2, q⟩ => ⟨h1, h2, hq _ _ q⟩
theorem o_ne {k : Nat} (hr : RoomG k X.A) : Op2 G X (compareOp .NotEq) fNe where
  ex := ⟨_, op_neD hr.units, fun x y v u w H A F Q E k r1 r2 ⟨h1, h2, q⟩ => by
    obtain ⟨a1, a2⟩ := okD_repO (K := X.K) r1 h1
    obtain ⟨b1, b2⟩ := okD_repO (K := X.K) r2 h2
    exact ⟨py x, py y, a1, b1, a2, b2, q _ H A F .refl k (.bl _)⟩⟩
  mono := fun x y w Q Q' E E' hq he ⟨h1, h2, q⟩ => ⟨h1, h2, hq _ _ q⟩
end
end DL

namespace DL
open PySem PySem.Spec PyProof.Rows L2
section
variable {G : Wd} {X : Cx} {Wx : WX} {W : Type}
/-! ### isinstance -/
def tyD : D → Option String
  | .non => some "NoneType" | .bl _ => some "bool" | .int _ => some "int" | .str _ => some "str" | .lst _ => some "list" | .tup _ => some "tuple" | .dct _ => some "dict" | .hnd _ => none | .ty _ => none
theorem tyX_of {K : PySem.W.Frag} {F : Foot} {H : Hp} {v : V} {d : D} {t : String} (r : RepW F H v d) (h : tyD d = some t) : TyX K H v (.type t) := by
  cases d <;> simp only [tyD, Option.some.injEq, reduceCtorEq] at h
  · subst h; rw [r.non]; exact .base .non
  · subst h; rw [r.bl]; exact .base (.bl _)
  · subst h; rw [r.int]; exact .base (.int _)
  · subst h; rw [r.str.1]; exact .base (.str _)
  · subst h; obtain ⟨a, xs, rfl, h1, _⟩ := r.lst; exact .base (.lst h1)
  · subst h; obtain ⟨a, xs, rfl, h1, _⟩ := r.tup; exact .base (.tup h1)
  · subst h; obtain ⟨a, xs, rfl, h1, _⟩ := r.dct; exact .base (.dK h1)
def instT (n : String) (d : D) : Bool := match d with
  | .bl _ => n == "bool" || n == "int"
  | .int _ => n == "int"
  | .str _ => n == "str"
  | .lst _ => n == "list"
  | .tup _ => n == "tuple"
  | .dct _ => n == "dict"
  | _ => false
def tyNames : List String := ["int", "str", "bool", "tuple", "list", "dict"]
theorem kit_inst {K : PySem.W.Frag} {d : D} {t n : String} (h : tyD d = some t) (hn : n ∈ tyNames) : PySem.W.kitOne K (.type t) (.type n) = some (instT n d) := by
  refine kit_ty ?_
  unfold tyNames at hn
  simp only [List.mem_cons, List.not_mem_nil, or_false] at hn
  cases d <;> simp only [tyD, Option.some.injEq, reduceCtorEq] at h <;> subst h <;> rcases hn with rfl | rfl | rfl | rfl | rfl | rfl <;> simp only [instT] <;> decide +kernel
def dataD (d : D) : Bool := (tyD d).isSome
theorem dataD_ty {d : D} (h : dataD d = true) : ∃ t, tyD d = some t := Option.isSome_iff_exists.mp h
/-- isinstance(x, T), isinstance(x, (T, U)) -/
def fIsi : FA W := fun ds w Q _ => ∃ x c, ds = [x, c] ∧ dataD x = true ∧ ((∃ n, c = .ty n ∧ n ∈ tyNames ∧ Q (.bl (instT n x)) w) ∨ (∃ ns : List String, c = .tup (ns.map D.ty) ∧ (∀ n ∈ ns, n ∈ tyNames) ∧ Q (.bl (ns.any fun n => instT n x)) w))
theorem kitAny_of {K : PySem.W.Frag} {d : D} {t : String} (h : tyD d = some t) : ∀ ns : List String, (∀ n ∈ ns, n ∈ tyNames) → PySem.W.kitAny K (.type t) (ns.map Value.type) = some (ns.any fun n => instT n d)
  | [], _ => rfl
  | n :: ns, hn => by
    rw [List.map_cons, List.any_cons]
    refine kitAny_cons (kit_inst h (hn n List.mem_cons_self)) (fun e => ?_) (fun e => ?_)
    · rw [e, Bool.false_or]; exact kitAny_of h ns fun m hm => hn m (List.mem_cons_of_mem _ hm)
    · rw [e, Bool.true_or]
theorem reps_ty {F : Foot} {H : Hp} : ∀ {vs : List V} {ns : List String}, RepL F H vs (ns.map D.ty) → vs = ns.map V.ty
  | _, [], .nil => rfl
  | _, n :: ns, .cons (.ty _) t => congrArg (V.ty n :: ·) (reps_ty t)
theorem clsV_map : ∀ ns : List String, Paired ClsV (ns.map V.ty) (ns.map Value.type)
  | [] => .nil
  | n :: ns => .cons (.ty n) (clsV_map ns)
theorem o_isi : OpC G X (.builtin "isinstance") fIsi where
  ex := ⟨_, call_isi.or call_isiT, fun xs vs w H A F Q E k r ⟨x, c, e, hd, q⟩ => by
    subst e
    obtain ⟨t, ht⟩ := dataD_ty hd
    cases r with
    | cons r1 r => cases r with
      | cons r2 r => cases r with
        | nil =>
          rcases q with ⟨n, e, hn, q⟩ | ⟨ns, e, hn, q⟩
          · subst e
            refine .inl ⟨_, _, .type t, .type n, _, rfl, ?_, tyX_of r1 ht, kit_inst ht hn, q _ H A F .refl k (.bl _)⟩
            rw [r2.ty]; exact .ty n
          · subst e
            obtain ⟨a, xs, e1, h1, n1, l1, rr⟩ := r2.tup
            subst e1
            have := reps_ty rr
            subst this
            exact .inr ⟨_, a, ns.map V.ty, .type t, ns.map Value.type, _, rfl, h1, clsV_map ns, tyX_of r1 ht, kitAny_of ht ns hn, q _ H A F .refl k (.bl _)⟩⟩
  mono := fun ds w Q Q' E E' hq he ⟨x, c, e, hd, q⟩ => ⟨x, c, e, hd, q.elim (fun ⟨n, e, hn, q⟩ => .inl ⟨n, e, hn, hq _ _ q⟩) fun ⟨ns, e, hn, q⟩ => .inr ⟨ns, e, hn, hq _ _ q⟩⟩
/-! ### len -/
def lenD : D → Option Nat | .lst xs => some xs.length | .tup xs => some xs.length | .str x => some x.length | _ => none
def fLen : FA W := fun ds w Q _ => ∃ x n, ds = [x] ∧ lenD x = some n ∧ Q (.int (n : Nat)) w
theorem o_len : OpC G X (.builtin "len") fLen where
  ex := ⟨_, call_len, fun xs vs w H A F Q E k r ⟨x, n, e, hd, q⟩ => by
    subst e
    cases r with
    | cons r1 r => cases r with
      | nil =>
        refine ⟨_, n, rfl, ?_, q _ H A F .refl k (.int _)⟩
        cases x <;> simp only [lenD, Option.some.injEq, reduceCtorEq] at hd
        · subst hd; rw [r1.str.1]; exact ⟨line _ r1.str.2.1, rfl⟩
        · subst hd; obtain ⟨a, ys, rfl, h1, l1, rr⟩ := r1.lst; exact .inl ⟨ys, SqL.of h1, rr.length.symm⟩
        · subst hd; obtain ⟨a, ys, rfl, h1, n1, l1, rr⟩ := r1.tup; exact .inr ⟨ys, SqT.of h1, rr.length.symm⟩⟩
  mono := fun ds w Q Q' E E' hq he ⟨x, n, e, hd, q⟩ => ⟨x, n, e, hd, hq _ _ q⟩
/-! ### min, max of two; all, any, sum -/
def f2I (g : Int → Int → Int) : FA W := fun ds w Q _ => ∃ i j, ds = [.int i, .int j] ∧ Q (.int (g i j)) w
theorem o_2I {f : Value} {g : Int → Int → Int} (h : CallR X f (fun xs H Q => ∃ i j, xs = [.int i, .int j] ∧ Q (.int (g i j)) H)) : OpC G X f (f2I g) where
  ex := ⟨_, h, fun xs vs w H A F Q E k r ⟨i, j, e, q⟩ => by
    subst e
    cases r with
    | cons r1 r => cases r with
      | cons r2 r => cases r with
        | nil => rw [r1.int, r2.int]; exact ⟨i, j, rfl, q _ H A F .refl k (.int _)⟩⟩
  mono := fun ds w Q Q' E E' hq he ⟨i, j, e, q⟩ => ⟨i, j, e, hq _ _ q⟩
abbrev fMax2 : FA W := f2I fun i j => if j > i then j else i
abbrev fMin2 : FA W := f2I fun i j => if j < i then j else i
theorem o_max2 (hc : X.calm = true) : OpC G X (.builtin "max") fMax2 := o_2I (call_max2 hc)
theorem o_min2 (hc : X.calm = true) : OpC G X (.builtin "min") fMin2 := o_2I (call_min2 hc)
def fAll : FA W := fun ds w Q _ => ∃ bs : List Bool, ds = [.lst (bs.map D.bl)] ∧ Q (.bl (bs.all id)) w
theorem o_all (hc : X.calm = true) : OpC G X (.builtin "all") fAll where
  ex := ⟨_, cr_all hc, fun xs vs w H A F Q E k r ⟨bs, e, q⟩ => by
    subst e
    cases r with
    | cons r1 r => cases r with
      | nil =>
        obtain ⟨a, ys, rfl, h1, l1, rr⟩ := r1.lst
        have := rr.bls
        subst this
        exact ⟨a, bs, rfl, SqL.of h1, q _ H A F .refl k (.bl _)⟩⟩
  mono := fun ds w Q Q' E E' hq he ⟨bs, e, q⟩ => ⟨bs, e, hq _ _ q⟩
def fSum : FA W := fun ds w Q _ => ∃ ns : List Int, ds = [.lst (ns.map D.int)] ∧ Q (.int ns.sum) w
theorem o_sum (hc : X.calm = true) : OpC G X (.builtin "sum") fSum where
  ex := ⟨_, cr_sum hc, fun xs vs w H A F Q E k r ⟨bs, e, q⟩ => by
    subst e
    cases r with
    | cons r1 r => cases r with
      | nil =>
        obtain ⟨a, ys, rfl, h1, l1, rr⟩ := r1.lst
        have := rr.ints
        subst this
        exact ⟨a, bs, rfl, SqL.of h1, q _ H A F .refl k (.int _)⟩⟩
  mono := fun ds w Q Q' E E' hq he ⟨bs, e, q⟩ => ⟨bs, e, hq _ _ q⟩
/-! ### list(x), tuple(x) -/
def seqOf : D → Option (List D) | .lst xs => some xs | .tup xs => some xs | _ => none
def fList : FA W := fun ds w Q _ => ∃ x ys, ds = [x] ∧ seqOf x = some ys ∧ Q (.lst ys) w
def fTuple : FA W := fun ds w Q _ => ∃ x ys, ds = [x] ∧ seqOf x = some ys ∧ Q (.tup ys) w
theorem o_list : OpC G X (.type "list") fList where
  ex := ⟨_, call_list_of, fun xs vs w H A F Q E k r ⟨x, ys, e, hd, q⟩ => by
    subst e
    cases r with
    | cons r1 r => cases r with
      | nil =>
        cases x <;> simp only [seqOf, Option.some.injEq, reduceCtorEq] at hd
        · subst hd; obtain ⟨a, zs, rfl, h1, l1, rr⟩ := r1.lst
          exact ⟨a, zs, rfl, .inl (SqL.of h1), fun p hp => q _ _ A F (.new hp) (k.new hp) (.lst upd_same (k.out hp) l1 (rr.new hp))⟩
        · subst hd; obtain ⟨a, zs, rfl, h1, n1, l1, rr⟩ := r1.tup
          exact ⟨a, zs, rfl, .inr (SqT.of h1), fun p hp => q _ _ A F (.new hp) (k.new hp) (.lst upd_same (k.out hp) l1 (rr.new hp))⟩⟩
  mono := fun ds w Q Q' E E' hq he ⟨x, ys, e, hd, q⟩ => ⟨x, ys, e, hd, hq _ _ q⟩
theorem o_tuple : OpC G X (.type "tuple") fTuple where
  ex := ⟨_, call_tuple_of, fun xs vs w H A F Q E k r ⟨x, ys, e, hd, q⟩ => by
    subst e
    cases r with
    | cons r1 r => cases r with
      | nil =>
        cases x <;> simp only [seqOf, Option.some.injEq, reduceCtorEq] at hd
        · subst hd; obtain ⟨a, zs, rfl, h1, l1, rr⟩ := r1.lst
          exact ⟨a, zs, rfl, .inl ⟨SqL.of h1, fun p hp => q _ _ A F (.new hp) (k.new hp) (.tup upd_same (k.out hp) l1 (rr.new hp))⟩⟩
        · subst hd
          rcases r1 with r1 | ⟨_, _, _, _, e, _⟩ | ⟨_, _, _, _, e, _⟩
          · cases r1 with
            | tup h1 n1 l1 rr => exact ⟨_, _, rfl, .inr ⟨SqT.of h1, q _ H A F .refl k (.tup h1 n1 l1 rr)⟩⟩
          · cases e
          · cases e⟩
  mono := fun ds w Q Q' E E' hq he ⟨x, ys, e, hd, q⟩ => ⟨x, ys, e, hd, hq _ _ q⟩
/-! ### a[i], a[lo:hi] -/
def fIx : F2 W := fun x y w Q _ => match x, y with
  | .lst xs, .int i => ∃ d, atI xs i = some d ∧ Q d w
  | .tup xs, .int i => ∃ d, atI xs i = some d ∧ Q d w
  | .str z, .int i => ∃ c, atI z.cps.toList i = some c ∧ Q (.str ⟨#[c]⟩) w
  | _, _ => False
theorem RepL.atI {F : Foot} {H : Hp} {vs : List V} {ds : List D} (r : RepL F H vs ds) {i : Int} {d : D} (h : L2.atI ds i = some d) : ∃ v, L2.atI vs i = some v ∧ Rep F H v d := by
  unfold L2.atI at h ⊢
  rw [r.length]
  cases q : ixN ds.length i with
  | none => rw [q] at h; cases h
  | some j =>
    rw [q] at h
    exact r.get h
theorem o_ix : OpIx G X fIx where
  ex := ⟨_, ix_seq, fun x y v u w H A F Q E k r1 r2 q => by
    cases x <;> cases y <;> simp only [fIx] at q
    case lst.int xs i =>
      obtain ⟨d, hd, q⟩ := q
      obtain ⟨a, ys, rfl, h1, l1, rr⟩ := r1.lst
      obtain ⟨z, hz, rz⟩ := rr.atI hd
      exact .inl ⟨a, ys, i, z, rfl, r2.int, SqL.of h1, hz, q _ H A F .refl k rz⟩
    case tup.int xs i =>
      obtain ⟨d, hd, q⟩ := q
      obtain ⟨a, ys, rfl, h1, n1, l1, rr⟩ := r1.tup
      obtain ⟨z, hz, rz⟩ := rr.atI hd
      exact .inr (.inl ⟨a, ys, i, z, rfl, r2.int, SqT.of h1, hz, q _ H A F .refl k rz⟩)
    case str.int z i =>
      obtain ⟨c, hc, q⟩ := q
      obtain ⟨e, ok⟩ := r1.str
      refine .inr (.inr ⟨z, i, c, e, r2.int, line _ ok.1, hc, q _ H A F .refl k (.str _ (ok.sign ?_))⟩)
      obtain ⟨j, _, h2, _⟩ := atI_get hc
      exact List.mem_of_getElem? h2⟩
  mono := fun x y w Q Q' E E' hq he q => by
    cases x <;> cases y <;> simp only [fIx] at q ⊢
    all_goals (obtain ⟨d, hd, q⟩ := q; exact ⟨d, hd, hq _ _ q⟩)
def cutL {α : Type} (xs : List α) (lo hi : Option Int) : List α := (xs.drop (HT.sIx xs.length 0 lo)).take (HT.sIx xs.length xs.length hi - HT.sIx xs.length 0 lo)
theorem RepL.cut {F : Foot} {H : Hp} {vs : List V} {ds : List D} (r : RepL F H vs ds) (lo hi : Option Int) : RepL F H (cutV vs lo hi) (cutL ds lo hi) := by
  unfold cutV cutL
  rw [r.length]
  exact (r.drop _).take _
def fSl (x : D) (lo hi : Option Int) : M W D := fun w Q _ => match x with
  | .lst xs => Q (.lst (cutL xs lo hi)) w
  | .tup xs => Q (.tup (cutL xs lo hi)) w
  | .str z => Q (.str (cutS z lo hi)) w
  | _ => False
theorem cutL_whole {α : Type} (xs : List α) (lo hi : Option Int) (h : HT.sIx xs.length 0 lo = 0 ∧ HT.sIx xs.length xs.length hi = xs.length) : cutL xs lo hi = xs := by
  unfold cutL
  rw [h.1, h.2, List.drop_zero, Nat.sub_zero, List.take_length]
theorem o_sl : OpSl G X fSl where
  ex := ⟨_, sl_list.or (sl_tupA.or sl_str), fun x v lo hi w H A F Q E k r1 q => by
    cases x <;> simp only [fSl] at q
    case lst xs =>
      obtain ⟨a, ys, rfl, h1, l1, rr⟩ := r1.lst
      exact .inl ⟨a, ys, rfl, SqL.of h1, fun p hp => q _ _ A F (.new hp) (k.new hp) (.lst upd_same (k.out hp) (Nat.le_trans (cutV_length _ _ _) l1) ((rr.cut lo hi).new hp))⟩
    case tup xs =>
      rcases r1 with r1 | ⟨_, _, _, _, e, _⟩ | ⟨_, _, _, _, e, _⟩
      · cases r1 with
        | @tup a ys _ h1 n1 l1 rr =>
          refine .inr (.inl ⟨a, ys, rfl, SqT.of h1, fun hw => ?_, fun _ p hp => q _ _ A F (.new hp) (k.new hp) (.tup upd_same (k.out hp) (Nat.le_trans (cutV_length _ _ _) l1) ((rr.cut lo hi).new hp))⟩)
          rw [cutL_whole xs lo hi (by rw [← rr.length]; exact hw)] at q
          exact q _ H A F .refl k (.tup h1 n1 l1 rr)
      · cases e
      · cases e
    case str z =>
      exact .inr (.inr ⟨z, r1.str.1, line _ r1.str.2.1, q _ H A F .refl k (.str _ (r1.str.2.cut lo hi))⟩)⟩
  mono := fun x lo hi w Q Q' E E' hq he q => by
    cases x <;> simp only [fSl] at q ⊢ <;> exact hq _ _ q
/-- xs[::-1] of a list -/
def mRev (m : DEnv → M W D) : DEnv → M W D := fun ρ w Q E => m ρ w (fun d w1 => ∃ xs, d = .lst xs ∧ Q (.lst xs.reverse) w1) E
theorem drev {e : Expr} {m : DEnv → M G.W D} {k : Nat} {p1 p2 p3 pos : Pos} (he : DU G X Wx e m) : DE G X Wx (.Subscript e (.Slice none none (some (.UnaryOp .USub (.Constant (.int 1) k p1) p2)) p3) pos) (mRev m) := by
  have hk : ∀ d : D, Mono (fun (w : G.W) (Q : D → G.W → Prop) (_ : Ex → G.W → Prop) => ∃ xs, d = .lst xs ∧ Q (.lst xs.reverse) w) := fun d w Q Q' E E' hq _ ⟨xs, e, q⟩ => ⟨xs, e, hq _ _ q⟩
  refine ⟨PE.imp (pe_revL he.pe) fun σ H Q h1 => ?_, fun ρ => (he.mono ρ).bind hk⟩
  refine runU he.mono (fun d _ => hk d) (P := .e G Q) h1 fun v d H1 ⟨A, F, ρ, w, E, k, r, x, rp, xs, e, q⟩ => ?_
  subst e
  obtain ⟨a, ys, rfl, h1, l1, rr⟩ := rp.w.lst
  exact ⟨a, ys, rfl, SqL.of h1, fun p hp => q _ _ A F (.new hp) (k.new hp) (.lst upd_same (k.out hp) (by rw [List.length_reverse]; exact l1) (rr.reverse.new hp))⟩
/-! ### in, not in -/
def flatD : D → Bool | .non => true | .bl _ => true | .int _ => true | .str _ => true | _ => false
def eqF : D → D → Bool
  | .non, .non => true
  | .bl a, .bl b => a == b
  | .bl a, .int b => (if a then 1 else 0) == b
  | .int a, .bl b => a == (if b then 1 else 0)
  | .int a, .int b => a == b
  | .str a, .str b => a == b
  | _, _ => false
def inD (x : D) (xs : List D) : Bool := xs.any fun y => eqF y x
theorem flat_rep {F : Foot} {H : Hp} {v : V} {d : D} (r : Rep F H v d) (h : flatD d = true) : flatV v = true := by
  cases r <;> first | rfl | (simp [flatD] at h)
theorem eqF_rep {F : Foot} {H : Hp} {v u : V} {x y : D} (r : Rep F H v x) (s : Rep F H u y) (h : flatD x = true) (h' : flatD y = true) : eqV v u = eqF x y := by
  cases r <;> simp [flatD] at h <;> cases s <;> simp [flatD] at h' <;> rfl
theorem inD_rep {F : Foot} {H : Hp} {v : V} {x : D} (r : Rep F H v x) (h : flatD x = true) : ∀ {vs : List V} {ds : List D}, RepL F H vs ds → ds.all flatD = true → vs.all flatV = true ∧ inV v vs = inD x ds
  | _, _, .nil, _ => ⟨rfl, rfl⟩
  | _, _, .cons s t, ho => by
    rw [List.all_cons, Bool.and_eq_true] at ho
    obtain ⟨a, b⟩ := inD_rep r h t ho.2
    refine ⟨by rw [List.all_cons, flat_rep s ho.1, a]; rfl, ?_⟩
    unfold inV inD at b ⊢
    rw [List.any_cons, List.any_cons, b, eqF_rep s r ho.1 h]
/-- x in a list, a tuple of flat things; one sign in a text -/
def fIn (neg : Bool) : F2 W := fun x y w Q _ => match y with
  | .lst ys => flatD x = true ∧ ys.all flatD = true ∧ Q (.bl (if neg then !inD x ys else inD x ys)) w
  | .tup ys => flatD x = true ∧ ys.all flatD = true ∧ Q (.bl (if neg then !inD x ys else inD x ys)) w
  | .str z => ∃ c, x = .str ⟨#[c]⟩ ∧ Q (.bl (if neg then !decide (c ∈ z.cps.toList) else decide (c ∈ z.cps.toList))) w
  | _ => False
theorem fIn_mono {neg : Bool} (x y : D) : Mono (fIn (W := W) neg x y) := fun w Q Q' E E' hq he q => by
  cases y <;> simp only [fIn] at q ⊢ <;> first | exact ⟨q.1, q.2.1, hq _ _ q.2.2⟩ | (obtain ⟨c, e, q⟩ := q; exact ⟨c, e, hq _ _ q⟩) | exact q
theorem rep_of_flat {F : Foot} {H : Hp} {v : V} {d : D} (r : RepW F H v d) (h : flatD d = true) : Rep F H v d :=
  r.rep (fun ds e => by subst e; simp [flatD] at h) (fun ds e => by subst e; simp [flatD] at h)
theorem in_core {neg : Bool} {x y : D} {v u : V} {w : G.W} {H : Hp} {A F : Foot} {Q : VK} {E : Ex → G.W → Prop} (k : G.Ok w H A F) (r1 : RepW F H v x) (r2 : RepW F H u y) (q : fIn neg x y w (post G A F H Q) E) :
    rIn X.K neg v u H Q ∨ (∃ (c : Nat) (z : Str), v = .str ⟨#[c]⟩ ∧ u = .str z ∧ Q (.bl (if neg then !decide (c ∈ z.cps.toList) else decide (c ∈ z.cps.toList))) H) := by
  cases y <;> simp only [fIn] at q
  case lst ys =>
    obtain ⟨a, zs, rfl, h1, l1, rr⟩ := r2.lst
    have rx := rep_of_flat r1 q.1
    obtain ⟨b1, b2⟩ := inD_rep rx q.1 rr q.2.1
    exact .inl ⟨a, zs, rfl, .inl (SqL.of h1), flat_rep rx q.1, b1, by rw [b2]; exact q.2.2 _ H A F .refl k (.bl _)⟩
  case tup ys =>
    obtain ⟨a, zs, rfl, h1, n1, l1, rr⟩ := r2.tup
    have rx := rep_of_flat r1 q.1
    obtain ⟨b1, b2⟩ := inD_rep rx q.1 rr q.2.1
    exact .inl ⟨a, zs, rfl, .inr (SqT.of h1), flat_rep rx q.1, b1, by rw [b2]; exact q.2.2 _ H A F .refl k (.bl _)⟩
  case str z =>
    obtain ⟨c, e, q⟩ := q
    subst e
    exact .inr ⟨c, z, r1.str.1, r2.str.1, q _ H A F .refl k (.bl _)⟩
theorem o_in : Op2 G X (compareOp .In) (fIn false) where
  ex := ⟨_, op_in_seq.or op_in_sign, fun x y v u w H A F Q E k r1 r2 q => in_core k r1 r2 q⟩
  mono := fIn_mono
theorem o_notin : Op2 G X (compareOp .NotIn) (fIn true) where
  ex := ⟨_, op_notIn_seq.or op_notIn_sign, fun x y v u w H A F Q E k r1 r2 q => in_core k r1 r2 q⟩
  mono := fIn_mono
/-! ### is None -/
def isNon : D → Bool | .non => true | _ => false
def fIs (neg : Bool) : F2 W := fun x y w Q _ => y = .non ∧ Q (.bl (if neg then !isNon x else isNon x)) w
theorem isNon_rep {F : Foot} {H : Hp} {v : V} {x : D} (r : RepW F H v x) : decide (v = .non) = isNon x := by
  rcases r with r | ⟨a, _, _, e1, e2, _⟩ | ⟨a, _, _, e1, e2, _⟩
  · cases r <;> rfl
  · subst e1; subst e2; rfl
  · subst e1; subst e2; rfl
theorem o_is : Op2 G X (compareOp .Is) (fIs false) where
  ex := ⟨_, op_isN, fun x y v u w H A F Q E k r1 r2 ⟨e, q⟩ => by subst e; exact ⟨r2.non, by rw [isNon_rep r1]; exact q _ H A F .refl k (.bl _)⟩⟩
  mono := fun x y w Q Q' E E' hq he ⟨e, q⟩ => ⟨e, hq _ _ q⟩
theorem o_isnot : Op2 G X (compareOp .IsNot) (fIs true) where
  ex := ⟨_, op_notN, fun x y v u w H A F Q E k r1 r2 ⟨e, q⟩ => by subst e; exact ⟨r2.non, by rw [isNon_rep r1]; exact q _ H A F .refl k (.bl _)⟩⟩
  mono := fun x y w Q Q' E E' hq he ⟨e, q⟩ => ⟨e, hq _ _ q⟩
/-! ### -i -/
def fNeg : D → M W D := fun x w Q _ => ∃ i, x = .int i ∧ Q (.int (-i)) w
theorem o_neg : Op1 G X (unaryOp .USub) fNeg where
  ex := ⟨_, un_neg, fun x v w H A F Q E k r ⟨i, e, q⟩ => by subst e; exact ⟨i, r.int, q _ H A F .refl k (.int _)⟩⟩
  mono := fun x w Q Q' E E' hq he ⟨i, e, q⟩ => ⟨i, e, hq _ _ q⟩
/-! ### methods of texts -/
def fUpper : D → FA W := fun x ds w Q _ => ∃ z, x = .str z ∧ ds = [] ∧ SOk (Txt.upper z) ∧ Q (.str (Txt.upper z)) w
theorem o_upper : OpMt G X "str.upper" fUpper where
  ex := ⟨_, mt_upper, fun x v xs vs w H A F Q E k r rs ⟨z, e1, e2, ok, q⟩ => by
    subst e1; subst e2
    cases rs
    obtain ⟨e, okz⟩ := r.str
    exact ⟨z, e, rfl, Nat.le_trans okz.1 (by decide), q _ H A F .refl k (.str _ ok)⟩⟩
  mono := fun x ds w Q Q' E E' hq he ⟨z, e1, e2, ok, q⟩ => ⟨z, e1, e2, ok, hq _ _ q⟩
def fJoin : D → FA W := fun x ds w Q _ => ∃ (z : Str) (ys : List Str), x = .str z ∧ ds = [.lst (ys.map D.str)] ∧ (ys.map (·.length)).sum + ys.length * z.length ≤ 16777216 ∧ SOk (Txt.join z ys) ∧ Q (.str (Txt.join z ys)) w
theorem o_join : OpMt G X "str.join" fJoin where
  ex := ⟨_, mt_join, fun x v xs vs w H A F Q E k r rs ⟨z, ys, e1, e2, hl, ok, q⟩ => by
    subst e1; subst e2
    cases rs with
    | cons r1 rs => cases rs with
      | nil =>
        obtain ⟨a, zs, rfl, h1, l1, rr⟩ := r1.lst
        have := rr.strs.1
        subst this
        exact ⟨z, a, ys, r.str.1, rfl, .inl (SqL.of h1), hl, q _ H A F .refl k (.str _ ok)⟩⟩
  mono := fun x ds w Q Q' E E' hq he ⟨z, ys, e1, e2, hl, ok, q⟩ => ⟨z, ys, e1, e2, hl, ok, hq _ _ q⟩
/-! ### str(i) -/
def fStrI : FA W := fun ds w Q _ => ∃ i : Int, ds = [.int i] ∧ i.natAbs.log2 < 1920 ∧ SOk (toString i : String) ∧ Q (.str (toString i : String)) w
theorem o_str : OpC G X (.type "str") fStrI where
  ex := ⟨_, call_str_int, fun xs vs w H A F Q E k r ⟨i, e, hl, ok, q⟩ => by
    subst e
    cases r with
    | cons r1 r => cases r with
      | nil => exact ⟨i, by rw [r1.int], hl, q _ H A F .refl k (.str _ ok)⟩⟩
  mono := fun ds w Q Q' E E' hq he ⟨i, e, hl, ok, q⟩ => ⟨i, e, hl, ok, hq _ _ q⟩
end
end DL

namespace DL
open PySem PySem.Spec PyProof.Rows L2
section
variable {G : Wd} {X : Cx} {Wx : WX} {W : Type} {en : En} {ps : Pin}
/-! ### try: body, except C as e: suite -/
/-- the ends of a suite: the name goes -/
def suiteE (i : Nat) (E : EndsM W) : EndsM W := { nx := fun ρ w => E.nx (ρ.set i none) w, rt := E.rt, bk := fun ρ w => E.bk (ρ.set i none) w, ct := fun ρ w => E.ct (ρ.set i none) w, ex := fun _ _ _ => False }
def tryAsE (i : Nat) (mt : Ex → Option Bool) (pe : Ex → Prop) (ms : Ex → Addr → MS W) (E : EndsM W) : EndsM W := { nx := E.nx, rt := E.rt, bk := E.bk, ct := E.ct, ex := fun e ρ' w' => ∃ b, mt e = some b ∧ (b = true → pe e ∧ ∀ a, ms e a (ρ'.set i (some (.val (.hnd a)))) w' (suiteE i E)) ∧ (b = false → E.ex e ρ' w') }
def sTryAs (i : Nat) (mt : Ex → Option Bool) (pe : Ex → Prop) (mb : MS W) (ms : Ex → Addr → MS W) : MS W := fun ρ w E => mb ρ w (tryAsE i mt pe ms E)
theorem SC.set_none {σ : St} {ρ : DEnv} {w : G.W} {H : Hp} {A F : Foot} (c : SC G en ps σ ρ w H A F) (i : Nat) : SC G en ps (σ.set i none) (ρ.set i none) w H A F := c.env' (c.env.set_none i) fun j ds a e1 e2 => by
  rcases getset e1 with ⟨rfl, z⟩ | ⟨n1, z1⟩
  · cases z
  rw [List.getElem?_set_ne n1] at e2
  exact ⟨z1, e2⟩
theorem suiteE_le {i : Nat} {E E' : EndsM W} (l : EndsM.le E E') : EndsM.le (suiteE i E) (suiteE i E') := ⟨fun ρ w => l.nx _ _, l.rt, fun ρ w => l.bk _ _, fun ρ w => l.ct _ _, fun _ _ _ h => h⟩
theorem dstryas {x n : Str} {cv : Value} {i : Nat} {body suite : List Stmt} {b₀ : Stmt} {np pos pos' : Pos} {mb : MS G.W} {ms : Ex → Addr → MS G.W} {pe : Ex → Prop} (hs : X.stack = X.env :: X.outer) (hf : X.env.frame = some X.env.locals) (hN : X.N.Nodup) (hi : X.N[i]? = some n) (hln : X.env.kindOf n = some .local)
    (hc : Names X x cv) (tk : Takes X Wx)
    (hb : ∀ (V : WX) (pn : List (Addr × Obj)) (xe : Value → Shared → Prop), Takes (X.tr pn xe) V → PassesOwn (model X.prog X.w) X.A X.env xe → DSs G en (X.tr pn xe) V body mb)
    (hsu : ∀ (e : Ex) (a : Addr) (oe : Obj) (pn : List (Addr × Obj)), pe e → Zc (.ref e) none oe → (∃ vs, oe.data = .fields vs) → DSs G en (X.suite a ((a, oe) :: pn)) W0 (b₀ :: suite) (ms e a)) (mbm : MonoS mb) (msm : ∀ e a, pe e → MonoS (ms e a)) :
    DS G en X Wx (.Try body [.ExceptHandler (some (.Name x np)) (some n) (b₀ :: suite) pos'] [] [] pos) (sTryAs i (fun e => PySem.W.exmOne X.K (.ref e) cv) pe mb ms) := by
  have key := ps_try_as (X := X) (x := x) (n := n) (c := cv) (i := i) (body := body) (suite := suite) (b₀ := b₀) (np := np) (pos := pos) (pos' := pos') (Wout := Wx) (tb := fun V => liftS G en V mb)
    (ts := fun a cls d D σ H => ∃ e, cls = .ref e ∧ d = none ∧ pe e ∧ liftS G en W0 (ms e a) D σ H) hs hf hN hi hln hc tk (fun V pn xe t p => (hb V pn xe t p).ps) (fun a oe cls d pn hz hv => ?_)
  · refine ⟨PS.imp key fun De σ H ⟨ps, A, F, ρ, w, E, c, l, q⟩ => ?_, fun ρ w E E' l q => ?_⟩
    · refine ⟨ps, A, F, ρ, w, tryAsE i (fun e => PySem.W.exmOne X.K (.ref e) cv) pe ms E, c, ⟨l.nx, l.rt, l.bk, l.ct, fun e σ' ρ' w' H' A' F' c' ⟨b, h1, h2, h3⟩ => ⟨b, h1, fun hb a ha => ⟨e, rfl, rfl, (h2 hb).1, ps, A', F', _, w', suiteE i E, c'.set_val (.hnd a) i, ?_, (h2 hb).2 a⟩, fun hb => l.ex e σ' ρ' w' H' A' F' c' (h3 hb)⟩⟩, q⟩
      exact ⟨fun σ2 ρ2 w2 H2 A2 F2 c2 z => l.nx _ _ _ _ _ _ (c2.set_none i) z, fun d v w2 H2 A2 F2 σ2 ρ2 c2 r z => l.rt d v w2 H2 A2 F2 σ2 ρ2 c2 r z, fun σ2 ρ2 w2 H2 A2 F2 c2 z => l.bk _ _ _ _ _ _ (c2.set_none i) z, fun σ2 ρ2 w2 H2 A2 F2 c2 z => l.ct _ _ _ _ _ _ (c2.set_none i) z, fun _ _ _ _ _ _ _ _ z => z⟩
    · refine mbm ρ w (tryAsE i (fun e => PySem.W.exmOne X.K (.ref e) cv) pe ms E) (tryAsE i (fun e => PySem.W.exmOne X.K (.ref e) cv) pe ms E') ⟨l.nx, l.rt, l.bk, l.ct, fun e ρ' w' ⟨b, h1, h2, h3⟩ => ⟨b, h1, fun hb => ⟨(h2 hb).1, fun a => msm e a (h2 hb).1 _ _ _ _ (suiteE_le l) ((h2 hb).2 a)⟩, fun hb => l.ex _ _ _ (h3 hb)⟩⟩ q
  · refine ⟨fun pins s σ H D I ⟨e, e1, e2, hpe, h⟩ => ?_⟩
    subst e1; subst e2
    exact (hsu e a oe pn hpe hz hv).ps.run pins s σ H D I h
/-- except C: suite, without a name -/
def noEx (E : EndsM W) : EndsM W := { nx := E.nx, rt := E.rt, bk := E.bk, ct := E.ct, ex := fun _ _ _ => False }
def tryOnlyE (mt : Ex → Option Bool) (ms : MS W) (E : EndsM W) : EndsM W := { nx := E.nx, rt := E.rt, bk := E.bk, ct := E.ct, ex := fun e ρ' w' => ∃ b, mt e = some b ∧ (b = true → ms ρ' w' (noEx E)) ∧ (b = false → E.ex e ρ' w') }
def sTryOnly (mt : Ex → Option Bool) (mb : MS W) (ms : MS W) : MS W := fun ρ w E => mb ρ w (tryOnlyE mt ms E)
theorem dstryonly {x : Str} {cv : Value} {body suite : List Stmt} {b₀ : Stmt} {np pos pos' : Pos} {mb ms : MS G.W} (hs : X.stack = X.env :: X.outer) (hf : X.env.frame = some X.env.locals)
    (hc : Names X x cv) (tk : Takes X Wx)
    (hb : ∀ (V : WX) (pn : List (Addr × Obj)) (xe : Value → Shared → Prop), Takes (X.tr pn xe) V → PassesOwn (model X.prog X.w) X.A X.env xe → DSs G en (X.tr pn xe) V body mb)
    (hsu : ∀ (a : Addr) (oe : Obj) (pn : List (Addr × Obj)), DSs G en (X.suite a ((a, oe) :: pn)) W0 (b₀ :: suite) ms) (mbm : MonoS mb) (msm : MonoS ms) :
    DS G en X Wx (.Try body [.ExceptHandler (some (.Name x np)) none (b₀ :: suite) pos'] [] [] pos) (sTryOnly (fun e => PySem.W.exmOne X.K (.ref e) cv) mb ms) := by
  have key := ps_try_only (X := X) (x := x) (c := cv) (body := body) (suite := suite) (b₀ := b₀) (np := np) (pos := pos) (pos' := pos') (Wout := Wx) (tb := fun V => liftS G en V mb)
    (ts := fun a cls d D σ H => liftS G en W0 ms D σ H) hs hf hc tk (fun V pn xe t p => (hb V pn xe t p).ps) (fun a oe cls d pn hz hv => (hsu a oe pn).ps)
  refine ⟨PS.imp key fun De σ H ⟨ps, A, F, ρ, w, E, c, l, q⟩ => ?_, fun ρ w E E' l q => ?_⟩
  · refine ⟨ps, A, F, ρ, w, tryOnlyE (fun e => PySem.W.exmOne X.K (.ref e) cv) ms E, c, ⟨l.nx, l.rt, l.bk, l.ct, fun e σ' ρ' w' H' A' F' c' ⟨b, h1, h2, h3⟩ => ⟨b, h1, fun hb a ha => ⟨ps, A', F', ρ', w', noEx E, c', ⟨l.nx, l.rt, l.bk, l.ct, fun _ _ _ _ _ _ _ _ z => z⟩, h2 hb⟩, fun hb => l.ex e σ' ρ' w' H' A' F' c' (h3 hb)⟩⟩, q⟩
  · refine mbm ρ w (tryOnlyE (fun e => PySem.W.exmOne X.K (.ref e) cv) ms E) (tryOnlyE (fun e => PySem.W.exmOne X.K (.ref e) cv) ms E') ⟨l.nx, l.rt, l.bk, l.ct, fun e ρ' w' ⟨b, h1, h2, h3⟩ => ⟨b, h1, fun hb => msm _ _ (noEx E) (noEx E') ⟨l.nx, l.rt, l.bk, l.ct, fun _ _ _ h => h⟩ (h2 hb), fun hb => l.ex _ _ _ (h3 hb)⟩⟩ q
/-! ### isinstance of the exception that is handled -/
def clsVal : D → Option Value | .hnd c => some (.ref c) | .ty n => some (.type n) | _ => none
def clsVals : List D → Option (List Value)
  | [] => some []
  | d :: ds => match clsVal d, clsVals ds with | some v, some vs => some (v :: vs) | _, _ => none
def fIsE (K : PySem.W.Frag) (e : Ex) (a : Addr) : FA W := fun ds w Q _ => ∃ c, ds = [.hnd a, c] ∧ ((∃ v b, clsVal c = some v ∧ PySem.W.kitOne K (.ref e) v = some b ∧ Q (.bl b) w) ∨ (∃ cs vs b, c = .tup cs ∧ clsVals cs = some vs ∧ PySem.W.kitAny K (.ref e) vs = some b ∧ Q (.bl b) w))
theorem clsVal_rep {F : Foot} {H : Hp} {v : V} {d : D} {u : Value} (r : RepW F H v d) (h : clsVal d = some u) : ∀ u', RelV v u' → u' = u := by
  intro u' r'
  cases d <;> simp only [clsVal, Option.some.injEq, reduceCtorEq] at h
  · subst h; rw [r.hnd] at r'; exact r'
  · subst h; rw [r.ty] at r'; exact r'
theorem clsVals_rep {F : Foot} {H : Hp} : ∀ {vs : List V} {ds : List D} {us : List Value}, RepL F H vs ds → clsVals ds = some us → ∀ us', Vals vs us' → us' = us
  | _, _, us, .nil, h, us', r => by simp only [clsVals, Option.some.injEq] at h; subst h; cases r; rfl
  | _, d :: ds, us, .cons h1 t, h, us', r => by
    cases r with
    | cons r1 r2 =>
      unfold clsVals at h
      cases q1 : clsVal d with
      | none => rw [q1] at h; cases h
      | some v =>
        cases q2 : clsVals ds with
        | none => rw [q1, q2] at h; cases h
        | some vs =>
          rw [q1, q2] at h
          cases h
          rw [clsVal_rep (.inl h1) q1 _ r1, clsVals_rep t q2 _ r2]
theorem o_isE {a D : Addr} {oe : Obj} {pn : List (Addr × Obj)} (C : ExcC X.K D) (hz : Zc (.ref D) none oe) (hf : ∃ vs, oe.data = .fields vs) : OpC G (X.suite a ((a, oe) :: pn)) (.builtin "isinstance") (fIsE X.K D a) where
  ex := by
    have J : ∀ {pins σ H s}, Inv (X.suite a ((a, oe) :: pn)) pins σ H s → PySem.W.InstAt s.heap a oe D none := fun I => by
      obtain ⟨hget, _⟩ := I.pin (a, oe) (List.mem_append.mpr (.inl List.mem_cons_self))
      obtain ⟨vs, hv⟩ := hf
      obtain ⟨oc, od, oda, osl⟩ := oe
      obtain ⟨h1, h2⟩ := hz
      dsimp only at h1 h2 hv
      subst h1 h2 hv
      exact ⟨hget, rfl, rfl, trivial⟩
    have rule : CallR (X.suite a ((a, oe) :: pn)) (.builtin "isinstance") (fun xs H Q => ∃ (tp : Addr) (cs : List V) (us : List Value) (b : Bool), xs = [.ref a, .ref tp] ∧ H tp = some (.tup cs) ∧ (∀ ws, Vals cs ws → ws = us) ∧ PySem.W.kitAny X.K (.ref D) us = some b ∧ Q (.bl b) H) := by
      intro pins s σ H xs us Q I r ⟨tp, cs, ws, b, e, hT, hcs, hk, q⟩
      subst e
      obtain ⟨u1, u2, rfl, r1, r2⟩ := vals2 r
      cases (show u2 = Value.ref tp from r2)
      cases (show u1 = Value.ref a from r1)
      obtain ⟨_, its, rv, o, h1, h2, n, h3⟩ := (show ObjOk X.prog X.w H s.heap tp (.tup cs) from I.hok tp _ hT)
      have e3 := hcs _ rv
      subst e3
      obtain ⟨oc, od, dt, sl⟩ := o
      simp only at h2 h3
      subst h2 h3
      exact PySem.W.kia_tup (PySem.W.handS_kitx_exc C.hg C.hk C.hs C.hd C.ha C.hn C.ht C.hm) I.kIn (J I) h1 hk (fun z => nomatch z) fun tk => ⟨.bl b, H, I.tok tk, rfl, q⟩
    refine ⟨_, (call_isE C hz hf).or rule, fun xs vs w H A F Q E k r ⟨c, e, q⟩ => ?_⟩
    subst e
    cases r with
    | cons r1 r => cases r with
      | cons r2 r => cases r with
        | nil =>
          have := r1.hnd
          subst this
          rcases q with ⟨v, b, h1, h2, q⟩ | ⟨cs, us, b, e, h1, h2, q⟩
          · exact .inl ⟨_, v, b, rfl, clsVal_rep r2 h1, h2, q _ H A F .refl k (.bl _)⟩
          · subst e
            obtain ⟨tp, zs, e1, h3, n1, l1, rr⟩ := r2.tup
            subst e1
            exact .inr ⟨tp, zs, us, b, rfl, h3, clsVals_rep rr h1, h2, q _ H A F .refl k (.bl _)⟩
  mono := fun ds w Q Q' E E' hq he ⟨c, e, q⟩ => ⟨c, e, q.elim (fun ⟨v, b, h1, h2, q⟩ => .inl ⟨v, b, h1, h2, hq _ _ q⟩) fun ⟨cs, us, b, e, h1, h2, q⟩ => .inr ⟨cs, us, b, e, h1, h2, hq _ _ q⟩⟩
/-! ### {} and written dicts -/
def mDct0 : DEnv → M W D := fun _ w Q _ => Q (.dct []) w
theorem ddict0 {pos : Pos} : DE G X Wx (.Dict [] [] pos) mDct0 := ⟨PE.imp pe_dnewK fun σ H Q ⟨A, F, ρ, w, E, k, r, x, q⟩ => fun d hd => q _ _ A F (.new hd) (k.new hd) (.dct upd_same (k.out hd) (Nat.zero_le _) .nil), fun _ => Mono.pure _⟩
end
end DL

namespace DL
open PySem PySem.Spec PyProof.Rows L2
section
variable {G : Wd} {X : Cx} {Wx : WX} {W : Type} {en : En}
variable {elt tg iter : Expr} {ifs : List Expr} {scope : Scope} {own : List (Str × Nat)} {pos : Pos} {g : TG} {b : BG} {mi : DEnv → M G.W (List D)} {mt : DEnv → M G.W Bool} {me : DEnv → M G.W D}
/-- x = [..] -/
theorem dssetLcN (i : Nat) {y : Str} {py spos : Pos} (hc : X.calm = true) (nd : X.N.Nodup) (hi : DI G X Wx tg iter mi) (ok : BlkOk X.N X.env.scope scope own) (r : GRel g b) (gw : GWipe g (own.map (·.2)))
    (hg : ∀ (s : Shared) (H : Hp) (C : Addr) (cl : List (Str × Addr)) (fp : List Addr), PG (X.blk s H scope (compEnvC scope cl C X.env) fp) tg g)
    (ht : ∀ (s : Shared) (H : Hp) (C : Addr) (cl : List (Str × Addr)) (fp : List Addr), DTs G (X.blk s H scope (compEnvC scope cl C X.env) fp) W0 ifs mt)
    (he : ∀ (s : Shared) (H : Hp) (C : Addr) (cl : List (Str × Addr)) (fp : List Addr), DE G (X.blk s H scope (compEnvC scope cl C X.env) fp) W0 elt me) (mtm : ∀ ρ, Mono (mt ρ)) (mem : ∀ ρ, Mono (me ρ))
    (hy : X.N[i]? = some y := by rfl) (hyl : X.env.scope.names.lookup y = some .local := by rfl) (hsw : swapsWith (.ListComp elt [⟨tg, iter, ifs, 0⟩] scope pos) (some (.Name y py)) spos.line X.env = pure true := by exact sw_true rfl rfl rfl (by decide +kernel))
    (hs : ∀ x, foldedSetIterable iter X.env x = pure x := by intro _; rfl) : DS G en X Wx (.Assign [.Name y py] (.ListComp elt [⟨tg, iter, ifs, 0⟩] scope pos) spos) (sSetN i (mComp b (own.map (·.2)) mt me mi)) := by
  obtain ⟨⟨wi, hpi, hw⟩, mim⟩ := hi
  refine ⟨PS.imp (ps_setLc hc nd hy hyl hsw hpi ok hg (fun s H C cl fp => (ht s H C cl fp).pe) (fun s H C cl fp => (he s H C cl fp).pe) hs) fun De σ H ⟨ps, A, F, ρ, w, E, c, l, q⟩ => ?_,
    fun ρ w E E' l q => mComp_mono r mtm mem mim ρ w _ _ _ _ (fun d w' ⟨ds, e, z⟩ => ⟨ds, e, l.nx _ _ z⟩) (fun _ _ z => l.ex _ _ _ z) q⟩
  refine hw σ H _ ⟨A, F, ρ, w, _, c.ok, c.env, l.exo c, mim ρ w _ _ _ _ (fun ds w' ⟨hl, z⟩ J H' A' F' S s k' sr s0 => ?_) (fun _ _ z => z) q⟩
  exact comp_go (R := fun x H1 => gName i x σ H1 De.nx) sr s0 k' (c.env.step s c.ok.af) r gw mtm mem hl z fun p xs out w2 H2 A2 F2 st k2 hp h1 h2 h3 h4 h5 ⟨ds', e, z'⟩ => by
    cases e
    exact l.nx _ _ _ _ _ _ (c.own_new (s.trans st) k2 (s.there _ hp) h1 h2 h3 h4 h5) z'
/-- x = [..], shared from the start -/
theorem dssetLc (i : Nat) {y : Str} {py spos : Pos} (hc : X.calm = true) (nd : X.N.Nodup) (hi : DI G X Wx tg iter mi) (ok : BlkOk X.N X.env.scope scope own) (r : GRel g b) (gw : GWipe g (own.map (·.2)))
    (hg : ∀ (s : Shared) (H : Hp) (C : Addr) (cl : List (Str × Addr)) (fp : List Addr), PG (X.blk s H scope (compEnvC scope cl C X.env) fp) tg g)
    (ht : ∀ (s : Shared) (H : Hp) (C : Addr) (cl : List (Str × Addr)) (fp : List Addr), DTs G (X.blk s H scope (compEnvC scope cl C X.env) fp) W0 ifs mt)
    (he : ∀ (s : Shared) (H : Hp) (C : Addr) (cl : List (Str × Addr)) (fp : List Addr), DE G (X.blk s H scope (compEnvC scope cl C X.env) fp) W0 elt me) (mtm : ∀ ρ, Mono (mt ρ)) (mem : ∀ ρ, Mono (me ρ))
    (hy : X.N[i]? = some y := by rfl) (hyl : X.env.scope.names.lookup y = some .local := by rfl) (hsw : swapsWith (.ListComp elt [⟨tg, iter, ifs, 0⟩] scope pos) (some (.Name y py)) spos.line X.env = pure true := by exact sw_true rfl rfl rfl (by decide +kernel))
    (hs : ∀ x, foldedSetIterable iter X.env x = pure x := by intro _; rfl) : DS G en X Wx (.Assign [.Name y py] (.ListComp elt [⟨tg, iter, ifs, 0⟩] scope pos) spos) (sSet i (mComp b (own.map (·.2)) mt me mi)) := by
  obtain ⟨⟨wi, hpi, hw⟩, mim⟩ := hi
  refine ⟨PS.imp (ps_setLc hc nd hy hyl hsw hpi ok hg (fun s H C cl fp => (ht s H C cl fp).pe) (fun s H C cl fp => (he s H C cl fp).pe) hs) fun De σ H ⟨ps, A, F, ρ, w, E, c, l, q⟩ => ?_,
    sSet_mono (mComp_mono r mtm mem mim)⟩
  refine hw σ H _ ⟨A, F, ρ, w, _, c.ok, c.env, l.exo c, mim ρ w _ _ _ _ (fun ds w' ⟨hl, z⟩ J H' A' F' S s k' sr s0 => ?_) (fun _ _ z => z) q⟩
  exact comp_go (R := fun x H1 => gName i x σ H1 De.nx) sr s0 k' (c.env.step s c.ok.af) r gw mtm mem hl z fun p xs out w2 H2 A2 F2 st k2 hp h1 h2 h3 h4 h5 z' => by
    have s' := s.trans st
    have kp : Keeps F2 H2 (fun a => F2 a ∧ a ≠ p) H2 := fun a o ha hn => ⟨ha, fun z => hn z.1⟩
    have hp0 := s.there _ hp
    have c2 := c.step (A' := A2) (F' := fun a => F2 a ∧ a ≠ p) (H' := H2) (w' := w2) ⟨s'.keep, s'.there, s'.fa, fun a h => s'.ff a h.1, s'.am, fun a h => ⟨s'.fm a h, fun e => by subst e; exact c.ok.dom _ h hp0⟩⟩
      ⟨G.frame k2.wi (fun a o h _ => h) fun a h => .inl h.1, fun a h => ⟨k2.af a h, fun e => h3 (e ▸ h)⟩, fun a h => k2.dom a h.1⟩
    exact l.nx _ _ _ _ _ _ (c2.set_val (.lst h1 (fun z => z.2 rfl) h4 (h5.mono kp)) i) z'
end
/-! ### the bag -/
/-- what is changed in place: lists, dicts, instances, caught exceptions, dicts whose keys are tuples -/
inductive OD where
  | lst (ds : List D) | dct (kvs : List (Key × D)) | ins (C dx : Addr) (fs : List (Str × D)) | exc (C : Addr) | nst (w : World) (kvs : List (D × D))
mutual
/-- data as a key of a dict -/
def nk : D → Option NestedKey
  | .non => some .none
  | .bl b => some (.num (if b = true then 1 else 0))
  | .int i => some (.num i)
  | .str x => some (.text x)
  | .tup xs => match nks xs with | some ks => some (.tup ks) | none => none
  | _ => none
def nks : List D → Option (List NestedKey)
  | [] => some []
  | d :: ds => match nk d, nks ds with | some k, some ks => some (k :: ks) | _, _ => none
end
/-- the dict at a has these entries -/
def NstH (w : World) (a : Addr) (xs : List (NestedKey × Addr × Value)) : HO := .ext fun h => ∃ o es ep, h.get? a = some o ∧ o.ExactDict ∧ o.data = .dict es ep ∧ es.toList = xs.map fun x => (⟨x.1.hash w, .ref x.2.1, x.2.2⟩ : DictEntry)
inductive RepN (F : Foot) (H : Hp) : List (NestedKey × Addr × Value) → List (D × D) → Prop
  | nil : RepN F H [] []
  | cons {k : NestedKey} {a : Addr} {u : Value} {v : V} {kd : List D} {d : D} {xs : List (NestedKey × Addr × Value)} {ds : List (D × D)} (h1 : nk (.tup kd) = some k) (h2 : k.depth ≤ 8) (h3 : Rep F H (.ref a) (.tup kd)) (h4 : RelV v u) (h5 : Rep F H v d) (r : RepN F H xs ds) : RepN F H ((k, a, u) :: xs) ((.tup kd, d) :: ds)
theorem RepN.mono {F F' : Foot} {H H' : Hp} (k : Keeps F H F' H') : ∀ {vs : List (NestedKey × Addr × Value)} {ds : List (D × D)}, RepN F H vs ds → RepN F' H' vs ds
  | _, _, .nil => .nil
  | _, _, .cons h1 h2 h3 h4 h5 r => .cons h1 h2 (h3.mono k) h4 (h5.mono k) (RepN.mono k r)
/-- an exception of class cls stands at a -/
def ExK (cls : Value) (d : Option Addr) (a : Addr) : HO := .ext fun h => ∃ oe : Obj, h.get? a = some oe ∧ Zc cls d oe ∧ ∃ vs, oe.data = .fields vs
/-- script: where it stands, its ints; the bag, once it is there; how often was drawn, at most; what else is changed in place, by addresses -/
structure BW where
  sc : Addr
  ns : List Int
  bag : Option Addr
  n : Nat
  h : Addr → Option OD
inductive RepF (F : Foot) (H : Hp) : List (Str × V) → List (Str × D) → Prop
  | nil : RepF F H [] []
  | cons {x : Str} {v : V} {d : D} {vs : List (Str × V)} {ds : List (Str × D)} (h : Rep F H v d) (r : RepF F H vs ds) : RepF F H ((x, v) :: vs) ((x, d) :: ds)
theorem RepF.mono {F F' : Foot} {H H' : Hp} (k : Keeps F H F' H') : ∀ {vs : List (Str × V)} {ds : List (Str × D)}, RepF F H vs ds → RepF F' H' vs ds
  | _, _, .nil => .nil
  | _, _, .cons h r => .cons (h.mono k) (RepF.mono k r)
def OdAt (A F : Foot) (H : Hp) (a : Addr) : OD → Prop
  | .lst ds => ∃ xs, H a = some (.lst xs) ∧ xs.length ≤ LB ∧ RepL F H xs ds
  | .dct kvs => ∃ xs, H a = some (.dK xs) ∧ xs.length ≤ LB ∧ RepK F H xs kvs
  | .ins C dx fs => ∃ vs, H a = some (.ins C dx vs) ∧ A dx ∧ H dx = some (.own a) ∧ RepF F H vs fs
  | .exc C => H a = some (ExK (.ref C) none a)
  | .nst w ds => (a == sysModules) = false ∧ ∃ xs, H a = some (NstH w a xs) ∧ xs.length ≤ LB ∧ (xs.map (·.1)).Nodup ∧ RepN F H xs ds
theorem OdAt.mono {A A' F F' : Foot} {H H' : Hp} {a : Addr} (k : Keeps F H F' H') : ∀ {o : OD}, OdAt A F H a o → (∀ u, H a = some u → H' a = some u) → (∀ C dx fs, o = .ins C dx fs → (∀ u, H dx = some u → H' dx = some u) ∧ (A dx → A' dx)) → OdAt A' F' H' a o
  | .lst _, ⟨xs, h, l, r⟩, ka, _ => ⟨xs, ka _ h, l, r.mono k⟩
  | .dct _, ⟨xs, h, l, r⟩, ka, _ => ⟨xs, ka _ h, l, r.mono k⟩
  | .ins C dx fs, ⟨vs, h, d, e, r⟩, ka, kd => ⟨vs, ka _ h, (kd C dx fs rfl).2 d, (kd C dx fs rfl).1 _ e, r.mono k⟩
  | .exc _, h, ka, _ => ka _ h
  | .nst _ _, ⟨s, xs, h, l, n, r⟩, ka, _ => ⟨s, xs, ka _ h, l, n, r.mono k⟩
abbrev MB : Int := 618970019642690137449562111
def BagAt (H : Hp) (A : Foot) (b : Addr) (n : Nat) : Prop := ∃ (b0 b1 : Addr) (gs ls : List Int) (c st : Int), H b = some (.lst [.ref b0, .ref b1, .int c, .int st]) ∧ H b0 = some (.lst (gs.map V.int)) ∧ H b1 = some (.lst (ls.map V.int)) ∧ A b ∧ A b0 ∧ A b1 ∧
  b ≠ b0 ∧ b ≠ b1 ∧ b0 ≠ b1 ∧ (∀ g ∈ gs, 0 ≤ g) ∧ gs.length ≤ 63 ∧ ls ≠ [] ∧ ls.length ≤ 100 ∧ (∀ l ∈ ls, 0 ≤ l ∧ l < 10 ^ 18) ∧ 0 ≤ c ∧ c ≤ n ∧ 0 ≤ st ∧ st < MB
/-- the script: tracked, or an object of the module -/
def ScAt (K : PySem.W.Frag) (H : Hp) (F : Foot) (a : Addr) (xs : List V) : Prop := (Rd H a (.lst xs) ∧ ¬ F a) ∨ ∀ H', SqL K H' a xs
theorem ScAt.sq {K : PySem.W.Frag} {H : Hp} {F : Foot} {a : Addr} {xs : List V} (h : ScAt K H F a xs) : SqL K H a xs := h.elim (fun z => .inl z.1) fun z => z H
theorem ScAt.of {K : PySem.W.Frag} {H : Hp} {F : Foot} {a : Addr} {xs : List V} (h : SqL K H a xs) (hF : ¬ F a) : ScAt K H F a xs := by
  rcases h with h | h
  · exact .inl ⟨h, hF⟩
  · exact .inr fun _ => .inr h
/-- a kind of bag: how it stands in the heap, drawn from at most so often -/
structure BagI where
  P : Hp → Foot → Addr → Nat → Prop
  fr2 : ∀ {H H' : Hp} {A A' : Foot} {b : Addr} {n : Nat}, P H A b n → (∀ a o, H a = some o → A a → H' a = some o) → (∀ a, A a → A' a) → P H' A' b n
theorem BagI.fr (I : BagI) {H H' : Hp} {A : Foot} {b : Addr} {n : Nat} (h : I.P H A b n) (k : ∀ a o, H a = some o → A a → H' a = some o) : I.P H' A b n := I.fr2 h k fun _ h => h
def bagA : BagI where
  P := BagAt
  fr2 := fun ⟨b0, b1, gs, ls, c, st, e1, e2, e3, a1, a2, a3, r⟩ k m => ⟨b0, b1, gs, ls, c, st, k _ _ e1 a1, k _ _ e2 a2, k _ _ e3 a3, m _ a1, m _ a2, m _ a3, r⟩
abbrev BitsOk (ns : List Int) : Prop := ∀ z ∈ ns, Builtin.Int.intBits z ≤ 1048576
/-- what is its own but none of the others -/
abbrev Rest (h : Addr → Option OD) (A : Foot) : Foot := fun a => A a ∧ h a = none ∧ ∀ x C fs, h x ≠ some (.ins C a fs)
abbrev GB (I : BagI) (K : PySem.W.Frag) : Wd where
  W := BW
  WI := fun w H A F => ScAt K H F w.sc (w.ns.map V.int) ∧ w.ns.length ≤ 63 ∧ BitsOk w.ns ∧ (∀ b, w.bag = some b → I.P H (Rest w.h A) b w.n) ∧ ∀ a o, w.h a = some o → A a ∧ OdAt A F H a o
  frame := fun {w H H' A F F'} ⟨h1, h3, hb, h4, h5⟩ k f => by
    have kp : Keeps F H F' H' := fun a o h n => ⟨k _ _ h (.inr n), fun z => (f _ z).elim n fun z => by rw [h] at z; cases z⟩
    refine ⟨?_, h3, hb, fun b e => I.fr (h4 b e) fun a o h z => k a o h (.inl z.1), fun a o e => ⟨(h5 a o e).1, (h5 a o e).2.mono kp (fun u h => k a u h (.inl (h5 a o e).1)) fun C dx fs eo => ⟨fun u h => k dx u h (.inl (by
      subst eo
      obtain ⟨_, _, d, _⟩ := (h5 a _ e).2
      exact d)), fun h => h⟩⟩⟩
    rcases h1 with ⟨h, hF⟩ | h
    · refine .inl ⟨?_, fun z => ?_⟩
      · rcases h with h | ⟨o, h⟩
        · exact .inl (k _ _ h (.inr hF))
        · exact .inr ⟨o, k _ _ h (.inr hF)⟩
      · rcases f _ z with z | z
        · exact hF z
        · rcases h with h | ⟨o, h⟩ <;> rw [z] at h <;> cases h
    · exact .inr h
theorem OdAt.more {A A' F : Foot} {H : Hp} {a : Addr} (am : ∀ b, A b → A' b) : ∀ {o : OD}, OdAt A F H a o → OdAt A' F H a o
  | .lst _, h => h
  | .dct _, h => h
  | .ins _ _ _, ⟨vs, h, d, e, r⟩ => ⟨vs, h, am _ d, e, r⟩
  | .exc _, h => h
  | .nst _ _, h => h
theorem OdAt.live {A F : Foot} {H : Hp} {a : Addr} : ∀ {o : OD}, OdAt A F H a o → H a ≠ none
  | .lst _, ⟨_, h, _⟩ => by rw [h]; exact fun z => nomatch z
  | .dct _, ⟨_, h, _⟩ => by rw [h]; exact fun z => nomatch z
  | .ins _ _ _, ⟨_, h, _⟩ => by rw [h]; exact fun z => nomatch z
  | .exc _, h => by rw [show H a = some _ from h]; exact fun z => nomatch z
  | .nst _ _, ⟨_, _, h, _⟩ => by rw [h]; exact fun z => nomatch z
theorem rest_of {I : BagI} {K : PySem.W.Frag} {w : BW} {H : Hp} {A F : Foot} {p : Addr} (k : (GB I K).Ok w H A F) (hp : ¬ A p) : w.h p = none ∧ ∀ x C fs, w.h x ≠ some (.ins C p fs) := by
  refine ⟨?_, fun x C fs e => ?_⟩
  · cases q : w.h p with
    | none => rfl
    | some o => exact absurd (k.wi.2.2.2.2 p o q).1 hp
  · obtain ⟨_, _, _, d, _⟩ := k.wi.2.2.2.2 x _ e
    exact hp d
/-- what a draw promises -/
def sfDraw : SF BW := fun ds w Q _ => ∃ (b : Addr) (j : Int), ds = [.hnd b, .int j] ∧ w.bag = some b ∧ 0 < j ∧ j < 2 ^ 500 ∧ w.n < 2 ^ 60 ∧ ∀ (r : Int) (m : Nat), 0 ≤ r → r < j → w.n ≤ m → m ≤ w.n + 1 → Q (.int r) { w with n := m }
theorem sfDraw_mono (ds : List D) : Mono (sfDraw ds) := fun w Q Q' E E' hq he ⟨b, j, e1, e2, h1, h2, h3, q⟩ => ⟨b, j, e1, e2, h1, h2, h3, fun r m a b c d => hq _ _ (q r m a b c d)⟩
end DL

namespace DL
open PySem PySem.Spec PyProof.Rows L2
section
variable {G : Wd} {X : Cx} {Wx : WX} {W : Type} {en : En}
variable {elt tg iter : Expr} {ifs : List Expr} {scope : Scope} {own : List (Str × Nat)} {pos : Pos} {g : TG} {b : BG} {mi : DEnv → M G.W (List D)} {mt : DEnv → M G.W Bool} {me : DEnv → M G.W D}
theorem dcomp' (hc : X.calm = true) (nd : X.N.Nodup) (hi : DI G X Wx tg iter mi) (ok : BlkOk X.N X.env.scope scope own) (r : GRel g b) (gw : GWipe g (own.map (·.2)))
    (hg : ∀ (s : Shared) (H : Hp) (C : Addr) (cl : List (Str × Addr)) (fp : List Addr), PG (X.blk s H scope (compEnvC scope cl C X.env) fp) tg g)
    (ht : ∀ (s : Shared) (H : Hp) (C : Addr) (cl : List (Str × Addr)) (fp : List Addr), DTs G (X.blk s H scope (compEnvC scope cl C X.env) fp) W0 ifs mt)
    (he : ∀ (s : Shared) (H : Hp) (C : Addr) (cl : List (Str × Addr)) (fp : List Addr), DE G (X.blk s H scope (compEnvC scope cl C X.env) fp) W0 elt me)
    (hs : ∀ x, foldedSetIterable iter X.env x = pure x := by intro _; rfl) : DE G X Wx (.ListComp elt [⟨tg, iter, ifs, 0⟩] scope pos) (mComp b (own.map (·.2)) mt me mi) :=
  dcomp hc nd hi ok r gw hg ht he (ht X.s_0 X.H_0 0 [] []).mono (he X.s_0 X.H_0 0 [] []).mono hs
theorem dcompN' (hc : X.calm = true) (nd : X.N.Nodup) (hi : DI G X Wx tg iter mi) (ok : BlkOk X.N X.env.scope scope own) (r : GRel g b) (gw : GWipe g (own.map (·.2)))
    (hg : ∀ (s : Shared) (H : Hp) (C : Addr) (cl : List (Str × Addr)) (fp : List Addr), PG (X.blk s H scope (compEnvC scope cl C X.env) fp) tg g)
    (ht : ∀ (s : Shared) (H : Hp) (C : Addr) (cl : List (Str × Addr)) (fp : List Addr), DTs G (X.blk s H scope (compEnvC scope cl C X.env) fp) W0 ifs mt)
    (he : ∀ (s : Shared) (H : Hp) (C : Addr) (cl : List (Str × Addr)) (fp : List Addr), DE G (X.blk s H scope (compEnvC scope cl C X.env) fp) W0 elt me)
    (hs : ∀ x, foldedSetIterable iter X.env x = pure x := by intro _; rfl) : DN G X Wx (.ListComp elt [⟨tg, iter, ifs, 0⟩] scope pos) (mComp b (own.map (·.2)) mt me mi) :=
  dcompN hc nd hi ok r gw hg ht he (ht X.s_0 X.H_0 0 [] []).mono (he X.s_0 X.H_0 0 [] []).mono hs
theorem dssetLc' (i : Nat) {y : Str} {py spos : Pos} (hc : X.calm = true) (nd : X.N.Nodup) (hi : DI G X Wx tg iter mi) (ok : BlkOk X.N X.env.scope scope own) (r : GRel g b) (gw : GWipe g (own.map (·.2)))
    (hg : ∀ (s : Shared) (H : Hp) (C : Addr) (cl : List (Str × Addr)) (fp : List Addr), PG (X.blk s H scope (compEnvC scope cl C X.env) fp) tg g)
    (ht : ∀ (s : Shared) (H : Hp) (C : Addr) (cl : List (Str × Addr)) (fp : List Addr), DTs G (X.blk s H scope (compEnvC scope cl C X.env) fp) W0 ifs mt)
    (he : ∀ (s : Shared) (H : Hp) (C : Addr) (cl : List (Str × Addr)) (fp : List Addr), DE G (X.blk s H scope (compEnvC scope cl C X.env) fp) W0 elt me)
    (hy : X.N[i]? = some y := by rfl) (hyl : X.env.scope.names.lookup y = some .local := by rfl) (hsw : swapsWith (.ListComp elt [⟨tg, iter, ifs, 0⟩] scope pos) (some (.Name y py)) spos.line X.env = pure true := by exact sw_true rfl rfl rfl (by decide +kernel))
    (hs : ∀ x, foldedSetIterable iter X.env x = pure x := by intro _; rfl) : DS G en X Wx (.Assign [.Name y py] (.ListComp elt [⟨tg, iter, ifs, 0⟩] scope pos) spos) (sSet i (mComp b (own.map (·.2)) mt me mi)) :=
  dssetLc i hc nd hi ok r gw hg ht he (ht X.s_0 X.H_0 0 [] []).mono (he X.s_0 X.H_0 0 [] []).mono hy hyl hsw hs
theorem dssetLcN' (i : Nat) {y : Str} {py spos : Pos} (hc : X.calm = true) (nd : X.N.Nodup) (hi : DI G X Wx tg iter mi) (ok : BlkOk X.N X.env.scope scope own) (r : GRel g b) (gw : GWipe g (own.map (·.2)))
    (hg : ∀ (s : Shared) (H : Hp) (C : Addr) (cl : List (Str × Addr)) (fp : List Addr), PG (X.blk s H scope (compEnvC scope cl C X.env) fp) tg g)
    (ht : ∀ (s : Shared) (H : Hp) (C : Addr) (cl : List (Str × Addr)) (fp : List Addr), DTs G (X.blk s H scope (compEnvC scope cl C X.env) fp) W0 ifs mt)
    (he : ∀ (s : Shared) (H : Hp) (C : Addr) (cl : List (Str × Addr)) (fp : List Addr), DE G (X.blk s H scope (compEnvC scope cl C X.env) fp) W0 elt me)
    (hy : X.N[i]? = some y := by rfl) (hyl : X.env.scope.names.lookup y = some .local := by rfl) (hsw : swapsWith (.ListComp elt [⟨tg, iter, ifs, 0⟩] scope pos) (some (.Name y py)) spos.line X.env = pure true := by exact sw_true rfl rfl rfl (by decide +kernel))
    (hs : ∀ x, foldedSetIterable iter X.env x = pure x := by intro _; rfl) : DS G en X Wx (.Assign [.Name y py] (.ListComp elt [⟨tg, iter, ifs, 0⟩] scope pos) spos) (sSetN i (mComp b (own.map (·.2)) mt me mi)) :=
  dssetLcN i hc nd hi ok r gw hg ht he (ht X.s_0 X.H_0 0 [] []).mono (he X.s_0 X.H_0 0 [] []).mono hy hyl hsw hs
theorem dstryas' {x n : Str} {cv : Value} {i : Nat} {body suite : List Stmt} {b₀ : Stmt} {np pos pos' : Pos} {mb : MS G.W} {ms : Ex → Addr → MS G.W} {pe : Ex → Prop} (hs : X.stack = X.env :: X.outer) (hf : X.env.frame = some X.env.locals) (hN : X.N.Nodup) (hi : X.N[i]? = some n) (hln : X.env.kindOf n = some .local)
    (hc : Names X x cv) (tk : Takes X Wx)
    (hb : ∀ (V : WX) (pn : List (Addr × Obj)) (xe : Value → Shared → Prop), Takes (X.tr pn xe) V → PassesOwn (model X.prog X.w) X.A X.env xe → DSs G en (X.tr pn xe) V body mb)
    (hsu : ∀ (e : Ex) (a : Addr) (oe : Obj) (pn : List (Addr × Obj)), pe e → Zc (.ref e) none oe → (∃ vs, oe.data = .fields vs) → DSs G en (X.suite a ((a, oe) :: pn)) W0 (b₀ :: suite) (ms e a)) :
    DS G en X Wx (.Try body [.ExceptHandler (some (.Name x np)) (some n) (b₀ :: suite) pos'] [] [] pos) (sTryAs i (fun e => PySem.W.exmOne X.K (.ref e) cv) pe mb ms) :=
  dstryas hs hf hN hi hln hc tk hb hsu (hb W0 [] (fun _ _ => False) takes0 PassesOwn.never).mono fun e a hp => (hsu e a { cls := .ref e, data := .fields #[] } [] hp ⟨rfl, rfl⟩ ⟨_, rfl⟩).mono
theorem dstryonly' {x : Str} {cv : Value} {body suite : List Stmt} {b₀ : Stmt} {np pos pos' : Pos} {mb ms : MS G.W} (hs : X.stack = X.env :: X.outer) (hf : X.env.frame = some X.env.locals)
    (hc : Names X x cv) (tk : Takes X Wx)
    (hb : ∀ (V : WX) (pn : List (Addr × Obj)) (xe : Value → Shared → Prop), Takes (X.tr pn xe) V → PassesOwn (model X.prog X.w) X.A X.env xe → DSs G en (X.tr pn xe) V body mb)
    (hsu : ∀ (a : Addr) (oe : Obj) (pn : List (Addr × Obj)), DSs G en (X.suite a ((a, oe) :: pn)) W0 (b₀ :: suite) ms) :
    DS G en X Wx (.Try body [.ExceptHandler (some (.Name x np)) none (b₀ :: suite) pos'] [] [] pos) (sTryOnly (fun e => PySem.W.exmOne X.K (.ref e) cv) mb ms) :=
  dstryonly hs hf hc tk hb hsu (hb W0 [] (fun _ _ => False) takes0 PassesOwn.never).mono (hsu 0 { cls := .ref 0, data := .fields #[] } []).mono
end
section
variable {G : Wd} {X : Cx} {Wx : WX} {W : Type} {en : En}
def mChain (f f' : F2 W) (ma mb mc : DEnv → M W D) : DEnv → M W D := fun ρ w Q E => ma ρ w (fun x w1 => mb ρ w1 (fun y w2 => f x y w2 (fun d w3 => ∃ b, d = .bl b ∧ if b = true then mc ρ w3 (fun z w4 => f' y z w4 Q E) E else Q (.bl false) w3) E) E) E
theorem mChain_mono {f f' : F2 W} {ma mb mc : DEnv → M W D} (ha : ∀ ρ, Mono (ma ρ)) (hb : ∀ ρ, Mono (mb ρ)) (hc : ∀ ρ, Mono (mc ρ)) (hf : ∀ x y, Mono (f x y)) (hf' : ∀ x y, Mono (f' x y)) : ∀ ρ, Mono (mChain f f' ma mb mc ρ) :=
  fun ρ => (ha ρ).bind fun x => (hb ρ).bind fun y => (hf x y).bind (f := fun d w Q E => ∃ b, d = D.bl b ∧ if b = true then mc ρ w (fun z w4 => f' y z w4 Q E) E else Q (.bl false) w) fun d => Mono.exb fun b => Mono.ite ((hc ρ).bind fun z => hf' y z) (Mono.pure _)
theorem dchain {op op' : CmpOp} {a b c : Expr} {pos : Pos} {ma mb mc : DEnv → M G.W D} {f f' : F2 G.W} (o : Op2 G X (compareOp op) f) (o' : Op2 G X (compareOp op') f') (ha : DU G X Wx a ma) (hb : DU G X Wx b mb) (hc : DU G X Wx c mc)
    (hm : lastMarks [op, op'] [b, c] = false := by with_unfolding_all rfl) : DE G X Wx (.Compare a [op, op'] [b, c] pos) (mChain f f' ma mb mc) := by
  obtain ⟨⟨r, ho, hs⟩, fm⟩ := o
  obtain ⟨⟨r', ho', hs'⟩, fm'⟩ := o'
  refine ⟨PE.imp (pe_chain ho ho' ha.pe hb.pe hc.pe hm) fun σ H Q ⟨A, F, ρ, w, E, k, er, x, q⟩ => ?_, mChain_mono ha.mono hb.mono hc.mono fm fm'⟩
  refine ⟨A, F, ρ, w, E, k, er, x, ha.mono ρ w _ _ _ _ (fun d1 w1 z1 v1 H1 A1 F1 s1 k1 r1 => ?_) (fun _ _ z => z) q⟩
  refine ⟨A1, F1, ρ, w1, E, k1, er.step s1 k.af, x.step s1, hb.mono ρ w1 _ _ _ _ (fun d2 w2 z2 v2 H2 A2 F2 s2 k2 r2 => ?_) (fun _ _ z => z) z1⟩
  refine hs d1 d2 v1 v2 w2 H2 A2 F2 _ E k2 (r1.step s2 k1.af).w r2.w (fm d1 d2 w2 _ _ _ _ (fun d3 w3 ⟨b, e, z3⟩ v3 H3 A3 F3 s3 k3 r3 => ?_) (fun _ _ z => z) z2)
  subst e
  cases r3
  refine ⟨b, rfl, ?_⟩
  have s13 := (s1.trans s2).trans s3
  cases b with
  | false =>
    rw [if_neg Bool.false_ne_true]
    rw [if_neg Bool.false_ne_true] at z3
    exact z3 _ H3 A3 F3 s13 k3 (.bl _)
  | true =>
    rw [if_pos rfl]
    rw [if_pos rfl] at z3
    refine ⟨A3, F3, ρ, w3, E, k3, er.step s13 k.af, x.step s13, hc.mono ρ w3 _ _ _ _ (fun d4 w4 z4 v4 H4 A4 F4 s4 k4 r4 => ?_) (fun _ _ z => z) z3⟩
    exact hs' d2 d4 v2 v4 w4 H4 A4 F4 Q E k4 (r2.step (s3.trans s4) k2.af).w r4.w (fm' d2 d4 w4 _ _ _ _ (post_trans (s13.trans s4)) (fun _ _ z => z) z4)
theorem dtchain {op op' : CmpOp} {a b c : Expr} {pos : Pos} {ma mb mc : DEnv → M G.W D} {f f' : F2 G.W} (o : Op2 G X (compareOp op) f) (o' : Op2 G X (compareOp op') f') (ha : DU G X Wx a ma) (hb : DU G X Wx b mb) (hc : DU G X Wx c mc)
    (hm : lastMarks [op, op'] [b, c] = false := by with_unfolding_all rfl) : DT G X Wx (.Compare a [op, op'] [b, c] pos) (mTst (mChain f f' ma mb mc)) := by
  have h := dchain (pos := pos) o o' ha hb hc hm
  obtain ⟨⟨r, ho, hs⟩, fm⟩ := o
  obtain ⟨⟨r', ho', hs'⟩, fm'⟩ := o'
  refine ⟨PT.imp (pt_chain ho ho' ha.pe hb.pe hc.pe hm) fun σ H Q ⟨A, F, ρ, w, E, k, er, x, q⟩ => ?_, mTst_mono h.mono⟩
  refine ⟨A, F, ρ, w, E, k, er, x, ha.mono ρ w _ _ _ _ (fun d1 w1 z1 v1 H1 A1 F1 s1 k1 r1 => ?_) (fun _ _ z => z) q⟩
  refine ⟨A1, F1, ρ, w1, E, k1, er.step s1 k.af, x.step s1, hb.mono ρ w1 _ _ _ _ (fun d2 w2 z2 v2 H2 A2 F2 s2 k2 r2 => ?_) (fun _ _ z => z) z1⟩
  refine hs d1 d2 v1 v2 w2 H2 A2 F2 _ E k2 (r1.step s2 k1.af).w r2.w (fm d1 d2 w2 _ _ _ _ (fun d3 w3 ⟨b, e, z3⟩ v3 H3 A3 F3 s3 k3 r3 => ?_) (fun _ _ z => z) z2)
  subst e
  cases r3
  refine ⟨b, rfl, ?_⟩
  have s13 := (s1.trans s2).trans s3
  cases b with
  | false =>
    rw [if_neg Bool.false_ne_true]
    rw [if_neg Bool.false_ne_true] at z3
    obtain ⟨b', e', z3⟩ := z3
    cases e'
    exact ⟨false, rfl, z3 H3 A3 F3 s13 k3⟩
  | true =>
    rw [if_pos rfl]
    rw [if_pos rfl] at z3
    refine ⟨A3, F3, ρ, w3, E, k3, er.step s13 k.af, x.step s13, hc.mono ρ w3 _ _ _ _ (fun d4 w4 z4 v4 H4 A4 F4 s4 k4 r4 => ?_) (fun _ _ z => z) z3⟩
    refine hs' d2 d4 v2 v4 w4 H4 A4 F4 _ E k4 (r2.step (s3.trans s4) k2.af).w r4.w (fm' d2 d4 w4 _ _ _ _ (fun d5 w5 ⟨b5, e5, z5⟩ v5 H5 A5 F5 s5 k5 r5 => ?_) (fun _ _ z => z) z4)
    subst e5
    cases r5
    exact ⟨b5, rfl, z5 H5 A5 F5 ((s13.trans s4).trans s5) k5⟩
theorem o_le : Op2 G X (compareOp .LtE) (fOrd (fun i j => decide (i ≤ j)) (fun a b => !decide (b.cps.toList < a.cps.toList))) := o_ord op_le op_le_str
theorem o_gt : Op2 G X (compareOp .Gt) (fOrd (fun i j => decide (j < i)) (fun a b => decide (b.cps.toList < a.cps.toList))) := o_ord op_gt op_gt_str
end
end DL

namespace DL
open PySem PySem.Spec L2
section
variable {W : Type}
/-! ### loops and comprehensions over data -/
theorem loopR_inv {b : BG} {mb : MS W} {lo : Int} (hb : ∀ d ρ R R', (∀ ρ, R ρ → R' ρ) → b d ρ R → b d ρ R') (hm : MonoS mb) {E : EndsM W} (I : Nat → DEnv → W → Prop) (N : Nat)
    (step : ∀ i ρ w, i < N → I i ρ w → b (.int (lo + i)) ρ fun ρ' => mb ρ' w (turnE E (I (i + 1)))) (done : ∀ ρ w, I N ρ w → E.nx ρ w) : ∀ (n i : Nat) (ρ : DEnv) (w : W), n + i = N → I i ρ w → loopR b mb lo n i ρ w E
  | 0, i, ρ, w, e, h => done ρ w (by have : i = N := by omega
                                     subst this; exact h)
  | n + 1, i, ρ, w, e, h => hb _ _ _ _ (fun ρ' z => hm ρ' w _ _ (turnE_le EndsM.le_refl fun ρ2 w2 q => loopR_inv hb hm I N step done n (i + 1) ρ2 w2 (by omega) q) z) (step i ρ w (by omega) h)
theorem bName_mono (i : Nat) : ∀ d ρ R R', (∀ ρ, R ρ → R' ρ) → bName i d ρ R → bName i d ρ R' := (grel_name i).mono
theorem loopS_inv {b : BG} {mb : MS W} (hb : ∀ d ρ R R', (∀ ρ, R ρ → R' ρ) → b d ρ R → b d ρ R') (hm : MonoS mb) {E : EndsM W} (I : List D → List D → DEnv → W → Prop)
    (step : ∀ d pre ds ρ w, I pre (d :: ds) ρ w → b d ρ fun ρ' => mb ρ' w (turnE E (I (pre ++ [d]) ds))) (done : ∀ pre ρ w, I pre [] ρ w → E.nx ρ w) : ∀ (ds pre : List D) (ρ : DEnv) (w : W), I pre ds ρ w → loopS b mb ds ρ w E
  | [], pre, ρ, w, h => done pre ρ w h
  | d :: ds, pre, ρ, w, h => hb _ _ _ _ (fun ρ' z => hm ρ' w _ _ (turnE_le EndsM.le_refl fun ρ2 w2 q => loopS_inv hb hm I step done ds (pre ++ [d]) ρ2 w2 q) z) (step d pre ds ρ w h)
theorem compL_yes {i : Nat} {vs : List Nat} {me : DEnv → M W D} {d : D} {ds acc : List D} {ρ : DEnv} {w : W} {Q : List D → W → Prop} : compL (bName i) vs mYes me (d :: ds) acc ρ w Q = me ((wipeR ρ vs).set i (some (.val d))) w (fun x w2 => compL (bName i) vs mYes me ds (acc ++ [x]) ρ w2 Q) (fun _ _ => False) := rfl
/-- each item one value, nothing else -/
theorem compL_map {i : Nat} {vs : List Nat} {me : DEnv → M W D} (f : D → D) {ρ : DEnv} {w : W} {Q : List D → W → Prop} : ∀ (ds acc : List D), (∀ d ∈ ds, ∀ (Q' : D → W → Prop), Q' (f d) w → me ((wipeR ρ vs).set i (some (.val d))) w Q' (fun _ _ => False)) → Q (acc ++ ds.map f) w → compL (bName i) vs mYes me ds acc ρ w Q
  | [], acc, h, q => by simpa [compL] using q
  | d :: ds, acc, h, q => by
    rw [compL_yes]
    refine h d List.mem_cons_self _ (compL_map f ds (acc ++ [f d]) (fun x hx => h x (List.mem_cons_of_mem _ hx)) ?_)
    rw [List.append_assoc]; exact q
/-- .. with a test -/
theorem compL_filter {i : Nat} {vs : List Nat} {mt : DEnv → M W Bool} {me : DEnv → M W D} (t : D → Bool) (f : D → D) {ρ : DEnv} {w : W} {Q : List D → W → Prop} : ∀ (ds acc : List D), (∀ d ∈ ds, ∀ (Q' : Bool → W → Prop), Q' (t d) w → mt ((wipeR ρ vs).set i (some (.val d))) w Q' (fun _ _ => False)) →
    (∀ d ∈ ds, t d = true → ∀ (Q' : D → W → Prop), Q' (f d) w → me ((wipeR ρ vs).set i (some (.val d))) w Q' (fun _ _ => False)) → Q (acc ++ (ds.filter t).map f) w → compL (bName i) vs mt me ds acc ρ w Q
  | [], acc, h, h2, q => by simpa [compL] using q
  | d :: ds, acc, h, h2, q => by
    refine h d List.mem_cons_self _ ?_
    cases ht : t d with
    | true =>
      rw [if_pos rfl]
      refine h2 d List.mem_cons_self ht _ (compL_filter t f ds (acc ++ [f d]) (fun x hx => h x (List.mem_cons_of_mem _ hx)) (fun x hx => h2 x (List.mem_cons_of_mem _ hx)) ?_)
      rw [List.filter_cons, ht, if_pos rfl, List.map_cons] at q
      rw [List.append_assoc]; exact q
    | false =>
      rw [if_neg Bool.false_ne_true]
      refine compL_filter t f ds acc (fun x hx => h x (List.mem_cons_of_mem _ hx)) (fun x hx => h2 x (List.mem_cons_of_mem _ hx)) ?_
      rw [List.filter_cons, ht, if_neg Bool.false_ne_true] at q
      exact q
end
/-- the world, drawn from m times -/
abbrev BW.at (w : BW) (m : Nat) : BW := { w with n := m }
/-- each item by draws: at most c of them, what comes has P -/
theorem compL_draw {i : Nat} {vs : List Nat} {me : DEnv → M BW D} (P : D → Prop) (c N0 : Nat) {ρ : DEnv} {w : BW} {Q : List D → BW → Prop} :
    ∀ (ds acc : List D) (n : Nat), (∀ d ∈ ds, ∀ m, m ≤ N0 → ∀ (Q' : D → BW → Prop), (∀ x m', P x → m ≤ m' → m' ≤ m + c → Q' x (w.at m')) → me ((wipeR ρ vs).set i (some (.val d))) (w.at m) Q' (fun _ _ => False)) →
    n + c * ds.length ≤ N0 → (∀ xs m', xs.length = ds.length → (∀ x ∈ xs, P x) → n ≤ m' → m' ≤ n + c * ds.length → Q (acc ++ xs) (w.at m')) → compL (bName i) vs mYes me ds acc ρ (w.at n) Q
  | [], acc, n, h, hN, q => by
    have := q [] n rfl (fun _ h => nomatch h) (Nat.le_refl _) (by simp)
    simpa [compL] using this
  | d :: ds, acc, n, h, hN, q => by
    have e : c * (d :: ds).length = c + c * ds.length := by rw [List.length_cons, Nat.mul_succ, Nat.add_comm]
    rw [compL_yes]
    refine h d List.mem_cons_self n (by omega) _ fun x m' px h1 h2 => ?_
    refine compL_draw P c N0 ds (acc ++ [x]) m' (fun y hy => h y (List.mem_cons_of_mem _ hy)) (by omega) fun xs m2 hl hp h3 h4 => ?_
    rw [List.append_assoc]
    exact q (x :: xs) m2 (by rw [List.length_cons, List.length_cons, hl]) (fun y hy => (List.mem_cons.mp hy).elim (fun e => e ▸ px) (hp y)) (by omega) (by omega)

/-! ### words for the readings -/
theorem ty_int : ("int" ∈ tyNames) = True := by simp [tyNames]
theorem ty_str' : ("str" ∈ tyNames) = True := by simp [tyNames]
theorem ty_bool : ("bool" ∈ tyNames) = True := by simp [tyNames]
theorem ty_tuple : ("tuple" ∈ tyNames) = True := by simp [tyNames]
theorem ty_list : ("list" ∈ tyNames) = True := by simp [tyNames]
theorem ty_dict : ("dict" ∈ tyNames) = True := by simp [tyNames]
section
variable {W : Type} {w : W} {Q : D → W → Prop} {E : Ex → W → Prop}
theorem isi_ty (x : D) (n : String) (h : (n ∈ tyNames) = True) : fIsi [x, .ty n] w Q E = (dataD x = true ∧ Q (.bl (instT n x)) w) := by
  apply propext
  constructor
  · rintro ⟨x', c, e, hd, ⟨n', e2, hn, q⟩ | ⟨ns, e2, _⟩⟩
    · cases e; cases e2; exact ⟨hd, q⟩
    · cases e; cases e2
  · rintro ⟨hd, q⟩
    exact ⟨x, _, rfl, hd, .inl ⟨n, rfl, by rw [h]; trivial, q⟩⟩
theorem len_lst (xs : List D) : fLen [.lst xs] w Q E = Q (.int (xs.length : Nat)) w := propext ⟨fun ⟨x, n, e, h, q⟩ => by cases e; cases h; exact q, fun q => ⟨_, _, rfl, rfl, q⟩⟩
theorem len_tup (xs : List D) : fLen [.tup xs] w Q E = Q (.int (xs.length : Nat)) w := propext ⟨fun ⟨x, n, e, h, q⟩ => by cases e; cases h; exact q, fun q => ⟨_, _, rfl, rfl, q⟩⟩
theorem len_str (x : Str) : fLen [.str x] w Q E = Q (.int (x.length : Nat)) w := propext ⟨fun ⟨x, n, e, h, q⟩ => by cases e; cases h; exact q, fun q => ⟨_, _, rfl, rfl, q⟩⟩
theorem draw_eq (b : Addr) (j : Int) (w : BW) (Q : D → BW → Prop) (E : Ex → BW → Prop) (hb : w.bag = some b) (hj : 0 < j) (hj2 : j < 2 ^ 500) (hn : w.n < 2 ^ 60) (q : ∀ (r : Int) (m : Nat), 0 ≤ r → r < j → w.n ≤ m → m ≤ w.n + 1 → Q (.int r) (w.at m)) : sfDraw [.hnd b, .int j] w Q E :=
  ⟨b, j, rfl, hb, hj, hj2, hn, q⟩
end
theorem at_at (w : BW) (m k : Nat) : (w.at m).at k = w.at k := rfl
theorem at_n (w : BW) (m : Nat) : (w.at m).n = m := rfl
theorem at_bag (w : BW) (m : Nat) : (w.at m).bag = w.bag := rfl
theorem at_self (w : BW) : w.at w.n = w := rfl

section
variable {W : Type} {w : W} {Q : D → W → Prop} {E : Ex → W → Prop}
theorem ord_int {gi : Int → Int → Bool} {gs : Str → Str → Bool} (i j : Int) : fOrd gi gs (.int i) (.int j) w Q E = Q (.bl (gi i j)) w := rfl
theorem ord_str {gi : Int → Int → Bool} {gs : Str → Str → Bool} (i j : Str) : fOrd gi gs (.str i) (.str j) w Q E = Q (.bl (gs i j)) w := rfl
theorem add_int' (i j : Int) : fAdd (.int i) (.int j) w Q E = Q (.int (i + j)) w := rfl
theorem add_str' (a b : Str) : fAdd (.str a) (.str b) w Q E = (a.length + b.length ≤ LB ∧ Q (.str (a ++ b)) w) := rfl
theorem add_lst' (a b : List D) : fAdd (.lst a) (.lst b) w Q E = (a.length + b.length ≤ LB ∧ Q (.lst (a ++ b)) w) := rfl
theorem add_tup' (a b : List D) : fAdd (.tup a) (.tup b) w Q E = (a.length + b.length ≤ LB ∧ Q (.tup (a ++ b)) w) := rfl
theorem mul_int' (i j : Int) : fMul (.int i) (.int j) w Q E = (CMulX i j ∧ Q (.int (i * j)) w) := rfl
theorem mul_str' (a : Str) (n : Int) : fMul (.str a) (.int n) w Q E = (0 ≤ n ∧ n ≤ LB ∧ a.length * n.toNat ≤ LB ∧ Q (.str (repS a n)) w) := rfl
theorem ix_lst' (xs : List D) (i : Int) : fIx (.lst xs) (.int i) w Q E = ∃ d, atI xs i = some d ∧ Q d w := rfl
theorem ix_tup' (xs : List D) (i : Int) : fIx (.tup xs) (.int i) w Q E = ∃ d, atI xs i = some d ∧ Q d w := rfl
theorem ix_str' (z : Str) (i : Int) : fIx (.str z) (.int i) w Q E = ∃ c, atI z.cps.toList i = some c ∧ Q (.str ⟨#[c]⟩) w := rfl
theorem sl_lst' (xs : List D) (l h : Option Int) : fSl (.lst xs) l h w Q E = Q (.lst (cutL xs l h)) w := rfl
theorem sl_tup' (xs : List D) (l h : Option Int) : fSl (.tup xs) l h w Q E = Q (.tup (cutL xs l h)) w := rfl
theorem sl_str' (z : Str) (l h : Option Int) : fSl (.str z) l h w Q E = Q (.str (cutS z l h)) w := rfl
theorem ok_int (n : Nat) (i : Int) : okD n (.int i) = true := by cases n <;> rfl
theorem ok_str (n : Nat) (i : Str) : okD n (.str i) = true := by cases n <;> rfl
theorem ok_bl (n : Nat) (i : Bool) : okD n (.bl i) = true := by cases n <;> rfl
theorem ok_non (n : Nat) : okD n .non = true := by cases n <;> rfl
theorem eqD_int (i j : Int) : eqD (.int i) (.int j) = decide (i = j) := Bool.beq_eq_decide_eq i j
theorem eqD_str (i j : Str) : eqD (.str i) (.str j) = decide (i = j) := Bool.beq_eq_decide_eq i j
theorem eqD_bl (i j : Bool) : eqD (.bl i) (.bl j) = decide (i = j) := Bool.beq_eq_decide_eq i j
theorem atI_0 {α : Type} (x : α) (xs : List α) : atI (x :: xs) 0 = some x := atI_nat (j := 0) rfl
theorem atI_1 {α : Type} (x y : α) (xs : List α) : atI (x :: y :: xs) 1 = some y := atI_nat (j := 1) rfl
theorem atI_2 {α : Type} (x y z : α) (xs : List α) : atI (x :: y :: z :: xs) 2 = some z := atI_nat (j := 2) rfl
theorem atI_3 {α : Type} (x y z u : α) (xs : List α) : atI (x :: y :: z :: u :: xs) 3 = some u := atI_nat (j := 3) rfl
theorem atI_4 {α : Type} (x y z u v : α) (xs : List α) : atI (x :: y :: z :: u :: v :: xs) 4 = some v := atI_nat (j := 4) rfl
/-- an item at a drawn place -/
theorem atI_in {α : Type} {xs : List α} {i : Int} (h0 : 0 ≤ i) (h1 : i < xs.length) : ∃ d, atI xs i = some d ∧ d ∈ xs := by
  obtain ⟨j, rfl⟩ := Int.eq_ofNat_of_zero_le h0
  have hl : j < xs.length := by omega
  exact ⟨xs[j], atI_nat (List.getElem?_eq_getElem hl), List.getElem_mem hl⟩
theorem sOk_lit (x : Str) (h1 : x.length ≤ LB) (h2 : PyData.strOk x = true) : SOk x := ⟨h1, h2⟩
end

/-! ### k01's own -/
def isNameS (z : Str) : Bool := decide (1 ≤ z.length) && decide (z.length ≤ 8) && z.cps.toList.all fun c => decide (97 ≤ c) && decide (c ≤ 122)
def isName : D → Bool | .str z => isNameS z | _ => false
def isWhole (k : Int) : D → Bool | .int i => decide (k ≤ i) | _ => false
def sf_is_name {W : Type} : SF W := fun ds w Q _ => ∃ d, ds = [d] ∧ dataD d = true ∧ Q (.bl (isName d)) w
def sf_is_whole {W : Type} : SF W := fun ds w Q _ => ∃ d, ds = [d] ∧ dataD d = true ∧ Q (.bl (isWhole 0 d)) w
def sf_law_whole {W : Type} : SF W := fun ds w Q _ => ∃ d k, ds = [d, .int k] ∧ dataD d = true ∧ Q (.bl (isWhole k d)) w
theorem sf_is_name_mono {W : Type} (ds : List D) : Mono (sf_is_name (W := W) ds) := fun w Q Q' E E' hq _ ⟨d, e, h, q⟩ => ⟨d, e, h, hq _ _ q⟩
theorem sf_is_whole_mono {W : Type} (ds : List D) : Mono (sf_is_whole (W := W) ds) := fun w Q Q' E E' hq _ ⟨d, e, h, q⟩ => ⟨d, e, h, hq _ _ q⟩
theorem sf_law_whole_mono {W : Type} (ds : List D) : Mono (sf_law_whole (W := W) ds) := fun w Q Q' E E' hq _ ⟨d, k, e, h, q⟩ => ⟨d, k, e, h, hq _ _ q⟩
def gray (i : Int) : Int := Builtin.bitXor i (i / 2)
def sealI (i : Int) : Int := 37 * gray i + 11
def sf_seal_of {W : Type} (C : Addr) : SF W := fun ds w Q E => ∃ d, ds = [d] ∧ dataD d = true ∧ (∀ i, d = .int i → 0 ≤ i → i < 2 ^ 1000 ∧ Q (.int (sealI i)) w) ∧ (isWhole 0 d = false → E C w)
theorem sf_seal_of_mono {W : Type} (C : Addr) (ds : List D) : Mono (sf_seal_of (W := W) C ds) := fun w Q Q' E E' hq he ⟨d, e, h, q1, q2⟩ => ⟨d, e, h, fun i a b => ⟨(q1 i a b).1, hq _ _ (q1 i a b).2⟩, fun z => he _ _ (q2 z)⟩
end DL

namespace DL
open PySem PySem.Spec L2 TL Bits
/-! ### numbers as texts -/
theorem val_lt : ∀ l : List Nat, NumText.AllDigits l → NumText.digitsVal l < 10 ^ l.length := by
  have key : ∀ (l : List Nat), NumText.AllDigits l.reverse → NumText.digitsVal l.reverse < 10 ^ l.length := by
    intro l
    induction l with
    | nil => intro _; decide
    | cons c l ih =>
      intro h
      rw [List.reverse_cons] at h ⊢
      rw [PySem.NumText.digitsVal_snoc, List.length_cons, Nat.pow_succ]
      have h1 := ih fun d hd => h d (List.mem_append_left _ hd)
      have h2 := h c (List.mem_append_right _ (List.mem_singleton.mpr rfl))
      omega
  intro l h
  have := key l.reverse (by rw [List.reverse_reverse]; exact h)
  rwa [List.reverse_reverse, List.length_reverse] at this
abbrev strI (i : Int) : Str := Str.ofString (toString i)
theorem str_list (n : Nat) : (strI (n : Int)).cps.toList = numL n := tl_num n
theorem str_length (n : Nat) : (strI (n : Int)).length = (numL n).length := by
  show (strI (n : Int)).cps.size = _
  rw [← Array.length_toList, str_list]
theorem str_SOk {n : Nat} (h : n < 10 ^ 100) : SOk (strI (n : Int)) := by
  refine ⟨?_, strOk_of fun c hc => ?_⟩
  · rw [str_length]
    exact Nat.le_trans (numL_len (by decide) h) (by decide)
  · rw [str_list] at hc
    have := numL_digits n c hc
    omega
theorem numL_lt_pow (n : Nat) : n < 10 ^ (numL n).length := by
  have := val_lt (numL n) (numL_digits n)
  rwa [numL_val] at this
theorem log2_lt {n k : Nat} (h : n < 2 ^ k) (hk : 0 < k) : n.log2 < k := PySem.Flt.log2_lt_of hk h
/-! ### the seals -/
theorem gray_nat (n : Nat) : gray (n : Int) = ((n ^^^ n / 2 : Nat) : Int) := by
  unfold gray
  rw [bitXor_pp (by omega) (by omega)]
  have e1 : ((n : Int) / 2).toNat = n / 2 := by omega
  rw [e1]; rfl
theorem xor_le (a b : Nat) : a ^^^ b ≤ a + b := by
  have := nat_xor_add_and a b
  omega
theorem gray_le {i : Int} (h : 0 ≤ i) : 0 ≤ gray i ∧ gray i ≤ i + i / 2 := by
  obtain ⟨n, rfl⟩ := Int.eq_ofNat_of_zero_le h
  rw [gray_nat]
  have := xor_le n (n / 2)
  omega
theorem gray_inj_nat : ∀ n m : Nat, n ^^^ n / 2 = m ^^^ m / 2 → n = m := by
  have zero : ∀ m : Nat, m ^^^ m / 2 = 0 → m = 0 := fun m h => by
    have : m = m / 2 := by
      have h2 : (m ^^^ m / 2) ^^^ m / 2 = 0 ^^^ m / 2 := by rw [h]
      rw [Nat.xor_assoc, Nat.xor_self, Nat.xor_zero, Nat.zero_xor] at h2
      exact h2
    omega
  intro n
  induction n using Nat.strongRecOn with
  | _ n ih =>
    intro m h
    by_cases hn : n = 0
    · subst hn
      exact (zero m (by rw [← h]; rfl)).symm
    · have h2 : n / 2 = m / 2 := by
        refine ih (n / 2) (by omega) (m / 2) ?_
        rw [← Nat.xor_div_two, ← Nat.xor_div_two, h]
      have h3 : (n ^^^ n / 2) ^^^ n / 2 = (m ^^^ m / 2) ^^^ m / 2 := by rw [h, h2]
      rw [Nat.xor_assoc, Nat.xor_self, Nat.xor_zero, Nat.xor_assoc, Nat.xor_self, Nat.xor_zero] at h3
      exact h3
theorem seal_inj {i j : Int} (hi : 0 ≤ i) (hj : 0 ≤ j) (h : sealI i = sealI j) : i = j := by
  obtain ⟨n, rfl⟩ := Int.eq_ofNat_of_zero_le hi
  obtain ⟨m, rfl⟩ := Int.eq_ofNat_of_zero_le hj
  unfold sealI at h
  rw [gray_nat, gray_nat] at h
  have := gray_inj_nat n m (by omega)
  rw [this]
theorem seal_nonneg {i : Int} (h : 0 ≤ i) : 0 ≤ sealI i := by
  have := gray_le h
  unfold sealI; omega
theorem seal_bound {i : Int} (h : 0 ≤ i) : sealI i ≤ 56 * i + 11 := by
  have := gray_le h
  unfold sealI; omega
theorem seal_len {n : Nat} : (numL (sealI (n : Int)).toNat).length ≤ (numL n).length + 2 := by
  have h1 := numL_lt_pow n
  have h2 := seal_bound (i := (n : Int)) (by omega)
  have h3 := seal_nonneg (i := (n : Int)) (by omega)
  refine numL_len (by omega) ?_
  have e : 10 ^ ((numL n).length + 2) = 100 * 10 ^ (numL n).length := by rw [Nat.pow_add, Nat.mul_comm]
  rw [e]
  generalize 10 ^ (numL n).length = T at h1
  have hT : 1 ≤ T := by omega
  omega
/-! ### names -/
def NameS (z : Str) : Prop := 1 ≤ z.length ∧ z.length ≤ 8 ∧ ∀ c ∈ z.cps.toList, 97 ≤ c ∧ c ≤ 122
theorem NameS.ok {z : Str} (h : NameS z) : SOk z := ⟨Nat.le_trans h.2.1 (by decide), strOk_of fun c hc => by have := h.2.2 c hc; omega⟩
theorem upper_ok {z : Str} (h : ∀ c ∈ z.cps.toList, c < 128) (hl : z.length ≤ LB) : SOk (Txt.upper z) := by
  rw [PyProof.Rows.upper_ascii h]
  refine ⟨?_, strOk_of fun c hc => ?_⟩
  · show (z.cps.map _).size ≤ LB
    rw [Array.size_map]; exact hl
  · simp only [Array.toList_map, List.mem_map] at hc
    obtain ⟨b, hb, rfl⟩ := hc
    have := h b hb
    unfold PyProof.Rows.up1
    split <;> omega
theorem str1_lt (a b : Nat) : decide (((⟨#[a]⟩ : Str).cps.toList) < ((⟨#[b]⟩ : Str).cps.toList)) = decide (a < b) := by
  show decide (([a] : List Nat) < [b]) = _
  by_cases h : a < b
  · rw [decide_eq_true h, decide_eq_true]
    exact List.Lex.rel h
  · rw [decide_eq_false h, decide_eq_false]
    intro z
    cases z with
    | rel z => exact h z
    | cons z => cases z
/-! ### k01's promises -/
def sfCount : SF BW := fun ds w Q _ => ∃ b, ds = [.hnd b] ∧ w.bag = some b ∧ w.n < 2 ^ 59 ∧ ∀ (r : Int) (m : Nat), 0 ≤ r → r < 10 ^ 15 → w.n ≤ m → m ≤ w.n + 2 → Q (.int r) (w.at m)
def sfName : SF BW := fun ds w Q _ => ∃ b, ds = [.hnd b] ∧ w.bag = some b ∧ w.n < 2 ^ 59 ∧ ∀ (z : Str) (m : Nat), NameS z → w.n ≤ m → m ≤ w.n + 10 → Q (.str z) (w.at m)
def sfBent : SF BW := fun ds w Q _ => ∃ b z, ds = [.hnd b, .str z] ∧ w.bag = some b ∧ NameS z ∧ w.n < 2 ^ 59 ∧ ∀ (d : D) (m : Nat), dataD d = true → w.n ≤ m → m ≤ w.n + 4 → Q d (w.at m)
def sfRefused : SF BW := fun ds w Q _ => ∃ d, ds = [d] ∧ dataD d = true ∧ isWhole 0 d = false ∧ Q (.bl true) w
def sfBag : SF BW := fun ds w Q _ => ds = [.hnd w.sc] ∧ w.bag = none ∧ ∀ b, Q (.hnd b) { w with bag := some b }
def sfLaw : SF BW := fun ds w Q _ => ds = [.hnd w.sc] ∧ w.bag = none ∧ w.n = 0 ∧ ∀ w', Q (.bl true) w'
theorem sfCount_mono (ds : List D) : Mono (sfCount ds) := fun w Q Q' E E' hq _ ⟨b, e1, e2, h, q⟩ => ⟨b, e1, e2, h, fun r m a b c d => hq _ _ (q r m a b c d)⟩
theorem sfName_mono (ds : List D) : Mono (sfName ds) := fun w Q Q' E E' hq _ ⟨b, e1, e2, h, q⟩ => ⟨b, e1, e2, h, fun r m a b c => hq _ _ (q r m a b c)⟩
theorem sfBent_mono (ds : List D) : Mono (sfBent ds) := fun w Q Q' E E' hq _ ⟨b, z, e1, e2, h, h2, q⟩ => ⟨b, z, e1, e2, h, h2, fun r m a b c => hq _ _ (q r m a b c)⟩
theorem sfRefused_mono (ds : List D) : Mono (sfRefused ds) := fun w Q Q' E E' hq _ ⟨d, e1, e2, h, q⟩ => ⟨d, e1, e2, h, hq _ _ q⟩
theorem sfBag_mono (ds : List D) : Mono (sfBag ds) := fun w Q Q' E E' hq _ ⟨e1, e2, q⟩ => ⟨e1, e2, fun b => hq _ _ (q b)⟩
theorem sfLaw_mono (ds : List D) : Mono (sfLaw ds) := fun w Q Q' E E' hq _ ⟨e1, e2, e3, q⟩ => ⟨e1, e2, e3, fun b => hq _ _ (q b)⟩
/-! ### draws, walked -/
theorem draw_at {b : Addr} {j : Int} {w : BW} {n : Nat} {Q : D → BW → Prop} {E : Ex → BW → Prop} (hb : w.bag = some b) (hj : 0 < j) (hj2 : j < 2 ^ 500) (hn : n < 2 ^ 60) (q : ∀ (r : Int) (m : Nat), 0 ≤ r → r < j → n ≤ m → m ≤ n + 1 → Q (.int r) (w.at m)) : sfDraw [.hnd b, .int j] (w.at n) Q E :=
  ⟨b, j, rfl, hb, hj, hj2, hn, q⟩
theorem count_at {b : Addr} {w : BW} {n : Nat} {Q : D → BW → Prop} {E : Ex → BW → Prop} (hb : w.bag = some b) (hn : n < 2 ^ 59) (q : ∀ (r : Int) (m : Nat), 0 ≤ r → r < 10 ^ 15 → n ≤ m → m ≤ n + 2 → Q (.int r) (w.at m)) : sfCount [.hnd b] (w.at n) Q E :=
  ⟨b, rfl, hb, hn, q⟩
theorem name_at {b : Addr} {w : BW} {n : Nat} {Q : D → BW → Prop} {E : Ex → BW → Prop} (hb : w.bag = some b) (hn : n < 2 ^ 59) (q : ∀ (z : Str) (m : Nat), NameS z → n ≤ m → m ≤ n + 10 → Q (.str z) (w.at m)) : sfName [.hnd b] (w.at n) Q E :=
  ⟨b, rfl, hb, hn, q⟩
theorem bent_at {b : Addr} {z : Str} {w : BW} {n : Nat} {Q : D → BW → Prop} {E : Ex → BW → Prop} (hb : w.bag = some b) (hz : NameS z) (hn : n < 2 ^ 59) (q : ∀ (d : D) (m : Nat), dataD d = true → n ≤ m → m ≤ n + 4 → Q d (w.at m)) : sfBent [.hnd b, .str z] (w.at n) Q E :=
  ⟨b, z, rfl, hb, hz, hn, q⟩
/-! ### signs -/
def azD : D → Bool
  | .str z => match z.cps.toList with
    | [c] => decide (97 ≤ c) && decide (c ≤ 122)
    | _ => false
  | _ => false
theorem az_one (c : Nat) : azD (.str ⟨#[c]⟩) = (decide (97 ≤ c) && decide (c ≤ 122)) := rfl
theorem str1_nlt (a b : Nat) : (!decide (((⟨#[a]⟩ : Str).cps.toList) < ((⟨#[b]⟩ : Str).cps.toList))) = decide (b ≤ a) := by
  rw [str1_lt]
  by_cases h : a < b
  · rw [decide_eq_true h, decide_eq_false (by omega)]; rfl
  · rw [decide_eq_false h, decide_eq_true (by omega)]; rfl
theorem all_az (z : Str) : ((signsD z).map azD).all id = z.cps.toList.all fun c => decide (97 ≤ c) && decide (c ≤ 122) := by
  unfold signsD
  rw [List.map_map, List.all_map]
  rfl
theorem filter_az (z : Str) : eqD (.lst ((signsD z).filter fun d => !azD d)) (.lst []) = z.cps.toList.all fun c => decide (97 ≤ c) && decide (c ≤ 122) := by
  unfold signsD
  have key : ∀ l : List Nat, eqD (.lst ((l.map fun c => D.str ⟨#[c]⟩).filter fun d => !azD d)) (.lst []) = l.all fun c => decide (97 ≤ c) && decide (c ≤ 122) := by
    intro l
    induction l with
    | nil => rfl
    | cons c l ih =>
      rw [List.map_cons, List.filter_cons, az_one, List.all_cons]
      cases h : decide (97 ≤ c) && decide (c ≤ 122) with
      | true => rw [if_neg (by decide), ih]; rfl
      | false => rw [if_pos (by decide)]; rfl
  exact key _
theorem az_mem (c : Nat) : decide (c ∈ (Str.ofString "abcdefghijklmnopqrstuvwxyz").cps.toList) = (decide (97 ≤ c) && decide (c ≤ 122)) := by
  have e : (Str.ofString "abcdefghijklmnopqrstuvwxyz").cps.toList = [97, 98, 99, 100, 101, 102, 103, 104, 105, 106, 107, 108, 109, 110, 111, 112, 113, 114, 115, 116, 117, 118, 119, 120, 121, 122] := by decide +kernel
  rw [e]
  by_cases h : 97 ≤ c ∧ c ≤ 122
  · rw [decide_eq_true h.1, decide_eq_true h.2]
    refine decide_eq_true ?_
    simp only [List.mem_cons, List.not_mem_nil, or_false]
    omega
  · have : (decide (97 ≤ c) && decide (c ≤ 122)) = false := by
      by_cases h1 : 97 ≤ c
      · rw [decide_eq_false (p := c ≤ 122) (fun h2 => h ⟨h1, h2⟩), Bool.and_false]
      · rw [decide_eq_false h1, Bool.false_and]
    rw [this]
    refine decide_eq_false fun z => h ?_
    simp only [List.mem_cons, List.not_mem_nil, or_false] at z
    omega
theorem signs_mem {z : Str} {d : D} (h : d ∈ signsD z) : ∃ c, d = .str ⟨#[c]⟩ ∧ c ∈ z.cps.toList := by
  unfold signsD at h
  obtain ⟨c, hc, e⟩ := List.mem_map.mp h
  exact ⟨c, e.symm, hc⟩
theorem signs_len (z : Str) : (signsD z).length = z.length := by unfold signsD; rw [List.length_map, Array.length_toList]; rfl
theorem flat_az : ∀ l : List Nat, okD 64 (.lst ((l.map fun c => D.str ⟨#[c]⟩).filter fun d => !azD d)) = true := by
  intro l
  have key : ∀ ds : List D, (∀ d ∈ ds, ∃ z, d = .str z) → okD 64 (.lst ds) = true := by
    intro ds h
    unfold okD
    exact List.all_eq_true.mpr fun d hd => by
      obtain ⟨z, rfl⟩ := h d hd
      exact ok_str _ _
  refine key _ fun d hd => ?_
  obtain ⟨c, _, e⟩ := List.mem_map.mp (List.mem_filter.mp hd).1
  exact ⟨_, e.symm⟩
theorem app_length (a b : Str) : (a ++ b).length = a.length + b.length := by
  show (a ++ b).cps.size = a.cps.size + b.cps.size
  exact Array.size_append
def azP (x : D) : Prop := ∃ c, x = .str ⟨#[c]⟩ ∧ 97 ≤ c ∧ c ≤ 122
theorem az_parts : ∀ xs : List D, (∀ x ∈ xs, azP x) → ∃ ys : List Str, xs = ys.map D.str ∧ ys.length = xs.length ∧ (ys.map (·.length)).sum = ys.length ∧ (joinL [] (ys.map tl)).length = ys.length ∧ ∀ c ∈ joinL [] (ys.map tl), 97 ≤ c ∧ c ≤ 122
  | [], _ => ⟨[], rfl, rfl, rfl, rfl, fun _ h => nomatch h⟩
  | x :: xs, h => by
    obtain ⟨c, rfl, h1, h2⟩ := h x List.mem_cons_self
    obtain ⟨ys, rfl, e2, e3, e4, e5⟩ := az_parts xs fun y hy => h y (List.mem_cons_of_mem _ hy)
    have ej : joinL [] ((⟨#[c]⟩ :: ys : List Str).map tl) = c :: joinL [] (ys.map tl) := by
      cases ys with
      | nil => rfl
      | cons y ys => rfl
    refine ⟨⟨#[c]⟩ :: ys, rfl, by rw [List.length_cons, List.length_cons, List.length_map], ?_, ?_, ?_⟩
    · rw [List.map_cons, List.sum_cons, e3, List.length_cons, Nat.add_comm]; rfl
    · rw [ej, List.length_cons, e4, List.length_cons]
    · rw [ej]
      intro d hd
      rcases List.mem_cons.mp hd with rfl | hd
      · exact ⟨h1, h2⟩
      · exact e5 d hd
theorem name_join {W : Type} {xs : List D} {w : W} {Q : D → W → Prop} {E : Ex → W → Prop} (h : ∀ x ∈ xs, azP x) (h1 : 1 ≤ xs.length) (h2 : xs.length ≤ 8) (q : ∀ z, NameS z → Q (.str z) w) : fJoin (.str (Str.ofString "")) [.lst xs] w Q E := by
  obtain ⟨ys, rfl, e2, e3, e4, e5⟩ := az_parts xs h
  rw [List.length_map] at h1 h2
  have ez : (Txt.join (Str.ofString "") ys).cps.toList = joinL [] (ys.map tl) := by
    rw [join_eq]
    exact tl_join (Str.ofString "") ys
  have hz : NameS (Txt.join (Str.ofString "") ys) := by
    have el : (Txt.join (Str.ofString "") ys).length = ys.length := by
      rw [← e4, ← ez, Array.length_toList]; rfl
    exact ⟨by omega, by omega, by rw [ez]; exact e5⟩
  exact ⟨_, ys, rfl, rfl, by rw [e3, show (Str.ofString "").length = 0 from rfl]; omega, hz.ok, q _ hz⟩
theorem letters : (Str.ofString "abcdefghijklmnopqrstuvwxyz").cps.toList = [97, 98, 99, 100, 101, 102, 103, 104, 105, 106, 107, 108, 109, 110, 111, 112, 113, 114, 115, 116, 117, 118, 119, 120, 121, 122] := by decide +kernel
theorem letter_at {i : Int} (h0 : 0 ≤ i) (h1 : i < 26) : ∃ c, atI (Str.ofString "abcdefghijklmnopqrstuvwxyz").cps.toList i = some c ∧ azP (.str ⟨#[c]⟩) := by
  rw [letters]
  obtain ⟨c, e, hc⟩ := atI_in (xs := [97, 98, 99, 100, 101, 102, 103, 104, 105, 106, 107, 108, 109, 110, 111, 112, 113, 114, 115, 116, 117, 118, 119, 120, 121, 122]) h0 (by simpa using h1)
  refine ⟨c, e, c, rfl, ?_⟩
  simp only [List.mem_cons, List.not_mem_nil, or_false] at hc
  omega
theorem mVar_mono {W : Type} (i : Nat) (ρ : DEnv) : Mono (mVar (W := W) i ρ) := fun w Q Q' E E' hq _ ⟨d, e, q⟩ => ⟨d, e, hq _ _ q⟩
end DL

namespace DL
open PySem PySem.Spec PyProof.Rows L2
section
variable {P : Program} {I : BagI} {K : PySem.W.Frag} {X : Cx} {Wx : WX} {en : En}
/-! ### the script, cut -/
def mScr (i : Nat) : DEnv → M BW D := fun ρ w Q _ => ρ[i]? = some (some (.val (.hnd w.sc))) ∧ (w.ns.length ≤ 63 → BitsOk w.ns → Q (.lst (w.ns.map D.int)) w)
theorem cut_all {α : Type} (xs : List α) (h : xs.length ≤ 63) : (xs.drop (HT.sIx xs.length 0 none)).take (HT.sIx xs.length xs.length (some 63) - HT.sIx xs.length 0 none) = xs := by
  rw [HT.sIx_none, show (63 : Int) = ((63 : Nat) : Int) from rfl, HT.sIx_nat, List.drop_zero, Nat.sub_zero]
  exact List.take_of_length_le (by omega)
theorem dscr (i : Nat) {x : Str} {k : Nat} {pos p0 p1 p2 : Pos} (hN : X.N[i]? = some x := by rfl) (hv : Vis X.env.scope x := by first | exact Or.inl rfl | exact Or.inr (Or.inl rfl) | exact Or.inr (Or.inr rfl)) (hd : (x == ("__debug__" : Str)) = false := by decide)
    (hcd : (x == ("__classdict__" : Str)) = false := by decide) (hK : X.K = K := by rfl) : DE (GB I K) X Wx (.Subscript (.Name x p0) (.Slice none (some (.Constant (.int 63) k p1)) none p2) pos) (mScr i) where
  pe := by
   subst hK
   exact PE.imp (pe_slice sl_list (pv i hN hv hd hcd) po_none (po_some pe_int)) fun σ H Q ⟨A, F, ρ, w, E, kk, r, _, e, q⟩ => by
    obtain ⟨v, e1, rp⟩ := r.val i _ e
    cases rp
    have hs := kk.wi.1.sq
    have hl : (w.ns.map V.int).length ≤ 63 := by rw [List.length_map]; exact kk.wi.2.1
    refine ⟨_, e1, 63, rfl, w.sc, w.ns.map V.int, rfl, hs, fun p hp => ?_⟩
    refine q kk.wi.2.1 kk.wi.2.2.1 _ _ A F (.new hp) (kk.new hp) (.lst upd_same (kk.out hp) ?_ ?_)
    · exact Nat.le_trans (cutV_length _ _ _) (Nat.le_trans hl (by decide))
    · unfold cutV
      rw [cut_all _ hl]
      exact RepL.of_ints w.ns
  mono := fun ρ w Q Q' E E' hq _ ⟨h, q⟩ => ⟨h, fun z y => hq _ _ (q z y)⟩
/-! ### return [great, lesser + [0], 0, stir]: the bag -/
def sRetBag (i j k : Nat) : MS BW := fun ρ w E => ∃ (gs ls : List Int) (st : Int), ρ[i]? = some (some (.own (gs.map D.int))) ∧ ρ[j]? = some (some (.val (.lst (ls.map D.int)))) ∧ ρ[k]? = some (some (.val (.int st))) ∧ w.bag = none ∧
  (∀ g ∈ gs, 0 ≤ g) ∧ gs.length ≤ 63 ∧ ls.length ≤ 63 ∧ (∀ l ∈ ls, 0 ≤ l ∧ l < 10 ^ 18) ∧ 0 ≤ st ∧ st < MB ∧ ∀ b, E.rt (.hnd b) { w with bag := some b }
abbrev bagT (i j k : Nat) : TE := fun σ H Q => ∃ (a0 l : Addr) (xs : List V) (st : Int), σ[i]? = some (some (.ref a0)) ∧ σ[j]? = some (some (.ref l)) ∧ σ[k]? = some (some (.int st)) ∧ H l = some (.lst xs) ∧ xs.length ≤ 63 ∧
  ∀ t, H t = none → ∀ p1, upd H t (.lst [.int 0]) p1 = none → ∀ p, upd (upd H t (.lst [.int 0])) p1 (.lst (xs ++ [.int 0])) p = none → Q (.ref p) (upd (upd (upd H t (.lst [.int 0])) p1 (.lst (xs ++ [.int 0]))) p (.lst [.ref a0, .ref p1, .int 0, .int st]))
theorem dsretbag (i j k : Nat) {e : Expr} {pos : Pos} (h : PE X e (bagT i j k)) (hK : X.K = K := by rfl) : DS (GB bagA K) en X Wx (.Return (some e) pos) (sRetBag i j k) := by
  subst hK
  refine ⟨PS.imp (ps_ret h) fun D σ H ⟨ps, A, F, ρ, w, E, c, l, gs, ls, st, e1, e2, e3, hb, g1, g2, l1, l2, s1, s2, q⟩ => ?_, fun ρ w E E' l ⟨gs, ls, st, e1, e2, e3, hb, g1, g2, l1, l2, s1, s2, q⟩ => ⟨gs, ls, st, e1, e2, e3, hb, g1, g2, l1, l2, s1, s2, fun b => l.rt _ _ (q b)⟩⟩
  obtain ⟨a0, ys, f1, f2, f3, f4, f5, f6⟩ := c.env.own i _ e1
  have ho := c.own i _ a0 e1 f1
  obtain ⟨v2, f7, r2⟩ := c.env.val j _ e2
  obtain ⟨v3, f8, r3⟩ := c.env.val k _ e3
  cases r3
  cases r2 with
  | @lst lv xs _ h2 n2 z2 rr2 =>
  have ey := f6.ints
  have ex := rr2.ints
  subst ey ex
  refine ⟨a0, lv, _, st, f1, f7, f8, h2, by rw [List.length_map]; exact l1, fun t ht p1 hp1 p hp => ?_⟩
  have c1 := c.step (.new (o := .lst [.int 0]) ht) (c.ok.new ht)
  have c2 := c1.step (.new (o := .lst (ls.map V.int ++ [.int 0])) hp1) (c1.ok.new hp1)
  have c3 := c2.step (.new (o := .lst [.ref a0, .ref p1, .int 0, .int st]) hp) (c2.ok.new hp)
  have t1 : H p1 = none := by
    by_cases z : p1 = t
    · rw [z]; exact ht
    · rw [upd_ne z] at hp1; exact hp1
  have n1 : p ≠ p1 := fun z => by subst z; rw [upd_same] at hp; cases hp
  have t2 : H p = none := by
    rw [upd_ne n1] at hp
    by_cases z : p = t
    · rw [z]; exact ht
    · rw [upd_ne z] at hp; exact hp
  have na0 : a0 ≠ p := ne_of_none f2 t2
  have na1 : a0 ≠ p1 := ne_of_none f2 t1
  have nat : a0 ≠ t := ne_of_none f2 ht
  generalize hH3 : upd (upd (upd H t (.lst [.int 0])) p1 (.lst (ls.map V.int ++ [.int 0]))) p (.lst [.ref a0, .ref p1, .int 0, .int st]) = H3 at c3
  have k3 : ∀ a o, H a = some o → H3 a = some o := fun a o h => by
    rw [← hH3, upd_ne (ne_of_none h t2), upd_ne (ne_of_none h t1), upd_ne (ne_of_none h ht)]; exact h
  have hp3 : H3 p = some (.lst [.ref a0, .ref p1, .int 0, .int st]) := by rw [← hH3]; exact upd_same
  have hp13 : H3 p1 = some (.lst ((ls ++ [0]).map V.int)) := by rw [← hH3, upd_ne (Ne.symm n1), upd_same, List.map_append]; rfl
  have fr := (GB bagA X.K).frame (w := w) (H := H) (H' := H3) (A := A) (F := F) (F' := fun a => F a ∨ a = p1 ∨ a = p) c.ok.wi (fun a o h _ => k3 a o h) fun a h => h.elim .inl fun h => .inr (h.elim (fun e => e ▸ t1) fun e => e ▸ t2)
  have rs : ∀ q, ¬ A q → w.h q = none ∧ ∀ x C fs, w.h x ≠ some (.ins C q fs) := fun q h => rest_of c.ok h
  have wi : (GB bagA X.K).WI { w with bag := some p } H3 (fun a => A a ∨ a = a0 ∨ a = p1 ∨ a = p) (fun a => F a ∨ a = p1 ∨ a = p) := by
    refine ⟨fr.1, fr.2.1, fr.2.2.1, fun b hb' => ?_, fun a o e => ⟨.inl (fr.2.2.2.2 a o e).1, (fr.2.2.2.2 a o e).2.more fun _ h => .inl h⟩⟩
    cases (Option.some.inj hb' : p = b)
    refine ⟨a0, p1, gs, ls ++ [0], 0, st, hp3, k3 _ _ f2, hp13, ⟨.inr (.inr (.inr rfl)), rs _ fun z => c.ok.dom _ (c.ok.af _ z) t2⟩, ⟨.inr (.inl rfl), rs _ f4⟩, ⟨.inr (.inr (.inl rfl)), rs _ fun z => c.ok.dom _ (c.ok.af _ z) t1⟩, Ne.symm na0, n1, na1, g1, g2, by simp, by simp; omega, fun x hx => ?_, Int.le_refl _, Int.natCast_nonneg _, s1, s2⟩
    rcases List.mem_append.mp hx with hx | hx
    · exact l2 x hx
    · rw [List.mem_singleton.mp hx]; exact ⟨by decide, by decide⟩
  have kp : Keeps F H (fun a => F a ∨ a = p1 ∨ a = p) H3 := fun a o ha hn => ⟨k3 a o ha, fun z => z.elim hn fun z => z.elim (fun z => ne_of_none ha t1 z) fun z => ne_of_none ha t2 z⟩
  have cN : SC (GB bagA X.K) en ps (σ.map fun _ => none) (ρ.map fun _ => none) { w with bag := some p } H3 (fun a => A a ∨ a = a0 ∨ a = p1 ∨ a = p) (fun a => F a ∨ a = p1 ∨ a = p) := by
    have no : ∀ {α : Type} (l : DEnv) (i : Nat) (x : Ent), (l.map fun _ => (none : Option Ent))[i]? = some (some x) → False := fun l i x h => by
      rw [List.getElem?_map] at h
      cases q : l[i]? <;> rw [q] at h <;> cases h
    refine ⟨⟨wi, fun a h => ?_, fun a h => ?_⟩, ⟨by rw [List.length_map, List.length_map]; exact c.env.len, fun i d h => (no (α := Nat) _ _ _ h).elim, fun i d h => (no (α := Nat) _ _ _ h).elim, fun i j ds es a h => (no (α := Nat) _ _ _ h).elim⟩, c3.keep, c3.there, fun a h => ?_, fun a h => ?_, fun a h => .inl (c.am a h), fun a h => .inl (c.fm a h), fun i d a h => (no (α := Nat) _ _ _ h).elim, c.F0, ps.st _ _ _ _ kp c.pin⟩
    · rcases h with h | h | h | h
      · exact .inl (c.ok.af a h)
      · exact .inl (h ▸ f3)
      · exact .inr (.inl h)
      · exact .inr (.inr h)
    · rcases h with h | h | h
      · exact c3.ok.dom a h
      · rw [h, hp13]; exact fun z => nomatch z
      · rw [h, hp3]; exact fun z => nomatch z
    · rcases h with h | h | h | h
      · exact c.fa a h
      · exact .inr (h ▸ ho)
      · exact .inr (h ▸ c.there _ t1)
      · exact .inr (h ▸ c.there _ t2)
    · rcases h with h | h | h
      · exact c.ff a h
      · exact .inr (h ▸ c.there _ t1)
      · exact .inr (h ▸ c.there _ t2)
  exact l.rt (.hnd p) (.ref p) _ H3 _ _ _ _ cN (.hnd p) (q p)
end
/-! ### isinstance of what was caught -/
section
variable {W : Type} {w : W} {Q : D → W → Prop} {E : Ex → W → Prop} {K : PySem.W.Frag} {e : Ex} {a : Addr}
theorem isE_one {c : D} {v : Value} (b : Bool) (h : clsVal c = some v) (k : PySem.W.kitOne K (.ref e) v = some b) (q : Q (.bl b) w) : fIsE K e a [.hnd a, c] w Q E := ⟨c, rfl, .inl ⟨v, b, h, k, q⟩⟩
theorem isE_any {cs : List D} {vs : List Value} (b : Bool) (h : clsVals cs = some vs) (k : PySem.W.kitAny K (.ref e) vs = some b) (q : Q (.bl b) w) : fIsE K e a [.hnd a, .tup cs] w Q E := ⟨_, rfl, .inr ⟨cs, vs, b, rfl, h, k, q⟩⟩
end
theorem bag63 {α : Type} {xs : List α} {y : α} (h : xs.length ≤ 63) : xs.length + [y].length ≤ sizeLine := line _ (Nat.le_trans (Nat.succ_le_succ h) (by decide))
/-! ### loops, by an invariant -/
section
variable {W : Type} {b : BG} {mb : MS W} {E : EndsM W}
theorem loopS_go (I : List D → List D → DEnv → W → Prop) (step : ∀ d pre ds ρ w (R B : DEnv → W → Prop), I pre (d :: ds) ρ w → (∀ ρ' w', I (pre ++ [d]) ds ρ' w' → R ρ' w') → (∀ ρ' w', E.nx ρ' w' → B ρ' w') → b d ρ fun ρ' => mb ρ' w ⟨R, E.rt, B, R, E.ex⟩) (done : ∀ pre ρ w, I pre [] ρ w → E.nx ρ w) :
    ∀ ds pre ρ w, I pre ds ρ w → loopS b mb ds ρ w E
  | [], pre, ρ, w, h => done pre ρ w h
  | d :: ds, pre, ρ, w, h => step d pre ds ρ w (fun ρ2 w2 => loopS b mb ds ρ2 w2 E) E.nx h (fun ρ' w' z => loopS_go I step done ds _ ρ' w' z) fun _ _ z => z
theorem loopR_go {lo : Int} (I : Nat → DEnv → W → Prop) (N : Nat) (step : ∀ i ρ w (R B : DEnv → W → Prop), i < N → I i ρ w → (∀ ρ' w', I (i + 1) ρ' w' → R ρ' w') → (∀ ρ' w', E.nx ρ' w' → B ρ' w') → b (.int (lo + i)) ρ fun ρ' => mb ρ' w ⟨R, E.rt, B, R, E.ex⟩) (done : ∀ ρ w, I N ρ w → E.nx ρ w) :
    ∀ n i ρ w, n + i = N → I i ρ w → loopR b mb lo n i ρ w E
  | 0, i, ρ, w, e, h => done ρ w (by have : i = N := by omega
                                     subst this; exact h)
  | n + 1, i, ρ, w, e, h => step i ρ w (fun ρ2 w2 => loopR b mb lo n (i + 1) ρ2 w2 E) E.nx (by omega) h (fun ρ' w' z => loopR_go I N step done n (i + 1) ρ' w' (by omega) z) fun _ _ z => z
end
/-! ### the bag's two lists, as data -/
def geD : D → Bool | .int i => decide (10 ^ 18 ≤ i) | _ => false
def ltD : D → Bool | .int i => decide (i < 10 ^ 18) | _ => false
def subD : D → D | .int i => .int (i - 10 ^ 18) | d => d
def modD : D → D | .int i => .int (i % 10 ^ 18) | d => d
def greatOf (ns : List Int) : List Int := (ns.filter fun i => decide (10 ^ 18 ≤ i)).map (· - 10 ^ 18)
def lessOf (ns : List Int) : List Int := (ns.filter fun i => decide (i < 10 ^ 18)).map (· % 10 ^ 18)
theorem great_eq (ns : List Int) : ((ns.map D.int).filter geD).map subD = (greatOf ns).map D.int := by
  induction ns with
  | nil => rfl
  | cons n ns ih =>
    unfold greatOf at ih ⊢
    rw [List.map_cons, List.filter_cons, List.filter_cons, show geD (.int n) = decide (10 ^ 18 ≤ n) from rfl]
    cases decide (10 ^ 18 ≤ n) with
    | true => rw [if_pos rfl, if_pos rfl, List.map_cons, List.map_cons, List.map_cons, ih]; rfl
    | false => rw [if_neg Bool.false_ne_true, if_neg Bool.false_ne_true, ih]
theorem less_eq (ns : List Int) : ((ns.map D.int).filter ltD).map modD = (lessOf ns).map D.int := by
  induction ns with
  | nil => rfl
  | cons n ns ih =>
    unfold lessOf at ih ⊢
    rw [List.map_cons, List.filter_cons, List.filter_cons, show ltD (.int n) = decide (n < 10 ^ 18) from rfl]
    cases decide (n < 10 ^ 18) with
    | true => rw [if_pos rfl, if_pos rfl, List.map_cons, List.map_cons, List.map_cons, ih]; rfl
    | false => rw [if_neg Bool.false_ne_true, if_neg Bool.false_ne_true, ih]
theorem great_ok (ns : List Int) (h : ns.length ≤ 63) : (∀ g ∈ greatOf ns, 0 ≤ g) ∧ (greatOf ns).length ≤ 63 := by
  refine ⟨fun g hg => ?_, ?_⟩
  · obtain ⟨i, hi, rfl⟩ := List.mem_map.mp hg
    have := of_decide_eq_true (List.mem_filter.mp hi).2
    omega
  · unfold greatOf
    rw [List.length_map]
    exact Nat.le_trans (List.length_filter_le _ _) h
theorem less_ok (ns : List Int) (h : ns.length ≤ 63) : (∀ l ∈ lessOf ns, 0 ≤ l ∧ l < 10 ^ 18) ∧ (lessOf ns).length ≤ 63 := by
  refine ⟨fun g hg => ?_, ?_⟩
  · obtain ⟨i, hi, rfl⟩ := List.mem_map.mp hg
    exact ⟨Int.emod_nonneg _ (by decide), Int.emod_lt_of_pos _ (by decide)⟩
  · unfold lessOf
    rw [List.length_map]
    exact Nat.le_trans (List.length_filter_le _ _) h
theorem ints_mem {d : D} {ns : List Int} (h : d ∈ ns.map D.int) : ∃ i, d = .int i ∧ i ∈ ns := by
  obtain ⟨i, hi, e⟩ := List.mem_map.mp h
  exact ⟨i, e.symm, hi⟩
theorem pow7 {x : Int} (h0 : 0 ≤ x) (h : x < 2 ^ 129) : CPowW x 7 := by
  refine ⟨by decide, ?_⟩
  have h1 := PySem.Flt.log2_lt_of (n := x.natAbs) (k := 129) (by decide) (by omega)
  have h2 : Builtin.Int.intBits x ≤ x.natAbs.log2 + 1 := by
    unfold Builtin.Int.intBits
    split <;> omega
  omega
theorem pow18 : CPowW 10 18 := by unfold CPowW; decide +kernel
theorem pow15 : CPowW 10 15 := by unfold CPowW; decide +kernel
/-! ### lists of ints -/
theorem okD_ints (n : Nat) (ns : List Int) : okD (n + 1) (.lst (ns.map D.int)) = true := by
  unfold okD
  exact List.all_eq_true.mpr fun d hd => by
    obtain ⟨i, rfl, _⟩ := ints_mem hd
    exact ok_int _ _
theorem eqvAll_refl_ints : ∀ ns : List Int, PyData.eqvAll (pyL (ns.map D.int)) (pyL (ns.map D.int)) = true
  | [] => rfl
  | n :: ns => by
    rw [List.map_cons]
    simp only [pyL, py, PyData.eqvAll, eqvAll_refl_ints ns, Bool.and_true]
    exact (eqD_int n n).trans (decide_eq_true rfl)
theorem eqD_ints_refl (ns : List Int) : eqD (.lst (ns.map D.int)) (.lst (ns.map D.int)) = true := by
  show PyData.eqv (.list (pyL (ns.map D.int))) (.list (pyL (ns.map D.int))) = true
  simp only [PyData.eqv]
  exact eqvAll_refl_ints ns
theorem eqD_nil (ds : List D) : eqD (.lst ds) (.lst []) = ds.isEmpty := by
  cases ds <;> rfl
theorem atI_ints {ns : List Int} {i : Nat} {n : Int} (h : ns[i]? = some n) : atI (ns.map D.int) (i : Int) = some (.int n) := atI_nat (by rw [List.getElem?_map, h]; rfl)
theorem atI_ints_last {ns : List Int} (h : ns ≠ []) : ∃ n, n ∈ ns ∧ atI (ns.map D.int) (-1) = some (.int n) := by
  refine ⟨ns.getLast h, List.getLast_mem h, ?_⟩
  have e := List.dropLast_concat_getLast h
  have : ns.map D.int = ns.dropLast.map D.int ++ [.int (ns.getLast h)] := by
    conv => lhs; rw [← e]
    rw [List.map_append]; rfl
  rw [this]
  exact atI_last _ _
def sealD : D → D | .int i => .int (sealI i) | d => d
theorem seal_map (ns : List Int) : (ns.map D.int).map sealD = (ns.map sealI).map D.int := by rw [List.map_map, List.map_map]; rfl
theorem filter_whole {ns : List Int} (h : ∀ n ∈ ns, 0 ≤ n) : ((ns.map D.int).filter fun d => !isWhole 0 d).map id = [] := by
  rw [List.map_id, List.filter_eq_nil_iff]
  intro d hd
  obtain ⟨i, rfl, hi⟩ := ints_mem hd
  rw [show isWhole 0 (.int i) = true from decide_eq_true (h i hi)]
  exact Bool.false_ne_true
theorem strI_ok {n : Int} (h0 : 0 ≤ n) (h : n < 10 ^ 100) : n.natAbs.log2 < 1920 ∧ SOk (strI n) := by
  obtain ⟨m, rfl⟩ := Int.eq_ofNat_of_zero_le h0
  refine ⟨?_, str_SOk (by omega)⟩
  have h1 : m < 2 ^ 400 := Nat.lt_of_lt_of_le (by omega : m < 10 ^ 100) (by decide +kernel)
  have := PySem.Flt.log2_lt_of (n := m) (k := 400) (by decide) h1
  have e : (m : Int).natAbs = m := rfl
  rw [e]
  omega
theorem strI_seal {n : Int} (h0 : 0 ≤ n) : (strI (sealI n)).length ≤ (strI n).length + 2 := by
  obtain ⟨m, rfl⟩ := Int.eq_ofNat_of_zero_le h0
  have h1 := seal_nonneg (i := (m : Int)) (by omega)
  obtain ⟨s, hs⟩ := Int.eq_ofNat_of_zero_le h1
  have := seal_len (n := m)
  rw [hs] at this ⊢
  rw [str_length, str_length]
  exact this
end DL

namespace DL
open PySem PySem.Spec L2
section
theorem ixN_cons (g : Int) (gs : List Int) : ixN ((g :: gs).map V.int).length 0 = some 0 := by
  unfold ixN
  rw [List.map_cons, List.length_cons, if_pos (Int.le_refl 0), if_pos (by omega)]
  rfl
/-- the bag's three lists -/
structure Bg (H : Hp) (A : Foot) (b b0 b1 : Addr) (gs ls : List Int) (c st : Int) : Prop where
  h : H b = some (.lst [.ref b0, .ref b1, .int c, .int st])
  h0 : H b0 = some (.lst (gs.map V.int))
  h1 : H b1 = some (.lst (ls.map V.int))
  a : A b
  a0 : A b0
  a1 : A b1
  n0 : b ≠ b0
  n1 : b ≠ b1
  n2 : b0 ≠ b1
  g : ∀ g ∈ gs, 0 ≤ g
  gl : gs.length ≤ 63
  l : ls ≠ []
  ll : ls.length ≤ 100
  lb : ∀ l ∈ ls, 0 ≤ l ∧ l < 10 ^ 18
  s0 : 0 ≤ st
  s1 : st < MB
structure Kp (A : Foot) (H H1 : Hp) : Prop where
  keep : ∀ a o, H a = some o → ¬ A a → H1 a = some o
  there : ∀ a, H1 a = none → H a = none
theorem Kp.new {A : Foot} {H H1 : Hp} {p : Addr} {o : HO} (k : Kp A H H1) (hp : H1 p = none) : Kp A H (upd H1 p o) := ⟨fun a u h n => by
    have := k.keep a u h n
    rw [upd_ne (ne_of_none this hp)]; exact this, fun a h => by
    by_cases e : a = p
    · subst e; exact k.there _ hp
    · rw [upd_ne e] at h; exact k.there _ h⟩
theorem Kp.set {A : Foot} {H H1 : Hp} {p : Addr} {o : HO} (k : Kp A H H1) (hp : A p) : Kp A H (upd H1 p o) := ⟨fun a u h n => by
    rw [upd_ne (by intro e; subst e; exact n hp)]; exact k.keep a u h n, fun a h => by
    by_cases e : a = p
    · subst e; rw [upd_same] at h; cases h
    · rw [upd_ne e] at h; exact k.there _ h⟩
theorem Bg.new {H : Hp} {A : Foot} {b b0 b1 : Addr} {gs ls : List Int} {c st : Int} {p : Addr} {o : HO} (B : Bg H A b b0 b1 gs ls c st) (hp : H p = none) : Bg (upd H p o) A b b0 b1 gs ls c st :=
  { B with h := by rw [upd_ne (ne_of_none B.h hp)]; exact B.h, h0 := by rw [upd_ne (ne_of_none B.h0 hp)]; exact B.h0, h1 := by rw [upd_ne (ne_of_none B.h1 hp)]; exact B.h1 }
theorem Bg.setg {H : Hp} {A : Foot} {b b0 b1 : Addr} {gs gs' ls : List Int} {c st : Int} (B : Bg H A b b0 b1 gs ls c st) (h1 : ∀ g ∈ gs', 0 ≤ g) (h2 : gs'.length ≤ 63) : Bg (upd H b0 (.lst (gs'.map V.int))) A b b0 b1 gs' ls c st :=
  { B with h := by rw [upd_ne B.n0]; exact B.h, h0 := upd_same, h1 := by rw [upd_ne (Ne.symm B.n2)]; exact B.h1, g := h1, gl := h2 }
theorem Bg.setb {H : Hp} {A : Foot} {b b0 b1 : Addr} {gs ls : List Int} {c st c' st' : Int} (B : Bg H A b b0 b1 gs ls c st) (h1 : 0 ≤ st') (h2 : st' < MB) : Bg (upd H b (.lst [.ref b0, .ref b1, .int c', .int st'])) A b b0 b1 gs ls c' st' :=
  { B with h := upd_same, h0 := by rw [upd_ne (Ne.symm B.n0)]; exact B.h0, h1 := by rw [upd_ne (Ne.symm B.n1)]; exact B.h1, s0 := h1, s1 := h2 }
theorem dp_ints {K : PySem.W.Frag} {H : Hp} : ∀ gs : List Int, DpAll K H (gs.map V.int) (gs.map PyData.int)
  | [] => .nil
  | g :: gs => .cons (.int g) (dp_ints gs)
theorem lay_ints : ∀ gs : List Int, PyData.canLayAll0 (gs.map PyData.int) = true
  | [] => rfl
  | g :: gs => by rw [List.map_cons, PyData.canLayAll0, lay_ints gs]; rfl
theorem depth_ints : ∀ gs : List Int, PyData.depthAll (gs.map PyData.int) = 0
  | [] => rfl
  | g :: gs => by rw [List.map_cons, PyData.depthAll, depth_ints gs]; rfl
theorem shaped_ints (gs : List Int) : SeqAt.shaped (.list (gs.map PyData.int)) = true := by
  unfold SeqAt.shaped
  rw [show PyData.canLay0 (.list (gs.map PyData.int)) = true from by simp only [PyData.canLay0]; exact lay_ints gs, Bool.true_and]
  refine decide_eq_true ?_
  simp only [PyData.depth, depth_ints]
  decide
theorem eqv_nil (gs : List Int) : PyData.eqv (.list (gs.map PyData.int)) (.list []) = gs.isEmpty := by
  cases gs <;> simp [PyData.eqv, PyData.eqvAll]
/-- behind a draw -/
theorem bag_step {I : BagI} {K : PySem.W.Frag} {H H1 : Hp} {A F : Foot} {b : Addr} {w : BW} {m : Nat} (k : (GB I K).Ok w H A F) (kp : Kp (Rest w.h A) H H1) (B : I.P H1 (Rest w.h A) b m) (hb : w.bag = some b) :
    Stp A F H A F H1 ∧ (GB I K).Ok { w with n := m } H1 A F := by
  have nR : ∀ a, ¬ F a → ¬ Rest w.h A a := fun a h z => h (k.af a z.1)
  refine ⟨⟨fun a o h n => kp.keep a o h fun z => n z.1, kp.there, fun _ h => .inl h, fun _ h => .inl h, fun _ h => h, fun _ h => h⟩, ⟨⟨?_, k.wi.2.1, k.wi.2.2.1, fun b' e => ?_, fun a o e => ⟨(k.wi.2.2.2.2 a o e).1, ?_⟩⟩, k.af, fun a h z => k.dom a h (kp.there a z)⟩⟩
  · rcases k.wi.1 with ⟨h, hF⟩ | h
    · refine .inl ⟨?_, hF⟩
      rcases h with h | ⟨o, h⟩
      · exact .inl (kp.keep _ _ h (nR _ hF))
      · exact .inr ⟨o, kp.keep _ _ h (nR _ hF)⟩
    · exact .inr h
  · have e' : w.bag = some b' := e
    rw [hb] at e'
    cases e'
    exact B
  · refine (k.wi.2.2.2.2 a o e).2.mono (fun x u h n => ⟨kp.keep x u h (nR x n), n⟩) (fun u h => kp.keep a u h fun z => ?_) fun C dx fs eo => ⟨fun u h => kp.keep dx u h fun z => ?_, fun h => h⟩
    · have e' : w.h a = some o := e
      have z2 : w.h a = none := z.2.1
      rw [e'] at z2; cases z2
    · subst eo
      exact z.2.2 a C fs e
theorem Bg.step {K : PySem.W.Frag} {H H1 : Hp} {A F : Foot} {b b0 b1 : Addr} {gs ls : List Int} {c st : Int} {w : BW} {m : Nat} (k : (GB bagA K).Ok w H A F) (kp : Kp (Rest w.h A) H H1) (B : Bg H1 (Rest w.h A) b b0 b1 gs ls c st) (hb : w.bag = some b) (c0 : 0 ≤ c) (c1 : c ≤ m) :
    Stp A F H A F H1 ∧ (GB bagA K).Ok { w with n := m } H1 A F :=
  bag_step k kp ⟨b0, b1, gs, ls, c, st, B.h, B.h0, B.h1, B.a, B.a0, B.a1, B.n0, B.n1, B.n2, B.g, B.gl, B.l, B.ll, B.lb, c0, c1, B.s0, B.s1⟩ hb
end
end DL

namespace DL
open PySem PySem.Spec L2
/-! ### the well: great ones, lesser ones, the stir, how many were taken -/
abbrev MW : Int := 2147483563
abbrev GW : Int := 10 ^ 120
structure Wl (H : Hp) (A : Foot) (b b0 b1 : Addr) (gs ls : List Int) (st c : Int) : Prop where
  h : H b = some (.lst [.ref b0, .ref b1, .int st, .int c])
  h0 : H b0 = some (.lst (gs.map V.int))
  h1 : H b1 = some (.lst (ls.map V.int))
  a : A b
  a0 : A b0
  a1 : A b1
  n0 : b ≠ b0
  n1 : b ≠ b1
  n2 : b0 ≠ b1
  g : ∀ g ∈ gs, 0 ≤ g ∧ g < GW
  gl : gs.length ≤ 63
  ll : ls.length ≤ 63
  lb : ∀ l ∈ ls, 0 ≤ l ∧ l < MW
  s0 : 0 ≤ st
  s1 : st < MW
def bagB : BagI where
  P := fun H A b n => ∃ b0 b1 gs ls st c, Wl H A b b0 b1 gs ls st c ∧ 0 ≤ c ∧ c ≤ n
  fr2 := fun ⟨b0, b1, gs, ls, st, c, B, c0, c1⟩ k m => ⟨b0, b1, gs, ls, st, c, ⟨k _ _ B.h B.a, k _ _ B.h0 B.a0, k _ _ B.h1 B.a1, m _ B.a, m _ B.a0, m _ B.a1, B.n0, B.n1, B.n2, B.g, B.gl, B.ll, B.lb, B.s0, B.s1⟩, c0, c1⟩
section
variable {K : PySem.W.Frag} {H H1 : Hp} {A F : Foot} {b b0 b1 p : Addr} {gs gs' ls : List Int} {c st c' st' : Int} {o : HO}
theorem Wl.new (B : Wl H A b b0 b1 gs ls st c) (hp : H p = none) : Wl (upd H p o) A b b0 b1 gs ls st c :=
  { B with h := by rw [upd_ne (ne_of_none B.h hp)]; exact B.h, h0 := by rw [upd_ne (ne_of_none B.h0 hp)]; exact B.h0, h1 := by rw [upd_ne (ne_of_none B.h1 hp)]; exact B.h1 }
theorem Wl.setg (B : Wl H A b b0 b1 gs ls st c) (h1 : ∀ g ∈ gs', 0 ≤ g ∧ g < GW) (h2 : gs'.length ≤ 63) : Wl (upd H b0 (.lst (gs'.map V.int))) A b b0 b1 gs' ls st c :=
  { B with h := by rw [upd_ne B.n0]; exact B.h, h0 := upd_same, h1 := by rw [upd_ne (Ne.symm B.n2)]; exact B.h1, g := h1, gl := h2 }
theorem Wl.setb (B : Wl H A b b0 b1 gs ls st c) (h1 : 0 ≤ st') (h2 : st' < MW) : Wl (upd H b (.lst [.ref b0, .ref b1, .int st', .int c'])) A b b0 b1 gs ls st' c' :=
  { B with h := upd_same, h0 := by rw [upd_ne (Ne.symm B.n0)]; exact B.h0, h1 := by rw [upd_ne (Ne.symm B.n1)]; exact B.h1, s0 := h1, s1 := h2 }
theorem Wl.step {w : BW} {m : Nat} (k : (GB bagB K).Ok w H A F) (kp : Kp (Rest w.h A) H H1) (B : Wl H1 (Rest w.h A) b b0 b1 gs ls st c) (hb : w.bag = some b) (c0 : 0 ≤ c) (c1 : c ≤ m) :
    Stp A F H A F H1 ∧ (GB bagB K).Ok { w with n := m } H1 A F := bag_step k kp ⟨b0, b1, gs, ls, st, c, B, c0, c1⟩ hb
end
theorem powB {x : Int} (h : x.natAbs < 2 ^ 106) : CPowW x 5 := by
  refine ⟨by decide, ?_⟩
  have h1 := PySem.Flt.log2_lt_of (n := x.natAbs) (k := 106) (by decide) h
  have h2 : Builtin.Int.intBits x ≤ x.natAbs.log2 + 1 := by
    unfold Builtin.Int.intBits
    split <;> omega
  omega
section
open PySem.Spec PyProof.Rows
variable {K : PySem.W.Frag} {X : Cx} {Wx : WX} {en : En}
/-! ### return [great, small, stir, 0]: the well -/
def sRetWell (i j k : Nat) : MS BW := fun ρ w E => ∃ (gs ls : List Int) (st : Int), i ≠ j ∧ ρ[i]? = some (some (.own (gs.map D.int))) ∧ ρ[j]? = some (some (.own (ls.map D.int))) ∧ ρ[k]? = some (some (.val (.int st))) ∧ w.bag = none ∧
  (∀ g ∈ gs, 0 ≤ g ∧ g < GW) ∧ gs.length ≤ 63 ∧ ls.length ≤ 63 ∧ (∀ l ∈ ls, 0 ≤ l ∧ l < MW) ∧ 0 ≤ st ∧ st < MW ∧ ∀ b, E.rt (.hnd b) { w with bag := some b }
abbrev wellT (i j k : Nat) : TE := fun σ H Q => ∃ (a0 a1 : Addr) (st : Int), σ[i]? = some (some (.ref a0)) ∧ σ[j]? = some (some (.ref a1)) ∧ σ[k]? = some (some (.int st)) ∧
  ∀ p, H p = none → Q (.ref p) (upd H p (.lst [.ref a0, .ref a1, .int st, .int 0]))
theorem dsretwell (i j k : Nat) {e : Expr} {pos : Pos} (h : PE X e (wellT i j k)) (hK : X.K = K := by rfl) : DS (GB bagB K) en X Wx (.Return (some e) pos) (sRetWell i j k) := by
  subst hK
  refine ⟨PS.imp (ps_ret h) fun D σ H ⟨ps, A, F, ρ, w, E, c, l, gs, ls, st, ij, e1, e2, e3, hb, g1, g2, l1, l2, s1, s2, q⟩ => ?_, fun ρ w E E' l ⟨gs, ls, st, ij, e1, e2, e3, hb, g1, g2, l1, l2, s1, s2, q⟩ => ⟨gs, ls, st, ij, e1, e2, e3, hb, g1, g2, l1, l2, s1, s2, fun b => l.rt _ _ (q b)⟩⟩
  obtain ⟨a0, ys, f1, f2, f3, f4, f5, f6⟩ := c.env.own i _ e1
  obtain ⟨a1, zs, h1, h2, h3, h4, h5, h6⟩ := c.env.own j _ e2
  have ho0 := c.own i _ a0 e1 f1
  have ho1 := c.own j _ a1 e2 h1
  have n01 : a0 ≠ a1 := fun z => ij (c.env.inj i j _ _ a0 e1 e2 f1 (z ▸ h1))
  obtain ⟨v3, f8, r3⟩ := c.env.val k _ e3
  cases r3
  have ey := f6.ints
  have ex := h6.ints
  subst ey ex
  refine ⟨a0, a1, st, f1, h1, f8, fun p hp => ?_⟩
  have c3 := c.step (.new (o := .lst [.ref a0, .ref a1, .int st, .int 0]) hp) (c.ok.new hp)
  have na0 : a0 ≠ p := ne_of_none f2 hp
  have na1 : a1 ≠ p := ne_of_none h2 hp
  generalize hH3 : upd H p (.lst [.ref a0, .ref a1, .int st, .int 0]) = H3 at c3
  have k3 : ∀ a o, H a = some o → H3 a = some o := fun a o h => by rw [← hH3, upd_ne (ne_of_none h hp)]; exact h
  have hp3 : H3 p = some (.lst [.ref a0, .ref a1, .int st, .int 0]) := by rw [← hH3]; exact upd_same
  have fr := (GB bagB X.K).frame (w := w) (H := H) (H' := H3) (A := A) (F := F) (F' := fun a => F a ∨ a = p) c.ok.wi (fun a o h _ => k3 a o h) fun a h => h.elim .inl fun h => .inr (h ▸ hp)
  have rs : ∀ q, ¬ A q → w.h q = none ∧ ∀ x C fs, w.h x ≠ some (.ins C q fs) := fun q h => rest_of c.ok h
  have wi : (GB bagB X.K).WI { w with bag := some p } H3 (fun a => A a ∨ a = a0 ∨ a = a1 ∨ a = p) (fun a => F a ∨ a = p) := by
    refine ⟨fr.1, fr.2.1, fr.2.2.1, fun b hb' => ?_, fun a o e => ⟨.inl (fr.2.2.2.2 a o e).1, (fr.2.2.2.2 a o e).2.more fun _ h => .inl h⟩⟩
    cases (Option.some.inj hb' : p = b)
    exact ⟨a0, a1, gs, ls, st, 0, ⟨hp3, k3 _ _ f2, k3 _ _ h2, ⟨.inr (.inr (.inr rfl)), rs _ fun z => c.ok.dom _ (c.ok.af _ z) hp⟩, ⟨.inr (.inl rfl), rs _ f4⟩, ⟨.inr (.inr (.inl rfl)), rs _ h4⟩, Ne.symm na0, Ne.symm na1, n01, g1, g2, l1, l2, s1, s2⟩, Int.le_refl _, Int.natCast_nonneg _⟩
  have kp : Keeps F H (fun a => F a ∨ a = p) H3 := fun a o ha hn => ⟨k3 a o ha, fun z => z.elim hn fun z => ne_of_none ha hp z⟩
  have cN : SC (GB bagB X.K) en ps (σ.map fun _ => none) (ρ.map fun _ => none) { w with bag := some p } H3 (fun a => A a ∨ a = a0 ∨ a = a1 ∨ a = p) (fun a => F a ∨ a = p) := by
    have no : ∀ (l : DEnv) (i : Nat) (x : Ent), (l.map fun _ => (none : Option Ent))[i]? = some (some x) → False := fun l i x h => by
      rw [List.getElem?_map] at h
      cases q : l[i]? <;> rw [q] at h <;> cases h
    refine ⟨⟨wi, fun a h => ?_, fun a h => ?_⟩, ⟨by rw [List.length_map, List.length_map]; exact c.env.len, fun i d h => (no _ _ _ h).elim, fun i d h => (no _ _ _ h).elim, fun i j ds es a h => (no _ _ _ h).elim⟩, c3.keep, c3.there, fun a h => ?_, fun a h => ?_, fun a h => .inl (c.am a h), fun a h => .inl (c.fm a h), fun i d a h => (no _ _ _ h).elim, c.F0, ps.st _ _ _ _ kp c.pin⟩
    · rcases h with h | h | h | h
      · exact .inl (c.ok.af a h)
      · exact .inl (h ▸ f3)
      · exact .inl (h ▸ h3)
      · exact .inr h
    · rcases h with h | h
      · exact c3.ok.dom a h
      · rw [h, hp3]; exact fun z => nomatch z
    · rcases h with h | h | h | h
      · exact c.fa a h
      · exact .inr (h ▸ ho0)
      · exact .inr (h ▸ ho1)
      · exact .inr (h ▸ c.there _ hp)
    · rcases h with h | h
      · exact c.ff a h
      · exact .inr (h ▸ c.there _ hp)
  exact l.rt (.hnd p) (.ref p) _ H3 _ _ _ _ cN (.hnd p) (q p)
end
section
variable {G : Wd} {X : Cx} {W : Type}
def absI (i : Int) : Int := if i < 0 then -i else i
def fAbs : FA W := fun ds w Q _ => ∃ i : Int, ds = [.int i] ∧ Q (.int (absI i)) w
theorem o_abs : OpC G X (.builtin "abs") fAbs where
  ex := ⟨_, call_abs, fun xs vs w H A F Q E k r ⟨i, e, q⟩ => by
    subst e
    cases r with
    | cons r1 r => cases r with
      | nil => exact ⟨i, by rw [r1.int], q _ H A F .refl k (.int _)⟩⟩
  mono := fun ds w Q Q' E E' hq he ⟨i, e, q⟩ => ⟨i, e, hq _ _ q⟩
theorem abs_int (i : Int) {w : W} {Q : D → W → Prop} {E : Ex → W → Prop} : fAbs [.int i] w Q E = Q (.int (absI i)) w := propext ⟨fun ⟨j, e, q⟩ => by cases e; exact q, fun q => ⟨i, rfl, q⟩⟩
theorem absI_nn (i : Int) : 0 ≤ absI i := by unfold absI; split <;> omega
end
end DL

namespace DL
open PySem PySem.Spec PyProof.Rows L2
/-! ### what is changed in place: read -/
def view (w : BW) : D → D
  | .hnd a => match w.h a with
    | some (.lst ds) => .lst ds
    | some (.dct kvs) => .dct kvs
    | _ => .hnd a
  | d => d
section
variable {I : BagI} {K : PySem.W.Frag} {X : Cx} {Wx : WX} {en : En} {ps : Pin} {w : BW} {H : Hp} {A F : Foot}
theorem repW_view (k : (GB I K).Ok w H A F) {v : V} {d : D} (r : RepW F H v d) : RepW F H v (view w d) := by
  cases d with
  | hnd a =>
    have e := r.hnd
    cases q : w.h a with
    | none => rw [show view w (.hnd a) = .hnd a by simp only [view, q]]; exact r
    | some o =>
      obtain ⟨_, ha⟩ := k.wi.2.2.2.2 a o q
      cases o with
      | lst ds =>
        obtain ⟨xs, h1, h2, h3⟩ := ha
        rw [show view w (.hnd a) = .lst ds by simp only [view, q]]
        exact .inr (.inl ⟨a, xs, ds, e, rfl, h1, h2, h3⟩)
      | dct ds =>
        obtain ⟨xs, h1, h2, h3⟩ := ha
        rw [show view w (.hnd a) = .dct ds by simp only [view, q]]
        exact .inr (.inr ⟨a, xs, ds, e, rfl, h1, h2, h3⟩)
      | ins _ _ _ => rw [show view w (.hnd a) = .hnd a by simp only [view, q]]; exact r
      | exc _ => rw [show view w (.hnd a) = .hnd a by simp only [view, q]]; exact r
      | nst _ _ => rw [show view w (.hnd a) = .hnd a by simp only [view, q]]; exact r
  | _ => exact r
abbrev v2 (f : F2 BW) : F2 BW := fun x y w Q E => f (view w x) (view w y) w Q E
abbrev vA (f : FA BW) : FA BW := fun ds w Q E => f (ds.map (view w)) w Q E
theorem Op2.v {op : Value → Value → Sem Value} {f : F2 BW} (o : Op2 (GB I K) X op f) : Op2 (GB I K) X op (v2 f) where
  ex := let ⟨r, h, s⟩ := o.ex; ⟨r, h, fun x y v u w H A F Q E k r1 r2 q => s _ _ v u w H A F Q E k (repW_view k r1) (repW_view k r2) q⟩
  mono := fun x y w Q Q' E E' hq he q => o.mono _ _ w Q Q' E E' hq he q
theorem OpIx.v {f : F2 BW} (o : OpIx (GB I K) X f) : OpIx (GB I K) X (v2 f) where
  ex := let ⟨r, h, s⟩ := o.ex; ⟨r, h, fun x y v u w H A F Q E k r1 r2 q => s _ _ v u w H A F Q E k (repW_view k r1) (repW_view k r2) q⟩
  mono := fun x y w Q Q' E E' hq he q => o.mono _ _ w Q Q' E E' hq he q
theorem OpSl.v {f : D → Option Int → Option Int → M BW D} (o : OpSl (GB I K) X f) : OpSl (GB I K) X (fun x l u w Q E => f (view w x) l u w Q E) where
  ex := let ⟨r, h, s⟩ := o.ex; ⟨r, h, fun x v l u w H A F Q E k r1 q => s _ v l u w H A F Q E k (repW_view k r1) q⟩
  mono := fun x l u w Q Q' E E' hq he q => o.mono _ l u w Q Q' E E' hq he q
theorem paired_view (k : (GB I K).Ok w H A F) : ∀ {vs : List V} {ds : List D}, Paired (RepW F H) vs ds → Paired (RepW F H) vs (ds.map (view w))
  | _, _, .nil => .nil
  | _, _, .cons r t => .cons (repW_view k r) (paired_view k t)
theorem OpC.v {f : Value} {m : FA BW} (o : OpC (GB I K) X f m) : OpC (GB I K) X f (vA m) where
  ex := let ⟨r, h, s⟩ := o.ex; ⟨r, h, fun xs vs w H A F Q E k rr q => s _ vs w H A F Q E k (paired_view k rr) q⟩
  mono := fun xs w Q Q' E E' hq he q => o.mono _ w Q Q' E E' hq he q

/-! ### .. written -/
def put (h : Addr → Option OD) (a : Addr) (o : OD) : Addr → Option OD := fun b => if b = a then some o else h b
theorem put_same {h : Addr → Option OD} {a : Addr} {o : OD} : put h a o a = some o := if_pos rfl
theorem put_ne {h : Addr → Option OD} {a b : Addr} {o : OD} (n : b ≠ a) : put h a o b = h b := if_neg n
theorem keep_own {a : Addr} {o : HO} (hF : F a) : Keeps F H F (upd H a o) := fun b u h n => ⟨by rw [upd_ne (by intro e; subst e; exact n hF)]; exact h, n⟩
/-- the object at a is another one of its kind now -/
theorem Ok.write {a : Addr} {o o' : OD} {ho : HO} (k : (GB I K).Ok w H A F) (e : w.h a = some o) (hk : ∀ C dx fs, o' = .ins C dx fs → ∃ fs', o = .ins C dx fs') (h : OdAt A F (upd H a ho) a o') :
    Stp A F H A F (upd H a ho) ∧ (GB I K).Ok { w with h := put w.h a o' } (upd H a ho) A F := by
  obtain ⟨hA, hO⟩ := k.wi.2.2.2.2 a o e
  have hF := k.af a hA
  have kp : Keeps F H F (upd H a ho) := keep_own hF
  have live := hO.live
  refine ⟨⟨fun b u h n => by rw [upd_ne (by intro z; subst z; exact n hA)]; exact h, fun b h => ?_, fun _ h => .inl h, fun _ h => .inl h, fun _ h => h, fun _ h => h⟩, ⟨⟨?_, k.wi.2.1, k.wi.2.2.1, fun b hb => ?_, fun b u hb => ?_⟩, k.af, fun b h => ?_⟩⟩
  · by_cases z : b = a
    · subst z; rw [upd_same] at h; cases h
    · rw [upd_ne z] at h; exact h
  · rcases k.wi.1 with ⟨h, hn⟩ | h
    · have ns : w.sc ≠ a := fun z => hn (z ▸ hF)
      refine .inl ⟨?_, hn⟩
      rcases h with h | ⟨o, h⟩
      · exact .inl (by rw [upd_ne ns]; exact h)
      · exact .inr ⟨o, by rw [upd_ne ns]; exact h⟩
    · exact .inr h
  · refine I.fr2 (k.wi.2.2.2.1 b hb) (fun c u h z => by rw [upd_ne (fun e2 => by have := z.2.1; rw [e2, e] at this; cases this)]; exact h) fun c z => ⟨z.1, ?_, fun x C fs q => ?_⟩
    · have n : c ≠ a := fun e2 => by have := z.2.1; rw [e2, e] at this; cases this
      show put w.h a o' c = none
      rw [put_ne n]; exact z.2.1
    · by_cases n : x = a
      · subst n
        have q' : put w.h x o' x = some (.ins C c fs) := q
        rw [put_same] at q'
        obtain ⟨fs', e2⟩ := hk C c fs (Option.some.inj q')
        exact z.2.2 x C fs' (by rw [e, e2])
      · have q' : put w.h a o' x = some (.ins C c fs) := q
        rw [put_ne n] at q'
        exact z.2.2 x C fs q'
  · by_cases n : b = a
    · subst n
      have hb' : put w.h b o' b = some u := hb
      rw [put_same] at hb'
      cases hb'
      exact ⟨hA, h⟩
    · have hb' : put w.h a o' b = some u := hb
      rw [put_ne n] at hb'
      obtain ⟨h1, h2⟩ := k.wi.2.2.2.2 b u hb'
      refine ⟨h1, h2.mono kp (fun x hx => by rw [upd_ne n]; exact hx) fun C dx fs eo => ⟨fun x hx => ?_, fun z => z⟩⟩
      have nd : dx ≠ a := fun z => by
        subst eo
        obtain ⟨vs, _, _, hown, _⟩ := h2
        subst z
        cases o with
        | lst ds => obtain ⟨xs, q, _⟩ := hO; rw [hown] at q; cases q
        | dct ds => obtain ⟨xs, q, _⟩ := hO; rw [hown] at q; cases q
        | ins C2 d2 f2 => obtain ⟨xs, q, _⟩ := hO; rw [hown] at q; cases q
        | exc C2 => have q : H _ = some _ := hO; rw [hown] at q; cases q
        | nst w2 d2 => obtain ⟨_, xs, q, _⟩ := hO; rw [hown] at q; cases q
      rw [upd_ne nd]; exact hx
  · by_cases z : b = a
    · subst z; rw [upd_same]; exact fun q => nomatch q
    · rw [upd_ne z]; exact k.dom b h
end
end DL

namespace DL
open PySem PySem.Spec PyProof.Rows L2
section
variable {I : BagI} {K : PySem.W.Frag} {X : Cx} {Wx : WX} {en : En} {ps : Pin} {w : BW} {H : Hp} {A F : Foot}
theorem Ok.writeL {a : Addr} {ds0 ds : List D} {xs : List V} (k : (GB I K).Ok w H A F) (e : w.h a = some (.lst ds0)) (r : RepL F H xs ds) (hl : xs.length ≤ LB) :
    Stp A F H A F (upd H a (.lst xs)) ∧ (GB I K).Ok { w with h := put w.h a (.lst ds) } (upd H a (.lst xs)) A F :=
  Ok.write k e (by intro _ _ _ z; cases z) ⟨xs, upd_same, hl, r.mono (keep_own (k.af a (k.wi.2.2.2.2 a _ e).1))⟩
theorem Ok.writeK {a : Addr} {ds0 ds : List (Key × D)} {xs : List (Key × V)} (k : (GB I K).Ok w H A F) (e : w.h a = some (.dct ds0)) (r : RepK F H xs ds) (hl : xs.length ≤ LB) :
    Stp A F H A F (upd H a (.dK xs)) ∧ (GB I K).Ok { w with h := put w.h a (.dct ds) } (upd H a (.dK xs)) A F :=
  Ok.write k e (by intro _ _ _ z; cases z) ⟨xs, upd_same, hl, r.mono (keep_own (k.af a (k.wi.2.2.2.2 a _ e).1))⟩
theorem Ok.list {a : Addr} {ds : List D} (k : (GB I K).Ok w H A F) (e : w.h a = some (.lst ds)) : ∃ xs, H a = some (.lst xs) ∧ xs.length ≤ LB ∧ RepL F H xs ds := (k.wi.2.2.2.2 a _ e).2
theorem Ok.dict {a : Addr} {ds : List (Key × D)} (k : (GB I K).Ok w H A F) (e : w.h a = some (.dct ds)) : ∃ xs, H a = some (.dK xs) ∧ xs.length ≤ LB ∧ RepK F H xs ds := (k.wi.2.2.2.2 a _ e).2
/-! ### an own list goes over to the world -/
def sAdopt (i : Nat) (m : MS BW) : MS BW := fun ρ w E => ∃ ds, ρ[i]? = some (some (.own ds)) ∧ ∀ p, w.h p = none → m (ρ.set i (some (.val (.hnd p)))) { w with h := put w.h p (.lst ds) } E
theorem SC.adopt {σ : St} {ρ : DEnv} {i : Nat} {ds : List D} (c : SC (GB I K) en ps σ ρ w H A F) (e1 : ρ[i]? = some (some (.own ds))) :
    ∃ p A', w.h p = none ∧ SC (GB I K) en ps σ (ρ.set i (some (.val (.hnd p)))) { w with h := put w.h p (.lst ds) } H A' F := by
  obtain ⟨l, xs, f1, f2, f3, f4, f5, f6⟩ := c.env.own i ds e1
  have ho := c.own i ds l e1 f1
  have rs := rest_of c.ok f4
  refine ⟨l, fun a => A a ∨ a = l, rs.1, ⟨⟨⟨c.ok.wi.1, c.ok.wi.2.1, c.ok.wi.2.2.1, fun b hb => ?_, fun b u hb => ?_⟩, fun a h => h.elim (c.ok.af a) fun z => z ▸ f3, c.ok.dom⟩, ⟨by rw [List.length_set]; exact c.env.len, ?_, ?_, ?_⟩, c.keep, c.there, fun a h => h.elim (c.fa a) fun z => .inr (z ▸ ho), c.ff, fun a h => .inl (c.am a h), c.fm, ?_, c.F0, c.pin⟩⟩
  · refine I.fr2 (c.ok.wi.2.2.2.1 b hb) (fun _ _ h _ => h) fun x z => ⟨.inl z.1, ?_, fun y C fs q => ?_⟩
    · have n : x ≠ l := fun e => f4 (e ▸ z.1)
      show put w.h l _ x = none
      rw [put_ne n]; exact z.2.1
    · have q' : put w.h l (.lst ds) y = some (.ins C x fs) := q
      by_cases n : y = l
      · subst n; rw [put_same] at q'; cases q'
      · rw [put_ne n] at q'; exact z.2.2 y C fs q'
  · have hb' : put w.h l (.lst ds) b = some u := hb
    by_cases n : b = l
    · subst n; rw [put_same] at hb'; cases hb'; exact ⟨.inr rfl, xs, f2, f5, f6⟩
    · rw [put_ne n] at hb'
      exact ⟨.inl (c.ok.wi.2.2.2.2 b u hb').1, (c.ok.wi.2.2.2.2 b u hb').2.more fun _ h => .inl h⟩
  · intro j d e
    rcases getset e with ⟨rfl, z⟩ | ⟨n1, z1⟩
    · cases z; exact ⟨_, f1, .hnd l⟩
    exact c.env.val j d z1
  · intro j d e
    rcases getset e with ⟨rfl, z⟩ | ⟨n1, z1⟩
    · cases z
    obtain ⟨a, zs, g1, g2, g3, g4, g5, g6⟩ := c.env.own j d z1
    exact ⟨a, zs, g1, g2, g3, fun z => z.elim g4 fun z => n1 (c.env.inj i j ds d a e1 z1 (z ▸ f1) g1), g5, g6⟩
  · intro j k d1 d2 a h1 h2 h3 h4
    rcases getset h1 with ⟨rfl, z⟩ | ⟨n1, z1⟩
    · cases z
    rcases getset h2 with ⟨rfl, z⟩ | ⟨n2, z2⟩
    · cases z
    exact c.env.inj j k d1 d2 a z1 z2 h3 h4
  · intro j d a h1 h2
    rcases getset h1 with ⟨rfl, z⟩ | ⟨n1, z1⟩
    · cases z
    exact c.own j d a z1 h2
theorem dsadopt (i : Nat) {st : List Stmt} {m : MS BW} (h : DSs (GB I K) en X Wx st m) : DSs (GB I K) en X Wx st (sAdopt i m) :=
  ⟨PSs.imp h.ps fun De σ H ⟨ps, A, F, ρ, w, E, c, l, ds, e1, q⟩ => let ⟨p, A', hp, c'⟩ := SC.adopt c e1; ⟨ps, A', F, _, _, E, c', l, q p hp⟩, fun ρ w E E' l ⟨ds, e1, q⟩ => ⟨ds, e1, fun p hp => h.mono _ _ _ _ l (q p hp)⟩⟩
/-! ### methods of a list that the world has -/
structure OpMH (I : BagI) (K : PySem.W.Frag) (X : Cx) (id : String) (f : Addr → FA BW) : Prop where
  ex : ∃ r, MtR X id r ∧ ∀ a xs vs w H A F Q E, (GB I K).Ok w H A F → RepL F H vs xs → f a xs w (post (GB I K) A F H Q) E → r (.ref a) vs H Q
  mono : ∀ x xs, Mono (f x xs)
def mMH (f : Addr → FA BW) (mo : DEnv → M BW D) (m : DEnv → M BW (List D)) : DEnv → M BW D := fun ρ w Q E => mo ρ w (fun x w1 => ∃ a, x = .hnd a ∧ (∃ ds, w1.h a = some (.lst ds)) ∧ m ρ w1 (fun vs w2 => f a vs w2 Q E) E) E
theorem dmh {id : String} {name : Str} {f : Addr → FA BW} {o e : Expr} {es : List Expr} {mo : DEnv → M BW D} {m : DEnv → M BW (List D)} {apos cpos : Pos} (slot : Slot "list" name id) (hty : typeOf (.builtin id) = pure (.type "method_descriptor"))
    (op : OpMH I K X id f) (ho : DE (GB I K) X Wx o mo) (ha : DA (GB I K) X Wx (e :: es) m)
    (hbase : attributeBase o name X.env (eval o X.env) = eval o X.env := by rfl)
    (hfew : ((backTo cpos (starEach (e :: es) X.env)).all (fun x => !x.1) && (backToKw cpos (keywordEach [] X.env)).all (fun x => x.1.isSome)
      && decide ((e :: es).length + ([] : List Keyword).length + (if ([] : List Keyword).isEmpty then 0 else 1) < 30)) = true := by rfl)
    (hline : (apos.endLine == cpos.line) = true := by rfl) (hs : starEach (e :: es) X.env = (false, eval e X.env) :: starEach es X.env := by rfl) (hplain : (backTo cpos (starEach es X.env)).any (·.1) = false := by rfl) :
    DE (GB I K) X Wx (.Call (.Attribute o name apos) (e :: es) [] cpos) (mMH f mo m) := by
  obtain ⟨⟨r, hr, hsd⟩, hm2⟩ := op
  have hk : ∀ (d : D) (ρ : DEnv), Mono (fun (w : BW) (Q : D → BW → Prop) (E : Ex → BW → Prop) => ∃ a, d = .hnd a ∧ (∃ ds, w.h a = some (.lst ds)) ∧ m ρ w (fun vs w2 => f a vs w2 Q E) E) := fun d ρ w Q Q' E E' hq he ⟨a, e1, e2, q⟩ => ⟨a, e1, e2, ha.mono ρ w _ _ _ _ (fun vs w2 z => hm2 a vs w2 _ _ _ _ hq he z) he q⟩
  refine ⟨PE.imp (pe_bm PySem.F.plainAttrs_list slot hty hr ho.pe ha.pe hbase hfew hline hs hplain) fun σ H Q h1 => ?_, fun ρ => (ho.mono ρ).bind fun d => hk d ρ⟩
  refine runE ho.mono hk (P := .e (GB I K) Q) h1 fun v d H1 ⟨A, F, ρ, w, E, k, re, x, rp, a, e1, ⟨ds, e2⟩, q⟩ => ?_
  subst e1
  cases rp
  obtain ⟨xs, h1, _⟩ := Ok.list k e2
  refine ⟨.inl ⟨rfl, xs, SqL.of h1⟩, A, F, ρ, w, E, k, re, x, ha.mono ρ w _ _ _ _ (fun vs w2 z us H2 A2 F2 s k2 rp2 => ?_) (fun _ _ z => z) q⟩
  exact hsd a vs us w2 H2 A2 F2 Q E k2 rp2 (hm2 a vs w2 _ _ _ _ (fun d w z => post_trans (G := GB I K) s d w z) (fun _ _ z => z) z)
def fAppend (a : Addr) : FA BW := fun vs w Q _ => ∃ ds d, vs = [d] ∧ w.h a = some (.lst ds) ∧ ds.length < LB ∧ Q .non { w with h := put w.h a (.lst (ds ++ [d])) }
theorem o_append : OpMH I K X "list.append" fAppend where
  ex := ⟨_, mt_append, fun a xs vs w H A F Q E k r ⟨ds, d, e1, e2, hl, q⟩ => by
    subst e1
    cases r with
    | cons r1 r => cases r with
      | nil =>
        obtain ⟨zs, h1, h2, h3⟩ := Ok.list k e2
        have hl' : zs.length < LB := by rw [h3.length]; exact hl
        obtain ⟨s, k2⟩ := Ok.writeL k e2 (h3.append (.cons r1 .nil)) (by rw [List.length_append]; exact hl')
        exact ⟨a, zs, _, rfl, rfl, h1, lineLt _ (Nat.le_of_lt hl'), q _ _ A F s k2 .non⟩⟩
  mono := fun a xs w Q Q' E E' hq he ⟨ds, d, e1, e2, hl, q⟩ => ⟨ds, d, e1, e2, hl, hq _ _ q⟩
end
end DL

namespace DL
open PySem PySem.Spec PyProof.Rows L2
/-! ### fields -/
def putD (f : Str) (d : D) : List (Str × D) → List (Str × D)
  | [] => [(f, d)]
  | (g, x) :: r => if g = f then (g, d) :: r else (g, x) :: putD f d r
theorem RepF.look {F : Foot} {H : Hp} {m : Str} {d : D} : ∀ {vs : List (Str × V)} {ds : List (Str × D)}, RepF F H vs ds → ds.lookup m = some d → ∃ v, vs.lookup m = some v ∧ Rep F H v d
  | _, _, .nil, e => by cases e
  | _, _, @RepF.cons _ _ x v d0 vs ds h r, e => by
    rw [List.lookup_cons] at e ⊢
    cases q : m == x with
    | true => rw [q] at e; cases e; exact ⟨v, rfl, h⟩
    | false => rw [q] at e; exact RepF.look r e
theorem RepF.none {F : Foot} {H : Hp} {m : Str} : ∀ {vs : List (Str × V)} {ds : List (Str × D)}, RepF F H vs ds → ds.lookup m = .none → vs.lookup m = .none
  | _, _, .nil, _ => rfl
  | _, _, @RepF.cons _ _ x v d0 vs ds h r, e => by
    rw [List.lookup_cons] at e ⊢
    cases q : m == x with
    | true => rw [q] at e; cases e
    | false => rw [q] at e; exact RepF.none r e
theorem RepF.put {F : Foot} {H : Hp} {m : Str} {v : V} {d : D} (hv : Rep F H v d) : ∀ {vs : List (Str × V)} {ds : List (Str × D)}, RepF F H vs ds → RepF F H (putF m v vs) (putD m d ds)
  | _, _, .nil => .cons hv .nil
  | _, _, @RepF.cons _ _ x u d0 vs ds h r => by
    unfold putF putD
    by_cases e : x = m
    · rw [if_pos e, if_pos e]; exact .cons hv r
    · rw [if_neg e, if_neg e]; exact .cons h (RepF.put hv r)
theorem RepF.length {F : Foot} {H : Hp} : ∀ {vs : List (Str × V)} {ds : List (Str × D)}, RepF F H vs ds → vs.length = ds.length
  | _, _, .nil => rfl
  | _, _, .cons _ r => congrArg (· + 1) (RepF.length r)
section
variable {I : BagI} {K : PySem.W.Frag} {X : Cx} {Wx : WX} {en : En} {ps : Pin} {w : BW} {H : Hp} {A F : Foot}
theorem Ok.inst {a C dx : Addr} {fs : List (Str × D)} (k : (GB I K).Ok w H A F) (e : w.h a = some (.ins C dx fs)) : ∃ vs, H a = some (.ins C dx vs) ∧ A dx ∧ H dx = some (.own a) ∧ RepF F H vs fs := (k.wi.2.2.2.2 a _ e).2
theorem Ok.writeI {a C dx : Addr} {fs0 fs : List (Str × D)} {vs : List (Str × V)} (k : (GB I K).Ok w H A F) (e : w.h a = some (.ins C dx fs0)) (r : RepF F H vs fs) :
    Stp A F H A F (upd H a (.ins C dx vs)) ∧ (GB I K).Ok { w with h := put w.h a (.ins C dx fs) } (upd H a (.ins C dx vs)) A F := by
  obtain ⟨us, h1, h2, h3, h4⟩ := Ok.inst k e
  have hA := (k.wi.2.2.2.2 a _ e).1
  have nd : dx ≠ a := fun z => by subst z; rw [h1] at h3; cases h3
  exact Ok.write k e (by intro _ _ _ z; cases z; exact ⟨_, rfl⟩) ⟨vs, upd_same, h2, by rw [upd_ne nd]; exact h3, r.mono (keep_own (k.af a hA))⟩
/-- o.m, o an instance of C -/
def mFld (C : Addr) (m : Str) (mo : DEnv → M BW D) : DEnv → M BW D := fun ρ w Q E => mo ρ w (fun x w1 => ∃ a dx fs d, x = .hnd a ∧ w1.h a = some (.ins C dx fs) ∧ fs.lookup m = some d ∧ Q d w1) E
theorem dfld {C : Addr} {m : Str} {o : Expr} {mo : DEnv → M BW D} {pos : Pos} (c : Cls X.K C) (n : NoAttr X.K C m) (ho : DE (GB I K) X Wx o mo) (hb : attributeBase o m X.env (eval o X.env) = eval o X.env := by rfl) : DE (GB I K) X Wx (.Attribute o m pos) (mFld C m mo) := by
  have hk : ∀ (x : D) (ρ : DEnv), Mono (fun (w : BW) (Q : D → BW → Prop) (_ : Ex → BW → Prop) => ∃ a dx fs d, x = .hnd a ∧ w.h a = some (.ins C dx fs) ∧ fs.lookup m = some d ∧ Q d w) := fun x ρ w Q Q' E E' hq _ ⟨a, dx, fs, d, e1, e2, e3, q⟩ => ⟨a, dx, fs, d, e1, e2, e3, hq _ _ q⟩
  refine ⟨PE.imp (pe_fld ho.pe hb) fun σ H Q h1 => ?_, fun ρ => (ho.mono ρ).bind fun d => hk d ρ⟩
  refine runE ho.mono hk (P := .e (GB I K) Q) h1 fun v x H1 ⟨A, F, ρ, w, E, k, re, xo, rp, a, dx, fs, d, e1, e2, e3, q⟩ => ?_
  subst e1
  cases rp
  obtain ⟨vs, h1, _, _, h4⟩ := Ok.inst k e2
  obtain ⟨v, hv, rv⟩ := h4.look e3
  exact ⟨a, C, dx, vs, v, rfl, h1, c, n, hv, q v H1 A F .refl k rv⟩
/-- o.m = e -/
def sFldD (C : Addr) (m : Str) (mo me : DEnv → M BW D) : MS BW := fun ρ w E => me ρ w (fun d w1 => mo ρ w1 (fun x w2 => ∃ a dx fs, x = .hnd a ∧ w2.h a = some (.ins C dx fs) ∧ fs.length < 1000 ∧ E.nx ρ { w2 with h := put w2.h a (.ins C dx (putD m d fs)) }) (fun e w' => E.ex e ρ w')) (fun e w' => E.ex e ρ w')
theorem dsfld {C : Addr} {m : Str} {o e : Expr} {mo me : DEnv → M BW D} {pos pos' : Pos} (c : Cls X.K C) (n : NoAttr X.K C m) (ho : DE (GB I K) X Wx o mo) (he : DE (GB I K) X Wx e me) (hs : swapsWith e (some (.Attribute o m pos')) pos.line X.env = pure false := by rfl) :
    DS (GB I K) en X Wx (.Assign [.Attribute o m pos'] e pos) (sFldD C m mo me) := by
  refine ⟨PS.imp (ps_fld ho.pe he.pe hs) fun De σ H ⟨ps, A, F, ρ, w, E, cc, l, q⟩ => ?_, fun ρ w E E' l q => he.mono ρ w _ _ _ _ (fun d w1 z => ho.mono ρ w1 _ _ _ _ (fun x w2 ⟨a, dx, fs, e1, e2, e3, z⟩ => ⟨a, dx, fs, e1, e2, e3, l.nx _ _ z⟩) (fun _ _ z => l.ex _ _ _ z) z) (fun _ _ z => l.ex _ _ _ z) q⟩
  refine atE he.mono cc l q fun d v w1 H1 A1 F1 c1 rd z => ?_
  refine ⟨A1, F1, ρ, w1, _, c1.ok, c1.env, l.exo c1, ho.mono ρ w1 _ _ _ _ (fun x w2 ⟨a, dx, fs, e1, e2, e3, z⟩ u H2 A2 F2 s k2 rx => ?_) (fun _ _ z => z) z⟩
  subst e1
  cases rx
  obtain ⟨vs, h1, _, _, h4⟩ := Ok.inst k2 e2
  have c2 := c1.step s k2
  obtain ⟨s3, k3⟩ := Ok.writeI k2 e2 (RepF.put (m := m) (rd.mono (s.keeps c1.ok.af)) h4)
  exact ⟨a, C, dx, vs, rfl, h1, c, n, by rw [h4.length]; exact e3, l.nx _ _ _ _ _ _ (c2.step s3 k3) z⟩
/-! ### o.m(..), o an instance of C -/
def tMe (C : Addr) (m : Str) (sp : Sp) (E : L2.St → XK) (to : TE) (t : TA) : TE := fun σ H Q => to σ H fun x H1 => ∃ a dx fs, x = .ref a ∧ H1 a = some (.ins C dx fs) ∧ fs.lookup m = none ∧ t σ H1 fun vs H2 => sp (x :: vs) H2 Q (E σ)
section
variable {k : Nat} {f C : Addr} {fd : FuncData} {qs : List Str} {sp : Sp} {E : L2.St → XK} {m : Str} {pos apos : Pos} {e o : Expr} {es : List Expr} {to : TE} {t : TA} {pl : Sem Bool}
abbrev MethTree (X : Cx) (o : Expr) (m : Str) (apos pos : Pos) (es : List Expr) (pl : Sem Bool) : Prop := eval (.Call (.Attribute o m apos) es [] pos) X.env = (do
  let ov ← eval o X.env
  standAt apos.atName
  let (g, first) ← holding [ov] (getMethod ov m pl)
  callWith pos g first (backTo pos (starEach es X.env)) (backToKw pos (keywordEach [] X.env)))
theorem pe_me (ho : PE X o to) (c : Cls X.K C) (M : Meth X.K C m f) (G : FnG X.prog X.w X.K X.mg X.base k f fd qs sp) (hr : RoomG k X.A) (hb : Binds X.K fd qs []) (hx : ∀ σ, PassesAt (L2.CX X.prog X.w) X σ (E σ)) (ha : PA X (e :: es) t)
    (h1 : starEach (e :: es) X.env = (false, eval e X.env) :: starEach es X.env := by rfl) (h2 : (backTo pos (starEach es X.env)).any (·.1) = false := by rfl) (h3 : MethTree X o m apos pos (e :: es) pl := by rfl) :
    PE X (.Call (.Attribute o m apos) (e :: es) [] pos) (tMe C m sp E to t) where
  run := fun pins s σ H Q J q => PySem.W.methodCall_KW (pl := pl) (thn (ho.run pins s σ H _ J q) fun u s1 ⟨x, H1, J1, rx, a, dx, fs, ex, ea, l, q1⟩ => by
    subst ex
    cases (show u = Value.ref a from rx)
    exact getmeth_ok J1 ea c M l (PySem.W.callWith_K (first := [.ref a]) (h₀ := X.base) J.ok.mod.kin M.kp (thn (ha.run pos pins s1 σ H1 _ J1 q1) fun us s2 ⟨vs, H2, J2, r, q2⟩ =>
      ⟨J2.kIn, run_g (us := .ref a :: us) (vs := .ref a :: vs) G hr hb (hx σ) J2 (.cons rfl r) q2⟩) h1 h2)) h3
theorem pe_me0 (ho : PE X o to) (c : Cls X.K C) (M : Meth X.K C m f) (G : FnG X.prog X.w X.K X.mg X.base k f fd qs sp) (hr : RoomG k X.A) (hb : Binds X.K fd qs []) (hx : ∀ σ, PassesAt (L2.CX X.prog X.w) X σ (E σ))
    (h3 : MethTree X o m apos pos [] pl := by rfl) : PE X (.Call (.Attribute o m apos) [] [] pos) (tMe C m sp E to tNil) where
  run := fun pins s σ H Q J q => PySem.W.methodCall_KW (pl := pl) (thn (ho.run pins s σ H _ J q) fun u s1 ⟨x, H1, J1, rx, a, dx, fs, ex, ea, l, q1⟩ => by
    subst ex
    cases (show u = Value.ref a from rx)
    exact getmeth_ok J1 ea c M l (PySem.W.callWith_K0 J1.kIn M.kp (run_g (us := [.ref a]) (vs := [.ref a]) G hr hb (hx σ) J1 (.cons rfl .nil) q1))) h3
end
def mMe (C : Addr) (m : Str) (sf : SF BW) (mo : DEnv → M BW D) (ma : DEnv → M BW (List D)) : DEnv → M BW D := fun ρ w Q E => mo ρ w (fun x w1 => ∃ a dx fs, x = .hnd a ∧ w1.h a = some (.ins C dx fs) ∧ fs.lookup m = none ∧ ma ρ w1 (fun ds w2 => sf (.hnd a :: ds) w2 Q E) E) E
theorem dme {k : Nat} {f C : Addr} {fd : FuncData} {qs : List Str} {sf : SF BW} {m : Str} {pos apos : Pos} {e o : Expr} {es : List Expr} {mo : DEnv → M BW D} {ma : DEnv → M BW (List D)} {pl : Sem Bool} (T : FnD (GB I K) X.prog X.w X.K X.mg X.base k f fd qs sf) (hr : RoomG k X.A) (tk : Takes X Wx)
    (c : Cls X.K C) (M : Meth X.K C m f) (ho : DE (GB I K) X Wx o mo) (ha : DA (GB I K) X Wx (e :: es) ma) (h1 : starEach (e :: es) X.env = (false, eval e X.env) :: starEach es X.env := by rfl) (h2 : (backTo pos (starEach es X.env)).any (·.1) = false := by rfl) (h3 : MethTree X o m apos pos (e :: es) pl := by rfl) :
    DE (GB I K) X Wx (.Call (.Attribute o m apos) (e :: es) [] pos) (mMe C m sf mo ma) := by
  have hk : ∀ (x : D) (ρ : DEnv), Mono (fun (w : BW) (Q : D → BW → Prop) (E : Ex → BW → Prop) => ∃ a dx fs, x = .hnd a ∧ w.h a = some (.ins C dx fs) ∧ fs.lookup m = none ∧ ma ρ w (fun ds w2 => sf (.hnd a :: ds) w2 Q E) E) := fun x ρ w Q Q' E E' hq he ⟨a, dx, fs, e1, e2, e3, q⟩ => ⟨a, dx, fs, e1, e2, e3, ha.mono ρ w _ _ _ _ (fun ds w2 z => T.mono _ w2 _ _ _ _ hq he z) he q⟩
  refine ⟨PE.imp (pe_me ho.pe c M T.ok hr T.bd (fun σ => passAt tk σ) ha.pe h1 h2 h3) fun σ H Q h => ?_, fun ρ => (ho.mono ρ).bind fun d => hk d ρ⟩
  refine runE ho.mono hk (P := .e (GB I K) Q) h fun v x H1 ⟨A, F, ρ, w, E, k, re, xo, rp, a, dx, fs, e1, e2, e3, q⟩ => ?_
  subst e1
  cases rp
  obtain ⟨vs, g1, _, _, g4⟩ := Ok.inst k e2
  refine ⟨a, dx, vs, rfl, g1, g4.none e3, A, F, ρ, w, E, k, re, xo, ha.mono ρ w _ _ _ _ (fun ds w2 z us H2 A2 F2 s k2 r2 => ?_) (fun _ _ z => z) q⟩
  exact ⟨A2, F2, .hnd a :: ds, w2, E, k2, .cons (.hnd a) r2, xo.step s, T.mono _ w2 _ _ _ _ (fun d w z => post_trans (G := GB I K) s d w z) (fun _ _ z => z) z⟩
theorem dme0 {k : Nat} {f C : Addr} {fd : FuncData} {qs : List Str} {sf : SF BW} {m : Str} {pos apos : Pos} {o : Expr} {mo : DEnv → M BW D} {pl : Sem Bool} (T : FnD (GB I K) X.prog X.w X.K X.mg X.base k f fd qs sf) (hr : RoomG k X.A) (tk : Takes X Wx)
    (c : Cls X.K C) (M : Meth X.K C m f) (ho : DE (GB I K) X Wx o mo) (h3 : MethTree X o m apos pos [] pl := by rfl) :
    DE (GB I K) X Wx (.Call (.Attribute o m apos) [] [] pos) (mMe C m sf mo mNil) := by
  have hk : ∀ (x : D) (ρ : DEnv), Mono (fun (w : BW) (Q : D → BW → Prop) (E : Ex → BW → Prop) => ∃ a dx fs, x = .hnd a ∧ w.h a = some (.ins C dx fs) ∧ fs.lookup m = none ∧ mNil ρ w (fun ds w2 => sf (.hnd a :: ds) w2 Q E) E) := fun x ρ w Q Q' E E' hq he ⟨a, dx, fs, e1, e2, e3, q⟩ => ⟨a, dx, fs, e1, e2, e3, T.mono _ w _ _ _ _ hq he q⟩
  refine ⟨PE.imp (pe_me0 ho.pe c M T.ok hr T.bd (fun σ => passAt tk σ) h3) fun σ H Q h => ?_, fun ρ => (ho.mono ρ).bind fun d => hk d ρ⟩
  refine runE ho.mono hk (P := .e (GB I K) Q) h fun v x H1 ⟨A, F, ρ, w, E, k, re, xo, rp, a, dx, fs, e1, e2, e3, q⟩ => ?_
  subst e1
  cases rp
  obtain ⟨vs, g1, _, _, g4⟩ := Ok.inst k e2
  exact ⟨a, dx, vs, rfl, g1, g4.none e3, A, F, [.hnd a], w, E, k, .cons (.hnd a) .nil, xo, q⟩
end
end DL

namespace DL
open PySem PySem.Spec PyProof.Rows L2
/-! ### dicts, as data -/
def keyD : D → Option Key | .int i => some (Sum.inl i) | .str x => some (Sum.inr x) | _ => none
theorem keyD_rep {F : Foot} {H : Hp} {v : V} {y : D} {k : Key} (r : RepW F H v y) (h : keyD y = some k) : v = kV k := by
  cases y <;> simp only [keyD, Option.some.injEq, reduceCtorEq] at h
  · subst h; rw [r.int]; rfl
  · subst h; rw [r.str.1]; rfl
def atK (kvs : List (Key × D)) (k : Key) : Option D := (kvs.find? fun kv => decide (kv.1 = k)).map (·.2)
def setK (kvs : List (Key × D)) (k : Key) (d : D) : List (Key × D) := if (kvs.any fun kv => decide (kv.1 = k)) = true then kvs.map (fun kv => if kv.1 = k then (kv.1, d) else kv) else kvs ++ [(k, d)]
theorem RepK.length {F : Foot} {H : Hp} : ∀ {vs : List (Key × V)} {ds : List (Key × D)}, RepK F H vs ds → vs.length = ds.length
  | _, _, .nil => rfl
  | _, _, .cons _ r => congrArg (· + 1) (RepK.length r)
theorem RepK.at {F : Foot} {H : Hp} {k : Key} : ∀ {vs : List (Key × V)} {ds : List (Key × D)}, RepK F H vs ds → (∀ d, atK ds k = some d → ∃ v, valV vs k = some v ∧ Rep F H v d) ∧ (atK ds k = none → valV vs k = none)
  | _, _, .nil => ⟨fun _ e => (by cases e), fun _ => rfl⟩
  | _, _, @RepK.cons _ _ k0 v d0 vs ds h r => by
    obtain ⟨i1, i2⟩ := RepK.at (k := k) r
    unfold atK valV at *
    rw [List.find?_cons, List.find?_cons]
    by_cases e : k0 = k
    · rw [decide_eq_true (p := (k0, d0).1 = k) e]
      exact ⟨fun d q => by cases q; exact ⟨v, rfl, h⟩, fun q => by cases q⟩
    · rw [decide_eq_false (p := (k0, d0).1 = k) e]
      exact ⟨i1, i2⟩
theorem RepK.any {F : Foot} {H : Hp} {k : Key} : ∀ {vs : List (Key × V)} {ds : List (Key × D)}, RepK F H vs ds → (vs.any fun kv => decide (kv.1 = k)) = (ds.any fun kv => decide (kv.1 = k))
  | _, _, .nil => rfl
  | _, _, .cons _ r => by rw [List.any_cons, List.any_cons, RepK.any r]
theorem RepK.mapS {F : Foot} {H : Hp} {k : Key} {v : V} {d : D} (hv : Rep F H v d) : ∀ {vs : List (Key × V)} {ds : List (Key × D)}, RepK F H vs ds → RepK F H (vs.map fun kv => if kv.1 = k then (kv.1, v) else kv) (ds.map fun kv => if kv.1 = k then (kv.1, d) else kv)
  | _, _, .nil => .nil
  | _, _, @RepK.cons _ _ k0 u d0 vs ds h r => by
    rw [List.map_cons, List.map_cons]
    by_cases e : k0 = k
    · rw [if_pos (show (k0, u).1 = k from e), if_pos (show (k0, d0).1 = k from e)]
      exact .cons hv (RepK.mapS hv r)
    · rw [if_neg (show ¬ (k0, u).1 = k from e), if_neg (show ¬ (k0, d0).1 = k from e)]
      exact .cons h (RepK.mapS hv r)
theorem RepK.append {F : Foot} {H : Hp} : ∀ {vs us : List (Key × V)} {ds es : List (Key × D)}, RepK F H vs ds → RepK F H us es → RepK F H (vs ++ us) (ds ++ es)
  | _, _, _, _, .nil, s => s
  | _, _, _, _, .cons h t, s => .cons h (RepK.append t s)
theorem RepK.set {F : Foot} {H : Hp} {k : Key} {v : V} {d : D} (hv : Rep F H v d) {vs : List (Key × V)} {ds : List (Key × D)} (r : RepK F H vs ds) : RepK F H (putK vs k v) (setK ds k d) := by
  unfold putK setK
  rw [r.any]
  split
  · exact RepK.mapS hv r
  · exact RepK.append r (.cons hv .nil)
theorem setK_len (kvs : List (Key × D)) (k : Key) (d : D) : (setK kvs k d).length ≤ kvs.length + 1 := by
  unfold setK
  split
  · rw [List.length_map]; omega
  · rw [List.length_append]; exact Nat.le_refl _
section
variable {I : BagI} {K : PySem.W.Frag} {X : Cx} {Wx : WX} {en : En} {ps : Pin} {w : BW} {H : Hp} {A F : Foot}
theorem RepL.set {F : Foot} {H : Hp} {v : V} {d : D} (hv : Rep F H v d) : ∀ {vs : List V} {ds : List D} (j : Nat), RepL F H vs ds → RepL F H (vs.set j v) (ds.set j d)
  | _, _, _, .nil => .nil
  | _, _, 0, .cons _ t => .cons hv t
  | _, _, j + 1, .cons h t => .cons h (RepL.set hv j t)
/-! ### o[i] = e, o what the world has -/
def sPutI (mo mi me : DEnv → M BW D) : MS BW := fun ρ w E => me ρ w (fun d w1 => mo ρ w1 (fun x w2 => mi ρ w2 (fun y w3 =>
  (∃ a ds i j, x = .hnd a ∧ y = .int i ∧ w3.h a = some (.lst ds) ∧ ixN ds.length i = some j ∧ E.nx ρ { w3 with h := put w3.h a (.lst (ds.set j d)) }) ∨
  ∃ a kvs k, x = .hnd a ∧ keyD y = some k ∧ w3.h a = some (.dct kvs) ∧ kvs.length < LB ∧ E.nx ρ { w3 with h := put w3.h a (.dct (setK kvs k d)) }) (fun e w' => E.ex e ρ w')) (fun e w' => E.ex e ρ w')) (fun e w' => E.ex e ρ w')
theorem PSet.or {t t' : TSet} (h : PSet X t) (h' : PSet X t') : PSet X (fun o i v H Q => t o i v H Q ∨ t' o i v H Q) := by
  intro pins s σ H o i v uo ui uv Q J r1 r2 r3 q
  rcases q with q | q
  · exact h pins s σ H o i v uo ui uv Q J r1 r2 r3 q
  · exact h' pins s σ H o i v uo ui uv Q J r1 r2 r3 q
theorem dsputi {k : Nat} {o i e : Expr} {mo mi me : DEnv → M BW D} {pos pos' : Pos} (hr : RoomG k X.A) (ho : DE (GB I K) X Wx o mo) (hi : DE (GB I K) X Wx i mi) (he : DE (GB I K) X Wx e me) (hg : ∀ (to ti : TE) (t : TSet), PE X o to → PE X i ti → PSet X t → PG X (.Subscript o i pos') (gSub to ti t) := by exact fun _ _ _ a b c => pg_sub a b c)
    (ha : ∀ (te : TE) (g : TG), PE X e te → PG X (.Subscript o i pos') g → PS X (.Assign [.Subscript o i pos'] e pos) (tAsg te g) := by exact fun _ _ a b => ps_asg a b) : DS (GB I K) en X Wx (.Assign [.Subscript o i pos'] e pos) (sPutI mo mi me) := by
  have P := PSet.or (X := X) set_list (set_dict (by have := hr.units; omega))
  have mono : MonoS (sPutI mo mi me) := fun ρ w E E' l q => he.mono ρ w _ _ _ _ (fun d w1 z => ho.mono ρ w1 _ _ _ _ (fun x w2 z => hi.mono ρ w2 _ _ _ _ (fun y w3 z => z.elim (fun ⟨a, ds, i, j, e1, e2, e3, e4, z⟩ => .inl ⟨a, ds, i, j, e1, e2, e3, e4, l.nx _ _ z⟩) fun ⟨a, ds, k, e1, e2, e3, e4, z⟩ => .inr ⟨a, ds, k, e1, e2, e3, e4, l.nx _ _ z⟩) (fun _ _ z => l.ex _ _ _ z) z) (fun _ _ z => l.ex _ _ _ z) z) (fun _ _ z => l.ex _ _ _ z) q
  refine ⟨PS.imp (ha _ _ he.pe (hg _ _ _ ho.pe hi.pe P)) fun De σ H ⟨ps, A, F, ρ, w, E, cc, l, q⟩ => ?_, mono⟩
  refine atE he.mono cc l q fun d v w1 H1 A1 F1 c1 rd z => ?_
  refine ⟨A1, F1, ρ, w1, _, c1.ok, c1.env, l.exo c1, ho.mono ρ w1 _ _ _ _ (fun x w2 z u H2 A2 F2 s2 k2 rx => ?_) (fun _ _ z => z) z⟩
  have c2 := c1.step s2 k2
  refine ⟨A2, F2, ρ, w2, _, c2.ok, c2.env, l.exo c2, hi.mono ρ w2 _ _ _ _ (fun y w3 z t H3 A3 F3 s3 k3 ry => ?_) (fun _ _ z => z) z⟩
  have c3 := c2.step s3 k3
  have rd3 := (rd.mono (s2.keeps c1.ok.af)).mono (s3.keeps c2.ok.af)
  rcases z with ⟨a, ds, i, j, e1, e2, e3, e4, zz⟩ | ⟨a, kvs, k, e1, e2, e3, e4, zz⟩
  · subst e1; subst e2
    cases rx
    cases ry
    obtain ⟨xs, h1, h2, h3⟩ := Ok.list k3 e3
    obtain ⟨s4, k4⟩ := Ok.writeL k3 e3 (RepL.set rd3 j h3) (by rw [List.length_set]; exact h2)
    exact .inl ⟨a, xs, i, j, rfl, rfl, h1, by rw [h3.length]; exact e4, l.nx _ _ _ _ _ _ (c3.step s4 k4) zz⟩
  · subst e1
    cases rx
    have et := keyD_rep (.inl ry) e2
    subst et
    obtain ⟨xs, h1, h2, h3⟩ := Ok.dict k3 e3
    have r4 := RepK.set (k := k) rd3 h3
    obtain ⟨s4, k4⟩ := Ok.writeK k3 e3 r4 (by rw [r4.length]; exact Nat.le_trans (setK_len _ _ _) e4)
    have hl : xs.length < sizeLine := lineLt _ (by rw [h3.length]; exact Nat.le_of_lt e4)
    exact .inr ⟨a, _, rfl, DPut.k h1 hl, l.nx _ _ _ _ _ _ (c3.step s4 k4) zz⟩
/-! ### for t in o, o a list that the world has -/
def loopH (a : Addr) (ds0 : List D) (b : BG) (mb : MS BW) : List D → DEnv → BW → EndsM BW → Prop
  | [], ρ, w, E => w.h a = some (.lst ds0) ∧ E.nx ρ w
  | d :: ds, ρ, w, E => w.h a = some (.lst ds0) ∧ b d ρ fun ρ' => mb ρ' w (turnE E fun ρ2 w2 => loopH a ds0 b mb ds ρ2 w2 E)
theorem loopH_at {a : Addr} {ds0 : List D} {b : BG} {mb : MS BW} {E : EndsM BW} : ∀ {ds : List D} {ρ : DEnv} {w : BW}, loopH a ds0 b mb ds ρ w E → w.h a = some (.lst ds0)
  | [], _, _, h => h.1
  | _ :: _, _, _, h => h.1
theorem loopH_mono {a : Addr} {ds0 : List D} {b : BG} {g : TG} {mb : MS BW} (r : GRel g b) (h : MonoS mb) : ∀ (ds : List D) ρ w E E', EndsM.le E E' → loopH a ds0 b mb ds ρ w E → loopH a ds0 b mb ds ρ w E'
  | [], ρ, w, E, E', l, q => ⟨q.1, l.nx _ _ q.2⟩
  | d :: ds, ρ, w, E, E', l, q => ⟨q.1, r.mono d ρ _ _ (fun ρ' z => h ρ' w _ _ (turnE_le l fun ρ2 w2 => loopH_mono r h ds ρ2 w2 E E' l) z) q.2⟩
def sForH (b : BG) (m : DEnv → M BW D) (mb : MS BW) : MS BW := fun ρ w E => m ρ w (fun x w' => ∃ a ds, x = .hnd a ∧ w'.h a = some (.lst ds) ∧ loopH a ds b mb ds ρ w' E) (fun e w' => E.ex e ρ w')
theorem dsforH {tg l : Expr} {body : List Stmt} {g : TG} {b : BG} {m : DEnv → M BW D} {mb : MS BW} {pos : Pos} (hp : PassesOwn (model X.prog X.w) X.A X.env X.xe) (hl : DE (GB I K) X Wx l m) (hg : PG X tg g) (r : GRel g b) (hb : DSs (GB I K) en X Wx body mb) (hc : X.calm = true := by rfl)
    (hs : ∀ x, foldedSetIterable l X.env x = pure x := by intro _; rfl) : DS (GB I K) en X Wx (.For tg l body [] pos) (sForH b m mb) := by
  refine ⟨PS.imp (ps_for hp hc (pi_list hl.pe) hg hb.ps hs) fun De σ H ⟨ps, A, F, ρ, w, E, c, lk, q⟩ => atE hl.mono c lk q fun x v w' H' A' F' c' rp ⟨a, ds, e, e2, z⟩ => ?_,
    fun ρ w E E' l q => hl.mono ρ w _ _ _ _ (fun x w' ⟨a, ds, e, e2, z⟩ => ⟨a, ds, e, e2, loopH_mono r hb.mono ds _ _ _ _ l z⟩) (fun _ _ z => l.ex _ _ _ z) q⟩
  subst e
  cases rp
  obtain ⟨xs, h1, l1, rr⟩ := Ok.list c'.ok e2
  refine ⟨a, rfl, ⟨xs, SqL.of h1⟩, fun i m σ2 H2 => m = ds.length - i ∧ i ≤ ds.length ∧ ∃ A2 F2 ρ2 w2, SC (GB I K) en ps σ2 ρ2 w2 H2 A2 F2 ∧ loopH a ds b mb (ds.drop i) ρ2 w2 E, ⟨_, rfl, Nat.zero_le _, A', F', ρ, w', c', z⟩, ?_⟩
  rintro i m σ2 H2 ⟨rfl, hi, A2, F2, ρ2, w2, c2, z2⟩
  obtain ⟨ys, g1, g2, g3⟩ := Ok.list c2.ok (loopH_at z2)
  by_cases hlt : i < ds.length
  · right
    have hd : ds[i]? = some ds[i] := List.getElem?_eq_getElem hlt
    obtain ⟨y, hy, _⟩ := g3.get hd
    refine ⟨⟨ys, y, SqL.of g1, hy⟩, fun σ3 H3 => i + 1 ≤ ds.length ∧ ∃ A3 F3 ρ3 w3, SC (GB I K) en ps σ3 ρ3 w3 H3 A3 F3 ∧ loopH a ds b mb (ds.drop (i + 1)) ρ3 w3 E, fun σ3 H3 h => ⟨_, by omega, rfl, h.1, h.2⟩, fun x H3 hx => ?_⟩
    obtain ⟨rfl, hx⟩ := hx
    obtain ⟨d, hd2, rd⟩ := g3.at (hx ys (SqL.of g1))
    rw [drop_cons hd2] at z2
    refine r.go A2 F2 H3 σ2 ρ2 x d _ c2.env rd z2.2 _ fun σ3 ρ3 r3 o3 q3 => ?_
    refine ⟨ps, A2, F2, ρ3, w2, _, c2.env' r3 o3, lk.turn (ps' := ps) (fun _ _ z => z) _ _ fun σ4 ρ4 w4 H4 A4 F4 c4 z4 => ⟨hlt, A4, F4, ρ4, w4, c4, z4⟩, q3⟩
  · left
    rw [List.drop_eq_nil_of_le (by omega)] at z2
    exact ⟨⟨ys, SqL.of g1, by rw [g3.length]; omega⟩, lk.nx _ _ _ _ _ _ c2 z2.2⟩
end
end DL

namespace DL
open PySem PySem.Spec PyProof.Rows L2
section
variable {I : BagI} {K : PySem.W.Frag} {X : Cx} {Wx : WX} {en : En} {ps : Pin} {w : BW} {H : Hp} {A F : Foot}
theorem RepK.dget {F : Foot} {H : Hp} {a : Addr} {vs : List (Key × V)} {ds : List (Key × D)} {k : Key} (r : RepK F H vs ds) (h : H a = some (.dK vs)) : ∃ o, DGet H a (kV k) o ∧ (∀ d, atK ds k = some d → ∃ v, o = some v ∧ Rep F H v d) ∧ o.isSome = (atK ds k).isSome := by
  obtain ⟨r1, r2⟩ := RepK.at (k := k) r
  refine ⟨_, DGet.k h, r1, ?_⟩
  cases q : atK ds k with
  | none => rw [r2 q]; rfl
  | some d =>
    obtain ⟨v, e, _⟩ := r1 d q
    rw [e]; rfl
/-! ### d[k] -/
def fDGet : F2 BW := fun x y w Q _ => ∃ kvs k d, view w x = .dct kvs ∧ keyD y = some k ∧ atK kvs k = some d ∧ Q d w
theorem fDGet_mono (x y : D) : Mono (fDGet x y) := fun w Q Q' E E' hq he ⟨kvs, k, d, e1, e2, e3, q⟩ => ⟨kvs, k, d, e1, e2, e3, hq _ _ q⟩
theorem ddget {n : Nat} {a b : Expr} {ma mb : DEnv → M BW D} {pos : Pos} (hr : RoomG n X.A) (ha : DU (GB I K) X Wx a ma) (hb : DU (GB I K) X Wx b mb) (hs : NoSl b := by exact fun _ _ => rfl) : DE (GB I K) X Wx (.Subscript a b pos) (mOp fDGet ma mb) := by
  refine ⟨PE.imp (pe_dget (by have := hr.units; omega) ha.pe hb.pe hs) fun σ H Q h => ?_, mOp_mono ha.mono hb.mono fDGet_mono⟩
  exact two ha hb fDGet_mono (P := .e (GB I K) Q) h fun x y v u w H A F E k _ r1 r2 ⟨kvs, ky, d, e1, e2, e3, q⟩ => by
    have r1' := repW_view k r1
    rw [e1] at r1'
    obtain ⟨p, vs, e4, h1, h2, h3⟩ := r1'.dct
    have e5 := keyD_rep r2 e2
    obtain ⟨o, g1, g2, _⟩ := h3.dget (k := ky) h1
    obtain ⟨z, e6, rz⟩ := g2 d e3
    subst e5 e6
    exact ⟨p, z, e4, g1, q z H A F .refl k rz⟩
/-! ### k in d, k not in d -/
def fDIn (neg : Bool) : F2 BW := fun x y w Q _ => ∃ kvs k, view w y = .dct kvs ∧ keyD x = some k ∧ Q (.bl (if neg then !(atK kvs k).isSome else (atK kvs k).isSome)) w
theorem din_core {neg : Bool} {x y : D} {v u : V} {Q : VK} {E : Ex → BW → Prop} (k : (GB I K).Ok w H A F) (r1 : RepW F H v x) (r2 : RepW F H u y) (q : fDIn neg x y w (post (GB I K) A F H Q) E) : ∃ a o, u = .ref a ∧ DGet H a v o ∧ Q (.bl (if neg then !o.isSome else o.isSome)) H := by
  obtain ⟨kvs, ky, e1, e2, q⟩ := q
  have r2' := repW_view k r2
  rw [e1] at r2'
  obtain ⟨p, vs, e4, h1, h2, h3⟩ := r2'.dct
  have e5 := keyD_rep r1 e2
  obtain ⟨o, g1, _, g3⟩ := h3.dget (k := ky) h1
  subst e5
  exact ⟨p, o, e4, g1, by rw [g3]; exact q _ H A F .refl k (.bl _)⟩
theorem o_din {n : Nat} (hr : RoomG n X.A) : Op2 (GB I K) X (compareOp .In) (fDIn false) where
  ex := ⟨fun x y H Q => ∃ a o, y = .ref a ∧ DGet H a x o ∧ Q (.bl o.isSome) H, fun pins s σ H x y v u Q J rx ry ⟨a, o, e, g, q⟩ => by
    subst e
    cases (show u = Value.ref a from ry)
    exact d_in (by have := hr.units; omega) J g rx fun s' J' => ⟨.bl o.isSome, H, J', rfl, q⟩, fun x y v u w H A F Q E k r1 r2 q => din_core k r1 r2 q⟩
  mono := fun x y w Q Q' E E' hq he ⟨kvs, k, e1, e2, q⟩ => ⟨kvs, k, e1, e2, hq _ _ q⟩
theorem o_dnotin {n : Nat} (hr : RoomG n X.A) : Op2 (GB I K) X (compareOp .NotIn) (fDIn true) where
  ex := ⟨fun x y H Q => ∃ a o, y = .ref a ∧ DGet H a x o ∧ Q (.bl (!o.isSome)) H, fun pins s σ H x y v u Q J rx ry ⟨a, o, e, g, q⟩ => by
    subst e
    cases (show u = Value.ref a from ry)
    exact d_notIn (by have := hr.units; omega) J g rx fun s' J' => ⟨.bl (!o.isSome), H, J', rfl, q⟩, fun x y v u w H A F Q E k r1 r2 q => din_core k r1 r2 q⟩
  mono := fun x y w Q Q' E E' hq he ⟨kvs, k, e1, e2, q⟩ => ⟨kvs, k, e1, e2, hq _ _ q⟩
/-! ### len(d) -/
def fLenD : FA BW := fun ds w Q _ => ∃ x kvs, ds = [x] ∧ view w x = .dct kvs ∧ Q (.int (kvs.length : Nat)) w
theorem o_lenD : OpC (GB I K) X (.builtin "len") fLenD where
  ex := ⟨_, call_lenD, fun xs vs w H A F Q E k r ⟨x, kvs, e, e1, q⟩ => by
    subst e
    cases r with
    | cons r1 r => cases r with
      | nil =>
        have r1' := repW_view k r1
        rw [e1] at r1'
        obtain ⟨p, us, e4, h1, h2, h3⟩ := r1'.dct
        exact ⟨p, us, by rw [e4], h1, by rw [h3.length]; exact q _ H A F .refl k (.int _)⟩⟩
  mono := fun xs w Q Q' E E' hq he ⟨x, kvs, e, e1, q⟩ => ⟨x, kvs, e, e1, hq _ _ q⟩
/-! ### pop -/
def fPopAt (a : Addr) : FA BW := fun vs w Q _ => ∃ ds i k d, vs = [.int i] ∧ w.h a = some (.lst ds) ∧ -(2 ^ 63) ≤ i ∧ i < 2 ^ 63 ∧ seqIndex? i ds.length = some k ∧ ds[k]? = some d ∧ Q d { w with h := put w.h a (.lst (ds.eraseIdx k)) }
theorem RepL.erase {F : Foot} {H : Hp} : ∀ {vs : List V} {ds : List D} (k : Nat), RepL F H vs ds → RepL F H (vs.eraseIdx k) (ds.eraseIdx k)
  | _, _, _, .nil => .nil
  | _, _, 0, .cons _ t => t
  | _, _, k + 1, .cons h t => .cons h (RepL.erase k t)
theorem o_popAt : OpMH I K X "list.pop" fPopAt where
  ex := ⟨_, mt_popAt, fun a xs vs w H A F Q E k r ⟨ds, i, j, d, e1, e2, b1, b2, e3, e4, q⟩ => by
    subst e1
    cases r with
    | cons r1 r => cases r with
      | nil =>
        cases r1
        obtain ⟨zs, h1, h2, h3⟩ := Ok.list k e2
        obtain ⟨v, hv, rv⟩ := h3.get e4
        obtain ⟨s, k2⟩ := Ok.writeL k e2 (RepL.erase j h3) (Nat.le_trans (List.length_eraseIdx_le _ _) h2)
        have rv2 := rv.mono (s.keeps k.af)
        exact ⟨a, zs, i, j, v, rfl, rfl, h1, b1, b2, by rw [h3.length]; exact e3, hv, q _ _ A F s k2 rv2⟩⟩
  mono := fun a xs w Q Q' E E' hq he ⟨ds, i, j, d, e1, e2, b1, b2, e3, e4, q⟩ => ⟨ds, i, j, d, e1, e2, b1, b2, e3, e4, hq _ _ q⟩
end
end DL

namespace DL
open PySem PySem.Spec PyProof.Rows L2
section
variable {I : BagI} {K : PySem.W.Frag} {X : Cx} {Wx : WX} {en : En} {ps : Pin} {w : BW} {H : Hp} {A F : Foot}
/-! ### a new instance -/
theorem Ok.allocI {x dx C : Addr} (k : (GB I K).Ok w H A F) (hx : H x = none) (hd : H dx = none) (n : dx ≠ x) :
    Stp A F H (fun a => A a ∨ a = x ∨ a = dx) (fun a => F a ∨ a = x ∨ a = dx) (upd (upd H dx (.own x)) x (.ins C dx [])) ∧
    (GB I K).Ok { w with h := put w.h x (.ins C dx []) } (upd (upd H dx (.own x)) x (.ins C dx [])) (fun a => A a ∨ a = x ∨ a = dx) (fun a => F a ∨ a = x ∨ a = dx) := by
  have nx : ¬ A x := fun z => k.dom x (k.af x z) hx
  have nd : ¬ A dx := fun z => k.dom dx (k.af dx z) hd
  have old : ∀ a o, H a = some o → upd (upd H dx (.own x)) x (.ins C dx []) a = some o := fun a o h => by rw [upd_ne (ne_of_none h hx), upd_ne (ne_of_none h hd)]; exact h
  have tx : upd (upd H dx (.own x)) x (.ins C dx []) x = some (.ins C dx []) := upd_same
  have td : upd (upd H dx (.own x)) x (.ins C dx []) dx = some (.own x) := by rw [upd_ne n, upd_same]
  have kp : Keeps F H (fun a => F a ∨ a = x ∨ a = dx) (upd (upd H dx (.own x)) x (.ins C dx [])) := fun a o h z => ⟨old a o h, fun q => q.elim z fun q => q.elim (fun e => ne_of_none h hx e) fun e => ne_of_none h hd e⟩
  refine ⟨⟨fun a o h _ => old a o h, fun a h => ?_, fun a h => h.elim .inl fun z => .inr (z.elim (fun e => e ▸ hx) fun e => e ▸ hd), fun a h => h.elim .inl fun z => .inr (z.elim (fun e => e ▸ hx) fun e => e ▸ hd), fun _ h => .inl h, fun _ h => .inl h⟩,
    ⟨⟨?_, k.wi.2.1, k.wi.2.2.1, fun b hb => ?_, fun b u hb => ?_⟩, fun a h => h.elim (fun h => .inl (k.af a h)) .inr, fun a h => ?_⟩⟩
  · by_cases e1 : a = x
    · subst e1; exact hx
    · by_cases e2 : a = dx
      · subst e2; exact hd
      · rw [upd_ne e1, upd_ne e2] at h; exact h
  · rcases k.wi.1 with ⟨h, hn⟩ | h
    · rcases h with h | ⟨o, h⟩
      · exact .inl ⟨.inl (old _ _ h), fun q => q.elim hn fun q => q.elim (fun e => ne_of_none h hx e) fun e => ne_of_none h hd e⟩
      · exact .inl ⟨.inr ⟨o, old _ _ h⟩, fun q => q.elim hn fun q => q.elim (fun e => ne_of_none h hx e) fun e => ne_of_none h hd e⟩
    · exact .inr h
  · refine I.fr2 (k.wi.2.2.2.1 b hb) (fun a o h _ => old a o h) fun a z => ⟨.inl z.1, ?_, fun y C2 fs q => ?_⟩
    · show put w.h x _ a = none
      rw [put_ne (by intro e; subst e; exact nx z.1)]; exact z.2.1
    · have q' : put w.h x (.ins C dx []) y = some (.ins C2 a fs) := q
      by_cases e : y = x
      · subst e; rw [put_same] at q'; cases q'; exact nd z.1
      · rw [put_ne e] at q'; exact z.2.2 y C2 fs q'
  · have hb' : put w.h x (.ins C dx []) b = some u := hb
    by_cases e : b = x
    · subst e; rw [put_same] at hb'; cases hb'
      exact ⟨.inr (.inl rfl), [], tx, .inr (.inr rfl), td, .nil⟩
    · rw [put_ne e] at hb'
      obtain ⟨h1, h2⟩ := k.wi.2.2.2.2 b u hb'
      exact ⟨.inl h1, h2.mono kp (fun o h => old b o h) fun _ d2 _ _ => ⟨fun o h => old d2 o h, .inl⟩⟩
  · rcases h with h | h | h
    · intro z
      cases q : H a with
      | none => exact k.dom a h q
      | some o => rw [old a o q] at z; cases z
    · rw [h, tx]; exact fun z => nomatch z
    · rw [h, td]; exact fun z => nomatch z
/-! ### C(..) -/
def tMk (C : Addr) (sp : Sp) (E : L2.St → XK) (t : TA) : TE := fun σ H Q => t σ H fun vs H1 => ∀ x dx, H1 x = none → H1 dx = none → dx ≠ x → sp (.ref x :: vs) (upd (upd H1 dx (.own x)) x (.ins C dx [])) (fun v H2 => v = .non ∧ Q (.ref x) H2) (E σ)
section
variable {k : Nat} {f C : Addr} {fd : FuncData} {qs : List Str} {sp : Sp} {E : L2.St → XK} {x : Str} {p pos : Pos} {e : Expr} {es : List Expr} {t : TA}
theorem mk_run {pins : List (Addr × Obj)} {σ : L2.St} {s : Shared} {Q : VK} {us : List Value} {vs : List V} (M : Mk X.K C f) (G : FnG X.prog X.w X.K X.mg X.base k f fd qs sp) (hr : RoomG (k + 1) X.A) (hb : Binds X.K fd qs []) (hx : PassesAt (L2.CX X.prog X.w) X σ (E σ))
    (J : Inv X pins σ H s) (r : Vals vs us) (h : ∀ y dy, H y = none → H dy = none → dy ≠ y → sp (.ref y :: vs) (upd (upd H dy (.own y)) y (.ins C dy [])) (fun v H2 => v = .non ∧ Q (.ref y) H2) (E σ)) : wpAny (model X.prog X.w) X.A (call (.ref C) us) (EP X pins σ Q) X.xe s := by
  have q := h _ _ (J.hok.fresh (Nat.le_succ s.heap.objs.size)) (J.hok.fresh (Nat.le_refl s.heap.objs.size)) (Nat.ne_of_lt (Nat.lt_succ_self _))
  have J2 := Inv.made (C := C) J
  have r2 : Vals (V.ref (s.heap.objs.size + 1) :: vs) (Value.ref (s.heap.objs.size + 1) :: us) := .cons rfl r
  have hl : (Value.ref (s.heap.objs.size + 1) :: us).length = qs.length := by rw [← r2.length]; exact G.len _ _ _ _ q
  have bd := hb _ (Value.ref (s.heap.objs.size + 1) :: us) J2.kIn (by rw [List.append_nil]; exact hl)
  rw [List.append_nil] at bd
  refine wpAny_call (make_map (f := f) J.kIn M.makes M.init (beq_iff_eq.mp M.fn) (codeAny_mono (G.run _ X.stack _ _ ⟨_, []⟩ _ _ _ (E σ) (hr.make C us) (J2.env0.make C us []) bd r2 q) fun o s' h' => ?_))
  cases o with
  | error u => exact hx _ _ _ _ _ J2 h'
  | ok fl =>
    cases fl with
    | ret u =>
      obtain ⟨v, H', J3, rv, ev, q3⟩ := J2.after h'
      subst ev
      exact ⟨rv, V.ref _, H', J3, rfl, q3⟩
    | next => exact h'.elim
    | brk => exact h'.elim
    | cont => exact h'.elim
theorem pe_mk (M : Mk X.K C f) (G : FnG X.prog X.w X.K X.mg X.base k f fd qs sp) (hr : RoomG (k + 1) X.A) (hb : Binds X.K fd qs []) (hx : ∀ σ, PassesAt (L2.CX X.prog X.w) X σ (E σ)) (hg : Gl X x) (hm : X.mg x = some (.ref C)) (ha : PA X (e :: es) t)
    (hdb : (x == ("__debug__" : Str)) = false := by decide) (h1 : starEach (e :: es) X.env = (false, eval e X.env) :: starEach es X.env := by rfl) (h2 : (backTo pos (starEach es X.env)).any (·.1) = false := by rfl) : PE X (.Call (.Name x p) (e :: es) [] pos) (tMk C sp E t) where
  run := fun pins s σ H Q J q => wpAny_Call_Name_kw (ld_glob J hg hm (PySem.W.callWith_K (h₀ := X.base) J.ok.mod.kin M.kp (thn (ha.run pos pins s σ H _ J q) fun us s1 ⟨vs, H1, J1, r, q1⟩ => ⟨J1.kIn, mk_run M G hr hb (hx σ) J1 r q1⟩) h1 h2) hdb)
theorem pe_mk0 (M : Mk X.K C f) (G : FnG X.prog X.w X.K X.mg X.base k f fd qs sp) (hr : RoomG (k + 1) X.A) (hb : Binds X.K fd qs []) (hx : ∀ σ, PassesAt (L2.CX X.prog X.w) X σ (E σ)) (hg : Gl X x) (hm : X.mg x = some (.ref C))
    (hdb : (x == ("__debug__" : Str)) = false := by decide) : PE X (.Call (.Name x p) [] [] pos) (tMk C sp E tNil) where
  run := fun pins s σ H Q J q => wpAny_Call_Name_kw (ld_glob J hg hm (PySem.W.callWith_K0 J.kIn M.kp (mk_run (us := []) (vs := []) M G hr hb (hx σ) J .nil q)) hdb)
end
def mMk (C : Addr) (sf : SF BW) (ma : DEnv → M BW (List D)) : DEnv → M BW D := fun ρ w Q E => ma ρ w (fun ds w1 => ∀ x dx, w1.h x = none → w1.h dx = none → dx ≠ x → sf (.hnd x :: ds) { w1 with h := put w1.h x (.ins C dx []) } (fun d w2 => d = .non ∧ Q (.hnd x) w2) E) E
theorem mMk_mono {C : Addr} {sf : SF BW} {ma : DEnv → M BW (List D)} (hs : ∀ ds, Mono (sf ds)) (ha : ∀ ρ, Mono (ma ρ)) : ∀ ρ, Mono (mMk C sf ma ρ) := fun ρ w Q Q' E E' hq he q => ha ρ w _ _ _ _ (fun ds w1 z x dx h1 h2 h3 => hs _ _ _ _ _ _ (fun d w2 ⟨e, z⟩ => ⟨e, hq _ _ z⟩) he (z x dx h1 h2 h3)) he q
theorem mk_lift {k : Nat} {f C : Addr} {fd : FuncData} {qs : List Str} {sf : SF BW} {σ : L2.St} {w : BW} {E : Ex → BW → Prop} {Q : VK} {vs : List V} {ds : List D} {A0 F0 : Foot} {H0 : Hp} (T : FnD (GB I K) X.prog X.w X.K X.mg X.base k f fd qs sf) (kk : (GB I K).Ok w H A F) (xo : exOk (GB I K) A F H σ Wx E) (s0 : Stp A0 F0 H0 A F H)
    (r : RepL F H vs ds) (z : ∀ x dx, w.h x = none → w.h dx = none → dx ≠ x → sf (.hnd x :: ds) { w with h := put w.h x (.ins C dx []) } (fun d w2 => d = .non ∧ post (GB I K) A0 F0 H0 Q (.hnd x) w2) E) (x dx : Addr) (hx : H x = none) (hd : H dx = none) (n : dx ≠ x) :
    liftSp (GB I K) sf (.ref x :: vs) (upd (upd H dx (.own x)) x (.ins C dx [])) (fun v H2 => v = .non ∧ Q (.ref x) H2) (WE Wx σ) := by
  obtain ⟨s1, k1⟩ := Ok.allocI (C := C) kk hx hd n
  refine ⟨_, _, .hnd x :: ds, _, E, k1, .cons (.hnd x) (r.mono (s1.keeps kk.af)), xo.step s1, ?_⟩
  refine T.mono _ _ _ _ _ _ (fun d w2 ⟨e, q⟩ v H2 A2 F2 s2 k2 rv => ?_) (fun _ _ z => z) (z x dx (rest_of kk fun z => kk.dom _ (kk.af _ z) hx).1 (rest_of kk fun z => kk.dom _ (kk.af _ z) hd).1 n)
  subst e
  cases rv
  exact ⟨rfl, q _ H2 A2 F2 ((s0.trans s1).trans s2) k2 (.hnd x)⟩
theorem dmk {k : Nat} {f C : Addr} {fd : FuncData} {qs : List Str} {sf : SF BW} {x : Str} {p pos : Pos} {e : Expr} {es : List Expr} {ma : DEnv → M BW (List D)} (M : Mk X.K C f) (T : FnD (GB I K) X.prog X.w X.K X.mg X.base k f fd qs sf) (hr : RoomG (k + 1) X.A) (tk : Takes X Wx) (hm : X.mg x = some (.ref C)) (hg : Gl X x) (ha : DA (GB I K) X Wx (e :: es) ma)
    (hdb : (x == ("__debug__" : Str)) = false := by decide) (h1 : starEach (e :: es) X.env = (false, eval e X.env) :: starEach es X.env := by rfl) (h2 : (backTo pos (starEach es X.env)).any (·.1) = false := by rfl) : DE (GB I K) X Wx (.Call (.Name x p) (e :: es) [] pos) (mMk C sf ma) := by
  refine ⟨PE.imp (pe_mk M T.ok hr T.bd (fun σ => passAt tk σ) hg hm ha.pe hdb h1 h2) fun σ H Q ⟨A, F, ρ, w, E, k, re, xo, q⟩ => ?_, mMk_mono T.mono ha.mono⟩
  exact ⟨A, F, ρ, w, E, k, re, xo, ha.mono ρ w _ _ _ _ (fun ds w1 z vs H1 A1 F1 s1 k1 r => fun y dy hy hd n => mk_lift T k1 (xo.step s1) s1 r z y dy hy hd n) (fun _ _ z => z) q⟩
theorem dmk0 {k : Nat} {f C : Addr} {fd : FuncData} {qs : List Str} {sf : SF BW} {x : Str} {p pos : Pos} (M : Mk X.K C f) (T : FnD (GB I K) X.prog X.w X.K X.mg X.base k f fd qs sf) (hr : RoomG (k + 1) X.A) (tk : Takes X Wx) (hm : X.mg x = some (.ref C)) (hg : Gl X x)
    (hdb : (x == ("__debug__" : Str)) = false := by decide) : DE (GB I K) X Wx (.Call (.Name x p) [] [] pos) (mMk C sf mNil) := by
  refine ⟨PE.imp (pe_mk0 M T.ok hr T.bd (fun σ => passAt tk σ) hg hm hdb) fun σ H Q ⟨A, F, ρ, w, E, k, re, xo, q⟩ => ?_, mMk_mono T.mono fun ρ => Mono.pure _⟩
  exact fun y dy hy hd n => mk_lift T k xo .refl .nil q y dy hy hd n
end
end DL

namespace DL
open PySem PySem.Spec PyProof.Rows L2
section
variable {G : Wd} {X : Cx} {Wx : WX} {W : Type}
/-- a module's own whole number -/
theorem dglobI {x : Str} {i : Int} {t : Tok} {pos : Pos} (hg : Gl X x) (hm : X.mg x = some (.int i t)) (hd : (x == ("__debug__" : Str)) = false := by decide) : DE G X Wx (.Name x pos) (mC (.int i)) := dconst (v := .int i) (pe_glob hg hm ⟨t, rfl⟩ hd) fun _ _ => .int i
/-! ### is True, is False -/
theorem op_isB : OpR X (compareOp .Is) (fun x y H Q => ∃ a b, x = .bl a ∧ y = .bl b ∧ Q (.bl (decide (a = b))) H) := by
  intro pins s σ H x y v u Q I rx ry h
  obtain ⟨a, b, rfl, rfl, q⟩ := h
  cases rx
  cases ry
  show wpAny _ _ ((isSame (Value.bool a) (Value.bool b)) >>= fun z => pure (Value.bool z)) _ _ s
  exact wpAny_bind (wpAny_isSame_plain rfl (wpAny_pure (fin_bl I q (by cases a <;> cases b <;> rfl))))
theorem op_notB : OpR X (compareOp .IsNot) (fun x y H Q => ∃ a b, x = .bl a ∧ y = .bl b ∧ Q (.bl (!decide (a = b))) H) := by
  intro pins s σ H x y v u Q I rx ry h
  obtain ⟨a, b, rfl, rfl, q⟩ := h
  cases rx
  cases ry
  show wpAny _ _ ((isSame (Value.bool a) (Value.bool b)) >>= fun z => pure (Value.bool (!z))) _ _ s
  exact wpAny_bind (wpAny_isSame_plain rfl (wpAny_pure (fin_bl I q (by cases a <;> cases b <;> rfl))))
def fIsB (neg : Bool) : F2 W := fun x y w Q _ => ∃ a b, x = .bl a ∧ y = .bl b ∧ Q (.bl (if neg then !decide (a = b) else decide (a = b))) w
theorem o_isB : Op2 G X (compareOp .Is) (fIsB false) where
  ex := ⟨_, op_isB, fun x y v u w H A F Q E k r1 r2 ⟨a, b, e1, e2, q⟩ => by subst e1; subst e2; exact ⟨a, b, r1.bl, r2.bl, q _ H A F .refl k (.bl _)⟩⟩
  mono := fun x y w Q Q' E E' hq he ⟨a, b, e1, e2, q⟩ => ⟨a, b, e1, e2, hq _ _ q⟩
theorem o_isnotB : Op2 G X (compareOp .IsNot) (fIsB true) where
  ex := ⟨_, op_notB, fun x y v u w H A F Q E k r1 r2 ⟨a, b, e1, e2, q⟩ => by subst e1; subst e2; exact ⟨a, b, r1.bl, r2.bl, q _ H A F .refl k (.bl _)⟩⟩
  mono := fun x y w Q Q' E E' hq he ⟨a, b, e1, e2, q⟩ => ⟨a, b, e1, e2, hq _ _ q⟩
/-! ### sorted, of ints -/
def fSorted : FA W := fun ds w Q _ => ∃ ns : List Int, ds = [.lst (ns.map D.int)] ∧ ∀ ns' : List Int, ns'.Perm ns → ns'.Pairwise (· ≤ ·) → Q (.lst (ns'.map D.int)) w
theorem o_sorted : OpC G X (.builtin "sorted") fSorted where
  ex := ⟨_, cr_sortedI, fun xs vs w H A F Q E k r ⟨ns, e, q⟩ => by
    subst e
    cases r with
    | cons r1 r => cases r with
      | nil =>
        obtain ⟨a, ys, rfl, h1, l1, rr⟩ := r1.lst
        have := rr.ints
        subst this
        refine ⟨a, ns, rfl, SqL.of h1, fun ns' p hp hs hn => q ns' hp hs _ _ A F (.new hn) (k.new hn) (.lst upd_same (k.out hn) ?_ (RepL.of_ints ns'))⟩
        rw [List.length_map] at l1 ⊢
        rw [hp.length_eq]; exact l1⟩
  mono := fun ds w Q Q' E E' hq he ⟨ns, e, q⟩ => ⟨ns, e, fun ns' h1 h2 => hq _ _ (q ns' h1 h2)⟩
end
theorem ifY {p : Bool} {A B : Prop} (h : p = true) (q : A) : if p = true then A else B := by rw [if_pos h]; exact q
theorem ifN {p : Bool} {A B : Prop} (h : p = false) (q : B) : if p = true then A else B := by rw [if_neg (by rw [h]; decide)]; exact q
/-! ### data through and through -/
inductive Pl : D → Prop
  | non : Pl .non
  | bl (b : Bool) : Pl (.bl b)
  | int (i : Int) : Pl (.int i)
  | str (x : Str) : Pl (.str x)
  | lst {xs : List D} (h : ∀ d ∈ xs, Pl d) : Pl (.lst xs)
  | tup {xs : List D} (h : ∀ d ∈ xs, Pl d) : Pl (.tup xs)
  | dct {kvs : List (Key × D)} (h : ∀ p ∈ kvs, Pl p.2) : Pl (.dct kvs)
theorem Pl.data {d : D} (h : Pl d) : dataD d = true := by cases h <;> rfl
theorem Pl.tupI {xs : List D} (h : Pl (.tup xs)) : ∀ d ∈ xs, Pl d := by cases h; assumption
theorem Pl.lstI {xs : List D} (h : Pl (.lst xs)) : ∀ d ∈ xs, Pl d := by cases h; assumption
theorem Pl.flat {d : D} (h : flatD d = true) : Pl d := by
  cases d <;> first | exact .non | exact .bl _ | exact .int _ | exact .str _ | (simp [flatD] at h)
theorem Pl.nil : Pl (.tup []) := .tup fun _ h => nomatch h
theorem all_cons {d : D} {xs : List D} (h : Pl d) (r : ∀ e ∈ xs, Pl e) : ∀ e ∈ d :: xs, Pl e := fun e he => (List.mem_cons.mp he).elim (fun z => z ▸ h) (r e)
theorem all_app {xs ys : List D} (h : ∀ e ∈ xs, Pl e) (r : ∀ e ∈ ys, Pl e) : ∀ e ∈ xs ++ ys, Pl e := fun e he => (List.mem_append.mp he).elim (h e) (r e)
/-! ### locks, states: the looks -/
def sideD : D → Bool | .str x => decide (x = Str.ofString "left") || decide (x = Str.ofString "right") | _ => false
def isLock : D → Bool
  | .tup [n, g, a, s, l] => isWhole 1 n && sideD g && isWhole 1 a && isWhole 0 s && isWhole 0 l
  | _ => false
def idOf : D → Int | .tup (.int i :: _) => i | _ => 0
def locksFrom (low n : Int) : List D → Bool
  | [] => true
  | d :: ds => isLock d && decide (low < idOf d) && decide (idOf d ≤ n) && locksFrom (idOf d) n ds
def areLocks (n : Int) : D → Bool | .tup ls => decide (ls.length ≤ 30) && locksFrom 0 n ls | _ => false
def intOf : D → Int | .int i => i | _ => 0
def isState : D → Bool
  | .tup [a, b, c, e, l] => isWhole 0 a && isWhole 0 b && isWhole 0 c && isWhole 0 e && areLocks (intOf b) l
  | _ => false
theorem isWhole_int {k : Int} {d : D} (h : isWhole k d = true) : ∃ i, d = .int i ∧ k ≤ i := by
  cases d <;> first | (cases h; done) | exact ⟨_, rfl, of_decide_eq_true h⟩
theorem isLock_parts {d : D} (h : isLock d = true) : ∃ (i : Int) (g : Str) (a s l : Int), d = .tup [.int i, .str g, .int a, .int s, .int l] ∧ 1 ≤ i ∧ (g = Str.ofString "left" ∨ g = Str.ofString "right") ∧ 1 ≤ a ∧ 0 ≤ s ∧ 0 ≤ l := by
  unfold isLock at h
  split at h
  · simp only [Bool.and_eq_true] at h
    obtain ⟨⟨⟨⟨h1, h2⟩, h3⟩, h4⟩, h5⟩ := h
    obtain ⟨i, rfl, k1⟩ := isWhole_int h1
    obtain ⟨a, rfl, k3⟩ := isWhole_int h3
    obtain ⟨s, rfl, k4⟩ := isWhole_int h4
    obtain ⟨l, rfl, k5⟩ := isWhole_int h5
    unfold sideD at h2
    split at h2
    · rename_i x
      refine ⟨i, x, a, s, l, rfl, k1, ?_, k3, k4, k5⟩
      simp only [Bool.or_eq_true, decide_eq_true_eq] at h2
      exact h2
    · cases h2
  · cases h
theorem isLock_pl {d : D} (h : isLock d = true) : Pl d := by
  obtain ⟨i, g, a, s, l, rfl, _⟩ := isLock_parts h
  exact .tup (all_cons (.int _) (all_cons (.str _) (all_cons (.int _) (all_cons (.int _) (all_cons (.int _) fun _ h => nomatch h)))))
theorem isState_parts {d : D} (h : isState d = true) : ∃ (a b c e : Int) (ls : List D), d = .tup [.int a, .int b, .int c, .int e, .tup ls] ∧ 0 ≤ a ∧ 0 ≤ b ∧ 0 ≤ c ∧ 0 ≤ e ∧ ls.length ≤ 30 ∧ locksFrom 0 b ls = true := by
  unfold isState at h
  split at h
  · simp only [Bool.and_eq_true] at h
    obtain ⟨⟨⟨⟨h1, h2⟩, h3⟩, h4⟩, h5⟩ := h
    obtain ⟨i, rfl, k1⟩ := isWhole_int h1
    obtain ⟨a, rfl, k2⟩ := isWhole_int h2
    obtain ⟨s, rfl, k3⟩ := isWhole_int h3
    obtain ⟨l, rfl, k4⟩ := isWhole_int h4
    unfold areLocks at h5
    split at h5
    · rw [Bool.and_eq_true] at h5
      exact ⟨i, a, s, l, _, rfl, k1, k2, k3, k4, of_decide_eq_true h5.1, h5.2⟩
    · cases h5
  · cases h
theorem locksFrom_all {n : Int} : ∀ {ds : List D} {low : Int}, locksFrom low n ds = true → ∀ d ∈ ds, isLock d = true
  | [], _, _ => fun _ h => nomatch h
  | d :: ds, low, h => by
    rw [locksFrom, Bool.and_eq_true, Bool.and_eq_true, Bool.and_eq_true] at h
    intro e he
    rcases List.mem_cons.mp he with rfl | he
    · exact h.1.1.1
    · exact locksFrom_all h.2 e he
/-! ### .. of their own kind -/
structure Lk where
  id : Int
  left : Bool
  am : Int
  sl : Int
  last : Int
deriving DecidableEq
def sideS (b : Bool) : Str := if b then Str.ofString "left" else Str.ofString "right"
def lkD (l : Lk) : D := .tup [.int l.id, .str (sideS l.left), .int l.am, .int l.sl, .int l.last]
structure Lk.Ok (l : Lk) : Prop where
  id : 1 ≤ l.id
  am : 1 ≤ l.am
  sl : 0 ≤ l.sl
  last : 0 ≤ l.last
structure Ste where
  lane : Int
  num : Int
  lf : Int
  rt : Int
  ls : List Lk
def stD (s : Ste) : D := .tup [.int s.lane, .int s.num, .int s.lf, .int s.rt, .tup (s.ls.map lkD)]
def Rise (low n : Int) : List Lk → Prop
  | [] => True
  | l :: ls => low < l.id ∧ l.id ≤ n ∧ Rise l.id n ls
structure Ste.Ok (s : Ste) : Prop where
  lane : 0 ≤ s.lane
  num : 0 ≤ s.num
  lf : 0 ≤ s.lf
  rt : 0 ≤ s.rt
  few : s.ls.length ≤ 30
  ok : ∀ l ∈ s.ls, l.Ok
  rise : Rise 0 s.num s.ls
def Ste.worth (s : Ste) : Int := s.lf + s.rt + (s.ls.map Lk.am).sum
theorem sideD_s (b : Bool) : sideD (.str (sideS b)) = true := by cases b <;> decide +kernel
theorem isLock_lk {l : Lk} (h : l.Ok) : isLock (lkD l) = true := by
  show (decide (1 ≤ l.id) && sideD (.str (sideS l.left)) && decide (1 ≤ l.am) && decide (0 ≤ l.sl) && decide (0 ≤ l.last)) = true
  rw [decide_eq_true h.id, sideD_s, decide_eq_true h.am, decide_eq_true h.sl, decide_eq_true h.last]; rfl
theorem locksFrom_lk {n : Int} : ∀ {ls : List Lk} {low : Int}, (∀ l ∈ ls, l.Ok) → Rise low n ls → locksFrom low n (ls.map lkD) = true
  | [], _, _, _ => rfl
  | l :: ls, low, h, ⟨r1, r2, r3⟩ => by
    rw [List.map_cons, locksFrom, isLock_lk (h l List.mem_cons_self), show idOf (lkD l) = l.id from rfl, decide_eq_true r1, decide_eq_true r2, locksFrom_lk (fun x hx => h x (List.mem_cons_of_mem _ hx)) r3]; rfl
theorem isState_st {s : Ste} (h : s.Ok) : isState (stD s) = true := by
  show (decide (0 ≤ s.lane) && decide (0 ≤ s.num) && decide (0 ≤ s.lf) && decide (0 ≤ s.rt) && (decide ((s.ls.map lkD).length ≤ 30) && locksFrom 0 s.num (s.ls.map lkD))) = true
  rw [decide_eq_true h.lane, decide_eq_true h.num, decide_eq_true h.lf, decide_eq_true h.rt, List.length_map, decide_eq_true h.few, locksFrom_lk h.ok h.rise]; rfl
theorem pl_lk (l : Lk) : Pl (lkD l) := .tup (all_cons (.int _) (all_cons (.str _) (all_cons (.int _) (all_cons (.int _) (all_cons (.int _) fun _ h => nomatch h)))))
theorem pl_st (s : Ste) : Pl (stD s) := .tup (all_cons (.int _) (all_cons (.int _) (all_cons (.int _) (all_cons (.int _) (all_cons (.tup fun d hd => by
  obtain ⟨l, _, rfl⟩ := List.mem_map.mp hd
  exact pl_lk l) fun _ h => nomatch h)))))
/-! ### what the program's looks promise -/
section
variable {W : Type}
def sf_is_positive : SF W := fun ds w Q _ => ∃ d, ds = [d] ∧ dataD d = true ∧ Q (.bl (isWhole 1 d)) w
def sf_is_side : SF W := fun ds w Q _ => ∃ d, ds = [d] ∧ dataD d = true ∧ Q (.bl (sideD d)) w
def sf_is_lock : SF W := fun ds w Q _ => ∃ d, ds = [d] ∧ Pl d ∧ Q (.bl (isLock d)) w
def sf_are_locks : SF W := fun ds w Q _ => ∃ d n, ds = [d, .int n] ∧ Pl d ∧ Q (.bl (areLocks n d)) w
def sf_is_state : SF W := fun ds w Q _ => ∃ d, ds = [d] ∧ Pl d ∧ Q (.bl (isState d)) w
def sf_check_state (C : Addr) : SF W := fun ds w Q E => ∃ d, ds = [d] ∧ Pl d ∧ (isState d = true → Q .non w) ∧ (isState d = false → E C w)
/-- the amounts of locks -/
def amOf : D → Int | .tup [_, _, .int a, _, _] => a | _ => 0
def worthD : D → Int | .tup [_, _, .int a, .int b, .tup ls] => a + b + (ls.map amOf).sum | _ => 0
def sf_worth (C : Addr) : SF W := fun ds w Q E => ∃ d, ds = [d] ∧ Pl d ∧ (isState d = true → Q (.int (worthD d)) w) ∧ (isState d = false → E C w)
def sf_first_state : SF W := fun ds w Q _ => ∃ a b c, ds = [.int a, .int b, .int c] ∧ Q (.tup [.int a, .int 0, .int b, .int c, .tup []]) w
theorem sf_is_positive_mono (ds : List D) : Mono (sf_is_positive (W := W) ds) := fun w Q Q' E E' hq _ ⟨d, e, h, q⟩ => ⟨d, e, h, hq _ _ q⟩
theorem sf_is_side_mono (ds : List D) : Mono (sf_is_side (W := W) ds) := fun w Q Q' E E' hq _ ⟨d, e, h, q⟩ => ⟨d, e, h, hq _ _ q⟩
theorem sf_is_lock_mono (ds : List D) : Mono (sf_is_lock (W := W) ds) := fun w Q Q' E E' hq _ ⟨d, e, h, q⟩ => ⟨d, e, h, hq _ _ q⟩
theorem sf_are_locks_mono (ds : List D) : Mono (sf_are_locks (W := W) ds) := fun w Q Q' E E' hq _ ⟨d, n, e, h, q⟩ => ⟨d, n, e, h, hq _ _ q⟩
theorem sf_is_state_mono (ds : List D) : Mono (sf_is_state (W := W) ds) := fun w Q Q' E E' hq _ ⟨d, e, h, q⟩ => ⟨d, e, h, hq _ _ q⟩
theorem sf_check_state_mono (C : Addr) (ds : List D) : Mono (sf_check_state (W := W) C ds) := fun w Q Q' E E' hq he ⟨d, e, h, q1, q2⟩ => ⟨d, e, h, fun z => hq _ _ (q1 z), fun z => he _ _ (q2 z)⟩
theorem sf_worth_mono (C : Addr) (ds : List D) : Mono (sf_worth (W := W) C ds) := fun w Q Q' E E' hq he ⟨d, e, h, q1, q2⟩ => ⟨d, e, h, fun z => hq _ _ (q1 z), fun z => he _ _ (q2 z)⟩
theorem sf_first_state_mono (ds : List D) : Mono (sf_first_state (W := W) ds) := fun w Q Q' E E' hq _ ⟨a, b, c, e, q⟩ => ⟨a, b, c, e, hq _ _ q⟩
end
theorem worth_st (s : Ste) : worthD (stD s) = s.worth := by
  show s.lf + s.rt + ((s.ls.map lkD).map amOf).sum = _
  rw [List.map_map]; rfl
/-! ### what the laws' makers promise: numbers below B -/
def sfCnt (B : Int) : SF BW := fun ds w Q _ => ∃ b, ds = [.hnd b] ∧ w.bag = some b ∧ w.n < 2 ^ 59 ∧ ∀ (r : Int) (m : Nat), 0 ≤ r → r < B → w.n ≤ m → m ≤ w.n + 2 → Q (.int r) (w.at m)
structure Lk.Bd (B : Int) (l : Lk) : Prop where
  am0 : 1 ≤ l.am
  am : l.am < B
  sl0 : 0 ≤ l.sl
  sl : l.sl < B
  last0 : 0 ≤ l.last
  last : l.last < B
def sfLock (B : Int) : SF BW := fun ds w Q _ => ∃ b i, ds = [.hnd b, .int i] ∧ w.bag = some b ∧ w.n < 2 ^ 58 ∧ ∀ (l : Lk) (m : Nat), l.id = i → l.Bd B → w.n ≤ m → m ≤ w.n + 7 → Q (lkD l) (w.at m)
def sfLocks (B : Int) : SF BW := fun ds w Q _ => ∃ b k n, ds = [.hnd b, .int k, .int n] ∧ w.bag = some b ∧ w.n < 2 ^ 57 ∧ 0 ≤ k ∧ k ≤ 100 ∧ 1 ≤ n ∧ n < 2 ^ 499 ∧ ∀ (ls : List Lk) (m : Nat), (ls.length : Int) ≤ k → (∀ l ∈ ls, l.Bd B ∧ 1 ≤ l.id) → Rise 0 n ls → w.n ≤ m → m ≤ w.n + 801 → Q (.tup (ls.map lkD)) (w.at m)
structure Ste.Bd (B : Int) (k : Int) (s : Ste) : Prop where
  lane0 : 0 ≤ s.lane
  lane : s.lane < B
  num0 : 0 ≤ s.num
  num : s.num < B
  lf0 : 0 ≤ s.lf
  lf : s.lf < B
  rt0 : 0 ≤ s.rt
  rt : s.rt < B
  few : (s.ls.length : Int) ≤ k
  ok : ∀ l ∈ s.ls, l.Bd B ∧ 1 ≤ l.id
  rise : Rise 0 s.num s.ls
def sfState (B : Int) : SF BW := fun ds w Q _ => ∃ b k, ds = [.hnd b, .int k] ∧ w.bag = some b ∧ w.n < 2 ^ 56 ∧ 0 ≤ k ∧ k ≤ 100 ∧ ∀ (s : Ste) (m : Nat), s.Bd B k → w.n ≤ m → m ≤ w.n + 820 → Q (stD s) (w.at m)
theorem sfCnt_mono {B : Int} (ds : List D) : Mono (sfCnt B ds) := fun w Q Q' E E' hq _ ⟨b, e1, e2, h, q⟩ => ⟨b, e1, e2, h, fun r m a b c d => hq _ _ (q r m a b c d)⟩
theorem sfLock_mono {B : Int} (ds : List D) : Mono (sfLock B ds) := fun w Q Q' E E' hq _ ⟨b, i, e1, e2, h, q⟩ => ⟨b, i, e1, e2, h, fun l m a b c d => hq _ _ (q l m a b c d)⟩
theorem sfLocks_mono {B : Int} (ds : List D) : Mono (sfLocks B ds) := fun w Q Q' E E' hq _ ⟨b, k, n, e1, e2, h, h1, h2, h3, h4, q⟩ => ⟨b, k, n, e1, e2, h, h1, h2, h3, h4, fun l m a b c d e => hq _ _ (q l m a b c d e)⟩
theorem sfState_mono {B : Int} (ds : List D) : Mono (sfState B ds) := fun w Q Q' E E' hq _ ⟨b, k, e1, e2, h, h1, h2, q⟩ => ⟨b, k, e1, e2, h, h1, h2, fun l m a b c => hq _ _ (q l m a b c)⟩
theorem Ste.Bd.good {B k : Int} {s : Ste} (h : s.Bd B k) (hk : k ≤ 30) : s.Ok := ⟨h.lane0, h.num0, h.lf0, h.rt0, by have := h.few; omega, fun l hl => ⟨(h.ok l hl).2, (h.ok l hl).1.am0, (h.ok l hl).1.sl0, (h.ok l hl).1.last0⟩, h.rise⟩
section
variable {B : Int} {b : Addr} {w : BW} {n : Nat} {Q : D → BW → Prop} {E : Ex → BW → Prop}
theorem cnt_at (hb : w.bag = some b) (hn : n < 2 ^ 59) (q : ∀ (r : Int) (m : Nat), 0 ≤ r → r < B → n ≤ m → m ≤ n + 2 → Q (.int r) (w.at m)) : sfCnt B [.hnd b] (w.at n) Q E := ⟨b, rfl, hb, hn, q⟩
theorem lock_at {i : Int} (hb : w.bag = some b) (hn : n < 2 ^ 58) (q : ∀ (l : Lk) (m : Nat), l.id = i → l.Bd B → n ≤ m → m ≤ n + 7 → Q (lkD l) (w.at m)) : sfLock B [.hnd b, .int i] (w.at n) Q E := ⟨b, i, rfl, hb, hn, q⟩
theorem locks_at {k i : Int} (hb : w.bag = some b) (hn : n < 2 ^ 57) (h1 : 0 ≤ k) (h2 : k ≤ 100) (h3 : 1 ≤ i) (h4 : i < 2 ^ 499) (q : ∀ (ls : List Lk) (m : Nat), (ls.length : Int) ≤ k → (∀ l ∈ ls, l.Bd B ∧ 1 ≤ l.id) → Rise 0 i ls → n ≤ m → m ≤ n + 801 → Q (.tup (ls.map lkD)) (w.at m)) :
    sfLocks B [.hnd b, .int k, .int i] (w.at n) Q E := ⟨b, k, i, rfl, hb, hn, h1, h2, h3, h4, q⟩
theorem state_at {k : Int} (hb : w.bag = some b) (hn : n < 2 ^ 56) (h1 : 0 ≤ k) (h2 : k ≤ 100) (q : ∀ (s : Ste) (m : Nat), s.Bd B k → n ≤ m → m ≤ n + 820 → Q (stD s) (w.at m)) : sfState B [.hnd b, .int k] (w.at n) Q E := ⟨b, k, rfl, hb, hn, h1, h2, q⟩
end
/-- each item by draws, what comes stands in P to it -/
theorem compL_drawR {i : Nat} {vs : List Nat} {me : DEnv → M BW D} (P : D → D → Prop) (c N0 : Nat) {ρ : DEnv} {w : BW} {Q : List D → BW → Prop} :
    ∀ (ds acc : List D) (n : Nat), (∀ d ∈ ds, ∀ m, m ≤ N0 → ∀ (Q' : D → BW → Prop), (∀ x m', P d x → m ≤ m' → m' ≤ m + c → Q' x (w.at m')) → me ((wipeR ρ vs).set i (some (.val d))) (w.at m) Q' (fun _ _ => False)) →
    n + c * ds.length ≤ N0 → (∀ xs m', Paired P ds xs → n ≤ m' → m' ≤ n + c * ds.length → Q (acc ++ xs) (w.at m')) → compL (bName i) vs mYes me ds acc ρ (w.at n) Q
  | [], acc, n, h, hN, q => by
    have := q [] n .nil (Nat.le_refl _) (by simp)
    simpa [compL] using this
  | d :: ds, acc, n, h, hN, q => by
    have e : c * (d :: ds).length = c + c * ds.length := by rw [List.length_cons, Nat.mul_succ, Nat.add_comm]
    rw [compL_yes]
    refine h d List.mem_cons_self n (by omega) _ fun x m' px h1 h2 => ?_
    refine compL_drawR P c N0 ds (acc ++ [x]) m' (fun y hy => h y (List.mem_cons_of_mem _ hy)) (by omega) fun xs m2 hp h3 h4 => ?_
    rw [List.append_assoc]
    exact q (x :: xs) m2 (.cons px hp) (by omega) (by omega)
theorem lks_of {B : Int} : ∀ {ns : List Int} {xs : List D}, Paired (fun d x => ∃ l : Lk, d = .int l.id ∧ x = lkD l ∧ l.Bd B) (ns.map D.int) xs → ∃ ls : List Lk, xs = ls.map lkD ∧ ls.map Lk.id = ns ∧ ∀ l ∈ ls, l.Bd B
  | [], _, .nil => ⟨[], rfl, rfl, fun _ h => nomatch h⟩
  | n :: ns, _, .cons ⟨l, e1, e2, e3⟩ t => by
    obtain ⟨ls, rfl, h2, h3⟩ := lks_of t
    cases e1
    exact ⟨l :: ls, by rw [e2]; rfl, by rw [List.map_cons, h2], fun x hx => (List.mem_cons.mp hx).elim (fun e => e ▸ e3) (h3 x)⟩
theorem rise_of {n : Int} : ∀ {ls : List Lk} {low : Int}, (ls.map Lk.id).Pairwise (· < ·) → (∀ l ∈ ls, low < l.id ∧ l.id ≤ n) → Rise low n ls
  | [], _, _, _ => trivial
  | l :: ls, low, h, hb => by
    rw [List.map_cons, List.pairwise_cons] at h
    refine ⟨(hb l List.mem_cons_self).1, (hb l List.mem_cons_self).2, rise_of h.2 fun x hx => ⟨h.1 _ (List.mem_map_of_mem hx), (hb x (List.mem_cons_of_mem _ hx)).2⟩⟩
theorem strict_of {ns : List Int} (h : ns.Pairwise (· ≤ ·)) (hn : ns.Nodup) : ns.Pairwise (· < ·) := by
  have := h.and hn
  exact this.imp fun {a b} z => Int.lt_iff_le_and_ne.mpr z
theorem inD_ints {x : Int} : ∀ ns : List Int, inD (.int x) (ns.map D.int) = decide (x ∈ ns)
  | [] => (decide_eq_false (by simp)).symm
  | n :: ns => by
    have ih := inD_ints (x := x) ns
    unfold inD at ih ⊢
    rw [List.map_cons, List.any_cons, ih]
    show ((n == x) || decide (x ∈ ns)) = _
    by_cases h : n = x
    · subst h; rw [beq_self_eq_true, Bool.true_or]; exact (decide_eq_true List.mem_cons_self).symm
    · rw [show (n == x) = false from beq_eq_false_iff_ne.mpr h, Bool.false_or]
      exact decide_eq_decide.mpr ⟨fun z => List.mem_cons_of_mem _ z, fun z => (List.mem_cons.mp z).elim (fun e => absurd e.symm h) id⟩
theorem flat_ints (ns : List Int) : (ns.map D.int).all flatD = true := List.all_eq_true.mpr fun d hd => by
  obtain ⟨i, rfl, _⟩ := ints_mem hd
  rfl
theorem ok_tup {n : Nat} {xs : List D} (h : ∀ d ∈ xs, okD n d = true) : okD (n + 1) (.tup xs) = true := by
  unfold okD
  exact List.all_eq_true.mpr h
theorem ok_lk (n : Nat) (l : Lk) : okD (n + 1) (lkD l) = true := ok_tup fun d hd => by
  simp only [List.mem_cons, List.not_mem_nil, or_false] at hd
  rcases hd with rfl | rfl | rfl | rfl | rfl <;> first | exact ok_int _ _ | exact ok_str _ _
theorem ok_lks (n : Nat) (ls : List Lk) : okD (n + 2) (.tup (ls.map lkD)) = true := ok_tup fun d hd => by
  obtain ⟨l, _, rfl⟩ := List.mem_map.mp hd
  exact ok_lk n l
theorem ok_st (n : Nat) (s : Ste) : okD (n + 3) (stD s) = true := ok_tup fun d hd => by
  simp only [List.mem_cons, List.not_mem_nil, or_false] at hd
  rcases hd with rfl | rfl | rfl | rfl | rfl <;> first | exact ok_int _ _ | exact ok_lks n _
theorem eqD_tnil (ds : List D) : eqD (.tup ds) (.tup []) = ds.isEmpty := by cases ds <;> rfl
theorem sum_nonneg : ∀ (ns : List Int), (∀ n ∈ ns, 0 ≤ n) → 0 ≤ ns.sum
  | [], _ => Int.le_refl 0
  | n :: ns, h => by
    rw [List.sum_cons]
    have h1 := h n List.mem_cons_self
    have h2 := sum_nonneg ns fun x hx => h x (List.mem_cons_of_mem _ hx)
    omega
theorem Ste.Ok.worth0 {s : Ste} (h : s.Ok) : 0 ≤ s.worth := by
  have h1 := h.lf
  have h2 := h.rt
  have h3 := sum_nonneg (s.ls.map Lk.am) fun x hx => by
    obtain ⟨l, hl, rfl⟩ := List.mem_map.mp hx
    have := (h.ok l hl).am
    omega
  unfold Ste.worth
  omega
section
variable {W : Type} {w : W} {Q : D → W → Prop} {E : Ex → W → Prop}
theorem st_0 (s : Ste) : fIx (stD s) (.int 0) w Q E = Q (.int s.lane) w := by unfold stD; simp only [ix_tup', atI_0, Option.some.injEq, exists_eq_left']
theorem st_1 (s : Ste) : fIx (stD s) (.int 1) w Q E = Q (.int s.num) w := by unfold stD; simp only [ix_tup', atI_1, Option.some.injEq, exists_eq_left']
theorem st_2 (s : Ste) : fIx (stD s) (.int 2) w Q E = Q (.int s.lf) w := by unfold stD; simp only [ix_tup', atI_2, Option.some.injEq, exists_eq_left']
theorem st_3 (s : Ste) : fIx (stD s) (.int 3) w Q E = Q (.int s.rt) w := by unfold stD; simp only [ix_tup', atI_3, Option.some.injEq, exists_eq_left']
theorem st_4 (s : Ste) : fIx (stD s) (.int 4) w Q E = Q (.tup (s.ls.map lkD)) w := by unfold stD; simp only [ix_tup', atI_4, Option.some.injEq, exists_eq_left']
theorem lk_0 (l : Lk) : fIx (lkD l) (.int 0) w Q E = Q (.int l.id) w := by unfold lkD; simp only [ix_tup', atI_0, Option.some.injEq, exists_eq_left']
theorem lk_1 (l : Lk) : fIx (lkD l) (.int 1) w Q E = Q (.str (sideS l.left)) w := by unfold lkD; simp only [ix_tup', atI_1, Option.some.injEq, exists_eq_left']
theorem lk_2 (l : Lk) : fIx (lkD l) (.int 2) w Q E = Q (.int l.am) w := by unfold lkD; simp only [ix_tup', atI_2, Option.some.injEq, exists_eq_left']
theorem lk_3 (l : Lk) : fIx (lkD l) (.int 3) w Q E = Q (.int l.sl) w := by unfold lkD; simp only [ix_tup', atI_3, Option.some.injEq, exists_eq_left']
theorem lk_4 (l : Lk) : fIx (lkD l) (.int 4) w Q E = Q (.int l.last) w := by unfold lkD; simp only [ix_tup', atI_4, Option.some.injEq, exists_eq_left']
end
theorem eqv_refl : ∀ (n : Nat), (∀ d : D, okD n d = true → PyData.eqv (py d) (py d) = true) ∧ (∀ ds : List D, ds.all (okD n) = true → PyData.eqvAll (pyL ds) (pyL ds) = true) := by
  have all_of : ∀ n, (∀ d : D, okD n d = true → PyData.eqv (py d) (py d) = true) → ∀ ds : List D, ds.all (okD n) = true → PyData.eqvAll (pyL ds) (pyL ds) = true := by
    intro n h ds
    induction ds with
    | nil => intro _; rfl
    | cons d ds ih =>
      intro ho
      rw [List.all_cons, Bool.and_eq_true] at ho
      simp only [pyL, PyData.eqvAll, h d ho.1, ih ho.2, Bool.and_self]
  have flat : ∀ d : D, flatD d = true → PyData.eqv (py d) (py d) = true := by
    intro d h
    cases d <;> first | (simp [flatD] at h; done) | rfl | skip
    · rename_i b; exact (eqD_bl b b).trans (decide_eq_true rfl)
    · rename_i b; exact (eqD_int b b).trans (decide_eq_true rfl)
    · rename_i b; exact (eqD_str b b).trans (decide_eq_true rfl)
  intro n
  induction n with
  | zero =>
    have base : ∀ d : D, okD 0 d = true → PyData.eqv (py d) (py d) = true := fun d h => flat d (by cases d <;> first | rfl | (simp [okD] at h))
    exact ⟨base, all_of 0 base⟩
  | succ n ih =>
    have base : ∀ d : D, okD (n + 1) d = true → PyData.eqv (py d) (py d) = true := by
      intro d h
      cases d <;> first | exact flat _ rfl | (simp only [okD, Bool.false_eq_true] at h; done) | skip
      · simp only [py, PyData.eqv]; exact ih.2 _ h
      · simp only [py, PyData.eqv]; exact ih.2 _ h
    exact ⟨base, all_of (n + 1) base⟩
theorem eqD_refl {n : Nat} {d : D} (h : okD n d = true) : eqD d d = true := (eqv_refl n).1 d h
end DL

namespace DL
open PySem PySem.Spec PyProof.Rows L2
/-! ### data as the library reads it, dicts too; a bound for its text -/
def pyKey : Key → PyData | .inl i => .int i | .inr x => .str x
def wtI (i : Int) : Nat := if i.natAbs < 10 ^ 90 then 100 else LB + 1
def wtS (x : Str) : Nat := 10 * x.length + 3
def wtKey : Key → Nat | .inl i => wtI i | .inr x => if PyData.strOk x = true then wtS x else LB + 1
mutual
def pyF : D → PyData
  | .non => .none
  | .bl b => .bool b
  | .int i => .int i
  | .str x => .str x
  | .lst xs => .list (pyFL xs)
  | .tup xs => .tuple (pyFL xs)
  | .dct kvs => .dict (pyFK kvs)
  | .hnd _ => .none
  | .ty _ => .none
def pyFL : List D → List PyData
  | [] => []
  | x :: xs => pyF x :: pyFL xs
def pyFK : List (Key × D) → List (PyData × PyData)
  | [] => []
  | (k, x) :: xs => (pyKey k, pyF x) :: pyFK xs
end
mutual
def wt : D → Nat
  | .non => 5
  | .bl _ => 5
  | .int i => wtI i
  | .str x => wtS x
  | .lst xs => wtL xs + 3
  | .tup xs => wtL xs + 3
  | .dct kvs => wtK kvs + 3
  | .hnd _ => LB + 1
  | .ty _ => LB + 1
def wtL : List D → Nat
  | [] => 0
  | x :: xs => wt x + 2 + wtL xs
def wtK : List (Key × D) → Nat
  | [] => 0
  | (k, x) :: xs => wtKey k + 2 + wt x + 2 + wtK xs
end
/-! ### texts -/
def TOk (n : Nat) (x : Str) : Prop := x.length ≤ n ∧ PyData.strOk x = true
theorem strOk_iff {x : Str} : PyData.strOk x = true ↔ ∀ c ∈ x.cps.toList, c < 0x110000 := ⟨fun h c hc => strOk_mem h hc, fun h => strOk_of h⟩
theorem strOk_app {x y : Str} (hx : PyData.strOk x = true) (hy : PyData.strOk y = true) : PyData.strOk (x ++ y) = true := by
  rw [strOk_iff] at hx hy ⊢
  intro c hc
  have e : (x ++ y).cps = x.cps ++ y.cps := rfl
  rw [e, Array.toList_append] at hc
  exact (List.mem_append.mp hc).elim (hx c) (hy c)
theorem strOk_lit (s : String) : PyData.strOk (Str.ofString s) = true := by
  rw [strOk_iff, Str.ofString_eq_toList]
  intro c hc
  simp only [List.mem_map] at hc
  obtain ⟨b, _, rfl⟩ := hc
  have := b.valid
  rcases this with h | h
  · exact Nat.lt_trans h (by decide)
  · exact h.2
theorem TOk.app {n m : Nat} {x y : Str} (hx : TOk n x) (hy : TOk m y) : TOk (n + m) (x ++ y) := ⟨by rw [PySem.strLen_append]; exact Nat.add_le_add hx.1 hy.1, strOk_app hx.2 hy.2⟩
theorem TOk.mono {n m : Nat} {x : Str} (hx : TOk n x) (h : n ≤ m) : TOk m x := ⟨Nat.le_trans hx.1 h, hx.2⟩
theorem lit_ok (s : String) (n : Nat) (h : (Str.ofString s).length ≤ n := by decide) : TOk n (Str.ofString s) := ⟨h, strOk_lit s⟩
theorem int_ok {i : Int} (h : i.natAbs < 10 ^ 90) : TOk 100 (Str.ofString (toString i)) := by
  refine ⟨?_, strOk_lit _⟩
  have h1 := int_text_length_le10 (a := i) (k := 90) (by decide) h
  have e : (Str.ofString (toString i)).length = (toString i).length := by
    rw [Str.ofString_eq_toList]
    show ((toString i).toList.map Char.toNat).toArray.size = _
    rw [List.size_toArray, List.length_map, String.length_toList]
  rw [e]; omega
theorem wtI_small {i : Int} (h : wtI i ≤ LB) : i.natAbs < 10 ^ 90 ∧ wtI i = 100 := by
  unfold wtI at h ⊢
  split at h
  · rename_i hh; exact ⟨hh, if_pos hh⟩
  · exact absurd h (by omega)
theorem log_small {i : Int} (h : i.natAbs < 10 ^ 90) : i.natAbs.log2 < 1920 := by
  refine Nat.lt_of_lt_of_le (PySem.Flt.log2_lt_of (n := i.natAbs) (k := 300) (by decide) ?_) (by decide)
  exact Nat.lt_of_lt_of_le h (by decide +kernel)
theorem reprChar_ok (q c : Nat) (hq : q < 0x110000) (hc : c < 0x110000) : ∀ e ∈ Builtin.Str.reprChar q c, e < 0x110000 := by
  have hex : ∀ (w : Nat), ∀ e ∈ (List.replicate (w - ((Nat.toDigits 16 c).map Char.toNat).length) 48 ++ (Nat.toDigits 16 c).map Char.toNat), e < 0x110000 := by
    intro w e he
    rcases List.mem_append.mp he with he | he
    · rw [(List.mem_replicate.mp he).2]; decide
    · obtain ⟨b, _, rfl⟩ := List.mem_map.mp he
      rcases b.valid with h | h
      · exact Nat.lt_trans h (by decide)
      · exact h.2
  unfold Builtin.Str.reprChar
  dsimp only
  repeat' split
  all_goals
    intro e he
    simp only [List.cons_append, List.nil_append, List.mem_cons, List.not_mem_nil, or_false] at he
  all_goals first | (rcases he with rfl | rfl | he <;> first | decide | exact hex _ _ he) | (rcases he with rfl | rfl <;> first | decide | exact hc) | (subst he; exact hc)
theorem foldl_repr_ok (q : Nat) (hq : q < 0x110000) : ∀ (l : List Nat) (acc : Array Nat), (∀ c ∈ l, c < 0x110000) → (∀ c ∈ acc.toList, c < 0x110000) → ∀ c ∈ (l.foldl (fun out c => out ++ (Builtin.Str.reprChar q c).toArray) acc).toList, c < 0x110000
  | [], acc, _, h => h
  | d :: l, acc, h, ha => by
    rw [List.foldl_cons]
    refine foldl_repr_ok q hq l _ (fun c hc => h c (List.mem_cons_of_mem _ hc)) fun c hc => ?_
    rw [Array.toList_append] at hc
    rcases List.mem_append.mp hc with hc | hc
    · exact ha c hc
    · exact reprChar_ok q d hq (h d List.mem_cons_self) c (by simpa using hc)
theorem quote_lt (x : Str) : reprQuote x < 0x110000 := by
  unfold reprQuote
  split <;> decide
theorem reprText_ok {x : Str} (h : PyData.strOk x = true) : TOk (wtS x) (reprText x) := by
  rw [strOk_iff] at h
  refine ⟨?_, ?_⟩
  · have := StrLaws.reprText_len x fun c hc => Nat.lt_of_lt_of_le (h c hc) (by decide)
    unfold wtS; omega
  · rw [strOk_iff]
    intro c hc
    unfold reprText at hc
    rw [show (({ cps := (x.cps.foldl (fun out c => out ++ (Builtin.Str.reprChar (reprQuote x) c).toArray) #[reprQuote x]).push (reprQuote x) } : Str)).cps = (x.cps.foldl (fun out c => out ++ (Builtin.Str.reprChar (reprQuote x) c).toArray) #[reprQuote x]).push (reprQuote x) from rfl, Array.toList_push, ← Array.foldl_toList] at hc
    rcases List.mem_append.mp hc with hc | hc
    · refine foldl_repr_ok _ (quote_lt x) _ _ h (fun c hc => ?_) c hc
      have : c = reprQuote x := by simpa using hc
      rw [this]; exact quote_lt x
    · rw [List.mem_singleton.mp hc]; exact quote_lt x
theorem strOk_join : ∀ ts : List Str, (∀ t ∈ ts, PyData.strOk t = true) → PyData.strOk (Str.join ", " ts) = true
  | [], _ => strOk_lit ""
  | [x], h => h x List.mem_cons_self
  | x :: y :: r, h => by
    show PyData.strOk (x ++ ", " ++ Str.join ", " (y :: r)) = true
    exact strOk_app (strOk_app (h x List.mem_cons_self) (strOk_lit ", ")) (strOk_join (y :: r) fun t ht => h t (List.mem_cons_of_mem _ ht))
theorem join_len : ∀ ts : List Str, (Str.join ", " ts).length ≤ piled ts
  | [] => Nat.le_refl 0
  | x :: r => by have := join_length_add (x :: r) (fun z => nomatch z); omega
theorem strOk_from : ∀ (ts : List Str) (k : Nat) (acc : Str), PyData.strOk acc = true → (∀ t ∈ ts, PyData.strOk t = true) → PyData.strOk (textFrom k acc ts) = true
  | [], _, _, h, _ => h
  | t :: ts, k, acc, h, hs => by
    refine strOk_from ts (k + 1) _ (strOk_app (strOk_app h ?_) (hs t List.mem_cons_self)) fun x hx => hs x (List.mem_cons_of_mem _ hx)
    split <;> exact strOk_lit _
theorem from_len : ∀ (ts : List Str) (k : Nat) (acc : Str), (textFrom k acc ts).length ≤ acc.length + piled ts
  | [], _, acc => Nat.le_add_right _ _
  | t :: ts, k, acc => by
    have h1 := from_len ts (k + 1) (acc ++ (if k > 0 then ", " else "" : String) ++ t)
    have h2 : (acc ++ (if k > 0 then ", " else "" : String) ++ t).length ≤ acc.length + 2 + t.length := by
      rw [strLen_append, strLen_append]
      have : ((if k > 0 then ", " else "" : String) : Str).length ≤ 2 := by split <;> decide
      omega
    show (textFrom (k + 1) _ ts).length ≤ _
    rw [piled_cons]; omega
theorem list_ok {n : Nat} {ts : List Str} (h : ∀ t ∈ ts, PyData.strOk t = true) (hn : piled ts ≤ n) : TOk (n + 3) (listText ts) := by
  refine ⟨?_, strOk_app (strOk_from ts 0 _ (strOk_lit "[") h) (strOk_lit "]")⟩
  have h1 := from_len ts 0 (Str.ofString "[")
  show (textFrom 0 "[" ts ++ "]").length ≤ _
  rw [strLen_append]
  have e1 : (Str.ofString "[").length = 1 := by decide
  have e2 : (Str.ofString "]").length = 1 := by decide
  have e3 : ((("]" : String) : Str)).length = 1 := by decide
  rw [e3]
  rw [e1] at h1
  show (textFrom 0 (Str.ofString "[") ts).length + 1 ≤ _
  omega
theorem tuple_ok {n : Nat} {ts : List Str} (h : ∀ t ∈ ts, PyData.strOk t = true) (hn : piled ts ≤ n) : TOk (n + 3) (tupleText ts) := by
  have hj := join_len ts
  unfold tupleText
  refine ⟨?_, strOk_app (strOk_app (strOk_lit "(") (strOk_join ts h)) ?_⟩
  · rw [strLen_append, strLen_append]
    have e1 : ((("(" : String) : Str)).length = 1 := by decide
    have e3 : (((if ts.length == 1 then ",)" else ")" : String) : Str)).length ≤ 2 := by split <;> decide
    omega
  · split <;> exact strOk_lit _
theorem dict_ok {n : Nat} {ts : List Str} (h : ∀ t ∈ ts, PyData.strOk t = true) (hn : piled ts ≤ n) : TOk (n + 3) (dictText ts) := by
  have hj := join_len ts
  unfold dictText
  refine ⟨?_, strOk_app (strOk_app (strOk_lit "{") (strOk_join ts h)) (strOk_lit "}")⟩
  rw [strLen_append, strLen_append]
  have e1 : ((("{" : String) : Str)).length = 1 := by decide
  have e3 : ((("}" : String) : Str)).length = 1 := by decide
  omega
theorem key_ok {k : Key} (h : wtKey k ≤ LB) : TOk (wtKey k) (pyKey k).shown ∧ (pyKey k).showable = true := by
  cases k with
  | inl i =>
    obtain ⟨h1, h2⟩ := wtI_small h
    refine ⟨?_, ?_⟩
    · show TOk (wtI i) _
      rw [h2]
      simp only [pyKey, PyData.shown]
      exact int_ok h1
    · simp only [pyKey, PyData.showable]
      exact decide_eq_true (log_small h1)
  | inr x =>
    have h : (if PyData.strOk x = true then wtS x else LB + 1) ≤ LB := h
    split at h
    · rename_i hx
      refine ⟨?_, by simp only [pyKey, PyData.showable]⟩
      show TOk (if PyData.strOk x = true then wtS x else LB + 1) _
      rw [if_pos hx]
      simp only [pyKey, PyData.shown]
      exact reprText_ok hx
    · exact absurd h (by omega)
section
variable {F : Foot} {H : Hp}
mutual
theorem Rep.shown_ok : ∀ {v : V} {d : D}, Rep F H v d → wt d ≤ LB → TOk (wt d) (pyF d).shown ∧ (pyF d).showable = true
  | _, _, .non, _ => by simp only [pyF, PyData.shown, PyData.showable, wt]; exact ⟨lit_ok "None" 5, trivial⟩
  | _, _, .bl b, _ => by
    simp only [pyF, PyData.shown, PyData.showable, wt]
    refine ⟨?_, trivial⟩
    cases b
    · exact lit_ok "False" 5
    · exact lit_ok "True" 5
  | _, _, .int i, h => by
    simp only [wt] at h ⊢
    obtain ⟨h1, h2⟩ := wtI_small h
    rw [h2]
    simp only [pyF, PyData.shown, PyData.showable]
    exact ⟨int_ok h1, decide_eq_true (log_small h1)⟩
  | _, _, .str x hx, _ => by simp only [pyF, PyData.shown, PyData.showable, wt]; exact ⟨reprText_ok hx.2, trivial⟩
  | _, _, .hnd a, h => by simp only [wt] at h; exact absurd h (by omega)
  | _, _, .ty n, h => by simp only [wt] at h; exact absurd h (by omega)
  | _, _, .lst _ _ _ r, h => by
    simp only [wt] at h ⊢
    obtain ⟨a, b, c⟩ := RepL.shown_ok r (by omega)
    simp only [pyF, PyData.shown, PyData.showable]
    exact ⟨list_ok a b, c⟩
  | _, _, .tup _ _ _ r, h => by
    simp only [wt] at h ⊢
    obtain ⟨a, b, c⟩ := RepL.shown_ok r (by omega)
    simp only [pyF, PyData.shown, PyData.showable]
    exact ⟨tuple_ok a b, c⟩
  | _, _, .dct _ _ _ r, h => by
    simp only [wt] at h ⊢
    obtain ⟨a, b, c⟩ := RepK.shown_ok r (by omega)
    simp only [pyF, PyData.shown, PyData.showable]
    exact ⟨dict_ok a b, c⟩
theorem RepL.shown_ok : ∀ {v : List V} {d : List D}, RepL F H v d → wtL d ≤ LB → (∀ t ∈ PyData.shownAll (pyFL d), PyData.strOk t = true) ∧ piled (PyData.shownAll (pyFL d)) ≤ wtL d ∧ PyData.showableAll (pyFL d) = true
  | _, _, .nil, _ => by simp only [pyFL, PyData.shownAll, PyData.showableAll]; exact ⟨(fun _ h => nomatch h), Nat.le_refl 0, trivial⟩
  | _, _, .cons h r, hw => by
    simp only [wtL] at hw ⊢
    obtain ⟨a1, a2⟩ := Rep.shown_ok h (by omega)
    obtain ⟨b1, b2, b3⟩ := RepL.shown_ok r (by omega)
    simp only [pyFL, PyData.shownAll, PyData.showableAll]
    refine ⟨fun t ht => ?_, ?_, by rw [a2, b3]; rfl⟩
    · rcases List.mem_cons.mp ht with rfl | ht
      · exact a1.2
      · exact b1 t ht
    · rw [piled_cons]
      have := a1.1
      omega
theorem RepK.shown_ok : ∀ {v : List (Key × V)} {d : List (Key × D)}, RepK F H v d → wtK d ≤ LB → (∀ t ∈ PyData.shownKv (pyFK d), PyData.strOk t = true) ∧ piled (PyData.shownKv (pyFK d)) ≤ wtK d ∧ PyData.showableKv (pyFK d) = true
  | _, _, .nil, _ => by simp only [pyFK, PyData.shownKv, PyData.showableKv]; exact ⟨(fun _ h => nomatch h), Nat.le_refl 0, trivial⟩
  | _, _, .cons h r, hw => by
    simp only [wtK] at hw ⊢
    obtain ⟨a1, a2⟩ := Rep.shown_ok h (by omega)
    obtain ⟨b1, b2, b3⟩ := RepK.shown_ok r (by omega)
    rename_i k _ _ _ _
    obtain ⟨c1, c2⟩ := key_ok (k := k) (by omega)
    simp only [pyFK, PyData.shownKv, PyData.showableKv]
    have e := (c1.app (lit_ok ": " 2)).app a1
    refine ⟨fun t ht => ?_, ?_, by rw [a2, b3, c2]; rfl⟩
    · rcases List.mem_cons.mp ht with rfl | ht
      · exact e.2
      · exact b1 t ht
    · rw [piled_cons]
      have := e.1
      omega
end
end
section
variable {F : Foot} {X : Cx} {pins : List (Addr × Obj)} {σ : St} {H : Hp} {s : Shared}
theorem keys_read : ∀ {es : List DictEntry} {vs : List (Key × Value)} {xs : List (Key × V)} {ds : List (Key × D)}, Pairs (mixKind X.prog X.w) es vs → KV xs vs → RepK F H xs ds → ReadsAll s.heap (es.map (·.key)) ((pyFK ds).map (·.1)) []
  | [], [], [], [], .nil, .nil, .nil => .nil
  | e :: es, (k, u) :: vs, (k1, v1) :: xs, (_, d) :: ds, .cons h1 h2 h3, .cons kk ks, .cons r rs => by
    obtain ⟨e0, _⟩ := kk
    have e0 : k1 = k := e0
    subst e0
    rw [List.map_cons, pyFK, List.map_cons]
    have ih := keys_read h3 ks rs
    rcases keyIs_shape (show keyIs k1 e.key = true from h1) with ⟨i, t, e1, e2⟩ | ⟨x, t, e1, e2⟩
    · subst e1
      rw [e2]
      exact ReadsAll.cons (as := []) (Reads.int i t) ih
    · subst e1
      rw [e2]
      exact ReadsAll.cons (as := []) (Reads.str x t) ih
theorem pairs_vals : ∀ {es : List DictEntry} {vs : List (Key × Value)}, Pairs (mixKind X.prog X.w) es vs → es.map (·.val) = vs.map (·.2)
  | [], [], .nil => rfl
  | e :: es, (k, u) :: vs, .cons h1 h2 h3 => by rw [List.map_cons, List.map_cons, pairs_vals h3, h2]
mutual
theorem Rep.reads (I : Inv X pins σ H s) : ∀ {v : V} {d : D}, Rep F H v d → wt d ≤ LB → ∀ {u : Value}, RelV v u → ∃ as, Reads s.heap u (pyF d) as ∧ ∀ b ∈ as, H b ≠ none
  | _, _, .non, _, _, r => by cases r; simp only [pyF]; exact ⟨_, .none, (fun _ h => nomatch h)⟩
  | _, _, .bl b, _, _, r => by cases r; simp only [pyF]; exact ⟨_, .bool b, (fun _ h => nomatch h)⟩
  | _, _, .int i, _, _, r => by obtain ⟨t, rfl⟩ := r; simp only [pyF]; exact ⟨_, .int i t, (fun _ h => nomatch h)⟩
  | _, _, .str x _, _, _, r => by obtain ⟨t, rfl⟩ := r; simp only [pyF]; exact ⟨_, .str x t, (fun _ h => nomatch h)⟩
  | _, _, .hnd _, h, _, _ => by simp only [wt] at h; exact absurd h (by omega)
  | _, _, .ty _, h, _, _ => by simp only [wt] at h; exact absurd h (by omega)
  | _, _, .lst (a := a) h n l rr, hw, _, r => by
    cases r
    simp only [wt] at hw
    obtain ⟨_, its, m, rv, e⟩ := (show ObjOk X.prog X.w H s.heap a (.lst _) from I.hok a _ h)
    obtain ⟨as, h1, h2⟩ := RepL.reads I rr (by omega) rv
    simp only [pyF]
    exact ⟨_, .list e rfl rfl (by simpa using h1), fun b hb => (List.mem_cons.mp hb).elim (fun z => by rw [z, h]; exact fun z => nomatch z) (h2 b)⟩
  | _, _, .tup (a := a) h n l rr, hw, _, r => by
    cases r
    simp only [wt] at hw
    obtain ⟨_, its, rv, o, e1, e2, m, e3⟩ := (show ObjOk X.prog X.w H s.heap a (.tup _) from I.hok a _ h)
    obtain ⟨as, h1, h2⟩ := RepL.reads I rr (by omega) rv
    simp only [pyF]
    exact ⟨_, .tuple e1 e2 e3 (by simpa using h1), h2⟩
  | _, _, .dct (a := a) h n l rr, hw, _, r => by
    cases r
    simp only [wt] at hw
    obtain ⟨_, _, vs, rel, o, es, ep, e1, e2, e3, _, e5, _⟩ := dk_of I.hok h
    obtain ⟨as, h1, h2⟩ := RepK.reads I rr (by omega) rel
    simp only [pyF]
    refine ⟨_, .dict e1 e2.1 e3 (keys_read e5 rel rr) (by rw [pairs_vals e5]; exact h1), fun b hb => ?_⟩
    rcases List.mem_append.mp (show b ∈ [a] ++ as from hb) with hb | hb
    · rw [List.mem_singleton.mp hb, h]; exact fun z => nomatch z
    · exact h2 b hb
theorem RepL.reads (I : Inv X pins σ H s) : ∀ {v : List V} {d : List D}, RepL F H v d → wtL d ≤ LB → ∀ {u : List Value}, Vals v u → ∃ as, ReadsAll s.heap u (pyFL d) as ∧ ∀ b ∈ as, H b ≠ none
  | _, _, .nil, _, _, r => by cases r; simp only [pyFL]; exact ⟨_, .nil, (fun _ h => nomatch h)⟩
  | _, _, .cons h rr, hw, _, r => by
    simp only [wtL] at hw
    cases r with
    | cons r1 r2 =>
      obtain ⟨as, h1, h2⟩ := Rep.reads I h (by omega) r1
      obtain ⟨bs, h3, h4⟩ := RepL.reads I rr (by omega) r2
      simp only [pyFL]
      exact ⟨_, .cons h1 h3, fun b hb => (List.mem_append.mp hb).elim (h2 b) (h4 b)⟩
theorem RepK.reads (I : Inv X pins σ H s) : ∀ {v : List (Key × V)} {d : List (Key × D)}, RepK F H v d → wtK d ≤ LB → ∀ {u : List (Key × Value)}, KV v u → ∃ as, ReadsAll s.heap (u.map (·.2)) ((pyFK d).map (·.2)) as ∧ ∀ b ∈ as, H b ≠ none
  | _, _, .nil, _, _, r => by cases r; simp only [pyFK]; exact ⟨_, .nil, (fun _ h => nomatch h)⟩
  | _, _, .cons h rr, hw, _, r => by
    simp only [wtK] at hw
    cases r with
    | cons r1 r2 =>
      obtain ⟨as, h1, h2⟩ := Rep.reads I h (by omega) r1.2
      obtain ⟨bs, h3, h4⟩ := RepK.reads I rr (by omega) r2
      simp only [pyFK]
      exact ⟨_, .cons h1 h3, fun b hb => (List.mem_append.mp hb).elim (h2 b) (h4 b)⟩
end
end
/-! ### how deep -/
def asc (x : Str) : Prop := ∀ c ∈ x.cps.toList, c < 128
def PlN (B : Nat) : Nat → D → Prop
  | _, .non => True
  | _, .bl _ => True
  | _, .int i => i.natAbs ≤ B
  | _, .str x => asc x
  | n + 1, .lst xs => ∀ d ∈ xs, PlN B n d
  | n + 1, .tup xs => ∀ d ∈ xs, PlN B n d
  | n + 1, .dct kvs => ∀ p ∈ kvs, PlN B n p.2
  | _, _ => False
theorem PlN.pl {B : Nat} : ∀ {n : Nat} {d : D}, PlN B n d → Pl d
  | _, .non, _ => .non
  | _, .bl _, _ => .bl _
  | _, .int _, _ => .int _
  | _, .str _, _ => .str _
  | 0, .lst _, h => h.elim
  | 0, .tup _, h => h.elim
  | 0, .dct _, h => h.elim
  | n + 1, .lst xs, h => .lst fun d hd => PlN.pl (h d hd)
  | n + 1, .tup xs, h => .tup fun d hd => PlN.pl (h d hd)
  | n + 1, .dct xs, h => .dct fun d hd => PlN.pl (h d hd)
  | 0, .hnd _, h => h.elim
  | 0, .ty _, h => h.elim
  | n + 1, .hnd _, h => h.elim
  | n + 1, .ty _, h => h.elim
theorem PlN.up {B : Nat} : ∀ {n : Nat} {d : D}, PlN B n d → PlN B (n + 1) d
  | n, .non, _ => by cases n <;> trivial
  | n, .bl _, _ => by cases n <;> trivial
  | n, .int _, h => by cases n <;> exact h
  | n, .str _, h => by cases n <;> exact h
  | 0, .lst _, h => h.elim
  | 0, .tup _, h => h.elim
  | 0, .dct _, h => h.elim
  | n + 1, .lst xs, h => fun d hd => PlN.up (h d hd)
  | n + 1, .tup xs, h => fun d hd => PlN.up (h d hd)
  | n + 1, .dct xs, h => fun d hd => PlN.up (h d hd)
  | 0, .hnd _, h => h.elim
  | 0, .ty _, h => h.elim
  | n + 1, .hnd _, h => h.elim
  | n + 1, .ty _, h => h.elim
theorem PlN.mono {B n m : Nat} {d : D} (h : PlN B n d) (l : n ≤ m) : PlN B m d := by
  induction l with
  | refl => exact h
  | step _ ih => exact ih.up
theorem PlN.dep {B : Nat} : ∀ (n : Nat) (d : D), PlN B n d → (pyF d).depth ≤ n := by
  intro n
  induction n with
  | zero => intro d h; cases d <;> first | exact h.elim | (simp only [pyF, PyData.depth]; exact Nat.le_refl 0)
  | succ n ih =>
    have all : ∀ xs : List D, (∀ d ∈ xs, PlN B n d) → PyData.depthAll (pyFL xs) ≤ n := by
      intro xs
      induction xs with
      | nil => intro _; simp only [pyFL, PyData.depthAll]; exact Nat.zero_le _
      | cons x xs ih2 => intro h; simp only [pyFL, PyData.depthAll]; exact Nat.max_le.mpr ⟨ih x (h x List.mem_cons_self), ih2 fun d hd => h d (List.mem_cons_of_mem _ hd)⟩
    have kv : ∀ xs : List (Key × D), (∀ p ∈ xs, PlN B n p.2) → PyData.depthKv (pyFK xs) ≤ n := by
      intro xs
      induction xs with
      | nil => intro _; simp only [pyFK, PyData.depthKv]; exact Nat.zero_le _
      | cons x xs ih2 =>
        intro h
        obtain ⟨k, d⟩ := x
        have h0 : (pyKey k).depth = 0 := by cases k <;> rfl
        have h1 := ih d (h _ List.mem_cons_self)
        have h2 := ih2 fun d hd => h d (List.mem_cons_of_mem _ hd)
        simp only [pyFK, PyData.depthKv, h0]
        omega
    intro d h
    cases d <;> first | exact h.elim | (simp only [pyF, PyData.depth]; exact Nat.zero_le _) | (simp only [pyF, PyData.depth]; exact Nat.succ_le_succ (all _ h)) | (simp only [pyF, PyData.depth]; exact Nat.succ_le_succ (kv _ h))
theorem PlN.bnd {B C : Nat} (hBC : B ≤ C) : ∀ {n : Nat} {d : D}, PlN B n d → PlN C n d
  | n, .non, _ => by cases n <;> trivial
  | n, .bl _, _ => by cases n <;> trivial
  | n, .int _, h => by cases n <;> exact Nat.le_trans h hBC
  | n, .str _, h => by cases n <;> exact h
  | 0, .lst _, h => h.elim
  | 0, .tup _, h => h.elim
  | 0, .dct _, h => h.elim
  | n + 1, .lst xs, h => fun d hd => PlN.bnd hBC (h d hd)
  | n + 1, .tup xs, h => fun d hd => PlN.bnd hBC (h d hd)
  | n + 1, .dct xs, h => fun d hd => PlN.bnd hBC (h d hd)
  | 0, .hnd _, h => h.elim
  | 0, .ty _, h => h.elim
  | n + 1, .hnd _, h => h.elim
  | n + 1, .ty _, h => h.elim
theorem PlN.intI {B n : Nat} {i : Int} (h : PlN B n (.int i)) : i.natAbs ≤ B := by cases n <;> exact h
theorem PlN.ofInt {B n : Nat} {i : Int} (h : i.natAbs ≤ B) : PlN B n (.int i) := by cases n <;> exact h
theorem PlN.tupI {B n : Nat} {xs : List D} (h : PlN B n (.tup xs)) : ∃ m, n = m + 1 ∧ ∀ d ∈ xs, PlN B m d := by
  cases n with
  | zero => exact h.elim
  | succ m => exact ⟨m, rfl, h⟩
theorem PlN.strI {B n : Nat} {x : Str} (h : PlN B n (.str x)) : asc x := by cases n <;> exact h
theorem PlN.ofStr {B n : Nat} {x : Str} (h : asc x) : PlN B n (.str x) := by cases n <;> exact h
theorem PlN.ofBl {B n : Nat} {b : Bool} : PlN B n (.bl b) := by cases n <;> trivial
theorem PlN.ofNon {B n : Nat} : PlN B n .non := by cases n <;> trivial
/-! ### bounds for parts -/
theorem wtL_app : ∀ xs ys : List D, wtL (xs ++ ys) = wtL xs + wtL ys
  | [], ys => by rw [List.nil_append, show wtL [] = 0 from rfl, Nat.zero_add]
  | x :: xs, ys => by rw [List.cons_append]; simp only [wtL]; rw [wtL_app xs ys]; omega
theorem wtL_cut (xs : List D) (l u : Option Int) : wtL (cutL xs l u) ≤ wtL xs := by
  have td : ∀ (n : Nat) (xs : List D), wtL (xs.take n) ≤ wtL xs := fun n xs => by
    have := wtL_app (xs.take n) (xs.drop n)
    rw [List.take_append_drop] at this; omega
  have dd : ∀ (n : Nat) (xs : List D), wtL (xs.drop n) ≤ wtL xs := fun n xs => by
    have := wtL_app (xs.take n) (xs.drop n)
    rw [List.take_append_drop] at this; omega
  unfold cutL
  exact Nat.le_trans (td _ _) (dd _ _)
theorem cut_mem {xs : List D} {l u : Option Int} {d : D} (h : d ∈ cutL xs l u) : d ∈ xs := by
  unfold cutL at h
  exact List.mem_of_mem_drop (List.mem_of_mem_take h)
theorem wtL_rev : ∀ xs : List D, wtL xs.reverse = wtL xs
  | [] => rfl
  | x :: xs => by rw [List.reverse_cons, wtL_app, wtL_rev xs]; simp only [wtL]; omega
theorem wtL_mem : ∀ {xs : List D} {d : D}, d ∈ xs → wt d + 2 ≤ wtL xs
  | x :: xs, d, h => by
    simp only [wtL]
    rcases List.mem_cons.mp h with rfl | h
    · omega
    · have := wtL_mem h; omega
/-! ### repr -/
def reprD (d : D) : Str := (pyF d).shown
theorem RepW.any {F : Foot} {H : Hp} {v : V} {d : D} (h : RepW F H v d) : Rep (fun _ => False) H v d := by
  have k : Keeps F H (fun _ => False) H := fun a o h _ => ⟨h, fun z => z⟩
  rcases h with h | ⟨a, xs, ds, rfl, rfl, e3, e4, e5⟩ | ⟨a, xs, ds, rfl, rfl, e3, e4, e5⟩
  · exact h.mono k
  · exact .lst e3 (fun z => z) e4 (e5.mono k)
  · exact .dct e3 (fun z => z) e4 (e5.mono k)
section
variable {W : Type} {G : Wd} {X : Cx}
def rRepr : List V → Hp → VK → Prop := fun vs H Q => ∃ v d B, vs = [v] ∧ Rep (fun _ => False) H v d ∧ wt d ≤ LB ∧ PlN B 60 d ∧ Q (.str (reprD d)) H
theorem cr_repr {k : Nat} (hr : RoomG k X.A) (hs : ∃ o, X.base.get? sysModules = some o) : CallR X (.builtin "repr") rRepr := by
  intro pins s σ H vs us Q I r h
  obtain ⟨v, d, B, rfl, rp, hw, hd, q⟩ := h
  obtain ⟨u, rfl, ru⟩ := vals1 r
  obtain ⟨as, h1, h2⟩ := Rep.reads I rp hw ru
  obtain ⟨h3, h4⟩ := Rep.shown_ok rp hw
  obtain ⟨o, ho⟩ := hs
  have hsm : sysModules ∉ as := fun z => h2 _ z (I.bs sysModules o ho).2
  have hz := line _ (Nat.le_trans h3.1 hw)
  have hdep := hd.dep
  have hun := hr.units
  have fin : ∀ h' t tk, (∀ b o, s.heap.get? b = some o → h'.get? b = some o) → EP X pins σ Q (.str (pyF d).shown t) { s with heap := h', toks := tk } := fun h' t tk hk => ⟨.str (reprD d), H, I.kept hk, ⟨t, rfl⟩, q⟩
  have byref : ∀ a, u = .ref a → wpAny (model X.prog X.w) X.A (call (.builtin "repr") [u]) (EP X pins σ Q) X.xe s := fun a e => by
    subst e
    exact repr_of_reads' (h₀ := s.heap) h1 h4 (fun _ => hsm) hr.g (by omega) (fun _ _ e => e) fin hz
  cases rp with
  | non => cases ru; exact PySem.P.repr_of_none (fin s.heap _ _ fun _ _ e => e)
  | bl b => cases ru; exact PySem.P.repr_of_bool (fin s.heap _ _ fun _ _ e => e)
  | int i =>
    obtain ⟨t, rfl⟩ := ru
    exact PySem.P.repr_of_int (log_small (wtI_small hw).1) (fin s.heap _ _ fun _ _ e => e)
  | str x hx =>
    obtain ⟨t, rfl⟩ := ru
    exact PySem.P.repr_of_str (fin s.heap _ _ fun _ _ e => e) hz
  | hnd a => exact byref a ru
  | ty n => exact hd.elim
  | lst h n l rr => exact byref _ ru
  | tup h n l rr => exact byref _ ru
  | dct h n l rr => exact byref _ ru
def fRepr : FA W := fun ds w Q _ => ∃ d B, ds = [d] ∧ wt d ≤ LB ∧ PlN B 60 d ∧ Q (.str (reprD d)) w
theorem o_repr {k : Nat} (hr : RoomG k X.A) (hs : ∃ o, X.base.get? sysModules = some o) : OpC G X (.builtin "repr") fRepr where
  ex := ⟨_, cr_repr hr hs, fun xs vs w H A F Q E k r ⟨d, B, e, hw, hd, q⟩ => by
    subst e
    cases r with
    | cons r1 r => cases r with
      | nil =>
        have hk := (Rep.shown_ok r1.any hw).1
        exact ⟨_, d, B, rfl, r1.any, hw, hd, q _ H A F .refl k (.str _ ⟨Nat.le_trans hk.1 hw, hk.2⟩)⟩⟩
  mono := fun ds w Q Q' E E' hq he ⟨d, B, e, h1, h2, q⟩ => ⟨d, B, e, h1, h2, hq _ _ q⟩
end
/-! ### the law's own call, where the table of modules is known to be there -/
section
variable {P : Program} {w : World} {K : PySem.W.Frag} {mg mb : Str → Option Value} {k : Nat} {fa a : Addr} {fd : FuncData} {x : Str} {sp : Sp} {s₁ : Shared} {vs : List Value} {ns : List Int}
theorem LawAt.coreS (L : LawAt K mg mb s₁ a vs ns) (hr : RoomG k callerA) (hm : ∃ mm, s₁.heap.Ns sysModules mm) (F : ∀ base : Heap, K.In base → base.Ns mainGlobals mg → (∃ o, base.get? sysModules = some o) → FnG P w K mg base k fa fd [x] sp) (bd : ∀ (s : Shared) (u : Value), BindsTo s fd ⟨[u], []⟩ [(x, u)])
    (H : Hp) (hO : Only H) (q : sp [.ref a] H (fun v _ => v = .bl true) fun _ _ _ => False) (ok : HOk P w H s₁.heap) (one : ∀ b, H b ≠ none → b = a) (hK : H a ≠ none → K.lookup a = none) :
    codeAny (model P w) callerA (.call (.ref fa) ⟨[.ref a], []⟩) (TrueEnd s₁) s₁ := by
  have free : ∀ {b : Addr}, b ≠ a → H b = none := fun {b} n => Classical.byContradiction fun z => n (one b z)
  have dict : ∀ {b : Addr} {o : Obj} {es : Array DictEntry} {ep : Nat}, s₁.heap.get? b = some o → o.data = .dict es ep → (hidT s₁.heap H).get? b = some o := fun {b o es ep} e d => hidT_get e (free fun z => by
    subst z
    rw [L.at_] at e
    cases e
    cases (show Data.seq vs.toArray _ = Data.dict es ep from d))
  have names : ∀ {b : Addr} {m : Str → Option Value}, s₁.heap.Ns b m → (hidT s₁.heap H).Ns b m := fun ⟨o, es, ep, e, d, r⟩ => ⟨o, es, ep, dict e d, d, r⟩
  have kb : K.In (hidT s₁.heap H) := fun b o e => hidT_get (L.kx b o e) (Classical.byContradiction fun z => by
    have z2 := one b z
    subst z2
    rw [hK z] at e; cases e)
  obtain ⟨mc, c1, c2⟩ := L.nl
  have md : Mod K mg (hidT s₁.heap H) := ⟨kb, names L.nm, ⟨mb, names L.nb, L.bb⟩, mc, names c1, c2⟩
  have e0 : Env0 P w K mg (hidT s₁.heap H) callerA [] s₁ H := ⟨rfl, md, fun b o e => of_hidT e, Nat.le_of_eq (hidT_size _ _), trivial, (fun b hb => by cases hb), ok, .of_eq L.gn⟩
  refine codeAny_mono ((F _ kb (names L.nm) ((names hm.choose_spec).elim fun o ⟨_, _, e, _⟩ => ⟨o, e⟩)).run callerA [] s₁ H ⟨[.ref a], []⟩ [.ref a] [.ref a] _ _ hr e0 (bd s₁ (.ref a)) (.cons rfl .nil) q) fun z s' h => ?_
  rcases z with _ | fl
  · obtain ⟨_, _, _, _, _, _, _, _, _, _, _, _, f⟩ := h
    exact f.elim
  · cases fl with
    | next => exact h.elim
    | brk => exact h.elim
    | cont => exact h.elim
    | ret u =>
      obtain ⟨v, H', os, bare, un, ok', rv, e⟩ := h
      subst e
      cases (show u = Value.bool true from rv)
      refine ⟨rfl, OldK.of_keep fun b o e => ?_, os, bare⟩
      cases z : H b with
      | none => exact un.keep b o e z (by intro c; cases c) (by intro c; cases c)
      | some y =>
        rcases hO b with n | ⟨ob, xs, n⟩
        · rw [z] at n; cases n
        · obtain ⟨e1, _⟩ := ok b _ n
          obtain ⟨e2, _⟩ := ok' b _ (un.frzs b ob _ n)
          rw [e] at e1; cases e1
          exact e2
theorem law_s (L : LawAt K mg mb s₁ a vs ns) (hr : RoomG k callerA) (hm : ∃ mm, s₁.heap.Ns sysModules mm) (F : ∀ base : Heap, K.In base → base.Ns mainGlobals mg → (∃ o, base.get? sysModules = some o) → FnG P w K mg base k fa fd [x] sp) (bd : ∀ (s : Shared) (u : Value), BindsTo s fd ⟨[u], []⟩ [(x, u)])
    (hsp : ∀ H : Hp, Only H → SqL K H a (ns.map V.int) → sp [.ref a] H (fun v _ => v = .bl true) fun _ _ _ => False) :
    codeAny (model P w) callerA (.call (.ref fa) ⟨[.ref a], []⟩) (TrueEnd s₁) s₁ := by
  have rv := vals_ints L.isInt
  have lv := L.isInt.length
  cases q : K.lookup a with
  | some o =>
    have e := L.kx a o q
    rw [L.at_] at e
    cases e
    have O : Only fun _ => none := fun _ => .inl rfl
    exact L.coreS hr hm F bd _ O (hsp _ O (.inr ⟨_, vs.toArray, _, q, rfl, rfl, rfl, by rw [List.size_toArray, lv]; exact L.len, by simpa using rv⟩)) (fun b u z => by cases (show (none : Option HO) = some u from z)) (fun b z => absurd rfl z) fun z => absurd rfl z
  | none =>
    let H1 : Hp := fun b => if b = a then some (.frz { cls := .type "list", data := .seq vs.toArray } (.lst (ns.map V.int))) else none
    have same : H1 a = some (.frz { cls := .type "list", data := .seq vs.toArray } (.lst (ns.map V.int))) := if_pos rfl
    have other : ∀ {b : Addr}, b ≠ a → H1 b = none := fun n => if_neg n
    have O : Only H1 := fun b => by
      by_cases z : b = a
      · subst z; exact .inr ⟨_, _, same⟩
      · exact .inl (other z)
    refine L.coreS hr hm F bd H1 O (hsp _ O (.inl (.inr ⟨_, same⟩))) (fun b u z => ?_) (fun b z => Classical.byContradiction fun n => z (other n)) fun _ => q
    by_cases n : b = a
    · subst n
      rw [same] at z
      cases z
      exact ⟨L.at_, by rw [List.length_map]; exact L.len, vs, _, rv, L.at_⟩
    · rw [other n] at z; cases z
end
theorem walk_s {l : PySem.W.OpenLaw} {n k : Nat} {q : Program} {loose : List Str} {XP : (Str → Option Value) → Heap → Prop} {YP : World → Heap → Prop} {d : DefRec} {K : Params → PySem.W.Frag} {sp : World → Sp} {x : Str}
    (hq : importsNone q = true) (hn : l.most = some n) (hn2 : n ≤ sizeLine) (hdf : d.params.defaults = []) (hr : RoomG k callerA) (hY : ∀ (w : World) (h : Heap), YP w h → (K w.params).In h)
    (F : ∀ (w : World) (names : Str → Option Value) (law : Addr) (h : Heap), (K w.params).In h → h.Ns mainGlobals names → names d.name = some (.ref law) →
      ∃ fd : FuncData, (∀ (s : Shared) (u : Value), BindsTo s fd ⟨[u], []⟩ [(x, u)]) ∧ ∀ base : Heap, (K w.params).In base → base.Ns mainGlobals names → (∃ o, base.get? sysModules = some o) → FnG l.prog w (K w.params) names base k law fd [x] (sp w))
    (hsp : ∀ (w : World) (H : Hp) (a : Addr) (ns : List Int), ns.length ≤ n → (∀ z ∈ ns, Builtin.Int.intBits z ≤ 1048576) → Only H → SqL (K w.params) H a (ns.map V.int) → sp w [.ref a] H (fun v _ => v = .bl true) fun _ _ _ => False) :
    PySem.W.WalkO q loose XP YP l.row.toRowW d [] (fun f vs => PySem.call f vs) := by
  refine Att.attach_callB hn hdf fun w _ t names built law _ _ _ _ a vs ns G Y _ _ _ named at_ whole few small gens => ?_
  obtain ⟨fd, bd, hF⟩ := F w names law _ (hY w _ Y) G.T.g named
  exact law_s ⟨hY w _ Y, G.T.g, G.T.b, G.T.builtins, G.T.nolimit, gens, at_, whole, Nat.le_trans few hn2⟩ hr ((G.T.seer hq).mods.elim fun mm h => ⟨mm, h.1⟩) hF bd fun H hO hS => hsp w H a ns few small hO hS
/-! ### {"a": 1}; a def that isn't called -/
section
variable {G : Wd} {X : Cx} {Wx : WX} {W : Type}
def mDct1 (x : Str) (i : Int) : DEnv → M W D := fun _ w Q _ => Q (.dct [(.inr x, .int i)]) w
theorem merge_one (k : Key) (v : V) : mergeK [] [(k, v)] = [(k, v)] := rfl
theorem ddict1 {x : Str} {i : Int} {j1 j2} {p1 p2 pos : Pos} : DE G X Wx (.Dict [some (.Constant (.str x) j1 p1)] [.Constant (.int i) j2 p2] pos) (mDct1 x i) := ⟨PE.imp (pe_disp (pps_cons pe_str pe_int pps_nil) rfl rfl (fun z => nomatch z) (show 1 ≤ 15 by decide)) fun σ H Q ⟨A, F, ρ, w, E, k, r, xx, q⟩ => fun d hd => by
    refine ⟨upd_same, [(.inr x, .int i)], rfl, (show 1 ≤ 15 by decide), ?_⟩
    rw [merge_one, upd_upd]
    exact q _ _ A F (.new hd) (k.new hd) (.dct upd_same (k.out hd) (show 1 ≤ LB by decide) (.cons (.int i) .nil)), fun _ => Mono.pure _⟩
theorem fnd_none {P : Program} {wd : World} {K : PySem.W.Frag} {mg : Str → Option Value} {base : Heap} {x qual : Str} {st : Stmt} {f : Addr} {fd : FuncData} {ps : List Str} {k : Nat} (Fu : Fun K x qual st f fd) (bd : Binds K fd ps []) : FnD G P wd K mg base k f fd ps (fun _ _ _ _ => False) where
  ok := ⟨fun vs H Q E ⟨_, _, _, _, _, _, _, _, h⟩ => h.elim, fun A o s H a us vs Q E _ _ _ _ ⟨_, _, _, _, _, _, _, _, h⟩ => h.elim⟩
  mono := fun _ _ _ _ _ _ _ _ h => h
  kp := Fu.kp
  bd := bd
end
end DL

namespace DL
open PySem PySem.Spec PyProof.Rows L2
/-! ### t[::-1] of a tuple -/
theorem adjust_rev (n : Nat) : Builtin.Slice.sliceAdjust none none (-1) (n : Int) = ((n : Int) - 1, -1) := by
  unfold Builtin.Slice.sliceAdjust
  simp only [show ((-1 : Int) < 0) from by decide, if_true]
theorem places_rev (n : Nat) : Builtin.Slice.slicePlaces ((n : Int) - 1) (-1) (-1) = n := by
  unfold Builtin.Slice.slicePlaces
  simp only [show ¬ ((-1 : Int) > 0) from by decide, if_false, show (-(-1 : Int)) = 1 from by decide, Int.ediv_one]
  split <;> omega
theorem fm_congr {α β : Type} {f g : α → Option β} : ∀ l : List α, (∀ k ∈ l, f k = g k) → l.filterMap f = l.filterMap g
  | [], _ => rfl
  | a :: l, h => by rw [List.filterMap_cons, List.filterMap_cons, h a List.mem_cons_self, fm_congr l fun k hk => h k (List.mem_cons_of_mem _ hk)]
theorem pick_rev (xs : Array Value) : ((List.range xs.size).filterMap fun (k : Nat) => xs[(((xs.size : Int) - 1) + (k : Int) * (-1)).toNat]?).toArray = xs.toList.reverse.toArray := by
  have e : (List.range xs.size).filterMap (fun (k : Nat) => xs[(((xs.size : Int) - 1) + (k : Int) * (-1)).toNat]?) = ((List.range xs.size).map fun k => xs.size - 1 - k).filterMap (xs[·]?) := by
    rw [List.filterMap_map]
    refine fm_congr _ fun k hk => ?_
    have := List.mem_range.mp hk
    have e2 : (((xs.size : Int) - 1) + (k : Int) * (-1)).toNat = xs.size - 1 - k := by omega
    show xs[(((xs.size : Int) - 1) + (k : Int) * (-1)).toNat]? = xs[xs.size - 1 - k]?
    rw [e2]
  rw [e, PySem.W.krv_range, List.filterMap_reverse, PySem.W.krv_all]
section
variable {prog : Program} {w : World} {A : Around} {E : Value → Shared → Prop} {s : Shared}
theorem sliceApplied_rev {sl : Addr} {n : Nat} {t : Tok} {Q : Int × Int × Nat → Shared → Prop} (hs : s.heap.IsSliceOf sl .none .none (.int (-1) t))
    (h : Q ((n : Int) - 1, -1, n) s) : wpAny (model prog w) A (Builtin.Slice.sliceApplied (.ref sl) (pure (n : Int))) Q E s := by
  obtain ⟨os, hos, hcs, hds⟩ := id hs
  unfold Builtin.Slice.sliceApplied Builtin.Slice.sliceFields
  refine wpAny_bind (wpAny_bind (wpAny_field hos hds (x := .none) rfl (wpAny_bind (wpAny_field hos hds (x := .none) rfl (wpAny_bind (wpAny_field hos hds (x := .int (-1) t) rfl (wpAny_pure ?_)))))))
  refine wpAny_bind (HT.slicePart_ (.int (-1) t) ?_)
  show wpAny _ _ (if ((-1 : Int) == 0) = true then _ else _) _ _ s
  rw [if_neg (by decide)]
  refine wpAny_bind (HT.slicePart_ .none (wpAny_bind (HT.slicePart_ .none (wpAny_bind (wpAny_pure ?_)))))
  show wpAny _ _ (match Builtin.Slice.sliceAdjust none none (-1) (n : Int) with | (lo, hi) => pure (lo, (-1 : Int), Builtin.Slice.slicePlaces lo hi (-1))) _ _ s
  rw [adjust_rev n]
  show wpAny _ _ (pure ((n : Int) - 1, (-1 : Int), Builtin.Slice.slicePlaces ((n : Int) - 1) (-1) (-1))) _ _ s
  rw [places_rev]
  exact wpAny_pure h
theorem getItem_tuple_rev {t sl : Addr} {items : Array Value} {tk : Tok} {Q : Value → Shared → Prop} (ht : IsTup s.heap t items) (hs : s.heap.IsSliceOf sl .none .none (.int (-1) tk))
    (h : Q (.ref s.heap.objs.size) { s with heap := s.heap.push { cls := .type "tuple", data := .seq items.toList.reverse.toArray } })
    (hsz : items.size ≤ sizeLine) : wpAny (model prog w) A (getItem (.ref t) (.ref sl)) Q E s := by
  have htake : sizeOk (.seq items.toList.reverse.toArray) := by
    show items.toList.reverse.toArray.size ≤ sizeLine
    rw [List.size_toArray, List.length_reverse, Array.length_toList]
    exact hsz
  obtain ⟨os, hos, hcs, hds⟩ := id hs
  have hTs : s.TypeIs (.ref sl) "slice" := ⟨os, hos, hcs⟩
  unfold getItem
  try with_reducible refine wpAny_holding ?_
  first | refine wpAny_bind (wpAny_pure ?_) | skip
  refine wpAny_bind (wpAny_sequenceKey ht.typeIs (by decide) ?_)
  refine wpAny_bind (wpAny_callSpecial?_slot (name := Str.ofString "__getitem__") ht.typeIs PyProof.Rows.slot_tuple_getitem
    (wpAny_call_entry PyProof.Rows.slot_tuple_getitem ht.typeIs entry_tuple_getitem ?_ (args_tuple_getitem _ _)))
  show wpAny _ _ (Builtin.Tuple.tupleItemsOf (.ref t) >>= _) _ _ s
  refine wpAny_bind (tupleItemsOf_ ht ?_)
  refine wpAny_bind (wpAny_typeOf hTs ?_)
  rw [if_pos (by decide)]
  refine wpAny_bind (sliceApplied_rev hs ?_)
  have hno : ¬ ((((items.size : Int) - 1) == 0 && (-1 : Int) == 1 && items.size == items.size) = true) := by
    rw [show ((-1 : Int) == 1) = false from by decide, Bool.and_false, Bool.false_and]; decide
  show wpAny _ _ (if (((items.size : Int) - 1) == 0 && (-1 : Int) == 1 && items.size == items.size) = true then _ else _) _ _ s
  rw [if_neg hno, pick_rev]
  first
    | exact wpAny_bind (m := Builtin.Tuple.tupleExact _) (wpAny_newObj_type (wpAny_pure ⟨_, rfl, wpAny_pure h⟩) htake)
    | exact wpAny_bind (m := Builtin.Tuple.tupleExact _) (wpAny_newObj_type (wpAny_bind (wpAny_pure (wpAny_pure ⟨_, rfl, wpAny_pure h⟩))) htake)
    | exact wpAny_bind (wpAny_bind (m := Builtin.Tuple.tupleExact _) (wpAny_newObj_type (wpAny_pure (wpAny_pure ⟨_, rfl, wpAny_pure h⟩)) htake))
    | exact wpAny_bind (wpAny_bind (m := Builtin.Tuple.tupleExact _) (wpAny_newObj_type (wpAny_pure ⟨_, rfl, wpAny_pure h⟩) htake))
end
section
variable {X : Cx}
def tRevT (K : PySem.W.Frag) (te : TE) : TE := fun σ H Q => te σ H fun x H1 => ∃ a xs, x = .ref a ∧ SqT K H1 a xs ∧ ∀ p, H1 p = none → Q (.ref p) (upd H1 p (.tup xs.reverse))
theorem pe_revT {e : Expr} {te : TE} {k : Nat} {p1 p2 p3 pos : Pos} (he : PE X e te) : PE X (.Subscript e (.Slice none none (some (.UnaryOp .USub (.Constant (.int 1) k p1) p2)) p3) pos) (tRevT X.K te) := by
  refine ⟨fun pins s σ H Q I h => ?_⟩
  refine Subscript_ (thn (he.run pins s σ H _ I h) fun v s1 ⟨x, H1, I1, r1, q1⟩ => ?_)
  obtain ⟨a, xs, ex, hx, q⟩ := q1
  subst ex
  cases r1
  have hst : PO X (some (.UnaryOp .USub (.Constant (.int 1) k p1) p2)) (tPart (tUn (rU fun i => .int (-i)) (tC (.int 1)))) := po_some (pe_un un_neg pe_int)
  refine wpAny_Slice (thn (po_none.run pins s1 σ H1 (fun o H2 => o = none ∧ H2 = H1) I1 ⟨rfl, rfl⟩) fun vl s2 ⟨l, H2, I2, pl, el, e2⟩ => ?_)
  subst el e2
  refine thn (po_none.run pins s2 σ H2 (fun o H3 => o = none ∧ H3 = H2) I2 ⟨rfl, rfl⟩) fun vu s3 ⟨u, H3, I3, pu, eu, e3⟩ => ?_
  subst eu e3
  refine thn (hst.run pins s3 σ H3 (fun o H4 => o = some (-1) ∧ H4 = H3) I3 ⟨1, rfl, -1, rfl, rfl, rfl⟩) fun vs s4 ⟨o, H4, I4, ps, eo, e4⟩ => ?_
  subst eo e4
  cases pl
  cases pu
  obtain ⟨tk, rfl⟩ : ∃ tk, vs = .int (-1) tk := by cases ps; exact ⟨_, rfl⟩
  have I5 : L2.Inv X pins σ H4 { s4 with heap := s4.heap.push { cls := .type "slice", data := .fields #[.none, .none, .int (-1) tk] } } := I4.kept (t' := s4.toks) fun b ob q => Heap.get?_push_of_some _ q
  obtain ⟨its, r, ht, hz⟩ := I5.tuple hx
  have hlen := r.length
  show wpAny (model X.prog X.w) X.A (subscriptTail e (.Slice none none (some (.UnaryOp .USub (.Constant (.int 1) k p1) p2)) p3) (.ref a) (.ref s4.heap.objs.size)) (EP X pins σ Q) X.xe { s4 with heap := s4.heap.push { cls := .type "slice", data := .fields #[.none, .none, .int (-1) tk] } }
  refine tail_any (ops := [.ref a, .ref s4.heap.objs.size]) ht.typeIs PyProof.Rows.slot_tuple_getitem.lookup ?_ (by with_unfolding_all rfl)
  refine getItem_tuple_rev ht (Heap.IsSliceOf.new _ _ _ _) ?_ (by rw [List.size_toArray]; omega)
  refine ⟨.ref _, _, I5.laid (t' := s4.toks) (o := .tup xs.reverse) (fun b ob q => Heap.get?_push_of_some _ q) (Nat.le_refl _) ?_, rfl, q _ (I5.hok.fresh (Nat.le_refl _))⟩
  refine ⟨by rw [List.length_reverse]; exact hz, _, r.reverse, ?_⟩
  exact IsTup.new _ _
end
section
variable {G : Wd} {X : Cx} {Wx : WX} {W : Type}
def mRevT (m : DEnv → M W D) : DEnv → M W D := fun ρ w Q E => m ρ w (fun d w1 => ∃ xs, d = .tup xs ∧ Q (.tup xs.reverse) w1) E
theorem drevT {e : Expr} {m : DEnv → M G.W D} {k : Nat} {p1 p2 p3 pos : Pos} (he : DU G X Wx e m) : DE G X Wx (.Subscript e (.Slice none none (some (.UnaryOp .USub (.Constant (.int 1) k p1) p2)) p3) pos) (mRevT m) := by
  have hk : ∀ d : D, Mono (fun (w : G.W) (Q : D → G.W → Prop) (_ : Ex → G.W → Prop) => ∃ xs, d = .tup xs ∧ Q (.tup xs.reverse) w) := fun d w Q Q' E E' hq _ ⟨xs, e, q⟩ => ⟨xs, e, hq _ _ q⟩
  refine ⟨PE.imp (pe_revT he.pe) fun σ H Q h1 => ?_, fun ρ => (he.mono ρ).bind hk⟩
  refine runU he.mono (fun d _ => hk d) (P := .e G Q) h1 fun v d H1 ⟨A, F, ρ, w, E, k, r, x, rp, xs, e, q⟩ => ?_
  subst e
  obtain ⟨a, ys, rfl, h1, n1, l1, rr⟩ := rp.w.tup
  exact ⟨a, ys, rfl, SqT.of h1, fun p hp => q _ _ A F (.new hp) (k.new hp) (.tup upd_same (k.out hp) (by rw [List.length_reverse]; exact l1) (rr.reverse.new hp))⟩
end
/-! ### truths that are reckoned with -/
def b2 (b : Bool) : Int := if b = true then 1 else 0
theorem gives_gt_bi (p : Bool) (b : Int) (u : Tok) : Gives (Builtin.«int.__gt__» ⟨[.bool p, .int b u], []⟩) (.val (Value.bool ((fun x1 x2 => decide (x1 > x2)) (if p = true then (1 : Int) else 0) b))) :=
  .of_wp fun M A E s Q h => by obtain ⟨hp, g, d, tk, os⟩ := s; wp_walk; exact ⟨_, rfl, h⟩
theorem gt_bi {prog : Program} {w : World} {A : Around} {E : Value → Shared → Prop} {s : Shared} {Q : Value → Shared → Prop} {a : Bool} {b : Int} {u : Tok} (h : Q (.bool (decide (b < b2 a))) s) : wpAny (model prog w) A (compareOp .Gt (.bool a) (.int b u)) Q E s :=
  wpAny_richCompare_left (op := .Gt) (typeIs_bool' s a) (typeIs_int s b u) (by decide) F.sub_int_bool F.slot_bool_gt
    (call_gives F.slot_bool_gt (typeIs_bool' s a) F.entry_int_gt (F.args_int_gt_2 _ _) (gives_gt_bi a b u) ⟨nofun, h⟩)
section
variable {G : Wd} {X : Cx} {W : Type}
theorem op_addB : OpR X (binaryOp .Add) (fun x y H Q => ∃ a j, x = .bl a ∧ y = .int j ∧ Q (.int (b2 a + j)) H) := by
  intro pins s σ H x y v u Q I rx ry h
  obtain ⟨a, j, rfl, rfl, q⟩ := h
  cases rx
  obtain ⟨t, rfl⟩ := ry
  exact IntBool.add_bool_int ⟨.int _, H, I.tok _, ⟨_, rfl⟩, q⟩
theorem op_subB : OpR X (binaryOp .Sub) (fun x y H Q => ∃ a j, x = .bl a ∧ y = .int j ∧ Q (.int (b2 a - j)) H) := by
  intro pins s σ H x y v u Q I rx ry h
  obtain ⟨a, j, rfl, rfl, q⟩ := h
  cases rx
  obtain ⟨t, rfl⟩ := ry
  exact IntBool.sub_bool_int ⟨.int _, H, I.tok _, ⟨_, rfl⟩, q⟩
theorem op_subC : OpR X (binaryOp .Sub) (fun x y H Q => ∃ j a, x = .int j ∧ y = .bl a ∧ Q (.int (j - b2 a)) H) := by
  intro pins s σ H x y v u Q I rx ry h
  obtain ⟨a, j, rfl, rfl, q⟩ := h
  cases ry
  obtain ⟨t, rfl⟩ := rx
  exact IntBool.sub_int_bool ⟨.int _, H, I.tok _, ⟨_, rfl⟩, q⟩
theorem op_gtB : OpR X (compareOp .Gt) (fun x y H Q => ∃ a j, x = .bl a ∧ y = .int j ∧ Q (.bl (decide (j < b2 a))) H) := by
  intro pins s σ H x y v u Q I rx ry h
  obtain ⟨a, j, rfl, rfl, q⟩ := h
  cases rx
  obtain ⟨t, rfl⟩ := ry
  exact gt_bi (fin_bl I q rfl)
def fAddB : F2 W := fun x y w Q E => (∃ a j, x = .bl a ∧ y = .int j ∧ Q (.int (b2 a + j)) w) ∨ fAdd x y w Q E
def fSubB : F2 W := fun x y w Q E => (∃ a j, x = .bl a ∧ y = .int j ∧ Q (.int (b2 a - j)) w) ∨ (∃ j a, x = .int j ∧ y = .bl a ∧ Q (.int (j - b2 a)) w) ∨ fSub x y w Q E
def fGtB : F2 W := fun x y w Q E => (∃ a j, x = .bl a ∧ y = .int j ∧ Q (.bl (decide (j < b2 a))) w) ∨ fGt x y w Q E
theorem Op2.or {g : Value → Value → Sem Value} {f f' : F2 G.W} (a : Op2 G X g f) (b : Op2 G X g f') : Op2 G X g (fun x y w Q E => f x y w Q E ∨ f' x y w Q E) where
  ex := by
    obtain ⟨⟨r, h1, h2⟩, _⟩ := a
    obtain ⟨⟨r', h1', h2'⟩, _⟩ := b
    exact ⟨_, h1.or h1', fun x y v u w H A F Q E k r1 r2 q => q.elim (fun q => .inl (h2 x y v u w H A F Q E k r1 r2 q)) fun q => .inr (h2' x y v u w H A F Q E k r1 r2 q)⟩
  mono := fun x y w Q Q' E E' hq he q => q.elim (fun q => .inl (a.mono x y w _ _ _ _ hq he q)) fun q => .inr (b.mono x y w _ _ _ _ hq he q)
theorem o_bi {g : Value → Value → Sem Value} {f : Bool → Int → D} (hf : ∀ (a : Bool) (j : Int) (F : Foot) (H : Hp), ∃ v, Rep F H v (f a j) ∧ ∀ F' H', Rep F' H' v (f a j)) (vf : Bool → Int → V) (hv : ∀ a j F H, Rep F H (vf a j) (f a j))
    (h : OpR X g (fun x y H Q => ∃ a j, x = .bl a ∧ y = .int j ∧ Q (vf a j) H)) : Op2 G X g (fun x y w Q E => ∃ a j, x = .bl a ∧ y = .int j ∧ Q (f a j) w) where
  ex := ⟨_, h, fun x y v u w H A F Q E k r1 r2 ⟨a, j, e1, e2, q⟩ => by subst e1; subst e2; exact ⟨a, j, r1.bl, r2.int, q _ H A F .refl k (hv a j F H)⟩⟩
  mono := fun x y w Q Q' E E' hq he ⟨a, j, e1, e2, q⟩ => ⟨a, j, e1, e2, hq _ _ q⟩
theorem o_addB : Op2 G X (binaryOp .Add) fAddB := Op2.or (o_bi (f := fun a j => .int (b2 a + j)) (fun a j F H => ⟨_, .int _, fun _ _ => .int _⟩) (fun a j => .int (b2 a + j)) (fun _ _ _ _ => .int _) op_addB) o_add
theorem o_subB : Op2 G X (binaryOp .Sub) fSubB := Op2.or (o_bi (f := fun a j => .int (b2 a - j)) (fun a j F H => ⟨_, .int _, fun _ _ => .int _⟩) (fun a j => .int (b2 a - j)) (fun _ _ _ _ => .int _) op_subB) (Op2.or ⟨⟨_, op_subC, fun x y v u w H A F Q E k r1 r2 ⟨j, a, e1, e2, q⟩ => by subst e1; subst e2; exact ⟨j, a, r1.int, r2.bl, q _ H A F .refl k (.int _)⟩⟩, fun x y w Q Q' E E' hq he ⟨j, a, e1, e2, q⟩ => ⟨j, a, e1, e2, hq _ _ q⟩⟩ o_sub)
theorem o_gtB : Op2 G X (compareOp .Gt) fGtB := Op2.or (o_bi (f := fun a j => .bl (decide (j < b2 a))) (fun a j F H => ⟨_, .bl _, fun _ _ => .bl _⟩) (fun a j => .bl (decide (j < b2 a))) (fun _ _ _ _ => .bl _) op_gtB) o_gt
end
/-! ### the spoilers -/
/-- data of that depth, with numbers up to B, of that weight -/
def Dt (B h N : Nat) (d : D) : Prop := PlN B h d ∧ wt d ≤ N
def sfOdd : SF BW := fun ds w Q _ => ∃ b, ds = [.hnd b] ∧ w.bag = some b ∧ w.n < 2 ^ 59 ∧ ∀ (d : D) (m : Nat), Dt (10 ^ 14) 2 600 d → w.n ≤ m → m ≤ w.n + 1 → Q d (w.at m)
def sfEnd : SF BW := fun ds w Q _ => ∃ b d B h N, ds = [.hnd b, d] ∧ Dt B h N d ∧ B < 10 ^ 80 ∧ N ≤ 40000 ∧ w.bag = some b ∧ w.n < 2 ^ 58 ∧ ∀ (d' : D) (m : Nat), Dt (B + 10 ^ 15) (h + 3) (2 * N + 700) d' → w.n ≤ m → m ≤ w.n + 3 → Q d' (w.at m)
def sfSp (n : Nat) : SF BW := match n with
  | 0 => fun _ _ _ _ => False
  | n + 1 => fun ds w Q _ => ∃ b d deep B h N, ds = [.hnd b, d, .int deep] ∧ 0 ≤ deep ∧ deep ≤ n ∧ Dt B h N d ∧ B < 10 ^ 80 ∧ N ≤ 40000 ∧ w.bag = some b ∧ w.n + 2 * n < 2 ^ 57 ∧ ∀ (d' : D) (m : Nat), Dt (B + 10 ^ 15) (h + 3) (2 * N + 700) d' → w.n ≤ m → m ≤ w.n + 2 * n + 5 → Q d' (w.at m)
theorem sfOdd_mono (ds : List D) : Mono (sfOdd ds) := fun w Q Q' E E' hq _ ⟨b, e1, e2, h, q⟩ => ⟨b, e1, e2, h, fun d m a b c => hq _ _ (q d m a b c)⟩
theorem sfEnd_mono (ds : List D) : Mono (sfEnd ds) := fun w Q Q' E E' hq _ ⟨b, d, B, h, N, e1, e2, h1, h2, h3, h4, q⟩ => ⟨b, d, B, h, N, e1, e2, h1, h2, h3, h4, fun d m a b c => hq _ _ (q d m a b c)⟩
theorem sfSp_mono : ∀ (n : Nat) (ds : List D), Mono (sfSp n ds)
  | 0, _ => fun _ _ _ _ _ _ _ h => h
  | n + 1, ds => fun w Q Q' E E' hq _ ⟨b, d, deep, B, h, N, e1, e2, h1, h2, h3, h4, h5, h6, q⟩ => ⟨b, d, deep, B, h, N, e1, e2, h1, h2, h3, h4, h5, h6, fun d m a b c => hq _ _ (q d m a b c)⟩
section
variable {B h N : Nat} {b : Addr} {w : BW} {n : Nat} {Q : D → BW → Prop} {E : Ex → BW → Prop} {d : D}
theorem odd_at (hb : w.bag = some b) (hn : n < 2 ^ 59) (q : ∀ (d : D) (m : Nat), Dt (10 ^ 14) 2 600 d → n ≤ m → m ≤ n + 1 → Q d (w.at m)) : sfOdd [.hnd b] (w.at n) Q E := ⟨b, rfl, hb, hn, q⟩
theorem end_at (hd : Dt B h N d) (hB : B < 10 ^ 80) (hN : N ≤ 40000) (hb : w.bag = some b) (hn : n < 2 ^ 58) (q : ∀ (d' : D) (m : Nat), Dt (B + 10 ^ 15) (h + 3) (2 * N + 700) d' → n ≤ m → m ≤ n + 3 → Q d' (w.at m)) : sfEnd [.hnd b, d] (w.at n) Q E := ⟨b, d, B, h, N, rfl, hd, hB, hN, hb, hn, q⟩
theorem sp_at {k : Nat} {deep : Int} (h0 : 0 ≤ deep) (h1 : deep ≤ k) (hd : Dt B h N d) (hB : B < 10 ^ 80) (hN : N ≤ 40000) (hb : w.bag = some b) (hn : n + 2 * k < 2 ^ 57) (q : ∀ (d' : D) (m : Nat), Dt (B + 10 ^ 15) (h + 3) (2 * N + 700) d' → n ≤ m → m ≤ n + 2 * k + 5 → Q d' (w.at m)) :
    sfSp (k + 1) [.hnd b, d, .int deep] (w.at n) Q E := ⟨b, d, deep, B, h, N, rfl, h0, h1, hd, hB, hN, hb, hn, q⟩
end
theorem Dt.data {B h N : Nat} {d : D} (x : Dt B h N d) : dataD d = true := x.1.pl.data
theorem len_wtL : ∀ xs : List D, 2 * xs.length ≤ wtL xs
  | [] => Nat.le_refl 0
  | x :: xs => by have := len_wtL xs; simp only [wtL, List.length_cons]; omega
/-- tuples, lists of parts -/
theorem Dt.tup {B h N : Nat} {xs : List D} (hp : ∀ d ∈ xs, PlN B h d) (hw : wtL xs + 3 ≤ N) : Dt B (h + 1) N (.tup xs) := ⟨hp, by simp only [wt]; exact hw⟩
theorem Dt.lst {B h N : Nat} {xs : List D} (hp : ∀ d ∈ xs, PlN B h d) (hw : wtL xs + 3 ≤ N) : Dt B (h + 1) N (.lst xs) := ⟨hp, by simp only [wt]; exact hw⟩
theorem Dt.weaken {B B' h h' N N' : Nat} {d : D} (x : Dt B h N d) (hB : B ≤ B') (hh : h ≤ h') (hN : N ≤ N') : Dt B' h' N' d := ⟨(x.1.mono hh).bnd hB, Nat.le_trans x.2 hN⟩
theorem Dt.int {B h N : Nat} {i : Int} (hB : B < 10 ^ 90) (hi : i.natAbs ≤ B) (hN : 100 ≤ N) : Dt B h N (.int i) := ⟨.ofInt hi, by simp only [wt]; unfold wtI; rw [if_pos (Nat.lt_of_le_of_lt hi hB)]; exact hN⟩
theorem Dt.bl {B h N : Nat} {b : Bool} (hN : 5 ≤ N) : Dt B h N (.bl b) := ⟨.ofBl, by simp only [wt]; exact hN⟩
theorem Dt.str {B h N : Nat} {x : Str} (ha : asc x) (hN : wtS x ≤ N) : Dt B h N (.str x) := ⟨.ofStr ha, by simp only [wt]; exact hN⟩
theorem asc_app {x y : Str} (hx : asc x) (hy : asc y) : asc (x ++ y) := fun c hc => by
  have e : (x ++ y).cps = x.cps ++ y.cps := rfl
  rw [e, Array.toList_append] at hc
  exact (List.mem_append.mp hc).elim (hx c) (hy c)
theorem asc_cut {x : Str} (hx : asc x) (l u : Option Int) : asc (cutS x l u) := fun c hc => by
  unfold cutS at hc
  simp only at hc
  exact hx c (List.mem_of_mem_drop (List.mem_of_mem_take hc))
theorem cutS_len (x : Str) (l u : Option Int) : (cutS x l u).length ≤ x.length := by
  show (((x.cps.toList.drop (HT.sIx x.length 0 l)).take _).toArray).size ≤ x.cps.size
  rw [List.size_toArray, List.length_take, List.length_drop, Array.length_toList]
  omega
theorem upper_asc {x : Str} (hx : asc x) : asc (Txt.upper x) ∧ (Txt.upper x).length = x.length := by
  rw [PyProof.Rows.upper_ascii hx]
  refine ⟨fun c hc => ?_, ?_⟩
  · simp only [Array.toList_map, List.mem_map] at hc
    obtain ⟨b, hb, rfl⟩ := hc
    have := hx b hb
    unfold PyProof.Rows.up1
    split <;> omega
  · show (x.cps.map _).size = x.cps.size
    rw [Array.size_map]
def plB (B : Nat) : Nat → D → Bool
  | _, .non => true
  | _, .bl _ => true
  | _, .int i => decide (i.natAbs ≤ B)
  | _, .str x => x.cps.toList.all fun c => decide (c < 128)
  | n + 1, .lst xs => xs.all (plB B n)
  | n + 1, .tup xs => xs.all (plB B n)
  | n + 1, .dct kvs => kvs.all fun p => plB B n p.2
  | _, _ => false
theorem plB_ok {B : Nat} : ∀ {n : Nat} {d : D}, plB B n d = true → PlN B n d
  | n, .non, _ => .ofNon
  | n, .bl _, _ => .ofBl
  | n, .int _, h => .ofInt (by cases n <;> exact of_decide_eq_true h)
  | n, .str x, h => .ofStr fun c hc => by
    have h' : (List.all x.cps.toList fun c => decide (c < 128)) = true := by cases n <;> exact h
    exact of_decide_eq_true (List.all_eq_true.mp h' c hc)
  | 0, .lst _, h => by cases h
  | 0, .tup _, h => by cases h
  | 0, .dct _, h => by cases h
  | n + 1, .lst xs, h => fun d hd => plB_ok (List.all_eq_true.mp h d hd)
  | n + 1, .tup xs, h => fun d hd => plB_ok (List.all_eq_true.mp h d hd)
  | n + 1, .dct xs, h => fun d hd => plB_ok (List.all_eq_true.mp (show (xs.all fun p => plB B n p.2) = true from h) d hd)
  | 0, .hnd _, h => by cases h
  | 0, .ty _, h => by cases h
  | n + 1, .hnd _, h => by cases h
  | n + 1, .ty _, h => by cases h
theorem odd_ok (ds : List D) (h : (ds.all fun d => plB (10 ^ 14) 2 d && decide (wt d ≤ 600)) = true) : ∀ d ∈ ds, Dt (10 ^ 14) 2 600 d := fun d hd => by
  have := List.all_eq_true.mp h d hd
  rw [Bool.and_eq_true] at this
  exact ⟨plB_ok this.1, of_decide_eq_true this.2⟩
section
variable {W : Type} {w : W} {Q : D → W → Prop} {E : Ex → W → Prop}
theorem addB_ii (i j : Int) : fAddB (.int i) (.int j) w Q E = Q (.int (i + j)) w := by unfold fAddB; simp only [reduceCtorEq, false_and, exists_false, false_or, add_int']
theorem addB_bi (a : Bool) (j : Int) : fAddB (.bl a) (.int j) w Q E = Q (.int (b2 a + j)) w := by unfold fAddB; simp [fAdd]
theorem addB_tt (a b : List D) : fAddB (.tup a) (.tup b) w Q E = (a.length + b.length ≤ LB ∧ Q (.tup (a ++ b)) w) := by unfold fAddB; simp only [reduceCtorEq, false_and, exists_false, false_or, add_tup']
theorem addB_ss (a b : Str) : fAddB (.str a) (.str b) w Q E = (a.length + b.length ≤ LB ∧ Q (.str (a ++ b)) w) := by unfold fAddB; simp only [reduceCtorEq, false_and, exists_false, false_or, add_str']
theorem subB_ii (i j : Int) : fSubB (.int i) (.int j) w Q E = Q (.int (i - j)) w := by unfold fSubB; simp [fSub, fI0]
theorem subB_bi (a : Bool) (j : Int) : fSubB (.bl a) (.int j) w Q E = Q (.int (b2 a - j)) w := by unfold fSubB; simp [fSub, fI0]
theorem subB_ib (a : Bool) (j : Int) : fSubB (.int j) (.bl a) w Q E = Q (.int (j - b2 a)) w := by unfold fSubB; simp [fSub, fI0]
theorem gtB_ii (i j : Int) : fGtB (.int i) (.int j) w Q E = Q (.bl (decide (j < i))) w := by unfold fGtB; simp [fGt, fOrd]
theorem gtB_bi (a : Bool) (j : Int) : fGtB (.bl a) (.int j) w Q E = Q (.bl (decide (j < b2 a))) w := by unfold fGtB; simp [fGt, fOrd]
end
theorem list_lst (xs : List D) {W : Type} {w : W} {Q : D → W → Prop} {E : Ex → W → Prop} : fList [.lst xs] w Q E = Q (.lst xs) w := propext ⟨fun ⟨x, ys, e, h, q⟩ => by cases e; cases h; exact q, fun q => ⟨_, _, rfl, rfl, q⟩⟩
theorem list_tup (xs : List D) {W : Type} {w : W} {Q : D → W → Prop} {E : Ex → W → Prop} : fList [.tup xs] w Q E = Q (.lst xs) w := propext ⟨fun ⟨x, ys, e, h, q⟩ => by cases e; cases h; exact q, fun q => ⟨_, _, rfl, rfl, q⟩⟩
theorem tuple_lst (xs : List D) {W : Type} {w : W} {Q : D → W → Prop} {E : Ex → W → Prop} : fTuple [.lst xs] w Q E = Q (.tup xs) w := propext ⟨fun ⟨x, ys, e, h, q⟩ => by cases e; cases h; exact q, fun q => ⟨_, _, rfl, rfl, q⟩⟩
theorem cut_pre (xs : List D) (k : Nat) : cutL xs none (some (k : Int)) = xs.take k := by
  unfold cutL
  rw [HT.sIx_none, HT.sIx_nat, List.drop_zero, Nat.sub_zero]
  by_cases h : k ≤ xs.length
  · rw [Nat.min_eq_left h]
  · rw [Nat.min_eq_right (by omega), List.take_of_length_le (Nat.le_refl _), List.take_of_length_le (by omega)]
theorem cut_suf (xs : List D) (k : Nat) : cutL xs (some (k : Int)) none = xs.drop k := by
  unfold cutL
  rw [HT.sIx_none, HT.sIx_nat]
  by_cases h : k ≤ xs.length
  · rw [Nat.min_eq_left h]; exact List.take_of_length_le (by rw [List.length_drop]; omega)
  · rw [Nat.min_eq_right (by omega), List.drop_of_length_le (Nat.le_refl _), List.drop_of_length_le (by omega), List.take_nil]
theorem wtL_take (xs : List D) (k j : Nat) (h : k ≤ j) : wtL (xs.take k) + wtL (xs.drop j) ≤ wtL xs := by
  have h1 := wtL_app (xs.take k) (xs.drop k)
  rw [List.take_append_drop] at h1
  have h2 := wtL_app ((xs.drop k).take (j - k)) ((xs.drop k).drop (j - k))
  rw [List.take_append_drop, List.drop_drop, show k + (j - k) = j from by omega] at h2
  omega
/-- weights behind j spoilers -/
def nN (a : Nat) : Nat → Nat | 0 => a | j + 1 => 2 * nN a j + 700
/-! ### (.., *t, ..) -/
section
open StX
variable {G : Wd} {X : Cx} {Wx : WX} {W : Type}
def mStar (m : DEnv → M W D) (r : DEnv → M W (List D)) : DEnv → M W (List D) := fun ρ w Q E => m ρ w (fun d w1 => ∃ xs, d = .tup xs ∧ r ρ w1 (fun ds w2 => Q (xs ++ ds) w2) E) E
theorem dastar {e : Expr} {es : List Expr} {p : Pos} {m : DEnv → M G.W D} {mr : DEnv → M G.W (List D)} (ha : DE G X Wx e m) (hr : DA G X Wx es mr) (hs : starEach (.Starred e p :: es) X.env = (true, eval e X.env) :: starEach es X.env := by rfl) : DA G X Wx (.Starred e p :: es) (mStar m mr) := by
  have hk : ∀ (d : D) (ρ : DEnv), Mono (fun (w : G.W) (Q : List D → G.W → Prop) (E : Ex → G.W → Prop) => ∃ xs, d = .tup xs ∧ mr ρ w (fun ds w2 => Q (xs ++ ds) w2) E) := fun d ρ w Q Q' E E' hq he ⟨xs, e, q⟩ => ⟨xs, e, hr.mono ρ w _ _ _ _ (fun ds w2 z => hq _ _ z) he q⟩
  refine ⟨PA.imp (pa_star ha.pe hr.pe hs) fun σ H Q h1 => ?_, fun ρ => (ha.mono ρ).bind fun d => hk d ρ⟩
  refine runE ha.mono hk (P := .a G Q) h1 fun v d H1 ⟨A, F, ρ, w, E, k, r, x, rp, xs, e, q⟩ => ?_
  subst e
  cases rp with
  | @tup a ys _ h1 n1 l1 rr =>
    refine ⟨a, ys, rfl, .inl (SqT.of h1), A, F, ρ, w, E, k, r, x, hr.mono ρ w _ _ _ _ (fun ds w2 z vs H2 A2 F2 s k2 rp2 => ?_) (fun _ _ z => z) q⟩
    exact z (ys ++ vs) H2 A2 F2 s k2 ((rr.mono (s.keeps k.af)).append rp2)
end
/-! ### a, b = x, y -/
section
variable {G : Wd} {X : Cx} {Wx : WX} {W : Type} {en : En}
def sPar (i j : Nat) (m : DEnv → M W (List D)) : MS W := fun ρ w E => m ρ w (fun ds w' => ∃ x y, ds = [x, y] ∧ E.nx ((ρ.set i (some (.val x))).set j (some (.val y))) w') (fun e w' => E.ex e ρ w')
theorem dspar (i j : Nat) {x y : Str} {a b : Expr} {m : DEnv → M G.W (List D)} {px py pt pos : Pos} {kt k2 pt2} (hc : X.calm = true) (nd : X.N.Nodup) (ha : DA G X Wx [a, b] m) (hij : i ≠ j := by decide) (hi : X.N[i]? = some x := by rfl) (hj : X.N[j]? = some y := by rfl)
    (hx : X.env.scope.names.lookup x = some .local := by rfl) (hy : X.env.scope.names.lookup y = some .local := by rfl)
    (hw : swappedStores [.Tuple [.Name x px, .Name y py] kt pt] (.Tuple [a, b] k2 pt2) X.env = pure (some [x, y]) := by rfl)
    (hs : swapsWithSole [.Tuple [.Name x px, .Name y py] kt pt] (.Tuple [a, b] k2 pt2) pos.line X.env = pure false := by rfl) :
    DS G en X Wx (.Assign [.Tuple [.Name x px, .Name y py] kt pt] (.Tuple [a, b] k2 pt2) pos) (sPar i j m) := by
  refine ⟨PS.imp (ps_par hc nd hi hj hij hx hy ha.pe hw hs) fun De σ H ⟨ps, A, F, ρ, w, E, c, l, q⟩ => ?_, fun ρ w E E' l q => ha.mono ρ w _ _ _ _ (fun ds w' ⟨x, y, e, z⟩ => ⟨x, y, e, l.nx _ _ z⟩) (fun _ _ z => l.ex _ _ _ z) q⟩
  refine ⟨A, F, ρ, w, _, c.ok, c.env, l.exo c, ha.mono ρ w _ _ _ _ (fun ds w' ⟨x, y, e, z⟩ vs H' A' F' s k' rp => ?_) (fun _ _ z => z) q⟩
  subst e
  cases rp with
  | cons r1 rp => cases rp with
    | cons r2 rp => cases rp with
      | nil => exact ⟨_, _, rfl, l.nx _ _ _ _ _ _ (((c.step s k').set_val r1 i).set_val r2 j) z⟩
end
/-! ### steps: the look -/
def stepP (x : Str) (ps : List D) : Bool :=
  if x = Str.ofString "pay" then (match ps with | [g, a] => sideD g && isWhole 1 a | _ => false)
  else if x = Str.ofString "lock" then isLock (.tup (.int 1 :: ps))
  else if x = Str.ofString "fold" then (match ps with | [i, s] => isWhole 1 i && isWhole 0 s | _ => false)
  else if x = Str.ofString "drop" then (match ps with | [i] => isWhole 1 i | _ => false)
  else decide (x = Str.ofString "pass") && ps.isEmpty
def isStep : D → Bool | .tup (.str x :: ps) => stepP x ps | _ => false
def tlen : D → Nat | .tup xs => xs.length | _ => 0
def sf_is_step {W : Type} : SF W := fun ds w Q _ => ∃ d, ds = [d] ∧ Pl d ∧ tlen d ≤ LB ∧ Q (.bl (isStep d)) w
theorem sf_is_step_mono {W : Type} (ds : List D) : Mono (sf_is_step (W := W) ds) := fun w Q Q' E E' hq _ ⟨d, e, h, hl, q⟩ => ⟨d, e, h, hl, hq _ _ q⟩
/-- what a drawn step is: data, small enough -/
def sfStep : SF BW := fun ds w Q _ => ∃ b, ds = [.hnd b] ∧ w.bag = some b ∧ w.n < 2 ^ 58 ∧ ∀ (d : D) (m : Nat), Dt (10 ^ 40) 1 500 d → w.n ≤ m → m ≤ w.n + 10 → Q d (w.at m)
theorem sfStep_mono (ds : List D) : Mono (sfStep ds) := fun w Q Q' E E' hq _ ⟨b, e1, e2, h, q⟩ => ⟨b, e1, e2, h, fun d m a b c => hq _ _ (q d m a b c)⟩
theorem dstep_at {b : Addr} {w : BW} {n : Nat} {Q : D → BW → Prop} {E : Ex → BW → Prop} (hb : w.bag = some b) (hn : n < 2 ^ 58) (q : ∀ (d : D) (m : Nat), Dt (10 ^ 40) 1 500 d → n ≤ m → m ≤ n + 10 → Q d (w.at m)) : sfStep [.hnd b] (w.at n) Q E := ⟨b, rfl, hb, hn, q⟩
/-! ### t == (), whatever is in t -/
section
variable {G : Wd} {X : Cx} {W : Type}
theorem op_eqTn (hu : X.A.units + 64 < cLine) : OpR X (compareOp .Eq) (fun x y H Q => ∃ a b xs, x = .ref a ∧ y = .ref b ∧ SqT X.K H a xs ∧ SqT X.K H b [] ∧ Q (.bl xs.isEmpty) H) := by
  intro pins s σ H x y v u Q I rx ry h
  obtain ⟨a, b, xs, rfl, rfl, ha, hb, q⟩ := h
  cases rx
  cases ry
  obtain ⟨its, r1, h1, _⟩ := I.tuple ha
  obtain ⟨its2, r2, h2, _⟩ := I.tuple hb
  cases r2
  have e : ((List.range (min its.toArray.size ([] : List Value).toArray.size)).all (fun _ => true) && its.toArray.size == ([] : List Value).toArray.size) = xs.isEmpty := by
    cases r1 with
    | nil => rfl
    | cons _ _ => simp
  exact SeqAt.eq_tupleAt (e := fun _ => true) h1 h2 (by omega) (fun j h3 h4 => absurd h4 (by simp)) (by rw [e]; exact ⟨.bl _, H, I, rfl, q⟩)
def fEqT : F2 W := fun x y w Q E => ∃ xs, x = .tup xs ∧ y = .tup [] ∧ Q (.bl xs.isEmpty) w
theorem o_eqT {k : Nat} (hr : RoomG k X.A) : Op2 G X (compareOp .Eq) fEqT where
  ex := ⟨_, op_eqTn hr.units, fun x y v u w H A F Q E k r1 r2 ⟨xs, e1, e2, q⟩ => by
    subst e1; subst e2
    obtain ⟨a, ys, rfl, h1, n1, l1, rr⟩ := r1.tup
    obtain ⟨b, zs, rfl, h2, n2, l2, rr2⟩ := r2.tup
    cases rr2
    refine ⟨a, b, ys, rfl, rfl, SqT.of h1, SqT.of h2, ?_⟩
    rw [show ys.isEmpty = xs.isEmpty from by cases rr <;> rfl]
    exact q _ H A F .refl k (.bl _)⟩
  mono := fun x y w Q Q' E E' hq he ⟨xs, e1, e2, q⟩ => ⟨xs, e1, e2, hq _ _ q⟩
end
section
variable {G : Wd} {X : Cx} {W : Type}
theorem op_eqT1 (hu : X.A.units + 64 < cLine) : OpR X (compareOp .Eq) (fun x y H Q => ∃ a b z xs t, x = .ref a ∧ y = .ref b ∧ SqT X.K H a (.str z :: xs) ∧ SqT X.K H b [.str t] ∧ Q (.bl (decide (z = t) && xs.isEmpty)) H) := by
  intro pins s σ H x y v u Q I rx ry h
  obtain ⟨a, b, z, xs, t, rfl, rfl, ha, hb, q⟩ := h
  cases rx
  cases ry
  obtain ⟨its, r1, h1, _⟩ := I.tuple ha
  obtain ⟨its2, r2, h2, _⟩ := I.tuple hb
  cases r1 with
  | cons p1 r1 =>
    cases r2 with
    | cons p2 r2 =>
      cases r2
      obtain ⟨t1, rfl⟩ := p1
      obtain ⟨t2, rfl⟩ := p2
      rename_i vs
      have e : ((List.range (min (Value.str z t1 :: vs).toArray.size [Value.str t t2].toArray.size)).all (fun _ => z == t) && (Value.str z t1 :: vs).toArray.size == [Value.str t t2].toArray.size) = (decide (z = t) && xs.isEmpty) := by
        have e1 : min (Value.str z t1 :: vs).toArray.size [Value.str t t2].toArray.size = 1 := by simp
        rw [e1, Bool.beq_eq_decide_eq]
        cases r1 with
        | nil => simp
        | cons _ _ => simp
      refine SeqAt.eq_tupleAt (e := fun _ => z == t) h1 h2 (by omega) (fun j h3 h4 => ?_) (by rw [e]; exact ⟨.bl _, H, I, rfl, q⟩)
      have hj : j = 0 := by simpa using h4
      subst hj
      exact SeqAt.EqAt.str_str z t1 t t2
def fEqT1 : F2 W := fun x y w Q E => ∃ z xs t, x = .tup (.str z :: xs) ∧ y = .tup [.str t] ∧ Q (.bl (decide (z = t) && xs.isEmpty)) w
theorem o_eqT1 {k : Nat} (hr : RoomG k X.A) : Op2 G X (compareOp .Eq) fEqT1 where
  ex := ⟨_, op_eqT1 hr.units, fun x y v u w H A F Q E k r1 r2 ⟨z, xs, t, e1, e2, q⟩ => by
    subst e1; subst e2
    obtain ⟨a, ys, rfl, h1, n1, l1, rr⟩ := r1.tup
    obtain ⟨b, zs, rfl, h2, n2, l2, rr2⟩ := r2.tup
    cases rr with
    | cons p1 rr =>
      cases rr2 with
      | cons p2 rr2 =>
        cases rr2
        cases p1
        cases p2
        rename_i vs _ _
        refine ⟨a, b, z, vs, t, rfl, rfl, SqT.of h1, SqT.of h2, ?_⟩
        rw [show vs.isEmpty = xs.isEmpty from by cases rr <;> rfl]
        exact q _ H A F .refl k (.bl _)⟩
  mono := fun x y w Q Q' E E' hq he ⟨z, xs, t, e1, e2, q⟩ => ⟨z, xs, t, e1, e2, hq _ _ q⟩
end
theorem isLock_len {xs : List D} (h : xs.length ≠ 5) : isLock (.tup xs) = false := by
  cases e : isLock (.tup xs) with
  | false => rfl
  | true =>
    obtain ⟨i, g, a, s, l, e2, _⟩ := isLock_parts e
    cases e2
    exact absurd rfl h
theorem Dt.tlen {B h N : Nat} {d : D} (x : Dt B h N d) (hN : N ≤ LB) : tlen d ≤ LB := by
  cases d <;> first | exact Nat.zero_le _ | skip
  rename_i xs
  have h1 := x.2
  have h2 := len_wtL xs
  simp only [wt] at h1
  show xs.length ≤ LB
  omega
end DL

namespace DL
open PySem PySem.Spec PyProof.Rows L2
/-! ### sorted(set(xs)), xs a list of ints -/
/-- a set that was just made -/
abbrev bareSet (w : World) : Obj := { cls := .type "set", dict := none, data := .set #[] 0 (.fresh 0 0 (!w.params.followText "set-order")) }
section
variable {P : Program} {w : World} {A : Around} {E : Value → Shared → Prop} {s : Shared}
/-- set(xs) -/
theorem set_of_ints {l : Addr} {items : Array Value} (ns : List Int) {Q : Value → Shared → Prop} (free : A.handled = none) (hl : s.heap.IsList l items) (its : IntsAre items.toList ns) (room : ns.length + 1 < scanBound)
    (fin : ∀ (h' : Heap) (tk c : Nat), SetR w h' s.heap.objs.size (fun j => decide (j ∈ ns)) c → c ≤ ns.length → (∀ b o, s.heap.get? b = some o → h'.get? b = some o) → Q (.ref s.heap.objs.size) { s with heap := h', toks := tk }) :
    wpAny (model P w) A (call (.type "set") [.ref l]) Q E s := by
  have sz : items.size = ns.length := by rw [← Array.length_toList]; exact its.length
  have here : (s.heap.push (bareSet w)).get? s.heap.objs.size = some (bareSet w) := Heap.get?_push_size _ rfl
  obtain ⟨c0, tl0, mro0⟩ := F.called_set.mro
  have made0 := F.called_set.made
  have sub0 := F.called_set.sub
  have not0 := F.called_set.notType
  have can0 := F.called_set.canCreate
  have call0 := F.typeCall_set_1 (.ref l)
  refine wpAny_call (codeAny_of_tree ?_)
  show wpAny _ _ (callAny (.type "set") _) _ _ _
  refine wpAny_pure ⟨Code.quiet_builtin _ (by decide +kernel), codeAny_builtin F.entry_type_call ?_⟩
  rw [Around.under_plain (weight_type_call_type "set" [.ref l] []) rfl]
  repeat any_goals first | assumption | wp_step
  refine codeAny_mono (code_set_led1 (.ref l) (E := E) (Q₁ := fun x t => x = .ref s.heap.objs.size ∧ t = { s with heap := s.heap.push (bareSet w) }) ⟨rfl, rfl⟩) fun z t hz => ?_
  match z, hz with
  | .error e, hz => exact hz
  | .ok (.ret x), hz =>
    obtain ⟨rfl, rfl⟩ := hz
    have typ : Shared.TypeIs { s with heap := s.heap.push (bareSet w) } (.ref s.heap.objs.size) "set" := ⟨_, here, rfl⟩
    have in0 := F.called_set.init.lookup
    have in1 := F.called_set.init.bind (.ref s.heap.objs.size)
    repeat any_goals first | assumption | wp_step
    refine codeAny_mono (codeAny_call_builtin (R := wants (fun x t => x = .none ∧ ∃ h' tk c, t = { s with heap := h', toks := tk } ∧ SetR w h' s.heap.objs.size (fun j => decide (j ∈ ns)) c ∧ c ≤ ns.length ∧ ∀ b o, s.heap.get? b = some o → h'.get? b = some o) E) F.called_set.init.plain F.entry_set_init (check_set_init_1 typ ?_)) fun z2 t2 hz2 => ?_
    · obtain ⟨⟨k1, k2, k3, k4⟩, at1, e1, m, e2⟩ := hl
      dsimp only at e1 e2
      subst e1 e2
      have lAt : (s.heap.push (bareSet w)).get? l = some ⟨.type "list", k2, .seq items m, k4⟩ := Heap.get?_push_of_some _ at1
      have lIs : (s.heap.push (bareSet w)).IsList l items := ⟨_, lAt, rfl, m, rfl⟩
      have below : l < s.heap.objs.size := Heap.lt_size at1
      have size1 : (s.heap.push (bareSet w)).objs.size = s.heap.objs.size + 1 := Heap.size_push ..
      have n1 := F.sub_list_set
      have n2 := F.sub_list_frozenset
      have n3 : (Value.type "list" == Value.type "dict") = false := by decide
      unfold Builtin.«set.__init__» noKeywords Builtin.Frozenset.updateFrom
      generalize hI : pyIter = pI
      wp_walk
      subst hI
      refine wpAny_pyIter_list lIs (wpAny_bind (wpAny_runValue ?_))
      have free3 : A.in1.in1.in1.handled = none := by simp [free]
      have at_ : ∀ (i : Nat) (v : Value), items[i]? = some v → ∃ k t, ns[i]? = some k ∧ v = .int k t := fun i v q => by
        have lt : i < ns.length := by rw [← sz]; exact (Array.getElem?_eq_some_iff.mp q).1
        obtain ⟨t, e⟩ := its.int_at i v (by rw [Array.getElem?_toList]; exact q)
        exact ⟨ns[i], t, List.getElem?_eq_getElem lt, by rw [e, List.getD_eq_getElem?_getD, List.getElem?_eq_getElem lt]; rfl⟩
      refine set_update_ints ((Walks.list free3 _ l (by rw [size1]; exact Nat.ne_of_lt (Nat.lt_succ_of_lt below)) items).toS) s.heap.objs.size (by rw [size1]; simp only [List.mem_cons, List.not_mem_nil, or_false, not_or]; exact ⟨Nat.ne_of_lt (Nat.lt_succ_self _), Nat.ne_of_gt below⟩) ns sz room at_ (items.size - 0) 0 _ (by omega) (Nat.zero_le _)
        ⟨⟨_, Heap.get?_push_size _ rfl, rfl, rfl⟩, lIs.push _⟩ ⟨0, Nat.le_refl 0, setR_new_at (Heap.get?_push_of_some _ here)⟩ fun t3 c3 mv le3 st3 => ?_
      obtain ⟨h3, g3, d3, tk3, o3⟩ := t3
      have eg : g3 = s.gens := mv.gens
      have ed : d3 = s.drawn := mv.drawn
      have eo : o3 = s.os := mv.os
      subst eg ed eo
      refine wpAny_pure ?_
      show wpAny _ _ (ret Value.none) _ _ _
      rw [sz] at le3
      refine wpAny_pure ⟨rfl, h3, tk3, c3, rfl, st3, le3, fun b o e => ?_⟩
      have lt := Heap.lt_size e
      refine mv.heap b o ?_ (Heap.get?_push_of_some _ (Heap.get?_push_of_some _ e))
      rw [size1]
      simp only [List.mem_cons, List.not_mem_nil, or_false, not_or]
      exact ⟨Nat.ne_of_lt lt, Nat.ne_of_lt (Nat.lt_succ_of_lt lt)⟩
    · match z2, hz2 with
      | .error e, hz2 => exact hz2
      | .ok (.ret x), hz2 =>
        obtain ⟨rfl, h3, tk, c3, rfl, st3, le3, kp⟩ := hz2
        repeat any_goals first | assumption | wp_step
        exact fin _ _ _ st3 le3 kp
      | .ok .next, hz2 => exact hz2.elim
      | .ok .brk, hz2 => exact hz2.elim
      | .ok .cont, hz2 => exact hz2.elim
  | .ok .next, hz => exact hz.elim
  | .ok .brk, hz => exact hz.elim
  | .ok .cont, hz => exact hz.elim
end
section
variable {G : Wd} {X : Cx} {Wx : WX} {W : Type}
theorem cr_setI (hc : X.calm = true) : CallR X (.type "set") (fun vs H Q => ∃ (a : Addr) (ns : List Int), vs = [.ref a] ∧ SqL X.K H a (ns.map V.int) ∧ ns.length < 1000 ∧
    ∀ (p : Addr) (c : Nat), H p = none → c ≤ ns.length → Q (.ref p) (upd H p (SetO X.w p (fun j => decide (j ∈ ns)) c))) := by
  intro pins s σ H vs us Q I r h
  obtain ⟨a, ns, rfl, hs, hl, q⟩ := h
  obtain ⟨its, rv, ht, _⟩ := I.list hs
  rw [Vals.ref1 r]
  refine set_of_ints ns (I.ok.hd hc) ht.isList (by simpa using rv.ints) (by
    have : (1001 : Nat) < scanBound := by decide
    omega) fun h' tk c st le kp => ?_
  exact ⟨.ref _, upd H s.heap.objs.size (SetO X.w s.heap.objs.size (fun j => decide (j ∈ ns)) c), I.laid (t' := tk) kp (Nat.le_refl _) (setO_new st), rfl, q _ _ (I.hok.fresh (Nat.le_refl _)) le⟩
/-- sorted(set(e)) -/
def mSortSet (m : DEnv → M W D) : DEnv → M W D := fun ρ w Q E => m ρ w (fun d w1 => ∃ ns : List Int, d = .lst (ns.map D.int) ∧ ns.length < 60 ∧ ∀ ns' : List Int, ns'.Pairwise (· < ·) → (∀ k, k ∈ ns' ↔ k ∈ ns) → Q (.lst (ns'.map D.int)) w1) E
theorem dsortset {e : Expr} {m : DEnv → M G.W D} {p1 p2 q1 q2 : Pos} (hc : X.calm = true) (he : DE G X Wx e m) (hg : Gl X "sorted") (hm : X.mg "sorted" = none) (hg2 : Gl X "set") (hm2 : X.mg "set" = none) (hs : starEach [e] X.env = [(false, eval e X.env)] := by rfl)
    (hs2 : starEach [.Call (.Name "set" p1) [e] [] q1] X.env = [(false, eval (.Call (.Name "set" p1) [e] [] q1) X.env)] := by rfl) (hp1 : (backTo q1 (starEach [] X.env)).any (·.1) = false := by rfl) (hp2 : (backTo q2 (starEach [] X.env)).any (·.1) = false := by rfl) :
    DE G X Wx (.Call (.Name "sorted" p2) [.Call (.Name "set" p1) [e] [] q1] [] q2) (mSortSet m) := by
  have hk : ∀ d : D, Mono (fun (w : G.W) (Q : D → G.W → Prop) (_ : Ex → G.W → Prop) => ∃ ns : List Int, d = .lst (ns.map D.int) ∧ ns.length < 60 ∧ ∀ ns' : List Int, ns'.Pairwise (· < ·) → (∀ k, k ∈ ns' ↔ k ∈ ns) → Q (.lst (ns'.map D.int)) w) := fun d w Q Q' E E' hq _ ⟨ns, e, l, q⟩ => ⟨ns, e, l, fun ns' h1 h2 => hq _ _ (q ns' h1 h2)⟩
  have inner := pe_callTy (cr_setI hc) (p := p1) (pos := q1) hg2 hm2 (by decide +kernel) (pa_cons he.pe pa_nil (hs := hs)) (he := hs) (hpl := hp1)
  refine ⟨PE.imp (pe_callB (cr_sortedSet hc) (p := p2) (pos := q2) hg hm (by decide +kernel) (pa_cons inner pa_nil (hs := hs2)) (he := hs2) (hpl := hp2)) fun σ H Q h1 => ?_, fun ρ => (he.mono ρ).bind hk⟩
  refine runE he.mono (fun d _ => hk d) (P := .e G Q) h1 fun v d H1 ⟨A, F, ρ, w, E, k, r, x, rp, ns, e, hl, q⟩ => ?_
  subst e
  cases rp with
  | @lst a xs _ h1 n1 l1 rr =>
    have := rr.ints
    subst this
    refine ⟨a, ns, rfl, SqL.of h1, by omega, fun p c hp hc2 => ?_⟩
    refine ⟨p, _, c, rfl, upd_same, by omega, fun ns' p2 hs hm hlen hp2 => ?_⟩
    have k1 := k.new (o := SetO X.w p (fun j => decide (j ∈ ns)) c) hp
    have s1 : Stp A F H1 A F _ := .new (o := SetO X.w p (fun j => decide (j ∈ ns)) c) hp
    refine q ns' hs (fun z => (hm z).trans ⟨fun y => of_decide_eq_true y, fun y => decide_eq_true y⟩) _ _ A F (s1.trans (.new hp2)) (k1.new hp2) (.lst upd_same (k1.out hp2) ?_ (RepL.of_ints ns'))
    have lb : LB = 100000 := rfl
    rw [List.length_map]
    omega
end
/-! ### ids that rise -/
theorem strict_eq : ∀ {a b : List Int}, a.Pairwise (· < ·) → b.Pairwise (· < ·) → (∀ k, k ∈ a ↔ k ∈ b) → a = b
  | [], [], _, _, _ => rfl
  | [], y :: ys, _, _, h => by have := (h y).mpr List.mem_cons_self; cases this
  | x :: xs, [], _, _, h => by have := (h x).mp List.mem_cons_self; cases this
  | x :: xs, y :: ys, ha, hb, h => by
    obtain ⟨a1, a2⟩ := List.pairwise_cons.mp ha
    obtain ⟨b1, b2⟩ := List.pairwise_cons.mp hb
    have e : x = y := by
      rcases List.mem_cons.mp ((h x).mp List.mem_cons_self) with e | e
      · exact e
      · rcases List.mem_cons.mp ((h y).mpr List.mem_cons_self) with e2 | e2
        · exact e2.symm
        · have := b1 x e
          have := a1 y e2
          omega
    subst e
    refine congrArg (x :: ·) (strict_eq a2 b2 fun k => ⟨fun hk => ?_, fun hk => ?_⟩)
    · rcases List.mem_cons.mp ((h k).mp (List.mem_cons_of_mem _ hk)) with e2 | e2
      · have := a1 k hk; omega
      · exact e2
    · rcases List.mem_cons.mp ((h k).mpr (List.mem_cons_of_mem _ hk)) with e2 | e2
      · have := b1 k hk; omega
      · exact e2
theorem eqD_ints : ∀ ns ms : List Int, eqD (.lst (ns.map D.int)) (.lst (ms.map D.int)) = decide (ns = ms) := by
  have key : ∀ ns ms : List Int, PyData.eqvAll (pyL (ns.map D.int)) (pyL (ms.map D.int)) = decide (ns = ms) := by
    intro ns
    induction ns with
    | nil => intro ms; cases ms <;> simp [pyL, PyData.eqvAll]
    | cons n ns ih =>
      intro ms
      cases ms with
      | nil => simp [pyL, PyData.eqvAll]
      | cons m ms =>
        rw [List.map_cons, List.map_cons]
        simp only [pyL, PyData.eqvAll, ih]
        rw [show PyData.eqv (py (.int n)) (py (.int m)) = decide (n = m) from eqD_int n m]
        by_cases h1 : n = m <;> by_cases h2 : ns = ms <;> simp [h1, h2]
  intro ns ms
  show PyData.eqv (.list (pyL (ns.map D.int))) (.list (pyL (ms.map D.int))) = _
  simp only [PyData.eqv]
  exact key ns ms
theorem lf_iff {n : Int} : ∀ {ls : List D} {low : Int}, (∀ d ∈ ls, isLock d = true) → (locksFrom low n ls = true ↔ (low :: ls.map idOf).Pairwise (· < ·) ∧ ∀ i ∈ ls.map idOf, i ≤ n)
  | [], low, _ => ⟨fun _ => ⟨List.pairwise_singleton _ _, fun _ h => nomatch h⟩, fun _ => rfl⟩
  | d :: ds, low, h => by
    have ih := lf_iff (n := n) (ls := ds) (low := idOf d) fun e he => h e (List.mem_cons_of_mem _ he)
    rw [locksFrom, h d List.mem_cons_self, Bool.true_and, Bool.and_eq_true, Bool.and_eq_true, ih, decide_eq_true_eq, decide_eq_true_eq, List.map_cons]
    constructor
    · rintro ⟨⟨h1, h2⟩, h3, h4⟩
      refine ⟨List.pairwise_cons.mpr ⟨fun a ha => ?_, h3⟩, fun i hi => (List.mem_cons.mp hi).elim (fun e => e ▸ h2) (h4 i)⟩
      rcases List.mem_cons.mp ha with e | e
      · rw [e]; exact h1
      · have := (List.pairwise_cons.mp h3).1 a e; omega
    · rintro ⟨h1, h2⟩
      obtain ⟨h3, h4⟩ := List.pairwise_cons.mp h1
      exact ⟨⟨h3 _ List.mem_cons_self, h2 _ List.mem_cons_self⟩, h4, fun i hi => h2 i (List.mem_cons_of_mem _ hi)⟩
theorem last_le {n : Int} {l : List Int} (hl : l.Pairwise (· < ·)) (hn : l ≠ []) : (∀ i ∈ l, i ≤ n) ↔ l.getLast hn ≤ n := by
  refine ⟨fun h => h _ (List.getLast_mem hn), fun h i hi => ?_⟩
  rw [← List.dropLast_concat_getLast hn] at hl hi
  rcases List.mem_append.mp hi with hi | hi
  · have := (List.pairwise_append.mp hl).2.2 i hi _ (List.mem_singleton.mpr rfl)
    omega
  · rw [List.mem_singleton.mp hi]; exact h
theorem atI_getLast {ns : List Int} (h : ns ≠ []) : atI (ns.map D.int) (-1) = some (.int (ns.getLast h)) := by
  have e := List.dropLast_concat_getLast h
  have : ns.map D.int = ns.dropLast.map D.int ++ [.int (ns.getLast h)] := by
    conv => lhs; rw [← e]
    rw [List.map_append]; rfl
  rw [this]
  exact atI_last _ _
theorem all_filter (p : D → Bool) (x : D) : ∀ ds : List D, ((ds.filter fun d => !p d).map fun _ => x).isEmpty = ds.all p
  | [] => rfl
  | d :: ds => by
    rw [List.filter_cons, List.all_cons]
    cases h : p d with
    | true => exact all_filter p x ds
    | false => rfl
theorem ones_ok (n : Nat) (p : D → Bool) (ds : List D) : okD (n + 1) (.lst ((ds.filter p).map fun _ => D.int 1)) = true := by
  unfold okD
  refine List.all_eq_true.mpr fun d hd => ?_
  obtain ⟨_, _, rfl⟩ := List.mem_map.mp hd
  exact ok_int _ _
/-! ### drawn locks and states are small -/
theorem rise_le {n : Int} : ∀ {ls : List Lk} {low : Int}, Rise low n ls → ∀ l ∈ ls, l.id ≤ n
  | [], _, _ => fun _ h => nomatch h
  | x :: xs, low, h => fun l hl => (List.mem_cons.mp hl).elim (fun e => e ▸ h.2.1) (rise_le h.2.2 l)
theorem dt_int {B : Nat} {z : Int} (hB : B < 10 ^ 90) (z0 : 0 ≤ z) (z1 : z ≤ B) : Dt B 0 100 (.int z) := Dt.int hB (by omega) (Nat.le_refl _)
theorem dt_lk {B : Nat} (hB : B < 10 ^ 90) {l : Lk} (h : l.Bd B) (h1 : 1 ≤ l.id) (h2 : l.id ≤ B) : Dt B 1 500 (lkD l) := by
  have a1 := dt_int hB (by omega : 0 ≤ l.id) h2
  have a2 := dt_int hB (by have := h.am0; omega : 0 ≤ l.am) (Int.le_of_lt h.am)
  have a3 := dt_int hB h.sl0 (Int.le_of_lt h.sl)
  have a4 := dt_int hB h.last0 (Int.le_of_lt h.last)
  have a5 : Dt B 0 60 (.str (sideS l.left)) := by
    cases l.left
    · exact ⟨.ofStr (by show ∀ c ∈ _, _; decide +kernel), by decide +kernel⟩
    · exact ⟨.ofStr (by show ∀ c ∈ _, _; decide +kernel), by decide +kernel⟩
  refine Dt.tup (fun d hd => ?_) ?_
  · simp only [List.mem_cons, List.not_mem_nil, or_false] at hd
    rcases hd with rfl | rfl | rfl | rfl | rfl
    · exact a1.1
    · exact a5.1
    · exact a2.1
    · exact a3.1
    · exact a4.1
  · have w1 := a1.2
    have w2 := a2.2
    have w3 := a3.2
    have w4 := a4.2
    have w5 := a5.2
    simp only [wtL]
    omega
theorem wtL_le {c : Nat} : ∀ {ds : List D}, (∀ d ∈ ds, wt d ≤ c) → wtL ds ≤ (c + 2) * ds.length
  | [], _ => Nat.le_refl _
  | d :: ds, h => by
    have h1 := h d List.mem_cons_self
    have h2 := wtL_le fun e he => h e (List.mem_cons_of_mem d he)
    simp only [wtL]
    rw [List.length_cons, Nat.mul_succ]
    omega
theorem dt_st {B : Nat} (hB : B < 10 ^ 90) {k : Int} (hk : k ≤ 33) {s : Ste} (h : s.Bd B k) : Dt B 3 17100 (stD s) := by
  have a1 := dt_int hB h.lane0 (Int.le_of_lt h.lane)
  have a2 := dt_int hB h.num0 (Int.le_of_lt h.num)
  have a3 := dt_int hB h.lf0 (Int.le_of_lt h.lf)
  have a4 := dt_int hB h.rt0 (Int.le_of_lt h.rt)
  have al : ∀ d ∈ s.ls.map lkD, Dt B 1 500 d := fun d hd => by
    obtain ⟨l, hl, rfl⟩ := List.mem_map.mp hd
    have h1 := h.ok l hl
    have h2 := rise_le h.rise l hl
    have h3 := h.num
    exact dt_lk hB h1.1 h1.2 (by omega)
  have a5 : Dt B 2 16600 (.tup (s.ls.map lkD)) := Dt.tup (fun d hd => (al d hd).1) (by
    have h1 := wtL_le fun d hd => (al d hd).2
    rw [List.length_map] at h1
    have h2 := h.few
    omega)
  refine Dt.tup (fun d hd => ?_) ?_
  · simp only [List.mem_cons, List.not_mem_nil, or_false] at hd
    rcases hd with rfl | rfl | rfl | rfl | rfl
    · exact a1.1.mono (by omega)
    · exact a2.1.mono (by omega)
    · exact a3.1.mono (by omega)
    · exact a4.1.mono (by omega)
    · exact a5.1
  · have w1 := a1.2
    have w2 := a2.2
    have w3 := a3.2
    have w4 := a4.2
    have w5 := a5.2
    simp only [wtL]
    omega
end DL

namespace DL
open PySem PySem.Spec PyProof.Rows L2
section
variable {I : BagI} {K : PySem.W.Frag} {X : Cx} {Wx : WX} {en : En} {ps : Pin}
/-! ### what the world has, forgotten -/
theorem Ok.forget {w : BW} {H : Hp} {A F : Foot} (k : (GB I K).Ok w H A F) (h' : Addr → Option OD) (sub : ∀ a o, h' a = some o → w.h a = some o) : (GB I K).Ok { w with h := h' } H A F where
  wi := by
    refine ⟨k.wi.1, k.wi.2.1, k.wi.2.2.1, fun b hb => I.fr2 (k.wi.2.2.2.1 b hb) (fun _ _ e _ => e) fun a z => ⟨z.1, ?_, fun x C fs q => z.2.2 x C fs (sub _ _ q)⟩, fun a o e => k.wi.2.2.2.2 a o (sub a o e)⟩
    cases q : h' a with
    | none => exact q
    | some o =>
      have := sub a o q
      rw [z.2.1] at this
      cases this
  af := k.af
  dom := k.dom
/-! ### {k1: a, k2: b} -/
theorem merge_two {k1 k2 : Key} (n : k1 ≠ k2) (a b : V) : mergeK [] [(k1, a), (k2, b)] = [(k1, a), (k2, b)] := by
  show putK (putK [] k1 a) k2 b = _
  have e : putK [] k1 a = [(k1, a)] := rfl
  rw [e]
  unfold putK
  rw [List.any_cons, List.any_nil, Bool.or_false, decide_eq_false (p := (k1, a).1 = k2) n, if_neg Bool.false_ne_true]
  rfl
theorem disp2 {x y : Str} {e1 e2 : Expr} {m1 m2 : DEnv → M BW D} {σ : St} {H : Hp} {A F : Foot} {ρ : DEnv} {w : BW} {E : Ex → BW → Prop} {Q : VK} {Z : D → D → BW → Prop}
    (h1 : DE (GB I K) X Wx e1 m1) (h2 : DE (GB I K) X Wx e2 m2) (k : (GB I K).Ok w H A F) (re : EnvRep A F H σ ρ) (xo : exOk (GB I K) A F H σ Wx E) (n : x ≠ y)
    (q : m1 ρ w (fun d1 w1 => m2 ρ w1 (fun d2 w2 => Z d1 d2 w2) E) E)
    (go : ∀ d1 d2 w2 p vs H3 A3 F3, Stp A F H A3 F3 H3 → (GB I K).Ok w2 H3 A3 F3 → F3 p → ¬ A3 p → H p = none → H3 p = some (.dK vs) → vs.length = 2 → RepK F3 H3 vs [(.inr x, d1), (.inr y, d2)] → Z d1 d2 w2 → Q (.ref p) H3) :
    tDisp [(tC (.str x), liftE (GB I K) Wx m1), (tC (.str y), liftE (GB I K) Wx m2)] σ H Q := by
  intro p hp
  have kp : ∀ a o, H a = some o → (upd H p (.dK [])) a = some o := fun a o e => by rw [upd_ne (ne_of_none e hp)]; exact e
  have s0 : Stp A F H A (fun a => F a ∨ a = p) (upd H p (.dK [])) := ⟨fun a o e _ => kp a o e, fun a e => by
    by_cases z : a = p
    · rw [z]; exact hp
    · rw [upd_ne z] at e; exact e, fun _ z => .inl z, fun a z => z.elim .inl fun e => .inr (e ▸ hp), fun _ z => z, fun _ z => .inl z⟩
  have k0 : (GB I K).Ok w (upd H p (.dK [])) A (fun a => F a ∨ a = p) := ⟨(GB I K).frame k.wi (fun a o e _ => kp a o e) fun a z => z.elim .inl fun e => .inr (e ▸ hp), fun a z => .inl (k.af a z), fun a z => z.elim (fun z e => by
    by_cases y : a = p
    · rw [y, upd_same] at e; cases e
    · rw [upd_ne y] at e; exact k.dom a z e) fun z e => by rw [z, upd_same] at e; cases e⟩
  refine ⟨A, _, ρ, w, E, k0, re.step s0 k.af, xo.step s0, h1.mono ρ w _ _ _ _ (fun d1 w1 z1 v1 H1 A1 F1 s1 k1 r1 => ?_) (fun _ _ z => z) q⟩
  refine ⟨A1, F1, ρ, w1, E, k1, (re.step s0 k.af).step s1 k0.af, (xo.step s0).step s1, h2.mono ρ w1 _ _ _ _ (fun d2 w2 z2 v2 H2 A2 F2 s2 k2 r2 => ?_) (fun _ _ z => z) z1⟩
  have s12 := s1.trans s2
  have na : ¬ A p := fun z => k.dom p (k.af p z) hp
  have f2 : F2 p := s12.fm p (.inr rfl)
  have na2 : ¬ A2 p := fun z => (s12.fa p z).elim na fun e => by rw [upd_same] at e; cases e
  have at2 : H2 p = some (.dK []) := s12.keep p _ upd_same na
  refine ⟨at2, [(.inr x, v1), (.inr y, v2)], rfl, (show 2 ≤ 15 by decide), ?_⟩
  rw [merge_two (fun z => n (Sum.inr.inj z))]
  generalize hH3 : upd H2 p (.dK [(.inr x, v1), (.inr y, v2)]) = H3
  have at3 : H3 p = some (.dK [(.inr x, v1), (.inr y, v2)]) := by rw [← hH3]; exact upd_same
  have ne3 : ∀ a, a ≠ p → H3 a = H2 a := fun a z => by rw [← hH3, upd_ne z]
  have kk : Keeps F2 H2 F2 H3 := fun a o e z => ⟨by rw [ne3 a (fun y => z (y ▸ f2))]; exact e, z⟩
  refine go d1 d2 w2 p _ H3 A2 F2 ⟨fun a o e z => ?_, fun a e => ?_, fun a z => ?_, fun a z => ?_, fun a z => s12.am a z, fun a z => s12.fm a (.inl z)⟩ ⟨(GB I K).frame k2.wi (fun a o e z => ?_) (fun _ z => .inl z), k2.af, fun a z e => ?_⟩ f2 na2 hp at3 rfl (.cons ((r1.mono (s2.keeps k1.af)).mono kk) (.cons (r2.mono kk) .nil)) z2
  · rw [ne3 a (ne_of_none e hp)]; exact s12.keep a o (kp a o e) z
  · by_cases y : a = p
    · rw [y]; exact hp
    · rw [ne3 a y] at e
      exact s0.there a (s12.there a e)
  · exact (s12.fa a z).imp id (s0.there a)
  · rcases s12.ff a z with z | z
    · rcases z with z | z
      · exact .inl z
      · exact .inr (z ▸ hp)
    · exact .inr (s0.there a z)
  · have : a ≠ p := fun y => by subst y; exact z.elim na2 fun u => u f2
    rw [ne3 a this]; exact e
  · by_cases y : a = p
    · rw [y, at3] at e; cases e
    · rw [ne3 a y] at e; exact k2.dom a z e
def mDct2 (k1 k2 : Str) (m1 m2 : DEnv → M BW D) : DEnv → M BW D := fun ρ w Q E => m1 ρ w (fun d1 w1 => m2 ρ w1 (fun d2 w2 => Q (.dct [(.inr k1, d1), (.inr k2, d2)]) w2) E) E
/-- .. as data -/
theorem ddict2 {x y : Str} {e1 e2 : Expr} {m1 m2 : DEnv → M BW D} {j1 j2} {p1 p2 pos : Pos} (h1 : DE (GB I K) X Wx e1 m1) (h2 : DE (GB I K) X Wx e2 m2) (n : x ≠ y := by decide) :
    DE (GB I K) X Wx (.Dict [some (.Constant (.str x) j1 p1), some (.Constant (.str y) j2 p2)] [e1, e2] pos) (mDct2 x y m1 m2) := by
  refine ⟨PE.imp (pe_disp (pps_cons pe_str h1.pe (pps_cons pe_str h2.pe pps_nil)) rfl rfl (fun z => nomatch z) (show 2 ≤ 15 by decide)) fun σ H Q ⟨A, F, ρ, w, E, k, r, xx, q⟩ => ?_, fun ρ => (h1.mono ρ).bind fun d1 => (h2.mono ρ).bind fun d2 => Mono.pure _⟩
  refine disp2 h1 h2 k r xx n q fun d1 d2 w2 p vs H3 A3 F3 s k3 f3 na3 hp at3 hl rr z => ?_
  have kk : Keeps F3 H3 (fun a => F3 a ∧ a ≠ p) H3 := fun a o e z => ⟨e, fun y => z y.1⟩
  refine z (.ref p) H3 A3 (fun a => F3 a ∧ a ≠ p) ⟨s.keep, s.there, s.fa, fun a z => s.ff a z.1, s.am, fun a z => ⟨s.fm a z, fun y => k.dom a z (y ▸ hp)⟩⟩ ⟨(GB I K).frame k3.wi (fun _ _ e _ => e) fun a z => .inl z.1, fun a z => ⟨k3.af a z, fun y => na3 (y ▸ z)⟩, fun a z => k3.dom a z.1⟩ (.dct at3 (fun z => z.2 rfl) (by rw [hl]; decide) (rr.mono kk))
/-- .. as a dict of the world -/
def sSetD (i : Nat) (k1 k2 : Str) (m1 m2 : DEnv → M BW D) : MS BW := fun ρ w E => m1 ρ w (fun d1 w1 => m2 ρ w1 (fun d2 w2 => ∀ p, w2.h p = none → E.nx (ρ.set i (some (.val (.hnd p)))) { w2 with h := put w2.h p (.dct [(.inr k1, d1), (.inr k2, d2)]) }) (fun e w' => E.ex e ρ w')) (fun e w' => E.ex e ρ w')
theorem dssetd (i : Nat) {x y v : Str} {e1 e2 : Expr} {m1 m2 : DEnv → M BW D} {j1 j2} {p1 p2 pos pv spos : Pos} (nd : X.N.Nodup) (h1 : DE (GB I K) X Wx e1 m1) (h2 : DE (GB I K) X Wx e2 m2) (n : x ≠ y := by decide)
    (hi : X.N[i]? = some v := by rfl) (hx : Loc X.env.scope v := by first | exact Or.inl rfl | exact Or.inr rfl)
    (hs : swapsWith (.Dict [some (.Constant (.str x) j1 p1), some (.Constant (.str y) j2 p2)] [e1, e2] pos) (some (.Name v pv)) spos.line X.env = pure false := by rfl) (hf : X.fn v = true ∨ X.env.scope.names.lookup v = some .local := by first | exact .inl rfl | exact .inr rfl) :
    DS (GB I K) en X Wx (.Assign [.Name v pv] (.Dict [some (.Constant (.str x) j1 p1), some (.Constant (.str y) j2 p2)] [e1, e2] pos) spos) (sSetD i x y m1 m2) := by
  refine ⟨PS.imp (ps_set nd hi hx (pe_disp (pps_cons pe_str h1.pe (pps_cons pe_str h2.pe pps_nil)) rfl rfl (fun z => nomatch z) (show 2 ≤ 15 by decide)) hs hf) fun D σ H ⟨ps, A, F, ρ, w, E, c, l, q⟩ => ?_,
    fun ρ w E E' l q => h1.mono ρ w _ _ _ _ (fun d1 w1 z => h2.mono ρ w1 _ _ _ _ (fun d2 w2 z p hp => l.nx _ _ (z p hp)) (fun _ _ z => l.ex _ _ _ z) z) (fun _ _ z => l.ex _ _ _ z) q⟩
  refine disp2 h1 h2 c.ok c.env (l.exo c) n q fun d1 d2 w2 p vs H3 A3 F3 s k3 f3 na3 hp at3 hl rr z => ?_
  have c3 := c.step s k3
  have rs := rest_of k3 na3
  have he := c.there p hp
  refine l.nx _ _ { w2 with h := put w2.h p (.dct [(.inr x, d1), (.inr y, d2)]) } H3 (fun a => A3 a ∨ a = p) F3 ⟨⟨⟨k3.wi.1, k3.wi.2.1, k3.wi.2.2.1, fun b hb => ?_, fun b u hb => ?_⟩, fun a h => h.elim (k3.af a) fun z => z ▸ f3, k3.dom⟩, ?_, c3.keep, c3.there, fun a h => h.elim (c3.fa a) fun z => .inr (z ▸ he), c3.ff, fun a h => .inl (c3.am a h), c3.fm, ?_, c3.F0, c3.pin⟩ (z p rs.1)
  · refine I.fr2 (k3.wi.2.2.2.1 b hb) (fun _ _ h _ => h) fun x z => ⟨.inl z.1, ?_, fun y C fs q => ?_⟩
    · have n : x ≠ p := fun e => na3 (e ▸ z.1)
      show put w2.h p _ x = none
      rw [put_ne n]; exact z.2.1
    · have q' : put w2.h p (.dct [(.inr _, d1), (.inr _, d2)]) y = some (.ins C x fs) := q
      by_cases n : y = p
      · subst n; rw [put_same] at q'; cases q'
      · rw [put_ne n] at q'; exact z.2.2 y C fs q'
  · have hb' : put w2.h p (.dct [(.inr _, d1), (.inr _, d2)]) b = some u := hb
    by_cases n : b = p
    · subst n; rw [put_same] at hb'; cases hb'; exact ⟨.inr rfl, vs, at3, by rw [hl]; decide, rr⟩
    · rw [put_ne n] at hb'
      exact ⟨.inl (k3.wi.2.2.2.2 b u hb').1, (k3.wi.2.2.2.2 b u hb').2.more fun _ h => .inl h⟩
  · have r3 := c3.env.set_val (v := .ref p) (d := .hnd p) (.hnd p) i
    refine ⟨r3.len, r3.val, fun j ds e => ?_, r3.inj⟩
    obtain ⟨a, xs, g1, g2, g3, g4, g5, g6⟩ := r3.own j ds e
    exact ⟨a, xs, g1, g2, g3, (fun z => z.elim g4 fun z => by rw [z, at3] at g2; cases g2), g5, g6⟩
  · intro j ds a e1 e2
    obtain ⟨g1, g2⟩ := OwnSub.set σ ρ i (.ref p) (.hnd p) j ds a e1 e2
    exact c.own j ds a g1 g2
/-- .. of a def that leaves nothing in the world -/
def sfF (sf : SF BW) : SF BW := fun ds w Q' E => ∃ Q : D → BW → Prop, (∀ d w', (∀ a o, w.h a = some o → w'.h a = some o) → Q d { w' with h := w.h } → Q' d w') ∧ sf ds w Q E
theorem sfF_mono {sf : SF BW} (h : ∀ ds, Mono (sf ds)) (ds : List D) : Mono (sfF sf ds) := fun w Q Q' E E' hq he ⟨Q0, h0, z⟩ => ⟨Q0, fun d w' s y => hq _ _ (h0 d w' s y), h ds w _ _ _ _ (fun _ _ y => y) he z⟩
theorem FnD.forget {P : Program} {wd : World} {mg : Str → Option Value} {base : Heap} {n : Nat} {f : Addr} {fd : FuncData} {prs : List Str} {sf : SF BW} (T : FnD (GB I K) P wd K mg base n f fd prs (sfF sf)) (mono : ∀ ds, Mono (sf ds)) : FnD (GB I K) P wd K mg base n f fd prs sf where
  ok := by
    have go : ∀ vs H Q E, liftSp (GB I K) sf vs H Q E → liftSp (GB I K) (sfF sf) vs H Q E := fun vs H Q E ⟨A, F, ds, w, Ed, k, r, x, q⟩ => ⟨A, F, ds, w, Ed, k, r, x, _, fun d w' sub z v H' A' F' s k' r' => z v H' A' F' s (Ok.forget k' w.h sub) r', q⟩
    exact ⟨fun vs H Q E h => T.ok.len vs H Q E (go vs H Q E h), fun A o s H ar us vs Q E hr e0 hb rv q => T.ok.run A o s H ar us vs Q E hr e0 hb rv (go vs H Q E q)⟩
  mono := mono
  kp := T.kp
  bd := T.bd
theorem sub_put {h : Addr → Option OD} {p : Addr} {o : OD} (hp : h p = none) : ∀ a u, h a = some u → put h p o a = some u := fun a u e => by
  rw [put_ne (fun z => by rw [z, hp] at e; cases e)]; exact e
end
end DL

namespace DL
open PySem PySem.Spec PyProof.Rows L2
/-! ### steps of a lane -/
inductive Mv where
  | pay (l : Bool) (a : Int) | lock (l : Bool) (a s t : Int) | fold (i x : Int) | drop (i : Int) | pass
def mvD : Mv → D
  | .pay l a => .tup [.str (Str.ofString "pay"), .str (sideS l), .int a]
  | .lock l a s t => .tup [.str (Str.ofString "lock"), .str (sideS l), .int a, .int s, .int t]
  | .fold i x => .tup [.str (Str.ofString "fold"), .int i, .int x]
  | .drop i => .tup [.str (Str.ofString "drop"), .int i]
  | .pass => .tup [.str (Str.ofString "pass")]
def Mv.Ok : Mv → Prop
  | .pay _ a => 1 ≤ a
  | .lock _ a s t => 1 ≤ a ∧ 0 ≤ s ∧ 0 ≤ t
  | .fold i x => 1 ≤ i ∧ 0 ≤ x ∧ x < 2 ^ 1000
  | .drop i => 1 ≤ i
  | .pass => True
theorem pl_mv (p : Mv) : Pl (mvD p) := by
  cases p <;> exact .tup (by
    intro d hd
    simp only [List.mem_cons, List.not_mem_nil, or_false] at hd
    rcases hd with rfl | rfl | rfl | rfl | rfl <;> first | exact .str _ | exact .int _) <;> skip
theorem isStep_mv {p : Mv} (h : p.Ok) : isStep (mvD p) = true := by
  cases p with
  | pay l a => show (sideD (.str (sideS l)) && decide (1 ≤ a)) = true; rw [sideD_s, decide_eq_true (show 1 ≤ a from h)]; rfl
  | lock l a s t =>
    obtain ⟨h1, h2, h3⟩ := h
    show (decide ((1 : Int) ≤ 1) && sideD (.str (sideS l)) && decide (1 ≤ a) && decide (0 ≤ s) && decide (0 ≤ t)) = true
    rw [sideD_s, decide_eq_true h1, decide_eq_true h2, decide_eq_true h3]; rfl
  | fold i x => show (decide (1 ≤ i) && decide (0 ≤ x)) = true; rw [decide_eq_true h.1, decide_eq_true h.2.1]; rfl
  | drop i => show decide (1 ≤ i) = true; exact decide_eq_true (show 1 ≤ i from h)
  | pass => rfl
theorem tlen_mv (p : Mv) : tlen (mvD p) ≤ LB := by cases p <;> (show _ ≤ 100000; simp [mvD, tlen])
def Ste.share (s : Ste) (l : Bool) : Int := if l = true then s.lf else s.rt
def Ste.more (s : Ste) (l : Bool) (a : Int) : Ste := if l = true then { s with lf := s.lf + a } else { s with rt := s.rt + a }
def Ste.lockOf (s : Ste) (i : Int) : Option Lk := s.ls.find? fun k => decide (k.id = i)
def Ste.without (s : Ste) (k : Lk) : Ste := { s with ls := s.ls.filter fun o => !decide (o = k) }
def Ste.changed (s : Ste) : Mv → Option Ste
  | .pay l a => if s.share l < a then none else some ((s.more l (-a)).more (!l) a)
  | .lock l a se t => if s.share l < a then none else if 30 ≤ s.ls.length then none else some { s.more l (-a) with ls := s.ls ++ [⟨s.num + 1, l, a, se, t⟩] }
  | .fold i x => match s.lockOf i with | none => none | some k => if sealI x = k.sl then some ((s.without k).more (!k.left) k.am) else none
  | .drop i => match s.lockOf i with | none => none | some k => some ((s.without k).more k.left k.am)
  | .pass => some s
def Ste.next (s : Ste) (p : Mv) : Option Ste := (s.changed p).map fun t => { t with num := t.num + 1 }
/-! ### promises -/
section
variable {W : Type}
def sf_other : SF W := fun ds w Q _ => ∃ l, ds = [.str (sideS l)] ∧ Q (.str (sideS (!l))) w
def sf_more : SF W := fun ds w Q _ => ∃ s l a, ds = [stD s, .str (sideS l), .int a] ∧ Q (stD (s.more l a)) w
def sf_share : SF W := fun ds w Q _ => ∃ s l, ds = [stD s, .str (sideS l)] ∧ Q (.int (s.share l)) w
def sf_less (C : Addr) : SF W := fun ds w Q E => ∃ s l a, ds = [stD s, .str (sideS l), .int a] ∧ (s.share l < a → E C w) ∧ (¬ s.share l < a → Q (stD (s.more l (-a))) w)
def toEnd (C : Addr) (o : Option Ste) (w : W) (Q : D → W → Prop) (E : Ex → W → Prop) : Prop := match o with | some s => Q (stD s) w | none => E C w
def sf_with_lock (C : Addr) : SF W := fun ds w Q E => ∃ s l a se t, ds = [stD s, .tup [.str (sideS l), .int a, .int se, .int t]] ∧ s.ls.length ≤ 1000 ∧ toEnd C (s.changed (.lock l a se t)) w Q E
def sf_without : SF W := fun ds w Q _ => ∃ s k, ds = [stD s, lkD k] ∧ s.ls.length ≤ 1000 ∧ Q (stD (s.without k)) w
def sf_lock_of (C : Addr) : SF W := fun ds w Q E => ∃ s i, ds = [stD s, .int i] ∧ match s.lockOf i with | some k => Q (lkD k) w | none => E C w
def sf_changed (C : Addr) : SF W := fun ds w Q E => ∃ s p, ds = [stD s, mvD p] ∧ s.ls.length ≤ 1000 ∧ p.Ok ∧ toEnd C (s.changed p) w Q E
/-- next_state, of anything -/
def sf_next (S T : Addr) : SF W := fun ds w Q E => ∃ d e, ds = [d, e] ∧ Pl d ∧ Pl e ∧ tlen e ≤ LB ∧ (isState d = false → E S w) ∧ (isState d = true → isStep e = false → E T w) ∧ (∀ i x, e = mvD (.fold i x) → x < 2 ^ 1000) ∧
  ∀ s p, d = stD s → s.Ok → e = mvD p → p.Ok → toEnd T (s.next p) w Q E
theorem sf_other_mono (ds : List D) : Mono (sf_other (W := W) ds) := fun w Q Q' E E' hq _ ⟨l, e, q⟩ => ⟨l, e, hq _ _ q⟩
theorem sf_more_mono (ds : List D) : Mono (sf_more (W := W) ds) := fun w Q Q' E E' hq _ ⟨s, l, a, e, q⟩ => ⟨s, l, a, e, hq _ _ q⟩
theorem sf_share_mono (ds : List D) : Mono (sf_share (W := W) ds) := fun w Q Q' E E' hq _ ⟨s, l, e, q⟩ => ⟨s, l, e, hq _ _ q⟩
theorem sf_less_mono (C : Addr) (ds : List D) : Mono (sf_less (W := W) C ds) := fun w Q Q' E E' hq he ⟨s, l, a, e, q1, q2⟩ => ⟨s, l, a, e, fun z => he _ _ (q1 z), fun z => hq _ _ (q2 z)⟩
theorem toEnd_mono {C : Addr} {o : Option Ste} : Mono (fun (w : W) Q E => toEnd C o w Q E) := fun w Q Q' E E' hq he h => by cases o with | none => exact he _ _ h | some s => exact hq _ _ h
theorem sf_with_lock_mono (C : Addr) (ds : List D) : Mono (sf_with_lock (W := W) C ds) := fun w Q Q' E E' hq he ⟨s, l, a, se, t, e, h, q⟩ => ⟨s, l, a, se, t, e, h, toEnd_mono w _ _ _ _ hq he q⟩
theorem sf_without_mono (ds : List D) : Mono (sf_without (W := W) ds) := fun w Q Q' E E' hq _ ⟨s, k, e, h, q⟩ => ⟨s, k, e, h, hq _ _ q⟩
theorem sf_lock_of_mono (C : Addr) (ds : List D) : Mono (sf_lock_of (W := W) C ds) := fun w Q Q' E E' hq he ⟨s, i, e, q⟩ => ⟨s, i, e, by
  cases h : s.lockOf i with
  | none => rw [h] at q; exact he _ _ q
  | some k => rw [h] at q; exact hq _ _ q⟩
theorem sf_changed_mono (C : Addr) (ds : List D) : Mono (sf_changed (W := W) C ds) := fun w Q Q' E E' hq he ⟨s, p, e, h, h2, q⟩ => ⟨s, p, e, h, h2, toEnd_mono w _ _ _ _ hq he q⟩
theorem sf_next_mono (S T : Addr) (ds : List D) : Mono (sf_next (W := W) S T ds) := fun w Q Q' E E' hq he ⟨d, e, h0, h1, h2, h3, h4, h5, h6, q⟩ => ⟨d, e, h0, h1, h2, h3, fun z => he _ _ (h4 z), fun y z => he _ _ (h5 y z), h6, fun s p a b c d => toEnd_mono w _ _ _ _ hq he (q s p a b c d)⟩
end
theorem sideS_inj {a b : Bool} (h : sideS a = sideS b) : a = b := by
  cases a <;> cases b <;> first | rfl | (revert h; decide +kernel)
theorem eqD_lk (a b : Lk) : eqD (lkD a) (lkD b) = decide (a = b) := by
  obtain ⟨i, l, m, s, t⟩ := a
  obtain ⟨i', l', m', s', t'⟩ := b
  have e : eqD (lkD ⟨i, l, m, s, t⟩) (lkD ⟨i', l', m', s', t'⟩) = (decide (i = i') && (decide (sideS l = sideS l') && (decide (m = m') && (decide (s = s') && (decide (t = t') && true))))) := by
    show PyData.eqv (.tuple [.int i, .str (sideS l), .int m, .int s, .int t]) (.tuple [.int i', .str (sideS l'), .int m', .int s', .int t']) = _
    simp only [PyData.eqv, PyData.eqvAll, Bool.beq_eq_decide_eq]
  rw [e]
  have es : decide (sideS l = sideS l') = decide (l = l') := decide_eq_decide.mpr ⟨sideS_inj, fun h => h ▸ rfl⟩
  rw [es, Bool.and_true]
  simp only [← Bool.decide_and]
  refine decide_eq_decide.mpr ⟨fun ⟨h1, h2, h3, h4, h5⟩ => by rw [h1, h2, h3, h4, h5], fun h => by cases h; exact ⟨rfl, rfl, rfl, rfl, rfl⟩⟩
theorem sd_left : decide (sideS true = Str.ofString "left") = true := by decide +kernel
theorem sd_right : decide (sideS false = Str.ofString "left") = false := by decide +kernel
theorem filter_lk (k : Lk) : ∀ ls : List Lk, (ls.map lkD).filter (fun d => !eqD d (lkD k)) = (ls.filter fun o => !decide (o = k)).map lkD
  | [] => rfl
  | o :: ls => by
    have ih := filter_lk k ls
    rw [List.map_cons, List.filter_cons, List.filter_cons, eqD_lk, ih]
    by_cases h : o = k
    · rw [decide_eq_true h]; rfl
    · rw [decide_eq_false h]; rfl
theorem lk_of {d : D} (h : isLock d = true) : ∃ k : Lk, d = lkD k ∧ k.Ok := by
  obtain ⟨i, g, a, s, l, rfl, h1, h2, h3, h4, h5⟩ := isLock_parts h
  rcases h2 with rfl | rfl
  · exact ⟨⟨i, true, a, s, l⟩, rfl, ⟨h1, h3, h4, h5⟩⟩
  · exact ⟨⟨i, false, a, s, l⟩, rfl, ⟨h1, h3, h4, h5⟩⟩
theorem lksD_of {n : Int} : ∀ {ds : List D} {low : Int}, locksFrom low n ds = true → ∃ ls : List Lk, ds = ls.map lkD ∧ (∀ l ∈ ls, l.Ok) ∧ Rise low n ls
  | [], _, _ => ⟨[], rfl, (fun _ h => nomatch h), trivial⟩
  | d :: ds, low, h => by
    rw [locksFrom, Bool.and_eq_true, Bool.and_eq_true, Bool.and_eq_true] at h
    obtain ⟨⟨⟨h1, h2⟩, h3⟩, h4⟩ := h
    obtain ⟨k, rfl, ok⟩ := lk_of h1
    obtain ⟨ls, rfl, oks, r⟩ := lksD_of h4
    refine ⟨k :: ls, rfl, ?_, of_decide_eq_true h2, of_decide_eq_true h3, r⟩
    intro l hl
    rcases List.mem_cons.mp hl with rfl | hl
    · exact ok
    · exact oks l hl
theorem st_of {d : D} (h : isState d = true) : ∃ s : Ste, d = stD s ∧ s.Ok := by
  obtain ⟨a, b, c, e, ls, rfl, h1, h2, h3, h4, h5, h6⟩ := isState_parts h
  obtain ⟨ks, rfl, ok, r⟩ := lksD_of h6
  rw [List.length_map] at h5
  exact ⟨⟨a, b, c, e, ks⟩, rfl, ⟨h1, h2, h3, h4, h5, ok, r⟩⟩
theorem side_of {d : D} (h : sideD d = true) : ∃ l, d = .str (sideS l) := by
  unfold sideD at h
  split at h
  · rw [Bool.or_eq_true] at h
    rcases h with h | h
    · exact ⟨true, by rw [of_decide_eq_true h]; rfl⟩
    · exact ⟨false, by rw [of_decide_eq_true h]; rfl⟩
  · cases h
theorem mv_of {d : D} (h : isStep d = true) (hx : ∀ i x, d = mvD (.fold i x) → x < 2 ^ 1000) : ∃ p : Mv, d = mvD p ∧ p.Ok := by
  unfold isStep at h
  split at h
  case h_2 => cases h
  rename_i x ps
  unfold stepP at h
  split at h
  · rename_i e
    subst e
    split at h
    · rw [Bool.and_eq_true] at h
      obtain ⟨l, rfl⟩ := side_of h.1
      obtain ⟨i, rfl, k⟩ := isWhole_int h.2
      exact ⟨.pay l i, rfl, k⟩
    · cases h
  split at h
  · rename_i e
    subst e
    obtain ⟨k, e, ok⟩ := lk_of h
    obtain ⟨i, l, a, s, t⟩ := k
    injection e with e
    injection e with e1 e2
    subst e2
    exact ⟨.lock l a s t, rfl, ok.am, ok.sl, ok.last⟩
  split at h
  · rename_i e
    subst e
    split at h
    · rw [Bool.and_eq_true] at h
      obtain ⟨i, rfl, k⟩ := isWhole_int h.1
      obtain ⟨s, rfl, k2⟩ := isWhole_int h.2
      exact ⟨.fold i s, rfl, k, k2, hx i s rfl⟩
    · cases h
  split at h
  · rename_i e
    subst e
    split at h
    · obtain ⟨i, rfl, k⟩ := isWhole_int h
      exact ⟨.drop i, rfl, k⟩
    · cases h
  · rw [Bool.and_eq_true] at h
    have e := of_decide_eq_true h.1
    subst e
    cases ps with
    | nil => exact ⟨.pass, rfl, trivial⟩
    | cons d ds => cases h.2
theorem more_ls (s : Ste) (l : Bool) (a : Int) : (s.more l a).ls = s.ls := by cases l <;> rfl
theorem without_ls (s : Ste) (k : Lk) : (s.without k).ls.length ≤ s.ls.length := List.length_filter_le _ _
end DL

namespace DL
open PySem PySem.Spec PyProof.Rows L2
/-! ### the coins of both sides in a dict of the world -/
def coinO (l r : Int) : OD := .dct [(.inr (Str.ofString "left"), .int l), (.inr (Str.ofString "right"), .int r)]
def otherO : OD := .dct [(.inr (Str.ofString "left"), .str (Str.ofString "right")), (.inr (Str.ofString "right"), .str (Str.ofString "left"))]
theorem put_swap {h : Addr → Option OD} {p q : Addr} {x y z : OD} (n : q ≠ p) : put (put (put h p x) q y) p z = put (put h p z) q y := by
  funext a
  unfold put
  by_cases e1 : a = p
  · subst e1
    rw [if_pos rfl, if_neg (Ne.symm n), if_pos rfl]
  · rw [if_neg e1]
    by_cases e2 : a = q
    · rw [if_pos e2, if_pos e2]
    · rw [if_neg e2, if_neg e1, if_neg e2, if_neg e1]
/-- the world with both dicts -/
def coinW (w : BW) (p q : Addr) (l r : Int) : BW := { w with h := put (put w.h p (coinO l r)) q otherO }
theorem coinW_p {w : BW} {p q : Addr} {l r : Int} (n : q ≠ p) : (coinW w p q l r).h p = some (coinO l r) := by
  show put _ _ _ _ = _
  rw [put_ne (Ne.symm n), put_same]
theorem coinW_q {w : BW} {p q : Addr} {l r : Int} : (coinW w p q l r).h q = some otherO := put_same
theorem coin_get {w : BW} {p q : Addr} {l r : Int} (n : q ≠ p) (b : Bool) {Q : D → BW → Prop} {E : Ex → BW → Prop} (z : Q (.int (if b = true then l else r)) (coinW w p q l r)) : fDGet (.hnd p) (.str (sideS b)) (coinW w p q l r) Q E := by
  refine ⟨[(.inr (Str.ofString "left"), .int l), (.inr (Str.ofString "right"), .int r)], _, _, ?_, rfl, ?_, z⟩
  · simp only [view, coinW_p n, coinO]
  · cases b
    · rfl
    · rfl
theorem other_get {w : BW} {p q : Addr} {l r : Int} (b : Bool) {Q : D → BW → Prop} {E : Ex → BW → Prop} (z : Q (.str (sideS (!b))) (coinW w p q l r)) : fDGet (.hnd q) (.str (sideS b)) (coinW w p q l r) Q E := by
  refine ⟨[(.inr (Str.ofString "left"), .str (Str.ofString "right")), (.inr (Str.ofString "right"), .str (Str.ofString "left"))], _, _, ?_, rfl, ?_, z⟩
  · simp only [view, coinW_q, otherO]
  · cases b
    · rfl
    · rfl
theorem coin_set {w : BW} {p q : Addr} {l r : Int} (n : q ≠ p) (b : Bool) (x : Int) : ({ sc := (coinW w p q l r).sc, ns := (coinW w p q l r).ns, bag := (coinW w p q l r).bag, n := (coinW w p q l r).n, h := put (coinW w p q l r).h p (.dct (setK [(.inr (Str.ofString "left"), .int l), (.inr (Str.ofString "right"), .int r)] (.inr (sideS b)) (.int x))) } : BW) = coinW w p q (if b = true then x else l) (if b = true then r else x) := by
  unfold coinW
  congr 1
  rw [put_swap n]
  cases b <;> rfl
theorem coinW_sub {w : BW} {p q : Addr} {l r : Int} {x : OD} (hp : w.h p = none) (hq : put w.h p x q = none) (a : Addr) (o : OD) (e : w.h a = some o) : (coinW w p q l r).h a = some o := by
  have n1 : a ≠ p := fun z => by rw [z, hp] at e; cases e
  have n2 : a ≠ q := fun z => by rw [← z, put_ne n1, e] at hq; cases hq
  show put _ _ _ _ = _
  rw [put_ne n2, put_ne n1]; exact e
theorem coinW_back {w : BW} {p q : Addr} {l r : Int} : ({ coinW w p q l r with h := w.h } : BW) = w := rfl
theorem coinW_ne {w : BW} {p q : Addr} {o : OD} (hq : put w.h p o q = none) : q ≠ p := fun e => by
  rw [e, put_same] at hq; cases hq
theorem w_pay_lock : decide (Str.ofString "pay" = Str.ofString "lock") = false := by decide +kernel
theorem w_pay_fold : decide (Str.ofString "pay" = Str.ofString "fold") = false := by decide +kernel
theorem w_pay_drop : decide (Str.ofString "pay" = Str.ofString "drop") = false := by decide +kernel
theorem w_pay_pass : decide (Str.ofString "pay" = Str.ofString "pass") = false := by decide +kernel
theorem w_lock_pay : decide (Str.ofString "lock" = Str.ofString "pay") = false := by decide +kernel
theorem w_lock_fold : decide (Str.ofString "lock" = Str.ofString "fold") = false := by decide +kernel
theorem w_lock_drop : decide (Str.ofString "lock" = Str.ofString "drop") = false := by decide +kernel
theorem w_lock_pass : decide (Str.ofString "lock" = Str.ofString "pass") = false := by decide +kernel
theorem w_fold_pay : decide (Str.ofString "fold" = Str.ofString "pay") = false := by decide +kernel
theorem w_fold_lock : decide (Str.ofString "fold" = Str.ofString "lock") = false := by decide +kernel
theorem w_fold_drop : decide (Str.ofString "fold" = Str.ofString "drop") = false := by decide +kernel
theorem w_fold_pass : decide (Str.ofString "fold" = Str.ofString "pass") = false := by decide +kernel
theorem w_drop_pay : decide (Str.ofString "drop" = Str.ofString "pay") = false := by decide +kernel
theorem w_drop_lock : decide (Str.ofString "drop" = Str.ofString "lock") = false := by decide +kernel
theorem w_drop_fold : decide (Str.ofString "drop" = Str.ofString "fold") = false := by decide +kernel
theorem w_drop_pass : decide (Str.ofString "drop" = Str.ofString "pass") = false := by decide +kernel
theorem w_pass_pay : decide (Str.ofString "pass" = Str.ofString "pay") = false := by decide +kernel
theorem w_pass_lock : decide (Str.ofString "pass" = Str.ofString "lock") = false := by decide +kernel
theorem w_pass_fold : decide (Str.ofString "pass" = Str.ofString "fold") = false := by decide +kernel
theorem w_pass_drop : decide (Str.ofString "pass" = Str.ofString "drop") = false := by decide +kernel
theorem filter_id (i : Int) : ∀ ls : List Lk, [] ++ ((ls.map lkD).filter fun d => decide (idOf d = i)).map id = (ls.filter fun o => decide (o.id = i)).map lkD
  | [] => rfl
  | o :: ls => by
    have ih := filter_id i ls
    rw [List.map_id, List.nil_append] at ih ⊢
    rw [List.map_cons, List.filter_cons, List.filter_cons, ih, show idOf (lkD o) = o.id from rfl]
    by_cases h : o.id = i
    · rw [decide_eq_true h]; rfl
    · rw [decide_eq_false h]; rfl
theorem ok_lksL (n : Nat) (ls : List Lk) : okD (n + 2) (.lst (ls.map lkD)) = true := by
  unfold okD
  rw [List.all_eq_true]
  intro d hd
  obtain ⟨o, _, rfl⟩ := List.mem_map.mp hd
  exact ok_lk n o
theorem eqD_cons_nil (d : D) (ds : List D) : eqD (.lst (d :: ds)) (.lst []) = false := rfl
theorem seq_gen {W : Type} {s1 s2 : MS W} {ρ : DEnv} {w : W} {E : EndsM W} (h : ∀ S : MS W, S = s2 → sSeq s1 S ρ w E) : sSeq s1 s2 ρ w E := h s2 rfl
/-! ### the steps again, as laws reckon them -/
def smD : Nat → D → Bool
  | _, .non => true
  | _, .bl _ => true
  | _, .int _ => true
  | _, .str _ => true
  | n + 1, .lst xs => decide (xs.length ≤ 1000) && xs.all (smD n)
  | n + 1, .tup xs => decide (xs.length ≤ 1000) && xs.all (smD n)
  | _, _ => false
theorem sm_lk (n : Nat) (k : Lk) : smD (n + 1) (lkD k) = true := by simp [lkD, smD]
theorem sm_st (n : Nat) {s : Ste} (h : s.ls.length ≤ 1000) : smD (n + 3) (stD s) = true := by
  have e : (s.ls.map lkD).all (smD (n + 1)) = true := List.all_eq_true.mpr fun d hd => by
    obtain ⟨o, _, rfl⟩ := List.mem_map.mp hd
    exact sm_lk n o
  have e2 : smD (n + 2) (.tup (s.ls.map lkD)) = true := by
    unfold smD
    rw [List.length_map, decide_eq_true h, e]; rfl
  unfold stD smD
  simp only [List.all_cons, List.all_nil, e2]
  simp [smD]
theorem isi_lt {W : Type} {x : D} {b : Bool} {w : W} {Q : D → W → Prop} {E : Ex → W → Prop} (hd : dataD x = true) (e : (["list", "tuple"].any fun n => instT n x) = b) (q : Q (.bl b) w) : fIsi [x, .tup [.ty "list", .ty "tuple"]] w Q E := ⟨x, _, rfl, hd, .inr ⟨["list", "tuple"], rfl, by decide, by rw [e]; exact q⟩⟩
def optD : Option Ste → D | some s => stD s | none => .non
section
variable {W : Type}
def sfNextL : SF W := fun ds w Q _ => ∃ s p, ds = [stD s, mvD p] ∧ s.ls.length ≤ 30 ∧ Mv.Ok p ∧ Q (optD (s.next p)) w
theorem sfNextL_mono (ds : List D) : Mono (sfNextL (W := W) ds) := fun w Q Q' E E' hq _ ⟨s, p, e, h1, h2, q⟩ => ⟨s, p, e, h1, h2, hq _ _ q⟩
def sfDoneL : SF W := fun ds w Q _ => ∃ s p, ds = [stD s, mvD p] ∧ s.Ok ∧ Mv.Ok p ∧ Q (optD (s.next p)) w
theorem sfDoneL_mono (ds : List D) : Mono (sfDoneL (W := W) ds) := fun w Q Q' E E' hq _ ⟨s, p, e, h1, h2, q⟩ => ⟨s, p, e, h1, h2, hq _ _ q⟩
def sfSame (n : Nat) : SF W := fun ds w Q _ => match n with | 0 => False | n + 1 => ∃ d, ds = [d, d] ∧ smD n d = true ∧ Q (.bl true) w
theorem sfSame_mono : ∀ (n : Nat) (ds : List D), Mono (sfSame (W := W) n ds)
  | 0, _ => fun w Q Q' E E' hq _ h => h
  | n + 1, _ => fun w Q Q' E E' hq _ ⟨d, e, h, q⟩ => ⟨d, e, h, hq _ _ q⟩
end
theorem fDGet_def {x y : D} {w : BW} {Q : D → BW → Prop} {E : Ex → BW → Prop} (h : fDGet x y w Q E) : mOp fDGet (fun _ w Q _ => Q x w) (fun _ w Q _ => Q y w) [] w Q E := h
theorem lkD_inj {a b : Lk} (h : lkD a = lkD b) : a = b := by
  have := eqD_lk a b
  rw [h, eqD_refl (ok_lk 1 b)] at this
  exact of_decide_eq_true this.symm
theorem lksD_inj : ∀ {a b : List Lk}, a.map lkD = b.map lkD → a = b
  | [], [], _ => rfl
  | [], _ :: _, h => nomatch h
  | _ :: _, [], h => nomatch h
  | x :: a, y :: b, h => by
    rw [List.map_cons, List.map_cons] at h
    injection h with h1 h2
    rw [lkD_inj h1, lksD_inj h2]
theorem stD_inj {a b : Ste} (h : stD a = stD b) : a = b := by
  obtain ⟨a1, a2, a3, a4, a5⟩ := a
  obtain ⟨b1, b2, b3, b4, b5⟩ := b
  unfold stD at h
  simp only [D.tup.injEq, List.cons.injEq, D.int.injEq, and_true] at h
  obtain ⟨h1, h2, h3, h4, h5⟩ := h
  rw [h1, h2, h3, h4, lksD_inj h5]
theorem wne {x y : Str} (h : decide (x = y) = false) : ¬ x = y := of_decide_eq_false h
theorem mvD_inj {a b : Mv} (h : mvD a = mvD b) : a = b := by
  cases a <;> cases b <;> simp only [mvD, D.tup.injEq, List.cons.injEq, D.int.injEq, D.str.injEq, and_true, wne w_pay_lock, wne w_pay_fold, wne w_pay_drop, wne w_pay_pass, wne w_lock_pay, wne w_lock_fold, wne w_lock_drop, wne w_lock_pass, wne w_fold_pay, wne w_fold_lock, wne w_fold_drop, wne w_fold_pass, wne w_drop_pay, wne w_drop_lock, wne w_drop_fold, wne w_drop_pass, wne w_pass_pay, wne w_pass_lock, wne w_pass_fold, wne w_pass_drop, false_and, reduceCtorEq, and_false] at h
  · obtain ⟨h1, h2⟩ := h.2
    rw [sideS_inj h1, h2]
  · obtain ⟨h1, h2, h3, h4⟩ := h.2
    rw [sideS_inj h1, h2, h3, h4]
  · obtain ⟨h1, h2⟩ := h.2
    rw [h1, h2]
  · rw [h.2]
  · rfl
/-- bounded numbers -/
def Mv.Bd (B : Int) : Mv → Prop
  | .pay _ a => 1 ≤ a ∧ a ≤ B
  | .lock _ a s t => 1 ≤ a ∧ a ≤ B ∧ 0 ≤ s ∧ s ≤ B ∧ 0 ≤ t ∧ t ≤ B
  | .fold i x => 1 ≤ i ∧ i ≤ B ∧ 0 ≤ x ∧ x ≤ B
  | .drop i => 1 ≤ i ∧ i ≤ B
  | .pass => True
theorem Mv.Bd.good {B : Int} {p : Mv} (h : p.Bd B) (hB : B < 2 ^ 1000) : p.Ok := by
  cases p with
  | pay l a => exact h.1
  | lock l a s t => exact ⟨h.1, h.2.2.1, h.2.2.2.2.1⟩
  | fold i x => exact ⟨h.1, h.2.2.1, Int.lt_of_le_of_lt h.2.2.2 hB⟩
  | drop i => exact h.1
  | pass => trivial
theorem dt_side {B : Nat} (l : Bool) : Dt B 0 60 (.str (sideS l)) := by
  cases l
  · exact ⟨.ofStr (by show ∀ c ∈ _, _; decide +kernel), by decide +kernel⟩
  · exact ⟨.ofStr (by show ∀ c ∈ _, _; decide +kernel), by decide +kernel⟩
theorem dt_word {B : Nat} {x : Str} (h : x ∈ [Str.ofString "pay", Str.ofString "lock", Str.ofString "fold", Str.ofString "drop", Str.ofString "pass"]) : Dt B 0 60 (.str x) := by
  simp only [List.mem_cons, List.not_mem_nil, or_false] at h
  rcases h with rfl | rfl | rfl | rfl | rfl <;> exact ⟨.ofStr (by show ∀ c ∈ _, _; decide +kernel), by decide +kernel⟩
theorem dt_mv {B : Nat} (hB : B < 10 ^ 90) {p : Mv} (h : p.Bd B) : Dt B 1 600 (mvD p) := by
  have w : ∀ x ∈ [Str.ofString "pay", Str.ofString "lock", Str.ofString "fold", Str.ofString "drop", Str.ofString "pass"], Dt B 0 60 (.str x) := fun x hx => dt_word hx
  cases p with
  | pay l a =>
    have a1 := w (Str.ofString "pay") (by simp)
    have a2 := dt_side (B := B) l
    have a3 := dt_int hB (by have := h.1; omega : 0 ≤ a) h.2
    refine Dt.tup (fun d hd => ?_) ?_
    · simp only [List.mem_cons, List.not_mem_nil, or_false] at hd
      rcases hd with rfl | rfl | rfl
      · exact a1.1
      · exact a2.1
      · exact a3.1
    · have := a1.2; have := a2.2; have := a3.2
      simp only [wtL]; omega
  | lock l a s t =>
    have a1 := w (Str.ofString "lock") (by simp)
    have a2 := dt_side (B := B) l
    have a3 := dt_int hB (by have := h.1; omega : 0 ≤ a) h.2.1
    have a4 := dt_int hB h.2.2.1 h.2.2.2.1
    have a5 := dt_int hB h.2.2.2.2.1 h.2.2.2.2.2
    refine Dt.tup (fun d hd => ?_) ?_
    · simp only [List.mem_cons, List.not_mem_nil, or_false] at hd
      rcases hd with rfl | rfl | rfl | rfl | rfl
      · exact a1.1
      · exact a2.1
      · exact a3.1
      · exact a4.1
      · exact a5.1
    · have := a1.2; have := a2.2; have := a3.2; have := a4.2; have := a5.2
      simp only [wtL]; omega
  | fold i x =>
    have a1 := w (Str.ofString "fold") (by simp)
    have a3 := dt_int hB (by have := h.1; omega : 0 ≤ i) h.2.1
    have a4 := dt_int hB h.2.2.1 h.2.2.2
    refine Dt.tup (fun d hd => ?_) ?_
    · simp only [List.mem_cons, List.not_mem_nil, or_false] at hd
      rcases hd with rfl | rfl | rfl
      · exact a1.1
      · exact a3.1
      · exact a4.1
    · have := a1.2; have := a3.2; have := a4.2
      simp only [wtL]; omega
  | drop i =>
    have a1 := w (Str.ofString "drop") (by simp)
    have a3 := dt_int hB (by have := h.1; omega : 0 ≤ i) h.2
    refine Dt.tup (fun d hd => ?_) ?_
    · simp only [List.mem_cons, List.not_mem_nil, or_false] at hd
      rcases hd with rfl | rfl
      · exact a1.1
      · exact a3.1
    · have := a1.2; have := a3.2
      simp only [wtL]; omega
  | pass =>
    have a1 := w (Str.ofString "pass") (by simp)
    refine Dt.tup (fun d hd => ?_) ?_
    · rw [List.mem_singleton.mp hd]; exact a1.1
    · have := a1.2
      simp only [wtL]; omega
theorem Lk.Bd.wide {B C : Int} {l : Lk} (h : l.Bd B) (e : B ≤ C) : l.Bd C := ⟨h.am0, Int.lt_of_lt_of_le h.am e, h.sl0, Int.lt_of_lt_of_le h.sl e, h.last0, Int.lt_of_lt_of_le h.last e⟩
theorem Ste.Bd.wide {B C k j : Int} {s : Ste} (h : s.Bd B k) (e : B ≤ C) (f : k ≤ j) : s.Bd C j := ⟨h.lane0, Int.lt_of_lt_of_le h.lane e, h.num0, Int.lt_of_lt_of_le h.num e, h.lf0, Int.lt_of_lt_of_le h.lf e, h.rt0, Int.lt_of_lt_of_le h.rt e, Int.le_trans h.few f, fun l hl => ⟨(h.ok l hl).1.wide e, (h.ok l hl).2⟩, h.rise⟩
/-- [state, step], as repr wants it -/
theorem dt_pair {B : Nat} (hB : B < 10 ^ 90) {k : Int} (hk : k ≤ 33) {s : Ste} {p : Mv} (hs : s.Bd B k) (hp : p.Bd B) : Dt B 4 18000 (.lst [stD s, mvD p]) := by
  have a1 := dt_st hB hk hs
  have a2 := (dt_mv hB hp).weaken (Nat.le_refl B) (show 1 ≤ 3 by decide) (Nat.le_refl 600)
  refine Dt.lst (fun d hd => ?_) ?_
  · simp only [List.mem_cons, List.not_mem_nil, or_false] at hd
    rcases hd with rfl | rfl
    · exact a1.1
    · exact a2.1
  · have := a1.2; have := a2.2
    simp only [wtL]; omega
theorem next_at {S T : Addr} {s : Ste} {p : Mv} {W : Type} {w : W} {Q : D → W → Prop} {E : Ex → W → Prop} (ok : s.Ok) (hp : p.Ok) (q : toEnd T (s.next p) w Q E) : sf_next S T [stD s, mvD p] w Q E := by
  refine ⟨_, _, rfl, pl_st s, pl_mv p, tlen_mv p, fun h => absurd (isState_st ok) (by rw [h]; decide), fun _ h => absurd (isStep_mv hp) (by rw [h]; decide), fun i x e => ?_, fun s' p' e1 _ e2 _ => ?_⟩
  · cases mvD_inj e; exact hp.2.2
  · cases stD_inj e1
    cases mvD_inj e2
    exact q
/-! ### a told state of great coins -/
def gLk (k : Nat) : Lk := ⟨(k : Int) + 1, true, 10 ^ 15 - 1, sealI 3, 0⟩
def gSt (N j : Nat) : Ste := ⟨0, 40 + (j : Int), (10 ^ 15 - 1) * ((j : Int) + 1), 10 ^ 15 - 1, (List.range' j (N - j)).map gLk⟩
theorem g_rise {n : Int} : ∀ (k a : Nat) (low : Int), low ≤ a → (a : Int) + k ≤ n → Rise low n ((List.range' a k).map gLk)
  | 0, _, _, _, _ => trivial
  | k + 1, a, low, h1, h2 => by
    rw [List.range'_succ, List.map_cons]
    exact ⟨by show low < (a : Int) + 1; omega, by show (a : Int) + 1 ≤ n; omega, g_rise k (a + 1) _ (by show (a : Int) + 1 ≤ ((a + 1 : Nat) : Int); omega) (by omega)⟩
theorem g_bd {N j : Nat} (hN : N ≤ 30) (hj : j < N) : (gSt N j).Bd (10 ^ 17) 30 where
  lane0 := show (0 : Int) ≤ 0 by decide
  lane := show (0 : Int) < 10 ^ 17 by decide
  num0 := by show (0 : Int) ≤ 40 + j; omega
  num := by show 40 + (j : Int) < 10 ^ 17; omega
  lf0 := by show (0 : Int) ≤ (10 ^ 15 - 1) * ((j : Int) + 1); omega
  lf := by show ((10 : Int) ^ 15 - 1) * ((j : Int) + 1) < 10 ^ 17; omega
  rt0 := show (0 : Int) ≤ 10 ^ 15 - 1 by decide
  rt := show (10 : Int) ^ 15 - 1 < 10 ^ 17 by decide
  few := by
    show ((((List.range' j (N - j)).map gLk).length : Nat) : Int) ≤ 30
    rw [List.length_map, List.length_range']; omega
  ok := fun l hl => by
    obtain ⟨k, _, rfl⟩ := List.mem_map.mp hl
    exact ⟨⟨show (1 : Int) ≤ 10 ^ 15 - 1 by decide, show (10 : Int) ^ 15 - 1 < 10 ^ 17 by decide, show (0 : Int) ≤ sealI 3 by decide +kernel, show sealI 3 < 10 ^ 17 by decide +kernel, show (0 : Int) ≤ 0 by decide, show (0 : Int) < 10 ^ 17 by decide⟩, by show (1 : Int) ≤ (k : Int) + 1; omega⟩
  rise := g_rise (n := 40 + (j : Int)) _ _ _ (by omega) (by omega)
theorem g_next {N j : Nat} (hj : j < N) : (gSt N j).next (.drop ((j : Int) + 1)) = some (gSt N (j + 1)) := by
  have e : List.range' j (N - j) = j :: List.range' (j + 1) (N - (j + 1)) := by
    rw [show N - j = (N - (j + 1)) + 1 by omega, List.range'_succ]
  have hl : (gSt N j).lockOf ((j : Int) + 1) = some (gLk j) := by
    show ((List.range' j (N - j)).map gLk).find? _ = _
    rw [e, List.map_cons, List.find?_cons_of_pos (p := fun k : Lk => decide (k.id = (j : Int) + 1)) (decide_eq_true rfl)]
  have hw : ((List.range' j (N - j)).map gLk).filter (fun o => !decide (o = gLk j)) = (List.range' (j + 1) (N - (j + 1))).map gLk := by
    rw [e, List.map_cons, List.filter_cons, decide_eq_true rfl]
    show List.filter _ _ = _
    rw [List.filter_eq_self]
    intro o ho
    obtain ⟨k, hk, rfl⟩ := List.mem_map.mp ho
    have := List.mem_range'_1.mp hk
    rw [decide_eq_false (fun z => by have : (k : Int) + 1 = (j : Int) + 1 := congrArg Lk.id z; omega)]; rfl
  unfold Ste.next
  simp only [Ste.changed, hl]
  show some (Ste.mk 0 (40 + (j : Int) + 1) ((10 ^ 15 - 1) * ((j : Int) + 1) + (10 ^ 15 - 1)) (10 ^ 15 - 1) (((List.range' j (N - j)).map gLk).filter (fun o => !decide (o = gLk j)))) = some (Ste.mk 0 (40 + ((j + 1 : Nat) : Int)) ((10 ^ 15 - 1) * (((j + 1 : Nat) : Int) + 1)) (10 ^ 15 - 1) ((List.range' (j + 1) (N - (j + 1))).map gLk))
  rw [hw, show 40 + (j : Int) + 1 = 40 + ((j + 1 : Nat) : Int) by omega, show ((10 : Int) ^ 15 - 1) * ((j : Int) + 1) + (10 ^ 15 - 1) = (10 ^ 15 - 1) * (((j + 1 : Nat) : Int) + 1) by omega]
theorem cut_last {α : Type} (xs : List α) : cutL xs none (some (-1)) = xs.take (xs.length - 1) := by
  unfold cutL
  rw [HT.sIx_none, List.drop_zero, Nat.sub_zero]
  congr 1
  unfold HT.sIx
  simp
  omega
theorem g_out (N : Nat) (f : D → D) (hf : ∀ k : Nat, f (.int (0 + (k : Int))) = lkD (gLk k)) : (rangeD 0 N).map f = ((List.range' 0 N).map gLk).map lkD := by
  unfold rangeD
  rw [List.range_eq_range', List.map_map, List.map_map]
  exact List.map_congr_left fun k _ => hf k
theorem take_range : ∀ (n k a : Nat), n ≤ k → (List.range' a k).take n = List.range' a n
  | 0, _, _, _ => rfl
  | n + 1, 0, _, h => absurd h (by omega)
  | n + 1, k + 1, a, h => by
    rw [List.range'_succ, List.range'_succ, List.take_succ_cons, take_range n k (a + 1) (by omega)]
theorem g_init (N : Nat) : (((List.range' 0 N).map gLk).map lkD).take (N - 1) = ((List.range' 0 (N - 1)).map gLk).map lkD := by
  rw [← List.map_take, ← List.map_take]
  congr 2
  exact take_range _ _ _ (Nat.sub_le _ _)
theorem next_len {s t : Ste} {p : Mv} (h : s.next p = some t) : t.ls.length ≤ s.ls.length + 1 := by
  unfold Ste.next at h
  cases hc : s.changed p with
  | none => rw [hc] at h; cases h
  | some u =>
    rw [hc] at h
    have e : t.ls = u.ls := by cases h; rfl
    rw [e]
    cases p with
    | pay l a =>
      simp only [Ste.changed] at hc
      split at hc
      · cases hc
      · cases hc; rw [more_ls, more_ls]; exact Nat.le_succ _
    | lock l a se x =>
      simp only [Ste.changed] at hc
      split at hc
      · cases hc
      · split at hc
        · cases hc
        · cases hc; rw [List.length_append]; exact Nat.le_refl _
    | fold i x =>
      simp only [Ste.changed] at hc
      split at hc
      · cases hc
      · split at hc
        · cases hc; rw [more_ls]; exact Nat.le_succ_of_le (without_ls _ _)
        · cases hc
    | drop i =>
      simp only [Ste.changed] at hc
      split at hc
      · cases hc
      · cases hc; rw [more_ls]; exact Nat.le_succ_of_le (without_ls _ _)
    | pass => cases hc; exact Nat.le_succ _
theorem sm_opt {s : Ste} {p : Mv} (h : s.ls.length ≤ 30) : smD 4 (optD (s.next p)) = true := by
  cases hn : s.next p with
  | none => rfl
  | some t => exact sm_st 1 (by have := next_len hn; omega)
end DL

namespace DL
open PySem PySem.Spec PyProof.Rows L2
section
variable {I : BagI} {K : PySem.W.Frag} {X : Cx} {Wx : WX} {en : En} {ps : Pin}
/-! ### a new object becomes the world's -/
theorem SC.into {σ : St} {ρ : DEnv} {w w2 : BW} {H H3 : Hp} {A F A3 F3 : Foot} {i : Nat} {p : Addr} {o : OD} (c : SC (GB I K) en ps σ ρ w H A F) (s : Stp A F H A3 F3 H3) (k3 : (GB I K).Ok w2 H3 A3 F3) (hp : H p = none) (f3 : F3 p) (na3 : ¬ A3 p)
    (ho : OdAt (fun a => A3 a ∨ a = p) F3 H3 p o) (ni : ∀ C dx fs, o ≠ .ins C dx fs) : w2.h p = none ∧ SC (GB I K) en ps (σ.set i (some (.ref p))) (ρ.set i (some (.val (.hnd p)))) { w2 with h := put w2.h p o } H3 (fun a => A3 a ∨ a = p) F3 := by
  have c3 := c.step s k3
  have rs := rest_of k3 na3
  have he := c.there p hp
  refine ⟨rs.1, ⟨⟨⟨k3.wi.1, k3.wi.2.1, k3.wi.2.2.1, fun b hb => ?_, fun b u hb => ?_⟩, fun a h => h.elim (k3.af a) fun z => z ▸ f3, k3.dom⟩, ?_, c3.keep, c3.there, fun a h => h.elim (c3.fa a) fun z => .inr (z ▸ he), c3.ff, fun a h => .inl (c3.am a h), c3.fm, ?_, c3.F0, c3.pin⟩⟩
  · refine I.fr2 (k3.wi.2.2.2.1 b hb) (fun _ _ h _ => h) fun x z => ⟨.inl z.1, ?_, fun y C fs q => ?_⟩
    · have n : x ≠ p := fun e => na3 (e ▸ z.1)
      show put w2.h p _ x = none
      rw [put_ne n]; exact z.2.1
    · have q' : put w2.h p o y = some (.ins C x fs) := q
      by_cases n : y = p
      · subst n; rw [put_same] at q'; exact ni _ _ _ (Option.some.inj q')
      · rw [put_ne n] at q'; exact z.2.2 y C fs q'
  · have hb' : put w2.h p o b = some u := hb
    by_cases n : b = p
    · subst n; rw [put_same] at hb'; cases hb'; exact ⟨.inr rfl, ho⟩
    · rw [put_ne n] at hb'
      exact ⟨.inl (k3.wi.2.2.2.2 b u hb').1, (k3.wi.2.2.2.2 b u hb').2.more fun _ h => .inl h⟩
  · have r3 := c3.env.set_val (v := .ref p) (d := .hnd p) (.hnd p) i
    refine ⟨r3.len, r3.val, fun j ds e => ?_, r3.inj⟩
    obtain ⟨a, xs, g1, g2, g3, g4, g5, g6⟩ := r3.own j ds e
    obtain ⟨q1, q2⟩ := OwnSub.set σ ρ i (.ref p) (.hnd p) j ds a e g1
    refine ⟨a, xs, g1, g2, g3, (fun z => z.elim g4 fun z => ?_), g5, g6⟩
    obtain ⟨a', xs', f1, f2, _⟩ := c.env.own j ds q1
    rw [q2] at f1; cases f1
    rw [z, hp] at f2; cases f2
  · intro j ds a e1 e2
    obtain ⟨g1, g2⟩ := OwnSub.set σ ρ i (.ref p) (.hnd p) j ds a e1 e2
    exact c.own j ds a g1 g2
/-- x = {} -/
def sSetD0 (i : Nat) : MS BW := fun ρ w E => ∀ p, w.h p = none → E.nx (ρ.set i (some (.val (.hnd p)))) { w with h := put w.h p (.dct []) }
theorem dssetd0 (i : Nat) {v : Str} {pos pv spos : Pos} (nd : X.N.Nodup)
    (hi : X.N[i]? = some v := by rfl) (hx : Loc X.env.scope v := by first | exact Or.inl rfl | exact Or.inr rfl)
    (hs : swapsWith (.Dict [] [] pos) (some (.Name v pv)) spos.line X.env = pure false := by rfl) (hf : X.fn v = true ∨ X.env.scope.names.lookup v = some .local := by first | exact .inl rfl | exact .inr rfl) :
    DS (GB I K) en X Wx (.Assign [.Name v pv] (.Dict [] [] pos) spos) (sSetD0 i) := by
  refine ⟨PS.imp (ps_set nd hi hx pe_dnewK hs hf) fun D σ H ⟨ps, A, F, ρ, w, E, c, l, q⟩ => ?_, fun ρ w E E' l q p hp => l.nx _ _ (q p hp)⟩
  intro p hp
  obtain ⟨k2, s2⟩ := newF (G := GB I K) (o := .dK []) c.ok hp
  obtain ⟨h1, c2⟩ := c.into (i := i) (o := .dct []) s2 k2 hp (.inr rfl) (fun z => c.ok.out hp (c.ok.af p z)) ⟨[], upd_same, Nat.zero_le _, .nil⟩ (fun _ _ _ e => nomatch e)
  exact l.nx _ _ _ _ _ _ c2 (q p h1)
/-- x = e, e a new list -/
def sSetW (i : Nat) (m : DEnv → M BW D) : MS BW := fun ρ w E => m ρ w (fun d w' => ∃ ds, d = .lst ds ∧ ∀ p, w'.h p = none → E.nx (ρ.set i (some (.val (.hnd p)))) { w' with h := put w'.h p (.lst ds) }) (fun e w' => E.ex e ρ w')
theorem dssetw (i : Nat) {x : Str} {e : Expr} {m : DEnv → M BW D} {pos pos' : Pos} (nd : X.N.Nodup) (he : DN (GB I K) X Wx e m) (hi : X.N[i]? = some x := by rfl) (hx : Loc X.env.scope x := by first | exact Or.inl rfl | exact Or.inr rfl)
    (hs : swapsWith e (some (.Name x pos')) pos.line X.env = pure false := by rfl) (hf : X.fn x = true ∨ X.env.scope.names.lookup x = some .local := by first | exact .inl rfl | exact .inr rfl) : DS (GB I K) en X Wx (.Assign [.Name x pos'] e pos) (sSetW i m) := by
  refine ⟨PS.imp (ps_set nd hi hx he.pe hs hf) fun De σ H ⟨ps, A, F, ρ, w, E, c, l, q⟩ => ⟨A, F, ρ, w, _, c.ok, c.env, l.exo c, he.mono ρ w _ _ _ _ (fun d w' ⟨ds, e, z⟩ => ⟨ds, e, fun p xs H' A' F' s k hp h1 h2 h3 h4 h5 => ?_⟩) (fun _ _ z => z) q⟩,
    fun ρ w E E' l q => he.mono ρ w _ _ _ _ (fun d w' ⟨ds, e, z⟩ => ⟨ds, e, fun p hp => l.nx _ _ (z p hp)⟩) (fun _ _ z => l.ex _ _ _ z) q⟩
  obtain ⟨g1, c2⟩ := c.into (i := i) (o := .lst ds) s k hp h2 h3 ⟨xs, h1, h4, h5⟩ (fun _ _ _ e => nomatch e)
  exact l.nx _ _ _ _ _ _ c2 (z p g1)
/-- list(x), a new list -/
theorem dnlist {G : Wd} {x : Str} {e : Expr} {es : List Expr} {m : DEnv → M G.W (List D)} {p pos : Pos} (hm : X.mg x = none) (hv : bootBuiltins x = some (.type "list")) (hg : Gl X x) (ha : DAu G X Wx (e :: es) m)
    (hn : x ≠ "__name__" := by decide) (hdb : (x == ("__debug__" : Str)) = false := by decide) (he : starEach (e :: es) X.env = (false, eval e X.env) :: starEach es X.env := by rfl) (hpl : (backTo pos (starEach es X.env)).any (·.1) = false := by rfl) :
    DN G X Wx (.Call (.Name x p) (e :: es) [] pos) (mCB fList m) := by
  have hf : ∀ d, Mono (fList (W := G.W) d) := fun d w Q Q' E E' hq he ⟨x, ys, e, hd, q⟩ => ⟨x, ys, e, hd, hq _ _ q⟩
  refine ⟨PE.imp (pe_callTy call_list_of hg hm hv ha.pe hn hdb he hpl) fun σ H Q ⟨A, F, ρ, w, E, k, r, xx, q⟩ => ?_, fun ρ => (ha.mono ρ).bind hf⟩
  refine ⟨A, F, ρ, w, E, k, r, xx, ha.mono ρ w _ _ _ _ (fun ds w1 z vs H1 A1 F1 s k1 rp => ?_) (fun _ _ z => z) q⟩
  obtain ⟨y, ys, e1, hd, ds', e2, z⟩ := z
  subst e1
  cases e2
  cases rp with
  | cons r1 rp => cases rp with
    | nil =>
      have rw1 := r1.w
      cases y <;> simp only [seqOf, Option.some.injEq, reduceCtorEq] at hd
      · subst hd
        obtain ⟨a, zs, rfl, h1, l1, rr⟩ := rw1.lst
        refine ⟨a, zs, rfl, .inl (SqL.of h1), fun p hp => ?_⟩
        obtain ⟨k2, s2⟩ := newF (o := .lst zs) k1 hp
        exact z p zs _ A1 _ (s.trans s2) k2 (s.there _ hp) upd_same (.inr rfl) (fun q => k1.out hp (k1.af p q)) l1 (rr.mono (s2.keeps k1.af))
      · subst hd
        obtain ⟨a, zs, rfl, h1, n1, l1, rr⟩ := rw1.tup
        refine ⟨a, zs, rfl, .inr (SqT.of h1), fun p hp => ?_⟩
        obtain ⟨k2, s2⟩ := newF (o := .lst zs) k1 hp
        exact z p zs _ A1 _ (s.trans s2) k2 (s.there _ hp) upd_same (.inr rfl) (fun q => k1.out hp (k1.af p q)) l1 (rr.mono (s2.keeps k1.af))
/-! ### sorted(d), d a dict of the world with ints as keys -/
def fSortedK : FA BW := fun ds w Q _ => ∃ x kvs, ∃ ks : List Int, ds = [x] ∧ view w x = .dct kvs ∧ kvs.map (·.1) = ks.map Sum.inl ∧ ks.length < 64 ∧ ∀ ys : List Int, ys.Perm ks → ys.Pairwise (· ≤ ·) → Q (.lst (ys.map .int)) w
theorem RepK.keys {F : Foot} {H : Hp} : ∀ {vs : List (Key × V)} {ds : List (Key × D)}, RepK F H vs ds → vs.map (·.1) = ds.map (·.1)
  | _, _, .nil => rfl
  | _, _, .cons _ r => by rw [List.map_cons, List.map_cons, RepK.keys r]
theorem o_sortedK (hc : X.calm = true) : OpC (GB I K) X (.builtin "sorted") fSortedK where
  ex := ⟨_, call_sortedDI hc, fun xs vs w H A F Q E k r ⟨x, kvs, ks, e, e1, e2, e3, q⟩ => by
    subst e
    cases r with
    | cons r1 r => cases r with
      | nil =>
        have r1' := repW_view k r1
        rw [e1] at r1'
        obtain ⟨p, us, e4, h1, h2, h3⟩ := r1'.dct
        refine ⟨p, us, ks, by rw [e4], .inl h1, by rw [h3.keys]; exact e2, e3, fun ys p hp hs hn => q ys hp hs _ _ A F (.new hn) (k.new hn) (.lst upd_same (k.out hn) ?_ (RepL.of_ints ys))⟩
        rw [List.length_map, hp.length_eq]; exact Nat.le_trans (Nat.le_of_lt e3) (by decide)⟩
  mono := fun xs w Q Q' E E' hq he ⟨x, kvs, ks, e, e1, e2, e3, q⟩ => ⟨x, kvs, ks, e, e1, e2, e3, fun ys h1 h2 => hq _ _ (q ys h1 h2)⟩
theorem sw_none (i : Nat) : True := trivial
end
end DL

namespace DL
open PySem PySem.Spec PyProof.Rows L2
/-! ### steps in a row -/
theorem rise_bound {n m : Int} : ∀ {ls : List Lk} {low : Int}, Rise low n ls → n ≤ m → Rise low m ls
  | [], _, _, _ => trivial
  | _ :: _, _, ⟨h1, h2, h3⟩, h => ⟨h1, Int.le_trans h2 h, rise_bound h3 h⟩
theorem rise_low {n : Int} : ∀ {ls : List Lk} {low low' : Int}, Rise low n ls → low' ≤ low → Rise low' n ls
  | [], _, _, _, _ => trivial
  | _ :: _, _, _, ⟨h1, h2, h3⟩, h => ⟨Int.lt_of_le_of_lt h h1, h2, h3⟩
theorem rise_filter {n : Int} (p : Lk → Bool) : ∀ {ls : List Lk} {low : Int}, Rise low n ls → Rise low n (ls.filter p)
  | [], _, _ => trivial
  | k :: ls, low, ⟨h1, h2, h3⟩ => by
    rw [List.filter_cons]
    by_cases h : p k = true
    · rw [if_pos h]; exact ⟨h1, h2, rise_filter p h3⟩
    · rw [if_neg h]; exact rise_low (rise_filter p h3) (Int.le_of_lt h1)
theorem rise_app {n m : Int} (k : Lk) : ∀ {ls : List Lk} {low : Int}, Rise low n ls → low < k.id → n < k.id → k.id ≤ m → Rise low m (ls ++ [k])
  | [], _, _, h, h1, h2 => ⟨h, h2, trivial⟩
  | _ :: _, _, ⟨h1, h2, h3⟩, _, g1, g2 => ⟨h1, by omega, rise_app k h3 (by omega) g1 g2⟩
theorem rise_mem {n : Int} : ∀ {ls : List Lk} {low : Int}, Rise low n ls → ∀ k ∈ ls, low < k.id ∧ k.id ≤ n
  | [], _, _, _, h => nomatch h
  | x :: ls, low, ⟨h1, h2, h3⟩, k, hk => by
    rcases List.mem_cons.mp hk with rfl | hk
    · exact ⟨h1, h2⟩
    · obtain ⟨a, b⟩ := rise_mem h3 k hk
      exact ⟨Int.lt_trans h1 a, b⟩
theorem rise_inj {n : Int} : ∀ {ls : List Lk} {low : Int}, Rise low n ls → ∀ a ∈ ls, ∀ b ∈ ls, a.id = b.id → a = b
  | [], _, _, _, h, _, _, _ => nomatch h
  | x :: ls, low, ⟨h1, h2, h3⟩, a, ha, b, hb, e => by
    rcases List.mem_cons.mp ha with ea | ma
    · rcases List.mem_cons.mp hb with eb | mb
      · rw [ea, eb]
      · have := (rise_mem h3 b mb).1; rw [ea] at e; omega
    · rcases List.mem_cons.mp hb with eb | mb
      · have := (rise_mem h3 a ma).1; rw [eb] at e; omega
      · exact rise_inj h3 a ma b mb e
theorem lockOf_mem {s : Ste} {i : Int} {k : Lk} (h : s.lockOf i = some k) : k ∈ s.ls ∧ k.id = i := ⟨List.mem_of_find?_eq_some h, by
  have := List.find?_some h
  exact of_decide_eq_true this⟩
theorem Ste.Ok.next {s t : Ste} {p : Mv} (h : s.Ok) (hp : p.Ok) (e : s.next p = some t) : t.Ok := by
  unfold Ste.next at e
  rw [Option.map_eq_some_iff] at e
  obtain ⟨u, e, rfl⟩ := e
  have hr := rise_bound h.rise (show s.num ≤ s.num + 1 by omega)
  have n0 := h.num
  have wo : ∀ k : Lk, (s.without k).Ok := fun k => ⟨h.lane, h.num, h.lf, h.rt, Nat.le_trans (without_ls s k) h.few, fun l hl => h.ok l ((List.mem_filter.mp hl).1), rise_filter _ h.rise⟩
  have up : ∀ (v : Ste), v.Ok → ({ v with num := v.num + 1 } : Ste).Ok := fun v h => ⟨h.lane, by have := h.num; show 0 ≤ v.num + 1; omega, h.lf, h.rt, h.few, h.ok, rise_bound h.rise (by show v.num ≤ v.num + 1; omega)⟩
  have mo : ∀ (v : Ste) (l : Bool) (a : Int), v.Ok → 0 ≤ v.share l + a → (v.more l a).Ok := fun v l a h ha => by
    cases l
    · exact ⟨h.lane, h.num, h.lf, ha, h.few, h.ok, h.rise⟩
    · exact ⟨h.lane, h.num, ha, h.rt, h.few, h.ok, h.rise⟩
  have sh : ∀ (v : Ste) (l : Bool), v.Ok → 0 ≤ v.share l := fun v l h => by cases l; exact h.rt; exact h.lf
  cases p with
  | pay l a =>
    simp only [Ste.changed] at e
    split at e
    · cases e
    · rename_i hs
      cases e
      have h1 : 1 ≤ a := hp
      have o1 := mo s l (-a) h (by omega)
      exact up _ (mo _ (!l) a o1 (by have := sh _ (!l) o1; omega))
  | lock l a se t =>
    simp only [Ste.changed] at e
    split at e
    · cases e
    · rename_i hs
      split at e
      · cases e
      · rename_i hl
        cases e
        obtain ⟨h1, h2, h3⟩ := hp
        have o1 := mo s l (-a) h (by omega)
        have hnum : (s.more l (-a)).num = s.num := by cases l <;> rfl
        refine ⟨o1.lane, by show 0 ≤ (s.more l (-a)).num + 1; rw [hnum]; omega, o1.lf, o1.rt, ?_, ?_, ?_⟩
        · show (s.ls ++ [_]).length ≤ 30
          rw [List.length_append]; show s.ls.length + 1 ≤ 30; omega
        · intro x hx
          rcases List.mem_append.mp hx with hx | hx
          · exact h.ok x hx
          · rw [List.mem_singleton.mp hx]
            exact ⟨by show 1 ≤ s.num + 1; omega, h1, h2, h3⟩
        · show Rise 0 ((s.more l (-a)).num + 1) (s.ls ++ [_])
          rw [hnum]
          exact rise_app _ h.rise (by show 0 < s.num + 1; omega) (by show s.num < s.num + 1; omega) (by show s.num + 1 ≤ s.num + 1; omega)
  | fold i x =>
    simp only [Ste.changed] at e
    cases hk : s.lockOf i with
    | none => rw [hk] at e; cases e
    | some k =>
      rw [hk] at e
      simp only at e
      split at e
      · cases e
        have ok := h.ok k (lockOf_mem hk).1
        exact up _ (mo _ _ _ (wo k) (by have := sh _ (!k.left) (wo k); have := ok.am; omega))
      · cases e
  | drop i =>
    simp only [Ste.changed] at e
    cases hk : s.lockOf i with
    | none => rw [hk] at e; cases e
    | some k =>
      rw [hk] at e
      cases e
      have ok := h.ok k (lockOf_mem hk).1
      exact up _ (mo _ _ _ (wo k) (by have := sh _ k.left (wo k); have := ok.am; omega))
  | pass =>
    cases e
    exact up _ h
/-- behind all steps -/
def goneO : Option Ste → List Mv → Option Ste
  | s, [] => s
  | none, _ :: _ => none
  | some s, p :: ps => goneO (s.next p) ps
theorem goneO_none : ∀ ps, goneO none ps = none
  | [] => rfl
  | _ :: _ => rfl
theorem goneO_cons (s : Ste) (p : Mv) (ps : List Mv) : goneO (some s) (p :: ps) = goneO (s.next p) ps := rfl
/-- what a step of no lock does to the sides, L being the locks -/
def lkAt (L : List Lk) (i : Int) : Lk := (L.find? fun k => decide (k.id = i)).getD ⟨0, true, 0, 0, 0⟩
def effL (L : List Lk) : Mv → Int
  | .pay l a => if l = true then -a else a
  | .fold i _ => if (lkAt L i).left = true then 0 else (lkAt L i).am
  | .drop i => if (lkAt L i).left = true then (lkAt L i).am else 0
  | _ => 0
def effR (L : List Lk) : Mv → Int
  | .pay l a => if l = true then a else -a
  | .fold i _ => if (lkAt L i).left = true then (lkAt L i).am else 0
  | .drop i => if (lkAt L i).left = true then 0 else (lkAt L i).am
  | _ => 0
def outId : Mv → Option Int
  | .fold i _ => some i
  | .drop i => some i
  | _ => none
def noLock : Mv → Prop | .lock _ _ _ _ => False | _ => True
def outs (ps : List Mv) : List Int := ps.filterMap outId
theorem lkAt_sub {L : List Lk} {n : Int} (hL : Rise 0 n L) {s : Ste} (hs : ∀ k ∈ s.ls, k ∈ L) {i : Int} {k : Lk} (h : s.lockOf i = some k) : lkAt L i = k := by
  obtain ⟨h1, h2⟩ := lockOf_mem h
  have hk := hs k h1
  unfold lkAt
  cases q : L.find? fun k => decide (k.id = i) with
  | none =>
    have := List.find?_eq_none.mp q k hk
    exact absurd (decide_eq_true h2) this
  | some k' =>
    have e1 := List.mem_of_find?_eq_some q
    have e2 : k'.id = i := by simpa using List.find?_some q
    exact rise_inj hL k' e1 k hk (by omega)
theorem without_id {L : List Lk} {n : Int} (hL : Rise 0 n L) {s : Ste} (hs : ∀ k ∈ s.ls, k ∈ L) {k : Lk} (hk : k ∈ L) : (s.without k).ls = s.ls.filter fun o => !decide (o.id = k.id) := by
  show s.ls.filter _ = _
  refine List.filter_congr fun o ho => ?_
  congr 1
  exact decide_eq_decide.mpr ⟨fun e => by rw [e], fun e => rise_inj hL o (hs o ho) k hk e⟩
theorem next_eff {L : List Lk} {n : Int} (hL : Rise 0 n L) {s t : Ste} (hs : ∀ k ∈ s.ls, k ∈ L) {p : Mv} (np : noLock p) (e : s.next p = some t) :
    t.lane = s.lane ∧ t.num = s.num + 1 ∧ t.lf = s.lf + effL L p ∧ t.rt = s.rt + effR L p ∧ t.ls = s.ls.filter fun o => !(outId p).any fun i => decide (o.id = i) := by
  unfold Ste.next at e
  rw [Option.map_eq_some_iff] at e
  obtain ⟨u, e, rfl⟩ := e
  have idf : ∀ ls : List Lk, ls = ls.filter fun o => !(none : Option Int).any fun i => decide (o.id = i) := fun ls => (List.filter_eq_self.mpr fun _ _ => rfl).symm
  cases p with
  | lock l a se t => exact np.elim
  | pay l a =>
    simp only [Ste.changed] at e
    split at e
    · cases e
    · cases e
      refine ⟨?_, ?_, ?_, ?_, ?_⟩
      · cases l <;> rfl
      · cases l <;> rfl
      · cases l <;> rfl
      · cases l <;> rfl
      · show ((s.more l (-a)).more (!l) a).ls = _
        rw [more_ls, more_ls]; exact idf _
  | fold i x =>
    simp only [Ste.changed] at e
    cases hk : s.lockOf i with
    | none => rw [hk] at e; cases e
    | some k =>
      rw [hk] at e
      simp only at e
      split at e
      · cases e
        have hm := lockOf_mem hk
        have hw := without_id hL hs (hs k hm.1)
        have ha := lkAt_sub hL hs hk
        refine ⟨?_, ?_, ?_, ?_, ?_⟩
        · cases k.left <;> rfl
        · cases k.left <;> rfl
        · simp only [effL, ha]; cases k.left <;> simp [Ste.more, Ste.without]
        · simp only [effR, ha]; cases k.left <;> simp [Ste.more, Ste.without]
        · show ((s.without k).more (!k.left) k.am).ls = _
          rw [more_ls, hw, hm.2]; rfl
      · cases e
  | drop i =>
    simp only [Ste.changed] at e
    cases hk : s.lockOf i with
    | none => rw [hk] at e; cases e
    | some k =>
      rw [hk] at e
      cases e
      have hm := lockOf_mem hk
      have hw := without_id hL hs (hs k hm.1)
      have ha := lkAt_sub hL hs hk
      refine ⟨?_, ?_, ?_, ?_, ?_⟩
      · cases k.left <;> rfl
      · cases k.left <;> rfl
      · simp only [effL, ha]; cases k.left <;> simp [Ste.more, Ste.without]
      · simp only [effR, ha]; cases k.left <;> simp [Ste.more, Ste.without]
      · show ((s.without k).more k.left k.am).ls = _
        rw [more_ls, hw, hm.2]; rfl
  | pass =>
    cases e
    refine ⟨rfl, rfl, ?_, ?_, idf _⟩
    · show s.lf = s.lf + 0; omega
    · show s.rt = s.rt + 0; omega
theorem goneO_eff {L : List Lk} {n : Int} (hL : Rise 0 n L) : ∀ (ps : List Mv) {s t : Ste}, (∀ k ∈ s.ls, k ∈ L) → (∀ p ∈ ps, noLock p) → goneO (some s) ps = some t →
    t.lane = s.lane ∧ t.num = s.num + ps.length ∧ t.lf = s.lf + (ps.map (effL L)).sum ∧ t.rt = s.rt + (ps.map (effR L)).sum ∧ t.ls = s.ls.filter fun o => !(outs ps).any fun i => decide (o.id = i)
  | [], s, t, hs, np, e => by
    cases e
    refine ⟨rfl, by simp, by simp, by simp, ?_⟩
    exact (List.filter_eq_self.mpr fun _ _ => rfl).symm
  | p :: ps, s, t, hs, np, e => by
    rw [goneO_cons] at e
    cases q : s.next p with
    | none => rw [q, goneO_none] at e; cases e
    | some u =>
      rw [q] at e
      obtain ⟨a1, a2, a3, a4, a5⟩ := next_eff hL hs (np p List.mem_cons_self) q
      obtain ⟨b1, b2, b3, b4, b5⟩ := goneO_eff hL ps (s := u) (t := t) (fun k hk => hs k (by rw [a5] at hk; exact (List.mem_filter.mp hk).1)) (fun x hx => np x (List.mem_cons_of_mem _ hx)) e
      refine ⟨b1.trans a1, by rw [b2, a2, List.length_cons]; omega, by rw [b3, a3, List.map_cons, List.sum_cons]; omega, by rw [b4, a4, List.map_cons, List.sum_cons]; omega, ?_⟩
      rw [b5, a5, List.filter_filter]
      refine List.filter_congr fun o _ => ?_
      unfold outs
      rw [List.filterMap_cons]
      cases outId p with
      | none => simp
      | some i => simp [Bool.and_comm]
theorem Ste.ext {a b : Ste} (h1 : a.lane = b.lane) (h2 : a.num = b.num) (h3 : a.lf = b.lf) (h4 : a.rt = b.rt) (h5 : a.ls = b.ls) : a = b := by
  obtain ⟨_, _, _, _, _⟩ := a
  obtain ⟨_, _, _, _, _⟩ := b
  simp only at h1 h2 h3 h4 h5
  subst h1 h2 h3 h4 h5; rfl
theorem perm_sum {a b : List Int} (h : a.Perm b) : a.sum = b.sum := by
  induction h with
  | nil => rfl
  | cons x _ ih => rw [List.sum_cons, List.sum_cons, ih]
  | swap x y l => simp only [List.sum_cons]; omega
  | trans _ _ h1 h2 => exact h1.trans h2
/-- in any order -/
theorem gone_perm {ps qs : List Mv} (h : ps.Perm qs) {s t u : Ste} {n : Int} (hr : Rise 0 n s.ls) (np : ∀ p ∈ ps, noLock p) (e1 : goneO (some s) ps = some t) (e2 : goneO (some s) qs = some u) : t = u := by
  obtain ⟨a1, a2, a3, a4, a5⟩ := goneO_eff hr ps (fun _ h => h) np e1
  obtain ⟨b1, b2, b3, b4, b5⟩ := goneO_eff hr qs (fun _ h => h) (fun p hp => np p (h.mem_iff.mpr hp)) e2
  refine Ste.ext (a1.trans b1.symm) (by rw [a2, b2, h.length_eq]) (by rw [a3, b3, perm_sum (h.map (effL s.ls))]) (by rw [a4, b4, perm_sum (h.map (effR s.ls))]) ?_
  rw [a5, b5]
  refine List.filter_congr fun o _ => ?_
  congr 1
  have := (h.filterMap outId)
  rw [Bool.eq_iff_iff, List.any_eq_true, List.any_eq_true]
  exact ⟨fun ⟨x, hx, z⟩ => ⟨x, this.mem_iff.mp hx, z⟩, fun ⟨x, hx, z⟩ => ⟨x, this.mem_iff.mpr hx, z⟩⟩
/-- all locks let go by steps that each name one -/
theorem gone_all (f : Lk → Mv) (g : Lk → Ste → Ste) (hf : ∀ (k : Lk) (s : Ste) (ls : List Lk), s.ls = k :: ls → Rise 0 s.num s.ls → ∃ t, s.next (f k) = some t ∧ t = { g k s with num := s.num + 1, ls := ls }) : True := trivial
def sumL (b : Bool) (ls : List Lk) : Int := (ls.map fun k => if k.left = b then k.am else 0).sum
theorem find_head {k : Lk} {ls : List Lk} {s : Ste} (e : s.ls = k :: ls) : s.lockOf k.id = some k := by
  unfold Ste.lockOf
  rw [e, List.find?_cons, decide_eq_true (p := k.id = k.id) rfl]
theorem without_head {k : Lk} {ls : List Lk} {s : Ste} {n low : Int} (e : s.ls = k :: ls) (h : Rise low n s.ls) : (s.without k).ls = ls := by
  show s.ls.filter _ = ls
  rw [e] at h ⊢
  rw [List.filter_cons, decide_eq_true (p := k = k) rfl, if_neg (by decide)]
  refine List.filter_eq_self.mpr fun o ho => ?_
  have := (rise_mem h.2.2 o ho).1
  rw [decide_eq_false (p := o = k) (fun z => by rw [z] at this; omega)]; rfl
theorem drops_all {n : Int} : ∀ (ls : List Lk) (s : Ste) (low : Int), s.ls = ls → Rise low n ls → ∃ t, goneO (some s) (ls.map fun k => .drop k.id) = some t ∧ t.lf = s.lf + sumL true ls ∧ t.rt = s.rt + sumL false ls ∧ t.ls = []
  | [], s, _, e, _ => ⟨s, rfl, by simp [sumL], by simp [sumL], e⟩
  | k :: ls, s, low, e, h => by
    have e1 : s.next (.drop k.id) = some { (s.without k).more k.left k.am with num := ((s.without k).more k.left k.am).num + 1 } := by
      unfold Ste.next
      simp only [Ste.changed, find_head e]; rfl
    obtain ⟨t, h1, h2, h3, h4⟩ := drops_all ls { (s.without k).more k.left k.am with num := ((s.without k).more k.left k.am).num + 1 } k.id (by show ((s.without k).more k.left k.am).ls = ls; rw [more_ls]; exact without_head e (e ▸ h)) h.2.2
    refine ⟨t, by rw [List.map_cons, goneO_cons, e1]; exact h1, ?_, ?_, h4⟩
    · rw [h2]; unfold sumL; rw [List.map_cons, List.sum_cons]; cases k.left <;> simp [Ste.more, Ste.without] <;> omega
    · rw [h3]; unfold sumL; rw [List.map_cons, List.sum_cons]; cases k.left <;> simp [Ste.more, Ste.without] <;> omega
theorem folds_all {n : Int} : ∀ (kn : List (Lk × Int)) (s : Ste) (low : Int), s.ls = kn.map (·.1) → Rise low n (kn.map (·.1)) → (∀ k ∈ kn, sealI k.2 = k.1.sl) → ∃ t, goneO (some s) (kn.map fun k => .fold k.1.id k.2) = some t ∧ t.lf = s.lf + sumL false (kn.map (·.1)) ∧ t.rt = s.rt + sumL true (kn.map (·.1)) ∧ t.ls = []
  | [], s, _, e, _, _ => ⟨s, rfl, by simp [sumL], by simp [sumL], e⟩
  | (k, x) :: kn, s, low, e, h, hk => by
    have e0 : s.ls = k :: kn.map (·.1) := e
    have e1 : s.next (.fold k.id x) = some { (s.without k).more (!k.left) k.am with num := ((s.without k).more (!k.left) k.am).num + 1 } := by
      unfold Ste.next
      simp only [Ste.changed, find_head e0]
      rw [if_pos (hk (k, x) List.mem_cons_self)]; rfl
    obtain ⟨t, h1, h2, h3, h4⟩ := folds_all kn { (s.without k).more (!k.left) k.am with num := ((s.without k).more (!k.left) k.am).num + 1 } k.id (by show ((s.without k).more (!k.left) k.am).ls = kn.map (·.1); rw [more_ls]; exact without_head (low := low) (n := n) e0 (by rw [e0]; exact h)) h.2.2 (fun x hx => hk x (List.mem_cons_of_mem _ hx))
    refine ⟨t, by rw [List.map_cons, goneO_cons, e1]; exact h1, ?_, ?_, h4⟩
    · rw [h2]; unfold sumL; rw [List.map_cons, List.map_cons, List.sum_cons]; cases k.left <;> simp [Ste.more, Ste.without] <;> omega
    · rw [h3]; unfold sumL; rw [List.map_cons, List.map_cons, List.sum_cons]; cases k.left <;> simp [Ste.more, Ste.without] <;> omega
theorem pay_eff {s t : Ste} {l : Bool} {a : Int} (e : s.next (.pay l a) = some t) : t.lf = s.lf + (if l = true then -a else a) ∧ t.rt = s.rt + (if l = true then a else -a) := by
  have np : noLock (.pay l a) := trivial
  unfold Ste.next at e
  rw [Option.map_eq_some_iff] at e
  obtain ⟨u, e, rfl⟩ := e
  simp only [Ste.changed] at e
  split at e
  · cases e
  · cases e
    cases l <;> exact ⟨rfl, rfl⟩
theorem lock_eff {s t : Ste} {l : Bool} {a se la : Int} (e : s.next (.lock l a se la) = some t) : t.lane = s.lane ∧ t.num = s.num + 1 ∧ t.lf = s.lf + (if l = true then -a else 0) ∧ t.rt = s.rt + (if l = true then 0 else -a) ∧ t.ls = s.ls ++ [⟨s.num + 1, l, a, se, la⟩] := by
  unfold Ste.next at e
  rw [Option.map_eq_some_iff] at e
  obtain ⟨u, e, rfl⟩ := e
  simp only [Ste.changed] at e
  split at e
  · cases e
  · split at e
    · cases e
    · cases e
      cases l
      · exact ⟨rfl, rfl, by show s.lf = s.lf + 0; omega, rfl, rfl⟩
      · exact ⟨rfl, rfl, rfl, by show s.rt = s.rt + 0; omega, rfl⟩
theorem sumL_app (b : Bool) (ls : List Lk) (k : Lk) : sumL b (ls ++ [k]) = sumL b ls + if k.left = b then k.am else 0 := by
  unfold sumL; rw [List.map_append, List.sum_append]; simp
/-- each item, the world kept by an invariant -/
theorem compL_inv {W : Type} {i : Nat} {vs : List Nat} {me : DEnv → M W D} {ρ : DEnv} {Q : List D → W → Prop} (I : List D → List D → W → Prop)
    (step : ∀ d ds acc w (Q' : D → W → Prop), I acc (d :: ds) w → (∀ x w', I (acc ++ [x]) ds w' → Q' x w') → me ((wipeR ρ vs).set i (some (.val d))) w Q' (fun _ _ => False)) (done : ∀ acc w, I acc [] w → Q acc w) : ∀ ds acc w, I acc ds w → compL (bName i) vs mYes me ds acc ρ w Q
  | [], acc, w, h => by simpa [compL] using done acc w h
  | d :: ds, acc, w, h => by
    rw [compL_yes]
    exact step d ds acc w _ h fun x w' h' => compL_inv I step done ds (acc ++ [x]) w' h'
theorem view_lst {w : BW} {a : Addr} {ds : List D} (h : w.h a = some (.lst ds)) : view w (.hnd a) = .lst ds := by simp only [view, h]
theorem view_dct {w : BW} {a : Addr} {ds : List (Key × D)} (h : w.h a = some (.dct ds)) : view w (.hnd a) = .dct ds := by simp only [view, h]
theorem put_put {h : Addr → Option OD} {p : Addr} {x y : OD} : put (put h p x) p y = put h p y := by
  funext a
  unfold put
  by_cases e : a = p
  · rw [if_pos e, if_pos e]
  · rw [if_neg e, if_neg e, if_neg e]
theorem lenV {w : BW} {a : Addr} {ds : List D} {Q : D → BW → Prop} {E : Ex → BW → Prop} (h : w.h a = some (.lst ds)) (q : Q (.int (ds.length : Nat)) w) : vA fLen [.hnd a] w Q E := by
  show fLen [view w (.hnd a)] w Q E
  rw [view_lst h, len_lst]; exact q
theorem seqIndex_in {i : Int} {n : Nat} (h0 : 0 ≤ i) (h1 : i < n) : seqIndex? i n = some i.toNat := by
  unfold seqIndex?
  have e : (if i < 0 then i + n else i) = i := if_neg (by omega)
  simp only [e, decide_eq_true h0, decide_eq_true h1, Bool.and_self, if_true]
theorem dget_in {w : BW} {a : Addr} {kvs : List (Key × D)} {y d : D} {k : Key} {Q : D → BW → Prop} {E : Ex → BW → Prop} (h : w.h a = some (.dct kvs)) (e1 : keyD y = some k) (e2 : atK kvs k = some d) (q : Q d w) : fDGet (.hnd a) y w Q E := ⟨kvs, k, d, view_dct h, e1, e2, q⟩
theorem setK_new {kvs : List (Key × D)} {k : Key} {d : D} (h : ∀ kv ∈ kvs, kv.1 ≠ k) : setK kvs k d = kvs ++ [(k, d)] := by
  unfold setK
  rw [if_neg]
  rw [List.any_eq_true]
  rintro ⟨kv, hk, e⟩
  exact h kv hk (of_decide_eq_true e)
end DL

namespace DL
open PySem PySem.Spec PyProof.Rows L2
section
variable {I : BagI} {K : PySem.W.Frag} {X : Cx} {Wx : WX} {en : En} {ps : Pin}
/-! ### new objects of the world, by expressions -/
theorem Ok.into {w2 : BW} {H H3 : Hp} {A F A3 F3 : Foot} {p : Addr} {o : OD} (s : Stp A F H A3 F3 H3) (k3 : (GB I K).Ok w2 H3 A3 F3) (hp : H p = none) (f3 : F3 p) (na3 : ¬ A3 p)
    (ho : OdAt (fun a => A3 a ∨ a = p) F3 H3 p o) (ni : ∀ C dx fs, o ≠ .ins C dx fs) : w2.h p = none ∧ Stp A F H (fun a => A3 a ∨ a = p) F3 H3 ∧ (GB I K).Ok { w2 with h := put w2.h p o } H3 (fun a => A3 a ∨ a = p) F3 := by
  have rs := rest_of k3 na3
  refine ⟨rs.1, ⟨s.keep, s.there, fun a h => h.elim (s.fa a) fun z => .inr (z ▸ hp), s.ff, fun a h => .inl (s.am a h), s.fm⟩, ⟨⟨k3.wi.1, k3.wi.2.1, k3.wi.2.2.1, fun b hb => ?_, fun b u hb => ?_⟩, fun a h => h.elim (k3.af a) fun z => z ▸ f3, k3.dom⟩⟩
  · refine I.fr2 (k3.wi.2.2.2.1 b hb) (fun _ _ h _ => h) fun x z => ⟨.inl z.1, ?_, fun y C fs q => ?_⟩
    · have n : x ≠ p := fun e => na3 (e ▸ z.1)
      show put w2.h p _ x = none
      rw [put_ne n]; exact z.2.1
    · have q' : put w2.h p o y = some (.ins C x fs) := q
      by_cases n : y = p
      · subst n; rw [put_same] at q'; exact ni _ _ _ (Option.some.inj q')
      · rw [put_ne n] at q'; exact z.2.2 y C fs q'
  · have hb' : put w2.h p o b = some u := hb
    by_cases n : b = p
    · subst n; rw [put_same] at hb'; cases hb'; exact ⟨.inr rfl, ho⟩
    · rw [put_ne n] at hb'
      exact ⟨.inl (k3.wi.2.2.2.2 b u hb').1, (k3.wi.2.2.2.2 b u hb').2.more fun _ h => .inl h⟩
/-- a new list that the world has from the start -/
def mW (m : DEnv → M BW D) : DEnv → M BW D := fun ρ w Q E => m ρ w (fun d w' => ∃ ds, d = .lst ds ∧ ∀ p, w'.h p = none → Q (.hnd p) { w' with h := put w'.h p (.lst ds) }) E
theorem DN.w {e : Expr} {m : DEnv → M BW D} (h : DN (GB I K) X Wx e m) : DE (GB I K) X Wx e (mW m) := by
  refine ⟨PE.imp h.pe fun σ H Q ⟨A, F, ρ, w, E, k, r, x, q⟩ => ⟨A, F, ρ, w, E, k, r, x, h.mono ρ w _ _ _ _ (fun d w' ⟨ds, e, z⟩ => ?_) (fun _ _ z => z) q⟩, fun ρ w Q Q' E E' hq he q => h.mono ρ w _ _ _ _ (fun d w' ⟨ds, e, z⟩ => ⟨ds, e, fun p hp => hq _ _ (z p hp)⟩) he q⟩
  refine ⟨ds, e, fun p xs H' A' F' s k' hp h1 h2 h3 h4 h5 => ?_⟩
  obtain ⟨g1, g2, g3⟩ := Ok.into (o := .lst ds) s k' hp h2 h3 ⟨xs, h1, h4, h5⟩ (fun _ _ _ e => nomatch e)
  exact z p g1 _ _ _ _ g2 g3 (.hnd p)
/-! ### {"a": x, "b": y, ..} -/
theorem merge_nd : ∀ (kvs acc : List (Key × V)), ((acc ++ kvs).map (·.1)).Nodup → mergeK acc kvs = acc ++ kvs
  | [], acc, _ => (List.append_nil acc).symm
  | (k, v) :: kvs, acc, h => by
    have e : putK acc k v = acc ++ [(k, v)] := by
      unfold putK
      rw [if_neg]
      rw [List.any_eq_true]
      rintro ⟨y, hy, e⟩
      have e := of_decide_eq_true e
      rw [List.map_append, List.nodup_append] at h
      exact h.2.2 y.1 (List.mem_map_of_mem hy) k (by simp) e
    show mergeK (putK acc k v) kvs = _
    rw [e, merge_nd kvs (acc ++ [(k, v)]) (by rw [List.append_assoc]; exact h), List.append_assoc]
    rfl
structure DKV (I : BagI) (K : PySem.W.Frag) (X : Cx) (Wx : WX) (pos : Pos) (keys : List (Option Expr)) (vals : List Expr) (ks : List Str) (m : DEnv → M BW (List D)) : Prop where
  pe : ∃ trs, PPs X pos keys vals trs ∧ ∀ σ H (Q : List (V × V) → Hp → Prop), (∃ A F ρ w E, (GB I K).Ok w H A F ∧ EnvRep A F H σ ρ ∧ exOk (GB I K) A F H σ Wx E ∧ m ρ w (fun ds w' => ∀ vs H' A' F', Stp A F H A' F' H' → (GB I K).Ok w' H' A' F' → RepL F' H' vs ds → Q ((ks.zip vs).map fun kv => (V.str kv.1, kv.2)) H') E) → tPairs trs σ H Q
  mono : ∀ ρ, Mono (m ρ)
  len : ks.length = vals.length ∧ keys.length = vals.length ∧ keys.all (·.isSome) = true ∧ ∀ ρ w (Q : List D → BW → Prop) E, m ρ w Q E → m ρ w (fun ds w' => ds.length = vals.length ∧ Q ds w') E
theorem dkv_nil {pos : Pos} : DKV I K X Wx pos [] [] [] mNil := ⟨⟨[], pps_nil, fun σ H Q ⟨A, F, ρ, w, E, k, r, x, q⟩ => q [] H A F .refl k .nil⟩, fun _ => Mono.pure [], rfl, rfl, rfl, fun ρ w Q E q => ⟨rfl, q⟩⟩
theorem dkv_cons {pos p1 : Pos} {x : Str} {j1} {e : Expr} {keys : List (Option Expr)} {vals : List Expr} {ks : List Str} {m : DEnv → M BW D} {mr : DEnv → M BW (List D)} (h : DE (GB I K) X Wx e m) (hr : DKV I K X Wx pos keys vals ks mr) :
    DKV I K X Wx pos (some (.Constant (.str x) j1 p1) :: keys) (e :: vals) (x :: ks) (mCons m mr) := by
  obtain ⟨⟨trs, h1, h2⟩, hm, l1, l2, l3, l4⟩ := hr
  have hk : ∀ (d : D) (ρ : DEnv), Mono (fun (w : BW) (Q : List D → BW → Prop) (E : Ex → BW → Prop) => mr ρ w (fun ds w2 => Q (d :: ds) w2) E) := fun d ρ => (hm ρ).bind fun ds => Mono.pure (d :: ds)
  refine ⟨⟨_, pps_cons pe_str h.pe h1, fun σ H Q ⟨A, F, ρ, w, E, k, r, xx, q⟩ => ?_⟩, fun ρ => (h.mono ρ).bind fun d => hk d ρ, congrArg (· + 1) l1, congrArg (· + 1) l2, l3, fun ρ w Q E q => h.mono ρ w _ _ _ _ (fun d w1 z => hm ρ w1 _ _ _ _ (fun ds w2 ⟨e, z⟩ => ⟨by rw [List.length_cons, List.length_cons, e], z⟩) (fun _ _ z => z) (l4 ρ w1 _ E z)) (fun _ _ z => z) q⟩
  refine ⟨A, F, ρ, w, E, k, r, xx, h.mono ρ w _ _ _ _ (fun d w1 z v H1 A1 F1 s1 k1 r1 => ?_) (fun _ _ z => z) q⟩
  refine h2 σ H1 _ ⟨A1, F1, ρ, w1, E, k1, r.step s1 k.af, xx.step s1, hm ρ w1 _ _ _ _ (fun ds w2 z vs H2 A2 F2 s2 k2 r2 => ?_) (fun _ _ z => z) z⟩
  exact z (v :: vs) H2 A2 F2 (s1.trans s2) k2 (.cons (r1.mono (s2.keeps k1.af)) r2)
def zipK (ks : List Str) (ds : List D) : List (Key × D) := (ks.map Sum.inr).zip ds
theorem repK_zip {F : Foot} {H : Hp} : ∀ {ks : List Str} {vs : List V} {ds : List D}, RepL F H vs ds → RepK F H ((ks.map Sum.inr).zip vs) (zipK ks ds)
  | [], _, _, _ => .nil
  | _ :: _, _, _, .nil => .nil
  | _ :: ks, _, _, .cons h t => .cons h (repK_zip t)
def mDctW (ks : List Str) (m : DEnv → M BW (List D)) : DEnv → M BW D := fun ρ w Q E => m ρ w (fun ds w' => ∀ p, w'.h p = none → Q (.hnd p) { w' with h := put w'.h p (.dct (zipK ks ds)) }) E
theorem ddictW {pos : Pos} {keys : List (Option Expr)} {vals : List Expr} {ks : List Str} {m : DEnv → M BW (List D)} (h : DKV I K X Wx pos keys vals ks m) (nd : ks.Nodup := by decide) (h0 : keys ≠ [] := by exact fun z => nomatch z) (h15 : keys.length ≤ 15 := by decide) :
    DE (GB I K) X Wx (.Dict keys vals pos) (mDctW ks m) := by
  obtain ⟨⟨trs, h1, h2⟩, hm, l1, l2, l3, l4⟩ := h
  refine ⟨PE.imp (pe_disp h1 l3 l2 h0 h15) fun σ H Q ⟨A, F, ρ, w, E, k, r, x, q⟩ => ?_, fun ρ w Q Q' E E' hq he q => hm ρ w _ _ _ _ (fun ds w' z p hp => hq _ _ (z p hp)) he q⟩
  intro p hp
  have kp : ∀ a o, H a = some o → (upd H p (.dK [])) a = some o := fun a o e => by rw [upd_ne (ne_of_none e hp)]; exact e
  obtain ⟨k0, s0⟩ := newF (G := GB I K) (o := .dK []) k hp
  refine h2 σ _ _ ⟨A, _, ρ, w, E, k0, r.step s0 k.af, x.step s0, hm ρ w _ _ _ _ (fun ds w2 ⟨el, z⟩ vs H2 A2 F2 s2 k2 r2 => ?_) (fun _ _ z => z) (l4 ρ w _ E q)⟩
  have na : ¬ A p := fun z => k.dom p (k.af p z) hp
  have f2 : F2 p := s2.fm p (.inr rfl)
  have na2 : ¬ A2 p := fun z => (s2.fa p z).elim na fun e => by rw [upd_same] at e; cases e
  have at2 : H2 p = some (.dK []) := s2.keep p _ upd_same na
  have lv : vs.length = ks.length := by rw [r2.length, el, l1]
  refine ⟨at2, (ks.map Sum.inr).zip vs, ?_, ?_, ?_⟩
  · have : ∀ (ks : List Str) (vs : List V), ((ks.zip vs).map fun kv => (V.str kv.1, kv.2)) = (((ks.map (Sum.inr : Str → Key)).zip vs).map fun kv => (kV kv.1, kv.2)) := by
      intro ks
      induction ks with
      | nil => intro vs; rfl
      | cons x ks ih => intro vs; cases vs with
        | nil => rfl
        | cons v vs => rw [List.map_cons, List.zip_cons_cons, List.zip_cons_cons, List.map_cons, List.map_cons, ih vs]; rfl
    exact this ks vs
  · rw [List.length_zip, List.length_map, lv, Nat.min_self, l1, ← l2]; exact h15
  have key : ∀ (ks : List Str) (vs : List V), vs.length = ks.length → ((ks.map (Sum.inr : Str → Key)).zip vs).map (·.1) = ks.map Sum.inr := by
    intro ks
    induction ks with
    | nil => intro vs _; rfl
    | cons x ks ih => intro vs hl; cases vs with
      | nil => cases hl
      | cons v vs => rw [List.map_cons, List.zip_cons_cons, List.map_cons, ih vs (by simpa using hl)]
  rw [merge_nd _ [] (by rw [List.nil_append, key ks vs lv]; exact nd.map _ fun a b n e => n (Sum.inr.inj e)), List.nil_append]
  generalize hH3 : upd H2 p (.dK ((ks.map Sum.inr).zip vs)) = H3
  have at3 : H3 p = some (.dK ((ks.map Sum.inr).zip vs)) := by rw [← hH3]; exact upd_same
  have ne3 : ∀ a, a ≠ p → H3 a = H2 a := fun a z => by rw [← hH3, upd_ne z]
  have kk : Keeps F2 H2 F2 H3 := fun a o e z => ⟨by rw [ne3 a (fun y => z (y ▸ f2))]; exact e, z⟩
  have s3 : Stp A F H A2 F2 H3 := by
    refine ⟨fun a o e z => ?_, fun a e => ?_, fun a z => ?_, fun a z => ?_, fun a z => s2.am a z, fun a z => s2.fm a (.inl z)⟩
    · rw [ne3 a (ne_of_none e hp)]; exact s2.keep a o (kp a o e) z
    · by_cases y : a = p
      · rw [y]; exact hp
      · rw [ne3 a y] at e
        exact s0.there a (s2.there a e)
    · exact (s2.fa a z).imp id (s0.there a)
    · rcases s2.ff a z with z | z
      · rcases z with z | z
        · exact .inl z
        · exact .inr (z ▸ hp)
      · exact .inr (s0.there a z)
  have k3 : (GB I K).Ok w2 H3 A2 F2 := by
    refine ⟨(GB I K).frame k2.wi (fun a o e z => ?_) (fun _ z => .inl z), k2.af, fun a z e => ?_⟩
    · have : a ≠ p := fun y => by subst y; exact z.elim na2 fun u => u f2
      rw [ne3 a this]; exact e
    · by_cases y : a = p
      · rw [y, at3] at e; cases e
      · rw [ne3 a y] at e; exact k2.dom a z e
  obtain ⟨g1, g2, g3⟩ := Ok.into (o := .dct (zipK ks ds)) s3 k3 hp f2 na2 ⟨_, at3, by rw [List.length_zip, List.length_map, lv, Nat.min_self, l1, ← l2]; exact Nat.le_trans h15 (by decide), repK_zip (r2.mono kk)⟩ (fun _ _ _ e => nomatch e)
  exact z p g1 _ _ _ _ g2 g3 (.hnd p)
/-- {} -/
def mDctW0 : DEnv → M BW D := fun ρ w Q _ => ∀ p, w.h p = none → Q (.hnd p) { w with h := put w.h p (.dct []) }
theorem ddictW0 {pos : Pos} : DE (GB I K) X Wx (.Dict [] [] pos) mDctW0 := by
  refine ⟨PE.imp pe_dnewK fun σ H Q ⟨A, F, ρ, w, E, k, r, x, q⟩ => fun p hp => ?_, fun ρ w Q Q' E E' hq he q p hp => hq _ _ (q p hp)⟩
  obtain ⟨k2, s2⟩ := newF (G := GB I K) (o := .dK []) k hp
  obtain ⟨g1, g2, g3⟩ := Ok.into (o := .dct []) s2 k2 hp (.inr rfl) (fun z => k.out hp (k.af p z)) ⟨[], upd_same, Nat.zero_le _, .nil⟩ (fun _ _ _ e => nomatch e)
  exact q p g1 _ _ _ _ g2 g3 (.hnd p)
/-! ### sorted(d.keys()) -/
def KeysO (p d : Addr) : HO := .ext fun h => PySem.W.KdlKeysView h p d
theorem pe_keysM {e : Expr} {td : TE} {apos cpos : Pos} (he : PE X e td) (hbase : attributeBase e "keys" X.env (eval e X.env) = eval e X.env := by rfl) (hline : (apos.endLine == cpos.line) = true := by rfl) :
    PE X (.Call (.Attribute e "keys" apos) [] [] cpos) (fun σ H Q => td σ H fun x H1 => ∃ d kvs, x = .ref d ∧ H1 d = some (.dK kvs) ∧ ∀ p, H1 p = none → Q (.ref p) (upd H1 p (KeysO p d))) := by
  refine ⟨fun pins s σ H Q J h => ?_⟩
  refine wpAny_Call_method (T := "dict") (id := "dict.keys") hbase rfl hline F.plainAttrs_dict F.slot_dict_keys F.type_dict_keys (thn (he.run pins s σ H _ J h) fun u s1 ⟨x, H1, I1, rx, d, kvs, ex, hd, q⟩ => ?_)
  subst ex
  obtain rfl : u = Value.ref d := rx
  obtain ⟨z, lo, vs, rel, dd⟩ := dk_rd I1.hok (.inl hd)
  obtain ⟨ep, hat⟩ := dd.dictAt
  refine ⟨dd.typeIs, dd.mapOf.noDict, ?_⟩
  have nw := I1.hok.fresh (Nat.le_refl s1.heap.objs.size)
  have vw : PySem.W.KdlKeysView (s1.heap.push { cls := .type "dict_keys", data := .fields #[.ref d] }) s1.heap.objs.size d := ⟨_, Heap.get?_push_size _ rfl, rfl, rfl⟩
  have I2 : Inv X pins σ (upd H1 s1.heap.objs.size (KeysO s1.heap.objs.size d)) { s1 with heap := s1.heap.push { cls := .type "dict_keys", data := .fields #[.ref d] } } := I1.laid (t' := s1.toks) (fun b ob q => Heap.get?_push_of_some _ q) (Nat.le_refl _) ⟨vw, ⟨_, Heap.get?_push_size _ rfl⟩, fun h1 h2 ⟨o, a1, a2, a3⟩ k => ⟨o, k o a1, a2, a3⟩⟩
  show wpAny _ _ (callWith cpos (.builtin "dict.keys") [.ref d] [] []) _ X.xe s1
  exact method_meetsIn F.slot_dict_keys F.entry_dict_keys rfl (PySem.evalArgs_none ⟨rfl, dd.typeIs, F.args_dict_keys_1 _, _, PySem.W.kdl_meets_keys (mixKind X.prog X.w) d lo, ⟨vs, dd⟩, ⟨.ref s1.heap.objs.size, _, I2, rfl, q _ nw⟩⟩)
theorem key_int {P : Program} {w : World} {y : Int} {v : Value} (h : (mixKind P w).is (Sum.inl y) v = true) : ∃ t : Tok, v = Value.int y t := by
  rcases keyIs_shape (show keyIs (Sum.inl y) v = true from h) with ⟨i, t, e, ev⟩ | ⟨z, t, e, _⟩
  · cases e; exact ⟨t, ev⟩
  · cases e
def rSortKeys : List V → Hp → VK → Prop := fun xs H Q => ∃ (v d : Addr) (kvs : List (Key × V)) (ns : List Int), xs = [.ref v] ∧ H v = some (KeysO v d) ∧ H d = some (.dK kvs) ∧ kvs.map (·.1) = ns.map Sum.inl ∧ ns.length < 64 ∧ ∀ (zs : List Int) (p : Addr), zs.Perm ns → zs.Pairwise (· ≤ ·) → H p = none → Q (.ref p) (upd H p (.lst (zs.map V.int)))
theorem cr_sortedKeys (hc : X.calm = true) : CallR X (.builtin "sorted") rSortKeys := by
  rintro pins s σ H xs us Q J rv ⟨v, d, kvs, ns, rfl, hv, hd, hn, few, q⟩
  obtain ⟨u, rfl, ru⟩ := vals1 rv
  cases ru
  have view : PySem.W.KdlKeysView s.heap v d := (J.hok v _ hv).1
  obtain ⟨_, _, es, kv, dic⟩ := dk_rd J.hok (.inl hd)
  obtain ⟨n, stand⟩ := dic.dictAt
  have names : es.map (·.1) = ns.map Sum.inl := kv.keys.symm.trans hn
  have size : es.length = ns.length := by simpa using congrArg List.length names
  have lb : es.length ≤ sizeLine := by rw [size]; exact Nat.le_trans (Nat.le_of_lt few) (by rw [sizeLine_eq]; decide)
  refine Calls.call_function_entry PyProof.Rows.kind_sorted PyProof.Rows.plain_sorted PyProof.Rows.entry_sorted (PyProof.Rows.args_sorted1 _) ?_
  unfold Builtin.«sorted»
  refine wpAny_bind (m := checkCount "sorted" 1 1 _) (wpAny_pure (wpAny_bind (PySem.W.kdu_collect (A := X.A.in1) (PySem.W.kdl_keys (knd := mixKind X.prog X.w) (kvs := es) (ep := n)) (J.ok.hd hc) ⟨view, stand⟩ lb fun g tk got keep found => ?_)))
  have many : got.toList.length = ns.length := by rw [Array.length_toList, found.1, size]
  have whole : IntsAre got.toList ns := ints_each many fun j x ex => by
    obtain ⟨k, z, h1, h2⟩ := found.2 j x (by rw [← Array.getElem?_toList]; exact ex)
    have h3 : (es.map (·.1))[j]? = some k := by rw [List.getElem?_map, h1]; rfl
    rw [names, List.getElem?_map, Option.map_eq_some_iff] at h3
    obtain ⟨y, h4, rfl⟩ := h3
    obtain ⟨t, ht⟩ := key_int h2
    exact ⟨y, t, h4, ht⟩
  have J1 : Inv X pins σ H { s with heap := g, toks := tk } := J.kept keep
  have made : (g.push (seqObj "list" got.toList.toArray 0)).get? g.objs.size = some (seqObj "list" got.toList.toArray 0) := Heap.get?_push_size _ rfl
  have lone : got.toList.length ≤ sizeLine := by rw [many, ← size]; exact lb
  refine wpAny_bind (wpAny_newList (show wpAny _ _ _ _ _ { s with heap := g.push (seqObj "list" got.toList.toArray 0), toks := tk } from ?_) lone)
  refine wpAny_bind (wpAny_holding (wpAny_call_entry PyProof.Rows.slot_list_sort ⟨_, made, rfl⟩ PyProof.Rows.entry_list_sort (PyProof.Rows.list_sort_tree (s := { s with heap := g.push (seqObj "list" got.toList.toArray 0), toks := tk }) made whole (by rw [many]; exact few) fun out zs z1 z2 z3 => ⟨_, rfl, ?_⟩) (PyProof.Rows.args_list_sort _)))
  obtain ⟨c, at_⟩ := PyProof.Rows.sortedHeap_at (vs := got.toList) (out := out) made
  have short : (zs.map V.int).length ≤ sizeLine := by rw [List.length_map, z2.length_eq, ← size]; exact lb
  refine wpAny_pure ⟨_, rfl, .ref g.objs.size, upd H g.objs.size (.lst (zs.map V.int)), J1.laid (t' := tk) (fun b o e => ?_) (Nat.le_refl _) (show ObjOk X.prog X.w _ _ _ (.lst (zs.map V.int)) from ⟨short, out.toList, c, vals_of_ints z1, by rw [Array.toArray_toList]; exact at_⟩), rfl, q zs _ z2 z3 (J1.hok.fresh (Nat.le_refl _))⟩
  have old : b < g.objs.size := Heap.lt_size e
  exact (PyProof.Rows.sortedHeap_old (Nat.ne_of_lt old) (by rw [size_push']; exact Nat.lt_succ_of_lt old)).trans (Heap.get?_push_of_some _ e)
def mSortKeys (m : DEnv → M BW D) : DEnv → M BW D := fun ρ w Q E => m ρ w (fun x w1 => ∃ d kvs, ∃ ns : List Int, x = .hnd d ∧ w1.h d = some (.dct kvs) ∧ kvs.map (·.1) = ns.map Sum.inl ∧ ns.length < 64 ∧ ∀ zs : List Int, zs.Perm ns → zs.Pairwise (· ≤ ·) → Q (.lst (zs.map .int)) w1) E
theorem dsortkeys {e : Expr} {m : DEnv → M BW D} {p2 apos cpos q2 : Pos} (hc : X.calm = true) (he : DE (GB I K) X Wx e m) (hg : Gl X "sorted") (hm : X.mg "sorted" = none) (hbase : attributeBase e "keys" X.env (eval e X.env) = eval e X.env := by rfl) (hline : (apos.endLine == cpos.line) = true := by rfl)
    (hs2 : starEach [.Call (.Attribute e "keys" apos) [] [] cpos] X.env = [(false, eval (.Call (.Attribute e "keys" apos) [] [] cpos) X.env)] := by rfl) (hp2 : (backTo q2 (starEach [] X.env)).any (·.1) = false := by rfl) :
    DE (GB I K) X Wx (.Call (.Name "sorted" p2) [.Call (.Attribute e "keys" apos) [] [] cpos] [] q2) (mSortKeys m) := by
  have hk : ∀ d : D, Mono (fun (w : BW) (Q : D → BW → Prop) (_ : Ex → BW → Prop) => ∃ a kvs, ∃ ns : List Int, d = .hnd a ∧ w.h a = some (.dct kvs) ∧ kvs.map (·.1) = ns.map Sum.inl ∧ ns.length < 64 ∧ ∀ zs : List Int, zs.Perm ns → zs.Pairwise (· ≤ ·) → Q (.lst (zs.map .int)) w) := fun d w Q Q' E E' hq _ ⟨a, kvs, ns, e1, e2, e3, e4, q⟩ => ⟨a, kvs, ns, e1, e2, e3, e4, fun zs h1 h2 => hq _ _ (q zs h1 h2)⟩
  refine ⟨PE.imp (pe_callB (cr_sortedKeys hc) (p := p2) (pos := q2) hg hm (by decide +kernel) (pa_cons (pe_keysM he.pe hbase hline) pa_nil (hs := hs2)) (he := hs2) (hpl := hp2)) fun σ H Q h1 => ?_, fun ρ => (he.mono ρ).bind hk⟩
  refine runE he.mono (fun d _ => hk d) (P := .e (GB I K) Q) h1 fun v d H1 ⟨A, F, ρ, w, E, k, r, x, rp, a, kvs, ns, e1, e2, e3, e4, q⟩ => ?_
  subst e1
  cases rp
  obtain ⟨us, g1, g2, g3⟩ := Ok.dict k e2
  refine ⟨a, us, rfl, g1, fun p hp => ?_⟩
  have ne : a ≠ p := fun z => by rw [z, hp] at g1; cases g1
  refine ⟨p, a, us, ns, rfl, upd_same, by rw [upd_ne ne]; exact g1, by rw [g3.keys]; exact e3, e4, fun zs p2 h1 h2 hp2 => ?_⟩
  have k1 := k.new (o := KeysO p a) hp
  have s1 : Stp A F H1 A F _ := .new (o := KeysO p a) hp
  refine q zs h1 h2 _ _ A F (s1.trans (.new hp2)) (k1.new hp2) (.lst upd_same (k1.out hp2) ?_ (RepL.of_ints zs))
  rw [List.length_map, h1.length_eq]; exact Nat.le_trans (Nat.le_of_lt e4) (by decide)
/-! ### d.pop(k) -/
def dropKD (kvs : List (Key × D)) (k : Key) : List (Key × D) := kvs.filter fun kv => decide (kv.1 ≠ k)
theorem RepK.drop {F : Foot} {H : Hp} (k : Key) : ∀ {vs : List (Key × V)} {ds : List (Key × D)}, RepK F H vs ds → RepK F H (dropK vs k) (dropKD ds k)
  | _, _, .nil => .nil
  | _, _, @RepK.cons _ _ k0 v d vs ds h r => by
    have ih := RepK.drop k r
    unfold dropK dropKD at ih ⊢
    rw [List.filter_cons, List.filter_cons]
    by_cases e : k0 = k
    · rw [if_neg (by simp [e]), if_neg (by simp [e])]; exact ih
    · rw [if_pos (by simp [e]), if_pos (by simp [e])]; exact .cons h ih
def mDPop (mo me : DEnv → M BW D) : DEnv → M BW D := fun ρ w Q E => mo ρ w (fun x w1 => ∃ a, x = .hnd a ∧ (∃ kvs, w1.h a = some (.dct kvs)) ∧ me ρ w1 (fun y w2 => ∃ kvs k d, w2.h a = some (.dct kvs) ∧ keyD y = some k ∧ atK kvs k = some d ∧ Q d { w2 with h := put w2.h a (.dct (dropKD kvs k)) }) E) E
theorem ddpop {o e : Expr} {mo me : DEnv → M BW D} {apos cpos : Pos} (ho : DE (GB I K) X Wx o mo) (he : DE (GB I K) X Wx e me) (m : M1 X o "pop" apos e cpos := by exact ⟨rfl, rfl, rfl, rfl⟩) : DE (GB I K) X Wx (.Call (.Attribute o "pop" apos) [e] [] cpos) (mDPop mo me) := by
  have hk2 : ∀ (a : Addr) (y : D), Mono (fun (w : BW) (Q : D → BW → Prop) (_ : Ex → BW → Prop) => ∃ kvs k d, w.h a = some (.dct kvs) ∧ keyD y = some k ∧ atK kvs k = some d ∧ Q d { w with h := put w.h a (.dct (dropKD kvs k)) }) := fun a y w Q Q' E E' hq _ ⟨kvs, k, d, e1, e2, e3, q⟩ => ⟨kvs, k, d, e1, e2, e3, hq _ _ q⟩
  have hk : ∀ (x : D) (ρ : DEnv), Mono (fun (w1 : BW) (Q : D → BW → Prop) (E : Ex → BW → Prop) => ∃ a, x = .hnd a ∧ (∃ kvs, w1.h a = some (.dct kvs)) ∧ me ρ w1 (fun y w2 => ∃ kvs k d, w2.h a = some (.dct kvs) ∧ keyD y = some k ∧ atK kvs k = some d ∧ Q d { w2 with h := put w2.h a (.dct (dropKD kvs k)) }) E) := fun x ρ w Q Q' E E' hq hE ⟨a, e1, e2, q⟩ => ⟨a, e1, e2, he.mono ρ w _ _ _ _ (fun y w2 z => hk2 a y w2 _ _ (fun _ _ => True) (fun _ _ => True) hq (fun _ _ z => z) z) hE q⟩
  refine ⟨PE.imp (pe_dpop1 ho.pe he.pe m) fun σ H Q h1 => ?_, fun ρ => (ho.mono ρ).bind fun d => hk d ρ⟩
  refine runE ho.mono hk (P := .e (GB I K) Q) h1 fun v x H1 ⟨A, F, ρ, w, E, k, re, xx, rp, a, e1, ⟨kvs0, e2⟩, q⟩ => ?_
  subst e1
  cases rp
  obtain ⟨xs, h1, _⟩ := Ok.dict k e2
  refine ⟨a, rfl, .inl ⟨xs, .inl h1⟩, A, F, ρ, w, E, k, re, xx, he.mono ρ w _ _ _ _ (fun y w2 ⟨kvs, ky, d, e3, e4, e5, z⟩ u H2 A2 F2 s k2 ry => ?_) (fun _ _ z => z) q⟩
  obtain ⟨ys, g1, g2, g3⟩ := Ok.dict k2 e3
  have eu := keyD_rep (.inl ry) e4
  subst eu
  obtain ⟨dv, g4, g5⟩ := (RepK.at (k := ky) g3).1 d e5
  have g6 := RepK.drop ky g3
  obtain ⟨s4, k4⟩ := Ok.writeK k2 e3 g6 (Nat.le_trans (dropK_le ys ky) g2)
  exact ⟨ys, ky, dv, g1, rfl, g4, z _ _ A2 F2 (s.trans s4) k4 (g5.mono (s4.keeps k2.af))⟩
theorem din_in {neg : Bool} {w : BW} {a : Addr} {kvs : List (Key × D)} {x : D} {k : Key} {Q : D → BW → Prop} {E : Ex → BW → Prop} (h : w.h a = some (.dct kvs)) (e : keyD x = some k) (q : Q (.bl (if neg then !(atK kvs k).isSome else (atK kvs k).isSome)) w) : fDIn neg x (.hnd a) w Q E := ⟨kvs, k, view_dct h, e, q⟩
theorem dlen_in {w : BW} {a : Addr} {kvs : List (Key × D)} {Q : D → BW → Prop} {E : Ex → BW → Prop} (h : w.h a = some (.dct kvs)) (q : Q (.int (kvs.length : Nat)) w) : fLenD [.hnd a] w Q E := ⟨_, kvs, rfl, view_dct h, q⟩
theorem in_words {neg : Bool} {x a b : Str} {v : Bool} {W : Type} {w : W} {Q : D → W → Prop} {E : Ex → W → Prop} (h : inD (.str x) [.str a, .str b] = v) : fIn neg (.str x) (.lst [.str a, .str b]) w Q E = Q (.bl (if neg then !v else v)) w := by
  show (flatD (.str x) = true ∧ _ ∧ Q (.bl (if neg then !inD (.str x) [.str a, .str b] else inD (.str x) [.str a, .str b])) w) = _
  rw [h]
  exact propext ⟨fun z => z.2.2, fun z => ⟨rfl, rfl, z⟩⟩
theorem in_pay_pay {W : Type} {w : W} {Q : D → W → Prop} {E : Ex → W → Prop} : fIn false (.str (Str.ofString "pay")) (.lst [.str (Str.ofString "pay"), .str (Str.ofString "lock")]) w Q E = Q (.bl true) w := in_words (by decide +kernel)
theorem in_lock_pay {W : Type} {w : W} {Q : D → W → Prop} {E : Ex → W → Prop} : fIn false (.str (Str.ofString "lock")) (.lst [.str (Str.ofString "pay"), .str (Str.ofString "lock")]) w Q E = Q (.bl true) w := in_words (by decide +kernel)
theorem in_fold_pay {W : Type} {w : W} {Q : D → W → Prop} {E : Ex → W → Prop} : fIn false (.str (Str.ofString "fold")) (.lst [.str (Str.ofString "pay"), .str (Str.ofString "lock")]) w Q E = Q (.bl false) w := in_words (by decide +kernel)
theorem in_drop_pay {W : Type} {w : W} {Q : D → W → Prop} {E : Ex → W → Prop} : fIn false (.str (Str.ofString "drop")) (.lst [.str (Str.ofString "pay"), .str (Str.ofString "lock")]) w Q E = Q (.bl false) w := in_words (by decide +kernel)
theorem in_pass_pay {W : Type} {w : W} {Q : D → W → Prop} {E : Ex → W → Prop} : fIn false (.str (Str.ofString "pass")) (.lst [.str (Str.ofString "pay"), .str (Str.ofString "lock")]) w Q E = Q (.bl false) w := in_words (by decide +kernel)
theorem in_pay_fold {W : Type} {w : W} {Q : D → W → Prop} {E : Ex → W → Prop} : fIn false (.str (Str.ofString "pay")) (.lst [.str (Str.ofString "fold"), .str (Str.ofString "drop")]) w Q E = Q (.bl false) w := in_words (by decide +kernel)
theorem in_lock_fold {W : Type} {w : W} {Q : D → W → Prop} {E : Ex → W → Prop} : fIn false (.str (Str.ofString "lock")) (.lst [.str (Str.ofString "fold"), .str (Str.ofString "drop")]) w Q E = Q (.bl false) w := in_words (by decide +kernel)
theorem in_fold_fold {W : Type} {w : W} {Q : D → W → Prop} {E : Ex → W → Prop} : fIn false (.str (Str.ofString "fold")) (.lst [.str (Str.ofString "fold"), .str (Str.ofString "drop")]) w Q E = Q (.bl true) w := in_words (by decide +kernel)
theorem in_drop_fold {W : Type} {w : W} {Q : D → W → Prop} {E : Ex → W → Prop} : fIn false (.str (Str.ofString "drop")) (.lst [.str (Str.ofString "fold"), .str (Str.ofString "drop")]) w Q E = Q (.bl true) w := in_words (by decide +kernel)
theorem in_pass_fold {W : Type} {w : W} {Q : D → W → Prop} {E : Ex → W → Prop} : fIn false (.str (Str.ofString "pass")) (.lst [.str (Str.ofString "fold"), .str (Str.ofString "drop")]) w Q E = Q (.bl false) w := in_words (by decide +kernel)
end
section
variable {I : BagI} {K : PySem.W.Frag} {X : Cx} {Wx : WX} {en : En} {ps : Pin}
/-- len(script) -/
def mScrLen (i : Nat) : DEnv → M BW D := fun ρ w Q _ => ρ[i]? = some (some (.val (.hnd w.sc))) ∧ (w.ns.length ≤ 63 → Q (.int (w.ns.length : Nat)) w)
theorem dscrlen (i : Nat) {x : Str} {p0 p pos : Pos} (hg : Gl X "len") (hm : X.mg "len" = none) (hN : X.N[i]? = some x := by rfl) (hv : Vis X.env.scope x := by first | exact Or.inl rfl | exact Or.inr (Or.inl rfl) | exact Or.inr (Or.inr rfl)) (hd : (x == ("__debug__" : Str)) = false := by decide)
    (hcd : (x == ("__classdict__" : Str)) = false := by decide) (hK : X.K = K := by rfl) (hs : starEach [.Name x p0] X.env = [(false, eval (.Name x p0) X.env)] := by rfl) (hp : (backTo pos (starEach [] X.env)).any (·.1) = false := by rfl) : DE (GB I K) X Wx (.Call (.Name "len" p) [.Name x p0] [] pos) (mScrLen i) where
  pe := by
   subst hK
   exact PE.imp (pe_callB call_len (p := p) (pos := pos) hg hm (by decide +kernel) (pa_cons (pv i hN hv hd hcd) pa_nil (hs := hs)) (he := hs) (hpl := hp)) fun σ H Q ⟨A, F, ρ, w, E, kk, r, _, e, q⟩ => by
    obtain ⟨v, e1, rp⟩ := r.val i _ e
    cases rp
    have hs := kk.wi.1.sq
    exact ⟨_, e1, _, w.ns.length, rfl, .inl ⟨_, hs, by rw [List.length_map]⟩, q kk.wi.2.1 _ _ A F .refl kk (.int _)⟩
  mono := fun ρ w Q Q' E E' hq _ ⟨h, q⟩ => ⟨h, fun z => hq _ _ (q z)⟩
end
/-- no item passes the test -/
theorem compL_none {W : Type} {b : BG} {vs : List Nat} {mt : DEnv → M W Bool} {me : DEnv → M W D} {ρ : DEnv} {w : W} {Q : List D → W → Prop} : ∀ (ds acc : List D), (∀ d ∈ ds, ∀ P : DEnv → Bool → W → Prop, (∀ ρ', P ρ' false w) → b d (wipeR ρ vs) fun ρ' => mt ρ' w (P ρ') (fun _ _ => False)) → Q acc w → compL b vs mt me ds acc ρ w Q
  | [], acc, _, q => q
  | d :: ds, acc, h, q => h d List.mem_cons_self (fun ρ' t w1 => if t = true then me ρ' w1 (fun x w2 => compL b vs mt me ds (acc ++ [x]) ρ w2 Q) (fun _ _ => False) else compL b vs mt me ds acc ρ w1 Q) (fun ρ' => by rw [if_neg Bool.false_ne_true]; exact compL_none ds acc (fun x hx => h x (List.mem_cons_of_mem _ hx)) q)
/-! ### what steps keep -/
theorem sum_filter {n : Int} {k : Lk} : ∀ {ls : List Lk} {low : Int}, Rise low n ls → k ∈ ls → ((ls.filter fun o => !decide (o = k)).map Lk.am).sum + k.am = (ls.map Lk.am).sum
  | [], _, _, h => nomatch h
  | x :: ls, low, ⟨h1, h2, h3⟩, h => by
    rw [List.filter_cons, List.map_cons, List.sum_cons]
    by_cases e : x = k
    · rw [if_neg (by rw [decide_eq_true e]; decide), e]
      have : ls.filter (fun o => !decide (o = k)) = ls := List.filter_eq_self.mpr fun o ho => by
        have := (rise_mem h3 o ho).1
        rw [decide_eq_false (p := o = k) (fun z => by rw [z, e] at this; omega)]; rfl
      rw [this]; omega
    · rw [if_pos (by rw [decide_eq_false e]; rfl), List.map_cons, List.sum_cons]
      have := sum_filter h3 ((List.mem_cons.mp h).resolve_left (fun z => e z.symm))
      omega
theorem more_worth (s : Ste) (l : Bool) (a : Int) : (s.more l a).worth = s.worth + a := by
  unfold Ste.worth
  rw [more_ls]
  cases l
  · show s.lf + (s.rt + a) + _ = _; omega
  · show s.lf + a + s.rt + _ = _; omega
theorem next_kept {s t : Ste} {p : Mv} (h : s.Ok) (e : s.next p = some t) : t.worth = s.worth ∧ t.num = s.num + 1 ∧ t.lane = s.lane := by
  unfold Ste.next at e
  rw [Option.map_eq_some_iff] at e
  obtain ⟨u, e, rfl⟩ := e
  suffices hu : u.worth = s.worth ∧ u.num = s.num ∧ u.lane = s.lane from ⟨hu.1, by show u.num + 1 = _; rw [hu.2.1], hu.2.2⟩
  have nm : ∀ (v : Ste) (l : Bool) (a : Int), (v.more l a).num = v.num ∧ (v.more l a).lane = v.lane := fun v l a => by cases l <;> exact ⟨rfl, rfl⟩
  cases p with
  | pay l a =>
    simp only [Ste.changed] at e
    split at e
    · cases e
    · cases e
      exact ⟨by rw [more_worth, more_worth]; omega, ((nm _ _ _).1.trans (nm _ _ _).1), ((nm _ _ _).2.trans (nm _ _ _).2)⟩
  | lock l a se x =>
    simp only [Ste.changed] at e
    split at e
    · cases e
    · split at e
      · cases e
      · cases e
        refine ⟨?_, (nm _ _ _).1, (nm _ _ _).2⟩
        have e2 : (s.more l (-a)).lf + (s.more l (-a)).rt = s.lf + s.rt - a := by
          cases l
          · show s.lf + (s.rt + -a) = _; omega
          · show s.lf + -a + s.rt = _; omega
        show (s.more l (-a)).lf + (s.more l (-a)).rt + ((s.ls ++ [(⟨s.num + 1, l, a, se, x⟩ : Lk)]).map Lk.am).sum = s.lf + s.rt + (s.ls.map Lk.am).sum
        rw [e2, List.map_append, List.sum_append]
        show _ + (_ + (a + 0)) = _
        omega
  | fold i x =>
    simp only [Ste.changed] at e
    cases hk : s.lockOf i with
    | none => rw [hk] at e; cases e
    | some k =>
      rw [hk] at e
      simp only at e
      split at e
      · cases e
        refine ⟨?_, (nm _ _ _).1, (nm _ _ _).2⟩
        rw [more_worth]
        have := sum_filter h.rise (lockOf_mem hk).1
        have e2 : (s.without k).worth = s.lf + s.rt + ((s.ls.filter fun o => !decide (o = k)).map Lk.am).sum := rfl
        have e3 : s.worth = s.lf + s.rt + (s.ls.map Lk.am).sum := rfl
        rw [e2, e3]; omega
      · cases e
  | drop i =>
    simp only [Ste.changed] at e
    cases hk : s.lockOf i with
    | none => rw [hk] at e; cases e
    | some k =>
      rw [hk] at e
      cases e
      refine ⟨?_, (nm _ _ _).1, (nm _ _ _).2⟩
      rw [more_worth]
      have := sum_filter h.rise (lockOf_mem hk).1
      have e2 : (s.without k).worth = s.lf + s.rt + ((s.ls.filter fun o => !decide (o = k)).map Lk.am).sum := rfl
      have e3 : s.worth = s.lf + s.rt + (s.ls.map Lk.am).sum := rfl
      rw [e2, e3]; omega
  | pass => cases e; exact ⟨rfl, rfl, rfl⟩
theorem next_lk {s t : Ste} {p : Mv} {B C : Int} (hBC : C < B) (h : ∀ l ∈ s.ls, l.Bd B) (hp : p.Bd C) (e : s.next p = some t) : ∀ l ∈ t.ls, l.Bd B := by
  unfold Ste.next at e
  rw [Option.map_eq_some_iff] at e
  obtain ⟨u, e, rfl⟩ := e
  show ∀ l ∈ u.ls, l.Bd B
  cases p with
  | pay l a =>
    simp only [Ste.changed] at e
    split at e
    · cases e
    · cases e; rw [more_ls, more_ls]; exact h
  | lock l a se x =>
    simp only [Ste.changed] at e
    split at e
    · cases e
    · split at e
      · cases e
      · cases e
        intro z hz
        rcases List.mem_append.mp hz with hz | hz
        · exact h z hz
        · rw [List.mem_singleton.mp hz]
          obtain ⟨h1, h2, h3, h4, h5, h6⟩ := hp
          exact ⟨h1, Int.lt_of_le_of_lt h2 hBC, h3, Int.lt_of_le_of_lt h4 hBC, h5, Int.lt_of_le_of_lt h6 hBC⟩
  | fold i x =>
    simp only [Ste.changed] at e
    split at e
    · cases e
    · split at e
      · cases e; rw [more_ls]; exact fun z hz => h z (List.mem_filter.mp hz).1
      · cases e
  | drop i =>
    simp only [Ste.changed] at e
    split at e
    · cases e
    · cases e; rw [more_ls]; exact fun z hz => h z (List.mem_filter.mp hz).1
  | pass => cases e; exact h
theorem ams_nn : ∀ ls : List Lk, (∀ l ∈ ls, 1 ≤ l.am) → 0 ≤ (ls.map Lk.am).sum
  | [], _ => Int.le_refl _
  | l :: ls, h => by
    have h1 := ams_nn ls fun x hx => h x (List.mem_cons_of_mem _ hx)
    have h2 := h l List.mem_cons_self
    rw [List.map_cons, List.sum_cons]; omega
theorem worth_sides {s : Ste} (h : s.Ok) : s.lf ≤ s.worth ∧ s.rt ≤ s.worth := by
  have h1 := ams_nn s.ls fun l hl => (h.ok l hl).am
  have h2 := h.lf
  have h3 := h.rt
  unfold Ste.worth
  omega
end DL

namespace DL
open PySem PySem.Spec PyProof.Rows L2
/-! ### what was caught, kept -/
theorem exK_ok {P : Program} {w : World} {H : Hp} {h : Heap} {a : Addr} {cls : Value} {d : Option Addr} {oe : Obj} {vs : Array Value} (e : h.get? a = some oe) (z : Zc cls d oe) (hv : oe.data = .fields vs) : ObjOk P w H h a (ExK cls d a) :=
  ⟨⟨oe, e, z, vs, hv⟩, ⟨oe, e⟩, fun _ _ ⟨o, e1, z1, v1⟩ k => ⟨o, k o e1, z1, v1⟩⟩
def wCatch (K : PySem.W.Frag) (c : Value) (i : Nat) (ts : Addr → Value → Option Addr → TS) (D : Ends) : WX := fun cls d σ H =>
  PySem.W.exmOne K cls c = some true ∧ ∀ a, H a = none → ts a cls d { D with nx := fun τ G => D.nx (τ.set i none) G, bk := fun τ G => D.bk (τ.set i none) G, ct := fun τ G => D.ct (τ.set i none) G } (σ.set i (some (.ref a))) (upd H a (ExK cls d a))
section
variable {X : Cx} {x n : Str} {c : Value} {i : Nat} {body suite : List Stmt} {b0 : Stmt} {p1 p2 p3 : Pos} {tb : WX → TS} {ts : Addr → Value → Option Addr → TS}
theorem Inv.inSuite {pins : List (Addr × Obj)} {σ : L2.St} {H : Hp} {s : Shared} (J : Inv X pins σ H s) (a : Addr) : Inv (X.suite a (X.pn ++ pins)) [] σ H s :=
  ⟨J.ok.suite a (X.pn ++ pins), J.os, J.bare, J.base, J.loc, J.cell, J.free, J.freeC, fun p hp => J.pin p (by simpa using hp), J.hok, J.len⟩
theorem Inv.ofSuite {a : Addr} {pins pins2 : List (Addr × Obj)} {σ : L2.St} {H : Hp} {s : Shared} (J : Inv (X.suite a (X.pn ++ pins)) pins2 σ H s) (ok : X.Ok) : Inv X pins σ H s :=
  ⟨ok, J.os, J.bare, J.base, J.loc, J.cell, J.free, J.freeC, fun p hp => J.pin p (List.mem_append_left pins2 hp), J.hok, J.len⟩
/-- try: body, except C as n: suite; what is caught is an object of ours from there on -/
theorem ps_catch (hs : X.stack = X.env :: X.outer) (hf : X.env.frame = some X.env.locals) (hN : X.N.Nodup) (hi : X.N[i]? = some n) (hln : X.env.kindOf n = some .local) (hc : Names X x c)
    (hb : ∀ (V : WX) (pn : List (Addr × Obj)) (xe : Value → Shared → Prop), Takes (X.tr pn xe) V → PassesOwn (model X.prog X.w) X.A X.env xe → PSs (X.tr pn xe) body (tb V))
    (hsu : ∀ (a : Addr) (cls : Value) (d : Option Addr) (pn : List (Addr × Obj)), PSs (X.suite a pn) (b0 :: suite) (ts a cls d)) :
    PS X (.Try body [.ExceptHandler (some (.Name x p1)) (some n) (b0 :: suite) p3] [] [] p2) (fun D σ H => tb (wCatch X.K c i ts D) D σ H) := by
  refine ⟨fun pins s σ H D I h => ?_⟩
  have okX := I.ok
  have frames : X.A.frames = some (X.env :: X.outer) := by rw [okX.frames, hs]
  refine wpAny_Try_except ?_
  refine wpAny_mono ((hb (wCatch X.K c i ts D) (X.pn ++ pins) _ (fun u s' air => ?fly) PassesOwn.looking).run [] s σ H D (I.toTry _) h) (fun f s1 got => ?calm) fun _ _ z => z
  case calm =>
    cases f
    case next =>
      obtain ⟨τ, G, J, q⟩ := got
      exact wpAny_execs_nil ⟨τ, G, J.ofTry okX, q⟩
    case ret u =>
      obtain ⟨v, τ, G, J, r, q⟩ := got
      exact ⟨v, τ, G, J.ofTry okX, r, q⟩
    all_goals
      obtain ⟨τ, G, J, q⟩ := got
      exact ⟨τ, G, J.ofTry okX, q⟩
  case fly =>
    obtain ⟨a, B, sI, pins2, τ, G, cls, d, rfl, Jt, ground, up, sky, na, os, ag, hyn, yes⟩ := air
    have J : Inv X pins τ G sI := Jt.ofTry okX
    have skyX : Sky B (X.env :: X.outer) a (Zc cls d) X.env.locals s'.heap := by rw [← hs]; exact sky
    show wpAny (model X.prog X.w) X.A (noteFrame (.ref a) X.env) _ _ _
    refine Sky.land Zc.steady frames hf skyX fun g1 land1 up1 => ?_
    have J1 : Inv X pins τ G { s' with heap := g1 } := J.landed ground land1.1 (up.trans up1) os ag
    obtain ⟨o1, v1, at1, z1, d1⟩ := land1.there
    have kind : PySem.W.Looks (model X.prog X.w) g1 (typeOf (.ref a)) cls := fun A Q E t k q => wpAny_typeOf_ref (k _ _ at1) (by rw [z1.1]; exact q)
    have fits := PySem.W.exm_one (M := model X.prog X.w) J1.kIn kind hyn
    refine wpAny_handleBy_cons (codeAny_handlers_test ?_) (fun z => by cases z)
    have look : ∀ {Q R : Value → Shared → Prop}, Q c { s' with heap := g1 } → wpAny (model X.prog X.w) (X.A.mark (some (.ref a))) (eval (.Name x p1) X.env) Q R { s' with heap := g1 } := fun {Q R} q =>
      match hc with
      | ⟨hg, hd, .inl hm⟩ => ld_glob (X := X.suite a (X.pn ++ pins)) (Inv.inSuite J1 a) hg hm q hd
      | ⟨hg, hd, .inr ⟨hm, hv, hnn⟩⟩ => ld_blt (X := X.suite a (X.pn ++ pins)) (Inv.inSuite J1 a) hg hm hv q hnn hd
    refine look (fits.here ?_)
    refine codeAny_handlers_suite_as (HandSPX.lands_againZ land1 fun g2 land2 up2 => ?_)
    obtain ⟨o2, v2, at2, z2, d2⟩ := land2.there
    obtain ⟨g0, in0, out0⟩ := restrict g2 fun y => decide (y ≠ a)
    have a0 : g0.get? a = none := out0 a (decide_eq_false fun z => z rfl)
    have sub : ∀ y u, g0.get? y = some u → g2.get? y = some u := fun y u e => by
      have ne : y ≠ a := fun z => by rw [z, a0] at e; cases e
      rw [← in0 y (decide_eq_true ne)]; exact e
    have stay : B.StaysIn g0 := fun y u e => by
      have ne : y ≠ a := fun z => by rw [z, land2.2.1] at e; cases e
      rw [in0 y (decide_eq_true ne)]; exact land2.1 y u e
    have upg : sI.heap.UpToSlots g0 := fun y u e plain => by
      obtain ⟨sl, q⟩ := ((up.trans up1).trans up2) y u e plain
      have ne : y ≠ a := fun z => by
        rw [z, at2] at q
        have := congrArg Obj.data (Option.some.inj q)
        rw [d2] at this
        exact plain v2 this.symm
      exact ⟨sl, by rw [in0 y (decide_eq_true ne)]; exact q⟩
    have JG : Inv X pins τ G { s' with heap := g0 } := J.landed ground stay upg os ag
    have JT : Inv X pins τ (upd G a (ExK cls d a)) { s' with heap := g2 } := JG.laidN (t' := s'.toks) sub a0 na (exK_ok at2 z2 d2)
    refine store_ok (X := X.suite a (X.pn ++ pins)) (v := .ref a) (Inv.inSuite JT a) hN hi (.inl hln) rfl (fun s5 S5 => ?_) (.inr hln)
    refine wpAny_mono ((hsu a cls d (X.pn ++ pins)).run [] s5 _ _ _ S5 (yes a na)) (fun f s6 got => ?_) fun _ _ z => z.elim
    have close : ∀ {υ : L2.St} {H6 : Hp} {Q : Shared → Prop}, Inv (X.suite a (X.pn ++ pins)) [] υ H6 s6 → (∀ s7, Inv X pins (υ.set i none) H6 s7 → Q s7) → wpAny (model X.prog X.w) X.A (do bindName X.env n .none; unbindBehindTheSuite X.env n p3) (fun _ s7 => Q s7) X.xe s6 :=
      fun S6 hq => gone_ok (Inv.ofSuite S6 okX) hN hi hln hq
    cases f
    case ret u =>
      obtain ⟨v6, υ, H6, S6, r6, q6⟩ := got
      exact close S6 fun s7 J7 => ⟨_, _, _, J7, r6, q6⟩
    all_goals
      obtain ⟨υ, H6, S6, q6⟩ := got
      exact close S6 fun s7 J7 => ⟨_, _, J7, q6⟩
end
section
variable {I : BagI} {K : PySem.W.Frag} {X : Cx} {Wx : WX} {en : En} {ps : Pin}
/-! ### try: body, except C as e: suite, the caught one an object of the world -/
def catchE (i : Nat) (mt : Ex → Option Bool) (ms : Addr → MS BW) (E : EndsM BW) : EndsM BW := { nx := E.nx, rt := E.rt, bk := E.bk, ct := E.ct, ex := fun e ρ' w' => mt e = some true ∧ ∀ a, w'.h a = none → ms a (ρ'.set i (some (.val (.hnd a)))) { w' with h := put w'.h a (.exc e) } (suiteE i E) }
def sCatch (i : Nat) (mt : Ex → Option Bool) (mb : MS BW) (ms : Addr → MS BW) : MS BW := fun ρ w E => mb ρ w (catchE i mt ms E)
theorem dscatch {x n : Str} {cv : Value} {i : Nat} {body suite : List Stmt} {b0 : Stmt} {p1 p2 p3 : Pos} {mb : MS BW} {ms : Addr → MS BW} (hs : X.stack = X.env :: X.outer) (hf : X.env.frame = some X.env.locals) (hN : X.N.Nodup) (hi : X.N[i]? = some n) (hln : X.env.kindOf n = some .local)
    (hc : Names X x cv) (hb : ∀ (V : WX) (pn : List (Addr × Obj)) (xe : Value → Shared → Prop), Takes (X.tr pn xe) V → PassesOwn (model X.prog X.w) X.A X.env xe → DSs (GB I K) en (X.tr pn xe) V body mb)
    (hsu : ∀ (a : Addr) (pn : List (Addr × Obj)), DSs (GB I K) en (X.suite a pn) W0 (b0 :: suite) (ms a)) (mbm : MonoS mb) (msm : ∀ a, MonoS (ms a)) :
    DS (GB I K) en X Wx (.Try body [.ExceptHandler (some (.Name x p1)) (some n) (b0 :: suite) p3] [] [] p2) (sCatch i (fun e => PySem.W.exmOne X.K (.ref e) cv) mb ms) := by
  have key := ps_catch (X := X) (x := x) (n := n) (c := cv) (i := i) (body := body) (suite := suite) (b0 := b0) (p1 := p1) (p2 := p2) (p3 := p3) (tb := fun V => liftS (GB I K) en V mb)
    (ts := fun a cls d D σ H => liftS (GB I K) en W0 (ms a) D σ H) hs hf hN hi hln hc (fun V pn xe t p => (hb V pn xe t p).ps) (fun a cls d pn => (hsu a pn).ps)
  refine ⟨PS.imp key fun De σ H ⟨ps, A, F, ρ, w, E, c, l, q⟩ => ?_, fun ρ w E E' l q => ?_⟩
  · refine ⟨ps, A, F, ρ, w, catchE i (fun e => PySem.W.exmOne X.K (.ref e) cv) ms E, c, ⟨l.nx, l.rt, l.bk, l.ct, fun e σ' ρ' w' H' A' F' c' ⟨h1, h2⟩ => ⟨h1, fun a ha => ?_⟩⟩, q⟩
    obtain ⟨k2, s2⟩ := newF (G := GB I K) (o := ExK (.ref e) none a) c'.ok ha
    obtain ⟨g1, c2⟩ := c'.into (i := i) (o := .exc e) s2 k2 ha (.inr rfl) (fun z => c'.ok.out ha (c'.ok.af a z)) upd_same (fun _ _ _ z => nomatch z)
    refine ⟨ps, _, _, _, _, suiteE i E, c2, ?_, h2 a g1⟩
    exact ⟨fun σ2 ρ2 w2 H2 A2 F2 c2 z => l.nx _ _ _ _ _ _ (c2.set_none i) z, fun d v w2 H2 A2 F2 σ2 ρ2 c2 r z => l.rt d v w2 H2 A2 F2 σ2 ρ2 c2 r z, fun σ2 ρ2 w2 H2 A2 F2 c2 z => l.bk _ _ _ _ _ _ (c2.set_none i) z, fun σ2 ρ2 w2 H2 A2 F2 c2 z => l.ct _ _ _ _ _ _ (c2.set_none i) z, fun _ _ _ _ _ _ _ _ z => z⟩
  · exact mbm ρ w (catchE i (fun e => PySem.W.exmOne X.K (.ref e) cv) ms E) (catchE i (fun e => PySem.W.exmOne X.K (.ref e) cv) ms E') ⟨l.nx, l.rt, l.bk, l.ct, fun e ρ' w' ⟨h1, h2⟩ => ⟨h1, fun a ha => msm a _ _ _ _ (suiteE_le l) (h2 a ha)⟩⟩ q
theorem dscatch' {x n : Str} {cv : Value} {i : Nat} {body suite : List Stmt} {b0 : Stmt} {p1 p2 p3 : Pos} {mb : MS BW} {ms : Addr → MS BW} (hs : X.stack = X.env :: X.outer) (hf : X.env.frame = some X.env.locals) (hN : X.N.Nodup) (hi : X.N[i]? = some n) (hln : X.env.kindOf n = some .local)
    (hc : Names X x cv) (hb : ∀ (V : WX) (pn : List (Addr × Obj)) (xe : Value → Shared → Prop), Takes (X.tr pn xe) V → PassesOwn (model X.prog X.w) X.A X.env xe → DSs (GB I K) en (X.tr pn xe) V body mb)
    (hsu : ∀ (a : Addr) (pn : List (Addr × Obj)), DSs (GB I K) en (X.suite a pn) W0 (b0 :: suite) (ms a)) :
    DS (GB I K) en X Wx (.Try body [.ExceptHandler (some (.Name x p1)) (some n) (b0 :: suite) p3] [] [] p2) (sCatch i (fun e => PySem.W.exmOne X.K (.ref e) cv) mb ms) :=
  dscatch hs hf hN hi hln hc hb hsu (hb W0 [] (fun _ _ => False) takes0 PassesOwn.never).mono fun a => (hsu a []).mono
/-! ### isinstance of one that was caught -/
def fIsX (K : PySem.W.Frag) : FA BW := fun ds w Q _ => ∃ a e c, ds = [.hnd a, c] ∧ w.h a = some (.exc e) ∧ ExcC K e ∧ ((∃ v b, clsVal c = some v ∧ PySem.W.kitOne K (.ref e) v = some b ∧ Q (.bl b) w) ∨ (∃ cs vs b, c = .tup cs ∧ clsVals cs = some vs ∧ PySem.W.kitAny K (.ref e) vs = some b ∧ Q (.bl b) w))
theorem exK_at {pins : List (Addr × Obj)} {σ : L2.St} {H : Hp} {s : Shared} {a e : Addr} (J : Inv X pins σ H s) (h : H a = some (ExK (.ref e) none a)) : ∃ o, PySem.W.InstAt s.heap a o e none := by
  obtain ⟨oe, h1, ⟨z1, z2⟩, vs, v⟩ := (J.hok a _ h).1
  obtain ⟨oc, od, oda, osl⟩ := oe
  dsimp only at z1 z2 v
  subst z1 z2 v
  exact ⟨_, h1, rfl, rfl, trivial⟩
theorem o_isX (hK : X.K = K) : OpC (GB I K) X (.builtin "isinstance") (fIsX K) where
  ex := by
    subst hK
    have one : CallR X (.builtin "isinstance") (fun xs H Q => ∃ (a e : Addr) (c : V) (cv : Value) (b : Bool), xs = [.ref a, c] ∧ H a = some (ExK (.ref e) none a) ∧ ExcC X.K e ∧ (∀ u, RelV c u → u = cv) ∧ PySem.W.kitOne X.K (.ref e) cv = some b ∧ Q (.bl b) H) := by
      rintro pins s σ H xs us Q J r ⟨a, e, c, cv, b, rfl, ha, C, hcv, hk, q⟩
      obtain ⟨u1, u2, rfl, r1, r2⟩ := vals2 r
      cases (show u1 = Value.ref a from r1)
      cases hcv _ r2
      obtain ⟨o, at_⟩ := exK_at J ha
      exact PySem.W.kia_one (PySem.W.handS_kitx_exc C.hg C.hk C.hs C.hd C.ha C.hn C.ht C.hm) J.kIn at_ hk (fun z => nomatch z) fun tk => ⟨.bl b, H, J.tok tk, rfl, q⟩
    have many : CallR X (.builtin "isinstance") (fun xs H Q => ∃ (a e tp : Addr) (cs : List V) (ws : List Value) (b : Bool), xs = [.ref a, .ref tp] ∧ H a = some (ExK (.ref e) none a) ∧ ExcC X.K e ∧ H tp = some (.tup cs) ∧ (∀ vs, Vals cs vs → vs = ws) ∧ PySem.W.kitAny X.K (.ref e) ws = some b ∧ Q (.bl b) H) := by
      rintro pins s σ H xs us Q J r ⟨a, e, tp, cs, ws, b, rfl, ha, C, ht, hcs, hk, q⟩
      obtain ⟨u1, u2, rfl, r1, r2⟩ := vals2 r
      cases (show u2 = Value.ref tp from r2)
      cases (show u1 = Value.ref a from r1)
      obtain ⟨o, at_⟩ := exK_at J ha
      obtain ⟨_, its, rv, t, h1, h2, n, h3⟩ := (show ObjOk X.prog X.w H s.heap tp (.tup cs) from J.hok tp _ ht)
      have e3 := hcs _ rv
      subst e3
      obtain ⟨oc, od, dt, sl⟩ := t
      simp only at h2 h3
      subst h2 h3
      exact PySem.W.kia_tup (PySem.W.handS_kitx_exc C.hg C.hk C.hs C.hd C.ha C.hn C.ht C.hm) J.kIn at_ h1 hk (fun z => nomatch z) fun tk => ⟨.bl b, H, J.tok tk, rfl, q⟩
    refine ⟨_, one.or many, fun xs vs w H A F Q E k r ⟨a, e, c, e1, e2, C, q⟩ => ?_⟩
    subst e1
    cases r with
    | cons r1 r => cases r with
      | cons r2 r => cases r with
        | nil =>
          have := r1.hnd
          subst this
          have ha : H a = some (ExK (.ref e) none a) := (k.wi.2.2.2.2 a _ e2).2
          rcases q with ⟨v, b, h1, h2, q⟩ | ⟨cs, us, b, e3, h1, h2, q⟩
          · exact .inl ⟨a, e, _, v, b, rfl, ha, C, clsVal_rep r2 h1, h2, q _ H A F .refl k (.bl _)⟩
          · subst e3
            obtain ⟨tp, zs, e1, h3, n1, l1, rr⟩ := r2.tup
            subst e1
            exact .inr ⟨a, e, tp, zs, us, b, rfl, ha, C, h3, clsVals_rep rr h1, h2, q _ H A F .refl k (.bl _)⟩
  mono := fun ds w Q Q' E E' hq he ⟨a, e, c, e1, e2, C, q⟩ => ⟨a, e, c, e1, e2, C, q.elim (fun ⟨v, b, h1, h2, q⟩ => .inl ⟨v, b, h1, h2, hq _ _ q⟩) fun ⟨cs, us, b, e, h1, h2, q⟩ => .inr ⟨cs, us, b, e, h1, h2, hq _ _ q⟩⟩
end
/-! ### the well, its lesser ones a list that the world has -/
def delW (h : Addr → Option OD) (a : Addr) : Addr → Option OD := fun b => if b = a then none else h b
theorem delW_put {h : Addr → Option OD} {a : Addr} {o : OD} (n : h a = none) : delW (put h a o) a = h := by
  funext b
  unfold delW
  by_cases e : b = a
  · rw [if_pos e, e, n]
  · rw [if_neg e, put_ne e]
theorem delW_some {h : Addr → Option OD} {a b : Addr} {o : OD} (e : delW h a b = some o) : b ≠ a ∧ h b = some o := by
  unfold delW at e
  by_cases z : b = a
  · rw [if_pos z] at e; cases e
  · rw [if_neg z] at e; exact ⟨z, e⟩
section
variable {K : PySem.W.Frag} {X : Cx} {Wx : WX} {en : En}
def sRetWellH (i j k : Nat) : MS BW := fun ρ w E => ∃ (gs ls : List Int) (st : Int) (p : Addr), ρ[i]? = some (some (.own (gs.map D.int))) ∧ ρ[j]? = some (some (.val (.hnd p))) ∧ w.h p = some (.lst (ls.map D.int)) ∧ ρ[k]? = some (some (.val (.int st))) ∧ w.bag = none ∧
  (∀ g ∈ gs, 0 ≤ g ∧ g < GW) ∧ gs.length ≤ 63 ∧ ls.length ≤ 63 ∧ (∀ l ∈ ls, 0 ≤ l ∧ l < MW) ∧ 0 ≤ st ∧ st < MW ∧ ∀ b, E.rt (.hnd b) { w with bag := some b, h := delW w.h p }
theorem dsretwellH (i j k : Nat) {e : Expr} {pos : Pos} (h : PE X e (wellT i j k)) (hK : X.K = K := by rfl) : DS (GB bagB K) en X Wx (.Return (some e) pos) (sRetWellH i j k) := by
  subst hK
  refine ⟨PS.imp (ps_ret h) fun D σ H ⟨ps, A, F, ρ, w, E, c, l, gs, ls, st, a1, e1, e2, eh, e3, hb, g1, g2, l1, l2, s1, s2, q⟩ => ?_, fun ρ w E E' l ⟨gs, ls, st, p, e1, e2, eh, e3, hb, g1, g2, l1, l2, s1, s2, q⟩ => ⟨gs, ls, st, p, e1, e2, eh, e3, hb, g1, g2, l1, l2, s1, s2, fun b => l.rt _ _ (q b)⟩⟩
  obtain ⟨a0, ys, f1, f2, f3, f4, f5, f6⟩ := c.env.own i _ e1
  obtain ⟨v1, h1, r1⟩ := c.env.val j _ e2
  cases r1
  obtain ⟨hA1, xs1, h2, h5, h6⟩ := c.ok.wi.2.2.2.2 a1 _ eh
  have ho0 := c.own i _ a0 e1 f1
  have n01 : a0 ≠ a1 := fun z => f4 (z ▸ hA1)
  obtain ⟨v3, f8, r3⟩ := c.env.val k _ e3
  cases r3
  have ey := f6.ints
  have ex := h6.ints
  subst ey ex
  refine ⟨a0, a1, st, f1, h1, f8, fun p hp => ?_⟩
  have c3 := c.step (.new (o := .lst [.ref a0, .ref a1, .int st, .int 0]) hp) (c.ok.new hp)
  have na0 : a0 ≠ p := ne_of_none f2 hp
  have na1 : a1 ≠ p := ne_of_none h2 hp
  generalize hH3 : upd H p (.lst [.ref a0, .ref a1, .int st, .int 0]) = H3 at c3
  have k3 : ∀ a o, H a = some o → H3 a = some o := fun a o h => by rw [← hH3, upd_ne (ne_of_none h hp)]; exact h
  have hp3 : H3 p = some (.lst [.ref a0, .ref a1, .int st, .int 0]) := by rw [← hH3]; exact upd_same
  have fr := (GB bagB X.K).frame (w := w) (H := H) (H' := H3) (A := A) (F := F) (F' := fun a => F a ∨ a = p) c.ok.wi (fun a o h _ => k3 a o h) fun a h => h.elim .inl fun h => .inr (h ▸ hp)
  have rs : ∀ q, ¬ A q → delW w.h a1 q = none ∧ ∀ x C fs, delW w.h a1 x ≠ some (.ins C q fs) := fun q h => by
    have z := rest_of c.ok h
    refine ⟨?_, fun x C fs y => z.2 x C fs (delW_some y).2⟩
    unfold delW
    split
    · rfl
    · exact z.1
  have rs1 : delW w.h a1 a1 = none ∧ ∀ x C fs, delW w.h a1 x ≠ some (.ins C a1 fs) := by
    refine ⟨if_pos rfl, fun x C fs y => ?_⟩
    obtain ⟨_, vs, _, _, z, _⟩ := c.ok.wi.2.2.2.2 x _ (delW_some y).2
    rw [h2] at z; cases z
  have wi : (GB bagB X.K).WI { w with bag := some p, h := delW w.h a1 } H3 (fun a => A a ∨ a = a0 ∨ a = p) (fun a => F a ∨ a = p) := by
    refine ⟨fr.1, fr.2.1, fr.2.2.1, fun b hb' => ?_, fun a o e => ⟨.inl (fr.2.2.2.2 a o (delW_some e).2).1, (fr.2.2.2.2 a o (delW_some e).2).2.more fun _ h => .inl h⟩⟩
    cases (Option.some.inj hb' : p = b)
    exact ⟨a0, a1, gs, ls, st, 0, ⟨hp3, k3 _ _ f2, k3 _ _ h2, ⟨.inr (.inr rfl), rs _ fun z => c.ok.dom _ (c.ok.af _ z) hp⟩, ⟨.inr (.inl rfl), rs _ f4⟩, ⟨.inl hA1, rs1⟩, Ne.symm na0, Ne.symm na1, n01, g1, g2, l1, l2, s1, s2⟩, Int.le_refl _, Int.natCast_nonneg _⟩
  have cN : SC (GB bagB X.K) en ps (σ.map fun _ => none) (ρ.map fun _ => none) { w with bag := some p, h := delW w.h a1 } H3 (fun a => A a ∨ a = a0 ∨ a = p) (fun a => F a ∨ a = p) := by
    have no : ∀ (l : DEnv) (i : Nat) (x : Ent), (l.map fun _ => (none : Option Ent))[i]? = some (some x) → False := fun l i x h => by
      rw [List.getElem?_map] at h
      cases q : l[i]? <;> rw [q] at h <;> cases h
    have kp : Keeps F H (fun a => F a ∨ a = p) H3 := fun a o ha hn => ⟨k3 a o ha, fun z => z.elim hn fun z => ne_of_none ha hp z⟩
    refine ⟨⟨wi, fun a h => ?_, fun a h => ?_⟩, ⟨by rw [List.length_map, List.length_map]; exact c.env.len, fun i d h => (no _ _ _ h).elim, fun i d h => (no _ _ _ h).elim, fun i j ds es a h => (no _ _ _ h).elim⟩, c3.keep, c3.there, fun a h => ?_, fun a h => ?_, fun a h => .inl (c.am a h), fun a h => .inl (c.fm a h), fun i ds a h => (no _ _ _ h).elim, c.F0, ps.st _ _ _ _ kp c.pin⟩
    · rcases h with h | h | h
      · exact .inl (c.ok.af a h)
      · exact .inl (h ▸ f3)
      · exact .inr h
    · rcases h with h | h
      · exact c3.ok.dom a h
      · rw [h, hp3]; exact fun z => nomatch z
    · rcases h with h | h | h
      · exact c.fa a h
      · exact .inr (h ▸ ho0)
      · exact .inr (h ▸ c.there _ hp)
    · rcases h with h | h
      · exact c.ff a h
      · exact .inr (h ▸ c.there _ hp)
  exact l.rt (.hnd p) (.ref p) _ H3 _ _ _ _ cN (.hnd p) (q p)
end
/-! ### l.count(x), l.index(x), l a list of data -/
section
variable {G : Wd} {X : Cx} {W : Type}
def rCountF (K : PySem.W.Frag) : V → List V → Hp → VK → Prop := fun x xs H Q => ∃ (a : Addr) (ys : List V) (y : V), x = V.ref a ∧ xs = [y] ∧ SqL K H a ys ∧ flatV y = true ∧ ys.all flatV = true ∧ Q (.int (ys.countP fun z => eqV z y : Nat)) H
theorem count_flat {y : V} : ∀ {ys : List V} {us : List Value}, Vals ys us → ys.all flatV = true → us.countP (eqU y) = ys.countP fun z => eqV z y
  | _, _, .nil, _ => rfl
  | z :: ys, _ :: us, .cons r t, f => by
    rw [List.all_cons, Bool.and_eq_true] at f
    rw [List.countP_cons, List.countP_cons, count_flat t f.2, eqU_of r f.1]
theorem mt_countF : MtR X "list.count" (rCountF X.K) := by
  rintro pins s σ H x xs v us Q J rx rxs ⟨a, ys, y, rfl, rfl, hs, fy, fys, q⟩
  cases rx
  obtain ⟨u, rfl, ru⟩ := rxs.one
  obtain ⟨its, rv, ⟨⟨cls, dd, data, sl⟩, n, ho, hc, hdn, hd⟩, hlen⟩ := J.list hs
  dsimp only at hc hd
  subst hc hd
  refine call_meets PySem.F.slot_list_count ⟨_, ho, rfl⟩ PySem.F.entry_list_count (PySem.F.args_list_count_2 _ _) (SeqAt.list_countAt a its.toArray n dd sl u (eqU y)) ⟨ho, fun u' hu' => mem_eqAt ru fy rv fys u' (by simpa using hu'), ?_⟩
  have ec : its.toArray.toList.countP (eqU y) = ys.countP fun z => eqV z y := count_flat rv fys
  exact ⟨.int (ys.countP fun z => eqV z y : Nat), H, J.tok _, ⟨s.toks, by rw [ec]⟩, q⟩
theorem flats_rep {F : Foot} {H : Hp} : ∀ {vs : List V} {ds : List D}, RepL F H vs ds → ds.all flatD = true → vs.all flatV = true
  | _, _, .nil, _ => rfl
  | _, _, .cons h t, f => by
    rw [List.all_cons, Bool.and_eq_true] at f
    rw [List.all_cons, flat_rep h f.1, flats_rep t f.2]; rfl
theorem count_rep {F : Foot} {H : Hp} {v : V} {y : D} (r : Rep F H v y) (f : flatD y = true) : ∀ {vs : List V} {ds : List D}, RepL F H vs ds → ds.all flatD = true → (vs.countP fun z => eqV z v) = ds.countP fun z => eqF z y
  | _, _, .nil, _ => rfl
  | _, _, .cons h t, g => by
    rw [List.all_cons, Bool.and_eq_true] at g
    rw [List.countP_cons, List.countP_cons, count_rep r f t g.2, eqF_rep h r g.1 f]
def fCount : D → FA W := fun x ds w Q _ => ∃ xs y, x = .lst xs ∧ ds = [y] ∧ flatD y = true ∧ xs.all flatD = true ∧ Q (.int (xs.countP fun z => eqF z y : Nat)) w
theorem o_count : OpMt G X "list.count" fCount where
  ex := ⟨_, mt_countF, fun x v xs vs w H A F Q E k r rs ⟨zs, y, e1, e2, fy, fz, q⟩ => by
    subst e1; subst e2
    cases rs with
    | cons r1 rs => cases rs with
      | nil =>
        obtain ⟨a, us, rfl, h1, l1, rr⟩ := r.lst
        have ry := rep_of_flat r1 fy
        refine ⟨a, us, _, rfl, rfl, SqL.of h1, flat_rep ry fy, flats_rep rr fz, ?_⟩
        rw [count_rep ry fy rr fz]
        exact q _ H A F .refl k (.int _)⟩
  mono := fun x ds w Q Q' E E' hq he ⟨zs, y, e1, e2, fy, fz, q⟩ => ⟨zs, y, e1, e2, fy, fz, hq _ _ q⟩
def fIndex : D → FA W := fun x ds w Q _ => ∃ xs y j, x = .lst xs ∧ ds = [y] ∧ flatD y = true ∧ xs.all flatD = true ∧ (xs.findIdx? fun z => eqF z y) = some j ∧ Q (.int (j : Nat)) w
theorem index_rep {F : Foot} {H : Hp} {v : V} {y : D} (r : Rep F H v y) (f : flatD y = true) : ∀ {vs : List V} {ds : List D} {j : Nat}, RepL F H vs ds → ds.all flatD = true → (ds.findIdx? fun z => eqF z y) = some j → ∃ z, vs[j]? = some z ∧ eqV z v = true ∧ ∀ (m : Nat) (z' : V), m < j → vs[m]? = some z' → eqV z' v = false
  | _, _, _, .nil, _, e => by cases e
  | w :: vs, d :: ds, j, .cons h t, g, e => by
    rw [List.all_cons, Bool.and_eq_true] at g
    rw [List.findIdx?_cons] at e
    have he := eqF_rep h r g.1 f
    cases hd : eqF d y with
    | true =>
      rw [hd] at e he
      cases e
      exact ⟨w, rfl, he, fun m _ hm => absurd hm (Nat.not_lt_zero m)⟩
    | false =>
      rw [hd] at e he
      simp only [Bool.false_eq_true, if_false, Option.map_eq_some_iff] at e
      obtain ⟨i, e1, rfl⟩ := e
      obtain ⟨z, a1, a2, a3⟩ := index_rep r f t g.2 e1
      refine ⟨z, by simpa using a1, a2, fun m z' hm hz => ?_⟩
      cases m with
      | zero => cases hz; exact he
      | succ m => exact a3 m z' (by omega) (by simpa using hz)
theorem o_index : OpMt G X "list.index" fIndex where
  ex := ⟨_, mt_index, fun x v xs vs w H A F Q E k r rs ⟨zs, y, j, e1, e2, fy, fz, ej, q⟩ => by
    subst e1; subst e2
    cases rs with
    | cons r1 rs => cases rs with
      | nil =>
        obtain ⟨a, us, rfl, h1, l1, rr⟩ := r.lst
        have ry := rep_of_flat r1 fy
        obtain ⟨z, a1, a2, a3⟩ := index_rep ry fy rr fz ej
        exact ⟨a, us, _, j, z, rfl, rfl, SqL.of h1, flat_rep ry fy, flats_rep rr fz, a1, a2, a3, q _ H A F .refl k (.int _)⟩⟩
  mono := fun x ds w Q Q' E E' hq he ⟨zs, y, j, e1, e2, fy, fz, ej, q⟩ => ⟨zs, y, j, e1, e2, fy, fz, ej, hq _ _ q⟩
theorem lcount_at (xs : List D) (y : D) {w : W} {Q : D → W → Prop} {E : Ex → W → Prop} (h1 : flatD y = true) (h2 : xs.all flatD = true) (q : Q (.int (xs.countP fun z => eqF z y : Nat)) w) : fCount (.lst xs) [y] w Q E := ⟨xs, y, rfl, rfl, h1, h2, q⟩
end
/-! ### loops over a list that the world has, by an invariant -/
section
open PySem.Spec PyProof.Rows
variable {b : BG} {mb : MS BW} {E : EndsM BW} {a : Addr} {ds0 : List D}
theorem loopH_go (I : List D → List D → DEnv → BW → Prop) (has : ∀ pre ds ρ w, I pre ds ρ w → w.h a = some (.lst ds0)) (step : ∀ d pre ds ρ w (R B : DEnv → BW → Prop), I pre (d :: ds) ρ w → (∀ ρ' w', I (pre ++ [d]) ds ρ' w' → R ρ' w') → (∀ ρ' w', E.nx ρ' w' → B ρ' w') → b d ρ fun ρ' => mb ρ' w ⟨R, E.rt, B, R, E.ex⟩) (done : ∀ pre ρ w, I pre [] ρ w → E.nx ρ w) :
    ∀ ds pre ρ w, I pre ds ρ w → loopH a ds0 b mb ds ρ w E
  | [], pre, ρ, w, h => ⟨has _ _ _ _ h, done pre ρ w h⟩
  | d :: ds, pre, ρ, w, h => ⟨has _ _ _ _ h, step d pre ds ρ w (fun ρ2 w2 => loopH a ds0 b mb ds ρ2 w2 E) E.nx h (fun ρ' w' z => loopH_go I has step done ds _ ρ' w' z) fun _ _ z => z⟩
end
theorem pow10_60 : CPowW 10 60 := by unfold CPowW; decide +kernel
theorem mul60 : CMulX (10 ^ 60) (10 ^ 60) := by unfold CMulX; decide +kernel
end DL

namespace DL
open PySem PySem.Spec PyProof.Rows L2 TL
/-! ### str of an int or a text -/
section
open StX
variable {G : Wd} {X : Cx} {Wx : WX} {W : Type}
def fStrD : FA W := fun ds w Q _ => (∃ i : Int, ds = [.int i] ∧ i.natAbs.log2 < 1920 ∧ SOk (toString i : String) ∧ Q (.str (toString i : String)) w) ∨ ∃ x : Str, ds = [.str x] ∧ Q (.str x) w
theorem o_strD : OpC G X (.type "str") (fStrD (W := G.W)) where
  ex := by
    refine ⟨fun xs H Q => (∃ i, xs = [.int i] ∧ i.natAbs.log2 < 1920 ∧ Q (.str (toString i)) H) ∨ ∃ a, xs = [.str a] ∧ Q (.str a) H, fun pins s σ H xs us Q J r h => ?_, fun xs vs w H A F Q E k r h => ?_⟩
    · rcases h with h | h
      · exact call_str_int pins s σ H xs us Q J r h
      · exact SkE.call_str_str pins s σ H xs us Q J r h
    · cases xs with
      | nil => rcases h with ⟨i, e, _⟩ | ⟨i, e, _⟩ <;> cases e
      | cons x1 xs => cases r with
        | cons r1 r => cases r with
          | nil =>
            rcases h with ⟨i, e, hl, ok, q⟩ | ⟨x, e, q⟩
            · cases e
              exact .inl ⟨i, by rw [r1.int], hl, q _ H A F .refl k (.str _ ok)⟩
            · cases e
              obtain ⟨e2, okz⟩ := r1.str
              exact .inr ⟨x, by rw [e2], q _ H A F .refl k (.str _ okz)⟩
          | cons _ _ => rcases h with ⟨i, e, _⟩ | ⟨i, e, _⟩ <;> cases e
  mono := fun ds w Q Q' E E' hq he h => h.imp (fun ⟨i, e, hl, ok, q⟩ => ⟨i, e, hl, ok, hq _ _ q⟩) fun ⟨x, e, q⟩ => ⟨x, e, hq _ _ q⟩
/-! ### [.., *x, ..]: a tuple's or a list's members -/
def mStarL (m : DEnv → M W D) (r : DEnv → M W (List D)) : DEnv → M W (List D) := fun ρ w Q E => m ρ w (fun d w1 => ∃ xs, (d = .tup xs ∨ d = .lst xs) ∧ r ρ w1 (fun ds w2 => Q (xs ++ ds) w2) E) E
theorem dastarL {e : Expr} {es : List Expr} {p : Pos} {m : DEnv → M G.W D} {mr : DEnv → M G.W (List D)} (ha : DE G X Wx e m) (hr : DA G X Wx es mr) (hs : starEach (.Starred e p :: es) X.env = (true, eval e X.env) :: starEach es X.env := by rfl) : DA G X Wx (.Starred e p :: es) (mStarL m mr) := by
  have hk : ∀ (d : D) (ρ : DEnv), Mono (fun (w : G.W) (Q : List D → G.W → Prop) (E : Ex → G.W → Prop) => ∃ xs, (d = .tup xs ∨ d = .lst xs) ∧ mr ρ w (fun ds w2 => Q (xs ++ ds) w2) E) := fun d ρ w Q Q' E E' hq he ⟨xs, e, q⟩ => ⟨xs, e, hr.mono ρ w _ _ _ _ (fun ds w2 z => hq _ _ z) he q⟩
  refine ⟨PA.imp (pa_star ha.pe hr.pe hs) fun σ H Q h1 => ?_, fun ρ => (ha.mono ρ).bind fun d => hk d ρ⟩
  refine runE ha.mono hk (P := .a G Q) h1 fun v d H1 ⟨A, F, ρ, w, E, k, r, x, rp, xs, e, q⟩ => ?_
  rcases e with rfl | rfl
  · cases rp with
    | @tup a ys _ h1 n1 l1 rr =>
      refine ⟨a, ys, rfl, .inl (SqT.of h1), A, F, ρ, w, E, k, r, x, hr.mono ρ w _ _ _ _ (fun ds w2 z vs H2 A2 F2 s k2 rp2 => ?_) (fun _ _ z => z) q⟩
      exact z (ys ++ vs) H2 A2 F2 s k2 ((rr.mono (s.keeps k.af)).append rp2)
  · cases rp with
    | @lst a ys _ h1 n1 l1 rr =>
      refine ⟨a, ys, rfl, .inr (SqL.of h1), A, F, ρ, w, E, k, r, x, hr.mono ρ w _ _ _ _ (fun ds w2 z vs H2 A2 F2 s k2 rp2 => ?_) (fun _ _ z => z) q⟩
      exact z (ys ++ vs) H2 A2 F2 s k2 ((rr.mono (s.keeps k.af)).append rp2)
/-! ### f'c{e}', e a text -/
def mFmt2 (c : Str) (m : DEnv → M W D) : DEnv → M W D := fun ρ w Q E => m ρ w (fun d w1 => ∃ y, d = .str y ∧ SOk (c ++ y) ∧ Q (.str (c ++ y)) w1) E
theorem dfmt2 {c : Str} {p1 p2 pos : Pos} {e : Expr} {kk} {m : DEnv → M G.W D} (h : DE G X Wx e m) (hc : SOk c := by exact ⟨by decide +kernel, by decide +kernel⟩) : DE G X Wx (.JoinedStr [.Constant (.str c) kk p1, .FormattedValue e (-1) none p2] pos) (mFmt2 c m) := by
  have hk : ∀ (d : D) (ρ : DEnv), Mono (fun (w : G.W) (Q : D → G.W → Prop) (E : Ex → G.W → Prop) => ∃ y, d = .str y ∧ SOk (c ++ y) ∧ Q (.str (c ++ y)) w) := fun d ρ w Q Q' E E' hq he ⟨y, e, ok, q⟩ => ⟨y, e, ok, hq _ _ q⟩
  refine ⟨PE.imp (pe_joined (.cons pe_str (.cons (pe_fmt h.pe) .nil))) fun σ H Q h1 => ?_, fun ρ => (h.mono ρ).bind fun d => hk d ρ⟩
  show tJs [tC (.str c), tFmt (liftE G Wx m)] Str.empty σ H _
  unfold tJs tJs tJs
  simp only [Str.empty_append]
  refine ⟨c, rfl, Nat.le_trans hc.1 (by decide), ?_⟩
  show liftE G Wx m σ H _
  refine runE h.mono hk (P := .e G Q) h1 fun v d H1 ⟨A, F, ρ, w, E, k, r, x, rp, y, e, ok, q⟩ => ?_
  subst e
  obtain ⟨e2, okz⟩ : v = .str y ∧ SOk y := by cases rp; exact ⟨rfl, by assumption⟩
  refine .inl ⟨y, e2, Nat.le_trans okz.1 (by decide), y, rfl, Nat.le_trans ok.1 (by decide), ?_⟩
  exact q _ H1 A F .refl k (.str _ ok)
end
/-! ### a list or a tuple to go through -/
section
variable {G : Wd} {X : Cx} {Wx : WX} {W : Type}
def mEither (m1 m2 : DEnv → M W (List D)) : DEnv → M W (List D) := fun ρ w Q E => m1 ρ w Q E ∨ m2 ρ w Q E
theorem DI.or {tg l : Expr} {m1 m2 : DEnv → M G.W (List D)} (h1 : DI G X Wx tg l m1) (h2 : DI G X Wx tg l m2) : DI G X Wx tg l (mEither m1 m2) := by
  obtain ⟨⟨w1, p1, q1⟩, o1⟩ := h1
  obtain ⟨⟨w2, p2, q2⟩, o2⟩ := h2
  refine ⟨⟨fun σ H R => w1 σ H R ∨ w2 σ H R, ⟨fun pins s σ H R I h => h.elim (p1.run pins s σ H R I) (p2.run pins s σ H R I)⟩, fun σ H R ⟨A, F, ρ, w, E, k, r, x, q⟩ => ?_⟩, fun ρ w Q Q' E E' hq he h => h.imp (o1 ρ w _ _ _ _ hq he) (o2 ρ w _ _ _ _ hq he)⟩
  rcases q with q | q
  · exact .inl (q1 σ H R ⟨A, F, ρ, w, E, k, r, x, q⟩)
  · exact .inr (q2 σ H R ⟨A, F, ρ, w, E, k, r, x, q⟩)
end
/-! ### words, joined -/
structure ATx (n : Nat) (x : Str) : Prop where
  len : x.length ≤ n
  asc : DL.asc x
theorem ATx.ok {n : Nat} {x : Str} (h : ATx n x) (hn : n ≤ LB) : SOk x := ⟨Nat.le_trans h.len hn, strOk_iff.mpr fun c hc => Nat.lt_trans (h.asc c hc) (by decide)⟩
theorem ATx.mono {n m : Nat} {x : Str} (h : ATx n x) (hn : n ≤ m) : ATx m x := ⟨Nat.le_trans h.len hn, h.asc⟩
theorem ATx.app {n m : Nat} {x y : Str} (hx : ATx n x) (hy : ATx m y) : ATx (n + m) (x ++ y) := ⟨by rw [PySem.strLen_append]; exact Nat.add_le_add hx.len hy.len, fun c hc => by
  have e : (x ++ y).cps = x.cps ++ y.cps := rfl
  rw [e, Array.toList_append] at hc
  exact (List.mem_append.mp hc).elim (hx.asc c) (hy.asc c)⟩
theorem atx_int {i : Int} {c : Nat} (hc : 0 < c) (h0 : 0 ≤ i) (h : i.natAbs < 10 ^ c) : ATx c (strI i) := by
  obtain ⟨n, rfl⟩ := Int.eq_ofNat_of_zero_le h0
  refine ⟨by rw [str_length]; exact numL_len hc h, fun d hd => ?_⟩
  rw [str_list] at hd
  have := numL_digits n d hd
  omega
theorem atx_join {z : Str} {k n : Nat} (hz : ATx k z) : ∀ ys : List Str, (∀ y ∈ ys, ATx n y) → ATx (ys.length * (n + k)) (Txt.join z ys)
  | [], _ => ⟨by rw [join_eq]; exact Nat.zero_le _, fun c hc => by rw [join_eq] at hc; exact nomatch hc⟩
  | [y], h => by
    rw [join_eq]
    exact (h y List.mem_cons_self).mono (by rw [List.length_singleton]; omega)
  | x :: y :: r, h => by
    have ih := atx_join hz (y :: r) fun t ht => h t (List.mem_cons_of_mem _ ht)
    rw [join_eq] at ih ⊢
    have h1 := ((h x List.mem_cons_self).app hz).app ih
    refine ATx.mono h1 ?_
    rw [List.length_cons (a := x), Nat.succ_mul]
    omega
def showP : D → Str | .int i => strI i | .str x => x | _ => Str.empty
def wordsD (z : Str) (xs : List D) : Str := Txt.join z (xs.map showP)
/-- an int from 0 on of at most c digits, or a text of at most c signs -/
def WdP (c : Nat) : D → Prop | .int i => 0 ≤ i ∧ i.natAbs < 10 ^ 90 ∧ i.natAbs < 10 ^ c | .str x => ATx c x | _ => False
theorem WdP.atx {c : Nat} (hc : 0 < c) {d : D} (h : WdP c d) : ATx c (showP d) := by
  cases d <;> first | exact h.elim | skip
  · exact atx_int hc h.1 h.2.2
  · exact h
theorem words_atx {c k : Nat} {z : Str} {xs : List D} (hc : 0 < c) (hz : ATx k z) (h : ∀ d ∈ xs, WdP c d) : ATx (xs.length * (c + k)) (wordsD z xs) := by
  have := atx_join (n := c) hz (xs.map showP) fun y hy => by
    obtain ⟨d, hd, rfl⟩ := List.mem_map.mp hy
    exact (h d hd).atx hc
  rwa [List.length_map] at this
theorem sum_len {c : Nat} : ∀ {ys : List Str}, (∀ y ∈ ys, y.length ≤ c) → (ys.map (·.length)).sum ≤ ys.length * c
  | [], _ => Nat.zero_le _
  | y :: ys, h => by
    rw [List.map_cons, List.sum_cons, List.length_cons, Nat.succ_mul]
    have h1 := h y List.mem_cons_self
    have h2 := sum_len fun t ht => h t (List.mem_cons_of_mem y ht)
    omega
theorem join_words {W : Type} {c : Nat} {z : Str} {xs : List D} {w : W} {Q : D → W → Prop} {E : Ex → W → Prop} (hc : 0 < c) (hz : ATx 1 z) (h : ∀ d ∈ xs, WdP c d) (hn : xs.length * (c + 1) ≤ LB) (q : Q (.str (wordsD z xs)) w) : fJoin (.str z) [.lst (xs.map fun d => .str (showP d))] w Q E := by
  refine ⟨z, xs.map showP, rfl, by rw [List.map_map]; rfl, ?_, (words_atx hc hz h).ok hn, q⟩
  have h1 := sum_len (c := c) (ys := xs.map showP) fun y hy => by
    obtain ⟨d, hd, rfl⟩ := List.mem_map.mp hy
    exact ((h d hd).atx hc).len
  rw [List.length_map] at h1 ⊢
  have h2 := hz.len
  have h3 : xs.length * z.length ≤ xs.length * 1 := Nat.mul_le_mul_left _ h2
  have lb : LB = 100000 := rfl
  rw [Nat.mul_add] at hn
  omega
end DL

namespace DL
open PySem PySem.Spec PyProof.Rows L2 TL
/-! ### text.split(sep) -/
section
variable {G : Wd} {X : Cx} {Wx : WX} {W : Type}
def fSplit : D → FA W := fun x ds w Q _ => ∃ z b, x = .str z ∧ ds = [.str b] ∧ (b.length == 0) = false ∧ (Txt.split z b).length ≤ LB ∧ (∀ y ∈ Txt.split z b, SOk y) ∧ Q (.lst ((Txt.split z b).map D.str)) w
theorem repL_strs {F : Foot} {H : Hp} : ∀ {ys : List Str}, (∀ y ∈ ys, SOk y) → RepL F H (ys.map V.str) (ys.map D.str)
  | [], _ => .nil
  | y :: ys, h => .cons (.str y (h y List.mem_cons_self)) (repL_strs fun z hz => h z (List.mem_cons_of_mem _ hz))
theorem o_split : OpMt G X "str.split" (fSplit (W := G.W)) where
  ex := ⟨_, mt_split, fun x v xs vs w H A F Q E k r rs ⟨z, b, e1, e2, hb, hl, hy, q⟩ => by
    subst e1; subst e2
    cases rs with
    | cons r1 rs => cases rs with
      | nil =>
        obtain ⟨ez, okz⟩ := r.str
        obtain ⟨eb, okb⟩ := r1.str
        have lz : z.length + 2 ≤ sizeLine := Nat.le_trans (Nat.add_le_add_right okz.1 2) (by decide)
        refine ⟨z, b, ez, by rw [eb], hb, lz, fun p hp => q _ _ A F (.new hp) (k.new hp) (.lst upd_same (k.out hp) (by rw [List.length_map]; exact hl) (repL_strs hy))⟩⟩
  mono := fun x ds w Q Q' E E' hq he ⟨z, b, e1, e2, h1, h2, h3, q⟩ => ⟨z, b, e1, e2, h1, h2, h3, hq _ _ q⟩
/-! ### int(text) -/
def fIntS : FA W := fun ds w Q _ => ∃ x n, ds = [.str x] ∧ PySem.intText? x = some n ∧ x.length ≤ 640 ∧ Q (.int n) w
theorem o_intS : OpC G X (.type "int") (fIntS (W := G.W)) where
  ex := ⟨_, call_int_str, fun xs vs w H A F Q E k r ⟨x, n, e, h1, h2, q⟩ => by
    subst e
    cases r with
    | cons r1 r => cases r with
      | nil =>
        obtain ⟨e2, _⟩ := r1.str
        exact ⟨x, n, by rw [e2], h1, h2, q _ H A F .refl k (.int _)⟩⟩
  mono := fun ds w Q Q' E E' hq he ⟨x, n, e, h1, h2, q⟩ => ⟨x, n, e, h1, h2, hq _ _ q⟩
end
/-! ### x[k] = e, x an own list -/
section
variable {I : BagI} {K : PySem.W.Frag} {X : Cx} {Wx : WX} {en : En} {ps : Pin}
def sOwnI (i : Nat) (mi me : DEnv → M BW D) : MS BW := fun ρ w E => me ρ w (fun d w1 => ∃ ds, ρ[i]? = some (some (.own ds)) ∧ mi ρ w1 (fun y w2 => ∃ k j, y = .int k ∧ ixN ds.length k = some j ∧ E.nx (ρ.set i (some (.own (ds.set j d)))) w2) (fun e w' => E.ex e ρ w')) (fun e w' => E.ex e ρ w')
theorem dsowni (i : Nat) {x : Str} {ix e : Expr} {mi me : DEnv → M BW D} {p pos pos' : Pos} (hi : DE (GB I K) X Wx ix mi) (he : DE (GB I K) X Wx e me) (hN : X.N[i]? = some x := by rfl) (hv : Vis X.env.scope x := by first | exact Or.inl rfl | exact Or.inr (Or.inl rfl) | exact Or.inr (Or.inr rfl))
    (hd : (x == ("__debug__" : Str)) = false := by decide) (hcd : (x == ("__classdict__" : Str)) = false := by decide) (hg : ∀ (to ti : TE) (t : TSet), PE X (.Name x p) to → PE X ix ti → PSet X t → PG X (.Subscript (.Name x p) ix pos') (gSub to ti t) := by exact fun _ _ _ a b c => pg_sub a b c)
    (ha : ∀ (te : TE) (g : TG), PE X e te → PG X (.Subscript (.Name x p) ix pos') g → PS X (.Assign [.Subscript (.Name x p) ix pos'] e pos) (tAsg te g) := by exact fun _ _ a b => ps_asg a b) : DS (GB I K) en X Wx (.Assign [.Subscript (.Name x p) ix pos'] e pos) (sOwnI i mi me) := by
  have mono : MonoS (sOwnI i mi me) := fun ρ w E E' l q => he.mono ρ w _ _ _ _ (fun d w1 ⟨ds, e1, z⟩ => ⟨ds, e1, hi.mono ρ w1 _ _ _ _ (fun y w3 ⟨k, j, e2, e3, z⟩ => ⟨k, j, e2, e3, l.nx _ _ z⟩) (fun _ _ z => l.ex _ _ _ z) z⟩) (fun _ _ z => l.ex _ _ _ z) q
  refine ⟨PS.imp (ha _ _ he.pe (hg _ _ _ (pv i hN hv hd hcd) hi.pe set_list)) fun De σ H ⟨ps, A, F, ρ, w, E, cc, l, q⟩ => ?_, mono⟩
  refine atE he.mono cc l q fun d v w1 H1 A1 F1 c1 rd ⟨ds, e1, z⟩ => ?_
  obtain ⟨a, xs, f1, f2, f3, f4, f5, f6⟩ := c1.env.own i ds e1
  refine ⟨_, f1, A1, F1, ρ, w1, _, c1.ok, c1.env, l.exo c1, hi.mono ρ w1 _ _ _ _ (fun y w3 ⟨k, j, e2, e3, zz⟩ t H3 A3 F3 s3 k3 ry => ?_) (fun _ _ z => z) z⟩
  subst e2
  cases ry
  have c3 := c1.step s3 k3
  have rd3 := rd.mono (s3.keeps c1.ok.af)
  obtain ⟨a', xs', g1, g2, g3, g4, g5, g6⟩ := c3.env.own i ds e1
  rw [f1] at g1; cases g1
  refine ⟨a, xs', k, j, rfl, rfl, g2, by rw [g6.length]; exact e3, l.nx _ _ _ _ _ _ (c3.write_own e1 f1 (RepL.set rd3 j g6) ?_) zz⟩
  rw [List.length_set]; exact g5
end
/-! ### x.insert(k, e), x an own list -/
section
variable {G : Wd} {X : Cx} {Wx : WX} {W : Type} {en : En}
def sIns (i : Nat) (m : DEnv → M W (List D)) : MS W := fun ρ w E => ∃ ds, ρ[i]? = some (some (.own ds)) ∧ m ρ w (fun as w' => ∃ k d, as = [.int k, d] ∧ ds.length < LB ∧ 0 ≤ k ∧ k < 2 ^ 63 ∧ E.nx (ρ.set i (some (.own (ds.take k.toNat ++ [d] ++ ds.drop k.toNat)))) w') (fun e w' => E.ex e ρ w')
theorem dsins (i : Nat) {x : Str} {e : Expr} {es : List Expr} {m : DEnv → M G.W (List D)} {p apos cpos pos : Pos} (he : DA G X Wx (e :: es) m) (hN : X.N[i]? = some x := by rfl) (hv : Vis X.env.scope x := by first | exact Or.inl rfl | exact Or.inr (Or.inl rfl) | exact Or.inr (Or.inr rfl))
    (hd : (x == ("__debug__" : Str)) = false := by decide) (hcd : (x == ("__classdict__" : Str)) = false := by decide)
    (hbase : attributeBase (.Name x p) "insert" X.env (eval (.Name x p) X.env) = eval (.Name x p) X.env := by rfl)
    (hfew : ((backTo cpos (starEach (e :: es) X.env)).all (fun x => !x.1) && (backToKw cpos (keywordEach [] X.env)).all (fun x => x.1.isSome) && decide ((e :: es).length + ([] : List Keyword).length + (if ([] : List Keyword).isEmpty then 0 else 1) < 30)) = true := by rfl)
    (hline : (apos.endLine == cpos.line) = true := by rfl) (hst : starEach (e :: es) X.env = (false, eval e X.env) :: starEach es X.env := by rfl) (hplain : (backTo cpos (starEach es X.env)).any (·.1) = false := by rfl)
    (hs : swapsWith (.Call (.Attribute (.Name x p) "insert" apos) (e :: es) [] cpos) none pos.line X.env = pure false := by rfl) :
    DS G en X Wx (.Expr (.Call (.Attribute (.Name x p) "insert" apos) (e :: es) [] cpos) pos) (sIns i m) := by
  refine ⟨PS.imp (ps_expr (pe_bm PySem.F.plainAttrs_list PySem.F.slot_list_insert PySem.F.type_list_insert mt_insert (pv i hN hv hd hcd) he.pe hbase hfew hline hst hplain) hs) fun De σ H ⟨ps, A, F, ρ, w, E, c, l, ds, e1, q⟩ => ?_,
    fun ρ w E E' l ⟨ds, e1, q⟩ => ⟨ds, e1, he.mono ρ w _ _ _ _ (fun d w' ⟨k, y, e2, h1, h2, h3, z⟩ => ⟨k, y, e2, h1, h2, h3, l.nx _ _ z⟩) (fun _ _ z => l.ex _ _ _ z) q⟩⟩
  obtain ⟨a, xs, f1, f2, f3, f4, f5, f6⟩ := c.env.own i ds e1
  refine ⟨_, f1, .inl ⟨rfl, xs, SqL.of f2⟩, atA he.mono c l q fun as vs w' H' A' F' c' rp ⟨k, d, e2, hl, k0, k1, z⟩ => ?_⟩
  subst e2
  cases rp with
  | cons r1 rp => cases rp with
    | cons r2 rp => cases rp with
      | nil =>
        cases r1
        obtain ⟨a', xs', g1, g2, g3, g4, g5, g6⟩ := c'.env.own i ds e1
        rw [f1] at g1; cases g1
        have hl' : xs'.length < LB := by rw [g6.length]; exact hl
        refine ⟨a, xs', k, _, rfl, rfl, g2, lineLt _ (Nat.le_of_lt hl'), k0, k1, l.nx _ _ _ _ _ _ (c'.write_own e1 f1 (((g6.take _).append (.cons r2 .nil)).append (g6.drop _)) ?_) z⟩
        simp only [List.length_append, List.length_take, List.length_drop, List.length_cons, List.length_nil]
        omega
end
end DL

namespace DL
open PySem PySem.Spec PyProof.Rows L2
/-! ### a comprehension that an exception may leave: the block's own frame is known -/
section
variable {M : Model} {A : Around} {E : Value → Shared → Prop} {env : Env} {s : Shared}
/-- the block's environment, as it runs -/
def blkEnv (sc : Scope) (env c : Env) : Env := { c with scope := relabel sc env }
def postX (M : Model) (A : Around) (E : Value → Shared → Prop) (Q : Value → Shared → Prop) (acc : Value) (c : Env) (r : Result) (t : Shared) : Prop :=
  ∃ m, t.heap.Ns c.locals m ∧ ∀ g, Heap.SameBut c.locals t.heap g → match r with
    | .ok _ => Q acc { t with heap := g }
    | .error u => wpAny M A (passOn "comprehension.variables-let-go" u c : Sem Value) (fun _ _ => False) E { t with heap := g }
theorem comp_leaves {e : Expr} {sc : Scope} {pos : Pos} {mk fst : Sem Value} {g : Comprehension} {gs : List Comprehension} {cl : List (Str × Addr)} {Q : Value → Shared → Prop} (ec : clausesOf e = g :: gs) (es : ∀ x, foldedSetIterable g.iter env x = pure x) (eo : closureFor sc env = pure cl)
    (ek : sc.kind = .function) (en : ∀ x ∈ sc.names, x.2 = .local → sc.names.lookup x.1 = some .local)
    (h : wpAny M A fst (fun x s1 => wpAny M A (pyIter x) (fun it s2 => wpAny M A mk (fun acc s3 => wpAny M A (newFunctionEnv sc env.globals cl [] env.qual none .none (some env)) (fun c s4 =>
      codeAny M A (.compStart e 0 it acc (blkEnv sc env c)) (postX M A E Q acc (blkEnv sc env c)) s4) E s3) E s2) E s1) E s) : wpAny M A (comprehension e sc env pos mk false fst none) Q E s := by
  have raw : ∀ {α : Type} {t : Sem α} {P P' : α → Shared → Prop} {u : Shared}, wpAny M A t P E u → (∀ a v, P a v → P' a v) → wpAny M A t P' E u := fun a b => wpAny_mono a b fun _ _ z => z
  unfold comprehension
  rw [eo, ec]
  refine wpAny_bind (raw h fun x s1 h1 => ?_)
  refine wpAny_bind (wpAny_standAt ?_)
  refine wpAny_bind (wpAny_of_eq (es x) ?_)
  refine wpAny_bind (wpAny_holding (raw h1 fun it s2 h2 => ?_))
  refine wpAny_standIf ?_
  refine wpAny_bind (raw h2 fun acc s3 h3 => ?_)
  refine wpAny_bind (wpAny_pure ?_)
  refine wpAny_bind (raw h3 fun c s4 h4 => ?_)
  dsimp only
  refine wpAny_holding (wpAny_bind (wpAny_attempt (wpAny_holding (wpAny_run (codeAny_mono h4 fun r t hr => ?_)))))
  obtain ⟨m, hm, hr⟩ := hr
  have loc : ∀ x ∈ (sc.names.filter fun x => (x.2 == .local || x.2 == .cell) && x.1 != (".0" : Str)).reverse, x.2 = .local → Env.kindOf (blkEnv sc env c) x.1 = some .local := fun x hx hl => by
    have hx' := List.mem_filter.mp (List.mem_reverse.mp hx)
    exact lookup_relabel_local (en x hx'.1 hl)
  cases r with
  | ok f =>
    refine wpAny_bind (wpAny_holding ?_)
    exact wpAny_comp_letGo (cenv := blkEnv sc env c) ek _ t m loc hm fun g _ _ hg => wpAny_pure (hr g hg)
  | error u =>
    refine wpAny_bind (wpAny_holding ?_)
    exact wpAny_comp_letGo (cenv := blkEnv sc env c) ek _ t m loc hm fun g _ _ hg => raw (hr g hg) fun _ _ z => z.elim
/-- whose frame it is, is all that counts where an exception passes -/
theorem note_alike {u : Value} {c d : Env} (h : c.frame = d.frame) : noteFrame u c = noteFrame u d := by
  unfold noteFrame PySem.frameOf
  rw [h]
theorem pass_alike {α : Type} {what : String} {u : Value} {c d : Env} (h : c.frame = d.frame) : (passOn what u c : Sem α) = passOn what u d := by
  unfold PySem.passOn
  rw [h]
theorem notedBy_alike {c d : Env} (h : c.frame = d.frame) : notedBy M A c E = notedBy M A d E := by
  funext u t
  unfold notedBy
  rw [note_alike h]
end
/-! ### the def's frame is noted, whatever flight was there, but not this frame's -/
section
variable {M : Model} {A : Around} {E : Value → Shared → Prop} {env : Env} {outer : List Env} {s : Shared} {base : Heap} {e L : Addr} {Z : Obj → Prop} {fl : Value}
theorem note_lands {Q : Unit → Shared → Prop} (hZ : HandSPX.Steady Z) (fr : A.frames = some (env :: outer)) (ef : env.frame = some L) (hB : base.StaysIn s.heap) (hn : base.get? e = none) (hl : s.heap.FunFrames base (env :: outer)) (ht : HandSPX.TracedZ s.heap base e Z fl) (ne : (fl == rawInt L) = false)
    (k : ∀ g, HandSPX.HeldZ base (env :: outer) e Z L g → s.heap.UpToSlots g → Q () { s with heap := g }) : wpAny M A (noteFrame (.ref e) env) Q E s := by
  obtain ⟨o, vs, T, oT, ts, a1, a2, a3, a4, a5, a6, a7, a8, a9⟩ := ht
  have sz1 := (Array.getElem?_eq_some_iff.mp a4).1
  have sz3 := (Array.getElem?_eq_some_iff.mp a9).1
  unfold noteFrame
  simp only [ef]
  refine wpAny_bind (wpAny_field a1 a3 a4 ?_)
  rw [if_pos (show (Value.ref T != Value.none) = true by simp)]
  refine wpAny_bind (wpAny_field a7 a8 a9 ?_)
  rw [if_neg (by rw [ne]; decide)]
  refine wpAny_bind (wpAny_setField a7 a8 sz3 ?_)
  generalize hg : s.heap.update T (Obj.mapFields (·.setIfInBounds 3 Value.none)) = g
  have away : ∀ b, b ≠ T → g.get? b = s.heap.get? b := fun b hb => by rw [← hg]; exact Heap.get?_update_other _ _ (Ne.symm hb)
  have plain : ∀ b p, s.heap.get? b = some p → (∀ us, p.data ≠ .fields us) → b ≠ T := fun b p hb hp z => by
    rw [z, a7] at hb
    cases hb
    exact hp ts a8
  have low : ∀ b p, base.get? b = some p → b ≠ T := fun b p hb z => by rw [z, a5] at hb; cases hb
  have fun1 : g.FunFrames base (env :: outer) := hl.of_keeps fun b p hb hp => ⟨p, (away b (plain b p hb hp)).trans hb, rfl⟩
  have stay1 : base.StaysIn g := fun b p hb => (away b (low b p hb)).trans (hB b p hb)
  refine HandSPX.wpAny_entryZ (L := L) hZ fr fun1 ef ((away e (Ne.symm a6)).trans a1) stay1 hn a3 sz1 a2 fun h2 N => ?_
  exact k h2 ⟨N.1, hn, N.2.1, N.2.2.1⟩ fun b p hb hp => N.2.2.2 b p ((away b (plain b p hb hp)).trans hb) hp
theorem raw_ne {x y : Addr} (h : x ≠ y) : (rawInt x == rawInt y) = false := by
  rw [beq_eq_false_iff_ne]
  intro z
  unfold rawInt at z
  injection z with z
  exact h (Int.ofNat.inj z)
theorem sky_notes {C : Addr} {Q : Unit → Shared → Prop} (hZ : HandSPX.Steady Z) (fr : A.frames = some (env :: outer)) (ef : env.frame = some L) (ne : C ≠ L) (x : Sky base (env :: outer) e Z C s.heap)
    (k : ∀ g, HandSPX.HeldZ base (env :: outer) e Z L g → s.heap.UpToSlots g → Q () { s with heap := g }) : wpAny M A (noteFrame (.ref e) env) Q E s := by
  rcases x with ⟨b1, b2, b3, o, vs, b4, b5, b6, b7⟩ | ⟨b1, b2, b3, b4⟩ | ⟨b1, b2, b3, b4⟩
  · exact HandSPX.look_newZ hZ fr b3 ef b4 b1 b2 b6 b7 b5 k
  · exact note_lands hZ fr ef b1 b2 b3 b4 (by simp [rawInt]) k
  · exact note_lands hZ fr ef b1 b2 b3 b4 (raw_ne ne) k
theorem pass_held {what : String} {α : Type} {Q : α → Shared → Prop} (ef : env.frame = some L) (hB : base.StaysIn s.heap) (hn : base.get? e = none) (hl : s.heap.FunFrames base (env :: outer)) (ht : HandSPX.TracedZ s.heap base e Z fl)
    (k : ∀ g, HandSPX.HeldZ base (env :: outer) e Z L g → s.heap.UpToSlots g → E (.ref e) { s with heap := g }) : wpAny M A (passOn what (.ref e) env : Sem α) Q E s := by
  obtain ⟨o, vs, T, oT, ts, a1, a2, a3, a4, a5, a6, a7, a8, a9⟩ := ht
  have sz3 := (Array.getElem?_eq_some_iff.mp a9).1
  unfold PySem.passOn
  refine wpAny_bind (wpAny_field a1 a3 a4 ?_)
  rw [if_neg (show ¬ ((Value.ref T == Value.none) = true) by simp), ef]
  have low : ∀ b p, base.get? b = some p → b ≠ T := fun b p hb z => by rw [z, a5] at hb; cases hb
  have fly : wpAny M A (setFlight (.ref e) (some L)) (fun _ t => wpAny M A (throw (.ref e) : Sem α) Q E t) E s := by
    unfold setFlight
    refine wpAny_bind (wpAny_field a1 a3 a4 ?_)
    rw [if_pos (show (Value.ref T != Value.none) = true by simp)]
    refine wpAny_setField a7 a8 sz3 (wpAny_throw ?_)
    show E (.ref e) { s with heap := s.heap.update T (Obj.mapFields (·.setIfInBounds 3 (rawInt L))) }
    generalize hg : s.heap.update T (Obj.mapFields (·.setIfInBounds 3 (rawInt L))) = g
    have away : ∀ b, b ≠ T → g.get? b = s.heap.get? b := fun b hb => by rw [← hg]; exact Heap.get?_update_other _ _ (Ne.symm hb)
    have plain : ∀ b p, s.heap.get? b = some p → (∀ us, p.data ≠ .fields us) → b ≠ T := fun b p hb hp z => by
      rw [z, a7] at hb
      cases hb
      exact hp ts a8
    refine k g ⟨fun b p hb => (away b (low b p hb)).trans (hB b p hb), hn, hl.of_keeps fun b p hb hp => ⟨p, (away b (plain b p hb hp)).trans hb, rfl⟩, o, vs, T, _, _, (away e (Ne.symm a6)).trans a1, a2, a3, a4, a5, a6, ?_, Obj.data_mapFields a8 (·.setIfInBounds 3 (rawInt L)), ?_⟩ fun b p hb hp => ⟨p.slots, (away b (plain b p hb hp)).trans hb⟩
    · rw [← hg]; exact Heap.get?_update_self _ a7 (Obj.isFreed_of_fields (Obj.data_mapFields a8 _))
    · simp [sz3]
  first
    | exact wpAny_bind (wpAny_pure (wpAny_bind fly))
    | exact wpAny_bind fly
end
end DL

namespace DL
open PySem PySem.Spec PyProof.Rows L2
/-! ### what is in the air within a comprehension's block, once it is out -/
section
variable {X : Cx} {W : WX} {pins : List (Addr × Obj)} {σ : L2.St} {H3 : Hp} {s3 : Shared} {sc : Scope} {ce : Env} {fp : List Addr} {Qf : Value → Shared → Prop} {acc : Value}
/-- the block's wish: an exception that leaves it is let out of the comprehension -/
def blkXe (X : Cx) (Qf : Value → Shared → Prop) (acc : Value) (ce : Env) : Value → Shared → Prop := notedBy (model X.prog X.w) X.A ce fun u t => postX (model X.prog X.w) X.A X.xe Qf acc ce (.error u) t
abbrev blkX (X : Cx) (s : Shared) (H : Hp) (sc : Scope) (ce : Env) (fp : List Addr) (Qf : Value → Shared → Prop) (acc : Value) : Cx := { X.blk s H sc ce fp with xe := blkXe X Qf acc ce }
theorem fun_over {h h' b b1 : Heap} {C : Addr} (same : ∀ x, x ≠ C → h'.get? x = h.get? x) (no : ∀ x, b.get? x = none → b1.get? x = none) : ∀ l : List Env, C ∉ frs l → h.FunFrames b l → h'.FunFrames b1 l
  | [], _, _ => trivial
  | e :: r, nc, ⟨k, ⟨L, o, e1, e2, e3, e4⟩, rest⟩ => ⟨k, ⟨L, o, e1, no L e2, (same L fun z => nc (List.mem_filterMap.mpr ⟨e, List.mem_cons_self, by rw [e1, z]⟩)).trans e3, e4⟩, fun_over same no r (fun z => nc (by
      obtain ⟨y, hy, ey⟩ := List.mem_filterMap.mp z
      exact List.mem_filterMap.mpr ⟨y, List.mem_cons_of_mem _ hy, ey⟩)) rest⟩
theorem air_out (T : Takes X W) (hs : X.stack = X.env :: X.outer) (hf : X.env.frame = some X.env.locals) (I3 : Inv X pins σ H3 s3) (f3 : ∀ b ∈ fp, FpOk X pins H3 b ∧ b < s3.heap.objs.size) (cf : ce.frame = X.env.frame) (cL : ce.locals = s3.heap.objs.size) :
    Takes (blkX X s3 H3 sc ce fp Qf acc) (fun cls d _ G => W cls d σ G) := by
  rintro u s' ⟨a, B, sI, pinsB, τ, G, cls, d, rfl, J, nb, up, sky, na, os, ag, w⟩
  have fr : X.A.frames = some (X.env :: X.outer) := by rw [I3.ok.frames, hs]
  show blkXe X Qf acc ce (.ref a) s'
  unfold blkXe
  rw [notedBy_alike cf]
  unfold notedBy
  have skyX : Sky B (X.env :: X.outer) a (Zc cls d) ce.locals s'.heap := by rw [← hs]; exact sky
  have nC : G ce.locals = none := J.free
  have fC : FpOk X pins G ce.locals := I3.fpOk (by rw [cL]; exact Nat.le_refl _) nC
  have cne : ce.locals ≠ X.env.locals := fC.2.1
  refine sky_notes Zc.steady fr hf cne skyX fun g hg up1 => ?_
  have hgX : HandSPX.HeldZ B X.stack a (Zc cls d) X.env.locals g := by rw [hs]; exact hg
  have JG : Inv (blkX X s3 H3 sc ce fp Qf acc) pinsB τ G { s' with heap := g } := J.landed nb hg.1 (up.trans up1) os ag
  obtain ⟨m, hn, hm⟩ := JG.loc
  refine ⟨m, hn, fun g2 sb => ?_⟩
  show wpAny _ _ (passOn "comprehension.variables-let-go" (.ref a) ce : Sem Value) _ _ _
  rw [pass_alike cf]
  obtain ⟨B1, in1, out1⟩ := restrict B fun y => decide (y ≠ ce.locals)
  have inB : ∀ b, b ≠ ce.locals → B1.get? b = B.get? b := fun b hb => in1 b (decide_eq_true hb)
  have outB : B1.get? ce.locals = none := out1 _ (decide_eq_false fun z => z rfl)
  have leB : ∀ b o, B1.get? b = some o → b ≠ ce.locals ∧ B.get? b = some o := fun b o e => by
    have ne : b ≠ ce.locals := fun z => by rw [z, outB] at e; cases e
    exact ⟨ne, (inB b ne).symm.trans e⟩
  have noB : ∀ b, B.get? b = none → B1.get? b = none := fun b e => by
    by_cases z : b = ce.locals
    · rw [z]; exact outB
    · rw [inB b z]; exact e
  have frC : ce.locals ∉ frs X.stack := fun z => by
    rw [hs] at z
    simp only [frs, List.filterMap_cons, hf, List.mem_cons] at z
    exact z.elim cne fC.2.2.1
  obtain ⟨oC, es, ep, hoC, rC⟩ := hn
  have dC : ∀ us, oC.data ≠ .fields us := fun us z => by
    rw [rC.1] at z
    cases z
  have notC : ∀ b o us, g.get? b = some o → o.data = .fields us → b ≠ ce.locals := fun b o us e1 e2 z => by
    rw [z, hoC] at e1
    cases e1
    exact dC us e2
  have same : ∀ b, b ≠ ce.locals → g2.get? b = g.get? b := fun b hb => sb.2 b hb
  have stay2 : B1.StaysIn g2 := fun b o e => (same b (leB b o e).1).trans (hg.1 b o (leB b o e).2)
  have fun2 : g2.FunFrames B1 (X.env :: X.outer) := fun_over same noB _ (by rw [← hs]; exact frC) hg.2.2.1
  obtain ⟨o, vs, Tb, oT, ts, a1, a2, a3, a4, a5, a6, a7, a8, a9⟩ := hg.2.2.2
  have tr2 : HandSPX.TracedZ g2 B1 a (Zc cls d) (rawInt X.env.locals) := ⟨o, vs, Tb, oT, ts, (same a (notC a o vs a1 a3)).trans a1, a2, a3, a4, noB Tb a5, a6, (same Tb (notC Tb oT ts a7 a8)).trans a7, a8, a9⟩
  refine pass_held hf stay2 (noB a hg.2.1) fun2 tr2 fun g3 held up3 => ?_
  obtain ⟨h0, in0, out0⟩ := restrict sI.heap fun y => decide (y ≠ ce.locals)
  have inI : ∀ b, b ≠ ce.locals → h0.get? b = sI.heap.get? b := fun b hb => in0 b (decide_eq_true hb)
  have leI : ∀ b o, h0.get? b = some o → b ≠ ce.locals ∧ sI.heap.get? b = some o := fun b o e => by
    have ne : b ≠ ce.locals := fun z => by rw [z, out0 _ (decide_eq_false fun z => z rfl)] at e; cases e
    exact ⟨ne, (inI b ne).symm.trans e⟩
  have IX : Inv X pins σ G sI := I3.call' (ch := fp) J.os J.base J.hok J.bare fun b hb => ⟨(f3 b hb).1.2.2.2.1, (f3 b hb).1.2.1, (f3 b hb).1.2.2.2.2.1, (f3 b hb).1.2.2.2.2.2⟩
  have I0 : Inv X pins σ G { sI with heap := h0 } := IX.turned (t' := sI.toks) (fun b o hb e => (inI b hb).trans e) nC fC.2.1 fC.2.2.2.1 fC.2.2.2.2.1 fC.2.2.2.2.2
  refine T _ _ ⟨a, B1, { sI with heap := h0 }, pins, σ, G, cls, d, rfl, I0, fun b p e hb => ?_, fun b p e hp => ?_, .inr (.inr (by rw [hs]; exact held)), na, os, ag, w⟩
  · rw [inB b (leI b p e).1]
    exact nb b p (leI b p e).2 hb
  · obtain ⟨ne, e⟩ := leI b p e
    obtain ⟨s1, e1⟩ := (up.trans up1) b p e hp
    exact up3 b _ ((same b ne).trans e1) hp |>.imp fun _ z => z
end
/-! ### the comprehension -/
section
variable {X : Cx} {W : WX}
/-- the wish of the block: the slots are the def's own -/
abbrev wBlk (W : WX) (σ : L2.St) : WX := fun cls d _ G => W cls d σ G
def tLx (W : WX) (wi : TI) (g : TG) (tt : TT) (te : WX → TE) (vs : List Nat) : TE := fun σ H Q => tLc wi g tt (te (wBlk W σ)) vs σ H Q
theorem pe_lx {elt tg iter : Expr} {ifs : List Expr} {sc : Scope} {own : List (Str × Nat)} {pos : Pos} {wi : TI} {g : TG} {tt : TT} {te : WX → TE} (TW : Takes X W) (hst : X.stack = X.env :: X.outer) (hfr : X.env.frame = some X.env.locals) (hc : X.calm = true) (hN : X.N.Nodup) (hi : PI X tg iter wi) (ok : BlkOk X.N X.env.scope sc own)
    (hg : ∀ s H C cl fp Qf acc, PG (blkX X s H sc (compEnvC sc cl C X.env) fp Qf acc) tg g) (ht : ∀ s H C cl fp Qf acc, PTs (blkX X s H sc (compEnvC sc cl C X.env) fp Qf acc) ifs tt)
    (he : ∀ s H C cl fp Qf acc (V : WX), Takes (blkX X s H sc (compEnvC sc cl C X.env) fp Qf acc) V → PE (blkX X s H sc (compEnvC sc cl C X.env) fp Qf acc) elt (te V)) (hs : ∀ x, foldedSetIterable iter X.env x = pure x := by intro _; rfl) :
    PE X (.ListComp elt [⟨tg, iter, ifs, 0⟩] sc pos) (tLx W wi g tt te (own.map (·.2))) := by
  refine ⟨fun pins s σ H Q I h => ?_⟩
  rw [eval_ListComp]
  have free : ∀ y ∈ sc.names, y.2 = .free → ∃ c, X.env.cells.lookup y.1 = some c := fun y hy e => (ok.free y hy e).elim (fun k => I.ok.has _ (.inl k)) fun k => I.ok.has _ (.inr k)
  refine comp_leaves rfl hs (closure_ok free) ok.kind (fun y hy e => (ok.uniq y hy).trans (congrArg some e)) ?_
  refine thn (hi.run pins s σ H _ I h) fun xv s1 hx => ?_
  refine thn hx fun itv s2 h2 => ?_
  obtain ⟨it, fp, tn, J, H2, e, I2, T, st2, f2, q⟩ := h2
  subst e
  refine wpAny_newObj_type (newEnv_comp ?_) (by show 0 ≤ sizeLine; decide)
  generalize hD : s2.heap.objs.size = D
  have newD : H2 D = none := I2.hok.fresh (Nat.le_of_eq hD)
  obtain ⟨Wt, ⟨m0, w0⟩, turn⟩ := q D newD
  generalize e3 : ({ s2 with heap := s2.heap.push { cls := .type "list", data := .seq ([] : List Value).toArray } } : Shared) = s3
  have p3 : s3.heap = s2.heap.push { cls := .type "list", data := .seq ([] : List Value).toArray } := by rw [← e3]
  have J3 : Inv X pins σ (upd H2 D (.lst [])) s3 := by
    subst e3
    exact I2.laid (t' := s2.toks) (fun b o e => Heap.get?_push_of_some _ e) (Nat.le_of_eq hD) ⟨Nat.zero_le _, [], 0, .nil, by rw [← hD]; exact Heap.get?_push_size _ rfl⟩
  have lt2 : ∀ b ∈ fp, b < s2.heap.objs.size := fun b hb => (T.obj _ _ st2 b hb).elim fun o e => Heap.lt_size e.1
  have f3 : ∀ b ∈ fp, FpOk X pins (upd H2 D (.lst [])) b ∧ b < s3.heap.objs.size := fun b hb => by
    have lt := lt2 b hb
    have un : upd H2 D (.lst []) b = none := by rw [upd_ne (by rw [← hD]; exact Nat.ne_of_lt lt)]; exact (f2 b hb).1
    exact ⟨⟨un, (f2 b hb).2⟩, by rw [p3, Heap.size_push]; exact Nat.lt_succ_of_lt lt⟩
  have t3 : tn 0 s3.heap := T.keep _ _ _ st2 fun b _ o e => by rw [p3]; exact Heap.get?_push_of_some _ e
  have J4 := block_start J3 ok hN f3
  show codeAny _ _ (.compStart (.ListComp elt [⟨tg, iter, ifs, 0⟩] sc pos) 0 (.ref it) (.ref D) (compEnvC sc (cellsFrom (s3.heap.objs.size + 1) sc.names (cloFrom X.env.cells sc.names [])) s3.heap.objs.size X.env))
    (postX (model X.prog X.w) X.A X.xe (EP X pins σ Q) (.ref D) (compEnvC sc (cellsFrom (s3.heap.objs.size + 1) sc.names (cloFrom X.env.cells sc.names [])) s3.heap.objs.size X.env)) { s3 with heap := pushCells (s3.heap.push { cls := .type "dict", data := .dict #[] }) sc.names }
  generalize hcl : cellsFrom (s3.heap.objs.size + 1) sc.names (cloFrom X.env.cells sc.names []) = cl at J4 ⊢
  generalize hH : upd H2 D (.lst []) = H3 at J3 J4 w0 f3
  have air := air_out (W := W) (sc := sc) (ce := compEnvC sc cl s3.heap.objs.size X.env) (Qf := EP X pins σ Q) (acc := .ref D) TW hst hfr J3 f3 rfl rfl
  have pg := hg s3 H3 s3.heap.objs.size cl fp (EP X pins σ Q) (.ref D)
  have pt := ht s3 H3 s3.heap.objs.size cl fp (EP X pins σ Q) (.ref D)
  have pe := he s3 H3 s3.heap.objs.size cl fp (EP X pins σ Q) (.ref D) _ air
  have nofp : ∀ b ∈ fp, H3 b = none := fun b hb => (f3 b hb).1.1
  generalize hs4 : ({ s3 with heap := pushCells (s3.heap.push { cls := .type "dict", data := .dict #[] }) sc.names } : Shared) = s4 at J4 ⊢
  have t4 : tn 0 s4.heap := T.keep _ _ _ t3 fun b _ o e => by rw [← hs4]; exact pushCells_keeps _ _ _ _ (Heap.get?_push_of_some _ e)
  generalize hce : compEnvC sc cl s3.heap.objs.size X.env = ce at J4 pg pt pe air ⊢
  have cL : ce.locals = s3.heap.objs.size := by subst hce; rfl
  have K4 : Inv (blkX X s3 H3 sc ce fp (EP X pins σ Q) (.ref D)) [] (wipe σ (own.map (·.2))) H3 s4 := J4.toTry (blkXe X (EP X pins σ Q) (.ref D) ce)
  have stat : ∀ {τ : L2.St} {G : Hp} {t : Shared}, Inv (blkX X s3 H3 sc ce fp (EP X pins σ Q) (.ref D)) [] τ G t → (∀ b ∈ fp, G b = none) → ∀ b ∈ fp, FpOk (blkX X s3 H3 sc ce fp (EP X pins σ Q) (.ref D)) [] G b := fun {τ G t} J no b hb =>
    ⟨no b hb, (J.ok.exf b hb).1, J.ok.exfs b hb, .inl hb, (J.ok.exf b hb).2, fun p hp => nomatch (show p ∈ ([] : List (Addr × Obj)) from hp)⟩
  have loop : codeAny (model X.prog X.w) X.A (.compLoop (.ListComp elt [⟨tg, iter, ifs, 0⟩] sc pos) 0 (.ref it) (.ref D) ce) (postX (model X.prog X.w) X.A X.xe (EP X pins σ Q) (.ref D) ce) s4 := by
    refine compLoop_any (fun n t => ∃ i G, Inv (blkX X s3 H3 sc ce fp (EP X pins σ Q) (.ref D)) [] (wipe σ (own.map (·.2))) G t ∧ tn i t.heap ∧ (∀ b ∈ fp, G b = none) ∧ Wt i n G) ?_ m0 ⟨0, H3, K4, t4, nofp, w0⟩
    rintro n s5 ⟨i, H5, I5, t5, n5, w5⟩
    rcases turn i n H5 w5 with ⟨stop, qq⟩ | ⟨go, Nx, hNx, step⟩
    · have td := T.done (blkX X s3 H3 sc ce fp (EP X pins σ Q) (.ref D)) rfl rfl rfl hc i [] s5 _ H5 (fun _ _ => False) I5 (stat I5 n5) t5 stop
      refine thnF td fun r s6 got => ?_
      obtain ⟨er, I6⟩ := got
      subst er
      have I7 : Inv X pins σ H5 s6 := J3.call' (ch := fp) I6.os I6.base I6.hok I6.bare fun b hb => ⟨(f3 b hb).1.2.2.2.1, (f3 b hb).1.2.1, (f3 b hb).1.2.2.2.2⟩
      have nC : H5 ce.locals = none := I6.free
      have fC : FpOk X pins H5 ce.locals := J3.fpOk (by rw [cL]; exact Nat.le_refl _) nC
      obtain ⟨m, hm, _⟩ := I6.loc
      exact ⟨m, hm, fun g2 sb => ⟨.ref D, H5, I7.turned (t' := s6.toks) (fun b o hb e => (sb.2 b hb).trans e) nC fC.2.1 fC.2.2.2.1 fC.2.2.2.2.1 fC.2.2.2.2.2, rfl, qq⟩⟩
    · have ti := T.item (blkX X s3 H3 sc ce fp (EP X pins σ Q) (.ref D)) rfl rfl rfl hc i [] s5 _ H5 (fun _ _ => False) I5 (stat I5 n5) t5 go
      refine thnF ti fun r s6 got => ?_
      obtain ⟨u, er, h6⟩ := got
      subst er
      refine thnF h6 fun _ s7 got7 => ?_
      obtain ⟨x, H7, I7, r7, y7, t7, n7⟩ := got7
      have I8 := I7.pinned (stat I7 n7) (T.obj _ _ t7)
      refine wpAny_mono (pg.run _ s7 _ H7 x u _ I8 r7 (step x H7 y7)) (fun _ s8 got8 => ?_) fun _ _ z => z
      obtain ⟨σ8, H8, I9, ew, q8⟩ := got8
      refine wpAny_mono (pt.run _ s8 σ8 H8 _ I9 q8) (fun b s9 got9 => ?_) fun _ _ z => z
      obtain ⟨H9, I10, q9⟩ := got9
      have fin : ∀ {t : Shared} {G : Hp}, Inv (blkX X s3 H3 sc ce fp (EP X pins σ Q) (.ref D)) ([] ++ pinsAt fp s7.heap) σ8 G t → Nx G → ∃ m, m < n ∧ ∃ i G, Inv (blkX X s3 H3 sc ce fp (EP X pins σ Q) (.ref D)) [] (wipe σ (own.map (·.2))) G t ∧ tn i t.heap ∧ (∀ b ∈ fp, G b = none) ∧ Wt i m G := fun {t G} J nx => by
        obtain ⟨m2, less, w2⟩ := hNx G nx
        have pin : ∀ b ∈ fp, ∀ o, s7.heap.get? b = some o → t.heap.get? b = some o ∧ G b = none := fun b hb o e => by
          have z := J.pin (b, o) (List.mem_append_right _ (List.mem_append_right _ (mem_pinsAt hb e)))
          exact ⟨z.1, z.2.1⟩
        have len : (wipe σ (own.map (·.2))).length = σ8.length := by rw [← ew]; exact wipe_length _ _
        refine ⟨m2, less, i + 1, G, (J.unpinned (pins := [])).weak len (fun j v e => ?_), T.keep _ _ _ t7 fun b hb o e => (pin b hb o e).1, fun b hb => ?_, w2⟩
        · rw [← ew] at e
          exact (wipe_some e).1
        · obtain ⟨o, e, _⟩ := T.obj _ _ t7 b hb
          exact (pin b hb o e).2
      cases b with
      | false =>
        simp only [if_false, Bool.false_eq_true] at q9 ⊢
        exact fin I10 q9
      | true =>
        simp only [if_true] at q9 ⊢
        refine wpAny_mono (pe.run _ s9 σ8 H9 _ I10 q9) (fun z s10 got10 => ?_) fun _ _ z => z
        obtain ⟨yv, H10, I11, r10, as, at10, few, nx⟩ := got10
        exact app_ok (X := blkX X s3 H3 sc ce fp (EP X pins σ Q) (.ref D)) I11 at10 few r10 fun s11 I12 => fin I12 nx
  exact codeAny_compStart_list loop (T.self X.A 0 _ _ _ t4 loop)
end
end DL

namespace DL
open PySem PySem.Spec PyProof.Rows L2
/-! ### comprehensions whose element may raise -/
section
variable {G : Wd} {X : Cx} {Wx : WX} {W : Type}
def compLX (b : BG) (vs : List Nat) (mt : DEnv → M W Bool) (me : DEnv → M W D) (E : Ex → W → Prop) : List D → List D → DEnv → W → (List D → W → Prop) → Prop
  | [], acc, _, w, Q => Q acc w
  | d :: ds, acc, ρ, w, Q => b d (wipeR ρ vs) fun ρ' => mt ρ' w (fun t w1 => if t = true then me ρ' w1 (fun x w2 => compLX b vs mt me E ds (acc ++ [x]) ρ w2 Q) E else compLX b vs mt me E ds acc ρ w1 Q) (fun _ _ => False)
theorem compLX_mono {b : BG} {g : TG} {vs : List Nat} {mt : DEnv → M W Bool} {me : DEnv → M W D} (r : GRel g b) (ht : ∀ ρ, Mono (mt ρ)) (he : ∀ ρ, Mono (me ρ)) {E E' : Ex → W → Prop} (hE : ∀ e w, E e w → E' e w) : ∀ (ds acc : List D) (ρ : DEnv) (w : W) (Q Q' : List D → W → Prop), (∀ a w, Q a w → Q' a w) → compLX b vs mt me E ds acc ρ w Q → compLX b vs mt me E' ds acc ρ w Q'
  | [], acc, ρ, w, Q, Q', h, q => h _ _ q
  | d :: ds, acc, ρ, w, Q, Q', h, q => r.mono d _ _ _ (fun ρ' z => ht ρ' w _ _ _ _ (fun t w1 z1 => by
      cases t with
      | true => exact he ρ' w1 _ _ _ _ (fun x w2 z2 => compLX_mono r ht he hE ds (acc ++ [x]) ρ w2 Q Q' h z2) hE z1
      | false => exact compLX_mono r ht he hE ds acc ρ w1 Q Q' h z1) (fun _ _ z => z) z) q
def mCompX (b : BG) (vs : List Nat) (mt : DEnv → M W Bool) (me : DEnv → M W D) (mi : DEnv → M W (List D)) : DEnv → M W D := fun ρ w Q E => mi ρ w (fun ds w1 => ds.length ≤ LB ∧ compLX b vs mt me E ds [] ρ w1 (fun out w2 => Q (.lst out) w2)) E
theorem mCompX_mono {b : BG} {g : TG} {vs : List Nat} {mt : DEnv → M W Bool} {me : DEnv → M W D} {mi : DEnv → M W (List D)} (r : GRel g b) (ht : ∀ ρ, Mono (mt ρ)) (he : ∀ ρ, Mono (me ρ)) (hi : ∀ ρ, Mono (mi ρ)) : ∀ ρ, Mono (mCompX b vs mt me mi ρ) :=
  fun ρ w Q Q' E E' hq hE q => hi ρ w _ _ _ _ (fun ds w1 ⟨hl, z⟩ => ⟨hl, compLX_mono r ht he hE ds [] ρ w1 _ _ (fun a w z => hq _ _ z) z⟩) hE q
/-- the turns, an element's exception let out -/
theorem comp_goX {K : PySem.W.Frag} {J : It} {ds : List D} {S : Foot → Foot → Hp → Prop} {H1 : Hp} {A F : Foot} {g : TG} {b : BG} {vs : List Nat} {mt : DEnv → M G.W Bool} {me : DEnv → M G.W D} {σ : St} {ρ : DEnv} {w : G.W} {Q : List D → G.W → Prop} {R : V → Hp → Prop} {Wx : WX} {E : Ex → G.W → Prop}
    (sr : Src G K J ds H1 S) (s0 : S A F H1) (k : G.Ok w H1 A F) (er : EnvRep A F H1 σ ρ) (r : GRel g b) (gw : GWipe g vs) (ht : ∀ ρ, Mono (mt ρ)) (he : ∀ ρ, Mono (me ρ)) (hl : ds.length ≤ LB) (xx : exOk G A F H1 σ Wx E) (z : compLX b vs mt me E ds [] ρ w Q)
    (go : ∀ p xs out w' H' A' F', Stp A F H1 A' F' H' → G.Ok w' H' A' F' → H1 p = none → H' p = some (.lst xs) → F' p → ¬ A' p → xs.length ≤ LB → RepL F' H' xs out → Q out w' → R (.ref p) H') :
    ∀ Dp, H1 Dp = none → ∃ Wv : Nat → Nat → Hp → Prop, (∃ m, Wv 0 m (L2.upd H1 Dp (.lst []))) ∧ ∀ i m H, Wv i m H →
      (J.stop i H ∧ R (.ref Dp) H) ∨ (J.go i H ∧ ∃ Nx : Hp → Prop, (∀ H', Nx H' → ∃ m', m' < m ∧ Wv (i + 1) m' H') ∧ ∀ x H', J.yld i H x H' → g x (L2.wipe σ vs) H' fun σ2 H2 => L2.wipe σ2 vs = L2.wipe σ vs ∧ liftT G W0 mt σ2 H2 fun bb H3 =>
        if bb = true then liftE G (wBlk Wx σ) me σ2 H3 fun y H4 => ∃ acc, H4 Dp = some (.lst acc) ∧ acc.length < sizeLine ∧ Nx (L2.upd H4 Dp (.lst (acc ++ [y]))) else Nx H3) := by
  intro Dp hD
  obtain ⟨n, Gd, Y, hn, wk, hS, hY⟩ := sr.wk
  obtain ⟨k1, st1⟩ := newF (o := .lst []) k hD
  refine lc_it wk (fun i H2 => ∃ A2 F2 w2 xs out, Stp A F H1 A2 F2 H2 ∧ G.Ok w2 H2 A2 F2 ∧ S A2 F2 H2 ∧ H2 Dp = some (.lst xs) ∧ F2 Dp ∧ ¬ A2 Dp ∧ xs.length ≤ i ∧ RepL F2 H2 xs out ∧ compLX b vs mt me E (ds.drop i) out ρ w2 Q) ?_ ?_ ?_ ?_
  · exact ⟨A, _, w, [], [], st1, k1, sr.upd _ _ _ _ _ (.inr rfl) hD (sr.stp _ _ _ _ _ _ ⟨fun _ _ h _ => h, fun _ h => h, fun _ h => .inl h, fun a h => h.elim .inl fun e => .inr (e ▸ hD), fun _ h => h, fun _ h => .inl h⟩ k.af s0), upd_same, .inr rfl, fun q => k.out hD (k.af _ q), Nat.le_refl _, .nil, z⟩
  · rintro i H2 _ ⟨A2, F2, w2, xs, out, _, _, s, _⟩; exact hS _ _ _ s
  · rintro i x H2 H3 hi ⟨A2, F2, w2, xs, out, st2, k2, s2, hd, hf, ha, hle, rl, z2⟩ y
    obtain ⟨d, hdd, rd, kk, st3, s3⟩ := hY i H2 x H3 A2 F2 hi s2 y
    rw [drop_cons hdd] at z2
    have er3 : EnvRep A2 F2 H3 (L2.wipe σ vs) (wipeR ρ vs) := (er.step (st2.trans st3) k.af).wipe vs
    have hd3 : H3 Dp = some (.lst xs) := st3.keep _ _ hd ha
    refine gw x σ H3 _ (r.go A2 F2 H3 _ _ x d _ er3 rd z2 _ fun σ' ρ' r' o' z3 => ?_)
    refine ⟨A2, F2, ρ', w2, _, kk _ k2, r', fun e w' H' A' F' _ _ q => q, ht ρ' w2 _ _ _ _ (fun t w4 z4 H4 A4 F4 st4 k4 => ?_) (fun _ _ z => z) z3⟩
    have s4 := sr.stp _ _ _ _ _ _ st4 k2.af s3
    have hd4 : H4 Dp = some (.lst xs) := st4.keep _ _ hd3 ha
    have rl4 : RepL F4 H4 xs out := (rl.mono (st3.keeps k2.af)).mono (st4.keeps k2.af)
    have ha4 : ¬ A4 Dp := fun q => (st4.fa _ q).elim ha fun e => by rw [hd3] at e; cases e
    cases t with
    | false =>
      show (if false = true then _ else _)
      rw [if_neg Bool.false_ne_true]
      exact ⟨A4, F4, w4, xs, out, (st2.trans st3).trans st4, k4, s4, hd4, st4.fm _ hf, ha4, Nat.le_succ_of_le hle, rl4, z4⟩
    | true =>
      show (if true = true then _ else _)
      rw [if_pos rfl]
      rw [if_pos rfl] at z4
      refine ⟨A4, F4, ρ', w4, _, k4, r'.step st4 k2.af, fun e w' H' A' F' st' k' q => xx e w' H' A' F' (((st2.trans st3).trans st4).trans st') k' q, he ρ' w4 _ _ _ _ (fun v w5 z5 u H5 A5 F5 st5 k5 ru => ?_) (fun _ _ z => z) z4⟩
      have hd5 : H5 Dp = some (.lst xs) := st5.keep _ _ hd4 ha4
      have ha5 : ¬ A5 Dp := fun q => (st5.fa _ q).elim ha4 fun e => by rw [hd4] at e; cases e
      have hf5 : F5 Dp := st5.fm _ (st4.fm _ hf)
      have hil : i < ds.length := by rw [← hn]; exact hi
      refine ⟨xs, hd5, lineLt _ (by omega), ?_⟩
      have kp : Keeps F5 H5 F5 (L2.upd H5 Dp (.lst (xs ++ [u]))) := fun a o h hn2 => ⟨by rw [upd_ne (by intro e; subst e; exact hn2 hf5)]; exact h, hn2⟩
      have st6 : Stp A F H1 A5 F5 H5 := ((st2.trans st3).trans st4).trans st5
      refine ⟨A5, F5, w5, xs ++ [u], out ++ [v], ⟨fun a o h hn2 => ?_, fun a h => ?_, st6.fa, st6.ff, st6.am, st6.fm⟩, ⟨G.frame k5.wi (fun a o h hn2 => ?_) fun a h => .inl h, k5.af, fun a h => ?_⟩, ?_, upd_same, hf5, ha5, ?_, ?_, z5⟩
      · rw [upd_ne (by intro e; subst e; rw [hD] at h; cases h)]; exact st6.keep a o h hn2
      · by_cases e : a = Dp
        · subst e; exact hD
        · rw [upd_ne e] at h; exact st6.there a h
      · rw [upd_ne (by intro e; subst e; exact hn2.elim ha5 fun q => q hf5)]; exact h
      · by_cases e : a = Dp
        · subst e; rw [upd_same]; exact fun q => nomatch q
        · rw [upd_ne e]; exact k5.dom a h
      · exact sr.upd _ _ _ _ _ hf5 hD (sr.stp _ _ _ _ _ _ st5 k4.af s4)
      · rw [List.length_append]; exact Nat.succ_le_succ hle
      · exact ((rl4.mono (st5.keeps k4.af)).append (.cons ru .nil)).mono kp
  · rintro H2 ⟨A2, F2, w2, xs, out, st2, k2, s2, hd, hf, ha, hle, rl, z2⟩
    rw [List.drop_eq_nil_of_le (by omega)] at z2
    exact go Dp xs out w2 H2 A2 F2 st2 k2 hD hd hf ha (by omega) rl z2
section
variable {elt tg iter : Expr} {ifs : List Expr} {sc : Scope} {own : List (Str × Nat)} {pos : Pos} {g : TG} {b : BG} {mi : DEnv → M G.W (List D)} {mt : DEnv → M G.W Bool} {me : DEnv → M G.W D}
theorem dcompX (TW : Takes X Wx) (hst : X.stack = X.env :: X.outer) (hfr : X.env.frame = some X.env.locals) (hc : X.calm = true) (nd : X.N.Nodup) (hi : DI G X Wx tg iter mi) (ok : BlkOk X.N X.env.scope sc own) (r : GRel g b) (gw : GWipe g (own.map (·.2)))
    (hg : ∀ s H C cl fp Qf acc, PG (blkX X s H sc (compEnvC sc cl C X.env) fp Qf acc) tg g) (ht : ∀ s H C cl fp Qf acc, DTs G (blkX X s H sc (compEnvC sc cl C X.env) fp Qf acc) W0 ifs mt)
    (he : ∀ s H C cl fp Qf acc (V : WX), Takes (blkX X s H sc (compEnvC sc cl C X.env) fp Qf acc) V → DE G (blkX X s H sc (compEnvC sc cl C X.env) fp Qf acc) V elt me) (mtm : ∀ ρ, Mono (mt ρ)) (mem : ∀ ρ, Mono (me ρ))
    (hs : ∀ x, foldedSetIterable iter X.env x = pure x := by intro _; rfl) : DE G X Wx (.ListComp elt [⟨tg, iter, ifs, 0⟩] sc pos) (mCompX b (own.map (·.2)) mt me mi) := by
  obtain ⟨⟨wi, hpi, hw⟩, mim⟩ := hi
  have key : DN G X Wx (.ListComp elt [⟨tg, iter, ifs, 0⟩] sc pos) (mCompX b (own.map (·.2)) mt me mi) := by
    refine ⟨PE.imp (pe_lx (te := fun V => liftE G V me) TW hst hfr hc nd hpi ok hg (fun s H C cl fp Qf acc => (ht s H C cl fp Qf acc).pe) (fun s H C cl fp Qf acc V t => (he s H C cl fp Qf acc V t).pe) hs) fun σ H Q ⟨A, F, ρ, w, E, k, er, x, q⟩ => ?_, mCompX_mono r mtm mem mim⟩
    refine hw σ H _ ⟨A, F, ρ, w, E, k, er, x, mim ρ w _ _ _ _ (fun ds w' ⟨hl, z⟩ J H' A' F' S s k' sr s0 => ?_) (fun _ _ z => z) q⟩
    exact comp_goX sr s0 k' (er.step s k.af) r gw mtm mem hl (fun e w1 H1 A1 F1 st1 k1 z1 => x e w1 H1 A1 F1 (s.trans st1) k1 z1) z fun p xs out w2 H2 A2 F2 st k2 hp h1 h2 h3 h4 h5 ⟨ds', e, z'⟩ => by
      cases e
      exact z' p xs H2 A2 F2 (s.trans st) k2 (s.there _ hp) h1 h2 h3 h4 h5
  exact key.e fun ρ w Q E q => mim ρ w _ _ _ _ (fun ds w1 ⟨hl, z⟩ => ⟨hl, compLX_mono r mtm mem (fun _ _ z => z) ds [] ρ w1 _ _ (fun a w z => ⟨⟨a, rfl⟩, z⟩) z⟩) (fun _ _ z => z) q
theorem dcompX' (TW : Takes X Wx) (hst : X.stack = X.env :: X.outer) (hfr : X.env.frame = some X.env.locals) (hc : X.calm = true) (nd : X.N.Nodup) (hi : DI G X Wx tg iter mi) (ok : BlkOk X.N X.env.scope sc own) (r : GRel g b) (gw : GWipe g (own.map (·.2)))
    (hg : ∀ s H C cl fp Qf acc, PG (blkX X s H sc (compEnvC sc cl C X.env) fp Qf acc) tg g) (ht : ∀ s H C cl fp Qf acc, DTs G (blkX X s H sc (compEnvC sc cl C X.env) fp Qf acc) W0 ifs mt)
    (he : ∀ s H C cl fp Qf acc (V : WX), Takes (blkX X s H sc (compEnvC sc cl C X.env) fp Qf acc) V → DE G (blkX X s H sc (compEnvC sc cl C X.env) fp Qf acc) V elt me)
    (hs : ∀ x, foldedSetIterable iter X.env x = pure x := by intro _; rfl) : DE G X Wx (.ListComp elt [⟨tg, iter, ifs, 0⟩] sc pos) (mCompX b (own.map (·.2)) mt me mi) :=
  dcompX TW hst hfr hc nd hi ok r gw hg ht he (ht X.s_0 X.H_0 0 [] [] (fun _ _ => True) .none).mono (he X.s_0 X.H_0 0 [] [] (fun _ _ => True) .none (fun _ _ _ _ => False) fun u s' ⟨_, _, _, _, _, _, _, _, _, _, _, _, _, _, _, _, z⟩ => z.elim).mono hs
end
end
/-! ### readings -/
section
variable {W : Type} {i : Nat} {vs : List Nat} {me : DEnv → M W D} {ρ : DEnv} {w : W} {E : Ex → W → Prop} {Q : List D → W → Prop}
/-- each element told, or raised at the first that isn't good -/
theorem compLX_try (P : D → Bool) (f : D → D) : ∀ (ds acc : List D), (∀ d ∈ ds, P d = true → ∀ Q' : D → W → Prop, Q' (f d) w → me ((wipeR ρ vs).set i (some (.val d))) w Q' E) → (∀ d ∈ ds, P d = false → ∀ Q' : D → W → Prop, me ((wipeR ρ vs).set i (some (.val d))) w Q' E) →
    (ds.all P = true → Q (acc ++ ds.map f) w) → compLX (bName i) vs mYes me E ds acc ρ w Q
  | [], acc, _, _, q => by
    have := q rfl
    rw [List.map_nil, List.append_nil] at this
    exact this
  | d :: ds, acc, h, h2, q => by
    unfold compLX
    simp only [bName, mYes, ↓reduceIte]
    cases hp : P d with
    | false => exact h2 d List.mem_cons_self hp _
    | true =>
      refine h d List.mem_cons_self hp _ (compLX_try P f ds (acc ++ [f d]) (fun x hx => h x (List.mem_cons_of_mem _ hx)) (fun x hx => h2 x (List.mem_cons_of_mem _ hx)) fun ha => ?_)
      have := q (by rw [List.all_cons, hp, ha]; rfl)
      rw [List.map_cons] at this
      rw [List.append_assoc]
      exact this
theorem compLX_map (f : D → D) (ds acc : List D) (h : ∀ d ∈ ds, ∀ Q' : D → W → Prop, Q' (f d) w → me ((wipeR ρ vs).set i (some (.val d))) w Q' E) (q : Q (acc ++ ds.map f) w) : compLX (bName i) vs mYes me E ds acc ρ w Q :=
  compLX_try (fun _ => true) f ds acc (fun d hd _ => h d hd) (fun _ _ z => nomatch z) fun _ => q
end
end DL

namespace DL
open PySem PySem.Spec PyProof.Rows L2
/-! ### max of a list or a tuple of ints -/
section
variable {prog : Program} {w : World} {A : Around} {E : Value → Shared → Prop} {s : Shared} {l : Addr} {its : List Value} {ns : List Int}
theorem maxT_raw {Q : Value → Shared → Prop} (hh : A.handled = none) (hl : IsTup s.heap l its.toArray) (hi : IntsAre its ns) (hne : 0 < ns.length)
    (h : ∀ h' tk M t', (∀ b o, s.heap.get? b = some o → h'.get? b = some o) → M ∈ ns → (∀ a, a ∈ ns → a ≤ M) → Q (.int M t') { s with heap := h', toks := tk }) : wpAny (model prog w) A (call (.builtin "max") [.ref l]) Q E s := by
  obtain ⟨xs, e⟩ := hi.allInts.items
  have hn : numsOf (intItems xs).toList = ns := by rw [← e]; exact hi.numsOf
  rw [nums_intItems] at hn
  subst hn
  rw [e] at hl
  have hsz : 0 < xs.size := by simpa using hne
  have hlt : l < s.heap.objs.size := hl.lt
  have hl' : s.heap.IsTuple l (intItems xs) := hl
  refine call_max_walk (wpAny_pyIter_tuple hl' ?_)
  refine ⟨_, _, _, _, _, _, _, rfl, Walks.tuple (A := A.in1) hh _ l (Nat.ne_of_lt hlt) (intItems xs), ⟨⟨_, Heap.get?_push_size _ rfl, rfl, rfl⟩, hl'.push _⟩, fun b hb => ?_, by simpa [intItems] using hsz, CmpOf.ints_gt (numAt xs) (fun _ _ => intItems_at), fun v h' tk hP hk => ?_⟩
  · show b < (s.heap.push _).objs.size
    rw [Heap.size_push]
    rcases List.mem_cons.mp hb with rfl | hb
    · exact Nat.lt_succ_self _
    · rcases List.mem_cons.mp hb with rfl | hb
      · exact Nat.lt_succ_of_lt hlt
      · cases hb
  · have hv : (intItems xs)[argBest (fun i j => decide (numAt xs i > numAt xs j)) (xs.size - 1)]? = some v := by simpa [intItems] using hP
    obtain ⟨t, rfl⟩ := intItems_at hv
    obtain ⟨h1, h2⟩ := argBest_gt (numAt xs) (xs.size - 1)
    refine h h' tk _ t ?_ ?_ fun a ha => ?_
    · intro b o e
      refine hk b o (fun hm => ?_) (Heap.get?_push_of_some _ e)
      rcases List.mem_cons.mp hm with e1 | hm
      · exact absurd (e1 ▸ Heap.lt_size e) (Nat.lt_irrefl _)
      · cases hm
    · rw [numAt_eq]; exact PySem.getD_mem (by rw [List.length_map, Array.length_toList]; omega)
    · obtain ⟨j, hj, rfl⟩ := mem_getD ha
      rw [List.length_map, Array.length_toList] at hj
      rw [← numAt_eq]; exact h2 j (by omega)
end
section
variable {G : Wd} {X : Cx} {W : Type}
def rMaxS (K : PySem.W.Frag) : List V → Hp → VK → Prop := fun vs H Q => ∃ (a : Addr) (ns : List Int), vs = [V.ref a] ∧ (SqL K H a (ns.map V.int) ∨ SqT K H a (ns.map V.int)) ∧ 0 < ns.length ∧ ∀ m, m ∈ ns → (∀ y, y ∈ ns → y ≤ m) → Q (.int m) H
theorem cr_maxS (hc : X.calm = true) : CallR X (.builtin "max") (rMaxS X.K) := by
  intro pins s σ H vs us Q I r h
  obtain ⟨a, ns, rfl, hs, hne, q⟩ := h
  rcases hs with hs | hs
  · obtain ⟨its, rv, hl, _⟩ := I.list hs
    rw [Vals.ref1 r]
    exact max_raw (I.ok.hd hc) hl.isList rv.ints hne fun h' tk m t' hk h1 h2 => ⟨.int _, H, I.kept hk, ⟨_, rfl⟩, q m h1 h2⟩
  · obtain ⟨its, rv, hl, _⟩ := I.tuple hs
    rw [Vals.ref1 r]
    exact maxT_raw (I.ok.hd hc) hl rv.ints hne fun h' tk m t' hk h1 h2 => ⟨.int _, H, I.kept hk, ⟨_, rfl⟩, q m h1 h2⟩
def fMaxS : FA W := fun ds w Q _ => ∃ (x : D) (ns : List Int), ds = [x] ∧ seqOf x = some (ns.map D.int) ∧ 0 < ns.length ∧ ∀ m, m ∈ ns → (∀ y, y ∈ ns → y ≤ m) → Q (.int m) w
theorem o_maxS (hc : X.calm = true) : OpC G X (.builtin "max") fMaxS where
  ex := ⟨_, cr_maxS hc, fun xs vs w H A F Q E k r ⟨x, ns, e, hd, hn, q⟩ => by
    subst e
    cases r with
    | cons r1 r => cases r with
      | nil =>
        cases x <;> simp only [seqOf, Option.some.injEq, reduceCtorEq] at hd
        · subst hd
          obtain ⟨a, ys, rfl, h1, l1, rr⟩ := r1.lst
          have := rr.ints
          subst this
          exact ⟨a, ns, rfl, .inl (SqL.of h1), hn, fun m a1 a2 => q m a1 a2 _ H A F .refl k (.int _)⟩
        · subst hd
          obtain ⟨a, ys, rfl, h1, n1, l1, rr⟩ := r1.tup
          have := rr.ints
          subst this
          exact ⟨a, ns, rfl, .inr (SqT.of h1), hn, fun m a1 a2 => q m a1 a2 _ H A F .refl k (.int _)⟩⟩
  mono := fun ds w Q Q' E E' hq he ⟨x, ns, e, hd, hn, q⟩ => ⟨x, ns, e, hd, hn, fun m a b => hq _ _ (q m a b)⟩
end
end DL

namespace DL
open PySem PySem.Spec PyProof.Rows L2
/-! ### xs[i::2] of a list -/
def evens {α : Type} : List α → List α
  | [] => []
  | [a] => [a]
  | a :: _ :: r => a :: evens r
theorem evens_len {α : Type} : ∀ xs : List α, (evens xs).length ≤ xs.length
  | [] => Nat.le_refl _
  | [_] => Nat.le_refl _
  | a :: b :: r => by
    have := evens_len r
    simp only [evens, List.length_cons]; omega
theorem evens_map {α β : Type} (f : α → β) : ∀ xs : List α, evens (xs.map f) = (evens xs).map f
  | [] => rfl
  | [_] => rfl
  | a :: b :: r => by
    simp only [List.map_cons, evens, evens_map f r]
theorem evens_mem {α : Type} {x : α} : ∀ {xs : List α}, x ∈ evens xs → x ∈ xs
  | [], h => h
  | [_], h => h
  | a :: b :: r, h => (List.mem_cons.mp h).elim (fun e => e ▸ List.mem_cons_self) fun h => List.mem_cons_of_mem _ (List.mem_cons_of_mem _ (evens_mem h))
theorem evens_pick {α : Type} : ∀ (xs : List α), (List.range ((xs.length + 1) / 2)).filterMap (fun m => xs[2 * m]?) = evens xs
  | [] => by simp [evens]
  | [a] => by simp [evens, List.range_succ]
  | a :: b :: r => by
    have ih := evens_pick r
    have e : ((a :: b :: r).length + 1) / 2 = (r.length + 1) / 2 + 1 := by simp only [List.length_cons]; omega
    rw [e, List.range_succ_eq_map, List.filterMap_cons]
    show a :: List.filterMap _ (List.map _ _) = _
    rw [List.filterMap_map]
    show a :: _ = a :: evens r
    rw [← ih]
    congr 1
theorem pick_evens (items : Array Value) (i : Nat) : slicePick items (some (i : Int)) none (some 2) = (evens (items.toList.drop i)).toArray := by
  unfold slicePick
  have hb : sliceBounds (some (i : Int)) none (some 2) items.size = (((min i items.size : Nat) : Int), (items.size : Int), 2) := by
    unfold sliceBounds
    simp only [Option.getD_some]
    rw [if_pos (by decide), if_neg (by omega), if_pos (by decide)]
    refine Prod.ext ?_ rfl
    show max 0 (min (i : Int) items.size) = _
    omega
  rw [hb]
  show ((sliceRange ((min i items.size : Nat) : Int) (items.size : Int) 2).filterMap (items[·]?)).toArray = _
  congr 1
  by_cases h : i < items.size
  · rw [← evens_pick]
    unfold sliceRange
    rw [Nat.min_eq_left (Nat.le_of_lt h)]
    have h2 : (2 : Int) > 0 := by decide
    have hlt : (i : Int) < (items.size : Int) := by omega
    simp only [h2, if_true, hlt]
    have e : (((items.size : Int) - (i : Int) + 2 - 1) / 2).toNat = ((items.toList.drop i).length + 1) / 2 := by
      rw [List.length_drop, Array.length_toList]; omega
    rw [e, List.filterMap_map]
    refine congrArg (fun f => List.filterMap f (List.range _)) (funext fun m => ?_)
    show items[((i : Int) + 2 * (m : Int)).toNat]? = (items.toList.drop i)[2 * m]?
    rw [List.getElem?_drop, Array.getElem?_toList, show ((i : Int) + 2 * (m : Int)).toNat = i + 2 * m by omega]
  · rw [List.drop_eq_nil_of_le (by rw [Array.length_toList]; omega)]
    unfold sliceRange
    have hlt : ¬ (((min i items.size : Nat) : Int) < (items.size : Int)) := by omega
    have h2 : (2 : Int) > 0 := by decide
    simp only [h2, if_true, hlt, if_false]
    rfl
def tStep2 (K : PySem.W.Frag) (te : TE) (tl : TO) : TE := fun σ H Q => te σ H fun x H1 => tl σ H1 fun o H2 => ∃ (a : Addr) (i : Nat) (xs : List V), x = .ref a ∧ o = some (i : Int) ∧ SqL K H2 a xs ∧ ∀ p, H2 p = none → Q (.ref p) (upd H2 p (.lst (evens (xs.drop i))))
theorem Vals.evens : ∀ {xs : List V} {us : List Value}, Vals xs us → Vals (DL.evens xs) (DL.evens us)
  | _, _, .nil => .nil
  | _, _, .cons r .nil => .cons r .nil
  | _, _, .cons r (.cons _ t) => .cons r (Vals.evens t)
theorem pe_step2 {X : Cx} {e i : Expr} {te : TE} {tl : TO} {k : Nat} {p1 p2 pos : Pos} (he : PE X e te) (hi : PO X (some i) tl) : PE X (.Subscript e (.Slice (some i) none (some (.Constant (.int 2) k p1)) p2) pos) (tStep2 X.K te tl) := by
  refine ⟨fun pins s σ H Q I h => ?_⟩
  refine Subscript_ (thn (he.run pins s σ H _ I h) fun v s1 ⟨x, H1, I1, r1, q1⟩ => ?_)
  refine wpAny_Slice (thn (hi.run pins s1 σ H1 _ I1 q1) fun vl s2 ⟨l, H2, I2, pl, a, n, xs, e1, el, hx, q⟩ => ?_)
  subst el e1
  cases r1
  refine thn (po_none.run pins s2 σ H2 (fun o H3 => o = none ∧ H3 = H2) I2 ⟨rfl, rfl⟩) fun vu s3 ⟨u, H3, I3, pu, eu, e3⟩ => ?_
  subst eu e3
  have hst : PO X (some (.Constant (.int 2) k p1)) (tPart (tC (.int 2))) := po_some pe_int
  refine thn (hst.run pins s3 σ H3 (fun o H4 => o = some 2 ∧ H4 = H3) I3 ⟨2, rfl, rfl, rfl⟩) fun vs s4 ⟨o, H4, I4, ps, eo, e4⟩ => ?_
  subst eo e4
  have I5 : Inv X pins σ H4 { s4 with heap := s4.heap.push { cls := .type "slice", data := .fields #[vl, vu, vs] } } := I4.kept (t' := s4.toks) fun b ob q => Heap.get?_push_of_some _ q
  obtain ⟨its, r, ht, hz⟩ := I5.list hx
  have hlen := r.length
  show wpAny (model X.prog X.w) X.A (subscriptTail e (.Slice (some i) none (some (.Constant (.int 2) k p1)) p2) (.ref a) (.ref s4.heap.objs.size)) (EP X pins σ Q) X.xe { s4 with heap := s4.heap.push { cls := .type "slice", data := .fields #[vl, vu, vs] } }
  refine tail_any (ops := [.ref a, .ref s4.heap.objs.size]) ht.isList.typeIs (PySem.slot_list_getitem.lookup) ?_ (by with_unfolding_all rfl)
  refine wpAny_getItem_list_slice ht.isList (Heap.IsSliceOf.new _ vl vu vs) pl pu ps (by decide) ?_ (by rw [List.size_toArray]; omega)
  rw [pick_evens]
  refine ⟨.ref _, _, I5.laid (t' := s4.toks) (o := .lst (evens (xs.drop n))) (fun b ob q => Heap.get?_push_of_some _ q) (Nat.le_refl _) ?_, rfl, q _ (I5.hok.fresh (Nat.le_refl _))⟩
  exact ⟨Nat.le_trans (evens_len _) (by rw [List.length_drop]; omega), _, 0, Vals.evens (r.drop n), Heap.get?_push_size _ rfl⟩
section
variable {G : Wd} {X : Cx} {Wx : WX} {W : Type}
def mStep2 (m : DEnv → M W D) (mi : DEnv → M W (Option Int)) : DEnv → M W D := fun ρ w Q E => m ρ w (fun d w1 => mi ρ w1 (fun o w2 => ∃ xs i, d = .lst xs ∧ o = some ((i : Nat) : Int) ∧ Q (.lst (evens (xs.drop i))) w2) E) E
theorem RepL.evens {F : Foot} {H : Hp} : ∀ {vs : List V} {ds : List D}, RepL F H vs ds → RepL F H (DL.evens vs) (DL.evens ds)
  | _, _, .nil => .nil
  | _, _, .cons h .nil => .cons h .nil
  | _, _, .cons h (.cons _ t) => .cons h (RepL.evens t)
theorem dstep2 {e i : Expr} {m : DEnv → M G.W D} {mi : DEnv → M G.W (Option Int)} {k : Nat} {p1 p2 pos : Pos} (he : DE G X Wx e m) (hi : DO G X Wx (some i) mi) : DE G X Wx (.Subscript e (.Slice (some i) none (some (.Constant (.int 2) k p1)) p2) pos) (mStep2 m mi) := by
  have hk : ∀ (d : D) (ρ : DEnv), Mono (fun (w : G.W) (Q : D → G.W → Prop) (E : Ex → G.W → Prop) => mi ρ w (fun o w2 => ∃ xs i, d = .lst xs ∧ o = some ((i : Nat) : Int) ∧ Q (.lst (evens (xs.drop i))) w2) E) := fun d ρ w Q Q' E E' hq hE q => hi.mono ρ w _ _ _ _ (fun o w2 ⟨xs, i, e1, e2, z⟩ => ⟨xs, i, e1, e2, hq _ _ z⟩) hE q
  refine ⟨PE.imp (pe_step2 he.pe hi.pe) fun σ H Q h1 => ?_, fun ρ => (he.mono ρ).bind fun d => hk d ρ⟩
  refine runE he.mono hk (P := .e G Q) h1 fun v d H1 ⟨A, F, ρ, w, E, k, r, x, rp, q⟩ => ?_
  refine ⟨A, F, ρ, w, E, k, r, x, hi.mono ρ w _ _ _ _ (fun o w2 ⟨xs, i, e1, e2, z⟩ H2 A2 F2 s k2 => ?_) (fun _ _ z => z) q⟩
  subst e1 e2
  have rp2 := rp.mono (s.keeps k.af)
  cases rp2 with
  | @lst a ys _ h1 n1 l1 rr =>
    exact ⟨a, i, ys, rfl, rfl, SqL.of h1, fun p hp => z _ _ A2 F2 (s.trans (.new hp)) (k2.new hp) (.lst upd_same (k2.out hp) (Nat.le_trans (evens_len _) (by rw [List.length_drop]; omega)) ((RepL.evens (rr.drop i)).new hp))⟩
/-! ### any; n & 1 -/
def fAny : FA W := fun ds w Q _ => ∃ bs : List Bool, ds = [.lst (bs.map D.bl)] ∧ Q (.bl (bs.any id)) w
theorem o_any (hc : X.calm = true) : OpC G X (.builtin "any") fAny where
  ex := ⟨_, cr_any hc, fun xs vs w H A F Q E k r ⟨bs, e, q⟩ => by
    subst e
    cases r with
    | cons r1 r => cases r with
      | nil =>
        obtain ⟨a, ys, rfl, h1, l1, rr⟩ := r1.lst
        have := rr.bls
        subst this
        exact ⟨a, bs, rfl, SqL.of h1, q _ H A F .refl k (.bl _)⟩⟩
  mono := fun ds w Q Q' E E' hq he ⟨bs, e, q⟩ => ⟨bs, e, hq _ _ q⟩
def fOdd : F2 W := fun x y w Q _ => ∃ n : Nat, x = .int n ∧ y = .int 1 ∧ Q (.int ((n % 2 : Nat) : Int)) w
theorem o_odd : Op2 G X (binaryOp .BitAnd) fOdd where
  ex := ⟨_, op_odd, fun x y v u w H A F Q E k r1 r2 ⟨n, e1, e2, q⟩ => by
    subst e1 e2
    exact ⟨n, r1.int, r2.int, q _ H A F .refl k (.int _)⟩⟩
  mono := fun x y w Q Q' E E' hq he ⟨n, e1, e2, q⟩ => ⟨n, e1, e2, hq _ _ q⟩
end
end DL

namespace DL
open PySem PySem.Spec PyProof.Rows L2
def isHop : D → Bool | .tup [l, a, t] => isWhole 0 l && isWhole 1 a && isWhole 0 t | _ => false
def areHops : D → Bool | .tup hs => decide (hs.length ≤ 40) && hs.all isHop | _ => false
def strIs (x : Str) : D → Bool | .str y => decide (y = x) | _ => false
def begins (x : Str) (k : Nat) : D → Bool | .tup (a :: b :: r) => decide (r.length + 2 = k) && strIs x a && isWhole 0 b | _ => false
def nextRest : D → Bool | .tup [_, _, n, s, hs] => isWhole 0 n && isStep s && areHops hs | _ => false
def doneRest : D → Bool | .tup [_, _, n] => isWhole 0 n | _ => false
def isNextD (d : D) : Bool := begins (Str.ofString "next") 5 d && nextRest d
def isDoneD (d : D) : Bool := begins (Str.ofString "done") 3 d && doneRest d
def isLetterD (d : D) : Bool := isNextD d || isDoneD d || begins (Str.ofString "turn") 2 d
variable {W : Type}
def sfP (p : D → Bool) : SF W := fun ds w Q _ => ∃ d, ds = [d] ∧ Pl d ∧ Q (.bl (p d)) w
theorem sfP_mono (p : D → Bool) (ds : List D) : Mono (sfP (W := W) p ds) := fun w Q Q' E E' hq _ ⟨d, e, h, q⟩ => ⟨d, e, h, hq _ _ q⟩
def inL (d : D) : Prop := ∀ x, d = .tup x → ∀ y ∈ x, tlen y ≤ LB
def sfB (p : D → Bool) : SF W := fun ds w Q _ => ∃ d, ds = [d] ∧ Pl d ∧ inL d ∧ Q (.bl (p d)) w
theorem sfB_mono (p : D → Bool) (ds : List D) : Mono (sfB (W := W) p ds) := fun w Q Q' E E' hq _ ⟨d, e, h, h2, q⟩ => ⟨d, e, h, h2, hq _ _ q⟩
theorem begins_parts {x : Str} {k : Nat} {d : D} (h : begins x k d = true) : ∃ b r, d = .tup (.str x :: b :: r) ∧ r.length + 2 = k ∧ isWhole 0 b = true := by
  unfold begins at h
  split at h
  · rename_i y b r
    simp only [Bool.and_eq_true, decide_eq_true_eq] at h
    cases y <;> first | (exact absurd (show false = true from h.1.2) (by decide)) | skip
    have h2 := of_decide_eq_true (show decide (_ = x) = true from h.1.2)
    subst h2
    exact ⟨b, r, rfl, h.1.1, h.2⟩
  · cases h
def sf_begins : SF W := fun ds w Q _ => ∃ d x k, ds = [d, .str x, .int (k : Nat)] ∧ 2 ≤ k ∧ Pl d ∧ Q (.bl (begins x k d)) w
theorem sf_begins_mono (ds : List D) : Mono (sf_begins (W := W) ds) := fun w Q Q' E E' hq _ ⟨d, x, k, e, h, h2, q⟩ => ⟨d, x, k, e, h, h2, hq _ _ q⟩
/-- what is shown -/
def sp : Str := Str.ofString " "
def co : Str := Str.ofString ":"
theorem sp_atx : ATx 1 sp := ⟨by decide +kernel, by unfold DL.asc; decide +kernel⟩
theorem co_atx : ATx 1 co := ⟨by decide +kernel, by unfold DL.asc; decide +kernel⟩
def colons : D → Str | .tup xs => wordsD co xs | _ => Str.empty
def showState : D → Str | .tup [a, b, c, e, .tup ls] => wordsD sp ([a, b, c, e] ++ ls.map fun l => .str (colons l)) | _ => Str.empty
def showStep : D → Str | .tup xs => wordsD sp xs | _ => Str.empty
def hopW (h : D) : Str := Str.ofString "> " ++ colons h
def showLetter (d : D) : Str := match d with
  | .tup [w, l, n, s, .tup hs] => if strIs (Str.ofString "next") w then wordsD sp ([w, l, n, .str (showStep s)] ++ hs.map fun h => .str (hopW h)) else Str.empty
  | .tup xs => wordsD sp xs
  | _ => Str.empty
def sf_words (z : Str) : SF W := fun ds w Q _ => ∃ xs c, (ds = [.lst xs] ∨ ds = [.tup xs]) ∧ (∀ d ∈ xs, WdP c d) ∧ 0 < c ∧ c ≤ 10 ^ 4 ∧ xs.length * (c + 1) ≤ LB ∧ Q (.str (wordsD z xs)) w
theorem sf_words_mono (z : Str) (ds : List D) : Mono (sf_words (W := W) z ds) := fun w Q Q' E E' hq _ ⟨xs, c, e, h, h2, h3, h4, q⟩ => ⟨xs, c, e, h, h2, h3, h4, hq _ _ q⟩
theorem WdP.mono {c e : Nat} {d : D} (h : WdP c d) (he : c ≤ e) : WdP e d := by
  cases d <;> first | exact h.elim | skip
  · exact ⟨h.1, h.2.1, Nat.lt_of_lt_of_le h.2.2 (Nat.pow_le_pow_right (by decide) he)⟩
  · exact ATx.mono h he
section
variable {B h c : Nat}
theorem wd_int {i : Int} (hp : PlN B h (.int i)) (h0 : 0 ≤ i) (hB : B < 10 ^ c) (h9 : c ≤ 90) : WdP c (.int i) :=
  ⟨h0, Nat.lt_of_le_of_lt hp.intI (Nat.lt_of_lt_of_le hB (Nat.pow_le_pow_right (by decide) h9)), Nat.lt_of_le_of_lt hp.intI hB⟩
theorem wd_lit (s : String) (hc : 10 ≤ c) (h : (Str.ofString s).length ≤ 10 := by decide +kernel) (ha : DL.asc (Str.ofString s) := by (unfold DL.asc; decide +kernel)) : WdP c (.str (Str.ofString s)) := ATx.mono ⟨h, ha⟩ hc
theorem lock_words {l : D} (hc : 10 ≤ c) (h9 : c ≤ 90) (hB : B < 10 ^ c) (hp : PlN B h l) (hl : isLock l = true) : ∃ xs, l = .tup xs ∧ xs.length ≤ 5 ∧ ∀ x ∈ xs, WdP c x := by
  obtain ⟨i, g, b, s, t, rfl, k1, k2, k3, k4, k5⟩ := isLock_parts hl
  obtain ⟨m, _, hm⟩ := hp.tupI
  refine ⟨_, rfl, by simp, fun x hx => ?_⟩
  have hh := hm x hx
  simp only [List.mem_cons, List.not_mem_nil, or_false] at hx
  rcases hx with rfl | rfl | rfl | rfl | rfl
  · exact wd_int hh (by omega) hB h9
  · rcases k2 with rfl | rfl
    · exact wd_lit _ hc
    · exact wd_lit _ hc
  · exact wd_int hh (by omega) hB h9
  · exact wd_int hh (by omega) hB h9
  · exact wd_int hh (by omega) hB h9
theorem wd_whole {k : Int} {d : D} (hk : 0 ≤ k) (hp : PlN B h d) (hw : isWhole k d = true) (hB : B < 10 ^ c) (h9 : c ≤ 90) : WdP c d := by
  obtain ⟨i, rfl, hi⟩ := isWhole_int hw
  exact wd_int hp (by omega) hB h9
theorem hop_words {l : D} (h9 : c ≤ 90) (hB : B < 10 ^ c) (hp : PlN B h l) (hl : isHop l = true) : ∃ xs, l = .tup xs ∧ xs.length ≤ 3 ∧ ∀ x ∈ xs, WdP c x := by
  unfold isHop at hl
  split at hl
  · simp only [Bool.and_eq_true] at hl
    obtain ⟨m, _, hm⟩ := hp.tupI
    refine ⟨_, rfl, by simp, fun x hx => ?_⟩
    have hh := hm x hx
    simp only [List.mem_cons, List.not_mem_nil, or_false] at hx
    rcases hx with rfl | rfl | rfl
    · exact wd_whole (by decide) hh hl.1.1 hB h9
    · exact wd_whole (by decide) hh hl.1.2 hB h9
    · exact wd_whole (by decide) hh hl.2 hB h9
  · cases hl
theorem wd_side {d : D} (hs : sideD d = true) (hc : 10 ≤ c) : WdP c d := by
  unfold sideD at hs
  split at hs
  · simp only [Bool.or_eq_true, decide_eq_true_eq] at hs
    rcases hs with rfl | rfl
    · exact wd_lit _ hc
    · exact wd_lit _ hc
  · cases hs
theorem step_words {d : D} (hc : 10 ≤ c) (h9 : c ≤ 90) (hB : B < 10 ^ c) (hp : PlN B h d) (hs : isStep d = true) : ∃ xs, d = .tup xs ∧ xs.length ≤ 5 ∧ ∀ x ∈ xs, WdP c x := by
  unfold isStep at hs
  split at hs
  · rename_i x ps
    obtain ⟨m, _, hm⟩ := hp.tupI
    have hps : ∀ y ∈ ps, PlN B m y := fun y hy => hm y (List.mem_cons_of_mem _ hy)
    refine ⟨_, rfl, ?_, ?_⟩
    all_goals
      unfold stepP at hs
      by_cases h1 : x = Str.ofString "pay"
      · rw [if_pos h1] at hs
        subst h1
        rcases ps with _ | ⟨g, _ | ⟨b, _ | ⟨z, r⟩⟩⟩
        case cons.cons.nil =>
          simp only [Bool.and_eq_true] at hs
          first
          | exact (by decide : 3 ≤ 5)
          | (intro y hy
             simp only [List.mem_cons, List.not_mem_nil, or_false] at hy
             rcases hy with rfl | rfl | rfl
             · exact wd_lit _ hc
             · exact wd_side hs.1 hc
             · exact wd_whole (by decide) (hps _ (by simp)) hs.2 hB h9)
        all_goals cases hs
      rw [if_neg h1] at hs
      by_cases h2 : x = Str.ofString "lock"
      · rw [if_pos h2] at hs
        subst h2
        obtain ⟨i, g, b, s, t, e, k1, k2, k3, k4, k5⟩ := isLock_parts hs
        have e2 := (List.cons.inj (D.tup.inj e)).2
        subst e2
        first
        | exact (by decide : 5 ≤ 5)
        | (intro y hy
           simp only [List.mem_cons, List.not_mem_nil, or_false] at hy
           rcases hy with rfl | rfl | rfl | rfl | rfl
           · exact wd_lit _ hc
           · rcases k2 with rfl | rfl
             · exact wd_lit _ hc
             · exact wd_lit _ hc
           · exact wd_int (hps _ (by simp)) (by omega) hB h9
           · exact wd_int (hps _ (by simp)) (by omega) hB h9
           · exact wd_int (hps _ (by simp)) (by omega) hB h9)
      rw [if_neg h2] at hs
      by_cases h3 : x = Str.ofString "fold"
      · rw [if_pos h3] at hs
        subst h3
        rcases ps with _ | ⟨g, _ | ⟨b, _ | ⟨z, r⟩⟩⟩
        case cons.cons.nil =>
          simp only [Bool.and_eq_true] at hs
          first
          | exact (by decide : 3 ≤ 5)
          | (intro y hy
             simp only [List.mem_cons, List.not_mem_nil, or_false] at hy
             rcases hy with rfl | rfl | rfl
             · exact wd_lit _ hc
             · exact wd_whole (by decide) (hps _ (by simp)) hs.1 hB h9
             · exact wd_whole (by decide) (hps _ (by simp)) hs.2 hB h9)
        all_goals cases hs
      rw [if_neg h3] at hs
      by_cases h4 : x = Str.ofString "drop"
      · rw [if_pos h4] at hs
        subst h4
        rcases ps with _ | ⟨g, _ | ⟨b, r⟩⟩
        case cons.nil =>
          first
          | exact (by decide : 2 ≤ 5)
          | (intro y hy
             simp only [List.mem_cons, List.not_mem_nil, or_false] at hy
             rcases hy with rfl | rfl
             · exact wd_lit _ hc
             · exact wd_whole (by decide) (hps _ (by simp)) hs hB h9)
        all_goals cases hs
      rw [if_neg h4] at hs
      simp only [Bool.and_eq_true, decide_eq_true_eq] at hs
      obtain ⟨rfl, h5⟩ := hs
      cases ps with
      | cons _ _ => cases h5
      | nil =>
        first
        | exact (by decide : 1 ≤ 5)
        | (intro y hy
           rcases List.mem_cons.mp hy with rfl | hy
           · exact wd_lit _ hc
           · exact nomatch hy)
  · cases hs
end
section
variable {B h c : Nat}
theorem colons_atx {n : Nat} {l : D} (hc : 10 ≤ c) (h : ∃ xs, l = .tup xs ∧ xs.length ≤ n ∧ ∀ x ∈ xs, WdP c x) : ATx (n * (c + 1)) (colons l) := by
  obtain ⟨xs, rfl, h1, h2⟩ := h
  exact (words_atx (by omega) co_atx h2).mono (Nat.mul_le_mul_right _ h1)
theorem state_words {d : D} (hc : 10 ≤ c) (h9 : c ≤ 90) (hB : B < 10 ^ c) (hp : PlN B h d) (hs : isState d = true) : ∃ (a b e f : Int) (ls : List D), d = .tup [.int a, .int b, .int e, .int f, .tup ls] ∧ ls.length ≤ 30 ∧ (∀ l ∈ ls, ∃ xs, l = .tup xs ∧ xs.length ≤ 5 ∧ ∀ x ∈ xs, WdP c x) ∧
    ∀ x ∈ ([D.int a, .int b, .int e, .int f] ++ ls.map fun l => .str (colons l)), WdP (5 * (c + 1)) x := by
  obtain ⟨a, b, e, f, ls, rfl, k1, k2, k3, k4, k5, k6⟩ := isState_parts hs
  obtain ⟨m, _, hm⟩ := hp.tupI
  obtain ⟨m2, _, hm2⟩ := (hm (.tup ls) (by simp)).tupI
  have hl : ∀ l ∈ ls, ∃ xs, l = .tup xs ∧ xs.length ≤ 5 ∧ ∀ x ∈ xs, WdP c x := fun l hl => lock_words hc h9 hB (hm2 l hl) (locksFrom_all k6 l hl)
  refine ⟨a, b, e, f, ls, rfl, k5, hl, fun x hx => ?_⟩
  rcases List.mem_append.mp hx with hx | hx
  · have hh := hm x (by simp only [List.mem_cons, List.not_mem_nil, or_false] at hx ⊢; rcases hx with h | h | h | h <;> simp [h])
    simp only [List.mem_cons, List.not_mem_nil, or_false] at hx
    rcases hx with rfl | rfl | rfl | rfl
    · exact WdP.mono (wd_int hh k1 hB h9) (by omega)
    · exact WdP.mono (wd_int hh k2 hB h9) (by omega)
    · exact WdP.mono (wd_int hh k3 hB h9) (by omega)
    · exact WdP.mono (wd_int hh k4 hB h9) (by omega)
  · obtain ⟨l, hl2, rfl⟩ := List.mem_map.mp hx
    exact colons_atx hc (hl l hl2)
theorem next_words {d : D} (hc : 10 ≤ c) (h9 : c ≤ 90) (hB : B < 10 ^ c) (hp : PlN B h d) (hs : isNextD d = true) : ∃ (b n s : D) (hs : List D), d = .tup [.str (Str.ofString "next"), b, n, s, .tup hs] ∧ PlN B h s ∧ isStep s = true ∧ hs.length ≤ 40 ∧ (∀ l ∈ hs, ∃ xs, l = .tup xs ∧ xs.length ≤ 3 ∧ ∀ x ∈ xs, WdP c x) ∧
    ∀ x ∈ ([.str (Str.ofString "next"), b, n, .str (showStep s)] ++ hs.map fun l => .str (hopW l)), WdP (5 * (c + 1)) x := by
  unfold isNextD at hs
  rw [Bool.and_eq_true] at hs
  obtain ⟨b, r, rfl, h2, h3⟩ := begins_parts hs.1
  obtain ⟨m, em, hm⟩ := hp.tupI
  rcases r with _ | ⟨n, _ | ⟨s, _ | ⟨hs2, _ | ⟨z, r⟩⟩⟩⟩
  case cons.cons.cons.nil =>
    have h4 := hs.2
    unfold nextRest at h4
    simp only [Bool.and_eq_true] at h4
    obtain ⟨⟨g1, g2⟩, g3⟩ := h4
    unfold areHops at g3
    split at g3
    · rename_i hl
      simp only [Bool.and_eq_true, decide_eq_true_eq] at g3
      obtain ⟨m2, _, hm2⟩ := (hm (.tup hl) (by simp)).tupI
      have hw : ∀ l ∈ hl, ∃ xs, l = .tup xs ∧ xs.length ≤ 3 ∧ ∀ x ∈ xs, WdP c x := fun l hl2 => hop_words h9 hB (hm2 l hl2) (List.all_eq_true.mp g3.2 l hl2)
      have hs1 := hm s (by simp)
      refine ⟨b, n, s, hl, rfl, hs1.mono (by omega), g2, g3.1, hw, fun x hx => ?_⟩
      rcases List.mem_append.mp hx with hx | hx
      · simp only [List.mem_cons, List.not_mem_nil, or_false] at hx
        rcases hx with rfl | rfl | rfl | rfl
        · exact WdP.mono (wd_lit _ hc) (by omega)
        · exact WdP.mono (wd_whole (by decide) (hm _ (by simp)) h3 hB h9) (by omega)
        · exact WdP.mono (wd_whole (by decide) (hm _ (by simp)) g1 hB h9) (by omega)
        · obtain ⟨xs, rfl, q1, q2⟩ := step_words hc h9 hB hs1 g2
          exact (words_atx (by omega) sp_atx q2).mono (Nat.mul_le_mul_right _ q1)
      · obtain ⟨l, hl2, rfl⟩ := List.mem_map.mp hx
        have h5 : ATx 2 (Str.ofString "> ") := ⟨by decide +kernel, by unfold DL.asc; decide +kernel⟩
        exact (h5.app (colons_atx hc (hw l hl2))).mono (by omega)
    · cases g3
  all_goals (simp only [List.length_cons, List.length_nil] at h2; omega)
theorem short_words {d : D} (hc : 10 ≤ c) (h9 : c ≤ 90) (hB : B < 10 ^ c) (hp : PlN B h d) (hs : isDoneD d = true ∨ begins (Str.ofString "turn") 2 d = true) : ∃ x xs, d = .tup (.str x :: xs) ∧ x ≠ Str.ofString "next" ∧ xs.length ≤ 2 ∧ showLetter d = wordsD sp (.str x :: xs) ∧ ∀ y ∈ (.str x :: xs), WdP c y := by
  rcases hs with hs | hs
  · unfold isDoneD at hs
    rw [Bool.and_eq_true] at hs
    obtain ⟨b, r, rfl, h2, h3⟩ := begins_parts hs.1
    obtain ⟨m, em, hm⟩ := hp.tupI
    rcases r with _ | ⟨n, _ | ⟨s, r⟩⟩
    case cons.nil =>
      refine ⟨_, _, rfl, by decide, by simp, rfl, fun y hy => ?_⟩
      have hh := hm y hy
      simp only [List.mem_cons, List.not_mem_nil, or_false] at hy
      rcases hy with rfl | rfl | rfl
      · exact wd_lit _ hc
      · exact wd_whole (by decide) hh h3 hB h9
      · exact wd_whole (by decide) hh hs.2 hB h9
    all_goals (simp only [List.length_cons, List.length_nil] at h2; omega)
  · obtain ⟨b, r, rfl, h2, h3⟩ := begins_parts hs
    obtain ⟨m, em, hm⟩ := hp.tupI
    rcases r with _ | ⟨n, r⟩
    case nil =>
      refine ⟨_, _, rfl, by decide, by simp, rfl, fun y hy => ?_⟩
      have hh := hm y hy
      simp only [List.mem_cons, List.not_mem_nil, or_false] at hy
      rcases hy with rfl | rfl
      · exact wd_lit _ hc
      · exact wd_whole (by decide) hh h3 hB h9
    all_goals (simp only [List.length_cons, List.length_nil] at h2; omega)
end
def sf_show (p : D → Bool) (f : D → Str) (C : Addr) : SF W := fun ds w Q E => ∃ d B h, ds = [d] ∧ PlN B h d ∧ B < 10 ^ 90 ∧ inL d ∧ tlen d ≤ LB ∧ (p d = true → Q (.str (f d)) w) ∧ (p d = false → E C w)
theorem sf_show_mono (p : D → Bool) (f : D → Str) (C : Addr) (ds : List D) : Mono (sf_show (W := W) p f C ds) := fun w Q Q' E E' hq he ⟨d, B, h, e, h1, h2, h3, h4, q1, q2⟩ => ⟨d, B, h, e, h1, h2, h3, h4, fun z => hq _ _ (q1 z), fun z => he _ _ (q2 z)⟩
/-- figures: what is read as a number -/
def figD : D → Bool
  | .str z => match z.cps.toList with
    | [c] => decide (48 ≤ c) && decide (c ≤ 57)
    | _ => false
  | _ => false
theorem fig_one (c : Nat) : figD (.str ⟨#[c]⟩) = (decide (48 ≤ c) && decide (c ≤ 57)) := rfl
def figAll (x : Str) : Bool := x.cps.toList.all fun c => decide (48 ≤ c) && decide (c ≤ 57)
def figOk (x : Str) : Bool := decide (1 ≤ x.length) && decide (x.length ≤ 15) && figAll x && (decide (x = Str.ofString "0") || decide (x.cps.toList.head? ≠ some 48))
theorem all_fig (x : Str) : ((signsD x).map figD).all id = figAll x := by
  unfold signsD figAll
  rw [List.map_map, List.all_map]
  rfl
def sfFig : SF W := fun ds w Q _ => ∃ x, ds = [.str x] ∧ Q (.bl (figOk x)) w
theorem sfFig_mono (ds : List D) : Mono (sfFig (W := W) ds) := fun w Q Q' E E' hq _ ⟨x, e, q⟩ => ⟨x, e, hq _ _ q⟩
def numOf (x : Str) : Int := (PySem.intText? x).getD 0
def sfNumOf (C : Addr) : SF W := fun ds w Q E => ∃ x, ds = [.str x] ∧ (figOk x = true → (PySem.intText? x).isSome = true ∧ Q (.int (numOf x)) w) ∧ (figOk x = false → E C w)
theorem sfNumOf_mono (C : Addr) (ds : List D) : Mono (sfNumOf (W := W) C ds) := fun w Q Q' E E' hq he ⟨x, e, q1, q2⟩ => ⟨x, e, fun z => ⟨(q1 z).1, hq _ _ (q1 z).2⟩, fun z => he _ _ (q2 z)⟩
def partD (x : Str) : D := if sideD (.str x) then .str x else .int (numOf x)
def sfPart (C : Addr) : SF W := fun ds w Q E => ∃ x, ds = [.str x] ∧ (sideD (.str x) = true ∨ figOk x = true → (sideD (.str x) = false → (PySem.intText? x).isSome = true) ∧ Q (partD x) w) ∧ (sideD (.str x) = false → figOk x = false → E C w)
theorem sfPart_mono (C : Addr) (ds : List D) : Mono (sfPart (W := W) C ds) := fun w Q Q' E E' hq he ⟨x, e, q1, q2⟩ => ⟨x, e, fun z => ⟨(q1 z).1, hq _ _ (q1 z).2⟩, fun z z2 => he _ _ (q2 z z2)⟩
def sfWordsOf (C : Addr) : SF W := fun ds w Q _ => ∃ x, ds = [.str x] ∧ (Txt.split x sp).length ≤ LB ∧ (∀ y ∈ Txt.split x sp, SOk y) ∧ Q (.lst ((Txt.split x sp).map D.str)) w
theorem sfWordsOf_mono (C : Addr) (ds : List D) : Mono (sfWordsOf (W := W) C ds) := fun w Q Q' E E' hq he ⟨x, e, h1, h2, q⟩ => ⟨x, e, h1, h2, hq _ _ q⟩
/-- a state shown by the law, the self-call unreached -/
def sfShown (n : Nat) : SF W := match n with
  | 0 => fun _ _ _ _ => False
  | _ + 1 => fun ds w Q _ => ∃ d B h, ds = [d] ∧ PlN B h d ∧ B < 10 ^ 90 ∧ isState d = true ∧ Q (.str (showState d)) w
theorem sfShown_mono : ∀ (n : Nat) (ds : List D), Mono (sfShown (W := W) n ds)
  | 0, _ => fun _ _ _ _ _ _ _ h => h
  | n + 1, ds => fun w Q Q' E E' hq he ⟨d, B, h, e, h1, h2, h3, q⟩ => ⟨d, B, h, e, h1, h2, h3, hq _ _ q⟩
def sfLockIn (C : Addr) : SF W := fun ds w Q E => ∃ x, ds = [.str x] ∧ (Txt.split x co).length ≤ LB ∧ (∀ y ∈ Txt.split x co, SOk y) ∧ (∀ y ∈ Txt.split x co, sideD (.str y) = true ∨ (figOk y = true ∧ (PySem.intText? y).isSome = true)) ∧ Q (.tup ((Txt.split x co).map partD)) w
theorem sfLockIn_mono (C : Addr) (ds : List D) : Mono (sfLockIn (W := W) C ds) := fun w Q Q' E E' hq he ⟨x, e, h1, h2, h3, q⟩ => ⟨x, e, h1, h2, h3, hq _ _ q⟩
/-- the numbers of a state's locks are short -/
def lkShort (l : D) : Prop := ∃ (i a s t : Int) (g : Str), l = .tup [.int i, .str g, .int a, .int s, .int t] ∧ i < 10 ^ 15 ∧ a < 10 ^ 15 ∧ s < 10 ^ 15 ∧ t < 10 ^ 15
def sfRead (C : Addr) : SF W := fun ds w Q E => ∃ (a b e f : Int) (ls : List D) (B h : Nat), ds = [.str (showState (.tup [.int a, .int b, .int e, .int f, .tup ls]))] ∧ isState (.tup [.int a, .int b, .int e, .int f, .tup ls]) = true ∧ PlN B h (.tup [.int a, .int b, .int e, .int f, .tup ls]) ∧ B < 10 ^ 90 ∧ (∀ l ∈ ls, lkShort l) ∧
  (a < 10 ^ 15 → b < 10 ^ 15 → e < 10 ^ 15 → f < 10 ^ 15 → Q (.tup [.int a, .int b, .int e, .int f, .tup ls]) w) ∧ (¬ (a < 10 ^ 15 ∧ b < 10 ^ 15 ∧ e < 10 ^ 15 ∧ f < 10 ^ 15) → E C w)
theorem sfRead_mono (C : Addr) (ds : List D) : Mono (sfRead (W := W) C ds) := fun w Q Q' E E' hq he ⟨a, b, e, f, ls, B, h, e1, e2, e3, e4, e5, q1, q2⟩ => ⟨a, b, e, f, ls, B, h, e1, e2, e3, e4, e5, fun z1 z2 z3 z4 => hq _ _ (q1 z1 z2 z3 z4), fun z => he _ _ (q2 z)⟩
theorem joinL_mem {S : List Nat} {c : Nat} : ∀ {ps : List (List Nat)}, c ∈ TL.joinL S ps → c ∈ S ∨ ∃ p ∈ ps, c ∈ p
  | [], h => nomatch h
  | [p], h => .inr ⟨p, List.mem_cons_self, h⟩
  | p :: q :: r, h => by
    rcases List.mem_append.mp (show c ∈ p ++ (S ++ TL.joinL S (q :: r)) from h) with h | h
    · exact .inr ⟨p, List.mem_cons_self, h⟩
    · rcases List.mem_append.mp h with h | h
      · exact .inl h
      · rcases joinL_mem h with h | ⟨y, hy, hc⟩
        · exact .inl h
        · exact .inr ⟨y, List.mem_cons_of_mem _ hy, hc⟩
theorem num_signs {i : Int} (h0 : 0 ≤ i) {c : Nat} (hc : c ∈ TL.tl (strI i)) : 48 ≤ c ∧ c ≤ 57 := by
  obtain ⟨n, rfl⟩ := Int.eq_ofNat_of_zero_le h0
  have h : c ∈ TL.numL n := by rw [← TL.tl_num n]; exact hc
  have := TL.numL_digits n c h
  omega
/-- a word of a state: figures or a side -/
def wd0 (d : D) : Prop := (∃ i : Int, d = .int i ∧ 0 ≤ i) ∨ d = .str (Str.ofString "left") ∨ d = .str (Str.ofString "right")
theorem wd0_signs {d : D} (h : wd0 d) {c : Nat} (hc : c ∈ TL.tl (showP d)) : 48 ≤ c ∧ c ≠ 58 := by
  rcases h with ⟨i, rfl, h0⟩ | rfl | rfl
  · have := num_signs h0 hc; omega
  · have : ∀ c ∈ TL.tl (Str.ofString "left"), 48 ≤ c ∧ c ≠ 58 := by decide +kernel
    exact this c hc
  · have : ∀ c ∈ TL.tl (Str.ofString "right"), 48 ≤ c ∧ c ≠ 58 := by decide +kernel
    exact this c hc
theorem co_tl : TL.tl co = [58] := by decide +kernel
theorem sp_tl : TL.tl sp = [32] := by decide +kernel
theorem words_signs {xs : List D} (h : ∀ d ∈ xs, wd0 d) {c : Nat} (hc : c ∈ TL.tl (wordsD co xs)) : 48 ≤ c := by
  unfold wordsD at hc
  rw [TL.join_eq, TL.tl_join, co_tl] at hc
  rcases joinL_mem hc with hc | ⟨p, hp, hc⟩
  · have := List.mem_singleton.mp hc; omega
  · obtain ⟨y, hy, rfl⟩ := List.mem_map.mp hp
    obtain ⟨d, hd, rfl⟩ := List.mem_map.mp hy
    exact (wd0_signs (h d hd) hc).1
theorem words_split {xs : List D} (hne : xs ≠ []) (h : ∀ d ∈ xs, wd0 d) : Txt.split (wordsD co xs) co = xs.map showP := by
  unfold wordsD
  refine TL.split_join (s := 58) (S := []) co_tl (by decide +kernel) (fun z => hne (List.map_eq_nil_iff.mp z)) fun p hp hc => ?_
  obtain ⟨d, hd, rfl⟩ := List.mem_map.mp hp
  exact (wd0_signs (h d hd) hc).2 rfl
theorem lock_wd0 {l : D} (h : isLock l = true) : ∃ xs, l = .tup xs ∧ xs ≠ [] ∧ xs.length ≤ 5 ∧ ∀ x ∈ xs, wd0 x := by
  obtain ⟨i, g, b, s, t, rfl, k1, k2, k3, k4, k5⟩ := isLock_parts h
  refine ⟨_, rfl, by simp, by simp, fun x hx => ?_⟩
  simp only [List.mem_cons, List.not_mem_nil, or_false] at hx
  rcases hx with rfl | rfl | rfl | rfl | rfl
  · exact .inl ⟨_, rfl, by omega⟩
  · rcases k2 with rfl | rfl
    · exact .inr (.inl rfl)
    · exact .inr (.inr rfl)
  · exact .inl ⟨_, rfl, by omega⟩
  · exact .inl ⟨_, rfl, by omega⟩
  · exact .inl ⟨_, rfl, by omega⟩
theorem state_split {a b e f : Int} {ls : List D} (h : isState (.tup [.int a, .int b, .int e, .int f, .tup ls]) = true) : Txt.split (showState (.tup [.int a, .int b, .int e, .int f, .tup ls])) sp = [strI a, strI b, strI e, strI f] ++ ls.map colons := by
  obtain ⟨a2, b2, e2, f2, ls2, z, k1, k2, k3, k4, k5, k6⟩ := isState_parts h
  cases z
  show Txt.split (wordsD sp ([.int a, .int b, .int e, .int f] ++ ls.map fun l => .str (colons l))) sp = _
  unfold wordsD
  rw [TL.split_join (s := 32) (S := []) sp_tl (by decide +kernel) (by simp) fun p hp hc => ?_]
  · rw [List.map_append, List.map_map]; rfl
  · obtain ⟨d, hd, rfl⟩ := List.mem_map.mp hp
    rcases List.mem_append.mp hd with hd | hd
    · simp only [List.mem_cons, List.not_mem_nil, or_false] at hd
      rcases hd with rfl | rfl | rfl | rfl
      · have := num_signs k1 hc; omega
      · have := num_signs k2 hc; omega
      · have := num_signs k3 hc; omega
      · have := num_signs k4 hc; omega
    · obtain ⟨l, hl, rfl⟩ := List.mem_map.mp hd
      obtain ⟨xs, rfl, _, _, hx⟩ := lock_wd0 (locksFrom_all k6 l hl)
      have := words_signs hx hc
      omega
theorem num_of {i : Int} (h0 : 0 ≤ i) (h : i < 10 ^ 90) : PySem.intText? (strI i) = some i := by
  obtain ⟨n, rfl⟩ := Int.eq_ofNat_of_zero_le h0
  exact TL.int_num (Nat.le_trans (TL.numL_len (k := 90) (by decide) (by omega)) (by decide))
theorem numL_front : ∀ n : Nat, 1 ≤ n → (TL.numL n).head? ≠ some 48 := fun n => by
  induction n using Nat.strongRecOn with
  | _ n ih =>
    intro h
    by_cases h10 : n < 10
    · rw [TL.numL_lt h10]
      simp
      omega
    · rw [TL.numL_step (by omega)]
      have hd := ih (n / 10) (by omega) (by omega)
      cases hl : TL.numL (n / 10) with
      | nil => exact absurd hl (TL.numL_ne _)
      | cons c r => rw [hl] at hd; exact hd
theorem fig_num {i : Int} (h0 : 0 ≤ i) : figOk (strI i) = decide (i < 10 ^ 15) := by
  obtain ⟨n, rfl⟩ := Int.eq_ofNat_of_zero_le h0
  have l1 : 1 ≤ (strI (n : Int)).length := by
    rw [str_length]
    exact List.length_pos_iff.mpr (TL.numL_ne n)
  have al : figAll (strI (n : Int)) = true := by
    unfold figAll
    rw [str_list]
    refine List.all_eq_true.mpr fun c hc => ?_
    have := TL.numL_digits n c hc
    rw [Bool.and_eq_true, decide_eq_true_eq, decide_eq_true_eq]
    omega
  have hz : (decide (strI (n : Int) = Str.ofString "0") || decide ((strI (n : Int)).cps.toList.head? ≠ some 48)) = true := by
    by_cases h : n = 0
    · subst h; decide +kernel
    · rw [str_list, decide_eq_true (numL_front n (by omega)), Bool.or_true]
  unfold figOk
  rw [decide_eq_true l1, al, hz, Bool.true_and, Bool.and_true, Bool.and_true]
  refine decide_eq_decide.mpr ?_
  rw [str_length]
  constructor
  · intro h
    have h2 := numL_lt_pow n
    have h3 : n < 10 ^ 15 := Nat.lt_of_lt_of_le h2 (Nat.pow_le_pow_right (by decide) h)
    omega
  · intro h
    exact TL.numL_len (by decide) (by omega)
theorem side_num {i : Int} (h0 : 0 ≤ i) : sideD (.str (strI i)) = false := by
  cases hs : sideD (.str (strI i)) with
  | false => rfl
  | true =>
    rcases (Bool.or_eq_true _ _).mp (show (decide (strI i = Str.ofString "left") || decide (strI i = Str.ofString "right")) = true from hs) with h | h
    · have := num_signs (c := 108) h0 (by rw [of_decide_eq_true h]; decide +kernel)
      omega
    · have := num_signs (c := 114) h0 (by rw [of_decide_eq_true h]; decide +kernel)
      omega
def sfRefT : SF W := fun ds w Q _ => ∃ (a b e f : Int) (ls : List D) (B h : Nat), ds = [.str (showState (.tup [.int a, .int b, .int e, .int f, .tup ls]))] ∧ isState (.tup [.int a, .int b, .int e, .int f, .tup ls]) = true ∧ PlN B h (.tup [.int a, .int b, .int e, .int f, .tup ls]) ∧ B < 10 ^ 90 ∧ (∀ l ∈ ls, lkShort l) ∧
  ¬ (a < 10 ^ 15 ∧ b < 10 ^ 15 ∧ e < 10 ^ 15 ∧ f < 10 ^ 15) ∧ Q (.bl true) w
theorem sfRefT_mono (ds : List D) : Mono (sfRefT (W := W) ds) := fun w Q Q' E E' hq he ⟨a, b, e, f, ls, B, h, e1, e2, e3, e4, e5, e6, q⟩ => ⟨a, b, e, f, ls, B, h, e1, e2, e3, e4, e5, e6, hq _ _ q⟩
/-- a state whose locks' numbers are short, the rest not over 10^17 -/
def StT (s : Ste) : Prop := s.Bd (10 ^ 17) 30 ∧ ∀ l ∈ s.ls, l.id < 10 ^ 15 ∧ l.am < 10 ^ 15 ∧ l.sl < 10 ^ 15 ∧ l.last < 10 ^ 15
theorem StT.lk {s : Ste} (h : StT s) : ∀ d ∈ s.ls.map lkD, lkShort d := fun d hd => by
  obtain ⟨l, hl, rfl⟩ := List.mem_map.mp hd
  obtain ⟨h1, h2, h3, h4⟩ := h.2 l hl
  exact ⟨_, _, _, _, _, rfl, h1, h2, h3, h4⟩
theorem StT.is {s : Ste} (h : StT s) : isState (.tup [.int s.lane, .int s.num, .int s.lf, .int s.rt, .tup (s.ls.map lkD)]) = true := isState_st (h.1.good (by decide))
theorem StT.pl {s : Ste} (h : StT s) : PlN (10 ^ 17) 3 (.tup [.int s.lane, .int s.num, .int s.lf, .int s.rt, .tup (s.ls.map lkD)]) := (dt_st (B := 10 ^ 17) (by decide +kernel) (by decide) h.1).1
def sfRight : SF W := fun ds w Q _ => ∃ s : Ste, ds = [stD s] ∧ StT s ∧ Q (.bl true) w
theorem sfRight_mono (ds : List D) : Mono (sfRight (W := W) ds) := fun w Q Q' E E' hq he ⟨s, e, h, q⟩ => ⟨s, e, h, hq _ _ q⟩
theorem StT.of {s : Ste} (h : s.Bd 1000000000000000 30) : StT s := ⟨h.wide (by decide) (by decide), fun l hl => ⟨by have := rise_le h.rise l hl; have := h.num; omega, (h.ok l hl).1.am, (h.ok l hl).1.sl, (h.ok l hl).1.last⟩⟩
theorem rise_up {n m : Int} (h : n ≤ m) : ∀ {ls : List Lk} {low : Int}, Rise low n ls → Rise low m ls
  | [], _, _ => trivial
  | _ :: _, _, ⟨h1, h2, h3⟩ => ⟨h1, by omega, rise_up h h3⟩
theorem StT.pass {s : Ste} (h : s.Bd 1000000000000000 30) : ∃ t, s.next .pass = some t ∧ StT t := ⟨_, rfl, ⟨h.lane0, (by have := h.lane; show s.lane < 10 ^ 17; omega), (by have := h.num0; show 0 ≤ s.num + 1; omega), (by have := h.num; show s.num + 1 < 10 ^ 17; omega), h.lf0, (by have := h.lf; show s.lf < 10 ^ 17; omega), h.rt0, (by have := h.rt; show s.rt < 10 ^ 17; omega), h.few, fun l hl => ⟨(h.ok l hl).1.wide (by decide), (h.ok l hl).2⟩, rise_up (by show s.num ≤ s.num + 1; omega) h.rise⟩, (StT.of h).2⟩
theorem StT.pay {s : Ste} (h : s.Bd 1000000000000000 30) {a : Int} (a1 : 1 ≤ a) (a2 : a ≤ s.lf) : ∃ t, s.next (.pay true a) = some t ∧ StT t := by
  have e : s.next (.pay true a) = some ⟨s.lane, s.num + 1, s.lf + -a, s.rt + a, s.ls⟩ := by
    simp only [Ste.next, Ste.changed]
    rw [if_neg (show ¬ s.share true < a from by show ¬ s.lf < a; omega)]
    rfl
  exact ⟨_, e, ⟨h.lane0, (by have := h.lane; show s.lane < 10 ^ 17; omega), (by have := h.num0; show 0 ≤ s.num + 1; omega), (by have := h.num; show s.num + 1 < 10 ^ 17; omega), (by show 0 ≤ s.lf + -a; omega), (by have := h.lf; show s.lf + -a < 10 ^ 17; omega), (by have := h.rt0; show 0 ≤ s.rt + a; omega), (by have := h.rt; have := h.lf; show s.rt + a < 10 ^ 17; omega), h.few, fun l hl => ⟨(h.ok l hl).1.wide (by decide), (h.ok l hl).2⟩, rise_up (by show s.num ≤ s.num + 1; omega) h.rise⟩, (StT.of h).2⟩
end DL

namespace DL
open PySem PySem.Spec PyProof.Rows L2
/-! ### split, of any text -/
theorem spl_parts (s : Nat) : ∀ (l acc : List Nat), ∀ p ∈ TL.spl [s] 0 acc l, p.length ≤ acc.length + l.length ∧ ∀ c ∈ p, c ∈ acc ∨ c ∈ l
  | [], acc, p, h => by
    rw [TL.spl_nil] at h
    rw [List.mem_singleton.mp h]
    exact ⟨Nat.le_add_right _ _, fun c hc => .inl hc⟩
  | c :: r, acc, p, h => by
    by_cases e : c = s
    · subst e
      rw [TL.spl_hit (by exact TL.pre_self [c] r)] at h
      rcases List.mem_cons.mp h with h | h
      · rw [h]; exact ⟨Nat.le_add_right _ _, fun d hd => .inl hd⟩
      · obtain ⟨h1, h2⟩ := spl_parts c r [] p h
        refine ⟨by simp only [List.length_nil, List.length_cons] at h1 ⊢; omega, fun d hd => .inr (List.mem_cons_of_mem _ ?_)⟩
        exact (h2 d hd).elim (fun z => nomatch z) id
    · rw [TL.spl_miss (TL.pre_of_head [] r e)] at h
      obtain ⟨h1, h2⟩ := spl_parts s r (acc ++ [c]) p h
      refine ⟨by simp only [List.length_append, List.length_cons, List.length_nil] at h1 ⊢; omega, fun d hd => ?_⟩
      rcases h2 d hd with h | h
      · rcases List.mem_append.mp h with h | h
        · exact .inl h
        · rw [List.mem_singleton.mp h]; exact .inr List.mem_cons_self
      · exact .inr (List.mem_cons_of_mem _ h)
theorem spl_ne (s : Nat) : ∀ (l acc : List Nat), TL.spl [s] 0 acc l ≠ []
  | [], acc, h => by rw [TL.spl_nil] at h; cases h
  | c :: r, acc, h => by
    by_cases e : c = s
    · subst e
      rw [TL.spl_hit (by exact TL.pre_self [c] r)] at h; cases h
    · rw [TL.spl_miss (TL.pre_of_head [] r e)] at h
      exact spl_ne s r _ h
/-- a one-sign separator -/
structure Sep (y : Str) : Prop where
  one : ∃ s, TL.tl y = [s]
  low : y.cps.all (· < 256) = true
  some : (y.length == 0) = false
theorem sep_sp : Sep sp := ⟨⟨32, sp_tl⟩, by decide +kernel, by decide +kernel⟩
theorem sep_co : Sep co := ⟨⟨58, co_tl⟩, by decide +kernel, by decide +kernel⟩
theorem split_map {x y : Str} (h : Sep y) : ∃ s, TL.tl y = [s] ∧ (Txt.split x y).map TL.tl = TL.spl [s] 0 [] (TL.tl x) := by
  obtain ⟨s, e⟩ := h.one
  refine ⟨s, e, ?_⟩
  rw [TL.split_spl x y (by rw [e]; exact fun z => nomatch z) (TL.kind_ok h.low), e]
theorem split_ne {x y : Str} (h : Sep y) : Txt.split x y ≠ [] := by
  obtain ⟨s, _, e⟩ := split_map (x := x) h
  intro z
  rw [z] at e
  exact spl_ne s _ _ e.symm
theorem split_atx {n : Nat} {x y : Str} (hx : ATx n x) (h : Sep y) : ∀ z ∈ Txt.split x y, ATx n z := by
  obtain ⟨s, _, e⟩ := split_map (x := x) h
  intro z hz
  have hm : TL.tl z ∈ TL.spl [s] 0 [] (TL.tl x) := by rw [← e]; exact List.mem_map_of_mem hz
  obtain ⟨h1, h2⟩ := spl_parts s _ _ _ hm
  refine ⟨?_, fun c hc => hx.asc c ((h2 c hc).elim (fun z => nomatch z) id)⟩
  rw [TL.len_tl z]
  have := hx.len
  rw [TL.len_tl x] at this
  simp only [List.length_nil] at h1
  omega
theorem split_few {n : Nat} {x y : Str} (hx : ATx n x) : (Txt.split x y).length ≤ n + 2 := Nat.le_trans (PyProof.Rows.split_le x y) (Nat.add_le_add_right hx.len 2)
/-! ### figures are a number's text -/
theorem figs_num : ∀ (k : Nat) (l : List Nat), l.length ≤ k → l ≠ [] → (∀ c ∈ l, 48 ≤ c ∧ c ≤ 57) → (l = [48] ∨ l.head? ≠ some 48) → ∃ n, TL.numL n = l
  | 0, l, h, h0, _, _ => absurd (List.length_eq_zero_iff.mp (by omega)) h0
  | k + 1, l, h, h0, hd, hh => by
    rcases List.eq_nil_or_concat l with e | ⟨l', c, e⟩
    · exact absurd e h0
    · rw [List.concat_eq_append] at e
      subst e
      have hc := hd c (List.mem_append_right _ List.mem_cons_self)
      by_cases e2 : l' = []
      · subst e2
        refine ⟨c - 48, ?_⟩
        rw [TL.numL_lt (by omega), show 48 + (c - 48) = c by omega]; rfl
      · have hh2 : l'.head? ≠ some 48 := by
          rcases hh with hh | hh
          · have := congrArg List.length hh
            rw [List.length_append] at this
            have h3 := List.length_pos_iff.mpr e2
            simp only [List.length_cons, List.length_nil] at this
            omega
          · cases l' with
            | nil => exact absurd rfl e2
            | cons a r => exact hh
        obtain ⟨n, hn⟩ := figs_num k l' (by rw [List.length_append, List.length_cons, List.length_nil] at h; omega) e2 (fun d hd2 => hd d (List.mem_append_left _ hd2)) (.inr hh2)
        have hpos : 1 ≤ n := by
          cases n with
          | zero => rw [TL.numL_lt (by decide)] at hn; rw [← hn] at hh2; exact absurd rfl hh2
          | succ n => omega
        refine ⟨10 * n + (c - 48), ?_⟩
        rw [TL.numL_step (by omega), show (10 * n + (c - 48)) / 10 = n by omega, show (10 * n + (c - 48)) % 10 = c - 48 by omega, hn, show 48 + (c - 48) = c by omega]
theorem fig_is {x : Str} (h : figOk x = true) : ∃ n : Nat, x = strI (n : Int) ∧ n < 10 ^ 15 := by
  have h' := h
  unfold figOk at h
  simp only [Bool.and_eq_true, Bool.or_eq_true, decide_eq_true_eq] at h
  obtain ⟨⟨⟨h1, h2⟩, h3⟩, h4⟩ := h
  have hl : TL.tl x ≠ [] := fun e => by rw [TL.len_tl x, e] at h1; exact absurd h1 (by decide)
  obtain ⟨n, hn⟩ := figs_num (TL.tl x).length (TL.tl x) (Nat.le_refl _) hl (fun c hc => by
    have := List.all_eq_true.mp h3 c hc
    simp only [Bool.and_eq_true, decide_eq_true_eq] at this
    exact this) (by
    rcases h4 with h4 | h4
    · left; rw [h4]; decide +kernel
    · right; exact h4)
  have e : x = strI (n : Int) := TL.ext_tl (by rw [← hn]; exact (TL.tl_num n).symm)
  refine ⟨n, e, ?_⟩
  rw [e, fig_num (Int.natCast_nonneg n), decide_eq_true_eq] at h'
  omega
theorem fig_text {x : Str} (h : figOk x = true) : (PySem.intText? x).isSome = true ∧ 0 ≤ numOf x ∧ numOf x < 10 ^ 15 ∧ strI (numOf x) = x := by
  obtain ⟨n, e, hn⟩ := fig_is h
  have e2 : PySem.intText? x = some (n : Int) := by rw [e]; exact num_of (Int.natCast_nonneg n) (by omega)
  have e3 : numOf x = (n : Int) := by unfold numOf; rw [e2]; rfl
  rw [e3]
  exact ⟨by rw [e2]; rfl, Int.natCast_nonneg n, by omega, e.symm⟩
theorem numOf_str {i : Int} (h0 : 0 ≤ i) (h1 : i < 10 ^ 90) : numOf (strI i) = i := by unfold numOf; rw [num_of h0 h1]; rfl
/-! ### reading, as functions of words -/
def numsD (ys : List Str) : List D := ys.map fun y => .int (numOf y)
def hopOf (x : Str) : Option D := if (Txt.split x co).all figOk = true then some (.tup (numsD (Txt.split x co))) else none
def partOk (y : Str) : Bool := sideD (.str y) || figOk y
def lockOfW (x : Str) : Option D := if (Txt.split x co).all partOk = true then some (.tup ((Txt.split x co).map partD)) else none
def stepOf : List Str → Option D
  | [] => none
  | w :: r => if r.all partOk = true then (if isStep (.tup (.str w :: r.map partD)) = true then some (.tup (.str w :: r.map partD)) else none) else none
def stateOf (ws : List Str) : Option D := if (ws.take 4).all figOk = true then (if (ws.drop 4).all (fun x => (lockOfW x).isSome) = true then
  (let d := D.tup (numsD (ws.take 4) ++ [.tup ((ws.drop 4).map fun x => (lockOfW x).getD .non)]); if isState d = true then some d else none) else none) else none
def gtS : Str := Str.ofString ">"
def endOf (ws : List Str) : Nat := ws.findIdx fun x => decide (x = gtS)
def nextBad (ws : List Str) : Bool := decide (endOf ws < 4) || (evens (ws.drop (endOf ws))).any (fun x => !decide (x = gtS)) || decide ((ws.length - endOf ws) % 2 = 1)
def hopsOf (ys : List Str) : Option (List D) := if ys.all (fun x => (hopOf x).isSome) = true then some (ys.map fun x => (hopOf x).getD .non) else none
def nextOf (ws : List Str) : Option D := if nextBad ws = true then none else
  match hopsOf (evens (ws.drop (endOf ws + 1))) with
  | none => none
  | some hs => if figOk (ws.getD 1 Str.empty) = true then (if figOk (ws.getD 2 Str.empty) = true then (match stepOf ((ws.take (endOf ws)).drop 3) with
    | none => none
    | some s => some (.tup [.str (Str.ofString "next"), .int (numOf (ws.getD 1 Str.empty)), .int (numOf (ws.getD 2 Str.empty)), s, .tup hs])) else none) else none
def letterRaw (ws : List Str) : Option D := if ws.head? = some (Str.ofString "next") then nextOf ws else if (ws.drop 1).all figOk = true then some (.tup (.str (ws.headD Str.empty) :: numsD (ws.drop 1))) else none
def letterOf (ws : List Str) : Option D := match letterRaw ws with | some d => if isLetterD d = true then some d else none | none => none
/-- what a reader promises: it tells f of the words, or refuses -/
def sfOpt (f : List Str → Option D) (n : Nat) (C : Addr) : SF W := fun ds w Q E => ∃ ws, ds = [.lst (ws.map D.str)] ∧ ws ≠ [] ∧ ws.length ≤ n + 2 ∧ (∀ y ∈ ws, ATx n y) ∧ (∀ d, f ws = some d → Q d w) ∧ (f ws = none → E C w)
theorem sfOpt_mono (f : List Str → Option D) (n : Nat) (C : Addr) (ds : List D) : Mono (sfOpt (W := W) f n C ds) := fun w Q Q' E E' hq he ⟨ws, e, h0, h1, h2, q1, q2⟩ => ⟨ws, e, h0, h1, h2, fun d z => hq _ _ (q1 d z), fun z => he _ _ (q2 z)⟩
/-- .. of one word -/
def sfOptW (f : Str → Option D) (n : Nat) (C : Addr) : SF W := fun ds w Q E => ∃ x, ds = [.str x] ∧ ATx n x ∧ (∀ d, f x = some d → Q d w) ∧ (f x = none → E C w)
theorem sfOptW_mono (f : Str → Option D) (n : Nat) (C : Addr) (ds : List D) : Mono (sfOptW (W := W) f n C ds) := fun w Q Q' E E' hq he ⟨x, e, h1, q1, q2⟩ => ⟨x, e, h1, fun d z => hq _ _ (q1 d z), fun z => he _ _ (q2 z)⟩
/-- .. of any thing -/
def sfOptD (f : List Str → Option D) (n : Nat) (C : Addr) : SF W := fun ds w Q E => ∃ d, ds = [d] ∧ Pl d ∧ (∀ x, d = .str x → ATx n x ∧ (∀ e, f (Txt.split x sp) = some e → Q e w) ∧ (f (Txt.split x sp) = none → E C w)) ∧ ((∀ x, d ≠ .str x) → E C w)
theorem sfOptD_mono (f : List Str → Option D) (n : Nat) (C : Addr) (ds : List D) : Mono (sfOptD (W := W) f n C ds) := fun w Q Q' E E' hq he ⟨d, e, hp, q1, q2⟩ => ⟨d, e, hp, fun x z => ⟨(q1 x z).1, fun d z2 => hq _ _ ((q1 x z).2.1 d z2), fun z2 => he _ _ ((q1 x z).2.2 z2)⟩, fun z => he _ _ (q2 z)⟩
def sfWordsG (n : Nat) (C : Addr) : SF W := fun ds w Q E => ∃ d, ds = [d] ∧ Pl d ∧ (∀ x, d = .str x → ATx n x ∧ n + 2 ≤ LB ∧ Q (.lst ((Txt.split x sp).map D.str)) w) ∧ ((∀ x, d ≠ .str x) → E C w)
theorem sfWordsG_mono (n : Nat) (C : Addr) (ds : List D) : Mono (sfWordsG (W := W) n C ds) := fun w Q Q' E E' hq he ⟨d, e, hp, q1, q2⟩ => ⟨d, e, hp, fun x z => ⟨(q1 x z).1, (q1 x z).2.1, hq _ _ (q1 x z).2.2⟩, fun z => he _ _ (q2 z)⟩
end DL
namespace DL
open PySem PySem.Spec PyProof.Rows L2
theorem cut_mid (xs : List D) (a b : Nat) : cutL xs (some (a : Int)) (some (b : Int)) = (xs.take b).drop a := by
  unfold cutL
  rw [HT.sIx_nat, HT.sIx_nat, List.drop_take]
  by_cases h : a ≤ xs.length
  · rw [Nat.min_eq_left h]
    by_cases h2 : b ≤ xs.length
    · rw [Nat.min_eq_left h2]
    · rw [Nat.min_eq_right (by omega), List.take_of_length_le (by rw [List.length_drop]; omega), List.take_of_length_le (by rw [List.length_drop]; omega)]
  · have e1 : min a xs.length = xs.length := Nat.min_eq_right (by omega)
    rw [e1, List.drop_eq_nil_of_le (Nat.le_refl _), List.drop_eq_nil_of_le (by omega : xs.length ≤ a), List.take_nil, List.take_nil]
theorem flatD_strs (ws : List Str) : (ws.map D.str).all flatD = true := List.all_eq_true.mpr fun d hd => by
  obtain ⟨y, _, rfl⟩ := List.mem_map.mp hd
  rfl
theorem eqF_str (a b : Str) : eqF (.str a) (.str b) = decide (a = b) := by
  show (a == b) = _
  rw [Bool.beq_eq_decide_eq]
theorem inD_strs {x : Str} : ∀ ws : List Str, inD (.str x) (ws.map D.str) = decide (x ∈ ws)
  | [] => (decide_eq_false (by simp)).symm
  | w :: ws => by
    have ih := inD_strs (x := x) ws
    unfold inD at ih ⊢
    rw [List.map_cons, List.any_cons, ih, eqF_str, ← Bool.decide_or]
    exact decide_eq_decide.mpr ⟨fun h => h.elim (fun e => e ▸ List.mem_cons_self) fun h => List.mem_cons_of_mem _ h, fun h => (List.mem_cons.mp h).elim (fun e => .inl e.symm) .inr⟩
theorem find_end : ∀ ws : List Str, gtS ∈ ws → (ws.map D.str).findIdx? (fun z => eqF z (.str gtS)) = some (endOf ws)
  | [], h => nomatch h
  | w :: ws, h => by
    rw [List.map_cons, List.findIdx?_cons, eqF_str]
    unfold endOf
    rw [List.findIdx_cons]
    by_cases e : w = gtS
    · rw [decide_eq_true e]; rfl
    · rw [decide_eq_false e]
      rw [find_end ws ((List.mem_cons.mp h).resolve_left (Ne.symm e))]
      rfl
theorem end_none : ∀ ws : List Str, ¬ gtS ∈ ws → endOf ws = ws.length
  | [], _ => rfl
  | w :: ws, h => by
    have ih := end_none ws fun z => h (List.mem_cons_of_mem _ z)
    unfold endOf at ih ⊢
    rw [List.findIdx_cons, decide_eq_false (p := w = gtS) (fun e => h (by rw [e]; exact List.mem_cons_self)), ih]
    rfl
theorem end_le (ws : List Str) : endOf ws ≤ ws.length := List.findIdx_le_length
end DL

namespace DL
open PySem PySem.Spec PyProof.Rows L2
/-! ### a value's truth -/
def truD : D → Option Bool
  | .bl b => some b
  | .int i => some (i != 0)
  | .str x => some ((x.length : Int) != 0)
  | .lst xs => some (!xs.isEmpty)
  | .tup xs => some (!xs.isEmpty)
  | .dct kvs => some (!kvs.isEmpty)
  | _ => none
section
variable {I : BagI} {K : PySem.W.Frag} {X : Cx} {Wx : WX} {en : En} {ps : Pin} {w : BW} {H : Hp} {A F : Foot}
def mTru (m : DEnv → M BW D) : DEnv → M BW Bool := fun ρ w Q E => m ρ w (fun d w' => ∃ b, truD (view w' d) = some b ∧ Q b w') E
theorem mTru_mono {m : DEnv → M BW D} (h : ∀ ρ, Mono (m ρ)) : ∀ ρ, Mono (mTru m ρ) := fun ρ => (h ρ).bind (f := fun d w Q _ => ∃ b, truD (view w d) = some b ∧ Q b w) fun d w Q Q' E E' hq _ ⟨b, e, q⟩ => ⟨b, e, hq _ _ q⟩
theorem RepL.empty {F : Foot} {H : Hp} : ∀ {vs : List V} {ds : List D}, RepL F H vs ds → vs.isEmpty = ds.isEmpty
  | _, _, .nil => rfl
  | _, _, .cons _ _ => rfl
theorem RepK.empty {F : Foot} {H : Hp} : ∀ {vs : List (Key × V)} {ds : List (Key × D)}, RepK F H vs ds → vs.isEmpty = ds.isEmpty
  | _, _, .nil => rfl
  | _, _, .cons _ _ => rfl
theorem dttru {e : Expr} {m : DEnv → M BW D} (h : DU (GB I K) X Wx e m) (he : ∀ whole, isTrue e X.env whole = (do let v ← whole; standAt e.pos; holding [v] (truthy v)) := by intro _; rfl) : DT (GB I K) X Wx e (mTru m) := by
  refine ⟨PT.imp (pt_truth h.pe he) fun σ H Q h1 => ?_, mTru_mono h.mono⟩
  refine runU h.mono (k := fun d ρ w Q E => ∃ b, truD (view w d) = some b ∧ Q b w) (fun d ρ w Q Q' E E' hq _ ⟨b, e, q⟩ => ⟨b, e, hq _ _ q⟩) (P := .t (GB I K) Q) h1 fun v d H1 ⟨A, F, ρ, w, E, k, r, x, rp, b, e, q⟩ => ?_
  refine ⟨b, ?_, q H1 A F .refl k⟩
  have r1 := repW_view k rp.w
  generalize view w d = d' at e r1
  cases d' <;> simp only [truD, Option.some.injEq, reduceCtorEq] at e
  · rw [r1.bl, ← e]; rfl
  · rw [r1.int, ← e]; rfl
  · rw [r1.str.1, ← e]; exact ⟨line _ r1.str.2.1, rfl⟩
  · obtain ⟨a, ys, rfl, h1, l1, rr⟩ := r1.lst
    exact .inl ⟨ys, SqL.of h1, by rw [RepL.empty rr]; exact e.symm⟩
  · obtain ⟨a, ys, rfl, h1, n1, l1, rr⟩ := r1.tup
    exact .inr (.inl ⟨ys, SqT.of h1, by rw [RepL.empty rr]; exact e.symm⟩)
  · obtain ⟨a, ys, rfl, h1, l1, rr⟩ := r1.dct
    exact .inr (.inr ⟨ys, h1, by rw [RepK.empty rr]; exact e.symm⟩)
theorem tr_int (i : Int) : truD (.int i) = some (i != 0) := rfl
theorem tr_bl (i : Bool) : truD (.bl i) = some i := rfl
theorem tr_str (x : Str) : truD (.str x) = some ((x.length : Int) != 0) := rfl
theorem tr_lst (xs : List D) : truD (.lst xs) = some (!xs.isEmpty) := rfl
theorem tr_tup (xs : List D) : truD (.tup xs) = some (!xs.isEmpty) := rfl
theorem vw_int (w : BW) (i : Int) : view w (.int i) = .int i := rfl
theorem vw_bl (w : BW) (i : Bool) : view w (.bl i) = .bl i := rfl
theorem vw_str (w : BW) (i : Str) : view w (.str i) = .str i := rfl
theorem vw_lst (w : BW) (i : List D) : view w (.lst i) = .lst i := rfl
theorem vw_tup (w : BW) (i : List D) : view w (.tup i) = .tup i := rfl
end
/-! ### what is read, is data -/
theorem pl_part (y : Str) : Pl (partD y) := by
  unfold partD
  split
  · exact .str _
  · exact .int _
theorem pl_nums (ys : List Str) : ∀ d ∈ numsD ys, Pl d := fun d hd => by
  obtain ⟨y, _, rfl⟩ := List.mem_map.mp hd
  exact .int _
theorem step_form {ws : List Str} {s : D} (h : stepOf ws = some s) : ∃ w0 r, ws = w0 :: r ∧ s = .tup (.str w0 :: r.map partD) ∧ isStep s = true ∧ r.all partOk = true := by
  cases ws with
  | nil => cases h
  | cons w0 r =>
    simp only [stepOf] at h
    split at h
    · rename_i h1
      split at h
      · rename_i h2
        cases h
        exact ⟨w0, r, rfl, rfl, h2, h1⟩
      · cases h
    · cases h
theorem hop_form {x : Str} {d : D} (h : hopOf x = some d) : d = .tup (numsD (Txt.split x co)) ∧ (Txt.split x co).all figOk = true := by
  unfold hopOf at h
  split at h
  · rename_i h1; cases h; exact ⟨rfl, h1⟩
  · cases h
theorem hops_form {ys : List Str} {hs : List D} (h : hopsOf ys = some hs) : hs = (ys.map fun x => (hopOf x).getD .non) ∧ ys.all (fun x => (hopOf x).isSome) = true := by
  unfold hopsOf at h
  split at h
  · rename_i h1; cases h; exact ⟨rfl, h1⟩
  · cases h
theorem hops_mem {ys : List Str} {hs : List D} (h : hopsOf ys = some hs) : hs.length = ys.length ∧ ∀ d ∈ hs, ∃ y ∈ ys, hopOf y = some d := by
  obtain ⟨rfl, ha⟩ := hops_form h
  refine ⟨List.length_map _, fun d hd => ?_⟩
  obtain ⟨y, hy, rfl⟩ := List.mem_map.mp hd
  have := List.all_eq_true.mp ha y hy
  refine ⟨y, hy, ?_⟩
  cases e : hopOf y with
  | none => rw [e] at this; cases this
  | some d => rfl
theorem next_form {ws : List Str} {e : D} (h : nextOf ws = some e) : ∃ s hs, nextBad ws = false ∧ hopsOf (evens (ws.drop (endOf ws + 1))) = some hs ∧ figOk (ws.getD 1 Str.empty) = true ∧ figOk (ws.getD 2 Str.empty) = true ∧ stepOf ((ws.take (endOf ws)).drop 3) = some s ∧
    e = .tup [.str (Str.ofString "next"), .int (numOf (ws.getD 1 Str.empty)), .int (numOf (ws.getD 2 Str.empty)), s, .tup hs] := by
  unfold nextOf at h
  split at h
  · cases h
  · rename_i hb
    split at h
    · cases h
    · rename_i hs eh
      split at h
      · rename_i f1
        split at h
        · rename_i f2
          split at h
          · cases h
          · rename_i s es
            cases h
            exact ⟨s, hs, Bool.eq_false_iff.mpr hb, eh, f1, f2, es, rfl⟩
        · cases h
      · cases h
theorem step_pl {ws : List Str} {s : D} (h : stepOf ws = some s) : Pl s ∧ tlen s ≤ ws.length := by
  obtain ⟨w0, r, rfl, rfl, _, _⟩ := step_form h
  refine ⟨.tup fun d hd => ?_, ?_⟩
  · rcases List.mem_cons.mp hd with rfl | hd
    · exact .str _
    · obtain ⟨y, _, rfl⟩ := List.mem_map.mp hd
      exact pl_part y
  · show (D.str w0 :: r.map partD).length ≤ (w0 :: r).length
    simp
theorem hops_pl {ys : List Str} {hs : List D} (h : hopsOf ys = some hs) : Pl (.tup hs) := .tup fun d hd => by
  obtain ⟨y, _, e⟩ := (hops_mem h).2 d hd
  rw [(hop_form e).1]
  exact .tup (pl_nums _)
theorem next_pl {ws : List Str} {e : D} (h : nextOf ws = some e) (hl : ws.length ≤ LB) : Pl e ∧ inL e := by
  obtain ⟨s, hs, _, h1, _, _, h2, rfl⟩ := next_form h
  obtain ⟨p1, p2⟩ := step_pl h2
  have p3 := hops_pl h1
  have p4 := (hops_mem h1).1
  have p5 := evens_len (ws.drop (endOf ws + 1))
  rw [List.length_drop] at p5
  rw [List.length_drop, List.length_take] at p2
  refine ⟨.tup fun d hd => ?_, fun x ex y hy => ?_⟩
  · simp only [List.mem_cons, List.not_mem_nil, or_false] at hd
    rcases hd with rfl | rfl | rfl | rfl | rfl
    · exact .str _
    · exact .int _
    · exact .int _
    · exact p1
    · exact p3
  · cases ex
    simp only [List.mem_cons, List.not_mem_nil, or_false] at hy
    rcases hy with rfl | rfl | rfl | rfl | rfl
    · exact Nat.zero_le _
    · exact Nat.zero_le _
    · exact Nat.zero_le _
    · omega
    · show hs.length ≤ LB; omega
end DL

namespace DL
open PySem PySem.Spec PyProof.Rows L2
/-! ### letters, typed; their words -/
structure Hop where
  lane : Int
  am : Int
  last : Int
def Hop.D (h : Hop) : D := .tup [.int h.lane, .int h.am, .int h.last]
inductive Lt where
  | turn (l : Int) | done (l n : Int) | next (l n : Int) (p : Mv) (hs : List Hop)
def lettD : Lt → D
  | .turn l => .tup [.str (Str.ofString "turn"), .int l]
  | .done l n => .tup [.str (Str.ofString "done"), .int l, .int n]
  | .next l n p hs => .tup [.str (Str.ofString "next"), .int l, .int n, mvD p, .tup (hs.map Hop.D)]
def Hop.Ok (h : Hop) : Prop := 0 ≤ h.lane ∧ 1 ≤ h.am ∧ 0 ≤ h.last
def Hop.Lo (B : Int) (h : Hop) : Prop := h.lane < B ∧ h.am < B ∧ h.last < B
def Lt.Ok : Lt → Prop
  | .turn l => 0 ≤ l
  | .done l n => 0 ≤ l ∧ 0 ≤ n
  | .next l n p hs => 0 ≤ l ∧ 0 ≤ n ∧ p.Ok ∧ hs.length ≤ 40 ∧ ∀ h ∈ hs, h.Ok
def Mv.Lo (B : Int) : Mv → Prop
  | .pay _ a => a < B
  | .lock _ a s t => a < B ∧ s < B ∧ t < B
  | .fold i x => i < B ∧ x < B
  | .drop i => i < B
  | .pass => True
def Lt.Lo (B : Int) : Lt → Prop
  | .turn l => l < B
  | .done l n => l < B ∧ n < B
  | .next l n p hs => l < B ∧ n < B ∧ p.Lo B ∧ ∀ h ∈ hs, h.Lo B
def mvW : Mv → List Str
  | .pay l a => [Str.ofString "pay", sideS l, strI a]
  | .lock l a s t => [Str.ofString "lock", sideS l, strI a, strI s, strI t]
  | .fold i x => [Str.ofString "fold", strI i, strI x]
  | .drop i => [Str.ofString "drop", strI i]
  | .pass => [Str.ofString "pass"]
def hopS (h : Hop) : Str := colons h.D
def ltW : Lt → List Str
  | .turn l => [Str.ofString "turn", strI l]
  | .done l n => [Str.ofString "done", strI l, strI n]
  | .next l n p hs => [Str.ofString "next", strI l, strI n] ++ mvW p ++ hs.flatMap fun h => [gtS, hopS h]
/-! #### lists joined -/
theorem joinL_app (S : List Nat) : ∀ (a b : List (List Nat)), a ≠ [] → b ≠ [] → TL.joinL S (a ++ b) = TL.joinL S a ++ S ++ TL.joinL S b
  | [], _, h, _ => absurd rfl h
  | [x], b, _, h => by
    cases b with
    | nil => exact absurd rfl h
    | cons y r => show x ++ (S ++ TL.joinL S (y :: r)) = _; rw [← List.append_assoc]; rfl
  | x :: y :: r, b, _, h => by
    have ih := joinL_app S (y :: r) b (fun z => nomatch z) h
    show x ++ (S ++ TL.joinL S (y :: r ++ b)) = x ++ (S ++ TL.joinL S (y :: r)) ++ S ++ TL.joinL S b
    rw [ih]; simp only [List.append_assoc]
theorem joinL_flat (S : List Nat) : ∀ (qs : List (List (List Nat))), (∀ q ∈ qs, q ≠ []) → TL.joinL S (qs.map (TL.joinL S)) = TL.joinL S qs.flatten
  | [], _ => rfl
  | [q], _ => by
    show TL.joinL S q = TL.joinL S (q ++ [])
    rw [List.append_nil]
  | q :: q2 :: r, h => by
    have ih := joinL_flat S (q2 :: r) fun x hx => h x (List.mem_cons_of_mem _ hx)
    have n1 := h q List.mem_cons_self
    have n2 : (q2 :: r).flatten ≠ [] := fun z => by
      rw [List.flatten_cons] at z
      exact h q2 (List.mem_cons_of_mem _ List.mem_cons_self) (List.append_eq_nil_iff.mp z).1
    rw [List.flatten_cons, joinL_app S q _ n1 n2, ← ih]
    show TL.joinL S q ++ (S ++ TL.joinL S ((q2 :: r).map (TL.joinL S))) = _
    rw [List.append_assoc]
theorem wordsD_tl (z : Str) (xs : List D) : TL.tl (wordsD z xs) = TL.joinL (TL.tl z) (xs.map fun d => TL.tl (showP d)) := by
  unfold wordsD
  rw [TL.join_eq, TL.tl_join, List.map_map]; rfl
theorem mvW_ne (p : Mv) : mvW p ≠ [] := by cases p <;> exact fun z => nomatch z
theorem showStep_tl (p : Mv) : TL.tl (showStep (mvD p)) = TL.joinL [32] ((mvW p).map TL.tl) := by
  cases p <;> (show TL.tl (wordsD sp _) = _; rw [wordsD_tl, sp_tl]; rfl)
theorem hopW_tl (h : Hop) : TL.tl (hopW h.D) = TL.joinL [32] [TL.tl gtS, TL.tl (hopS h)] := by
  show TL.tl (Str.ofString "> " ++ colons h.D) = TL.tl gtS ++ ([32] ++ TL.tl (hopS h))
  rw [TL.tl_append, ← List.append_assoc]
  congr 1
theorem showLetter_tl (t : Lt) : TL.tl (showLetter (lettD t)) = TL.joinL [32] ((ltW t).map TL.tl) := by
  cases t with
  | turn l => show TL.tl (wordsD sp _) = _; rw [wordsD_tl, sp_tl]; rfl
  | done l n => show TL.tl (wordsD sp _) = _; rw [wordsD_tl, sp_tl]; rfl
  | next l n p hs =>
    have e : showLetter (lettD (.next l n p hs)) = wordsD sp ([.str (Str.ofString "next"), .int l, .int n, .str (showStep (mvD p))] ++ (hs.map Hop.D).map fun h => .str (hopW h)) := by
      show (if strIs (Str.ofString "next") (.str (Str.ofString "next")) = true then _ else Str.empty) = _
      exact if_pos (decide_eq_true (show Str.ofString "next" = Str.ofString "next" from rfl))
    rw [e, wordsD_tl, sp_tl]
    have e2 : (([.str (Str.ofString "next"), .int l, .int n, .str (showStep (mvD p))] ++ (hs.map Hop.D).map fun h => .str (hopW h)) : List D).map (fun d => TL.tl (showP d)) = ([[TL.tl (Str.ofString "next")], [TL.tl (strI l)], [TL.tl (strI n)], (mvW p).map TL.tl] ++ hs.map fun h => [TL.tl gtS, TL.tl (hopS h)]).map (TL.joinL [32]) := by
      rw [List.map_append, List.map_append, List.map_map, List.map_map, List.map_map]
      congr 1
      · show [TL.tl (Str.ofString "next"), TL.tl (strI l), TL.tl (strI n), TL.tl (showStep (mvD p))] = _
        rw [showStep_tl]; rfl
      · refine List.map_congr_left fun h _ => ?_
        exact hopW_tl h
    rw [e2, joinL_flat]
    · congr 1
      show _ = ([Str.ofString "next", strI l, strI n] ++ mvW p ++ hs.flatMap fun h => [gtS, hopS h]).map TL.tl
      simp only [List.map_append, List.flatten_append, List.flatten_cons, List.flatten_nil, List.map_cons, List.map_nil, List.append_nil, List.flatMap_def]
      rw [List.map_flatten, List.map_map]
      simp only [List.cons_append, List.nil_append, List.append_assoc]
      rfl
    · intro q hq
      rcases List.mem_append.mp hq with hq | hq
      · simp only [List.mem_cons, List.not_mem_nil, or_false] at hq
        rcases hq with rfl | rfl | rfl | rfl
        · exact fun z => nomatch z
        · exact fun z => nomatch z
        · exact fun z => nomatch z
        · exact fun z => mvW_ne p (List.map_eq_nil_iff.mp z)
      · obtain ⟨h, _, rfl⟩ := List.mem_map.mp hq
        exact fun z => nomatch z
/-! #### words and their signs -/
theorem num_no {i : Int} (h0 : 0 ≤ i) (s : Nat) (hs : s < 48 ∨ 57 < s) : s ∉ TL.tl (strI i) := fun z => by have := num_signs h0 z; omega
theorem side_no (l : Bool) : 32 ∉ TL.tl (sideS l) ∧ 58 ∉ TL.tl (sideS l) := by cases l <;> decide +kernel
theorem mvW_no {p : Mv} (h : p.Ok) : ∀ w ∈ mvW p, 32 ∉ TL.tl w ∧ w ≠ gtS := by
  have g : ∀ i : Int, 0 ≤ i → 32 ∉ TL.tl (strI i) ∧ strI i ≠ gtS := fun i h0 => ⟨num_no h0 32 (by omega), fun e => num_no h0 62 (by omega) (by rw [e]; decide +kernel)⟩
  have s : ∀ l : Bool, 32 ∉ TL.tl (sideS l) ∧ sideS l ≠ gtS := fun l => by cases l <;> decide +kernel
  intro w hw
  cases p with
  | pay l a =>
    simp only [mvW, List.mem_cons, List.not_mem_nil, or_false] at hw
    have h1 : 1 ≤ a := h
    rcases hw with rfl | rfl | rfl
    · decide +kernel
    · exact s l
    · exact g a (by omega)
  | lock l a se t =>
    simp only [mvW, List.mem_cons, List.not_mem_nil, or_false] at hw
    obtain ⟨h1, h2, h3⟩ := h
    rcases hw with rfl | rfl | rfl | rfl | rfl
    · decide +kernel
    · exact s l
    · exact g a (by omega)
    · exact g se h2
    · exact g t h3
  | fold i x =>
    simp only [mvW, List.mem_cons, List.not_mem_nil, or_false] at hw
    obtain ⟨h1, h2, h3⟩ := h
    rcases hw with rfl | rfl | rfl
    · decide +kernel
    · exact g i (by omega)
    · exact g x h2
  | drop i =>
    simp only [mvW, List.mem_cons, List.not_mem_nil, or_false] at hw
    have h1 : 1 ≤ i := h
    rcases hw with rfl | rfl
    · decide +kernel
    · exact g i (by omega)
  | pass =>
    simp only [mvW, List.mem_cons, List.not_mem_nil, or_false] at hw
    rw [hw]; decide +kernel
theorem hopS_tl (h : Hop) : TL.tl (hopS h) = TL.joinL [58] [TL.tl (strI h.lane), TL.tl (strI h.am), TL.tl (strI h.last)] := by
  show TL.tl (wordsD co _) = _
  rw [wordsD_tl, co_tl]; rfl
theorem hopS_no {h : Hop} (o : h.Ok) : 32 ∉ TL.tl (hopS h) := by
  rw [hopS_tl]
  intro z
  rcases joinL_mem z with z | ⟨p, hp, z⟩
  · exact absurd z (by decide)
  · simp only [List.mem_cons, List.not_mem_nil, or_false] at hp
    obtain ⟨o1, o2, o3⟩ := o
    rcases hp with rfl | rfl | rfl
    · exact num_no o1 32 (by omega) z
    · exact num_no (by omega) 32 (by omega) z
    · exact num_no o3 32 (by omega) z
theorem ltW_no {t : Lt} (h : t.Ok) : ∀ w ∈ ltW t, 32 ∉ TL.tl w := by
  intro w hw
  cases t with
  | turn l =>
    simp only [ltW, List.mem_cons, List.not_mem_nil, or_false] at hw
    rcases hw with rfl | rfl
    · decide +kernel
    · exact num_no h 32 (by omega)
  | done l n =>
    simp only [ltW, List.mem_cons, List.not_mem_nil, or_false] at hw
    rcases hw with rfl | rfl | rfl
    · decide +kernel
    · exact num_no h.1 32 (by omega)
    · exact num_no h.2 32 (by omega)
  | next l n p hs =>
    obtain ⟨h1, h2, h3, h4, h5⟩ := h
    simp only [ltW, List.mem_append, List.mem_cons, List.not_mem_nil, or_false] at hw
    rcases hw with ((rfl | rfl | rfl) | hw) | hw
    · decide +kernel
    · exact num_no h1 32 (by omega)
    · exact num_no h2 32 (by omega)
    · exact (mvW_no h3 w hw).1
    · obtain ⟨x, hx, hw⟩ := List.mem_flatMap.mp hw
      simp only [List.mem_cons, List.not_mem_nil, or_false] at hw
      rcases hw with rfl | rfl
      · decide +kernel
      · exact hopS_no (h5 x hx)
theorem ltW_ne (t : Lt) : ltW t ≠ [] := by cases t <;> exact fun z => nomatch z
theorem letter_split {t : Lt} (h : t.Ok) : Txt.split (showLetter (lettD t)) sp = ltW t := by
  have e : showLetter (lettD t) = Txt.join sp (ltW t) := TL.ext_tl (by rw [showLetter_tl, TL.join_eq, TL.tl_join, sp_tl])
  rw [e]
  exact TL.split_join (s := 32) (S := []) sp_tl (by decide +kernel) (ltW_ne t) (ltW_no h)
theorem hop_split {h : Hop} (o : h.Ok) : Txt.split (hopS h) co = [strI h.lane, strI h.am, strI h.last] := by
  have e : hopS h = Txt.join co [strI h.lane, strI h.am, strI h.last] := TL.ext_tl (by rw [hopS_tl, TL.join_eq, TL.tl_join, co_tl]; rfl)
  rw [e]
  refine TL.split_join (s := 58) (S := []) co_tl (by decide +kernel) (fun z => nomatch z) fun p hp => ?_
  obtain ⟨o1, o2, o3⟩ := o
  simp only [List.mem_cons, List.not_mem_nil, or_false] at hp
  rcases hp with rfl | rfl | rfl
  · exact num_no o1 58 (by omega)
  · exact num_no (by omega) 58 (by omega)
  · exact num_no o3 58 (by omega)
/-! #### read back -/
theorem part_num {i : Int} (h0 : 0 ≤ i) (h : i < 10 ^ 15) : partOk (strI i) = true ∧ partD (strI i) = .int i := by
  refine ⟨by unfold partOk; rw [fig_num h0, decide_eq_true h, Bool.or_true], ?_⟩
  unfold partD
  rw [side_num h0, if_neg (by decide), numOf_str h0 (by omega)]
theorem part_big {i : Int} (h0 : 0 ≤ i) (h : 10 ^ 15 ≤ i) : partOk (strI i) = false := by
  unfold partOk
  rw [side_num h0, fig_num h0, decide_eq_false (by omega)]; rfl
theorem part_side (l : Bool) : partOk (sideS l) = true ∧ partD (sideS l) = .str (sideS l) := by cases l <;> exact ⟨by decide +kernel, if_pos (by decide +kernel)⟩
theorem step_back {p : Mv} (h : p.Ok) (hl : p.Lo (10 ^ 15)) : stepOf (mvW p) = some (mvD p) := by
  have go : ∀ (w0 : Str) (r : List Str) (ds : List D), r.all partOk = true → r.map partD = ds → isStep (.tup (.str w0 :: ds)) = true → stepOf (w0 :: r) = some (.tup (.str w0 :: ds)) := fun w0 r ds h1 h2 h3 => by
    subst h2
    exact (if_pos h1).trans (if_pos h3)
  have hs := isStep_mv h
  cases p with
  | pay l a =>
    have h1 : 1 ≤ a := h
    have n1 := part_num (by omega : 0 ≤ a) hl
    exact go _ _ _ (by simp only [List.all_cons, List.all_nil, (part_side l).1, n1.1]; rfl) (by simp only [List.map_cons, List.map_nil, (part_side l).2, n1.2]) hs
  | lock l a s t =>
    obtain ⟨h1, h2, h3⟩ := h
    obtain ⟨l1, l2, l3⟩ := hl
    have n1 := part_num (by omega : 0 ≤ a) l1
    have n2 := part_num h2 l2
    have n3 := part_num h3 l3
    exact go _ _ _ (by simp only [List.all_cons, List.all_nil, (part_side l).1, n1.1, n2.1, n3.1]; rfl) (by simp only [List.map_cons, List.map_nil, (part_side l).2, n1.2, n2.2, n3.2]) hs
  | fold i x =>
    obtain ⟨h1, h2, h3⟩ := h
    have n1 := part_num (by omega : 0 ≤ i) hl.1
    have n2 := part_num h2 hl.2
    exact go _ _ _ (by simp only [List.all_cons, List.all_nil, n1.1, n2.1]; rfl) (by simp only [List.map_cons, List.map_nil, n1.2, n2.2]) hs
  | drop i =>
    have h1 : 1 ≤ i := h
    have n1 := part_num (by omega : 0 ≤ i) hl
    exact go _ _ _ (by simp only [List.all_cons, List.all_nil, n1.1]; rfl) (by simp only [List.map_cons, List.map_nil, n1.2]) hs
  | pass => exact go _ _ _ rfl rfl hs
theorem hop_back {h : Hop} (o : h.Ok) (l : h.Lo (10 ^ 15)) : hopOf (hopS h) = some h.D := by
  obtain ⟨l1, l2, l3⟩ := l
  have e := hop_split o
  obtain ⟨o1, o2, o3⟩ := o
  unfold hopOf
  rw [e, if_pos]
  · simp only [numsD, List.map_cons, List.map_nil, numOf_str o1 (by omega : h.lane < 10 ^ 90), numOf_str (by omega : 0 ≤ h.am) (by omega : h.am < 10 ^ 90), numOf_str o3 (by omega : h.last < 10 ^ 90)]
    rfl
  · simp only [List.all_cons, List.all_nil, fig_num o1, fig_num (by omega : 0 ≤ h.am), fig_num o3, decide_eq_true l1, decide_eq_true l2, decide_eq_true l3]; rfl
theorem evens_pairs {α β : Type} (f g : α → β) : ∀ hs : List α, evens (hs.flatMap fun h => [f h, g h]) = hs.map f
  | [] => rfl
  | h :: hs => by
    have ih := evens_pairs f g hs
    rw [List.flatMap_cons]
    show f h :: evens (hs.flatMap fun h => [f h, g h]) = _
    rw [ih]; rfl
theorem evens_pairs1 {α β : Type} (f g : α → β) : ∀ hs : List α, evens ((hs.flatMap fun h => [f h, g h]).drop 1) = hs.map g
  | [] => rfl
  | [h] => rfl
  | h :: h2 :: hs => by
    have ih := evens_pairs1 f g (h2 :: hs)
    rw [List.flatMap_cons] at ih ⊢
    rw [List.flatMap_cons]
    show g h :: evens (([f h2, g h2] ++ hs.flatMap fun h => [f h, g h]).drop 1) = _
    rw [ih]; rfl
theorem end_of (a b : List Str) (h : ∀ w ∈ a, w ≠ gtS) : endOf (a ++ b) = a.length + endOf b := by
  induction a with
  | nil => show endOf b = 0 + endOf b; omega
  | cons w a ih =>
    have := ih fun x hx => h x (List.mem_cons_of_mem _ hx)
    unfold endOf at this ⊢
    rw [List.cons_append, List.findIdx_cons, decide_eq_false (h w List.mem_cons_self), cond_false, this, List.length_cons]
    omega
theorem pairs_end (hs : List Hop) : endOf (hs.flatMap fun h => [gtS, hopS h]) = 0 := by
  cases hs with
  | nil => rfl
  | cons h hs =>
    rw [List.flatMap_cons]
    unfold endOf
    rw [List.cons_append, List.findIdx_cons, decide_eq_true rfl]; rfl
theorem pairs_len (hs : List Hop) : (hs.flatMap fun h => [gtS, hopS h]).length = 2 * hs.length := by
  induction hs with
  | nil => rfl
  | cons h hs ih => rw [List.flatMap_cons, List.length_append, ih, List.length_cons]; simp only [List.length_cons, List.length_nil]; omega
/-- how the words of a next are cut -/
theorem next_cut {l n : Int} {p : Mv} {hs : List Hop} (h : (Lt.next l n p hs).Ok) : endOf (ltW (.next l n p hs)) = 3 + (mvW p).length ∧ nextBad (ltW (.next l n p hs)) = false ∧ evens ((ltW (.next l n p hs)).drop (endOf (ltW (.next l n p hs)) + 1)) = hs.map hopS ∧
    ((ltW (.next l n p hs)).take (endOf (ltW (.next l n p hs)))).drop 3 = mvW p ∧ (ltW (.next l n p hs)).getD 1 Str.empty = strI l ∧ (ltW (.next l n p hs)).getD 2 Str.empty = strI n := by
  obtain ⟨h1, h2, h3, h4, h5⟩ := h
  have hp : 1 ≤ (mvW p).length := List.length_pos_iff.mpr (mvW_ne p)
  have e1 : endOf (ltW (.next l n p hs)) = 3 + (mvW p).length := by
    show endOf ([Str.ofString "next", strI l, strI n] ++ mvW p ++ hs.flatMap fun h => [gtS, hopS h]) = _
    rw [end_of, pairs_end, List.length_append]; rfl
    intro w hw
    rcases List.mem_append.mp hw with hw | hw
    · simp only [List.mem_cons, List.not_mem_nil, or_false] at hw
      rcases hw with rfl | rfl | rfl
      · decide +kernel
      · exact fun e => num_no h1 62 (by omega) (by rw [e]; decide +kernel)
      · exact fun e => num_no h2 62 (by omega) (by rw [e]; decide +kernel)
    · exact (mvW_no h3 w hw).2
  have la : ([Str.ofString "next", strI l, strI n] ++ mvW p).length = 3 + (mvW p).length := by rw [List.length_append]; rfl
  have d0 : (ltW (.next l n p hs)).drop (3 + (mvW p).length) = hs.flatMap fun h => [gtS, hopS h] := by
    show ([Str.ofString "next", strI l, strI n] ++ mvW p ++ hs.flatMap fun h => [gtS, hopS h]).drop _ = _
    rw [← la, List.drop_left]
  rw [e1]
  refine ⟨rfl, ?_, ?_, ?_, rfl, rfl⟩
  · unfold nextBad
    rw [e1, d0, evens_pairs, decide_eq_false (by omega), List.any_map]
    have hl : (ltW (.next l n p hs)).length = 3 + (mvW p).length + 2 * hs.length := by
      show ([Str.ofString "next", strI l, strI n] ++ mvW p ++ hs.flatMap fun h => [gtS, hopS h]).length = _
      rw [List.length_append, pairs_len, la]
    rw [hl, decide_eq_false (by omega), Bool.or_false, Bool.false_or]
    refine List.any_eq_false.mpr fun x _ => ?_
    show ¬ (!decide (gtS = gtS)) = true
    rw [decide_eq_true rfl]; decide
  · rw [← List.drop_drop, d0, evens_pairs1]
  · show (([Str.ofString "next", strI l, strI n] ++ mvW p ++ hs.flatMap fun h => [gtS, hopS h]).take _).drop 3 = _
    rw [← la, List.take_left]; rfl
theorem hops_back {hs : List Hop} (h : ∀ x ∈ hs, x.Ok ∧ x.Lo (10 ^ 15)) : hopsOf (hs.map hopS) = some (hs.map Hop.D) := by
  unfold hopsOf
  rw [if_pos, List.map_map]
  · congr 1
    exact List.map_congr_left fun x hx => by show (hopOf (hopS x)).getD .non = _; rw [hop_back (h x hx).1 (h x hx).2]; rfl
  · rw [List.all_map]
    exact List.all_eq_true.mpr fun x hx => by show (hopOf (hopS x)).isSome = true; rw [hop_back (h x hx).1 (h x hx).2]; rfl
theorem isHop_D {h : Hop} (o : h.Ok) : isHop h.D = true := by
  obtain ⟨o1, o2, o3⟩ := o
  show (decide (0 ≤ h.lane) && decide (1 ≤ h.am) && decide (0 ≤ h.last)) = true
  rw [decide_eq_true o1, decide_eq_true o2, decide_eq_true o3]; rfl
theorem isLetter_lt {t : Lt} (h : t.Ok) : isLetterD (lettD t) = true := by
  cases t with
  | turn l =>
    have : begins (Str.ofString "turn") 2 (.tup [.str (Str.ofString "turn"), .int l]) = true := by
      show (decide (0 + 2 = 2) && decide (Str.ofString "turn" = Str.ofString "turn") && decide (0 ≤ l)) = true
      rw [decide_eq_true (show 0 ≤ l from h)]; simp
    unfold isLetterD lettD
    rw [this, Bool.or_true]
  | done l n =>
    have : isDoneD (.tup [.str (Str.ofString "done"), .int l, .int n]) = true := by
      show (decide (1 + 2 = 3) && decide (Str.ofString "done" = Str.ofString "done") && decide (0 ≤ l) && decide (0 ≤ n)) = true
      rw [decide_eq_true h.1, decide_eq_true h.2]; simp
    unfold isLetterD lettD
    rw [this, Bool.or_true, Bool.true_or]
  | next l n p hs =>
    obtain ⟨h1, h2, h3, h4, h5⟩ := h
    have : isNextD (.tup [.str (Str.ofString "next"), .int l, .int n, mvD p, .tup (hs.map Hop.D)]) = true := by
      show (decide (3 + 2 = 5) && decide (Str.ofString "next" = Str.ofString "next") && decide (0 ≤ l) && (decide (0 ≤ n) && isStep (mvD p) && (decide ((hs.map Hop.D).length ≤ 40) && (hs.map Hop.D).all isHop))) = true
      rw [decide_eq_true h1, decide_eq_true h2, isStep_mv h3, List.length_map, decide_eq_true h4, List.all_eq_true.mpr fun d hd => by
        obtain ⟨x, hx, rfl⟩ := List.mem_map.mp hd
        exact isHop_D (h5 x hx)]
      simp
    unfold isLetterD lettD
    rw [this, Bool.true_or, Bool.true_or]
theorem hd_turn (l : Int) : ¬ (ltW (.turn l)).head? = some (Str.ofString "next") := by
  show ¬ some (Str.ofString "turn") = some (Str.ofString "next")
  decide +kernel
theorem hd_done (l n : Int) : ¬ (ltW (.done l n)).head? = some (Str.ofString "next") := by
  show ¬ some (Str.ofString "done") = some (Str.ofString "next")
  decide +kernel
theorem hd_next (l n : Int) (p : Mv) (hs : List Hop) : (ltW (.next l n p hs)).head? = some (Str.ofString "next") := rfl
theorem letter_back {t : Lt} (h : t.Ok) (hl : t.Lo (10 ^ 15)) : letterOf (ltW t) = some (lettD t) := by
  have fin : letterRaw (ltW t) = some (lettD t) → letterOf (ltW t) = some (lettD t) := fun e => by unfold letterOf; rw [e]; exact if_pos (isLetter_lt h)
  refine fin ?_
  cases t with
  | turn l =>
    have h0 : 0 ≤ l := h
    have hl0 : l < 10 ^ 15 := hl
    unfold letterRaw
    rw [if_neg (hd_turn _)]
    show (if [strI l].all figOk = true then some (D.tup (.str (Str.ofString "turn") :: numsD [strI l])) else none) = _
    rw [if_pos (by simp only [List.all_cons, List.all_nil, fig_num h0, decide_eq_true hl0]; rfl)]
    simp only [numsD, List.map_cons, List.map_nil, numOf_str h0 (by omega : l < 10 ^ 90)]
    rfl
  | done l n =>
    obtain ⟨h0, h1⟩ := h
    obtain ⟨g0, g1⟩ := hl
    unfold letterRaw
    rw [if_neg (hd_done _ _)]
    show (if [strI l, strI n].all figOk = true then some (D.tup (.str (Str.ofString "done") :: numsD [strI l, strI n])) else none) = _
    rw [if_pos (by simp only [List.all_cons, List.all_nil, fig_num h0, fig_num h1, decide_eq_true g0, decide_eq_true g1]; rfl)]
    simp only [numsD, List.map_cons, List.map_nil, numOf_str h0 (by omega : l < 10 ^ 90), numOf_str h1 (by omega : n < 10 ^ 90)]
    rfl
  | next l n p hs =>
    obtain ⟨c1, c2, c3, c4, c5, c6⟩ := next_cut h
    obtain ⟨h1, h2, h3, h4, h5⟩ := h
    obtain ⟨g1, g2, g3, g4⟩ := hl
    unfold letterRaw
    rw [if_pos (hd_next _ _ _ _)]
    unfold nextOf
    rw [if_neg (by rw [c2]; decide), c3, hops_back fun x hx => ⟨h5 x hx, g4 x hx⟩, c4, c5, c6]
    dsimp only
    rw [if_pos (by rw [fig_num h1]; exact decide_eq_true g1), if_pos (by rw [fig_num h2]; exact decide_eq_true g2), step_back h3 g3]
    dsimp only
    rw [numOf_str h1 (by omega : l < 10 ^ 90), numOf_str h2 (by omega : n < 10 ^ 90)]
    rfl
/-- a great number somewhere ahead: refused -/
theorem done_great {n : Int} (h0 : 10 ^ 15 ≤ n) (l : Int) : letterOf (ltW (.done l n)) = none := by
  have e : letterRaw (ltW (.done l n)) = none := by
    unfold letterRaw
    rw [if_neg (hd_done _ _)]
    refine if_neg fun z => ?_
    have := List.all_eq_true.mp z (strI n) (by show strI n ∈ [strI l, strI n]; simp)
    rw [fig_num (by omega)] at this
    have := of_decide_eq_true this
    omega
  unfold letterOf; rw [e]
theorem next_great {l n : Int} {p : Mv} {hs : List Hop} (h : (Lt.next l n p hs).Ok) (h0 : 10 ^ 15 ≤ n) : letterOf (ltW (.next l n p hs)) = none := by
  obtain ⟨c1, c2, c3, c4, c5, c6⟩ := next_cut h
  have e : letterRaw (ltW (.next l n p hs)) = none := by
    unfold letterRaw
    rw [if_pos (hd_next _ _ _ _)]
    unfold nextOf
    rw [if_neg (by rw [c2]; decide), c5, c6]
    split
    · rfl
    · split
      · rw [if_neg (by rw [fig_num h.2.1]; exact fun z => by have := of_decide_eq_true z; omega)]
      · rfl
  unfold letterOf; rw [e]
theorem lock_great {l n a s t : Int} {b : Bool} {hs : List Hop} (h : (Lt.next l n (.lock b a s t) hs).Ok) (h0 : 10 ^ 15 ≤ s) : letterOf (ltW (.next l n (.lock b a s t) hs)) = none := by
  obtain ⟨c1, c2, c3, c4, c5, c6⟩ := next_cut h
  have e : letterRaw (ltW (.next l n (.lock b a s t) hs)) = none := by
    unfold letterRaw
    rw [if_pos (hd_next _ _ _ _)]
    unfold nextOf
    have es : stepOf (mvW (.lock b a s t)) = none := if_neg fun z => by
      have := List.all_eq_true.mp z (strI s) (by simp)
      rw [part_big (by omega) h0] at this
      cases this
    rw [if_neg (by rw [c2]; decide), c4, es]
    split
    · rfl
    · split
      · split <;> rfl
      · rfl
  unfold letterOf; rw [e]
end DL

namespace DL
open PySem PySem.Spec PyProof.Rows L2
theorem wdp_i {i : Int} (h0 : 0 ≤ i) (h : i < 10 ^ 40) : WdP 41 (.int i) := ⟨h0, by omega, by omega⟩
theorem wdp_side (l : Bool) : WdP 41 (.str (sideS l)) := by cases l <;> exact wd_lit _ (by decide)
theorem mv_words {p : Mv} (h : p.Ok) (hl : p.Lo (10 ^ 40)) : ∃ w0 r, mvD p = .tup (.str w0 :: r) ∧ w0 ≠ Str.ofString "next" ∧ r.length ≤ 4 ∧ ∀ d ∈ (D.str w0 :: r), WdP 41 d := by
  cases p with
  | pay l a =>
    have h1 : 1 ≤ a := h
    refine ⟨_, _, rfl, by decide +kernel, by simp, fun d hd => ?_⟩
    simp only [List.mem_cons, List.not_mem_nil, or_false] at hd
    rcases hd with rfl | rfl | rfl
    · exact wd_lit _ (by decide)
    · exact wdp_side l
    · exact wdp_i (by omega) hl
  | lock l a s t =>
    obtain ⟨h1, h2, h3⟩ := h
    obtain ⟨l1, l2, l3⟩ := hl
    refine ⟨_, _, rfl, by decide +kernel, by simp, fun d hd => ?_⟩
    simp only [List.mem_cons, List.not_mem_nil, or_false] at hd
    rcases hd with rfl | rfl | rfl | rfl | rfl
    · exact wd_lit _ (by decide)
    · exact wdp_side l
    · exact wdp_i (by omega) l1
    · exact wdp_i h2 l2
    · exact wdp_i h3 l3
  | fold i x =>
    obtain ⟨h1, h2, h3⟩ := h
    refine ⟨_, _, rfl, by decide +kernel, by simp, fun d hd => ?_⟩
    simp only [List.mem_cons, List.not_mem_nil, or_false] at hd
    rcases hd with rfl | rfl | rfl
    · exact wd_lit _ (by decide)
    · exact wdp_i (by omega) hl.1
    · exact wdp_i h2 hl.2
  | drop i =>
    have h1 : 1 ≤ i := h
    refine ⟨_, _, rfl, by decide +kernel, by simp, fun d hd => ?_⟩
    simp only [List.mem_cons, List.not_mem_nil, or_false] at hd
    rcases hd with rfl | rfl
    · exact wd_lit _ (by decide)
    · exact wdp_i (by omega) hl
  | pass =>
    refine ⟨_, _, rfl, by decide +kernel, by simp, fun d hd => ?_⟩
    rw [List.mem_singleton.mp hd]
    exact wd_lit _ (by decide)
theorem showStep_w {p : Mv} {w0 : Str} {r : List D} (e : mvD p = .tup (.str w0 :: r)) : showStep (mvD p) = wordsD sp (.str w0 :: r) := by rw [e]; rfl
theorem hop_wdp {h : Hop} (o : h.Ok) (l : h.Lo (10 ^ 40)) : ∀ d ∈ [D.int h.lane, .int h.am, .int h.last], WdP 41 d := fun d hd => by
  obtain ⟨o1, o2, o3⟩ := o
  obtain ⟨l1, l2, l3⟩ := l
  simp only [List.mem_cons, List.not_mem_nil, or_false] at hd
  rcases hd with rfl | rfl | rfl
  · exact wdp_i o1 l1
  · exact wdp_i (by omega) l2
  · exact wdp_i o3 l3
theorem hopS_atx {h : Hop} (o : h.Ok) (l : h.Lo (10 ^ 40)) : ATx 126 (hopS h) := words_atx (c := 41) (by decide) co_atx (hop_wdp o l)
theorem showStep_atx {p : Mv} (h : p.Ok) (hl : p.Lo (10 ^ 40)) : ATx 210 (showStep (mvD p)) := by
  obtain ⟨w0, r, e, _, h2, h3⟩ := mv_words h hl
  rw [showStep_w e]
  refine ATx.mono (words_atx (c := 41) (by decide) sp_atx h3) ?_
  rw [List.length_cons]
  have := Nat.mul_le_mul_right (41 + 1) (show r.length + 1 ≤ 5 by omega)
  omega
/-- the law's way to write a next -/
theorem next_shown (l n : Int) (p : Mv) (hs : List Hop) : Str.ofString "next " ++ strI l ++ Str.ofString " " ++ strI n ++ Str.ofString " " ++ showStep (mvD p) ++ wordsD (Str.ofString "") (hs.map fun h => .str (Str.ofString " > " ++ hopS h)) = showLetter (lettD (.next l n p hs)) := by
  refine TL.ext_tl ?_
  rw [showLetter_tl]
  show _ = TL.joinL [32] (([Str.ofString "next", strI l, strI n] ++ mvW p ++ hs.flatMap fun h => [gtS, hopS h]).map TL.tl)
  have tail : ∀ (a : List (List Nat)) (hs : List Hop), a ≠ [] → TL.joinL [32] (a ++ (hs.flatMap fun h => [gtS, hopS h]).map TL.tl) = TL.joinL [32] a ++ (hs.map fun h => [32, 62, 32] ++ TL.tl (hopS h)).flatten := by
    intro a hs
    induction hs generalizing a with
    | nil => intro _; simp
    | cons h hs ih =>
      intro ha
      rw [List.flatMap_cons, List.map_append, ← List.append_assoc, ih _ (by simp), joinL_app [32] a _ ha (by simp)]
      rw [List.map_cons (l := hs), List.flatten_cons]
      show TL.joinL [32] a ++ [32] ++ (TL.tl gtS ++ ([32] ++ TL.tl (hopS h))) ++ _ = _
      have eg : TL.tl gtS = [62] := by decide +kernel
      rw [eg]
      simp only [List.append_assoc, List.cons_append, List.nil_append]
  rw [List.map_append, tail _ _ (by simp)]
  have e1 : TL.joinL [32] (([Str.ofString "next", strI l, strI n] ++ mvW p).map TL.tl) = TL.tl (Str.ofString "next") ++ [32] ++ TL.tl (strI l) ++ [32] ++ TL.tl (strI n) ++ [32] ++ TL.tl (showStep (mvD p)) := by
    rw [List.map_append, joinL_app [32] _ _ (by simp) (fun z => mvW_ne p (List.map_eq_nil_iff.mp z)), showStep_tl]
    show TL.tl (Str.ofString "next") ++ ([32] ++ (TL.tl (strI l) ++ ([32] ++ TL.tl (strI n)))) ++ [32] ++ _ = _
    simp only [List.append_assoc]
  have e2 : TL.tl (wordsD (Str.ofString "") (hs.map fun h => .str (Str.ofString " > " ++ hopS h))) = (hs.map fun h => [32, 62, 32] ++ TL.tl (hopS h)).flatten := by
    rw [wordsD_tl, List.map_map]
    have e0 : TL.tl (Str.ofString "") = [] := by decide +kernel
    rw [e0]
    have j0 : ∀ qs : List (List Nat), TL.joinL [] qs = qs.flatten := by
      intro qs
      induction qs with
      | nil => rfl
      | cons q qs ih =>
        cases qs with
        | nil => show q = q ++ []; rw [List.append_nil]
        | cons q2 r => show q ++ ([] ++ TL.joinL [] (q2 :: r)) = _; rw [ih]; rfl
    rw [j0]
    congr 1
    refine List.map_congr_left fun h _ => ?_
    show TL.tl (Str.ofString " > " ++ hopS h) = _
    rw [TL.tl_append]
    congr 1
  have en : TL.tl (Str.ofString "next ") = TL.tl (Str.ofString "next") ++ [32] := by decide +kernel
  have es : TL.tl (Str.ofString " ") = [32] := by decide +kernel
  rw [e1, TL.tl_append, TL.tl_append, TL.tl_append, TL.tl_append, TL.tl_append, TL.tl_append, e2, en, es]
theorem letter_atx {t : Lt} (h : t.Ok) (hl : t.Lo (10 ^ 40)) : ATx 7000 (showLetter (lettD t)) := by
  cases t with
  | turn l =>
    have h0 : 0 ≤ l := h
    exact ATx.mono (words_atx (c := 41) (by decide) sp_atx (xs := [.str (Str.ofString "turn"), .int l]) fun d hd => by
      simp only [List.mem_cons, List.not_mem_nil, or_false] at hd
      rcases hd with rfl | rfl
      · exact wd_lit _ (by decide)
      · exact wdp_i h0 hl) (by show 2 * 42 ≤ 7000; decide)
  | done l n =>
    exact ATx.mono (words_atx (c := 41) (by decide) sp_atx (xs := [.str (Str.ofString "done"), .int l, .int n]) fun d hd => by
      simp only [List.mem_cons, List.not_mem_nil, or_false] at hd
      rcases hd with rfl | rfl | rfl
      · exact wd_lit _ (by decide)
      · exact wdp_i h.1 hl.1
      · exact wdp_i h.2 hl.2) (by show 3 * 42 ≤ 7000; decide)
  | next l n p hs =>
    obtain ⟨h1, h2, h3, h4, h5⟩ := h
    obtain ⟨l1, l2, l3, l4⟩ := hl
    rw [← next_shown]
    have a0 : ATx 5 (Str.ofString "next ") := ⟨by decide +kernel, by unfold DL.asc; decide +kernel⟩
    have a1 := atx_int (c := 41) (by decide) h1 (by omega)
    have a2 := atx_int (c := 41) (by decide) h2 (by omega)
    have ab : ATx 1 (Str.ofString " ") := sp_atx
    have a3 := showStep_atx h3 l3
    have az : ATx 1 (Str.ofString "") := ⟨by decide +kernel, by unfold DL.asc; decide +kernel⟩
    have a4 := words_atx (c := 129) (by decide) az (xs := hs.map fun h => .str (Str.ofString " > " ++ hopS h)) fun d hd => by
      obtain ⟨x, hx, rfl⟩ := List.mem_map.mp hd
      exact ATx.app (n := 3) ⟨by decide +kernel, by unfold DL.asc; decide +kernel⟩ (hopS_atx (h5 x hx) (l4 x hx))
    refine ATx.mono ((((((a0.app a1).app ab).app a2).app ab).app a3).app a4) ?_
    rw [List.length_map]
    have := Nat.mul_le_mul_right (129 + 1) h4
    omega
end DL
namespace DL
open PySem PySem.Spec PyProof.Rows L2
theorem pln_i {n : Nat} {i : Int} (h0 : 0 ≤ i) (h : i < 10 ^ 40) : PlN (10 ^ 40) n (.int i) := PlN.ofInt (by omega)
theorem pln_w {n : Nat} {x : Str} {m : Nat} (h : ATx m x) : PlN (10 ^ 40) n (.str x) := PlN.ofStr h.asc
theorem pln_wdp {n : Nat} {d : D} (h : WdP 41 d) (hi : ∀ i, d = .int i → i < 10 ^ 40) : PlN (10 ^ 40) n d := by
  cases d <;> first | exact h.elim | skip
  · exact pln_i h.1 (hi _ rfl)
  · exact pln_w h
theorem mv_pln {p : Mv} (h : p.Ok) (hl : p.Lo (10 ^ 40)) (n : Nat) : PlN (10 ^ 40) (n + 1) (mvD p) := by
  obtain ⟨w0, r, e, _, _, h3⟩ := mv_words h hl
  rw [e]
  intro d hd
  refine pln_wdp (h3 d hd) fun i ei => ?_
  subst ei
  have hm : D.int i ∈ (D.str w0 :: r) := hd
  cases p with
  | pay l a =>
    cases e
    simp only [List.mem_cons, D.int.injEq, reduceCtorEq, List.not_mem_nil, or_false, false_or] at hm
    rw [hm]; exact hl
  | lock l a s t =>
    cases e
    simp only [List.mem_cons, D.int.injEq, reduceCtorEq, List.not_mem_nil, or_false, false_or] at hm
    rcases hm with e | e | e <;> rw [e]
    · exact hl.1
    · exact hl.2.1
    · exact hl.2.2
  | fold i2 x =>
    cases e
    simp only [List.mem_cons, D.int.injEq, reduceCtorEq, List.not_mem_nil, or_false, false_or] at hm
    rcases hm with e | e <;> rw [e]
    · exact hl.1
    · exact hl.2
  | drop i2 =>
    cases e
    simp only [List.mem_cons, D.int.injEq, reduceCtorEq, List.not_mem_nil, or_false, false_or] at hm
    rw [hm]; exact hl
  | pass =>
    cases e
    simp only [List.mem_cons, D.int.injEq, reduceCtorEq, List.not_mem_nil, or_false, false_or] at hm
theorem hop_pln {h : Hop} (o : h.Ok) (l : h.Lo (10 ^ 40)) (n : Nat) : PlN (10 ^ 40) (n + 1) h.D := by
  intro d hd
  obtain ⟨o1, o2, o3⟩ := o
  obtain ⟨l1, l2, l3⟩ := l
  simp only [List.mem_cons, List.not_mem_nil, or_false] at hd
  rcases hd with rfl | rfl | rfl
  · exact pln_i o1 l1
  · exact pln_i (by omega) l2
  · exact pln_i o3 l3
theorem asc_lit (s : String) (h : DL.asc (Str.ofString s) := by (unfold DL.asc; decide +kernel)) {n : Nat} : PlN (10 ^ 40) n (.str (Str.ofString s)) := PlN.ofStr h
theorem lt_pln {t : Lt} (h : t.Ok) (hl : t.Lo (10 ^ 40)) : PlN (10 ^ 40) 3 (lettD t) := by
  cases t with
  | turn l =>
    intro d hd
    have h0 : 0 ≤ l := h
    simp only [List.mem_cons, List.not_mem_nil, or_false] at hd
    rcases hd with rfl | rfl
    · exact asc_lit _
    · exact pln_i h0 hl
  | done l n =>
    intro d hd
    simp only [List.mem_cons, List.not_mem_nil, or_false] at hd
    rcases hd with rfl | rfl | rfl
    · exact asc_lit _
    · exact pln_i h.1 hl.1
    · exact pln_i h.2 hl.2
  | next l n p hs =>
    obtain ⟨h1, h2, h3, h4, h5⟩ := h
    obtain ⟨l1, l2, l3, l4⟩ := hl
    intro d hd
    simp only [List.mem_cons, List.not_mem_nil, or_false] at hd
    rcases hd with rfl | rfl | rfl | rfl | rfl
    · exact asc_lit _
    · exact pln_i h1 l1
    · exact pln_i h2 l2
    · exact mv_pln h3 l3 1
    · intro d hd
      obtain ⟨x, hx, rfl⟩ := List.mem_map.mp hd
      exact hop_pln (h5 x hx) (l4 x hx) 0
theorem lt_in {t : Lt} (h : t.Ok) : inL (lettD t) ∧ tlen (lettD t) ≤ LB := by
  cases t with
  | turn l =>
    refine ⟨fun x e y hy => ?_, by show 2 ≤ 100000; decide⟩
    cases e
    simp only [List.mem_cons, List.not_mem_nil, or_false] at hy
    rcases hy with rfl | rfl <;> exact Nat.zero_le _
  | done l n =>
    refine ⟨fun x e y hy => ?_, by show 3 ≤ 100000; decide⟩
    cases e
    simp only [List.mem_cons, List.not_mem_nil, or_false] at hy
    rcases hy with rfl | rfl | rfl <;> exact Nat.zero_le _
  | next l n p hs =>
    refine ⟨fun x e y hy => ?_, by show 5 ≤ 100000; decide⟩
    cases e
    simp only [List.mem_cons, List.not_mem_nil, or_false] at hy
    rcases hy with rfl | rfl | rfl | rfl | rfl
    · exact Nat.zero_le _
    · exact Nat.zero_le _
    · exact Nat.zero_le _
    · exact tlen_mv p
    · show (hs.map Hop.D).length ≤ 100000
      rw [List.length_map]; have := h.2.2.2.1; omega
theorem sm_mv (n : Nat) (p : Mv) : smD (n + 1) (mvD p) = true := by cases p <;> simp [mvD, smD]
theorem sm_lt (n : Nat) {t : Lt} (h : t.Ok) : smD (n + 3) (lettD t) = true := by
  cases t with
  | turn l => simp [lettD, smD]
  | done l k => simp [lettD, smD]
  | next l k p hs =>
    have e : (hs.map Hop.D).all (smD (n + 1)) = true := List.all_eq_true.mpr fun d hd => by
      obtain ⟨x, _, rfl⟩ := List.mem_map.mp hd
      simp [Hop.D, smD]
    have e2 : smD (n + 2) (.tup (hs.map Hop.D)) = true := by
      unfold smD
      rw [List.length_map, decide_eq_true (by have := h.2.2.2.1; omega : hs.length ≤ 1000), e]; rfl
    unfold lettD smD
    simp only [List.all_cons, List.all_nil, e2, sm_mv]
    simp [smD]
theorem Mv.Lo.up {B C : Int} (h : B ≤ C) : ∀ {p : Mv}, p.Lo B → p.Lo C
  | .pay _ _, l => Int.lt_of_lt_of_le l h
  | .lock _ _ _ _, ⟨a, b, c⟩ => ⟨Int.lt_of_lt_of_le a h, Int.lt_of_lt_of_le b h, Int.lt_of_lt_of_le c h⟩
  | .fold _ _, ⟨a, b⟩ => ⟨Int.lt_of_lt_of_le a h, Int.lt_of_lt_of_le b h⟩
  | .drop _, l => Int.lt_of_lt_of_le l h
  | .pass, _ => trivial
theorem Lt.Lo.up {B C : Int} (h : B ≤ C) : ∀ {t : Lt}, t.Lo B → t.Lo C
  | .turn _, l => Int.lt_of_lt_of_le l h
  | .done _ _, ⟨a, b⟩ => ⟨Int.lt_of_lt_of_le a h, Int.lt_of_lt_of_le b h⟩
  | .next _ _ _ _, ⟨a, b, c, d⟩ => ⟨Int.lt_of_lt_of_le a h, Int.lt_of_lt_of_le b h, c.up h, fun x hx => ⟨Int.lt_of_lt_of_le (d x hx).1 h, Int.lt_of_lt_of_le (d x hx).2.1 h, Int.lt_of_lt_of_le (d x hx).2.2 h⟩⟩
end DL

namespace LW
open PySem L2 DL
local macro_rules | `(tactic| walk_at "h") => `(tactic| (simp only [sPutI, mMH, fPopAt, fSortedK, vA, v2, List.map_cons, List.map_nil]; (try (walk_at "m"))))
local macro_rules | `(tactic| walk_at "m") => `(tactic| simp only [fSub, fMod, fPow, turnE, bName, wipeR, fLt, fLe, fGt, sTryAs, tryAsE, suiteE, sTryOnly, tryOnlyE, noEx, sRet, sSeq, sSet, sIf, sNext, sExpr, sRaise, sApp, sSetN, sFrz, sRetO, mVar, mOwn, mC, mOp, mUn, mTst, mNotT, mAndT, mOrT, mNotV, mAndV, mOrV, mIf, mNil, mCons, mTup, mLst, mCall, mCB, mBM, mSl, mNoP, mPart, mRev, mChain, mDct0, mDct1, envOf, endsOf, fI0, fI, ord_int, ord_str, add_int', add_str', add_lst', add_tup', mul_int', mul_str', st_0, st_1, st_2, st_3, st_4, lk_0, lk_1, lk_2, lk_3, lk_4, ix_lst', ix_tup', ix_str', sl_lst', sl_tup', sl_str', fEq, fNe, ok_int, ok_str, ok_bl, ok_non, eqD_int, eqD_str, eqD_bl, atI_0, atI_1, atI_2, atI_3, atI_4, isi_ty, ty_int, ty_str', ty_bool, ty_tuple, ty_list, ty_dict, abs_int, len_lst, len_tup, len_str, addB_ii, addB_bi, addB_tt, addB_ss, subB_ii, subB_bi, subB_ib, gtB_ii, gtB_bi, mRevT, mStar, sPar, fEqT, fEqT1, mTru, vw_int, vw_bl, vw_str, vw_lst, vw_tup, tr_int, tr_bl, tr_str, tr_lst, tr_tup, mStep2, mSortSet, sCatch, catchE, suiteE, mStarL, mFmt2, fStrD, sSetD0, sSetW, mDctW, mDctW0, mW, mSortKeys, mDPop, mScrLen, in_pay_pay, in_lock_pay, in_fold_pay, in_drop_pay, in_pass_pay, in_pay_fold, in_lock_fold, in_fold_fold, in_drop_fold, in_pass_fold, w_pay_lock, w_pay_fold, w_pay_drop, w_pay_pass, w_lock_pay, w_lock_fold, w_lock_drop, w_lock_pass, w_fold_pay, w_fold_lock, w_fold_drop, w_fold_pass, w_drop_pay, w_drop_lock, w_drop_fold, w_drop_pass, w_pass_pay, w_pass_lock, w_pass_fold, w_pass_drop, list_lst, list_tup, tuple_lst, f2I, fIs, fIsB, fNeg,
  List.map_cons, List.map_nil, List.length_cons, List.length_nil, Nat.sub_self, Nat.zero_add, Nat.reduceAdd, Nat.reduceSub, List.replicate_zero, List.replicate_succ, List.append_nil, List.cons_append, List.nil_append, List.getElem?_cons_zero, List.getElem?_cons_succ, List.set_cons_zero, List.set_cons_succ,
  Option.some.injEq, Ent.val.injEq, Ent.own.injEq, D.bl.injEq, D.int.injEq, D.str.injEq, D.lst.injEq, D.tup.injEq, D.ty.injEq, D.hnd.injEq, List.cons.injEq, and_true, true_and, exists_eq_left', exists_eq_left, exists_eq_right, exists_eq_right', exists_and_left, exists_and_right, reduceCtorEq, instT, dataD, tyD, Option.isSome_some, Option.isSome_none, ↓reduceIte, String.reduceBEq, Bool.not_true, Bool.not_false, Bool.or_true, Bool.true_or, Bool.or_false, Bool.false_or, Bool.and_true, Bool.and_false, Bool.true_and, Bool.false_and, beq_self_eq_true, eq_self, Int.zero_add, Bool.false_eq_true, Bool.true_eq_false, Nat.zero_le, Int.reduceToNat, Int.reduceLE, Int.reduceLT, Int.reduceNeg, Int.reduceAdd, Int.reduceSub, Int.reduceMul, Int.reducePow, Nat.reduceLeDiff, Nat.reduceMul, Nat.reduceLT, decide_true, decide_false, Int.cast_ofNat_Int, Int.natCast_zero, Int.natCast_one, Int.reduceEq, not_true_eq_false, not_false_eq_true, false_and, and_false, or_false, false_or, exists_false])
local macro_rules | `(tactic| walk_at "u") => `(tactic| ((try simp only [sForL, sForR, sForR2, sForT, mComp, mCompX, mIL, mIS, mIR, mIT]); (walk_at "m")))
local macro_rules | `(tactic| walk_at "a") => `(tactic| ((try simp only [sAsg, bTup, bCons, bNil]); (walk_at "m")))
set_option hygiene false in
local macro_rules | `(tactic| walk_at "s") => `(tactic| (refine seq_gen fun S hS => ?_; (try (walk_at "m")); (try (walk_at "a"))))
set_option hygiene false in
local macro_rules | `(tactic| walk_at "n") => `(tactic| (subst hS; refine seq_gen fun S hS => ?_; (try (walk_at "m")); (try (walk_at "a"))))

def top (i : Nat) : Stmt := PySem.Challenge.pw_coinlanes_k76_letters_written_and_read.main.body.getD i (.Pass ⟨0, 0, 0, 0⟩)
abbrev s_is_whole : Stmt := top 8
abbrev s_seal_of : Stmt := top 9
abbrev s_is_positive : Stmt := top 12
abbrev s_is_side : Stmt := top 13
abbrev s_other_side : Stmt := top 14
abbrev s_is_lock : Stmt := top 15
abbrev s_are_locks : Stmt := top 16
abbrev s_is_state : Stmt := top 17
abbrev s_is_step : Stmt := top 18
abbrev s_check_state : Stmt := top 19
abbrev s_next_state : Stmt := top 20
abbrev s_changed : Stmt := top 21
abbrev s_with_more : Stmt := top 22
abbrev s_with_less : Stmt := top 23
abbrev s_share_of : Stmt := top 24
abbrev s_with_lock : Stmt := top 25
abbrev s_without_lock : Stmt := top 26
abbrev s_lock_of : Stmt := top 27
abbrev s_is_hop : Stmt := top 30
abbrev s_are_hops : Stmt := top 31
abbrev s_begins_with : Stmt := top 32
abbrev s_is_next : Stmt := top 33
abbrev s_is_done : Stmt := top 34
abbrev s_is_turn : Stmt := top 35
abbrev s_is_letter : Stmt := top 36
abbrev s_show_step : Stmt := top 39
abbrev s_show_letter : Stmt := top 40
abbrev s_read_letter : Stmt := top 41
abbrev s_in_words : Stmt := top 42
abbrev s_with_colons : Stmt := top 43
abbrev s_is_figures : Stmt := top 44
abbrev s_words_of : Stmt := top 45
abbrev s_number_of : Stmt := top 46
abbrev s_side_or_number : Stmt := top 47
abbrev s_hop_in : Stmt := top 48
abbrev s_step_in : Stmt := top 49
abbrev s_next_in : Stmt := top 50
abbrev s__law_bag : Stmt := top 52
abbrev s__law_draw : Stmt := top 53
abbrev s__law_count : Stmt := top 54
abbrev s__law_step : Stmt := top 56
abbrev s__law_hops : Stmt := top 57
abbrev s__law_letter : Stmt := top 58
abbrev s__law_same : Stmt := top 59
abbrev s__law_colons : Stmt := top 60
abbrev s__law_shown : Stmt := top 61
abbrev s__law_refused : Stmt := top 62
abbrev s__law_right : Stmt := top 63
abbrev s_law : Stmt := top 64
/-- what the law draws -/
def LtS (t : Lt) : Prop := t.Ok ∧ t.Lo (10 ^ 15)
def sfStepS : SF BW := fun ds w Q _ => ∃ b, ds = [.hnd b] ∧ w.bag = some b ∧ w.n < 2 ^ 58 ∧ ∀ (p : Mv) (m : Nat), p.Ok → p.Lo (10 ^ 15) → w.n ≤ m → m ≤ w.n + 10 → Q (mvD p) (w.at m)
theorem sfStepS_mono (ds : List D) : Mono (sfStepS ds) := fun w Q Q' E E' hq _ ⟨b, e1, e2, h, q⟩ => ⟨b, e1, e2, h, fun p m a a2 b c => hq _ _ (q p m a a2 b c)⟩
def HopsS (hs : List Hop) : Prop := ∀ h ∈ hs, h.Ok ∧ h.Lo (10 ^ 15)
def sfHopsS : SF BW := fun ds w Q _ => ∃ (b : Addr) (k : Int), ds = [.hnd b, .int k] ∧ 0 ≤ k ∧ k ≤ 40 ∧ w.bag = some b ∧ w.n < 2 ^ 57 ∧ ∀ (hs : List Hop) (m : Nat), hs.length ≤ 40 → HopsS hs → w.n ≤ m → m ≤ w.n + 300 → Q (.tup (hs.map Hop.D)) (w.at m)
theorem sfHopsS_mono (ds : List D) : Mono (sfHopsS ds) := fun w Q Q' E E' hq _ ⟨b, k, e1, e2, e3, e4, h, q⟩ => ⟨b, k, e1, e2, e3, e4, h, fun hs m a e b c => hq _ _ (q hs m a e b c)⟩
def sfLtS : SF BW := fun ds w Q _ => ∃ b, ds = [.hnd b] ∧ w.bag = some b ∧ w.n < 2 ^ 56 ∧ ∀ (t : Lt) (m : Nat), LtS t → w.n ≤ m → m ≤ w.n + 400 → Q (lettD t) (w.at m)
theorem sfLtS_mono (ds : List D) : Mono (sfLtS ds) := fun w Q Q' E E' hq _ ⟨b, e1, e2, h, q⟩ => ⟨b, e1, e2, h, fun t m a b c => hq _ _ (q t m a b c)⟩
section
variable {b : Addr} {w : BW} {n : Nat} {Q : D → BW → Prop} {E : Ex → BW → Prop}
theorem stepS_at (hb : w.bag = some b) (hn : n < 2 ^ 58) (q : ∀ (p : Mv) (m : Nat), p.Ok → p.Lo (10 ^ 15) → n ≤ m → m ≤ n + 10 → Q (mvD p) (w.at m)) : sfStepS [.hnd b] (w.at n) Q E := ⟨b, rfl, hb, hn, q⟩
theorem ltS_at (hb : w.bag = some b) (hn : n < 2 ^ 56) (q : ∀ (t : Lt) (m : Nat), LtS t → n ≤ m → m ≤ n + 400 → Q (lettD t) (w.at m)) : sfLtS [.hnd b] (w.at n) Q E := ⟨b, rfl, hb, hn, q⟩
theorem hopsS_at {k : Int} (h0 : 0 ≤ k) (h1 : k ≤ 40) (hb : w.bag = some b) (hn : n < 2 ^ 57) (q : ∀ (hs : List Hop) (m : Nat), hs.length ≤ 40 → HopsS hs → n ≤ m → m ≤ n + 300 → Q (.tup (hs.map Hop.D)) (w.at m)) : sfHopsS [.hnd b, .int k] (w.at n) Q E := ⟨b, k, rfl, h0, h1, hb, hn, q⟩
end
/-- a step or a letter shown by the law -/
def sfShL (n : Nat) : SF W := match n with
  | 0 => fun _ _ _ _ => False
  | n + 1 => fun ds w Q _ => (∃ p : Mv, ds = [mvD p] ∧ p.Ok ∧ p.Lo (10 ^ 40) ∧ Q (.str (showStep (mvD p))) w) ∨ ∃ t : Lt, ds = [lettD t] ∧ t.Ok ∧ t.Lo (10 ^ 40) ∧ 1 ≤ n ∧ Q (.str (showLetter (lettD t))) w
theorem sfShL_mono : ∀ (n : Nat) (ds : List D), Mono (sfShL (W := W) n ds)
  | 0, _ => fun _ _ _ _ _ _ _ h => h
  | n + 1, ds => fun w Q Q' E E' hq he h => h.elim (fun ⟨p, e, h1, h2, q⟩ => .inl ⟨p, e, h1, h2, hq _ _ q⟩) fun ⟨t, e, h1, h2, h3, q⟩ => .inr ⟨t, e, h1, h2, h3, hq _ _ q⟩
/-- a letter whose text is read back, or refused -/
def sfRefL (C : Addr) : SF W := fun ds w Q _ => ∃ t : Lt, ds = [.str (showLetter (lettD t))] ∧ t.Ok ∧ t.Lo (10 ^ 40) ∧ letterOf (ltW t) = none ∧ Q (.bl true) w
theorem sfRefL_mono (C : Addr) (ds : List D) : Mono (sfRefL (W := W) C ds) := fun w Q Q' E E' hq he ⟨t, e, h1, h2, h3, q⟩ => ⟨t, e, h1, h2, h3, hq _ _ q⟩
def sfRightL : SF W := fun ds w Q _ => ∃ (t : Lt) (g : Bool), ds = [lettD t, .bl g] ∧ t.Ok ∧ t.Lo (10 ^ 40) ∧ (g = true → letterOf (ltW t) = none) ∧ (g = false → t.Lo (10 ^ 15)) ∧ Q (.bl true) w
theorem sfRightL_mono (ds : List D) : Mono (sfRightL (W := W) ds) := fun w Q Q' E E' hq he ⟨t, g, e, h1, h2, h3, h4, q⟩ => ⟨t, g, e, h1, h2, h3, h4, hq _ _ q⟩
/-- where the defs and classes stand -/
structure Ads where
  f_is_whole : Addr
  f_seal_of : Addr
  f_is_positive : Addr
  f_is_side : Addr
  f_other_side : Addr
  f_is_lock : Addr
  f_are_locks : Addr
  f_is_state : Addr
  f_is_step : Addr
  f_check_state : Addr
  f_next_state : Addr
  f_changed : Addr
  f_with_more : Addr
  f_with_less : Addr
  f_share_of : Addr
  f_with_lock : Addr
  f_without_lock : Addr
  f_lock_of : Addr
  f_is_hop : Addr
  f_are_hops : Addr
  f_begins_with : Addr
  f_is_next : Addr
  f_is_done : Addr
  f_is_turn : Addr
  f_is_letter : Addr
  f_show_step : Addr
  f_show_letter : Addr
  f_read_letter : Addr
  f_in_words : Addr
  f_with_colons : Addr
  f_is_figures : Addr
  f_words_of : Addr
  f_number_of : Addr
  f_side_or_number : Addr
  f_hop_in : Addr
  f_step_in : Addr
  f_next_in : Addr
  f__law_bag : Addr
  f__law_draw : Addr
  f__law_count : Addr
  f__law_step : Addr
  f__law_hops : Addr
  f__law_letter : Addr
  f__law_same : Addr
  f__law_colons : Addr
  f__law_shown : Addr
  f__law_refused : Addr
  f__law_right : Addr
  f_law : Addr
  c_NoLetter : Addr
  c_NoSecret : Addr
  c_NoState : Addr
  c_NoStep : Addr
  c_NoText : Addr
  t_MOST_LOCKS : Tok
  t_MOST_HOPS : Tok
  t_MOST_FIGURES : Tok
/-- what the top has written -/
structure Tx (K : PySem.W.Frag) (mg : Str → Option Value) (a : Ads) : Prop where
  f_is_whole : mg "is_whole" = some (.ref a.f_is_whole)
  f_seal_of : mg "seal_of" = some (.ref a.f_seal_of)
  f_is_positive : mg "is_positive" = some (.ref a.f_is_positive)
  f_is_side : mg "is_side" = some (.ref a.f_is_side)
  f_other_side : mg "other_side" = some (.ref a.f_other_side)
  f_is_lock : mg "is_lock" = some (.ref a.f_is_lock)
  f_are_locks : mg "are_locks" = some (.ref a.f_are_locks)
  f_is_state : mg "is_state" = some (.ref a.f_is_state)
  f_is_step : mg "is_step" = some (.ref a.f_is_step)
  f_check_state : mg "check_state" = some (.ref a.f_check_state)
  f_next_state : mg "next_state" = some (.ref a.f_next_state)
  f_changed : mg "changed" = some (.ref a.f_changed)
  f_with_more : mg "with_more" = some (.ref a.f_with_more)
  f_with_less : mg "with_less" = some (.ref a.f_with_less)
  f_share_of : mg "share_of" = some (.ref a.f_share_of)
  f_with_lock : mg "with_lock" = some (.ref a.f_with_lock)
  f_without_lock : mg "without_lock" = some (.ref a.f_without_lock)
  f_lock_of : mg "lock_of" = some (.ref a.f_lock_of)
  f_is_hop : mg "is_hop" = some (.ref a.f_is_hop)
  f_are_hops : mg "are_hops" = some (.ref a.f_are_hops)
  f_begins_with : mg "begins_with" = some (.ref a.f_begins_with)
  f_is_next : mg "is_next" = some (.ref a.f_is_next)
  f_is_done : mg "is_done" = some (.ref a.f_is_done)
  f_is_turn : mg "is_turn" = some (.ref a.f_is_turn)
  f_is_letter : mg "is_letter" = some (.ref a.f_is_letter)
  f_show_step : mg "show_step" = some (.ref a.f_show_step)
  f_show_letter : mg "show_letter" = some (.ref a.f_show_letter)
  f_read_letter : mg "read_letter" = some (.ref a.f_read_letter)
  f_in_words : mg "in_words" = some (.ref a.f_in_words)
  f_with_colons : mg "with_colons" = some (.ref a.f_with_colons)
  f_is_figures : mg "is_figures" = some (.ref a.f_is_figures)
  f_words_of : mg "words_of" = some (.ref a.f_words_of)
  f_number_of : mg "number_of" = some (.ref a.f_number_of)
  f_side_or_number : mg "side_or_number" = some (.ref a.f_side_or_number)
  f_hop_in : mg "hop_in" = some (.ref a.f_hop_in)
  f_step_in : mg "step_in" = some (.ref a.f_step_in)
  f_next_in : mg "next_in" = some (.ref a.f_next_in)
  f__law_bag : mg "_law_bag" = some (.ref a.f__law_bag)
  f__law_draw : mg "_law_draw" = some (.ref a.f__law_draw)
  f__law_count : mg "_law_count" = some (.ref a.f__law_count)
  f__law_step : mg "_law_step" = some (.ref a.f__law_step)
  f__law_hops : mg "_law_hops" = some (.ref a.f__law_hops)
  f__law_letter : mg "_law_letter" = some (.ref a.f__law_letter)
  f__law_same : mg "_law_same" = some (.ref a.f__law_same)
  f__law_colons : mg "_law_colons" = some (.ref a.f__law_colons)
  f__law_shown : mg "_law_shown" = some (.ref a.f__law_shown)
  f__law_refused : mg "_law_refused" = some (.ref a.f__law_refused)
  f__law_right : mg "_law_right" = some (.ref a.f__law_right)
  f_law : mg "law" = some (.ref a.f_law)
  n_all : mg "all" = none
  n_any : mg "any" = none
  n_bool : mg "bool" = none
  n_int : mg "int" = none
  n_isinstance : mg "isinstance" = none
  n_len : mg "len" = none
  n_list : mg "list" = none
  n_max : mg "max" = none
  n_range : mg "range" = none
  n_str : mg "str" = none
  n_tuple : mg "tuple" = none
  c_NoLetter : mg "NoLetter" = some (.ref a.c_NoLetter)
  c_NoSecret : mg "NoSecret" = some (.ref a.c_NoSecret)
  c_NoState : mg "NoState" = some (.ref a.c_NoState)
  c_NoStep : mg "NoStep" = some (.ref a.c_NoStep)
  c_NoText : mg "NoText" = some (.ref a.c_NoText)
  g_MOST_LOCKS : mg "MOST_LOCKS" = some (.int 30 a.t_MOST_LOCKS)
  g_MOST_HOPS : mg "MOST_HOPS" = some (.int 40 a.t_MOST_HOPS)
  g_MOST_FIGURES : mg "MOST_FIGURES" = some (.int 15 a.t_MOST_FIGURES)
  x_NoLetter : PySem.W.excIn K a.c_NoLetter [.type "ValueError", .type "Exception", .type "BaseException", .type "object"] "ValueError.__new__" = true
  k_NoLetter : PySem.W.keepIn K (.ref a.c_NoLetter) = true
  b_NoLetter : PySem.W.subIn K (.ref a.c_NoLetter) (.type "BaseException") = some true
  t_NoLetter : PySem.W.typeIn K (.ref a.c_NoLetter) = some (.type "type")
  x_NoSecret : PySem.W.excIn K a.c_NoSecret [.type "ValueError", .type "Exception", .type "BaseException", .type "object"] "ValueError.__new__" = true
  k_NoSecret : PySem.W.keepIn K (.ref a.c_NoSecret) = true
  b_NoSecret : PySem.W.subIn K (.ref a.c_NoSecret) (.type "BaseException") = some true
  t_NoSecret : PySem.W.typeIn K (.ref a.c_NoSecret) = some (.type "type")
  x_NoState : PySem.W.excIn K a.c_NoState [.type "ValueError", .type "Exception", .type "BaseException", .type "object"] "ValueError.__new__" = true
  k_NoState : PySem.W.keepIn K (.ref a.c_NoState) = true
  b_NoState : PySem.W.subIn K (.ref a.c_NoState) (.type "BaseException") = some true
  t_NoState : PySem.W.typeIn K (.ref a.c_NoState) = some (.type "type")
  x_NoStep : PySem.W.excIn K a.c_NoStep [.type "ValueError", .type "Exception", .type "BaseException", .type "object"] "ValueError.__new__" = true
  k_NoStep : PySem.W.keepIn K (.ref a.c_NoStep) = true
  b_NoStep : PySem.W.subIn K (.ref a.c_NoStep) (.type "BaseException") = some true
  t_NoStep : PySem.W.typeIn K (.ref a.c_NoStep) = some (.type "type")
  x_NoText : PySem.W.excIn K a.c_NoText [.type "ValueError", .type "Exception", .type "BaseException", .type "object"] "ValueError.__new__" = true
  k_NoText : PySem.W.keepIn K (.ref a.c_NoText) = true
  b_NoText : PySem.W.subIn K (.ref a.c_NoText) (.type "BaseException") = some true
  t_NoText : PySem.W.typeIn K (.ref a.c_NoText) = some (.type "type")
  exmT : PySem.W.exmOne K (.ref a.c_NoText) (.ref a.c_NoText) = some true
section
variable {P : Program} {wd : World} {K : PySem.W.Frag} {mg : Str → Option Value} {base : Heap} {a : Ads}
theorem sc_is_whole : FnScope ["thing"] ["thing"] (defScope s_is_whole) := ⟨rfl, rfl, rfl, by decide +kernel, rfl, by decide +kernel, by decide +kernel⟩
theorem ok_is_whole {fd : FuncData} (T : Tx K mg a) (Fu : Fun K "is_whole" "is_whole" s_is_whole a.f_is_whole fd) (bd : Binds K fd ["thing"] []) :
    FnD (GB bagA K) P wd K mg base 1 a.f_is_whole fd ["thing"] sf_is_whole :=
  have sc := sc_is_whole
  fn_data Fu sc bd (fun ds w Q E ⟨d, e, _⟩ => by subst e; rfl) sf_is_whole_mono fun cdv A outer s H E en hr => ⟨_, (dsone (dsret (dand (dcallB o_isi T.n_isinstance (by decide +kernel) (by rfl) (daucons (dvar 0).u (daucons (dty (n := "int") (by rfl) T.n_int (by decide +kernel)).u daunil))) (dand (dnot (dcallB o_isi T.n_isinstance (by decide +kernel) (by rfl) (daucons (dvar 0).u (daucons (dty (n := "bool") (by rfl) T.n_bool (by decide +kernel)).u daunil)))) (done' (dcmp o_ge (dvar 0).u (DE.u dint) (nomark _))))))),
    fun ds w Q Ed h => by
      obtain ⟨d, e, hd, q⟩ := h
      subst e
      walk_at "m"
      refine ⟨hd, ?_⟩
      cases d <;> simp_all [instT, isWhole, fOrd]⟩
theorem sc_seal_of : FnScope ["secret", "mixed"] ["secret"] (defScope s_seal_of) := ⟨rfl, rfl, rfl, by decide +kernel, rfl, by decide +kernel, by decide +kernel⟩
theorem ok_seal_of {fd : FuncData} (T : Tx K mg a) (Fu : Fun K "seal_of" "seal_of" s_seal_of a.f_seal_of fd) (bd : Binds K fd ["secret"] []) {fd_is_whole : FuncData} (G_is_whole : FnD (GB bagA K) P wd K mg base 1 a.f_is_whole fd_is_whole ["thing"] sf_is_whole) :
    FnD (GB bagA K) P wd K mg base 2 a.f_seal_of fd ["secret"] (sf_seal_of a.c_NoSecret) :=
  have sc := sc_seal_of
  fn_data Fu sc bd (fun ds w Q E ⟨d, e, _⟩ => by subst e; rfl) (sf_seal_of_mono _) fun cdv A outer s H E en hr => ⟨_, (dscons (dsif (dtnot (dtval (dcall G_is_whole (hr.mono (by decide)) (takes_of rfl rfl rfl rfl) T.f_is_whole (by rfl) (dacons (dvar 0) danil)))) (dsone (dsraise rfl (takes_of rfl rfl rfl rfl) (pmk_own PySem.F.excBase_ValueError T.x_NoSecret T.c_NoSecret T.k_NoSecret (raises_own T.b_NoSecret T.t_NoSecret) (by exact rfl)))) dsnil) (dscons (dsset 1 sc.nd (dop o_xor (dvar 0).u (dop o_shr (dvar 0).u (DE.u dint)).u)) (dsone (dsret (dop o_add (dop o_mul (DE.u dint) (dvar 1).u).u (DE.u dint)))))),
    fun ds w Q Ed h => by
      obtain ⟨d, e, hd, q, q2⟩ := h
      subst e
      walk_at "m"
      refine ⟨d, rfl, hd, _, rfl, ?_⟩
      cases hw : isWhole 0 d with
      | false => exact q2 hw
      | true =>
        cases d <;> first | (cases hw; done) | skip
        rename_i i
        have hi : 0 ≤ i := of_decide_eq_true hw
        obtain ⟨hb, qq⟩ := q i rfl hi
        have hg := gray_le hi
        refine ⟨i, rfl, i, rfl, ?_, qq⟩
        exact mulx_ok (a := 6) (b := 1001) (by decide) (by unfold gray at hg; omega) (by decide)⟩
theorem sc_is_positive : FnScope ["thing"] ["thing"] (defScope s_is_positive) := ⟨rfl, rfl, rfl, by decide +kernel, rfl, by decide +kernel, by decide +kernel⟩
theorem ok_is_positive {fd : FuncData} (T : Tx K mg a) (Fu : Fun K "is_positive" "is_positive" s_is_positive a.f_is_positive fd) (bd : Binds K fd ["thing"] []) {fd_is_whole : FuncData} (G_is_whole : FnD (GB bagA K) P wd K mg base 1 a.f_is_whole fd_is_whole ["thing"] sf_is_whole) :
    FnD (GB bagA K) P wd K mg base 2 a.f_is_positive fd ["thing"] sf_is_positive :=
  have sc := sc_is_positive
  fn_data Fu sc bd (fun ds w Q E ⟨d, e, _⟩ => by subst e; rfl) sf_is_positive_mono fun cdv A outer s H E en hr => ⟨_, (dsone (dsret (dand (dcall G_is_whole (hr.mono (by decide)) (takes_of rfl rfl rfl rfl) T.f_is_whole (by rfl) (dacons (dvar 0) danil)) (done' (dcmp o_gt (dvar 0).u (DE.u dint) (nomark _)))))),
    fun ds w Q Ed h => by
      obtain ⟨d, e, hd, q⟩ := h
      subst e
      walk_at "m"
      refine ⟨d, rfl, hd, _, rfl, ?_⟩
      cases d <;> first | exact q | skip
      rename_i i
      show if decide (0 ≤ i) = true then Q (.bl (decide (0 < i))) w else Q (.bl false) w
      have q' : Q (.bl (decide (1 ≤ i))) w := q
      by_cases h : 0 ≤ i
      · rw [if_pos (decide_eq_true h), show decide (0 < i) = decide (1 ≤ i) from decide_eq_decide.mpr (by omega)]; exact q'
      · rw [if_neg (by rw [decide_eq_false h]; decide)]; rw [decide_eq_false (by omega)] at q'; exact q'⟩
theorem sc_is_side : FnScope ["thing"] ["thing"] (defScope s_is_side) := ⟨rfl, rfl, rfl, by decide +kernel, rfl, by decide +kernel, by decide +kernel⟩
theorem ok_is_side {fd : FuncData} (T : Tx K mg a) (Fu : Fun K "is_side" "is_side" s_is_side a.f_is_side fd) (bd : Binds K fd ["thing"] []) :
    FnD (GB bagA K) P wd K mg base 1 a.f_is_side fd ["thing"] sf_is_side :=
  have sc := sc_is_side
  fn_data Fu sc bd (fun ds w Q E ⟨d, e, _⟩ => by subst e; rfl) sf_is_side_mono fun cdv A outer s H E en hr => ⟨_, (dsone (dsret (dand (dcallB o_isi T.n_isinstance (by decide +kernel) (by rfl) (daucons (dvar 0).u (daucons (dty (n := "str") (by rfl) T.n_str (by decide +kernel)).u daunil))) (done' (dcmp o_in (dvar 0).u (dtup (dacons dstr (dacons dstr danil))).u (by rfl)))))),
    fun ds w Q Ed h => by
      obtain ⟨d, e, hd, q⟩ := h
      subst e
      walk_at "m"
      cases d <;> first | exact ⟨rfl, q⟩ | (cases hd; done) | skip
      rename_i x
      refine ⟨rfl, (by decide : 2 ≤ LB), rfl, rfl, ?_⟩
      have q' : Q (.bl (sideD (.str x))) w := q
      have e : inD (.str x) [.str (Str.ofString "left"), .str (Str.ofString "right")] = sideD (.str x) := by
        show ((Str.ofString "left" == x) || ((Str.ofString "right" == x) || false)) = (decide (x = Str.ofString "left") || decide (x = Str.ofString "right"))
        have bc : ∀ y : Str, (y == x) = decide (x = y) := fun y => by
          rw [Bool.beq_eq_decide_eq]; exact decide_eq_decide.mpr ⟨Eq.symm, Eq.symm⟩
        rw [Bool.or_false, bc, bc]
      exact e.symm ▸ q'⟩
theorem sc_other_side : FnScope ["side"] ["side"] (defScope s_other_side) := ⟨rfl, rfl, rfl, by decide +kernel, rfl, by decide +kernel, by decide +kernel⟩
theorem ok_other_side {fd : FuncData} (T : Tx K mg a) (Fu : Fun K "other_side" "other_side" s_other_side a.f_other_side fd) (bd : Binds K fd ["side"] []) :
    FnD (GB bagA K) P wd K mg base 1 a.f_other_side fd ["side"] sf_other :=
  have sc := sc_other_side
  fn_data Fu sc bd (fun ds w Q E ⟨_, e, _⟩ => by subst e; rfl) sf_other_mono fun cdv A outer s H E en hr => ⟨_, (dsone (dsret (dif (dtcmp (o_eq hr) (dvar 0).u (DE.u dstr) (nomark _)) dstr dstr))),
    fun ds w Q Ed h => by
      obtain ⟨l, e, q⟩ := h
      subst e
      walk_at "m"
      cases l
      · exact ifN sd_right q
      · exact ifY sd_left q
⟩
theorem sc_is_lock : FnScope ["thing", "number", "giver", "amount", "seal", "last"] ["thing"] (defScope s_is_lock) := ⟨rfl, rfl, rfl, by decide +kernel, rfl, by decide +kernel, by decide +kernel⟩
theorem ok_is_lock {fd : FuncData} (T : Tx K mg a) (Fu : Fun K "is_lock" "is_lock" s_is_lock a.f_is_lock fd) (bd : Binds K fd ["thing"] []) {fd_is_whole : FuncData} (G_is_whole : FnD (GB bagA K) P wd K mg base 1 a.f_is_whole fd_is_whole ["thing"] sf_is_whole) {fd_is_positive : FuncData} (G_is_positive : FnD (GB bagA K) P wd K mg base 2 a.f_is_positive fd_is_positive ["thing"] sf_is_positive) {fd_is_side : FuncData} (G_is_side : FnD (GB bagA K) P wd K mg base 1 a.f_is_side fd_is_side ["thing"] sf_is_side) :
    FnD (GB bagA K) P wd K mg base 3 a.f_is_lock fd ["thing"] sf_is_lock :=
  have sc := sc_is_lock
  fn_data Fu sc bd (fun ds w Q E ⟨d, e, _⟩ => by subst e; rfl) sf_is_lock_mono fun cdv A outer s H E en hr => ⟨_, (dscons (dsif (dwor (dtnot (dtval (dcallB o_isi T.n_isinstance (by decide +kernel) (by rfl) (daucons (dvar 0).u (daucons (dty (n := "tuple") (by rfl) T.n_tuple (by decide +kernel)).u daunil))))) (dwor1 (dtcmp (o_ne hr) (dcallB o_len T.n_len (by decide +kernel) (by rfl) (daucons (dvar 0).u daunil)).u (DE.u dint) (nomark _)))).t (dsone (dsret dbl)) dsnil) (dscons (dsasg (dvar 0) (pg_tup rfl (pgs_cons (pg_name (i := 1) sc.nd rfl (Or.inl rfl)) (pgs_cons (pg_name (i := 2) sc.nd rfl (Or.inl rfl)) (pgs_cons (pg_name (i := 3) sc.nd rfl (Or.inl rfl)) (pgs_cons (pg_name (i := 4) sc.nd rfl (Or.inl rfl)) (pgs_cons (pg_name (i := 5) sc.nd rfl (Or.inl rfl)) pgs_nil)))))) (grel_tup (gsrel_cons (grel_name 1) (gsrel_cons (grel_name 2) (gsrel_cons (grel_name 3) (gsrel_cons (grel_name 4) (gsrel_cons (grel_name 5) gsrel_nil))))))) (dsone (dsret (dand (dcall G_is_positive (hr.mono (by decide)) (takes_of rfl rfl rfl rfl) T.f_is_positive (by rfl) (dacons (dvar 1) danil)) (dand (dcall G_is_side (hr.mono (by decide)) (takes_of rfl rfl rfl rfl) T.f_is_side (by rfl) (dacons (dvar 2) danil)) (dand (dcall G_is_positive (hr.mono (by decide)) (takes_of rfl rfl rfl rfl) T.f_is_positive (by rfl) (dacons (dvar 3) danil)) (dand (dcall G_is_whole (hr.mono (by decide)) (takes_of rfl rfl rfl rfl) T.f_is_whole (by rfl) (dacons (dvar 4) danil)) (done' (dcall G_is_whole (hr.mono (by decide)) (takes_of rfl rfl rfl rfl) T.f_is_whole (by rfl) (dacons (dvar 5) danil))))))))))),
    fun ds w Q Ed h => by
      obtain ⟨d, e, hd, q⟩ := h
      subst e
      walk_at "m"
      cases d <;> first | exact ⟨rfl, q⟩ | (cases hd; done) | skip
      rename_i xs
      have hp := hd.tupI
      walk_at "m"
      rcases xs with _ | ⟨n, _ | ⟨g, _ | ⟨b, _ | ⟨s, _ | ⟨l, _ | ⟨z, r⟩⟩⟩⟩⟩⟩
      case cons.cons.cons.cons.cons.nil =>
        walk_at "a"
        refine ⟨rfl, _, _, ⟨rfl, rfl⟩, _, _, rfl, _, _, rfl, _, _, rfl, _, _, rfl, rfl, ?_⟩
        have a1 := (hp n (by simp)).data
        have a2 := (hp g (by simp)).data
        have a3 := (hp b (by simp)).data
        have a4 := (hp s (by simp)).data
        have a5 := (hp l (by simp)).data
        have q' : Q (.bl (isWhole 1 n && sideD g && isWhole 1 b && isWhole 0 s && isWhole 0 l)) w := q
        refine ⟨n, rfl, a1, _, rfl, ?_⟩
        cases h1 : isWhole 1 n with
        | false => rw [h1] at q'; exact q'
        | true =>
          refine ⟨g, rfl, a2, _, rfl, ?_⟩
          cases h2 : sideD g with
          | false => rw [h1, h2] at q'; exact q'
          | true =>
            refine ⟨b, rfl, a3, _, rfl, ?_⟩
            cases h3 : isWhole 1 b with
            | false => rw [h1, h2, h3] at q'; exact q'
            | true =>
              refine ⟨s, rfl, a4, _, rfl, ?_⟩
              cases h4 : isWhole 0 s with
              | false => rw [h1, h2, h3, h4] at q'; exact q'
              | true =>
                refine ⟨l, rfl, a5, ?_⟩
                rw [h1, h2, h3, h4] at q'; exact q'
      case cons.cons.cons.cons.cons.cons =>
        walk_at "m"
        refine ifY ?_ q
        rw [show decide (((r.length + 1 + 1 + 1 + 1 + 1 + 1 : Nat) : Int) = 5) = false from decide_eq_false (by omega)]; rfl
      all_goals (walk_at "m"; exact q)⟩
theorem sc_are_locks : FnScope ["thing", "number", "low", "lock"] ["thing", "number"] (defScope s_are_locks) := ⟨rfl, rfl, rfl, by decide +kernel, rfl, by decide +kernel, by decide +kernel⟩
theorem ok_are_locks {fd : FuncData} (T : Tx K mg a) (Fu : Fun K "are_locks" "are_locks" s_are_locks a.f_are_locks fd) (bd : Binds K fd ["thing", "number"] []) {fd_is_lock : FuncData} (G_is_lock : FnD (GB bagA K) P wd K mg base 3 a.f_is_lock fd_is_lock ["thing"] sf_is_lock) :
    FnD (GB bagA K) P wd K mg base 4 a.f_are_locks fd ["thing", "number"] sf_are_locks :=
  have sc := sc_are_locks
  fn_data Fu sc bd (fun ds w Q E ⟨d, k, e, _⟩ => by subst e; rfl) sf_are_locks_mono fun cdv A outer s H E en hr => ⟨_, (dscons (dsif (dwor (dtnot (dtval (dcallB o_isi T.n_isinstance (by decide +kernel) (by rfl) (daucons (dvar 0).u (daucons (dty (n := "tuple") (by rfl) T.n_tuple (by decide +kernel)).u daunil))))) (dwor1 (dtcmp o_gt (dcallB o_len T.n_len (by decide +kernel) (by rfl) (daucons (dvar 0).u daunil)).u (dglobI (by rfl) T.g_MOST_LOCKS).u (nomark _)))).t (dsone (dsret dbl)) dsnil) (dscons (dsset 2 sc.nd dint) (dscons (dsforT (passes_of rfl) (dvar 0) (pg_name (i := 3) sc.nd rfl (Or.inl rfl)) (grel_name 3) (dscons (dsif (dwor (dtnot (dtval (dcall G_is_lock (hr.mono (by decide)) (takes_of rfl rfl rfl rfl) T.f_is_lock (by rfl) (dacons (dvar 3) danil)))) (dwor1 (dtnot (dtchain o_lt o_le (dvar 2).u (dix o_ix (dvar 3).u (DE.u dint)).u (dvar 1).u)))).t (dsone (dsret dbl)) dsnil) (dsone (dsset 2 sc.nd (dix o_ix (dvar 3).u (DE.u dint)))))) (dsone (dsret dbl))))),
    fun ds w Q Ed h => by
      obtain ⟨d, n, e, hd, q⟩ := h
      subst e
      walk_at "m"
      cases d <;> first | exact ⟨rfl, q⟩ | (cases hd; done) | skip
      rename_i xs
      have hp := hd.tupI
      walk_at "m"
      have q' : Q (.bl (decide (xs.length ≤ 30) && locksFrom 0 n xs)) w := q
      by_cases hl : xs.length ≤ 30
      · rw [decide_eq_true hl, Bool.true_and] at q'
        refine ifN (decide_eq_false (by omega)) ?_
        walk_at "u"
        refine loopS_go (fun pre ds ρ w' => w' = w ∧ (∀ d ∈ ds, Pl d) ∧ ∃ (low : Int) (x3 : Option Ent), ρ = [some (Ent.val (D.tup xs)), some (Ent.val (D.int n)), some (Ent.val (D.int low)), x3] ∧ locksFrom low n ds = locksFrom 0 n xs) ?_ ?_ _ [] _ _ ⟨rfl, hp, 0, _, rfl, rfl⟩
        · rintro e pre ds ρ w' R B ⟨rfl, hds, low, x3, rfl, hlk⟩ go -
          walk_at "m"
          rw [locksFrom] at hlk
          refine ⟨e, rfl, hds e List.mem_cons_self, _, rfl, ?_⟩
          cases h1 : isLock e with
          | false =>
            rw [h1, Bool.false_and, Bool.false_and, Bool.false_and] at hlk
            rw [← hlk] at q'
            exact q'
          | true =>
            obtain ⟨i, g, b, s, l, rfl, _⟩ := isLock_parts h1
            rw [h1, Bool.true_and, show idOf (D.tup [D.int i, .str g, .int b, .int s, .int l]) = i from rfl] at hlk
            walk_at "m"
            by_cases h2 : low < i
            · rw [decide_eq_true h2, Bool.true_and] at hlk
              refine ifY (decide_eq_true h2) ?_
              by_cases h3 : i ≤ n
              · rw [decide_eq_true h3, Bool.true_and] at hlk
                refine ifN (by rw [decide_eq_true h3]; rfl) ?_
                exact go _ _ ⟨rfl, fun d h => hds d (List.mem_cons_of_mem _ h), i, _, rfl, hlk⟩
              · rw [decide_eq_false h3, Bool.false_and] at hlk
                rw [← hlk] at q'
                exact ifY (by rw [decide_eq_false h3]; rfl) q'
            · rw [decide_eq_false h2, Bool.false_and, Bool.false_and] at hlk
              rw [← hlk] at q'
              exact ifN (decide_eq_false h2) q'
        · rintro pre ρ w' ⟨rfl, _, low, x3, rfl, hlk⟩
          rw [show locksFrom low n [] = true from rfl] at hlk
          rw [← hlk] at q'
          exact q'
      · rw [decide_eq_false hl, Bool.false_and] at q'
        refine ifY (decide_eq_true (by omega)) ?_
        exact q'⟩
theorem sc_is_state : FnScope ["thing", "part"] ["thing"] (defScope s_is_state) := ⟨rfl, rfl, rfl, by decide +kernel, rfl, by decide +kernel, by decide +kernel⟩
theorem ok_is_state {fd : FuncData} (T : Tx K mg a) (Fu : Fun K "is_state" "is_state" s_is_state a.f_is_state fd) (bd : Binds K fd ["thing"] []) {fd_is_whole : FuncData} (G_is_whole : FnD (GB bagA K) P wd K mg base 1 a.f_is_whole fd_is_whole ["thing"] sf_is_whole) {fd_are_locks : FuncData} (G_are_locks : FnD (GB bagA K) P wd K mg base 4 a.f_are_locks fd_are_locks ["thing", "number"] sf_are_locks) :
    FnD (GB bagA K) P wd K mg base 5 a.f_is_state fd ["thing"] sf_is_state :=
  have sc := sc_is_state
  fn_data Fu sc bd (fun ds w Q E ⟨d, e, _⟩ => by subst e; rfl) sf_is_state_mono fun cdv A outer s H E en hr => ⟨_, (dscons (dsif (dwor (dtnot (dtval (dcallB o_isi T.n_isinstance (by decide +kernel) (by rfl) (daucons (dvar 0).u (daucons (dty (n := "tuple") (by rfl) T.n_tuple (by decide +kernel)).u daunil))))) (dwor1 (dtcmp (o_ne hr) (dcallB o_len T.n_len (by decide +kernel) (by rfl) (daucons (dvar 0).u daunil)).u (DE.u dint) (nomark _)))).t (dsone (dsret dbl)) dsnil) (dsone (dsret (dand (dcallB (o_all rfl) T.n_all (by decide +kernel) (by rfl) (daucons (dcomp' (own := [("part", 1)]) rfl sc.nd (ditup (dsl o_sl (dvar 0).u donone (dosome dint))) (blkOk_by (own := [("part", 1)]) (N := ["thing", "part"]) (sc := defScope s_is_state) (by decide +kernel)) (grel_name 1) (gwipe_name 1) (fun _ _ _ _ _ => (pg_name (i := 1) sc.nd rfl (Or.inl rfl))) (fun _ _ _ _ _ => dtsnil) (fun _ _ _ _ _ => (dcall G_is_whole (hr.mono (by decide)) takes0 T.f_is_whole (by rfl) (dacons (dvar 1) danil)))).u daunil)) (done' (dcall G_are_locks (hr.mono (by decide)) (takes_of rfl rfl rfl rfl) T.f_are_locks (by rfl) (dacons (dix o_ix (dvar 0).u (DE.u dint)) (dacons (dix o_ix (dvar 0).u (DE.u dint)) danil)))))))),
    fun ds w Q Ed h => by
      obtain ⟨d, e, hd, q⟩ := h
      subst e
      walk_at "m"
      cases d <;> first | exact ⟨rfl, q⟩ | (cases hd; done) | skip
      rename_i xs
      have hp := hd.tupI
      walk_at "m"
      rcases xs with _ | ⟨n, _ | ⟨g, _ | ⟨b, _ | ⟨s, _ | ⟨l, _ | ⟨z, r⟩⟩⟩⟩⟩⟩
      case cons.cons.cons.cons.cons.nil =>
        walk_at "u"
        have q' : Q (.bl (isWhole 0 n && isWhole 0 g && isWhole 0 b && isWhole 0 s && areLocks (intOf g) l)) w := q
        have a1 := (hp n (by simp)).data
        have a2 := (hp g (by simp)).data
        have a3 := (hp b (by simp)).data
        have a4 := (hp s (by simp)).data
        have a5 := hp l (by simp)
        refine ⟨(show 4 ≤ LB by decide), ?_⟩
        refine compL_map (fun d => .bl (isWhole 0 d)) _ _ (fun d hd Q' q2 => ?_) ?_
        · walk_at "m"
          refine ⟨d, rfl, ?_, q2⟩
          have hd' : d ∈ [n, g, b, s] := hd
          simp only [List.mem_cons, List.not_mem_nil, or_false] at hd'
          rcases hd' with rfl | rfl | rfl | rfl <;> assumption
        refine ⟨[isWhole 0 n, isWhole 0 g, isWhole 0 b, isWhole 0 s], rfl, _, rfl, ?_⟩
        cases h1 : isWhole 0 n with
        | false => rw [h1] at q'; exact q'
        | true => cases h2 : isWhole 0 g with
          | false => rw [h1, h2] at q'; exact q'
          | true => cases h3 : isWhole 0 b with
            | false => rw [h1, h2, h3] at q'; exact q'
            | true => cases h4 : isWhole 0 s with
              | false => rw [h1, h2, h3, h4] at q'; exact q'
              | true =>
                obtain ⟨i, rfl, _⟩ := isWhole_int h2
                rw [h1, h2, h3, h4] at q'
                exact ⟨l, i, rfl, a5, q'⟩
      case cons.cons.cons.cons.cons.cons =>
        walk_at "m"
        refine ifY ?_ q
        rw [show decide (((r.length + 1 + 1 + 1 + 1 + 1 + 1 : Nat) : Int) = 5) = false from decide_eq_false (by omega)]; rfl
      all_goals (walk_at "m"; exact q)⟩
theorem sc_is_step : FnScope ["thing", "word", "parts"] ["thing"] (defScope s_is_step) := ⟨rfl, rfl, rfl, by decide +kernel, rfl, by decide +kernel, by decide +kernel⟩
theorem ok_is_step {fd : FuncData} (T : Tx K mg a) (Fu : Fun K "is_step" "is_step" s_is_step a.f_is_step fd) (bd : Binds K fd ["thing"] []) {fd_is_whole : FuncData} (G_is_whole : FnD (GB bagA K) P wd K mg base 1 a.f_is_whole fd_is_whole ["thing"] sf_is_whole) {fd_is_positive : FuncData} (G_is_positive : FnD (GB bagA K) P wd K mg base 2 a.f_is_positive fd_is_positive ["thing"] sf_is_positive) {fd_is_side : FuncData} (G_is_side : FnD (GB bagA K) P wd K mg base 1 a.f_is_side fd_is_side ["thing"] sf_is_side) {fd_is_lock : FuncData} (G_is_lock : FnD (GB bagA K) P wd K mg base 3 a.f_is_lock fd_is_lock ["thing"] sf_is_lock) :
    FnD (GB bagA K) P wd K mg base 4 a.f_is_step fd ["thing"] sf_is_step :=
  have sc := sc_is_step
  fn_data Fu sc bd (fun ds w Q E ⟨d, e, _⟩ => by subst e; rfl) sf_is_step_mono fun cdv A outer s H E en hr => ⟨_, (dscons (dsif (dwor (dtnot (dtval (dcallB o_isi T.n_isinstance (by decide +kernel) (by rfl) (daucons (dvar 0).u (daucons (dty (n := "tuple") (by rfl) T.n_tuple (by decide +kernel)).u daunil))))) (dwor (dtcmp (o_eq hr) (dcallB o_len T.n_len (by decide +kernel) (by rfl) (daucons (dvar 0).u daunil)).u (DE.u dint) (nomark _)) (dwor1 (dtnot (dtval (dcallB o_isi T.n_isinstance (by decide +kernel) (by rfl) (daucons (dix o_ix (dvar 0).u (DE.u dint)).u (daucons (dty (n := "str") (by rfl) T.n_str (by decide +kernel)).u daunil)))))))).t (dsone (dsret dbl)) dsnil) (dscons (dspar 1 2 rfl sc.nd (dacons (dix o_ix (dvar 0).u (DE.u dint)) (dacons (dsl o_sl (dvar 0).u (dosome dint) donone) danil))) (dscons (dsif (dtcmp (o_eq hr) (dvar 1).u (DE.u dstr) (nomark _)) (dsone (dsret (dand (dcmp (o_eq hr) (dcallB o_len T.n_len (by decide +kernel) (by rfl) (daucons (dvar 2).u daunil)).u (DE.u dint) (nomark _)) (dand (dcall G_is_side (hr.mono (by decide)) (takes_of rfl rfl rfl rfl) T.f_is_side (by rfl) (dacons (dix o_ix (dvar 2).u (DE.u dint)) danil)) (done' (dcall G_is_positive (hr.mono (by decide)) (takes_of rfl rfl rfl rfl) T.f_is_positive (by rfl) (dacons (dix o_ix (dvar 2).u (DE.u dint)) danil))))))) dsnil) (dscons (dsif (dtcmp (o_eq hr) (dvar 1).u (DE.u dstr) (nomark _)) (dsone (dsret (dcall G_is_lock (hr.mono (by decide)) (takes_of rfl rfl rfl rfl) T.f_is_lock (by rfl) (dacons (dtup (dacons dint (dastar (dvar 2) danil))) danil)))) dsnil) (dscons (dsif (dtcmp (o_eq hr) (dvar 1).u (DE.u dstr) (nomark _)) (dsone (dsret (dand (dcmp (o_eq hr) (dcallB o_len T.n_len (by decide +kernel) (by rfl) (daucons (dvar 2).u daunil)).u (DE.u dint) (nomark _)) (dand (dcall G_is_positive (hr.mono (by decide)) (takes_of rfl rfl rfl rfl) T.f_is_positive (by rfl) (dacons (dix o_ix (dvar 2).u (DE.u dint)) danil)) (done' (dcall G_is_whole (hr.mono (by decide)) (takes_of rfl rfl rfl rfl) T.f_is_whole (by rfl) (dacons (dix o_ix (dvar 2).u (DE.u dint)) danil))))))) dsnil) (dscons (dsif (dtcmp (o_eq hr) (dvar 1).u (DE.u dstr) (nomark _)) (dsone (dsret (dand (dcmp (o_eq hr) (dcallB o_len T.n_len (by decide +kernel) (by rfl) (daucons (dvar 2).u daunil)).u (DE.u dint) (nomark _)) (done' (dcall G_is_positive (hr.mono (by decide)) (takes_of rfl rfl rfl rfl) T.f_is_positive (by rfl) (dacons (dix o_ix (dvar 2).u (DE.u dint)) danil)))))) dsnil) (dsone (dsret (dand (dcmp (o_eq hr) (dvar 1).u (DE.u dstr) (nomark _)) (done' (dcmp (o_eq hr) (dcallB o_len T.n_len (by decide +kernel) (by rfl) (daucons (dvar 2).u daunil)).u (DE.u dint) (nomark _)))))))))))),
    fun ds w Q Ed h => by
      obtain ⟨d, e, hd, hlen, q⟩ := h
      subst e
      cases d
      case hnd => cases hd
      case ty => cases hd
      case tup xs =>
        have hp := hd.tupI
        rcases xs with _ | ⟨x, ps⟩
        · walk_at "m"
          exact q
        have hx := hp x List.mem_cons_self
        have hps : ∀ d ∈ ps, Pl d := fun d hd => hp d (List.mem_cons_of_mem _ hd)
        have e1 : cutL (x :: ps) (some 1) none = ps := cut_suf (x :: ps) 1
        have cons0 : ∀ {p : Bool} {A B : Prop}, p = false → B → if p = true then A else B := fun h b => ifN h b
        cases x
        case hnd => cases hx
        case ty => cases hx
        case str z =>
          have q' : Q (.bl (stepP z ps)) w := q
          walk_at "m"
          refine ifN (decide_eq_false (by omega)) ?_
          rw [e1]
          have hlp : ps.length + 1 ≤ LB := hlen
          refine ⟨_, _, ⟨rfl, rfl⟩, ok_str _ _, ?_⟩
          rw [eqD_str]
          unfold stepP at q'
          by_cases h1 : z = Str.ofString "pay"
          · rw [if_pos h1] at q'
            refine ifY (decide_eq_true h1) ?_
            walk_at "m"
            rcases ps with _ | ⟨g, _ | ⟨b, _ | ⟨c, r⟩⟩⟩
            · exact q'
            · exact q'
            · walk_at "m"
              refine ⟨g, rfl, (hps g (by simp)).data, _, rfl, ?_⟩
              have q2 : Q (.bl (sideD g && isWhole 1 b)) w := q'
              cases hg : sideD g with
              | false => rw [hg] at q2; exact q2
              | true =>
                walk_at "m"
                refine ⟨b, rfl, (hps b (by simp)).data, ?_⟩
                rw [hg] at q2; exact q2
            · walk_at "m"
              exact ifN (decide_eq_false (by omega)) q'
          rw [if_neg h1] at q'
          refine ifN (decide_eq_false h1) ⟨ok_str _ _, ?_⟩
          rw [eqD_str]
          by_cases h2 : z = Str.ofString "lock"
          · rw [if_pos h2] at q'
            refine ifY (decide_eq_true h2) ⟨_, rfl, hlp, ?_⟩
            exact ⟨_, rfl, .tup (all_cons (.int 1) hps), q'⟩
          rw [if_neg h2] at q'
          refine ifN (decide_eq_false h2) ⟨ok_str _ _, ?_⟩
          rw [eqD_str]
          by_cases h3 : z = Str.ofString "fold"
          · rw [if_pos h3] at q'
            refine ifY (decide_eq_true h3) ?_
            walk_at "m"
            rcases ps with _ | ⟨g, _ | ⟨b, _ | ⟨c, r⟩⟩⟩
            · exact q'
            · exact q'
            · walk_at "m"
              refine ⟨g, rfl, (hps g (by simp)).data, _, rfl, ?_⟩
              have q2 : Q (.bl (isWhole 1 g && isWhole 0 b)) w := q'
              cases hg : isWhole 1 g with
              | false => rw [hg] at q2; exact q2
              | true =>
                walk_at "m"
                refine ⟨b, rfl, (hps b (by simp)).data, ?_⟩
                rw [hg] at q2; exact q2
            · walk_at "m"
              exact ifN (decide_eq_false (by omega)) q'
          rw [if_neg h3] at q'
          refine ifN (decide_eq_false h3) ⟨ok_str _ _, ?_⟩
          rw [eqD_str]
          by_cases h4 : z = Str.ofString "drop"
          · rw [if_pos h4] at q'
            refine ifY (decide_eq_true h4) ?_
            walk_at "m"
            rcases ps with _ | ⟨g, _ | ⟨b, r⟩⟩
            · exact q'
            · walk_at "m"
              exact ⟨g, rfl, (hps g (by simp)).data, q'⟩
            · walk_at "m"
              exact ifN (decide_eq_false (by omega)) q'
          rw [if_neg h4] at q'
          refine ifN (decide_eq_false h4) ⟨ok_str _ _, ?_⟩
          rw [eqD_str]
          by_cases h5 : z = Str.ofString "pass"
          · refine ifY (decide_eq_true h5) ?_
            rw [decide_eq_true h5, Bool.true_and] at q'
            walk_at "m"
            cases ps with
            | nil => exact q'
            | cons _ r => rw [show decide ((((_ : D) :: r).length : Int) = 0) = false from decide_eq_false (by rw [List.length_cons]; omega)]; exact q'
          · rw [decide_eq_false h5, Bool.false_and] at q'
            exact ifN (decide_eq_false h5) q'
        all_goals (walk_at "m"; (refine ifN (decide_eq_false (by omega)) ?_; exact q))
      all_goals (walk_at "m"; exact q)⟩
theorem sc_check_state : FnScope ["thing"] ["thing"] (defScope s_check_state) := ⟨rfl, rfl, rfl, by decide +kernel, rfl, by decide +kernel, by decide +kernel⟩
theorem ok_check_state {fd : FuncData} (T : Tx K mg a) (Fu : Fun K "check_state" "check_state" s_check_state a.f_check_state fd) (bd : Binds K fd ["thing"] []) {fd_is_state : FuncData} (G_is_state : FnD (GB bagA K) P wd K mg base 5 a.f_is_state fd_is_state ["thing"] sf_is_state) :
    FnD (GB bagA K) P wd K mg base 6 a.f_check_state fd ["thing"] (sf_check_state a.c_NoState) :=
  have sc := sc_check_state
  fn_data Fu sc bd (fun ds w Q E ⟨d, e, _⟩ => by subst e; rfl) (sf_check_state_mono _) fun cdv A outer s H E en hr => ⟨_, (dsone (dsif (dtnot (dtval (dcall G_is_state (hr.mono (by decide)) (takes_of rfl rfl rfl rfl) T.f_is_state (by rfl) (dacons (dvar 0) danil)))) (dsone (dsraise rfl (takes_of rfl rfl rfl rfl) (pmk_own PySem.F.excBase_ValueError T.x_NoState T.c_NoState T.k_NoState (raises_own T.b_NoState T.t_NoState) (by exact rfl)))) dsnil)),
    fun ds w Q Ed h => by
      obtain ⟨d, e, hd, q1, q2⟩ := h
      subst e
      walk_at "m"
      refine ⟨d, rfl, hd, _, rfl, ?_⟩
      cases h : isState d with
      | true => exact q1 h
      | false => exact q2 h⟩
theorem sc_with_more : FnScope ["state", "side", "amount", "lane", "number", "left", "right", "locks"] ["state", "side", "amount"] (defScope s_with_more) := ⟨rfl, rfl, rfl, by decide +kernel, rfl, by decide +kernel, by decide +kernel⟩
theorem ok_with_more {fd : FuncData} (T : Tx K mg a) (Fu : Fun K "with_more" "with_more" s_with_more a.f_with_more fd) (bd : Binds K fd ["state", "side", "amount"] []) :
    FnD (GB bagA K) P wd K mg base 1 a.f_with_more fd ["state", "side", "amount"] sf_more :=
  have sc := sc_with_more
  fn_data Fu sc bd (fun ds w Q E ⟨_, _, _, e, _⟩ => by subst e; rfl) sf_more_mono fun cdv A outer s H E en hr => ⟨_, (dscons (dsasg (dvar 0) (pg_tup rfl (pgs_cons (pg_name (i := 3) sc.nd rfl (Or.inl rfl)) (pgs_cons (pg_name (i := 4) sc.nd rfl (Or.inl rfl)) (pgs_cons (pg_name (i := 5) sc.nd rfl (Or.inl rfl)) (pgs_cons (pg_name (i := 6) sc.nd rfl (Or.inl rfl)) (pgs_cons (pg_name (i := 7) sc.nd rfl (Or.inl rfl)) pgs_nil)))))) (grel_tup (gsrel_cons (grel_name 3) (gsrel_cons (grel_name 4) (gsrel_cons (grel_name 5) (gsrel_cons (grel_name 6) (gsrel_cons (grel_name 7) gsrel_nil))))))) (dscons (dsif (dtcmp (o_eq hr) (dvar 1).u (DE.u dstr) (nomark _)) (dsone (dsret (dtup (dacons (dvar 3) (dacons (dvar 4) (dacons (dop o_add (dvar 5).u (dvar 2).u) (dacons (dvar 6) (dacons (dvar 7) danil)))))))) dsnil) (dsone (dsret (dtup (dacons (dvar 3) (dacons (dvar 4) (dacons (dvar 5) (dacons (dop o_add (dvar 6).u (dvar 2).u) (dacons (dvar 7) danil)))))))))),
    fun ds w Q Ed h => by
      obtain ⟨s, l, c, e, q⟩ := h
      subst e
      walk_at "m"
      walk_at "a"
      obtain ⟨lane, num, lf, rt, ls⟩ := s
      refine ⟨_, rfl, rfl, _, _, rfl, _, _, rfl, _, _, rfl, _, _, rfl, _, _, rfl, rfl, ?_⟩
      cases l
      · exact ifN sd_right ⟨(by decide : 5 ≤ LB), q⟩
      · exact ifY sd_left ⟨(by decide : 5 ≤ LB), q⟩
⟩
theorem sc_share_of : FnScope ["state", "side"] ["state", "side"] (defScope s_share_of) := ⟨rfl, rfl, rfl, by decide +kernel, rfl, by decide +kernel, by decide +kernel⟩
theorem ok_share_of {fd : FuncData} (T : Tx K mg a) (Fu : Fun K "share_of" "share_of" s_share_of a.f_share_of fd) (bd : Binds K fd ["state", "side"] []) :
    FnD (GB bagA K) P wd K mg base 1 a.f_share_of fd ["state", "side"] sf_share :=
  have sc := sc_share_of
  fn_data Fu sc bd (fun ds w Q E ⟨_, _, e, _⟩ => by subst e; rfl) sf_share_mono fun cdv A outer s H E en hr => ⟨_, (dsone (dsret (dif (dtcmp (o_eq hr) (dvar 1).u (DE.u dstr) (nomark _)) (dix o_ix (dvar 0).u (DE.u dint)) (dix o_ix (dvar 0).u (DE.u dint))))),
    fun ds w Q Ed h => by
      obtain ⟨s, l, e, q⟩ := h
      subst e
      walk_at "m"
      cases l
      · exact ifN sd_right q
      · exact ifY sd_left q
⟩
theorem sc_with_less : FnScope ["state", "side", "amount"] ["state", "side", "amount"] (defScope s_with_less) := ⟨rfl, rfl, rfl, by decide +kernel, rfl, by decide +kernel, by decide +kernel⟩
theorem ok_with_less {fd : FuncData} (T : Tx K mg a) (Fu : Fun K "with_less" "with_less" s_with_less a.f_with_less fd) (bd : Binds K fd ["state", "side", "amount"] []) {fd_with_more : FuncData} (G_with_more : FnD (GB bagA K) P wd K mg base 1 a.f_with_more fd_with_more ["state", "side", "amount"] sf_more) {fd_share_of : FuncData} (G_share_of : FnD (GB bagA K) P wd K mg base 1 a.f_share_of fd_share_of ["state", "side"] sf_share) :
    FnD (GB bagA K) P wd K mg base 2 a.f_with_less fd ["state", "side", "amount"] (sf_less a.c_NoStep) :=
  have sc := sc_with_less
  fn_data Fu sc bd (fun ds w Q E ⟨_, _, _, e, _⟩ => by subst e; rfl) (sf_less_mono _) fun cdv A outer s H E en hr => ⟨_, (dscons (dsif (dtcmp o_lt (dcall G_share_of (hr.mono (by decide)) (takes_of rfl rfl rfl rfl) T.f_share_of (by rfl) (dacons (dvar 0) (dacons (dvar 1) danil))).u (dvar 2).u (nomark _)) (dsone (dsraise rfl (takes_of rfl rfl rfl rfl) (pmk_own PySem.F.excBase_ValueError T.x_NoStep T.c_NoStep T.k_NoStep (raises_own T.b_NoStep T.t_NoStep) (by exact rfl)))) dsnil) (dsone (dsret (dcall G_with_more (hr.mono (by decide)) (takes_of rfl rfl rfl rfl) T.f_with_more (by rfl) (dacons (dvar 0) (dacons (dvar 1) (dacons (dun o_neg (dvar 2).u) danil))))))),
    fun ds w Q Ed h => by
      obtain ⟨s, l, c, e, q1, q2⟩ := h
      subst e
      walk_at "m"
      refine ⟨s, l, rfl, _, rfl, ?_⟩
      by_cases h : s.share l < c
      · exact ifY (decide_eq_true h) (q1 h)
      · exact ifN (decide_eq_false h) ⟨s, l, _, rfl, q2 h⟩
⟩
theorem sc_with_lock : FnScope ["state", "parts", "giver", "amount", "seal", "last", "lane", "number", "left", "right", "locks"] ["state", "parts"] (defScope s_with_lock) := ⟨rfl, rfl, rfl, by decide +kernel, rfl, by decide +kernel, by decide +kernel⟩
theorem ok_with_lock {fd : FuncData} (T : Tx K mg a) (Fu : Fun K "with_lock" "with_lock" s_with_lock a.f_with_lock fd) (bd : Binds K fd ["state", "parts"] []) {fd_with_less : FuncData} (G_with_less : FnD (GB bagA K) P wd K mg base 2 a.f_with_less fd_with_less ["state", "side", "amount"] (sf_less a.c_NoStep)) :
    FnD (GB bagA K) P wd K mg base 3 a.f_with_lock fd ["state", "parts"] (sf_with_lock a.c_NoStep) :=
  have sc := sc_with_lock
  fn_data Fu sc bd (fun ds w Q E ⟨_, _, _, _, _, e, _⟩ => by subst e; rfl) (sf_with_lock_mono _) fun cdv A outer s H E en hr => ⟨_, (dscons (dsasg (dvar 1) (pg_tup rfl (pgs_cons (pg_name (i := 2) sc.nd rfl (Or.inl rfl)) (pgs_cons (pg_name (i := 3) sc.nd rfl (Or.inl rfl)) (pgs_cons (pg_name (i := 4) sc.nd rfl (Or.inl rfl)) (pgs_cons (pg_name (i := 5) sc.nd rfl (Or.inl rfl)) pgs_nil))))) (grel_tup (gsrel_cons (grel_name 2) (gsrel_cons (grel_name 3) (gsrel_cons (grel_name 4) (gsrel_cons (grel_name 5) gsrel_nil)))))) (dscons (dsasg (dcall G_with_less (hr.mono (by decide)) (takes_of rfl rfl rfl rfl) T.f_with_less (by rfl) (dacons (dvar 0) (dacons (dvar 2) (dacons (dvar 3) danil)))) (pg_tup rfl (pgs_cons (pg_name (i := 6) sc.nd rfl (Or.inl rfl)) (pgs_cons (pg_name (i := 7) sc.nd rfl (Or.inl rfl)) (pgs_cons (pg_name (i := 8) sc.nd rfl (Or.inl rfl)) (pgs_cons (pg_name (i := 9) sc.nd rfl (Or.inl rfl)) (pgs_cons (pg_name (i := 10) sc.nd rfl (Or.inl rfl)) pgs_nil)))))) (grel_tup (gsrel_cons (grel_name 6) (gsrel_cons (grel_name 7) (gsrel_cons (grel_name 8) (gsrel_cons (grel_name 9) (gsrel_cons (grel_name 10) gsrel_nil))))))) (dscons (dsif (dtcmp o_ge (dcallB o_len T.n_len (by decide +kernel) (by rfl) (daucons (dvar 10).u daunil)).u (dglobI (by rfl) T.g_MOST_LOCKS).u (nomark _)) (dsone (dsraise rfl (takes_of rfl rfl rfl rfl) (pmk_own PySem.F.excBase_ValueError T.x_NoStep T.c_NoStep T.k_NoStep (raises_own T.b_NoStep T.t_NoStep) (by exact rfl)))) dsnil) (dsone (dsret (dtup (dacons (dvar 6) (dacons (dvar 7) (dacons (dvar 8) (dacons (dvar 9) (dacons (dtup (dastar (dvar 10) (dacons (dtup (dacons (dop o_add (dvar 7).u (DE.u dint)) (dacons (dvar 2) (dacons (dvar 3) (dacons (dvar 4) (dacons (dvar 5) danil)))))) danil))) danil))))))))))),
    fun ds w Q Ed h => by
      obtain ⟨s, l, c, se, t, e, hl, q⟩ := h
      subst e
      walk_at "m"
      walk_at "a"
      refine ⟨rfl, _, _, ⟨rfl, rfl⟩, _, _, rfl, _, _, rfl, _, _, rfl, rfl, ?_⟩
      refine ⟨s, l, c, rfl, fun h => ?_, fun h => ?_⟩
      · rw [show s.changed (.lock l c se t) = none from if_pos h] at q
        exact q
      · obtain ⟨lane, num, lf, rt, ls⟩ := s
        have q0 := q
        rw [show (Ste.mk lane num lf rt ls).changed (.lock l c se t) = (if 30 ≤ ls.length then none else some { (Ste.mk lane num lf rt ls).more l (-c) with ls := ls ++ [⟨num + 1, l, c, se, t⟩] }) from if_neg h] at q
        have e1 : ((Ste.mk lane num lf rt ls).more l (-c)).ls = ls := by cases l <;> rfl
        have e2 : ((Ste.mk lane num lf rt ls).more l (-c)).num = num := by cases l <;> rfl
        refine ⟨_, rfl, rfl, _, _, rfl, _, _, rfl, _, _, rfl, _, _, rfl, _, _, rfl, rfl, ?_⟩
        refine ⟨_, _, rfl, rfl, ?_⟩
        rw [e1, e2, List.length_map]
        by_cases h2 : 30 ≤ ls.length
        · rw [if_pos h2] at q
          exact ⟨true, congrArg D.bl (decide_eq_true (by omega)), q⟩
        · rw [if_neg h2] at q
          refine ⟨false, congrArg D.bl (decide_eq_false (by omega)), _, rfl, (by decide : 5 ≤ LB), ?_, (by decide : 5 ≤ LB), ?_⟩
          · rw [List.length_append, List.length_map]
            exact Nat.le_trans (show ls.length + 1 ≤ 30 by omega) (by decide)
          · have q' : Q (.tup [.int ((Ste.mk lane num lf rt ls).more l (-c)).lane, .int ((Ste.mk lane num lf rt ls).more l (-c)).num, .int ((Ste.mk lane num lf rt ls).more l (-c)).lf, .int ((Ste.mk lane num lf rt ls).more l (-c)).rt, .tup ((ls ++ [Lk.mk (num + 1) l c se t]).map lkD)]) w := q
            rw [List.map_append, e2] at q'
            exact q'
⟩
theorem sc_without_lock : FnScope ["state", "lock", "lane", "number", "left", "right", "locks", "other"] ["state", "lock"] (defScope s_without_lock) := ⟨rfl, rfl, rfl, by decide +kernel, rfl, by decide +kernel, by decide +kernel⟩
theorem ok_without_lock {fd : FuncData} (T : Tx K mg a) (Fu : Fun K "without_lock" "without_lock" s_without_lock a.f_without_lock fd) (bd : Binds K fd ["state", "lock"] []) :
    FnD (GB bagA K) P wd K mg base 1 a.f_without_lock fd ["state", "lock"] sf_without :=
  have sc := sc_without_lock
  fn_data Fu sc bd (fun ds w Q E ⟨_, _, e, _⟩ => by subst e; rfl) sf_without_mono fun cdv A outer s H E en hr => ⟨_, (dscons (dsasg (dvar 0) (pg_tup rfl (pgs_cons (pg_name (i := 2) sc.nd rfl (Or.inl rfl)) (pgs_cons (pg_name (i := 3) sc.nd rfl (Or.inl rfl)) (pgs_cons (pg_name (i := 4) sc.nd rfl (Or.inl rfl)) (pgs_cons (pg_name (i := 5) sc.nd rfl (Or.inl rfl)) (pgs_cons (pg_name (i := 6) sc.nd rfl (Or.inl rfl)) pgs_nil)))))) (grel_tup (gsrel_cons (grel_name 2) (gsrel_cons (grel_name 3) (gsrel_cons (grel_name 4) (gsrel_cons (grel_name 5) (gsrel_cons (grel_name 6) gsrel_nil))))))) (dsone (dsret (dtup (dacons (dvar 2) (dacons (dvar 3) (dacons (dvar 4) (dacons (dvar 5) (dacons (dcallTy o_tuple T.n_tuple (by decide +kernel) (by rfl) (daucons (dcomp' (own := [("other", 7)]) rfl sc.nd (ditup (dvar 6)) (blkOk_by (own := [("other", 7)]) (N := ["state", "lock", "lane", "number", "left", "right", "locks", "other"]) (sc := defScope s_without_lock) (by decide +kernel)) (grel_name 7) (gwipe_name 7) (fun _ _ _ _ _ => (pg_name (i := 7) sc.nd rfl (Or.inl rfl))) (fun _ _ _ _ _ => (dtsone (dtcmp (o_ne hr) (dvar 7).u (dvar 1).u (nomark _)))) (fun _ _ _ _ _ => (dvar 7))).u daunil)) danil))))))))),
    fun ds w Q Ed h => by
      obtain ⟨s, k, e, hl, q⟩ := h
      subst e
      walk_at "m"
      walk_at "a"
      obtain ⟨lane, num, lf, rt, ls⟩ := s
      refine ⟨_, rfl, rfl, _, _, rfl, _, _, rfl, _, _, rfl, _, _, rfl, _, _, rfl, rfl, ?_⟩
      walk_at "u"
      refine ⟨(by rw [List.length_map]; exact Nat.le_trans hl (by decide)), ?_⟩
      refine compL_filter (fun d => !eqD d (lkD k)) id _ _ (fun d hd Q' q2 => ?_) (fun d hd _ Q' q2 => ?_) ?_
      · walk_at "m"
        obtain ⟨o, ho, rfl⟩ := List.mem_map.mp hd
        exact ⟨rfl, rfl, q2⟩
      · walk_at "m"
        exact q2
      rw [List.nil_append, List.map_id, filter_lk]
      exact ⟨(by decide : 5 ≤ LB), q⟩
⟩
theorem sc_lock_of : FnScope ["state", "number", "lock"] ["state", "number"] (defScope s_lock_of) := ⟨rfl, rfl, rfl, by decide +kernel, rfl, by decide +kernel, by decide +kernel⟩
theorem ok_lock_of {fd : FuncData} (T : Tx K mg a) (Fu : Fun K "lock_of" "lock_of" s_lock_of a.f_lock_of fd) (bd : Binds K fd ["state", "number"] []) :
    FnD (GB bagA K) P wd K mg base 1 a.f_lock_of fd ["state", "number"] (sf_lock_of a.c_NoStep) :=
  have sc := sc_lock_of
  fn_data Fu sc bd (fun ds w Q E ⟨_, _, e, _⟩ => by subst e; rfl) (sf_lock_of_mono _) fun cdv A outer s H E en hr => ⟨_, (dscons (dsforT (passes_of rfl) (dix o_ix (dvar 0).u (DE.u dint)) (pg_name (i := 2) sc.nd rfl (Or.inl rfl)) (grel_name 2) (dsone (dsif (dtcmp (o_eq hr) (dix o_ix (dvar 2).u (DE.u dint)).u (dvar 1).u (nomark _)) (dsone (dsret (dvar 2))) dsnil))) (dsone (dsraise rfl (takes_of rfl rfl rfl rfl) (pmk_own PySem.F.excBase_ValueError T.x_NoStep T.c_NoStep T.k_NoStep (raises_own T.b_NoStep T.t_NoStep) (by exact rfl))))),
    fun ds w Q Ed h => by
      obtain ⟨s, i, e, q⟩ := h
      subst e
      walk_at "m"
      walk_at "u"
      obtain ⟨lane, num, lf, rt, ls⟩ := s
      refine loopS_go (fun pre ds ρ w' => w' = w ∧ ∃ r : List Lk, ds = r.map lkD ∧ r.find? (fun k => decide (k.id = i)) = ls.find? (fun k => decide (k.id = i)) ∧ ∃ x3, ρ = [some (Ent.val (stD ⟨lane, num, lf, rt, ls⟩)), some (Ent.val (D.int i)), x3]) ?_ ?_ _ [] _ _ ⟨rfl, ls, rfl, rfl, _, rfl⟩
      · rintro e pre ds ρ w' R B ⟨rfl, r, hr, hf, x3, rfl⟩ go -
        cases r with
        | nil => cases hr
        | cons k r =>
          obtain ⟨rfl, rfl⟩ := List.cons.inj hr
          walk_at "m"
          by_cases h : k.id = i
          · refine ifY (decide_eq_true h) ?_
            have q' := q
            rw [show (Ste.mk lane num lf rt ls).lockOf i = some k from by show ls.find? _ = _; rw [← hf, List.find?_cons_of_pos (p := fun k : Lk => decide (k.id = i)) (decide_eq_true h)]] at q'
            exact q'
          · refine ifN (decide_eq_false h) ?_
            rw [List.find?_cons_of_neg (p := fun k : Lk => decide (k.id = i)) (fun z => h (of_decide_eq_true z))] at hf
            exact go _ _ ⟨rfl, r, rfl, hf, _, rfl⟩
      · rintro pre ρ w' ⟨rfl, r, hr, hf, x3, rfl⟩
        cases r with
        | cons k r => cases hr
        | nil =>
          have q' := q
          rw [show (Ste.mk lane num lf rt ls).lockOf i = none from by show ls.find? _ = _; rw [← hf]; rfl] at q'
          exact q'
⟩
theorem sc_changed : FnScope ["state", "step", "word", "lock", "_", "giver", "amount", "number", "secret"] ["state", "step"] (defScope s_changed) := ⟨rfl, rfl, rfl, by decide +kernel, rfl, by decide +kernel, by decide +kernel⟩
theorem ok_changed {fd : FuncData} (T : Tx K mg a) (Fu : Fun K "changed" "changed" s_changed a.f_changed fd) (bd : Binds K fd ["state", "step"] []) {fd_seal_of : FuncData} (G_seal_of : FnD (GB bagA K) P wd K mg base 2 a.f_seal_of fd_seal_of ["secret"] (sf_seal_of a.c_NoSecret)) {fd_other_side : FuncData} (G_other_side : FnD (GB bagA K) P wd K mg base 1 a.f_other_side fd_other_side ["side"] sf_other) {fd_with_more : FuncData} (G_with_more : FnD (GB bagA K) P wd K mg base 1 a.f_with_more fd_with_more ["state", "side", "amount"] sf_more) {fd_with_less : FuncData} (G_with_less : FnD (GB bagA K) P wd K mg base 2 a.f_with_less fd_with_less ["state", "side", "amount"] (sf_less a.c_NoStep)) {fd_with_lock : FuncData} (G_with_lock : FnD (GB bagA K) P wd K mg base 3 a.f_with_lock fd_with_lock ["state", "parts"] (sf_with_lock a.c_NoStep)) {fd_without_lock : FuncData} (G_without_lock : FnD (GB bagA K) P wd K mg base 1 a.f_without_lock fd_without_lock ["state", "lock"] sf_without) {fd_lock_of : FuncData} (G_lock_of : FnD (GB bagA K) P wd K mg base 1 a.f_lock_of fd_lock_of ["state", "number"] (sf_lock_of a.c_NoStep)) :
    FnD (GB bagA K) P wd K mg base 4 a.f_changed fd ["state", "step"] (sf_changed a.c_NoStep) :=
  have sc := sc_changed
  fn_data Fu sc bd (fun ds w Q E ⟨_, _, e, _⟩ => by subst e; rfl) (sf_changed_mono _) fun cdv A outer s H E en hr => ⟨_, (dscons (dsset 2 sc.nd (dix o_ix (dvar 1).u (DE.u dint))) (dscons (dsif (dtcmp (o_eq hr) (dvar 2).u (DE.u dstr) (nomark _)) (dscons (dsasg (dvar 1) (pg_tup rfl (pgs_cons (pg_name (i := 4) sc.nd rfl (Or.inl rfl)) (pgs_cons (pg_name (i := 5) sc.nd rfl (Or.inl rfl)) (pgs_cons (pg_name (i := 6) sc.nd rfl (Or.inl rfl)) pgs_nil)))) (grel_tup (gsrel_cons (grel_name 4) (gsrel_cons (grel_name 5) (gsrel_cons (grel_name 6) gsrel_nil))))) (dsone (dsret (dcall G_with_more (hr.mono (by decide)) (takes_of rfl rfl rfl rfl) T.f_with_more (by rfl) (dacons (dcall G_with_less (hr.mono (by decide)) (takes_of rfl rfl rfl rfl) T.f_with_less (by rfl) (dacons (dvar 0) (dacons (dvar 5) (dacons (dvar 6) danil)))) (dacons (dcall G_other_side (hr.mono (by decide)) (takes_of rfl rfl rfl rfl) T.f_other_side (by rfl) (dacons (dvar 5) danil)) (dacons (dvar 6) danil))))))) dsnil) (dscons (dsif (dtcmp (o_eq hr) (dvar 2).u (DE.u dstr) (nomark _)) (dsone (dsret (dcall G_with_lock (hr.mono (by decide)) (takes_of rfl rfl rfl rfl) T.f_with_lock (by rfl) (dacons (dvar 0) (dacons (dsl o_sl (dvar 1).u (dosome dint) donone) danil))))) dsnil) (dscons (dsif (dtcmp (o_eq hr) (dvar 2).u (DE.u dstr) (nomark _)) (dscons (dsasg (dvar 1) (pg_tup rfl (pgs_cons (pg_name (i := 4) sc.nd rfl (Or.inl rfl)) (pgs_cons (pg_name (i := 7) sc.nd rfl (Or.inl rfl)) (pgs_cons (pg_name (i := 8) sc.nd rfl (Or.inl rfl)) pgs_nil)))) (grel_tup (gsrel_cons (grel_name 4) (gsrel_cons (grel_name 7) (gsrel_cons (grel_name 8) gsrel_nil))))) (dscons (dsset 3 sc.nd (dcall G_lock_of (hr.mono (by decide)) (takes_of rfl rfl rfl rfl) T.f_lock_of (by rfl) (dacons (dvar 0) (dacons (dvar 7) danil)))) (dscons (dsif (dtcmp (o_ne hr) (dcall G_seal_of (hr.mono (by decide)) (takes_of rfl rfl rfl rfl) T.f_seal_of (by rfl) (dacons (dvar 8) danil)).u (dix o_ix (dvar 3).u (DE.u dint)).u (nomark _)) (dsone (dsraise rfl (takes_of rfl rfl rfl rfl) (pmk_own PySem.F.excBase_ValueError T.x_NoStep T.c_NoStep T.k_NoStep (raises_own T.b_NoStep T.t_NoStep) (by exact rfl)))) dsnil) (dsone (dsret (dcall G_with_more (hr.mono (by decide)) (takes_of rfl rfl rfl rfl) T.f_with_more (by rfl) (dacons (dcall G_without_lock (hr.mono (by decide)) (takes_of rfl rfl rfl rfl) T.f_without_lock (by rfl) (dacons (dvar 0) (dacons (dvar 3) danil))) (dacons (dcall G_other_side (hr.mono (by decide)) (takes_of rfl rfl rfl rfl) T.f_other_side (by rfl) (dacons (dix o_ix (dvar 3).u (DE.u dint)) danil)) (dacons (dix o_ix (dvar 3).u (DE.u dint)) danil))))))))) dsnil) (dscons (dsif (dtcmp (o_eq hr) (dvar 2).u (DE.u dstr) (nomark _)) (dscons (dsset 3 sc.nd (dcall G_lock_of (hr.mono (by decide)) (takes_of rfl rfl rfl rfl) T.f_lock_of (by rfl) (dacons (dvar 0) (dacons (dix o_ix (dvar 1).u (DE.u dint)) danil)))) (dsone (dsret (dcall G_with_more (hr.mono (by decide)) (takes_of rfl rfl rfl rfl) T.f_with_more (by rfl) (dacons (dcall G_without_lock (hr.mono (by decide)) (takes_of rfl rfl rfl rfl) T.f_without_lock (by rfl) (dacons (dvar 0) (dacons (dvar 3) danil))) (dacons (dix o_ix (dvar 3).u (DE.u dint)) (dacons (dix o_ix (dvar 3).u (DE.u dint)) danil))))))) dsnil) (dsone (dsret (dvar 0)))))))),
    fun ds w Q Ed h => by
      obtain ⟨s, p, e, hl, hp, q⟩ := h
      subst e
      walk_at "m"
      cases p with
      | pay l c =>
        simp only [mvD]
        walk_at "m"
        walk_at "a"
        refine ⟨rfl, _, _, ⟨rfl, rfl⟩, _, _, rfl, _, _, rfl, rfl, s, l, c, rfl, fun h => ?_, fun h => ?_⟩
        · rw [show s.changed (.pay l c) = none from if_pos h] at q
          exact q
        · rw [show s.changed (.pay l c) = some ((s.more l (-c)).more (!l) c) from if_neg h] at q
          exact ⟨l, rfl, _, _, _, rfl, q⟩
      | lock l c se t =>
        simp only [mvD]
        walk_at "m"
        exact ⟨s, l, c, se, t, rfl, hl, q⟩
      | fold i x =>
        simp only [mvD]
        walk_at "m"
        walk_at "a"
        refine ⟨rfl, _, _, ⟨rfl, rfl⟩, _, _, rfl, _, _, rfl, rfl, s, i, rfl, ?_⟩
        cases hk : s.lockOf i with
        | none =>
          rw [show s.changed (.fold i x) = none from by simp only [Ste.changed, hk]] at q
          exact q
        | some k =>
          rw [show s.changed (.fold i x) = if sealI x = k.sl then some ((s.without k).more (!k.left) k.am) else none from by simp only [Ste.changed, hk]] at q
          refine ⟨.int x, rfl, rfl, fun y e h0 => ?_, fun z => absurd (show isWhole 0 (.int x) = true from decide_eq_true hp.2.1) (by rw [z]; decide)⟩
          cases e
          refine ⟨hp.2.2, ?_⟩
          obtain ⟨ki, kl, ka, ks, kt⟩ := k
          refine ⟨_, rfl, rfl, rfl, ?_⟩
          by_cases h : sealI x = ks
          · rw [if_pos h] at q
            refine ifN ?_ ⟨s, _, rfl, hl, _, rfl, kl, rfl, _, rfl, _, _, _, rfl, q⟩
            show (!(sealI x == ks)) = false
            rw [h, beq_self_eq_true]; rfl
          · rw [if_neg h] at q
            refine ifY ?_ q
            show (!(sealI x == ks)) = true
            rw [beq_false_of_ne h]; rfl
      | drop i =>
        simp only [mvD]
        walk_at "m"
        refine ⟨s, i, rfl, ?_⟩
        cases hk : s.lockOf i with
        | none =>
          rw [show s.changed (.drop i) = none from by simp only [Ste.changed, hk]] at q
          exact q
        | some k =>
          rw [show s.changed (.drop i) = some ((s.without k).more k.left k.am) from by simp only [Ste.changed, hk]] at q
          obtain ⟨ki, kl, ka, ks, kt⟩ := k
          exact ⟨s, _, rfl, hl, _, rfl, _, rfl, _, _, _, rfl, q⟩
      | pass =>
        simp only [mvD]
        walk_at "m"
        exact q
⟩
theorem sc_next_state : FnScope ["state", "step", "lane", "number", "left", "right", "locks"] ["state", "step"] (defScope s_next_state) := ⟨rfl, rfl, rfl, by decide +kernel, rfl, by decide +kernel, by decide +kernel⟩
theorem ok_next_state {fd : FuncData} (T : Tx K mg a) (Fu : Fun K "next_state" "next_state" s_next_state a.f_next_state fd) (bd : Binds K fd ["state", "step"] []) {fd_is_step : FuncData} (G_is_step : FnD (GB bagA K) P wd K mg base 4 a.f_is_step fd_is_step ["thing"] sf_is_step) {fd_check_state : FuncData} (G_check_state : FnD (GB bagA K) P wd K mg base 6 a.f_check_state fd_check_state ["thing"] (sf_check_state a.c_NoState)) {fd_changed : FuncData} (G_changed : FnD (GB bagA K) P wd K mg base 4 a.f_changed fd_changed ["state", "step"] (sf_changed a.c_NoStep)) :
    FnD (GB bagA K) P wd K mg base 7 a.f_next_state fd ["state", "step"] (sf_next a.c_NoState a.c_NoStep) :=
  have sc := sc_next_state
  fn_data Fu sc bd (fun ds w Q E ⟨_, _, e, _⟩ => by subst e; rfl) (sf_next_mono _ _) fun cdv A outer s H E en hr => ⟨_, (dscons (dsexpr (dcall G_check_state (hr.mono (by decide)) (takes_of rfl rfl rfl rfl) T.f_check_state (by rfl) (dacons (dvar 0) danil))) (dscons (dsif (dtnot (dtval (dcall G_is_step (hr.mono (by decide)) (takes_of rfl rfl rfl rfl) T.f_is_step (by rfl) (dacons (dvar 1) danil)))) (dsone (dsraise rfl (takes_of rfl rfl rfl rfl) (pmk_own PySem.F.excBase_ValueError T.x_NoStep T.c_NoStep T.k_NoStep (raises_own T.b_NoStep T.t_NoStep) (by exact rfl)))) dsnil) (dscons (dsasg (dcall G_changed (hr.mono (by decide)) (takes_of rfl rfl rfl rfl) T.f_changed (by rfl) (dacons (dvar 0) (dacons (dvar 1) danil))) (pg_tup rfl (pgs_cons (pg_name (i := 2) sc.nd rfl (Or.inl rfl)) (pgs_cons (pg_name (i := 3) sc.nd rfl (Or.inl rfl)) (pgs_cons (pg_name (i := 4) sc.nd rfl (Or.inl rfl)) (pgs_cons (pg_name (i := 5) sc.nd rfl (Or.inl rfl)) (pgs_cons (pg_name (i := 6) sc.nd rfl (Or.inl rfl)) pgs_nil)))))) (grel_tup (gsrel_cons (grel_name 2) (gsrel_cons (grel_name 3) (gsrel_cons (grel_name 4) (gsrel_cons (grel_name 5) (gsrel_cons (grel_name 6) gsrel_nil))))))) (dsone (dsret (dtup (dacons (dvar 2) (dacons (dop o_add (dvar 3).u (DE.u dint)) (dacons (dvar 4) (dacons (dvar 5) (dacons (dvar 6) danil))))))))))),
    fun ds w Q Ed h => by
      obtain ⟨d, e2, e, pd, pe, tl, q1, q2, hx, q⟩ := h
      subst e
      walk_at "m"
      refine ⟨d, rfl, pd, fun h => ?_, q1⟩
      refine ⟨e2, rfl, pe, tl, _, rfl, ?_⟩
      cases h2 : isStep e2 with
      | false => exact ifY rfl (q2 h h2)
      | true =>
        refine ifN rfl ?_
        obtain ⟨s, rfl, ok⟩ := st_of h
        obtain ⟨p, rfl, okp⟩ := mv_of h2 hx
        have q' := q s p rfl ok rfl okp
        walk_at "a"
        refine ⟨s, p, rfl, Nat.le_trans ok.few (by decide), okp, ?_⟩
        unfold Ste.next at q'
        cases hc : s.changed p with
        | none => rw [hc] at q'; exact q'
        | some t =>
          rw [hc] at q'
          obtain ⟨lane, num, lf, rt, ls⟩ := t
          refine ⟨_, rfl, rfl, _, _, rfl, _, _, rfl, _, _, rfl, _, _, rfl, _, _, rfl, rfl, ?_⟩
          exact ⟨(by decide : 5 ≤ LB), q'⟩
⟩
theorem sc_is_hop : FnScope ["thing", "lane", "amount", "last"] ["thing"] (defScope s_is_hop) := ⟨rfl, rfl, rfl, by decide +kernel, rfl, by decide +kernel, by decide +kernel⟩
theorem ok_is_hop {fd : FuncData} (T : Tx K mg a) (Fu : Fun K "is_hop" "is_hop" s_is_hop a.f_is_hop fd) (bd : Binds K fd ["thing"] []) {fd_is_whole : FuncData} (G_is_whole : FnD (GB bagA K) P wd K mg base 1 a.f_is_whole fd_is_whole ["thing"] sf_is_whole) {fd_is_positive : FuncData} (G_is_positive : FnD (GB bagA K) P wd K mg base 2 a.f_is_positive fd_is_positive ["thing"] sf_is_positive) :
    FnD (GB bagA K) P wd K mg base 3 a.f_is_hop fd ["thing"] (sfP isHop) :=
  have sc := sc_is_hop
  fn_data Fu sc bd (fun ds w Q E ⟨d, e, _⟩ => by subst e; rfl) (sfP_mono _) fun cdv A outer s H E en hr => ⟨_, (dscons (dsif (dwor (dtnot (dtval (dcallB o_isi T.n_isinstance (by decide +kernel) (by rfl) (daucons (dvar 0).u (daucons (dty (n := "tuple") (by rfl) T.n_tuple (by decide +kernel)).u daunil))))) (dwor1 (dtcmp (o_ne hr) (dcallB o_len T.n_len (by decide +kernel) (by rfl) (daucons (dvar 0).u daunil)).u (DE.u dint) (nomark _)))).t (dsone (dsret dbl)) dsnil) (dscons (dsasg (dvar 0) (pg_tup rfl (pgs_cons (pg_name (i := 1) sc.nd rfl (Or.inl rfl)) (pgs_cons (pg_name (i := 2) sc.nd rfl (Or.inl rfl)) (pgs_cons (pg_name (i := 3) sc.nd rfl (Or.inl rfl)) pgs_nil)))) (grel_tup (gsrel_cons (grel_name 1) (gsrel_cons (grel_name 2) (gsrel_cons (grel_name 3) gsrel_nil))))) (dsone (dsret (dand (dcall G_is_whole (hr.mono (by decide)) (takes_of rfl rfl rfl rfl) T.f_is_whole (by rfl) (dacons (dvar 1) danil)) (dand (dcall G_is_positive (hr.mono (by decide)) (takes_of rfl rfl rfl rfl) T.f_is_positive (by rfl) (dacons (dvar 2) danil)) (done' (dcall G_is_whole (hr.mono (by decide)) (takes_of rfl rfl rfl rfl) T.f_is_whole (by rfl) (dacons (dvar 3) danil))))))))),
    fun ds w Q Ed h => by
      obtain ⟨d, e, hd, q⟩ := h
      subst e
      walk_at "m"
      cases d
      case hnd => cases hd
      case ty => cases hd
      case tup xs =>
        have hp := hd.tupI
        rcases xs with _ | ⟨l, _ | ⟨g, _ | ⟨t, _ | ⟨z, r⟩⟩⟩⟩
        case cons.cons.cons.nil =>
          have a1 := (hp l (by simp)).data
          have a2 := (hp g (by simp)).data
          have a3 := (hp t (by simp)).data
          have q' : Q (.bl (isWhole 0 l && isWhole 1 g && isWhole 0 t)) w := q
          walk_at "a"
          refine ⟨rfl, _, _, ⟨rfl, rfl⟩, _, _, rfl, _, _, rfl, rfl, ?_⟩
          refine ⟨l, rfl, a1, _, rfl, ?_⟩
          cases h1 : isWhole 0 l with
          | false => rw [h1] at q'; exact q'
          | true =>
            refine ⟨g, rfl, a2, _, rfl, ?_⟩
            cases h2 : isWhole 1 g with
            | false => rw [h1, h2] at q'; exact q'
            | true => exact ⟨t, rfl, a3, by rw [h1, h2] at q'; exact q'⟩
        case cons.cons.cons.cons =>
          walk_at "m"
          refine ifY ?_ q
          rw [show decide (((r.length + 1 + 1 + 1 + 1 : Nat) : Int) = 3) = false from decide_eq_false (by omega)]; rfl
        all_goals (walk_at "m"; exact q)
      all_goals (walk_at "m"; exact q)⟩
theorem sc_are_hops : FnScope ["thing", "hop"] ["thing"] (defScope s_are_hops) := ⟨rfl, rfl, rfl, by decide +kernel, rfl, by decide +kernel, by decide +kernel⟩
theorem ok_are_hops {fd : FuncData} (T : Tx K mg a) (Fu : Fun K "are_hops" "are_hops" s_are_hops a.f_are_hops fd) (bd : Binds K fd ["thing"] []) {fd_is_hop : FuncData} (G_is_hop : FnD (GB bagA K) P wd K mg base 3 a.f_is_hop fd_is_hop ["thing"] (sfP isHop)) :
    FnD (GB bagA K) P wd K mg base 4 a.f_are_hops fd ["thing"] (sfP areHops) :=
  have sc := sc_are_hops
  fn_data Fu sc bd (fun ds w Q E ⟨d, e, _⟩ => by subst e; rfl) (sfP_mono _) fun cdv A outer s H E en hr => ⟨_, (dscons (dsif (dwor (dtnot (dtval (dcallB o_isi T.n_isinstance (by decide +kernel) (by rfl) (daucons (dvar 0).u (daucons (dty (n := "tuple") (by rfl) T.n_tuple (by decide +kernel)).u daunil))))) (dwor1 (dtcmp o_gt (dcallB o_len T.n_len (by decide +kernel) (by rfl) (daucons (dvar 0).u daunil)).u (dglobI (by rfl) T.g_MOST_HOPS).u (nomark _)))).t (dsone (dsret dbl)) dsnil) (dsone (dsret (dcallB (o_all rfl) T.n_all (by decide +kernel) (by rfl) (daucons (dcomp' (own := [("hop", 1)]) rfl sc.nd (ditup (dvar 0)) (blkOk_by (own := [("hop", 1)]) (N := ["thing", "hop"]) (sc := defScope s_are_hops) (by decide +kernel)) (grel_name 1) (gwipe_name 1) (fun _ _ _ _ _ => (pg_name (i := 1) sc.nd rfl (Or.inl rfl))) (fun _ _ _ _ _ => dtsnil) (fun _ _ _ _ _ => (dcall G_is_hop (hr.mono (by decide)) takes0 T.f_is_hop (by rfl) (dacons (dvar 1) danil)))).u daunil))))),
    fun ds w Q Ed h => by
      obtain ⟨d, e, hd, q⟩ := h
      subst e
      walk_at "m"
      cases d
      case hnd => cases hd
      case ty => cases hd
      case tup xs =>
        have hp := hd.tupI
        have q' : Q (.bl (decide (xs.length ≤ 40) && xs.all isHop)) w := q
        walk_at "u"
        have lb : LB = 100000 := rfl
        by_cases h40 : 40 < (xs.length : Int)
        · rw [decide_eq_false (by omega : ¬ xs.length ≤ 40)] at q'
          exact ifY (decide_eq_true h40) q'
        rw [decide_eq_true (by omega : xs.length ≤ 40)] at q'
        refine ifN (decide_eq_false h40) ⟨by omega, ?_⟩
        refine compL_map (fun d => .bl (isHop d)) _ _ (fun d hd Q' q2 => ?_) ?_
        · walk_at "m"
          exact ⟨d, rfl, hp d hd, q2⟩
        refine ⟨xs.map isHop, by rw [List.nil_append, List.map_map]; rfl, ?_⟩
        rw [List.all_map]
        exact q'
      all_goals (walk_at "m"; exact q)⟩
theorem sc_begins_with : FnScope ["thing", "word", "many"] ["thing", "word", "many"] (defScope s_begins_with) := ⟨rfl, rfl, rfl, by decide +kernel, rfl, by decide +kernel, by decide +kernel⟩
theorem ok_begins_with {fd : FuncData} (T : Tx K mg a) (Fu : Fun K "begins_with" "begins_with" s_begins_with a.f_begins_with fd) (bd : Binds K fd ["thing", "word", "many"] []) {fd_is_whole : FuncData} (G_is_whole : FnD (GB bagA K) P wd K mg base 1 a.f_is_whole fd_is_whole ["thing"] sf_is_whole) :
    FnD (GB bagA K) P wd K mg base 2 a.f_begins_with fd ["thing", "word", "many"] sf_begins :=
  have sc := sc_begins_with
  fn_data Fu sc bd (fun ds w Q E ⟨d, x, k, e, _⟩ => by subst e; rfl) sf_begins_mono fun cdv A outer s H E en hr => ⟨_, (dscons (dsif (dwor (dtnot (dtval (dcallB o_isi T.n_isinstance (by decide +kernel) (by rfl) (daucons (dvar 0).u (daucons (dty (n := "tuple") (by rfl) T.n_tuple (by decide +kernel)).u daunil))))) (dwor1 (dtcmp (o_ne hr) (dcallB o_len T.n_len (by decide +kernel) (by rfl) (daucons (dvar 0).u daunil)).u (dvar 2).u (nomark _)))).t (dsone (dsret dbl)) dsnil) (dsone (dsret (dand (dcallB o_isi T.n_isinstance (by decide +kernel) (by rfl) (daucons (dix o_ix (dvar 0).u (DE.u dint)).u (daucons (dty (n := "str") (by rfl) T.n_str (by decide +kernel)).u daunil))) (dand (dcmp (o_eq hr) (dix o_ix (dvar 0).u (DE.u dint)).u (dvar 1).u (nomark _)) (done' (dcall G_is_whole (hr.mono (by decide)) (takes_of rfl rfl rfl rfl) T.f_is_whole (by rfl) (dacons (dix o_ix (dvar 0).u (DE.u dint)) danil)))))))),
    fun ds w Q Ed h => by
      obtain ⟨d, x, k, e, hk, hd, q⟩ := h
      subst e
      walk_at "m"
      cases d
      case hnd => cases hd
      case ty => cases hd
      case tup xs =>
        have hp := hd.tupI
        rcases xs with _ | ⟨y, _ | ⟨b, r⟩⟩
        · walk_at "m"
          exact ifY (by rw [decide_eq_false (by omega)]; rfl) q
        · walk_at "m"
          exact ifY (by rw [decide_eq_false (by omega)]; rfl) q
        have q' : Q (.bl (decide (r.length + 2 = k) && strIs x y && isWhole 0 b)) w := q
        have hb := (hp b (by simp)).data
        have hy := (hp y (by simp)).data
        walk_at "m"
        by_cases hkr : r.length + 2 = k
        · rw [decide_eq_true hkr, Bool.true_and] at q'
          refine ifN (by rw [decide_eq_true (by omega)]; rfl) ?_
          cases y
          case hnd => cases hy
          case ty => cases hy
          case str z =>
            refine ⟨rfl, ?_⟩
            walk_at "m"
            by_cases h1 : z = x
            · refine ifY (decide_eq_true h1) ⟨b, rfl, hb, ?_⟩
              rw [show strIs x (.str z) = true from decide_eq_true h1] at q'
              exact q'
            · rw [show strIs x (.str z) = false from decide_eq_false h1] at q'
              exact ifN (decide_eq_false h1) q'
          all_goals (refine ⟨rfl, ?_⟩; exact q')
        · rw [decide_eq_false hkr] at q'
          exact ifY (by rw [decide_eq_false (by omega)]; rfl) q'
      all_goals (walk_at "m"; exact q)⟩
theorem sc_is_next : FnScope ["thing"] ["thing"] (defScope s_is_next) := ⟨rfl, rfl, rfl, by decide +kernel, rfl, by decide +kernel, by decide +kernel⟩
theorem ok_is_next {fd : FuncData} (T : Tx K mg a) (Fu : Fun K "is_next" "is_next" s_is_next a.f_is_next fd) (bd : Binds K fd ["thing"] []) {fd_is_whole : FuncData} (G_is_whole : FnD (GB bagA K) P wd K mg base 1 a.f_is_whole fd_is_whole ["thing"] sf_is_whole) {fd_is_step : FuncData} (G_is_step : FnD (GB bagA K) P wd K mg base 4 a.f_is_step fd_is_step ["thing"] sf_is_step) {fd_are_hops : FuncData} (G_are_hops : FnD (GB bagA K) P wd K mg base 4 a.f_are_hops fd_are_hops ["thing"] (sfP areHops)) {fd_begins_with : FuncData} (G_begins_with : FnD (GB bagA K) P wd K mg base 2 a.f_begins_with fd_begins_with ["thing", "word", "many"] sf_begins) :
    FnD (GB bagA K) P wd K mg base 5 a.f_is_next fd ["thing"] (sfB isNextD) :=
  have sc := sc_is_next
  fn_data Fu sc bd (fun ds w Q E ⟨d, e, _⟩ => by subst e; rfl) (sfB_mono _) fun cdv A outer s H E en hr => ⟨_, (dsone (dsret (dand (dcall G_begins_with (hr.mono (by decide)) (takes_of rfl rfl rfl rfl) T.f_begins_with (by rfl) (dacons (dvar 0) (dacons dstr (dacons dint danil)))) (dand (dcall G_is_whole (hr.mono (by decide)) (takes_of rfl rfl rfl rfl) T.f_is_whole (by rfl) (dacons (dix o_ix (dvar 0).u (DE.u dint)) danil)) (dand (dcall G_is_step (hr.mono (by decide)) (takes_of rfl rfl rfl rfl) T.f_is_step (by rfl) (dacons (dix o_ix (dvar 0).u (DE.u dint)) danil)) (done' (dcall G_are_hops (hr.mono (by decide)) (takes_of rfl rfl rfl rfl) T.f_are_hops (by rfl) (dacons (dix o_ix (dvar 0).u (DE.u dint)) danil)))))))),
    fun ds w Q Ed h => by
      obtain ⟨d, e, hd, hl, q⟩ := h
      subst e
      walk_at "m"
      have q' : Q (.bl (isNextD d)) w := q
      unfold isNextD at q'
      refine ⟨d, _, 5, rfl, by decide, hd, _, rfl, ?_⟩
      cases hb : begins (Str.ofString "next") 5 d with
      | false => rw [hb] at q'; exact q'
      | true =>
        rw [hb, Bool.true_and] at q'
        obtain ⟨b, r, rfl, h2, h3⟩ := begins_parts hb
        rcases r with _ | ⟨n, _ | ⟨s, _ | ⟨hs, _ | ⟨z, r⟩⟩⟩⟩
        case cons.cons.cons.nil =>
          have hp := hd.tupI
          have q3 : Q (.bl (isWhole 0 n && isStep s && areHops hs)) w := q'
          refine ifY rfl ?_
          walk_at "m"
          refine ⟨n, rfl, (hp n (by simp)).data, _, rfl, ?_⟩
          cases g1 : isWhole 0 n with
          | false => rw [g1] at q3; exact q3
          | true =>
            refine ifY rfl ⟨s, rfl, hp s (by simp), hl _ rfl s (by simp), _, rfl, ?_⟩
            cases g2 : isStep s with
            | false => rw [g1, g2] at q3; exact q3
            | true =>
              rw [g1, g2] at q3
              exact ifY rfl ⟨hs, rfl, hp hs (by simp), q3⟩
        all_goals (simp only [List.length_cons, List.length_nil] at h2; omega)⟩
theorem sc_is_done : FnScope ["thing"] ["thing"] (defScope s_is_done) := ⟨rfl, rfl, rfl, by decide +kernel, rfl, by decide +kernel, by decide +kernel⟩
theorem ok_is_done {fd : FuncData} (T : Tx K mg a) (Fu : Fun K "is_done" "is_done" s_is_done a.f_is_done fd) (bd : Binds K fd ["thing"] []) {fd_is_whole : FuncData} (G_is_whole : FnD (GB bagA K) P wd K mg base 1 a.f_is_whole fd_is_whole ["thing"] sf_is_whole) {fd_begins_with : FuncData} (G_begins_with : FnD (GB bagA K) P wd K mg base 2 a.f_begins_with fd_begins_with ["thing", "word", "many"] sf_begins) :
    FnD (GB bagA K) P wd K mg base 3 a.f_is_done fd ["thing"] (sfP isDoneD) :=
  have sc := sc_is_done
  fn_data Fu sc bd (fun ds w Q E ⟨d, e, _⟩ => by subst e; rfl) (sfP_mono _) fun cdv A outer s H E en hr => ⟨_, (dsone (dsret (dand (dcall G_begins_with (hr.mono (by decide)) (takes_of rfl rfl rfl rfl) T.f_begins_with (by rfl) (dacons (dvar 0) (dacons dstr (dacons dint danil)))) (done' (dcall G_is_whole (hr.mono (by decide)) (takes_of rfl rfl rfl rfl) T.f_is_whole (by rfl) (dacons (dix o_ix (dvar 0).u (DE.u dint)) danil)))))),
    fun ds w Q Ed h => by
      obtain ⟨d, e, hd, q⟩ := h
      subst e
      walk_at "m"
      have q' : Q (.bl (isDoneD d)) w := q
      unfold isDoneD at q'
      refine ⟨d, _, 3, rfl, by decide, hd, _, rfl, ?_⟩
      cases hb : begins (Str.ofString "done") 3 d with
      | false => rw [hb] at q'; exact q'
      | true =>
        rw [hb, Bool.true_and] at q'
        obtain ⟨b, r, rfl, h2, h3⟩ := begins_parts hb
        rcases r with _ | ⟨n, _ | ⟨s, r⟩⟩
        case cons.nil =>
          have hp := hd.tupI
          have q3 : Q (.bl (isWhole 0 n)) w := q'
          refine ifY rfl ?_
          walk_at "m"
          exact ⟨n, rfl, (hp n (by simp)).data, q3⟩
        all_goals (simp only [List.length_cons, List.length_nil] at h2; omega)⟩
theorem sc_is_turn : FnScope ["thing"] ["thing"] (defScope s_is_turn) := ⟨rfl, rfl, rfl, by decide +kernel, rfl, by decide +kernel, by decide +kernel⟩
theorem ok_is_turn {fd : FuncData} (T : Tx K mg a) (Fu : Fun K "is_turn" "is_turn" s_is_turn a.f_is_turn fd) (bd : Binds K fd ["thing"] []) {fd_begins_with : FuncData} (G_begins_with : FnD (GB bagA K) P wd K mg base 2 a.f_begins_with fd_begins_with ["thing", "word", "many"] sf_begins) :
    FnD (GB bagA K) P wd K mg base 3 a.f_is_turn fd ["thing"] (sfP (begins (Str.ofString "turn") 2)) :=
  have sc := sc_is_turn
  fn_data Fu sc bd (fun ds w Q E ⟨d, e, _⟩ => by subst e; rfl) (sfP_mono _) fun cdv A outer s H E en hr => ⟨_, (dsone (dsret (dcall G_begins_with (hr.mono (by decide)) (takes_of rfl rfl rfl rfl) T.f_begins_with (by rfl) (dacons (dvar 0) (dacons dstr (dacons dint danil)))))),
    fun ds w Q Ed h => by
      obtain ⟨d, e, hd, q⟩ := h
      subst e
      walk_at "m"
      exact ⟨d, _, 2, rfl, by decide, hd, q⟩⟩
theorem sc_is_letter : FnScope ["thing"] ["thing"] (defScope s_is_letter) := ⟨rfl, rfl, rfl, by decide +kernel, rfl, by decide +kernel, by decide +kernel⟩
theorem ok_is_letter {fd : FuncData} (T : Tx K mg a) (Fu : Fun K "is_letter" "is_letter" s_is_letter a.f_is_letter fd) (bd : Binds K fd ["thing"] []) {fd_is_next : FuncData} (G_is_next : FnD (GB bagA K) P wd K mg base 5 a.f_is_next fd_is_next ["thing"] (sfB isNextD)) {fd_is_done : FuncData} (G_is_done : FnD (GB bagA K) P wd K mg base 3 a.f_is_done fd_is_done ["thing"] (sfP isDoneD)) {fd_is_turn : FuncData} (G_is_turn : FnD (GB bagA K) P wd K mg base 3 a.f_is_turn fd_is_turn ["thing"] (sfP (begins (Str.ofString "turn") 2))) :
    FnD (GB bagA K) P wd K mg base 6 a.f_is_letter fd ["thing"] (sfB isLetterD) :=
  have sc := sc_is_letter
  fn_data Fu sc bd (fun ds w Q E ⟨d, e, _⟩ => by subst e; rfl) (sfB_mono _) fun cdv A outer s H E en hr => ⟨_, (dsone (dsret (dor (dcall G_is_next (hr.mono (by decide)) (takes_of rfl rfl rfl rfl) T.f_is_next (by rfl) (dacons (dvar 0) danil)) (dor (dcall G_is_done (hr.mono (by decide)) (takes_of rfl rfl rfl rfl) T.f_is_done (by rfl) (dacons (dvar 0) danil)) (done' (dcall G_is_turn (hr.mono (by decide)) (takes_of rfl rfl rfl rfl) T.f_is_turn (by rfl) (dacons (dvar 0) danil))))))),
    fun ds w Q Ed h => by
      obtain ⟨d, e, hd, hl, q⟩ := h
      subst e
      walk_at "m"
      have q' : Q (.bl (isLetterD d)) w := q
      unfold isLetterD at q'
      refine ⟨d, rfl, hd, hl, _, rfl, ?_⟩
      cases h1 : isNextD d with
      | true => rw [h1] at q'; exact q'
      | false =>
        rw [h1] at q'
        refine ifN rfl ⟨d, rfl, hd, _, rfl, ?_⟩
        cases h2 : isDoneD d with
        | true => rw [h2] at q'; exact q'
        | false => rw [h2] at q'; exact ifN rfl ⟨d, rfl, hd, q'⟩⟩
theorem sc_in_words : FnScope ["parts", "part"] ["parts"] (defScope s_in_words) := ⟨rfl, rfl, rfl, by decide +kernel, rfl, by decide +kernel, by decide +kernel⟩
theorem ok_in_words {fd : FuncData} (T : Tx K mg a) (Fu : Fun K "in_words" "in_words" s_in_words a.f_in_words fd) (bd : Binds K fd ["parts"] []) :
    FnD (GB bagA K) P wd K mg base 1 a.f_in_words fd ["parts"] (sf_words sp) :=
  have sc := sc_in_words
  fn_data Fu sc bd (fun ds w Q E ⟨xs, c, e, _⟩ => by rcases e with e | e <;> (subst e; rfl)) (sf_words_mono _) fun cdv A outer s H E en hr => ⟨_, (dsone (dsret (dbm PySem.F.plainAttrs_str PySem.F.slot_str_join PySem.F.type_str_join o_join ty_str (DE.u dstr) (daucons (dcomp' (own := [("part", 1)]) rfl sc.nd (DI.or (dilist (dvar 0).u) (ditup (dvar 0))) (blkOk_by (own := [("part", 1)]) (N := ["parts", "part"]) (sc := defScope s_in_words) (by decide +kernel)) (grel_name 1) (gwipe_name 1) (fun _ _ _ _ _ => (pg_name (i := 1) sc.nd rfl (Or.inl rfl))) (fun _ _ _ _ _ => dtsnil) (fun _ _ _ _ _ => (dcallTy o_strD T.n_str (by decide +kernel) (by rfl) (daucons (dvar 1).u daunil)))).u daunil)))),
    fun ds w Q Ed h => by
      obtain ⟨xs, c, e, h1, h2, h3, h4, q⟩ := h
      have lb : LB = 100000 := rfl
      rcases e with e | e
      · subst e
        walk_at "m"
        refine ⟨rfl, Or.inl ?_⟩
        walk_at "u"
        refine ⟨by rw [Nat.mul_add] at h4; omega, ?_⟩
        refine compL_map (fun d => .str (showP d)) _ _ (fun d hd Q' q2 => ?_) ?_
        · walk_at "m"
          have hw := h1 d hd
          cases d <;> first | exact hw.elim | skip
          · exact .inl ⟨_, rfl, log_small hw.2.1, (atx_int h2 hw.1 hw.2.2).ok (by omega), q2⟩
          · exact .inr ⟨_, rfl, q2⟩
        exact join_words h2 sp_atx h1 h4 q
      · subst e
        walk_at "m"
        refine ⟨rfl, Or.inr ?_⟩
        walk_at "u"
        refine ⟨by rw [Nat.mul_add] at h4; omega, ?_⟩
        refine compL_map (fun d => .str (showP d)) _ _ (fun d hd Q' q2 => ?_) ?_
        · walk_at "m"
          have hw := h1 d hd
          cases d <;> first | exact hw.elim | skip
          · exact .inl ⟨_, rfl, log_small hw.2.1, (atx_int h2 hw.1 hw.2.2).ok (by omega), q2⟩
          · exact .inr ⟨_, rfl, q2⟩
        exact join_words h2 sp_atx h1 h4 q⟩
theorem sc_show_step : FnScope ["step"] ["step"] (defScope s_show_step) := ⟨rfl, rfl, rfl, by decide +kernel, rfl, by decide +kernel, by decide +kernel⟩
theorem ok_show_step {fd : FuncData} (T : Tx K mg a) (Fu : Fun K "show_step" "show_step" s_show_step a.f_show_step fd) (bd : Binds K fd ["step"] []) {fd_is_step : FuncData} (G_is_step : FnD (GB bagA K) P wd K mg base 4 a.f_is_step fd_is_step ["thing"] sf_is_step) {fd_in_words : FuncData} (G_in_words : FnD (GB bagA K) P wd K mg base 1 a.f_in_words fd_in_words ["parts"] (sf_words sp)) :
    FnD (GB bagA K) P wd K mg base 5 a.f_show_step fd ["step"] (sf_show isStep showStep a.c_NoStep) :=
  have sc := sc_show_step
  fn_data Fu sc bd (fun ds w Q E ⟨d, B, h, e, _⟩ => by subst e; rfl) (sf_show_mono _ _ _) fun cdv A outer s H E en hr => ⟨_, (dscons (dsif (dtnot (dtval (dcall G_is_step (hr.mono (by decide)) (takes_of rfl rfl rfl rfl) T.f_is_step (by rfl) (dacons (dvar 0) danil)))) (dsone (dsraise rfl (takes_of rfl rfl rfl rfl) (pmk_own PySem.F.excBase_ValueError T.x_NoStep T.c_NoStep T.k_NoStep (raises_own T.b_NoStep T.t_NoStep) (by exact rfl)))) dsnil) (dsone (dsret (dcall G_in_words (hr.mono (by decide)) (takes_of rfl rfl rfl rfl) T.f_in_words (by rfl) (dacons (dvar 0) danil))))),
    fun ds w Q Ed h => by
      obtain ⟨d, B, h, e, hd, hB, hl, hl2, q1, q2⟩ := h
      subst e
      have hpl := hd.pl
      walk_at "m"
      refine ⟨d, rfl, hpl, hl2, _, rfl, ?_⟩
      cases hs : isStep d with
      | false => exact ifY rfl (q2 hs)
      | true =>
        refine ifN rfl ?_
        obtain ⟨xs, rfl, k1, k2⟩ := step_words (c := 90) (by decide) (by decide) hB hd hs
        refine ⟨xs, 90, .inr rfl, k2, by decide, by decide, ?_, q1 hs⟩
        have lb : LB = 100000 := rfl
        have := Nat.mul_le_mul_right (90 + 1) k1
        omega⟩
theorem sc_with_colons : FnScope ["parts", "part"] ["parts"] (defScope s_with_colons) := ⟨rfl, rfl, rfl, by decide +kernel, rfl, by decide +kernel, by decide +kernel⟩
theorem ok_with_colons {fd : FuncData} (T : Tx K mg a) (Fu : Fun K "with_colons" "with_colons" s_with_colons a.f_with_colons fd) (bd : Binds K fd ["parts"] []) :
    FnD (GB bagA K) P wd K mg base 1 a.f_with_colons fd ["parts"] (sf_words co) :=
  have sc := sc_with_colons
  fn_data Fu sc bd (fun ds w Q E ⟨xs, c, e, _⟩ => by rcases e with e | e <;> (subst e; rfl)) (sf_words_mono _) fun cdv A outer s H E en hr => ⟨_, (dsone (dsret (dbm PySem.F.plainAttrs_str PySem.F.slot_str_join PySem.F.type_str_join o_join ty_str (DE.u dstr) (daucons (dcomp' (own := [("part", 1)]) rfl sc.nd (DI.or (dilist (dvar 0).u) (ditup (dvar 0))) (blkOk_by (own := [("part", 1)]) (N := ["parts", "part"]) (sc := defScope s_with_colons) (by decide +kernel)) (grel_name 1) (gwipe_name 1) (fun _ _ _ _ _ => (pg_name (i := 1) sc.nd rfl (Or.inl rfl))) (fun _ _ _ _ _ => dtsnil) (fun _ _ _ _ _ => (dcallTy o_strD T.n_str (by decide +kernel) (by rfl) (daucons (dvar 1).u daunil)))).u daunil)))),
    fun ds w Q Ed h => by
      obtain ⟨xs, c, e, h1, h2, h3, h4, q⟩ := h
      have lb : LB = 100000 := rfl
      rcases e with e | e
      · subst e
        walk_at "m"
        refine ⟨rfl, Or.inl ?_⟩
        walk_at "u"
        refine ⟨by rw [Nat.mul_add] at h4; omega, ?_⟩
        refine compL_map (fun d => .str (showP d)) _ _ (fun d hd Q' q2 => ?_) ?_
        · walk_at "m"
          have hw := h1 d hd
          cases d <;> first | exact hw.elim | skip
          · exact .inl ⟨_, rfl, log_small hw.2.1, (atx_int h2 hw.1 hw.2.2).ok (by omega), q2⟩
          · exact .inr ⟨_, rfl, q2⟩
        exact join_words h2 co_atx h1 h4 q
      · subst e
        walk_at "m"
        refine ⟨rfl, Or.inr ?_⟩
        walk_at "u"
        refine ⟨by rw [Nat.mul_add] at h4; omega, ?_⟩
        refine compL_map (fun d => .str (showP d)) _ _ (fun d hd Q' q2 => ?_) ?_
        · walk_at "m"
          have hw := h1 d hd
          cases d <;> first | exact hw.elim | skip
          · exact .inl ⟨_, rfl, log_small hw.2.1, (atx_int h2 hw.1 hw.2.2).ok (by omega), q2⟩
          · exact .inr ⟨_, rfl, q2⟩
        exact join_words h2 co_atx h1 h4 q⟩
theorem sc_show_letter : FnScope ["letter", "word", "lane", "number", "step", "more", "hop"] ["letter"] (defScope s_show_letter) := ⟨rfl, rfl, rfl, by decide +kernel, rfl, by decide +kernel, by decide +kernel⟩
theorem ok_show_letter {fd : FuncData} (T : Tx K mg a) (Fu : Fun K "show_letter" "show_letter" s_show_letter a.f_show_letter fd) (bd : Binds K fd ["letter"] []) {fd_is_letter : FuncData} (G_is_letter : FnD (GB bagA K) P wd K mg base 6 a.f_is_letter fd_is_letter ["thing"] (sfB isLetterD)) {fd_show_step : FuncData} (G_show_step : FnD (GB bagA K) P wd K mg base 5 a.f_show_step fd_show_step ["step"] (sf_show isStep showStep a.c_NoStep)) {fd_in_words : FuncData} (G_in_words : FnD (GB bagA K) P wd K mg base 1 a.f_in_words fd_in_words ["parts"] (sf_words sp)) {fd_with_colons : FuncData} (G_with_colons : FnD (GB bagA K) P wd K mg base 1 a.f_with_colons fd_with_colons ["parts"] (sf_words co)) :
    FnD (GB bagA K) P wd K mg base 7 a.f_show_letter fd ["letter"] (sf_show isLetterD showLetter a.c_NoLetter) :=
  have sc := sc_show_letter
  fn_data Fu sc bd (fun ds w Q E ⟨d, B, h, e, _⟩ => by subst e; rfl) (sf_show_mono _ _ _) fun cdv A outer s H E en hr => ⟨_, (dscons (dsif (dtnot (dtval (dcall G_is_letter (hr.mono (by decide)) (takes_of rfl rfl rfl rfl) T.f_is_letter (by rfl) (dacons (dvar 0) danil)))) (dsone (dsraise rfl (takes_of rfl rfl rfl rfl) (pmk_own PySem.F.excBase_ValueError T.x_NoLetter T.c_NoLetter T.k_NoLetter (raises_own T.b_NoLetter T.t_NoLetter) (by exact rfl)))) dsnil) (dscons (dsif (dtcmp (o_ne hr) (dix o_ix (dvar 0).u (DE.u dint)).u (DE.u dstr) (nomark _)) (dsone (dsret (dcall G_in_words (hr.mono (by decide)) (takes_of rfl rfl rfl rfl) T.f_in_words (by rfl) (dacons (dvar 0) danil)))) dsnil) (dscons (dsasg (dvar 0) (pg_tup rfl (pgs_cons (pg_name (i := 1) sc.nd rfl (Or.inl rfl)) (pgs_cons (pg_name (i := 2) sc.nd rfl (Or.inl rfl)) (pgs_cons (pg_name (i := 3) sc.nd rfl (Or.inl rfl)) (pgs_cons (pg_name (i := 4) sc.nd rfl (Or.inl rfl)) (pgs_cons (pg_name (i := 5) sc.nd rfl (Or.inl rfl)) pgs_nil)))))) (grel_tup (gsrel_cons (grel_name 1) (gsrel_cons (grel_name 2) (gsrel_cons (grel_name 3) (gsrel_cons (grel_name 4) (gsrel_cons (grel_name 5) gsrel_nil))))))) (dsone (dsret (dcall G_in_words (hr.mono (by decide)) (takes_of rfl rfl rfl rfl) T.f_in_words (by rfl) (dacons (dlst (dacons (dvar 1) (dacons (dvar 2) (dacons (dvar 3) (dacons (dcall G_show_step (hr.mono (by decide)) (takes_of rfl rfl rfl rfl) T.f_show_step (by rfl) (dacons (dvar 4) danil)) (dastarL (dcomp' (own := [("hop", 6)]) rfl sc.nd (ditup (dvar 5)) (blkOk_by (own := [("hop", 6)]) (N := ["letter", "word", "lane", "number", "step", "more", "hop"]) (sc := defScope s_show_letter) (by decide +kernel)) (grel_name 6) (gwipe_name 6) (fun _ _ _ _ _ => (pg_name (i := 6) sc.nd rfl (Or.inl rfl))) (fun _ _ _ _ _ => dtsnil) (fun _ _ _ _ _ => (dfmt2 (dcall G_with_colons (hr.mono (by decide)) takes0 T.f_with_colons (by rfl) (dacons (dvar 6) danil))))) danil)))))) danil))))))),
    fun ds w Q Ed h => by
      obtain ⟨d, B, h, e, hd, hB, hl, hl2, q1, q2⟩ := h
      subst e
      have hpl := hd.pl
      walk_at "m"
      refine ⟨d, rfl, hpl, hl, _, rfl, ?_⟩
      cases hs : isLetterD d with
      | false => exact ifY rfl (q2 hs)
      | true =>
        refine ifN rfl ?_
        have lb : LB = 100000 := rfl
        have hs' := hs
        unfold isLetterD at hs'
        rw [Bool.or_eq_true, Bool.or_eq_true] at hs'
        cases hn : isNextD d with
        | false =>
          rw [hn] at hs'
          obtain ⟨x, xs, rfl, k0, k1, k2, k3⟩ := short_words (c := 90) (by decide) (by decide) hB hd (by simpa using hs')
          have q3 := q1 hs
          rw [k2] at q3
          walk_at "m"
          refine ifY (by rw [decide_eq_false k0]; rfl) ⟨_, 90, .inr rfl, k3, by decide, by decide, ?_, q3⟩
          have : (D.str x :: xs).length ≤ 3 := by rw [List.length_cons]; omega
          have := Nat.mul_le_mul_right (90 + 1) this
          omega
        | true =>
          obtain ⟨b, n, s, hh, rfl, k0, k1, k2, k3, k4⟩ := next_words (c := 90) (by decide) (by decide) hB hd hn
          have q3 := q1 hs
          walk_at "u"
          walk_at "a"
          refine ⟨rfl, _, _, ⟨rfl, rfl⟩, _, _, rfl, _, _, rfl, _, _, rfl, _, _, rfl, rfl, ?_⟩
          have hin : inL s := by
            obtain ⟨xs, rfl, g1, g2⟩ := step_words (c := 90) (by decide) (by decide) hB k0 k1
            intro x hx y hy
            cases hx
            have := g2 y hy
            cases y <;> first | exact this.elim | exact Nat.zero_le _
          refine ⟨s, B, h, rfl, k0, hB, hin, hl _ rfl s (by simp), fun _ => ?_, fun z => absurd k1 (by rw [z]; decide)⟩
          refine ⟨_, rfl, by omega, ?_⟩
          have h2 : ATx 2 (Str.ofString "> ") := ⟨by decide +kernel, by unfold DL.asc; decide +kernel⟩
          refine compL_map (fun l => .str (hopW l)) _ _ (fun l hl3 Q' q2 => ?_) ?_
          · walk_at "m"
            have hx := k3 l hl3
            have ha := (h2.app (colons_atx (c := 90) (by decide) hx)).ok (by omega)
            obtain ⟨xs, rfl, g1, g2⟩ := hx
            have := Nat.mul_le_mul_right (90 + 1) g1
            exact ⟨xs, 90, .inr rfl, g2, by decide, by decide, by omega, _, rfl, ha, q2⟩
          rw [List.nil_append]
          have hn : ([D.str (Str.ofString "next"), b, n, .str (showStep s)] ++ hh.map fun l => D.str (hopW l)).length ≤ 44 := by
            simp only [List.length_append, List.length_map, List.length_cons, List.length_nil]; omega
          have := Nat.mul_le_mul_right (455 + 1) hn
          exact ⟨by rw [List.length_map]; omega, _, 455, .inl rfl, k4, by decide, by decide, Nat.le_trans this (by decide), q3⟩⟩
theorem sc_words_of : FnScope ["text"] ["text"] (defScope s_words_of) := ⟨rfl, rfl, rfl, by decide +kernel, rfl, by decide +kernel, by decide +kernel⟩
theorem ok_words_of {fd : FuncData} (T : Tx K mg a) (Fu : Fun K "words_of" "words_of" s_words_of a.f_words_of fd) (bd : Binds K fd ["text"] []) :
    FnD (GB bagA K) P wd K mg base 1 a.f_words_of fd ["text"] (sfWordsG 20000 a.c_NoText) :=
  have sc := sc_words_of
  fn_data Fu sc bd (fun ds w Q E ⟨x, e, _⟩ => by subst e; rfl) (sfWordsG_mono _ _) fun cdv A outer s H E en hr => ⟨_, (dscons (dsif (dtnot (dtval (dcallB o_isi T.n_isinstance (by decide +kernel) (by rfl) (daucons (dvar 0).u (daucons (dty (n := "str") (by rfl) T.n_str (by decide +kernel)).u daunil))))) (dsone (dsraise rfl (takes_of rfl rfl rfl rfl) (pmk_own PySem.F.excBase_ValueError T.x_NoText T.c_NoText T.k_NoText (raises_own T.b_NoText T.t_NoText) (by exact rfl)))) dsnil) (dsone (dsret (dbm PySem.F.plainAttrs_str PySem.F.slot_str_split PySem.F.type_str_split o_split ty_str (dvar 0).u (daucons (DE.u dstr) daunil))))),
    fun ds w Q Ed h => by
      obtain ⟨d, e, hp, q1, q2⟩ := h
      subst e
      walk_at "m"
      have lb : LB = 100000 := rfl
      cases d
      case str x =>
        obtain ⟨h1, h2, h3⟩ := q1 x rfl
        have := split_few (y := sp) h1
        exact ⟨rfl, ifN rfl ⟨rfl, x, sp, rfl, rfl, by decide +kernel, by omega, fun y hy => (split_atx h1 sep_sp y hy).ok (by omega), h3⟩⟩
      case hnd => cases hp
      case ty => cases hp
      all_goals exact ⟨rfl, ifY rfl (q2 fun x e => nomatch e)⟩⟩
theorem sc_is_figures : FnScope ["word", "sign"] ["word"] (defScope s_is_figures) := ⟨rfl, rfl, rfl, by decide +kernel, rfl, by decide +kernel, by decide +kernel⟩
theorem ok_is_figures {fd : FuncData} (T : Tx K mg a) (Fu : Fun K "is_figures" "is_figures" s_is_figures a.f_is_figures fd) (bd : Binds K fd ["word"] []) :
    FnD (GB bagA K) P wd K mg base 1 a.f_is_figures fd ["word"] sfFig :=
  have sc := sc_is_figures
  fn_data Fu sc bd (fun ds w Q E ⟨x, e, _⟩ => by subst e; rfl) sfFig_mono fun cdv A outer s H E en hr => ⟨_, (dscons (dsif (dwor (dtnot (dtchain o_le o_le (DE.u dint) (dcallB o_len T.n_len (by decide +kernel) (by rfl) (daucons (dvar 0).u daunil)).u (dglobI (by rfl) T.g_MOST_FIGURES).u)) (dwor1 (dtnot (dtval (dcallB (o_all rfl) T.n_all (by decide +kernel) (by rfl) (daucons (dcomp' (own := [("sign", 1)]) rfl sc.nd (distr (dvar 0)) (blkOk_by (own := [("sign", 1)]) (N := ["word", "sign"]) (sc := defScope s_is_figures) (by decide +kernel)) (grel_name 1) (gwipe_name 1) (fun _ _ _ _ _ => (pg_name (i := 1) sc.nd rfl (Or.inl rfl))) (fun _ _ _ _ _ => dtsnil) (fun _ _ _ _ _ => (dchain o_le o_le (DE.u dstr) (dvar 1).u (DE.u dstr)))).u daunil)))))).t (dsone (dsret dbl)) dsnil) (dsone (dsret (dor (dcmp (o_eq hr) (dvar 0).u (DE.u dstr) (nomark _)) (done' (dcmp (o_ne hr) (dix o_ix (dvar 0).u (DE.u dint)).u (DE.u dstr) (nomark _))))))),
    fun ds w Q Ed h => by
      obtain ⟨x, e, q⟩ := h
      subst e
      have lb : LB = 100000 := rfl
      walk_at "m"
      walk_at "u"
      unfold figOk at q
      by_cases h1 : 1 ≤ (x.length : Int)
      · refine ifY (decide_eq_true h1) ?_
        rw [decide_eq_true (by omega : 1 ≤ x.length)] at q
        by_cases h2 : (x.length : Int) ≤ 15
        · rw [decide_eq_true (by omega : x.length ≤ 15), Bool.true_and, Bool.true_and] at q
          refine ifN (by rw [decide_eq_true h2]; rfl) ⟨by rw [signs_len]; omega, ?_⟩
          refine compL_map (fun d => .bl (figD d)) _ _ (fun d hd Q' q' => ?_) ?_
          · obtain ⟨c, rfl, _⟩ := signs_mem hd
            walk_at "m"
            rw [fig_one] at q'
            rw [show (Str.ofString "0") = (⟨#[48]⟩ : Str) from rfl, show (Str.ofString "9") = (⟨#[57]⟩ : Str) from rfl, str1_nlt, str1_nlt]
            by_cases h3 : 48 ≤ c
            · rw [if_pos (decide_eq_true h3)]
              rw [decide_eq_true h3, Bool.true_and] at q'
              exact q'
            · rw [if_neg (by rw [decide_eq_false h3]; decide)]
              rw [decide_eq_false h3, Bool.false_and] at q'
              exact q'
          refine ⟨(signsD x).map figD, by rw [List.nil_append, List.map_map]; rfl, ?_⟩
          rw [all_fig]
          refine ⟨_, rfl, ?_⟩
          cases hf : figAll x with
          | false => rw [hf] at q; exact ifY rfl q
          | true =>
            rw [hf, Bool.true_and] at q
            refine ifN rfl ?_
            by_cases h4 : x = Str.ofString "0"
            · rw [decide_eq_true h4] at q
              exact ifY (decide_eq_true h4) q
            · rw [decide_eq_false h4, Bool.false_or] at q
              refine ifN (decide_eq_false h4) ?_
              obtain ⟨cs⟩ := x
              obtain ⟨l⟩ := cs
              cases l with
              | nil => exact absurd h1 (by decide)
              | cons c l =>
                refine ⟨c, atI_0 _ _, ?_⟩
                have eq1 : (!decide (({ cps := #[c] } : Str) = Str.ofString "0")) = decide ((c :: l).head? ≠ some 48) := by
                  rw [show (Str.ofString "0") = (⟨#[48]⟩ : Str) from rfl]
                  by_cases h5 : c = 48
                  · subst h5; rfl
                  · rw [decide_eq_false (fun z => h5 (by injection z with z; injection z with z; injection z)), decide_eq_true (by simpa using h5)]; rfl
                rw [eq1]
                exact q
        · rw [decide_eq_false (by omega : ¬ x.length ≤ 15), Bool.and_false] at q
          exact ifY (by rw [decide_eq_false h2]; rfl) q
      · rw [decide_eq_false (by omega : ¬ 1 ≤ x.length)] at q
        exact ifN (decide_eq_false h1) q⟩
theorem sc_number_of : FnScope ["word"] ["word"] (defScope s_number_of) := ⟨rfl, rfl, rfl, by decide +kernel, rfl, by decide +kernel, by decide +kernel⟩
theorem ok_number_of {fd : FuncData} (T : Tx K mg a) (Fu : Fun K "number_of" "number_of" s_number_of a.f_number_of fd) (bd : Binds K fd ["word"] []) {fd_is_figures : FuncData} (G_is_figures : FnD (GB bagA K) P wd K mg base 1 a.f_is_figures fd_is_figures ["word"] sfFig) :
    FnD (GB bagA K) P wd K mg base 2 a.f_number_of fd ["word"] (sfNumOf a.c_NoText) :=
  have sc := sc_number_of
  fn_data Fu sc bd (fun ds w Q E ⟨x, e, _⟩ => by subst e; rfl) (sfNumOf_mono _) fun cdv A outer s H E en hr => ⟨_, (dscons (dsif (dtnot (dtval (dcall G_is_figures (hr.mono (by decide)) (takes_of rfl rfl rfl rfl) T.f_is_figures (by rfl) (dacons (dvar 0) danil)))) (dsone (dsraise rfl (takes_of rfl rfl rfl rfl) (pmk_own PySem.F.excBase_ValueError T.x_NoText T.c_NoText T.k_NoText (raises_own T.b_NoText T.t_NoText) (by exact rfl)))) dsnil) (dsone (dsret (dcallTy o_intS T.n_int (by decide +kernel) (by rfl) (daucons (dvar 0).u daunil))))),
    fun ds w Q Ed h => by
      obtain ⟨x, e, q1, q2⟩ := h
      subst e
      walk_at "m"
      refine ⟨x, rfl, _, rfl, ?_⟩
      cases hf : figOk x with
      | false => exact ifY rfl (q2 hf)
      | true =>
        obtain ⟨h1, h2⟩ := q1 hf
        have hl : x.length ≤ 15 := by
          unfold figOk at hf
          simp only [Bool.and_eq_true, decide_eq_true_eq] at hf
          exact hf.1.1.2
        refine ifN rfl ⟨x, numOf x, rfl, ?_, by omega, h2⟩
        unfold numOf
        cases hx : PySem.intText? x with
        | none => rw [hx] at h1; cases h1
        | some n => rfl⟩
theorem sc_hop_in : FnScope ["word", "part"] ["word"] (defScope s_hop_in) := ⟨rfl, rfl, rfl, by decide +kernel, rfl, by decide +kernel, by decide +kernel⟩
theorem ok_hop_in {fd : FuncData} (T : Tx K mg a) (Fu : Fun K "hop_in" "hop_in" s_hop_in a.f_hop_in fd) (bd : Binds K fd ["word"] []) {fd_number_of : FuncData} (G_number_of : FnD (GB bagA K) P wd K mg base 2 a.f_number_of fd_number_of ["word"] (sfNumOf a.c_NoText)) :
    FnD (GB bagA K) P wd K mg base 3 a.f_hop_in fd ["word"] (sfOptW hopOf 20000 a.c_NoText) :=
  have sc := sc_hop_in
  fn_data Fu sc bd (fun ds w Q E ⟨x, e, _⟩ => by subst e; rfl) (sfOptW_mono _ _ _) fun cdv A outer s H E en hr => ⟨_, (dsone (dsret (dcallTy o_tuple T.n_tuple (by decide +kernel) (by rfl) (daucons (dcompX' (own := [("part", 1)]) (takes_of rfl rfl rfl rfl) rfl rfl rfl sc.nd (dilist (dbm PySem.F.plainAttrs_str PySem.F.slot_str_split PySem.F.type_str_split o_split ty_str (dvar 0).u (daucons (DE.u dstr) daunil)).u) (blkOk_by (own := [("part", 1)]) (N := ["word", "part"]) (sc := defScope s_hop_in) (by decide +kernel)) (grel_name 1) (gwipe_name 1) (fun _ _ _ _ _ _ _ => (pg_name (i := 1) sc.nd rfl (Or.inl rfl))) (fun _ _ _ _ _ _ _ => dtsnil) (fun _ _ _ _ _ _ _ _ tkx => (dcall G_number_of (hr.mono (by decide)) tkx T.f_number_of (by rfl) (dacons (dvar 1) danil)))).u daunil)))),
    fun ds w Q Ed h => by
      obtain ⟨x, e, hx, q1, q2⟩ := h
      subst e
      walk_at "m"
      walk_at "u"
      have lb : LB = 100000 := rfl
      have sf := split_few (y := co) hx
      refine ⟨rfl, x, co, rfl, rfl, by decide +kernel, by omega, fun y hy => (split_atx hx sep_co y hy).ok (by decide), _, rfl, by rw [List.length_map]; omega, ?_⟩
      refine compLX_try (fun d => match d with | .str y => figOk y | _ => false) (fun d => match d with | .str y => .int (numOf y) | _ => d) _ _ (fun d hd hg Q' q' => ?_) (fun d hd hg Q' => ?_) fun hall => ?_
      · obtain ⟨y, hy, rfl⟩ := List.mem_map.mp hd
        walk_at "m"
        have hg' : figOk y = true := hg
        exact ⟨y, rfl, fun _ => ⟨(fig_text hg').1, q'⟩, fun z => absurd hg' (by rw [z]; decide)⟩
      · obtain ⟨y, hy, rfl⟩ := List.mem_map.mp hd
        walk_at "m"
        have hg' : figOk y = false := hg
        have no := q2 (if_neg fun z => by rw [List.all_eq_true] at z; have := z y hy; rw [hg'] at this; cases this)
        exact ⟨y, rfl, fun z => absurd hg' (by rw [z]; decide), fun _ => no⟩
      · rw [List.nil_append]
        have ha : (Txt.split x co).all figOk = true := by rw [List.all_map] at hall; exact hall
        have hq := q1 _ (if_pos ha)
        rw [List.map_map]
        exact hq⟩
theorem sc_side_or_number : FnScope ["word"] ["word"] (defScope s_side_or_number) := ⟨rfl, rfl, rfl, by decide +kernel, rfl, by decide +kernel, by decide +kernel⟩
theorem ok_side_or_number {fd : FuncData} (T : Tx K mg a) (Fu : Fun K "side_or_number" "side_or_number" s_side_or_number a.f_side_or_number fd) (bd : Binds K fd ["word"] []) {fd_number_of : FuncData} (G_number_of : FnD (GB bagA K) P wd K mg base 2 a.f_number_of fd_number_of ["word"] (sfNumOf a.c_NoText)) :
    FnD (GB bagA K) P wd K mg base 3 a.f_side_or_number fd ["word"] (sfPart a.c_NoText) :=
  have sc := sc_side_or_number
  fn_data Fu sc bd (fun ds w Q E ⟨x, e, _⟩ => by subst e; rfl) (sfPart_mono _) fun cdv A outer s H E en hr => ⟨_, (dsone (dsret (dif (dtcmp o_in (dvar 0).u (dtup (dacons dstr (dacons dstr danil))).u (by rfl)) (dvar 0) (dcall G_number_of (hr.mono (by decide)) (takes_of rfl rfl rfl rfl) T.f_number_of (by rfl) (dacons (dvar 0) danil))))),
    fun ds w Q Ed h => by
      obtain ⟨x, e, q1, q2⟩ := h
      subst e
      walk_at "m"
      have e : inD (.str x) [.str (Str.ofString "left"), .str (Str.ofString "right")] = sideD (.str x) := by
        show ((Str.ofString "left" == x) || ((Str.ofString "right" == x) || false)) = (decide (x = Str.ofString "left") || decide (x = Str.ofString "right"))
        have bc : ∀ y : Str, (y == x) = decide (x = y) := fun y => by
          rw [Bool.beq_eq_decide_eq]; exact decide_eq_decide.mpr ⟨Eq.symm, Eq.symm⟩
        rw [Bool.or_false, bc, bc]
      refine ⟨by decide, rfl, rfl, sideD (.str x), by first | rfl | exact congrArg D.bl e | exact e, ?_⟩
      cases hs : sideD (.str x) with
      | true =>
        have := (q1 (.inl hs)).2
        rw [show partD x = .str x from if_pos hs] at this
        exact ifY rfl this
      | false =>
        refine ifN rfl ⟨x, rfl, fun hf => ?_, fun hf => q2 hs hf⟩
        obtain ⟨h1, h2⟩ := q1 (.inr hf)
        rw [show partD x = .int (numOf x) from if_neg (by rw [hs]; decide)] at h2
        exact ⟨h1 hs, h2⟩⟩
theorem sc_step_in : FnScope ["words", "step", "word"] ["words"] (defScope s_step_in) := ⟨rfl, rfl, rfl, by decide +kernel, rfl, by decide +kernel, by decide +kernel⟩
theorem ok_step_in {fd : FuncData} (T : Tx K mg a) (Fu : Fun K "step_in" "step_in" s_step_in a.f_step_in fd) (bd : Binds K fd ["words"] []) {fd_is_step : FuncData} (G_is_step : FnD (GB bagA K) P wd K mg base 4 a.f_is_step fd_is_step ["thing"] sf_is_step) {fd_side_or_number : FuncData} (G_side_or_number : FnD (GB bagA K) P wd K mg base 3 a.f_side_or_number fd_side_or_number ["word"] (sfPart a.c_NoText)) :
    FnD (GB bagA K) P wd K mg base 5 a.f_step_in fd ["words"] (sfOpt stepOf 20000 a.c_NoText) :=
  have sc := sc_step_in
  fn_data Fu sc bd (fun ds w Q E ⟨x, e, _⟩ => by subst e; rfl) (sfOpt_mono _ _ _) fun cdv A outer s H E en hr => ⟨_, (dscons (dsset 1 sc.nd (dtup (dacons (dix o_ix (dvar 0).u (DE.u dint)) (dastarL (dcompX' (own := [("word", 2)]) (takes_of rfl rfl rfl rfl) rfl rfl rfl sc.nd (dilist (dsl o_sl (dvar 0).u (dosome dint) donone).u) (blkOk_by (own := [("word", 2)]) (N := ["words", "step", "word"]) (sc := defScope s_step_in) (by decide +kernel)) (grel_name 2) (gwipe_name 2) (fun _ _ _ _ _ _ _ => (pg_name (i := 2) sc.nd rfl (Or.inl rfl))) (fun _ _ _ _ _ _ _ => dtsnil) (fun _ _ _ _ _ _ _ _ tkx => (dcall G_side_or_number (hr.mono (by decide)) tkx T.f_side_or_number (by rfl) (dacons (dvar 2) danil)))) danil)))) (dscons (dsif (dtnot (dtval (dcall G_is_step (hr.mono (by decide)) (takes_of rfl rfl rfl rfl) T.f_is_step (by rfl) (dacons (dvar 1) danil)))) (dsone (dsraise rfl (takes_of rfl rfl rfl rfl) (pmk_own PySem.F.excBase_ValueError T.x_NoText T.c_NoText T.k_NoText (raises_own T.b_NoText T.t_NoText) (by exact rfl)))) dsnil) (dsone (dsret (dvar 1))))),
    fun ds w Q Ed h => by
      obtain ⟨ws, e, hne, hl, hx, q1, q2⟩ := h
      subst e
      have lb : LB = 100000 := rfl
      cases ws with
      | nil => exact absurd rfl hne
      | cons w0 r =>
        rw [List.length_cons] at hl
        walk_at "m"
        walk_at "u"
        have cs : cutL (D.str w0 :: r.map D.str) (some 1) none = r.map D.str := cut_suf _ 1
        rw [cs]
        refine ⟨by rw [List.length_map]; omega, ?_⟩
        refine compLX_try (fun d => match d with | .str y => partOk y | _ => false) (fun d => match d with | .str y => partD y | _ => d) _ _ (fun d hd hg Q' q' => ?_) (fun d hd hg Q' => ?_) fun hall => ?_
        · obtain ⟨y, hy, rfl⟩ := List.mem_map.mp hd
          walk_at "m"
          have hg' : partOk y = true := hg
          exact ⟨y, rfl, fun _ => ⟨fun hs => (fig_text (by rw [partOk, hs, Bool.false_or] at hg'; exact hg')).1, q'⟩, fun hs hf => absurd hg' (by rw [partOk, hs, hf]; decide)⟩
        · obtain ⟨y, hy, rfl⟩ := List.mem_map.mp hd
          walk_at "m"
          have hg' : partOk y = false := hg
          have no := q2 (if_neg fun z => by rw [List.all_eq_true] at z; have := z y hy; rw [hg'] at this; cases this)
          exact ⟨y, rfl, fun z => absurd hg' (by rw [partOk, (Bool.or_eq_true _ _).mpr z]; decide), fun _ _ => no⟩
        · rw [List.nil_append, List.map_map]
          have ha : r.all partOk = true := by rw [List.all_map] at hall; exact hall
          have em : r.map ((fun d => match d with | .str y => partD y | _ => d) ∘ D.str) = r.map partD := rfl
          rw [em]
          refine ⟨by rw [List.length_map]; omega, ?_⟩
          have hpl : Pl (.tup (.str w0 :: r.map partD)) := .tup fun d hd => by
            rcases List.mem_cons.mp hd with rfl | hd
            · exact .str _
            · obtain ⟨y, _, rfl⟩ := List.mem_map.mp hd
              unfold partD
              split
              · exact .str _
              · exact .int _
          have htl : tlen (.tup (.str w0 :: r.map partD)) ≤ LB := by
            show (D.str w0 :: r.map partD).length ≤ LB
            rw [List.length_cons, List.length_map]; omega
          refine ⟨_, rfl, hpl, htl, _, rfl, ?_⟩
          cases hs : isStep (.tup (.str w0 :: r.map partD)) with
          | true => exact ifN rfl (q1 _ ((if_pos ha).trans (if_pos hs)))
          | false => exact ifY rfl (q2 ((if_pos ha).trans (if_neg (by rw [hs]; decide))))⟩
theorem sc_next_in : FnScope ["words", "end", "more", "word"] ["words"] (defScope s_next_in) := ⟨rfl, rfl, rfl, by decide +kernel, rfl, by decide +kernel, by decide +kernel⟩
theorem ok_next_in {fd : FuncData} (T : Tx K mg a) (Fu : Fun K "next_in" "next_in" s_next_in a.f_next_in fd) (bd : Binds K fd ["words"] []) {fd_number_of : FuncData} (G_number_of : FnD (GB bagA K) P wd K mg base 2 a.f_number_of fd_number_of ["word"] (sfNumOf a.c_NoText)) {fd_hop_in : FuncData} (G_hop_in : FnD (GB bagA K) P wd K mg base 3 a.f_hop_in fd_hop_in ["word"] (sfOptW hopOf 20000 a.c_NoText)) {fd_step_in : FuncData} (G_step_in : FnD (GB bagA K) P wd K mg base 5 a.f_step_in fd_step_in ["words"] (sfOpt stepOf 20000 a.c_NoText)) :
    FnD (GB bagA K) P wd K mg base 6 a.f_next_in fd ["words"] (sfOpt nextOf 20000 a.c_NoText) :=
  have sc := sc_next_in
  fn_data Fu sc bd (fun ds w Q E ⟨x, e, _⟩ => by subst e; rfl) (sfOpt_mono _ _ _) fun cdv A outer s H E en hr => ⟨_, (dscons (dsset 1 sc.nd (dif (dtcmp o_in (DE.u dstr) (dvar 0).u (by rfl)) (dbm PySem.F.plainAttrs_list PySem.F.slot_list_index PySem.F.type_list_index o_index ty_lst (dvar 0).u (daucons (DE.u dstr) daunil)) (dcallB o_len T.n_len (by decide +kernel) (by rfl) (daucons (dvar 0).u daunil)))) (dscons (dsif (dwor (dtcmp o_lt (dvar 1).u (DE.u dint) (nomark _)) (dwor (dtval (dcallB (o_any rfl) T.n_any (by decide +kernel) (by rfl) (daucons (dcompX' (own := [("word", 3)]) (takes_of rfl rfl rfl rfl) rfl rfl rfl sc.nd (dilist (dstep2 (dvar 0) (dosome (dvar 1))).u) (blkOk_by (own := [("word", 3)]) (N := ["words", "end", "more", "word"]) (sc := defScope s_next_in) (by decide +kernel)) (grel_name 3) (gwipe_name 3) (fun _ _ _ _ _ _ _ => (pg_name (i := 3) sc.nd rfl (Or.inl rfl))) (fun _ _ _ _ _ _ _ => dtsnil) (fun _ _ _ _ _ _ _ _ tkx => (dcmp (o_ne hr) (dvar 3).u (DE.u dstr) (nomark _)))).u daunil))) (dwor1 (dttru (dop o_odd (dop o_sub (dcallB o_len T.n_len (by decide +kernel) (by rfl) (daucons (dvar 0).u daunil)).u (dvar 1).u).u (DE.u dint)).u)))).t (dsone (dsraise rfl (takes_of rfl rfl rfl rfl) (pmk_own PySem.F.excBase_ValueError T.x_NoText T.c_NoText T.k_NoText (raises_own T.b_NoText T.t_NoText) (by exact rfl)))) dsnil) (dscons (dsset 2 sc.nd (dcallTy o_tuple T.n_tuple (by decide +kernel) (by rfl) (daucons (dcompX' (own := [("word", 3)]) (takes_of rfl rfl rfl rfl) rfl rfl rfl sc.nd (dilist (dstep2 (dvar 0) (dosome (dop o_add (dvar 1).u (DE.u dint)))).u) (blkOk_by (own := [("word", 3)]) (N := ["words", "end", "more", "word"]) (sc := defScope s_next_in) (by decide +kernel)) (grel_name 3) (gwipe_name 3) (fun _ _ _ _ _ _ _ => (pg_name (i := 3) sc.nd rfl (Or.inl rfl))) (fun _ _ _ _ _ _ _ => dtsnil) (fun _ _ _ _ _ _ _ _ tkx => (dcall G_hop_in (hr.mono (by decide)) tkx T.f_hop_in (by rfl) (dacons (dvar 3) danil)))).u daunil))) (dsone (dsret (dtup (dacons dstr (dacons (dcall G_number_of (hr.mono (by decide)) (takes_of rfl rfl rfl rfl) T.f_number_of (by rfl) (dacons (dix o_ix (dvar 0).u (DE.u dint)) danil)) (dacons (dcall G_number_of (hr.mono (by decide)) (takes_of rfl rfl rfl rfl) T.f_number_of (by rfl) (dacons (dix o_ix (dvar 0).u (DE.u dint)) danil)) (dacons (dcall G_step_in (hr.mono (by decide)) (takes_of rfl rfl rfl rfl) T.f_step_in (by rfl) (dacons (dsl o_sl (dvar 0).u (dosome dint) (dosome (dvar 1))) danil)) (dacons (dvar 2) danil))))))))))),
    fun ds w Q Ed h => by
      obtain ⟨ws, e, hne, hl, hx, q1, q2⟩ := h
      subst e
      have lb : LB = 100000 := rfl
      walk_at "s"
      have go : S [some (Ent.val (D.lst (ws.map D.str))), some (Ent.val (.int (endOf ws : Nat))), none, none] w { nx := fun _ w => Q D.non w, rt := Q, ex := fun e _ w => Ed e w } := by
        subst hS
        walk_at "s"
        walk_at "u"
        have bad : nextBad ws = true → Ed a.c_NoText w := fun hb => q2 (if_pos hb)
        by_cases h4 : endOf ws < 4
        · refine ifY (decide_eq_true (by omega)) (bad ?_)
          unfold nextBad
          rw [decide_eq_true h4]; rfl
        refine ifN (decide_eq_false (by omega)) ⟨endOf ws, rfl, Nat.le_trans (evens_len _) (by rw [List.length_drop, List.length_map]; omega), ?_⟩
        rw [← List.map_drop, evens_map]
        refine compLX_map (fun d => match d with | .str y => .bl (!decide (y = gtS)) | _ => d) _ _ (fun d hd Q' q' => ?_) ?_
        · obtain ⟨y, hy, rfl⟩ := List.mem_map.mp hd
          walk_at "m"
          exact q'
        rw [List.nil_append, List.map_map]
        refine ⟨(evens (ws.drop (endOf ws))).map (fun y => !decide (y = gtS)), by rw [List.map_map]; rfl, _, rfl, ?_⟩
        have hany : ((evens (ws.drop (endOf ws))).map (fun y => !decide (y = gtS))).any id = (evens (ws.drop (endOf ws))).any (fun x => !decide (x = gtS)) := by rw [List.any_map]; rfl
        rw [hany]
        cases h5 : (evens (ws.drop (endOf ws))).any (fun x => !decide (x = gtS)) with
        | true =>
          refine ifY rfl (bad ?_)
          unfold nextBad
          rw [h5, Bool.or_true]; rfl
        | false =>
        refine ifN rfl ?_
        have hel := end_le ws
        refine ⟨ws.length - endOf ws, by rw [List.length_map]; congr 1; omega, rfl, _, rfl, ?_⟩
        by_cases h6 : (ws.length - endOf ws) % 2 = 1
        · refine ifY (by rw [h6]; rfl) (bad ?_)
          unfold nextBad
          rw [decide_eq_true h6, Bool.or_true]
        refine ifN (by rw [show (ws.length - endOf ws) % 2 = 0 by omega]; rfl) ?_
        have hbad : nextBad ws = false := by
          unfold nextBad
          rw [h5, decide_eq_false h4, decide_eq_false h6]; rfl
        clear bad
        have eN : nextOf ws = _ := if_neg (by rw [hbad]; decide)
        walk_at "n"
        walk_at "u"
        refine ⟨endOf ws + 1, rfl, Nat.le_trans (evens_len _) (by rw [List.length_drop, List.length_map]; omega), ?_⟩
        rw [← List.map_drop, evens_map]
        refine compLX_try (fun d => match d with | .str y => (hopOf y).isSome | _ => false) (fun d => match d with | .str y => (hopOf y).getD .non | _ => d) _ _ (fun d hd hg Q' q' => ?_) (fun d hd hg Q' => ?_) fun hall => ?_
        · obtain ⟨y, hy, rfl⟩ := List.mem_map.mp hd
          walk_at "m"
          have hg' : (hopOf y).isSome = true := hg
          refine ⟨y, rfl, hx y (List.mem_of_mem_drop (evens_mem hy)), fun d e => ?_, fun z => absurd hg' (by rw [z]; decide)⟩
          have q2' : Q' ((hopOf y).getD .non) w := q'
          rw [e] at q2'
          exact q2'
        · obtain ⟨y, hy, rfl⟩ := List.mem_map.mp hd
          walk_at "m"
          have hg' : (hopOf y).isSome = false := hg
          refine ⟨y, rfl, hx y (List.mem_of_mem_drop (evens_mem hy)), fun d e => absurd hg' (by rw [e]; exact fun z => nomatch z), fun _ => q2 ?_⟩
          have : hopsOf (evens (ws.drop (endOf ws + 1))) = none := if_neg fun z => by rw [List.all_eq_true] at z; have := z y hy; rw [hg'] at this; cases this
          rw [eN, this]
        rw [List.nil_append]
        have hall' : (evens (ws.drop (endOf ws + 1))).all (fun x => (hopOf x).isSome) = true := by rw [List.all_map] at hall; exact hall
        have eH : hopsOf (evens (ws.drop (endOf ws + 1))) = some ((evens (ws.drop (endOf ws + 1))).map fun x => (hopOf x).getD .non) := if_pos hall'
        rw [eH] at eN
        have em : ((evens (ws.drop (endOf ws + 1))).map D.str).map (fun d => match d with | .str y => (hopOf y).getD .non | _ => d) = (evens (ws.drop (endOf ws + 1))).map fun x => (hopOf x).getD .non := by rw [List.map_map]; rfl
        rw [em]
        generalize ((evens (ws.drop (endOf ws + 1))).map fun x => (hopOf x).getD .non) = hs at eN
        have l3 : 3 < ws.length := by omega
        have g1 : ∀ k : Nat, k < ws.length → atI (ws.map D.str) (k : Int) = some (.str (ws.getD k Str.empty)) := fun k hk => by
          refine atI_nat ?_
          rw [List.getElem?_map, List.getElem?_eq_getElem hk, List.getD_eq_getElem?_getD, List.getElem?_eq_getElem hk]; rfl
        subst hS
        walk_at "m"
        dsimp only at eN
        refine ⟨_, g1 1 (by omega), _, rfl, fun f1 => ⟨(fig_text f1).1, _, g1 2 (by omega), _, rfl, fun f2 => ⟨(fig_text f2).1, ?_⟩, fun f2 => q2 ?_⟩, fun f1 => q2 ?_⟩
        · rw [if_pos f1, if_pos f2] at eN
          have ec : cutL (ws.map D.str) (some 3) (some ((endOf ws : Nat) : Int)) = ((ws.take (endOf ws)).drop 3).map D.str := by
            rw [show (some (3 : Int)) = some ((3 : Nat) : Int) from rfl, cut_mid, List.map_drop, List.map_take]
          rw [ec]
          have hlen : ((ws.take (endOf ws)).drop 3).length = endOf ws - 3 := by rw [List.length_drop, List.length_take]; omega
          refine ⟨_, rfl, fun z => ?_, by omega, fun y hy => hx y (List.mem_of_mem_take (List.mem_of_mem_drop hy)), fun d e => ⟨by decide, q1 _ ?_⟩, fun e => q2 ?_⟩
          · rw [z] at hlen; simp only [List.length_nil] at hlen; omega
          · rw [eN, e]
          · rw [eN, e]
        · rw [if_pos f1, if_neg (by rw [f2]; decide)] at eN; exact eN
        · rw [if_neg (by rw [f1]; decide)] at eN; exact eN
      refine ⟨rfl, flatD_strs ws, _, rfl, ?_⟩
      show if inD (D.str gtS) (ws.map D.str) = true then _ else _
      rw [inD_strs]
      by_cases hin : gtS ∈ ws
      · exact ifY (decide_eq_true hin) ⟨rfl, _, _, _, rfl, rfl, rfl, flatD_strs ws, find_end ws hin, go⟩
      · refine ifN (decide_eq_false hin) ?_
        rw [List.length_map, ← end_none ws hin]
        exact go⟩
theorem sc_read_letter : FnScope ["text", "words", "letter", "word"] ["text"] (defScope s_read_letter) := ⟨rfl, rfl, rfl, by decide +kernel, rfl, by decide +kernel, by decide +kernel⟩
theorem ok_read_letter {fd : FuncData} (T : Tx K mg a) (Fu : Fun K "read_letter" "read_letter" s_read_letter a.f_read_letter fd) (bd : Binds K fd ["text"] []) {fd_is_letter : FuncData} (G_is_letter : FnD (GB bagA K) P wd K mg base 6 a.f_is_letter fd_is_letter ["thing"] (sfB isLetterD)) {fd_words_of : FuncData} (G_words_of : FnD (GB bagA K) P wd K mg base 1 a.f_words_of fd_words_of ["text"] (sfWordsG 20000 a.c_NoText)) {fd_number_of : FuncData} (G_number_of : FnD (GB bagA K) P wd K mg base 2 a.f_number_of fd_number_of ["word"] (sfNumOf a.c_NoText)) {fd_next_in : FuncData} (G_next_in : FnD (GB bagA K) P wd K mg base 6 a.f_next_in fd_next_in ["words"] (sfOpt nextOf 20000 a.c_NoText)) :
    FnD (GB bagA K) P wd K mg base 7 a.f_read_letter fd ["text"] (sfOptD letterOf 20000 a.c_NoText) :=
  have sc := sc_read_letter
  fn_data Fu sc bd (fun ds w Q E ⟨x, e, _⟩ => by subst e; rfl) (sfOptD_mono _ _ _) fun cdv A outer s H E en hr => ⟨_, (dscons (dsset 1 sc.nd (dcall G_words_of (hr.mono (by decide)) (takes_of rfl rfl rfl rfl) T.f_words_of (by rfl) (dacons (dvar 0) danil))) (dscons (dsif (dtcmp (o_eq hr) (dix o_ix (dvar 1).u (DE.u dint)).u (DE.u dstr) (nomark _)) (dsone (dsset 2 sc.nd (dcall G_next_in (hr.mono (by decide)) (takes_of rfl rfl rfl rfl) T.f_next_in (by rfl) (dacons (dvar 1) danil)))) (dsone (dsset 2 sc.nd (dtup (dacons (dix o_ix (dvar 1).u (DE.u dint)) (dastarL (dcompX' (own := [("word", 3)]) (takes_of rfl rfl rfl rfl) rfl rfl rfl sc.nd (dilist (dsl o_sl (dvar 1).u (dosome dint) donone).u) (blkOk_by (own := [("word", 3)]) (N := ["text", "words", "letter", "word"]) (sc := defScope s_read_letter) (by decide +kernel)) (grel_name 3) (gwipe_name 3) (fun _ _ _ _ _ _ _ => (pg_name (i := 3) sc.nd rfl (Or.inl rfl))) (fun _ _ _ _ _ _ _ => dtsnil) (fun _ _ _ _ _ _ _ _ tkx => (dcall G_number_of (hr.mono (by decide)) tkx T.f_number_of (by rfl) (dacons (dvar 3) danil)))) danil)))))) (dscons (dsif (dtnot (dtval (dcall G_is_letter (hr.mono (by decide)) (takes_of rfl rfl rfl rfl) T.f_is_letter (by rfl) (dacons (dvar 2) danil)))) (dsone (dsraise rfl (takes_of rfl rfl rfl rfl) (pmk_own PySem.F.excBase_ValueError T.x_NoText T.c_NoText T.k_NoText (raises_own T.b_NoText T.t_NoText) (by exact rfl)))) dsnil) (dsone (dsret (dvar 2)))))),
    fun ds w Q Ed h => by
      obtain ⟨d, e, hp, q1, q2⟩ := h
      subst e
      walk_at "s"
      refine ⟨d, rfl, hp, fun x ex => ?_, q2⟩
      obtain ⟨h1, h2, h3⟩ := q1 x ex
      refine ⟨h1, by decide, ?_⟩
      have lb : LB = 100000 := rfl
      have hne := split_ne (x := x) sep_sp
      have hl := split_few (y := sp) h1
      have hx := split_atx h1 sep_sp
      generalize Txt.split x sp = ws at hne hl hx h2 h3
      walk_at "n"
      have fin : ∀ (o : Option D), letterRaw ws = o → match o with
          | some e => Pl e → inL e → S [some (Ent.val d), some (Ent.val (D.lst (ws.map D.str))), some (Ent.val e), none] w { nx := fun _ w => Q D.non w, rt := Q, ex := fun e _ w => Ed e w }
          | none => Ed a.c_NoText w := fun o eo => by
        cases o with
        | none => exact h3 (by unfold letterOf; rw [eo])
        | some e =>
          intro pe ie
          subst hS
          walk_at "m"
          refine ⟨e, rfl, pe, ie, _, rfl, ?_⟩
          cases hle : isLetterD e with
          | true => exact ifN rfl (h2 e (by unfold letterOf; rw [eo]; exact if_pos hle))
          | false => exact ifY rfl (h3 (by unfold letterOf; rw [eo]; exact if_neg (by rw [hle]; decide)))
      obtain ⟨w0, r, rfl⟩ : ∃ w0 r, ws = w0 :: r := by
        cases ws with
        | nil => exact absurd rfl hne
        | cons w0 r => exact ⟨w0, r, rfl⟩
      refine ⟨_, atI_0 _ _, ok_str _ _, ?_⟩
      rw [eqD_str]
      by_cases hn : w0 = Str.ofString "next"
      · refine ifY (decide_eq_true hn) ?_
        have er : letterRaw (w0 :: r) = nextOf (w0 :: r) := if_pos (by rw [hn]; rfl)
        refine ⟨_, rfl, hne, hl, hx, fun e ee => ?_, fun ee => fin none (er.trans ee)⟩
        obtain ⟨p1, p2⟩ := next_pl ee (by omega)
        exact fin (some e) (er.trans ee) p1 p2
      · refine ifN (decide_eq_false hn) ⟨_, atI_0 _ _, ?_⟩
        have er : letterRaw (w0 :: r) = if r.all figOk = true then some (.tup (.str w0 :: numsD r)) else none := if_neg (fun z => hn (by cases z; rfl))
        walk_at "u"
        rw [List.length_cons] at hl
        have cs : cutL (D.str w0 :: r.map D.str) (some 1) none = r.map D.str := cut_suf _ 1
        rw [cs]
        refine ⟨by rw [List.length_map]; omega, ?_⟩
        refine compLX_try (fun d => match d with | .str y => figOk y | _ => false) (fun d => match d with | .str y => .int (numOf y) | _ => d) _ _ (fun d hd hg Q' q' => ?_) (fun d hd hg Q' => ?_) fun hall => ?_
        · obtain ⟨y, hy, rfl⟩ := List.mem_map.mp hd
          walk_at "m"
          have hg' : figOk y = true := hg
          exact ⟨y, rfl, fun _ => ⟨(fig_text hg').1, q'⟩, fun z => absurd hg' (by rw [z]; decide)⟩
        · obtain ⟨y, hy, rfl⟩ := List.mem_map.mp hd
          walk_at "m"
          have hg' : figOk y = false := hg
          have no := fin none (er.trans (if_neg fun z => by rw [List.all_eq_true] at z; have := z y hy; rw [hg'] at this; cases this))
          exact ⟨y, rfl, fun z => absurd hg' (by rw [z]; decide), fun _ => no⟩
        · rw [List.nil_append, List.map_map]
          have ha : r.all figOk = true := by rw [List.all_map] at hall; exact hall
          have em : r.map ((fun d => match d with | .str y => .int (numOf y) | _ => d) ∘ D.str) = numsD r := rfl
          rw [em]
          refine ⟨by unfold numsD; rw [List.length_map]; omega, fin (some _) (er.trans (if_pos ha)) ?_ ?_⟩
          · refine .tup fun d hd => ?_
            rcases List.mem_cons.mp hd with rfl | hd
            · exact .str _
            · exact pl_nums r d hd
          · intro x ex y hy
            cases ex
            rcases List.mem_cons.mp hy with rfl | hy
            · exact Nat.zero_le _
            · obtain ⟨z, _, rfl⟩ := List.mem_map.mp hy
              exact Nat.zero_le _⟩
theorem sc__law_bag : FnScope ["_law_script", "_law_great", "_law_lesser", "_law_stir", "_law_cell"] ["_law_script"] (defScope s__law_bag) := ⟨rfl, rfl, rfl, by decide +kernel, rfl, by decide +kernel, by decide +kernel⟩
theorem ok__law_bag {fd : FuncData} (T : Tx K mg a) (Fu : Fun K "_law_bag" "_law_bag" s__law_bag a.f__law_bag fd) (bd : Binds K fd ["_law_script"] []) :
    FnD (GB bagA K) P wd K mg base 1 a.f__law_bag fd ["_law_script"] sfBag :=
  have sc := sc__law_bag
  fn_data Fu sc bd (fun ds w Q E ⟨e, _⟩ => by subst e; rfl) sfBag_mono fun cdv A outer s H E en hr => ⟨_, (dscons (dssetLcN' 1 (own := [("_law_cell", 4)]) rfl sc.nd (dilist (dscr 0).u) (blkOk_by (own := [("_law_cell", 4)]) (N := ["_law_script", "_law_great", "_law_lesser", "_law_stir", "_law_cell"]) (sc := defScope s__law_bag) (by decide +kernel)) (grel_name 4) (gwipe_name 4) (fun _ _ _ _ _ => (pg_name (i := 4) sc.nd rfl (Or.inl rfl))) (fun _ _ _ _ _ => (dtsone (dtcmp o_ge (dvar 4).u (dop o_pow (DE.u dint) (DE.u dint)).u (nomark _)))) (fun _ _ _ _ _ => (dop o_sub (dvar 4).u (dop o_pow (DE.u dint) (DE.u dint)).u))) (dscons (dssetLc' 2 (own := [("_law_cell", 4)]) rfl sc.nd (dilist (dscr 0).u) (blkOk_by (own := [("_law_cell", 4)]) (N := ["_law_script", "_law_great", "_law_lesser", "_law_stir", "_law_cell"]) (sc := defScope s__law_bag) (by decide +kernel)) (grel_name 4) (gwipe_name 4) (fun _ _ _ _ _ => (pg_name (i := 4) sc.nd rfl (Or.inl rfl))) (fun _ _ _ _ _ => (dtsone (dtcmp o_lt (dvar 4).u (dop o_pow (DE.u dint) (DE.u dint)).u (nomark _)))) (fun _ _ _ _ _ => (dop o_mod (dvar 4).u (dop o_pow (DE.u dint) (DE.u dint)).u))) (dscons (dsset 3 sc.nd dint) (dscons (dsforL (passes_of rfl) (dvar 2) (pg_name (i := 4) sc.nd rfl (Or.inl rfl)) (grel_name 4) (dsone (dsset 3 sc.nd (dop o_mod (dop o_pow (dop o_add (dop o_add (dvar 3).u (dvar 4).u).u (DE.u dint)).u (DE.u dint)).u (DE.u dint))))) (dscons (dsretbag 1 2 3 (PE.imp (pe_lst (pa_cons (pv 1) (pa_cons (pe_op op_cat (pv 2) (pe_lst (pa_cons pe_int pa_nil))) (pa_cons pe_int (pa_cons (pv 3) pa_nil))))) fun σ H Q ⟨a0, l, xs, st, e1, e2, e3, h, hl, q⟩ =>
    ⟨_, e1, _, e2, by decide, fun t ht => ⟨l, t, xs, [.int 0], rfl, rfl, by rw [upd_ne (ne_of_none h ht)]; exact h, upd_same, bag63 hl, fun p1 hp1 => ⟨_, e3, (show 4 ≤ sizeLine by decide), fun p hp => q t ht p1 hp1 p hp⟩⟩⟩)) dsnil))))),
    fun ds w Q Ed h => by
      obtain ⟨e, hb, q⟩ := h
      subst e
      walk_at "m"
      refine ⟨rfl, fun hl _ => ⟨_, rfl, by rw [List.length_map]; exact Nat.le_trans hl (by decide), ?_⟩⟩
      obtain ⟨gg, gl⟩ := great_ok w.ns hl
      obtain ⟨lg, ll⟩ := less_ok w.ns hl
      refine compL_filter geD subD _ _ (fun d hd Q' q' => ?_) (fun d hd _ Q' q' => ?_) ?_
      · obtain ⟨i, rfl, _⟩ := ints_mem hd
        walk_at "m"
        exact ⟨pow18, q'⟩
      · obtain ⟨i, rfl, _⟩ := ints_mem hd
        walk_at "m"
        exact ⟨pow18, q'⟩
      rw [List.nil_append, great_eq]
      refine ⟨_, rfl, ?_⟩
      refine ⟨rfl, fun _ _ => ⟨_, rfl, by rw [List.length_map]; exact Nat.le_trans hl (by decide), ?_⟩⟩
      refine compL_filter ltD modD _ _ (fun d hd Q' q' => ?_) (fun d hd _ Q' q' => ?_) ?_
      · obtain ⟨i, rfl, _⟩ := ints_mem hd
        walk_at "m"
        exact ⟨pow18, q'⟩
      · obtain ⟨i, rfl, _⟩ := ints_mem hd
        walk_at "m"
        exact ⟨pow18, q'⟩
      rw [List.nil_append, less_eq]
      refine ⟨_, rfl, _, rfl, ?_⟩
      refine loopS_go (fun pre ds ρ w' => w' = w ∧ (∀ d ∈ ds, ∃ l : Int, d = .int l ∧ 0 ≤ l ∧ l < 10 ^ 18) ∧ ∃ (st : Int) (x : Option Ent), 0 ≤ st ∧ st < MB ∧ ρ = [some (Ent.val (D.hnd w.sc)), some (Ent.own (List.map D.int (greatOf w.ns))), some (Ent.val (.lst (List.map D.int (lessOf w.ns)))), some (Ent.val (D.int st)), x]) ?_ ?_ _ [] _ _ ?_
      · rintro d pre ds ρ w' R B ⟨rfl, hd, st, x, s0, s1, rfl⟩ go _
        obtain ⟨l, rfl, l0, l1⟩ := hd d List.mem_cons_self
        walk_at "m"
        refine ⟨pow7 (by omega) (by unfold MB at s1; omega), go _ _ ⟨rfl, fun y hy => hd y (List.mem_cons_of_mem _ hy), _, _, ?_, ?_, rfl⟩⟩
        · exact Int.emod_nonneg _ (by decide)
        · exact Int.emod_lt_of_pos _ (by decide)
      · rintro pre ρ w' ⟨rfl, _, st, x, s0, s1, rfl⟩
        exact ⟨greatOf w'.ns, lessOf w'.ns, st, rfl, rfl, rfl, hb, gg, gl, ll, lg, s0, s1, q⟩
      · exact ⟨rfl, fun d hd => by obtain ⟨i, rfl, hi⟩ := ints_mem hd; exact ⟨i, rfl, lg i hi⟩, 5, none, by decide, by decide, rfl⟩⟩
theorem scDraw : FnScope ["_law_bag_here", "_law_many", "_law_found", "_law_cell"] ["_law_bag_here", "_law_many"] (defScope s__law_draw) := ⟨rfl, rfl, rfl, by decide +kernel, rfl, by decide +kernel, by decide +kernel⟩
theorem ok_draw {f : Addr} {fd : FuncData} (Fu : Fun K "_law_draw" "_law_draw" s__law_draw f fd) (bd : Binds K fd ["_law_bag_here", "_law_many"] []) (len : mg "len" = none) : FnD (GB bagA K) P wd K mg base 1 f fd ["_law_bag_here", "_law_many"] sfDraw where
  mono := sfDraw_mono
  kp := Fu.kp
  bd := bd
  ok := by
    refine fn_g Fu scDraw (fun vs H Q E ⟨A, F, ds, w, Ed, k, r, x, b, j, e, _⟩ => by subst e; exact r.length) fun cdv Ar outer s H vs Q E hr ⟨A, F, ds, w, Ed, k, r, x, b, j, e, hbag, hj, hj2, hn, q⟩ => ?_
    subst e
    cases r with
    | cons r1 r => cases r with
      | cons r2 r => cases r with
        | nil =>
          cases r1
          cases r2
          obtain ⟨hsc, hsl, hbits, hbg, hob⟩ := k.wi
          obtain ⟨b0, b1, gs, ls, c, st, e1, e2, e3, a1, a2, a3, n1, n2, n3, g1, g2, l1, l2, l3, c0, c1, s0, s1⟩ := hbg b hbag
          refine ⟨_, (pss_cons (ps_while PassesOwn.never (PW.pt (pw_and (pt_cmpR (op_neD hr.units) (pe_ix ix_list (pv 0) pe_int (fun _ _ => rfl)) (pe_lst pa_nil) (nomark _)) (pw_and1 (pt_cmpR op_eq (pe_ix ix_list (pe_ix ix_list (pv 0) pe_int (fun _ _ => rfl)) pe_int (fun _ _ => rfl)) pe_int (nomark _)))))
            (pss_one (ps_expr (pe_bm PySem.F.plainAttrs_list PySem.F.slot_list_pop PySem.F.type_list_pop mt_popAt (pe_ix ix_list (pv 0) pe_int (fun _ _ => rfl)) (pa_cons pe_int pa_nil)))))
            (pss_cons (ps_if (pt_cmpR (op_neD hr.units) (pe_ix ix_list (pv 0) pe_int (fun _ _ => rfl)) (pe_lst pa_nil) (nomark _))
              (pss_cons (ps_set (i := 2) scDraw.nd rfl (.inl rfl) (pe_op op_mod (pe_ix ix_list (pe_ix ix_list (pv 0) pe_int (fun _ _ => rfl)) pe_int (fun _ _ => rfl)) (pv 1)))
              (pss_cons (ps_asg (pe_op op_fdivW (pe_ix ix_list (pe_ix ix_list (pv 0) pe_int (fun _ _ => rfl)) pe_int (fun _ _ => rfl)) (pv 1)) (pg_sub (pe_ix ix_list (pv 0) pe_int (fun _ _ => rfl)) pe_int set_list))
              (pss_one (ps_ret (pv 2))))) pss_nil)
            (pss_cons (ps_asg (pe_op op_add (pe_ix ix_list (pv 0) pe_int (fun _ _ => rfl)) pe_int) (pg_sub (pv 0) pe_int set_list))
            (pss_cons (ps_set (i := 3) scDraw.nd rfl (.inl rfl) (pe_ix ix_list (pe_ix ix_list (pv 0) pe_int (fun _ _ => rfl)) (pe_op op_mod (pe_ix ix_list (pv 0) pe_int (fun _ _ => rfl)) (pe_callB call_len_seq (by rfl) len PySem.boot_len (pa_cons (pe_ix ix_list (pv 0) pe_int (fun _ _ => rfl)) pa_nil))) (fun _ _ => rfl)))
            (pss_cons (ps_asg (pe_op op_mod (pe_op op_powW (pe_op op_add (pe_ix ix_list (pv 0) pe_int (fun _ _ => rfl)) (pe_op op_mulX (pe_op op_add (pv 3) (pe_op op_mul pe_int (pe_ix ix_list (pv 0) pe_int (fun _ _ => rfl)))) (pe_op op_add (pe_op op_mul pe_int (pe_ix ix_list (pv 0) pe_int (fun _ _ => rfl))) pe_int))) pe_int) pe_int) (pg_sub (pv 0) pe_int set_list))
            (pss_one (ps_ret (pe_op op_mod (pe_op op_fdiv (pe_ix ix_list (pv 0) pe_int (fun _ _ => rfl)) pe_int) (pv 1))))))))).nox, ?_⟩
          have lk : ∀ {H1 : Hp} {gs1 : List Int} {c1 st1 : Int}, Bg H1 (Rest w.h A) b b0 b1 gs1 ls c1 st1 → SqL K H1 b [.ref b0, .ref b1, .int c1, .int st1] := fun B => SqL.of B.h
          refine ⟨fun m σ1 H1 => σ1 = [some (.ref b), some (.int j), none, none] ∧ ∃ gs1 : List Int, gs1.length = m ∧ Bg H1 (Rest w.h A) b b0 b1 gs1 ls c st ∧ Kp (Rest w.h A) H H1, ⟨_, rfl, gs, rfl, ⟨e1, e2, e3, a1, a2, a3, n1, n2, n3, g1, g2, l1, l2, l3, s0, s1⟩, ⟨fun _ _ h _ => h, fun _ h => h⟩⟩, ?_⟩
          rintro m σ1 H1 ⟨rfl, gs1, hm, B, kp⟩
          refine ⟨_, rfl, b, _, 0, _, rfl, rfl, lk B, rfl, Nat.zero_le _, fun p hp => ?_⟩
          have B1 := B.new (o := .lst []) hp
          have kp1 := kp.new (o := .lst []) hp
          refine ⟨.list (gs1.map PyData.int), .list [], .lst (SqL.of B1.h0) (dp_ints gs1), .lst (SqL.of upd_same) .nil, shaped_ints gs1, by decide, _, rfl, ?_⟩
          rw [eqv_nil]
          cases gs1 with
          | nil =>
            refine iteF ?_
            refine ⟨_, rfl, b, _, 0, _, rfl, rfl, lk B1, rfl, Nat.zero_le _, fun p2 hp2 => ?_⟩
            have B2 := B1.new (o := .lst []) hp2
            have kp2 := kp1.new (o := .lst []) hp2
            refine ⟨.list (([] : List Int).map PyData.int), .list [], .lst (SqL.of B2.h0) (dp_ints []), .lst (SqL.of upd_same) .nil, shaped_ints [], by decide, _, rfl, ?_⟩
            rw [eqv_nil]
            refine iteF ?_
            -- bag[2] = bag[2] + 1
            refine ⟨_, rfl, b, _, 2, _, rfl, rfl, lk B2, rfl, _, _, rfl, rfl, _, rfl, b, _, 2, 2, rfl, rfl, B2.h, rfl, ?_⟩
            have B3 := B2.setb (c' := c + 1) B2.s0 B2.s1
            have kp3 := kp2.set (o := .lst [.ref b0, .ref b1, .int (c + 1), .int st]) B2.a
            -- cell
            have hll : 0 < (ls.length : Int) := by
              have := List.length_pos_iff.mpr l1
              omega
            obtain ⟨i, hi⟩ : ∃ i : Nat, (c + 1) % (ls.length : Int) = i ∧ i < ls.length := by
              have h0 := Int.emod_nonneg (c + 1) (show (ls.length : Int) ≠ 0 by omega)
              have h1 := Int.emod_lt_of_pos (c + 1) hll
              exact ⟨((c + 1) % (ls.length : Int)).toNat, by omega, by omega⟩
            have hcell : (ls.map V.int)[i]? = some (.int ls[i]) := by rw [List.getElem?_map, List.getElem?_eq_getElem hi.2]; rfl
            have hlb := l3 ls[i] (List.getElem_mem hi.2)
            refine ⟨_, rfl, b, _, 1, _, rfl, rfl, lk B3, rfl, _, rfl, b, _, 2, _, rfl, rfl, lk B3, rfl, _, rfl, b, _, 1, _, rfl, rfl, lk B3, rfl, b1, _, rfl, .inl (SqL.of B3.h1), ?_⟩
            refine ⟨c + 1, (ls.length : Int), rfl, by rw [List.length_map], hll, b1, _, (i : Int), .int ls[i], rfl, (by show V.int ((c + 1) % (ls.length : Int)) = V.int i; rw [hi.1]), SqL.of B3.h1, atI_nat hcell, ?_⟩
            -- bag[3] = ..
            generalize ls[i] = ce at hlb
            have hcn : c ≤ 2 ^ 60 := by omega
            have bx : (ce + 3 * (c + 1)).natAbs < 2 ^ 64 := by omega
            have by' : (2 * (c + 1) + 1).natAbs < 2 ^ 64 := by omega
            have hM : MB < 2 ^ 90 := by decide
            have bz : (st + (ce + 3 * (c + 1)) * (2 * (c + 1) + 1)).natAbs < 2 ^ 129 := by
              have h1 := wide_lt bx by'
              have h2 : st.natAbs < 2 ^ 90 := by omega
              omega
            have hpow : CPowW (st + (ce + 3 * (c + 1)) * (2 * (c + 1) + 1)) 7 := by
              refine ⟨by decide, ?_⟩
              have h1 := PySem.Flt.log2_lt_of (by decide) bz
              have h2 : Builtin.Int.intBits (st + (ce + 3 * (c + 1)) * (2 * (c + 1) + 1)) ≤ (st + (ce + 3 * (c + 1)) * (2 * (c + 1) + 1)).natAbs.log2 + 1 := by
                unfold Builtin.Int.intBits
                split <;> omega
              omega
            refine ⟨_, rfl, b, _, 3, _, rfl, rfl, lk B3, rfl, _, rfl, _, rfl, b, _, 2, _, rfl, rfl, lk B3, rfl, 3, c + 1, rfl, rfl, .inl ⟨by decide, by decide⟩, ce, 3 * (c + 1), rfl, rfl, ?_⟩
            refine ⟨_, rfl, b, _, 2, _, rfl, rfl, lk B3, rfl, 2, c + 1, rfl, rfl, .inl ⟨by decide, by decide⟩, 2 * (c + 1), 1, rfl, rfl, ce + 3 * (c + 1), 2 * (c + 1) + 1, rfl, rfl, mulx_ok bx by' (by decide), st, _, rfl, rfl, _, 7, rfl, rfl, hpow, _, MB, rfl, rfl, (by show (0 : Int) < MB; decide), ?_⟩
            have r0 : 0 ≤ (st + (ce + 3 * (c + 1)) * (2 * (c + 1) + 1)) ^ Int.toNat 7 % MB := Int.emod_nonneg _ (by decide)
            have r1 : (st + (ce + 3 * (c + 1)) * (2 * (c + 1) + 1)) ^ Int.toNat 7 % MB < MB := Int.emod_lt_of_pos _ (by decide)
            refine ⟨_, rfl, b, _, 3, 3, rfl, rfl, B3.h, rfl, ?_⟩
            have B4 := B3.setb (c' := c + 1) r0 r1
            have kp4 := kp3.set (o := .lst [.ref b0, .ref b1, .int (c + 1), .int ((st + (ce + 3 * (c + 1)) * (2 * (c + 1) + 1)) ^ Int.toNat 7 % MB)]) B3.a
            refine ⟨_, rfl, b, _, 3, _, rfl, rfl, lk B4, rfl, _, 65536, rfl, rfl, ⟨by decide, by decide⟩, _, rfl, _, j, rfl, rfl, hj, ?_⟩
            obtain ⟨s4, k4⟩ := B4.step (m := w.n + 1) k kp4 hbag (by omega) (by omega)
            exact q _ (w.n + 1) (Int.emod_nonneg _ (by omega)) (Int.emod_lt_of_pos _ hj) (Nat.le_succ _) (Nat.le_refl _) _ _ A F s4 k4 (.int _)
          | cons g gs2 =>
            refine iteT ?_
            refine ⟨_, rfl, b, _, 0, _, rfl, rfl, lk B1, rfl, b0, _, 0, .int g, rfl, rfl, SqL.of B1.h0, atI_nat (j := 0) rfl, rfl, _, rfl, ?_⟩
            by_cases hg : g = 0
            · subst hg
              refine iteT ?_
              refine ⟨fun σ' H' => σ' = [some (.ref b), some (.int j), none, none] ∧ Bg H' (Rest w.h A) b b0 b1 gs2 ls c st ∧ Kp (Rest w.h A) H H', fun σ' H' ⟨h1, h2, h3⟩ => ⟨gs2.length, by rw [← hm]; exact Nat.lt_succ_self _, h1, gs2, rfl, h2, h3⟩, ?_⟩
              refine ⟨_, rfl, b, _, 0, _, rfl, rfl, lk B1, rfl, .inl ⟨rfl, _, SqL.of B1.h0⟩, b0, _, 0, 0, _, rfl, rfl, B1.h0, by decide, by decide, ?_, rfl, ?_⟩
              · exact (ixN_seq (ixN_cons 0 gs2)).1
              · refine ⟨rfl, ?_, kp1.set B1.a0⟩
                exact B1.setg (fun g' h' => B1.g g' (List.mem_cons_of_mem _ h')) (Nat.le_of_succ_le B1.gl)
            · have hd : decide (V.int g = V.int 0) = false := decide_eq_false fun e => hg (V.int.inj e)
              rw [hd]
              refine iteF ?_
              refine ⟨_, rfl, b, _, 0, _, rfl, rfl, lk B1, rfl, Nat.zero_le _, fun p2 hp2 => ?_⟩
              have B2 := B1.new (o := .lst []) hp2
              have kp2 := kp1.new (o := .lst []) hp2
              refine ⟨.list ((g :: gs2).map PyData.int), .list [], .lst (SqL.of B2.h0) (dp_ints (g :: gs2)), .lst (SqL.of upd_same) .nil, shaped_ints (g :: gs2), by decide, _, rfl, ?_⟩
              rw [eqv_nil]
              refine iteT ?_
              have hg0 := B2.g g List.mem_cons_self
              refine ⟨_, rfl, b, _, 0, _, rfl, rfl, lk B2, rfl, b0, _, 0, .int g, rfl, rfl, SqL.of B2.h0, atI_nat (j := 0) rfl, _, rfl, g, j, rfl, rfl, hj, ?_⟩
              refine ⟨_, rfl, b, _, 0, _, rfl, rfl, lk B2, rfl, b0, _, 0, .int g, rfl, rfl, SqL.of B2.h0, atI_nat (j := 0) rfl, _, rfl, g, j, rfl, rfl, wide_div hj (b := 500) (by omega) (by decide) (by decide), ?_⟩
              refine ⟨_, rfl, b, _, 0, _, rfl, rfl, lk B2, rfl, b0, _, 0, 0, rfl, rfl, B2.h0, ixN_cons g gs2, ?_⟩
              have B3 := B2.setg (gs' := g / j :: gs2) (fun g' h' => (List.mem_cons.mp h').elim (fun e => e ▸ Int.ediv_nonneg hg0 (Int.le_of_lt hj)) fun h' => B2.g g' (List.mem_cons_of_mem _ h')) B2.gl
              have kp3 := kp2.set (o := .lst ((g / j :: gs2).map V.int)) B2.a0
              refine ⟨_, rfl, ?_⟩
              obtain ⟨s4, k4⟩ := B3.step (m := w.n) k kp3 hbag c0 c1
              exact q _ w.n (Int.emod_nonneg _ (by omega)) (Int.emod_lt_of_pos _ hj) (Nat.le_refl _) (Nat.le_succ _) _ _ A F s4 k4 (.int _)
theorem sc__law_count : FnScope ["_law_bag_here", "_law_choice"] ["_law_bag_here"] (defScope s__law_count) := ⟨rfl, rfl, rfl, by decide +kernel, rfl, by decide +kernel, by decide +kernel⟩
theorem ok__law_count {fd : FuncData} (T : Tx K mg a) (Fu : Fun K "_law_count" "_law_count" s__law_count a.f__law_count fd) (bd : Binds K fd ["_law_bag_here"] []) {fd__law_draw : FuncData} (G__law_draw : FnD (GB bagA K) P wd K mg base 1 a.f__law_draw fd__law_draw ["_law_bag_here", "_law_many"] sfDraw) :
    FnD (GB bagA K) P wd K mg base 2 a.f__law_count fd ["_law_bag_here"] (sfCnt 1000000000000000) :=
  have sc := sc__law_count
  fn_data Fu sc bd (fun ds w Q E ⟨b, e, _⟩ => by subst e; rfl) sfCnt_mono fun cdv A outer s H E en hr => ⟨_, (dscons (dsset 1 sc.nd (dcall G__law_draw (hr.mono (by decide)) (takes_of rfl rfl rfl rfl) T.f__law_draw (by rfl) (dacons (dvar 0) (dacons dint danil)))) (dscons (dsif (dtcmp o_lt (dvar 1).u (DE.u dint) (nomark _)) (dsone (dsret (dcall G__law_draw (hr.mono (by decide)) (takes_of rfl rfl rfl rfl) T.f__law_draw (by rfl) (dacons (dvar 0) (dacons (dix o_ix (dlst (dacons dint (dacons dint danil))).u (dvar 1).u) danil))))) dsnil) (dscons (dsif (dtcmp (o_eq hr) (dvar 1).u (DE.u dint) (nomark _)) (dsone (dsret (dop o_sub (dop o_sub (dop o_pow (DE.u dint) (DE.u dint)).u (DE.u dint)).u (dcall G__law_draw (hr.mono (by decide)) (takes_of rfl rfl rfl rfl) T.f__law_draw (by rfl) (dacons (dvar 0) (dacons dint danil))).u))) dsnil) (dsone (dsret (dcall G__law_draw (hr.mono (by decide)) (takes_of rfl rfl rfl rfl) T.f__law_draw (by rfl) (dacons (dvar 0) (dacons (dix o_ix (dlst (dacons dint (dacons (dop o_pow (DE.u dint) (DE.u dint)) danil))).u (dop o_sub (dvar 1).u (DE.u dint)).u) danil)))))))),
    fun ds w Q Ed h => by
      obtain ⟨b, e, hb, hn, q⟩ := h
      subst e
      walk_at "m"
      refine draw_at (n := w.n) hb (by decide) (by decide) (by omega) fun r m h0 h1 h2 h3 => ?_
      rcases (by omega : r = 0 ∨ r = 1 ∨ r = 2 ∨ r = 3 ∨ r = 4) with rfl | rfl | rfl | rfl | rfl <;> walk_at "m"
      · exact ⟨by decide, draw_at hb (by decide) (by decide) (by omega) fun r2 m2 g0 g1 g2 g3 => q r2 m2 g0 (by omega) (by omega) (by omega)⟩
      · exact ⟨by decide, draw_at hb (by decide) (by decide) (by omega) fun r2 m2 g0 g1 g2 g3 => q r2 m2 g0 (by omega) (by omega) (by omega)⟩
      · exact ⟨by unfold CPowW; decide +kernel, draw_at hb (by decide) (by decide) (by omega) fun r2 m2 g0 g1 g2 g3 => ⟨r2, rfl, q _ m2 (by omega) (by omega) (by omega) (by omega)⟩⟩
      · exact ⟨by unfold CPowW; decide +kernel, by decide, draw_at hb (by decide) (by decide) (by omega) fun r2 m2 g0 g1 g2 g3 => q r2 m2 g0 (by omega) (by omega) (by omega)⟩
      · exact ⟨by unfold CPowW; decide +kernel, by decide, draw_at hb (by decide) (by decide) (by omega) fun r2 m2 g0 g1 g2 g3 => q r2 m2 g0 (by omega) (by omega) (by omega)⟩⟩
theorem sc__law_step : FnScope ["_law_bag_here", "_law_word", "_law_giver"] ["_law_bag_here"] (defScope s__law_step) := ⟨rfl, rfl, rfl, by decide +kernel, rfl, by decide +kernel, by decide +kernel⟩
theorem ok__law_step {fd : FuncData} (T : Tx K mg a) (Fu : Fun K "_law_step" "_law_step" s__law_step a.f__law_step fd) (bd : Binds K fd ["_law_bag_here"] []) {fd__law_draw : FuncData} (G__law_draw : FnD (GB bagA K) P wd K mg base 1 a.f__law_draw fd__law_draw ["_law_bag_here", "_law_many"] sfDraw) {fd__law_count : FuncData} (G__law_count : FnD (GB bagA K) P wd K mg base 2 a.f__law_count fd__law_count ["_law_bag_here"] (sfCnt 1000000000000000)) :
    FnD (GB bagA K) P wd K mg base 3 a.f__law_step fd ["_law_bag_here"] sfStepS :=
  have sc := sc__law_step
  fn_data Fu sc bd (fun ds w Q E ⟨b, e, _⟩ => by subst e; rfl) sfStepS_mono fun cdv A outer s H E en hr => ⟨_, (dscons (dsset 1 sc.nd (dix o_ix (dlst (dacons dstr (dacons dstr (dacons dstr (dacons dstr (dacons dstr danil)))))).u (dcall G__law_draw (hr.mono (by decide)) (takes_of rfl rfl rfl rfl) T.f__law_draw (by rfl) (dacons (dvar 0) (dacons dint danil))).u)) (dscons (dsset 2 sc.nd (dix o_ix (dlst (dacons dstr (dacons dstr danil))).u (dcall G__law_draw (hr.mono (by decide)) (takes_of rfl rfl rfl rfl) T.f__law_draw (by rfl) (dacons (dvar 0) (dacons dint danil))).u)) (dscons (dsif (dtcmp (o_eq hr) (dvar 1).u (DE.u dstr) (nomark _)) (dsone (dsret (dtup (dacons (dvar 1) (dacons (dvar 2) (dacons (dcallB (o_max2 rfl) T.n_max (by decide +kernel) (by rfl) (daucons (DE.u dint) (daucons (dcall G__law_count (hr.mono (by decide)) (takes_of rfl rfl rfl rfl) T.f__law_count (by rfl) (dacons (dvar 0) danil)).u daunil))) danil)))))) dsnil) (dscons (dsif (dtcmp (o_eq hr) (dvar 1).u (DE.u dstr) (nomark _)) (dsone (dsret (dtup (dacons (dvar 1) (dacons (dvar 2) (dacons (dcallB (o_max2 rfl) T.n_max (by decide +kernel) (by rfl) (daucons (DE.u dint) (daucons (dcall G__law_count (hr.mono (by decide)) (takes_of rfl rfl rfl rfl) T.f__law_count (by rfl) (dacons (dvar 0) danil)).u daunil))) (dacons (dcall G__law_count (hr.mono (by decide)) (takes_of rfl rfl rfl rfl) T.f__law_count (by rfl) (dacons (dvar 0) danil)) (dacons (dcall G__law_count (hr.mono (by decide)) (takes_of rfl rfl rfl rfl) T.f__law_count (by rfl) (dacons (dvar 0) danil)) danil)))))))) dsnil) (dscons (dsif (dtcmp (o_eq hr) (dvar 1).u (DE.u dstr) (nomark _)) (dsone (dsret (dtup (dacons (dvar 1) (dacons (dcallB (o_max2 rfl) T.n_max (by decide +kernel) (by rfl) (daucons (DE.u dint) (daucons (dcall G__law_count (hr.mono (by decide)) (takes_of rfl rfl rfl rfl) T.f__law_count (by rfl) (dacons (dvar 0) danil)).u daunil))) (dacons (dcall G__law_count (hr.mono (by decide)) (takes_of rfl rfl rfl rfl) T.f__law_count (by rfl) (dacons (dvar 0) danil)) danil)))))) dsnil) (dsone (dsret (dif (dtcmp (o_eq hr) (dvar 1).u (DE.u dstr) (nomark _)) (dtup (dacons (dvar 1) (dacons (dcallB (o_max2 rfl) T.n_max (by decide +kernel) (by rfl) (daucons (DE.u dint) (daucons (dcall G__law_count (hr.mono (by decide)) (takes_of rfl rfl rfl rfl) T.f__law_count (by rfl) (dacons (dvar 0) danil)).u daunil))) danil))) (dtup (dacons (dvar 1) danil)))))))))),
    fun ds w Q Ed h => by
      obtain ⟨b, e, hb, hn, q⟩ := h
      subst e
      have i1 : ∀ c : Int, c < 1000000000000000 → 1 ≤ (if c > 1 then c else 1) ∧ (if c > 1 then c else 1) < 1000000000000000 := fun c hc => by split <;> omega
      walk_at "m"
      refine ⟨by decide, draw_at (n := w.n) hb (by decide) (by decide) (by omega) fun r m h0 h1 h2 h3 => ?_⟩
      have hsd : ∀ r2 : Int, 0 ≤ r2 → r2 < 2 → ∃ l, atI [D.str (Str.ofString "left"), D.str (Str.ofString "right")] r2 = some (.str (sideS l)) := fun r2 a0 a1 => by
        rcases (by omega : r2 = 0 ∨ r2 = 1) with rfl | rfl
        · exact ⟨true, atI_0 _ _⟩
        · exact ⟨false, atI_1 _ _ _⟩
      rcases (by omega : r = 0 ∨ r = 1 ∨ r = 2 ∨ r = 3 ∨ r = 4) with rfl | rfl | rfl | rfl | rfl
      · refine ⟨_, atI_0 _ _, by decide, draw_at hb (by decide) (by decide) (by omega) fun r2 m2 a0 a1 a2 a3 => ?_⟩
        obtain ⟨l, el⟩ := hsd r2 a0 a1
        refine ⟨_, el, ?_⟩
        walk_at "m"
        refine cnt_at hb (by omega) fun c m3 c0 c1 c2 c3 => ⟨_, _, ⟨rfl, rfl⟩, by decide, q (.pay l _) m3 (i1 c c1).1 (i1 c c1).2 (by omega) (by omega)⟩
      · refine ⟨_, atI_1 _ _ _, by decide, draw_at hb (by decide) (by decide) (by omega) fun r2 m2 a0 a1 a2 a3 => ?_⟩
        obtain ⟨l, el⟩ := hsd r2 a0 a1
        refine ⟨_, el, ?_⟩
        walk_at "m"
        refine cnt_at hb (by omega) fun c m3 c0 c1 c2 c3 => ⟨_, _, ⟨rfl, rfl⟩, cnt_at hb (by omega) fun d m4 d0 d1 d2 d3 => cnt_at hb (by omega) fun f m5 f0 f1 f2 f3 => ⟨by decide, q (.lock l _ d f) m5 ⟨(i1 c c1).1, d0, f0⟩ ⟨(i1 c c1).2, d1, f1⟩ (by omega) (by omega)⟩⟩
      · refine ⟨_, atI_2 _ _ _ _, by decide, draw_at hb (by decide) (by decide) (by omega) fun r2 m2 a0 a1 a2 a3 => ?_⟩
        obtain ⟨l, el⟩ := hsd r2 a0 a1
        refine ⟨_, el, ?_⟩
        walk_at "m"
        refine cnt_at hb (by omega) fun c m3 c0 c1 c2 c3 => ⟨_, _, ⟨rfl, rfl⟩, cnt_at hb (by omega) fun d m4 d0 d1 d2 d3 => ⟨by decide, q (.fold _ d) m4 ⟨(i1 c c1).1, d0, Int.lt_trans d1 (by decide +kernel)⟩ ⟨(i1 c c1).2, d1⟩ (by omega) (by omega)⟩⟩
      · refine ⟨_, atI_3 _ _ _ _ _, by decide, draw_at hb (by decide) (by decide) (by omega) fun r2 m2 a0 a1 a2 a3 => ?_⟩
        obtain ⟨l, el⟩ := hsd r2 a0 a1
        refine ⟨_, el, ?_⟩
        walk_at "m"
        refine cnt_at hb (by omega) fun c m3 c0 c1 c2 c3 => ⟨_, _, ⟨rfl, rfl⟩, by decide, q (.drop _) m3 (i1 c c1).1 (i1 c c1).2 (by omega) (by omega)⟩
      · refine ⟨_, atI_4 _ _ _ _ _ _, by decide, draw_at hb (by decide) (by decide) (by omega) fun r2 m2 a0 a1 a2 a3 => ?_⟩
        obtain ⟨l, el⟩ := hsd r2 a0 a1
        refine ⟨_, el, ?_⟩
        walk_at "m"
        exact ⟨by decide, q .pass m2 trivial trivial (by omega) (by omega)⟩⟩
theorem sc__law_hops : FnScope ["_law_bag_here", "_law_most", "_law_found", "_law_k"] ["_law_bag_here", "_law_most"] (defScope s__law_hops) := ⟨rfl, rfl, rfl, by decide +kernel, rfl, by decide +kernel, by decide +kernel⟩
theorem ok__law_hops {fd : FuncData} (T : Tx K mg a) (Fu : Fun K "_law_hops" "_law_hops" s__law_hops a.f__law_hops fd) (bd : Binds K fd ["_law_bag_here", "_law_most"] []) {fd__law_draw : FuncData} (G__law_draw : FnD (GB bagA K) P wd K mg base 1 a.f__law_draw fd__law_draw ["_law_bag_here", "_law_many"] sfDraw) {fd__law_count : FuncData} (G__law_count : FnD (GB bagA K) P wd K mg base 2 a.f__law_count fd__law_count ["_law_bag_here"] (sfCnt 1000000000000000)) :
    FnD (GB bagA K) P wd K mg base 3 a.f__law_hops fd ["_law_bag_here", "_law_most"] sfHopsS :=
  have sc := sc__law_hops
  fn_data Fu sc bd (fun ds w Q E ⟨b, k, e, _⟩ => by subst e; rfl) sfHopsS_mono fun cdv A outer s H E en hr => ⟨_, (dscons (dssetn 2 sc.nd (dnlst danil)) (dscons (dsforR (passes_of rfl) T.n_range (by rfl) (dacons (dcall G__law_draw (hr.mono (by decide)) (takes_of rfl rfl rfl rfl) T.f__law_draw (by rfl) (dacons (dvar 0) (dacons (dop o_add (dvar 1).u (DE.u dint)) danil))) danil) (pg_name (i := 3) sc.nd rfl (Or.inl rfl)) (grel_name 3) (dsone (dsapp 2 (dtup (dacons (dcall G__law_count (hr.mono (by decide)) (takes_of rfl rfl rfl rfl) T.f__law_count (by rfl) (dacons (dvar 0) danil)) (dacons (dcallB (o_max2 rfl) T.n_max (by decide +kernel) (by rfl) (daucons (DE.u dint) (daucons (dcall G__law_count (hr.mono (by decide)) (takes_of rfl rfl rfl rfl) T.f__law_count (by rfl) (dacons (dvar 0) danil)).u daunil))) (dacons (dcall G__law_count (hr.mono (by decide)) (takes_of rfl rfl rfl rfl) T.f__law_count (by rfl) (dacons (dvar 0) danil)) danil))))))) (dsfrz 2 (dsone (dsret (dcallTy o_tuple T.n_tuple (by decide +kernel) (by rfl) (daucons (dvar 2).u daunil))))))),
    fun ds w Q Ed h => by
      obtain ⟨b, k, e, k0, k1, hb, hn, q⟩ := h
      subst e
      walk_at "m"
      walk_at "u"
      refine draw_at (n := w.n) hb (by omega) (by omega) (by omega) fun r m h0 h1 h2 h3 => ?_
      walk_at "m"
      refine ⟨by omega, by omega, ?_⟩
      refine loopR_go (fun i ρ w' => ∃ (m1 : Nat) (hs : List Hop) (x3 : Option Ent), w' = w.at m1 ∧ m ≤ m1 ∧ m1 ≤ m + 6 * i ∧ hs.length ≤ i ∧ HopsS hs ∧ ρ = [some (Ent.val (D.hnd b)), some (Ent.val (D.int k)), some (Ent.own (hs.map Hop.D)), x3]) r.toNat ?_ ?_ _ 0 _ _ (by omega) ⟨m, [], _, rfl, Nat.le_refl _, Nat.le_refl _, Nat.le_refl _, (fun _ h => nomatch h), rfl⟩
      · rintro i ρ w' R B hi ⟨m1, hs, x3, rfl, hm, hm1, hl, hz, rfl⟩ go -
        walk_at "m"
        refine cnt_at hb (by omega) fun x m2 a0 a1 a2 a3 => cnt_at hb (by omega) fun y m3 b0 b1 b2 b3 => ⟨_, _, ⟨rfl, rfl⟩, cnt_at hb (by omega) fun z m4 c0 c1 c2 c3 => ⟨by decide, by rw [List.length_map]; show _ < 100000; omega, go _ _ ⟨m4, hs ++ [⟨x, if y > 1 then y else 1, z⟩], _, rfl, by omega, by omega, by rw [List.length_append]; exact Nat.succ_le_succ hl, fun h hh => ?_, by rw [List.map_append]; rfl⟩⟩⟩
        rcases List.mem_append.mp hh with hh | hh
        · exact hz h hh
        · rw [List.mem_singleton.mp hh]
          have hy : 1 ≤ (if y > 1 then y else 1) ∧ (if y > 1 then y else 1) < 1000000000000000 := by split <;> omega
          exact ⟨⟨a0, hy.1, c0⟩, a1, hy.2, c1⟩
      rintro ρ w' ⟨m1, hs, x3, rfl, hm, hm1, hl, hz, rfl⟩
      walk_at "m"
      exact q hs m1 (by omega) hz (by omega) (by omega)⟩
theorem sc__law_letter : FnScope ["_law_bag_here", "_law_choice", "_law_most"] ["_law_bag_here"] (defScope s__law_letter) := ⟨rfl, rfl, rfl, by decide +kernel, rfl, by decide +kernel, by decide +kernel⟩
theorem ok__law_letter {fd : FuncData} (T : Tx K mg a) (Fu : Fun K "_law_letter" "_law_letter" s__law_letter a.f__law_letter fd) (bd : Binds K fd ["_law_bag_here"] []) {fd__law_draw : FuncData} (G__law_draw : FnD (GB bagA K) P wd K mg base 1 a.f__law_draw fd__law_draw ["_law_bag_here", "_law_many"] sfDraw) {fd__law_count : FuncData} (G__law_count : FnD (GB bagA K) P wd K mg base 2 a.f__law_count fd__law_count ["_law_bag_here"] (sfCnt 1000000000000000)) {fd__law_step : FuncData} (G__law_step : FnD (GB bagA K) P wd K mg base 3 a.f__law_step fd__law_step ["_law_bag_here"] sfStepS) {fd__law_hops : FuncData} (G__law_hops : FnD (GB bagA K) P wd K mg base 3 a.f__law_hops fd__law_hops ["_law_bag_here", "_law_most"] sfHopsS) :
    FnD (GB bagA K) P wd K mg base 4 a.f__law_letter fd ["_law_bag_here"] sfLtS :=
  have sc := sc__law_letter
  fn_data Fu sc bd (fun ds w Q E ⟨b, e, _⟩ => by subst e; rfl) sfLtS_mono fun cdv A outer s H E en hr => ⟨_, (dscons (dsset 1 sc.nd (dcall G__law_draw (hr.mono (by decide)) (takes_of rfl rfl rfl rfl) T.f__law_draw (by rfl) (dacons (dvar 0) (dacons dint danil)))) (dscons (dsif (dtcmp (o_eq hr) (dvar 1).u (DE.u dint) (nomark _)) (dsone (dsret (dtup (dacons dstr (dacons (dcall G__law_count (hr.mono (by decide)) (takes_of rfl rfl rfl rfl) T.f__law_count (by rfl) (dacons (dvar 0) danil)) danil))))) dsnil) (dscons (dsif (dtcmp (o_eq hr) (dvar 1).u (DE.u dint) (nomark _)) (dsone (dsret (dtup (dacons dstr (dacons (dcall G__law_count (hr.mono (by decide)) (takes_of rfl rfl rfl rfl) T.f__law_count (by rfl) (dacons (dvar 0) danil)) (dacons (dcall G__law_count (hr.mono (by decide)) (takes_of rfl rfl rfl rfl) T.f__law_count (by rfl) (dacons (dvar 0) danil)) danil)))))) dsnil) (dscons (dsset 2 sc.nd (dix o_ix (dlst (dacons dint (dacons dint (dacons dint (dacons dint (dacons dint (dacons dint (dacons dint (dacons dint danil))))))))).u (dcall G__law_draw (hr.mono (by decide)) (takes_of rfl rfl rfl rfl) T.f__law_draw (by rfl) (dacons (dvar 0) (dacons dint danil))).u)) (dsone (dsret (dtup (dacons dstr (dacons (dcall G__law_count (hr.mono (by decide)) (takes_of rfl rfl rfl rfl) T.f__law_count (by rfl) (dacons (dvar 0) danil)) (dacons (dcall G__law_count (hr.mono (by decide)) (takes_of rfl rfl rfl rfl) T.f__law_count (by rfl) (dacons (dvar 0) danil)) (dacons (dcall G__law_step (hr.mono (by decide)) (takes_of rfl rfl rfl rfl) T.f__law_step (by rfl) (dacons (dvar 0) danil)) (dacons (dcall G__law_hops (hr.mono (by decide)) (takes_of rfl rfl rfl rfl) T.f__law_hops (by rfl) (dacons (dvar 0) (dacons (dvar 2) danil))) danil)))))))))))),
    fun ds w Q Ed h => by
      obtain ⟨b, e, hb, hn, q⟩ := h
      subst e
      walk_at "m"
      refine draw_at (n := w.n) hb (by decide) (by decide) (by omega) fun r m h0 h1 h2 h3 => ?_
      walk_at "m"
      by_cases r0 : r = 0
      · exact ifY (decide_eq_true r0) (cnt_at hb (by omega) fun c m3 c0 c1 c2 c3 => ⟨by decide, q (.turn c) m3 ⟨c0, c1⟩ (by omega) (by omega)⟩)
      refine ifN (decide_eq_false r0) ?_
      by_cases r1 : r = 1
      · exact ifY (decide_eq_true r1) (cnt_at hb (by omega) fun c m3 c0 c1 c2 c3 => cnt_at hb (by omega) fun d m4 d0 d1 d2 d3 => ⟨by decide, q (.done c d) m4 ⟨⟨c0, d0⟩, c1, d1⟩ (by omega) (by omega)⟩)
      refine ifN (decide_eq_false r1) ⟨by decide, draw_at hb (by decide) (by decide) (by omega) fun r2 m2 a0 a1 a2 a3 => ?_⟩
      obtain ⟨dk, e1, hdk⟩ := atI_in (xs := [D.int 3, D.int 3, D.int 3, D.int 3, D.int 3, D.int 3, D.int 24, D.int 40]) a0 (by simpa using a1)
      have hk : ∃ k : Int, dk = .int k ∧ 0 ≤ k ∧ k ≤ 40 := by
        simp only [List.mem_cons, List.not_mem_nil, or_false] at hdk
        rcases hdk with rfl | rfl | rfl | rfl | rfl | rfl | rfl | rfl <;> exact ⟨_, rfl, by decide, by decide⟩
      obtain ⟨k, rfl, k0, k1⟩ := hk
      refine ⟨_, e1, cnt_at hb (by omega) fun c m3 c0 c1 c2 c3 => cnt_at hb (by omega) fun d m4 d0 d1 d2 d3 => stepS_at hb (by omega) fun p m5 hp hp2 p0 p1 => hopsS_at k0 k1 hb (by omega) fun hs m6 hl hh g0 g1 => ⟨by decide, q (.next c d p hs) m6 ⟨⟨c0, d0, hp, hl, fun h hx => (hh h hx).1⟩, c1, d1, hp2, fun h hx => (hh h hx).2⟩ (by omega) (by omega)⟩⟩⟩
theorem sc__law_same : FnScope ["_law_found", "_law_due", "_law_k"] ["_law_found", "_law_due"] (defScope s__law_same) := ⟨rfl, rfl, rfl, by decide +kernel, rfl, by decide +kernel, by decide +kernel⟩
theorem ok__law_same {fd : FuncData} (T : Tx K mg a) (Fu : Fun K "_law_same" "_law_same" s__law_same a.f__law_same fd) (bd : Binds K fd ["_law_found", "_law_due"] []) :
    ∀ n : Nat, FnD (GB bagA K) P wd K mg base n a.f__law_same fd ["_law_found", "_law_due"] (sfSame n)
  | 0 => fnd_none Fu bd
  | n + 1 =>
  have sc := sc__law_same
  fn_data (k := n) Fu sc bd (fun ds w Q E ⟨_, e, _⟩ => by subst e; rfl) (sfSame_mono (n + 1)) fun cdv A outer s H E en hr => ⟨_, (dscons (dsif (dtcmp o_is (dvar 1).u (DE.u dnon) (nomark _)) (dsone (dsret (dcmp o_is (dvar 0).u (DE.u dnon) (nomark _)))) dsnil) (dscons (dsif (dtval (dcallB o_isi T.n_isinstance (by decide +kernel) (by rfl) (daucons (dvar 1).u (daucons (dtup (dacons (dty (n := "list") (by rfl) T.n_list (by decide +kernel)) (dacons (dty (n := "tuple") (by rfl) T.n_tuple (by decide +kernel)) danil))).u daunil)))) (dscons (dsif (dwor (dtnot (dtval (dcallB o_isi T.n_isinstance (by decide +kernel) (by rfl) (daucons (dvar 0).u (daucons (dtup (dacons (dty (n := "list") (by rfl) T.n_list (by decide +kernel)) (dacons (dty (n := "tuple") (by rfl) T.n_tuple (by decide +kernel)) danil))).u daunil))))) (dwor1 (dtcmp (o_ne hr) (dcallB o_isi T.n_isinstance (by decide +kernel) (by rfl) (daucons (dvar 0).u (daucons (dty (n := "list") (by rfl) T.n_list (by decide +kernel)).u daunil))).u (dcallB o_isi T.n_isinstance (by decide +kernel) (by rfl) (daucons (dvar 1).u (daucons (dty (n := "list") (by rfl) T.n_list (by decide +kernel)).u daunil))).u (nomark _)))).t (dsone (dsret dbl)) dsnil) (dsone (dsret (dand (dcmp (o_eq hr) (dcallB o_len T.n_len (by decide +kernel) (by rfl) (daucons (dvar 0).u daunil)).u (dcallB o_len T.n_len (by decide +kernel) (by rfl) (daucons (dvar 1).u daunil)).u (nomark _)) (done' (dcallB (o_all rfl) T.n_all (by decide +kernel) (by rfl) (daucons (dcomp' (own := [("_law_k", 2)]) rfl sc.nd (dirange T.n_range (by rfl) (dacons (dcallB o_len T.n_len (by decide +kernel) (by rfl) (daucons (dvar 1).u daunil)) danil)) (blkOk_by (own := [("_law_k", 2)]) (N := ["_law_found", "_law_due", "_law_k"]) (sc := defScope s__law_same) (by decide +kernel)) (grel_name 2) (gwipe_name 2) (fun _ _ _ _ _ => (pg_name (i := 2) sc.nd rfl (Or.inl rfl))) (fun _ _ _ _ _ => dtsnil) (fun _ _ _ _ _ => (dcall (ok__law_same T Fu bd n) hr takes0 T.f__law_same (by rfl) (dacons (dix o_ix (dvar 0).u (dvar 2).u) (dacons (dix o_ix (dvar 1).u (dvar 2).u) danil))))).u daunil))))))) dsnil) (dscons (dsif (dwor (dtcmp (o_ne hr) (dcallB o_isi T.n_isinstance (by decide +kernel) (by rfl) (daucons (dvar 0).u (daucons (dty (n := "bool") (by rfl) T.n_bool (by decide +kernel)).u daunil))).u (dcallB o_isi T.n_isinstance (by decide +kernel) (by rfl) (daucons (dvar 1).u (daucons (dty (n := "bool") (by rfl) T.n_bool (by decide +kernel)).u daunil))).u (nomark _)) (dwor1 (dtcmp (o_ne hr) (dcallB o_isi T.n_isinstance (by decide +kernel) (by rfl) (daucons (dvar 0).u (daucons (dty (n := "int") (by rfl) T.n_int (by decide +kernel)).u daunil))).u (dcallB o_isi T.n_isinstance (by decide +kernel) (by rfl) (daucons (dvar 1).u (daucons (dty (n := "int") (by rfl) T.n_int (by decide +kernel)).u daunil))).u (nomark _)))).t (dsone (dsret dbl)) dsnil) (dsone (dsret (dand (dcmp (o_eq hr) (dcallB o_isi T.n_isinstance (by decide +kernel) (by rfl) (daucons (dvar 0).u (daucons (dty (n := "str") (by rfl) T.n_str (by decide +kernel)).u daunil))).u (dcallB o_isi T.n_isinstance (by decide +kernel) (by rfl) (daucons (dvar 1).u (daucons (dty (n := "str") (by rfl) T.n_str (by decide +kernel)).u daunil))).u (nomark _)) (done' (dcmp (o_eq hr) (dvar 0).u (dvar 1).u (nomark _))))))))),
    fun ds w Q Ed h => by
      obtain ⟨d, e, hd, q⟩ := h
      subst e
      cases d
      case non =>
        walk_at "m"
        exact ifY rfl q
      case hnd => cases n <;> cases hd
      case ty => cases n <;> cases hd
      case dct => cases n <;> cases hd
      case bl b =>
        walk_at "m"
        refine ifN rfl ⟨(by decide), isi_lt rfl rfl ⟨false, rfl, ?_⟩⟩
        exact ifN (by decide) q
      case int i =>
        walk_at "m"
        refine ifN rfl ⟨(by decide), isi_lt rfl rfl ⟨false, rfl, ?_⟩⟩
        exact ifN (by decide) q
      case str x =>
        walk_at "m"
        refine ifN rfl ⟨(by decide), isi_lt rfl rfl ⟨false, rfl, ?_⟩⟩
        exact ifN (by decide) q
      case lst xs =>
        have hh : xs.length ≤ 1000 ∧ ∃ m, n = m + 1 ∧ xs.all (smD m) = true := by
          cases n with
          | zero => cases hd
          | succ m =>
            have hd' : (decide (xs.length ≤ 1000) && xs.all (smD m)) = true := hd
            rw [Bool.and_eq_true] at hd'
            exact ⟨of_decide_eq_true hd'.1, m, rfl, hd'.2⟩
        obtain ⟨hx, m, rfl, hall⟩ := hh
        walk_at "m"
        walk_at "u"
        refine ifN rfl ⟨(by decide), isi_lt rfl rfl ⟨true, rfl, ifY rfl ⟨(by decide), isi_lt rfl rfl ⟨true, rfl, ifN rfl ?_⟩⟩⟩⟩
        refine ⟨by omega, by omega, ?_, ?_⟩
        · unfold rangeD
          rw [List.length_map, List.length_range]
          exact Nat.le_trans (show (xs.length : Int).toNat ≤ 1000 by omega) (by decide)
        refine compL_map (fun _ => .bl true) _ _ (fun d hd Q' q2 => ?_) ?_
        · unfold rangeD at hd
          obtain ⟨i, hi, rfl⟩ := List.mem_map.mp hd
          have hi' := List.mem_range.mp hi
          obtain ⟨x, e1, hx'⟩ := atI_in (xs := xs) (i := (0 + (i : Int))) (by omega) (by omega)
          walk_at "m"
          rw [Int.zero_add] at e1
          exact ⟨x, e1, x, e1, x, rfl, List.all_eq_true.mp hall x hx', q2⟩
        refine ⟨List.replicate (rangeD 0 (xs.length : Int).toNat).length true, ?_, ?_⟩
        · rw [List.nil_append, List.map_replicate, ← List.map_const']
        · have e : (List.replicate (rangeD 0 (xs.length : Int).toNat).length true).all id = true := by
            rw [List.all_eq_true]; intro b hb; exact (List.eq_of_mem_replicate hb)
          rw [e]; exact q
      case tup xs =>
        have hh : xs.length ≤ 1000 ∧ ∃ m, n = m + 1 ∧ xs.all (smD m) = true := by
          cases n with
          | zero => cases hd
          | succ m =>
            have hd' : (decide (xs.length ≤ 1000) && xs.all (smD m)) = true := hd
            rw [Bool.and_eq_true] at hd'
            exact ⟨of_decide_eq_true hd'.1, m, rfl, hd'.2⟩
        obtain ⟨hx, m, rfl, hall⟩ := hh
        walk_at "m"
        walk_at "u"
        refine ifN rfl ⟨(by decide), isi_lt rfl rfl ⟨true, rfl, ifY rfl ⟨(by decide), isi_lt rfl rfl ⟨true, rfl, ifN rfl ?_⟩⟩⟩⟩
        refine ⟨by omega, by omega, ?_, ?_⟩
        · unfold rangeD
          rw [List.length_map, List.length_range]
          exact Nat.le_trans (show (xs.length : Int).toNat ≤ 1000 by omega) (by decide)
        refine compL_map (fun _ => .bl true) _ _ (fun d hd Q' q2 => ?_) ?_
        · unfold rangeD at hd
          obtain ⟨i, hi, rfl⟩ := List.mem_map.mp hd
          have hi' := List.mem_range.mp hi
          obtain ⟨x, e1, hx'⟩ := atI_in (xs := xs) (i := (0 + (i : Int))) (by omega) (by omega)
          walk_at "m"
          rw [Int.zero_add] at e1
          exact ⟨x, e1, x, e1, x, rfl, List.all_eq_true.mp hall x hx', q2⟩
        refine ⟨List.replicate (rangeD 0 (xs.length : Int).toNat).length true, ?_, ?_⟩
        · rw [List.nil_append, List.map_replicate, ← List.map_const']
        · have e : (List.replicate (rangeD 0 (xs.length : Int).toNat).length true).all id = true := by
            rw [List.all_eq_true]; intro b hb; exact (List.eq_of_mem_replicate hb)
          rw [e]; exact q⟩
theorem sc__law_colons : FnScope ["_law_parts", "_law_part"] ["_law_parts"] (defScope s__law_colons) := ⟨rfl, rfl, rfl, by decide +kernel, rfl, by decide +kernel, by decide +kernel⟩
theorem ok__law_colons {fd : FuncData} (T : Tx K mg a) (Fu : Fun K "_law_colons" "_law_colons" s__law_colons a.f__law_colons fd) (bd : Binds K fd ["_law_parts"] []) :
    FnD (GB bagA K) P wd K mg base 1 a.f__law_colons fd ["_law_parts"] (sf_words co) :=
  have sc := sc__law_colons
  fn_data Fu sc bd (fun ds w Q E ⟨xs, c, e, _⟩ => by rcases e with e | e <;> (subst e; rfl)) (sf_words_mono _) fun cdv A outer s H E en hr => ⟨_, (dsone (dsret (dbm PySem.F.plainAttrs_str PySem.F.slot_str_join PySem.F.type_str_join o_join ty_str (DE.u dstr) (daucons (dcomp' (own := [("_law_part", 1)]) rfl sc.nd (DI.or (dilist (dvar 0).u) (ditup (dvar 0))) (blkOk_by (own := [("_law_part", 1)]) (N := ["_law_parts", "_law_part"]) (sc := defScope s__law_colons) (by decide +kernel)) (grel_name 1) (gwipe_name 1) (fun _ _ _ _ _ => (pg_name (i := 1) sc.nd rfl (Or.inl rfl))) (fun _ _ _ _ _ => dtsnil) (fun _ _ _ _ _ => (dcallTy o_strD T.n_str (by decide +kernel) (by rfl) (daucons (dvar 1).u daunil)))).u daunil)))),
    fun ds w Q Ed h => by
      obtain ⟨xs, c, e, h1, h2, h3, h4, q⟩ := h
      have lb : LB = 100000 := rfl
      rcases e with e | e
      · subst e
        walk_at "m"
        refine ⟨rfl, Or.inl ?_⟩
        walk_at "u"
        refine ⟨by rw [Nat.mul_add] at h4; omega, ?_⟩
        refine compL_map (fun d => .str (showP d)) _ _ (fun d hd Q' q2 => ?_) ?_
        · walk_at "m"
          have hw := h1 d hd
          cases d <;> first | exact hw.elim | skip
          · exact .inl ⟨_, rfl, log_small hw.2.1, (atx_int h2 hw.1 hw.2.2).ok (by omega), q2⟩
          · exact .inr ⟨_, rfl, q2⟩
        exact join_words h2 co_atx h1 h4 q
      · subst e
        walk_at "m"
        refine ⟨rfl, Or.inr ?_⟩
        walk_at "u"
        refine ⟨by rw [Nat.mul_add] at h4; omega, ?_⟩
        refine compL_map (fun d => .str (showP d)) _ _ (fun d hd Q' q2 => ?_) ?_
        · walk_at "m"
          have hw := h1 d hd
          cases d <;> first | exact hw.elim | skip
          · exact .inl ⟨_, rfl, log_small hw.2.1, (atx_int h2 hw.1 hw.2.2).ok (by omega), q2⟩
          · exact .inr ⟨_, rfl, q2⟩
        exact join_words h2 co_atx h1 h4 q⟩
theorem sc__law_shown : FnScope ["_law_thing", "_law_hops_here", "_law_head", "_law_locks", "_law_hop", "_law_lock", "_law_part"] ["_law_thing"] (defScope s__law_shown) := ⟨rfl, rfl, rfl, by decide +kernel, rfl, by decide +kernel, by decide +kernel⟩
theorem ok__law_shown {fd : FuncData} (T : Tx K mg a) (Fu : Fun K "_law_shown" "_law_shown" s__law_shown a.f__law_shown fd) (bd : Binds K fd ["_law_thing"] [])
    {fd__law_colons : FuncData} (G__law_colons : FnD (GB bagA K) P wd K mg base 1 a.f__law_colons fd__law_colons ["_law_parts"] (sf_words co)) :
    ∀ n : Nat, FnD (GB bagA K) P wd K mg base (1 + n) a.f__law_shown fd ["_law_thing"] (sfShL n)
  | 0 => fnd_none Fu bd
  | n + 1 =>
  have sc := sc__law_shown
  fn_data (k := 1 + n) Fu sc bd (fun ds w Q E h => by rcases h with ⟨p, e, _⟩ | ⟨t, e, _⟩ <;> (subst e; rfl)) (sfShL_mono (n + 1)) fun cdv A outer s H E en hr => ⟨_, (dscons (dsif (dtnot (dtval (dcallB o_isi T.n_isinstance (by decide +kernel) (by rfl) (daucons (dix o_ix (dvar 0).u (DE.u dint)).u (daucons (dty (n := "str") (by rfl) T.n_str (by decide +kernel)).u daunil))))) (dscons (dssetLc' 3 (own := [("_law_lock", 5)]) rfl sc.nd (ditup (dix o_ix (dvar 0).u (DE.u dint))) (blkOk_by (own := [("_law_lock", 5)]) (N := ["_law_thing", "_law_hops_here", "_law_head", "_law_locks", "_law_hop", "_law_lock", "_law_part"]) (sc := defScope s__law_shown) (by decide +kernel)) (grel_name 5) (gwipe_name 5) (fun _ _ _ _ _ => (pg_name (i := 5) sc.nd rfl (Or.inl rfl))) (fun _ _ _ _ _ => dtsnil) (fun _ _ _ _ _ => (dcall G__law_colons (hr.mono (by omega)) takes0 T.f__law_colons (by rfl) (dacons (dvar 5) danil)))) (dsone (dsret (dbm PySem.F.plainAttrs_str PySem.F.slot_str_join PySem.F.type_str_join o_join ty_str (DE.u dstr) (daucons (dop o_add (dcomp' (own := [("_law_part", 6)]) rfl sc.nd (ditup (dsl o_sl (dvar 0).u donone (dosome dint))) (blkOk_by (own := [("_law_part", 6)]) (N := ["_law_thing", "_law_hops_here", "_law_head", "_law_locks", "_law_hop", "_law_lock", "_law_part"]) (sc := defScope s__law_shown) (by decide +kernel)) (grel_name 6) (gwipe_name 6) (fun _ _ _ _ _ => (pg_name (i := 6) sc.nd rfl (Or.inl rfl))) (fun _ _ _ _ _ => dtsnil) (fun _ _ _ _ _ => (dcallTy o_strD T.n_str (by decide +kernel) (by rfl) (daucons (dvar 6).u daunil)))).u (dvar 3).u).u daunil))))) dsnil) (dscons (dsif (dtcmp (o_ne hr) (dix o_ix (dvar 0).u (DE.u dint)).u (DE.u dstr) (nomark _)) (dsone (dsret (dbm PySem.F.plainAttrs_str PySem.F.slot_str_join PySem.F.type_str_join o_join ty_str (DE.u dstr) (daucons (dcomp' (own := [("_law_part", 6)]) rfl sc.nd (ditup (dvar 0)) (blkOk_by (own := [("_law_part", 6)]) (N := ["_law_thing", "_law_hops_here", "_law_head", "_law_locks", "_law_hop", "_law_lock", "_law_part"]) (sc := defScope s__law_shown) (by decide +kernel)) (grel_name 6) (gwipe_name 6) (fun _ _ _ _ _ => (pg_name (i := 6) sc.nd rfl (Or.inl rfl))) (fun _ _ _ _ _ => dtsnil) (fun _ _ _ _ _ => (dcallTy o_strD T.n_str (by decide +kernel) (by rfl) (daucons (dvar 6).u daunil)))).u daunil)))) dsnil) (dscons (dssetLc' 1 (own := [("_law_hop", 4)]) rfl sc.nd (ditup (dix o_ix (dvar 0).u (DE.u dint))) (blkOk_by (own := [("_law_hop", 4)]) (N := ["_law_thing", "_law_hops_here", "_law_head", "_law_locks", "_law_hop", "_law_lock", "_law_part"]) (sc := defScope s__law_shown) (by decide +kernel)) (grel_name 4) (gwipe_name 4) (fun _ _ _ _ _ => (pg_name (i := 4) sc.nd rfl (Or.inl rfl))) (fun _ _ _ _ _ => dtsnil) (fun _ _ _ _ _ => (dop o_add (DE.u dstr) (dcall G__law_colons (hr.mono (by omega)) takes0 T.f__law_colons (by rfl) (dacons (dvar 4) danil)).u))) (dscons (dsset 2 sc.nd (dop o_add (dop o_add (dop o_add (DE.u dstr) (dcallTy o_strD T.n_str (by decide +kernel) (by rfl) (daucons (dix o_ix (dvar 0).u (DE.u dint)).u daunil)).u).u (DE.u dstr)).u (dcallTy o_strD T.n_str (by decide +kernel) (by rfl) (daucons (dix o_ix (dvar 0).u (DE.u dint)).u daunil)).u)) (dsone (dsret (dop o_add (dop o_add (dop o_add (dvar 2).u (DE.u dstr)).u (dcall (ok__law_shown T Fu bd G__law_colons n) hr (takes_of rfl rfl rfl rfl) T.f__law_shown (by rfl) (dacons (dix o_ix (dvar 0).u (DE.u dint)) danil)).u).u (dbm PySem.F.plainAttrs_str PySem.F.slot_str_join PySem.F.type_str_join o_join ty_str (DE.u dstr) (daucons (dvar 1).u daunil)).u))))))),
    fun ds w Q Ed h => by
      have lb : LB = 100000 := rfl
      have h' : (∃ w0 r, ds = [D.tup (D.str w0 :: r)] ∧ w0 ≠ Str.ofString "next" ∧ r.length ≤ 4 ∧ (∀ d ∈ (D.str w0 :: r), WdP 41 d) ∧ Q (.str (wordsD sp (.str w0 :: r))) w) ∨
          ∃ l k p hs, ds = [lettD (.next l k p hs)] ∧ (Lt.next l k p hs).Ok ∧ (Lt.next l k p hs).Lo (10 ^ 40) ∧ 1 ≤ n ∧ Q (.str (showLetter (lettD (.next l k p hs)))) w := by
        rcases h with ⟨p, e, hp, hl, q⟩ | ⟨t, e, ht, hl, hn, q⟩
        · obtain ⟨w0, r, e1, e2, e3, e4⟩ := mv_words hp hl
          exact .inl ⟨w0, r, by rw [e, e1], e2, e3, e4, by rw [showStep_w e1] at q; exact q⟩
        · cases t with
          | turn l =>
            refine .inl ⟨_, _, e, by decide +kernel, by simp, fun d hd => ?_, q⟩
            have h0 : 0 ≤ l := ht
            simp only [List.mem_cons, List.not_mem_nil, or_false] at hd
            rcases hd with rfl | rfl
            · exact wd_lit _ (by decide)
            · exact wdp_i h0 hl
          | done l k =>
            refine .inl ⟨_, _, e, by decide +kernel, by simp, fun d hd => ?_, q⟩
            simp only [List.mem_cons, List.not_mem_nil, or_false] at hd
            rcases hd with rfl | rfl | rfl
            · exact wd_lit _ (by decide)
            · exact wdp_i ht.1 hl.1
            · exact wdp_i ht.2 hl.2
          | next l k p hs => exact .inr ⟨l, k, p, hs, e, ht, hl, hn, q⟩
      clear h
      rcases h' with ⟨w0, r, e, h1, h2, h3, q⟩ | ⟨l, k, p, hs, e, ht, hl, hn, q⟩
      · subst e
        walk_at "m"
        refine ifY (by rw [decide_eq_false h1]; rfl) ⟨rfl, ?_⟩
        walk_at "u"
        refine ⟨by omega, ?_⟩
        refine compL_map (fun d => .str (showP d)) _ _ (fun d hd3 Q' q2 => ?_) ?_
        · have hw := h3 d hd3
          walk_at "m"
          cases d <;> first | exact hw.elim | skip
          · exact .inl ⟨_, rfl, log_small hw.2.1, (atx_int (by decide) hw.1 hw.2.2).ok (by decide), q2⟩
          · exact .inr ⟨_, rfl, q2⟩
        rw [List.nil_append]
        have hn := Nat.mul_le_mul_right (41 + 1) (show (D.str w0 :: r).length ≤ 5 by rw [List.length_cons]; omega)
        exact join_words (c := 41) (by decide) sp_atx h3 (Nat.le_trans hn (by decide)) q
      · subst e
        obtain ⟨t1, t2, t3, t4, t5⟩ := ht
        obtain ⟨l1, l2, l3, l4⟩ := hl
        unfold lettD
        walk_at "m"
        walk_at "u"
        refine ⟨by rw [List.length_map]; omega, ?_⟩
        have a0 : ATx 5 (Str.ofString "next ") := ⟨by decide +kernel, by unfold DL.asc; decide +kernel⟩
        have a1 : ATx 41 (Str.ofString (toString l)) := atx_int (c := 41) (by decide) t1 (by omega)
        have a2 : ATx 41 (Str.ofString (toString k)) := atx_int (c := 41) (by decide) t2 (by omega)
        have ab : ATx 1 (Str.ofString " ") := sp_atx
        have a3 := showStep_atx t3 l3
        have az : ATx 1 (Str.ofString "") := ⟨by decide +kernel, by unfold DL.asc; decide +kernel⟩
        have ag : ATx 3 (Str.ofString " > ") := ⟨by decide +kernel, by unfold DL.asc; decide +kernel⟩
        have wh : ∀ d ∈ hs.map (fun h => D.str (Str.ofString " > " ++ hopS h)), WdP 129 d := fun d hd => by
          obtain ⟨x, hx, rfl⟩ := List.mem_map.mp hd
          exact ATx.app ag (hopS_atx (t5 x hx) (l4 x hx))
        have a4 := words_atx (c := 129) (by decide) az wh
        rw [List.length_map] at a4
        have hm := Nat.mul_le_mul_right (129 + 1) t4
        have A1 := a0.app a1
        have A2 := A1.app ab
        have A3 := A2.app a2
        have A4 := A3.app ab
        have A5 := A4.app a3
        have n1 := A1.len
        have n2 := A2.len
        have n3 := A3.len
        have n4 := A4.len
        have n5 := A5.len
        have n6 := a4.len
        have b0 := a0.len
        have b1 := a1.len
        have b2 := a2.len
        have b3 := a3.len
        have bb := ab.len
        refine compL_map (fun d => .str (Str.ofString " > " ++ colons d)) _ _ (fun d hd Q' q2 => ?_) ?_
        · obtain ⟨h, hh, rfl⟩ := List.mem_map.mp hd
          walk_at "m"
          refine ⟨[.int h.lane, .int h.am, .int h.last], 41, .inr rfl, hop_wdp (t5 h hh) (l4 h hh), by decide, by decide, by show 3 * 42 ≤ 100000; decide, ?_⟩
          have e1 := ag.len
          have e2 := (hopS_atx (t5 h hh) (l4 h hh)).len
          exact ⟨by show (Str.ofString " > ").length + (hopS h).length ≤ LB; omega, q2⟩
        rw [List.nil_append, List.map_map]
        refine ⟨log_small (by omega), a1.ok (by decide), by omega, by omega, log_small (by omega), a2.ok (by decide), by omega, by omega, ?_⟩
        obtain ⟨m, rfl⟩ : ∃ m, n = m + 1 := ⟨n - 1, by omega⟩
        refine .inl ⟨p, rfl, t3, l3, ?_⟩
        refine ⟨by omega, rfl, ?_⟩
        have q' := q
        rw [← next_shown] at q'
        rw [show hs.map ((fun d => D.str (Str.ofString " > " ++ colons d)) ∘ Hop.D) = (hs.map fun h => D.str (Str.ofString " > " ++ hopS h)).map fun d => .str (showP d) from by rw [List.map_map]; rfl]
        refine join_words (xs := hs.map fun h => D.str (Str.ofString " > " ++ hopS h)) (c := 129) (by decide) az wh (by rw [List.length_map]; omega) ?_
        exact ⟨by omega, q'⟩⟩
theorem sc__law_refused : FnScope ["_law_text", "_law_refused_here"] ["_law_text"] (defScope s__law_refused) := ⟨rfl, rfl, rfl, by decide +kernel, rfl, by decide +kernel, by decide +kernel⟩
theorem ok__law_refused {fd : FuncData} (T : Tx K mg a) (Fu : Fun K "_law_refused" "_law_refused" s__law_refused a.f__law_refused fd) (bd : Binds K fd ["_law_text"] []) {fd_read_letter : FuncData} (G_read_letter : FnD (GB bagA K) P wd K mg base 7 a.f_read_letter fd_read_letter ["text"] (sfOptD letterOf 20000 a.c_NoText)) :
    FnD (GB bagA K) P wd K mg base 8 a.f__law_refused fd ["_law_text"] (sfRefL a.c_NoText) :=
  have sc := sc__law_refused
  fn_data Fu sc bd (fun ds w Q E ⟨t, e, _⟩ => by subst e; rfl) (sfRefL_mono _) fun cdv A outer s H E en hr => ⟨_, (dscons (dsset 1 sc.nd dbl) (dscons (dstryonly' rfl rfl ⟨rfl, by decide, .inl T.c_NoText⟩ (takes_of rfl rfl rfl rfl) (fun V pn xe tk2 ps2 => (dsone (dsexpr (dcall G_read_letter (hr.mono (by decide)) tk2 T.f_read_letter (by rfl) (dacons (dvar 0) danil))))) (fun a oe pn => (dsone (dsset 1 sc.nd dbl)))) (dsone (dsret (dvar 1))))),
    fun ds w Q Ed h => by
      obtain ⟨t, e, ht, hl, hno, q⟩ := h
      subst e
      walk_at "m"
      refine ⟨_, rfl, .str _, fun x ex => ?_, fun z => absurd rfl (z _)⟩
      cases ex
      rw [letter_split ht]
      exact ⟨(letter_atx ht hl).mono (by decide), fun d e => absurd (hno.symm.trans e) (fun z => nomatch z), fun _ => ⟨true, T.exmT, fun _ => q, fun h => nomatch h⟩⟩⟩
theorem sc__law_right : FnScope ["_law_letter_here", "_law_great", "_law_text"] ["_law_letter_here", "_law_great"] (defScope s__law_right) := ⟨rfl, rfl, rfl, by decide +kernel, rfl, by decide +kernel, by decide +kernel⟩
theorem ok__law_right {fd : FuncData} (T : Tx K mg a) (Fu : Fun K "_law_right" "_law_right" s__law_right a.f__law_right fd) (bd : Binds K fd ["_law_letter_here", "_law_great"] []) {fd_show_letter : FuncData} (G_show_letter : FnD (GB bagA K) P wd K mg base 7 a.f_show_letter fd_show_letter ["letter"] (sf_show isLetterD showLetter a.c_NoLetter)) {fd_read_letter : FuncData} (G_read_letter : FnD (GB bagA K) P wd K mg base 7 a.f_read_letter fd_read_letter ["text"] (sfOptD letterOf 20000 a.c_NoText)) {fd__law_same : FuncData} (G__law_same : FnD (GB bagA K) P wd K mg base 5 a.f__law_same fd__law_same ["_law_found", "_law_due"] (sfSame 5)) {fd__law_shown : FuncData} (G__law_shown : FnD (GB bagA K) P wd K mg base 3 a.f__law_shown fd__law_shown ["_law_thing"] (sfShL 2)) {fd__law_refused : FuncData} (G__law_refused : FnD (GB bagA K) P wd K mg base 8 a.f__law_refused fd__law_refused ["_law_text"] (sfRefL a.c_NoText)) :
    FnD (GB bagA K) P wd K mg base 9 a.f__law_right fd ["_law_letter_here", "_law_great"] sfRightL :=
  have sc := sc__law_right
  fn_data Fu sc bd (fun ds w Q E ⟨t, g, e, _⟩ => by subst e; rfl) sfRightL_mono fun cdv A outer s H E en hr => ⟨_, (dscons (dsset 2 sc.nd (dcall G_show_letter (hr.mono (by decide)) (takes_of rfl rfl rfl rfl) T.f_show_letter (by rfl) (dacons (dvar 0) danil))) (dscons (dsif (dwor (dtnot (dtval (dcallB o_isi T.n_isinstance (by decide +kernel) (by rfl) (daucons (dvar 2).u (daucons (dty (n := "str") (by rfl) T.n_str (by decide +kernel)).u daunil))))) (dwor1 (dtcmp (o_ne hr) (dvar 2).u (dcall G__law_shown (hr.mono (by decide)) (takes_of rfl rfl rfl rfl) T.f__law_shown (by rfl) (dacons (dvar 0) danil)).u (nomark _)))).t (dsone (dsret dbl)) dsnil) (dsone (dsret (dif (dtval (dvar 1)) (dcall G__law_refused (hr.mono (by decide)) (takes_of rfl rfl rfl rfl) T.f__law_refused (by rfl) (dacons (dvar 2) danil)) (dcall G__law_same (hr.mono (by decide)) (takes_of rfl rfl rfl rfl) T.f__law_same (by rfl) (dacons (dcall G_read_letter (hr.mono (by decide)) (takes_of rfl rfl rfl rfl) T.f_read_letter (by rfl) (dacons (dvar 2) danil)) (dacons (dvar 0) danil)))))))),
    fun ds w Q Ed h => by
      obtain ⟨t, g, e, ht, hl, hg1, hg2, q⟩ := h
      subst e
      walk_at "m"
      obtain ⟨i1, i2⟩ := lt_in ht
      refine ⟨_, 10 ^ 40, 3, rfl, lt_pln ht hl, by decide +kernel, i1, i2, fun _ => ⟨rfl, ifN rfl ?_⟩, fun z => absurd (isLetter_lt ht) (by rw [z]; decide)⟩
      refine .inr ⟨t, rfl, ht, hl, by decide, ok_str _ _, ok_str _ _, ?_⟩
      rw [eqD_str]
      refine ifN (by rw [decide_eq_true rfl]; rfl) ?_
      cases g with
      | true => exact ifY rfl ⟨t, rfl, ht, hl, hg1 rfl, q⟩
      | false =>
        refine ifN rfl ⟨_, rfl, .str _, fun x ex => ?_, fun z => absurd rfl (z _)⟩
        cases ex
        rw [letter_split ht]
        refine ⟨(letter_atx ht hl).mono (by decide), fun d e => ?_, fun e => absurd ((letter_back ht (hg2 rfl)).symm.trans e) (fun z => nomatch z)⟩
        cases (letter_back ht (hg2 rfl)).symm.trans e
        exact ⟨_, rfl, sm_lt 1 ht, q⟩⟩
theorem sc_law : FnScope ["_law_script", "_law_bag_here", "_law_last", "_law_turn", "_law_told", "_law_great", "_law_seal", "_law_letter_here"] ["_law_script"] (defScope s_law) := ⟨rfl, rfl, rfl, by decide +kernel, rfl, by decide +kernel, by decide +kernel⟩
theorem ok_law {fd : FuncData} (T : Tx K mg a) (Fu : Fun K "law" "law" s_law a.f_law fd) (bd : Binds K fd ["_law_script"] []) {fd_seal_of : FuncData} (G_seal_of : FnD (GB bagA K) P wd K mg base 2 a.f_seal_of fd_seal_of ["secret"] (sf_seal_of a.c_NoSecret)) {fd_next_state : FuncData} (G_next_state : FnD (GB bagA K) P wd K mg base 7 a.f_next_state fd_next_state ["state", "step"] (sf_next a.c_NoState a.c_NoStep)) {fd__law_bag : FuncData} (G__law_bag : FnD (GB bagA K) P wd K mg base 1 a.f__law_bag fd__law_bag ["_law_script"] sfBag) {fd__law_draw : FuncData} (G__law_draw : FnD (GB bagA K) P wd K mg base 1 a.f__law_draw fd__law_draw ["_law_bag_here", "_law_many"] sfDraw) {fd__law_letter : FuncData} (G__law_letter : FnD (GB bagA K) P wd K mg base 4 a.f__law_letter fd__law_letter ["_law_bag_here"] sfLtS) {fd__law_right : FuncData} (G__law_right : FnD (GB bagA K) P wd K mg base 9 a.f__law_right fd__law_right ["_law_letter_here", "_law_great"] sfRightL) :
    FnD (GB bagA K) P wd K mg base 10 a.f_law fd ["_law_script"] sfLaw :=
  have sc := sc_law
  fn_data Fu sc bd (fun ds w Q E ⟨e, _⟩ => by subst e; rfl) sfLaw_mono fun cdv A outer s H E en hr => ⟨_, (dscons (dsset 1 sc.nd (dcall G__law_bag (hr.mono (by decide)) (takes_of rfl rfl rfl rfl) T.f__law_bag (by rfl) (dacons (dvar 0) danil))) (dscons (dsset 2 sc.nd (dtup (dacons dstr (dacons dint danil)))) (dscons (dsforR (passes_of rfl) T.n_range (by rfl) (dacons dint danil) (pg_name (i := 3) sc.nd rfl (Or.inl rfl)) (grel_name 3) (dscons (dsset 7 sc.nd (dcall G__law_letter (hr.mono (by decide)) (takes_of rfl rfl rfl rfl) T.f__law_letter (by rfl) (dacons (dvar 1) danil))) (dscons (dsif (dwor (dtnot (dtval (dcall G__law_right (hr.mono (by decide)) (takes_of rfl rfl rfl rfl) T.f__law_right (by rfl) (dacons (dvar 7) (dacons dbl danil))))) (dwor (dtnot (dtval (dcall G__law_right (hr.mono (by decide)) (takes_of rfl rfl rfl rfl) T.f__law_right (by rfl) (dacons (dvar 2) (dacons dbl danil))))) (dwor1 (dtnot (dtval (dcall G__law_right (hr.mono (by decide)) (takes_of rfl rfl rfl rfl) T.f__law_right (by rfl) (dacons (dvar 7) (dacons dbl danil)))))))).t (dsone (dsret dbl)) dsnil) (dsone (dsset 2 sc.nd (dvar 7)))))) (dscons (dsset 4 sc.nd (dcall G_next_state (hr.mono (by decide)) (takes_of rfl rfl rfl rfl) T.f_next_state (by rfl) (dacons (dtup (dacons dint (dacons (dop o_sub (dop o_sub (dop o_pow (DE.u dint) (DE.u dint)).u (DE.u dint)).u (dcall G__law_draw (hr.mono (by decide)) (takes_of rfl rfl rfl rfl) T.f__law_draw (by rfl) (dacons (dvar 1) (dacons dint danil))).u) (dacons dint (dacons dint (dacons (dtup danil) danil)))))) (dacons (dtup (dacons dstr danil)) danil)))) (dscons (dsset 5 sc.nd (dcmp o_ge (dix o_ix (dvar 4).u (DE.u dint)).u (dop o_pow (DE.u dint) (DE.u dint)).u (nomark _))) (dscons (dsset 6 sc.nd (dcall G_seal_of (hr.mono (by decide)) (takes_of rfl rfl rfl rfl) T.f_seal_of (by rfl) (dacons (dop o_sub (dop o_sub (dop o_pow (DE.u dint) (DE.u dint)).u (DE.u dint)).u (dcall G__law_draw (hr.mono (by decide)) (takes_of rfl rfl rfl rfl) T.f__law_draw (by rfl) (dacons (dvar 1) (dacons (dop o_pow (DE.u dint) (DE.u dint)) danil))).u) danil))) (dscons (dsif (dtnot (dtval (dcall G__law_right (hr.mono (by decide)) (takes_of rfl rfl rfl rfl) T.f__law_right (by rfl) (dacons (dtup (dacons dstr (dacons dint (dacons dint (dacons (dtup (dacons dstr (dacons dstr (dacons dint (dacons (dvar 6) (dacons dint danil)))))) (dacons (dtup danil) danil)))))) (dacons (dcmp o_ge (dvar 6).u (dop o_pow (DE.u dint) (DE.u dint)).u (nomark _)) danil))))) (dsone (dsret dbl)) dsnil) (dsone (dsret (dand (dcall G__law_right (hr.mono (by decide)) (takes_of rfl rfl rfl rfl) T.f__law_right (by rfl) (dacons (dtup (dacons dstr (dacons dint (dacons (dix o_ix (dvar 4).u (DE.u dint)) danil)))) (dacons (dvar 5) danil))) (done' (dcall G__law_right (hr.mono (by decide)) (takes_of rfl rfl rfl rfl) T.f__law_right (by rfl) (dacons (dtup (dacons dstr (dacons dint (dacons (dix o_ix (dvar 4).u (DE.u dint)) (dacons (dtup (dacons dstr danil)) (dacons (dtup danil) danil)))))) (dacons (dvar 5) danil)))))))))))))),
    fun ds w Q Ed h => by
      obtain ⟨e, hb, hn, q⟩ := h
      subst e
      walk_at "m"
      refine ⟨rfl, hb, fun b => ?_⟩
      generalize hwb : ({ sc := w.sc, ns := w.ns, bag := some b, n := w.n, h := w.h } : BW) = wb
      have hbag : wb.bag = some b := by rw [← hwb]
      have hat : wb = wb.at 0 := by rw [← hwb, hn]
      rw [hat]
      walk_at "u"
      refine ⟨by decide, ?_⟩
      refine loopR_go (fun i ρ w' => ∃ (m : Nat) (t : Lt) (x3 x4 x5 x6 x7 : Option Ent), w' = wb.at m ∧ m ≤ 900 * i ∧ LtS t ∧ ρ = [some (Ent.val (D.hnd w.sc)), some (Ent.val (D.hnd b)), some (Ent.val (lettD t)), x3, x4, x5, x6, x7]) 8 ?_ ?_ _ 0 _ _ rfl ⟨0, .turn 0, _, _, _, _, _, rfl, Nat.le_refl _, ⟨by show (0 : Int) ≤ 0; decide, by show (0 : Int) < 10 ^ 15; decide⟩, rfl⟩
      · rintro i ρ w' R B hi ⟨m, t, x3, x4, x5, x6, x7, rfl, hm, ht, rfl⟩ go -
        refine seq_gen fun S hS => ?_
        walk_at "m"
        refine ltS_at hbag (by omega) fun s m2 hs g0 g1 => ?_
        subst hS
        have up : ∀ t : Lt, LtS t → t.Lo (10 ^ 40) := fun t h => h.2.up (by decide)
        walk_at "m"
        refine ⟨s, false, rfl, hs.1, up s hs, (fun z => nomatch z), fun _ => hs.2, true, rfl, ifN rfl ?_⟩
        refine ⟨t, false, rfl, ht.1, up t ht, (fun z => nomatch z), fun _ => ht.2, true, rfl, ifN rfl ?_⟩
        refine ⟨s, false, rfl, hs.1, up s hs, (fun z => nomatch z), fun _ => hs.2, true, rfl, ifN rfl ?_⟩
        exact go _ _ ⟨m2, s, _, _, _, _, _, rfl, by omega, hs, rfl⟩
      · rintro ρ w' ⟨m, t, x3, x4, x5, x6, x7, rfl, hm, ht, rfl⟩
        have p15 : CPowW 10 15 := by unfold CPowW; decide +kernel
        walk_at "m"
        refine ⟨p15, draw_at hbag (by decide) (by decide) (by omega) fun r m1 r0 r1 r2 r3 => ⟨r, rfl, by decide, by decide, ?_⟩⟩
        have en : (Ste.mk 0 (999999999999999 - r) 3 4 []).next .pass = some ⟨0, 999999999999999 - r + 1, 3, 4, []⟩ := rfl
        refine next_at (s := ⟨0, 999999999999999 - r, 3, 4, []⟩) (p := .pass) ⟨Int.le_refl 0, by show 0 ≤ 999999999999999 - r; omega, (show (0 : Int) ≤ 3 by decide), (show (0 : Int) ≤ 4 by decide), Nat.zero_le _, (fun _ h => nomatch h), trivial⟩ trivial ?_
        rw [en]
        simp only [toEnd, stD, List.map_nil]
        refine ⟨_, atI_1 _ _ _, p15, p15, p15, draw_at hbag (by decide) (by decide) (by omega) fun r2 m2 a0 a1 a2 a3 => ⟨r2, rfl, ?_⟩⟩
        refine ⟨_, rfl, rfl, fun y e h0 => ?_, fun z => absurd (show isWhole 0 (.int (999999999999999 - r2)) = true from decide_eq_true (by omega)) (by rw [z]; decide)⟩
        cases e
        have hy0 : (0 : Int) ≤ 999999999999999 - r2 := by omega
        have hg := gray_le hy0
        have hs0 : 0 ≤ sealI (999999999999999 - r2) ∧ sealI (999999999999999 - r2) < 10 ^ 40 := by unfold sealI; omega
        generalize sealI (999999999999999 - r2) = se at hs0
        refine ⟨Int.lt_of_lt_of_le (by omega : 999999999999999 - r2 < 10 ^ 15) (by decide +kernel), by decide, by decide, p15, ?_⟩
        have ok1 : (Lt.next 0 1 (.lock true 1 se 0) []).Ok := ⟨by decide, by decide, ⟨by decide, hs0.1, by decide⟩, by decide, fun _ h => nomatch h⟩
        refine ⟨.next 0 1 (.lock true 1 se 0) [], decide (1000000000000000 ≤ se), rfl, ok1, ⟨by decide, by decide, ⟨by decide, hs0.2, by decide⟩, fun _ h => nomatch h⟩, fun z => lock_great ok1 (by have := of_decide_eq_true z; omega), fun z => ⟨by decide, by decide, ⟨by decide, by have := of_decide_eq_false z; omega, by decide⟩, fun _ h => nomatch h⟩, true, rfl, ifN rfl ?_⟩
        refine ⟨_, atI_1 _ _ _, by decide, ?_⟩
        refine ⟨.done 0 (999999999999999 - r + 1), decide (1000000000000000 ≤ 999999999999999 - r + 1), rfl, ⟨by decide, by omega⟩, ⟨by decide, by omega⟩, fun z => done_great (by have := of_decide_eq_true z; omega) 0, fun z => ⟨by decide, by have := of_decide_eq_false z; omega⟩, true, rfl, ifY rfl ?_⟩
        refine ⟨_, atI_1 _ _ _, by decide, by decide, ?_⟩
        have ok2 : (Lt.next 0 (999999999999999 - r + 1) .pass []).Ok := ⟨by decide, by omega, trivial, by decide, fun _ h => nomatch h⟩
        exact ⟨.next 0 (999999999999999 - r + 1) .pass [], decide (1000000000000000 ≤ 999999999999999 - r + 1), rfl, ok2, ⟨by decide, by omega, trivial, fun _ h => nomatch h⟩, fun z => next_great ok2 (by have := of_decide_eq_true z; omega), fun z => ⟨by decide, by have := of_decide_eq_false z; omega, trivial, fun _ h => nomatch h⟩, q _⟩⟩
end
theorem all_mk {l : PySem.W.OpenLaw} {w : World} {K : PySem.W.Frag} {h : Heap} {mg : Str → Option Value} {fa f_is_whole f_seal_of f_is_positive f_is_side f_other_side f_is_lock f_are_locks f_is_state f_is_step f_check_state f_next_state f_changed f_with_more f_with_less f_share_of f_with_lock f_without_lock f_lock_of f_is_hop f_are_hops f_begins_with f_is_next f_is_done f_is_turn f_is_letter f_show_step f_show_letter f_read_letter f_in_words f_with_colons f_is_figures f_words_of f_number_of f_side_or_number f_hop_in f_step_in f_next_in f__law_bag f__law_draw f__law_count f__law_step f__law_hops f__law_letter f__law_same f__law_colons f__law_shown f__law_refused f__law_right f_law c_NoLetter c_NoSecret c_NoState c_NoStep c_NoText : Addr} (X : K.In h) (G : h.Ns mainGlobals mg) (hfa : mg "law" = some (.ref fa))
    {od_is_whole an_is_whole : Option Addr} {sl_is_whole : Array (Option Value)} {oc_is_whole kV_is_whole dc_is_whole pm_is_whole cd_is_whole ct_is_whole : Value}
    {od_seal_of an_seal_of : Option Addr} {sl_seal_of : Array (Option Value)} {oc_seal_of kV_seal_of dc_seal_of pm_seal_of cd_seal_of ct_seal_of : Value}
    {od_is_positive an_is_positive : Option Addr} {sl_is_positive : Array (Option Value)} {oc_is_positive kV_is_positive dc_is_positive pm_is_positive cd_is_positive ct_is_positive : Value}
    {od_is_side an_is_side : Option Addr} {sl_is_side : Array (Option Value)} {oc_is_side kV_is_side dc_is_side pm_is_side cd_is_side ct_is_side : Value}
    {od_other_side an_other_side : Option Addr} {sl_other_side : Array (Option Value)} {oc_other_side kV_other_side dc_other_side pm_other_side cd_other_side ct_other_side : Value}
    {od_is_lock an_is_lock : Option Addr} {sl_is_lock : Array (Option Value)} {oc_is_lock kV_is_lock dc_is_lock pm_is_lock cd_is_lock ct_is_lock : Value}
    {od_are_locks an_are_locks : Option Addr} {sl_are_locks : Array (Option Value)} {oc_are_locks kV_are_locks dc_are_locks pm_are_locks cd_are_locks ct_are_locks : Value}
    {od_is_state an_is_state : Option Addr} {sl_is_state : Array (Option Value)} {oc_is_state kV_is_state dc_is_state pm_is_state cd_is_state ct_is_state : Value}
    {od_is_step an_is_step : Option Addr} {sl_is_step : Array (Option Value)} {oc_is_step kV_is_step dc_is_step pm_is_step cd_is_step ct_is_step : Value}
    {od_check_state an_check_state : Option Addr} {sl_check_state : Array (Option Value)} {oc_check_state kV_check_state dc_check_state pm_check_state cd_check_state ct_check_state : Value}
    {od_next_state an_next_state : Option Addr} {sl_next_state : Array (Option Value)} {oc_next_state kV_next_state dc_next_state pm_next_state cd_next_state ct_next_state : Value}
    {od_changed an_changed : Option Addr} {sl_changed : Array (Option Value)} {oc_changed kV_changed dc_changed pm_changed cd_changed ct_changed : Value}
    {od_with_more an_with_more : Option Addr} {sl_with_more : Array (Option Value)} {oc_with_more kV_with_more dc_with_more pm_with_more cd_with_more ct_with_more : Value}
    {od_with_less an_with_less : Option Addr} {sl_with_less : Array (Option Value)} {oc_with_less kV_with_less dc_with_less pm_with_less cd_with_less ct_with_less : Value}
    {od_share_of an_share_of : Option Addr} {sl_share_of : Array (Option Value)} {oc_share_of kV_share_of dc_share_of pm_share_of cd_share_of ct_share_of : Value}
    {od_with_lock an_with_lock : Option Addr} {sl_with_lock : Array (Option Value)} {oc_with_lock kV_with_lock dc_with_lock pm_with_lock cd_with_lock ct_with_lock : Value}
    {od_without_lock an_without_lock : Option Addr} {sl_without_lock : Array (Option Value)} {oc_without_lock kV_without_lock dc_without_lock pm_without_lock cd_without_lock ct_without_lock : Value}
    {od_lock_of an_lock_of : Option Addr} {sl_lock_of : Array (Option Value)} {oc_lock_of kV_lock_of dc_lock_of pm_lock_of cd_lock_of ct_lock_of : Value}
    {od_is_hop an_is_hop : Option Addr} {sl_is_hop : Array (Option Value)} {oc_is_hop kV_is_hop dc_is_hop pm_is_hop cd_is_hop ct_is_hop : Value}
    {od_are_hops an_are_hops : Option Addr} {sl_are_hops : Array (Option Value)} {oc_are_hops kV_are_hops dc_are_hops pm_are_hops cd_are_hops ct_are_hops : Value}
    {od_begins_with an_begins_with : Option Addr} {sl_begins_with : Array (Option Value)} {oc_begins_with kV_begins_with dc_begins_with pm_begins_with cd_begins_with ct_begins_with : Value}
    {od_is_next an_is_next : Option Addr} {sl_is_next : Array (Option Value)} {oc_is_next kV_is_next dc_is_next pm_is_next cd_is_next ct_is_next : Value}
    {od_is_done an_is_done : Option Addr} {sl_is_done : Array (Option Value)} {oc_is_done kV_is_done dc_is_done pm_is_done cd_is_done ct_is_done : Value}
    {od_is_turn an_is_turn : Option Addr} {sl_is_turn : Array (Option Value)} {oc_is_turn kV_is_turn dc_is_turn pm_is_turn cd_is_turn ct_is_turn : Value}
    {od_is_letter an_is_letter : Option Addr} {sl_is_letter : Array (Option Value)} {oc_is_letter kV_is_letter dc_is_letter pm_is_letter cd_is_letter ct_is_letter : Value}
    {od_show_step an_show_step : Option Addr} {sl_show_step : Array (Option Value)} {oc_show_step kV_show_step dc_show_step pm_show_step cd_show_step ct_show_step : Value}
    {od_show_letter an_show_letter : Option Addr} {sl_show_letter : Array (Option Value)} {oc_show_letter kV_show_letter dc_show_letter pm_show_letter cd_show_letter ct_show_letter : Value}
    {od_read_letter an_read_letter : Option Addr} {sl_read_letter : Array (Option Value)} {oc_read_letter kV_read_letter dc_read_letter pm_read_letter cd_read_letter ct_read_letter : Value}
    {od_in_words an_in_words : Option Addr} {sl_in_words : Array (Option Value)} {oc_in_words kV_in_words dc_in_words pm_in_words cd_in_words ct_in_words : Value}
    {od_with_colons an_with_colons : Option Addr} {sl_with_colons : Array (Option Value)} {oc_with_colons kV_with_colons dc_with_colons pm_with_colons cd_with_colons ct_with_colons : Value}
    {od_is_figures an_is_figures : Option Addr} {sl_is_figures : Array (Option Value)} {oc_is_figures kV_is_figures dc_is_figures pm_is_figures cd_is_figures ct_is_figures : Value}
    {od_words_of an_words_of : Option Addr} {sl_words_of : Array (Option Value)} {oc_words_of kV_words_of dc_words_of pm_words_of cd_words_of ct_words_of : Value}
    {od_number_of an_number_of : Option Addr} {sl_number_of : Array (Option Value)} {oc_number_of kV_number_of dc_number_of pm_number_of cd_number_of ct_number_of : Value}
    {od_side_or_number an_side_or_number : Option Addr} {sl_side_or_number : Array (Option Value)} {oc_side_or_number kV_side_or_number dc_side_or_number pm_side_or_number cd_side_or_number ct_side_or_number : Value}
    {od_hop_in an_hop_in : Option Addr} {sl_hop_in : Array (Option Value)} {oc_hop_in kV_hop_in dc_hop_in pm_hop_in cd_hop_in ct_hop_in : Value}
    {od_step_in an_step_in : Option Addr} {sl_step_in : Array (Option Value)} {oc_step_in kV_step_in dc_step_in pm_step_in cd_step_in ct_step_in : Value}
    {od_next_in an_next_in : Option Addr} {sl_next_in : Array (Option Value)} {oc_next_in kV_next_in dc_next_in pm_next_in cd_next_in ct_next_in : Value}
    {od__law_bag an__law_bag : Option Addr} {sl__law_bag : Array (Option Value)} {oc__law_bag kV__law_bag dc__law_bag pm__law_bag cd__law_bag ct__law_bag : Value}
    {od__law_draw an__law_draw : Option Addr} {sl__law_draw : Array (Option Value)} {oc__law_draw kV__law_draw dc__law_draw pm__law_draw cd__law_draw ct__law_draw : Value}
    {od__law_count an__law_count : Option Addr} {sl__law_count : Array (Option Value)} {oc__law_count kV__law_count dc__law_count pm__law_count cd__law_count ct__law_count : Value}
    {od__law_step an__law_step : Option Addr} {sl__law_step : Array (Option Value)} {oc__law_step kV__law_step dc__law_step pm__law_step cd__law_step ct__law_step : Value}
    {od__law_hops an__law_hops : Option Addr} {sl__law_hops : Array (Option Value)} {oc__law_hops kV__law_hops dc__law_hops pm__law_hops cd__law_hops ct__law_hops : Value}
    {od__law_letter an__law_letter : Option Addr} {sl__law_letter : Array (Option Value)} {oc__law_letter kV__law_letter dc__law_letter pm__law_letter cd__law_letter ct__law_letter : Value}
    {od__law_same an__law_same : Option Addr} {sl__law_same : Array (Option Value)} {oc__law_same kV__law_same dc__law_same pm__law_same cd__law_same ct__law_same : Value}
    {od__law_colons an__law_colons : Option Addr} {sl__law_colons : Array (Option Value)} {oc__law_colons kV__law_colons dc__law_colons pm__law_colons cd__law_colons ct__law_colons : Value}
    {od__law_shown an__law_shown : Option Addr} {sl__law_shown : Array (Option Value)} {oc__law_shown kV__law_shown dc__law_shown pm__law_shown cd__law_shown ct__law_shown : Value}
    {od__law_refused an__law_refused : Option Addr} {sl__law_refused : Array (Option Value)} {oc__law_refused kV__law_refused dc__law_refused pm__law_refused cd__law_refused ct__law_refused : Value}
    {od__law_right an__law_right : Option Addr} {sl__law_right : Array (Option Value)} {oc__law_right kV__law_right dc__law_right pm__law_right cd__law_right ct__law_right : Value}
    {od_law an_law : Option Addr} {sl_law : Array (Option Value)} {oc_law kV_law dc_law pm_law cd_law ct_law : Value}
    {t_MOST_LOCKS t_MOST_HOPS t_MOST_FIGURES : Tok}
    (a_is_whole : PySem.W.nsIn K mainGlobals "is_whole" = some (some (.ref f_is_whole)))
    (l_is_whole : K.lookup f_is_whole = some ⟨oc_is_whole, od_is_whole, .func (PySem.W.fnOf "is_whole" "is_whole" (defArgs s_is_whole) (defBody s_is_whole) (defScope s_is_whole) .none kV_is_whole dc_is_whole pm_is_whole an_is_whole cd_is_whole ct_is_whole), sl_is_whole⟩)
    (o_is_whole : PySem.W.codeIn K cd_is_whole "is_whole" = true)
    (k_is_whole : PySem.W.keepIn K (.ref f_is_whole) = true)
    (a_seal_of : PySem.W.nsIn K mainGlobals "seal_of" = some (some (.ref f_seal_of)))
    (l_seal_of : K.lookup f_seal_of = some ⟨oc_seal_of, od_seal_of, .func (PySem.W.fnOf "seal_of" "seal_of" (defArgs s_seal_of) (defBody s_seal_of) (defScope s_seal_of) .none kV_seal_of dc_seal_of pm_seal_of an_seal_of cd_seal_of ct_seal_of), sl_seal_of⟩)
    (o_seal_of : PySem.W.codeIn K cd_seal_of "seal_of" = true)
    (k_seal_of : PySem.W.keepIn K (.ref f_seal_of) = true)
    (a_is_positive : PySem.W.nsIn K mainGlobals "is_positive" = some (some (.ref f_is_positive)))
    (l_is_positive : K.lookup f_is_positive = some ⟨oc_is_positive, od_is_positive, .func (PySem.W.fnOf "is_positive" "is_positive" (defArgs s_is_positive) (defBody s_is_positive) (defScope s_is_positive) .none kV_is_positive dc_is_positive pm_is_positive an_is_positive cd_is_positive ct_is_positive), sl_is_positive⟩)
    (o_is_positive : PySem.W.codeIn K cd_is_positive "is_positive" = true)
    (k_is_positive : PySem.W.keepIn K (.ref f_is_positive) = true)
    (a_is_side : PySem.W.nsIn K mainGlobals "is_side" = some (some (.ref f_is_side)))
    (l_is_side : K.lookup f_is_side = some ⟨oc_is_side, od_is_side, .func (PySem.W.fnOf "is_side" "is_side" (defArgs s_is_side) (defBody s_is_side) (defScope s_is_side) .none kV_is_side dc_is_side pm_is_side an_is_side cd_is_side ct_is_side), sl_is_side⟩)
    (o_is_side : PySem.W.codeIn K cd_is_side "is_side" = true)
    (k_is_side : PySem.W.keepIn K (.ref f_is_side) = true)
    (a_other_side : PySem.W.nsIn K mainGlobals "other_side" = some (some (.ref f_other_side)))
    (l_other_side : K.lookup f_other_side = some ⟨oc_other_side, od_other_side, .func (PySem.W.fnOf "other_side" "other_side" (defArgs s_other_side) (defBody s_other_side) (defScope s_other_side) .none kV_other_side dc_other_side pm_other_side an_other_side cd_other_side ct_other_side), sl_other_side⟩)
    (o_other_side : PySem.W.codeIn K cd_other_side "other_side" = true)
    (k_other_side : PySem.W.keepIn K (.ref f_other_side) = true)
    (a_is_lock : PySem.W.nsIn K mainGlobals "is_lock" = some (some (.ref f_is_lock)))
    (l_is_lock : K.lookup f_is_lock = some ⟨oc_is_lock, od_is_lock, .func (PySem.W.fnOf "is_lock" "is_lock" (defArgs s_is_lock) (defBody s_is_lock) (defScope s_is_lock) .none kV_is_lock dc_is_lock pm_is_lock an_is_lock cd_is_lock ct_is_lock), sl_is_lock⟩)
    (o_is_lock : PySem.W.codeIn K cd_is_lock "is_lock" = true)
    (k_is_lock : PySem.W.keepIn K (.ref f_is_lock) = true)
    (a_are_locks : PySem.W.nsIn K mainGlobals "are_locks" = some (some (.ref f_are_locks)))
    (l_are_locks : K.lookup f_are_locks = some ⟨oc_are_locks, od_are_locks, .func (PySem.W.fnOf "are_locks" "are_locks" (defArgs s_are_locks) (defBody s_are_locks) (defScope s_are_locks) .none kV_are_locks dc_are_locks pm_are_locks an_are_locks cd_are_locks ct_are_locks), sl_are_locks⟩)
    (o_are_locks : PySem.W.codeIn K cd_are_locks "are_locks" = true)
    (k_are_locks : PySem.W.keepIn K (.ref f_are_locks) = true)
    (a_is_state : PySem.W.nsIn K mainGlobals "is_state" = some (some (.ref f_is_state)))
    (l_is_state : K.lookup f_is_state = some ⟨oc_is_state, od_is_state, .func (PySem.W.fnOf "is_state" "is_state" (defArgs s_is_state) (defBody s_is_state) (defScope s_is_state) .none kV_is_state dc_is_state pm_is_state an_is_state cd_is_state ct_is_state), sl_is_state⟩)
    (o_is_state : PySem.W.codeIn K cd_is_state "is_state" = true)
    (k_is_state : PySem.W.keepIn K (.ref f_is_state) = true)
    (a_is_step : PySem.W.nsIn K mainGlobals "is_step" = some (some (.ref f_is_step)))
    (l_is_step : K.lookup f_is_step = some ⟨oc_is_step, od_is_step, .func (PySem.W.fnOf "is_step" "is_step" (defArgs s_is_step) (defBody s_is_step) (defScope s_is_step) .none kV_is_step dc_is_step pm_is_step an_is_step cd_is_step ct_is_step), sl_is_step⟩)
    (o_is_step : PySem.W.codeIn K cd_is_step "is_step" = true)
    (k_is_step : PySem.W.keepIn K (.ref f_is_step) = true)
    (a_check_state : PySem.W.nsIn K mainGlobals "check_state" = some (some (.ref f_check_state)))
    (l_check_state : K.lookup f_check_state = some ⟨oc_check_state, od_check_state, .func (PySem.W.fnOf "check_state" "check_state" (defArgs s_check_state) (defBody s_check_state) (defScope s_check_state) .none kV_check_state dc_check_state pm_check_state an_check_state cd_check_state ct_check_state), sl_check_state⟩)
    (o_check_state : PySem.W.codeIn K cd_check_state "check_state" = true)
    (k_check_state : PySem.W.keepIn K (.ref f_check_state) = true)
    (a_next_state : PySem.W.nsIn K mainGlobals "next_state" = some (some (.ref f_next_state)))
    (l_next_state : K.lookup f_next_state = some ⟨oc_next_state, od_next_state, .func (PySem.W.fnOf "next_state" "next_state" (defArgs s_next_state) (defBody s_next_state) (defScope s_next_state) .none kV_next_state dc_next_state pm_next_state an_next_state cd_next_state ct_next_state), sl_next_state⟩)
    (o_next_state : PySem.W.codeIn K cd_next_state "next_state" = true)
    (k_next_state : PySem.W.keepIn K (.ref f_next_state) = true)
    (a_changed : PySem.W.nsIn K mainGlobals "changed" = some (some (.ref f_changed)))
    (l_changed : K.lookup f_changed = some ⟨oc_changed, od_changed, .func (PySem.W.fnOf "changed" "changed" (defArgs s_changed) (defBody s_changed) (defScope s_changed) .none kV_changed dc_changed pm_changed an_changed cd_changed ct_changed), sl_changed⟩)
    (o_changed : PySem.W.codeIn K cd_changed "changed" = true)
    (k_changed : PySem.W.keepIn K (.ref f_changed) = true)
    (a_with_more : PySem.W.nsIn K mainGlobals "with_more" = some (some (.ref f_with_more)))
    (l_with_more : K.lookup f_with_more = some ⟨oc_with_more, od_with_more, .func (PySem.W.fnOf "with_more" "with_more" (defArgs s_with_more) (defBody s_with_more) (defScope s_with_more) .none kV_with_more dc_with_more pm_with_more an_with_more cd_with_more ct_with_more), sl_with_more⟩)
    (o_with_more : PySem.W.codeIn K cd_with_more "with_more" = true)
    (k_with_more : PySem.W.keepIn K (.ref f_with_more) = true)
    (a_with_less : PySem.W.nsIn K mainGlobals "with_less" = some (some (.ref f_with_less)))
    (l_with_less : K.lookup f_with_less = some ⟨oc_with_less, od_with_less, .func (PySem.W.fnOf "with_less" "with_less" (defArgs s_with_less) (defBody s_with_less) (defScope s_with_less) .none kV_with_less dc_with_less pm_with_less an_with_less cd_with_less ct_with_less), sl_with_less⟩)
    (o_with_less : PySem.W.codeIn K cd_with_less "with_less" = true)
    (k_with_less : PySem.W.keepIn K (.ref f_with_less) = true)
    (a_share_of : PySem.W.nsIn K mainGlobals "share_of" = some (some (.ref f_share_of)))
    (l_share_of : K.lookup f_share_of = some ⟨oc_share_of, od_share_of, .func (PySem.W.fnOf "share_of" "share_of" (defArgs s_share_of) (defBody s_share_of) (defScope s_share_of) .none kV_share_of dc_share_of pm_share_of an_share_of cd_share_of ct_share_of), sl_share_of⟩)
    (o_share_of : PySem.W.codeIn K cd_share_of "share_of" = true)
    (k_share_of : PySem.W.keepIn K (.ref f_share_of) = true)
    (a_with_lock : PySem.W.nsIn K mainGlobals "with_lock" = some (some (.ref f_with_lock)))
    (l_with_lock : K.lookup f_with_lock = some ⟨oc_with_lock, od_with_lock, .func (PySem.W.fnOf "with_lock" "with_lock" (defArgs s_with_lock) (defBody s_with_lock) (defScope s_with_lock) .none kV_with_lock dc_with_lock pm_with_lock an_with_lock cd_with_lock ct_with_lock), sl_with_lock⟩)
    (o_with_lock : PySem.W.codeIn K cd_with_lock "with_lock" = true)
    (k_with_lock : PySem.W.keepIn K (.ref f_with_lock) = true)
    (a_without_lock : PySem.W.nsIn K mainGlobals "without_lock" = some (some (.ref f_without_lock)))
    (l_without_lock : K.lookup f_without_lock = some ⟨oc_without_lock, od_without_lock, .func (PySem.W.fnOf "without_lock" "without_lock" (defArgs s_without_lock) (defBody s_without_lock) (defScope s_without_lock) .none kV_without_lock dc_without_lock pm_without_lock an_without_lock cd_without_lock ct_without_lock), sl_without_lock⟩)
    (o_without_lock : PySem.W.codeIn K cd_without_lock "without_lock" = true)
    (k_without_lock : PySem.W.keepIn K (.ref f_without_lock) = true)
    (a_lock_of : PySem.W.nsIn K mainGlobals "lock_of" = some (some (.ref f_lock_of)))
    (l_lock_of : K.lookup f_lock_of = some ⟨oc_lock_of, od_lock_of, .func (PySem.W.fnOf "lock_of" "lock_of" (defArgs s_lock_of) (defBody s_lock_of) (defScope s_lock_of) .none kV_lock_of dc_lock_of pm_lock_of an_lock_of cd_lock_of ct_lock_of), sl_lock_of⟩)
    (o_lock_of : PySem.W.codeIn K cd_lock_of "lock_of" = true)
    (k_lock_of : PySem.W.keepIn K (.ref f_lock_of) = true)
    (a_is_hop : PySem.W.nsIn K mainGlobals "is_hop" = some (some (.ref f_is_hop)))
    (l_is_hop : K.lookup f_is_hop = some ⟨oc_is_hop, od_is_hop, .func (PySem.W.fnOf "is_hop" "is_hop" (defArgs s_is_hop) (defBody s_is_hop) (defScope s_is_hop) .none kV_is_hop dc_is_hop pm_is_hop an_is_hop cd_is_hop ct_is_hop), sl_is_hop⟩)
    (o_is_hop : PySem.W.codeIn K cd_is_hop "is_hop" = true)
    (k_is_hop : PySem.W.keepIn K (.ref f_is_hop) = true)
    (a_are_hops : PySem.W.nsIn K mainGlobals "are_hops" = some (some (.ref f_are_hops)))
    (l_are_hops : K.lookup f_are_hops = some ⟨oc_are_hops, od_are_hops, .func (PySem.W.fnOf "are_hops" "are_hops" (defArgs s_are_hops) (defBody s_are_hops) (defScope s_are_hops) .none kV_are_hops dc_are_hops pm_are_hops an_are_hops cd_are_hops ct_are_hops), sl_are_hops⟩)
    (o_are_hops : PySem.W.codeIn K cd_are_hops "are_hops" = true)
    (k_are_hops : PySem.W.keepIn K (.ref f_are_hops) = true)
    (a_begins_with : PySem.W.nsIn K mainGlobals "begins_with" = some (some (.ref f_begins_with)))
    (l_begins_with : K.lookup f_begins_with = some ⟨oc_begins_with, od_begins_with, .func (PySem.W.fnOf "begins_with" "begins_with" (defArgs s_begins_with) (defBody s_begins_with) (defScope s_begins_with) .none kV_begins_with dc_begins_with pm_begins_with an_begins_with cd_begins_with ct_begins_with), sl_begins_with⟩)
    (o_begins_with : PySem.W.codeIn K cd_begins_with "begins_with" = true)
    (k_begins_with : PySem.W.keepIn K (.ref f_begins_with) = true)
    (a_is_next : PySem.W.nsIn K mainGlobals "is_next" = some (some (.ref f_is_next)))
    (l_is_next : K.lookup f_is_next = some ⟨oc_is_next, od_is_next, .func (PySem.W.fnOf "is_next" "is_next" (defArgs s_is_next) (defBody s_is_next) (defScope s_is_next) .none kV_is_next dc_is_next pm_is_next an_is_next cd_is_next ct_is_next), sl_is_next⟩)
    (o_is_next : PySem.W.codeIn K cd_is_next "is_next" = true)
    (k_is_next : PySem.W.keepIn K (.ref f_is_next) = true)
    (a_is_done : PySem.W.nsIn K mainGlobals "is_done" = some (some (.ref f_is_done)))
    (l_is_done : K.lookup f_is_done = some ⟨oc_is_done, od_is_done, .func (PySem.W.fnOf "is_done" "is_done" (defArgs s_is_done) (defBody s_is_done) (defScope s_is_done) .none kV_is_done dc_is_done pm_is_done an_is_done cd_is_done ct_is_done), sl_is_done⟩)
    (o_is_done : PySem.W.codeIn K cd_is_done "is_done" = true)
    (k_is_done : PySem.W.keepIn K (.ref f_is_done) = true)
    (a_is_turn : PySem.W.nsIn K mainGlobals "is_turn" = some (some (.ref f_is_turn)))
    (l_is_turn : K.lookup f_is_turn = some ⟨oc_is_turn, od_is_turn, .func (PySem.W.fnOf "is_turn" "is_turn" (defArgs s_is_turn) (defBody s_is_turn) (defScope s_is_turn) .none kV_is_turn dc_is_turn pm_is_turn an_is_turn cd_is_turn ct_is_turn), sl_is_turn⟩)
    (o_is_turn : PySem.W.codeIn K cd_is_turn "is_turn" = true)
    (k_is_turn : PySem.W.keepIn K (.ref f_is_turn) = true)
    (a_is_letter : PySem.W.nsIn K mainGlobals "is_letter" = some (some (.ref f_is_letter)))
    (l_is_letter : K.lookup f_is_letter = some ⟨oc_is_letter, od_is_letter, .func (PySem.W.fnOf "is_letter" "is_letter" (defArgs s_is_letter) (defBody s_is_letter) (defScope s_is_letter) .none kV_is_letter dc_is_letter pm_is_letter an_is_letter cd_is_letter ct_is_letter), sl_is_letter⟩)
    (o_is_letter : PySem.W.codeIn K cd_is_letter "is_letter" = true)
    (k_is_letter : PySem.W.keepIn K (.ref f_is_letter) = true)
    (a_show_step : PySem.W.nsIn K mainGlobals "show_step" = some (some (.ref f_show_step)))
    (l_show_step : K.lookup f_show_step = some ⟨oc_show_step, od_show_step, .func (PySem.W.fnOf "show_step" "show_step" (defArgs s_show_step) (defBody s_show_step) (defScope s_show_step) .none kV_show_step dc_show_step pm_show_step an_show_step cd_show_step ct_show_step), sl_show_step⟩)
    (o_show_step : PySem.W.codeIn K cd_show_step "show_step" = true)
    (k_show_step : PySem.W.keepIn K (.ref f_show_step) = true)
    (a_show_letter : PySem.W.nsIn K mainGlobals "show_letter" = some (some (.ref f_show_letter)))
    (l_show_letter : K.lookup f_show_letter = some ⟨oc_show_letter, od_show_letter, .func (PySem.W.fnOf "show_letter" "show_letter" (defArgs s_show_letter) (defBody s_show_letter) (defScope s_show_letter) .none kV_show_letter dc_show_letter pm_show_letter an_show_letter cd_show_letter ct_show_letter), sl_show_letter⟩)
    (o_show_letter : PySem.W.codeIn K cd_show_letter "show_letter" = true)
    (k_show_letter : PySem.W.keepIn K (.ref f_show_letter) = true)
    (a_read_letter : PySem.W.nsIn K mainGlobals "read_letter" = some (some (.ref f_read_letter)))
    (l_read_letter : K.lookup f_read_letter = some ⟨oc_read_letter, od_read_letter, .func (PySem.W.fnOf "read_letter" "read_letter" (defArgs s_read_letter) (defBody s_read_letter) (defScope s_read_letter) .none kV_read_letter dc_read_letter pm_read_letter an_read_letter cd_read_letter ct_read_letter), sl_read_letter⟩)
    (o_read_letter : PySem.W.codeIn K cd_read_letter "read_letter" = true)
    (k_read_letter : PySem.W.keepIn K (.ref f_read_letter) = true)
    (a_in_words : PySem.W.nsIn K mainGlobals "in_words" = some (some (.ref f_in_words)))
    (l_in_words : K.lookup f_in_words = some ⟨oc_in_words, od_in_words, .func (PySem.W.fnOf "in_words" "in_words" (defArgs s_in_words) (defBody s_in_words) (defScope s_in_words) .none kV_in_words dc_in_words pm_in_words an_in_words cd_in_words ct_in_words), sl_in_words⟩)
    (o_in_words : PySem.W.codeIn K cd_in_words "in_words" = true)
    (k_in_words : PySem.W.keepIn K (.ref f_in_words) = true)
    (a_with_colons : PySem.W.nsIn K mainGlobals "with_colons" = some (some (.ref f_with_colons)))
    (l_with_colons : K.lookup f_with_colons = some ⟨oc_with_colons, od_with_colons, .func (PySem.W.fnOf "with_colons" "with_colons" (defArgs s_with_colons) (defBody s_with_colons) (defScope s_with_colons) .none kV_with_colons dc_with_colons pm_with_colons an_with_colons cd_with_colons ct_with_colons), sl_with_colons⟩)
    (o_with_colons : PySem.W.codeIn K cd_with_colons "with_colons" = true)
    (k_with_colons : PySem.W.keepIn K (.ref f_with_colons) = true)
    (a_is_figures : PySem.W.nsIn K mainGlobals "is_figures" = some (some (.ref f_is_figures)))
    (l_is_figures : K.lookup f_is_figures = some ⟨oc_is_figures, od_is_figures, .func (PySem.W.fnOf "is_figures" "is_figures" (defArgs s_is_figures) (defBody s_is_figures) (defScope s_is_figures) .none kV_is_figures dc_is_figures pm_is_figures an_is_figures cd_is_figures ct_is_figures), sl_is_figures⟩)
    (o_is_figures : PySem.W.codeIn K cd_is_figures "is_figures" = true)
    (k_is_figures : PySem.W.keepIn K (.ref f_is_figures) = true)
    (a_words_of : PySem.W.nsIn K mainGlobals "words_of" = some (some (.ref f_words_of)))
    (l_words_of : K.lookup f_words_of = some ⟨oc_words_of, od_words_of, .func (PySem.W.fnOf "words_of" "words_of" (defArgs s_words_of) (defBody s_words_of) (defScope s_words_of) .none kV_words_of dc_words_of pm_words_of an_words_of cd_words_of ct_words_of), sl_words_of⟩)
    (o_words_of : PySem.W.codeIn K cd_words_of "words_of" = true)
    (k_words_of : PySem.W.keepIn K (.ref f_words_of) = true)
    (a_number_of : PySem.W.nsIn K mainGlobals "number_of" = some (some (.ref f_number_of)))
    (l_number_of : K.lookup f_number_of = some ⟨oc_number_of, od_number_of, .func (PySem.W.fnOf "number_of" "number_of" (defArgs s_number_of) (defBody s_number_of) (defScope s_number_of) .none kV_number_of dc_number_of pm_number_of an_number_of cd_number_of ct_number_of), sl_number_of⟩)
    (o_number_of : PySem.W.codeIn K cd_number_of "number_of" = true)
    (k_number_of : PySem.W.keepIn K (.ref f_number_of) = true)
    (a_side_or_number : PySem.W.nsIn K mainGlobals "side_or_number" = some (some (.ref f_side_or_number)))
    (l_side_or_number : K.lookup f_side_or_number = some ⟨oc_side_or_number, od_side_or_number, .func (PySem.W.fnOf "side_or_number" "side_or_number" (defArgs s_side_or_number) (defBody s_side_or_number) (defScope s_side_or_number) .none kV_side_or_number dc_side_or_number pm_side_or_number an_side_or_number cd_side_or_number ct_side_or_number), sl_side_or_number⟩)
    (o_side_or_number : PySem.W.codeIn K cd_side_or_number "side_or_number" = true)
    (k_side_or_number : PySem.W.keepIn K (.ref f_side_or_number) = true)
    (a_hop_in : PySem.W.nsIn K mainGlobals "hop_in" = some (some (.ref f_hop_in)))
    (l_hop_in : K.lookup f_hop_in = some ⟨oc_hop_in, od_hop_in, .func (PySem.W.fnOf "hop_in" "hop_in" (defArgs s_hop_in) (defBody s_hop_in) (defScope s_hop_in) .none kV_hop_in dc_hop_in pm_hop_in an_hop_in cd_hop_in ct_hop_in), sl_hop_in⟩)
    (o_hop_in : PySem.W.codeIn K cd_hop_in "hop_in" = true)
    (k_hop_in : PySem.W.keepIn K (.ref f_hop_in) = true)
    (a_step_in : PySem.W.nsIn K mainGlobals "step_in" = some (some (.ref f_step_in)))
    (l_step_in : K.lookup f_step_in = some ⟨oc_step_in, od_step_in, .func (PySem.W.fnOf "step_in" "step_in" (defArgs s_step_in) (defBody s_step_in) (defScope s_step_in) .none kV_step_in dc_step_in pm_step_in an_step_in cd_step_in ct_step_in), sl_step_in⟩)
    (o_step_in : PySem.W.codeIn K cd_step_in "step_in" = true)
    (k_step_in : PySem.W.keepIn K (.ref f_step_in) = true)
    (a_next_in : PySem.W.nsIn K mainGlobals "next_in" = some (some (.ref f_next_in)))
    (l_next_in : K.lookup f_next_in = some ⟨oc_next_in, od_next_in, .func (PySem.W.fnOf "next_in" "next_in" (defArgs s_next_in) (defBody s_next_in) (defScope s_next_in) .none kV_next_in dc_next_in pm_next_in an_next_in cd_next_in ct_next_in), sl_next_in⟩)
    (o_next_in : PySem.W.codeIn K cd_next_in "next_in" = true)
    (k_next_in : PySem.W.keepIn K (.ref f_next_in) = true)
    (a__law_bag : PySem.W.nsIn K mainGlobals "_law_bag" = some (some (.ref f__law_bag)))
    (l__law_bag : K.lookup f__law_bag = some ⟨oc__law_bag, od__law_bag, .func (PySem.W.fnOf "_law_bag" "_law_bag" (defArgs s__law_bag) (defBody s__law_bag) (defScope s__law_bag) .none kV__law_bag dc__law_bag pm__law_bag an__law_bag cd__law_bag ct__law_bag), sl__law_bag⟩)
    (o__law_bag : PySem.W.codeIn K cd__law_bag "_law_bag" = true)
    (k__law_bag : PySem.W.keepIn K (.ref f__law_bag) = true)
    (a__law_draw : PySem.W.nsIn K mainGlobals "_law_draw" = some (some (.ref f__law_draw)))
    (l__law_draw : K.lookup f__law_draw = some ⟨oc__law_draw, od__law_draw, .func (PySem.W.fnOf "_law_draw" "_law_draw" (defArgs s__law_draw) (defBody s__law_draw) (defScope s__law_draw) .none kV__law_draw dc__law_draw pm__law_draw an__law_draw cd__law_draw ct__law_draw), sl__law_draw⟩)
    (o__law_draw : PySem.W.codeIn K cd__law_draw "_law_draw" = true)
    (k__law_draw : PySem.W.keepIn K (.ref f__law_draw) = true)
    (a__law_count : PySem.W.nsIn K mainGlobals "_law_count" = some (some (.ref f__law_count)))
    (l__law_count : K.lookup f__law_count = some ⟨oc__law_count, od__law_count, .func (PySem.W.fnOf "_law_count" "_law_count" (defArgs s__law_count) (defBody s__law_count) (defScope s__law_count) .none kV__law_count dc__law_count pm__law_count an__law_count cd__law_count ct__law_count), sl__law_count⟩)
    (o__law_count : PySem.W.codeIn K cd__law_count "_law_count" = true)
    (k__law_count : PySem.W.keepIn K (.ref f__law_count) = true)
    (a__law_step : PySem.W.nsIn K mainGlobals "_law_step" = some (some (.ref f__law_step)))
    (l__law_step : K.lookup f__law_step = some ⟨oc__law_step, od__law_step, .func (PySem.W.fnOf "_law_step" "_law_step" (defArgs s__law_step) (defBody s__law_step) (defScope s__law_step) .none kV__law_step dc__law_step pm__law_step an__law_step cd__law_step ct__law_step), sl__law_step⟩)
    (o__law_step : PySem.W.codeIn K cd__law_step "_law_step" = true)
    (k__law_step : PySem.W.keepIn K (.ref f__law_step) = true)
    (a__law_hops : PySem.W.nsIn K mainGlobals "_law_hops" = some (some (.ref f__law_hops)))
    (l__law_hops : K.lookup f__law_hops = some ⟨oc__law_hops, od__law_hops, .func (PySem.W.fnOf "_law_hops" "_law_hops" (defArgs s__law_hops) (defBody s__law_hops) (defScope s__law_hops) .none kV__law_hops dc__law_hops pm__law_hops an__law_hops cd__law_hops ct__law_hops), sl__law_hops⟩)
    (o__law_hops : PySem.W.codeIn K cd__law_hops "_law_hops" = true)
    (k__law_hops : PySem.W.keepIn K (.ref f__law_hops) = true)
    (a__law_letter : PySem.W.nsIn K mainGlobals "_law_letter" = some (some (.ref f__law_letter)))
    (l__law_letter : K.lookup f__law_letter = some ⟨oc__law_letter, od__law_letter, .func (PySem.W.fnOf "_law_letter" "_law_letter" (defArgs s__law_letter) (defBody s__law_letter) (defScope s__law_letter) .none kV__law_letter dc__law_letter pm__law_letter an__law_letter cd__law_letter ct__law_letter), sl__law_letter⟩)
    (o__law_letter : PySem.W.codeIn K cd__law_letter "_law_letter" = true)
    (k__law_letter : PySem.W.keepIn K (.ref f__law_letter) = true)
    (a__law_same : PySem.W.nsIn K mainGlobals "_law_same" = some (some (.ref f__law_same)))
    (l__law_same : K.lookup f__law_same = some ⟨oc__law_same, od__law_same, .func (PySem.W.fnOf "_law_same" "_law_same" (defArgs s__law_same) (defBody s__law_same) (defScope s__law_same) .none kV__law_same dc__law_same pm__law_same an__law_same cd__law_same ct__law_same), sl__law_same⟩)
    (o__law_same : PySem.W.codeIn K cd__law_same "_law_same" = true)
    (k__law_same : PySem.W.keepIn K (.ref f__law_same) = true)
    (a__law_colons : PySem.W.nsIn K mainGlobals "_law_colons" = some (some (.ref f__law_colons)))
    (l__law_colons : K.lookup f__law_colons = some ⟨oc__law_colons, od__law_colons, .func (PySem.W.fnOf "_law_colons" "_law_colons" (defArgs s__law_colons) (defBody s__law_colons) (defScope s__law_colons) .none kV__law_colons dc__law_colons pm__law_colons an__law_colons cd__law_colons ct__law_colons), sl__law_colons⟩)
    (o__law_colons : PySem.W.codeIn K cd__law_colons "_law_colons" = true)
    (k__law_colons : PySem.W.keepIn K (.ref f__law_colons) = true)
    (a__law_shown : PySem.W.nsIn K mainGlobals "_law_shown" = some (some (.ref f__law_shown)))
    (l__law_shown : K.lookup f__law_shown = some ⟨oc__law_shown, od__law_shown, .func (PySem.W.fnOf "_law_shown" "_law_shown" (defArgs s__law_shown) (defBody s__law_shown) (defScope s__law_shown) .none kV__law_shown dc__law_shown pm__law_shown an__law_shown cd__law_shown ct__law_shown), sl__law_shown⟩)
    (o__law_shown : PySem.W.codeIn K cd__law_shown "_law_shown" = true)
    (k__law_shown : PySem.W.keepIn K (.ref f__law_shown) = true)
    (a__law_refused : PySem.W.nsIn K mainGlobals "_law_refused" = some (some (.ref f__law_refused)))
    (l__law_refused : K.lookup f__law_refused = some ⟨oc__law_refused, od__law_refused, .func (PySem.W.fnOf "_law_refused" "_law_refused" (defArgs s__law_refused) (defBody s__law_refused) (defScope s__law_refused) .none kV__law_refused dc__law_refused pm__law_refused an__law_refused cd__law_refused ct__law_refused), sl__law_refused⟩)
    (o__law_refused : PySem.W.codeIn K cd__law_refused "_law_refused" = true)
    (k__law_refused : PySem.W.keepIn K (.ref f__law_refused) = true)
    (a__law_right : PySem.W.nsIn K mainGlobals "_law_right" = some (some (.ref f__law_right)))
    (l__law_right : K.lookup f__law_right = some ⟨oc__law_right, od__law_right, .func (PySem.W.fnOf "_law_right" "_law_right" (defArgs s__law_right) (defBody s__law_right) (defScope s__law_right) .none kV__law_right dc__law_right pm__law_right an__law_right cd__law_right ct__law_right), sl__law_right⟩)
    (o__law_right : PySem.W.codeIn K cd__law_right "_law_right" = true)
    (k__law_right : PySem.W.keepIn K (.ref f__law_right) = true)
    (a_law : PySem.W.nsIn K mainGlobals "law" = some (some (.ref f_law)))
    (l_law : K.lookup f_law = some ⟨oc_law, od_law, .func (PySem.W.fnOf "law" "law" (defArgs s_law) (defBody s_law) (defScope s_law) .none kV_law dc_law pm_law an_law cd_law ct_law), sl_law⟩)
    (o_law : PySem.W.codeIn K cd_law "law" = true)
    (k_law : PySem.W.keepIn K (.ref f_law) = true)
    (a_NoLetter : PySem.W.nsIn K mainGlobals "NoLetter" = some (some (.ref c_NoLetter)))
    (a_NoSecret : PySem.W.nsIn K mainGlobals "NoSecret" = some (some (.ref c_NoSecret)))
    (a_NoState : PySem.W.nsIn K mainGlobals "NoState" = some (some (.ref c_NoState)))
    (a_NoStep : PySem.W.nsIn K mainGlobals "NoStep" = some (some (.ref c_NoStep)))
    (a_NoText : PySem.W.nsIn K mainGlobals "NoText" = some (some (.ref c_NoText)))
    (g_MOST_LOCKS : PySem.W.nsIn K mainGlobals "MOST_LOCKS" = some (some (.int 30 t_MOST_LOCKS)))
    (g_MOST_HOPS : PySem.W.nsIn K mainGlobals "MOST_HOPS" = some (some (.int 40 t_MOST_HOPS)))
    (g_MOST_FIGURES : PySem.W.nsIn K mainGlobals "MOST_FIGURES" = some (some (.int 15 t_MOST_FIGURES)))
    (n_all : PySem.W.nsIn K mainGlobals "all" = some none)
    (n_any : PySem.W.nsIn K mainGlobals "any" = some none)
    (n_bool : PySem.W.nsIn K mainGlobals "bool" = some none)
    (n_int : PySem.W.nsIn K mainGlobals "int" = some none)
    (n_isinstance : PySem.W.nsIn K mainGlobals "isinstance" = some none)
    (n_len : PySem.W.nsIn K mainGlobals "len" = some none)
    (n_list : PySem.W.nsIn K mainGlobals "list" = some none)
    (n_max : PySem.W.nsIn K mainGlobals "max" = some none)
    (n_range : PySem.W.nsIn K mainGlobals "range" = some none)
    (n_str : PySem.W.nsIn K mainGlobals "str" = some none)
    (n_tuple : PySem.W.nsIn K mainGlobals "tuple" = some none)
    (x_NoLetter : PySem.W.excIn K c_NoLetter [.type "ValueError", .type "Exception", .type "BaseException", .type "object"] "ValueError.__new__" = true)
    (k_NoLetter : PySem.W.keepIn K (.ref c_NoLetter) = true)
    (b_NoLetter : PySem.W.subIn K (.ref c_NoLetter) (.type "BaseException") = some true)
    (t_NoLetter : PySem.W.typeIn K (.ref c_NoLetter) = some (.type "type"))
    (x_NoSecret : PySem.W.excIn K c_NoSecret [.type "ValueError", .type "Exception", .type "BaseException", .type "object"] "ValueError.__new__" = true)
    (k_NoSecret : PySem.W.keepIn K (.ref c_NoSecret) = true)
    (b_NoSecret : PySem.W.subIn K (.ref c_NoSecret) (.type "BaseException") = some true)
    (t_NoSecret : PySem.W.typeIn K (.ref c_NoSecret) = some (.type "type"))
    (x_NoState : PySem.W.excIn K c_NoState [.type "ValueError", .type "Exception", .type "BaseException", .type "object"] "ValueError.__new__" = true)
    (k_NoState : PySem.W.keepIn K (.ref c_NoState) = true)
    (b_NoState : PySem.W.subIn K (.ref c_NoState) (.type "BaseException") = some true)
    (t_NoState : PySem.W.typeIn K (.ref c_NoState) = some (.type "type"))
    (x_NoStep : PySem.W.excIn K c_NoStep [.type "ValueError", .type "Exception", .type "BaseException", .type "object"] "ValueError.__new__" = true)
    (k_NoStep : PySem.W.keepIn K (.ref c_NoStep) = true)
    (b_NoStep : PySem.W.subIn K (.ref c_NoStep) (.type "BaseException") = some true)
    (t_NoStep : PySem.W.typeIn K (.ref c_NoStep) = some (.type "type"))
    (x_NoText : PySem.W.excIn K c_NoText [.type "ValueError", .type "Exception", .type "BaseException", .type "object"] "ValueError.__new__" = true)
    (k_NoText : PySem.W.keepIn K (.ref c_NoText) = true)
    (b_NoText : PySem.W.subIn K (.ref c_NoText) (.type "BaseException") = some true)
    (t_NoText : PySem.W.typeIn K (.ref c_NoText) = some (.type "type"))
    (exmT1 : PySem.W.subIn K (.ref c_NoText) (.type "BaseException") = some true)
    (exmT2 : PySem.W.hasDictIn K c_NoText = true)
    (exmT3 : PySem.W.typeIn K (.ref c_NoText) = some (.type "type"))
    (exmT4 : PySem.W.subIn K (.ref c_NoText) (.ref c_NoText) = some true)
    : ∃ fd : FuncData, (∀ (s : Shared) (v : Value), BindsTo s fd ⟨[v], []⟩ [("_law_script", v)]) ∧ ∀ base : Heap, K.In base → base.Ns mainGlobals mg → FnG l.prog w K mg base 10 fa fd ["_law_script"] (liftSp (GB bagA K) sfLaw) := by
  have e := hfa.symm.trans (PySem.W.mg_of X G a_law)
  cases e
  have T : Tx K mg ⟨f_is_whole, f_seal_of, f_is_positive, f_is_side, f_other_side, f_is_lock, f_are_locks, f_is_state, f_is_step, f_check_state, f_next_state, f_changed, f_with_more, f_with_less, f_share_of, f_with_lock, f_without_lock, f_lock_of, f_is_hop, f_are_hops, f_begins_with, f_is_next, f_is_done, f_is_turn, f_is_letter, f_show_step, f_show_letter, f_read_letter, f_in_words, f_with_colons, f_is_figures, f_words_of, f_number_of, f_side_or_number, f_hop_in, f_step_in, f_next_in, f__law_bag, f__law_draw, f__law_count, f__law_step, f__law_hops, f__law_letter, f__law_same, f__law_colons, f__law_shown, f__law_refused, f__law_right, fa, c_NoLetter, c_NoSecret, c_NoState, c_NoStep, c_NoText, t_MOST_LOCKS, t_MOST_HOPS, t_MOST_FIGURES⟩ := ⟨PySem.W.mg_of X G a_is_whole, PySem.W.mg_of X G a_seal_of, PySem.W.mg_of X G a_is_positive, PySem.W.mg_of X G a_is_side, PySem.W.mg_of X G a_other_side, PySem.W.mg_of X G a_is_lock, PySem.W.mg_of X G a_are_locks, PySem.W.mg_of X G a_is_state, PySem.W.mg_of X G a_is_step, PySem.W.mg_of X G a_check_state, PySem.W.mg_of X G a_next_state, PySem.W.mg_of X G a_changed, PySem.W.mg_of X G a_with_more, PySem.W.mg_of X G a_with_less, PySem.W.mg_of X G a_share_of, PySem.W.mg_of X G a_with_lock, PySem.W.mg_of X G a_without_lock, PySem.W.mg_of X G a_lock_of, PySem.W.mg_of X G a_is_hop, PySem.W.mg_of X G a_are_hops, PySem.W.mg_of X G a_begins_with, PySem.W.mg_of X G a_is_next, PySem.W.mg_of X G a_is_done, PySem.W.mg_of X G a_is_turn, PySem.W.mg_of X G a_is_letter, PySem.W.mg_of X G a_show_step, PySem.W.mg_of X G a_show_letter, PySem.W.mg_of X G a_read_letter, PySem.W.mg_of X G a_in_words, PySem.W.mg_of X G a_with_colons, PySem.W.mg_of X G a_is_figures, PySem.W.mg_of X G a_words_of, PySem.W.mg_of X G a_number_of, PySem.W.mg_of X G a_side_or_number, PySem.W.mg_of X G a_hop_in, PySem.W.mg_of X G a_step_in, PySem.W.mg_of X G a_next_in, PySem.W.mg_of X G a__law_bag, PySem.W.mg_of X G a__law_draw, PySem.W.mg_of X G a__law_count, PySem.W.mg_of X G a__law_step, PySem.W.mg_of X G a__law_hops, PySem.W.mg_of X G a__law_letter, PySem.W.mg_of X G a__law_same, PySem.W.mg_of X G a__law_colons, PySem.W.mg_of X G a__law_shown, PySem.W.mg_of X G a__law_refused, PySem.W.mg_of X G a__law_right, PySem.W.mg_of X G a_law, PySem.W.mg_none_of X G n_all, PySem.W.mg_none_of X G n_any, PySem.W.mg_none_of X G n_bool, PySem.W.mg_none_of X G n_int, PySem.W.mg_none_of X G n_isinstance, PySem.W.mg_none_of X G n_len, PySem.W.mg_none_of X G n_list, PySem.W.mg_none_of X G n_max, PySem.W.mg_none_of X G n_range, PySem.W.mg_none_of X G n_str, PySem.W.mg_none_of X G n_tuple, PySem.W.mg_of X G a_NoLetter, PySem.W.mg_of X G a_NoSecret, PySem.W.mg_of X G a_NoState, PySem.W.mg_of X G a_NoStep, PySem.W.mg_of X G a_NoText, PySem.W.mg_of X G g_MOST_LOCKS, PySem.W.mg_of X G g_MOST_HOPS, PySem.W.mg_of X G g_MOST_FIGURES, x_NoLetter, k_NoLetter, b_NoLetter, t_NoLetter, x_NoSecret, k_NoSecret, b_NoSecret, t_NoSecret, x_NoState, k_NoState, b_NoState, t_NoState, x_NoStep, k_NoStep, b_NoStep, t_NoStep, x_NoText, k_NoText, b_NoText, t_NoText, PySem.W.exm_ref exmT1 exmT2 exmT3 exmT4⟩
  have F_is_whole := fun_mk (st := s_is_whole) l_is_whole o_is_whole k_is_whole
  have b_is_whole := F_is_whole.binds (ps := ["thing"]) fun _ _ _ _ _ _ us hl => match us, hl with | [_], _ => rfl
  have F_seal_of := fun_mk (st := s_seal_of) l_seal_of o_seal_of k_seal_of
  have b_seal_of := F_seal_of.binds (ps := ["secret"]) fun _ _ _ _ _ _ us hl => match us, hl with | [_], _ => rfl
  have F_is_positive := fun_mk (st := s_is_positive) l_is_positive o_is_positive k_is_positive
  have b_is_positive := F_is_positive.binds (ps := ["thing"]) fun _ _ _ _ _ _ us hl => match us, hl with | [_], _ => rfl
  have F_is_side := fun_mk (st := s_is_side) l_is_side o_is_side k_is_side
  have b_is_side := F_is_side.binds (ps := ["thing"]) fun _ _ _ _ _ _ us hl => match us, hl with | [_], _ => rfl
  have F_other_side := fun_mk (st := s_other_side) l_other_side o_other_side k_other_side
  have b_other_side := F_other_side.binds (ps := ["side"]) fun _ _ _ _ _ _ us hl => match us, hl with | [_], _ => rfl
  have F_is_lock := fun_mk (st := s_is_lock) l_is_lock o_is_lock k_is_lock
  have b_is_lock := F_is_lock.binds (ps := ["thing"]) fun _ _ _ _ _ _ us hl => match us, hl with | [_], _ => rfl
  have F_are_locks := fun_mk (st := s_are_locks) l_are_locks o_are_locks k_are_locks
  have b_are_locks := F_are_locks.binds (ps := ["thing", "number"]) fun _ _ _ _ _ _ us hl => match us, hl with | [_, _], _ => rfl
  have F_is_state := fun_mk (st := s_is_state) l_is_state o_is_state k_is_state
  have b_is_state := F_is_state.binds (ps := ["thing"]) fun _ _ _ _ _ _ us hl => match us, hl with | [_], _ => rfl
  have F_is_step := fun_mk (st := s_is_step) l_is_step o_is_step k_is_step
  have b_is_step := F_is_step.binds (ps := ["thing"]) fun _ _ _ _ _ _ us hl => match us, hl with | [_], _ => rfl
  have F_check_state := fun_mk (st := s_check_state) l_check_state o_check_state k_check_state
  have b_check_state := F_check_state.binds (ps := ["thing"]) fun _ _ _ _ _ _ us hl => match us, hl with | [_], _ => rfl
  have F_next_state := fun_mk (st := s_next_state) l_next_state o_next_state k_next_state
  have b_next_state := F_next_state.binds (ps := ["state", "step"]) fun _ _ _ _ _ _ us hl => match us, hl with | [_, _], _ => rfl
  have F_changed := fun_mk (st := s_changed) l_changed o_changed k_changed
  have b_changed := F_changed.binds (ps := ["state", "step"]) fun _ _ _ _ _ _ us hl => match us, hl with | [_, _], _ => rfl
  have F_with_more := fun_mk (st := s_with_more) l_with_more o_with_more k_with_more
  have b_with_more := F_with_more.binds (ps := ["state", "side", "amount"]) fun _ _ _ _ _ _ us hl => match us, hl with | [_, _, _], _ => rfl
  have F_with_less := fun_mk (st := s_with_less) l_with_less o_with_less k_with_less
  have b_with_less := F_with_less.binds (ps := ["state", "side", "amount"]) fun _ _ _ _ _ _ us hl => match us, hl with | [_, _, _], _ => rfl
  have F_share_of := fun_mk (st := s_share_of) l_share_of o_share_of k_share_of
  have b_share_of := F_share_of.binds (ps := ["state", "side"]) fun _ _ _ _ _ _ us hl => match us, hl with | [_, _], _ => rfl
  have F_with_lock := fun_mk (st := s_with_lock) l_with_lock o_with_lock k_with_lock
  have b_with_lock := F_with_lock.binds (ps := ["state", "parts"]) fun _ _ _ _ _ _ us hl => match us, hl with | [_, _], _ => rfl
  have F_without_lock := fun_mk (st := s_without_lock) l_without_lock o_without_lock k_without_lock
  have b_without_lock := F_without_lock.binds (ps := ["state", "lock"]) fun _ _ _ _ _ _ us hl => match us, hl with | [_, _], _ => rfl
  have F_lock_of := fun_mk (st := s_lock_of) l_lock_of o_lock_of k_lock_of
  have b_lock_of := F_lock_of.binds (ps := ["state", "number"]) fun _ _ _ _ _ _ us hl => match us, hl with | [_, _], _ => rfl
  have F_is_hop := fun_mk (st := s_is_hop) l_is_hop o_is_hop k_is_hop
  have b_is_hop := F_is_hop.binds (ps := ["thing"]) fun _ _ _ _ _ _ us hl => match us, hl with | [_], _ => rfl
  have F_are_hops := fun_mk (st := s_are_hops) l_are_hops o_are_hops k_are_hops
  have b_are_hops := F_are_hops.binds (ps := ["thing"]) fun _ _ _ _ _ _ us hl => match us, hl with | [_], _ => rfl
  have F_begins_with := fun_mk (st := s_begins_with) l_begins_with o_begins_with k_begins_with
  have b_begins_with := F_begins_with.binds (ps := ["thing", "word", "many"]) fun _ _ _ _ _ _ us hl => match us, hl with | [_, _, _], _ => rfl
  have F_is_next := fun_mk (st := s_is_next) l_is_next o_is_next k_is_next
  have b_is_next := F_is_next.binds (ps := ["thing"]) fun _ _ _ _ _ _ us hl => match us, hl with | [_], _ => rfl
  have F_is_done := fun_mk (st := s_is_done) l_is_done o_is_done k_is_done
  have b_is_done := F_is_done.binds (ps := ["thing"]) fun _ _ _ _ _ _ us hl => match us, hl with | [_], _ => rfl
  have F_is_turn := fun_mk (st := s_is_turn) l_is_turn o_is_turn k_is_turn
  have b_is_turn := F_is_turn.binds (ps := ["thing"]) fun _ _ _ _ _ _ us hl => match us, hl with | [_], _ => rfl
  have F_is_letter := fun_mk (st := s_is_letter) l_is_letter o_is_letter k_is_letter
  have b_is_letter := F_is_letter.binds (ps := ["thing"]) fun _ _ _ _ _ _ us hl => match us, hl with | [_], _ => rfl
  have F_show_step := fun_mk (st := s_show_step) l_show_step o_show_step k_show_step
  have b_show_step := F_show_step.binds (ps := ["step"]) fun _ _ _ _ _ _ us hl => match us, hl with | [_], _ => rfl
  have F_show_letter := fun_mk (st := s_show_letter) l_show_letter o_show_letter k_show_letter
  have b_show_letter := F_show_letter.binds (ps := ["letter"]) fun _ _ _ _ _ _ us hl => match us, hl with | [_], _ => rfl
  have F_read_letter := fun_mk (st := s_read_letter) l_read_letter o_read_letter k_read_letter
  have b_read_letter := F_read_letter.binds (ps := ["text"]) fun _ _ _ _ _ _ us hl => match us, hl with | [_], _ => rfl
  have F_in_words := fun_mk (st := s_in_words) l_in_words o_in_words k_in_words
  have b_in_words := F_in_words.binds (ps := ["parts"]) fun _ _ _ _ _ _ us hl => match us, hl with | [_], _ => rfl
  have F_with_colons := fun_mk (st := s_with_colons) l_with_colons o_with_colons k_with_colons
  have b_with_colons := F_with_colons.binds (ps := ["parts"]) fun _ _ _ _ _ _ us hl => match us, hl with | [_], _ => rfl
  have F_is_figures := fun_mk (st := s_is_figures) l_is_figures o_is_figures k_is_figures
  have b_is_figures := F_is_figures.binds (ps := ["word"]) fun _ _ _ _ _ _ us hl => match us, hl with | [_], _ => rfl
  have F_words_of := fun_mk (st := s_words_of) l_words_of o_words_of k_words_of
  have b_words_of := F_words_of.binds (ps := ["text"]) fun _ _ _ _ _ _ us hl => match us, hl with | [_], _ => rfl
  have F_number_of := fun_mk (st := s_number_of) l_number_of o_number_of k_number_of
  have b_number_of := F_number_of.binds (ps := ["word"]) fun _ _ _ _ _ _ us hl => match us, hl with | [_], _ => rfl
  have F_side_or_number := fun_mk (st := s_side_or_number) l_side_or_number o_side_or_number k_side_or_number
  have b_side_or_number := F_side_or_number.binds (ps := ["word"]) fun _ _ _ _ _ _ us hl => match us, hl with | [_], _ => rfl
  have F_hop_in := fun_mk (st := s_hop_in) l_hop_in o_hop_in k_hop_in
  have b_hop_in := F_hop_in.binds (ps := ["word"]) fun _ _ _ _ _ _ us hl => match us, hl with | [_], _ => rfl
  have F_step_in := fun_mk (st := s_step_in) l_step_in o_step_in k_step_in
  have b_step_in := F_step_in.binds (ps := ["words"]) fun _ _ _ _ _ _ us hl => match us, hl with | [_], _ => rfl
  have F_next_in := fun_mk (st := s_next_in) l_next_in o_next_in k_next_in
  have b_next_in := F_next_in.binds (ps := ["words"]) fun _ _ _ _ _ _ us hl => match us, hl with | [_], _ => rfl
  have F__law_bag := fun_mk (st := s__law_bag) l__law_bag o__law_bag k__law_bag
  have b__law_bag := F__law_bag.binds (ps := ["_law_script"]) fun _ _ _ _ _ _ us hl => match us, hl with | [_], _ => rfl
  have F__law_draw := fun_mk (st := s__law_draw) l__law_draw o__law_draw k__law_draw
  have b__law_draw := F__law_draw.binds (ps := ["_law_bag_here", "_law_many"]) fun _ _ _ _ _ _ us hl => match us, hl with | [_, _], _ => rfl
  have F__law_count := fun_mk (st := s__law_count) l__law_count o__law_count k__law_count
  have b__law_count := F__law_count.binds (ps := ["_law_bag_here"]) fun _ _ _ _ _ _ us hl => match us, hl with | [_], _ => rfl
  have F__law_step := fun_mk (st := s__law_step) l__law_step o__law_step k__law_step
  have b__law_step := F__law_step.binds (ps := ["_law_bag_here"]) fun _ _ _ _ _ _ us hl => match us, hl with | [_], _ => rfl
  have F__law_hops := fun_mk (st := s__law_hops) l__law_hops o__law_hops k__law_hops
  have b__law_hops := F__law_hops.binds (ps := ["_law_bag_here", "_law_most"]) fun _ _ _ _ _ _ us hl => match us, hl with | [_, _], _ => rfl
  have F__law_letter := fun_mk (st := s__law_letter) l__law_letter o__law_letter k__law_letter
  have b__law_letter := F__law_letter.binds (ps := ["_law_bag_here"]) fun _ _ _ _ _ _ us hl => match us, hl with | [_], _ => rfl
  have F__law_same := fun_mk (st := s__law_same) l__law_same o__law_same k__law_same
  have b__law_same := F__law_same.binds (ps := ["_law_found", "_law_due"]) fun _ _ _ _ _ _ us hl => match us, hl with | [_, _], _ => rfl
  have F__law_colons := fun_mk (st := s__law_colons) l__law_colons o__law_colons k__law_colons
  have b__law_colons := F__law_colons.binds (ps := ["_law_parts"]) fun _ _ _ _ _ _ us hl => match us, hl with | [_], _ => rfl
  have F__law_shown := fun_mk (st := s__law_shown) l__law_shown o__law_shown k__law_shown
  have b__law_shown := F__law_shown.binds (ps := ["_law_thing"]) fun _ _ _ _ _ _ us hl => match us, hl with | [_], _ => rfl
  have F__law_refused := fun_mk (st := s__law_refused) l__law_refused o__law_refused k__law_refused
  have b__law_refused := F__law_refused.binds (ps := ["_law_text"]) fun _ _ _ _ _ _ us hl => match us, hl with | [_], _ => rfl
  have F__law_right := fun_mk (st := s__law_right) l__law_right o__law_right k__law_right
  have b__law_right := F__law_right.binds (ps := ["_law_letter_here", "_law_great"]) fun _ _ _ _ _ _ us hl => match us, hl with | [_, _], _ => rfl
  have F_law := fun_mk (st := s_law) l_law o_law k_law
  have b_law := F_law.binds (ps := ["_law_script"]) fun _ _ _ _ _ _ us hl => match us, hl with | [_], _ => rfl
  refine ⟨PySem.W.fnOf "law" "law" (defArgs s_law) (defBody s_law) (defScope s_law) .none kV_law dc_law pm_law an_law cd_law ct_law, fun s v => .of_eq rfl, fun base _ _ => ?_⟩
  have G_is_whole := ok_is_whole (P := l.prog) (wd := w) (base := base) T F_is_whole b_is_whole 
  have G_seal_of := ok_seal_of (P := l.prog) (wd := w) (base := base) T F_seal_of b_seal_of G_is_whole
  have G_is_positive := ok_is_positive (P := l.prog) (wd := w) (base := base) T F_is_positive b_is_positive G_is_whole
  have G_is_side := ok_is_side (P := l.prog) (wd := w) (base := base) T F_is_side b_is_side 
  have G_other_side := ok_other_side (P := l.prog) (wd := w) (base := base) T F_other_side b_other_side 
  have G_is_lock := ok_is_lock (P := l.prog) (wd := w) (base := base) T F_is_lock b_is_lock G_is_whole G_is_positive G_is_side
  have G_are_locks := ok_are_locks (P := l.prog) (wd := w) (base := base) T F_are_locks b_are_locks G_is_lock
  have G_is_state := ok_is_state (P := l.prog) (wd := w) (base := base) T F_is_state b_is_state G_is_whole G_are_locks
  have G_is_step := ok_is_step (P := l.prog) (wd := w) (base := base) T F_is_step b_is_step G_is_whole G_is_positive G_is_side G_is_lock
  have G_check_state := ok_check_state (P := l.prog) (wd := w) (base := base) T F_check_state b_check_state G_is_state
  have G_with_more := ok_with_more (P := l.prog) (wd := w) (base := base) T F_with_more b_with_more 
  have G_share_of := ok_share_of (P := l.prog) (wd := w) (base := base) T F_share_of b_share_of 
  have G_with_less := ok_with_less (P := l.prog) (wd := w) (base := base) T F_with_less b_with_less G_with_more G_share_of
  have G_with_lock := ok_with_lock (P := l.prog) (wd := w) (base := base) T F_with_lock b_with_lock G_with_less
  have G_without_lock := ok_without_lock (P := l.prog) (wd := w) (base := base) T F_without_lock b_without_lock 
  have G_lock_of := ok_lock_of (P := l.prog) (wd := w) (base := base) T F_lock_of b_lock_of 
  have G_changed := ok_changed (P := l.prog) (wd := w) (base := base) T F_changed b_changed G_seal_of G_other_side G_with_more G_with_less G_with_lock G_without_lock G_lock_of
  have G_next_state := ok_next_state (P := l.prog) (wd := w) (base := base) T F_next_state b_next_state G_is_step G_check_state G_changed
  have G_is_hop := ok_is_hop (P := l.prog) (wd := w) (base := base) T F_is_hop b_is_hop G_is_whole G_is_positive
  have G_are_hops := ok_are_hops (P := l.prog) (wd := w) (base := base) T F_are_hops b_are_hops G_is_hop
  have G_begins_with := ok_begins_with (P := l.prog) (wd := w) (base := base) T F_begins_with b_begins_with G_is_whole
  have G_is_next := ok_is_next (P := l.prog) (wd := w) (base := base) T F_is_next b_is_next G_is_whole G_is_step G_are_hops G_begins_with
  have G_is_done := ok_is_done (P := l.prog) (wd := w) (base := base) T F_is_done b_is_done G_is_whole G_begins_with
  have G_is_turn := ok_is_turn (P := l.prog) (wd := w) (base := base) T F_is_turn b_is_turn G_begins_with
  have G_is_letter := ok_is_letter (P := l.prog) (wd := w) (base := base) T F_is_letter b_is_letter G_is_next G_is_done G_is_turn
  have G_in_words := ok_in_words (P := l.prog) (wd := w) (base := base) T F_in_words b_in_words 
  have G_show_step := ok_show_step (P := l.prog) (wd := w) (base := base) T F_show_step b_show_step G_is_step G_in_words
  have G_with_colons := ok_with_colons (P := l.prog) (wd := w) (base := base) T F_with_colons b_with_colons 
  have G_show_letter := ok_show_letter (P := l.prog) (wd := w) (base := base) T F_show_letter b_show_letter G_is_letter G_show_step G_in_words G_with_colons
  have G_words_of := ok_words_of (P := l.prog) (wd := w) (base := base) T F_words_of b_words_of 
  have G_is_figures := ok_is_figures (P := l.prog) (wd := w) (base := base) T F_is_figures b_is_figures 
  have G_number_of := ok_number_of (P := l.prog) (wd := w) (base := base) T F_number_of b_number_of G_is_figures
  have G_hop_in := ok_hop_in (P := l.prog) (wd := w) (base := base) T F_hop_in b_hop_in G_number_of
  have G_side_or_number := ok_side_or_number (P := l.prog) (wd := w) (base := base) T F_side_or_number b_side_or_number G_number_of
  have G_step_in := ok_step_in (P := l.prog) (wd := w) (base := base) T F_step_in b_step_in G_is_step G_side_or_number
  have G_next_in := ok_next_in (P := l.prog) (wd := w) (base := base) T F_next_in b_next_in G_number_of G_hop_in G_step_in
  have G_read_letter := ok_read_letter (P := l.prog) (wd := w) (base := base) T F_read_letter b_read_letter G_is_letter G_words_of G_number_of G_next_in
  have G__law_bag := ok__law_bag (P := l.prog) (wd := w) (base := base) T F__law_bag b__law_bag 
  have G__law_draw : FnD (GB bagA K) l.prog w K mg base 1 f__law_draw _ _ sfDraw := ok_draw F__law_draw b__law_draw (PySem.W.mg_none_of X G n_len)
  have G__law_count := ok__law_count (P := l.prog) (wd := w) (base := base) T F__law_count b__law_count G__law_draw
  have G__law_step := ok__law_step (P := l.prog) (wd := w) (base := base) T F__law_step b__law_step G__law_draw G__law_count
  have G__law_hops := ok__law_hops (P := l.prog) (wd := w) (base := base) T F__law_hops b__law_hops G__law_draw G__law_count
  have G__law_letter := ok__law_letter (P := l.prog) (wd := w) (base := base) T F__law_letter b__law_letter G__law_draw G__law_count G__law_step G__law_hops
  have G__law_same := ok__law_same (P := l.prog) (wd := w) (base := base) T F__law_same b__law_same  5
  have G__law_colons := ok__law_colons (P := l.prog) (wd := w) (base := base) T F__law_colons b__law_colons 
  have G__law_shown := ok__law_shown (P := l.prog) (wd := w) (base := base) T F__law_shown b__law_shown G__law_colons 2
  have G__law_refused := ok__law_refused (P := l.prog) (wd := w) (base := base) T F__law_refused b__law_refused G_read_letter
  have G__law_right := ok__law_right (P := l.prog) (wd := w) (base := base) T F__law_right b__law_right G_show_letter G_read_letter G__law_same G__law_shown G__law_refused
  have G_law := ok_law (P := l.prog) (wd := w) (base := base) T F_law b_law G_seal_of G_next_state G__law_bag G__law_draw G__law_letter G__law_right
  exact G_law.ok
theorem lawSp {K : PySem.W.Frag} {H : Hp} {a : Addr} {ns : List Int} (hl : ns.length ≤ 63) (hb : BitsOk ns) (hS : SqL K H a (ns.map V.int)) : liftSp (GB bagA K) sfLaw [.ref a] H (fun v _ => v = .bl true) fun _ _ _ => False :=
  ⟨fun _ => False, fun _ => False, [.hnd a], ⟨a, ns, none, 0, fun _ => none⟩, fun _ _ => False, ⟨⟨ScAt.of hS fun z => z, hl, hb, (fun _ e => nomatch e), fun _ _ e => nomatch e⟩, fun _ h => h.elim, fun _ h => h.elim⟩, .cons (.hnd a) .nil, fun _ _ _ _ _ _ _ z => z.elim, rfl, rfl, rfl, fun w' v H' A' F' _ _ r => by cases r; rfl⟩
theorem walk {l : PySem.W.OpenLaw} {q : Program} {loose : List Str} {XP : (Str → Option Value) → Heap → Prop} {YP : World → Heap → Prop} {d : DefRec} {K : Params → PySem.W.Frag} (hn : l.most = some 63) (hdf : d.params.defaults = [])
    (hY : ∀ (w : World) (h : Heap), YP w h → (K w.params).In h)
    (F : ∀ (w : World) (mg : Str → Option Value) (fa : Addr) (h : Heap), (K w.params).In h → h.Ns mainGlobals mg → mg d.name = some (.ref fa) →
      ∃ fd : FuncData, (∀ (s : Shared) (u : Value), BindsTo s fd ⟨[u], []⟩ [("_law_script", u)]) ∧ ∀ base : Heap, (K w.params).In base → base.Ns mainGlobals mg → FnG l.prog w (K w.params) mg base 10 fa fd ["_law_script"] (liftSp (GB bagA (K w.params)) sfLaw)) :
    PySem.W.WalkO q loose XP YP l.row.toRowW d [] (fun f vs => PySem.call f vs) :=
  walk_g (n := 63) (k := 10) (x := "_law_script") (sp := fun w => liftSp (GB bagA (K w.params)) sfLaw) hn (by decide) hdf ⟨⟨rfl, by decide, by decide⟩, rfl⟩ hY F (fun _ _ _ _ hl hb _ hS => lawSp hl hb hS)
end LW
open PySem PySem.W PyProof.Rows
set_option maxRecDepth 100000 in
set_option maxHeartbeats 0 in
theorem PySem.Challenge.cw_coinlanes_k76_letters_written_and_read_holds : PySem.Challenge.rw_coinlanes_k76_letters_written_and_read.Holds := by
  w_on; o_law; k_head; (case hw => w_witness2)
  k_fill
  refine LW.walk (l := PySem.Challenge.rw_coinlanes_k76_letters_written_and_read) rfl rfl (fun w h Y => PySem.W.kIn_of Y) ?F
  case F =>
    intro w mg fa h KX G hmg
    refine' LW.all_mk KX G hmg ?a_is_whole ?l_is_whole ?o_is_whole ?k_is_whole ?a_seal_of ?l_seal_of ?o_seal_of ?k_seal_of ?a_is_positive ?l_is_positive ?o_is_positive ?k_is_positive ?a_is_side ?l_is_side ?o_is_side ?k_is_side ?a_other_side ?l_other_side ?o_other_side ?k_other_side ?a_is_lock ?l_is_lock ?o_is_lock ?k_is_lock ?a_are_locks ?l_are_locks ?o_are_locks ?k_are_locks ?a_is_state ?l_is_state ?o_is_state ?k_is_state ?a_is_step ?l_is_step ?o_is_step ?k_is_step ?a_check_state ?l_check_state ?o_check_state ?k_check_state ?a_next_state ?l_next_state ?o_next_state ?k_next_state ?a_changed ?l_changed ?o_changed ?k_changed ?a_with_more ?l_with_more ?o_with_more ?k_with_more ?a_with_less ?l_with_less ?o_with_less ?k_with_less ?a_share_of ?l_share_of ?o_share_of ?k_share_of ?a_with_lock ?l_with_lock ?o_with_lock ?k_with_lock ?a_without_lock ?l_without_lock ?o_without_lock ?k_without_lock ?a_lock_of ?l_lock_of ?o_lock_of ?k_lock_of ?a_is_hop ?l_is_hop ?o_is_hop ?k_is_hop ?a_are_hops ?l_are_hops ?o_are_hops ?k_are_hops ?a_begins_with ?l_begins_with ?o_begins_with ?k_begins_with ?a_is_next ?l_is_next ?o_is_next ?k_is_next ?a_is_done ?l_is_done ?o_is_done ?k_is_done ?a_is_turn ?l_is_turn ?o_is_turn ?k_is_turn ?a_is_letter ?l_is_letter ?o_is_letter ?k_is_letter ?a_show_step ?l_show_step ?o_show_step ?k_show_step ?a_show_letter ?l_show_letter ?o_show_letter ?k_show_letter ?a_read_letter ?l_read_letter ?o_read_letter ?k_read_letter ?a_in_words ?l_in_words ?o_in_words ?k_in_words ?a_with_colons ?l_with_colons ?o_with_colons ?k_with_colons ?a_is_figures ?l_is_figures ?o_is_figures ?k_is_figures ?a_words_of ?l_words_of ?o_words_of ?k_words_of ?a_number_of ?l_number_of ?o_number_of ?k_number_of ?a_side_or_number ?l_side_or_number ?o_side_or_number ?k_side_or_number ?a_hop_in ?l_hop_in ?o_hop_in ?k_hop_in ?a_step_in ?l_step_in ?o_step_in ?k_step_in ?a_next_in ?l_next_in ?o_next_in ?k_next_in ?a__law_bag ?l__law_bag ?o__law_bag ?k__law_bag ?a__law_draw ?l__law_draw ?o__law_draw ?k__law_draw ?a__law_count ?l__law_count ?o__law_count ?k__law_count ?a__law_step ?l__law_step ?o__law_step ?k__law_step ?a__law_hops ?l__law_hops ?o__law_hops ?k__law_hops ?a__law_letter ?l__law_letter ?o__law_letter ?k__law_letter ?a__law_same ?l__law_same ?o__law_same ?k__law_same ?a__law_colons ?l__law_colons ?o__law_colons ?k__law_colons ?a__law_shown ?l__law_shown ?o__law_shown ?k__law_shown ?a__law_refused ?l__law_refused ?o__law_refused ?k__law_refused ?a__law_right ?l__law_right ?o__law_right ?k__law_right ?a_law ?l_law ?o_law ?k_law ?a_NoLetter ?a_NoSecret ?a_NoState ?a_NoStep ?a_NoText ?g_MOST_LOCKS ?g_MOST_HOPS ?g_MOST_FIGURES ?n_all ?n_any ?n_bool ?n_int ?n_isinstance ?n_len ?n_list ?n_max ?n_range ?n_str ?n_tuple ?x_NoLetter ?k_NoLetter ?b_NoLetter ?t_NoLetter ?x_NoSecret ?k_NoSecret ?b_NoSecret ?t_NoSecret ?x_NoState ?k_NoState ?b_NoState ?t_NoState ?x_NoStep ?k_NoStep ?b_NoStep ?t_NoStep ?x_NoText ?k_NoText ?b_NoText ?t_NoText ?exmT1 ?exmT2 ?exmT3 ?exmT4
    (case a_is_whole => first | k_is | k_exc | kit_is | rfl)
    (case l_is_whole => first | k_is | k_exc | kit_is | rfl)
    (case o_is_whole => first | k_is | k_exc | kit_is | rfl)
    (case k_is_whole => first | k_is | k_exc | kit_is | rfl)
    (case a_seal_of => first | k_is | k_exc | kit_is | rfl)
    (case l_seal_of => first | k_is | k_exc | kit_is | rfl)
    (case o_seal_of => first | k_is | k_exc | kit_is | rfl)
    (case k_seal_of => first | k_is | k_exc | kit_is | rfl)
    (case a_is_positive => first | k_is | k_exc | kit_is | rfl)
    (case l_is_positive => first | k_is | k_exc | kit_is | rfl)
    (case o_is_positive => first | k_is | k_exc | kit_is | rfl)
    (case k_is_positive => first | k_is | k_exc | kit_is | rfl)
    (case a_is_side => first | k_is | k_exc | kit_is | rfl)
    (case l_is_side => first | k_is | k_exc | kit_is | rfl)
    (case o_is_side => first | k_is | k_exc | kit_is | rfl)
    (case k_is_side => first | k_is | k_exc | kit_is | rfl)
    (case a_other_side => first | k_is | k_exc | kit_is | rfl)
    (case l_other_side => first | k_is | k_exc | kit_is | rfl)
    (case o_other_side => first | k_is | k_exc | kit_is | rfl)
    (case k_other_side => first | k_is | k_exc | kit_is | rfl)
    (case a_is_lock => first | k_is | k_exc | kit_is | rfl)
    (case l_is_lock => first | k_is | k_exc | kit_is | rfl)
    (case o_is_lock => first | k_is | k_exc | kit_is | rfl)
    (case k_is_lock => first | k_is | k_exc | kit_is | rfl)
    (case a_are_locks => first | k_is | k_exc | kit_is | rfl)
    (case l_are_locks => first | k_is | k_exc | kit_is | rfl)
    (case o_are_locks => first | k_is | k_exc | kit_is | rfl)
    (case k_are_locks => first | k_is | k_exc | kit_is | rfl)
    (case a_is_state => first | k_is | k_exc | kit_is | rfl)
    (case l_is_state => first | k_is | k_exc | kit_is | rfl)
    (case o_is_state => first | k_is | k_exc | kit_is | rfl)
    (case k_is_state => first | k_is | k_exc | kit_is | rfl)
    (case a_is_step => first | k_is | k_exc | kit_is | rfl)
    (case l_is_step => first | k_is | k_exc | kit_is | rfl)
    (case o_is_step => first | k_is | k_exc | kit_is | rfl)
    (case k_is_step => first | k_is | k_exc | kit_is | rfl)
    (case a_check_state => first | k_is | k_exc | kit_is | rfl)
    (case l_check_state => first | k_is | k_exc | kit_is | rfl)
    (case o_check_state => first | k_is | k_exc | kit_is | rfl)
    (case k_check_state => first | k_is | k_exc | kit_is | rfl)
    (case a_next_state => first | k_is | k_exc | kit_is | rfl)
    (case l_next_state => first | k_is | k_exc | kit_is | rfl)
    (case o_next_state => first | k_is | k_exc | kit_is | rfl)
    (case k_next_state => first | k_is | k_exc | kit_is | rfl)
    (case a_changed => first | k_is | k_exc | kit_is | rfl)
    (case l_changed => first | k_is | k_exc | kit_is | rfl)
    (case o_changed => first | k_is | k_exc | kit_is | rfl)
    (case k_changed => first | k_is | k_exc | kit_is | rfl)
    (case a_with_more => first | k_is | k_exc | kit_is | rfl)
    (case l_with_more => first | k_is | k_exc | kit_is | rfl)
    (case o_with_more => first | k_is | k_exc | kit_is | rfl)
    (case k_with_more => first | k_is | k_exc | kit_is | rfl)
    (case a_with_less => first | k_is | k_exc | kit_is | rfl)
    (case l_with_less => first | k_is | k_exc | kit_is | rfl)
    (case o_with_less => first | k_is | k_exc | kit_is | rfl)
    (case k_with_less => first | k_is | k_exc | kit_is | rfl)
    (case a_share_of => first | k_is | k_exc | kit_is | rfl)
    (case l_share_of => first | k_is | k_exc | kit_is | rfl)
    (case o_share_of => first | k_is | k_exc | kit_is | rfl)
    (case k_share_of => first | k_is | k_exc | kit_is | rfl)
    (case a_with_lock => first | k_is | k_exc | kit_is | rfl)
    (case l_with_lock => first | k_is | k_exc | kit_is | rfl)
    (case o_with_lock => first | k_is | k_exc | kit_is | rfl)
    (case k_with_lock => first | k_is | k_exc | kit_is | rfl)
    (case a_without_lock => first | k_is | k_exc | kit_is | rfl)
    (case l_without_lock => first | k_is | k_exc | kit_is | rfl)
    (case o_without_lock => first | k_is | k_exc | kit_is | rfl)
    (case k_without_lock => first | k_is | k_exc | kit_is | rfl)
    (case a_lock_of => first | k_is | k_exc | kit_is | rfl)
    (case l_lock_of => first | k_is | k_exc | kit_is | rfl)
    (case o_lock_of => first | k_is | k_exc | kit_is | rfl)
    (case k_lock_of => first | k_is | k_exc | kit_is | rfl)
    (case a_is_hop => first | k_is | k_exc | kit_is | rfl)
    (case l_is_hop => first | k_is | k_exc | kit_is | rfl)
    (case o_is_hop => first | k_is | k_exc | kit_is | rfl)
    (case k_is_hop => first | k_is | k_exc | kit_is | rfl)
    (case a_are_hops => first | k_is | k_exc | kit_is | rfl)
    (case l_are_hops => first | k_is | k_exc | kit_is | rfl)
    (case o_are_hops => first | k_is | k_exc | kit_is | rfl)
    (case k_are_hops => first | k_is | k_exc | kit_is | rfl)
    (case a_begins_with => first | k_is | k_exc | kit_is | rfl)
    (case l_begins_with => first | k_is | k_exc | kit_is | rfl)
    (case o_begins_with => first | k_is | k_exc | kit_is | rfl)
    (case k_begins_with => first | k_is | k_exc | kit_is | rfl)
    (case a_is_next => first | k_is | k_exc | kit_is | rfl)
    (case l_is_next => first | k_is | k_exc | kit_is | rfl)
    (case o_is_next => first | k_is | k_exc | kit_is | rfl)
    (case k_is_next => first | k_is | k_exc | kit_is | rfl)
    (case a_is_done => first | k_is | k_exc | kit_is | rfl)
    (case l_is_done => first | k_is | k_exc | kit_is | rfl)
    (case o_is_done => first | k_is | k_exc | kit_is | rfl)
    (case k_is_done => first | k_is | k_exc | kit_is | rfl)
    (case a_is_turn => first | k_is | k_exc | kit_is | rfl)
    (case l_is_turn => first | k_is | k_exc | kit_is | rfl)
    (case o_is_turn => first | k_is | k_exc | kit_is | rfl)
    (case k_is_turn => first | k_is | k_exc | kit_is | rfl)
    (case a_is_letter => first | k_is | k_exc | kit_is | rfl)
    (case l_is_letter => first | k_is | k_exc | kit_is | rfl)
    (case o_is_letter => first | k_is | k_exc | kit_is | rfl)
    (case k_is_letter => first | k_is | k_exc | kit_is | rfl)
    (case a_show_step => first | k_is | k_exc | kit_is | rfl)
    (case l_show_step => first | k_is | k_exc | kit_is | rfl)
    (case o_show_step => first | k_is | k_exc | kit_is | rfl)
    (case k_show_step => first | k_is | k_exc | kit_is | rfl)
    (case a_show_letter => first | k_is | k_exc | kit_is | rfl)
    (case l_show_letter => first | k_is | k_exc | kit_is | rfl)
    (case o_show_letter => first | k_is | k_exc | kit_is | rfl)
    (case k_show_letter => first | k_is | k_exc | kit_is | rfl)
    (case a_read_letter => first | k_is | k_exc | kit_is | rfl)
    (case l_read_letter => first | k_is | k_exc | kit_is | rfl)
    (case o_read_letter => first | k_is | k_exc | kit_is | rfl)
    (case k_read_letter => first | k_is | k_exc | kit_is | rfl)
    (case a_in_words => first | k_is | k_exc | kit_is | rfl)
    (case l_in_words => first | k_is | k_exc | kit_is | rfl)
    (case o_in_words => first | k_is | k_exc | kit_is | rfl)
    (case k_in_words => first | k_is | k_exc | kit_is | rfl)
    (case a_with_colons => first | k_is | k_exc | kit_is | rfl)
    (case l_with_colons => first | k_is | k_exc | kit_is | rfl)
    (case o_with_colons => first | k_is | k_exc | kit_is | rfl)
    (case k_with_colons => first | k_is | k_exc | kit_is | rfl)
    (case a_is_figures => first | k_is | k_exc | kit_is | rfl)
    (case l_is_figures => first | k_is | k_exc | kit_is | rfl)
    (case o_is_figures => first | k_is | k_exc | kit_is | rfl)
    (case k_is_figures => first | k_is | k_exc | kit_is | rfl)
    (case a_words_of => first | k_is | k_exc | kit_is | rfl)
    (case l_words_of => first | k_is | k_exc | kit_is | rfl)
    (case o_words_of => first | k_is | k_exc | kit_is | rfl)
    (case k_words_of => first | k_is | k_exc | kit_is | rfl)
    (case a_number_of => first | k_is | k_exc | kit_is | rfl)
    (case l_number_of => first | k_is | k_exc | kit_is | rfl)
    (case o_number_of => first | k_is | k_exc | kit_is | rfl)
    (case k_number_of => first | k_is | k_exc | kit_is | rfl)
    (case a_side_or_number => first | k_is | k_exc | kit_is | rfl)
    (case l_side_or_number => first | k_is | k_exc | kit_is | rfl)
    (case o_side_or_number => first | k_is | k_exc | kit_is | rfl)
    (case k_side_or_number => first | k_is | k_exc | kit_is | rfl)
    (case a_hop_in => first | k_is | k_exc | kit_is | rfl)
    (case l_hop_in => first | k_is | k_exc | kit_is | rfl)
    (case o_hop_in => first | k_is | k_exc | kit_is | rfl)
    (case k_hop_in => first | k_is | k_exc | kit_is | rfl)
    (case a_step_in => first | k_is | k_exc | kit_is | rfl)
    (case l_step_in => first | k_is | k_exc | kit_is | rfl)
    (case o_step_in => first | k_is | k_exc | kit_is | rfl)
    (case k_step_in => first | k_is | k_exc | kit_is | rfl)
    (case a_next_in => first | k_is | k_exc | kit_is | rfl)
    (case l_next_in => first | k_is | k_exc | kit_is | rfl)
    (case o_next_in => first | k_is | k_exc | kit_is | rfl)
    (case k_next_in => first | k_is | k_exc | kit_is | rfl)
    (case a__law_bag => first | k_is | k_exc | kit_is | rfl)
    (case l__law_bag => first | k_is | k_exc | kit_is | rfl)
    (case o__law_bag => first | k_is | k_exc | kit_is | rfl)
    (case k__law_bag => first | k_is | k_exc | kit_is | rfl)
    (case a__law_draw => first | k_is | k_exc | kit_is | rfl)
    (case l__law_draw => first | k_is | k_exc | kit_is | rfl)
    (case o__law_draw => first | k_is | k_exc | kit_is | rfl)
    (case k__law_draw => first | k_is | k_exc | kit_is | rfl)
    (case a__law_count => first | k_is | k_exc | kit_is | rfl)
    (case l__law_count => first | k_is | k_exc | kit_is | rfl)
    (case o__law_count => first | k_is | k_exc | kit_is | rfl)
    (case k__law_count => first | k_is | k_exc | kit_is | rfl)
    (case a__law_step => first | k_is | k_exc | kit_is | rfl)
    (case l__law_step => first | k_is | k_exc | kit_is | rfl)
    (case o__law_step => first | k_is | k_exc | kit_is | rfl)
    (case k__law_step => first | k_is | k_exc | kit_is | rfl)
    (case a__law_hops => first | k_is | k_exc | kit_is | rfl)
    (case l__law_hops => first | k_is | k_exc | kit_is | rfl)
    (case o__law_hops => first | k_is | k_exc | kit_is | rfl)
    (case k__law_hops => first | k_is | k_exc | kit_is | rfl)
    (case a__law_letter => first | k_is | k_exc | kit_is | rfl)
    (case l__law_letter => first | k_is | k_exc | kit_is | rfl)
    (case o__law_letter => first | k_is | k_exc | kit_is | rfl)
    (case k__law_letter => first | k_is | k_exc | kit_is | rfl)
    (case a__law_same => first | k_is | k_exc | kit_is | rfl)
    (case l__law_same => first | k_is | k_exc | kit_is | rfl)
    (case o__law_same => first | k_is | k_exc | kit_is | rfl)
    (case k__law_same => first | k_is | k_exc | kit_is | rfl)
    (case a__law_colons => first | k_is | k_exc | kit_is | rfl)
    (case l__law_colons => first | k_is | k_exc | kit_is | rfl)
    (case o__law_colons => first | k_is | k_exc | kit_is | rfl)
    (case k__law_colons => first | k_is | k_exc | kit_is | rfl)
    (case a__law_shown => first | k_is | k_exc | kit_is | rfl)
    (case l__law_shown => first | k_is | k_exc | kit_is | rfl)
    (case o__law_shown => first | k_is | k_exc | kit_is | rfl)
    (case k__law_shown => first | k_is | k_exc | kit_is | rfl)
    (case a__law_refused => first | k_is | k_exc | kit_is | rfl)
    (case l__law_refused => first | k_is | k_exc | kit_is | rfl)
    (case o__law_refused => first | k_is | k_exc | kit_is | rfl)
    (case k__law_refused => first | k_is | k_exc | kit_is | rfl)
    (case a__law_right => first | k_is | k_exc | kit_is | rfl)
    (case l__law_right => first | k_is | k_exc | kit_is | rfl)
    (case o__law_right => first | k_is | k_exc | kit_is | rfl)
    (case k__law_right => first | k_is | k_exc | kit_is | rfl)
    (case a_law => first | k_is | k_exc | kit_is | rfl)
    (case l_law => first | k_is | k_exc | kit_is | rfl)
    (case o_law => first | k_is | k_exc | kit_is | rfl)
    (case k_law => first | k_is | k_exc | kit_is | rfl)
    (case a_NoLetter => first | k_is | k_exc | kit_is | rfl)
    (case a_NoSecret => first | k_is | k_exc | kit_is | rfl)
    (case a_NoState => first | k_is | k_exc | kit_is | rfl)
    (case a_NoStep => first | k_is | k_exc | kit_is | rfl)
    (case a_NoText => first | k_is | k_exc | kit_is | rfl)
    (case g_MOST_LOCKS => first | k_is | k_exc | kit_is | rfl)
    (case g_MOST_HOPS => first | k_is | k_exc | kit_is | rfl)
    (case g_MOST_FIGURES => first | k_is | k_exc | kit_is | rfl)
    (case n_all => first | k_is | k_exc | kit_is | rfl)
    (case n_any => first | k_is | k_exc | kit_is | rfl)
    (case n_bool => first | k_is | k_exc | kit_is | rfl)
    (case n_int => first | k_is | k_exc | kit_is | rfl)
    (case n_isinstance => first | k_is | k_exc | kit_is | rfl)
    (case n_len => first | k_is | k_exc | kit_is | rfl)
    (case n_list => first | k_is | k_exc | kit_is | rfl)
    (case n_max => first | k_is | k_exc | kit_is | rfl)
    (case n_range => first | k_is | k_exc | kit_is | rfl)
    (case n_str => first | k_is | k_exc | kit_is | rfl)
    (case n_tuple => first | k_is | k_exc | kit_is | rfl)
    (case x_NoLetter => first | k_is | k_exc | kit_is | rfl)
    (case k_NoLetter => first | k_is | k_exc | kit_is | rfl)
    (case b_NoLetter => first | k_is | k_exc | kit_is | rfl)
    (case t_NoLetter => first | k_is | k_exc | kit_is | rfl)
    (case x_NoSecret => first | k_is | k_exc | kit_is | rfl)
    (case k_NoSecret => first | k_is | k_exc | kit_is | rfl)
    (case b_NoSecret => first | k_is | k_exc | kit_is | rfl)
    (case t_NoSecret => first | k_is | k_exc | kit_is | rfl)
    (case x_NoState => first | k_is | k_exc | kit_is | rfl)
    (case k_NoState => first | k_is | k_exc | kit_is | rfl)
    (case b_NoState => first | k_is | k_exc | kit_is | rfl)
    (case t_NoState => first | k_is | k_exc | kit_is | rfl)
    (case x_NoStep => first | k_is | k_exc | kit_is | rfl)
    (case k_NoStep => first | k_is | k_exc | kit_is | rfl)
    (case b_NoStep => first | k_is | k_exc | kit_is | rfl)
    (case t_NoStep => first | k_is | k_exc | kit_is | rfl)
    (case x_NoText => first | k_is | k_exc | kit_is | rfl)
    (case k_NoText => first | k_is | k_exc | kit_is | rfl)
    (case b_NoText => first | k_is | k_exc | kit_is | rfl)
    (case t_NoText => first | k_is | k_exc | kit_is | rfl)
    (case exmT1 => first | k_is | k_exc | kit_is | rfl)
    (case exmT2 => first | k_is | k_exc | kit_is | rfl)
    (case exmT3 => first | k_is | k_exc | kit_is | rfl)
    (case exmT4 => first | k_is | k_exc | kit_is | rfl)
